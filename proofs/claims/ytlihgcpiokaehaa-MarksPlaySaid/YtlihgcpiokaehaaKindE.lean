/- One deed of MarksPlay: E. Conditions: marks, list and deed lie in memory. -/
import Derived.Test.YtlihgcpiokaehaaKindA
import Derived.Test.YtlihgcpiokaehaaKindB
import Derived.Test.YtlihgcpiokaehaaMove
import Derived.Deep.RegionHeld3
import Derived.Deep.RegionWith
namespace Go.Proofs.Ytlihgcpiokaehaa
open Go Go.RowKit

theorem fits_false {x d : Int} {n : Nat} {rs : List Rg} {q : Nat} (h : fits x d n (rs.take q) = false) : fits x d n rs = false := by
  unfold fits at h ⊢
  rw [List.all_eq_false] at h ⊢
  obtain ⟨y, hy, h2⟩ := h
  exact ⟨y, List.mem_of_mem_take hy, h2⟩
theorem edit_next {x d : Int} {n : Nat} {rs : List Rg} {q : Nat} {y : Rg} (h : fits x d n (rs.take q) = true) (hy : rs[q]? = some y) :
    fits x d n (rs.take (q + 1)) = decide (mt y.f y.t x d n y.l y.r ≤ 2147483648) ∧ flat ((rs.take (q + 1)).map (mvR x d n)) = flat ((rs.take q).map (mvR x d n)) ++ (mvR x d n y).cells := by
  unfold fits at h ⊢
  rw [List.take_add_one, hy, List.all_append, h, List.map_append, flat_append]
  simp [flat]

set_option maxHeartbeats 16000000 in
set_option maxRecDepth 100000 in
theorem kind_edit (v0 v1 v2 v6 v9 v10 v11 v12 v13 v14 v15 v16 v17 v18 v19 v20 v21 v22 v23 v24 v25 v26 v27 v28 v29 v30 v31 v32 v33 v34 v35 v36 v37 v38 v39 v40 v41 v42 v43 v44 v45 v46 v47 v48 v49 v50 v51 v52 v53 v54 v55 v56 v57 v58 v59 v60 v61 v63 v64 v65 v66 v67 v68 v69 v70 v71 v72 v73 v74 v75 v76 v77 v78 v79 v80 v81 v82 v83 v84 v85 v86 v87 v88 v89 v90 v91 v92 v93 v94 v95 v96 v97 v98 v99 v100 v101 v102 v103 v104 v105 v106 v107 v108 v109 v110 v111 v112 v113 v114 v115 v116 v117 v118 v119 v120 v121 v122 v123 v124 v125 v126 v127 v128 v129 v130 v131 v132 v133 v134 v135 v136 v137 v138 v139 v140 v141 v142 v143 v144 v145 v146 v147 v148 v149 v150 v151 v152 v153 v154 v155 v156 v157 v158 v159 v160 v161 v162 v163 v164 v165 v166 v167 v168 v169 v170 v171 v172 v173 v174 v175 v176 v177 v178 v179 v180 v181 v182 v183 v184 v185 v186 v187 v188 v189 v190 v191 v192 v193 v194 v195 v196 v197 v198 v199 v200 v201 v202 v203 v204 v205 v206 v207 v208 v209 v210 v211 v212 v213 v214 v215 v216 v217 v218 v219 v220 v221 v222 v223 v224 v225 v226 v227 v228 v229 v230 v231 v232 v233 v234 v235 v236 v237 v238 v239 v240 v241 v242 v243 v244 v245 v246 v247 v248 v249 v250 v251 v252 v253 v254 v255 v256 v257 v258 v259 v260 v261 v262 v263 v264 v265 v266 v267 v268 v269 v270 v271 v272 v273 v274 v275 v276 v277 v278 v279 v280 v281 v282 v283 v284 v285 v286 v287 v288 v289 v290 v291 v292 v293 v294 v295 v296 v297 v298 v299 v300 v301 v302 v303 v304 v305 v306 v307 v308 v309 v310 v311 v312 v313 v314 v315 v316 v317 v318 v319 v320 v321 v322 v323 v324 v325 v326 v327 v328 v329 v330 v331 v332 v333 v334 v335 v336 v337 v338 v339 v340 v341 v342 v343 v344 v345 v346 v347 v348 v349 v350 v351 v352 v353 v354 v355 v356 v357 v358 v359 v360 v361 v362 v363 v364 v365 v366 v367 v368 v369 v370 : Value) (J : Act → World → Prop) (Q : Exit → Act → World → Prop) (w W : World) (k lst lc xb en ec : Nat) (la ea : Option Addr) (rs : List Rg) (what dn xf xt ex ed : Int) (xl xr : Bool)
    (hL : LAt W la lc rs) (hM : MarksAt W w.heap.size w.heap.size rs lst) (hX : W.rowIs xb 45 9 (nd9 ⟨what, dn, ⟨xf, xt, xl, xr⟩, ⟨ex, ed, ea, en, ec⟩⟩)) (hB : Below w.heap.size w W) (hxw : w.heap.size < xb) (hen : en ≤ 300) (hk : k < 100) (hlst : lst ≤ k)
    (HK : Meets w k xb rs dn v0 v1 v6 v26 v27 v28 v29 v30 v31 v32 v33 v34 v35 v36 v37 v38 v39 v40 v370 J) (hw : what = 2) :
    Code.wp Try.prog blk2 (Exit.then J Q) ⟨#[v0, v1, v2, .pointer (some ⟨w.heap.size, 0, none⟩), .slice la rs.length lc, .int .i64 lst, v6, .pointer (some ⟨xb, 0, none⟩), .int .i64 (idz dn rs), v9, v10, v11, v12, v13, v14, v15, v16, v17, v18, v19, v20, v21, v22, v23, v24, v25, v26, v27, v28, v29, v30, v31, v32, v33, v34, v35, v36, v37, v38, v39, v40, v41, v42, v43, v44, v45, v46, v47, v48, v49, v50, v51, v52, v53, v54, v55, v56, v57, v58, v59, v60, v61, .int .i64 what, v63, v64, v65, v66, v67, v68, v69, v70, v71, v72, v73, v74, v75, v76, v77, v78, v79, v80, v81, v82, v83, v84, v85, v86, v87, v88, v89, v90, v91, v92, v93, v94, v95, v96, v97, v98, v99, v100, v101, v102, v103, v104, v105, v106, v107, v108, v109, v110, v111, v112, v113, v114, v115, v116, v117, v118, v119, v120, v121, v122, v123, v124, v125, v126, v127, v128, v129, v130, v131, v132, v133, v134, v135, v136, v137, v138, v139, v140, v141, v142, v143, v144, v145, v146, v147, v148, v149, v150, v151, v152, v153, v154, v155, v156, v157, v158, v159, v160, v161, v162, v163, v164, v165, v166, v167, v168, v169, v170, v171, v172, v173, v174, v175, v176, v177, v178, v179, v180, v181, v182, v183, v184, v185, v186, v187, v188, v189, v190, v191, v192, v193, v194, v195, v196, v197, v198, v199, v200, v201, v202, v203, v204, v205, v206, v207, v208, v209, v210, v211, v212, v213, v214, v215, v216, v217, v218, v219, v220, v221, v222, v223, v224, v225, v226, v227, v228, v229, v230, v231, v232, v233, v234, v235, v236, v237, v238, v239, v240, v241, v242, v243, v244, v245, v246, v247, v248, v249, v250, v251, v252, v253, v254, v255, v256, v257, v258, v259, v260, v261, v262, v263, v264, v265, v266, v267, v268, v269, v270, v271, v272, v273, v274, v275, v276, v277, v278, v279, v280, v281, v282, v283, v284, v285, v286, v287, v288, v289, v290, v291, v292, v293, v294, v295, v296, v297, v298, v299, v300, v301, v302, v303, v304, v305, v306, v307, v308, v309, v310, v311, v312, v313, v314, v315, v316, v317, v318, v319, v320, v321, v322, v323, v324, v325, v326, v327, v328, v329, v330, v331, v332, v333, v334, v335, v336, v337, v338, v339, v340, v341, v342, v343, v344, v345, v346, v347, v348, v349, v350, v351, v352, v353, v354, v355, v356, v357, v358, v359, v360, v361, v362, v363, v364, v365, v366, v367, v368, v369, v370], []⟩ W := by
  obtain ⟨d0, d1, d2, d3, d4, d5, d6, d7, d8⟩ := row9_cells hX
  simp only at d0 d1 d2 d3 d4 d5 d6 d7 d8
  have LL := Lib.hid hL
  have MM := Lib.hid hM
  have XX := Lib.hid hX
  have BB := Lib.hid hB
  have MT := Lib.hid HK
  have hxW : xb < W.heap.size := hX.lt
  have hmW : w.heap.size < W.heap.size := hM.lt
  have hs60 := hM.len
  have use4 := And.intro hxw (And.intro hen (And.intro hk hlst))
  clear use4
  clear hL hM hX hB HK
  conv => arg 2; whnf
  subst hw
  obtain ⟨n, hn⟩ : ∃ n, n = rs.length := ⟨_, rfl⟩
  have HN := Lib.hid hn
  cases hx : fair ex ed with
  | false =>
    have G := Lib.hid (edit_bad w.heap.size w.heap.size lst rs ex ed ea en ec W MM.out (by omega) hx)
    have FA := Lib.hid (fun w => (show Calls Try.prog 10 _ w (fun e w' => e = .returned (.bool false) ∧ _) by have h := refFair ex ed ea en ec w; rw [hx] at h; exact h))
    clear hx
    go_wp2_with fail
    (with_reducible refine G.out.mono ?_)
    rintro e w2 ⟨rfl, m2, k2, b2⟩
    obtain ⟨_, _, _, _, _, _, x6, x7, x8⟩ := row9_cells (k2.rowIs XX.out (by decide) (by omega))
    simp only at x6 x7 x8
    have S := Lib.hid (show Stand w (k + 1) (.slice la rs.length lc) (.int .i64 lst) (w2.alloc (Obj.cells #[.int .i64 ex, .int .i64 ed, .slice ea en ec] 28)) from by
      have hb : Below w2.heap.size w2 (w2.alloc (Obj.cells #[.int .i64 ex, .int .i64 ed, .slice ea en ec] 28)) := (Below.refl _ _).alloc (Nat.le_refl _) _
      exact stand_below (LL.out.kept k2 MM.out) m2 (BB.out.trans b2) hb (by omega))
    clear m2 k2 b2 d0 d1 d2 d3 d4 d5 d6 d7 d8
    go_wp2_with fail
    (with_reducible refine (FA.out _).mono ?_)
    rintro e w3 ⟨rfl, rfl⟩
    go_wp2_with fail
    go_loopw [13, 14, 15] (fun f nx i wr => f = .bool false ∧ nx = .slice none 0 0 ∧ i = .int .i64 0 ∧ wr = (w2.alloc (Obj.cells #[.int .i64 ex, .int .i64 ed, .slice ea en ec] 28))) (fun _ _ _ _ => 0)
    case atStart => exact ⟨rfl, rfl, rfl, rfl⟩
    case round =>
      obtain ⟨rfl, rfl, rfl, rfl⟩ := hrel
      go_wp2
      all_goals
        have h := MT.out
        unfold Meets at h
        apply h
        exact S.out
  | true =>
    have G := Lib.hid (edit_good w.heap.size w.heap.size lst rs ex ed ea en ec W MM.out (Nat.le_refl _) hx (by omega))
    have HX := Lib.hid hx
    have FA := Lib.hid (fun w => (show Calls Try.prog 10 _ w (fun e w' => e = .returned (.bool true) ∧ _) by have h := refFair ex ed ea en ec w; rw [hx] at h; exact h))
    obtain ⟨i0, hi0, hz0, hz1, hz2⟩ := info_parts Try.info35
    rw [← hn] at hs60
    clear hx
    go_wp2_with fail
    (with_reducible refine G.out.mono ?_)
    rintro e w2 ⟨rfl, m2, k2, b2⟩
    have X2 := Lib.hid (k2.rowIs XX.out (by decide) (by omega))
    obtain ⟨_, _, _, _, _, _, x6, x7, x8⟩ := row9_cells X2.out
    simp only at x6 x7 x8
    have L2 := Lib.hid (LL.out.kept k2 MM.out)
    have M2 := Lib.hid m2
    have B2 := Lib.hid (BB.out.trans b2)
    clear m2 k2 b2 d0 d1 d2 d3 d4 d5 d6 d7 d8
    go_wp2_with fail
    (with_reducible refine (FA.out _).mono ?_)
    rintro e w3 ⟨rfl, hw⟩
    have b3 : Below w2.heap.size w2 w3 := by subst hw; exact (Below.refl _ _).alloc (Nat.le_refl _) _
    have X3 := X2.out.of_block (b3.block _ X2.out.lt)
    obtain ⟨_, _, _, _, _, _, y6, y7, y8⟩ := row9_cells X3
    simp only at y6 y7 y8
    have L3 := Lib.hid (L2.out.below b3)
    have M3 := Lib.hid (M2.out.below b3)
    have B3 := Lib.hid (B2.out.trans (b3.mono B2.out.size))
    have hx3 : xb < w3.heap.size := X3.lt
    have Y6 := Lib.hid y6
    have Y7 := Lib.hid y7
    have Y8 := Lib.hid y8
    clear hw b3 X3 y6 y7 y8 x6 x7 x8
    rw [← hn]
    go_wp2_with fail
    go_loopw [13, 14, 15] (fun f nx i wr => ∃ q : Nat, q ≤ n ∧ i = .int .i64 q ∧ f = .bool (fits ex ed en (rs.take q)) ∧ wr.ownsRow w3.heap.size 35 5 nx q (flat ((rs.take q).map (mvR ex ed en))) ∧ Below w3.heap.size w3 wr) (fun _ _ i _ => n - (intOf i).toNat)
    case atStart => exact ⟨0, Nat.zero_le _, rfl, rfl, World.ownsRow_nil _ _ _ _, Below.refl _ _⟩
    case round =>
      obtain ⟨q, hq, rfl, rfl, hown, hbel⟩ := hrel
      have O := Lib.hid hown
      have B := Lib.hid hbel
      cases hf : fits ex ed en (rs.take q) with
      | false =>
        have FF := fits_false hf
        have S := Lib.hid (show Stand w (k + 1) (.slice la rs.length lc) (.int .i64 lst) _ from by
          have e1 : editR ex ed en rs = rs := by unfold editR; rw [FF]; rfl
          exact stand_below (k' := k + 1) L3.out (by have h := M3.out; rw [e1] at h; exact h) B3.out hbel (by omega))
        have e2 : editV ex ed en rs = 1 := by unfold editV; rw [FF]; rfl
        rw [e2]
        by_cases hqn : q < n
        · have hqz : (q : Int) < (n : Int) := by omega
          clear hbel hown FF e2 hf
          go_wp2
          have h := MT.out
          unfold Meets at h
          apply h
          exact S.out
        · have hqz : ¬ (q : Int) < (n : Int) := by omega
          clear hbel hown FF e2 hf
          go_wp2
          have h := MT.out
          unfold Meets at h
          apply h
          exact S.out
      | true =>
        have FT := Lib.hid hf
        by_cases hqn : q < n
        · obtain ⟨y, hy⟩ : ∃ y, rs[q]? = some y := ⟨rs[q]'(by omega), by simp⟩
          rcases L3.out.row.2 with h0 | ⟨b, off, rfl, ⟨cur, fr, hh⟩, hc⟩
          · omega
          have hb := lt_of_block hh
          have gy := MM.out.good y (List.mem_of_getElem? hy)
          obtain ⟨c0, c1, c2, c3, c4⟩ := rgCells hc q y hy
          obtain ⟨e0, e1, e2, e3, e4⟩ := cells5_at hbel hb c0 c1 c2 c3 c4
          have z6 := (hbel.cell (by exact hx3)).trans Y6.out
          have z7 := (hbel.cell (by exact hx3)).trans Y7.out
          have z8 := (hbel.cell (by exact hx3)).trans Y8.out
          have hqz : (q : Int) < (n : Int) := by omega
          have hq0 : (0 : Int) ≤ (q : Int) := by omega
          have YY := Lib.hid hy
          have hwz := hbel.size
          have RM := Lib.hid (fun V' => refMove y.f y.t ex ed y.l y.r y.i ea en ec V' ⟨gy.1, gy.2.1, gy.2.2.1⟩ (of_decide_eq_true HX.out) (by omega))
          have MY := Lib.hid (fun V' => refMay (mf y.f ex ed en y.l) (mt y.f y.t ex ed en y.l y.r) y.l y.r y.i V')
          have hmay : may (mf y.f ex ed en y.l) (mt y.f y.t ex ed en y.l y.r) = decide (mt y.f y.t ex ed en y.l y.r ≤ 2147483648) := by
            have h1 := (pl_bounds (h := !y.l) (n := en) (p := y.f) (x := ex) (d := ed) ⟨gy.1, by have := gy.2.1; have := gy.2.2.1; omega⟩ (of_decide_eq_true HX.out)).1
            have h2 := mf_le (f := y.f) (t := y.t) (x := ex) (d := ed) (n := en) (l := y.l) (r := y.r)
            have h3 : 0 ≤ mf y.f ex ed en y.l := h1
            unfold may
            rw [Bool.eq_iff_iff]
            simp only [decide_eq_true_eq]
            omega
          have hbw : b < wr.heap.size := by omega
          have hxw3 : xb < wr.heap.size := by omega
          have ST := Lib.hid (edit_next FT.out hy)
          obtain ⟨f, t, l, r, i⟩ := y
          simp only at c0 c1 c2 c3 c4 e0 e1 e2 e3 e4 RM ST MY hmay
          rw [hmay] at MY
          have SE := Lib.hid ST.out.1.symm
          have SF := Lib.hid ST.out.2
          simp only [mvR, Rg.cells] at SF
          generalize mf f ex ed en l = F at *
          generalize mt f t ex ed en l r = T at *
          generalize hfv : decide (T ≤ 2147483648) = fv at *
          clear ST hmay hfv
          clear c0 c1 c2 c3 c4 hc hh hy hown hbel hf gy
          go_wp2_with fail
          go_region_held3 (fun W' => W'.cell? ⟨b, off + q * 5, none⟩ = some (.int .i64 f) ∧ W'.cell? ⟨b, off + q * 5 + 1, none⟩ = some (.int .i64 t) ∧ W'.cell? ⟨b, off + q * 5 + 2, none⟩ = some (.bool l) ∧ W'.cell? ⟨b, off + q * 5 + 3, none⟩ = some (.bool r) ∧ W'.cell? ⟨b, off + q * 5 + 4, none⟩ = some (.int .i64 i) ∧ W'.cell? ⟨xb, 6, none⟩ = some (.int .i64 ex) ∧ W'.cell? ⟨xb, 7, none⟩ = some (.int .i64 ed) ∧ W'.cell? ⟨xb, 8, none⟩ = some (.slice ea en ec)) (refine ⟨?_, ?_, ?_, ?_, ?_, ?_, ?_, ?_⟩ <;> (repeat (first | exact e0 | exact e1 | exact e2 | exact e3 | exact e4 | exact z6 | exact z7 | exact z8 | refine Lib.cell?_alloc_some _ ?_)))
            (first | (go_at_call 11; (with_reducible refine (RM.out _).mono ?_); rintro e w4 ⟨rfl, o1, o2, o3, o4, o5, rfl⟩))
          all_goals
            go_wp2_with fail
            (with_reducible refine (MY.out _).mono ?_)
            rintro e w5 ⟨rfl, hw5⟩
            have B5 := Lib.hid (show Below wr.heap.size wr w5 by subst hw5; (repeat' (first | exact Below.refl _ _ | refine Below.drew ?_ | refine Below.alloc ?_ (by simp <;> omega) _)))
            (first
              | (have qq : w5.cell? ⟨wr.heap.size, 0, none⟩ = some (.int .i64 F) ∧ w5.cell? ⟨wr.heap.size, 1, none⟩ = some (.int .i64 T) ∧ w5.cell? ⟨wr.heap.size, 2, none⟩ = some (.bool l) ∧ w5.cell? ⟨wr.heap.size, 3, none⟩ = some (.bool r) ∧ w5.cell? ⟨wr.heap.size, 4, none⟩ = some (.int .i64 i) := by subst hw5; refine ⟨?_, ?_, ?_, ?_, ?_⟩ <;> go_simp)
              | (have qq : w5.cell? ⟨wr.heap.size + 1 + 1 + 1 + 1 + 1, 0, none⟩ = some (.int .i64 F) ∧ w5.cell? ⟨wr.heap.size + 1 + 1 + 1 + 1 + 1, 1, none⟩ = some (.int .i64 T) ∧ w5.cell? ⟨wr.heap.size + 1 + 1 + 1 + 1 + 1, 2, none⟩ = some (.bool l) ∧ w5.cell? ⟨wr.heap.size + 1 + 1 + 1 + 1 + 1, 3, none⟩ = some (.bool r) ∧ w5.cell? ⟨wr.heap.size + 1 + 1 + 1 + 1 + 1, 4, none⟩ = some (.int .i64 i) := by subst hw5; refine ⟨?_, ?_, ?_, ?_, ?_⟩ <;> go_simp))
            obtain ⟨q0, q1, q2, q3, q4⟩ := qq
            have O5 := Lib.hid (own_below O.out B5.out)
            have B6 := Lib.hid (B.out.trans (B5.out.mono hwz))
            have hs5 : w3.heap.size ≤ w5.heap.size := Nat.le_trans hwz B5.out.size
            clear hw5
            go_wp2_with (at_builtin; refine wpList_append_own _ rfl _ _ 43 rfl w3.heap.size 35 i0 _ 5 32 Try.underlying43 hi0 hz0 hz1 hz2 rfl (by decide) _ _ _ rfl (O5.out.alloc _) ⟨w5.heap.size, 0, none⟩ 1 1 [.int .i64 F, .int .i64 T, .bool l, .bool r, .int .i64 i] rfl rfl (new_cells w5 _ 35) (cells_one1 ⟨F, T, l, r, i⟩) (by unfold maxLen; omega) (by omega) (by simp; omega) ?_)
            intro v6 w6 own6 gr6 _
            have O6 := Lib.hid own6
            have B7 := Lib.hid (show Below w3.heap.size w3 w6 from (B6.out.alloc hs5 _).grown gr6 (by simp; omega) (fun k hk => (O5.out.lt k hk).1))
            clear own6 gr6
            go_wp2
            go_roundw
            case rel =>
              refine ⟨q + 1, by omega, by go_num, by rw [SE.out], ?_, B7.out⟩
              rw [SF.out]
              first
                | exact O6.out
                | (have h := O6.out; simp only [List.map_take] at h ⊢; exact h)
            case measure => simp [intOf]; omega
        · have hqz : ¬ (q : Int) < (n : Int) := by omega
          have e : rs.take q = rs := List.take_of_length_le (by omega)
          rw [e] at hf hown
          have e1 : editR ex ed en rs = rs.map (mvR ex ed en) := by unfold editR; rw [hf]; rfl
          have e2 : editV ex ed en rs = 0 := by unfold editV; rw [hf]; rfl
          obtain ⟨lb, lcb, hv, hlb⟩ := own_lat hown
          have S := Lib.hid (show Stand w (k + 1) _ (.int .i64 lst) _ from ⟨lst, lb, lcb, _, rfl, by omega, hv, hlb, by have h := M3.out.below hbel; rw [e1] at h; exact h, B3.out.trans (hbel.mono B3.out.size)⟩)
          rw [e2]
          clear hown hbel e e1 e2 hlb hf hv
          go_wp2
          have h := MT.out
          unfold Meets at h
          apply h
          exact S.out

end Go.Proofs.Ytlihgcpiokaehaa
