/- One deed of MarksPlay: V. Conditions: marks, list and deed lie in memory. -/
import Derived.Test.YtlihgcpiokaehaaKindA
import Derived.Test.YtlihgcpiokaehaaKindB
import Derived.Deep.RegionHeld3
namespace Go.Proofs.Ytlihgcpiokaehaa
open Go Go.RowKit

set_option maxHeartbeats 16000000 in
set_option maxRecDepth 100000 in
theorem kind_over (v0 v1 v2 v6 v9 v10 v11 v12 v13 v14 v15 v16 v17 v18 v19 v20 v21 v22 v23 v24 v25 v26 v27 v28 v29 v30 v31 v32 v33 v34 v35 v36 v37 v38 v39 v40 v41 v42 v43 v44 v45 v46 v47 v48 v49 v50 v51 v52 v53 v54 v55 v56 v57 v58 v59 v60 v61 v63 v64 v65 v66 v67 v68 v69 v70 v71 v72 v73 v74 v75 v76 v77 v78 v79 v80 v81 v82 v83 v84 v85 v86 v87 v88 v89 v90 v91 v92 v93 v94 v95 v96 v97 v98 v99 v100 v101 v102 v103 v104 v105 v106 v107 v108 v109 v110 v111 v112 v113 v114 v115 v116 v117 v118 v119 v120 v121 v122 v123 v124 v125 v126 v127 v128 v129 v130 v131 v132 v133 v134 v135 v136 v137 v138 v139 v140 v141 v142 v143 v144 v145 v146 v147 v148 v149 v150 v151 v152 v153 v154 v155 v156 v157 v158 v159 v160 v161 v162 v163 v164 v165 v166 v167 v168 v169 v170 v171 v172 v173 v174 v175 v176 v177 v178 v179 v180 v181 v182 v183 v184 v185 v186 v187 v188 v189 v190 v191 v192 v193 v194 v195 v196 v197 v198 v199 v200 v201 v202 v203 v204 v205 v206 v207 v208 v209 v210 v211 v212 v213 v214 v215 v216 v217 v218 v219 v220 v221 v222 v223 v224 v225 v226 v227 v228 v229 v230 v231 v232 v233 v234 v235 v236 v237 v238 v239 v240 v241 v242 v243 v244 v245 v246 v247 v248 v249 v250 v251 v252 v253 v254 v255 v256 v257 v258 v259 v260 v261 v262 v263 v264 v265 v266 v267 v268 v269 v270 v271 v272 v273 v274 v275 v276 v277 v278 v279 v280 v281 v282 v283 v284 v285 v286 v287 v288 v289 v290 v291 v292 v293 v294 v295 v296 v297 v298 v299 v300 v301 v302 v303 v304 v305 v306 v307 v308 v309 v310 v311 v312 v313 v314 v315 v316 v317 v318 v319 v320 v321 v322 v323 v324 v325 v326 v327 v328 v329 v330 v331 v332 v333 v334 v335 v336 v337 v338 v339 v340 v341 v342 v343 v344 v345 v346 v347 v348 v349 v350 v351 v352 v353 v354 v355 v356 v357 v358 v359 v360 v361 v362 v363 v364 v365 v366 v367 v368 v369 v370 : Value) (J : Act → World → Prop) (Q : Exit → Act → World → Prop) (w W : World) (k lst lc xb en ec : Nat) (la ea : Option Addr) (rs : List Rg) (what dn xf xt ex ed : Int) (xl xr : Bool)
    (hL : LAt W la lc rs) (hM : MarksAt W w.heap.size w.heap.size rs lst) (hX : W.rowIs xb 45 9 (nd9 ⟨what, dn, ⟨xf, xt, xl, xr⟩, ⟨ex, ed, ea, en, ec⟩⟩)) (hB : Below w.heap.size w W) (hxw : w.heap.size < xb) (hen : en ≤ 300) (hk : k < 100) (hlst : lst ≤ k)
    (HK : Meets w k xb rs dn v0 v1 v6 v26 v27 v28 v29 v30 v31 v32 v33 v34 v35 v36 v37 v38 v39 v40 v370 J) (hw : what = 5) :
    Code.wp Try.prog blk2 (Exit.then J Q) ⟨#[v0, v1, v2, .pointer (some ⟨w.heap.size, 0, none⟩), .slice la rs.length lc, .int .i64 lst, v6, .pointer (some ⟨xb, 0, none⟩), .int .i64 (idz dn rs), v9, v10, v11, v12, v13, v14, v15, v16, v17, v18, v19, v20, v21, v22, v23, v24, v25, v26, v27, v28, v29, v30, v31, v32, v33, v34, v35, v36, v37, v38, v39, v40, v41, v42, v43, v44, v45, v46, v47, v48, v49, v50, v51, v52, v53, v54, v55, v56, v57, v58, v59, v60, v61, .int .i64 what, v63, v64, v65, v66, v67, v68, v69, v70, v71, v72, v73, v74, v75, v76, v77, v78, v79, v80, v81, v82, v83, v84, v85, v86, v87, v88, v89, v90, v91, v92, v93, v94, v95, v96, v97, v98, v99, v100, v101, v102, v103, v104, v105, v106, v107, v108, v109, v110, v111, v112, v113, v114, v115, v116, v117, v118, v119, v120, v121, v122, v123, v124, v125, v126, v127, v128, v129, v130, v131, v132, v133, v134, v135, v136, v137, v138, v139, v140, v141, v142, v143, v144, v145, v146, v147, v148, v149, v150, v151, v152, v153, v154, v155, v156, v157, v158, v159, v160, v161, v162, v163, v164, v165, v166, v167, v168, v169, v170, v171, v172, v173, v174, v175, v176, v177, v178, v179, v180, v181, v182, v183, v184, v185, v186, v187, v188, v189, v190, v191, v192, v193, v194, v195, v196, v197, v198, v199, v200, v201, v202, v203, v204, v205, v206, v207, v208, v209, v210, v211, v212, v213, v214, v215, v216, v217, v218, v219, v220, v221, v222, v223, v224, v225, v226, v227, v228, v229, v230, v231, v232, v233, v234, v235, v236, v237, v238, v239, v240, v241, v242, v243, v244, v245, v246, v247, v248, v249, v250, v251, v252, v253, v254, v255, v256, v257, v258, v259, v260, v261, v262, v263, v264, v265, v266, v267, v268, v269, v270, v271, v272, v273, v274, v275, v276, v277, v278, v279, v280, v281, v282, v283, v284, v285, v286, v287, v288, v289, v290, v291, v292, v293, v294, v295, v296, v297, v298, v299, v300, v301, v302, v303, v304, v305, v306, v307, v308, v309, v310, v311, v312, v313, v314, v315, v316, v317, v318, v319, v320, v321, v322, v323, v324, v325, v326, v327, v328, v329, v330, v331, v332, v333, v334, v335, v336, v337, v338, v339, v340, v341, v342, v343, v344, v345, v346, v347, v348, v349, v350, v351, v352, v353, v354, v355, v356, v357, v358, v359, v360, v361, v362, v363, v364, v365, v366, v367, v368, v369, v370], []⟩ W := by
  obtain ⟨d0, d1, d2, d3, d4, d5, d6, d7, d8⟩ := row9_cells hX
  simp only at d0 d1 d2 d3 d4 d5 d6 d7 d8
  have LL := Lib.hid hL
  have MM := Lib.hid hM
  have XX := Lib.hid hX
  have BB := Lib.hid hB
  have MT := Lib.hid HK
  have hxW : xb < W.heap.size := hX.lt
  have hmW : w.heap.size < W.heap.size := hM.lt
  have hs60 := hM.len
  have use4 := And.intro hxw (And.intro hen (And.intro hk hlst))
  clear use4
  clear hL hM hX hB HK
  conv => arg 2; whnf
  subst hw
  obtain ⟨i1, hi1, hy0, hy1, hy2⟩ := info_parts Try.info3
  have L0 := Lib.hid LL.out.row
  obtain ⟨n, hn⟩ : ∃ n, n = rs.length := ⟨_, rfl⟩
  have HN := Lib.hid hn
  rw [← hn] at hs60
  obtain ⟨p, hp⟩ : ∃ p : Int → Int → Bool, p = (fun f t => decide (f < xt ∧ xf < t)) := ⟨_, rfl⟩
  have HP := Lib.hid hp
  clear hp
  rw [← hn]
  clear hn
  go_wp2_with fail
  go_loopw [19, 20] (fun v i wr => ∃ q : Nat, q ≤ n ∧ i = .int .i64 q ∧ wr.ownsRow W.heap.size 3 1 v (ids p (rs.take q)).length (ints64 (ids p (rs.take q))) ∧ Below W.heap.size W wr) (fun _ i _ => n - (intOf i).toNat)
  case atStart => exact ⟨0, Nat.zero_le _, rfl, World.ownsRow_nil _ _ _ _, Below.refl _ _⟩
  case round =>
    obtain ⟨q, hq, rfl, hown, hbel⟩ := hrel
    have B := Lib.hid hbel
    by_cases hqn : q < n
    · obtain ⟨y, hy⟩ : ∃ y, rs[q]? = some y := ⟨rs[q]'(by have := HN.out; omega), by simp⟩
      rcases L0.out.2 with h0 | ⟨b, off, rfl, ⟨cur, fr, hh⟩, hc⟩
      · have := HN.out; omega
      have hb := lt_of_block hh
      obtain ⟨c0, c1, c2, c3, c4⟩ := rgCells hc q y hy
      obtain ⟨e0, e1, e2, e3, e4⟩ := cells5_at hbel hb c0 c1 c2 c3 c4
      have x0 := (hbel.cell (by exact hxW)).trans d0
      have x1 := (hbel.cell (by exact hxW)).trans d1
      have x2 := (hbel.cell (by exact hxW)).trans d2
      have x3 := (hbel.cell (by exact hxW)).trans d3
      have hqz : (q : Int) < (n : Int) := by omega
      have hq0 : (0 : Int) ≤ (q : Int) := by omega
      have hlen : (ids p (rs.take q)).length ≤ 60 := by
        have := ids_le p (rs.take q)
        have := List.length_take_le q rs
        omega
      obtain ⟨z, hz⟩ : ∃ z, z = (ids p (rs.take q)).length := ⟨_, rfl⟩
      have HZ := Lib.hid hz
      rw [← hz] at hown hlen
      have O' := Lib.hid hown
      have YY := Lib.hid hy
      have hwz := hbel.size
      obtain ⟨f, t, l, r, i⟩ := y
      simp only at c0 c1 c2 c3 c4 e0 e1 e2 e3 e4
      have hpe : p f t = decide (f < xt ∧ xf < t) := by rw [HP.out]
      clear c0 c1 c2 c3 c4 hc hh hy hz hown hbel d0 d1 d2 d3 d4 d5 d6 d7 d8
      by_cases hC : f < xt
      · by_cases hD : xf < t
        · have HPE := Lib.hid (show p f t = true by rw [hpe]; exact decide_eq_true ⟨hC, hD⟩)
          clear hpe
          by_cases hA : f ≤ dn
          · go_wp2_with fail
            go_quiet (fail)
            go_wp2_with fail
            go_quiet (fail)
            go_wp2_with (at_builtin; refine wpList_append_own _ rfl _ _ 52 rfl W.heap.size 3 i1 _ 1 8 Try.underlying52 hi1 hy0 hy1 hy2 rfl (by decide) _ _ _ rfl (World.ownsRow.alloc (show World.ownsRow _ W.heap.size 3 1 _ z (ints64 (ids p (rs.take q))) from O'.out) _) ⟨wr.heap.size, 0, none⟩ 1 1 [.int .i64 i] rfl rfl (new_one _ _) (by intro u hu; rw [List.mem_singleton.1 hu]; rfl) (by unfold maxLen; omega) (by omega) (by simp; omega) ?_)
            intro v3 w3 own3 gr3 _
            have O3 := Lib.hid own3
            have B3 := Lib.hid (show Below W.heap.size W w3 from below_app B.out gr3 hwz (fun k hk => (O'.out.lt k hk).1))
            clear own3 gr3
            go_wp2
            go_roundw
            case rel =>
              refine ⟨q + 1, by omega, by go_num, ?_, B3.out⟩
              rw [ids_yes p rs q _ YY.out HPE.out, List.length_append, ← HZ.out]
              rw [show ints64 (ids p (rs.take q) ++ [i]) = ints64 (ids p (rs.take q)) ++ [.int .i64 i] by simp [ints64]]
              exact O3.out
            case measure => simp [intOf]; omega
          · have hA' : decide (f ≤ dn) = false := decide_eq_false hA
            go_wp2_with fail
            go_quiet (fail)
            go_wp2_with fail
            go_quiet (fail)
            go_wp2_with (at_builtin; refine wpList_append_own _ rfl _ _ 52 rfl W.heap.size 3 i1 _ 1 8 Try.underlying52 hi1 hy0 hy1 hy2 rfl (by decide) _ _ _ rfl (World.ownsRow.alloc (show World.ownsRow _ W.heap.size 3 1 _ z (ints64 (ids p (rs.take q))) from O'.out) _) ⟨wr.heap.size, 0, none⟩ 1 1 [.int .i64 i] rfl rfl (new_one _ _) (by intro u hu; rw [List.mem_singleton.1 hu]; rfl) (by unfold maxLen; omega) (by omega) (by simp; omega) ?_)
            intro v3 w3 own3 gr3 _
            have O3 := Lib.hid own3
            have B3 := Lib.hid (show Below W.heap.size W w3 from below_app B.out gr3 hwz (fun k hk => (O'.out.lt k hk).1))
            clear own3 gr3
            go_wp2
            go_roundw
            case rel =>
              refine ⟨q + 1, by omega, by go_num, ?_, B3.out⟩
              rw [ids_yes p rs q _ YY.out HPE.out, List.length_append, ← HZ.out]
              rw [show ints64 (ids p (rs.take q) ++ [i]) = ints64 (ids p (rs.take q)) ++ [.int .i64 i] by simp [ints64]]
              exact O3.out
            case measure => simp [intOf]; omega
        · have hD' : decide (xf < t) = false := decide_eq_false hD
          have HPE := Lib.hid (show p f t = false by rw [hpe]; exact decide_eq_false fun h => hD h.2)
          clear hpe
          by_cases hA : f ≤ dn
          · go_wp2_with fail
            go_quiet (fail)
            go_wp2_with fail
            go_quiet (fail)
            go_wp2
            go_roundw
            case rel =>
              refine ⟨q + 1, by omega, by go_num, ?_, B.out.trans ⟨rfl, rfl, rfl, Nat.le_refl _, fun _ _ => rfl⟩⟩
              rw [ids_no p rs q _ YY.out HPE.out, ← HZ.out]
              exact O'.out
            case measure => simp [intOf]; omega
          · have hA' : decide (f ≤ dn) = false := decide_eq_false hA
            go_wp2_with fail
            go_quiet (fail)
            go_wp2_with fail
            go_quiet (fail)
            go_wp2
            go_roundw
            case rel =>
              refine ⟨q + 1, by omega, by go_num, ?_, B.out.trans ⟨rfl, rfl, rfl, Nat.le_refl _, fun _ _ => rfl⟩⟩
              rw [ids_no p rs q _ YY.out HPE.out, ← HZ.out]
              exact O'.out
            case measure => simp [intOf]; omega
      · have hC' : decide (f < xt) = false := decide_eq_false hC
        have HPE := Lib.hid (show p f t = false by rw [hpe]; exact decide_eq_false fun h => hC h.1)
        clear hpe
        by_cases hA : f ≤ dn
        · go_wp2_with fail
          go_quiet (fail)
          go_wp2_with fail
          go_quiet (fail)
          go_wp2
          go_roundw
          case rel =>
            refine ⟨q + 1, by omega, by go_num, ?_, B.out.trans ⟨rfl, rfl, rfl, Nat.le_refl _, fun _ _ => rfl⟩⟩
            rw [ids_no p rs q _ YY.out HPE.out, ← HZ.out]
            exact O'.out
          case measure => simp [intOf]; omega
        · have hA' : decide (f ≤ dn) = false := decide_eq_false hA
          go_wp2_with fail
          go_quiet (fail)
          go_wp2_with fail
          go_quiet (fail)
          go_wp2
          go_roundw
          case rel =>
            refine ⟨q + 1, by omega, by go_num, ?_, B.out.trans ⟨rfl, rfl, rfl, Nat.le_refl _, fun _ _ => rfl⟩⟩
            rw [ids_no p rs q _ YY.out HPE.out, ← HZ.out]
            exact O'.out
          case measure => simp [intOf]; omega
    · have e : rs.take q = rs := List.take_of_length_le (by have := HN.out; omega)
      rw [e] at hown
      have O2 := Lib.hid hown
      have hwz := hbel.size
      have M2 := Lib.hid (MM.out.below hbel)
      have hqz : ¬ (q : Int) < (n : Int) := by omega
      have x0 := (hbel.cell (by exact hxW)).trans d0
      have x1 := (hbel.cell (by exact hxW)).trans d1
      have x2 := (hbel.cell (by exact hxW)).trans d2
      have x3 := (hbel.cell (by exact hxW)).trans d3
      have ST := stab w.heap.size w.heap.size lst rs dn _ M2.out
      skip
      unfold Gave at ST
      have SS := Lib.hid ST
      clear e hown hbel ST d0 d1 d2 d3 d4 d5 d6 d7 d8
      go_wp2_with fail
      (with_reducible refine SS.out.mono ?_)
      rintro e w3 ⟨v3, rfl, o3, b3⟩
      obtain ⟨a3, c3, rfl⟩ := own_form2 o3
      have y0 := (b3.cell (by have := hwz; exact Nat.lt_of_lt_of_le hxW this)).trans x0
      have y2 := (b3.cell (by have := hwz; exact Nat.lt_of_lt_of_le hxW this)).trans x2
      have y3 := (b3.cell (by have := hwz; exact Nat.lt_of_lt_of_le hxW this)).trans x3
      have OV := over w.heap.size w.heap.size lst rs xf xt w3 (M2.out.below b3)
      unfold Gave at OV
      have OO := Lib.hid OV
      have O4 := Lib.hid (own_below O2.out b3)
      have B3 := Lib.hid (B.out.trans (b3.mono hwz))
      have hs3 : W.heap.size ≤ w3.heap.size := Nat.le_trans hwz b3.size
      clear o3 b3 OV
      go_wp2_with fail
      (with_reducible refine OO.out.mono ?_)
      rintro e w5 ⟨v5, rfl, o5, b5⟩
      have e1 : ids (fun f t => decide (f < xt ∧ xf < t)) rs = ids p rs := by rw [HP.out]
      rw [e1] at o5
      obtain ⟨a5, c5, rfl, i5⟩ := own_ints o5
      obtain ⟨av, cv, rfl, i2⟩ := own_ints (own_below O4.out b5)
      have hcount : (ids p rs).length ≤ 60 := by have := ids_le p rs; have := HN.out; omega
      have SM := Lib.hid (same a5 av _ c5 cv (ids p rs) w5 (by omega) i5 i2)
      have B5 := Lib.hid (B3.out.trans (b5.mono hs3))
      have hs5 : W.heap.size ≤ w5.heap.size := Nat.le_trans hs3 b5.size
      clear o5 b5 i5 i2 e1
      go_wp2_with fail
      (with_reducible refine SM.out.mono ?_)
      rintro e w4 ⟨rfl, b4⟩
      have S := Lib.hid (stand_below (k' := k + 1) LL.out MM.out BB.out (B5.out.trans (b4.mono hs5)) (by omega))
      clear b4
      go_wp2
      rw [HN.out]
      have h := MT.out
      unfold Meets at h
      apply h
      exact S.out

end Go.Proofs.Ytlihgcpiokaehaa
