/- One deed of MarksPlay: C. Conditions: marks, list and deed lie in memory. -/
import Derived.Test.YtlihgcpiokaehaaKindA
import Derived.Test.YtlihgcpiokaehaaKindB
import Derived.Deep.RegionHeld3
import Derived.Deep.RegionLaw
import Derived.Deep.CutRange
import Derived.Test.YtlihgcpiokaehaaMove
namespace Go.Proofs.Ytlihgcpiokaehaa
open Go Go.RowKit

set_option maxHeartbeats 16000000 in
set_option maxRecDepth 100000 in
theorem kind_add (v0 v1 v2 v6 v9 v10 v11 v12 v13 v14 v15 v16 v17 v18 v19 v20 v21 v22 v23 v24 v25 v26 v27 v28 v29 v30 v31 v32 v33 v34 v35 v36 v37 v38 v39 v40 v41 v42 v43 v44 v45 v46 v47 v48 v49 v50 v51 v52 v53 v54 v55 v56 v57 v58 v59 v60 v61 v63 v64 v65 v66 v67 v68 v69 v70 v71 v72 v73 v74 v75 v76 v77 v78 v79 v80 v81 v82 v83 v84 v85 v86 v87 v88 v89 v90 v91 v92 v93 v94 v95 v96 v97 v98 v99 v100 v101 v102 v103 v104 v105 v106 v107 v108 v109 v110 v111 v112 v113 v114 v115 v116 v117 v118 v119 v120 v121 v122 v123 v124 v125 v126 v127 v128 v129 v130 v131 v132 v133 v134 v135 v136 v137 v138 v139 v140 v141 v142 v143 v144 v145 v146 v147 v148 v149 v150 v151 v152 v153 v154 v155 v156 v157 v158 v159 v160 v161 v162 v163 v164 v165 v166 v167 v168 v169 v170 v171 v172 v173 v174 v175 v176 v177 v178 v179 v180 v181 v182 v183 v184 v185 v186 v187 v188 v189 v190 v191 v192 v193 v194 v195 v196 v197 v198 v199 v200 v201 v202 v203 v204 v205 v206 v207 v208 v209 v210 v211 v212 v213 v214 v215 v216 v217 v218 v219 v220 v221 v222 v223 v224 v225 v226 v227 v228 v229 v230 v231 v232 v233 v234 v235 v236 v237 v238 v239 v240 v241 v242 v243 v244 v245 v246 v247 v248 v249 v250 v251 v252 v253 v254 v255 v256 v257 v258 v259 v260 v261 v262 v263 v264 v265 v266 v267 v268 v269 v270 v271 v272 v273 v274 v275 v276 v277 v278 v279 v280 v281 v282 v283 v284 v285 v286 v287 v288 v289 v290 v291 v292 v293 v294 v295 v296 v297 v298 v299 v300 v301 v302 v303 v304 v305 v306 v307 v308 v309 v310 v311 v312 v313 v314 v315 v316 v317 v318 v319 v320 v321 v322 v323 v324 v325 v326 v327 v328 v329 v330 v331 v332 v333 v334 v335 v336 v337 v338 v339 v340 v341 v342 v343 v344 v345 v346 v347 v348 v349 v350 v351 v352 v353 v354 v355 v356 v357 v358 v359 v360 v361 v362 v363 v364 v365 v366 v367 v368 v369 v370 : Value) (J : Act → World → Prop) (Q : Exit → Act → World → Prop) (w W : World) (k lst lc xb en ec : Nat) (la ea : Option Addr) (rs : List Rg) (what dn xf xt ex ed : Int) (xl xr : Bool)
    (hL : LAt W la lc rs) (hM : MarksAt W w.heap.size w.heap.size rs lst) (hX : W.rowIs xb 45 9 (nd9 ⟨what, dn, ⟨xf, xt, xl, xr⟩, ⟨ex, ed, ea, en, ec⟩⟩)) (hB : Below w.heap.size w W) (hxw : w.heap.size < xb) (hen : en ≤ 300) (hk : k < 100) (hlst : lst ≤ k)
    (HK : Meets w k xb rs dn v0 v1 v6 v26 v27 v28 v29 v30 v31 v32 v33 v34 v35 v36 v37 v38 v39 v40 v370 J) (hw : what = 0) :
    Code.wp Try.prog blk2 (Exit.then J Q) ⟨#[v0, v1, v2, .pointer (some ⟨w.heap.size, 0, none⟩), .slice la rs.length lc, .int .i64 lst, v6, .pointer (some ⟨xb, 0, none⟩), .int .i64 (idz dn rs), v9, v10, v11, v12, v13, v14, v15, v16, v17, v18, v19, v20, v21, v22, v23, v24, v25, v26, v27, v28, v29, v30, v31, v32, v33, v34, v35, v36, v37, v38, v39, v40, v41, v42, v43, v44, v45, v46, v47, v48, v49, v50, v51, v52, v53, v54, v55, v56, v57, v58, v59, v60, v61, .int .i64 what, v63, v64, v65, v66, v67, v68, v69, v70, v71, v72, v73, v74, v75, v76, v77, v78, v79, v80, v81, v82, v83, v84, v85, v86, v87, v88, v89, v90, v91, v92, v93, v94, v95, v96, v97, v98, v99, v100, v101, v102, v103, v104, v105, v106, v107, v108, v109, v110, v111, v112, v113, v114, v115, v116, v117, v118, v119, v120, v121, v122, v123, v124, v125, v126, v127, v128, v129, v130, v131, v132, v133, v134, v135, v136, v137, v138, v139, v140, v141, v142, v143, v144, v145, v146, v147, v148, v149, v150, v151, v152, v153, v154, v155, v156, v157, v158, v159, v160, v161, v162, v163, v164, v165, v166, v167, v168, v169, v170, v171, v172, v173, v174, v175, v176, v177, v178, v179, v180, v181, v182, v183, v184, v185, v186, v187, v188, v189, v190, v191, v192, v193, v194, v195, v196, v197, v198, v199, v200, v201, v202, v203, v204, v205, v206, v207, v208, v209, v210, v211, v212, v213, v214, v215, v216, v217, v218, v219, v220, v221, v222, v223, v224, v225, v226, v227, v228, v229, v230, v231, v232, v233, v234, v235, v236, v237, v238, v239, v240, v241, v242, v243, v244, v245, v246, v247, v248, v249, v250, v251, v252, v253, v254, v255, v256, v257, v258, v259, v260, v261, v262, v263, v264, v265, v266, v267, v268, v269, v270, v271, v272, v273, v274, v275, v276, v277, v278, v279, v280, v281, v282, v283, v284, v285, v286, v287, v288, v289, v290, v291, v292, v293, v294, v295, v296, v297, v298, v299, v300, v301, v302, v303, v304, v305, v306, v307, v308, v309, v310, v311, v312, v313, v314, v315, v316, v317, v318, v319, v320, v321, v322, v323, v324, v325, v326, v327, v328, v329, v330, v331, v332, v333, v334, v335, v336, v337, v338, v339, v340, v341, v342, v343, v344, v345, v346, v347, v348, v349, v350, v351, v352, v353, v354, v355, v356, v357, v358, v359, v360, v361, v362, v363, v364, v365, v366, v367, v368, v369, v370], []⟩ W := by
  obtain ⟨d0, d1, d2, d3, d4, d5, d6, d7, d8⟩ := row9_cells hX
  simp only at d0 d1 d2 d3 d4 d5 d6 d7 d8
  have LL := Lib.hid hL
  have MM := Lib.hid hM
  have XX := Lib.hid hX
  have BB := Lib.hid hB
  have MT := Lib.hid HK
  have hxW : xb < W.heap.size := hX.lt
  have hmW : w.heap.size < W.heap.size := hM.lt
  have hs60 := hM.len
  have use4 := And.intro hxw (And.intro hen (And.intro hk hlst))
  clear use4
  clear hL hM hX hB HK
  conv => arg 2; whnf
  subst hw
  obtain ⟨n, hn⟩ : ∃ n, n = rs.length := ⟨_, rfl⟩
  have HN := Lib.hid hn
  obtain ⟨i0, hi0, hz0, hz1, hz2⟩ := info_parts Try.info35
  have AS := Lib.hid (fun W => refAs xf xt xl xr 0 W)
  have MA0 := fun W => refMay xf xt xl xr 0 W
  cases hm : may xf xt with
  | false =>
    have G := Lib.hid (add_bad w.heap.size w.heap.size lst rs xf xt xl xr W MM.out (by omega) hm)
    rw [hm] at MA0
    have MA := Lib.hid MA0
    clear MA0 hm
    rw [← hn]
    clear hn
    go_wp2_with fail
    (with_reducible refine G.out.mono ?_)
    rintro e w2 ⟨rfl, m2, k2, b2⟩
    have X2 := Lib.hid (k2.rowIs XX.out (by decide) (by omega))
    obtain ⟨_, _, x2, x3, x4, x5, _, _, _⟩ := row9_cells X2.out
    simp only at x2 x3 x4 x5
    have L2 := Lib.hid (LL.out.kept k2 MM.out)
    have M2 := Lib.hid m2
    have B2 := Lib.hid (BB.out.trans b2)
    have hx2 : xb < w2.heap.size := X2.out.lt
    clear m2 k2 b2 d0 d1 d2 d3 d4 d5 d6 d7 d8
    go_wp2_with fail
    (with_reducible refine (AS.out _).mono ?_)
    rintro e w3 ⟨rfl, rfl⟩
    go_wp2_with fail
    (with_reducible refine (MA.out _).mono ?_)
    rintro e w4 ⟨rfl, hw⟩
    have b4 : Below w2.heap.size w2 w4 := by subst hw; (repeat' (first | exact Below.refl _ _ | refine Below.drew ?_ | refine Below.alloc ?_ (by simp <;> omega) _))
    clear hw
    have S := Lib.hid (stand_below (k' := k + 1) L2.out M2.out B2.out b4 (by omega))
    clear b4 x2 x3 x4 x5
    go_wp2
    try rw [HN.out]
    have h := MT.out
    unfold Meets at h
    apply h
    exact S.out
  | true =>
    rw [hm] at MA0
    have MA := Lib.hid MA0
    clear MA0
    by_cases h60 : 60 ≤ n
    · have G := Lib.hid (add_full w.heap.size w.heap.size lst rs xf xt xl xr W MM.out (by omega) hm (by omega))
      have hnz : (60 : Int) ≤ (n : Int) := by omega
      clear hm
      rw [← hn]
      clear hn
      go_wp2_with fail
      (with_reducible refine G.out.mono ?_)
      rintro e w2 ⟨rfl, m2, k2, b2⟩
      have X2 := Lib.hid (k2.rowIs XX.out (by decide) (by omega))
      obtain ⟨_, _, x2, x3, x4, x5, _, _, _⟩ := row9_cells X2.out
      simp only at x2 x3 x4 x5
      have L2 := Lib.hid (LL.out.kept k2 MM.out)
      have M2 := Lib.hid m2
      have B2 := Lib.hid (BB.out.trans b2)
      have hx2 : xb < w2.heap.size := X2.out.lt
      clear m2 k2 b2 d0 d1 d2 d3 d4 d5 d6 d7 d8
      go_wp2_with fail
      (with_reducible refine (AS.out _).mono ?_)
      rintro e w3 ⟨rfl, rfl⟩
      go_wp2_with fail
      (with_reducible refine (MA.out _).mono ?_)
      rintro e w4 ⟨rfl, hw⟩
      have b4 : Below w2.heap.size w2 w4 := by subst hw; (repeat' (first | exact Below.refl _ _ | refine Below.drew ?_ | refine Below.alloc ?_ (by simp <;> omega) _))
      clear hw
      have S := Lib.hid (stand_below (k' := k + 1) L2.out M2.out B2.out b4 (by omega))
      clear b4 x2 x3 x4 x5
      go_wp2
      try rw [HN.out]
      have h := MT.out
      unfold Meets at h
      apply h
      exact S.out
    · have G := Lib.hid (add_yes w.heap.size w.heap.size lst rs xf xt xl xr W MM.out (Nat.le_refl _) hm (by omega) (by omega))
      have hnz : ¬ (60 : Int) ≤ (n : Int) := by omega
      clear hm
      rw [← hn]
      clear hn
      go_wp2_with fail
      (with_reducible refine G.out.mono ?_)
      rintro e w2 ⟨rfl, m2, k2, b2⟩
      have X2 := Lib.hid (k2.rowIs XX.out (by decide) (by omega))
      obtain ⟨_, _, x2, x3, x4, x5, _, _, _⟩ := row9_cells X2.out
      simp only at x2 x3 x4 x5
      have L2 := Lib.hid (LL.out.kept k2 MM.out)
      have M2 := Lib.hid m2
      have B2 := Lib.hid (BB.out.trans b2)
      have hx2 : xb < w2.heap.size := X2.out.lt
      clear m2 k2 b2 d0 d1 d2 d3 d4 d5 d6 d7 d8
      go_wp2_with fail
      (with_reducible refine (AS.out _).mono ?_)
      rintro e w3 ⟨rfl, rfl⟩
      go_wp2_with fail
      (with_reducible refine (MA.out _).mono ?_)
      rintro e w4 ⟨rfl, hw⟩
      have b4 : Below w2.heap.size w2 w4 := by subst hw; (repeat' (first | exact Below.refl _ _ | refine Below.drew ?_ | refine Below.alloc ?_ (by simp <;> omega) _))
      clear hw
      have X4 := X2.out.of_block (b4.block _ X2.out.lt)
      obtain ⟨_, _, y2, y3, y4, y5, _, _, _⟩ := row9_cells X4
      simp only at y2 y3 y4 y5
      have hx4 : xb < w4.heap.size := X4.lt
      have L4 := Lib.hid (show RowAt 35 w4 la n rs by rw [HN.out]; exact L2.out.row.below b4)
      have B4 := Lib.hid b4
      have M4 := Lib.hid (M2.out.below b4)
      have HNO := Lib.hid (show la = none → n = 0 ∧ lc = 0 by rw [HN.out]; exact L2.out.nil)
      have FL := Lib.hid (show (flat rs).length = n * 5 by rw [flat_len, HN.out])
      have A2 := Lib.hid (fun W => refAs xf xt xl xr ((lst : Int) + 1) W)
      have hs4 : w2.heap.size ≤ w4.heap.size := b4.size
      have LIT := Lib.hid (show ((w4.alloc (Obj.cells #[] 35)).drew).ownsRow w4.heap.size 35 5 (.slice (some ⟨w4.heap.size, 0, none⟩) 0 0) 0 [] from World.ownsRow_lit w4 #[] 0 (Nat.le_refl _) (by unfold maxLen; omega) rfl)
      clear b4 X4 x2 x3 x4 x5
      go_wp2_with fail
      refine wp_region_noPanic ?_
      go_region_law (first
        | (refine step_append_in rfl (.tmp 101) (.tmp 102) 43 rfl w4.heap.size 35 i0 _ 5 32 Try.underlying43 hi0 hz0 hz1 hz2 rfl (by decide) (.slice (some ⟨w4.heap.size, 0, none⟩) 0 0) 0 [] (by simp [Act.eval]) LIT.out la n lc (flat rs) (by simp [Act.eval]) HNO.out FL.out (row_holds (L4.out.below (((Below.refl _ _).alloc (Nat.le_refl _) _).drew))) (flat_cells_one _) (by unfold maxLen; omega) (by omega) (by simp) ?_; intro v6 w6 own6 gr6; have O6 := Lib.hid own6; have b6 := (show Below w4.heap.size w4 w6 from ((((Below.refl _ _).alloc (Nat.le_refl _) _).drew).grown gr6 (by simp) (fun k hk => by simp [Value.ownBlock] at hk; omega))); have u2 := (b6.cell (by exact hx4)).trans y2; have u3 := (b6.cell (by exact hx4)).trans y3; have u4 := (b6.cell (by exact hx4)).trans y4; have u5 := (b6.cell (by exact hx4)).trans y5; have B6 := Lib.hid b6; clear own6 gr6 b6)
        | (go_simp; go_at_call 9; (with_reducible refine (asB w6.heap.size w6 xf xt xl xr ((lst : Int) + 1) w6 (Below.refl _ _) (Nat.le_refl _)).mono ?_); rintro e w7 ⟨rfl, b7⟩; have O7 := Lib.hid (own_below O6.out b7); have B7 := Lib.hid (B6.out.trans (b7.mono B6.out.size)); clear b7; go_wp2_with fail)
        | (refine step_append_own rfl (.tmp 103) (.tmp 108) 43 rfl w4.heap.size 35 i0 _ 5 32 Try.underlying43 hi0 hz0 hz1 hz2 rfl (by decide) v6 _ _ (by simp [Act.eval]) (O7.out.alloc _) ⟨w7.heap.size, 0, none⟩ 1 1 (Rg.cells ⟨xf, xt, xl, xr, (lst : Int) + 1⟩) (by simp [Act.eval]) rfl (new_cells w7 (Rg.cells ⟨xf, xt, xl, xr, (lst : Int) + 1⟩) 35) (cells_one1 _) (by unfold maxLen; omega) (by omega) (by have := B7.out.size; simp; omega) ?_; intro v8 w8 own8 gr8; have O8 := Lib.hid own8; have B8 := Lib.hid (show Below w4.heap.size w4 w8 from (B7.out.alloc B7.out.size _).grown gr8 (by have := B7.out.size; simp; omega) (fun k hk => (O7.out.lt k hk).1)); clear own8 gr8))
      all_goals
        refine NoPanic.normal ?_
        have own := O8.out
        rw [List.nil_append, ← flat_one, ← flat_append] at own
        obtain ⟨lb, lcb, hv8, hlb⟩ := own_lat own
        have S := Lib.hid (show Stand w (k + 1) v8 (.int .i64 ((lst : Int) + 1)) w8 from ⟨lst + 1, lb, lcb, _, by simp, by omega, hv8, hlb, M4.out.below B8.out, (B2.out.trans (B4.out.mono B2.out.size)).trans (B8.out.mono (by have := B2.out.size; omega))⟩)
        clear own hlb hv8
        go_wp2
        (try rw [HN.out])
        have h := MT.out
        unfold Meets at h
        apply h
        exact S.out

end Go.Proofs.Ytlihgcpiokaehaa
