/- One deed of MarksPlay: R. Conditions: marks, list and deed lie in memory. -/
import Derived.Test.YtlihgcpiokaehaaKindA
import Derived.Test.YtlihgcpiokaehaaKindB
import Derived.Deep.RegionLaw
import Derived.IntWalk
import Derived.Deep.RegionHeld3
namespace Go.Proofs.Ytlihgcpiokaehaa
open Go Go.RowKit

set_option maxHeartbeats 16000000 in
set_option maxRecDepth 100000 in
theorem kind_remove (v0 v1 v2 v6 v9 v10 v11 v12 v13 v14 v15 v16 v17 v18 v19 v20 v21 v22 v23 v24 v25 v26 v27 v28 v29 v30 v31 v32 v33 v34 v35 v36 v37 v38 v39 v40 v41 v42 v43 v44 v45 v46 v47 v48 v49 v50 v51 v52 v53 v54 v55 v56 v57 v58 v59 v60 v61 v63 v64 v65 v66 v67 v68 v69 v70 v71 v72 v73 v74 v75 v76 v77 v78 v79 v80 v81 v82 v83 v84 v85 v86 v87 v88 v89 v90 v91 v92 v93 v94 v95 v96 v97 v98 v99 v100 v101 v102 v103 v104 v105 v106 v107 v108 v109 v110 v111 v112 v113 v114 v115 v116 v117 v118 v119 v120 v121 v122 v123 v124 v125 v126 v127 v128 v129 v130 v131 v132 v133 v134 v135 v136 v137 v138 v139 v140 v141 v142 v143 v144 v145 v146 v147 v148 v149 v150 v151 v152 v153 v154 v155 v156 v157 v158 v159 v160 v161 v162 v163 v164 v165 v166 v167 v168 v169 v170 v171 v172 v173 v174 v175 v176 v177 v178 v179 v180 v181 v182 v183 v184 v185 v186 v187 v188 v189 v190 v191 v192 v193 v194 v195 v196 v197 v198 v199 v200 v201 v202 v203 v204 v205 v206 v207 v208 v209 v210 v211 v212 v213 v214 v215 v216 v217 v218 v219 v220 v221 v222 v223 v224 v225 v226 v227 v228 v229 v230 v231 v232 v233 v234 v235 v236 v237 v238 v239 v240 v241 v242 v243 v244 v245 v246 v247 v248 v249 v250 v251 v252 v253 v254 v255 v256 v257 v258 v259 v260 v261 v262 v263 v264 v265 v266 v267 v268 v269 v270 v271 v272 v273 v274 v275 v276 v277 v278 v279 v280 v281 v282 v283 v284 v285 v286 v287 v288 v289 v290 v291 v292 v293 v294 v295 v296 v297 v298 v299 v300 v301 v302 v303 v304 v305 v306 v307 v308 v309 v310 v311 v312 v313 v314 v315 v316 v317 v318 v319 v320 v321 v322 v323 v324 v325 v326 v327 v328 v329 v330 v331 v332 v333 v334 v335 v336 v337 v338 v339 v340 v341 v342 v343 v344 v345 v346 v347 v348 v349 v350 v351 v352 v353 v354 v355 v356 v357 v358 v359 v360 v361 v362 v363 v364 v365 v366 v367 v368 v369 v370 : Value) (J : Act → World → Prop) (Q : Exit → Act → World → Prop) (w W : World) (k lst lc xb en ec : Nat) (la ea : Option Addr) (rs : List Rg) (what dn xf xt ex ed : Int) (xl xr : Bool)
    (hL : LAt W la lc rs) (hM : MarksAt W w.heap.size w.heap.size rs lst) (hX : W.rowIs xb 45 9 (nd9 ⟨what, dn, ⟨xf, xt, xl, xr⟩, ⟨ex, ed, ea, en, ec⟩⟩)) (hB : Below w.heap.size w W) (hxw : w.heap.size < xb) (hen : en ≤ 300) (hk : k < 100) (hlst : lst ≤ k)
    (HK : Meets w k xb rs dn v0 v1 v6 v26 v27 v28 v29 v30 v31 v32 v33 v34 v35 v36 v37 v38 v39 v40 v370 J) (hw : what = 1) :
    Code.wp Try.prog blk2 (Exit.then J Q) ⟨#[v0, v1, v2, .pointer (some ⟨w.heap.size, 0, none⟩), .slice la rs.length lc, .int .i64 lst, v6, .pointer (some ⟨xb, 0, none⟩), .int .i64 (idz dn rs), v9, v10, v11, v12, v13, v14, v15, v16, v17, v18, v19, v20, v21, v22, v23, v24, v25, v26, v27, v28, v29, v30, v31, v32, v33, v34, v35, v36, v37, v38, v39, v40, v41, v42, v43, v44, v45, v46, v47, v48, v49, v50, v51, v52, v53, v54, v55, v56, v57, v58, v59, v60, v61, .int .i64 what, v63, v64, v65, v66, v67, v68, v69, v70, v71, v72, v73, v74, v75, v76, v77, v78, v79, v80, v81, v82, v83, v84, v85, v86, v87, v88, v89, v90, v91, v92, v93, v94, v95, v96, v97, v98, v99, v100, v101, v102, v103, v104, v105, v106, v107, v108, v109, v110, v111, v112, v113, v114, v115, v116, v117, v118, v119, v120, v121, v122, v123, v124, v125, v126, v127, v128, v129, v130, v131, v132, v133, v134, v135, v136, v137, v138, v139, v140, v141, v142, v143, v144, v145, v146, v147, v148, v149, v150, v151, v152, v153, v154, v155, v156, v157, v158, v159, v160, v161, v162, v163, v164, v165, v166, v167, v168, v169, v170, v171, v172, v173, v174, v175, v176, v177, v178, v179, v180, v181, v182, v183, v184, v185, v186, v187, v188, v189, v190, v191, v192, v193, v194, v195, v196, v197, v198, v199, v200, v201, v202, v203, v204, v205, v206, v207, v208, v209, v210, v211, v212, v213, v214, v215, v216, v217, v218, v219, v220, v221, v222, v223, v224, v225, v226, v227, v228, v229, v230, v231, v232, v233, v234, v235, v236, v237, v238, v239, v240, v241, v242, v243, v244, v245, v246, v247, v248, v249, v250, v251, v252, v253, v254, v255, v256, v257, v258, v259, v260, v261, v262, v263, v264, v265, v266, v267, v268, v269, v270, v271, v272, v273, v274, v275, v276, v277, v278, v279, v280, v281, v282, v283, v284, v285, v286, v287, v288, v289, v290, v291, v292, v293, v294, v295, v296, v297, v298, v299, v300, v301, v302, v303, v304, v305, v306, v307, v308, v309, v310, v311, v312, v313, v314, v315, v316, v317, v318, v319, v320, v321, v322, v323, v324, v325, v326, v327, v328, v329, v330, v331, v332, v333, v334, v335, v336, v337, v338, v339, v340, v341, v342, v343, v344, v345, v346, v347, v348, v349, v350, v351, v352, v353, v354, v355, v356, v357, v358, v359, v360, v361, v362, v363, v364, v365, v366, v367, v368, v369, v370], []⟩ W := by
  obtain ⟨d0, d1, d2, d3, d4, d5, d6, d7, d8⟩ := row9_cells hX
  simp only at d0 d1 d2 d3 d4 d5 d6 d7 d8
  have LL := Lib.hid hL
  have MM := Lib.hid hM
  have XX := Lib.hid hX
  have BB := Lib.hid hB
  have MT := Lib.hid HK
  have hxW : xb < W.heap.size := hX.lt
  have hmW : w.heap.size < W.heap.size := hM.lt
  have hs60 := hM.len
  have use4 := And.intro hxw (And.intro hen (And.intro hk hlst))
  clear use4
  clear hL hM hX hB HK
  conv => arg 2; whnf
  subst hw
  rcases idz_cases dn rs with ⟨hi, _⟩ | ⟨q, y, hi, hy, hyi, hq⟩
  · have G := Lib.hid (remove_no w.heap.size w.heap.size lst rs dn W MM.out (by omega) hi)
    rw [hi]
    go_wp2_with fail
    (with_reducible refine G.out.mono ?_)
    rintro e w2 ⟨rfl, m2, k2, b2⟩
    have S := Lib.hid (show Stand w (k + 1) (.slice la rs.length lc) (.int .i64 lst) w2 from ⟨lst, la, lc, rs, rfl, by omega, rfl, LL.out.kept k2 MM.out, m2, BB.out.trans b2⟩)
    clear m2 k2 b2
    go_wp2
    rw [← hi]
    have h := MT.out
    unfold Meets at h
    apply h
    exact S.out
  · obtain ⟨i0, hi0, hz0, hz1, hz2⟩ := info_parts Try.info35
    have G := Lib.hid (remove_yes w.heap.size w.heap.size lst rs dn q W MM.out (Nat.le_refl _) hi hq)
    have hqz : (q : Int) < (rs.length : Int) := by omega
    have hq0 : (0 : Int) ≤ (q : Int) := by omega
    have hqn : ¬ (q : Int) < 0 := by omega
    have hwr : IntKind.i64.wrap ((q : Int) + 1) = (q : Int) + 1 := IntWalk.i64_in _ (by omega)
    have hq1 : (0 : Int) ≤ (q : Int) + 1 := by omega
    have hq2 : (q : Int) + 1 ≤ (rs.length : Int) := by omega
    have hs1 := slice_to la rs.length lc q (by have := LL.out.cap; omega)
    obtain ⟨a2, hs2, hn2, tr2⟩ := row_from la rs.length lc q hq LL.out.cap LL.out.nil
    have TR := Lib.hid tr2
    have N1 := Lib.hid (show la = none → q = 0 ∧ lc = 0 from fun h => by have := LL.out.nil h; omega)
    have N2 := Lib.hid hn2
    have LX := Lib.hid (show (flat (rs.take q)).length = q * 5 by rw [flat_len, List.length_take]; omega)
    have LZ := Lib.hid (show (flat (rs.drop (q + 1))).length = (rs.length - (q + 1)) * 5 by rw [flat_len, List.length_drop])
    clear hn2 tr2
    rw [hi]
    go_wp2_with fail
    (with_reducible refine G.out.mono ?_)
    rintro e w2 ⟨rfl, m2, k2, b2⟩
    have L2 := Lib.hid (LL.out.kept k2 MM.out)
    have M2 := Lib.hid m2
    have B2 := Lib.hid (BB.out.trans b2)
    have LIT := Lib.hid (show ((w2.alloc (Obj.cells #[] 35)).drew).ownsRow w2.heap.size 35 5 (.slice (some ⟨w2.heap.size, 0, none⟩) 0 0) 0 [] from World.ownsRow_lit w2 #[] 0 (Nat.le_refl _) (by unfold maxLen; omega) rfl)
    have LIT2 := Lib.hid (show ((w2.drew).alloc (Obj.cells #[] 35)).ownsRow w2.heap.size 35 5 (.slice (some ⟨w2.heap.size, 0, none⟩) 0 0) 0 [] from World.ownsRow_lit w2.drew #[] 0 (Nat.le_refl _) (by unfold maxLen; omega) rfl)
    clear m2 k2 b2 d0 d1 d2 d3 d4 d5 d6 d7 d8
    go_wp2_with fail
    refine wp_region_noPanic ?_
    go_region_law (first
      | (refine step_append_in rfl (.tmp 132) (.tmp 135) 43 rfl w2.heap.size 35 i0 _ 5 32 Try.underlying43 hi0 hz0 hz1 hz2 rfl (by decide) (.slice (some ⟨w2.heap.size, 0, none⟩) 0 0) 0 [] (by simp [Act.eval]) (by first | exact LIT.out | exact LIT2.out) la q lc (flat (rs.take q)) (by simp [Act.eval]) N1.out LX.out (row_holds (row_take (L2.out.row.below (by first | exact ((Below.refl _ _).alloc (Nat.le_refl _) _).drew | exact ((Below.refl _ _).drew).alloc (Nat.le_refl _) _)) q (by omega))) (flat_cells_one _) (by unfold maxLen; omega) (by omega) (by simp) ?_; intro v2 w3 own2 gr2; have O2 := Lib.hid own2; have B3 := Lib.hid (show Below w2.heap.size w2 w3 from (by first | exact ((((Below.refl _ _).alloc (Nat.le_refl _) _).drew).grown gr2 (by simp) (fun k hk => by simp [Value.ownBlock] at hk; omega)) | exact ((((Below.refl _ _).drew).alloc (Nat.le_refl _) _).grown gr2 (by simp) (fun k hk => by simp [Value.ownBlock] at hk; omega)))); clear own2 gr2)
      | (refine step_append_in rfl (.tmp 136) (.tmp 140) 43 rfl w2.heap.size 35 i0 _ 5 32 Try.underlying43 hi0 hz0 hz1 hz2 rfl (by decide) v2 _ _ (by simp [Act.eval]) O2.out a2 (rs.length - (q + 1)) (lc - (q + 1)) (flat (rs.drop (q + 1))) (by simp [Act.eval]) N2.out LZ.out (row_holds (TR.out _ _ _ (L2.out.row.below B3.out))) (flat_cells_one _) (by unfold maxLen; omega) (by omega) B3.out.size ?_; intro v3 w4 own3 gr3; have O3 := Lib.hid own3; have B4 := Lib.hid (show Below w2.heap.size w2 w4 from B3.out.grown gr3 B3.out.size (fun k hk => (O2.out.lt k hk).1)); clear own3 gr3))
    all_goals
      refine NoPanic.normal ?_
      have own := O3.out
      rw [List.nil_append, ← flat_append, ← List.eraseIdx_eq_take_drop_succ] at own
      obtain ⟨lb, lcb, hv3, hlb⟩ := own_lat own
      have S := Lib.hid (show Stand w (k + 1) v3 (.int .i64 lst) w4 from ⟨lst, lb, lcb, rs.eraseIdx q, rfl, by omega, hv3, hlb, M2.out.below B4.out, B2.out.trans (B4.out.mono B2.out.size)⟩)
      clear own hlb
      go_wp2
      rw [← hi]
      have h := MT.out
      unfold Meets at h
      apply h
      exact S.out

end Go.Proofs.Ytlihgcpiokaehaa
