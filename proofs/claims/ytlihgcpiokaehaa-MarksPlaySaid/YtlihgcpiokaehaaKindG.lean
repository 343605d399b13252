/- One deed of MarksPlay: G. Conditions: marks, list and deed lie in memory. -/
import Derived.Test.YtlihgcpiokaehaaKindA
import Derived.Deep.RegionHeld3
import Derived.Test.YtlihgcpiokaehaaMove
namespace Go.Proofs.Ytlihgcpiokaehaa
open Go Go.RowKit

set_option maxHeartbeats 16000000 in
set_option maxRecDepth 100000 in
theorem kind_get (v0 v1 v2 v6 v9 v10 v11 v12 v13 v14 v15 v16 v17 v18 v19 v20 v21 v22 v23 v24 v25 v26 v27 v28 v29 v30 v31 v32 v33 v34 v35 v36 v37 v38 v39 v40 v41 v42 v43 v44 v45 v46 v47 v48 v49 v50 v51 v52 v53 v54 v55 v56 v57 v58 v59 v60 v61 v63 v64 v65 v66 v67 v68 v69 v70 v71 v72 v73 v74 v75 v76 v77 v78 v79 v80 v81 v82 v83 v84 v85 v86 v87 v88 v89 v90 v91 v92 v93 v94 v95 v96 v97 v98 v99 v100 v101 v102 v103 v104 v105 v106 v107 v108 v109 v110 v111 v112 v113 v114 v115 v116 v117 v118 v119 v120 v121 v122 v123 v124 v125 v126 v127 v128 v129 v130 v131 v132 v133 v134 v135 v136 v137 v138 v139 v140 v141 v142 v143 v144 v145 v146 v147 v148 v149 v150 v151 v152 v153 v154 v155 v156 v157 v158 v159 v160 v161 v162 v163 v164 v165 v166 v167 v168 v169 v170 v171 v172 v173 v174 v175 v176 v177 v178 v179 v180 v181 v182 v183 v184 v185 v186 v187 v188 v189 v190 v191 v192 v193 v194 v195 v196 v197 v198 v199 v200 v201 v202 v203 v204 v205 v206 v207 v208 v209 v210 v211 v212 v213 v214 v215 v216 v217 v218 v219 v220 v221 v222 v223 v224 v225 v226 v227 v228 v229 v230 v231 v232 v233 v234 v235 v236 v237 v238 v239 v240 v241 v242 v243 v244 v245 v246 v247 v248 v249 v250 v251 v252 v253 v254 v255 v256 v257 v258 v259 v260 v261 v262 v263 v264 v265 v266 v267 v268 v269 v270 v271 v272 v273 v274 v275 v276 v277 v278 v279 v280 v281 v282 v283 v284 v285 v286 v287 v288 v289 v290 v291 v292 v293 v294 v295 v296 v297 v298 v299 v300 v301 v302 v303 v304 v305 v306 v307 v308 v309 v310 v311 v312 v313 v314 v315 v316 v317 v318 v319 v320 v321 v322 v323 v324 v325 v326 v327 v328 v329 v330 v331 v332 v333 v334 v335 v336 v337 v338 v339 v340 v341 v342 v343 v344 v345 v346 v347 v348 v349 v350 v351 v352 v353 v354 v355 v356 v357 v358 v359 v360 v361 v362 v363 v364 v365 v366 v367 v368 v369 v370 : Value) (J : Act → World → Prop) (Q : Exit → Act → World → Prop) (w W : World) (k lst lc xb en ec : Nat) (la ea : Option Addr) (rs : List Rg) (what dn xf xt ex ed : Int) (xl xr : Bool)
    (hL : LAt W la lc rs) (hM : MarksAt W w.heap.size w.heap.size rs lst) (hX : W.rowIs xb 45 9 (nd9 ⟨what, dn, ⟨xf, xt, xl, xr⟩, ⟨ex, ed, ea, en, ec⟩⟩)) (hB : Below w.heap.size w W) (hxw : w.heap.size < xb) (hen : en ≤ 300) (hk : k < 100) (hlst : lst ≤ k)
    (HK : Meets w k xb rs dn v0 v1 v6 v26 v27 v28 v29 v30 v31 v32 v33 v34 v35 v36 v37 v38 v39 v40 v370 J) (hw : what = 3) :
    Code.wp Try.prog blk2 (Exit.then J Q) ⟨#[v0, v1, v2, .pointer (some ⟨w.heap.size, 0, none⟩), .slice la rs.length lc, .int .i64 lst, v6, .pointer (some ⟨xb, 0, none⟩), .int .i64 (idz dn rs), v9, v10, v11, v12, v13, v14, v15, v16, v17, v18, v19, v20, v21, v22, v23, v24, v25, v26, v27, v28, v29, v30, v31, v32, v33, v34, v35, v36, v37, v38, v39, v40, v41, v42, v43, v44, v45, v46, v47, v48, v49, v50, v51, v52, v53, v54, v55, v56, v57, v58, v59, v60, v61, .int .i64 what, v63, v64, v65, v66, v67, v68, v69, v70, v71, v72, v73, v74, v75, v76, v77, v78, v79, v80, v81, v82, v83, v84, v85, v86, v87, v88, v89, v90, v91, v92, v93, v94, v95, v96, v97, v98, v99, v100, v101, v102, v103, v104, v105, v106, v107, v108, v109, v110, v111, v112, v113, v114, v115, v116, v117, v118, v119, v120, v121, v122, v123, v124, v125, v126, v127, v128, v129, v130, v131, v132, v133, v134, v135, v136, v137, v138, v139, v140, v141, v142, v143, v144, v145, v146, v147, v148, v149, v150, v151, v152, v153, v154, v155, v156, v157, v158, v159, v160, v161, v162, v163, v164, v165, v166, v167, v168, v169, v170, v171, v172, v173, v174, v175, v176, v177, v178, v179, v180, v181, v182, v183, v184, v185, v186, v187, v188, v189, v190, v191, v192, v193, v194, v195, v196, v197, v198, v199, v200, v201, v202, v203, v204, v205, v206, v207, v208, v209, v210, v211, v212, v213, v214, v215, v216, v217, v218, v219, v220, v221, v222, v223, v224, v225, v226, v227, v228, v229, v230, v231, v232, v233, v234, v235, v236, v237, v238, v239, v240, v241, v242, v243, v244, v245, v246, v247, v248, v249, v250, v251, v252, v253, v254, v255, v256, v257, v258, v259, v260, v261, v262, v263, v264, v265, v266, v267, v268, v269, v270, v271, v272, v273, v274, v275, v276, v277, v278, v279, v280, v281, v282, v283, v284, v285, v286, v287, v288, v289, v290, v291, v292, v293, v294, v295, v296, v297, v298, v299, v300, v301, v302, v303, v304, v305, v306, v307, v308, v309, v310, v311, v312, v313, v314, v315, v316, v317, v318, v319, v320, v321, v322, v323, v324, v325, v326, v327, v328, v329, v330, v331, v332, v333, v334, v335, v336, v337, v338, v339, v340, v341, v342, v343, v344, v345, v346, v347, v348, v349, v350, v351, v352, v353, v354, v355, v356, v357, v358, v359, v360, v361, v362, v363, v364, v365, v366, v367, v368, v369, v370], []⟩ W := by
  obtain ⟨d0, d1, d2, d3, d4, d5, d6, d7, d8⟩ := row9_cells hX
  simp only at d0 d1 d2 d3 d4 d5 d6 d7 d8
  have LL := Lib.hid hL
  have MM := Lib.hid hM
  have XX := Lib.hid hX
  have BB := Lib.hid hB
  have MT := Lib.hid HK
  have hxW : xb < W.heap.size := hX.lt
  have hmW : w.heap.size < W.heap.size := hM.lt
  have hs60 := hM.len
  have use4 := And.intro hxw (And.intro hen (And.intro hk hlst))
  clear use4
  clear hL hM hX hB HK
  conv => arg 2; whnf
  subst hw
  rcases idz_cases dn rs with ⟨hi, _⟩ | ⟨q, y, hi, hy, hyi, hq⟩
  · have G := Lib.hid (get_no w.heap.size w.heap.size lst rs dn W MM.out hi)
    rw [hi]
    go_wp2_with fail
    (with_reducible refine G.out.mono ?_)
    rintro e w2 ⟨rfl, b2⟩
    have S := Lib.hid (stand_below (k' := k + 1) LL.out MM.out BB.out (b2.trans ((Below.refl w2.heap.size w2).alloc (Nat.le_refl _) (Obj.cells #[.int .i64 0, .int .i64 0, .bool false, .bool false] 25) |>.mono b2.size)) (by omega))
    clear b2
    go_wp2
    rw [← hi]
    have h := MT.out
    unfold Meets at h
    apply h
    exact S.out
  · have G := Lib.hid (get_yes w.heap.size w.heap.size lst rs dn q y W MM.out hi hy)
    rcases LL.out.row.2 with h0 | ⟨b, off, rfl, ⟨cur, fr, hh⟩, hc⟩
    · omega
    have hb := lt_of_block hh
    obtain ⟨yf, yt, yl, yr, yi⟩ := y
    simp only at hyi
    subst hyi
    obtain ⟨c0, c1, c2, c3, c4⟩ := rgCells hc q _ hy
    have hqz : (q : Int) < (rs.length : Int) := by omega
    have hq0 : (0 : Int) ≤ (q : Int) := by omega
    have hqn : ¬ (q : Int) < 0 := by omega
    simp only at c0 c1 c2 c3 c4
    rw [hi]
    clear hc hh hy
    go_wp2_with fail
    (with_reducible refine G.out.mono ?_)
    rintro e w2 ⟨rfl, b2⟩
    obtain ⟨e0, e1, e2, e3, e4⟩ := cells5_at b2 hb c0 c1 c2 c3 c4
    have x1 := (b2.cell (by exact hxW)).trans d1
    have BV := Lib.hid (show Below W.heap.size W (w2.alloc (Obj.cells #[.int .i64 yf, .int .i64 yt, .bool yl, .bool yr] 25)) from b2.trans (((Below.refl w2.heap.size w2).alloc (Nat.le_refl _) _).mono b2.size))
    have RV := Lib.hid (row4 w2 (.int .i64 yf) (.int .i64 yt) (.bool yl) (.bool yr) 25)
    have hs2 : W.heap.size ≤ w2.heap.size := b2.size
    have KS := Lib.hid (fun (W' : World) (h : Below (w2.alloc (Obj.cells #[.int .i64 yf, .int .i64 yt, .bool yl, .bool yr] 25)).heap.size (w2.alloc (Obj.cells #[.int .i64 yf, .int .i64 yt, .bool yl, .bool yr] 25)) W') => by
      have R := RV.out.of_block (h.block _ RV.out.lt)
      obtain ⟨g0, g1, g2, g3, g4⟩ := cells5_at (o := off + q * 5) h (by simp; omega) (Lib.cell?_alloc_some _ e0) (Lib.cell?_alloc_some _ e1) (Lib.cell?_alloc_some _ e2) (Lib.cell?_alloc_some _ e3) (Lib.cell?_alloc_some _ e4)
      exact And.intro h (And.intro (R.cell (i := 0) (by omega)) (And.intro (R.cell (i := 1) (by omega)) (And.intro (R.cell (i := 2) (by omega)) (And.intro (R.cell (i := 3) (by omega)) (And.intro ((h.cell (p := ⟨xb, 1, none⟩) (by simp; omega)).trans (Lib.cell?_alloc_some _ x1)) (And.intro g0 (And.intro g1 (And.intro g2 (And.intro g3 g4))))))))))
    simp only [nd4] at KS
    have AS := Lib.hid (asB (w2.alloc (Obj.cells #[.int .i64 yf, .int .i64 yt, .bool yl, .bool yr] 25)).heap.size (w2.alloc (Obj.cells #[.int .i64 yf, .int .i64 yt, .bool yl, .bool yr] 25)) yf yt yl yr yi)
    clear b2 c0 c1 c2 c3 c4 e0 e1 e2 e3 e4 x1 d0 d1 d2 d3 d4 d5 d6 d7 d8
    go_wp2_with fail
    generalize (w2.alloc (Obj.cells #[.int .i64 yf, .int .i64 yt, .bool yl, .bool yr] 25)) = V at *
    go_region_held3 (fun W' => Below V.heap.size V W' ∧ W'.cell? ⟨w2.heap.size, 0, none⟩ = some (.int .i64 yf) ∧ W'.cell? ⟨w2.heap.size, 1, none⟩ = some (.int .i64 yt) ∧ W'.cell? ⟨w2.heap.size, 2, none⟩ = some (.bool yl) ∧ W'.cell? ⟨w2.heap.size, 3, none⟩ = some (.bool yr) ∧ W'.cell? ⟨xb, 1, none⟩ = some (.int .i64 yi) ∧ W'.cell? ⟨b, off + q * 5, none⟩ = some (.int .i64 yf) ∧ W'.cell? ⟨b, off + q * 5 + 1, none⟩ = some (.int .i64 yt) ∧ W'.cell? ⟨b, off + q * 5 + 2, none⟩ = some (.bool yl) ∧ W'.cell? ⟨b, off + q * 5 + 3, none⟩ = some (.bool yr) ∧ W'.cell? ⟨b, off + q * 5 + 4, none⟩ = some (.int .i64 yi)) (first | exact KS.out _ (Below.refl _ _).drew | exact KS.out _ (by assumption) | assumption)
      (first | (go_at_call 9; (with_reducible refine (AS.out _ (And.left (by assumption)) (And.left (a := Below V.heap.size V _) (by assumption)).size).mono ?_); rintro e w' ⟨rfl, hb'⟩))
    have S := Lib.hid (stand_below (k' := k + 1) LL.out MM.out BB.out (BV.out.trans ((And.left (a := Below V.heap.size V _) (by assumption)).mono BV.out.size)) (by omega))
    go_wp2
    rw [← hi]
    have h := MT.out
    unfold Meets at h
    apply h
    exact S.out

end Go.Proofs.Ytlihgcpiokaehaa
