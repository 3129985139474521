/-
  StpAges: what is behind the script.
-/
import Derived.Test.YtidoaccidmmalaaStpLA
namespace Go.Proofs.Ytidoaccidmmalaa.StpP
open Go.Proofs.Ytidoaccidmmalaa.MacP (arr_out Wrote wp_region_ends outM)
open Go.RowKit Go.Sort Go.Proofs.Ytidoaccidmmalaa.SliceP Go.Proofs.Ytidoaccidmmalaa.BoxP Go.Proofs.Ytidoaccidmmalaa.VecP Go.Proofs.Ytidoaccidmmalaa.RoleP
open Go.Proofs.Ytidoaccidmmalaa.IntP (RowI SlI OwnI)
open Go.Proofs.Ytidoaccidmmalaa.BoolP (RowB SlB OwnB)
open Go.Proofs.Ytidoaccidmmalaa.PortP (okS roleS tickS sv)
set_option linter.unusedVariables false
set_option maxRecDepth 100000
set_option maxHeartbeats 64000000 in
theorem ages_tail (C : StpC) {w wx : World} {bS nn : Nat} {i m d : Int} {t : T} {AC : Option Addr} {cC : Nat} {AU : Option Addr} {cU : Nat} {AI : Option Addr} {cI : Nat} {AS : Option Addr} {cS : Nat} (hmb : 1 ≤ m ∧ m ≤ 20) (hdb : 1 ≤ d ∧ d ≤ 4) (hnb : 1 ≤ nn ∧ nn ≤ 5) (hV : Lv w wx bS i m d nn t AC cC AU cU AI cI AS cS) {v1 v4 v5 v6 v7 v8 v9 v10 v11 v12 v13 v15 v17 v18 v19 v20 v21 v22 v23 v24 v25 v26 v27 v28 v29 v30 v31 v32 v33 v34 v35 v36 v37 v38 v39 v40 v41 v42 v43 v44 v45 v46 v47 v48 v49 v50 v51 v52 v53 v54 v55 v56 v57 v58 v59 v60 v61 v62 v63 v64 v65 v66 v67 v68 v69 v70 v71 v72 v73 v74 v75 v76 v77 v78 v79 v80 v81 v82 v83 v84 v85 v86 v87 v88 v89 v90 v91 v92 v93 v94 v95 v96 v97 v98 v99 v100 v101 v102 v103 v104 v105 v106 v107 v108 v109 v110 v111 v112 v113 v114 v115 v116 v117 v118 v119 v120 v121 v122 v123 v124 v125 v126 v127 v128 v129 v130 v131 v132 v133 v134 v135 v136 v137 v138 v139 v140 v141 v142 v143 v144 v145 v146 v147 v148 v149 v150 v151 v152 v153 v154 v155 v156 v157 v158 v159 v160 v161 v162 v163 v164 v165 v166 v167 v168 v169 v170 v171 v172 v173 v174 v175 v176 v177 v178 v179 v180 v181 v182 v183 v184 v185 v186 v187 v188 v189 v190 v191 v192 v193 v194 v195 v196 v197 v198 v199 v200 v201 v202 v203 v204 v205 v206 v207 v208 v209 v210 v211 v212 v213 v214 v215 v216 v217 v218 v219 v220 v221 v222 v223 v224 v225 v226 v227 v228 v229 v230 v231 v232 v233 v234 v235 v236 v237 v238 v239 v240 v241 v242 v243 v244 v245 v246 v247 v248 v249 v250 v251 v252 v253 v254 v255 v256 v257 v258 v259 v260 v261 v262 v263 v264 v265 v266 v267 v268 v269 v270 v271 v272 v273 v274 v275 v276 v277 v278 v279 v280 v281 v282 v283 v284 v285 v286 v287 v288 v289 v290 v291 v292 v293 v294 v295 v296 v297 v298 v299 v300 v301 v302 v303 v304 v305 v306 v307 v308 v309 v310 v311 v312 v313 v314 v315 v316 v317 v318 v319 v320 v321 v322 v323 v324 v325 v326 v327 v328 v329 v330 v331 v332 v333 v334 v335 v336 v337 v338 v339 v340 v341 v342 v343 v344 v345 v346 v347 v348 v349 v350 v351 v352 v353 v354 v355 v356 v357 v358 v359 v360 v361 v362 v363 v364 v365 v366 v367 v368 v369 v370 v371 v372 v373 v374 v375 v376 v377 v378 v379 v380 v381 v382 v383 v384 v385 v386 v387 v388 : Value} :
    Code.wp Try.prog agesTail (bodyPost Try.prog Try.f5 fun e w' => e = .returned (.bool true) ∧ Below w.heap.size w w') ⟨#[.int .i64 i, v1, .int .i64 m, .int .i64 d, v4, v5, v6, v7, v8, v9, v10, v11, v12, v13, .pointer (some ⟨bS, 0, none⟩), v15, .int .i64 nn, v17, v18, v19, v20, v21, v22, v23, v24, v25, v26, v27, v28, v29, v30, v31, v32, v33, v34, v35, v36, v37, v38, v39, v40, v41, v42, v43, v44, v45, v46, v47, v48, v49, v50, v51, v52, v53, v54, v55, v56, v57, v58, v59, v60, v61, v62, v63, v64, v65, v66, v67, v68, v69, v70, v71, v72, v73, v74, v75, v76, v77, v78, v79, v80, v81, v82, v83, v84, v85, v86, v87, v88, v89, v90, v91, v92, v93, v94, v95, v96, v97, v98, v99, v100, v101, v102, v103, v104, v105, v106, v107, v108, v109, v110, v111, v112, v113, v114, v115, v116, v117, v118, v119, v120, v121, v122, v123, v124, v125, v126, v127, v128, v129, v130, v131, v132, v133, v134, v135, v136, v137, v138, v139, v140, v141, v142, v143, v144, v145, v146, v147, v148, v149, v150, v151, v152, v153, v154, v155, v156, v157, v158, v159, v160, v161, v162, v163, v164, v165, v166, v167, v168, v169, v170, v171, v172, v173, v174, v175, v176, v177, v178, v179, v180, v181, v182, v183, v184, v185, v186, v187, v188, v189, v190, v191, v192, v193, v194, v195, v196, v197, v198, v199, v200, v201, v202, v203, v204, v205, v206, v207, v208, v209, v210, v211, v212, v213, v214, v215, v216, v217, v218, v219, v220, v221, v222, v223, v224, v225, v226, v227, v228, v229, v230, v231, v232, v233, v234, v235, v236, v237, v238, v239, v240, v241, v242, v243, v244, v245, v246, v247, v248, v249, v250, v251, v252, v253, v254, v255, v256, v257, v258, v259, v260, v261, v262, v263, v264, v265, v266, v267, v268, v269, v270, v271, v272, v273, v274, v275, v276, v277, v278, v279, v280, v281, v282, v283, v284, v285, v286, v287, v288, v289, v290, v291, v292, v293, v294, v295, v296, v297, v298, v299, v300, v301, v302, v303, v304, v305, v306, v307, v308, v309, v310, v311, v312, v313, v314, v315, v316, v317, v318, v319, v320, v321, v322, v323, v324, v325, v326, v327, v328, v329, v330, v331, v332, v333, v334, v335, v336, v337, v338, v339, v340, v341, v342, v343, v344, v345, v346, v347, v348, v349, v350, v351, v352, v353, v354, v355, v356, v357, v358, v359, v360, v361, v362, v363, v364, v365, v366, v367, v368, v369, v370, v371, v372, v373, v374, v375, v376, v377, v378, v379, v380, v381, v382, v383, v384, v385, v386, v387, v388], []⟩ wx := by
  have V := Lib.hid hV
  clear hV
  conv => arg 2; whnf
  obtain ⟨mN, hmN⟩ : ∃ x : Nat, m = x := ⟨m.toNat, by omega⟩
  have hold0 := Lib.hid (old_zero V.out.ok)
  obtain ⟨d2x, hd2⟩ : ∃ x, 2 * d = x := ⟨_, rfl⟩
  obtain ⟨dN, hdN⟩ : ∃ x : Nat, d2x = x := ⟨d2x.toNat, by omega⟩
  have hmN' := Lib.hid hmN
  have hdN' := Lib.hid hdN
  have hd2' := Lib.hid hd2
  subst hdN
  go_wp2_with fail
  go_loopw [274] (fun ix wr => ∃ (j : Nat) (t : T) (AC : Option Addr) (cC : Nat) (AU : Option Addr) (cU : Nat) (AI : Option Addr) (cI : Nat) (AS : Option Addr) (cS : Nat), j ≤ mN ∧ ix = .int .i64 j ∧ Lv w wr bS i m d nn t AC cC AU cU AI cI AS cS ∧ Old j t) (fun ix _ => mN - (intOf ix).toNat)
  case atStart => exact ⟨0, t, AC, cC, AU, cU, AI, cI, AS, cS, by omega, rfl, V.out, hold0.out⟩
  case round =>
    clear V hold0
    obtain ⟨j, t, AC, cC, AU, cU, AI, cI, AS, cS, hj, rfl, V, hold⟩ := hrel
    replace V := Lib.hid V
    replace hold := Lib.hid hold
    by_cases hjn : j < mN
    · obtain ⟨tk, htk⟩ : ∃ u, t.tick = u := ⟨_, rfl⟩
      have hsame := Lib.hid (show Same t tk by rw [← htk]; exact same_tick V.out.ok V.out.l)
      have hcT := Lib.hid fun (W : World) (h : Lv w W bS i m d nn t AC cC AU cU AI cI AS cS) => C.tick_ok h.ok h.arg
      rw [htk] at hcT
      have hnx := Lib.hid (show Old ((j + 1 : Nat) : Int) tk by rw [← htk]; have := old_tick V.out.ok hold.out; exact this)
      have hjm : (j : Int) < m := by omega
      replace htk := Lib.hid htk
      have zz := V.out.x.lt
      have hlt9 := Lib.hid V.out.x.lt
      have ho9 := Lib.hid V.out.o
      have o_V_0 := V.out.c (i := 0) rfl
      have o_V_1 := V.out.c (i := 1) rfl
      have o_V_2 := V.out.c (i := 2) rfl
      have o_V_3 := V.out.c (i := 3) rfl
      have o_V_4 := V.out.c (i := 4) rfl
      have o_V_5 := V.out.c (i := 5) rfl
      have o_V_6 := V.out.c (i := 6) rfl
      go_wp2_with fail
      clear o_V_0 o_V_1 o_V_2 o_V_3 o_V_4 o_V_5 o_V_6
      go_at_call 16
      (with_reducible refine (hcT.out _ V.out).mono ?_)
      rintro e w401 ⟨AC2, cC2, AU2, cU2, AI2, cI2, AS2, cS2, AD, cD, rfl, tr2, rd2, hb401, of2⟩
      have V_w401 := Lib.hid (V.out.below hb401)
      have T2_w401 := Lib.hid (tr2)
      clear V
      have off2 := Lib.hid (of2 _ hlt9.out ho9.out)
      clear of2 hcT tr2 rd2 zz
      go_upto_region 50 with fail
      obtain ⟨w402, hw402⟩ : ∃ W, W = w401.alloc (.cells #[.int .i64 tk.self.id, .slice AC2 tk.self.costs.length cC2, .slice AU2 tk.self.ups.length cU2, .slice AI2 tk.self.infos.length cI2, .slice AS2 tk.states.length cS2, .int .i64 tk.mx, .int .i64 tk.dl] 29) := ⟨_, rfl⟩
      have bw402 : Below w401.heap.size w401 w402 := by rw [hw402]; exact (Below.refl _ _).alloc (Nat.le_refl _) _
      have Xw402 : Bx w402 w401.heap.size 29 #[.int .i64 tk.self.id, .slice AC2 tk.self.costs.length cC2, .slice AU2 tk.self.ups.length cU2, .slice AI2 tk.self.infos.length cI2, .slice AS2 tk.states.length cS2, .int .i64 tk.mx, .int .i64 tk.dl] := by rw [hw402]; exact Bx.new _ _ _ rfl
      rw [← hw402]
      clear hw402
      have V_w402 := Lib.hid (V_w401.out.below bw402)
      have T2_w402 := Lib.hid (T2_w401.out.below bw402)
      have BA_w402 := Lib.hid (Xw402)
      have B_w402 := bt hb401 bw402
      clear V_w401 T2_w401 hb401 bw402
      have z0_w402 : w401.heap.size < w402.heap.size := Xw402.lt
      clear Xw402
      have zz := V_w402.out.x.lt
      have o_BA_0 := BA_w402.out.c (i := 0) rfl
      have o_BA_1 := BA_w402.out.c (i := 1) rfl
      have o_BA_2 := BA_w402.out.c (i := 2) rfl
      have o_BA_3 := BA_w402.out.c (i := 3) rfl
      have o_BA_4 := BA_w402.out.c (i := 4) rfl
      have o_BA_5 := BA_w402.out.c (i := 5) rfl
      have o_BA_6 := BA_w402.out.c (i := 6) rfl
      have o_V_0 := V_w402.out.c (i := 0) rfl
      have o_V_1 := V_w402.out.c (i := 1) rfl
      have o_V_2 := V_w402.out.c (i := 2) rfl
      have o_V_3 := V_w402.out.c (i := 3) rfl
      have o_V_4 := V_w402.out.c (i := 4) rfl
      have o_V_5 := V_w402.out.c (i := 5) rfl
      have o_V_6 := V_w402.out.c (i := 6) rfl
      have p_V_0 := V_w402.out.f 0
      have p_V_1 := V_w402.out.f 1
      have p_V_2 := V_w402.out.f 2
      have p_V_3 := V_w402.out.f 3
      have p_V_4 := V_w402.out.f 4
      have p_V_5 := V_w402.out.f 5
      have p_V_6 := V_w402.out.f 6
      go_upto_region 53 with fail
      clear o_BA_0 o_BA_1 o_BA_2 o_BA_3 o_BA_4 o_BA_5 o_BA_6 o_V_0 o_V_1 o_V_2 o_V_3 o_V_4 o_V_5 o_V_6 p_V_0 p_V_1 p_V_2 p_V_3 p_V_4 p_V_5 p_V_6
      obtain ⟨w403, hw403⟩ : ∃ W, W = set7 w402 bS (.int .i64 tk.self.id) (.slice AC2 tk.self.costs.length cC2) (.slice AU2 tk.self.ups.length cU2) (.slice AI2 tk.self.infos.length cI2) (.slice AS2 tk.states.length cS2) (.int .i64 tk.mx) (.int .i64 tk.dl) := ⟨_, rfl⟩
      have Vw403 := Lib.hid (show Lv w w403 bS i m d nn tk AC2 cC2 AU2 cU2 AI2 cI2 AS2 cS2 by rw [hw403]; exact V_w402.out.step (Below.refl _ _) hsame.out T2_w402.out off2.out)
      unfold set7 at hw403
      rw [← hw403]
      clear hw403
      clear V_w402 T2_w402 BA_w402
      clear zz
      go_wp2_with fail
      go_roundw
      case rel => exact ⟨j + 1, tk, AC2, cC2, AU2, cU2, AI2, cI2, AS2, cS2, by omega, by go_num, Vw403.out, hnx.out⟩
      case measure => simp [intOf]; omega
    · obtain rfl : j = mN := by omega
      have hbl := Lib.hid (show Blank t from fun p => old_none V.out.ok (by rw [V.out.m, hmN'.out]; exact hold.out) p)
      have hnr := Lib.hid (show Near (dN : Int) t by have := near_zero V.out.ok; rw [V.out.d] at this; rw [← hd2'.out]; exact this)
      have hjm : ¬ (j : Int) < m := by omega
      go_wp2_with fail
      go_loopw [288] (fun ix wr => ∃ (j : Nat) (t : T) (AC : Option Addr) (cC : Nat) (AU : Option Addr) (cU : Nat) (AI : Option Addr) (cI : Nat) (AS : Option Addr) (cS : Nat), j ≤ dN ∧ ix = .int .i64 j ∧ Lv w wr bS i m d nn t AC cC AU cU AI cI AS cS ∧ Blank t ∧ Near ((dN : Int) - j) t) (fun ix _ => dN - (intOf ix).toNat)
      case atStart => exact ⟨0, t, AC, cC, AU, cU, AI, cI, AS, cS, by omega, rfl, V.out, hbl.out, by simpa using hnr.out⟩
      case round =>
        clear V hold hbl hnr hjm
        obtain ⟨j, t, AC, cC, AU, cU, AI, cI, AS, cS, hj, rfl, V, hbl, hnr⟩ := hrel
        replace V := Lib.hid V
        replace hbl := Lib.hid hbl
        replace hnr := Lib.hid hnr
        by_cases hjn : j < dN
        · obtain ⟨tk, htk⟩ : ∃ u, t.tick = u := ⟨_, rfl⟩
          have hsame := Lib.hid (show Same t tk by rw [← htk]; exact same_tick V.out.ok V.out.l)
          have hcT := Lib.hid fun (W : World) (h : Lv w W bS i m d nn t AC cC AU cU AI cI AS cS) => C.tick_ok h.ok h.arg
          rw [htk] at hcT
          have hnx := Lib.hid (show Blank tk ∧ Near ((dN : Int) - ((j + 1 : Nat) : Int)) tk by rw [← htk]; exact ⟨blank_tick V.out.ok hbl.out, near_next V.out.ok hbl.out hnr.out (by omega)⟩)
          replace htk := Lib.hid htk
          have zz := V.out.x.lt
          have hlt9 := Lib.hid V.out.x.lt
          have ho9 := Lib.hid V.out.o
          have o_V_0 := V.out.c (i := 0) rfl
          have o_V_1 := V.out.c (i := 1) rfl
          have o_V_2 := V.out.c (i := 2) rfl
          have o_V_3 := V.out.c (i := 3) rfl
          have o_V_4 := V.out.c (i := 4) rfl
          have o_V_5 := V.out.c (i := 5) rfl
          have o_V_6 := V.out.c (i := 6) rfl
          go_wp2_with fail
          clear o_V_0 o_V_1 o_V_2 o_V_3 o_V_4 o_V_5 o_V_6
          go_at_call 16
          (with_reducible refine (hcT.out _ V.out).mono ?_)
          rintro e w501 ⟨AC2, cC2, AU2, cU2, AI2, cI2, AS2, cS2, AD, cD, rfl, tr2, rd2, hb501, of2⟩
          have V_w501 := Lib.hid (V.out.below hb501)
          have T2_w501 := Lib.hid (tr2)
          clear V
          have off2 := Lib.hid (of2 _ hlt9.out ho9.out)
          clear of2 hcT tr2 rd2 zz
          go_upto_region 57 with fail
          obtain ⟨w502, hw502⟩ : ∃ W, W = w501.alloc (.cells #[.int .i64 tk.self.id, .slice AC2 tk.self.costs.length cC2, .slice AU2 tk.self.ups.length cU2, .slice AI2 tk.self.infos.length cI2, .slice AS2 tk.states.length cS2, .int .i64 tk.mx, .int .i64 tk.dl] 29) := ⟨_, rfl⟩
          have bw502 : Below w501.heap.size w501 w502 := by rw [hw502]; exact (Below.refl _ _).alloc (Nat.le_refl _) _
          have Xw502 : Bx w502 w501.heap.size 29 #[.int .i64 tk.self.id, .slice AC2 tk.self.costs.length cC2, .slice AU2 tk.self.ups.length cU2, .slice AI2 tk.self.infos.length cI2, .slice AS2 tk.states.length cS2, .int .i64 tk.mx, .int .i64 tk.dl] := by rw [hw502]; exact Bx.new _ _ _ rfl
          rw [← hw502]
          clear hw502
          have V_w502 := Lib.hid (V_w501.out.below bw502)
          have T2_w502 := Lib.hid (T2_w501.out.below bw502)
          have BA_w502 := Lib.hid (Xw502)
          have B_w502 := bt hb501 bw502
          clear V_w501 T2_w501 hb501 bw502
          have z0_w502 : w501.heap.size < w502.heap.size := Xw502.lt
          clear Xw502
          have zz := V_w502.out.x.lt
          have o_BA_0 := BA_w502.out.c (i := 0) rfl
          have o_BA_1 := BA_w502.out.c (i := 1) rfl
          have o_BA_2 := BA_w502.out.c (i := 2) rfl
          have o_BA_3 := BA_w502.out.c (i := 3) rfl
          have o_BA_4 := BA_w502.out.c (i := 4) rfl
          have o_BA_5 := BA_w502.out.c (i := 5) rfl
          have o_BA_6 := BA_w502.out.c (i := 6) rfl
          have o_V_0 := V_w502.out.c (i := 0) rfl
          have o_V_1 := V_w502.out.c (i := 1) rfl
          have o_V_2 := V_w502.out.c (i := 2) rfl
          have o_V_3 := V_w502.out.c (i := 3) rfl
          have o_V_4 := V_w502.out.c (i := 4) rfl
          have o_V_5 := V_w502.out.c (i := 5) rfl
          have o_V_6 := V_w502.out.c (i := 6) rfl
          have p_V_0 := V_w502.out.f 0
          have p_V_1 := V_w502.out.f 1
          have p_V_2 := V_w502.out.f 2
          have p_V_3 := V_w502.out.f 3
          have p_V_4 := V_w502.out.f 4
          have p_V_5 := V_w502.out.f 5
          have p_V_6 := V_w502.out.f 6
          go_upto_region 60 with fail
          clear o_BA_0 o_BA_1 o_BA_2 o_BA_3 o_BA_4 o_BA_5 o_BA_6 o_V_0 o_V_1 o_V_2 o_V_3 o_V_4 o_V_5 o_V_6 p_V_0 p_V_1 p_V_2 p_V_3 p_V_4 p_V_5 p_V_6
          obtain ⟨w503, hw503⟩ : ∃ W, W = set7 w502 bS (.int .i64 tk.self.id) (.slice AC2 tk.self.costs.length cC2) (.slice AU2 tk.self.ups.length cU2) (.slice AI2 tk.self.infos.length cI2) (.slice AS2 tk.states.length cS2) (.int .i64 tk.mx) (.int .i64 tk.dl) := ⟨_, rfl⟩
          have Vw503 := Lib.hid (show Lv w w503 bS i m d nn tk AC2 cC2 AU2 cU2 AI2 cI2 AS2 cS2 by rw [hw503]; exact V_w502.out.step (Below.refl _ _) hsame.out T2_w502.out off2.out)
          unfold set7 at hw503
          rw [← hw503]
          clear hw503
          clear V_w502 T2_w502 BA_w502
          clear zz
          go_wp2_with fail
          go_roundw
          case rel => exact ⟨j + 1, tk, AC2, cC2, AU2, cU2, AI2, cI2, AS2, cS2, by omega, by go_num, Vw503.out, hnx.out.1, hnx.out.2⟩
          case measure => simp [intOf]; omega
        · obtain rfl : j = dN := by omega
          have hnr0 := Lib.hid (show Near 0 t by have := hnr.out; rwa [Int.sub_self] at this)
          have hue := V.out.ups
          have hie := V.out.infos
          have hse := V.out.sts
          have hu1 : ((t.self.ups.length : Int) != (nn : Int)) = false := by rw [hue]; simp
          have hi1 : ((t.self.infos.length : Int) != (nn : Int)) = false := by rw [hie]; simp
          have hul : t.self.ups.length ≤ 5 := by omega
          have hil : t.self.infos.length ≤ 5 := by omega
          replace hue := Lib.hid hue
          replace hie := Lib.hid hie
          replace hse := Lib.hid hse
          have V9 := V
          have zz := V.out.x.lt
          have o0 := V.out.c (i := 0) rfl
          have o1 := V.out.c (i := 1) rfl
          have o2 := V.out.c (i := 2) rfl
          have o3 := V.out.c (i := 3) rfl
          have o4 := V.out.c (i := 4) rfl
          have o5 := V.out.c (i := 5) rfl
          have o6 := V.out.c (i := 6) rfl
          go_wp2_with fail
          clear zz o0 o1 o2 o3 o4 o5 o6 hu1 hi1
          go_loopw [40, 318] (fun cu ix wr9 => ∃ k9 : Nat, k9 ≤ t.self.ups.length ∧ ix = .int .i64 k9 ∧ cu = .int .i64 ((List.range k9).flatMap t.upL).length ∧ Lv w wr9 bS i m d nn t AC cC AU cU AI cI AS cS) (fun _ ix _ => t.self.ups.length - (intOf ix).toNat)
          case atStart => exact ⟨0, by omega, rfl, rfl, V9.out⟩
          case round =>
            clear V V9
            obtain ⟨k9, hk9, rfl, rfl, V⟩ := hrel
            have hcl := upl_len t k9
            by_cases hkn9 : k9 < t.self.ups.length
            · obtain ⟨bU, oU, hAU, hbU, u0⟩ := BoolP.SlB.at_ V.r.self.ups.sl (up_at (s := t.self) (p := k9) hkn9)
              obtain ⟨bI, oI, hAI, hbI, q0, q1, q2, q3, q4, q5⟩ := SlN.at_ V.r.self.infos.sl (info_at (s := t.self) (p := k9) (by have := hue.out; have := hie.out; omega))
              subst hAU
              subst hAI
              rw [hbl.out k9] at q0 q1 q2 q3 q4 q5
              replace q0 : wr.cell? ⟨bI, oI + k9 * 6, none⟩ = some (.bool false) := q0
              replace q1 : wr.cell? ⟨bI, oI + k9 * 6 + 1, none⟩ = some (.int .i64 0) := q1
              replace q2 : wr.cell? ⟨bI, oI + k9 * 6 + 2, none⟩ = some (.int .i64 0) := q2
              replace q3 : wr.cell? ⟨bI, oI + k9 * 6 + 3, none⟩ = some (.int .i64 0) := q3
              replace q4 : wr.cell? ⟨bI, oI + k9 * 6 + 4, none⟩ = some (.int .i64 0) := q4
              replace q5 : wr.cell? ⟨bI, oI + k9 * 6 + 5, none⟩ = some (.int .i64 0) := q5
              have hk1 : (k9 : Int) < (t.self.ups.length : Int) := by omega
              have hk2 : (k9 : Int) < (t.self.infos.length : Int) := by have := hue.out; have := hie.out; omega
              have hfs := flat_succ t.upL k9
              have hne := neq_n0
              obtain ⟨ub, hub⟩ : ∃ u, t.self.up k9 = u := ⟨_, rfl⟩
              rw [hub] at u0
              have hlen9 : ((List.range (k9 + 1)).flatMap t.upL).length = ((List.range k9).flatMap t.upL).length + (if ub = true then 1 else 0) := by rw [hfs, List.length_append]; congr 1; unfold T.upL; rw [hub]; cases ub <;> rfl
              clear hfs
              replace hub := Lib.hid hub
              obtain ⟨cn, hcn⟩ : ∃ x, ((List.range k9).flatMap t.upL).length = x := ⟨_, rfl⟩
              rw [hcn] at hlen9 hcl
              rw [hcn]
              replace hcn := Lib.hid hcn
              replace hlen9 := Lib.hid hlen9
              replace V := Lib.hid V
              have zz := V.out.x.lt
              have o0 := V.out.c (i := 0) rfl
              have o1 := V.out.c (i := 1) rfl
              have o2 := V.out.c (i := 2) rfl
              have o3 := V.out.c (i := 3) rfl
              have o4 := V.out.c (i := 4) rfl
              have o5 := V.out.c (i := 5) rfl
              have o6 := V.out.c (i := 6) rfl
              cases ub
              · go_wp2_with fail
                go_roundw
                case rel => exact ⟨k9 + 1, by omega, by go_num, by rw [hlen9.out]; rfl, V.out⟩
                case measure => simp [intOf]; omega
              · go_wp2_with fail
                go_roundw
                case rel => exact ⟨k9 + 1, by omega, by go_num, by rw [hlen9.out]; rfl, V.out⟩
                case measure => simp [intOf]; omega
            · obtain rfl : k9 = t.self.ups.length := by omega
              have hU : ((List.range t.self.ups.length).flatMap t.upL).length = t.ups := by unfold T.ups; rw [hse.out, hue.out]
              rw [hU]
              obtain ⟨U, hUU⟩ : ∃ x, t.ups = x := ⟨_, rfl⟩
              rw [hUU]
              have hs1 : t.tick.sends.length = U := by rw [← hUU]; exact sends_ups V.ok hbl.out
              have hf1 : t.fwd.length = U := by rw [← hUU]; exact fwd_ups V.ok hbl.out hnr0.out
              have hcT := Lib.hid fun (W : World) (h : Lv w W bS i m d nn t AC cC AU cU AI cI AS cS) => C.tick_ok h.ok h.arg
              have hcF := Lib.hid fun (W : World) (h : Lv w W bS i m d nn t AC cC AU cU AI cI AS cS) => C.fwd_ok h.ok h.arg
              have hrt := Lib.hid (show t.self.tells 0 = ⟨i, 0, i, 0⟩ by rw [blank_tells (blank_has hbl.out), V.id])
              have hri := Lib.hid (show t.self.rootI = -1 by unfold S.rootI; rw [blank_root (blank_has hbl.out)]; rfl)
              have htko := Lib.hid (ok_headT V.ok).1
              have heq := eql_v0 i
              have cA := Lib.hid fun W => alive_any C W
              rw [hU, hUU] at hcl
              replace hU := Lib.hid hU
              replace hUU := Lib.hid hUU
              replace hs1 := Lib.hid hs1
              replace hf1 := Lib.hid hf1
              replace V := Lib.hid V
              have zz := V.out.x.lt
              have o_V_0 := V.out.c (i := 0) rfl
              have o_V_1 := V.out.c (i := 1) rfl
              have o_V_2 := V.out.c (i := 2) rfl
              have o_V_3 := V.out.c (i := 3) rfl
              have o_V_4 := V.out.c (i := 4) rfl
              have o_V_5 := V.out.c (i := 5) rfl
              have o_V_6 := V.out.c (i := 6) rfl
              go_wp2_with fail
              clear o_V_0 o_V_1 o_V_2 o_V_3 o_V_4 o_V_5 o_V_6
              go_at_call 16
              (with_reducible refine (hcT.out _ V.out).mono ?_)
              rintro e w901 ⟨AC2, cC2, AU2, cU2, AI2, cI2, AS2, cS2, AD, cD, rfl, tr2, rd2, hb901, _⟩
              have V_w901 := Lib.hid (V.out.below hb901)
              clear V
              clear tr2 rd2 hcT zz
              rw [hs1.out]
              go_upto_region 73 with fail
              obtain ⟨w902, hw902⟩ : ∃ W, W = w901.alloc (.cells #[.int .i64 t.tick.self.id, .slice AC2 t.tick.self.costs.length cC2, .slice AU2 t.tick.self.ups.length cU2, .slice AI2 t.tick.self.infos.length cI2, .slice AS2 t.tick.states.length cS2, .int .i64 t.tick.mx, .int .i64 t.tick.dl] 29) := ⟨_, rfl⟩
              have bw902 : Below w901.heap.size w901 w902 := by rw [hw902]; exact (Below.refl _ _).alloc (Nat.le_refl _) _
              have Xw902 : Bx w902 w901.heap.size 29 #[.int .i64 t.tick.self.id, .slice AC2 t.tick.self.costs.length cC2, .slice AU2 t.tick.self.ups.length cU2, .slice AI2 t.tick.self.infos.length cI2, .slice AS2 t.tick.states.length cS2, .int .i64 t.tick.mx, .int .i64 t.tick.dl] := by rw [hw902]; exact Bx.new _ _ _ rfl
              rw [← hw902]
              clear hw902
              have V_w902 := Lib.hid (V_w901.out.below bw902)
              have BA_w902 := Lib.hid (Xw902)
              have B_w902 := bt hb901 bw902
              clear V_w901 hb901 bw902
              have z0_w902 : w901.heap.size < w902.heap.size := Xw902.lt
              clear Xw902
              have zz := V_w902.out.x.lt
              have o_V_0 := V_w902.out.c (i := 0) rfl
              have o_V_1 := V_w902.out.c (i := 1) rfl
              have o_V_2 := V_w902.out.c (i := 2) rfl
              have o_V_3 := V_w902.out.c (i := 3) rfl
              have o_V_4 := V_w902.out.c (i := 4) rfl
              have o_V_5 := V_w902.out.c (i := 5) rfl
              have o_V_6 := V_w902.out.c (i := 6) rfl
              go_wp2_with fail
              clear o_V_0 o_V_1 o_V_2 o_V_3 o_V_4 o_V_5 o_V_6
              go_at_call 18
              (with_reducible refine (hcF.out _ V_w902.out).mono ?_)
              rintro e w903 ⟨AW, cW, rfl, rw9, hb903⟩
              have V_w903 := Lib.hid (V_w902.out.below hb903)
              have BA_w903 := Lib.hid (BA_w902.out.below hb903)
              have z0_w903 : w901.heap.size < w903.heap.size := Nat.lt_of_lt_of_le z0_w902 hb903.size
              have B_w903 := bt B_w902 hb903
              clear V_w902 BA_w902 z0_w902 B_w902 hb903
              clear rw9 hcF zz
              rw [hf1.out]
              have zz := V_w903.out.x.lt
              have o_V_0 := V_w903.out.c (i := 0) rfl
              have o_V_1 := V_w903.out.c (i := 1) rfl
              have o_V_2 := V_w903.out.c (i := 2) rfl
              have o_V_3 := V_w903.out.c (i := 3) rfl
              have o_V_4 := V_w903.out.c (i := 4) rfl
              have o_V_5 := V_w903.out.c (i := 5) rfl
              have o_V_6 := V_w903.out.c (i := 6) rfl
              go_wp2_with fail
              clear o_V_0 o_V_1 o_V_2 o_V_3 o_V_4 o_V_5 o_V_6
              go_at_call 24
              (with_reducible refine (root_to htko.out ⟨V_w903.out.l.c, V_w903.out.l.u, V_w903.out.l.n⟩ hrt.out hri.out V_w903.out.r.self).mono ?_)
              rintro e w904 ⟨rfl, hb904⟩
              have V_w904 := Lib.hid (V_w903.out.below hb904)
              have BA_w904 := Lib.hid (BA_w903.out.below hb904)
              have z0_w904 : w901.heap.size < w904.heap.size := Nat.lt_of_lt_of_le z0_w903 hb904.size
              have B_w904 := bt B_w903 hb904
              clear V_w903 BA_w903 z0_w903 B_w903 hb904
              clear zz
              go_upto_region 75 with fail
              obtain ⟨w905, hw905⟩ : ∃ W, W = w904.alloc (.cells #[.int .i64 i, .int .i64 0, .int .i64 i, .int .i64 0] 31) := ⟨_, rfl⟩
              have bw905 : Below w904.heap.size w904 w905 := by rw [hw905]; exact (Below.refl _ _).alloc (Nat.le_refl _) _
              have Xw905 : Bx w905 w904.heap.size 31 #[.int .i64 i, .int .i64 0, .int .i64 i, .int .i64 0] := by rw [hw905]; exact Bx.new _ _ _ rfl
              rw [← hw905]
              clear hw905
              have V_w905 := Lib.hid (V_w904.out.below bw905)
              have BA_w905 := Lib.hid (BA_w904.out.below bw905)
              have BV_w905 := Lib.hid (Xw905)
              have z0_w905 : w901.heap.size < w905.heap.size := Nat.lt_of_lt_of_le z0_w904 bw905.size
              have B_w905 := bt B_w904 bw905
              clear V_w904 BA_w904 z0_w904 B_w904 bw905
              have z1_w905 : w904.heap.size < w905.heap.size := Xw905.lt
              clear Xw905
              go_wp2_with fail
              go_at_call 11
              (with_reducible refine (cA.out _).mono ?_)
              rintro e w906 ⟨rfl, hb906⟩
              have V_w906 := Lib.hid (V_w905.out.below hb906)
              have BA_w906 := Lib.hid (BA_w905.out.below hb906)
              have BV_w906 := Lib.hid (BV_w905.out.below hb906)
              have z0_w906 : w901.heap.size < w906.heap.size := Nat.lt_of_lt_of_le z0_w905 hb906.size
              have z1_w906 : w904.heap.size < w906.heap.size := Nat.lt_of_lt_of_le z1_w905 hb906.size
              have B_w906 := bt B_w905 hb906
              clear V_w905 BA_w905 BV_w905 z0_w905 z1_w905 B_w905 hb906
              have o_BV_0 := BV_w906.out.c (i := 0) rfl
              have o_BV_1 := BV_w906.out.c (i := 1) rfl
              have o_BV_2 := BV_w906.out.c (i := 2) rfl
              have o_BV_3 := BV_w906.out.c (i := 3) rfl
              have hb9 := Lib.hid V_w906.out.b
              go_wp2_with fail
              go_ret
              exact ⟨rfl, hb9.out⟩
end Go.Proofs.Ytidoaccidmmalaa.StpP

/-
  StpAges, by the contracts of stp's own functions, and of role.Root.
-/
namespace Go.Proofs.Ytidoaccidmmalaa.StpP
open Go.Proofs.Ytidoaccidmmalaa.MacP (arr_out Wrote wp_region_ends outM)
open Go.RowKit Go.Sort Go.Proofs.Ytidoaccidmmalaa.SliceP Go.Proofs.Ytidoaccidmmalaa.BoxP Go.Proofs.Ytidoaccidmmalaa.VecP Go.Proofs.Ytidoaccidmmalaa.RoleP
open Go.Proofs.Ytidoaccidmmalaa.IntP (RowI SlI OwnI)
open Go.Proofs.Ytidoaccidmmalaa.BoolP (RowB SlB OwnB)
open Go.Proofs.Ytidoaccidmmalaa.PortP (okS roleS tickS sv)
set_option linter.unusedVariables false
set_option maxRecDepth 100000
set_option maxHeartbeats 64000000 in
theorem ages_law (C : StpC) {w : World} {AL : Option Addr} {L : List Int} {cL : Nat} (hL : RowI w AL L.length cL L) (hcL : cL ≤ 9223372036854775807) {A4 : Option Addr} {n4 c4 : Nat} (h4 : Row4 w A4 n4 c4) (id0 most0 delay0 : Int) :
    Calls Try.prog 5 #[.int .i64 id0, .slice AL L.length cL, .int .i64 most0, .int .i64 delay0, .slice A4 n4 c4] w (True1 w) := by
  show Calls Try.prog 5 #[.int .i64 id0, .slice AL L.length cL, .int .i64 most0, .int .i64 delay0, .slice A4 n4 c4] w fun e w' => e = .returned (.bool true) ∧ Below w.heap.size w w'
  obtain ⟨i1, i2⟩ := mod_b id0 6 (by omega) (by omega)
  obtain ⟨m1, m2⟩ := mod_b most0 20 (by omega) (by omega)
  obtain ⟨d1, d2⟩ := mod_b delay0 4 (by omega) (by omega)
  obtain ⟨i, hi⟩ : ∃ x, (wrap64 (id0.tmod 6 + 6)).tmod 6 = x := ⟨_, rfl⟩
  obtain ⟨mx, hmx⟩ : ∃ x, (wrap64 (most0.tmod 20 + 20)).tmod 20 = x := ⟨_, rfl⟩
  obtain ⟨dx, hdx⟩ : ∃ x, (wrap64 (delay0.tmod 4 + 4)).tmod 4 = x := ⟨_, rfl⟩
  rw [hi] at i1 i2
  rw [hmx] at m1 m2
  rw [hdx] at d1 d2
  obtain ⟨m, hm⟩ : ∃ x, 1 + mx = x := ⟨_, rfl⟩
  obtain ⟨d, hd⟩ : ∃ x, 1 + dx = x := ⟨_, rfl⟩
  have hmb : 1 ≤ m ∧ m ≤ 20 := by omega
  have hdb : 1 ≤ d ∧ d ≤ 4 := by omega
  obtain ⟨M, hM⟩ : ∃ M, L.take 4 = M := ⟨_, rfl⟩
  have hMr : RowI w AL M.length cL M := by rw [← hM]; exact ⟨rfl, hL.sl.take 4, by rw [List.length_take]; have := hL.cap; omega, hL.nil⟩
  have hMl : M.length ≤ 4 := by rw [← hM, List.length_take]; omega
  have hMn : M.length = min L.length 4 := by rw [← hM, List.length_take, Nat.min_comm]
  obtain ⟨n, hn⟩ : ∃ n, M.length = n := ⟨_, rfl⟩
  have q1 : min (L.length : Int) 4 = (n : Int) := by omega
  have p1 : (if (4 : Int) < (L.length : Int) then (4 : Int) else (L.length : Int)) = (n : Int) := by split <;> omega
  have r1 : n ≤ cL := by have := hL.cap; omega
  have hn4 : n ≤ 4 := by omega
  have hlenL := hL.cap
  rw [hn] at hMr
  have hMr0 := Lib.hid hMr
  clear hL hMr hMl hMn
  replace hM := Lib.hid hM
  have hn' := Lib.hid hn
  clear hn
  have H4 := Lib.hid h4
  have h4a := h4.cap
  have h4b := h4.big
  clear h4
  go_enter Try.func5, Try.ntmps5
  go_wp2_with fail
  go_loopw [11, 71] (fun v3 ix wr => ∃ (k : Nat) (K : List Int), k ≤ n ∧ ix = .int .i64 k ∧ K = (M.take k).map fC ∧ OwnI wr w.heap.size v3 K ∧ Below w.heap.size w wr) (fun _ ix _ => n - (intOf ix).toNat)
  case atStart => exact ⟨0, [], by omega, rfl, by simp, Own.nil _ _ _ _, Below.refl _ _⟩
  case round =>
    obtain ⟨k, K, hk, rfl, hK, hown, hb⟩ := hrel
    obtain ⟨A3, c3, hv3⟩ := IntP.OwnI.form' hown
    subst hv3
    by_cases hkn : k < n
    · obtain ⟨y, hy⟩ : ∃ y, M[k]? = some y := ⟨_, List.getElem?_eq_getElem (by rw [hn'.out]; exact hkn)⟩
      obtain ⟨bL, oL, hAL, hbL, qL⟩ := IntP.SlI.at_ (hMr0.out.below hb).sl hy
      subst hAL
      have hkl : (k : Int) < (n : Int) := by omega
      obtain ⟨y1, y2⟩ := mod_b y 9 (by omega) (by omega)
      obtain ⟨yx, hyx⟩ : ∃ x, (wrap64 (y.tmod 9 + 9)).tmod 9 = x := ⟨_, rfl⟩
      rw [hyx] at y1 y2
      obtain ⟨z, hz⟩ : ∃ x, 1 + yx = x := ⟨_, rfl⟩
      have hlenK := Lib.hid (show K.length = k by rw [hK, List.length_map, List.length_take, hn'.out]; omega)
      have hs := Lib.hid (show K ++ [z] = (M.take (k + 1)).map fC by rw [List.take_add_one, hy, List.map_append, hK, ← hz, ← hyx]; rfl)
      replace hK := Lib.hid hK
      replace hy := Lib.hid hy
      obtain ⟨w8, hw8⟩ : ∃ W, W = wr.alloc (.cells #[.int .i64 z] 3) := ⟨_, rfl⟩
      have b8 : Below wr.heap.size wr w8 := by rw [hw8]; exact (Below.refl _ _).alloc (Nat.le_refl _) _
      have hsl := Lib.hid (show Sl w8 1 (some ⟨wr.heap.size, 0, none⟩) (IntP.cI [z]) from bx_sl (T := 3) (vals := #[.int .i64 z]) (by rw [hw8]; exact Bx.new _ _ _ rfl) rfl (by intro c hc; simp [IntP.cI] at hc; subst hc; rfl))
      have own8 := Lib.hid (hown.below b8)
      have hb8 := Lib.hid (bt hb b8)
      have hn1 : Hid ((IntP.cI K).length + (IntP.cI [z]).length ≤ 1000000) := Lib.hid (by rw [IntP.cI_length, IntP.cI_length, hlenK.out]; simp; omega)
      have hvl : Hid ((IntP.cI K).length = K.length) := Lib.hid (IntP.cI_length K)
      have hB2 : Hid (w.heap.size ≤ w8.heap.size) := Lib.hid hb8.out.size
      clear b8 hb hown
      go_wp2_with (at_builtin; rw [← hw8]; (refine wpList_append_sl rfl (.tmp 75) (.tmp 81) 22 rfl IntP.elI (by rfl) own8.out (by rfl) (by rfl) hsl.out (IntP.whole [z]) (fun h => by cases h) hn1.out hB2.out ?_); intro v' w4 own1 grow1 _)
      have b4 : Below w.heap.size w w4 := hb8.out.grown grow1 hb8.out.size (fun j hj => (own8.out.lt j hj).1)
      go_roundw
      case rel => exact ⟨k + 1, K ++ [z], by omega, by go_num, hs.out, by unfold OwnI; rw [IntP.cI_append]; exact own1, b4⟩
      case measure => simp [intOf]; omega
    · obtain rfl : k = n := by omega
      obtain rfl : K = M.map fC := by rw [hK, List.take_of_length_le (by rw [hn'.out]; exact Nat.le_refl _)]
      clear hK
      have hlenK := Lib.hid (show (M.map fC).length = k by rw [List.length_map, hn'.out])
      obtain ⟨K, hKK⟩ : ∃ K, M.map fC = K := ⟨_, rfl⟩
      rw [hKK] at hown hlenK
      rw [hKK]
      obtain ⟨w8, hw8⟩ : ∃ W, W = wr.alloc (.cells #[.int .i64 1] 3) := ⟨_, rfl⟩
      have b8 : Below wr.heap.size wr w8 := by rw [hw8]; exact (Below.refl _ _).alloc (Nat.le_refl _) _
      have hsl := Lib.hid (show Sl w8 1 (some ⟨wr.heap.size, 0, none⟩) (IntP.cI [1]) from bx_sl (T := 3) (vals := #[.int .i64 1]) (by rw [hw8]; exact Bx.new _ _ _ rfl) rfl (by intro c hc; simp [IntP.cI] at hc; subst hc; rfl))
      have own8 := Lib.hid (hown.below b8)
      have hb8 := Lib.hid (bt hb b8)
      have hn1 : Hid ((IntP.cI K).length + (IntP.cI [1]).length ≤ 1000000) := Lib.hid (by rw [IntP.cI_length, IntP.cI_length, hlenK.out]; simp; omega)
      have hvl : Hid ((IntP.cI K).length = K.length) := Lib.hid (IntP.cI_length K)
      have hB2 : Hid (w.heap.size ≤ w8.heap.size) := Lib.hid hb8.out.size
      replace hKK := Lib.hid hKK
      clear b8 hb hown
      go_upto_region 9 with (at_builtin; rw [← hw8]; (refine wpList_append_sl rfl (.tmp 84) (.tmp 85) 22 rfl IntP.elI (by rfl) own8.out (by rfl) (by rfl) hsl.out (IntP.whole [1]) (fun h => by cases h) hn1.out hB2.out ?_); intro v' w0 own1 grow1 _)
      obtain ⟨Cs, hCs⟩ : ∃ Cs, K ++ [1] = Cs := ⟨_, rfl⟩
      have own0 : OwnI w0 w.heap.size v' Cs := by rw [← hCs]; unfold OwnI; rw [IntP.cI_append]; exact own1
      have B0 : Below w.heap.size w w0 := hb8.out.grown grow1 hb8.out.size (fun j hj => (own8.out.lt j hj).1)
      have hall : ∀ x ∈ Cs, 1 ≤ x ∧ x ≤ 9 := by
        intro x hx
        rw [← hCs, List.mem_append] at hx
        rcases hx with hx | hx
        · rw [← hKK.out] at hx
          obtain ⟨y, _, rfl⟩ := List.mem_map.1 hx
          exact fC_bd y
        · obtain rfl : x = 1 := by simpa using hx
          omega
      have hCl : Cs.length = k + 1 := by rw [← hCs, List.length_append, hlenK.out]; rfl
      obtain ⟨nn, hnn⟩ : ∃ nn, Cs.length = nn := ⟨_, rfl⟩
      have hnb : 1 ≤ nn ∧ nn ≤ 5 := by omega
      obtain ⟨AK, cK, hv⟩ := IntP.OwnI.form' own0
      rw [hnn] at hv
      subst hv
      have row0 : RowI w0 AK nn cK Cs := IntP.own_row own0
      have hnew : newOk i Cs m d = true := new_ok_of (by omega) (by omega) (by omega) (by omega) (fun p hp => by
        rw [List.getD_eq_getElem?_getD, List.getElem?_eq_getElem hp]
        have := hall _ (List.getElem_mem hp)
        exact ⟨this.1, by show Cs[p] ≤ 1000; omega⟩) hmb.1 (by omega) hdb.1 (by omega)
      have hcN : Calls Try.prog 7 #[.int .i64 i, .slice AK nn cK, .int .i64 m, .int .i64 d] w0 (RetT w0 (fun b => Off b AK Cs) (newT i Cs m d) (fun v => .tuple #[v, .int .i64 0])) := by
        have := C.new_ok hnew (by omega) (by rw [hnn]; exact row0)
        rwa [hnn] at this
      obtain ⟨t0, ht0⟩ : ∃ t, newT i Cs m d = t := ⟨_, rfl⟩
      have t0ok : t0.ok = true := by rw [← ht0]; exact newT_ok hnew
      have t0n : t0.self.costs.length = nn := by rw [← ht0]; exact hnn
      have t0i : t0.self.id = i := by rw [← ht0]; rfl
      have t0m : t0.mx = m := by rw [← ht0]; rfl
      have t0d : t0.dl = d := by rw [← ht0]; rfl
      have t0l : Len t0 := by
        have hh := head_iff.1 (ok_head (ok_headT t0ok).1)
        have h2 := (ok_headT t0ok).2.1
        exact ⟨by omega, by omega, by omega, by omega⟩
      rw [ht0] at hcN
      replace hcN := Lib.hid hcN
      have T0ok := Lib.hid (show t0.ok = true ∧ t0.self.id = i ∧ t0.self.costs.length = nn ∧ t0.mx = m ∧ t0.dl = d ∧ Len t0 from ⟨t0ok, t0i, t0n, t0m, t0d, t0l⟩)
      clear t0ok t0n t0i t0m t0d t0l
      replace ht0 := Lib.hid ht0
      replace hCs := Lib.hid hCs
      replace hnn := Lib.hid hnn
      replace hCl := Lib.hid hCl
      clear own1 own0 grow1 hall hnew row0 own8 hb8 hn1 hvl hB2 hsl hw8 hKK hlenK
      go_wp2_with fail
      go_at_call 7
      (with_reducible refine (hcN.out).mono ?_)
      rintro e w1 ⟨AC1, cC1, AU1, cU1, AI1, cI1, AS1, cS1, rfl, tr1, hb1, _⟩
      have T_w1 := Lib.hid (tr1)
      have B_w1 := bt B0 hb1
      clear B0 hb1
      clear tr1 hcN
      go_upto_region 10 with fail
      obtain ⟨w2, hw2⟩ : ∃ W, W = w1.alloc (.cells #[.int .i64 t0.self.id, .slice AC1 t0.self.costs.length cC1, .slice AU1 t0.self.ups.length cU1, .slice AI1 t0.self.infos.length cI1, .slice AS1 t0.states.length cS1, .int .i64 t0.mx, .int .i64 t0.dl] 29) := ⟨_, rfl⟩
      have bw2 : Below w1.heap.size w1 w2 := by rw [hw2]; exact (Below.refl _ _).alloc (Nat.le_refl _) _
      have Xw2 : Bx w2 w1.heap.size 29 #[.int .i64 t0.self.id, .slice AC1 t0.self.costs.length cC1, .slice AU1 t0.self.ups.length cU1, .slice AI1 t0.self.infos.length cI1, .slice AS1 t0.states.length cS1, .int .i64 t0.mx, .int .i64 t0.dl] := by rw [hw2]; exact Bx.new _ _ _ rfl
      rw [← hw2]
      clear hw2
      have hT9 := T_w1
      have B9 := Lib.hid B_w1
      have T_w2 := Lib.hid (T_w1.out.below bw2)
      have BS_w2 := Lib.hid (Xw2)
      have B_w2 := bt B_w1 bw2
      clear T_w1 B_w1 bw2
      have z0_w2 : w1.heap.size < w2.heap.size := Xw2.lt
      clear Xw2
      obtain ⟨bS, hbS⟩ : ∃ b, w1.heap.size = b := ⟨_, rfl⟩
      have V0 := Lib.hid (show Lv w w2 bS i m d nn t0 AC1 cC1 AU1 cU1 AI1 cI1 AS1 cS1 from by
        obtain ⟨e1, e2, e3, e4, e5, e6⟩ := T0ok.out
        rw [← hbS]
        exact ⟨B_w2, BS_w2.out, T_w2.out, (hT9.out.off (Nat.le_refl _)), e1, e2, e3, e4, e5, e6, (B9.out).size⟩)
      rw [hbS]
      clear hbS
      clear BS_w2 T_w2 B_w2 z0_w2 T0ok hT9 B9
      have hnz : ¬ (nn : Int) = 0 := by omega
      have hnz2 : ((nn : Int) == 0) = false := by simpa using hnz
      obtain ⟨n6, hn6⟩ : ∃ x, min n4 60 = x := ⟨_, rfl⟩
      have q6 : min (n4 : Int) 60 = (n6 : Int) := by omega
      have p6 : (if (60 : Int) < (n4 : Int) then (60 : Int) else (n4 : Int)) = (n6 : Int) := by split <;> omega
      have r6 : n6 ≤ c4 := by omega
      have r60 : n6 ≤ 60 := by omega
      have r64 := Lib.hid (show n6 ≤ n4 by omega)
      replace hn6 := Lib.hid hn6
      go_upto_region 12 with fail
      go_cut [16] from 97 to 98 (fun c wx => c = .int .i64 nn ∧ wx = w2)
      case first =>
        go_wp2_with fail
        go_meet
        case rel => exact ⟨rfl, rfl⟩
      obtain ⟨rfl, rfl⟩ := hcut
      go_step
      apply wp_seq_k
      intro _ _
      go_cut [10, 17, 18, 19, 20, 21, 22, 23, 24, 25, 26, 27, 28, 29, 30, 31, 32, 33] from 99 to 272 (fun s10 s17 s18 s19 s20 s21 s22 s23 s24 s25 s26 s27 s28 s29 s30 s31 s32 s33 wx => ∃ (t : T) (AC : Option Addr) (cC : Nat) (AU : Option Addr) (cU : Nat) (AI : Option Addr) (cI : Nat) (AS : Option Addr) (cS : Nat), Lv w wx bS i m d nn t AC cC AU cU AI cI AS cS)
      case rest =>
        clear V0
        obtain ⟨t, AC, cC, AU, cU, AI, cI, AS, cS, V⟩ := hcut
        go_step
        exact ages_tail C hmb hdb hnb V
      case first =>
        go_wp2_with fail
        go_loopw [105] (fun ix wr => ∃ (k : Nat) (t : T) (AC : Option Addr) (cC : Nat) (AU : Option Addr) (cU : Nat) (AI : Option Addr) (cI : Nat) (AS : Option Addr) (cS : Nat), k ≤ n6 ∧ ix = .int .i64 k ∧ Lv w wr bS i m d nn t AC cC AU cU AI cI AS cS) (fun ix _ => n6 - (intOf ix).toNat)
        case atStart => exact ⟨0, t0, AC1, cC1, AU1, cU1, AI1, cI1, AS1, cS1, by omega, rfl, V0.out⟩
        case round =>
          clear V0
          obtain ⟨k, t, AC, cC, AU, cU, AI, cI, AS, cS, hk, rfl, V⟩ := hrel
          replace V := Lib.hid V
          by_cases hkn : k < n6
          · obtain ⟨bX, oX, x0, x1, x2, x3, hA4, hbX, c0, c1, c2, c3⟩ := H4.out.at_ k (Nat.lt_of_lt_of_le hkn r64.out)
            subst hA4
            have hBw := V.out.b
            replace c0 := (hBw.cell (p := ⟨bX, _, none⟩) hbX).trans c0
            replace c1 := (hBw.cell (p := ⟨bX, _, none⟩) hbX).trans c1
            replace c2 := (hBw.cell (p := ⟨bX, _, none⟩) hbX).trans c2
            replace c3 := (hBw.cell (p := ⟨bX, _, none⟩) hbX).trans c3
            replace hbX := Nat.lt_of_lt_of_le hbX hBw.size
            have hkl : (k : Int) < (n6 : Int) := by omega
            obtain ⟨y1, y2⟩ := mod_b x1 nn (by omega) (by omega)
            obtain ⟨pz, hpz⟩ : ∃ x, (wrap64 (x1.tmod (nn : Int) + (nn : Int))).tmod (nn : Int) = x := ⟨_, rfl⟩
            rw [hpz] at y1 y2
            obtain ⟨p, rfl⟩ : ∃ p : Nat, pz = p := ⟨pz.toNat, by omega⟩
            have hpn := Lib.hid (show p < nn by omega)
            obtain ⟨z1, z2⟩ := mod_b x0 8 (by omega) (by omega)
            obtain ⟨kd, hkd⟩ : ∃ x, (wrap64 (x0.tmod 8 + 8)).tmod 8 = x := ⟨_, rfl⟩
            rw [hkd] at z1 z2
            clear hBw
            go_upto_region 16 with fail
            obtain ⟨w21, hw21⟩ : ∃ W, W = wr.alloc (.cells #[.int .i64 x0, .int .i64 x1, .int .i64 x2, .int .i64 x3] 62) := ⟨_, rfl⟩
            have bw21 : Below wr.heap.size wr w21 := by rw [hw21]; exact (Below.refl _ _).alloc (Nat.le_refl _) _
            have Xw21 : Bx w21 wr.heap.size 62 #[.int .i64 x0, .int .i64 x1, .int .i64 x2, .int .i64 x3] := by rw [hw21]; exact Bx.new _ _ _ rfl
            rw [← hw21]
            clear hw21
            have V_w21 := Lib.hid (V.out.below bw21)
            have X4_w21 := Lib.hid (Xw21)
            clear V
            have z0_w21 : wr.heap.size < w21.heap.size := Xw21.lt
            clear Xw21
            clear c0 c1 c2 c3 hbX
            have zz := V_w21.out.x.lt
            have o_X4_0 := X4_w21.out.c (i := 0) rfl
            have o_X4_1 := X4_w21.out.c (i := 1) rfl
            have o_X4_2 := X4_w21.out.c (i := 2) rfl
            have o_X4_3 := X4_w21.out.c (i := 3) rfl
            go_upto_block 4 with fail
            clear o_X4_0 o_X4_1 o_X4_2 o_X4_3
            clear zz
            refine ages_switch C hpn.out V_w21.out X4_w21.out ?_
            intro s10 s20 s21 s22 s23 s24 s25 s26 s27 s28 s30 s31 s32 s33 s122 s123 s124 s125 s126 s127 s128 s129 s130 s131 s132 s133 s134 s135 s136 s137 s138 s139 s140 s141 s142 s143 s144 s145 s146 s147 s148 s149 s150 s151 s152 s153 s154 s155 s156 s157 s158 s159 s160 s161 s162 s163 s164 s165 s166 s167 s168 s169 s170 s171 s172 s173 s174 s175 s176 s177 s178 s179 s180 s181 s182 s183 s184 s185 s186 s187 s188 s189 s190 s191 s192 s193 s194 s195 s196 s197 s198 s199 s200 s201 s202 s203 s204 s205 s206 s207 s208 s209 s210 s211 s212 s213 s214 s215 s216 s217 s218 s219 s220 s221 s222 s223 s224 s225 s226 s227 s228 s229 s230 s231 s232 s233 s234 s235 s236 s237 s238 s239 s240 s241 s242 s243 s244 s245 s246 s247 s248 s249 s250 s251 s252 s253 s254 s255 s256 s257 s258 s259 s260 s261 s262 s263 s264 s265 s266 s267 s268 wc t AC cC AU cU AI cI AS cS V
            clear V_w21 X4_w21 z0_w21 bw21
            go_step
            replace V := Lib.hid V
            have zz := V.out.x.lt
            have o_V_0 := V.out.c (i := 0) rfl
            have o_V_1 := V.out.c (i := 1) rfl
            have o_V_2 := V.out.c (i := 2) rfl
            have o_V_3 := V.out.c (i := 3) rfl
            have o_V_4 := V.out.c (i := 4) rfl
            have o_V_5 := V.out.c (i := 5) rfl
            have o_V_6 := V.out.c (i := 6) rfl
            go_wp2_with fail
            clear o_V_0 o_V_1 o_V_2 o_V_3 o_V_4 o_V_5 o_V_6
            go_at_call 9
            (with_reducible refine (right_to C V.out.ok V.out.arg).mono ?_)
            rintro e w31 ⟨rfl, hb31⟩
            have V_w31 := Lib.hid (V.out.below hb31)
            clear V
            clear zz
            go_wp2_with fail
            go_roundw
            case rel => exact ⟨k + 1, t, AC, cC, AU, cU, AI, cI, AS, cS, by omega, by go_num, V_w31.out⟩
            case measure => simp [intOf]; omega
          · obtain rfl : k = n6 := by omega
            go_wp2_with fail
            go_meet
            case rel => exact ⟨t, AC, cC, AU, cU, AI, cI, AS, cS, V.out⟩
end Go.Proofs.Ytidoaccidmmalaa.StpP
