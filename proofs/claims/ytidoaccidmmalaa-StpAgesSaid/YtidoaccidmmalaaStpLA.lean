/-
  StpAges: what comes ahead; one act of the script.
-/
import Derived.Test.YtidoaccidmmalaaStpN
import Derived.Test.YtidoaccidmmalaaStpX
import Derived.Test.YtidoaccidmmalaaStpT
import Derived.Test.YtidoaccidmmalaaRoleIE
import Derived.IntWalk
import Derived.Deep.CutBlock
namespace Go.Proofs.Ytidoaccidmmalaa.StpP
open Go.Proofs.Ytidoaccidmmalaa.MacP (arr_out Wrote wp_region_ends outM)
open Go.RowKit Go.Sort Go.Proofs.Ytidoaccidmmalaa.SliceP Go.Proofs.Ytidoaccidmmalaa.BoxP Go.Proofs.Ytidoaccidmmalaa.VecP Go.Proofs.Ytidoaccidmmalaa.RoleP
open Go.Proofs.Ytidoaccidmmalaa.IntP (RowI SlI OwnI)
open Go.Proofs.Ytidoaccidmmalaa.BoolP (RowB SlB OwnB)
open Go.Proofs.Ytidoaccidmmalaa.PortP (okS roleS tickS sv)
set_option linter.unusedVariables false
set_option maxRecDepth 100000
theorem mod_b (n m : Int) (h0 : 0 < m) (h1 : m ≤ 1000) : 0 ≤ (wrap64 (n.tmod m + m)).tmod m ∧ (wrap64 (n.tmod m + m)).tmod m < m := by
  have h2 : -m < n.tmod m ∧ n.tmod m < m := by
    have := Int.natAbs_tmod n m
    have h3 : (n.tmod m).natAbs < m.natAbs := by rw [this]; exact Nat.mod_lt _ (by omega)
    omega
  rw [IntWalk.wrap64_in _ (by omega), Int.tmod_eq_emod_of_nonneg (a := n.tmod m + m) (by omega)]
  exact ⟨Int.emod_nonneg _ (by omega), Int.emod_lt_of_pos _ h0⟩
/-- A row of fours that comes in. -/
structure Row4 (w : World) (A : Option Addr) (n c : Nat) : Prop where
  cap : n ≤ c
  big : c ≤ 9223372036854775807
  at_ : ∀ k, k < n → ∃ b o x0 x1 x2 x3, A = some ⟨b, o, none⟩ ∧ b < w.heap.size ∧ w.cell? ⟨b, o + k * 4, none⟩ = some (.int .i64 x0) ∧ w.cell? ⟨b, o + k * 4 + 1, none⟩ = some (.int .i64 x1) ∧ w.cell? ⟨b, o + k * 4 + 2, none⟩ = some (.int .i64 x2) ∧ w.cell? ⟨b, o + k * 4 + 3, none⟩ = some (.int .i64 x3)
/-- What the walk keeps of the tree at work. -/
structure Lv (w wr : World) (bS : Nat) (i m d : Int) (nn : Nat) (t : T) (AC : Option Addr) (cC : Nat) (AU : Option Addr) (cU : Nat) (AI : Option Addr) (cI : Nat) (AS : Option Addr) (cS : Nat) : Prop where
  b : Below w.heap.size w wr
  x : Bx wr bS 29 #[.int .i64 t.self.id, .slice AC t.self.costs.length cC, .slice AU t.self.ups.length cU, .slice AI t.self.infos.length cI, .slice AS t.states.length cS, .int .i64 t.mx, .int .i64 t.dl]
  r : TreeR wr t AC cC AU cU AI cI AS cS
  o : OffT bS t AC AU AI AS
  ok : t.ok = true
  id : t.self.id = i
  n : t.self.costs.length = nn
  m : t.mx = m
  d : t.dl = d
  l : Len t
  le : w.heap.size ≤ bS
section
variable {w wr W : World} {bS : Nat} {ii m d : Int} {nn : Nat} {t t' : T} {AC : Option Addr} {cC : Nat} {AU : Option Addr} {cU : Nat} {AI : Option Addr} {cI : Nat} {AS : Option Addr} {cS : Nat} {AC' : Option Addr} {cC' : Nat} {AU' : Option Addr} {cU' : Nat} {AI' : Option Addr} {cI' : Nat} {AS' : Option Addr} {cS' : Nat}
theorem Lv.below (h : Lv w wr bS ii m d nn t AC cC AU cU AI cI AS cS) (hb : Below wr.heap.size wr W) : Lv w W bS ii m d nn t AC cC AU cU AI cI AS cS := ⟨bt h.b hb, h.x.below hb, h.r.below hb, h.o, h.ok, h.id, h.n, h.m, h.d, h.l, h.le⟩
theorem Lv.c (h : Lv w wr bS ii m d nn t AC cC AU cU AI cI AS cS) {i : Nat} {v : Value} (hv : (#[.int .i64 t.self.id, .slice AC t.self.costs.length cC, .slice AU t.self.ups.length cU, .slice AI t.self.infos.length cI, .slice AS t.states.length cS, .int .i64 t.mx, .int .i64 t.dl] : Array Value)[i]? = some v) : wr.cell? ⟨bS, i, none⟩ = some v := h.x.c hv
theorem Lv.f (h : Lv w wr bS ii m d nn t AC cC AU cU AI cI AS cS) (j : Nat) : wr.frozen? ⟨bS, j, none⟩ = false := h.x.f j
theorem Lv.arg (h : Lv w wr bS ii m d nn t AC cC AU cU AI cI AS cS) : ArgT wr t AC cC AU cU AI cI AS cS := ⟨h.r, h.l⟩
theorem Lv.sts (h : Lv w wr bS ii m d nn t AC cC AU cU AI cI AS cS) : t.states.length = nn := (ok_headT h.ok).2.1.trans h.n
theorem Lv.ups (h : Lv w wr bS ii m d nn t AC cC AU cU AI cI AS cS) : t.self.ups.length = nn := (head_iff.1 (ok_head (ok_headT h.ok).1)).2.2.1.trans h.n
theorem Lv.infos (h : Lv w wr bS ii m d nn t AC cC AU cU AI cI AS cS) : t.self.infos.length = nn := (head_iff.1 (ok_head (ok_headT h.ok).1)).2.2.2.trans h.n
/-- The same bridge. -/
structure Same (t t' : T) : Prop where
  ok : t'.ok = true
  id : t'.self.id = t.self.id
  n : t'.self.costs.length = t.self.costs.length
  m : t'.mx = t.mx
  d : t'.dl = t.dl
  l : Len t'
theorem Lv.step (h : Lv w wr bS ii m d nn t AC cC AU cU AI cI AS cS) (hb : Below wr.heap.size wr W) (s : Same t t') (r : TreeR W t' AC' cC' AU' cU' AI' cI' AS' cS') (o : OffT bS t' AC' AU' AI' AS') :
    Lv w (set7 W bS (.int .i64 t'.self.id) (.slice AC' t'.self.costs.length cC') (.slice AU' t'.self.ups.length cU') (.slice AI' t'.self.infos.length cI') (.slice AS' t'.states.length cS') (.int .i64 t'.mx) (.int .i64 t'.dl)) bS ii m d nn t' AC' cC' AU' cU' AI' cI' AS' cS' :=
  ⟨set7_bel (bt h.b hb) h.le, set7_bx (h.x.below hb), set7_sets.tree r o o, o, s.ok, s.id.trans h.id, s.n.trans h.n, s.m.trans h.m, s.d.trans h.d, s.l, h.le⟩
end
theorem same_tick {t : T} (h : t.ok = true) (l : Len t) : Same t t.tick := ⟨tick_ok h, rfl, rfl, rfl, rfl, tick_len l⟩
theorem same_link {t : T} {p : Nat} {up : Bool} (h : t.ok = true) (hp : p < t.states.length) (l : Len t) : Same t (t.link p up) := by
  refine ⟨link_ok h hp, ?_, ?_, ?_, ?_, link_len l⟩ <;> (unfold T.link T.blankAt; by_cases c : (up && t.self.up p) = true <;> (first | rw [if_pos c] | rw [if_neg c]) <;> rfl)
theorem same_hear {t : T} {p : Nat} {v : V} {a : Int} (h : t.ok = true) (hp : p < t.states.length) (hc : cfgOk v a = true) (l : Len t) : Same t (t.hear p v a) := by
  obtain ⟨c1, c2, c3⟩ := cfg_iff hc
  refine ⟨hear_ok h hp c1 c2 c3, ?_, ?_, ?_, ?_, hear_len l⟩ <;> (unfold T.hear; by_cases c : t.hears p v a = true <;> (first | rw [if_pos c] | rw [if_neg c]) <;> rfl)
theorem root_to {s : S} {AC : Option Addr} {cC : Nat} {AU : Option Addr} {cU : Nat} {AI : Option Addr} {cI : Nat} {w : World} {v : V} {n : Int} (hok : s.ok = true) (hl : s.costs.length ≤ 1000 ∧ s.ups.length ≤ 1000 ∧ s.infos.length ≤ 1000) (hv : s.tells 0 = v) (hn : s.rootI = n) (hS : SelfR w s AC cC AU cU AI cI) : Calls Try.prog 24 #[selfV s.id (.slice AC s.costs.length cC) (.slice AU s.ups.length cU) (.slice AI s.infos.length cI)] w fun e w' => e = .returned (.tuple #[vg v, .int .i64 n, .int .i64 0]) ∧ Below w.heap.size w w' := by
  have := o_root_ok hok hl hS
  rwa [hv, hn] at this
theorem cfg_of {r c b p a : Int} (h1 : 0 ≤ r ∧ r < 6) (h2 : 0 ≤ c ∧ c < 30) (h3 : 0 ≤ b ∧ b < 6) (h4 : 0 ≤ p ∧ p < 8) (h5 : 0 ≤ a ∧ a < 25) : cfgOk ⟨r, c, b, p⟩ a = true := by
  unfold cfgOk
  have : V.ok ⟨r, c, b, p⟩ = true := (okV_iff r c b p).2 ⟨by omega, by omega, by omega, by omega, by omega, by omega, by omega, by omega⟩
  rw [this]
  simp; omega
theorem upl_len (t : T) : ∀ k, ((List.range k).flatMap t.upL).length ≤ k
  | 0 => by simp
  | k + 1 => by
    rw [flat_succ, List.length_append]
    have := upl_len t k
    have h2 : (t.upL k).length ≤ 1 := by unfold T.upL; split <;> simp
    omega
theorem near_next {t : T} {D j : Nat} (h : t.ok = true) (hb : Blank t) (k : Near ((D : Int) - j) t) (hj : j < D) : Near ((D : Int) - ((j + 1 : Nat) : Int)) t.tick := by
  have := near_tick h hb k (by omega)
  have e : (D : Int) - ((j + 1 : Nat) : Int) = (D : Int) - j - 1 := by omega
  rw [e]; exact this
def fC (c : Int) : Int := 1 + (wrap64 (c.tmod 9 + 9)).tmod 9
theorem fC_bd (c : Int) : 1 ≤ fC c ∧ fC c ≤ 9 := by have := mod_b c 9 (by omega) (by omega); unfold fC; omega
theorem eql_v0 (i : Int) (w : World) : (binOp .eql 31 (.agg #[.int .i64 i, .int .i64 0, .int .i64 i, .int .i64 0]) (.agg #[.int .i64 i, .int .i64 0, .int .i64 i, .int .i64 0])).run Try.prog w = .ok (.bool true) w := by go_simp
theorem neq_n0 (w : World) : (binOp .neq 66 (nv false 0 0 0 0 0) (nv false 0 0 0 0 0)).run Try.prog w = .ok (.bool false) w := by kernel_rfl
/-- Ways into a function's code. -/
def codeL : Code → Code
  | .seq a _ => a
  | .block _ a => a
  | .loop a => a
  | c => c
def codeR : Code → Code
  | .seq _ b => b
  | c => c
noncomputable def agesBody : Code := match Try.f5.body with
  | some c => c
  | none => .skip
/-- From the script's loop on. -/
noncomputable def agesLoop : Code := codeR (codeR (codeR (codeR (codeR (codeR (codeR (codeR agesBody)))))))
noncomputable def agesRound : Code := codeL (codeL (codeR (codeR (codeL (codeL (codeR (codeL agesLoop)))))))
/-- The switch. -/
noncomputable def agesSwitch : Code := codeR (codeL (codeR (codeR agesRound)))
/-- What is behind the script. -/
noncomputable def agesTail : Code := codeR agesLoop
set_option maxHeartbeats 64000000 in
theorem ages_switch (C : StpC) {w w21 : World} {bS bX p nn : Nat} {i m d x0 x1 x2 x3 kd : Int} {t : T} {AC : Option Addr} {cC : Nat} {AU : Option Addr} {cU : Nat} {AI : Option Addr} {cI : Nat} {AS : Option Addr} {cS : Nat} (hp : p < nn) (hV : Lv w w21 bS i m d nn t AC cC AU cU AI cI AS cS) (hX : Bx w21 bX 62 #[.int .i64 x0, .int .i64 x1, .int .i64 x2, .int .i64 x3])
    {K : Act → World → Prop} {Q' : Exit → Act → World → Prop} {v1 v3 v4 v5 v6 v7 v8 v9 v10 v11 v12 v13 v15 v16 v17 v20 v21 v22 v23 v24 v25 v26 v27 v28 v29 v30 v31 v32 v33 v34 v35 v36 v37 v38 v39 v40 v41 v42 v43 v44 v45 v46 v47 v48 v49 v50 v51 v52 v53 v54 v55 v56 v57 v58 v59 v60 v61 v62 v63 v64 v65 v66 v67 v68 v69 v70 v71 v72 v73 v74 v75 v76 v77 v78 v79 v80 v81 v82 v83 v84 v85 v86 v87 v88 v89 v90 v91 v92 v93 v94 v95 v96 v97 v98 v99 v100 v101 v102 v103 v104 v105 v106 v107 v108 v109 v110 v111 v112 v113 v114 v115 v116 v117 v118 v119 v120 v122 v123 v124 v125 v126 v127 v128 v129 v130 v131 v132 v133 v134 v135 v136 v137 v138 v139 v140 v141 v142 v143 v144 v145 v146 v147 v148 v149 v150 v151 v152 v153 v154 v155 v156 v157 v158 v159 v160 v161 v162 v163 v164 v165 v166 v167 v168 v169 v170 v171 v172 v173 v174 v175 v176 v177 v178 v179 v180 v181 v182 v183 v184 v185 v186 v187 v188 v189 v190 v191 v192 v193 v194 v195 v196 v197 v198 v199 v200 v201 v202 v203 v204 v205 v206 v207 v208 v209 v210 v211 v212 v213 v214 v215 v216 v217 v218 v219 v220 v221 v222 v223 v224 v225 v226 v227 v228 v229 v230 v231 v232 v233 v234 v235 v236 v237 v238 v239 v240 v241 v242 v243 v244 v245 v246 v247 v248 v249 v250 v251 v252 v253 v254 v255 v256 v257 v258 v259 v260 v261 v262 v263 v264 v265 v266 v267 v268 v269 v270 v271 v272 v273 v274 v275 v276 v277 v278 v279 v280 v281 v282 v283 v284 v285 v286 v287 v288 v289 v290 v291 v292 v293 v294 v295 v296 v297 v298 v299 v300 v301 v302 v303 v304 v305 v306 v307 v308 v309 v310 v311 v312 v313 v314 v315 v316 v317 v318 v319 v320 v321 v322 v323 v324 v325 v326 v327 v328 v329 v330 v331 v332 v333 v334 v335 v336 v337 v338 v339 v340 v341 v342 v343 v344 v345 v346 v347 v348 v349 v350 v351 v352 v353 v354 v355 v356 v357 v358 v359 v360 v361 v362 v363 v364 v365 v366 v367 v368 v369 v370 v371 v372 v373 v374 v375 v376 v377 v378 v379 v380 v381 v382 v383 v384 v385 v386 v387 v388 : Value}
    (hK : ∀ {s10 s20 s21 s22 s23 s24 s25 s26 s27 s28 s30 s31 s32 s33 s122 s123 s124 s125 s126 s127 s128 s129 s130 s131 s132 s133 s134 s135 s136 s137 s138 s139 s140 s141 s142 s143 s144 s145 s146 s147 s148 s149 s150 s151 s152 s153 s154 s155 s156 s157 s158 s159 s160 s161 s162 s163 s164 s165 s166 s167 s168 s169 s170 s171 s172 s173 s174 s175 s176 s177 s178 s179 s180 s181 s182 s183 s184 s185 s186 s187 s188 s189 s190 s191 s192 s193 s194 s195 s196 s197 s198 s199 s200 s201 s202 s203 s204 s205 s206 s207 s208 s209 s210 s211 s212 s213 s214 s215 s216 s217 s218 s219 s220 s221 s222 s223 s224 s225 s226 s227 s228 s229 s230 s231 s232 s233 s234 s235 s236 s237 s238 s239 s240 s241 s242 s243 s244 s245 s246 s247 s248 s249 s250 s251 s252 s253 s254 s255 s256 s257 s258 s259 s260 s261 s262 s263 s264 s265 s266 s267 s268 : Value} {wx : World} {t : T} {AC : Option Addr} {cC : Nat} {AU : Option Addr} {cU : Nat} {AI : Option Addr} {cI : Nat} {AS : Option Addr} {cS : Nat}, Lv w wx bS i m d nn t AC cC AU cU AI cI AS cS → K ⟨#[.int .i64 i, v1, .int .i64 m, v3, v4, v5, v6, v7, v8, v9, s10, v11, v12, v13, .pointer (some ⟨bS, 0, none⟩), v15, v16, v17, .pointer (some ⟨bX, 0, none⟩), .int .i64 p, s20, s21, s22, s23, s24, s25, s26, s27, s28, v29, s30, s31, s32, s33, v34, v35, v36, v37, v38, v39, v40, v41, v42, v43, v44, v45, v46, v47, v48, v49, v50, v51, v52, v53, v54, v55, v56, v57, v58, v59, v60, v61, v62, v63, v64, v65, v66, v67, v68, v69, v70, v71, v72, v73, v74, v75, v76, v77, v78, v79, v80, v81, v82, v83, v84, v85, v86, v87, v88, v89, v90, v91, v92, v93, v94, v95, v96, v97, v98, v99, v100, v101, v102, v103, v104, v105, v106, v107, v108, v109, v110, v111, v112, v113, v114, v115, v116, v117, v118, v119, v120, .int .i64 kd, s122, s123, s124, s125, s126, s127, s128, s129, s130, s131, s132, s133, s134, s135, s136, s137, s138, s139, s140, s141, s142, s143, s144, s145, s146, s147, s148, s149, s150, s151, s152, s153, s154, s155, s156, s157, s158, s159, s160, s161, s162, s163, s164, s165, s166, s167, s168, s169, s170, s171, s172, s173, s174, s175, s176, s177, s178, s179, s180, s181, s182, s183, s184, s185, s186, s187, s188, s189, s190, s191, s192, s193, s194, s195, s196, s197, s198, s199, s200, s201, s202, s203, s204, s205, s206, s207, s208, s209, s210, s211, s212, s213, s214, s215, s216, s217, s218, s219, s220, s221, s222, s223, s224, s225, s226, s227, s228, s229, s230, s231, s232, s233, s234, s235, s236, s237, s238, s239, s240, s241, s242, s243, s244, s245, s246, s247, s248, s249, s250, s251, s252, s253, s254, s255, s256, s257, s258, s259, s260, s261, s262, s263, s264, s265, s266, s267, s268, v269, v270, v271, v272, v273, v274, v275, v276, v277, v278, v279, v280, v281, v282, v283, v284, v285, v286, v287, v288, v289, v290, v291, v292, v293, v294, v295, v296, v297, v298, v299, v300, v301, v302, v303, v304, v305, v306, v307, v308, v309, v310, v311, v312, v313, v314, v315, v316, v317, v318, v319, v320, v321, v322, v323, v324, v325, v326, v327, v328, v329, v330, v331, v332, v333, v334, v335, v336, v337, v338, v339, v340, v341, v342, v343, v344, v345, v346, v347, v348, v349, v350, v351, v352, v353, v354, v355, v356, v357, v358, v359, v360, v361, v362, v363, v364, v365, v366, v367, v368, v369, v370, v371, v372, v373, v374, v375, v376, v377, v378, v379, v380, v381, v382, v383, v384, v385, v386, v387, v388], []⟩ wx) :
    Code.wp Try.prog agesSwitch (Exit.then K Q') ⟨#[.int .i64 i, v1, .int .i64 m, v3, v4, v5, v6, v7, v8, v9, v10, v11, v12, v13, .pointer (some ⟨bS, 0, none⟩), v15, v16, v17, .pointer (some ⟨bX, 0, none⟩), .int .i64 p, v20, v21, v22, v23, v24, v25, v26, v27, v28, v29, v30, v31, v32, v33, v34, v35, v36, v37, v38, v39, v40, v41, v42, v43, v44, v45, v46, v47, v48, v49, v50, v51, v52, v53, v54, v55, v56, v57, v58, v59, v60, v61, v62, v63, v64, v65, v66, v67, v68, v69, v70, v71, v72, v73, v74, v75, v76, v77, v78, v79, v80, v81, v82, v83, v84, v85, v86, v87, v88, v89, v90, v91, v92, v93, v94, v95, v96, v97, v98, v99, v100, v101, v102, v103, v104, v105, v106, v107, v108, v109, v110, v111, v112, v113, v114, v115, v116, v117, v118, v119, v120, .int .i64 kd, v122, v123, v124, v125, v126, v127, v128, v129, v130, v131, v132, v133, v134, v135, v136, v137, v138, v139, v140, v141, v142, v143, v144, v145, v146, v147, v148, v149, v150, v151, v152, v153, v154, v155, v156, v157, v158, v159, v160, v161, v162, v163, v164, v165, v166, v167, v168, v169, v170, v171, v172, v173, v174, v175, v176, v177, v178, v179, v180, v181, v182, v183, v184, v185, v186, v187, v188, v189, v190, v191, v192, v193, v194, v195, v196, v197, v198, v199, v200, v201, v202, v203, v204, v205, v206, v207, v208, v209, v210, v211, v212, v213, v214, v215, v216, v217, v218, v219, v220, v221, v222, v223, v224, v225, v226, v227, v228, v229, v230, v231, v232, v233, v234, v235, v236, v237, v238, v239, v240, v241, v242, v243, v244, v245, v246, v247, v248, v249, v250, v251, v252, v253, v254, v255, v256, v257, v258, v259, v260, v261, v262, v263, v264, v265, v266, v267, v268, v269, v270, v271, v272, v273, v274, v275, v276, v277, v278, v279, v280, v281, v282, v283, v284, v285, v286, v287, v288, v289, v290, v291, v292, v293, v294, v295, v296, v297, v298, v299, v300, v301, v302, v303, v304, v305, v306, v307, v308, v309, v310, v311, v312, v313, v314, v315, v316, v317, v318, v319, v320, v321, v322, v323, v324, v325, v326, v327, v328, v329, v330, v331, v332, v333, v334, v335, v336, v337, v338, v339, v340, v341, v342, v343, v344, v345, v346, v347, v348, v349, v350, v351, v352, v353, v354, v355, v356, v357, v358, v359, v360, v361, v362, v363, v364, v365, v366, v367, v368, v369, v370, v371, v372, v373, v374, v375, v376, v377, v378, v379, v380, v381, v382, v383, v384, v385, v386, v387, v388], []⟩ w21 := by
  have hpn := Lib.hid hp
  have V_w21 := Lib.hid hV
  have X4_w21 := Lib.hid hX
  have z0_w21 := hX.lt
  have bw21 := Below.refl w21.heap.size w21
  clear hp hV hX
  conv => arg 2; whnf
  obtain ⟨z0, hz0⟩ : ∃ b, (kd == 0) = b := ⟨_, rfl⟩
  go_upto_if 159 with fail
  cases z0 with
  | true =>

    have zz := V_w21.out.x.lt
    obtain ⟨u, hu⟩ : ∃ u, (x2.tmod 2 == 0) = u := ⟨_, rfl⟩
    have hpl := Lib.hid (show p < t.states.length by rw [V_w21.out.sts]; exact hpn.out)
    have hcL := Lib.hid fun (W : World) (h : Lv w W bS i m d nn t AC cC AU cU AI cI AS cS) => C.link_ok (p := p) (up := u) h.ok h.arg (by rw [h.sts]; exact hpn.out)
    have hlt9 := Lib.hid V_w21.out.x.lt
    have ho9 := Lib.hid V_w21.out.o
    have o_V_0 := V_w21.out.c (i := 0) rfl
    have o_V_1 := V_w21.out.c (i := 1) rfl
    have o_V_2 := V_w21.out.c (i := 2) rfl
    have o_V_3 := V_w21.out.c (i := 3) rfl
    have o_V_4 := V_w21.out.c (i := 4) rfl
    have o_V_5 := V_w21.out.c (i := 5) rfl
    have o_V_6 := V_w21.out.c (i := 6) rfl
    have o_X4_0 := X4_w21.out.c (i := 0) rfl
    have o_X4_1 := X4_w21.out.c (i := 1) rfl
    have o_X4_2 := X4_w21.out.c (i := 2) rfl
    have o_X4_3 := X4_w21.out.c (i := 3) rfl
    go_wp2_with fail
    clear o_V_0 o_V_1 o_V_2 o_V_3 o_V_4 o_V_5 o_V_6 o_X4_0 o_X4_1 o_X4_2 o_X4_3
    go_at_call 17
    (with_reducible refine (hcL.out _ V_w21.out).mono ?_)
    rintro e w22 ⟨AC2, cC2, AU2, cU2, AI2, cI2, AS2, cS2, rfl, tr2, hb22, of2⟩
    have V_w22 := Lib.hid (V_w21.out.below hb22)
    have X4_w22 := Lib.hid (X4_w21.out.below hb22)
    have T2_w22 := Lib.hid (tr2)
    have z0_w22 : bX < w22.heap.size := Nat.lt_of_lt_of_le z0_w21 hb22.size
    have B_w22 := bt bw21 hb22
    clear V_w21 X4_w21 z0_w21 bw21 hb22
    have off2 := Lib.hid (of2 _ hlt9.out ho9.out)
    clear of2 hcL tr2 zz
    go_upto_region 24 with fail
    obtain ⟨w23, hw23⟩ : ∃ W, W = w22.alloc (.cells #[.int .i64 (t.link p u).self.id, .slice AC2 (t.link p u).self.costs.length cC2, .slice AU2 (t.link p u).self.ups.length cU2, .slice AI2 (t.link p u).self.infos.length cI2, .slice AS2 (t.link p u).states.length cS2, .int .i64 (t.link p u).mx, .int .i64 (t.link p u).dl] 29) := ⟨_, rfl⟩
    have bw23 : Below w22.heap.size w22 w23 := by rw [hw23]; exact (Below.refl _ _).alloc (Nat.le_refl _) _
    have Xw23 : Bx w23 w22.heap.size 29 #[.int .i64 (t.link p u).self.id, .slice AC2 (t.link p u).self.costs.length cC2, .slice AU2 (t.link p u).self.ups.length cU2, .slice AI2 (t.link p u).self.infos.length cI2, .slice AS2 (t.link p u).states.length cS2, .int .i64 (t.link p u).mx, .int .i64 (t.link p u).dl] := by rw [hw23]; exact Bx.new _ _ _ rfl
    rw [← hw23]
    clear hw23
    have V_w23 := Lib.hid (V_w22.out.below bw23)
    have X4_w23 := Lib.hid (X4_w22.out.below bw23)
    have T2_w23 := Lib.hid (T2_w22.out.below bw23)
    have BA_w23 := Lib.hid (Xw23)
    have z0_w23 : bX < w23.heap.size := Nat.lt_of_lt_of_le z0_w22 bw23.size
    have B_w23 := bt B_w22 bw23
    clear V_w22 X4_w22 T2_w22 z0_w22 B_w22 bw23
    have z1_w23 : w22.heap.size < w23.heap.size := Xw23.lt
    clear Xw23
    have zz := V_w23.out.x.lt
    have o_BA_0 := BA_w23.out.c (i := 0) rfl
    have o_BA_1 := BA_w23.out.c (i := 1) rfl
    have o_BA_2 := BA_w23.out.c (i := 2) rfl
    have o_BA_3 := BA_w23.out.c (i := 3) rfl
    have o_BA_4 := BA_w23.out.c (i := 4) rfl
    have o_BA_5 := BA_w23.out.c (i := 5) rfl
    have o_BA_6 := BA_w23.out.c (i := 6) rfl
    have o_V_0 := V_w23.out.c (i := 0) rfl
    have o_V_1 := V_w23.out.c (i := 1) rfl
    have o_V_2 := V_w23.out.c (i := 2) rfl
    have o_V_3 := V_w23.out.c (i := 3) rfl
    have o_V_4 := V_w23.out.c (i := 4) rfl
    have o_V_5 := V_w23.out.c (i := 5) rfl
    have o_V_6 := V_w23.out.c (i := 6) rfl
    have p_V_0 := V_w23.out.f 0
    have p_V_1 := V_w23.out.f 1
    have p_V_2 := V_w23.out.f 2
    have p_V_3 := V_w23.out.f 3
    have p_V_4 := V_w23.out.f 4
    have p_V_5 := V_w23.out.f 5
    have p_V_6 := V_w23.out.f 6
    go_wp2_with fail
    clear o_BA_0 o_BA_1 o_BA_2 o_BA_3 o_BA_4 o_BA_5 o_BA_6 o_V_0 o_V_1 o_V_2 o_V_3 o_V_4 o_V_5 o_V_6 p_V_0 p_V_1 p_V_2 p_V_3 p_V_4 p_V_5 p_V_6
    obtain ⟨w24, hw24⟩ : ∃ W, W = set7 w23 bS (.int .i64 (t.link p u).self.id) (.slice AC2 (t.link p u).self.costs.length cC2) (.slice AU2 (t.link p u).self.ups.length cU2) (.slice AI2 (t.link p u).self.infos.length cI2) (.slice AS2 (t.link p u).states.length cS2) (.int .i64 (t.link p u).mx) (.int .i64 (t.link p u).dl) := ⟨_, rfl⟩
    have Vw24 := Lib.hid (show Lv w w24 bS i m d nn (t.link p u) AC2 cC2 AU2 cU2 AI2 cI2 AS2 cS2 by rw [hw24]; exact V_w23.out.step (Below.refl _ _) (same_link V_w23.out.ok hpl.out V_w23.out.l) T2_w23.out off2.out)
    unfold set7 at hw24
    rw [← hw24]
    clear hw24
    clear V_w23 X4_w23 T2_w23 BA_w23
    clear zz
    exact hK Vw24.out
  | false =>
    go_step
    apply wp_seq_k
    intro _ _
    go_cut [174] from 174 to 177 (fun c wx => (∃ b, c = .bool b) ∧ wx = w21)
    case first =>
      cases e1 : (kd == 1) <;> cases e2 : (kd == 2) <;> cases e3 : (kd == 3)
      all_goals
        go_wp2_with fail
        go_meet
        case rel => exact ⟨⟨_, rfl⟩, rfl⟩
    case rest =>
      obtain ⟨⟨kb, rfl⟩, rfl⟩ := hcut
      cases kb with
      | true =>
        as_aux_lemma =>

          have zz := V_w21.out.x.lt
          obtain ⟨tk, htk⟩ : ∃ u, t.tick = u := ⟨_, rfl⟩
          have hsame := Lib.hid (show Same t tk by rw [← htk]; exact same_tick V_w21.out.ok V_w21.out.l)
          have hfc := Lib.hid (show ∀ x ∈ tk.sends, x.v.r = (tk.self.tells 0).r ∧ x.v.c = (tk.self.tells 0).c ∧ x.v.b = tk.self.id ∧ x.age = tk.self.age ∧ tk.self.age < tk.mx ∧ x.port ≠ tk.self.rootI from fun x h => sends_facts h)
          have hcT := Lib.hid fun (W : World) (h : Lv w W bS i m d nn t AC cC AU cU AI cI AS cS) => C.tick_ok h.ok h.arg
          rw [htk] at hcT
          replace htk := Lib.hid htk
          have hlt9 := Lib.hid V_w21.out.x.lt
          have ho9 := Lib.hid V_w21.out.o
          have o_V_0 := V_w21.out.c (i := 0) rfl
          have o_V_1 := V_w21.out.c (i := 1) rfl
          have o_V_2 := V_w21.out.c (i := 2) rfl
          have o_V_3 := V_w21.out.c (i := 3) rfl
          have o_V_4 := V_w21.out.c (i := 4) rfl
          have o_V_5 := V_w21.out.c (i := 5) rfl
          have o_V_6 := V_w21.out.c (i := 6) rfl
          have o_X4_0 := X4_w21.out.c (i := 0) rfl
          have o_X4_1 := X4_w21.out.c (i := 1) rfl
          have o_X4_2 := X4_w21.out.c (i := 2) rfl
          have o_X4_3 := X4_w21.out.c (i := 3) rfl
          go_wp2_with fail
          clear o_V_0 o_V_1 o_V_2 o_V_3 o_V_4 o_V_5 o_V_6 o_X4_0 o_X4_1 o_X4_2 o_X4_3
          go_at_call 16
          (with_reducible refine (hcT.out _ V_w21.out).mono ?_)
          rintro e w22 ⟨AC2, cC2, AU2, cU2, AI2, cI2, AS2, cS2, AD, cD, rfl, tr2, rd2, hb22, of2⟩
          have V_w22 := Lib.hid (V_w21.out.below hb22)
          have X4_w22 := Lib.hid (X4_w21.out.below hb22)
          have T2_w22 := Lib.hid (tr2)
          have D2_w22 := Lib.hid (rd2)
          have z0_w22 : bX < w22.heap.size := Nat.lt_of_lt_of_le z0_w21 hb22.size
          have B_w22 := bt bw21 hb22
          clear V_w21 X4_w21 z0_w21 bw21 hb22
          have off2 := Lib.hid (of2 _ hlt9.out ho9.out)
          clear of2 hcT tr2 rd2 zz
          go_upto_region 31 with fail
          obtain ⟨w23, hw23⟩ : ∃ W, W = w22.alloc (.cells #[.int .i64 tk.self.id, .slice AC2 tk.self.costs.length cC2, .slice AU2 tk.self.ups.length cU2, .slice AI2 tk.self.infos.length cI2, .slice AS2 tk.states.length cS2, .int .i64 tk.mx, .int .i64 tk.dl] 29) := ⟨_, rfl⟩
          have bw23 : Below w22.heap.size w22 w23 := by rw [hw23]; exact (Below.refl _ _).alloc (Nat.le_refl _) _
          have Xw23 : Bx w23 w22.heap.size 29 #[.int .i64 tk.self.id, .slice AC2 tk.self.costs.length cC2, .slice AU2 tk.self.ups.length cU2, .slice AI2 tk.self.infos.length cI2, .slice AS2 tk.states.length cS2, .int .i64 tk.mx, .int .i64 tk.dl] := by rw [hw23]; exact Bx.new _ _ _ rfl
          rw [← hw23]
          clear hw23
          have V_w23 := Lib.hid (V_w22.out.below bw23)
          have X4_w23 := Lib.hid (X4_w22.out.below bw23)
          have T2_w23 := Lib.hid (T2_w22.out.below bw23)
          have D2_w23 := Lib.hid (D2_w22.out.below bw23)
          have BA_w23 := Lib.hid (Xw23)
          have z0_w23 : bX < w23.heap.size := Nat.lt_of_lt_of_le z0_w22 bw23.size
          have B_w23 := bt B_w22 bw23
          clear V_w22 X4_w22 T2_w22 D2_w22 z0_w22 B_w22 bw23
          have z1_w23 : w22.heap.size < w23.heap.size := Xw23.lt
          clear Xw23
          obtain ⟨RV, hRV⟩ : ∃ v, tk.self.tells 0 = v := ⟨_, rfl⟩
          obtain ⟨ri, hri⟩ : ∃ x, tk.self.rootI = x := ⟨_, rfl⟩
          obtain ⟨ag, hag⟩ : ∃ x, tk.self.age = x := ⟨_, rfl⟩
          have hways := root_ways' (s := tk.self)
          rw [hri, hag] at hways
          rw [hRV, hri, hag] at hfc
          have hr1 : ¬ ri < -1 := by rcases hways with ⟨_, e, _⟩ | ⟨b, _, e, _, _⟩ <;> omega
          have hr2 : ¬ (tk.self.infos.length : Int) ≤ ri := by rcases hways with ⟨_, e, _⟩ | ⟨b, _, e, _, _⟩ <;> omega
          have htko := Lib.hid (ok_headT hsame.out.ok).1
          have htki := Lib.hid (show ∀ b, b < tk.self.infos.length → 0 ≤ (tk.self.info b).age ∧ (tk.self.info b).age ≤ 255 from fun b hb => (ok_info htko.out (by have := (head_iff.1 (ok_head htko.out)).2.2.2; omega)).1)
          have hil : tk.self.infos.length ≤ 1000 := hsame.out.l.n
          have hsl9 : tk.sends.length ≤ 1000 := Nat.le_trans (sends_len _ _) hsame.out.l.s
          have hid9 := Lib.hid (show tk.self.id = i from hsame.out.id.trans V_w23.out.id)
          have hmx9 := Lib.hid (show tk.mx = m from hsame.out.m.trans V_w23.out.m)
          replace hRV := Lib.hid hRV
          replace hri := Lib.hid hri
          replace hag := Lib.hid hag
          replace hways := Lib.hid hways
          have o_BA_0 := BA_w23.out.c (i := 0) rfl
          have o_BA_1 := BA_w23.out.c (i := 1) rfl
          have o_BA_2 := BA_w23.out.c (i := 2) rfl
          have o_BA_3 := BA_w23.out.c (i := 3) rfl
          have o_BA_4 := BA_w23.out.c (i := 4) rfl
          have o_BA_5 := BA_w23.out.c (i := 5) rfl
          have o_BA_6 := BA_w23.out.c (i := 6) rfl
          go_wp2_with fail
          clear o_BA_0 o_BA_1 o_BA_2 o_BA_3 o_BA_4 o_BA_5 o_BA_6
          go_at_call 24
          (with_reducible refine (root_to htko.out ⟨hsame.out.l.c, hsame.out.l.u, hsame.out.l.n⟩ hRV.out hri.out T2_w23.out.self).mono ?_)
          rintro e w24 ⟨rfl, hb24⟩
          have V_w24 := Lib.hid (V_w23.out.below hb24)
          have X4_w24 := Lib.hid (X4_w23.out.below hb24)
          have T2_w24 := Lib.hid (T2_w23.out.below hb24)
          have D2_w24 := Lib.hid (D2_w23.out.below hb24)
          have BA_w24 := Lib.hid (BA_w23.out.below hb24)
          have z0_w24 : bX < w24.heap.size := Nat.lt_of_lt_of_le z0_w23 hb24.size
          have z1_w24 : w22.heap.size < w24.heap.size := Nat.lt_of_lt_of_le z1_w23 hb24.size
          have B_w24 := bt B_w23 hb24
          clear V_w23 X4_w23 T2_w23 D2_w23 BA_w23 z0_w23 z1_w23 B_w23 hb24
          go_upto_region 32 with fail
          obtain ⟨w25, hw25⟩ : ∃ W, W = w24.alloc (.cells #[.int .i64 RV.r, .int .i64 RV.c, .int .i64 RV.b, .int .i64 RV.p] 31) := ⟨_, rfl⟩
          have bw25 : Below w24.heap.size w24 w25 := by rw [hw25]; exact (Below.refl _ _).alloc (Nat.le_refl _) _
          have Xw25 : Bx w25 w24.heap.size 31 #[.int .i64 RV.r, .int .i64 RV.c, .int .i64 RV.b, .int .i64 RV.p] := by rw [hw25]; exact Bx.new _ _ _ rfl
          rw [← hw25]
          clear hw25
          have V_w25 := Lib.hid (V_w24.out.below bw25)
          have X4_w25 := Lib.hid (X4_w24.out.below bw25)
          have T2_w25 := Lib.hid (T2_w24.out.below bw25)
          have D2_w25 := Lib.hid (D2_w24.out.below bw25)
          have BA_w25 := Lib.hid (BA_w24.out.below bw25)
          have BV_w25 := Lib.hid (Xw25)
          have z0_w25 : bX < w25.heap.size := Nat.lt_of_lt_of_le z0_w24 bw25.size
          have z1_w25 : w22.heap.size < w25.heap.size := Nat.lt_of_lt_of_le z1_w24 bw25.size
          have B_w25 := bt B_w24 bw25
          clear V_w24 X4_w24 T2_w24 D2_w24 BA_w24 z0_w24 z1_w24 B_w24 bw25
          have z2_w25 : w24.heap.size < w25.heap.size := Xw25.lt
          clear Xw25
          rcases hways.out with ⟨_, e1, e2⟩ | ⟨b, _, e1, hbl, e2⟩
          · subst e1
            subst e2
            have o_BA_0 := BA_w25.out.c (i := 0) rfl
            have o_BA_1 := BA_w25.out.c (i := 1) rfl
            have o_BA_2 := BA_w25.out.c (i := 2) rfl
            have o_BA_3 := BA_w25.out.c (i := 3) rfl
            have o_BA_4 := BA_w25.out.c (i := 4) rfl
            have o_BA_5 := BA_w25.out.c (i := 5) rfl
            have o_BA_6 := BA_w25.out.c (i := 6) rfl
            go_wp2_with fail
            clear o_BA_0 o_BA_1 o_BA_2 o_BA_3 o_BA_4 o_BA_5 o_BA_6
            clear X4_w25 z0_w25
            go_loopw [221] (fun ix wr3 => ∃ k9 : Nat, k9 ≤ tk.sends.length ∧ ix = .int .i64 k9 ∧ Below w25.heap.size w25 wr3) (fun ix _ => tk.sends.length - (intOf ix).toNat)
            case atStart => exact ⟨0, by omega, rfl, Below.refl _ _⟩
            case round =>
              obtain ⟨k9, hk9, rfl, hb3⟩ := hrel
              by_cases hkn9 : k9 < tk.sends.length
              · obtain ⟨y, hy⟩ : ∃ y, tk.sends[k9]? = some y := ⟨_, List.getElem?_eq_getElem hkn9⟩
                obtain ⟨f1, f2, f3, f4, f5, f6⟩ := hfc.out y (List.mem_of_getElem? hy)
                obtain ⟨bD, oD, hAD, hbD, s0, s1, s2, s3, s4, s5⟩ := SlD.at_ (D2_w25.out.below hb3).sl hy
                subst hAD
                have hkl9 : (k9 : Int) < (tk.sends.length : Int) := by omega
                rw [hid9.out] at f3
                rw [hmx9.out] at f5
                replace hy := Lib.hid hy
                obtain ⟨yp, ⟨yr, yc, yb, yq⟩, ya⟩ := y
                simp only at f1 f2 f3 f4 f6 s0 s1 s2 s3 s4 s5
                subst yr; subst yc; subst yb; subst ya
                have n1 : (RV.r != RV.r) = false := by simp
                have n2 : (RV.c != RV.c) = false := by simp
                have n4 : ¬ m ≤ 0 := by omega
                have n5 : (yp == -1) = false := by simpa using f6
                clear f5 f6
                have BV3 := Lib.hid (BV_w25.out.below hb3)
                have zv := BV3.out.lt
                go_upto_region 40 with fail
                obtain ⟨w66, hw66⟩ : ∃ W, W = wr.alloc (.cells #[.int .i64 yp, .int .i64 RV.r, .int .i64 RV.c, .int .i64 i, .int .i64 yq, .int .i64 0] 68) := ⟨_, rfl⟩
                have bw66 : Below wr.heap.size wr w66 := by rw [hw66]; exact (Below.refl _ _).alloc (Nat.le_refl _) _
                have Xw66 : Bx w66 wr.heap.size 68 #[.int .i64 yp, .int .i64 RV.r, .int .i64 RV.c, .int .i64 i, .int .i64 yq, .int .i64 0] := by rw [hw66]; exact Bx.new _ _ _ rfl
                rw [← hw66]
                clear hw66
                have BV_w66 := Lib.hid (BV3.out.below bw66)
                have BY_w66 := Lib.hid (Xw66)
                have z0_w66 : w24.heap.size < w66.heap.size := Nat.lt_of_lt_of_le zv bw66.size
                clear BV3 zv
                have z1_w66 : wr.heap.size < w66.heap.size := Xw66.lt
                clear Xw66
                clear s0 s1 s2 s3 s4 s5 hbD
                have o_BV_0 := BV_w66.out.c (i := 0) rfl
                have o_BV_1 := BV_w66.out.c (i := 1) rfl
                have o_BV_2 := BV_w66.out.c (i := 2) rfl
                have o_BV_3 := BV_w66.out.c (i := 3) rfl
                have o_BY_0 := BY_w66.out.c (i := 0) rfl
                have o_BY_1 := BY_w66.out.c (i := 1) rfl
                have o_BY_2 := BY_w66.out.c (i := 2) rfl
                have o_BY_3 := BY_w66.out.c (i := 3) rfl
                have o_BY_4 := BY_w66.out.c (i := 4) rfl
                have o_BY_5 := BY_w66.out.c (i := 5) rfl
                have hb4 := Lib.hid (bt hb3 bw66)
                go_wp2_with fail
                go_roundw
                case rel => exact ⟨k9 + 1, by omega, by go_num, hb4.out⟩
                case measure => simp [intOf]; omega
              · obtain rfl : k9 = tk.sends.length := by omega
                have V_wr := Lib.hid (V_w25.out.below hb3)
                have T2_wr := Lib.hid (T2_w25.out.below hb3)
                have D2_wr := Lib.hid (D2_w25.out.below hb3)
                have BA_wr := Lib.hid (BA_w25.out.below hb3)
                have BV_wr := Lib.hid (BV_w25.out.below hb3)
                have z0_wr : w22.heap.size < wr.heap.size := Nat.lt_of_lt_of_le z1_w25 hb3.size
                have z1_wr : w24.heap.size < wr.heap.size := Nat.lt_of_lt_of_le z2_w25 hb3.size
                have B_wr := bt B_w25 hb3
                clear V_w25 T2_w25 D2_w25 BA_w25 BV_w25 z1_w25 z2_w25 B_w25 hb3
                have zz := V_wr.out.x.lt
                have o_BA_0 := BA_wr.out.c (i := 0) rfl
                have o_BA_1 := BA_wr.out.c (i := 1) rfl
                have o_BA_2 := BA_wr.out.c (i := 2) rfl
                have o_BA_3 := BA_wr.out.c (i := 3) rfl
                have o_BA_4 := BA_wr.out.c (i := 4) rfl
                have o_BA_5 := BA_wr.out.c (i := 5) rfl
                have o_BA_6 := BA_wr.out.c (i := 6) rfl
                have o_V_0 := V_wr.out.c (i := 0) rfl
                have o_V_1 := V_wr.out.c (i := 1) rfl
                have o_V_2 := V_wr.out.c (i := 2) rfl
                have o_V_3 := V_wr.out.c (i := 3) rfl
                have o_V_4 := V_wr.out.c (i := 4) rfl
                have o_V_5 := V_wr.out.c (i := 5) rfl
                have o_V_6 := V_wr.out.c (i := 6) rfl
                have p_V_0 := V_wr.out.f 0
                have p_V_1 := V_wr.out.f 1
                have p_V_2 := V_wr.out.f 2
                have p_V_3 := V_wr.out.f 3
                have p_V_4 := V_wr.out.f 4
                have p_V_5 := V_wr.out.f 5
                have p_V_6 := V_wr.out.f 6
                go_wp2_with fail
                clear o_BA_0 o_BA_1 o_BA_2 o_BA_3 o_BA_4 o_BA_5 o_BA_6 o_V_0 o_V_1 o_V_2 o_V_3 o_V_4 o_V_5 o_V_6 p_V_0 p_V_1 p_V_2 p_V_3 p_V_4 p_V_5 p_V_6
                obtain ⟨w86, hw86⟩ : ∃ W, W = set7 wr bS (.int .i64 tk.self.id) (.slice AC2 tk.self.costs.length cC2) (.slice AU2 tk.self.ups.length cU2) (.slice AI2 tk.self.infos.length cI2) (.slice AS2 tk.states.length cS2) (.int .i64 tk.mx) (.int .i64 tk.dl) := ⟨_, rfl⟩
                have Vw86 := Lib.hid (show Lv w w86 bS i m d nn tk AC2 cC2 AU2 cU2 AI2 cI2 AS2 cS2 by rw [hw86]; exact V_wr.out.step (Below.refl _ _) hsame.out T2_wr.out off2.out)
                unfold set7 at hw86
                rw [← hw86]
                clear hw86
                clear V_wr T2_wr D2_wr BA_wr BV_wr
                clear zz
                exact hK Vw86.out
          · subst e1
            obtain ⟨g1, g2⟩ := htki.out b hbl
            obtain ⟨bI, oI, hAI, hbI, q0, q1, q2, q3, q4, q5⟩ := SlN.at_ T2_w25.out.self.infos.sl (info_at (s := tk.self) (p := b) hbl)
            have hbl2 : (b : Int) < (tk.self.infos.length : Int) := by omega
            have hb0 : (0 : Int) ≤ (b : Int) := by omega
            obtain ⟨ga, hga⟩ : ∃ x, (tk.self.info b).age = x := ⟨_, rfl⟩
            rw [hga] at q5 e2 g1 g2
            replace hga := Lib.hid hga
            clear q0 q1 q2 q3 q4
            subst hAI
            have o_BA_0 := BA_w25.out.c (i := 0) rfl
            have o_BA_1 := BA_w25.out.c (i := 1) rfl
            have o_BA_2 := BA_w25.out.c (i := 2) rfl
            have o_BA_3 := BA_w25.out.c (i := 3) rfl
            have o_BA_4 := BA_w25.out.c (i := 4) rfl
            have o_BA_5 := BA_w25.out.c (i := 5) rfl
            have o_BA_6 := BA_w25.out.c (i := 6) rfl
            go_wp2_with fail
            clear o_BA_0 o_BA_1 o_BA_2 o_BA_3 o_BA_4 o_BA_5 o_BA_6
            clear q5 hbI g1 g2 hbl2 hb0
            clear X4_w25 z0_w25
            go_loopw [221] (fun ix wr3 => ∃ k9 : Nat, k9 ≤ tk.sends.length ∧ ix = .int .i64 k9 ∧ Below w25.heap.size w25 wr3) (fun ix _ => tk.sends.length - (intOf ix).toNat)
            case atStart => exact ⟨0, by omega, rfl, Below.refl _ _⟩
            case round =>
              obtain ⟨k9, hk9, rfl, hb3⟩ := hrel
              by_cases hkn9 : k9 < tk.sends.length
              · obtain ⟨y, hy⟩ : ∃ y, tk.sends[k9]? = some y := ⟨_, List.getElem?_eq_getElem hkn9⟩
                obtain ⟨f1, f2, f3, f4, f5, f6⟩ := hfc.out y (List.mem_of_getElem? hy)
                obtain ⟨bD, oD, hAD, hbD, s0, s1, s2, s3, s4, s5⟩ := SlD.at_ (D2_w25.out.below hb3).sl hy
                subst hAD
                have hkl9 : (k9 : Int) < (tk.sends.length : Int) := by omega
                rw [hid9.out] at f3
                rw [hmx9.out] at f5
                replace hy := Lib.hid hy
                obtain ⟨yp, ⟨yr, yc, yb, yq⟩, ya⟩ := y
                simp only at f1 f2 f3 f4 f6 s0 s1 s2 s3 s4 s5
                subst yr; subst yc; subst yb; subst ya
                have n1 : (RV.r != RV.r) = false := by simp
                have n2 : (RV.c != RV.c) = false := by simp
                have n4 : ¬ m ≤ ga + 1 := by omega
                have n5 : (yp == (b : Int)) = false := by simpa using f6
                clear f5 f6
                have BV3 := Lib.hid (BV_w25.out.below hb3)
                have zv := BV3.out.lt
                go_upto_region 40 with fail
                obtain ⟨w66, hw66⟩ : ∃ W, W = wr.alloc (.cells #[.int .i64 yp, .int .i64 RV.r, .int .i64 RV.c, .int .i64 i, .int .i64 yq, .int .i64 (ga + 1)] 68) := ⟨_, rfl⟩
                have bw66 : Below wr.heap.size wr w66 := by rw [hw66]; exact (Below.refl _ _).alloc (Nat.le_refl _) _
                have Xw66 : Bx w66 wr.heap.size 68 #[.int .i64 yp, .int .i64 RV.r, .int .i64 RV.c, .int .i64 i, .int .i64 yq, .int .i64 (ga + 1)] := by rw [hw66]; exact Bx.new _ _ _ rfl
                rw [← hw66]
                clear hw66
                have BV_w66 := Lib.hid (BV3.out.below bw66)
                have BY_w66 := Lib.hid (Xw66)
                have z0_w66 : w24.heap.size < w66.heap.size := Nat.lt_of_lt_of_le zv bw66.size
                clear BV3 zv
                have z1_w66 : wr.heap.size < w66.heap.size := Xw66.lt
                clear Xw66
                clear s0 s1 s2 s3 s4 s5 hbD
                have o_BV_0 := BV_w66.out.c (i := 0) rfl
                have o_BV_1 := BV_w66.out.c (i := 1) rfl
                have o_BV_2 := BV_w66.out.c (i := 2) rfl
                have o_BV_3 := BV_w66.out.c (i := 3) rfl
                have o_BY_0 := BY_w66.out.c (i := 0) rfl
                have o_BY_1 := BY_w66.out.c (i := 1) rfl
                have o_BY_2 := BY_w66.out.c (i := 2) rfl
                have o_BY_3 := BY_w66.out.c (i := 3) rfl
                have o_BY_4 := BY_w66.out.c (i := 4) rfl
                have o_BY_5 := BY_w66.out.c (i := 5) rfl
                have hb4 := Lib.hid (bt hb3 bw66)
                go_wp2_with fail
                go_roundw
                case rel => exact ⟨k9 + 1, by omega, by go_num, hb4.out⟩
                case measure => simp [intOf]; omega
              · obtain rfl : k9 = tk.sends.length := by omega
                have V_wr := Lib.hid (V_w25.out.below hb3)
                have T2_wr := Lib.hid (T2_w25.out.below hb3)
                have D2_wr := Lib.hid (D2_w25.out.below hb3)
                have BA_wr := Lib.hid (BA_w25.out.below hb3)
                have BV_wr := Lib.hid (BV_w25.out.below hb3)
                have z0_wr : w22.heap.size < wr.heap.size := Nat.lt_of_lt_of_le z1_w25 hb3.size
                have z1_wr : w24.heap.size < wr.heap.size := Nat.lt_of_lt_of_le z2_w25 hb3.size
                have B_wr := bt B_w25 hb3
                clear V_w25 T2_w25 D2_w25 BA_w25 BV_w25 z1_w25 z2_w25 B_w25 hb3
                have zz := V_wr.out.x.lt
                have o_BA_0 := BA_wr.out.c (i := 0) rfl
                have o_BA_1 := BA_wr.out.c (i := 1) rfl
                have o_BA_2 := BA_wr.out.c (i := 2) rfl
                have o_BA_3 := BA_wr.out.c (i := 3) rfl
                have o_BA_4 := BA_wr.out.c (i := 4) rfl
                have o_BA_5 := BA_wr.out.c (i := 5) rfl
                have o_BA_6 := BA_wr.out.c (i := 6) rfl
                have o_V_0 := V_wr.out.c (i := 0) rfl
                have o_V_1 := V_wr.out.c (i := 1) rfl
                have o_V_2 := V_wr.out.c (i := 2) rfl
                have o_V_3 := V_wr.out.c (i := 3) rfl
                have o_V_4 := V_wr.out.c (i := 4) rfl
                have o_V_5 := V_wr.out.c (i := 5) rfl
                have o_V_6 := V_wr.out.c (i := 6) rfl
                have p_V_0 := V_wr.out.f 0
                have p_V_1 := V_wr.out.f 1
                have p_V_2 := V_wr.out.f 2
                have p_V_3 := V_wr.out.f 3
                have p_V_4 := V_wr.out.f 4
                have p_V_5 := V_wr.out.f 5
                have p_V_6 := V_wr.out.f 6
                go_wp2_with fail
                clear o_BA_0 o_BA_1 o_BA_2 o_BA_3 o_BA_4 o_BA_5 o_BA_6 o_V_0 o_V_1 o_V_2 o_V_3 o_V_4 o_V_5 o_V_6 p_V_0 p_V_1 p_V_2 p_V_3 p_V_4 p_V_5 p_V_6
                obtain ⟨w86, hw86⟩ : ∃ W, W = set7 wr bS (.int .i64 tk.self.id) (.slice AC2 tk.self.costs.length cC2) (.slice AU2 tk.self.ups.length cU2) (.slice (some ⟨bI, oI, none⟩) tk.self.infos.length cI2) (.slice AS2 tk.states.length cS2) (.int .i64 tk.mx) (.int .i64 tk.dl) := ⟨_, rfl⟩
                have Vw86 := Lib.hid (show Lv w w86 bS i m d nn tk AC2 cC2 AU2 cU2 (some ⟨bI, oI, none⟩) cI2 AS2 cS2 by rw [hw86]; exact V_wr.out.step (Below.refl _ _) hsame.out T2_wr.out off2.out)
                unfold set7 at hw86
                rw [← hw86]
                clear hw86
                clear V_wr T2_wr D2_wr BA_wr BV_wr
                clear zz
                exact hK Vw86.out
      | false =>

        have zz := V_w21.out.x.lt
        have bgr := mod_b x2 6 (by omega) (by omega)
        obtain ⟨gr, hgr⟩ : ∃ x, (wrap64 (x2.tmod 6 + 6)).tmod 6 = x := ⟨_, rfl⟩
        rw [hgr] at bgr
        have bgc := mod_b x3 30 (by omega) (by omega)
        obtain ⟨gc, hgc⟩ : ∃ x, (wrap64 (x3.tmod 30 + 30)).tmod 30 = x := ⟨_, rfl⟩
        rw [hgc] at bgc
        have bgb := mod_b x3 6 (by omega) (by omega)
        obtain ⟨gb, hgb⟩ : ∃ x, (wrap64 (x3.tmod 6 + 6)).tmod 6 = x := ⟨_, rfl⟩
        rw [hgb] at bgb
        have bgp := mod_b x2 8 (by omega) (by omega)
        obtain ⟨gp, hgp⟩ : ∃ x, (wrap64 (x2.tmod 8 + 8)).tmod 8 = x := ⟨_, rfl⟩
        rw [hgp] at bgp
        have bga := mod_b x3 25 (by omega) (by omega)
        obtain ⟨ga, hga⟩ : ∃ x, (wrap64 (x3.tmod 25 + 25)).tmod 25 = x := ⟨_, rfl⟩
        rw [hga] at bga
        have hcf := Lib.hid (cfg_of bgr bgc bgb bgp bga)
        have hpl := Lib.hid (show p < t.states.length by rw [V_w21.out.sts]; exact hpn.out)
        obtain ⟨hT, hhT⟩ : ∃ u, t.hear p ⟨gr, gc, gb, gp⟩ ga = u := ⟨_, rfl⟩
        obtain ⟨hB, hhB⟩ : ∃ u, t.hears p ⟨gr, gc, gb, gp⟩ ga = u := ⟨_, rfl⟩
        have hsame := Lib.hid (show Same t hT by rw [← hhT]; exact same_hear V_w21.out.ok hpl.out hcf.out V_w21.out.l)
        have hcH := Lib.hid (show ∀ (W : World), Lv w W bS i m d nn t AC cC AU cU AI cI AS cS → Calls Try.prog 8 #[tv t AC cC AU cU AI cI AS cS, .int .i64 p, .agg #[.int .i64 gr, .int .i64 gc, .int .i64 gb, .int .i64 gp, .int .i64 ga]] W (RetT W (fun b => OffT b t AC AU AI AS) hT (fun x => .tuple #[x, .bool hB, .int .i64 0])) from fun W h => by
          have := C.hear_ok (p := p) (v := ⟨gr, gc, gb, gp⟩) (a := ga) h.ok h.arg (by rw [h.sts]; exact hpn.out) hcf.out
          rw [hhT, hhB] at this
          exact this)
        replace hhT := Lib.hid hhT
        replace hhB := Lib.hid hhB
        clear bgr bgc bgb bgp bga
        have hlt9 := Lib.hid V_w21.out.x.lt
        have ho9 := Lib.hid V_w21.out.o
        have o_V_0 := V_w21.out.c (i := 0) rfl
        have o_V_1 := V_w21.out.c (i := 1) rfl
        have o_V_2 := V_w21.out.c (i := 2) rfl
        have o_V_3 := V_w21.out.c (i := 3) rfl
        have o_V_4 := V_w21.out.c (i := 4) rfl
        have o_V_5 := V_w21.out.c (i := 5) rfl
        have o_V_6 := V_w21.out.c (i := 6) rfl
        have o_X4_0 := X4_w21.out.c (i := 0) rfl
        have o_X4_1 := X4_w21.out.c (i := 1) rfl
        have o_X4_2 := X4_w21.out.c (i := 2) rfl
        have o_X4_3 := X4_w21.out.c (i := 3) rfl
        go_wp2_with fail
        clear o_V_0 o_V_1 o_V_2 o_V_3 o_V_4 o_V_5 o_V_6 o_X4_0 o_X4_1 o_X4_2 o_X4_3
        go_at_call 8
        (with_reducible refine (hcH.out _ V_w21.out).mono ?_)
        rintro e w22 ⟨AC2, cC2, AU2, cU2, AI2, cI2, AS2, cS2, rfl, tr2, hb22, of2⟩
        have V_w22 := Lib.hid (V_w21.out.below hb22)
        have X4_w22 := Lib.hid (X4_w21.out.below hb22)
        have T2_w22 := Lib.hid (tr2)
        have z0_w22 : bX < w22.heap.size := Nat.lt_of_lt_of_le z0_w21 hb22.size
        have B_w22 := bt bw21 hb22
        clear V_w21 X4_w21 z0_w21 bw21 hb22
        have off2 := Lib.hid (of2 _ hlt9.out ho9.out)
        clear of2 hcH tr2 zz
        go_upto_region 19 with fail
        obtain ⟨w23, hw23⟩ : ∃ W, W = w22.alloc (.cells #[.int .i64 hT.self.id, .slice AC2 hT.self.costs.length cC2, .slice AU2 hT.self.ups.length cU2, .slice AI2 hT.self.infos.length cI2, .slice AS2 hT.states.length cS2, .int .i64 hT.mx, .int .i64 hT.dl] 29) := ⟨_, rfl⟩
        have bw23 : Below w22.heap.size w22 w23 := by rw [hw23]; exact (Below.refl _ _).alloc (Nat.le_refl _) _
        have Xw23 : Bx w23 w22.heap.size 29 #[.int .i64 hT.self.id, .slice AC2 hT.self.costs.length cC2, .slice AU2 hT.self.ups.length cU2, .slice AI2 hT.self.infos.length cI2, .slice AS2 hT.states.length cS2, .int .i64 hT.mx, .int .i64 hT.dl] := by rw [hw23]; exact Bx.new _ _ _ rfl
        rw [← hw23]
        clear hw23
        have V_w23 := Lib.hid (V_w22.out.below bw23)
        have X4_w23 := Lib.hid (X4_w22.out.below bw23)
        have T2_w23 := Lib.hid (T2_w22.out.below bw23)
        have BA_w23 := Lib.hid (Xw23)
        have z0_w23 : bX < w23.heap.size := Nat.lt_of_lt_of_le z0_w22 bw23.size
        have B_w23 := bt B_w22 bw23
        clear V_w22 X4_w22 T2_w22 z0_w22 B_w22 bw23
        have z1_w23 : w22.heap.size < w23.heap.size := Xw23.lt
        clear Xw23
        have zz := V_w23.out.x.lt
        have o_BA_0 := BA_w23.out.c (i := 0) rfl
        have o_BA_1 := BA_w23.out.c (i := 1) rfl
        have o_BA_2 := BA_w23.out.c (i := 2) rfl
        have o_BA_3 := BA_w23.out.c (i := 3) rfl
        have o_BA_4 := BA_w23.out.c (i := 4) rfl
        have o_BA_5 := BA_w23.out.c (i := 5) rfl
        have o_BA_6 := BA_w23.out.c (i := 6) rfl
        have o_V_0 := V_w23.out.c (i := 0) rfl
        have o_V_1 := V_w23.out.c (i := 1) rfl
        have o_V_2 := V_w23.out.c (i := 2) rfl
        have o_V_3 := V_w23.out.c (i := 3) rfl
        have o_V_4 := V_w23.out.c (i := 4) rfl
        have o_V_5 := V_w23.out.c (i := 5) rfl
        have o_V_6 := V_w23.out.c (i := 6) rfl
        have p_V_0 := V_w23.out.f 0
        have p_V_1 := V_w23.out.f 1
        have p_V_2 := V_w23.out.f 2
        have p_V_3 := V_w23.out.f 3
        have p_V_4 := V_w23.out.f 4
        have p_V_5 := V_w23.out.f 5
        have p_V_6 := V_w23.out.f 6
        go_wp2_with fail
        clear o_BA_0 o_BA_1 o_BA_2 o_BA_3 o_BA_4 o_BA_5 o_BA_6 o_V_0 o_V_1 o_V_2 o_V_3 o_V_4 o_V_5 o_V_6 p_V_0 p_V_1 p_V_2 p_V_3 p_V_4 p_V_5 p_V_6
        obtain ⟨w24, hw24⟩ : ∃ W, W = set7 w23 bS (.int .i64 hT.self.id) (.slice AC2 hT.self.costs.length cC2) (.slice AU2 hT.self.ups.length cU2) (.slice AI2 hT.self.infos.length cI2) (.slice AS2 hT.states.length cS2) (.int .i64 hT.mx) (.int .i64 hT.dl) := ⟨_, rfl⟩
        have Vw24 := Lib.hid (show Lv w w24 bS i m d nn hT AC2 cC2 AU2 cU2 AI2 cI2 AS2 cS2 by rw [hw24]; exact V_w23.out.step (Below.refl _ _) hsame.out T2_w23.out off2.out)
        unfold set7 at hw24
        rw [← hw24]
        clear hw24
        clear V_w23 X4_w23 T2_w23 BA_w23
        clear zz
        exact hK Vw24.out
end Go.Proofs.Ytidoaccidmmalaa.StpP
