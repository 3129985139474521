/-
  The same facts, part 3.
-/
import Derived.Test.YtlgfogllkoabpaaQb0
namespace Go.Proofs
open Go.Conc Go.Proofs.Ytlgfogllkoabpaa.SimP
set_option linter.unusedVariables false
set_option maxRecDepth 100000
namespace TryQ
@[simp] theorem func3 : TryQ.prog.funcs[3]? = some Try.f3 := fq_some Try.func3 (by decide) (by kernel_rfl)
@[simp] theorem call3 (args : Array Value) (w : World) : Sem.run TryQ.prog (callFunc 3 args) w = .ok (.enter 3 args) w := callQ func3 rfl (by kernel_rfl) args w
@[simp] theorem func4 : TryQ.prog.funcs[4]? = some Try.f4 := fq_some Try.func4 (by decide) (by kernel_rfl)
@[simp] theorem call4 (args : Array Value) (w : World) : Sem.run TryQ.prog (callFunc 4 args) w = .ok (.enter 4 args) w := callQ func4 rfl (by kernel_rfl) args w
@[simp] theorem func5 : TryQ.prog.funcs[5]? = some Try.f5 := fq_some Try.func5 (by decide) (by kernel_rfl)
@[simp] theorem call5 (args : Array Value) (w : World) : Sem.run TryQ.prog (callFunc 5 args) w = .ok (.enter 5 args) w := callQ func5 rfl (by kernel_rfl) args w
@[simp] theorem func6 : TryQ.prog.funcs[6]? = some Try.f6 := fq_some Try.func6 (by decide) (by kernel_rfl)
@[simp] theorem call6 (args : Array Value) (w : World) : Sem.run TryQ.prog (callFunc 6 args) w = .ok (.enter 6 args) w := callQ func6 rfl (by kernel_rfl) args w
@[simp] theorem func7 : TryQ.prog.funcs[7]? = some Try.f7 := fq_some Try.func7 (by decide) (by kernel_rfl)
@[simp] theorem call7 (args : Array Value) (w : World) : Sem.run TryQ.prog (callFunc 7 args) w = .ok (.enter 7 args) w := callQ func7 rfl (by kernel_rfl) args w
@[simp] theorem func8 : TryQ.prog.funcs[8]? = some Try.f8 := fq_some Try.func8 (by decide) (by kernel_rfl)
@[simp] theorem call8 (args : Array Value) (w : World) : Sem.run TryQ.prog (callFunc 8 args) w = .ok (.enter 8 args) w := callQ func8 rfl (by kernel_rfl) args w
@[simp] theorem func9 : TryQ.prog.funcs[9]? = some Try.f9 := fq_some Try.func9 (by decide) (by kernel_rfl)
@[simp] theorem call9 (args : Array Value) (w : World) : Sem.run TryQ.prog (callFunc 9 args) w = .ok (.enter 9 args) w := callQ func9 rfl (by kernel_rfl) args w
@[simp] theorem func10 : TryQ.prog.funcs[10]? = some Try.f10 := fq_some Try.func10 (by decide) (by kernel_rfl)
@[simp] theorem call10 (args : Array Value) (w : World) : Sem.run TryQ.prog (callFunc 10 args) w = .ok (.enter 10 args) w := callQ func10 rfl (by kernel_rfl) args w
@[simp] theorem func11 : TryQ.prog.funcs[11]? = some Try.f11 := fq_some Try.func11 (by decide) (by kernel_rfl)
@[simp] theorem call11 (args : Array Value) (w : World) : Sem.run TryQ.prog (callFunc 11 args) w = .ok (.enter 11 args) w := callQ func11 rfl (by kernel_rfl) args w
@[simp] theorem func12 : TryQ.prog.funcs[12]? = some Try.f12 := fq_some Try.func12 (by decide) (by kernel_rfl)
@[simp] theorem call12 (args : Array Value) (w : World) : Sem.run TryQ.prog (callFunc 12 args) w = .ok (.enter 12 args) w := callQ func12 rfl (by kernel_rfl) args w
@[simp] theorem func13 : TryQ.prog.funcs[13]? = some Try.f13 := fq_some Try.func13 (by decide) (by kernel_rfl)
@[simp] theorem call13 (args : Array Value) (w : World) : Sem.run TryQ.prog (callFunc 13 args) w = .ok (.enter 13 args) w := callQ func13 rfl (by kernel_rfl) args w
@[simp] theorem func14 : TryQ.prog.funcs[14]? = some Try.f14 := fq_some Try.func14 (by decide) (by kernel_rfl)
@[simp] theorem call14 (args : Array Value) (w : World) : Sem.run TryQ.prog (callFunc 14 args) w = .ok (.enter 14 args) w := callQ func14 rfl (by kernel_rfl) args w
@[simp] theorem func15 : TryQ.prog.funcs[15]? = some Try.f15 := fq_some Try.func15 (by decide) (by kernel_rfl)
@[simp] theorem call15 (args : Array Value) (w : World) : Sem.run TryQ.prog (callFunc 15 args) w = .ok (.enter 15 args) w := callQ func15 rfl (by kernel_rfl) args w
@[simp] theorem func16 : TryQ.prog.funcs[16]? = some Try.f16 := fq_some Try.func16 (by decide) (by kernel_rfl)
@[simp] theorem call16 (args : Array Value) (w : World) : Sem.run TryQ.prog (callFunc 16 args) w = .ok (.enter 16 args) w := callQ func16 rfl (by kernel_rfl) args w
@[simp] theorem func17 : TryQ.prog.funcs[17]? = some Try.f17 := fq_some Try.func17 (by decide) (by kernel_rfl)
@[simp] theorem call17 (args : Array Value) (w : World) : Sem.run TryQ.prog (callFunc 17 args) w = .ok (.enter 17 args) w := callQ func17 rfl (by kernel_rfl) args w
noncomputable def f18 : Func := { Try.f18 with body := some ownSum }
@[simp] theorem func18 : TryQ.prog.funcs[18]? = some f18 := fq_own Try.func18
@[simp] theorem ntmps18 : Func.ntmps f18 = 24 := rfl
@[simp] theorem results18 : Func.results f18 = #[.tmp 2] := rfl
@[simp] theorem params18 : Func.params f18 = #[9] := rfl
@[simp] theorem call18 (args : Array Value) (w : World) : Sem.run TryQ.prog (callFunc 18 args) w = .ok (.enter 18 args) w := callQ func18 rfl (by kernel_rfl) args w
@[simp] theorem func19 : TryQ.prog.funcs[19]? = some Try.f19 := fq_some Try.func19 (by decide) (by kernel_rfl)
@[simp] theorem call19 (args : Array Value) (w : World) : Sem.run TryQ.prog (callFunc 19 args) w = .ok (.enter 19 args) w := callQ func19 rfl (by kernel_rfl) args w
@[simp] theorem func20 : TryQ.prog.funcs[20]? = some Try.f20 := fq_some Try.func20 (by decide) (by kernel_rfl)
@[simp] theorem call20 (args : Array Value) (w : World) : Sem.run TryQ.prog (callFunc 20 args) w = .ok (.enter 20 args) w := callQ func20 rfl (by kernel_rfl) args w
@[simp] theorem func21 : TryQ.prog.funcs[21]? = some Try.f21 := fq_some Try.func21 (by decide) (by kernel_rfl)
@[simp] theorem call21 (args : Array Value) (w : World) : Sem.run TryQ.prog (callFunc 21 args) w = .ok (.enter 21 args) w := callQ func21 rfl (by kernel_rfl) args w
@[simp] theorem func22 : TryQ.prog.funcs[22]? = some Try.f22 := fq_some Try.func22 (by decide) (by kernel_rfl)
@[simp] theorem call22 (args : Array Value) (w : World) : Sem.run TryQ.prog (callFunc 22 args) w = .ok (.enter 22 args) w := callQ func22 rfl (by kernel_rfl) args w
@[simp] theorem func23 : TryQ.prog.funcs[23]? = some Try.f23 := fq_some Try.func23 (by decide) (by kernel_rfl)
@[simp] theorem call23 (args : Array Value) (w : World) : Sem.run TryQ.prog (callFunc 23 args) w = .ok (.enter 23 args) w := callQ func23 rfl (by kernel_rfl) args w
@[simp] theorem func24 : TryQ.prog.funcs[24]? = some Try.f24 := fq_some Try.func24 (by decide) (by kernel_rfl)
@[simp] theorem call24 (args : Array Value) (w : World) : Sem.run TryQ.prog (callFunc 24 args) w = .ok (.enter 24 args) w := callQ func24 rfl (by kernel_rfl) args w
@[simp] theorem func25 : TryQ.prog.funcs[25]? = some Try.f25 := fq_some Try.func25 (by decide) (by kernel_rfl)
@[simp] theorem call25 (args : Array Value) (w : World) : Sem.run TryQ.prog (callFunc 25 args) w = .ok (.enter 25 args) w := callQ func25 rfl (by kernel_rfl) args w
@[simp] theorem func26 : TryQ.prog.funcs[26]? = some Try.f26 := fq_some Try.func26 (by decide) (by kernel_rfl)
@[simp] theorem call26 (args : Array Value) (w : World) : Sem.run TryQ.prog (callFunc 26 args) w = .ok (.enter 26 args) w := callQ func26 rfl (by kernel_rfl) args w
@[simp] theorem func27 : TryQ.prog.funcs[27]? = some Try.f27 := fq_some Try.func27 (by decide) (by kernel_rfl)
@[simp] theorem call27 (args : Array Value) (w : World) : Sem.run TryQ.prog (callFunc 27 args) w = .ok (.enter 27 args) w := callQ func27 rfl (by kernel_rfl) args w
@[simp] theorem func28 : TryQ.prog.funcs[28]? = some Try.f28 := fq_some Try.func28 (by decide) (by kernel_rfl)
@[simp] theorem call28 (args : Array Value) (w : World) : Sem.run TryQ.prog (callFunc 28 args) w = .ok (.enter 28 args) w := callQ func28 rfl (by kernel_rfl) args w
@[simp] theorem func29 : TryQ.prog.funcs[29]? = some Try.f29 := fq_some Try.func29 (by decide) (by kernel_rfl)
@[simp] theorem call29 (args : Array Value) (w : World) : Sem.run TryQ.prog (callFunc 29 args) w = .ok (.enter 29 args) w := callQ func29 rfl (by kernel_rfl) args w
@[simp] theorem func34 : TryQ.prog.funcs[34]? = some Try.f34 := fq_some Try.func34 (by decide) (by kernel_rfl)
@[simp] theorem call34 (args : Array Value) (w : World) : Sem.run TryQ.prog (callFunc 34 args) w = .ok (.enter 34 args) w := callQ func34 rfl (by kernel_rfl) args w
@[simp] theorem func37 : TryQ.prog.funcs[37]? = some Try.f37 := fq_some Try.func37 (by decide) (by kernel_rfl)
@[simp] theorem call37 (args : Array Value) (w : World) : Sem.run TryQ.prog (callFunc 37 args) w = .ok (.enter 37 args) w := callQ func37 rfl (by kernel_rfl) args w
@[simp] theorem func38 : TryQ.prog.funcs[38]? = some Try.f38 := fq_some Try.func38 (by decide) (by kernel_rfl)
@[simp] theorem call38 (args : Array Value) (w : World) : Sem.run TryQ.prog (callFunc 38 args) w = .ok (.enter 38 args) w := callQ func38 rfl (by kernel_rfl) args w
@[simp] theorem func39 : TryQ.prog.funcs[39]? = some Try.f39 := fq_some Try.func39 (by decide) (by kernel_rfl)
@[simp] theorem call39 (args : Array Value) (w : World) : Sem.run TryQ.prog (callFunc 39 args) w = .ok (.enter 39 args) w := callQ func39 rfl (by kernel_rfl) args w
@[simp] theorem func40 : TryQ.prog.funcs[40]? = some Try.f40 := fq_some Try.func40 (by decide) (by kernel_rfl)
@[simp] theorem call40 (args : Array Value) (w : World) : Sem.run TryQ.prog (callFunc 40 args) w = .ok (.enter 40 args) w := callQ func40 rfl (by kernel_rfl) args w
@[simp] theorem func41 : TryQ.prog.funcs[41]? = some Try.f41 := fq_some Try.func41 (by decide) (by kernel_rfl)
@[simp] theorem call41 (args : Array Value) (w : World) : Sem.run TryQ.prog (callFunc 41 args) w = .ok (.enter 41 args) w := callQ func41 rfl (by kernel_rfl) args w
@[simp] theorem func42 : TryQ.prog.funcs[42]? = some Try.f42 := fq_some Try.func42 (by decide) (by kernel_rfl)
@[simp] theorem call42 (args : Array Value) (w : World) : Sem.run TryQ.prog (callFunc 42 args) w = .ok (.enter 42 args) w := callQ func42 rfl (by kernel_rfl) args w
@[simp] theorem func43 : TryQ.prog.funcs[43]? = some Try.f43 := fq_some Try.func43 (by decide) (by kernel_rfl)
@[simp] theorem call43 (args : Array Value) (w : World) : Sem.run TryQ.prog (callFunc 43 args) w = .ok (.enter 43 args) w := callQ func43 rfl (by kernel_rfl) args w
@[simp] theorem func44 : TryQ.prog.funcs[44]? = some Try.f44 := fq_some Try.func44 (by decide) (by kernel_rfl)
@[simp] theorem call44 (args : Array Value) (w : World) : Sem.run TryQ.prog (callFunc 44 args) w = .ok (.enter 44 args) w := callQ func44 rfl (by kernel_rfl) args w
@[simp] theorem func45 : TryQ.prog.funcs[45]? = some Try.f45 := fq_some Try.func45 (by decide) (by kernel_rfl)
@[simp] theorem call45 (args : Array Value) (w : World) : Sem.run TryQ.prog (callFunc 45 args) w = .ok (.enter 45 args) w := callQ func45 rfl (by kernel_rfl) args w
@[simp] theorem func46 : TryQ.prog.funcs[46]? = some Try.f46 := fq_some Try.func46 (by decide) (by kernel_rfl)
@[simp] theorem call46 (args : Array Value) (w : World) : Sem.run TryQ.prog (callFunc 46 args) w = .ok (.enter 46 args) w := callQ func46 rfl (by kernel_rfl) args w
@[simp] theorem func47 : TryQ.prog.funcs[47]? = some Try.f47 := fq_some Try.func47 (by decide) (by kernel_rfl)
@[simp] theorem call47 (args : Array Value) (w : World) : Sem.run TryQ.prog (callFunc 47 args) w = .ok (.enter 47 args) w := callQ func47 rfl (by kernel_rfl) args w
@[simp] theorem func48 : TryQ.prog.funcs[48]? = some Try.f48 := fq_some Try.func48 (by decide) (by kernel_rfl)
@[simp] theorem call48 (args : Array Value) (w : World) : Sem.run TryQ.prog (callFunc 48 args) w = .ok (.enter 48 args) w := callQ func48 rfl (by kernel_rfl) args w
@[simp] theorem func49 : TryQ.prog.funcs[49]? = some Try.f49 := fq_some Try.func49 (by decide) (by kernel_rfl)
@[simp] theorem call49 (args : Array Value) (w : World) : Sem.run TryQ.prog (callFunc 49 args) w = .ok (.enter 49 args) w := callQ func49 rfl (by kernel_rfl) args w
@[simp] theorem func70 : TryQ.prog.funcs[70]? = some Try.f70 := fq_some Try.func70 (by decide) (by kernel_rfl)
@[simp] theorem call70 (args : Array Value) (w : World) : Sem.run TryQ.prog (callFunc 70 args) w = .ok (.enter 70 args) w := callQ func70 rfl (by kernel_rfl) args w
@[simp] theorem func71 : TryQ.prog.funcs[71]? = some Try.f71 := fq_some Try.func71 (by decide) (by kernel_rfl)
@[simp] theorem call71 (args : Array Value) (w : World) : Sem.run TryQ.prog (callFunc 71 args) w = .ok (.enter 71 args) w := callQ func71 rfl (by kernel_rfl) args w
@[simp] theorem func72 : TryQ.prog.funcs[72]? = some Try.f72 := fq_some Try.func72 (by decide) (by kernel_rfl)
@[simp] theorem call72 (args : Array Value) (w : World) : Sem.run TryQ.prog (callFunc 72 args) w = .ok (.enter 72 args) w := callQ func72 rfl (by kernel_rfl) args w
@[simp] theorem func73 : TryQ.prog.funcs[73]? = some Try.f73 := fq_some Try.func73 (by decide) (by kernel_rfl)
@[simp] theorem call73 (args : Array Value) (w : World) : Sem.run TryQ.prog (callFunc 73 args) w = .ok (.enter 73 args) w := callQ func73 rfl (by kernel_rfl) args w
@[simp] theorem func74 : TryQ.prog.funcs[74]? = some Try.f74 := fq_some Try.func74 (by decide) (by kernel_rfl)
@[simp] theorem call74 (args : Array Value) (w : World) : Sem.run TryQ.prog (callFunc 74 args) w = .ok (.enter 74 args) w := callQ func74 rfl (by kernel_rfl) args w
@[simp] theorem func75 : TryQ.prog.funcs[75]? = some Try.f75 := fq_some Try.func75 (by decide) (by kernel_rfl)
@[simp] theorem call75 (args : Array Value) (w : World) : Sem.run TryQ.prog (callFunc 75 args) w = .ok (.enter 75 args) w := callQ func75 rfl (by kernel_rfl) args w
@[simp] theorem func81 : TryQ.prog.funcs[81]? = some Try.f81 := fq_some Try.func81 (by decide) (by kernel_rfl)
@[simp] theorem call81 (args : Array Value) (w : World) : Sem.run TryQ.prog (callFunc 81 args) w = .ok (.enter 81 args) w := callQ func81 rfl (by kernel_rfl) args w
@[simp] theorem func82 : TryQ.prog.funcs[82]? = some Try.f82 := fq_some Try.func82 (by decide) (by kernel_rfl)
@[simp] theorem call82 (args : Array Value) (w : World) : Sem.run TryQ.prog (callFunc 82 args) w = .ok (.enter 82 args) w := callQ func82 rfl (by kernel_rfl) args w
@[simp] theorem func83 : TryQ.prog.funcs[83]? = some Try.f83 := fq_some Try.func83 (by decide) (by kernel_rfl)
@[simp] theorem call83 (args : Array Value) (w : World) : Sem.run TryQ.prog (callFunc 83 args) w = .ok (.enter 83 args) w := callQ func83 rfl (by kernel_rfl) args w
end TryQ
end Go.Proofs
