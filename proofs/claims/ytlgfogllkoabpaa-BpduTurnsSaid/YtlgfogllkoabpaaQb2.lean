/-
  The same facts, part 2.
-/
import Derived.Test.YtlgfogllkoabpaaQb0
namespace Go.Proofs
open Go.Conc Go.Proofs.Ytlgfogllkoabpaa.SimP
set_option linter.unusedVariables false
set_option maxRecDepth 100000
namespace TryQ
@[simp] theorem zeroValue58 : type_of% (fun w => (aZeroValue 58 w).trans (Try.zeroValue58 w)) := fun w => (aZeroValue 58 w).trans (Try.zeroValue58 w)
@[simp] theorem type59 : TryQ.prog.toTables.types[59]? = some Try.t59 := Try.type59
@[simp] theorem typeInfo59 : type_of% (fun w => (aTypeInfo 59 w).trans (Try.typeInfo59 w)) := fun w => (aTypeInfo 59 w).trans (Try.typeInfo59 w)
@[simp] theorem sizeOf59 : type_of% (fun w => (aSizeOf 59 w).trans (Try.sizeOf59 w)) := fun w => (aSizeOf 59 w).trans (Try.sizeOf59 w)
@[simp] theorem underlying59 : type_of% ((aUnderlying 59).trans Try.underlying59) := (aUnderlying 59).trans Try.underlying59
@[simp] theorem runUnderlying59 : type_of% (fun w => (aRunUnderlying 59 w).trans (Try.runUnderlying59 w)) := fun w => (aRunUnderlying 59 w).trans (Try.runUnderlying59 w)
@[simp] theorem isAgg59 : type_of% (fun w => (aIsAgg 59 w).trans (Try.isAgg59 w)) := fun w => (aIsAgg 59 w).trans (Try.isAgg59 w)
@[simp] theorem eqGuardType59 : type_of% ((aEqg 59).trans Try.eqGuardType59) := (aEqg 59).trans Try.eqGuardType59
@[simp] theorem stoodInHeld59 : type_of% ((aStoodIn 59).trans Try.stoodInHeld59) := (aStoodIn 59).trans Try.stoodInHeld59
@[simp] theorem zeroValue59 : type_of% (fun w => (aZeroValue 59 w).trans (Try.zeroValue59 w)) := fun w => (aZeroValue 59 w).trans (Try.zeroValue59 w)
@[simp] theorem type60 : TryQ.prog.toTables.types[60]? = some Try.t60 := Try.type60
@[simp] theorem typeInfo60 : type_of% (fun w => (aTypeInfo 60 w).trans (Try.typeInfo60 w)) := fun w => (aTypeInfo 60 w).trans (Try.typeInfo60 w)
@[simp] theorem sizeOf60 : type_of% (fun w => (aSizeOf 60 w).trans (Try.sizeOf60 w)) := fun w => (aSizeOf 60 w).trans (Try.sizeOf60 w)
@[simp] theorem underlying60 : type_of% ((aUnderlying 60).trans Try.underlying60) := (aUnderlying 60).trans Try.underlying60
@[simp] theorem runUnderlying60 : type_of% (fun w => (aRunUnderlying 60 w).trans (Try.runUnderlying60 w)) := fun w => (aRunUnderlying 60 w).trans (Try.runUnderlying60 w)
@[simp] theorem isAgg60 : type_of% (fun w => (aIsAgg 60 w).trans (Try.isAgg60 w)) := fun w => (aIsAgg 60 w).trans (Try.isAgg60 w)
@[simp] theorem eqGuardType60 : type_of% ((aEqg 60).trans Try.eqGuardType60) := (aEqg 60).trans Try.eqGuardType60
@[simp] theorem stoodInHeld60 : type_of% ((aStoodIn 60).trans Try.stoodInHeld60) := (aStoodIn 60).trans Try.stoodInHeld60
@[simp] theorem zeroValue60 : type_of% (fun w => (aZeroValue 60 w).trans (Try.zeroValue60 w)) := fun w => (aZeroValue 60 w).trans (Try.zeroValue60 w)
@[simp] theorem type61 : TryQ.prog.toTables.types[61]? = some Try.t61 := Try.type61
@[simp] theorem typeInfo61 : type_of% (fun w => (aTypeInfo 61 w).trans (Try.typeInfo61 w)) := fun w => (aTypeInfo 61 w).trans (Try.typeInfo61 w)
@[simp] theorem sizeOf61 : type_of% (fun w => (aSizeOf 61 w).trans (Try.sizeOf61 w)) := fun w => (aSizeOf 61 w).trans (Try.sizeOf61 w)
@[simp] theorem underlying61 : type_of% ((aUnderlying 61).trans Try.underlying61) := (aUnderlying 61).trans Try.underlying61
@[simp] theorem runUnderlying61 : type_of% (fun w => (aRunUnderlying 61 w).trans (Try.runUnderlying61 w)) := fun w => (aRunUnderlying 61 w).trans (Try.runUnderlying61 w)
@[simp] theorem isAgg61 : type_of% (fun w => (aIsAgg 61 w).trans (Try.isAgg61 w)) := fun w => (aIsAgg 61 w).trans (Try.isAgg61 w)
@[simp] theorem zeroValue61 : type_of% (fun w => (aZeroValue 61 w).trans (Try.zeroValue61 w)) := fun w => (aZeroValue 61 w).trans (Try.zeroValue61 w)
@[simp] theorem type62 : TryQ.prog.toTables.types[62]? = some Try.t62 := Try.type62
@[simp] theorem typeInfo62 : type_of% (fun w => (aTypeInfo 62 w).trans (Try.typeInfo62 w)) := fun w => (aTypeInfo 62 w).trans (Try.typeInfo62 w)
@[simp] theorem sizeOf62 : type_of% (fun w => (aSizeOf 62 w).trans (Try.sizeOf62 w)) := fun w => (aSizeOf 62 w).trans (Try.sizeOf62 w)
@[simp] theorem underlying62 : type_of% ((aUnderlying 62).trans Try.underlying62) := (aUnderlying 62).trans Try.underlying62
@[simp] theorem runUnderlying62 : type_of% (fun w => (aRunUnderlying 62 w).trans (Try.runUnderlying62 w)) := fun w => (aRunUnderlying 62 w).trans (Try.runUnderlying62 w)
@[simp] theorem isAgg62 : type_of% (fun w => (aIsAgg 62 w).trans (Try.isAgg62 w)) := fun w => (aIsAgg 62 w).trans (Try.isAgg62 w)
@[simp] theorem zeroValue62 : type_of% (fun w => (aZeroValue 62 w).trans (Try.zeroValue62 w)) := fun w => (aZeroValue 62 w).trans (Try.zeroValue62 w)
@[simp] theorem type63 : TryQ.prog.toTables.types[63]? = some Try.t63 := Try.type63
@[simp] theorem typeInfo63 : type_of% (fun w => (aTypeInfo 63 w).trans (Try.typeInfo63 w)) := fun w => (aTypeInfo 63 w).trans (Try.typeInfo63 w)
@[simp] theorem sizeOf63 : type_of% (fun w => (aSizeOf 63 w).trans (Try.sizeOf63 w)) := fun w => (aSizeOf 63 w).trans (Try.sizeOf63 w)
@[simp] theorem underlying63 : type_of% ((aUnderlying 63).trans Try.underlying63) := (aUnderlying 63).trans Try.underlying63
@[simp] theorem runUnderlying63 : type_of% (fun w => (aRunUnderlying 63 w).trans (Try.runUnderlying63 w)) := fun w => (aRunUnderlying 63 w).trans (Try.runUnderlying63 w)
@[simp] theorem isAgg63 : type_of% (fun w => (aIsAgg 63 w).trans (Try.isAgg63 w)) := fun w => (aIsAgg 63 w).trans (Try.isAgg63 w)
@[simp] theorem zeroValue63 : type_of% (fun w => (aZeroValue 63 w).trans (Try.zeroValue63 w)) := fun w => (aZeroValue 63 w).trans (Try.zeroValue63 w)
@[simp] theorem type64 : TryQ.prog.toTables.types[64]? = some Try.t64 := Try.type64
@[simp] theorem typeInfo64 : type_of% (fun w => (aTypeInfo 64 w).trans (Try.typeInfo64 w)) := fun w => (aTypeInfo 64 w).trans (Try.typeInfo64 w)
@[simp] theorem sizeOf64 : type_of% (fun w => (aSizeOf 64 w).trans (Try.sizeOf64 w)) := fun w => (aSizeOf 64 w).trans (Try.sizeOf64 w)
@[simp] theorem underlying64 : type_of% ((aUnderlying 64).trans Try.underlying64) := (aUnderlying 64).trans Try.underlying64
@[simp] theorem runUnderlying64 : type_of% (fun w => (aRunUnderlying 64 w).trans (Try.runUnderlying64 w)) := fun w => (aRunUnderlying 64 w).trans (Try.runUnderlying64 w)
@[simp] theorem isAgg64 : type_of% (fun w => (aIsAgg 64 w).trans (Try.isAgg64 w)) := fun w => (aIsAgg 64 w).trans (Try.isAgg64 w)
@[simp] theorem zeroValue64 : type_of% (fun w => (aZeroValue 64 w).trans (Try.zeroValue64 w)) := fun w => (aZeroValue 64 w).trans (Try.zeroValue64 w)
@[simp] theorem type65 : TryQ.prog.toTables.types[65]? = some Try.t65 := Try.type65
@[simp] theorem typeInfo65 : type_of% (fun w => (aTypeInfo 65 w).trans (Try.typeInfo65 w)) := fun w => (aTypeInfo 65 w).trans (Try.typeInfo65 w)
@[simp] theorem sizeOf65 : type_of% (fun w => (aSizeOf 65 w).trans (Try.sizeOf65 w)) := fun w => (aSizeOf 65 w).trans (Try.sizeOf65 w)
@[simp] theorem underlying65 : type_of% ((aUnderlying 65).trans Try.underlying65) := (aUnderlying 65).trans Try.underlying65
@[simp] theorem runUnderlying65 : type_of% (fun w => (aRunUnderlying 65 w).trans (Try.runUnderlying65 w)) := fun w => (aRunUnderlying 65 w).trans (Try.runUnderlying65 w)
@[simp] theorem isAgg65 : type_of% (fun w => (aIsAgg 65 w).trans (Try.isAgg65 w)) := fun w => (aIsAgg 65 w).trans (Try.isAgg65 w)
@[simp] theorem zeroValue65 : type_of% (fun w => (aZeroValue 65 w).trans (Try.zeroValue65 w)) := fun w => (aZeroValue 65 w).trans (Try.zeroValue65 w)
@[simp] theorem type66 : TryQ.prog.toTables.types[66]? = some Try.t66 := Try.type66
@[simp] theorem typeInfo66 : type_of% (fun w => (aTypeInfo 66 w).trans (Try.typeInfo66 w)) := fun w => (aTypeInfo 66 w).trans (Try.typeInfo66 w)
@[simp] theorem sizeOf66 : type_of% (fun w => (aSizeOf 66 w).trans (Try.sizeOf66 w)) := fun w => (aSizeOf 66 w).trans (Try.sizeOf66 w)
@[simp] theorem underlying66 : type_of% ((aUnderlying 66).trans Try.underlying66) := (aUnderlying 66).trans Try.underlying66
@[simp] theorem runUnderlying66 : type_of% (fun w => (aRunUnderlying 66 w).trans (Try.runUnderlying66 w)) := fun w => (aRunUnderlying 66 w).trans (Try.runUnderlying66 w)
@[simp] theorem isAgg66 : type_of% (fun w => (aIsAgg 66 w).trans (Try.isAgg66 w)) := fun w => (aIsAgg 66 w).trans (Try.isAgg66 w)
@[simp] theorem zeroValue66 : type_of% (fun w => (aZeroValue 66 w).trans (Try.zeroValue66 w)) := fun w => (aZeroValue 66 w).trans (Try.zeroValue66 w)
@[simp] theorem type67 : TryQ.prog.toTables.types[67]? = some Try.t67 := Try.type67
@[simp] theorem typeInfo67 : type_of% (fun w => (aTypeInfo 67 w).trans (Try.typeInfo67 w)) := fun w => (aTypeInfo 67 w).trans (Try.typeInfo67 w)
@[simp] theorem sizeOf67 : type_of% (fun w => (aSizeOf 67 w).trans (Try.sizeOf67 w)) := fun w => (aSizeOf 67 w).trans (Try.sizeOf67 w)
@[simp] theorem underlying67 : type_of% ((aUnderlying 67).trans Try.underlying67) := (aUnderlying 67).trans Try.underlying67
@[simp] theorem runUnderlying67 : type_of% (fun w => (aRunUnderlying 67 w).trans (Try.runUnderlying67 w)) := fun w => (aRunUnderlying 67 w).trans (Try.runUnderlying67 w)
@[simp] theorem isAgg67 : type_of% (fun w => (aIsAgg 67 w).trans (Try.isAgg67 w)) := fun w => (aIsAgg 67 w).trans (Try.isAgg67 w)
@[simp] theorem zeroValue67 : type_of% (fun w => (aZeroValue 67 w).trans (Try.zeroValue67 w)) := fun w => (aZeroValue 67 w).trans (Try.zeroValue67 w)
@[simp] theorem type68 : TryQ.prog.toTables.types[68]? = some Try.t68 := Try.type68
@[simp] theorem typeInfo68 : type_of% (fun w => (aTypeInfo 68 w).trans (Try.typeInfo68 w)) := fun w => (aTypeInfo 68 w).trans (Try.typeInfo68 w)
@[simp] theorem sizeOf68 : type_of% (fun w => (aSizeOf 68 w).trans (Try.sizeOf68 w)) := fun w => (aSizeOf 68 w).trans (Try.sizeOf68 w)
@[simp] theorem underlying68 : type_of% ((aUnderlying 68).trans Try.underlying68) := (aUnderlying 68).trans Try.underlying68
@[simp] theorem runUnderlying68 : type_of% (fun w => (aRunUnderlying 68 w).trans (Try.runUnderlying68 w)) := fun w => (aRunUnderlying 68 w).trans (Try.runUnderlying68 w)
@[simp] theorem isAgg68 : type_of% (fun w => (aIsAgg 68 w).trans (Try.isAgg68 w)) := fun w => (aIsAgg 68 w).trans (Try.isAgg68 w)
@[simp] theorem zeroValue68 : type_of% (fun w => (aZeroValue 68 w).trans (Try.zeroValue68 w)) := fun w => (aZeroValue 68 w).trans (Try.zeroValue68 w)
@[simp] theorem type69 : TryQ.prog.toTables.types[69]? = some Try.t69 := Try.type69
@[simp] theorem typeInfo69 : type_of% (fun w => (aTypeInfo 69 w).trans (Try.typeInfo69 w)) := fun w => (aTypeInfo 69 w).trans (Try.typeInfo69 w)
@[simp] theorem sizeOf69 : type_of% (fun w => (aSizeOf 69 w).trans (Try.sizeOf69 w)) := fun w => (aSizeOf 69 w).trans (Try.sizeOf69 w)
@[simp] theorem underlying69 : type_of% ((aUnderlying 69).trans Try.underlying69) := (aUnderlying 69).trans Try.underlying69
@[simp] theorem runUnderlying69 : type_of% (fun w => (aRunUnderlying 69 w).trans (Try.runUnderlying69 w)) := fun w => (aRunUnderlying 69 w).trans (Try.runUnderlying69 w)
@[simp] theorem isAgg69 : type_of% (fun w => (aIsAgg 69 w).trans (Try.isAgg69 w)) := fun w => (aIsAgg 69 w).trans (Try.isAgg69 w)
@[simp] theorem zeroValue69 : type_of% (fun w => (aZeroValue 69 w).trans (Try.zeroValue69 w)) := fun w => (aZeroValue 69 w).trans (Try.zeroValue69 w)
@[simp] theorem type70 : TryQ.prog.toTables.types[70]? = some Try.t70 := Try.type70
@[simp] theorem typeInfo70 : type_of% (fun w => (aTypeInfo 70 w).trans (Try.typeInfo70 w)) := fun w => (aTypeInfo 70 w).trans (Try.typeInfo70 w)
@[simp] theorem sizeOf70 : type_of% (fun w => (aSizeOf 70 w).trans (Try.sizeOf70 w)) := fun w => (aSizeOf 70 w).trans (Try.sizeOf70 w)
@[simp] theorem underlying70 : type_of% ((aUnderlying 70).trans Try.underlying70) := (aUnderlying 70).trans Try.underlying70
@[simp] theorem runUnderlying70 : type_of% (fun w => (aRunUnderlying 70 w).trans (Try.runUnderlying70 w)) := fun w => (aRunUnderlying 70 w).trans (Try.runUnderlying70 w)
@[simp] theorem isAgg70 : type_of% (fun w => (aIsAgg 70 w).trans (Try.isAgg70 w)) := fun w => (aIsAgg 70 w).trans (Try.isAgg70 w)
@[simp] theorem zeroValue70 : type_of% (fun w => (aZeroValue 70 w).trans (Try.zeroValue70 w)) := fun w => (aZeroValue 70 w).trans (Try.zeroValue70 w)
@[simp] theorem type71 : TryQ.prog.toTables.types[71]? = some Try.t71 := Try.type71
@[simp] theorem typeInfo71 : type_of% (fun w => (aTypeInfo 71 w).trans (Try.typeInfo71 w)) := fun w => (aTypeInfo 71 w).trans (Try.typeInfo71 w)
@[simp] theorem sizeOf71 : type_of% (fun w => (aSizeOf 71 w).trans (Try.sizeOf71 w)) := fun w => (aSizeOf 71 w).trans (Try.sizeOf71 w)
@[simp] theorem underlying71 : type_of% ((aUnderlying 71).trans Try.underlying71) := (aUnderlying 71).trans Try.underlying71
@[simp] theorem runUnderlying71 : type_of% (fun w => (aRunUnderlying 71 w).trans (Try.runUnderlying71 w)) := fun w => (aRunUnderlying 71 w).trans (Try.runUnderlying71 w)
@[simp] theorem isAgg71 : type_of% (fun w => (aIsAgg 71 w).trans (Try.isAgg71 w)) := fun w => (aIsAgg 71 w).trans (Try.isAgg71 w)
@[simp] theorem zeroValue71 : type_of% (fun w => (aZeroValue 71 w).trans (Try.zeroValue71 w)) := fun w => (aZeroValue 71 w).trans (Try.zeroValue71 w)
@[simp] theorem type72 : TryQ.prog.toTables.types[72]? = some Try.t72 := Try.type72
@[simp] theorem typeInfo72 : type_of% (fun w => (aTypeInfo 72 w).trans (Try.typeInfo72 w)) := fun w => (aTypeInfo 72 w).trans (Try.typeInfo72 w)
@[simp] theorem sizeOf72 : type_of% (fun w => (aSizeOf 72 w).trans (Try.sizeOf72 w)) := fun w => (aSizeOf 72 w).trans (Try.sizeOf72 w)
@[simp] theorem underlying72 : type_of% ((aUnderlying 72).trans Try.underlying72) := (aUnderlying 72).trans Try.underlying72
@[simp] theorem runUnderlying72 : type_of% (fun w => (aRunUnderlying 72 w).trans (Try.runUnderlying72 w)) := fun w => (aRunUnderlying 72 w).trans (Try.runUnderlying72 w)
@[simp] theorem isAgg72 : type_of% (fun w => (aIsAgg 72 w).trans (Try.isAgg72 w)) := fun w => (aIsAgg 72 w).trans (Try.isAgg72 w)
@[simp] theorem zeroValue72 : type_of% (fun w => (aZeroValue 72 w).trans (Try.zeroValue72 w)) := fun w => (aZeroValue 72 w).trans (Try.zeroValue72 w)
@[simp] theorem type73 : TryQ.prog.toTables.types[73]? = some Try.t73 := Try.type73
@[simp] theorem typeInfo73 : type_of% (fun w => (aTypeInfo 73 w).trans (Try.typeInfo73 w)) := fun w => (aTypeInfo 73 w).trans (Try.typeInfo73 w)
@[simp] theorem sizeOf73 : type_of% (fun w => (aSizeOf 73 w).trans (Try.sizeOf73 w)) := fun w => (aSizeOf 73 w).trans (Try.sizeOf73 w)
@[simp] theorem underlying73 : type_of% ((aUnderlying 73).trans Try.underlying73) := (aUnderlying 73).trans Try.underlying73
@[simp] theorem runUnderlying73 : type_of% (fun w => (aRunUnderlying 73 w).trans (Try.runUnderlying73 w)) := fun w => (aRunUnderlying 73 w).trans (Try.runUnderlying73 w)
@[simp] theorem isAgg73 : type_of% (fun w => (aIsAgg 73 w).trans (Try.isAgg73 w)) := fun w => (aIsAgg 73 w).trans (Try.isAgg73 w)
@[simp] theorem zeroValue73 : type_of% (fun w => (aZeroValue 73 w).trans (Try.zeroValue73 w)) := fun w => (aZeroValue 73 w).trans (Try.zeroValue73 w)
@[simp] theorem type74 : TryQ.prog.toTables.types[74]? = some Try.t74 := Try.type74
@[simp] theorem typeInfo74 : type_of% (fun w => (aTypeInfo 74 w).trans (Try.typeInfo74 w)) := fun w => (aTypeInfo 74 w).trans (Try.typeInfo74 w)
@[simp] theorem sizeOf74 : type_of% (fun w => (aSizeOf 74 w).trans (Try.sizeOf74 w)) := fun w => (aSizeOf 74 w).trans (Try.sizeOf74 w)
@[simp] theorem underlying74 : type_of% ((aUnderlying 74).trans Try.underlying74) := (aUnderlying 74).trans Try.underlying74
@[simp] theorem runUnderlying74 : type_of% (fun w => (aRunUnderlying 74 w).trans (Try.runUnderlying74 w)) := fun w => (aRunUnderlying 74 w).trans (Try.runUnderlying74 w)
@[simp] theorem isAgg74 : type_of% (fun w => (aIsAgg 74 w).trans (Try.isAgg74 w)) := fun w => (aIsAgg 74 w).trans (Try.isAgg74 w)
@[simp] theorem zeroValue74 : type_of% (fun w => (aZeroValue 74 w).trans (Try.zeroValue74 w)) := fun w => (aZeroValue 74 w).trans (Try.zeroValue74 w)
@[simp] theorem type75 : TryQ.prog.toTables.types[75]? = some Try.t75 := Try.type75
@[simp] theorem typeInfo75 : type_of% (fun w => (aTypeInfo 75 w).trans (Try.typeInfo75 w)) := fun w => (aTypeInfo 75 w).trans (Try.typeInfo75 w)
@[simp] theorem sizeOf75 : type_of% (fun w => (aSizeOf 75 w).trans (Try.sizeOf75 w)) := fun w => (aSizeOf 75 w).trans (Try.sizeOf75 w)
@[simp] theorem underlying75 : type_of% ((aUnderlying 75).trans Try.underlying75) := (aUnderlying 75).trans Try.underlying75
@[simp] theorem runUnderlying75 : type_of% (fun w => (aRunUnderlying 75 w).trans (Try.runUnderlying75 w)) := fun w => (aRunUnderlying 75 w).trans (Try.runUnderlying75 w)
@[simp] theorem isAgg75 : type_of% (fun w => (aIsAgg 75 w).trans (Try.isAgg75 w)) := fun w => (aIsAgg 75 w).trans (Try.isAgg75 w)
@[simp] theorem zeroValue75 : type_of% (fun w => (aZeroValue 75 w).trans (Try.zeroValue75 w)) := fun w => (aZeroValue 75 w).trans (Try.zeroValue75 w)
@[simp] theorem type76 : TryQ.prog.toTables.types[76]? = some Try.t76 := Try.type76
@[simp] theorem typeInfo76 : type_of% (fun w => (aTypeInfo 76 w).trans (Try.typeInfo76 w)) := fun w => (aTypeInfo 76 w).trans (Try.typeInfo76 w)
@[simp] theorem sizeOf76 : type_of% (fun w => (aSizeOf 76 w).trans (Try.sizeOf76 w)) := fun w => (aSizeOf 76 w).trans (Try.sizeOf76 w)
@[simp] theorem underlying76 : type_of% ((aUnderlying 76).trans Try.underlying76) := (aUnderlying 76).trans Try.underlying76
@[simp] theorem runUnderlying76 : type_of% (fun w => (aRunUnderlying 76 w).trans (Try.runUnderlying76 w)) := fun w => (aRunUnderlying 76 w).trans (Try.runUnderlying76 w)
@[simp] theorem isAgg76 : type_of% (fun w => (aIsAgg 76 w).trans (Try.isAgg76 w)) := fun w => (aIsAgg 76 w).trans (Try.isAgg76 w)
@[simp] theorem zeroValue76 : type_of% (fun w => (aZeroValue 76 w).trans (Try.zeroValue76 w)) := fun w => (aZeroValue 76 w).trans (Try.zeroValue76 w)
@[simp] theorem type77 : TryQ.prog.toTables.types[77]? = some Try.t77 := Try.type77
@[simp] theorem typeInfo77 : type_of% (fun w => (aTypeInfo 77 w).trans (Try.typeInfo77 w)) := fun w => (aTypeInfo 77 w).trans (Try.typeInfo77 w)
@[simp] theorem sizeOf77 : type_of% (fun w => (aSizeOf 77 w).trans (Try.sizeOf77 w)) := fun w => (aSizeOf 77 w).trans (Try.sizeOf77 w)
@[simp] theorem underlying77 : type_of% ((aUnderlying 77).trans Try.underlying77) := (aUnderlying 77).trans Try.underlying77
@[simp] theorem runUnderlying77 : type_of% (fun w => (aRunUnderlying 77 w).trans (Try.runUnderlying77 w)) := fun w => (aRunUnderlying 77 w).trans (Try.runUnderlying77 w)
@[simp] theorem isAgg77 : type_of% (fun w => (aIsAgg 77 w).trans (Try.isAgg77 w)) := fun w => (aIsAgg 77 w).trans (Try.isAgg77 w)
@[simp] theorem zeroValue77 : type_of% (fun w => (aZeroValue 77 w).trans (Try.zeroValue77 w)) := fun w => (aZeroValue 77 w).trans (Try.zeroValue77 w)
@[simp] theorem type78 : TryQ.prog.toTables.types[78]? = some Try.t78 := Try.type78
@[simp] theorem typeInfo78 : type_of% (fun w => (aTypeInfo 78 w).trans (Try.typeInfo78 w)) := fun w => (aTypeInfo 78 w).trans (Try.typeInfo78 w)
@[simp] theorem sizeOf78 : type_of% (fun w => (aSizeOf 78 w).trans (Try.sizeOf78 w)) := fun w => (aSizeOf 78 w).trans (Try.sizeOf78 w)
@[simp] theorem underlying78 : type_of% ((aUnderlying 78).trans Try.underlying78) := (aUnderlying 78).trans Try.underlying78
@[simp] theorem runUnderlying78 : type_of% (fun w => (aRunUnderlying 78 w).trans (Try.runUnderlying78 w)) := fun w => (aRunUnderlying 78 w).trans (Try.runUnderlying78 w)
@[simp] theorem isAgg78 : type_of% (fun w => (aIsAgg 78 w).trans (Try.isAgg78 w)) := fun w => (aIsAgg 78 w).trans (Try.isAgg78 w)
@[simp] theorem zeroValue78 : type_of% (fun w => (aZeroValue 78 w).trans (Try.zeroValue78 w)) := fun w => (aZeroValue 78 w).trans (Try.zeroValue78 w)
@[simp] theorem type79 : TryQ.prog.toTables.types[79]? = some Try.t79 := Try.type79
@[simp] theorem typeInfo79 : type_of% (fun w => (aTypeInfo 79 w).trans (Try.typeInfo79 w)) := fun w => (aTypeInfo 79 w).trans (Try.typeInfo79 w)
@[simp] theorem sizeOf79 : type_of% (fun w => (aSizeOf 79 w).trans (Try.sizeOf79 w)) := fun w => (aSizeOf 79 w).trans (Try.sizeOf79 w)
@[simp] theorem underlying79 : type_of% ((aUnderlying 79).trans Try.underlying79) := (aUnderlying 79).trans Try.underlying79
@[simp] theorem runUnderlying79 : type_of% (fun w => (aRunUnderlying 79 w).trans (Try.runUnderlying79 w)) := fun w => (aRunUnderlying 79 w).trans (Try.runUnderlying79 w)
@[simp] theorem isAgg79 : type_of% (fun w => (aIsAgg 79 w).trans (Try.isAgg79 w)) := fun w => (aIsAgg 79 w).trans (Try.isAgg79 w)
@[simp] theorem zeroValue79 : type_of% (fun w => (aZeroValue 79 w).trans (Try.zeroValue79 w)) := fun w => (aZeroValue 79 w).trans (Try.zeroValue79 w)
@[simp] theorem type80 : TryQ.prog.toTables.types[80]? = some Try.t80 := Try.type80
@[simp] theorem typeInfo80 : type_of% (fun w => (aTypeInfo 80 w).trans (Try.typeInfo80 w)) := fun w => (aTypeInfo 80 w).trans (Try.typeInfo80 w)
@[simp] theorem sizeOf80 : type_of% (fun w => (aSizeOf 80 w).trans (Try.sizeOf80 w)) := fun w => (aSizeOf 80 w).trans (Try.sizeOf80 w)
@[simp] theorem underlying80 : type_of% ((aUnderlying 80).trans Try.underlying80) := (aUnderlying 80).trans Try.underlying80
@[simp] theorem runUnderlying80 : type_of% (fun w => (aRunUnderlying 80 w).trans (Try.runUnderlying80 w)) := fun w => (aRunUnderlying 80 w).trans (Try.runUnderlying80 w)
@[simp] theorem isAgg80 : type_of% (fun w => (aIsAgg 80 w).trans (Try.isAgg80 w)) := fun w => (aIsAgg 80 w).trans (Try.isAgg80 w)
@[simp] theorem zeroValue80 : type_of% (fun w => (aZeroValue 80 w).trans (Try.zeroValue80 w)) := fun w => (aZeroValue 80 w).trans (Try.zeroValue80 w)
@[simp] theorem type81 : TryQ.prog.toTables.types[81]? = some Try.t81 := Try.type81
@[simp] theorem typeInfo81 : type_of% (fun w => (aTypeInfo 81 w).trans (Try.typeInfo81 w)) := fun w => (aTypeInfo 81 w).trans (Try.typeInfo81 w)
@[simp] theorem sizeOf81 : type_of% (fun w => (aSizeOf 81 w).trans (Try.sizeOf81 w)) := fun w => (aSizeOf 81 w).trans (Try.sizeOf81 w)
@[simp] theorem underlying81 : type_of% ((aUnderlying 81).trans Try.underlying81) := (aUnderlying 81).trans Try.underlying81
@[simp] theorem runUnderlying81 : type_of% (fun w => (aRunUnderlying 81 w).trans (Try.runUnderlying81 w)) := fun w => (aRunUnderlying 81 w).trans (Try.runUnderlying81 w)
@[simp] theorem isAgg81 : type_of% (fun w => (aIsAgg 81 w).trans (Try.isAgg81 w)) := fun w => (aIsAgg 81 w).trans (Try.isAgg81 w)
@[simp] theorem zeroValue81 : type_of% (fun w => (aZeroValue 81 w).trans (Try.zeroValue81 w)) := fun w => (aZeroValue 81 w).trans (Try.zeroValue81 w)
@[simp] theorem type82 : TryQ.prog.toTables.types[82]? = some Try.t82 := Try.type82
@[simp] theorem typeInfo82 : type_of% (fun w => (aTypeInfo 82 w).trans (Try.typeInfo82 w)) := fun w => (aTypeInfo 82 w).trans (Try.typeInfo82 w)
@[simp] theorem sizeOf82 : type_of% (fun w => (aSizeOf 82 w).trans (Try.sizeOf82 w)) := fun w => (aSizeOf 82 w).trans (Try.sizeOf82 w)
@[simp] theorem underlying82 : type_of% ((aUnderlying 82).trans Try.underlying82) := (aUnderlying 82).trans Try.underlying82
@[simp] theorem runUnderlying82 : type_of% (fun w => (aRunUnderlying 82 w).trans (Try.runUnderlying82 w)) := fun w => (aRunUnderlying 82 w).trans (Try.runUnderlying82 w)
@[simp] theorem isAgg82 : type_of% (fun w => (aIsAgg 82 w).trans (Try.isAgg82 w)) := fun w => (aIsAgg 82 w).trans (Try.isAgg82 w)
@[simp] theorem zeroValue82 : type_of% (fun w => (aZeroValue 82 w).trans (Try.zeroValue82 w)) := fun w => (aZeroValue 82 w).trans (Try.zeroValue82 w)
@[simp] theorem type83 : TryQ.prog.toTables.types[83]? = some Try.t83 := Try.type83
@[simp] theorem typeInfo83 : type_of% (fun w => (aTypeInfo 83 w).trans (Try.typeInfo83 w)) := fun w => (aTypeInfo 83 w).trans (Try.typeInfo83 w)
@[simp] theorem sizeOf83 : type_of% (fun w => (aSizeOf 83 w).trans (Try.sizeOf83 w)) := fun w => (aSizeOf 83 w).trans (Try.sizeOf83 w)
@[simp] theorem underlying83 : type_of% ((aUnderlying 83).trans Try.underlying83) := (aUnderlying 83).trans Try.underlying83
@[simp] theorem runUnderlying83 : type_of% (fun w => (aRunUnderlying 83 w).trans (Try.runUnderlying83 w)) := fun w => (aRunUnderlying 83 w).trans (Try.runUnderlying83 w)
@[simp] theorem isAgg83 : type_of% (fun w => (aIsAgg 83 w).trans (Try.isAgg83 w)) := fun w => (aIsAgg 83 w).trans (Try.isAgg83 w)
@[simp] theorem zeroValue83 : type_of% (fun w => (aZeroValue 83 w).trans (Try.zeroValue83 w)) := fun w => (aZeroValue 83 w).trans (Try.zeroValue83 w)
@[simp] theorem type84 : TryQ.prog.toTables.types[84]? = some Try.t84 := Try.type84
@[simp] theorem typeInfo84 : type_of% (fun w => (aTypeInfo 84 w).trans (Try.typeInfo84 w)) := fun w => (aTypeInfo 84 w).trans (Try.typeInfo84 w)
@[simp] theorem sizeOf84 : type_of% (fun w => (aSizeOf 84 w).trans (Try.sizeOf84 w)) := fun w => (aSizeOf 84 w).trans (Try.sizeOf84 w)
@[simp] theorem underlying84 : type_of% ((aUnderlying 84).trans Try.underlying84) := (aUnderlying 84).trans Try.underlying84
@[simp] theorem runUnderlying84 : type_of% (fun w => (aRunUnderlying 84 w).trans (Try.runUnderlying84 w)) := fun w => (aRunUnderlying 84 w).trans (Try.runUnderlying84 w)
@[simp] theorem isAgg84 : type_of% (fun w => (aIsAgg 84 w).trans (Try.isAgg84 w)) := fun w => (aIsAgg 84 w).trans (Try.isAgg84 w)
@[simp] theorem zeroValue84 : type_of% (fun w => (aZeroValue 84 w).trans (Try.zeroValue84 w)) := fun w => (aZeroValue 84 w).trans (Try.zeroValue84 w)
@[simp] theorem type85 : TryQ.prog.toTables.types[85]? = some Try.t85 := Try.type85
@[simp] theorem typeInfo85 : type_of% (fun w => (aTypeInfo 85 w).trans (Try.typeInfo85 w)) := fun w => (aTypeInfo 85 w).trans (Try.typeInfo85 w)
@[simp] theorem sizeOf85 : type_of% (fun w => (aSizeOf 85 w).trans (Try.sizeOf85 w)) := fun w => (aSizeOf 85 w).trans (Try.sizeOf85 w)
@[simp] theorem underlying85 : type_of% ((aUnderlying 85).trans Try.underlying85) := (aUnderlying 85).trans Try.underlying85
@[simp] theorem runUnderlying85 : type_of% (fun w => (aRunUnderlying 85 w).trans (Try.runUnderlying85 w)) := fun w => (aRunUnderlying 85 w).trans (Try.runUnderlying85 w)
@[simp] theorem isAgg85 : type_of% (fun w => (aIsAgg 85 w).trans (Try.isAgg85 w)) := fun w => (aIsAgg 85 w).trans (Try.isAgg85 w)
@[simp] theorem zeroValue85 : type_of% (fun w => (aZeroValue 85 w).trans (Try.zeroValue85 w)) := fun w => (aZeroValue 85 w).trans (Try.zeroValue85 w)
@[simp] theorem type86 : TryQ.prog.toTables.types[86]? = some Try.t86 := Try.type86
@[simp] theorem typeInfo86 : type_of% (fun w => (aTypeInfo 86 w).trans (Try.typeInfo86 w)) := fun w => (aTypeInfo 86 w).trans (Try.typeInfo86 w)
@[simp] theorem sizeOf86 : type_of% (fun w => (aSizeOf 86 w).trans (Try.sizeOf86 w)) := fun w => (aSizeOf 86 w).trans (Try.sizeOf86 w)
@[simp] theorem underlying86 : type_of% ((aUnderlying 86).trans Try.underlying86) := (aUnderlying 86).trans Try.underlying86
@[simp] theorem runUnderlying86 : type_of% (fun w => (aRunUnderlying 86 w).trans (Try.runUnderlying86 w)) := fun w => (aRunUnderlying 86 w).trans (Try.runUnderlying86 w)
@[simp] theorem isAgg86 : type_of% (fun w => (aIsAgg 86 w).trans (Try.isAgg86 w)) := fun w => (aIsAgg 86 w).trans (Try.isAgg86 w)
@[simp] theorem zeroValue86 : type_of% (fun w => (aZeroValue 86 w).trans (Try.zeroValue86 w)) := fun w => (aZeroValue 86 w).trans (Try.zeroValue86 w)
@[simp] theorem type87 : TryQ.prog.toTables.types[87]? = some Try.t87 := Try.type87
@[simp] theorem typeInfo87 : type_of% (fun w => (aTypeInfo 87 w).trans (Try.typeInfo87 w)) := fun w => (aTypeInfo 87 w).trans (Try.typeInfo87 w)
@[simp] theorem sizeOf87 : type_of% (fun w => (aSizeOf 87 w).trans (Try.sizeOf87 w)) := fun w => (aSizeOf 87 w).trans (Try.sizeOf87 w)
@[simp] theorem underlying87 : type_of% ((aUnderlying 87).trans Try.underlying87) := (aUnderlying 87).trans Try.underlying87
@[simp] theorem runUnderlying87 : type_of% (fun w => (aRunUnderlying 87 w).trans (Try.runUnderlying87 w)) := fun w => (aRunUnderlying 87 w).trans (Try.runUnderlying87 w)
@[simp] theorem isAgg87 : type_of% (fun w => (aIsAgg 87 w).trans (Try.isAgg87 w)) := fun w => (aIsAgg 87 w).trans (Try.isAgg87 w)
@[simp] theorem zeroValue87 : type_of% (fun w => (aZeroValue 87 w).trans (Try.zeroValue87 w)) := fun w => (aZeroValue 87 w).trans (Try.zeroValue87 w)
@[simp] theorem type88 : TryQ.prog.toTables.types[88]? = some Try.t88 := Try.type88
@[simp] theorem typeInfo88 : type_of% (fun w => (aTypeInfo 88 w).trans (Try.typeInfo88 w)) := fun w => (aTypeInfo 88 w).trans (Try.typeInfo88 w)
@[simp] theorem sizeOf88 : type_of% (fun w => (aSizeOf 88 w).trans (Try.sizeOf88 w)) := fun w => (aSizeOf 88 w).trans (Try.sizeOf88 w)
@[simp] theorem underlying88 : type_of% ((aUnderlying 88).trans Try.underlying88) := (aUnderlying 88).trans Try.underlying88
@[simp] theorem runUnderlying88 : type_of% (fun w => (aRunUnderlying 88 w).trans (Try.runUnderlying88 w)) := fun w => (aRunUnderlying 88 w).trans (Try.runUnderlying88 w)
@[simp] theorem isAgg88 : type_of% (fun w => (aIsAgg 88 w).trans (Try.isAgg88 w)) := fun w => (aIsAgg 88 w).trans (Try.isAgg88 w)
@[simp] theorem zeroValue88 : type_of% (fun w => (aZeroValue 88 w).trans (Try.zeroValue88 w)) := fun w => (aZeroValue 88 w).trans (Try.zeroValue88 w)
@[simp] theorem type89 : TryQ.prog.toTables.types[89]? = some Try.t89 := Try.type89
@[simp] theorem typeInfo89 : type_of% (fun w => (aTypeInfo 89 w).trans (Try.typeInfo89 w)) := fun w => (aTypeInfo 89 w).trans (Try.typeInfo89 w)
@[simp] theorem sizeOf89 : type_of% (fun w => (aSizeOf 89 w).trans (Try.sizeOf89 w)) := fun w => (aSizeOf 89 w).trans (Try.sizeOf89 w)
@[simp] theorem underlying89 : type_of% ((aUnderlying 89).trans Try.underlying89) := (aUnderlying 89).trans Try.underlying89
@[simp] theorem runUnderlying89 : type_of% (fun w => (aRunUnderlying 89 w).trans (Try.runUnderlying89 w)) := fun w => (aRunUnderlying 89 w).trans (Try.runUnderlying89 w)
@[simp] theorem isAgg89 : type_of% (fun w => (aIsAgg 89 w).trans (Try.isAgg89 w)) := fun w => (aIsAgg 89 w).trans (Try.isAgg89 w)
@[simp] theorem zeroValue89 : type_of% (fun w => (aZeroValue 89 w).trans (Try.zeroValue89 w)) := fun w => (aZeroValue 89 w).trans (Try.zeroValue89 w)
@[simp] theorem type90 : TryQ.prog.toTables.types[90]? = some Try.t90 := Try.type90
@[simp] theorem typeInfo90 : type_of% (fun w => (aTypeInfo 90 w).trans (Try.typeInfo90 w)) := fun w => (aTypeInfo 90 w).trans (Try.typeInfo90 w)
@[simp] theorem sizeOf90 : type_of% (fun w => (aSizeOf 90 w).trans (Try.sizeOf90 w)) := fun w => (aSizeOf 90 w).trans (Try.sizeOf90 w)
@[simp] theorem underlying90 : type_of% ((aUnderlying 90).trans Try.underlying90) := (aUnderlying 90).trans Try.underlying90
@[simp] theorem runUnderlying90 : type_of% (fun w => (aRunUnderlying 90 w).trans (Try.runUnderlying90 w)) := fun w => (aRunUnderlying 90 w).trans (Try.runUnderlying90 w)
@[simp] theorem isAgg90 : type_of% (fun w => (aIsAgg 90 w).trans (Try.isAgg90 w)) := fun w => (aIsAgg 90 w).trans (Try.isAgg90 w)
@[simp] theorem zeroValue90 : type_of% (fun w => (aZeroValue 90 w).trans (Try.zeroValue90 w)) := fun w => (aZeroValue 90 w).trans (Try.zeroValue90 w)
@[simp] theorem type91 : TryQ.prog.toTables.types[91]? = some Try.t91 := Try.type91
@[simp] theorem typeInfo91 : type_of% (fun w => (aTypeInfo 91 w).trans (Try.typeInfo91 w)) := fun w => (aTypeInfo 91 w).trans (Try.typeInfo91 w)
@[simp] theorem sizeOf91 : type_of% (fun w => (aSizeOf 91 w).trans (Try.sizeOf91 w)) := fun w => (aSizeOf 91 w).trans (Try.sizeOf91 w)
@[simp] theorem underlying91 : type_of% ((aUnderlying 91).trans Try.underlying91) := (aUnderlying 91).trans Try.underlying91
@[simp] theorem runUnderlying91 : type_of% (fun w => (aRunUnderlying 91 w).trans (Try.runUnderlying91 w)) := fun w => (aRunUnderlying 91 w).trans (Try.runUnderlying91 w)
@[simp] theorem isAgg91 : type_of% (fun w => (aIsAgg 91 w).trans (Try.isAgg91 w)) := fun w => (aIsAgg 91 w).trans (Try.isAgg91 w)
@[simp] theorem zeroValue91 : type_of% (fun w => (aZeroValue 91 w).trans (Try.zeroValue91 w)) := fun w => (aZeroValue 91 w).trans (Try.zeroValue91 w)
@[simp] theorem type92 : TryQ.prog.toTables.types[92]? = some Try.t92 := Try.type92
@[simp] theorem typeInfo92 : type_of% (fun w => (aTypeInfo 92 w).trans (Try.typeInfo92 w)) := fun w => (aTypeInfo 92 w).trans (Try.typeInfo92 w)
@[simp] theorem sizeOf92 : type_of% (fun w => (aSizeOf 92 w).trans (Try.sizeOf92 w)) := fun w => (aSizeOf 92 w).trans (Try.sizeOf92 w)
@[simp] theorem underlying92 : type_of% ((aUnderlying 92).trans Try.underlying92) := (aUnderlying 92).trans Try.underlying92
@[simp] theorem runUnderlying92 : type_of% (fun w => (aRunUnderlying 92 w).trans (Try.runUnderlying92 w)) := fun w => (aRunUnderlying 92 w).trans (Try.runUnderlying92 w)
@[simp] theorem isAgg92 : type_of% (fun w => (aIsAgg 92 w).trans (Try.isAgg92 w)) := fun w => (aIsAgg 92 w).trans (Try.isAgg92 w)
@[simp] theorem eqGuardType92 : type_of% ((aEqg 92).trans Try.eqGuardType92) := (aEqg 92).trans Try.eqGuardType92
@[simp] theorem zeroValue92 : type_of% (fun w => (aZeroValue 92 w).trans (Try.zeroValue92 w)) := fun w => (aZeroValue 92 w).trans (Try.zeroValue92 w)
@[simp] theorem type93 : TryQ.prog.toTables.types[93]? = some Try.t93 := Try.type93
@[simp] theorem typeInfo93 : type_of% (fun w => (aTypeInfo 93 w).trans (Try.typeInfo93 w)) := fun w => (aTypeInfo 93 w).trans (Try.typeInfo93 w)
@[simp] theorem sizeOf93 : type_of% (fun w => (aSizeOf 93 w).trans (Try.sizeOf93 w)) := fun w => (aSizeOf 93 w).trans (Try.sizeOf93 w)
@[simp] theorem underlying93 : type_of% ((aUnderlying 93).trans Try.underlying93) := (aUnderlying 93).trans Try.underlying93
@[simp] theorem runUnderlying93 : type_of% (fun w => (aRunUnderlying 93 w).trans (Try.runUnderlying93 w)) := fun w => (aRunUnderlying 93 w).trans (Try.runUnderlying93 w)
@[simp] theorem isAgg93 : type_of% (fun w => (aIsAgg 93 w).trans (Try.isAgg93 w)) := fun w => (aIsAgg 93 w).trans (Try.isAgg93 w)
@[simp] theorem zeroValue93 : type_of% (fun w => (aZeroValue 93 w).trans (Try.zeroValue93 w)) := fun w => (aZeroValue 93 w).trans (Try.zeroValue93 w)
@[simp] theorem type94 : TryQ.prog.toTables.types[94]? = some Try.t94 := Try.type94
@[simp] theorem typeInfo94 : type_of% (fun w => (aTypeInfo 94 w).trans (Try.typeInfo94 w)) := fun w => (aTypeInfo 94 w).trans (Try.typeInfo94 w)
@[simp] theorem sizeOf94 : type_of% (fun w => (aSizeOf 94 w).trans (Try.sizeOf94 w)) := fun w => (aSizeOf 94 w).trans (Try.sizeOf94 w)
@[simp] theorem underlying94 : type_of% ((aUnderlying 94).trans Try.underlying94) := (aUnderlying 94).trans Try.underlying94
@[simp] theorem runUnderlying94 : type_of% (fun w => (aRunUnderlying 94 w).trans (Try.runUnderlying94 w)) := fun w => (aRunUnderlying 94 w).trans (Try.runUnderlying94 w)
@[simp] theorem isAgg94 : type_of% (fun w => (aIsAgg 94 w).trans (Try.isAgg94 w)) := fun w => (aIsAgg 94 w).trans (Try.isAgg94 w)
@[simp] theorem zeroValue94 : type_of% (fun w => (aZeroValue 94 w).trans (Try.zeroValue94 w)) := fun w => (aZeroValue 94 w).trans (Try.zeroValue94 w)
@[simp] theorem type95 : TryQ.prog.toTables.types[95]? = some Try.t95 := Try.type95
@[simp] theorem typeInfo95 : type_of% (fun w => (aTypeInfo 95 w).trans (Try.typeInfo95 w)) := fun w => (aTypeInfo 95 w).trans (Try.typeInfo95 w)
@[simp] theorem sizeOf95 : type_of% (fun w => (aSizeOf 95 w).trans (Try.sizeOf95 w)) := fun w => (aSizeOf 95 w).trans (Try.sizeOf95 w)
@[simp] theorem underlying95 : type_of% ((aUnderlying 95).trans Try.underlying95) := (aUnderlying 95).trans Try.underlying95
@[simp] theorem runUnderlying95 : type_of% (fun w => (aRunUnderlying 95 w).trans (Try.runUnderlying95 w)) := fun w => (aRunUnderlying 95 w).trans (Try.runUnderlying95 w)
@[simp] theorem isAgg95 : type_of% (fun w => (aIsAgg 95 w).trans (Try.isAgg95 w)) := fun w => (aIsAgg 95 w).trans (Try.isAgg95 w)
@[simp] theorem zeroValue95 : type_of% (fun w => (aZeroValue 95 w).trans (Try.zeroValue95 w)) := fun w => (aZeroValue 95 w).trans (Try.zeroValue95 w)
@[simp] theorem type96 : TryQ.prog.toTables.types[96]? = some Try.t96 := Try.type96
@[simp] theorem typeInfo96 : type_of% (fun w => (aTypeInfo 96 w).trans (Try.typeInfo96 w)) := fun w => (aTypeInfo 96 w).trans (Try.typeInfo96 w)
@[simp] theorem sizeOf96 : type_of% (fun w => (aSizeOf 96 w).trans (Try.sizeOf96 w)) := fun w => (aSizeOf 96 w).trans (Try.sizeOf96 w)
@[simp] theorem underlying96 : type_of% ((aUnderlying 96).trans Try.underlying96) := (aUnderlying 96).trans Try.underlying96
@[simp] theorem runUnderlying96 : type_of% (fun w => (aRunUnderlying 96 w).trans (Try.runUnderlying96 w)) := fun w => (aRunUnderlying 96 w).trans (Try.runUnderlying96 w)
@[simp] theorem isAgg96 : type_of% (fun w => (aIsAgg 96 w).trans (Try.isAgg96 w)) := fun w => (aIsAgg 96 w).trans (Try.isAgg96 w)
@[simp] theorem zeroValue96 : type_of% (fun w => (aZeroValue 96 w).trans (Try.zeroValue96 w)) := fun w => (aZeroValue 96 w).trans (Try.zeroValue96 w)
@[simp] theorem type97 : TryQ.prog.toTables.types[97]? = some Try.t97 := Try.type97
@[simp] theorem typeInfo97 : type_of% (fun w => (aTypeInfo 97 w).trans (Try.typeInfo97 w)) := fun w => (aTypeInfo 97 w).trans (Try.typeInfo97 w)
@[simp] theorem sizeOf97 : type_of% (fun w => (aSizeOf 97 w).trans (Try.sizeOf97 w)) := fun w => (aSizeOf 97 w).trans (Try.sizeOf97 w)
@[simp] theorem underlying97 : type_of% ((aUnderlying 97).trans Try.underlying97) := (aUnderlying 97).trans Try.underlying97
@[simp] theorem runUnderlying97 : type_of% (fun w => (aRunUnderlying 97 w).trans (Try.runUnderlying97 w)) := fun w => (aRunUnderlying 97 w).trans (Try.runUnderlying97 w)
@[simp] theorem isAgg97 : type_of% (fun w => (aIsAgg 97 w).trans (Try.isAgg97 w)) := fun w => (aIsAgg 97 w).trans (Try.isAgg97 w)
@[simp] theorem zeroValue97 : type_of% (fun w => (aZeroValue 97 w).trans (Try.zeroValue97 w)) := fun w => (aZeroValue 97 w).trans (Try.zeroValue97 w)
@[simp] theorem type98 : TryQ.prog.toTables.types[98]? = some Try.t98 := Try.type98
@[simp] theorem typeInfo98 : type_of% (fun w => (aTypeInfo 98 w).trans (Try.typeInfo98 w)) := fun w => (aTypeInfo 98 w).trans (Try.typeInfo98 w)
@[simp] theorem sizeOf98 : type_of% (fun w => (aSizeOf 98 w).trans (Try.sizeOf98 w)) := fun w => (aSizeOf 98 w).trans (Try.sizeOf98 w)
@[simp] theorem underlying98 : type_of% ((aUnderlying 98).trans Try.underlying98) := (aUnderlying 98).trans Try.underlying98
@[simp] theorem runUnderlying98 : type_of% (fun w => (aRunUnderlying 98 w).trans (Try.runUnderlying98 w)) := fun w => (aRunUnderlying 98 w).trans (Try.runUnderlying98 w)
@[simp] theorem isAgg98 : type_of% (fun w => (aIsAgg 98 w).trans (Try.isAgg98 w)) := fun w => (aIsAgg 98 w).trans (Try.isAgg98 w)
@[simp] theorem zeroValue98 : type_of% (fun w => (aZeroValue 98 w).trans (Try.zeroValue98 w)) := fun w => (aZeroValue 98 w).trans (Try.zeroValue98 w)
@[simp] theorem type99 : TryQ.prog.toTables.types[99]? = some Try.t99 := Try.type99
@[simp] theorem typeInfo99 : type_of% (fun w => (aTypeInfo 99 w).trans (Try.typeInfo99 w)) := fun w => (aTypeInfo 99 w).trans (Try.typeInfo99 w)
@[simp] theorem sizeOf99 : type_of% (fun w => (aSizeOf 99 w).trans (Try.sizeOf99 w)) := fun w => (aSizeOf 99 w).trans (Try.sizeOf99 w)
@[simp] theorem underlying99 : type_of% ((aUnderlying 99).trans Try.underlying99) := (aUnderlying 99).trans Try.underlying99
@[simp] theorem runUnderlying99 : type_of% (fun w => (aRunUnderlying 99 w).trans (Try.runUnderlying99 w)) := fun w => (aRunUnderlying 99 w).trans (Try.runUnderlying99 w)
@[simp] theorem isAgg99 : type_of% (fun w => (aIsAgg 99 w).trans (Try.isAgg99 w)) := fun w => (aIsAgg 99 w).trans (Try.isAgg99 w)
@[simp] theorem zeroValue99 : type_of% (fun w => (aZeroValue 99 w).trans (Try.zeroValue99 w)) := fun w => (aZeroValue 99 w).trans (Try.zeroValue99 w)
@[simp] theorem type100 : TryQ.prog.toTables.types[100]? = some Try.t100 := Try.type100
@[simp] theorem typeInfo100 : type_of% (fun w => (aTypeInfo 100 w).trans (Try.typeInfo100 w)) := fun w => (aTypeInfo 100 w).trans (Try.typeInfo100 w)
@[simp] theorem sizeOf100 : type_of% (fun w => (aSizeOf 100 w).trans (Try.sizeOf100 w)) := fun w => (aSizeOf 100 w).trans (Try.sizeOf100 w)
@[simp] theorem underlying100 : type_of% ((aUnderlying 100).trans Try.underlying100) := (aUnderlying 100).trans Try.underlying100
@[simp] theorem runUnderlying100 : type_of% (fun w => (aRunUnderlying 100 w).trans (Try.runUnderlying100 w)) := fun w => (aRunUnderlying 100 w).trans (Try.runUnderlying100 w)
@[simp] theorem isAgg100 : type_of% (fun w => (aIsAgg 100 w).trans (Try.isAgg100 w)) := fun w => (aIsAgg 100 w).trans (Try.isAgg100 w)
@[simp] theorem zeroValue100 : type_of% (fun w => (aZeroValue 100 w).trans (Try.zeroValue100 w)) := fun w => (aZeroValue 100 w).trans (Try.zeroValue100 w)
@[simp] theorem type101 : TryQ.prog.toTables.types[101]? = some Try.t101 := Try.type101
@[simp] theorem typeInfo101 : type_of% (fun w => (aTypeInfo 101 w).trans (Try.typeInfo101 w)) := fun w => (aTypeInfo 101 w).trans (Try.typeInfo101 w)
@[simp] theorem sizeOf101 : type_of% (fun w => (aSizeOf 101 w).trans (Try.sizeOf101 w)) := fun w => (aSizeOf 101 w).trans (Try.sizeOf101 w)
@[simp] theorem underlying101 : type_of% ((aUnderlying 101).trans Try.underlying101) := (aUnderlying 101).trans Try.underlying101
@[simp] theorem runUnderlying101 : type_of% (fun w => (aRunUnderlying 101 w).trans (Try.runUnderlying101 w)) := fun w => (aRunUnderlying 101 w).trans (Try.runUnderlying101 w)
@[simp] theorem isAgg101 : type_of% (fun w => (aIsAgg 101 w).trans (Try.isAgg101 w)) := fun w => (aIsAgg 101 w).trans (Try.isAgg101 w)
@[simp] theorem zeroValue101 : type_of% (fun w => (aZeroValue 101 w).trans (Try.zeroValue101 w)) := fun w => (aZeroValue 101 w).trans (Try.zeroValue101 w)
@[simp] theorem type102 : TryQ.prog.toTables.types[102]? = some Try.t102 := Try.type102
@[simp] theorem typeInfo102 : type_of% (fun w => (aTypeInfo 102 w).trans (Try.typeInfo102 w)) := fun w => (aTypeInfo 102 w).trans (Try.typeInfo102 w)
@[simp] theorem sizeOf102 : type_of% (fun w => (aSizeOf 102 w).trans (Try.sizeOf102 w)) := fun w => (aSizeOf 102 w).trans (Try.sizeOf102 w)
@[simp] theorem underlying102 : type_of% ((aUnderlying 102).trans Try.underlying102) := (aUnderlying 102).trans Try.underlying102
@[simp] theorem runUnderlying102 : type_of% (fun w => (aRunUnderlying 102 w).trans (Try.runUnderlying102 w)) := fun w => (aRunUnderlying 102 w).trans (Try.runUnderlying102 w)
@[simp] theorem isAgg102 : type_of% (fun w => (aIsAgg 102 w).trans (Try.isAgg102 w)) := fun w => (aIsAgg 102 w).trans (Try.isAgg102 w)
@[simp] theorem zeroValue102 : type_of% (fun w => (aZeroValue 102 w).trans (Try.zeroValue102 w)) := fun w => (aZeroValue 102 w).trans (Try.zeroValue102 w)
@[simp] theorem type103 : TryQ.prog.toTables.types[103]? = some Try.t103 := Try.type103
@[simp] theorem typeInfo103 : type_of% (fun w => (aTypeInfo 103 w).trans (Try.typeInfo103 w)) := fun w => (aTypeInfo 103 w).trans (Try.typeInfo103 w)
@[simp] theorem sizeOf103 : type_of% (fun w => (aSizeOf 103 w).trans (Try.sizeOf103 w)) := fun w => (aSizeOf 103 w).trans (Try.sizeOf103 w)
@[simp] theorem underlying103 : type_of% ((aUnderlying 103).trans Try.underlying103) := (aUnderlying 103).trans Try.underlying103
@[simp] theorem runUnderlying103 : type_of% (fun w => (aRunUnderlying 103 w).trans (Try.runUnderlying103 w)) := fun w => (aRunUnderlying 103 w).trans (Try.runUnderlying103 w)
@[simp] theorem isAgg103 : type_of% (fun w => (aIsAgg 103 w).trans (Try.isAgg103 w)) := fun w => (aIsAgg 103 w).trans (Try.isAgg103 w)
@[simp] theorem zeroValue103 : type_of% (fun w => (aZeroValue 103 w).trans (Try.zeroValue103 w)) := fun w => (aZeroValue 103 w).trans (Try.zeroValue103 w)
@[simp] theorem type104 : TryQ.prog.toTables.types[104]? = some Try.t104 := Try.type104
@[simp] theorem typeInfo104 : type_of% (fun w => (aTypeInfo 104 w).trans (Try.typeInfo104 w)) := fun w => (aTypeInfo 104 w).trans (Try.typeInfo104 w)
@[simp] theorem sizeOf104 : type_of% (fun w => (aSizeOf 104 w).trans (Try.sizeOf104 w)) := fun w => (aSizeOf 104 w).trans (Try.sizeOf104 w)
@[simp] theorem underlying104 : type_of% ((aUnderlying 104).trans Try.underlying104) := (aUnderlying 104).trans Try.underlying104
@[simp] theorem runUnderlying104 : type_of% (fun w => (aRunUnderlying 104 w).trans (Try.runUnderlying104 w)) := fun w => (aRunUnderlying 104 w).trans (Try.runUnderlying104 w)
@[simp] theorem isAgg104 : type_of% (fun w => (aIsAgg 104 w).trans (Try.isAgg104 w)) := fun w => (aIsAgg 104 w).trans (Try.isAgg104 w)
@[simp] theorem zeroValue104 : type_of% (fun w => (aZeroValue 104 w).trans (Try.zeroValue104 w)) := fun w => (aZeroValue 104 w).trans (Try.zeroValue104 w)
@[simp] theorem type105 : TryQ.prog.toTables.types[105]? = some Try.t105 := Try.type105
@[simp] theorem typeInfo105 : type_of% (fun w => (aTypeInfo 105 w).trans (Try.typeInfo105 w)) := fun w => (aTypeInfo 105 w).trans (Try.typeInfo105 w)
@[simp] theorem sizeOf105 : type_of% (fun w => (aSizeOf 105 w).trans (Try.sizeOf105 w)) := fun w => (aSizeOf 105 w).trans (Try.sizeOf105 w)
@[simp] theorem underlying105 : type_of% ((aUnderlying 105).trans Try.underlying105) := (aUnderlying 105).trans Try.underlying105
@[simp] theorem runUnderlying105 : type_of% (fun w => (aRunUnderlying 105 w).trans (Try.runUnderlying105 w)) := fun w => (aRunUnderlying 105 w).trans (Try.runUnderlying105 w)
@[simp] theorem isAgg105 : type_of% (fun w => (aIsAgg 105 w).trans (Try.isAgg105 w)) := fun w => (aIsAgg 105 w).trans (Try.isAgg105 w)
@[simp] theorem zeroValue105 : type_of% (fun w => (aZeroValue 105 w).trans (Try.zeroValue105 w)) := fun w => (aZeroValue 105 w).trans (Try.zeroValue105 w)
@[simp] theorem type106 : TryQ.prog.toTables.types[106]? = some Try.t106 := Try.type106
@[simp] theorem typeInfo106 : type_of% (fun w => (aTypeInfo 106 w).trans (Try.typeInfo106 w)) := fun w => (aTypeInfo 106 w).trans (Try.typeInfo106 w)
@[simp] theorem sizeOf106 : type_of% (fun w => (aSizeOf 106 w).trans (Try.sizeOf106 w)) := fun w => (aSizeOf 106 w).trans (Try.sizeOf106 w)
@[simp] theorem underlying106 : type_of% ((aUnderlying 106).trans Try.underlying106) := (aUnderlying 106).trans Try.underlying106
@[simp] theorem runUnderlying106 : type_of% (fun w => (aRunUnderlying 106 w).trans (Try.runUnderlying106 w)) := fun w => (aRunUnderlying 106 w).trans (Try.runUnderlying106 w)
@[simp] theorem isAgg106 : type_of% (fun w => (aIsAgg 106 w).trans (Try.isAgg106 w)) := fun w => (aIsAgg 106 w).trans (Try.isAgg106 w)
@[simp] theorem eqGuardType106 : type_of% ((aEqg 106).trans Try.eqGuardType106) := (aEqg 106).trans Try.eqGuardType106
@[simp] theorem stoodInHeld106 : type_of% ((aStoodIn 106).trans Try.stoodInHeld106) := (aStoodIn 106).trans Try.stoodInHeld106
@[simp] theorem zeroValue106 : type_of% (fun w => (aZeroValue 106 w).trans (Try.zeroValue106 w)) := fun w => (aZeroValue 106 w).trans (Try.zeroValue106 w)
@[simp] theorem type107 : TryQ.prog.toTables.types[107]? = some Try.t107 := Try.type107
@[simp] theorem typeInfo107 : type_of% (fun w => (aTypeInfo 107 w).trans (Try.typeInfo107 w)) := fun w => (aTypeInfo 107 w).trans (Try.typeInfo107 w)
@[simp] theorem sizeOf107 : type_of% (fun w => (aSizeOf 107 w).trans (Try.sizeOf107 w)) := fun w => (aSizeOf 107 w).trans (Try.sizeOf107 w)
@[simp] theorem underlying107 : type_of% ((aUnderlying 107).trans Try.underlying107) := (aUnderlying 107).trans Try.underlying107
@[simp] theorem runUnderlying107 : type_of% (fun w => (aRunUnderlying 107 w).trans (Try.runUnderlying107 w)) := fun w => (aRunUnderlying 107 w).trans (Try.runUnderlying107 w)
@[simp] theorem isAgg107 : type_of% (fun w => (aIsAgg 107 w).trans (Try.isAgg107 w)) := fun w => (aIsAgg 107 w).trans (Try.isAgg107 w)
@[simp] theorem eqGuardType107 : type_of% ((aEqg 107).trans Try.eqGuardType107) := (aEqg 107).trans Try.eqGuardType107
@[simp] theorem stoodInHeld107 : type_of% ((aStoodIn 107).trans Try.stoodInHeld107) := (aStoodIn 107).trans Try.stoodInHeld107
@[simp] theorem zeroValue107 : type_of% (fun w => (aZeroValue 107 w).trans (Try.zeroValue107 w)) := fun w => (aZeroValue 107 w).trans (Try.zeroValue107 w)
@[simp] theorem type108 : TryQ.prog.toTables.types[108]? = some Try.t108 := Try.type108
@[simp] theorem typeInfo108 : type_of% (fun w => (aTypeInfo 108 w).trans (Try.typeInfo108 w)) := fun w => (aTypeInfo 108 w).trans (Try.typeInfo108 w)
@[simp] theorem sizeOf108 : type_of% (fun w => (aSizeOf 108 w).trans (Try.sizeOf108 w)) := fun w => (aSizeOf 108 w).trans (Try.sizeOf108 w)
@[simp] theorem underlying108 : type_of% ((aUnderlying 108).trans Try.underlying108) := (aUnderlying 108).trans Try.underlying108
@[simp] theorem runUnderlying108 : type_of% (fun w => (aRunUnderlying 108 w).trans (Try.runUnderlying108 w)) := fun w => (aRunUnderlying 108 w).trans (Try.runUnderlying108 w)
@[simp] theorem isAgg108 : type_of% (fun w => (aIsAgg 108 w).trans (Try.isAgg108 w)) := fun w => (aIsAgg 108 w).trans (Try.isAgg108 w)
@[simp] theorem eqGuardType108 : type_of% ((aEqg 108).trans Try.eqGuardType108) := (aEqg 108).trans Try.eqGuardType108
@[simp] theorem zeroValue108 : type_of% (fun w => (aZeroValue 108 w).trans (Try.zeroValue108 w)) := fun w => (aZeroValue 108 w).trans (Try.zeroValue108 w)
@[simp] theorem type109 : TryQ.prog.toTables.types[109]? = some Try.t109 := Try.type109
@[simp] theorem typeInfo109 : type_of% (fun w => (aTypeInfo 109 w).trans (Try.typeInfo109 w)) := fun w => (aTypeInfo 109 w).trans (Try.typeInfo109 w)
@[simp] theorem sizeOf109 : type_of% (fun w => (aSizeOf 109 w).trans (Try.sizeOf109 w)) := fun w => (aSizeOf 109 w).trans (Try.sizeOf109 w)
@[simp] theorem underlying109 : type_of% ((aUnderlying 109).trans Try.underlying109) := (aUnderlying 109).trans Try.underlying109
@[simp] theorem runUnderlying109 : type_of% (fun w => (aRunUnderlying 109 w).trans (Try.runUnderlying109 w)) := fun w => (aRunUnderlying 109 w).trans (Try.runUnderlying109 w)
@[simp] theorem isAgg109 : type_of% (fun w => (aIsAgg 109 w).trans (Try.isAgg109 w)) := fun w => (aIsAgg 109 w).trans (Try.isAgg109 w)
@[simp] theorem eqGuardType109 : type_of% ((aEqg 109).trans Try.eqGuardType109) := (aEqg 109).trans Try.eqGuardType109
@[simp] theorem stoodInHeld109 : type_of% ((aStoodIn 109).trans Try.stoodInHeld109) := (aStoodIn 109).trans Try.stoodInHeld109
@[simp] theorem zeroValue109 : type_of% (fun w => (aZeroValue 109 w).trans (Try.zeroValue109 w)) := fun w => (aZeroValue 109 w).trans (Try.zeroValue109 w)
@[simp] theorem type110 : TryQ.prog.toTables.types[110]? = some Try.t110 := Try.type110
@[simp] theorem typeInfo110 : type_of% (fun w => (aTypeInfo 110 w).trans (Try.typeInfo110 w)) := fun w => (aTypeInfo 110 w).trans (Try.typeInfo110 w)
@[simp] theorem sizeOf110 : type_of% (fun w => (aSizeOf 110 w).trans (Try.sizeOf110 w)) := fun w => (aSizeOf 110 w).trans (Try.sizeOf110 w)
@[simp] theorem underlying110 : type_of% ((aUnderlying 110).trans Try.underlying110) := (aUnderlying 110).trans Try.underlying110
@[simp] theorem runUnderlying110 : type_of% (fun w => (aRunUnderlying 110 w).trans (Try.runUnderlying110 w)) := fun w => (aRunUnderlying 110 w).trans (Try.runUnderlying110 w)
@[simp] theorem isAgg110 : type_of% (fun w => (aIsAgg 110 w).trans (Try.isAgg110 w)) := fun w => (aIsAgg 110 w).trans (Try.isAgg110 w)
@[simp] theorem eqGuardType110 : type_of% ((aEqg 110).trans Try.eqGuardType110) := (aEqg 110).trans Try.eqGuardType110
@[simp] theorem stoodInHeld110 : type_of% ((aStoodIn 110).trans Try.stoodInHeld110) := (aStoodIn 110).trans Try.stoodInHeld110
@[simp] theorem zeroValue110 : type_of% (fun w => (aZeroValue 110 w).trans (Try.zeroValue110 w)) := fun w => (aZeroValue 110 w).trans (Try.zeroValue110 w)
@[simp] theorem type111 : TryQ.prog.toTables.types[111]? = some Try.t111 := Try.type111
@[simp] theorem typeInfo111 : type_of% (fun w => (aTypeInfo 111 w).trans (Try.typeInfo111 w)) := fun w => (aTypeInfo 111 w).trans (Try.typeInfo111 w)
@[simp] theorem sizeOf111 : type_of% (fun w => (aSizeOf 111 w).trans (Try.sizeOf111 w)) := fun w => (aSizeOf 111 w).trans (Try.sizeOf111 w)
@[simp] theorem underlying111 : type_of% ((aUnderlying 111).trans Try.underlying111) := (aUnderlying 111).trans Try.underlying111
@[simp] theorem runUnderlying111 : type_of% (fun w => (aRunUnderlying 111 w).trans (Try.runUnderlying111 w)) := fun w => (aRunUnderlying 111 w).trans (Try.runUnderlying111 w)
@[simp] theorem isAgg111 : type_of% (fun w => (aIsAgg 111 w).trans (Try.isAgg111 w)) := fun w => (aIsAgg 111 w).trans (Try.isAgg111 w)
@[simp] theorem zeroValue111 : type_of% (fun w => (aZeroValue 111 w).trans (Try.zeroValue111 w)) := fun w => (aZeroValue 111 w).trans (Try.zeroValue111 w)
@[simp] theorem type112 : TryQ.prog.toTables.types[112]? = some Try.t112 := Try.type112
@[simp] theorem typeInfo112 : type_of% (fun w => (aTypeInfo 112 w).trans (Try.typeInfo112 w)) := fun w => (aTypeInfo 112 w).trans (Try.typeInfo112 w)
@[simp] theorem sizeOf112 : type_of% (fun w => (aSizeOf 112 w).trans (Try.sizeOf112 w)) := fun w => (aSizeOf 112 w).trans (Try.sizeOf112 w)
@[simp] theorem underlying112 : type_of% ((aUnderlying 112).trans Try.underlying112) := (aUnderlying 112).trans Try.underlying112
@[simp] theorem runUnderlying112 : type_of% (fun w => (aRunUnderlying 112 w).trans (Try.runUnderlying112 w)) := fun w => (aRunUnderlying 112 w).trans (Try.runUnderlying112 w)
@[simp] theorem isAgg112 : type_of% (fun w => (aIsAgg 112 w).trans (Try.isAgg112 w)) := fun w => (aIsAgg 112 w).trans (Try.isAgg112 w)
@[simp] theorem zeroValue112 : type_of% (fun w => (aZeroValue 112 w).trans (Try.zeroValue112 w)) := fun w => (aZeroValue 112 w).trans (Try.zeroValue112 w)
@[simp] theorem type113 : TryQ.prog.toTables.types[113]? = some Try.t113 := Try.type113
@[simp] theorem typeInfo113 : type_of% (fun w => (aTypeInfo 113 w).trans (Try.typeInfo113 w)) := fun w => (aTypeInfo 113 w).trans (Try.typeInfo113 w)
@[simp] theorem sizeOf113 : type_of% (fun w => (aSizeOf 113 w).trans (Try.sizeOf113 w)) := fun w => (aSizeOf 113 w).trans (Try.sizeOf113 w)
@[simp] theorem underlying113 : type_of% ((aUnderlying 113).trans Try.underlying113) := (aUnderlying 113).trans Try.underlying113
@[simp] theorem runUnderlying113 : type_of% (fun w => (aRunUnderlying 113 w).trans (Try.runUnderlying113 w)) := fun w => (aRunUnderlying 113 w).trans (Try.runUnderlying113 w)
@[simp] theorem isAgg113 : type_of% (fun w => (aIsAgg 113 w).trans (Try.isAgg113 w)) := fun w => (aIsAgg 113 w).trans (Try.isAgg113 w)
@[simp] theorem zeroValue113 : type_of% (fun w => (aZeroValue 113 w).trans (Try.zeroValue113 w)) := fun w => (aZeroValue 113 w).trans (Try.zeroValue113 w)
@[simp] theorem type114 : TryQ.prog.toTables.types[114]? = some Try.t114 := Try.type114
@[simp] theorem typeInfo114 : type_of% (fun w => (aTypeInfo 114 w).trans (Try.typeInfo114 w)) := fun w => (aTypeInfo 114 w).trans (Try.typeInfo114 w)
@[simp] theorem sizeOf114 : type_of% (fun w => (aSizeOf 114 w).trans (Try.sizeOf114 w)) := fun w => (aSizeOf 114 w).trans (Try.sizeOf114 w)
@[simp] theorem underlying114 : type_of% ((aUnderlying 114).trans Try.underlying114) := (aUnderlying 114).trans Try.underlying114
@[simp] theorem runUnderlying114 : type_of% (fun w => (aRunUnderlying 114 w).trans (Try.runUnderlying114 w)) := fun w => (aRunUnderlying 114 w).trans (Try.runUnderlying114 w)
@[simp] theorem isAgg114 : type_of% (fun w => (aIsAgg 114 w).trans (Try.isAgg114 w)) := fun w => (aIsAgg 114 w).trans (Try.isAgg114 w)
@[simp] theorem zeroValue114 : type_of% (fun w => (aZeroValue 114 w).trans (Try.zeroValue114 w)) := fun w => (aZeroValue 114 w).trans (Try.zeroValue114 w)
@[simp] theorem type115 : TryQ.prog.toTables.types[115]? = some Try.t115 := Try.type115
@[simp] theorem typeInfo115 : type_of% (fun w => (aTypeInfo 115 w).trans (Try.typeInfo115 w)) := fun w => (aTypeInfo 115 w).trans (Try.typeInfo115 w)
@[simp] theorem sizeOf115 : type_of% (fun w => (aSizeOf 115 w).trans (Try.sizeOf115 w)) := fun w => (aSizeOf 115 w).trans (Try.sizeOf115 w)
@[simp] theorem underlying115 : type_of% ((aUnderlying 115).trans Try.underlying115) := (aUnderlying 115).trans Try.underlying115
@[simp] theorem runUnderlying115 : type_of% (fun w => (aRunUnderlying 115 w).trans (Try.runUnderlying115 w)) := fun w => (aRunUnderlying 115 w).trans (Try.runUnderlying115 w)
@[simp] theorem isAgg115 : type_of% (fun w => (aIsAgg 115 w).trans (Try.isAgg115 w)) := fun w => (aIsAgg 115 w).trans (Try.isAgg115 w)
@[simp] theorem zeroValue115 : type_of% (fun w => (aZeroValue 115 w).trans (Try.zeroValue115 w)) := fun w => (aZeroValue 115 w).trans (Try.zeroValue115 w)
@[simp] theorem type116 : TryQ.prog.toTables.types[116]? = some Try.t116 := Try.type116
@[simp] theorem typeInfo116 : type_of% (fun w => (aTypeInfo 116 w).trans (Try.typeInfo116 w)) := fun w => (aTypeInfo 116 w).trans (Try.typeInfo116 w)
@[simp] theorem sizeOf116 : type_of% (fun w => (aSizeOf 116 w).trans (Try.sizeOf116 w)) := fun w => (aSizeOf 116 w).trans (Try.sizeOf116 w)
@[simp] theorem underlying116 : type_of% ((aUnderlying 116).trans Try.underlying116) := (aUnderlying 116).trans Try.underlying116
@[simp] theorem runUnderlying116 : type_of% (fun w => (aRunUnderlying 116 w).trans (Try.runUnderlying116 w)) := fun w => (aRunUnderlying 116 w).trans (Try.runUnderlying116 w)
@[simp] theorem isAgg116 : type_of% (fun w => (aIsAgg 116 w).trans (Try.isAgg116 w)) := fun w => (aIsAgg 116 w).trans (Try.isAgg116 w)
@[simp] theorem zeroValue116 : type_of% (fun w => (aZeroValue 116 w).trans (Try.zeroValue116 w)) := fun w => (aZeroValue 116 w).trans (Try.zeroValue116 w)
@[simp] theorem type117 : TryQ.prog.toTables.types[117]? = some Try.t117 := Try.type117
@[simp] theorem typeInfo117 : type_of% (fun w => (aTypeInfo 117 w).trans (Try.typeInfo117 w)) := fun w => (aTypeInfo 117 w).trans (Try.typeInfo117 w)
@[simp] theorem sizeOf117 : type_of% (fun w => (aSizeOf 117 w).trans (Try.sizeOf117 w)) := fun w => (aSizeOf 117 w).trans (Try.sizeOf117 w)
@[simp] theorem underlying117 : type_of% ((aUnderlying 117).trans Try.underlying117) := (aUnderlying 117).trans Try.underlying117
@[simp] theorem runUnderlying117 : type_of% (fun w => (aRunUnderlying 117 w).trans (Try.runUnderlying117 w)) := fun w => (aRunUnderlying 117 w).trans (Try.runUnderlying117 w)
@[simp] theorem isAgg117 : type_of% (fun w => (aIsAgg 117 w).trans (Try.isAgg117 w)) := fun w => (aIsAgg 117 w).trans (Try.isAgg117 w)
@[simp] theorem zeroValue117 : type_of% (fun w => (aZeroValue 117 w).trans (Try.zeroValue117 w)) := fun w => (aZeroValue 117 w).trans (Try.zeroValue117 w)
@[simp] theorem type118 : TryQ.prog.toTables.types[118]? = some Try.t118 := Try.type118
@[simp] theorem typeInfo118 : type_of% (fun w => (aTypeInfo 118 w).trans (Try.typeInfo118 w)) := fun w => (aTypeInfo 118 w).trans (Try.typeInfo118 w)
@[simp] theorem sizeOf118 : type_of% (fun w => (aSizeOf 118 w).trans (Try.sizeOf118 w)) := fun w => (aSizeOf 118 w).trans (Try.sizeOf118 w)
@[simp] theorem underlying118 : type_of% ((aUnderlying 118).trans Try.underlying118) := (aUnderlying 118).trans Try.underlying118
@[simp] theorem runUnderlying118 : type_of% (fun w => (aRunUnderlying 118 w).trans (Try.runUnderlying118 w)) := fun w => (aRunUnderlying 118 w).trans (Try.runUnderlying118 w)
@[simp] theorem isAgg118 : type_of% (fun w => (aIsAgg 118 w).trans (Try.isAgg118 w)) := fun w => (aIsAgg 118 w).trans (Try.isAgg118 w)
@[simp] theorem eqGuardType118 : type_of% ((aEqg 118).trans Try.eqGuardType118) := (aEqg 118).trans Try.eqGuardType118
@[simp] theorem stoodInHeld118 : type_of% ((aStoodIn 118).trans Try.stoodInHeld118) := (aStoodIn 118).trans Try.stoodInHeld118
@[simp] theorem zeroValue118 : type_of% (fun w => (aZeroValue 118 w).trans (Try.zeroValue118 w)) := fun w => (aZeroValue 118 w).trans (Try.zeroValue118 w)
@[simp] theorem type119 : TryQ.prog.toTables.types[119]? = some Try.t119 := Try.type119
@[simp] theorem typeInfo119 : type_of% (fun w => (aTypeInfo 119 w).trans (Try.typeInfo119 w)) := fun w => (aTypeInfo 119 w).trans (Try.typeInfo119 w)
@[simp] theorem sizeOf119 : type_of% (fun w => (aSizeOf 119 w).trans (Try.sizeOf119 w)) := fun w => (aSizeOf 119 w).trans (Try.sizeOf119 w)
@[simp] theorem underlying119 : type_of% ((aUnderlying 119).trans Try.underlying119) := (aUnderlying 119).trans Try.underlying119
@[simp] theorem runUnderlying119 : type_of% (fun w => (aRunUnderlying 119 w).trans (Try.runUnderlying119 w)) := fun w => (aRunUnderlying 119 w).trans (Try.runUnderlying119 w)
@[simp] theorem isAgg119 : type_of% (fun w => (aIsAgg 119 w).trans (Try.isAgg119 w)) := fun w => (aIsAgg 119 w).trans (Try.isAgg119 w)
@[simp] theorem eqGuardType119 : type_of% ((aEqg 119).trans Try.eqGuardType119) := (aEqg 119).trans Try.eqGuardType119
@[simp] theorem stoodInHeld119 : type_of% ((aStoodIn 119).trans Try.stoodInHeld119) := (aStoodIn 119).trans Try.stoodInHeld119
@[simp] theorem zeroValue119 : type_of% (fun w => (aZeroValue 119 w).trans (Try.zeroValue119 w)) := fun w => (aZeroValue 119 w).trans (Try.zeroValue119 w)
@[simp] theorem rt_eq : type_of% ((congrArg Tables.rt tab).trans Try.rt_eq) := (congrArg Tables.rt tab).trans Try.rt_eq
@[simp] theorem main_eq : type_of% ((congrArg Tables.main tab).trans Try.main_eq) := (congrArg Tables.main tab).trans Try.main_eq
@[simp] theorem inits_eq : type_of% ((congrArg Tables.inits tab).trans Try.inits_eq) := (congrArg Tables.inits tab).trans Try.inits_eq
@[simp] theorem globals_size : type_of% ((congrArg (fun x => Array.size (Tables.globals x)) tab).trans Try.globals_size) := (congrArg (fun x => Array.size (Tables.globals x)) tab).trans Try.globals_size
@[simp] theorem types_size : type_of% ((congrArg (fun x => Array.size (Tables.types x)) tab).trans Try.types_size) := (congrArg (fun x => Array.size (Tables.types x)) tab).trans Try.types_size
end TryQ
end Go.Proofs
