/-
  The same facts, part 1.
-/
import Derived.Test.YtlgfogllkoabpaaQb0
namespace Go.Proofs
open Go.Conc Go.Proofs.Ytlgfogllkoabpaa.SimP
set_option linter.unusedVariables false
set_option maxRecDepth 100000
namespace TryQ
@[simp] theorem type0 : TryQ.prog.toTables.types[0]? = some Try.t0 := Try.type0
@[simp] theorem typeInfo0 : type_of% (fun w => (aTypeInfo 0 w).trans (Try.typeInfo0 w)) := fun w => (aTypeInfo 0 w).trans (Try.typeInfo0 w)
@[simp] theorem sizeOf0 : type_of% (fun w => (aSizeOf 0 w).trans (Try.sizeOf0 w)) := fun w => (aSizeOf 0 w).trans (Try.sizeOf0 w)
@[simp] theorem underlying0 : type_of% ((aUnderlying 0).trans Try.underlying0) := (aUnderlying 0).trans Try.underlying0
@[simp] theorem runUnderlying0 : type_of% (fun w => (aRunUnderlying 0 w).trans (Try.runUnderlying0 w)) := fun w => (aRunUnderlying 0 w).trans (Try.runUnderlying0 w)
@[simp] theorem isAgg0 : type_of% (fun w => (aIsAgg 0 w).trans (Try.isAgg0 w)) := fun w => (aIsAgg 0 w).trans (Try.isAgg0 w)
@[simp] theorem zeroValue0 : type_of% (fun w => (aZeroValue 0 w).trans (Try.zeroValue0 w)) := fun w => (aZeroValue 0 w).trans (Try.zeroValue0 w)
@[simp] theorem type1 : TryQ.prog.toTables.types[1]? = some Try.t1 := Try.type1
@[simp] theorem typeInfo1 : type_of% (fun w => (aTypeInfo 1 w).trans (Try.typeInfo1 w)) := fun w => (aTypeInfo 1 w).trans (Try.typeInfo1 w)
@[simp] theorem sizeOf1 : type_of% (fun w => (aSizeOf 1 w).trans (Try.sizeOf1 w)) := fun w => (aSizeOf 1 w).trans (Try.sizeOf1 w)
@[simp] theorem underlying1 : type_of% ((aUnderlying 1).trans Try.underlying1) := (aUnderlying 1).trans Try.underlying1
@[simp] theorem runUnderlying1 : type_of% (fun w => (aRunUnderlying 1 w).trans (Try.runUnderlying1 w)) := fun w => (aRunUnderlying 1 w).trans (Try.runUnderlying1 w)
@[simp] theorem isAgg1 : type_of% (fun w => (aIsAgg 1 w).trans (Try.isAgg1 w)) := fun w => (aIsAgg 1 w).trans (Try.isAgg1 w)
@[simp] theorem zeroValue1 : type_of% (fun w => (aZeroValue 1 w).trans (Try.zeroValue1 w)) := fun w => (aZeroValue 1 w).trans (Try.zeroValue1 w)
@[simp] theorem type2 : TryQ.prog.toTables.types[2]? = some Try.t2 := Try.type2
@[simp] theorem typeInfo2 : type_of% (fun w => (aTypeInfo 2 w).trans (Try.typeInfo2 w)) := fun w => (aTypeInfo 2 w).trans (Try.typeInfo2 w)
@[simp] theorem sizeOf2 : type_of% (fun w => (aSizeOf 2 w).trans (Try.sizeOf2 w)) := fun w => (aSizeOf 2 w).trans (Try.sizeOf2 w)
@[simp] theorem underlying2 : type_of% ((aUnderlying 2).trans Try.underlying2) := (aUnderlying 2).trans Try.underlying2
@[simp] theorem runUnderlying2 : type_of% (fun w => (aRunUnderlying 2 w).trans (Try.runUnderlying2 w)) := fun w => (aRunUnderlying 2 w).trans (Try.runUnderlying2 w)
@[simp] theorem isAgg2 : type_of% (fun w => (aIsAgg 2 w).trans (Try.isAgg2 w)) := fun w => (aIsAgg 2 w).trans (Try.isAgg2 w)
@[simp] theorem zeroValue2 : type_of% (fun w => (aZeroValue 2 w).trans (Try.zeroValue2 w)) := fun w => (aZeroValue 2 w).trans (Try.zeroValue2 w)
@[simp] theorem type3 : TryQ.prog.toTables.types[3]? = some Try.t3 := Try.type3
@[simp] theorem typeInfo3 : type_of% (fun w => (aTypeInfo 3 w).trans (Try.typeInfo3 w)) := fun w => (aTypeInfo 3 w).trans (Try.typeInfo3 w)
@[simp] theorem sizeOf3 : type_of% (fun w => (aSizeOf 3 w).trans (Try.sizeOf3 w)) := fun w => (aSizeOf 3 w).trans (Try.sizeOf3 w)
@[simp] theorem underlying3 : type_of% ((aUnderlying 3).trans Try.underlying3) := (aUnderlying 3).trans Try.underlying3
@[simp] theorem runUnderlying3 : type_of% (fun w => (aRunUnderlying 3 w).trans (Try.runUnderlying3 w)) := fun w => (aRunUnderlying 3 w).trans (Try.runUnderlying3 w)
@[simp] theorem isAgg3 : type_of% (fun w => (aIsAgg 3 w).trans (Try.isAgg3 w)) := fun w => (aIsAgg 3 w).trans (Try.isAgg3 w)
@[simp] theorem zeroValue3 : type_of% (fun w => (aZeroValue 3 w).trans (Try.zeroValue3 w)) := fun w => (aZeroValue 3 w).trans (Try.zeroValue3 w)
@[simp] theorem type4 : TryQ.prog.toTables.types[4]? = some Try.t4 := Try.type4
@[simp] theorem typeInfo4 : type_of% (fun w => (aTypeInfo 4 w).trans (Try.typeInfo4 w)) := fun w => (aTypeInfo 4 w).trans (Try.typeInfo4 w)
@[simp] theorem sizeOf4 : type_of% (fun w => (aSizeOf 4 w).trans (Try.sizeOf4 w)) := fun w => (aSizeOf 4 w).trans (Try.sizeOf4 w)
@[simp] theorem underlying4 : type_of% ((aUnderlying 4).trans Try.underlying4) := (aUnderlying 4).trans Try.underlying4
@[simp] theorem runUnderlying4 : type_of% (fun w => (aRunUnderlying 4 w).trans (Try.runUnderlying4 w)) := fun w => (aRunUnderlying 4 w).trans (Try.runUnderlying4 w)
@[simp] theorem isAgg4 : type_of% (fun w => (aIsAgg 4 w).trans (Try.isAgg4 w)) := fun w => (aIsAgg 4 w).trans (Try.isAgg4 w)
@[simp] theorem zeroValue4 : type_of% (fun w => (aZeroValue 4 w).trans (Try.zeroValue4 w)) := fun w => (aZeroValue 4 w).trans (Try.zeroValue4 w)
@[simp] theorem type5 : TryQ.prog.toTables.types[5]? = some Try.t5 := Try.type5
@[simp] theorem typeInfo5 : type_of% (fun w => (aTypeInfo 5 w).trans (Try.typeInfo5 w)) := fun w => (aTypeInfo 5 w).trans (Try.typeInfo5 w)
@[simp] theorem sizeOf5 : type_of% (fun w => (aSizeOf 5 w).trans (Try.sizeOf5 w)) := fun w => (aSizeOf 5 w).trans (Try.sizeOf5 w)
@[simp] theorem underlying5 : type_of% ((aUnderlying 5).trans Try.underlying5) := (aUnderlying 5).trans Try.underlying5
@[simp] theorem runUnderlying5 : type_of% (fun w => (aRunUnderlying 5 w).trans (Try.runUnderlying5 w)) := fun w => (aRunUnderlying 5 w).trans (Try.runUnderlying5 w)
@[simp] theorem isAgg5 : type_of% (fun w => (aIsAgg 5 w).trans (Try.isAgg5 w)) := fun w => (aIsAgg 5 w).trans (Try.isAgg5 w)
@[simp] theorem zeroValue5 : type_of% (fun w => (aZeroValue 5 w).trans (Try.zeroValue5 w)) := fun w => (aZeroValue 5 w).trans (Try.zeroValue5 w)
@[simp] theorem type6 : TryQ.prog.toTables.types[6]? = some Try.t6 := Try.type6
@[simp] theorem typeInfo6 : type_of% (fun w => (aTypeInfo 6 w).trans (Try.typeInfo6 w)) := fun w => (aTypeInfo 6 w).trans (Try.typeInfo6 w)
@[simp] theorem sizeOf6 : type_of% (fun w => (aSizeOf 6 w).trans (Try.sizeOf6 w)) := fun w => (aSizeOf 6 w).trans (Try.sizeOf6 w)
@[simp] theorem underlying6 : type_of% ((aUnderlying 6).trans Try.underlying6) := (aUnderlying 6).trans Try.underlying6
@[simp] theorem runUnderlying6 : type_of% (fun w => (aRunUnderlying 6 w).trans (Try.runUnderlying6 w)) := fun w => (aRunUnderlying 6 w).trans (Try.runUnderlying6 w)
@[simp] theorem isAgg6 : type_of% (fun w => (aIsAgg 6 w).trans (Try.isAgg6 w)) := fun w => (aIsAgg 6 w).trans (Try.isAgg6 w)
@[simp] theorem zeroValue6 : type_of% (fun w => (aZeroValue 6 w).trans (Try.zeroValue6 w)) := fun w => (aZeroValue 6 w).trans (Try.zeroValue6 w)
@[simp] theorem type7 : TryQ.prog.toTables.types[7]? = some Try.t7 := Try.type7
@[simp] theorem typeInfo7 : type_of% (fun w => (aTypeInfo 7 w).trans (Try.typeInfo7 w)) := fun w => (aTypeInfo 7 w).trans (Try.typeInfo7 w)
@[simp] theorem sizeOf7 : type_of% (fun w => (aSizeOf 7 w).trans (Try.sizeOf7 w)) := fun w => (aSizeOf 7 w).trans (Try.sizeOf7 w)
@[simp] theorem underlying7 : type_of% ((aUnderlying 7).trans Try.underlying7) := (aUnderlying 7).trans Try.underlying7
@[simp] theorem runUnderlying7 : type_of% (fun w => (aRunUnderlying 7 w).trans (Try.runUnderlying7 w)) := fun w => (aRunUnderlying 7 w).trans (Try.runUnderlying7 w)
@[simp] theorem isAgg7 : type_of% (fun w => (aIsAgg 7 w).trans (Try.isAgg7 w)) := fun w => (aIsAgg 7 w).trans (Try.isAgg7 w)
@[simp] theorem eqGuardType7 : type_of% ((aEqg 7).trans Try.eqGuardType7) := (aEqg 7).trans Try.eqGuardType7
@[simp] theorem stoodInHeld7 : type_of% ((aStoodIn 7).trans Try.stoodInHeld7) := (aStoodIn 7).trans Try.stoodInHeld7
@[simp] theorem zeroValue7 : type_of% (fun w => (aZeroValue 7 w).trans (Try.zeroValue7 w)) := fun w => (aZeroValue 7 w).trans (Try.zeroValue7 w)
@[simp] theorem type8 : TryQ.prog.toTables.types[8]? = some Try.t8 := Try.type8
@[simp] theorem typeInfo8 : type_of% (fun w => (aTypeInfo 8 w).trans (Try.typeInfo8 w)) := fun w => (aTypeInfo 8 w).trans (Try.typeInfo8 w)
@[simp] theorem sizeOf8 : type_of% (fun w => (aSizeOf 8 w).trans (Try.sizeOf8 w)) := fun w => (aSizeOf 8 w).trans (Try.sizeOf8 w)
@[simp] theorem underlying8 : type_of% ((aUnderlying 8).trans Try.underlying8) := (aUnderlying 8).trans Try.underlying8
@[simp] theorem runUnderlying8 : type_of% (fun w => (aRunUnderlying 8 w).trans (Try.runUnderlying8 w)) := fun w => (aRunUnderlying 8 w).trans (Try.runUnderlying8 w)
@[simp] theorem isAgg8 : type_of% (fun w => (aIsAgg 8 w).trans (Try.isAgg8 w)) := fun w => (aIsAgg 8 w).trans (Try.isAgg8 w)
@[simp] theorem eqGuardType8 : type_of% ((aEqg 8).trans Try.eqGuardType8) := (aEqg 8).trans Try.eqGuardType8
@[simp] theorem stoodInHeld8 : type_of% ((aStoodIn 8).trans Try.stoodInHeld8) := (aStoodIn 8).trans Try.stoodInHeld8
@[simp] theorem zeroValue8 : type_of% (fun w => (aZeroValue 8 w).trans (Try.zeroValue8 w)) := fun w => (aZeroValue 8 w).trans (Try.zeroValue8 w)
@[simp] theorem type9 : TryQ.prog.toTables.types[9]? = some Try.t9 := Try.type9
@[simp] theorem typeInfo9 : type_of% (fun w => (aTypeInfo 9 w).trans (Try.typeInfo9 w)) := fun w => (aTypeInfo 9 w).trans (Try.typeInfo9 w)
@[simp] theorem sizeOf9 : type_of% (fun w => (aSizeOf 9 w).trans (Try.sizeOf9 w)) := fun w => (aSizeOf 9 w).trans (Try.sizeOf9 w)
@[simp] theorem underlying9 : type_of% ((aUnderlying 9).trans Try.underlying9) := (aUnderlying 9).trans Try.underlying9
@[simp] theorem runUnderlying9 : type_of% (fun w => (aRunUnderlying 9 w).trans (Try.runUnderlying9 w)) := fun w => (aRunUnderlying 9 w).trans (Try.runUnderlying9 w)
@[simp] theorem isAgg9 : type_of% (fun w => (aIsAgg 9 w).trans (Try.isAgg9 w)) := fun w => (aIsAgg 9 w).trans (Try.isAgg9 w)
@[simp] theorem zeroValue9 : type_of% (fun w => (aZeroValue 9 w).trans (Try.zeroValue9 w)) := fun w => (aZeroValue 9 w).trans (Try.zeroValue9 w)
@[simp] theorem type10 : TryQ.prog.toTables.types[10]? = some Try.t10 := Try.type10
@[simp] theorem typeInfo10 : type_of% (fun w => (aTypeInfo 10 w).trans (Try.typeInfo10 w)) := fun w => (aTypeInfo 10 w).trans (Try.typeInfo10 w)
@[simp] theorem sizeOf10 : type_of% (fun w => (aSizeOf 10 w).trans (Try.sizeOf10 w)) := fun w => (aSizeOf 10 w).trans (Try.sizeOf10 w)
@[simp] theorem underlying10 : type_of% ((aUnderlying 10).trans Try.underlying10) := (aUnderlying 10).trans Try.underlying10
@[simp] theorem runUnderlying10 : type_of% (fun w => (aRunUnderlying 10 w).trans (Try.runUnderlying10 w)) := fun w => (aRunUnderlying 10 w).trans (Try.runUnderlying10 w)
@[simp] theorem isAgg10 : type_of% (fun w => (aIsAgg 10 w).trans (Try.isAgg10 w)) := fun w => (aIsAgg 10 w).trans (Try.isAgg10 w)
@[simp] theorem zeroValue10 : type_of% (fun w => (aZeroValue 10 w).trans (Try.zeroValue10 w)) := fun w => (aZeroValue 10 w).trans (Try.zeroValue10 w)
@[simp] theorem type11 : TryQ.prog.toTables.types[11]? = some Try.t11 := Try.type11
@[simp] theorem typeInfo11 : type_of% (fun w => (aTypeInfo 11 w).trans (Try.typeInfo11 w)) := fun w => (aTypeInfo 11 w).trans (Try.typeInfo11 w)
@[simp] theorem sizeOf11 : type_of% (fun w => (aSizeOf 11 w).trans (Try.sizeOf11 w)) := fun w => (aSizeOf 11 w).trans (Try.sizeOf11 w)
@[simp] theorem underlying11 : type_of% ((aUnderlying 11).trans Try.underlying11) := (aUnderlying 11).trans Try.underlying11
@[simp] theorem runUnderlying11 : type_of% (fun w => (aRunUnderlying 11 w).trans (Try.runUnderlying11 w)) := fun w => (aRunUnderlying 11 w).trans (Try.runUnderlying11 w)
@[simp] theorem isAgg11 : type_of% (fun w => (aIsAgg 11 w).trans (Try.isAgg11 w)) := fun w => (aIsAgg 11 w).trans (Try.isAgg11 w)
@[simp] theorem zeroValue11 : type_of% (fun w => (aZeroValue 11 w).trans (Try.zeroValue11 w)) := fun w => (aZeroValue 11 w).trans (Try.zeroValue11 w)
@[simp] theorem type12 : TryQ.prog.toTables.types[12]? = some Try.t12 := Try.type12
@[simp] theorem typeInfo12 : type_of% (fun w => (aTypeInfo 12 w).trans (Try.typeInfo12 w)) := fun w => (aTypeInfo 12 w).trans (Try.typeInfo12 w)
@[simp] theorem sizeOf12 : type_of% (fun w => (aSizeOf 12 w).trans (Try.sizeOf12 w)) := fun w => (aSizeOf 12 w).trans (Try.sizeOf12 w)
@[simp] theorem underlying12 : type_of% ((aUnderlying 12).trans Try.underlying12) := (aUnderlying 12).trans Try.underlying12
@[simp] theorem runUnderlying12 : type_of% (fun w => (aRunUnderlying 12 w).trans (Try.runUnderlying12 w)) := fun w => (aRunUnderlying 12 w).trans (Try.runUnderlying12 w)
@[simp] theorem isAgg12 : type_of% (fun w => (aIsAgg 12 w).trans (Try.isAgg12 w)) := fun w => (aIsAgg 12 w).trans (Try.isAgg12 w)
@[simp] theorem zeroValue12 : type_of% (fun w => (aZeroValue 12 w).trans (Try.zeroValue12 w)) := fun w => (aZeroValue 12 w).trans (Try.zeroValue12 w)
@[simp] theorem type13 : TryQ.prog.toTables.types[13]? = some Try.t13 := Try.type13
@[simp] theorem typeInfo13 : type_of% (fun w => (aTypeInfo 13 w).trans (Try.typeInfo13 w)) := fun w => (aTypeInfo 13 w).trans (Try.typeInfo13 w)
@[simp] theorem sizeOf13 : type_of% (fun w => (aSizeOf 13 w).trans (Try.sizeOf13 w)) := fun w => (aSizeOf 13 w).trans (Try.sizeOf13 w)
@[simp] theorem underlying13 : type_of% ((aUnderlying 13).trans Try.underlying13) := (aUnderlying 13).trans Try.underlying13
@[simp] theorem runUnderlying13 : type_of% (fun w => (aRunUnderlying 13 w).trans (Try.runUnderlying13 w)) := fun w => (aRunUnderlying 13 w).trans (Try.runUnderlying13 w)
@[simp] theorem isAgg13 : type_of% (fun w => (aIsAgg 13 w).trans (Try.isAgg13 w)) := fun w => (aIsAgg 13 w).trans (Try.isAgg13 w)
@[simp] theorem eqGuardType13 : type_of% ((aEqg 13).trans Try.eqGuardType13) := (aEqg 13).trans Try.eqGuardType13
@[simp] theorem stoodInHeld13 : type_of% ((aStoodIn 13).trans Try.stoodInHeld13) := (aStoodIn 13).trans Try.stoodInHeld13
@[simp] theorem zeroValue13 : type_of% (fun w => (aZeroValue 13 w).trans (Try.zeroValue13 w)) := fun w => (aZeroValue 13 w).trans (Try.zeroValue13 w)
@[simp] theorem type14 : TryQ.prog.toTables.types[14]? = some Try.t14 := Try.type14
@[simp] theorem typeInfo14 : type_of% (fun w => (aTypeInfo 14 w).trans (Try.typeInfo14 w)) := fun w => (aTypeInfo 14 w).trans (Try.typeInfo14 w)
@[simp] theorem sizeOf14 : type_of% (fun w => (aSizeOf 14 w).trans (Try.sizeOf14 w)) := fun w => (aSizeOf 14 w).trans (Try.sizeOf14 w)
@[simp] theorem underlying14 : type_of% ((aUnderlying 14).trans Try.underlying14) := (aUnderlying 14).trans Try.underlying14
@[simp] theorem runUnderlying14 : type_of% (fun w => (aRunUnderlying 14 w).trans (Try.runUnderlying14 w)) := fun w => (aRunUnderlying 14 w).trans (Try.runUnderlying14 w)
@[simp] theorem isAgg14 : type_of% (fun w => (aIsAgg 14 w).trans (Try.isAgg14 w)) := fun w => (aIsAgg 14 w).trans (Try.isAgg14 w)
@[simp] theorem eqGuardType14 : type_of% ((aEqg 14).trans Try.eqGuardType14) := (aEqg 14).trans Try.eqGuardType14
@[simp] theorem stoodInHeld14 : type_of% ((aStoodIn 14).trans Try.stoodInHeld14) := (aStoodIn 14).trans Try.stoodInHeld14
@[simp] theorem zeroValue14 : type_of% (fun w => (aZeroValue 14 w).trans (Try.zeroValue14 w)) := fun w => (aZeroValue 14 w).trans (Try.zeroValue14 w)
@[simp] theorem type15 : TryQ.prog.toTables.types[15]? = some Try.t15 := Try.type15
@[simp] theorem typeInfo15 : type_of% (fun w => (aTypeInfo 15 w).trans (Try.typeInfo15 w)) := fun w => (aTypeInfo 15 w).trans (Try.typeInfo15 w)
@[simp] theorem sizeOf15 : type_of% (fun w => (aSizeOf 15 w).trans (Try.sizeOf15 w)) := fun w => (aSizeOf 15 w).trans (Try.sizeOf15 w)
@[simp] theorem underlying15 : type_of% ((aUnderlying 15).trans Try.underlying15) := (aUnderlying 15).trans Try.underlying15
@[simp] theorem runUnderlying15 : type_of% (fun w => (aRunUnderlying 15 w).trans (Try.runUnderlying15 w)) := fun w => (aRunUnderlying 15 w).trans (Try.runUnderlying15 w)
@[simp] theorem isAgg15 : type_of% (fun w => (aIsAgg 15 w).trans (Try.isAgg15 w)) := fun w => (aIsAgg 15 w).trans (Try.isAgg15 w)
@[simp] theorem zeroValue15 : type_of% (fun w => (aZeroValue 15 w).trans (Try.zeroValue15 w)) := fun w => (aZeroValue 15 w).trans (Try.zeroValue15 w)
@[simp] theorem type16 : TryQ.prog.toTables.types[16]? = some Try.t16 := Try.type16
@[simp] theorem typeInfo16 : type_of% (fun w => (aTypeInfo 16 w).trans (Try.typeInfo16 w)) := fun w => (aTypeInfo 16 w).trans (Try.typeInfo16 w)
@[simp] theorem sizeOf16 : type_of% (fun w => (aSizeOf 16 w).trans (Try.sizeOf16 w)) := fun w => (aSizeOf 16 w).trans (Try.sizeOf16 w)
@[simp] theorem underlying16 : type_of% ((aUnderlying 16).trans Try.underlying16) := (aUnderlying 16).trans Try.underlying16
@[simp] theorem runUnderlying16 : type_of% (fun w => (aRunUnderlying 16 w).trans (Try.runUnderlying16 w)) := fun w => (aRunUnderlying 16 w).trans (Try.runUnderlying16 w)
@[simp] theorem isAgg16 : type_of% (fun w => (aIsAgg 16 w).trans (Try.isAgg16 w)) := fun w => (aIsAgg 16 w).trans (Try.isAgg16 w)
@[simp] theorem zeroValue16 : type_of% (fun w => (aZeroValue 16 w).trans (Try.zeroValue16 w)) := fun w => (aZeroValue 16 w).trans (Try.zeroValue16 w)
@[simp] theorem type17 : TryQ.prog.toTables.types[17]? = some Try.t17 := Try.type17
@[simp] theorem typeInfo17 : type_of% (fun w => (aTypeInfo 17 w).trans (Try.typeInfo17 w)) := fun w => (aTypeInfo 17 w).trans (Try.typeInfo17 w)
@[simp] theorem sizeOf17 : type_of% (fun w => (aSizeOf 17 w).trans (Try.sizeOf17 w)) := fun w => (aSizeOf 17 w).trans (Try.sizeOf17 w)
@[simp] theorem underlying17 : type_of% ((aUnderlying 17).trans Try.underlying17) := (aUnderlying 17).trans Try.underlying17
@[simp] theorem runUnderlying17 : type_of% (fun w => (aRunUnderlying 17 w).trans (Try.runUnderlying17 w)) := fun w => (aRunUnderlying 17 w).trans (Try.runUnderlying17 w)
@[simp] theorem isAgg17 : type_of% (fun w => (aIsAgg 17 w).trans (Try.isAgg17 w)) := fun w => (aIsAgg 17 w).trans (Try.isAgg17 w)
@[simp] theorem zeroValue17 : type_of% (fun w => (aZeroValue 17 w).trans (Try.zeroValue17 w)) := fun w => (aZeroValue 17 w).trans (Try.zeroValue17 w)
@[simp] theorem type18 : TryQ.prog.toTables.types[18]? = some Try.t18 := Try.type18
@[simp] theorem typeInfo18 : type_of% (fun w => (aTypeInfo 18 w).trans (Try.typeInfo18 w)) := fun w => (aTypeInfo 18 w).trans (Try.typeInfo18 w)
@[simp] theorem sizeOf18 : type_of% (fun w => (aSizeOf 18 w).trans (Try.sizeOf18 w)) := fun w => (aSizeOf 18 w).trans (Try.sizeOf18 w)
@[simp] theorem underlying18 : type_of% ((aUnderlying 18).trans Try.underlying18) := (aUnderlying 18).trans Try.underlying18
@[simp] theorem runUnderlying18 : type_of% (fun w => (aRunUnderlying 18 w).trans (Try.runUnderlying18 w)) := fun w => (aRunUnderlying 18 w).trans (Try.runUnderlying18 w)
@[simp] theorem isAgg18 : type_of% (fun w => (aIsAgg 18 w).trans (Try.isAgg18 w)) := fun w => (aIsAgg 18 w).trans (Try.isAgg18 w)
@[simp] theorem eqGuardType18 : type_of% ((aEqg 18).trans Try.eqGuardType18) := (aEqg 18).trans Try.eqGuardType18
@[simp] theorem stoodInHeld18 : type_of% ((aStoodIn 18).trans Try.stoodInHeld18) := (aStoodIn 18).trans Try.stoodInHeld18
@[simp] theorem zeroValue18 : type_of% (fun w => (aZeroValue 18 w).trans (Try.zeroValue18 w)) := fun w => (aZeroValue 18 w).trans (Try.zeroValue18 w)
@[simp] theorem type19 : TryQ.prog.toTables.types[19]? = some Try.t19 := Try.type19
@[simp] theorem typeInfo19 : type_of% (fun w => (aTypeInfo 19 w).trans (Try.typeInfo19 w)) := fun w => (aTypeInfo 19 w).trans (Try.typeInfo19 w)
@[simp] theorem sizeOf19 : type_of% (fun w => (aSizeOf 19 w).trans (Try.sizeOf19 w)) := fun w => (aSizeOf 19 w).trans (Try.sizeOf19 w)
@[simp] theorem underlying19 : type_of% ((aUnderlying 19).trans Try.underlying19) := (aUnderlying 19).trans Try.underlying19
@[simp] theorem runUnderlying19 : type_of% (fun w => (aRunUnderlying 19 w).trans (Try.runUnderlying19 w)) := fun w => (aRunUnderlying 19 w).trans (Try.runUnderlying19 w)
@[simp] theorem isAgg19 : type_of% (fun w => (aIsAgg 19 w).trans (Try.isAgg19 w)) := fun w => (aIsAgg 19 w).trans (Try.isAgg19 w)
@[simp] theorem eqGuardType19 : type_of% ((aEqg 19).trans Try.eqGuardType19) := (aEqg 19).trans Try.eqGuardType19
@[simp] theorem stoodInHeld19 : type_of% ((aStoodIn 19).trans Try.stoodInHeld19) := (aStoodIn 19).trans Try.stoodInHeld19
@[simp] theorem zeroValue19 : type_of% (fun w => (aZeroValue 19 w).trans (Try.zeroValue19 w)) := fun w => (aZeroValue 19 w).trans (Try.zeroValue19 w)
@[simp] theorem type20 : TryQ.prog.toTables.types[20]? = some Try.t20 := Try.type20
@[simp] theorem typeInfo20 : type_of% (fun w => (aTypeInfo 20 w).trans (Try.typeInfo20 w)) := fun w => (aTypeInfo 20 w).trans (Try.typeInfo20 w)
@[simp] theorem sizeOf20 : type_of% (fun w => (aSizeOf 20 w).trans (Try.sizeOf20 w)) := fun w => (aSizeOf 20 w).trans (Try.sizeOf20 w)
@[simp] theorem underlying20 : type_of% ((aUnderlying 20).trans Try.underlying20) := (aUnderlying 20).trans Try.underlying20
@[simp] theorem runUnderlying20 : type_of% (fun w => (aRunUnderlying 20 w).trans (Try.runUnderlying20 w)) := fun w => (aRunUnderlying 20 w).trans (Try.runUnderlying20 w)
@[simp] theorem isAgg20 : type_of% (fun w => (aIsAgg 20 w).trans (Try.isAgg20 w)) := fun w => (aIsAgg 20 w).trans (Try.isAgg20 w)
@[simp] theorem zeroValue20 : type_of% (fun w => (aZeroValue 20 w).trans (Try.zeroValue20 w)) := fun w => (aZeroValue 20 w).trans (Try.zeroValue20 w)
@[simp] theorem type21 : TryQ.prog.toTables.types[21]? = some Try.t21 := Try.type21
@[simp] theorem typeInfo21 : type_of% (fun w => (aTypeInfo 21 w).trans (Try.typeInfo21 w)) := fun w => (aTypeInfo 21 w).trans (Try.typeInfo21 w)
@[simp] theorem sizeOf21 : type_of% (fun w => (aSizeOf 21 w).trans (Try.sizeOf21 w)) := fun w => (aSizeOf 21 w).trans (Try.sizeOf21 w)
@[simp] theorem underlying21 : type_of% ((aUnderlying 21).trans Try.underlying21) := (aUnderlying 21).trans Try.underlying21
@[simp] theorem runUnderlying21 : type_of% (fun w => (aRunUnderlying 21 w).trans (Try.runUnderlying21 w)) := fun w => (aRunUnderlying 21 w).trans (Try.runUnderlying21 w)
@[simp] theorem isAgg21 : type_of% (fun w => (aIsAgg 21 w).trans (Try.isAgg21 w)) := fun w => (aIsAgg 21 w).trans (Try.isAgg21 w)
@[simp] theorem zeroValue21 : type_of% (fun w => (aZeroValue 21 w).trans (Try.zeroValue21 w)) := fun w => (aZeroValue 21 w).trans (Try.zeroValue21 w)
@[simp] theorem type22 : TryQ.prog.toTables.types[22]? = some Try.t22 := Try.type22
@[simp] theorem typeInfo22 : type_of% (fun w => (aTypeInfo 22 w).trans (Try.typeInfo22 w)) := fun w => (aTypeInfo 22 w).trans (Try.typeInfo22 w)
@[simp] theorem sizeOf22 : type_of% (fun w => (aSizeOf 22 w).trans (Try.sizeOf22 w)) := fun w => (aSizeOf 22 w).trans (Try.sizeOf22 w)
@[simp] theorem underlying22 : type_of% ((aUnderlying 22).trans Try.underlying22) := (aUnderlying 22).trans Try.underlying22
@[simp] theorem runUnderlying22 : type_of% (fun w => (aRunUnderlying 22 w).trans (Try.runUnderlying22 w)) := fun w => (aRunUnderlying 22 w).trans (Try.runUnderlying22 w)
@[simp] theorem isAgg22 : type_of% (fun w => (aIsAgg 22 w).trans (Try.isAgg22 w)) := fun w => (aIsAgg 22 w).trans (Try.isAgg22 w)
@[simp] theorem eqGuardType22 : type_of% ((aEqg 22).trans Try.eqGuardType22) := (aEqg 22).trans Try.eqGuardType22
@[simp] theorem stoodInHeld22 : type_of% ((aStoodIn 22).trans Try.stoodInHeld22) := (aStoodIn 22).trans Try.stoodInHeld22
@[simp] theorem zeroValue22 : type_of% (fun w => (aZeroValue 22 w).trans (Try.zeroValue22 w)) := fun w => (aZeroValue 22 w).trans (Try.zeroValue22 w)
@[simp] theorem type23 : TryQ.prog.toTables.types[23]? = some Try.t23 := Try.type23
@[simp] theorem typeInfo23 : type_of% (fun w => (aTypeInfo 23 w).trans (Try.typeInfo23 w)) := fun w => (aTypeInfo 23 w).trans (Try.typeInfo23 w)
@[simp] theorem sizeOf23 : type_of% (fun w => (aSizeOf 23 w).trans (Try.sizeOf23 w)) := fun w => (aSizeOf 23 w).trans (Try.sizeOf23 w)
@[simp] theorem underlying23 : type_of% ((aUnderlying 23).trans Try.underlying23) := (aUnderlying 23).trans Try.underlying23
@[simp] theorem runUnderlying23 : type_of% (fun w => (aRunUnderlying 23 w).trans (Try.runUnderlying23 w)) := fun w => (aRunUnderlying 23 w).trans (Try.runUnderlying23 w)
@[simp] theorem isAgg23 : type_of% (fun w => (aIsAgg 23 w).trans (Try.isAgg23 w)) := fun w => (aIsAgg 23 w).trans (Try.isAgg23 w)
@[simp] theorem eqGuardType23 : type_of% ((aEqg 23).trans Try.eqGuardType23) := (aEqg 23).trans Try.eqGuardType23
@[simp] theorem stoodInHeld23 : type_of% ((aStoodIn 23).trans Try.stoodInHeld23) := (aStoodIn 23).trans Try.stoodInHeld23
@[simp] theorem zeroValue23 : type_of% (fun w => (aZeroValue 23 w).trans (Try.zeroValue23 w)) := fun w => (aZeroValue 23 w).trans (Try.zeroValue23 w)
@[simp] theorem type24 : TryQ.prog.toTables.types[24]? = some Try.t24 := Try.type24
@[simp] theorem typeInfo24 : type_of% (fun w => (aTypeInfo 24 w).trans (Try.typeInfo24 w)) := fun w => (aTypeInfo 24 w).trans (Try.typeInfo24 w)
@[simp] theorem sizeOf24 : type_of% (fun w => (aSizeOf 24 w).trans (Try.sizeOf24 w)) := fun w => (aSizeOf 24 w).trans (Try.sizeOf24 w)
@[simp] theorem underlying24 : type_of% ((aUnderlying 24).trans Try.underlying24) := (aUnderlying 24).trans Try.underlying24
@[simp] theorem runUnderlying24 : type_of% (fun w => (aRunUnderlying 24 w).trans (Try.runUnderlying24 w)) := fun w => (aRunUnderlying 24 w).trans (Try.runUnderlying24 w)
@[simp] theorem isAgg24 : type_of% (fun w => (aIsAgg 24 w).trans (Try.isAgg24 w)) := fun w => (aIsAgg 24 w).trans (Try.isAgg24 w)
@[simp] theorem eqGuardType24 : type_of% ((aEqg 24).trans Try.eqGuardType24) := (aEqg 24).trans Try.eqGuardType24
@[simp] theorem stoodInHeld24 : type_of% ((aStoodIn 24).trans Try.stoodInHeld24) := (aStoodIn 24).trans Try.stoodInHeld24
@[simp] theorem zeroValue24 : type_of% (fun w => (aZeroValue 24 w).trans (Try.zeroValue24 w)) := fun w => (aZeroValue 24 w).trans (Try.zeroValue24 w)
@[simp] theorem type25 : TryQ.prog.toTables.types[25]? = some Try.t25 := Try.type25
@[simp] theorem typeInfo25 : type_of% (fun w => (aTypeInfo 25 w).trans (Try.typeInfo25 w)) := fun w => (aTypeInfo 25 w).trans (Try.typeInfo25 w)
@[simp] theorem sizeOf25 : type_of% (fun w => (aSizeOf 25 w).trans (Try.sizeOf25 w)) := fun w => (aSizeOf 25 w).trans (Try.sizeOf25 w)
@[simp] theorem underlying25 : type_of% ((aUnderlying 25).trans Try.underlying25) := (aUnderlying 25).trans Try.underlying25
@[simp] theorem runUnderlying25 : type_of% (fun w => (aRunUnderlying 25 w).trans (Try.runUnderlying25 w)) := fun w => (aRunUnderlying 25 w).trans (Try.runUnderlying25 w)
@[simp] theorem isAgg25 : type_of% (fun w => (aIsAgg 25 w).trans (Try.isAgg25 w)) := fun w => (aIsAgg 25 w).trans (Try.isAgg25 w)
@[simp] theorem eqGuardType25 : type_of% ((aEqg 25).trans Try.eqGuardType25) := (aEqg 25).trans Try.eqGuardType25
@[simp] theorem stoodInHeld25 : type_of% ((aStoodIn 25).trans Try.stoodInHeld25) := (aStoodIn 25).trans Try.stoodInHeld25
@[simp] theorem zeroValue25 : type_of% (fun w => (aZeroValue 25 w).trans (Try.zeroValue25 w)) := fun w => (aZeroValue 25 w).trans (Try.zeroValue25 w)
@[simp] theorem type26 : TryQ.prog.toTables.types[26]? = some Try.t26 := Try.type26
@[simp] theorem typeInfo26 : type_of% (fun w => (aTypeInfo 26 w).trans (Try.typeInfo26 w)) := fun w => (aTypeInfo 26 w).trans (Try.typeInfo26 w)
@[simp] theorem sizeOf26 : type_of% (fun w => (aSizeOf 26 w).trans (Try.sizeOf26 w)) := fun w => (aSizeOf 26 w).trans (Try.sizeOf26 w)
@[simp] theorem underlying26 : type_of% ((aUnderlying 26).trans Try.underlying26) := (aUnderlying 26).trans Try.underlying26
@[simp] theorem runUnderlying26 : type_of% (fun w => (aRunUnderlying 26 w).trans (Try.runUnderlying26 w)) := fun w => (aRunUnderlying 26 w).trans (Try.runUnderlying26 w)
@[simp] theorem isAgg26 : type_of% (fun w => (aIsAgg 26 w).trans (Try.isAgg26 w)) := fun w => (aIsAgg 26 w).trans (Try.isAgg26 w)
@[simp] theorem zeroValue26 : type_of% (fun w => (aZeroValue 26 w).trans (Try.zeroValue26 w)) := fun w => (aZeroValue 26 w).trans (Try.zeroValue26 w)
@[simp] theorem type27 : TryQ.prog.toTables.types[27]? = some Try.t27 := Try.type27
@[simp] theorem typeInfo27 : type_of% (fun w => (aTypeInfo 27 w).trans (Try.typeInfo27 w)) := fun w => (aTypeInfo 27 w).trans (Try.typeInfo27 w)
@[simp] theorem sizeOf27 : type_of% (fun w => (aSizeOf 27 w).trans (Try.sizeOf27 w)) := fun w => (aSizeOf 27 w).trans (Try.sizeOf27 w)
@[simp] theorem underlying27 : type_of% ((aUnderlying 27).trans Try.underlying27) := (aUnderlying 27).trans Try.underlying27
@[simp] theorem runUnderlying27 : type_of% (fun w => (aRunUnderlying 27 w).trans (Try.runUnderlying27 w)) := fun w => (aRunUnderlying 27 w).trans (Try.runUnderlying27 w)
@[simp] theorem isAgg27 : type_of% (fun w => (aIsAgg 27 w).trans (Try.isAgg27 w)) := fun w => (aIsAgg 27 w).trans (Try.isAgg27 w)
@[simp] theorem zeroValue27 : type_of% (fun w => (aZeroValue 27 w).trans (Try.zeroValue27 w)) := fun w => (aZeroValue 27 w).trans (Try.zeroValue27 w)
@[simp] theorem type28 : TryQ.prog.toTables.types[28]? = some Try.t28 := Try.type28
@[simp] theorem typeInfo28 : type_of% (fun w => (aTypeInfo 28 w).trans (Try.typeInfo28 w)) := fun w => (aTypeInfo 28 w).trans (Try.typeInfo28 w)
@[simp] theorem sizeOf28 : type_of% (fun w => (aSizeOf 28 w).trans (Try.sizeOf28 w)) := fun w => (aSizeOf 28 w).trans (Try.sizeOf28 w)
@[simp] theorem underlying28 : type_of% ((aUnderlying 28).trans Try.underlying28) := (aUnderlying 28).trans Try.underlying28
@[simp] theorem runUnderlying28 : type_of% (fun w => (aRunUnderlying 28 w).trans (Try.runUnderlying28 w)) := fun w => (aRunUnderlying 28 w).trans (Try.runUnderlying28 w)
@[simp] theorem isAgg28 : type_of% (fun w => (aIsAgg 28 w).trans (Try.isAgg28 w)) := fun w => (aIsAgg 28 w).trans (Try.isAgg28 w)
@[simp] theorem zeroValue28 : type_of% (fun w => (aZeroValue 28 w).trans (Try.zeroValue28 w)) := fun w => (aZeroValue 28 w).trans (Try.zeroValue28 w)
@[simp] theorem type29 : TryQ.prog.toTables.types[29]? = some Try.t29 := Try.type29
@[simp] theorem typeInfo29 : type_of% (fun w => (aTypeInfo 29 w).trans (Try.typeInfo29 w)) := fun w => (aTypeInfo 29 w).trans (Try.typeInfo29 w)
@[simp] theorem sizeOf29 : type_of% (fun w => (aSizeOf 29 w).trans (Try.sizeOf29 w)) := fun w => (aSizeOf 29 w).trans (Try.sizeOf29 w)
@[simp] theorem underlying29 : type_of% ((aUnderlying 29).trans Try.underlying29) := (aUnderlying 29).trans Try.underlying29
@[simp] theorem runUnderlying29 : type_of% (fun w => (aRunUnderlying 29 w).trans (Try.runUnderlying29 w)) := fun w => (aRunUnderlying 29 w).trans (Try.runUnderlying29 w)
@[simp] theorem isAgg29 : type_of% (fun w => (aIsAgg 29 w).trans (Try.isAgg29 w)) := fun w => (aIsAgg 29 w).trans (Try.isAgg29 w)
@[simp] theorem zeroValue29 : type_of% (fun w => (aZeroValue 29 w).trans (Try.zeroValue29 w)) := fun w => (aZeroValue 29 w).trans (Try.zeroValue29 w)
@[simp] theorem type30 : TryQ.prog.toTables.types[30]? = some Try.t30 := Try.type30
@[simp] theorem typeInfo30 : type_of% (fun w => (aTypeInfo 30 w).trans (Try.typeInfo30 w)) := fun w => (aTypeInfo 30 w).trans (Try.typeInfo30 w)
@[simp] theorem sizeOf30 : type_of% (fun w => (aSizeOf 30 w).trans (Try.sizeOf30 w)) := fun w => (aSizeOf 30 w).trans (Try.sizeOf30 w)
@[simp] theorem underlying30 : type_of% ((aUnderlying 30).trans Try.underlying30) := (aUnderlying 30).trans Try.underlying30
@[simp] theorem runUnderlying30 : type_of% (fun w => (aRunUnderlying 30 w).trans (Try.runUnderlying30 w)) := fun w => (aRunUnderlying 30 w).trans (Try.runUnderlying30 w)
@[simp] theorem isAgg30 : type_of% (fun w => (aIsAgg 30 w).trans (Try.isAgg30 w)) := fun w => (aIsAgg 30 w).trans (Try.isAgg30 w)
@[simp] theorem zeroValue30 : type_of% (fun w => (aZeroValue 30 w).trans (Try.zeroValue30 w)) := fun w => (aZeroValue 30 w).trans (Try.zeroValue30 w)
@[simp] theorem type31 : TryQ.prog.toTables.types[31]? = some Try.t31 := Try.type31
@[simp] theorem typeInfo31 : type_of% (fun w => (aTypeInfo 31 w).trans (Try.typeInfo31 w)) := fun w => (aTypeInfo 31 w).trans (Try.typeInfo31 w)
@[simp] theorem sizeOf31 : type_of% (fun w => (aSizeOf 31 w).trans (Try.sizeOf31 w)) := fun w => (aSizeOf 31 w).trans (Try.sizeOf31 w)
@[simp] theorem underlying31 : type_of% ((aUnderlying 31).trans Try.underlying31) := (aUnderlying 31).trans Try.underlying31
@[simp] theorem runUnderlying31 : type_of% (fun w => (aRunUnderlying 31 w).trans (Try.runUnderlying31 w)) := fun w => (aRunUnderlying 31 w).trans (Try.runUnderlying31 w)
@[simp] theorem isAgg31 : type_of% (fun w => (aIsAgg 31 w).trans (Try.isAgg31 w)) := fun w => (aIsAgg 31 w).trans (Try.isAgg31 w)
@[simp] theorem zeroValue31 : type_of% (fun w => (aZeroValue 31 w).trans (Try.zeroValue31 w)) := fun w => (aZeroValue 31 w).trans (Try.zeroValue31 w)
@[simp] theorem type32 : TryQ.prog.toTables.types[32]? = some Try.t32 := Try.type32
@[simp] theorem typeInfo32 : type_of% (fun w => (aTypeInfo 32 w).trans (Try.typeInfo32 w)) := fun w => (aTypeInfo 32 w).trans (Try.typeInfo32 w)
@[simp] theorem sizeOf32 : type_of% (fun w => (aSizeOf 32 w).trans (Try.sizeOf32 w)) := fun w => (aSizeOf 32 w).trans (Try.sizeOf32 w)
@[simp] theorem underlying32 : type_of% ((aUnderlying 32).trans Try.underlying32) := (aUnderlying 32).trans Try.underlying32
@[simp] theorem runUnderlying32 : type_of% (fun w => (aRunUnderlying 32 w).trans (Try.runUnderlying32 w)) := fun w => (aRunUnderlying 32 w).trans (Try.runUnderlying32 w)
@[simp] theorem isAgg32 : type_of% (fun w => (aIsAgg 32 w).trans (Try.isAgg32 w)) := fun w => (aIsAgg 32 w).trans (Try.isAgg32 w)
@[simp] theorem zeroValue32 : type_of% (fun w => (aZeroValue 32 w).trans (Try.zeroValue32 w)) := fun w => (aZeroValue 32 w).trans (Try.zeroValue32 w)
@[simp] theorem type33 : TryQ.prog.toTables.types[33]? = some Try.t33 := Try.type33
@[simp] theorem typeInfo33 : type_of% (fun w => (aTypeInfo 33 w).trans (Try.typeInfo33 w)) := fun w => (aTypeInfo 33 w).trans (Try.typeInfo33 w)
@[simp] theorem sizeOf33 : type_of% (fun w => (aSizeOf 33 w).trans (Try.sizeOf33 w)) := fun w => (aSizeOf 33 w).trans (Try.sizeOf33 w)
@[simp] theorem underlying33 : type_of% ((aUnderlying 33).trans Try.underlying33) := (aUnderlying 33).trans Try.underlying33
@[simp] theorem runUnderlying33 : type_of% (fun w => (aRunUnderlying 33 w).trans (Try.runUnderlying33 w)) := fun w => (aRunUnderlying 33 w).trans (Try.runUnderlying33 w)
@[simp] theorem isAgg33 : type_of% (fun w => (aIsAgg 33 w).trans (Try.isAgg33 w)) := fun w => (aIsAgg 33 w).trans (Try.isAgg33 w)
@[simp] theorem zeroValue33 : type_of% (fun w => (aZeroValue 33 w).trans (Try.zeroValue33 w)) := fun w => (aZeroValue 33 w).trans (Try.zeroValue33 w)
@[simp] theorem type34 : TryQ.prog.toTables.types[34]? = some Try.t34 := Try.type34
@[simp] theorem typeInfo34 : type_of% (fun w => (aTypeInfo 34 w).trans (Try.typeInfo34 w)) := fun w => (aTypeInfo 34 w).trans (Try.typeInfo34 w)
@[simp] theorem sizeOf34 : type_of% (fun w => (aSizeOf 34 w).trans (Try.sizeOf34 w)) := fun w => (aSizeOf 34 w).trans (Try.sizeOf34 w)
@[simp] theorem underlying34 : type_of% ((aUnderlying 34).trans Try.underlying34) := (aUnderlying 34).trans Try.underlying34
@[simp] theorem runUnderlying34 : type_of% (fun w => (aRunUnderlying 34 w).trans (Try.runUnderlying34 w)) := fun w => (aRunUnderlying 34 w).trans (Try.runUnderlying34 w)
@[simp] theorem isAgg34 : type_of% (fun w => (aIsAgg 34 w).trans (Try.isAgg34 w)) := fun w => (aIsAgg 34 w).trans (Try.isAgg34 w)
@[simp] theorem zeroValue34 : type_of% (fun w => (aZeroValue 34 w).trans (Try.zeroValue34 w)) := fun w => (aZeroValue 34 w).trans (Try.zeroValue34 w)
@[simp] theorem type35 : TryQ.prog.toTables.types[35]? = some Try.t35 := Try.type35
@[simp] theorem typeInfo35 : type_of% (fun w => (aTypeInfo 35 w).trans (Try.typeInfo35 w)) := fun w => (aTypeInfo 35 w).trans (Try.typeInfo35 w)
@[simp] theorem sizeOf35 : type_of% (fun w => (aSizeOf 35 w).trans (Try.sizeOf35 w)) := fun w => (aSizeOf 35 w).trans (Try.sizeOf35 w)
@[simp] theorem underlying35 : type_of% ((aUnderlying 35).trans Try.underlying35) := (aUnderlying 35).trans Try.underlying35
@[simp] theorem runUnderlying35 : type_of% (fun w => (aRunUnderlying 35 w).trans (Try.runUnderlying35 w)) := fun w => (aRunUnderlying 35 w).trans (Try.runUnderlying35 w)
@[simp] theorem isAgg35 : type_of% (fun w => (aIsAgg 35 w).trans (Try.isAgg35 w)) := fun w => (aIsAgg 35 w).trans (Try.isAgg35 w)
@[simp] theorem zeroValue35 : type_of% (fun w => (aZeroValue 35 w).trans (Try.zeroValue35 w)) := fun w => (aZeroValue 35 w).trans (Try.zeroValue35 w)
@[simp] theorem type36 : TryQ.prog.toTables.types[36]? = some Try.t36 := Try.type36
@[simp] theorem typeInfo36 : type_of% (fun w => (aTypeInfo 36 w).trans (Try.typeInfo36 w)) := fun w => (aTypeInfo 36 w).trans (Try.typeInfo36 w)
@[simp] theorem sizeOf36 : type_of% (fun w => (aSizeOf 36 w).trans (Try.sizeOf36 w)) := fun w => (aSizeOf 36 w).trans (Try.sizeOf36 w)
@[simp] theorem underlying36 : type_of% ((aUnderlying 36).trans Try.underlying36) := (aUnderlying 36).trans Try.underlying36
@[simp] theorem runUnderlying36 : type_of% (fun w => (aRunUnderlying 36 w).trans (Try.runUnderlying36 w)) := fun w => (aRunUnderlying 36 w).trans (Try.runUnderlying36 w)
@[simp] theorem isAgg36 : type_of% (fun w => (aIsAgg 36 w).trans (Try.isAgg36 w)) := fun w => (aIsAgg 36 w).trans (Try.isAgg36 w)
@[simp] theorem zeroValue36 : type_of% (fun w => (aZeroValue 36 w).trans (Try.zeroValue36 w)) := fun w => (aZeroValue 36 w).trans (Try.zeroValue36 w)
@[simp] theorem type37 : TryQ.prog.toTables.types[37]? = some Try.t37 := Try.type37
@[simp] theorem typeInfo37 : type_of% (fun w => (aTypeInfo 37 w).trans (Try.typeInfo37 w)) := fun w => (aTypeInfo 37 w).trans (Try.typeInfo37 w)
@[simp] theorem sizeOf37 : type_of% (fun w => (aSizeOf 37 w).trans (Try.sizeOf37 w)) := fun w => (aSizeOf 37 w).trans (Try.sizeOf37 w)
@[simp] theorem underlying37 : type_of% ((aUnderlying 37).trans Try.underlying37) := (aUnderlying 37).trans Try.underlying37
@[simp] theorem runUnderlying37 : type_of% (fun w => (aRunUnderlying 37 w).trans (Try.runUnderlying37 w)) := fun w => (aRunUnderlying 37 w).trans (Try.runUnderlying37 w)
@[simp] theorem isAgg37 : type_of% (fun w => (aIsAgg 37 w).trans (Try.isAgg37 w)) := fun w => (aIsAgg 37 w).trans (Try.isAgg37 w)
@[simp] theorem zeroValue37 : type_of% (fun w => (aZeroValue 37 w).trans (Try.zeroValue37 w)) := fun w => (aZeroValue 37 w).trans (Try.zeroValue37 w)
@[simp] theorem type38 : TryQ.prog.toTables.types[38]? = some Try.t38 := Try.type38
@[simp] theorem typeInfo38 : type_of% (fun w => (aTypeInfo 38 w).trans (Try.typeInfo38 w)) := fun w => (aTypeInfo 38 w).trans (Try.typeInfo38 w)
@[simp] theorem sizeOf38 : type_of% (fun w => (aSizeOf 38 w).trans (Try.sizeOf38 w)) := fun w => (aSizeOf 38 w).trans (Try.sizeOf38 w)
@[simp] theorem underlying38 : type_of% ((aUnderlying 38).trans Try.underlying38) := (aUnderlying 38).trans Try.underlying38
@[simp] theorem runUnderlying38 : type_of% (fun w => (aRunUnderlying 38 w).trans (Try.runUnderlying38 w)) := fun w => (aRunUnderlying 38 w).trans (Try.runUnderlying38 w)
@[simp] theorem isAgg38 : type_of% (fun w => (aIsAgg 38 w).trans (Try.isAgg38 w)) := fun w => (aIsAgg 38 w).trans (Try.isAgg38 w)
@[simp] theorem zeroValue38 : type_of% (fun w => (aZeroValue 38 w).trans (Try.zeroValue38 w)) := fun w => (aZeroValue 38 w).trans (Try.zeroValue38 w)
@[simp] theorem type39 : TryQ.prog.toTables.types[39]? = some Try.t39 := Try.type39
@[simp] theorem typeInfo39 : type_of% (fun w => (aTypeInfo 39 w).trans (Try.typeInfo39 w)) := fun w => (aTypeInfo 39 w).trans (Try.typeInfo39 w)
@[simp] theorem sizeOf39 : type_of% (fun w => (aSizeOf 39 w).trans (Try.sizeOf39 w)) := fun w => (aSizeOf 39 w).trans (Try.sizeOf39 w)
@[simp] theorem underlying39 : type_of% ((aUnderlying 39).trans Try.underlying39) := (aUnderlying 39).trans Try.underlying39
@[simp] theorem runUnderlying39 : type_of% (fun w => (aRunUnderlying 39 w).trans (Try.runUnderlying39 w)) := fun w => (aRunUnderlying 39 w).trans (Try.runUnderlying39 w)
@[simp] theorem isAgg39 : type_of% (fun w => (aIsAgg 39 w).trans (Try.isAgg39 w)) := fun w => (aIsAgg 39 w).trans (Try.isAgg39 w)
@[simp] theorem zeroValue39 : type_of% (fun w => (aZeroValue 39 w).trans (Try.zeroValue39 w)) := fun w => (aZeroValue 39 w).trans (Try.zeroValue39 w)
@[simp] theorem type40 : TryQ.prog.toTables.types[40]? = some Try.t40 := Try.type40
@[simp] theorem typeInfo40 : type_of% (fun w => (aTypeInfo 40 w).trans (Try.typeInfo40 w)) := fun w => (aTypeInfo 40 w).trans (Try.typeInfo40 w)
@[simp] theorem sizeOf40 : type_of% (fun w => (aSizeOf 40 w).trans (Try.sizeOf40 w)) := fun w => (aSizeOf 40 w).trans (Try.sizeOf40 w)
@[simp] theorem underlying40 : type_of% ((aUnderlying 40).trans Try.underlying40) := (aUnderlying 40).trans Try.underlying40
@[simp] theorem runUnderlying40 : type_of% (fun w => (aRunUnderlying 40 w).trans (Try.runUnderlying40 w)) := fun w => (aRunUnderlying 40 w).trans (Try.runUnderlying40 w)
@[simp] theorem isAgg40 : type_of% (fun w => (aIsAgg 40 w).trans (Try.isAgg40 w)) := fun w => (aIsAgg 40 w).trans (Try.isAgg40 w)
@[simp] theorem zeroValue40 : type_of% (fun w => (aZeroValue 40 w).trans (Try.zeroValue40 w)) := fun w => (aZeroValue 40 w).trans (Try.zeroValue40 w)
@[simp] theorem type41 : TryQ.prog.toTables.types[41]? = some Try.t41 := Try.type41
@[simp] theorem typeInfo41 : type_of% (fun w => (aTypeInfo 41 w).trans (Try.typeInfo41 w)) := fun w => (aTypeInfo 41 w).trans (Try.typeInfo41 w)
@[simp] theorem sizeOf41 : type_of% (fun w => (aSizeOf 41 w).trans (Try.sizeOf41 w)) := fun w => (aSizeOf 41 w).trans (Try.sizeOf41 w)
@[simp] theorem underlying41 : type_of% ((aUnderlying 41).trans Try.underlying41) := (aUnderlying 41).trans Try.underlying41
@[simp] theorem runUnderlying41 : type_of% (fun w => (aRunUnderlying 41 w).trans (Try.runUnderlying41 w)) := fun w => (aRunUnderlying 41 w).trans (Try.runUnderlying41 w)
@[simp] theorem isAgg41 : type_of% (fun w => (aIsAgg 41 w).trans (Try.isAgg41 w)) := fun w => (aIsAgg 41 w).trans (Try.isAgg41 w)
@[simp] theorem zeroValue41 : type_of% (fun w => (aZeroValue 41 w).trans (Try.zeroValue41 w)) := fun w => (aZeroValue 41 w).trans (Try.zeroValue41 w)
@[simp] theorem type42 : TryQ.prog.toTables.types[42]? = some Try.t42 := Try.type42
@[simp] theorem typeInfo42 : type_of% (fun w => (aTypeInfo 42 w).trans (Try.typeInfo42 w)) := fun w => (aTypeInfo 42 w).trans (Try.typeInfo42 w)
@[simp] theorem sizeOf42 : type_of% (fun w => (aSizeOf 42 w).trans (Try.sizeOf42 w)) := fun w => (aSizeOf 42 w).trans (Try.sizeOf42 w)
@[simp] theorem underlying42 : type_of% ((aUnderlying 42).trans Try.underlying42) := (aUnderlying 42).trans Try.underlying42
@[simp] theorem runUnderlying42 : type_of% (fun w => (aRunUnderlying 42 w).trans (Try.runUnderlying42 w)) := fun w => (aRunUnderlying 42 w).trans (Try.runUnderlying42 w)
@[simp] theorem isAgg42 : type_of% (fun w => (aIsAgg 42 w).trans (Try.isAgg42 w)) := fun w => (aIsAgg 42 w).trans (Try.isAgg42 w)
@[simp] theorem eqGuardType42 : type_of% ((aEqg 42).trans Try.eqGuardType42) := (aEqg 42).trans Try.eqGuardType42
@[simp] theorem stoodInHeld42 : type_of% ((aStoodIn 42).trans Try.stoodInHeld42) := (aStoodIn 42).trans Try.stoodInHeld42
@[simp] theorem zeroValue42 : type_of% (fun w => (aZeroValue 42 w).trans (Try.zeroValue42 w)) := fun w => (aZeroValue 42 w).trans (Try.zeroValue42 w)
@[simp] theorem type43 : TryQ.prog.toTables.types[43]? = some Try.t43 := Try.type43
@[simp] theorem typeInfo43 : type_of% (fun w => (aTypeInfo 43 w).trans (Try.typeInfo43 w)) := fun w => (aTypeInfo 43 w).trans (Try.typeInfo43 w)
@[simp] theorem sizeOf43 : type_of% (fun w => (aSizeOf 43 w).trans (Try.sizeOf43 w)) := fun w => (aSizeOf 43 w).trans (Try.sizeOf43 w)
@[simp] theorem underlying43 : type_of% ((aUnderlying 43).trans Try.underlying43) := (aUnderlying 43).trans Try.underlying43
@[simp] theorem runUnderlying43 : type_of% (fun w => (aRunUnderlying 43 w).trans (Try.runUnderlying43 w)) := fun w => (aRunUnderlying 43 w).trans (Try.runUnderlying43 w)
@[simp] theorem isAgg43 : type_of% (fun w => (aIsAgg 43 w).trans (Try.isAgg43 w)) := fun w => (aIsAgg 43 w).trans (Try.isAgg43 w)
@[simp] theorem eqGuardType43 : type_of% ((aEqg 43).trans Try.eqGuardType43) := (aEqg 43).trans Try.eqGuardType43
@[simp] theorem stoodInHeld43 : type_of% ((aStoodIn 43).trans Try.stoodInHeld43) := (aStoodIn 43).trans Try.stoodInHeld43
@[simp] theorem zeroValue43 : type_of% (fun w => (aZeroValue 43 w).trans (Try.zeroValue43 w)) := fun w => (aZeroValue 43 w).trans (Try.zeroValue43 w)
@[simp] theorem type44 : TryQ.prog.toTables.types[44]? = some Try.t44 := Try.type44
@[simp] theorem typeInfo44 : type_of% (fun w => (aTypeInfo 44 w).trans (Try.typeInfo44 w)) := fun w => (aTypeInfo 44 w).trans (Try.typeInfo44 w)
@[simp] theorem sizeOf44 : type_of% (fun w => (aSizeOf 44 w).trans (Try.sizeOf44 w)) := fun w => (aSizeOf 44 w).trans (Try.sizeOf44 w)
@[simp] theorem underlying44 : type_of% ((aUnderlying 44).trans Try.underlying44) := (aUnderlying 44).trans Try.underlying44
@[simp] theorem runUnderlying44 : type_of% (fun w => (aRunUnderlying 44 w).trans (Try.runUnderlying44 w)) := fun w => (aRunUnderlying 44 w).trans (Try.runUnderlying44 w)
@[simp] theorem isAgg44 : type_of% (fun w => (aIsAgg 44 w).trans (Try.isAgg44 w)) := fun w => (aIsAgg 44 w).trans (Try.isAgg44 w)
@[simp] theorem zeroValue44 : type_of% (fun w => (aZeroValue 44 w).trans (Try.zeroValue44 w)) := fun w => (aZeroValue 44 w).trans (Try.zeroValue44 w)
@[simp] theorem type45 : TryQ.prog.toTables.types[45]? = some Try.t45 := Try.type45
@[simp] theorem typeInfo45 : type_of% (fun w => (aTypeInfo 45 w).trans (Try.typeInfo45 w)) := fun w => (aTypeInfo 45 w).trans (Try.typeInfo45 w)
@[simp] theorem sizeOf45 : type_of% (fun w => (aSizeOf 45 w).trans (Try.sizeOf45 w)) := fun w => (aSizeOf 45 w).trans (Try.sizeOf45 w)
@[simp] theorem underlying45 : type_of% ((aUnderlying 45).trans Try.underlying45) := (aUnderlying 45).trans Try.underlying45
@[simp] theorem runUnderlying45 : type_of% (fun w => (aRunUnderlying 45 w).trans (Try.runUnderlying45 w)) := fun w => (aRunUnderlying 45 w).trans (Try.runUnderlying45 w)
@[simp] theorem isAgg45 : type_of% (fun w => (aIsAgg 45 w).trans (Try.isAgg45 w)) := fun w => (aIsAgg 45 w).trans (Try.isAgg45 w)
@[simp] theorem zeroValue45 : type_of% (fun w => (aZeroValue 45 w).trans (Try.zeroValue45 w)) := fun w => (aZeroValue 45 w).trans (Try.zeroValue45 w)
@[simp] theorem type46 : TryQ.prog.toTables.types[46]? = some Try.t46 := Try.type46
@[simp] theorem typeInfo46 : type_of% (fun w => (aTypeInfo 46 w).trans (Try.typeInfo46 w)) := fun w => (aTypeInfo 46 w).trans (Try.typeInfo46 w)
@[simp] theorem sizeOf46 : type_of% (fun w => (aSizeOf 46 w).trans (Try.sizeOf46 w)) := fun w => (aSizeOf 46 w).trans (Try.sizeOf46 w)
@[simp] theorem underlying46 : type_of% ((aUnderlying 46).trans Try.underlying46) := (aUnderlying 46).trans Try.underlying46
@[simp] theorem runUnderlying46 : type_of% (fun w => (aRunUnderlying 46 w).trans (Try.runUnderlying46 w)) := fun w => (aRunUnderlying 46 w).trans (Try.runUnderlying46 w)
@[simp] theorem isAgg46 : type_of% (fun w => (aIsAgg 46 w).trans (Try.isAgg46 w)) := fun w => (aIsAgg 46 w).trans (Try.isAgg46 w)
@[simp] theorem zeroValue46 : type_of% (fun w => (aZeroValue 46 w).trans (Try.zeroValue46 w)) := fun w => (aZeroValue 46 w).trans (Try.zeroValue46 w)
@[simp] theorem type47 : TryQ.prog.toTables.types[47]? = some Try.t47 := Try.type47
@[simp] theorem typeInfo47 : type_of% (fun w => (aTypeInfo 47 w).trans (Try.typeInfo47 w)) := fun w => (aTypeInfo 47 w).trans (Try.typeInfo47 w)
@[simp] theorem sizeOf47 : type_of% (fun w => (aSizeOf 47 w).trans (Try.sizeOf47 w)) := fun w => (aSizeOf 47 w).trans (Try.sizeOf47 w)
@[simp] theorem underlying47 : type_of% ((aUnderlying 47).trans Try.underlying47) := (aUnderlying 47).trans Try.underlying47
@[simp] theorem runUnderlying47 : type_of% (fun w => (aRunUnderlying 47 w).trans (Try.runUnderlying47 w)) := fun w => (aRunUnderlying 47 w).trans (Try.runUnderlying47 w)
@[simp] theorem isAgg47 : type_of% (fun w => (aIsAgg 47 w).trans (Try.isAgg47 w)) := fun w => (aIsAgg 47 w).trans (Try.isAgg47 w)
@[simp] theorem zeroValue47 : type_of% (fun w => (aZeroValue 47 w).trans (Try.zeroValue47 w)) := fun w => (aZeroValue 47 w).trans (Try.zeroValue47 w)
@[simp] theorem type48 : TryQ.prog.toTables.types[48]? = some Try.t48 := Try.type48
@[simp] theorem typeInfo48 : type_of% (fun w => (aTypeInfo 48 w).trans (Try.typeInfo48 w)) := fun w => (aTypeInfo 48 w).trans (Try.typeInfo48 w)
@[simp] theorem sizeOf48 : type_of% (fun w => (aSizeOf 48 w).trans (Try.sizeOf48 w)) := fun w => (aSizeOf 48 w).trans (Try.sizeOf48 w)
@[simp] theorem underlying48 : type_of% ((aUnderlying 48).trans Try.underlying48) := (aUnderlying 48).trans Try.underlying48
@[simp] theorem runUnderlying48 : type_of% (fun w => (aRunUnderlying 48 w).trans (Try.runUnderlying48 w)) := fun w => (aRunUnderlying 48 w).trans (Try.runUnderlying48 w)
@[simp] theorem isAgg48 : type_of% (fun w => (aIsAgg 48 w).trans (Try.isAgg48 w)) := fun w => (aIsAgg 48 w).trans (Try.isAgg48 w)
@[simp] theorem zeroValue48 : type_of% (fun w => (aZeroValue 48 w).trans (Try.zeroValue48 w)) := fun w => (aZeroValue 48 w).trans (Try.zeroValue48 w)
@[simp] theorem type49 : TryQ.prog.toTables.types[49]? = some Try.t49 := Try.type49
@[simp] theorem typeInfo49 : type_of% (fun w => (aTypeInfo 49 w).trans (Try.typeInfo49 w)) := fun w => (aTypeInfo 49 w).trans (Try.typeInfo49 w)
@[simp] theorem sizeOf49 : type_of% (fun w => (aSizeOf 49 w).trans (Try.sizeOf49 w)) := fun w => (aSizeOf 49 w).trans (Try.sizeOf49 w)
@[simp] theorem underlying49 : type_of% ((aUnderlying 49).trans Try.underlying49) := (aUnderlying 49).trans Try.underlying49
@[simp] theorem runUnderlying49 : type_of% (fun w => (aRunUnderlying 49 w).trans (Try.runUnderlying49 w)) := fun w => (aRunUnderlying 49 w).trans (Try.runUnderlying49 w)
@[simp] theorem isAgg49 : type_of% (fun w => (aIsAgg 49 w).trans (Try.isAgg49 w)) := fun w => (aIsAgg 49 w).trans (Try.isAgg49 w)
@[simp] theorem eqGuardType49 : type_of% ((aEqg 49).trans Try.eqGuardType49) := (aEqg 49).trans Try.eqGuardType49
@[simp] theorem stoodInHeld49 : type_of% ((aStoodIn 49).trans Try.stoodInHeld49) := (aStoodIn 49).trans Try.stoodInHeld49
@[simp] theorem zeroValue49 : type_of% (fun w => (aZeroValue 49 w).trans (Try.zeroValue49 w)) := fun w => (aZeroValue 49 w).trans (Try.zeroValue49 w)
@[simp] theorem type50 : TryQ.prog.toTables.types[50]? = some Try.t50 := Try.type50
@[simp] theorem typeInfo50 : type_of% (fun w => (aTypeInfo 50 w).trans (Try.typeInfo50 w)) := fun w => (aTypeInfo 50 w).trans (Try.typeInfo50 w)
@[simp] theorem sizeOf50 : type_of% (fun w => (aSizeOf 50 w).trans (Try.sizeOf50 w)) := fun w => (aSizeOf 50 w).trans (Try.sizeOf50 w)
@[simp] theorem underlying50 : type_of% ((aUnderlying 50).trans Try.underlying50) := (aUnderlying 50).trans Try.underlying50
@[simp] theorem runUnderlying50 : type_of% (fun w => (aRunUnderlying 50 w).trans (Try.runUnderlying50 w)) := fun w => (aRunUnderlying 50 w).trans (Try.runUnderlying50 w)
@[simp] theorem isAgg50 : type_of% (fun w => (aIsAgg 50 w).trans (Try.isAgg50 w)) := fun w => (aIsAgg 50 w).trans (Try.isAgg50 w)
@[simp] theorem eqGuardType50 : type_of% ((aEqg 50).trans Try.eqGuardType50) := (aEqg 50).trans Try.eqGuardType50
@[simp] theorem stoodInHeld50 : type_of% ((aStoodIn 50).trans Try.stoodInHeld50) := (aStoodIn 50).trans Try.stoodInHeld50
@[simp] theorem zeroValue50 : type_of% (fun w => (aZeroValue 50 w).trans (Try.zeroValue50 w)) := fun w => (aZeroValue 50 w).trans (Try.zeroValue50 w)
@[simp] theorem type51 : TryQ.prog.toTables.types[51]? = some Try.t51 := Try.type51
@[simp] theorem typeInfo51 : type_of% (fun w => (aTypeInfo 51 w).trans (Try.typeInfo51 w)) := fun w => (aTypeInfo 51 w).trans (Try.typeInfo51 w)
@[simp] theorem sizeOf51 : type_of% (fun w => (aSizeOf 51 w).trans (Try.sizeOf51 w)) := fun w => (aSizeOf 51 w).trans (Try.sizeOf51 w)
@[simp] theorem underlying51 : type_of% ((aUnderlying 51).trans Try.underlying51) := (aUnderlying 51).trans Try.underlying51
@[simp] theorem runUnderlying51 : type_of% (fun w => (aRunUnderlying 51 w).trans (Try.runUnderlying51 w)) := fun w => (aRunUnderlying 51 w).trans (Try.runUnderlying51 w)
@[simp] theorem isAgg51 : type_of% (fun w => (aIsAgg 51 w).trans (Try.isAgg51 w)) := fun w => (aIsAgg 51 w).trans (Try.isAgg51 w)
@[simp] theorem eqGuardType51 : type_of% ((aEqg 51).trans Try.eqGuardType51) := (aEqg 51).trans Try.eqGuardType51
@[simp] theorem stoodInHeld51 : type_of% ((aStoodIn 51).trans Try.stoodInHeld51) := (aStoodIn 51).trans Try.stoodInHeld51
@[simp] theorem zeroValue51 : type_of% (fun w => (aZeroValue 51 w).trans (Try.zeroValue51 w)) := fun w => (aZeroValue 51 w).trans (Try.zeroValue51 w)
@[simp] theorem type52 : TryQ.prog.toTables.types[52]? = some Try.t52 := Try.type52
@[simp] theorem typeInfo52 : type_of% (fun w => (aTypeInfo 52 w).trans (Try.typeInfo52 w)) := fun w => (aTypeInfo 52 w).trans (Try.typeInfo52 w)
@[simp] theorem sizeOf52 : type_of% (fun w => (aSizeOf 52 w).trans (Try.sizeOf52 w)) := fun w => (aSizeOf 52 w).trans (Try.sizeOf52 w)
@[simp] theorem underlying52 : type_of% ((aUnderlying 52).trans Try.underlying52) := (aUnderlying 52).trans Try.underlying52
@[simp] theorem runUnderlying52 : type_of% (fun w => (aRunUnderlying 52 w).trans (Try.runUnderlying52 w)) := fun w => (aRunUnderlying 52 w).trans (Try.runUnderlying52 w)
@[simp] theorem isAgg52 : type_of% (fun w => (aIsAgg 52 w).trans (Try.isAgg52 w)) := fun w => (aIsAgg 52 w).trans (Try.isAgg52 w)
@[simp] theorem eqGuardType52 : type_of% ((aEqg 52).trans Try.eqGuardType52) := (aEqg 52).trans Try.eqGuardType52
@[simp] theorem stoodInHeld52 : type_of% ((aStoodIn 52).trans Try.stoodInHeld52) := (aStoodIn 52).trans Try.stoodInHeld52
@[simp] theorem zeroValue52 : type_of% (fun w => (aZeroValue 52 w).trans (Try.zeroValue52 w)) := fun w => (aZeroValue 52 w).trans (Try.zeroValue52 w)
@[simp] theorem type53 : TryQ.prog.toTables.types[53]? = some Try.t53 := Try.type53
@[simp] theorem typeInfo53 : type_of% (fun w => (aTypeInfo 53 w).trans (Try.typeInfo53 w)) := fun w => (aTypeInfo 53 w).trans (Try.typeInfo53 w)
@[simp] theorem sizeOf53 : type_of% (fun w => (aSizeOf 53 w).trans (Try.sizeOf53 w)) := fun w => (aSizeOf 53 w).trans (Try.sizeOf53 w)
@[simp] theorem underlying53 : type_of% ((aUnderlying 53).trans Try.underlying53) := (aUnderlying 53).trans Try.underlying53
@[simp] theorem runUnderlying53 : type_of% (fun w => (aRunUnderlying 53 w).trans (Try.runUnderlying53 w)) := fun w => (aRunUnderlying 53 w).trans (Try.runUnderlying53 w)
@[simp] theorem isAgg53 : type_of% (fun w => (aIsAgg 53 w).trans (Try.isAgg53 w)) := fun w => (aIsAgg 53 w).trans (Try.isAgg53 w)
@[simp] theorem eqGuardType53 : type_of% ((aEqg 53).trans Try.eqGuardType53) := (aEqg 53).trans Try.eqGuardType53
@[simp] theorem stoodInHeld53 : type_of% ((aStoodIn 53).trans Try.stoodInHeld53) := (aStoodIn 53).trans Try.stoodInHeld53
@[simp] theorem zeroValue53 : type_of% (fun w => (aZeroValue 53 w).trans (Try.zeroValue53 w)) := fun w => (aZeroValue 53 w).trans (Try.zeroValue53 w)
@[simp] theorem type54 : TryQ.prog.toTables.types[54]? = some Try.t54 := Try.type54
@[simp] theorem typeInfo54 : type_of% (fun w => (aTypeInfo 54 w).trans (Try.typeInfo54 w)) := fun w => (aTypeInfo 54 w).trans (Try.typeInfo54 w)
@[simp] theorem sizeOf54 : type_of% (fun w => (aSizeOf 54 w).trans (Try.sizeOf54 w)) := fun w => (aSizeOf 54 w).trans (Try.sizeOf54 w)
@[simp] theorem underlying54 : type_of% ((aUnderlying 54).trans Try.underlying54) := (aUnderlying 54).trans Try.underlying54
@[simp] theorem runUnderlying54 : type_of% (fun w => (aRunUnderlying 54 w).trans (Try.runUnderlying54 w)) := fun w => (aRunUnderlying 54 w).trans (Try.runUnderlying54 w)
@[simp] theorem isAgg54 : type_of% (fun w => (aIsAgg 54 w).trans (Try.isAgg54 w)) := fun w => (aIsAgg 54 w).trans (Try.isAgg54 w)
@[simp] theorem eqGuardType54 : type_of% ((aEqg 54).trans Try.eqGuardType54) := (aEqg 54).trans Try.eqGuardType54
@[simp] theorem stoodInHeld54 : type_of% ((aStoodIn 54).trans Try.stoodInHeld54) := (aStoodIn 54).trans Try.stoodInHeld54
@[simp] theorem zeroValue54 : type_of% (fun w => (aZeroValue 54 w).trans (Try.zeroValue54 w)) := fun w => (aZeroValue 54 w).trans (Try.zeroValue54 w)
@[simp] theorem type55 : TryQ.prog.toTables.types[55]? = some Try.t55 := Try.type55
@[simp] theorem typeInfo55 : type_of% (fun w => (aTypeInfo 55 w).trans (Try.typeInfo55 w)) := fun w => (aTypeInfo 55 w).trans (Try.typeInfo55 w)
@[simp] theorem sizeOf55 : type_of% (fun w => (aSizeOf 55 w).trans (Try.sizeOf55 w)) := fun w => (aSizeOf 55 w).trans (Try.sizeOf55 w)
@[simp] theorem underlying55 : type_of% ((aUnderlying 55).trans Try.underlying55) := (aUnderlying 55).trans Try.underlying55
@[simp] theorem runUnderlying55 : type_of% (fun w => (aRunUnderlying 55 w).trans (Try.runUnderlying55 w)) := fun w => (aRunUnderlying 55 w).trans (Try.runUnderlying55 w)
@[simp] theorem isAgg55 : type_of% (fun w => (aIsAgg 55 w).trans (Try.isAgg55 w)) := fun w => (aIsAgg 55 w).trans (Try.isAgg55 w)
@[simp] theorem zeroValue55 : type_of% (fun w => (aZeroValue 55 w).trans (Try.zeroValue55 w)) := fun w => (aZeroValue 55 w).trans (Try.zeroValue55 w)
@[simp] theorem type56 : TryQ.prog.toTables.types[56]? = some Try.t56 := Try.type56
@[simp] theorem typeInfo56 : type_of% (fun w => (aTypeInfo 56 w).trans (Try.typeInfo56 w)) := fun w => (aTypeInfo 56 w).trans (Try.typeInfo56 w)
@[simp] theorem sizeOf56 : type_of% (fun w => (aSizeOf 56 w).trans (Try.sizeOf56 w)) := fun w => (aSizeOf 56 w).trans (Try.sizeOf56 w)
@[simp] theorem underlying56 : type_of% ((aUnderlying 56).trans Try.underlying56) := (aUnderlying 56).trans Try.underlying56
@[simp] theorem runUnderlying56 : type_of% (fun w => (aRunUnderlying 56 w).trans (Try.runUnderlying56 w)) := fun w => (aRunUnderlying 56 w).trans (Try.runUnderlying56 w)
@[simp] theorem isAgg56 : type_of% (fun w => (aIsAgg 56 w).trans (Try.isAgg56 w)) := fun w => (aIsAgg 56 w).trans (Try.isAgg56 w)
@[simp] theorem eqGuardType56 : type_of% ((aEqg 56).trans Try.eqGuardType56) := (aEqg 56).trans Try.eqGuardType56
@[simp] theorem stoodInHeld56 : type_of% ((aStoodIn 56).trans Try.stoodInHeld56) := (aStoodIn 56).trans Try.stoodInHeld56
@[simp] theorem zeroValue56 : type_of% (fun w => (aZeroValue 56 w).trans (Try.zeroValue56 w)) := fun w => (aZeroValue 56 w).trans (Try.zeroValue56 w)
@[simp] theorem type57 : TryQ.prog.toTables.types[57]? = some Try.t57 := Try.type57
@[simp] theorem typeInfo57 : type_of% (fun w => (aTypeInfo 57 w).trans (Try.typeInfo57 w)) := fun w => (aTypeInfo 57 w).trans (Try.typeInfo57 w)
@[simp] theorem sizeOf57 : type_of% (fun w => (aSizeOf 57 w).trans (Try.sizeOf57 w)) := fun w => (aSizeOf 57 w).trans (Try.sizeOf57 w)
@[simp] theorem underlying57 : type_of% ((aUnderlying 57).trans Try.underlying57) := (aUnderlying 57).trans Try.underlying57
@[simp] theorem runUnderlying57 : type_of% (fun w => (aRunUnderlying 57 w).trans (Try.runUnderlying57 w)) := fun w => (aRunUnderlying 57 w).trans (Try.runUnderlying57 w)
@[simp] theorem isAgg57 : type_of% (fun w => (aIsAgg 57 w).trans (Try.isAgg57 w)) := fun w => (aIsAgg 57 w).trans (Try.isAgg57 w)
@[simp] theorem eqGuardType57 : type_of% ((aEqg 57).trans Try.eqGuardType57) := (aEqg 57).trans Try.eqGuardType57
@[simp] theorem stoodInHeld57 : type_of% ((aStoodIn 57).trans Try.stoodInHeld57) := (aStoodIn 57).trans Try.stoodInHeld57
@[simp] theorem zeroValue57 : type_of% (fun w => (aZeroValue 57 w).trans (Try.zeroValue57 w)) := fun w => (aZeroValue 57 w).trans (Try.zeroValue57 w)
@[simp] theorem type58 : TryQ.prog.toTables.types[58]? = some Try.t58 := Try.type58
@[simp] theorem typeInfo58 : type_of% (fun w => (aTypeInfo 58 w).trans (Try.typeInfo58 w)) := fun w => (aTypeInfo 58 w).trans (Try.typeInfo58 w)
@[simp] theorem sizeOf58 : type_of% (fun w => (aSizeOf 58 w).trans (Try.sizeOf58 w)) := fun w => (aSizeOf 58 w).trans (Try.sizeOf58 w)
@[simp] theorem underlying58 : type_of% ((aUnderlying 58).trans Try.underlying58) := (aUnderlying 58).trans Try.underlying58
@[simp] theorem runUnderlying58 : type_of% (fun w => (aRunUnderlying 58 w).trans (Try.runUnderlying58 w)) := fun w => (aRunUnderlying 58 w).trans (Try.runUnderlying58 w)
@[simp] theorem isAgg58 : type_of% (fun w => (aIsAgg 58 w).trans (Try.isAgg58 w)) := fun w => (aIsAgg 58 w).trans (Try.isAgg58 w)
end TryQ
end Go.Proofs
