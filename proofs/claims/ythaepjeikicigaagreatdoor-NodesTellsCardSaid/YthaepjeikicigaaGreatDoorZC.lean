/- Texts of this proof, merged. -/
import Derived.Shelf.Strings.Builder1
import Derived.Shelf.Strings.Builder2
import Derived.Shelf.Small.Strs
import Derived.Shelf.Strconv.Itoa0
import Derived.Shelf.Strconv.Itoa1
import Derived.Shelf.LaysM
import Derived.Shelf.Strconv.Itoa2
import Derived.Shelf.Strconv.Itoa3
import Derived.Test.YthaepjeikicigaaGreatDoorProg
import Derived.Test.YthaepjeikicigaaGreatDoorZA
import Derived.Lib.AppendIntMem
import Derived.Laws.AppendOwnNone
/- The library contracts that these proofs use, laid by the kit's own command in plain words. -/
namespace Go.Proofs
open Go.Shelf
def Tryz.lays106_ren : Go.Shelf.Ren := ⟨fun | 106 => 66 | 213 => 75 | 265 => 83 | n => n, fun | 9 => 9 | 3 => 3 | n => n, fun | n => n⟩
theorem Tryz.lays106 : Go.Proofs.Lays.n106 Tryz.prog Tryz.lays106_ren := {
  mixed := by kernel_rfl
  f106 := Tryz.func66.trans (congrArg some (by kernel_rfl))
  f213 := Tryz.func75.trans (congrArg some (by kernel_rfl))
  f265 := Tryz.func83.trans (congrArg some (by kernel_rfl))
  t3 := Tryz.underlying3
  a3 := Tryz.isAgg3
  z3 := Tryz.sizeOf3
  v3 := Tryz.zeroValue3
  t9 := Tryz.underlying9
  a9 := Tryz.isAgg9
  z9 := Tryz.sizeOf9
  v9 := Tryz.zeroValue9 }
open Go.RowKit in
theorem Tryz.strings_Compare (a b : ByteArray) (w : World) :
    Calls Tryz.prog 66 #[.string a, .string b] w fun e w' => e = .returned (.int .i64 (Lib.compareBytes a.data.toList b.data.toList)) ∧ w' = w := Any.strings_Compare Tryz.lays106 a b w
def Tryz.laysM243_ren : Go.Shelf.Ren := ⟨fun | 243 => 84 | 246 => 88 | 283 => 91 | 284 => 92 | 285 => 93 | 286 => 94 | 129 => 96 | 317 => 95 | 318 => 97 | 319 => 98 | 320 => 99 | 337 => 100 | 338 => 101 | n => n, fun | 3 => 3 | 9 => 9 | 2 => 2 | 4 => 4 | 171 => 112 | 0 => 0 | 53 => 113 | 37 => 91 | 5 => 5 | 173 => 116 | 212 => 120 | 51 => 121 | 20 => 20 | 213 => 122 | 46 => 94 | 232 => 126 | 233 => 127 | n => n, fun | 17 => 1 | 18 => 2 | 19 => 3 | n => n⟩
theorem Tryz.laysM243 : Go.Proofs.LaysM.n243 Tryz.prog Tryz.laysM243_ren := {
  mixed := by kernel_rfl
  f129 := Tryz.func96.trans (congrArg some (by kernel_rfl))
  f243 := Tryz.func84.trans (congrArg some (by kernel_rfl))
  f246 := Tryz.func88.trans (congrArg some (by kernel_rfl))
  f283 := Tryz.func91.trans (congrArg some (by kernel_rfl))
  f284 := Tryz.func92.trans (congrArg some (by kernel_rfl))
  f285 := Tryz.func93.trans (congrArg some (by kernel_rfl))
  f286 := Tryz.func94.trans (congrArg some (by kernel_rfl))
  f317 := Tryz.func95.trans (congrArg some (by kernel_rfl))
  f318 := Tryz.func97.trans (congrArg some (by kernel_rfl))
  f319 := Tryz.func98.trans (congrArg some (by kernel_rfl))
  f320 := Tryz.func99.trans (congrArg some (by kernel_rfl))
  f337 := Tryz.func100.trans (congrArg some (by kernel_rfl))
  f338 := Tryz.func101.trans (congrArg some (by kernel_rfl))
  t0 := Tryz.underlying0
  a0 := Tryz.isAgg0
  z0 := Tryz.sizeOf0
  v0 := Tryz.zeroValue0
  t2 := Tryz.underlying2
  a2 := Tryz.isAgg2
  z2 := Tryz.sizeOf2
  v2 := Tryz.zeroValue2
  t3 := Tryz.underlying3
  a3 := Tryz.isAgg3
  z3 := Tryz.sizeOf3
  v3 := Tryz.zeroValue3
  t4 := Tryz.underlying4
  a4 := Tryz.isAgg4
  z4 := Tryz.sizeOf4
  v4 := Tryz.zeroValue4
  t5 := Tryz.underlying5
  a5 := Tryz.isAgg5
  z5 := Tryz.sizeOf5
  v5 := Tryz.zeroValue5
  t9 := Tryz.underlying9
  a9 := Tryz.isAgg9
  z9 := Tryz.sizeOf9
  v9 := Tryz.zeroValue9
  t20 := Tryz.underlying20
  a20 := Tryz.isAgg20
  z20 := Tryz.sizeOf20
  v20 := Tryz.zeroValue20
  t37 := Tryz.underlying91
  a37 := Tryz.isAgg91
  z37 := Tryz.sizeOf91
  v37 := Tryz.zeroValue91
  t46 := Tryz.underlying94
  a46 := Tryz.isAgg94
  z46 := Tryz.sizeOf94
  v46 := Tryz.zeroValue94
  t51 := Tryz.underlying121
  a51 := Tryz.isAgg121
  z51 := Tryz.sizeOf121
  v51 := Tryz.zeroValue121
  t53 := Tryz.underlying113
  a53 := Tryz.isAgg113
  z53 := Tryz.sizeOf113
  v53 := Tryz.zeroValue113
  t171 := Tryz.underlying112
  a171 := Tryz.isAgg112
  z171 := Tryz.sizeOf112
  v171 := Tryz.zeroValue112
  t173 := Tryz.underlying116
  a173 := Tryz.isAgg116
  z173 := Tryz.sizeOf116
  v173 := Tryz.zeroValue116
  t212 := Tryz.underlying120
  a212 := Tryz.isAgg120
  z212 := Tryz.sizeOf120
  v212 := Tryz.zeroValue120
  t213 := Tryz.underlying122
  a213 := Tryz.isAgg122
  z213 := Tryz.sizeOf122
  t232 := Tryz.underlying126
  a232 := Tryz.isAgg126
  z232 := Tryz.sizeOf126
  v232 := Tryz.zeroValue126
  t233 := Tryz.underlying127
  a233 := Tryz.isAgg127
  z233 := Tryz.sizeOf127
  v233 := Tryz.zeroValue127
  g17 := by kernel_rfl
  g18 := by kernel_rfl
  g19 := by kernel_rfl
  i0 := by kernel_rfl
  i2 := by kernel_rfl
  i3 := by kernel_rfl
  i4 := by kernel_rfl
  i5 := by kernel_rfl
  i9 := by kernel_rfl
  i20 := by kernel_rfl
  i37 := by kernel_rfl
  i46 := by kernel_rfl
  i51 := by kernel_rfl
  i53 := by kernel_rfl
  i171 := by kernel_rfl
  i173 := by kernel_rfl
  i212 := by kernel_rfl
  i232 := by kernel_rfl
  i233 := by kernel_rfl
  m17 := by kernel_rfl
  m18 := by kernel_rfl
  m19 := by kernel_rfl }
open Go.RowKit Go.Sort Go.Lib in
theorem Tryz.internal_strconv_Itoa (n : Int) (h0 : -9223372036854775808 ≤ n) (h1 : n ≤ 9223372036854775807) (w : World) (htab : Lib.TabIs Tryz.prog w "internal/strconv.uint64pow10" .u64 Lib.pow10Tab) :
    Calls Tryz.prog 84 #[.int .i64 n] w fun e w' => e = .returned (.string ⟨(Lib.itoa n).toArray⟩) ∧ ∃ k os, w' = grow (w.drewN k) os := Any.internal_strconv_Itoa Tryz.laysM243 n h0 h1 w htab
def Tryz.lays243_ren : Go.Shelf.Ren := ⟨fun | 243 => 84 | 246 => 88 | 283 => 91 | 284 => 92 | 285 => 93 | 286 => 94 | 129 => 96 | 317 => 95 | 318 => 97 | 319 => 98 | 320 => 99 | 337 => 100 | 338 => 101 | n => n, fun | 3 => 3 | 9 => 9 | 2 => 2 | 4 => 4 | 171 => 112 | 0 => 0 | 53 => 113 | 37 => 91 | 5 => 5 | 173 => 116 | 212 => 120 | 51 => 121 | 20 => 20 | 213 => 122 | 46 => 94 | 232 => 126 | 233 => 127 | n => n, fun | 17 => 1 | 18 => 2 | 19 => 3 | n => n⟩
theorem Tryz.lays243 : Go.Proofs.Lays.n243 Tryz.prog Tryz.lays243_ren := {
  mixed := by kernel_rfl
  f129 := Tryz.func96.trans (congrArg some (by kernel_rfl))
  f243 := Tryz.func84.trans (congrArg some (by kernel_rfl))
  f246 := Tryz.func88.trans (congrArg some (by kernel_rfl))
  f283 := Tryz.func91.trans (congrArg some (by kernel_rfl))
  f284 := Tryz.func92.trans (congrArg some (by kernel_rfl))
  f285 := Tryz.func93.trans (congrArg some (by kernel_rfl))
  f286 := Tryz.func94.trans (congrArg some (by kernel_rfl))
  f317 := Tryz.func95.trans (congrArg some (by kernel_rfl))
  f318 := Tryz.func97.trans (congrArg some (by kernel_rfl))
  f319 := Tryz.func98.trans (congrArg some (by kernel_rfl))
  f320 := Tryz.func99.trans (congrArg some (by kernel_rfl))
  f337 := Tryz.func100.trans (congrArg some (by kernel_rfl))
  f338 := Tryz.func101.trans (congrArg some (by kernel_rfl))
  t0 := Tryz.underlying0
  a0 := Tryz.isAgg0
  z0 := Tryz.sizeOf0
  v0 := Tryz.zeroValue0
  t2 := Tryz.underlying2
  a2 := Tryz.isAgg2
  z2 := Tryz.sizeOf2
  v2 := Tryz.zeroValue2
  t3 := Tryz.underlying3
  a3 := Tryz.isAgg3
  z3 := Tryz.sizeOf3
  v3 := Tryz.zeroValue3
  t4 := Tryz.underlying4
  a4 := Tryz.isAgg4
  z4 := Tryz.sizeOf4
  v4 := Tryz.zeroValue4
  t5 := Tryz.underlying5
  a5 := Tryz.isAgg5
  z5 := Tryz.sizeOf5
  v5 := Tryz.zeroValue5
  t9 := Tryz.underlying9
  a9 := Tryz.isAgg9
  z9 := Tryz.sizeOf9
  v9 := Tryz.zeroValue9
  t20 := Tryz.underlying20
  a20 := Tryz.isAgg20
  z20 := Tryz.sizeOf20
  v20 := Tryz.zeroValue20
  t37 := Tryz.underlying91
  a37 := Tryz.isAgg91
  z37 := Tryz.sizeOf91
  v37 := Tryz.zeroValue91
  t46 := Tryz.underlying94
  a46 := Tryz.isAgg94
  z46 := Tryz.sizeOf94
  v46 := Tryz.zeroValue94
  t51 := Tryz.underlying121
  a51 := Tryz.isAgg121
  z51 := Tryz.sizeOf121
  v51 := Tryz.zeroValue121
  t53 := Tryz.underlying113
  a53 := Tryz.isAgg113
  z53 := Tryz.sizeOf113
  v53 := Tryz.zeroValue113
  t171 := Tryz.underlying112
  a171 := Tryz.isAgg112
  z171 := Tryz.sizeOf112
  v171 := Tryz.zeroValue112
  t173 := Tryz.underlying116
  a173 := Tryz.isAgg116
  z173 := Tryz.sizeOf116
  v173 := Tryz.zeroValue116
  t212 := Tryz.underlying120
  a212 := Tryz.isAgg120
  z212 := Tryz.sizeOf120
  v212 := Tryz.zeroValue120
  t213 := Tryz.underlying122
  a213 := Tryz.isAgg122
  z213 := Tryz.sizeOf122
  t232 := Tryz.underlying126
  a232 := Tryz.isAgg126
  z232 := Tryz.sizeOf126
  v232 := Tryz.zeroValue126
  t233 := Tryz.underlying127
  a233 := Tryz.isAgg127
  z233 := Tryz.sizeOf127
  v233 := Tryz.zeroValue127
  g17 := by kernel_rfl
  g18 := by kernel_rfl
  g19 := by kernel_rfl }
open Go.RowKit Go.Sort Go.Lib in
theorem Tryz.internal_strconv_Itoa_small (i : Nat) (hi : i < 100) (w : World) :
    Calls Tryz.prog 84 #[.int .i64 i] w fun e w' => e = .returned (.string ⟨(Lib.decDigits i).toArray⟩) ∧ w' = w := Any.internal_strconv_Itoa_small Tryz.lays243 i hi w
def Tryz.laysM171_ren : Go.Shelf.Ren := ⟨fun | 171 => 76 | 243 => 84 | 246 => 88 | 283 => 91 | 284 => 92 | 285 => 93 | 286 => 94 | 129 => 96 | 317 => 95 | 318 => 97 | 319 => 98 | 320 => 99 | 337 => 100 | 338 => 101 | n => n, fun | 3 => 3 | 9 => 9 | 2 => 2 | 4 => 4 | 171 => 112 | 0 => 0 | 53 => 113 | 37 => 91 | 5 => 5 | 173 => 116 | 212 => 120 | 51 => 121 | 20 => 20 | 213 => 122 | 46 => 94 | 232 => 126 | 233 => 127 | n => n, fun | 17 => 1 | 18 => 2 | 19 => 3 | n => n⟩
theorem Tryz.laysM171 : Go.Proofs.LaysM.n171 Tryz.prog Tryz.laysM171_ren := {
  mixed := by kernel_rfl
  f129 := Tryz.func96.trans (congrArg some (by kernel_rfl))
  f171 := Tryz.func76.trans (congrArg some (by kernel_rfl))
  f243 := Tryz.func84.trans (congrArg some (by kernel_rfl))
  f246 := Tryz.func88.trans (congrArg some (by kernel_rfl))
  f283 := Tryz.func91.trans (congrArg some (by kernel_rfl))
  f284 := Tryz.func92.trans (congrArg some (by kernel_rfl))
  f285 := Tryz.func93.trans (congrArg some (by kernel_rfl))
  f286 := Tryz.func94.trans (congrArg some (by kernel_rfl))
  f317 := Tryz.func95.trans (congrArg some (by kernel_rfl))
  f318 := Tryz.func97.trans (congrArg some (by kernel_rfl))
  f319 := Tryz.func98.trans (congrArg some (by kernel_rfl))
  f320 := Tryz.func99.trans (congrArg some (by kernel_rfl))
  f337 := Tryz.func100.trans (congrArg some (by kernel_rfl))
  f338 := Tryz.func101.trans (congrArg some (by kernel_rfl))
  t0 := Tryz.underlying0
  a0 := Tryz.isAgg0
  z0 := Tryz.sizeOf0
  v0 := Tryz.zeroValue0
  t2 := Tryz.underlying2
  a2 := Tryz.isAgg2
  z2 := Tryz.sizeOf2
  v2 := Tryz.zeroValue2
  t3 := Tryz.underlying3
  a3 := Tryz.isAgg3
  z3 := Tryz.sizeOf3
  v3 := Tryz.zeroValue3
  t4 := Tryz.underlying4
  a4 := Tryz.isAgg4
  z4 := Tryz.sizeOf4
  v4 := Tryz.zeroValue4
  t5 := Tryz.underlying5
  a5 := Tryz.isAgg5
  z5 := Tryz.sizeOf5
  v5 := Tryz.zeroValue5
  t9 := Tryz.underlying9
  a9 := Tryz.isAgg9
  z9 := Tryz.sizeOf9
  v9 := Tryz.zeroValue9
  t20 := Tryz.underlying20
  a20 := Tryz.isAgg20
  z20 := Tryz.sizeOf20
  v20 := Tryz.zeroValue20
  t37 := Tryz.underlying91
  a37 := Tryz.isAgg91
  z37 := Tryz.sizeOf91
  v37 := Tryz.zeroValue91
  t46 := Tryz.underlying94
  a46 := Tryz.isAgg94
  z46 := Tryz.sizeOf94
  v46 := Tryz.zeroValue94
  t51 := Tryz.underlying121
  a51 := Tryz.isAgg121
  z51 := Tryz.sizeOf121
  v51 := Tryz.zeroValue121
  t53 := Tryz.underlying113
  a53 := Tryz.isAgg113
  z53 := Tryz.sizeOf113
  v53 := Tryz.zeroValue113
  t171 := Tryz.underlying112
  a171 := Tryz.isAgg112
  z171 := Tryz.sizeOf112
  v171 := Tryz.zeroValue112
  t173 := Tryz.underlying116
  a173 := Tryz.isAgg116
  z173 := Tryz.sizeOf116
  v173 := Tryz.zeroValue116
  t212 := Tryz.underlying120
  a212 := Tryz.isAgg120
  z212 := Tryz.sizeOf120
  v212 := Tryz.zeroValue120
  t213 := Tryz.underlying122
  a213 := Tryz.isAgg122
  z213 := Tryz.sizeOf122
  t232 := Tryz.underlying126
  a232 := Tryz.isAgg126
  z232 := Tryz.sizeOf126
  v232 := Tryz.zeroValue126
  t233 := Tryz.underlying127
  a233 := Tryz.isAgg127
  z233 := Tryz.sizeOf127
  v233 := Tryz.zeroValue127
  g17 := by kernel_rfl
  g18 := by kernel_rfl
  g19 := by kernel_rfl
  i0 := by kernel_rfl
  i2 := by kernel_rfl
  i3 := by kernel_rfl
  i4 := by kernel_rfl
  i5 := by kernel_rfl
  i9 := by kernel_rfl
  i20 := by kernel_rfl
  i37 := by kernel_rfl
  i46 := by kernel_rfl
  i51 := by kernel_rfl
  i53 := by kernel_rfl
  i171 := by kernel_rfl
  i173 := by kernel_rfl
  i212 := by kernel_rfl
  i232 := by kernel_rfl
  i233 := by kernel_rfl
  m17 := by kernel_rfl
  m18 := by kernel_rfl
  m19 := by kernel_rfl }
open Go.RowKit Go.Sort Go.Lib in
theorem Tryz.strconv_Itoa (n : Int) (h0 : -9223372036854775808 ≤ n) (h1 : n ≤ 9223372036854775807) (w : World) (htab : Lib.TabIs Tryz.prog w "internal/strconv.uint64pow10" .u64 Lib.pow10Tab) :
    Calls Tryz.prog 76 #[.int .i64 n] w fun e w' => e = .returned (.string ⟨(Lib.itoa n).toArray⟩) ∧ ∃ k os, w' = grow (w.drewN k) os := Any.strconv_Itoa Tryz.laysM171 n h0 h1 w htab
def Tryz.lays171_ren : Go.Shelf.Ren := ⟨fun | 171 => 76 | 243 => 84 | 246 => 88 | 283 => 91 | 284 => 92 | 285 => 93 | 286 => 94 | 129 => 96 | 317 => 95 | 318 => 97 | 319 => 98 | 320 => 99 | 337 => 100 | 338 => 101 | n => n, fun | 3 => 3 | 9 => 9 | 2 => 2 | 4 => 4 | 171 => 112 | 0 => 0 | 53 => 113 | 37 => 91 | 5 => 5 | 173 => 116 | 212 => 120 | 51 => 121 | 20 => 20 | 213 => 122 | 46 => 94 | 232 => 126 | 233 => 127 | n => n, fun | 17 => 1 | 18 => 2 | 19 => 3 | n => n⟩
theorem Tryz.lays171 : Go.Proofs.Lays.n171 Tryz.prog Tryz.lays171_ren := {
  mixed := by kernel_rfl
  f129 := Tryz.func96.trans (congrArg some (by kernel_rfl))
  f171 := Tryz.func76.trans (congrArg some (by kernel_rfl))
  f243 := Tryz.func84.trans (congrArg some (by kernel_rfl))
  f246 := Tryz.func88.trans (congrArg some (by kernel_rfl))
  f283 := Tryz.func91.trans (congrArg some (by kernel_rfl))
  f284 := Tryz.func92.trans (congrArg some (by kernel_rfl))
  f285 := Tryz.func93.trans (congrArg some (by kernel_rfl))
  f286 := Tryz.func94.trans (congrArg some (by kernel_rfl))
  f317 := Tryz.func95.trans (congrArg some (by kernel_rfl))
  f318 := Tryz.func97.trans (congrArg some (by kernel_rfl))
  f319 := Tryz.func98.trans (congrArg some (by kernel_rfl))
  f320 := Tryz.func99.trans (congrArg some (by kernel_rfl))
  f337 := Tryz.func100.trans (congrArg some (by kernel_rfl))
  f338 := Tryz.func101.trans (congrArg some (by kernel_rfl))
  t0 := Tryz.underlying0
  a0 := Tryz.isAgg0
  z0 := Tryz.sizeOf0
  v0 := Tryz.zeroValue0
  t2 := Tryz.underlying2
  a2 := Tryz.isAgg2
  z2 := Tryz.sizeOf2
  v2 := Tryz.zeroValue2
  t3 := Tryz.underlying3
  a3 := Tryz.isAgg3
  z3 := Tryz.sizeOf3
  v3 := Tryz.zeroValue3
  t4 := Tryz.underlying4
  a4 := Tryz.isAgg4
  z4 := Tryz.sizeOf4
  v4 := Tryz.zeroValue4
  t5 := Tryz.underlying5
  a5 := Tryz.isAgg5
  z5 := Tryz.sizeOf5
  v5 := Tryz.zeroValue5
  t9 := Tryz.underlying9
  a9 := Tryz.isAgg9
  z9 := Tryz.sizeOf9
  v9 := Tryz.zeroValue9
  t20 := Tryz.underlying20
  a20 := Tryz.isAgg20
  z20 := Tryz.sizeOf20
  v20 := Tryz.zeroValue20
  t37 := Tryz.underlying91
  a37 := Tryz.isAgg91
  z37 := Tryz.sizeOf91
  v37 := Tryz.zeroValue91
  t46 := Tryz.underlying94
  a46 := Tryz.isAgg94
  z46 := Tryz.sizeOf94
  v46 := Tryz.zeroValue94
  t51 := Tryz.underlying121
  a51 := Tryz.isAgg121
  z51 := Tryz.sizeOf121
  v51 := Tryz.zeroValue121
  t53 := Tryz.underlying113
  a53 := Tryz.isAgg113
  z53 := Tryz.sizeOf113
  v53 := Tryz.zeroValue113
  t171 := Tryz.underlying112
  a171 := Tryz.isAgg112
  z171 := Tryz.sizeOf112
  v171 := Tryz.zeroValue112
  t173 := Tryz.underlying116
  a173 := Tryz.isAgg116
  z173 := Tryz.sizeOf116
  v173 := Tryz.zeroValue116
  t212 := Tryz.underlying120
  a212 := Tryz.isAgg120
  z212 := Tryz.sizeOf120
  v212 := Tryz.zeroValue120
  t213 := Tryz.underlying122
  a213 := Tryz.isAgg122
  z213 := Tryz.sizeOf122
  t232 := Tryz.underlying126
  a232 := Tryz.isAgg126
  z232 := Tryz.sizeOf126
  v232 := Tryz.zeroValue126
  t233 := Tryz.underlying127
  a233 := Tryz.isAgg127
  z233 := Tryz.sizeOf127
  v233 := Tryz.zeroValue127
  g17 := by kernel_rfl
  g18 := by kernel_rfl
  g19 := by kernel_rfl }
open Go.RowKit Go.Sort Go.Lib in
theorem Tryz.strconv_Itoa_small (i : Nat) (hi : i < 100) (w : World) :
    Calls Tryz.prog 76 #[.int .i64 i] w fun e w' => e = .returned (.string ⟨(Lib.decDigits i).toArray⟩) ∧ w' = w := Any.strconv_Itoa_small Tryz.lays171 i hi w

end Go.Proofs

/- The functions of package path: contracts over plain lists. -/
namespace Go.Proofs.YthaepjeikicigaaGreatDoor
set_option maxRecDepth 20000
open Go.RowKit Pm

/-- A slice of strings whose cells lie at a block's head. -/
structure Lies (w : World) (g cap : Nat) (ps : List Bs) : Prop where
  lt : g < w.heap.size
  room : ps.length ≤ cap
  most : cap ≤ maxLen
  cell : ∀ j (h : j < ps.length), w.cell? ⟨g, j, none⟩ = some (strV ps[j])

theorem Own.lies {b0 : Nat} {w : World} {v : Value} {p : Bs} {r : List Bs} (h : Own b0 w v (p :: r)) :
    ∃ g cap, v = .slice (some ⟨g, 0, none⟩) (r.length + 1) cap ∧ b0 ≤ g ∧ Lies w g cap (p :: r) := by
  obtain ⟨ho, _⟩ := h
  rcases ho.2 with ⟨_, h0⟩ | ⟨g, cap, cur, rfl, hb, hg, hc, hm, hs, ht⟩
  · simp at h0
  · refine ⟨g, cap, rfl, hb, (Array.getElem?_eq_some_iff.1 hg).1, hc, hm, fun j hj => ?_⟩
    have := ho.cellAt j (by simpa using hj)
    rw [this, List.getElem?_map, List.getElem?_eq_getElem hj]
    rfl

theorem Own.shape {b0 : Nat} {w : World} {v : Value} {ps : List Bs} (h : Own b0 w v ps) : ∃ ao cap, v = .slice ao ps.length cap := by
  cases ps with
  | nil => exact ⟨none, 0, h.2 rfl⟩
  | cons p r => obtain ⟨g, cap, rfl, _⟩ := h.lies; exact ⟨_, _, rfl⟩

theorem Lies.below {w w' : World} {g cap : Nat} {ps : List Bs} (h : Lies w g cap ps) {b0 : Nat} (hb : Below b0 w w') (hg : g < b0) : Lies w' g cap ps :=
  ⟨Nat.lt_of_lt_of_le h.lt hb.size, h.room, h.most, fun j hj => by rw [hb.cell (p := ⟨g, j, none⟩) hg]; exact h.cell j hj⟩

theorem Lies.take {w : World} {g cap : Nat} {ps : List Bs} (h : Lies w g cap ps) (k : Nat) : Lies w g cap (ps.take k) :=
  ⟨h.lt, by have := h.room; rw [List.length_take]; omega, h.most, fun j hj => by
    rw [List.getElem_take]; exact h.cell j (by rw [List.length_take] at hj; omega)⟩

theorem Join_c (g cap : Nat) (ps : List Bs) (w : World) (h : Lies w g cap ps) (hn : ps.length ≤ 1000) (hl : lens ps ≤ 500000000) :
    Calls Tryz.prog 73 #[.slice (some ⟨g, 0, none⟩) ps.length cap, .string ⟨#[47]⟩] w fun e w' => e = .returned (.string (B (jn ps))) ∧ Below w.heap.size w w' := by
  match ps, h, hn, hl with
  | [], _, _, _ => exact (Join_none _ cap w).mono fun e w' ⟨he, hw⟩ => ⟨he, hw ▸ Below.refl _ _⟩
  | [p], h, _, _ =>
    refine (Join_one g 0 cap p w (h.cell 0 (by simp))).mono fun e w' ⟨he, hw⟩ => ⟨?_, hw ▸ Below.refl _ _⟩
    rw [he]; simp [jn, flat]
  | p :: q :: r, h, hn, hl =>
    exact Join_many g 0 cap p (q :: r) w (fun j hj => by simpa using h.cell j hj) h.lt (by simp) (by simp at hn ⊢; omega) (by have := h.room; simpa using this) hl

set_option maxHeartbeats 400000 in
theorem whole_c (g cap : Nat) (ps : List Bs) (w : World) (h : Lies w g cap ps) (hn : ps.length ≤ 1000) (hl : lens ps ≤ 500000000) :
    Calls Tryz.prog 62 #[.slice (some ⟨g, 0, none⟩) ps.length cap] w fun e w' => e = .returned (.string (B (joinP ps))) ∧ Below w.heap.size w w' := by
  have hjl : (jn ps).length ≤ 600000000 := by
    cases ps with
    | nil => simp [jn]
    | cons p r => have := flat_len r; simp [jn, lens] at hl hn this ⊢; omega
  go_enter Tryz.func62, Tryz.ntmps62
  go_wp2_with fail
  refine (Join_c g cap ps w h hn hl).mono ?_
  rintro e w1 ⟨rfl, hb⟩
  go_wp2
  go_ret
  refine ⟨?_, hb⟩
  rfl

theorem whole_own (b0 : Nat) (v : Value) (p : Bs) (r : List Bs) (w : World) (h : Own b0 w v (p :: r)) (hn : (p :: r).length ≤ 1000) (hl : lens (p :: r) ≤ 500000000) :
    Calls Tryz.prog 62 #[v] w fun e w' => e = .returned (.string (B (joinP (p :: r)))) ∧ Below w.heap.size w w' := by
  obtain ⟨g, cap, rfl, _, hlies⟩ := h.lies
  exact whole_c g cap (p :: r) w hlies hn hl

theorem whole_snoc (b0 : Nat) (v : Value) (ps : List Bs) (q : Bs) (w : World) (h : Own b0 w v (ps ++ [q])) (hP : Parts ps) (hq : isPart q = true) :
    Calls Tryz.prog 62 #[v] w fun e w' => e = .returned (.string (B (joinP (ps ++ [q])))) ∧ Below w.heap.size w w' := by
  have h1 := hP.1
  have h2 := hP.lens
  have h3 := isPart_len hq
  have h4 : (ps ++ [q]).length ≤ 1000 := by simp; omega
  have h5 : lens (ps ++ [q]) ≤ 500000000 := by unfold lens at h2 ⊢; rw [List.map_append, List.sum_append]; simp; omega
  cases he : ps ++ [q] with
  | nil => simp at he
  | cons p r => rw [he] at h h4 h5; exact whole_own b0 v p r w h h4 h5

set_option maxHeartbeats 400000 in
theorem Right_c (l : Bs) (w : World) (hl : l.length ≤ 4611686018427387904) :
    Calls Tryz.prog 31 #[.string (B l)] w fun e w' => e = .returned (.bool (split l).isSome) ∧ Below w.heap.size w w' := by
  go_enter Tryz.func31, Tryz.ntmps31
  go_wp2_with fail
  refine (Split_c l w hl).mono ?_
  rintro e w1 ⟨v, rfl, _, hb⟩
  go_wp2
  go_ret
  exact ⟨rfl, hb⟩

set_option maxHeartbeats 400000 in
theorem Parent_c (l : Bs) (w : World) (hl : l.length ≤ 4611686018427387904) :
    Calls Tryz.prog 46 #[.string (B l)] w fun e w' => e = .returned (.tuple #[.string (B ((parent l).getD [])), .bool (parent l).isSome]) ∧ Below w.heap.size w w' := by
  cases hs : split l with
  | none =>
    have hp : parent l = none := by unfold parent; rw [hs]
    rw [hp]
    have HS := Lib.hid hs; clear hs hp
    go_enter Tryz.func46, Tryz.ntmps46
    go_wp2_with fail
    refine (Split_c l w hl).mono ?_
    rintro e w1 ⟨v, rfl, hown, hb⟩
    rw [HS.out] at hown ⊢
    go_wp2
    go_ret2
    exact ⟨rfl, hb⟩
  | some ps =>
    cases ps with
    | nil =>
      have hp : parent l = none := by unfold parent; rw [hs]
      rw [hp]
      have HS := Lib.hid hs; clear hs hp
      go_enter Tryz.func46, Tryz.ntmps46
      go_wp2_with fail
      refine (Split_c l w hl).mono ?_
      rintro e w1 ⟨v, rfl, hown, hb⟩
      rw [HS.out] at hown ⊢
      obtain rfl := hown.2 rfl
      go_wp2
      go_ret2
      exact ⟨rfl, hb⟩
    | cons p r =>
      have hp : parent l = some (joinP (p :: r).dropLast) := by unfold parent; rw [hs]
      have hP := ((split_iff _ _).1 hs).1
      rw [hp]
      have HS := Lib.hid hs; clear hs hp
      go_enter Tryz.func46, Tryz.ntmps46
      go_wp2_with fail
      refine (Split_c l w hl).mono ?_
      rintro e w1 ⟨v, rfl, hown, hb⟩
      rw [HS.out] at hown ⊢
      obtain ⟨g, cap, rfl, hg, hlies⟩ := hown.lies
      have h6 := hP.1
      have hc1 := hlies.room
      have hc2 := hlies.most
      unfold maxLen at hc2
      simp only [List.length_cons] at hc1 h6
      have hd : (p :: r).dropLast = (p :: r).take r.length := by rw [List.dropLast_eq_take]; simp
      have hlen : ((p :: r).take r.length).length = r.length := by simp
      have hln := hP.lens
      have hw := whole_c g cap ((p :: r).take r.length) w1 (hlies.take _) (by omega) (Nat.le_trans (lens_take_le _ _) (by omega))
      rw [hlen, ← hd] at hw
      have HW := Lib.hid hw; clear hw hlen hd hln hlies
      go_wp2_with fail
      refine HW.out.mono ?_
      rintro e w2 ⟨rfl, hb2⟩
      have hb2' := hb.trans (hb2.mono hb.size)
      clear hb2
      go_wp2
      go_ret2
      exact ⟨rfl, hb2'⟩

set_option maxHeartbeats 400000 in
theorem Last_c (l : Bs) (w : World) (hl : l.length ≤ 4611686018427387904) :
    Calls Tryz.prog 68 #[.string (B l)] w fun e w' => e = .returned (.string (B (last l))) ∧ Below w.heap.size w w' := by
  by_cases hs : (split l).getD [] = []
  · have hp : last l = [] := by unfold last; cases h : split l with
      | none => rfl
      | some ps => rw [h] at hs; cases ps with
        | nil => rfl
        | cons p r => simp at hs
    rw [hp]
    have HS := Lib.hid hs; clear hs hp
    go_enter Tryz.func68, Tryz.ntmps68
    go_wp2_with fail
    refine (Split_c l w hl).mono ?_
    rintro e w1 ⟨v, rfl, hown, hb⟩
    rw [HS.out] at hown
    obtain rfl := hown.2 rfl
    go_wp2
    go_ret
    exact ⟨rfl, hb⟩
  · obtain ⟨p, r, hs'⟩ : ∃ p r, split l = some (p :: r) := by
      cases h : split l with
      | none => rw [h] at hs; exact absurd rfl hs
      | some ps => cases ps with
        | nil => rw [h] at hs; exact absurd rfl hs
        | cons p r => exact ⟨p, r, rfl⟩
    obtain ⟨q, hq⟩ : ∃ q, (p :: r)[r.length]'(by simp) = q := ⟨_, rfl⟩
    have hp : last l = q := by unfold last; rw [hs', ← hq]; simp [List.getLast_eq_getElem]
    have hP := ((split_iff _ _).1 hs').1
    rw [hp]
    have HS := Lib.hid hs'; clear hs hs' hp
    go_enter Tryz.func68, Tryz.ntmps68
    go_wp2_with fail
    refine (Split_c l w hl).mono ?_
    rintro e w1 ⟨v, rfl, hown, hb⟩
    rw [HS.out] at hown
    obtain ⟨g, cap, rfl, hg, hlies⟩ := hown.lies
    have h6 := hP.1
    simp only [List.length_cons] at h6
    have hc := hlies.cell r.length (by simp)
    rw [hq] at hc
    unfold strV at hc
    clear hown hlies hq
    go_wp2
    go_ret
    exact ⟨rfl, hb⟩

theorem isPart_call (q : Bs) (w : World) (hl : q.length ≤ 9223372036854775807) (b : Bool) (h : isPart q = b) :
    Calls Tryz.prog 77 #[.string (B q)] w fun e w' => e = .returned (.bool b) ∧ w = w' := by
  rw [← h]; exact isPart_c q w hl

set_option maxHeartbeats 800000 in
theorem Join_path_c (l q : Bs) (w : World) (hl : l.length ≤ 4611686018427387904) (hq : q.length ≤ 4611686018427387904) :
    Calls Tryz.prog 69 #[.string (B l), .string (B q)] w fun e w' => e = .returned (.tuple #[.string (B ((join l q).getD [])), .bool (join l q).isSome]) ∧ Below w.heap.size w w' := by
  obtain ⟨i0, hi, hz0, hz1, hz2⟩ := info_parts Tryz.infoS
  cases hs : split l with
  | none =>
    have hp : join l q = none := by unfold join; rw [hs]
    rw [hp]
    have HS := Lib.hid hs; clear hs hp
    go_enter Tryz.func69, Tryz.ntmps69
    go_wp2_with fail
    refine (Split_c l w hl).mono ?_
    rintro e w1 ⟨v, rfl, hown, hb⟩
    rw [HS.out]
    go_wp2
    go_ret2
    exact ⟨rfl, hb⟩
  | some ps =>
    have hP := ((split_iff _ _).1 hs).1
    have h6 := hP.1
    cases hpart : isPart q with
    | false =>
      have hp : join l q = none := by unfold join; rw [hs]; simp [hpart]
      rw [hp]
      have HS := Lib.hid hs; clear hs hp
      have HC := Lib.hid (fun w => isPart_call q w (by omega) false hpart); clear hpart
      go_enter Tryz.func69, Tryz.ntmps69
      go_wp2_with fail
      refine (Split_c l w hl).mono ?_
      rintro e w1 ⟨v, rfl, hown, hb⟩
      rw [HS.out]
      go_wp2_with fail
      refine (HC.out _).mono ?_
      rintro e w2 ⟨rfl, rfl⟩
      go_wp2
      go_ret2
      exact ⟨rfl, hb⟩
    | true =>
      have HC := Lib.hid (fun w => isPart_call q w (by omega) true hpart)
      by_cases hlt : ps.length < 6
      · have hp : join l q = some (joinP (ps ++ [q])) := by unfold join; rw [hs]; simp [hpart, hlt]
        rw [hp]
        have HS := Lib.hid hs; clear hs hp
        have h5 : ((ps.length : Int) == 6) = false := beq_eq_false_iff_ne.2 (by omega)
        go_enter Tryz.func69, Tryz.ntmps69
        go_wp2_with fail
        refine (Split_c l w hl).mono ?_
        rintro e w1 ⟨v, rfl, hown, hb⟩
        rw [HS.out] at hown ⊢
        have hown : Own w.heap.size w1 v ps := hown
        obtain ⟨ao, cap, rfl⟩ := hown.shape
        have hs1 := hb.size
        go_wp2_with fail
        refine (HC.out _).mono ?_
        rintro e w2 ⟨rfl, rfl⟩
        go_wp2_with (at_builtin; go_must (refine wpList_append_own _ rfl _ _ 29 rfl w.heap.size 9 i0 (.string ⟨#[]⟩) 1 16 Tryz.underlying29 hi hz0 hz1 hz2 rfl (by decide) _ _ _ rfl (hown.1.alloc _) ⟨w1.heap.size, 0, none⟩ 1 1 [strV q] rfl rfl (cell_one_new _ _ _) (one_c2 _) (by unfold maxLen; omega) (by omega) (by simp; omega) ?_; intro v' w2 hown' hgrow _))
        obtain ⟨hO, hB⟩ := Own.push hown.1 hb hs1 hown' hgrow
        clear hown' hgrow hown
        have HW := Lib.hid (whole_snoc w.heap.size v' ps q w2 hO hP hpart)
        refine HW.out.mono ?_
        rintro e w3 ⟨rfl, hb3⟩
        have hb3' := hB.trans (hb3.mono hB.size)
        clear hb3 hO HW
        go_wp2
        go_ret2
        exact ⟨rfl, hb3'⟩
      · have hp : join l q = none := by unfold join; rw [hs]; simp [hlt]
        rw [hp]
        have HS := Lib.hid hs; clear hs hp
        have h5 : ((ps.length : Int) == 6) = true := beq_iff_eq.2 (by omega)
        go_enter Tryz.func69, Tryz.ntmps69
        go_wp2_with fail
        refine (Split_c l w hl).mono ?_
        rintro e w1 ⟨v, rfl, hown, hb⟩
        rw [HS.out] at hown ⊢
        have hown : Own w.heap.size w1 v ps := hown
        obtain ⟨ao, cap, rfl⟩ := hown.shape
        go_wp2_with fail
        refine (HC.out _).mono ?_
        rintro e w2 ⟨rfl, rfl⟩
        go_wp2
        go_ret2
        exact ⟨rfl, hb⟩
end Go.Proofs.YthaepjeikicigaaGreatDoor

/- path.In and path.Numbered. -/
namespace Go.Proofs.YthaepjeikicigaaGreatDoor
set_option maxRecDepth 20000
open Go.RowKit Pm

theorem prefix_take (a b : List Bs) : decide ((b.map B) = (a.map B).take b.length) = b.isPrefixOf a := by
  rw [Bool.eq_iff_iff, List.isPrefixOf_iff_prefix]
  simp only [decide_eq_true_eq]
  rw [← List.map_take, List.map_inj_right (fun x y h => B_inj h), List.prefix_iff_eq_take]

/-- The four digits, and strconv's. -/
theorem four (n : Nat) (h : n ≤ 9999) : (Lib.itoa n).length ≤ 4 ∧ ([48, 48, 48, 48].drop (Lib.itoa n).length).take (4 - (Lib.itoa n).length) ++ Lib.itoa n = dig n := by
  have e : Lib.itoa n = Lib.decDigits n := by unfold Lib.itoa; rw [if_neg (by omega)]; rfl
  rw [e]
  by_cases h1 : n < 10
  · have d : Lib.decDigits n = [UInt8.ofNat (48 + n)] := by rw [Lib.decDigits, dif_pos h1]
    rw [d]; refine ⟨by simp, ?_⟩
    simp [dig, show n / 1000 = 0 by omega, show n / 100 = 0 by omega, show n / 10 = 0 by omega, Nat.mod_eq_of_lt h1]
  · by_cases h2 : n < 100
    · have d : Lib.decDigits n = [UInt8.ofNat (48 + n / 10), UInt8.ofNat (48 + n % 10)] := by
        rw [Lib.decDigits, dif_neg h1, Lib.decDigits, dif_pos (by omega)]; rfl
      rw [d]; refine ⟨by simp, ?_⟩
      simp [dig, show n / 1000 = 0 by omega, show n / 100 = 0 by omega, show n / 10 % 10 = n / 10 by omega]
    · by_cases h3 : n < 1000
      · have d : Lib.decDigits n = [UInt8.ofNat (48 + n / 100), UInt8.ofNat (48 + n / 10 % 10), UInt8.ofNat (48 + n % 10)] := by
          rw [Lib.decDigits, dif_neg h1, Lib.decDigits, dif_neg (by omega), Lib.decDigits, dif_pos (by omega), Nat.div_div_eq_div_mul]; rfl
        rw [d]; refine ⟨by simp, ?_⟩
        simp [dig, show n / 1000 = 0 by omega, show n / 100 % 10 = n / 100 by omega]
      · have d : Lib.decDigits n = [UInt8.ofNat (48 + n / 1000), UInt8.ofNat (48 + n / 100 % 10), UInt8.ofNat (48 + n / 10 % 10), UInt8.ofNat (48 + n % 10)] := by
          rw [Lib.decDigits, dif_neg h1, Lib.decDigits, dif_neg (by omega), Lib.decDigits, dif_neg (by omega), Lib.decDigits, dif_pos (by omega), show n / 10 / 10 / 10 = n / 1000 by omega, show n / 10 / 10 = n / 100 by omega]; rfl
        rw [d]; refine ⟨by simp, ?_⟩
        simp [dig]

set_option maxHeartbeats 1000000 in
theorem Numbered_c (p : Bs) (n : Int) (w : World) (hp : p.length ≤ 4611686018427387904) (hn1 : -9223372036854775808 ≤ n) (hn2 : n ≤ 9223372036854775807)
    (ht : n < 100 ∨ Lib.TabIs Tryz.prog w "internal/strconv.uint64pow10" .u64 Lib.pow10Tab) :
    Calls Tryz.prog 67 #[.string (B p), .int .i64 n] w fun e w' => e = .returned (.tuple #[.string (B ((numbered p n).getD [])), .bool (numbered p n).isSome]) ∧ Below w.heap.size w w' := by
  by_cases h1 : n < 0
  · have hnum : numbered p n = none := by unfold numbered; rw [if_neg (by omega)]
    rw [hnum]
    clear hnum ht
    go_enter Tryz.func67, Tryz.ntmps67
    go_wp2
    go_ret2
    exact ⟨rfl, Below.refl _ _⟩
  · by_cases h2 : 9999 < n
    · have hnum : numbered p n = none := by unfold numbered; rw [if_neg (by omega)]
      rw [hnum]
      clear hnum ht
      go_enter Tryz.func67, Tryz.ntmps67
      go_wp2
      go_ret2
      exact ⟨rfl, Below.refl _ _⟩
    · by_cases h3 : 12 < p.length
      · have hnum : numbered p n = none := by
          unfold numbered; rw [if_neg]; rintro ⟨_, _, h⟩
          have := (isPart_len h).2; simp at this; omega
        rw [hnum]
        clear hnum ht
        go_enter Tryz.func67, Tryz.ntmps67
        go_wp2
        go_ret2
        exact ⟨rfl, Below.refl _ _⟩
      · obtain ⟨k, rfl⟩ := Int.eq_ofNat_of_zero_le (Int.not_lt.1 h1)
        have hI : Calls Tryz.prog 76 #[.int .i64 (k : Int)] w fun e w' => e = .returned (.string (B (Lib.itoa k))) ∧ Below w.heap.size w w' := by
          rcases ht with ht | ht
          · refine (Tryz.strconv_Itoa_small k (by omega) w).mono ?_
            rintro e w' ⟨rfl, rfl⟩
            refine ⟨?_, Below.refl _ _⟩
            show Ending.returned (.string (B (Lib.decDigits k))) = _
            unfold Lib.itoa; rw [if_neg (by omega)]; rfl
          · refine (Tryz.strconv_Itoa k (by omega) (by omega) w ht).mono ?_
            rintro e w' ⟨rfl, q, os, rfl⟩
            exact ⟨rfl, Lib.below_grow _ w (Nat.le_refl _) q os⟩
        obtain ⟨hlen, h4⟩ := four k (by omega)
        have HI := Lib.hid hI; clear hI
        have H4 := Lib.hid h4; clear h4 ht
        generalize Lib.itoa (k : Int) = d at HI H4 hlen
        cases hpart : isPart (p ++ dig k) with
        | false =>
          have hnum : numbered p k = none := by unfold numbered; rw [if_neg]; rintro ⟨_, _, h⟩; rw [Int.toNat_natCast, hpart] at h; cases h
          rw [hnum]
          have HC := Lib.hid (fun w hl => isPart_call (p ++ dig k) w hl false hpart); clear hpart hnum
          go_enter Tryz.func67, Tryz.ntmps67
          go_wp2_with fail
          refine HI.out.mono ?_
          rintro e w1 ⟨rfl, hb⟩
          go_wp2_with fail
          rw [H4.out]
          refine (HC.out _ (by simp [dig]; omega)).mono ?_
          rintro e w2 ⟨rfl, rfl⟩
          go_wp2
          go_ret2
          exact ⟨rfl, hb⟩
        | true =>
          have hnum : numbered p k = some (p ++ dig k) := by unfold numbered; rw [if_pos]; rw [Int.toNat_natCast]; exact ⟨by omega, by omega, by rw [Int.toNat_natCast]; exact hpart⟩
          rw [hnum]
          have HC := Lib.hid (fun w hl => isPart_call (p ++ dig k) w hl true hpart); clear hpart hnum
          go_enter Tryz.func67, Tryz.ntmps67
          go_wp2_with fail
          refine HI.out.mono ?_
          rintro e w1 ⟨rfl, hb⟩
          go_wp2_with fail
          rw [H4.out]
          refine (HC.out _ (by simp [dig]; omega)).mono ?_
          rintro e w2 ⟨rfl, rfl⟩
          go_wp2
          go_ret2
          exact ⟨rfl, hb⟩
end Go.Proofs.YthaepjeikicigaaGreatDoor

/- Package path's functions, as later layers use them. -/
namespace Go.Proofs.YthaepjeikicigaaGreatDoor
set_option maxRecDepth 20000
open Go.RowKit Pm

/-- The call has made memory, and written to nothing that was there. -/
def Gr (w w' : World) : Prop := Below w.heap.size w w'
theorem Gr.refl (w : World) : Gr w w := Below.refl _ _
theorem Gr.trans {a b c : World} (h : Gr a b) (k : Gr b c) : Gr a c := Below.trans h (Below.mono k h.size)
theorem Gr.drew {a b : World} (h : Gr a b) (n : Nat) : Gr a (b.drewN n) := below_drewN h n

def sz (l : Bs) : Prop := l.length ≤ 4611686018427387904
theorem sz_of {l : Bs} {k : Nat} (h : l.length ≤ k) (hk : k ≤ 4611686018427387904) : sz l := Nat.le_trans h hk

theorem Parent_g (l : Bs) (w : World) (hl : sz l) : Calls Tryz.prog 46 #[.string (B l)] w fun e w' => e = .returned (.tuple #[.string (B ((parent l).getD [])), .bool (parent l).isSome]) ∧ Gr w w' := Parent_c l w hl
theorem Last_g (l : Bs) (w : World) (hl : sz l) : Calls Tryz.prog 68 #[.string (B l)] w fun e w' => e = .returned (.string (B (last l))) ∧ Gr w w' := Last_c l w hl
theorem Right_g (l : Bs) (w : World) (hl : sz l) : Calls Tryz.prog 31 #[.string (B l)] w fun e w' => e = .returned (.bool (split l).isSome) ∧ Gr w w' := Right_c l w hl
theorem Join_g (l q : Bs) (w : World) (hl : sz l) (hq : sz q) : Calls Tryz.prog 69 #[.string (B l), .string (B q)] w fun e w' => e = .returned (.tuple #[.string (B ((join l q).getD [])), .bool (join l q).isSome]) ∧ Gr w w' := Join_path_c l q w hl hq


theorem Split_g (l : Bs) (w : World) (hl : sz l) : Calls Tryz.prog 48 #[.string (B l)] w fun e w' => (∃ v, e = .returned (.tuple #[v, .bool (split l).isSome]) ∧ Own w.heap.size w' v ((split l).getD [])) ∧ Gr w w' :=
  (Split_c l w hl).mono fun _ _ ⟨v, h1, h2, h3⟩ => ⟨⟨v, h1, h2⟩, h3⟩

theorem Own.cells {b0 : Nat} {w : World} {ao : Option Addr} {n cap : Nat} {ps : List Bs} (h : Own b0 w (.slice ao n cap) ps) :
    ∀ (w3 : World), Gr w w3 → ∀ k (hk : k < ps.length), ∃ g, ao = some ⟨g, 0, none⟩ ∧ w3.cell? ⟨g, k, none⟩ = some (.string (B ps[k])) := by
  intro w3 g3 k hk
  match ps, h, hk with
  | q :: r, h, hk =>
    obtain ⟨g, c, hv, _, hl⟩ := h.lies
    injection hv with hv _ _
    refine ⟨g, hv, ?_⟩
    rw [Below.cell g3 (p := ⟨g, k, none⟩) hl.lt]
    exact hl.cell k hk


/-- strconv's table, where its variable lies among what was there when the call began. -/
structure Tab (w : World) : Prop where
  is : Lib.TabIs Tryz.prog w "internal/strconv.uint64pow10" .u64 Lib.pow10Tab
theorem gPow : Tryz.prog.globalNamed "internal/strconv.uint64pow10" = some 1 := by kernel_rfl
theorem Tab.lt {w : World} (h : Tab w) : 1 < w.heap.size := by
  have := h.is
  unfold Lib.TabIs World.var? at this
  rw [gPow] at this
  simp only [Option.bind_some] at this
  rcases Nat.lt_or_ge 1 w.heap.size with k | k
  · exact k
  · rw [Array.getElem?_eq_none k] at this; cases this
theorem Tab.grown {w w' : World} (h : Tab w) (g : Gr w w') : Tab w' := ⟨var?_below g gPow h.lt h.is⟩

theorem Numbered_g (p : Bs) (n : Int) (w : World) (ht : Tab w) (hp : sz p) (h0 : 0 ≤ n) (h1 : n ≤ 9999) :
    Calls Tryz.prog 67 #[.string (B p), .int .i64 n] w fun e w' => e = .returned (.tuple #[.string (B ((numbered p n).getD [])), .bool (numbered p n).isSome]) ∧ Gr w w' :=
  Numbered_c p n w hp (by omega) (by omega) (Or.inr ht.is)

theorem Numbered_at (p : Bs) (n : Int) (o : Option Bs) (w : World) (ht : Tab w) (hp : sz p) (h0 : 0 ≤ n) (h1 : n ≤ 9999) (h : numbered p n = o) :
    Calls Tryz.prog 67 #[.string (B p), .int .i64 n] w fun e w' => e = .returned (.tuple #[.string (B (o.getD [])), .bool o.isSome]) ∧ Gr w w' := by
  rw [← h]; exact Numbered_g p n w ht hp h0 h1


end Go.Proofs.YthaepjeikicigaaGreatDoor

/- Plain lists: a path taken apart byte by byte, as a loop does it. -/
namespace Go.Proofs.YthaepjeikicigaaGreatDoor
set_option maxRecDepth 20000
namespace Pm

/-- What is still to come of the loop: parts so far, the one at hand, the rest. -/
def sp (acc : List Bs) (cur : Bs) : Bs → Option (List Bs)
  | [] => if isPart cur = true ∧ acc.length < 6 then some (acc ++ [cur]) else none
  | c :: r => if c ≠ 47 then sp acc (cur ++ [c]) r else if isPart cur = true ∧ acc.length < 6 then sp (acc ++ [cur]) [] r else none

theorem cut_head {c : UInt8} {l : Bs} (h : c ≠ 47) : cut (c :: l) = ([], []) := by simp [cut, h]
theorem splitN_bad {n : Nat} {c : UInt8} {l : Bs} (h : c ≠ 47) : splitN n (c :: l) = none := by
  cases n with
  | zero => rfl
  | succ n => unfold splitN; rw [cut_head h]; simp

/-- A piece that is no part ends it. -/
theorem splitN_no (n : Nat) (cur rest : Bs) (hc : ∀ c ∈ cur, c ≠ 47) (hr : rest = [] ∨ ∃ t, rest = 47 :: t) (hp : isPart cur = false) : splitN n (47 :: (cur ++ rest)) = none := by
  cases n with
  | zero => rfl
  | succ n =>
    by_cases h0 : cur = []
    · subst h0
      have e : pl 12 rest = 0 := by
        rcases hr with rfl | ⟨t, rfl⟩
        · rfl
        · simp [pl, show okB 47 = false from by decide]
      unfold splitN
      simp [cut, e]
    · have hlt : pl 12 cur < cur.length := by
        have h1 := pl_len 12 cur
        rcases Nat.lt_or_eq_of_le h1 with h | h
        · exact h
        · rw [(isPart_iff cur).2 ⟨h0, h⟩] at hp; cases hp
      have e : pl 12 (cur ++ rest) = pl 12 cur := by
        have key : ∀ (k : Nat) (x : Bs), pl k x < x.length → pl k (x ++ rest) = pl k x := by
          intro k
          induction k with
          | zero => intro x _; cases x <;> simp [pl]
          | succ k ih =>
            intro x hx
            cases x with
            | nil => simp at hx
            | cons c x =>
              by_cases hok : okB c = true
              · simp [pl, hok] at hx ⊢
                exact ih x hx
              · simp [pl, hok]
        exact key 12 cur hlt
      obtain ⟨c, t, hd⟩ : ∃ c t, cur.drop (pl 12 cur) = c :: t := by
        cases hh : cur.drop (pl 12 cur) with
        | nil => have := congrArg List.length hh; simp at this; omega
        | cons c t => exact ⟨c, t, rfl⟩
      have hne : c ≠ 47 := hc c (List.mem_of_mem_drop (by rw [hd]; simp))
      have e2 : (cur ++ rest).drop (pl 12 cur) = c :: (t ++ rest) := by
        rw [List.drop_append_of_le_length (by omega), hd]; rfl
      unfold splitN
      have ec : cut (47 :: (cur ++ rest)) = ((cur ++ rest).take (pl 12 cur), c :: (t ++ rest)) := by
        show ((cur ++ rest).take (pl 12 (cur ++ rest)), (cur ++ rest).drop (pl 12 (cur ++ rest))) = _
        rw [e, e2]
      rw [ec]
      simp only
      rw [splitN_bad hne]
      simp

theorem splitN_part (n : Nat) (cur rest : Bs) (hr : rest = [] ∨ ∃ t, rest = 47 :: t) (hp : isPart cur = true) :
    splitN (n + 1) (47 :: (cur ++ rest)) = if rest = [] then some [cur] else (splitN n rest).map (cur :: ·) := by
  have hi := (isPart_iff cur).1 hp
  have e := pl_app 12 cur rest hi.2 hr
  have ec : cut (47 :: (cur ++ rest)) = (cur, rest) := by
    show ((cur ++ rest).take (pl 12 (cur ++ rest)), (cur ++ rest).drop (pl 12 (cur ++ rest))) = _
    rw [e]; simp
  conv => lhs; unfold splitN
  rw [ec]; simp only; rw [if_neg hi.1]

theorem sp_eq : ∀ (rest cur : Bs) (acc : List Bs), acc.length ≤ 6 → (∀ c ∈ cur, c ≠ 47) → sp acc cur rest = (splitN (6 - acc.length) (47 :: (cur ++ rest))).map (acc ++ ·)
  | [], cur, acc, ha, hc => by
    unfold sp
    cases hp : isPart cur with
    | false => rw [splitN_no _ cur [] hc (Or.inl rfl) hp]; simp
    | true =>
      by_cases h6 : acc.length < 6
      · rw [show 6 - acc.length = (5 - acc.length) + 1 by omega, splitN_part _ cur [] (Or.inl rfl) hp]; simp [h6]
      · rw [show 6 - acc.length = 0 by omega]; simp [h6, splitN]
  | c :: r, cur, acc, ha, hc => by
    unfold sp
    by_cases h47 : c ≠ 47
    · rw [if_pos h47, sp_eq r (cur ++ [c]) acc ha (fun x hx => by rw [List.mem_append] at hx; rcases hx with hx | hx; exact hc x hx; simp at hx; rw [hx]; exact h47)]
      simp
    · have h47' : c = 47 := Decidable.not_not.1 h47
      subst h47'
      rw [if_neg h47]
      cases hp : isPart cur with
      | false => rw [splitN_no _ cur (47 :: r) hc (Or.inr ⟨r, rfl⟩) hp]; simp
      | true =>
        by_cases h6 : acc.length < 6
        · rw [if_pos ⟨rfl, h6⟩, sp_eq r [] (acc ++ [cur]) (by simp; omega) (by simp),
            show 6 - acc.length = (5 - acc.length) + 1 by omega, splitN_part _ cur (47 :: r) (Or.inr ⟨r, rfl⟩) hp]
          simp only [List.nil_append, List.length_append, List.length_cons, List.length_nil]
          rw [show 6 - (acc.length + (0 + 1)) = 5 - acc.length by omega, if_neg (by simp)]
          simp [Function.comp_def]
        · rw [if_neg (fun h => h6 h.2), show 6 - acc.length = 0 by omega]; simp [splitN]

/-- The whole loop. -/
theorem sp_split (r : Bs) (h : r ≠ []) : split (47 :: r) = sp [] [] r := by
  rw [sp_eq r [] [] (by simp) (by simp)]
  unfold split
  rw [if_neg (by simpa using h)]
  simp
theorem split_other {c : UInt8} {r : Bs} (h : c ≠ 47) : split (c :: r) = none := by
  unfold split; rw [if_neg (by rintro ⟨⟩; exact h rfl), splitN_bad h]
theorem split_nil : split [] = none := by decide

theorem isPart_all (l : Bs) : isPart l = (decide (1 ≤ l.length ∧ l.length ≤ 12) && l.all okB) := by
  rw [Bool.eq_iff_iff, isPart_iff]
  simp only [Bool.and_eq_true, decide_eq_true_eq, List.all_eq_true]
  constructor
  · rintro ⟨h0, h1⟩
    have hp := isPart_len ((isPart_iff l).2 ⟨h0, h1⟩)
    refine ⟨hp, ?_⟩
    have key : ∀ (k : Nat) (x : Bs), pl k x = x.length → ∀ c ∈ x, okB c = true := by
      intro k
      induction k with
      | zero => intro x hx c hc; cases x with
        | nil => cases hc
        | cons a x => simp [pl] at hx
      | succ k ih =>
        intro x hx c hc
        cases x with
        | nil => cases hc
        | cons a x =>
          by_cases ha : okB a = true
          · simp [pl, ha] at hx
            rcases List.mem_cons.1 hc with rfl | hc
            · exact ha
            · exact ih x hx c hc
          · simp [pl, ha] at hx
    exact key 12 l h1
  · rintro ⟨⟨h1, h2⟩, h3⟩
    refine ⟨by rintro rfl; simp at h1, ?_⟩
    rw [pl_all 12 l h3]; omega

end Pm
end Go.Proofs.YthaepjeikicigaaGreatDoor

/- The document's own answer to layer 1, walked. -/

namespace Go.Proofs.YthaepjeikicigaaGreatDoor
set_option maxRecDepth 20000
open Go.RowKit Pm

set_option maxHeartbeats 1000000 in
theorem rPart_c (l : Bs) (w : World) (hl : l.length ≤ 9223372036854775807) :
    Calls Tryz.prog 61 #[.string (B l)] w fun e w' => e = .returned (.bool (isPart l)) ∧ w = w' := by
  go_enter Tryz.func61, Tryz.ntmps61
  go_wp2
  go_loop [3] (fun i => ∃ k : Nat, k ≤ l.length ∧ i = .int .i64 k ∧ Hid (∀ i (h : i < l.length), i < k → okB l[i] = true)) (fun i => l.length - (intOf i).toNat)
  case atStart => exact ⟨0, by omega, rfl, fun i h hn => by omega⟩
  case round =>
    obtain ⟨k, hk, rfl, ha⟩ := hrel
    by_cases h1 : k < l.length
    · obtain ⟨n, hn⟩ : ∃ n, (l[k]).toNat = n := ⟨_, rfl⟩
      by_cases hok : okN n = true
      · have hnx : Hid (∀ i (h : i < l.length), i < k + 1 → okB l[i] = true) := fun i hi hik => by
          by_cases e : i = k
          · subst e; unfold okB; rw [hn]; exact hok
          · exact ha i hi (by omega)
        clear ha
        have hd : n = 45 ∨ (97 ≤ n ∧ n ≤ 122) ∨ (48 ≤ n ∧ n ≤ 57) := by unfold okN at hok; simp at hok; omega
        clear hok
        rcases hd with rfl | ⟨d1, d2⟩ | ⟨d1, d2⟩
        all_goals (
          go_wp2
          go_round
          case rel => exact ⟨k + 1, by omega, by go_num, hnx⟩
          case measure => simp [intOf]; omega)
      · have hbad : isPart l = false := by
          rw [isPart_all, Bool.and_eq_false_iff]; right
          rw [List.all_eq_false]
          exact ⟨l[k], List.getElem_mem h1, by unfold okB; rw [hn]; exact hok⟩
        have HB := Lib.hid hbad; clear hbad ha
        have hd : n < 45 ∨ (45 < n ∧ n < 48) ∨ (57 < n ∧ n < 97) ∨ 122 < n := by unfold okN at hok; simp at hok; omega
        clear hok
        rcases hd with d1 | ⟨d1, d2⟩ | ⟨d1, d2⟩ | d1
        all_goals (
          have hne : ((n : Int) != 45) = true := by rw [bne_iff_ne]; omega
          go_wp2
          go_ret
          exact ⟨ret_bool HB.out.symm, rfl⟩)
    · have hke : k = l.length := by omega
      subst hke
      have hall : l.all okB = true := by
        rw [List.all_eq_true]; intro c hc
        obtain ⟨i, hi, rfl⟩ := List.getElem_of_mem hc
        exact ha i hi hi
      have hp : isPart l = decide (1 ≤ l.length ∧ l.length ≤ 12) := by rw [isPart_all, hall, Bool.and_true]
      have HP := Lib.hid hp; clear hp hall ha
      go_wp2
      all_goals (go_ret; refine ⟨ret_bool ?_, rfl⟩; rw [HP.out, Bool.eq_iff_iff]; simp; omega)
end Go.Proofs.YthaepjeikicigaaGreatDoor

/- The document's own Split, walked. -/
namespace Go.Proofs.YthaepjeikicigaaGreatDoor
set_option maxRecDepth 20000
open Go.RowKit Pm

/-- Where the loop stands. -/
def At (l : Bs) (acc : List Bs) (fr i : Nat) : Prop :=
  (i ≤ l.length ∧ 1 ≤ fr ∧ fr ≤ i ∧ split l = sp acc ((l.drop fr).take (i - fr)) (l.drop i)) ∨ (i = l.length + 1 ∧ split l = some acc)

theorem At.other {l : Bs} {acc : List Bs} {fr i : Nat} (h : At l acc fr i) (hi : i < l.length) (hc : l[i] ≠ 47) : At l acc fr (i + 1) := by
  rcases h with ⟨h1, h2, h3, h4⟩ | ⟨h1, _⟩
  · refine Or.inl ⟨by omega, h2, by omega, ?_⟩
    rw [h4, List.drop_eq_getElem_cons hi]
    conv => lhs; unfold sp
    rw [if_pos hc]
    have e : (l.drop fr).take (i + 1 - fr) = (l.drop fr).take (i - fr) ++ [l[i]] := by
      rw [show i + 1 - fr = (i - fr) + 1 by omega, List.take_succ_eq_append_getElem (by simp; omega), List.getElem_drop]
      congr 2; simp [show fr + (i - fr) = i by omega]
    rw [e]
  · omega
theorem At.bad {l : Bs} {acc : List Bs} {fr i : Nat} (h : At l acc fr i) (hi : i ≤ l.length) (hc : ∀ h : i < l.length, l[i] = 47) (hb : isPart ((l.drop fr).take (i - fr)) = false ∨ 6 ≤ acc.length) : split l = none := by
  rcases h with ⟨h1, h2, h3, h4⟩ | ⟨h1, _⟩
  · rw [h4]
    have hn : ¬ (isPart ((l.drop fr).take (i - fr)) = true ∧ acc.length < 6) := by
      rintro ⟨a, b⟩
      rcases hb with hb | hb
      · rw [a] at hb; cases hb
      · omega
    by_cases hlt : i < l.length
    · rw [List.drop_eq_getElem_cons hlt]
      unfold sp
      rw [if_neg (by simpa using hc hlt), if_neg hn]
    · rw [show l.drop i = [] from List.drop_of_length_le (by omega)]
      unfold sp; rw [if_neg hn]
  · omega
theorem At.part {l : Bs} {acc : List Bs} {fr i : Nat} (h : At l acc fr i) (hi : i ≤ l.length) (hc : ∀ h : i < l.length, l[i] = 47) (hp : isPart ((l.drop fr).take (i - fr)) = true) (h6 : acc.length < 6) :
    At l (acc ++ [(l.drop fr).take (i - fr)]) (i + 1) (i + 1) := by
  rcases h with ⟨h1, h2, h3, h4⟩ | ⟨h1, _⟩
  · by_cases hlt : i < l.length
    · refine Or.inl ⟨by omega, by omega, Nat.le_refl _, ?_⟩
      rw [h4, List.drop_eq_getElem_cons hlt]
      conv => lhs; unfold sp
      rw [if_neg (by simpa using hc hlt), if_pos ⟨hp, h6⟩]
      simp
    · refine Or.inr ⟨by omega, ?_⟩
      rw [h4, show l.drop i = [] from List.drop_of_length_le (by omega)]
      unfold sp; rw [if_pos ⟨hp, h6⟩]
  · omega

def RRel (l : Bs) (w : World) (v f i : Value) (wr : World) : Prop :=
  ∃ (acc : List Bs) (fr j : Nat), j ≤ l.length + 1 ∧ 1 ≤ j ∧ f = .int .i64 fr ∧ i = .int .i64 j ∧ fr ≤ j ∧ acc.length ≤ 6 ∧ At l acc fr j ∧ Own w.heap.size wr v acc ∧ Below w.heap.size w wr

set_option maxRecDepth 100000 in
set_option maxHeartbeats 2000000 in
theorem rSplit_loop (c : UInt8) (r : Bs) (w : World) (hl : r.length ≤ 4611686018427387903) (hc : c = 47) (hr : r ≠ []) :
    Calls Tryz.prog 45 #[.string (B (c :: r))] w (SplitPost (c :: r) w) := by
  obtain ⟨i0, hi, hz0, hz1, hz2⟩ := info_parts Tryz.infoS
  obtain ⟨l, hle⟩ : ∃ l, l = c :: r := ⟨_, rfl⟩
  have hl0 : (l == [47]) = false := by rw [hle, hc]; simpa using hr
  have hlen : 1 ≤ l.length := by rw [hle]; simp
  have hl' : l.length ≤ 4611686018427387904 := by rw [hle]; simp; omega
  have hnil : l.isEmpty = false := by rw [hle]; rfl
  have hne : l ≠ [] := by rw [hle]; simp
  have hat : At l [] 1 1 := Or.inl ⟨by omega, by omega, by omega, by rw [hle, hc]; simpa using sp_split r hr⟩
  have hg0 : l[0] = 47 := by simp only [hle, hc, List.getElem_cons_zero]
  have hne2 : l ≠ [47] := by simpa using hl0
  rw [← hle]
  have HA := Lib.hid hat; clear hat hle
  go_enter Tryz.func45, Tryz.ntmps45
  go_wp2
  go_loopw [4, 5, 6] (fun v f i wr => RRel l w v f i wr) (fun _ _ i _ => l.length + 1 - (intOf i).toNat)
  case atStart => exact ⟨[], 1, 1, by omega, by omega, rfl, rfl, by omega, by simp, HA.out, Own.nil _ _, Below.refl _ _⟩
  case round =>
    clear HA hg0
    obtain ⟨acc, fr, j, hj, hj1, rfl, rfl, hfj, h6, hA, hown, hb⟩ := hrel
    have HA := Lib.hid hA; clear hA
    have hs := hb.size
    by_cases hjl : j ≤ l.length
    · by_cases hsl : ∃ h : j < l.length, l[j] ≠ 47
      · obtain ⟨hlt, h47⟩ := hsl
        have h47' : (((l[j]).toNat : Int) != 47) = true := by
          rw [bne_iff_ne]; intro h; apply h47; apply UInt8.toNat.inj; exact Int.ofNat_inj.1 h
        have hA' := Lib.hid (HA.out.other hlt h47)
        clear h47
        go_wp2
        go_roundw
        case rel => exact ⟨acc, fr, j + 1, by omega, by omega, rfl, by go_num, by omega, h6, hA'.out, hown, hb⟩
        case measure => simp [intOf]; omega
      · have h47 : ∀ h : j < l.length, l[j] = 47 := fun h => Decidable.not_not.1 fun k => hsl ⟨h, k⟩
        clear hsl
        have hcl : ((l.drop fr).take (j - fr)).length ≤ 9223372036854775807 := by simp; omega
        obtain ⟨ao, cap, rfl⟩ := hown.shape
        cases hp : isPart ((l.drop fr).take (j - fr)) with
        | false =>
          have hno := Lib.hid (HA.out.bad hjl h47 (Or.inl hp))
          have HP := Lib.hid (fun w => (by rw [← hp]; exact rPart_c _ w hcl : Calls Tryz.prog 61 #[.string (B ((l.drop fr).take (j - fr)))] w fun e w' => e = .returned (.bool false) ∧ w = w'))
          clear hp
          by_cases hlt : j < l.length
          · have h47' : (((l[j]).toNat : Int) != 47) = false := by rw [h47 hlt]; rfl
            clear h47
            go_wp2_with fail
            refine (HP.out _).mono ?_
            rintro e w1 ⟨rfl, rfl⟩
            go_wp2
            go_ret2
            exact ⟨_, by rw [hno.out]; rfl, by rw [hno.out]; exact Own.nil _ _, hb⟩
          · clear h47
            go_wp2_with fail
            refine (HP.out _).mono ?_
            rintro e w1 ⟨rfl, rfl⟩
            go_wp2
            go_ret2
            exact ⟨_, by rw [hno.out]; rfl, by rw [hno.out]; exact Own.nil _ _, hb⟩
        | true =>
          have HP := Lib.hid (fun w => (by rw [← hp]; exact rPart_c _ w hcl : Calls Tryz.prog 61 #[.string (B ((l.drop fr).take (j - fr)))] w fun e w' => e = .returned (.bool true) ∧ w = w'))
          by_cases h66 : acc.length < 6
          · have hA' := Lib.hid (HA.out.part hjl h47 hp h66)
            clear hp
            by_cases hlt : j < l.length
            · have h47' : (((l[j]).toNat : Int) != 47) = false := by rw [h47 hlt]; rfl
              clear h47
              go_wp2_with fail
              refine (HP.out _).mono ?_
              rintro e w1 ⟨rfl, rfl⟩
              go_wp2_with (at_builtin; go_must (refine wpList_append_own _ rfl _ _ 29 rfl w.heap.size 9 i0 (.string ⟨#[]⟩) 1 16 Tryz.underlying29 hi hz0 hz1 hz2 rfl (by decide) _ _ _ rfl (hown.1.alloc _) ⟨wr.heap.size, 0, none⟩ 1 1 [strV ((l.drop fr).take (j - fr))] rfl rfl (cell_one_new _ _ _) (one_c2 _) (by unfold maxLen; omega) (by omega) (by simp; omega) ?_; intro v' w2 hown' hgrow _))
              obtain ⟨hO, hB⟩ := Own.push hown.1 hb hs hown' hgrow
              clear hown' hgrow hown
              go_roundw
              case rel => exact ⟨acc ++ [((l.drop fr).take (j - fr))], j + 1, j + 1, by omega, by omega, by go_num, by go_num, by omega, by simp; omega, hA'.out, hO, hB⟩
              case measure => simp [intOf]; omega
            · clear h47
              go_wp2_with fail
              refine (HP.out _).mono ?_
              rintro e w1 ⟨rfl, rfl⟩
              go_wp2_with (at_builtin; go_must (refine wpList_append_own _ rfl _ _ 29 rfl w.heap.size 9 i0 (.string ⟨#[]⟩) 1 16 Tryz.underlying29 hi hz0 hz1 hz2 rfl (by decide) _ _ _ rfl (hown.1.alloc _) ⟨wr.heap.size, 0, none⟩ 1 1 [strV ((l.drop fr).take (j - fr))] rfl rfl (cell_one_new _ _ _) (one_c2 _) (by unfold maxLen; omega) (by omega) (by simp; omega) ?_; intro v' w2 hown' hgrow _))
              obtain ⟨hO, hB⟩ := Own.push hown.1 hb hs hown' hgrow
              clear hown' hgrow hown
              go_roundw
              case rel => exact ⟨acc ++ [((l.drop fr).take (j - fr))], j + 1, j + 1, by omega, by omega, by go_num, by go_num, by omega, by simp; omega, hA'.out, hO, hB⟩
              case measure => simp [intOf]; omega
          · have hno := Lib.hid (HA.out.bad hjl h47 (Or.inr (by omega)))
            clear hp
            by_cases hlt : j < l.length
            · have h47' : (((l[j]).toNat : Int) != 47) = false := by rw [h47 hlt]; rfl
              clear h47
              go_wp2_with fail
              refine (HP.out _).mono ?_
              rintro e w1 ⟨rfl, rfl⟩
              go_wp2
              go_ret2
              exact ⟨_, by rw [hno.out]; rfl, by rw [hno.out]; exact Own.nil _ _, hb⟩
            · clear h47
              go_wp2_with fail
              refine (HP.out _).mono ?_
              rintro e w1 ⟨rfl, rfl⟩
              go_wp2
              go_ret2
              exact ⟨_, by rw [hno.out]; rfl, by rw [hno.out]; exact Own.nil _ _, hb⟩
    · have hje : j = l.length + 1 := by omega
      have e : split l = some acc := by
        rcases HA.out with ⟨h, _⟩ | ⟨_, h⟩
        · omega
        · exact h
      have HE := Lib.hid e; clear e HA
      go_wp2
      go_ret2
      exact ⟨_, by rw [HE.out]; rfl, by rw [HE.out]; exact hown, hb⟩

set_option maxHeartbeats 400000 in
theorem rSplit_c (l : Bs) (w : World) (hl : l.length ≤ 4611686018427387904) :
    Calls Tryz.prog 45 #[.string (B l)] w (SplitPost l w) := by
  match l, hl with
  | [], _ =>
    go_enter Tryz.func45, Tryz.ntmps45
    go_wp2
    go_ret2
    exact ⟨_, by rw [split_nil]; rfl, by rw [split_nil]; exact Own.nil _ _, Below.refl _ _⟩
  | c :: r, hl =>
    by_cases hc : c = 47
    · by_cases hr : r = []
      · subst hc hr
        go_enter Tryz.func45, Tryz.ntmps45
        go_wp2
        go_ret2
        exact ⟨_, rfl, Own.nil _ _, Below.refl _ _⟩
      · exact rSplit_loop c r w (by simp at hl; omega) hc hr
    · have hne : ((c.toNat : Int) != 47) = true := by
        rw [bne_iff_ne]; intro h; apply hc; apply UInt8.toNat.inj; exact Int.ofNat_inj.1 h
      have h0 : (c :: r == [47]) = false := by
        rw [beq_eq_false_iff_ne]; rintro ⟨⟩; exact hc rfl
      have hn2 : ¬ (c = 47 ∧ r = []) := fun h => hc h.1
      have HS := Lib.hid (split_other (r := r) hc)
      clear hc
      simp at hl
      go_enter Tryz.func45, Tryz.ntmps45
      go_wp2
      go_ret2
      exact ⟨_, by rw [HS.out]; rfl, by rw [HS.out]; exact Own.nil _ _, Below.refl _ _⟩
end Go.Proofs.YthaepjeikicigaaGreatDoor

/- The document's own path functions, walked. -/
namespace Go.Proofs.YthaepjeikicigaaGreatDoor
set_option maxRecDepth 20000
open Go.RowKit Pm

set_option maxHeartbeats 1000000 in
theorem rpath_c (g cap : Nat) (p : Bs) (r : List Bs) (w : World) (h : Lies w g cap (p :: r)) (hn : (p :: r).length ≤ 1000) (hl : lens (p :: r) ≤ 500000000) :
    Calls Tryz.prog 47 #[.slice (some ⟨g, 0, none⟩) (r.length + 1) cap] w fun e w' => e = .returned (.string (B (joinP (p :: r)))) ∧ w = w' := by
  obtain ⟨ps, hps⟩ : ∃ ps, ps = p :: r := ⟨_, rfl⟩
  have hlen : ps.length = r.length + 1 := by rw [hps]; rfl
  rw [← hps] at h hn hl ⊢
  rw [← hlen]
  have h0 : ((ps.length : Int) == 0) = false := beq_eq_false_iff_ne.2 (by omega)
  have hjoin : joinP ps = flat ps := by rw [hps]; exact joinP_cons p r
  have HJ := Lib.hid hjoin; clear hjoin hps hlen
  have hc := h.cell
  unfold strV at hc
  have HC := Lib.hid hc; clear hc
  have hroom := h.room
  have hfl := flat_len ps
  have HF := Lib.hid hfl; clear hfl h
  go_enter Tryz.func47, Tryz.ntmps47
  go_wp2
  go_loop [3, 4] (fun o i => ∃ k : Nat, k ≤ ps.length ∧ i = .int .i64 k ∧ o = .string (B (flat (ps.take k)))) (fun _ i => ps.length - (intOf i).toNat)
  case atStart => exact ⟨0, Nat.zero_le _, rfl, rfl⟩
  case round =>
    obtain ⟨k, hk, rfl, rfl⟩ := hrel
    by_cases hlt : k < ps.length
    · have hc := HC.out k hlt
      have hst := flat_take_succ ps k hlt
      have hb : (flat (ps.take k)).length + 1 + (ps[k]).length ≤ 600000000 := by
        have e3 := congrArg List.length hst
        have e4 := flat_len (ps.take (k + 1))
        have e6 := lens_take_le ps (k + 1)
        have e7 : (ps.take (k + 1)).length ≤ ps.length := by rw [List.length_take]; omega
        simp only [List.length_append, List.length_cons, List.length_nil] at e3
        omega
      have HS := Lib.hid hst; clear hst
      generalize hx : ps[k] = x at hc hb HS
      clear hx
      generalize hJ : flat (ps.take k) = J at hb HS
      clear hJ
      go_wp2
      go_round
      case rel => exact ⟨k + 1, by omega, by go_num, by rw [HS.out]; simp⟩
      case measure => simp [intOf]; omega
    · have hke : k = ps.length := by omega
      subst hke
      rw [List.take_length]
      go_wp2
      go_ret
      exact ⟨by rw [HJ.out]; rfl, rfl⟩

theorem rpath_none (a : Option Addr) (c : Nat) (w : World) :
    Calls Tryz.prog 47 #[.slice a 0 c] w fun e w' => e = .returned (.string (B (joinP []))) ∧ w = w' := by
  go_enter Tryz.func47, Tryz.ntmps47
  go_wp2
  go_ret
  exact ⟨rfl, rfl⟩

theorem rpath_any (g cap : Nat) (ps : List Bs) (w : World) (h : Lies w g cap ps) (hP : Parts ps) :
    Calls Tryz.prog 47 #[.slice (some ⟨g, 0, none⟩) ps.length cap] w fun e w' => e = .returned (.string (B (joinP ps))) ∧ w = w' := by
  have h1 := hP.1
  have h2 := hP.lens
  cases ps with
  | nil => exact rpath_none _ _ _
  | cons p r => exact rpath_c g cap p r w h (by omega) (by omega)

set_option maxHeartbeats 400000 in
theorem rRight_g (l : Bs) (w : World) (hl : sz l) :
    Calls Tryz.prog 34 #[.string (B l)] w fun e w' => e = .returned (.bool (split l).isSome) ∧ Gr w w' := by
  go_enter Tryz.func34, Tryz.ntmps34
  go_wp2_with fail
  refine (rSplit_c l w hl).mono ?_
  rintro e w1 ⟨v, rfl, _, hb⟩
  go_wp2
  go_ret
  exact ⟨rfl, hb⟩

theorem no_parent {l : Bs} (h : parent l = none) : (split l).getD [] = [] := by
  unfold parent at h
  split at h
  · cases h
  · rename_i hx
    cases hs : split l with
    | none => rfl
    | some ps => cases ps with
      | nil => rfl
      | cons p r => exact absurd hs (hx p r)
theorem has_parent {l a : Bs} (h : parent l = some a) : ∃ p r, split l = some (p :: r) ∧ a = joinP (p :: r).dropLast := by
  unfold parent at h
  split at h
  · rename_i p r hs; injection h with h; exact ⟨p, r, hs, h.symm⟩
  · cases h

set_option maxHeartbeats 400000 in
theorem rParent_g (l : Bs) (w : World) (hl : sz l) :
    Calls Tryz.prog 30 #[.string (B l)] w fun e w' => e = .returned (.tuple #[.string (B ((parent l).getD [])), .bool (parent l).isSome]) ∧ Gr w w' := by
  cases hp : parent l with
  | none =>
    have HN := Lib.hid (no_parent hp); clear hp
    cases hs : (split l).isSome with
    | false =>
      have HS := Lib.hid hs; clear hs
      go_enter Tryz.func30, Tryz.ntmps30
      go_wp2_with fail
      refine (rSplit_c l w hl).mono ?_
      rintro e w1 ⟨v, rfl, hown, hb⟩
      rw [HS.out]
      go_wp2
      go_ret2
      exact ⟨rfl, hb⟩
    | true =>
      have HS := Lib.hid hs; clear hs
      go_enter Tryz.func30, Tryz.ntmps30
      go_wp2_with fail
      refine (rSplit_c l w hl).mono ?_
      rintro e w1 ⟨v, rfl, hown, hb⟩
      rw [HS.out]
      rw [HN.out] at hown
      obtain rfl := hown.2 rfl
      go_wp2
      go_ret2
      exact ⟨rfl, hb⟩
  | some a =>
    obtain ⟨p, r, hs, rfl⟩ := has_parent hp
    have hP := ((split_iff _ _).1 hs).1
    have HS := Lib.hid hs; clear hs hp
    go_enter Tryz.func30, Tryz.ntmps30
    go_wp2_with fail
    refine (rSplit_c l w hl).mono ?_
    rintro e w1 ⟨v, rfl, hown, hb⟩
    rw [HS.out] at hown ⊢
    obtain ⟨g, cap, rfl, hg, hlies⟩ := hown.lies
    have h6 := hP.1
    have hc1 := hlies.room
    have hc2 := hlies.most
    unfold maxLen at hc2
    simp only [List.length_cons] at hc1 h6
    have hd : (p :: r).dropLast = (p :: r).take r.length := by rw [List.dropLast_eq_take]; simp
    have hlen : ((p :: r).take r.length).length = r.length := by simp
    have hw := rpath_any g cap ((p :: r).take r.length) w1 (hlies.take _) (hP.take _)
    rw [hlen, ← hd] at hw
    have HW := Lib.hid hw; clear hw hlen hd hlies
    go_wp2_with fail
    refine HW.out.mono ?_
    rintro e w2 ⟨rfl, rfl⟩
    go_wp2
    go_ret2
    exact ⟨rfl, hb⟩

set_option maxHeartbeats 400000 in
theorem rLast_g (l : Bs) (w : World) (hl : sz l) :
    Calls Tryz.prog 25 #[.string (B l)] w fun e w' => e = .returned (.string (B (last l))) ∧ Gr w w' := by
  cases hp : parent l with
  | none =>
    have HN := Lib.hid (no_parent hp)
    have HL := Lib.hid (parent_none hp).2; clear hp
    cases hs : (split l).isSome with
    | false =>
      have HS := Lib.hid hs; clear hs
      go_enter Tryz.func25, Tryz.ntmps25
      go_wp2_with fail
      refine (rSplit_c l w hl).mono ?_
      rintro e w1 ⟨v, rfl, hown, hb⟩
      rw [HS.out]
      go_wp2
      go_ret
      exact ⟨by rw [HL.out]; rfl, hb⟩
    | true =>
      have HS := Lib.hid hs; clear hs
      go_enter Tryz.func25, Tryz.ntmps25
      go_wp2_with fail
      refine (rSplit_c l w hl).mono ?_
      rintro e w1 ⟨v, rfl, hown, hb⟩
      rw [HS.out]
      rw [HN.out] at hown
      obtain rfl := hown.2 rfl
      go_wp2
      go_ret
      exact ⟨by rw [HL.out]; rfl, hb⟩
  | some a =>
    obtain ⟨p, r, hs, rfl⟩ := has_parent hp
    obtain ⟨q, hq⟩ : ∃ q, (p :: r)[r.length]'(by simp) = q := ⟨_, rfl⟩
    have hlast : last l = q := by unfold last; rw [hs, ← hq]; simp [List.getLast_eq_getElem]
    have hP := ((split_iff _ _).1 hs).1
    have HS := Lib.hid hs; clear hs hp
    have HL := Lib.hid hlast; clear hlast
    go_enter Tryz.func25, Tryz.ntmps25
    go_wp2_with fail
    refine (rSplit_c l w hl).mono ?_
    rintro e w1 ⟨v, rfl, hown, hb⟩
    rw [HS.out] at hown ⊢
    obtain ⟨g, cap, rfl, hg, hlies⟩ := hown.lies
    have h6 := hP.1
    simp only [List.length_cons] at h6
    have hc := hlies.cell r.length (by simp)
    rw [hq] at hc
    unfold strV at hc
    clear hown hlies hq
    go_wp2
    go_ret
    exact ⟨by rw [HL.out]; rfl, hb⟩

theorem rPart_at (q : Bs) (b : Bool) (w : World) (hl : sz q) (h : isPart q = b) :
    Calls Tryz.prog 61 #[.string (B q)] w fun e w' => e = .returned (.bool b) ∧ w = w' := by
  rw [← h]; exact rPart_c q w (Nat.le_trans hl (by omega))

set_option maxHeartbeats 1000000 in
theorem rJoin_no (l q : Bs) (w : World) (hl : sz l) (hq : sz q) (hj : join l q = none) :
    Calls Tryz.prog 60 #[.string (B l), .string (B q)] w fun e w' => e = .returned (.tuple #[.string (B []), .bool false]) ∧ Gr w w' := by
  cases hs : split l with
  | none =>
    have HS := Lib.hid hs; clear hs hj
    go_enter Tryz.func60, Tryz.ntmps60
    go_wp2_with fail
    refine (rSplit_c l w hl).mono ?_
    rintro e w1 ⟨v, rfl, hown, hb⟩
    rw [HS.out]
    go_wp2
    go_ret2
    exact ⟨rfl, hb⟩
  | some ps =>
    have HS := Lib.hid hs
    cases hp : isPart q with
    | false =>
      have HP := Lib.hid (fun w => rPart_at q false w hq hp); clear hp hj hs
      go_enter Tryz.func60, Tryz.ntmps60
      go_wp2_with fail
      refine (rSplit_c l w hl).mono ?_
      rintro e w1 ⟨v, rfl, hown, hb⟩
      rw [HS.out]
      go_wp2_with fail
      refine (HP.out _).mono ?_
      rintro e w2 ⟨rfl, rfl⟩
      go_wp2
      go_ret2
      exact ⟨rfl, hb⟩
    | true =>
      have h6 : 6 ≤ ps.length := by
        unfold join at hj; rw [hs] at hj; simp only at hj
        by_cases h : ps.length < 6
        · rw [if_pos ⟨hp, h⟩] at hj; cases hj
        · omega
      have h66 := ((split_iff _ _).1 hs).1.1
      have HP := Lib.hid (fun w => rPart_at q true w hq hp); clear hp hj hs
      go_enter Tryz.func60, Tryz.ntmps60
      go_wp2_with fail
      refine (rSplit_c l w hl).mono ?_
      rintro e w1 ⟨v, rfl, hown, hb⟩
      rw [HS.out] at hown ⊢
      have hown : Own w.heap.size w1 v ps := hown
      obtain ⟨ao, cap, rfl⟩ := hown.shape
      go_wp2_with fail
      refine (HP.out _).mono ?_
      rintro e w2 ⟨rfl, rfl⟩
      go_wp2
      go_ret2
      exact ⟨rfl, hb⟩

theorem rpath_snoc (b0 : Nat) (v : Value) (ps : List Bs) (q : Bs) (w : World) (h : Own b0 w v (ps ++ [q])) (hP : Parts (ps ++ [q])) :
    Calls Tryz.prog 47 #[v] w fun e w' => e = .returned (.string (B (joinP (ps ++ [q])))) ∧ w = w' := by
  cases he : ps ++ [q] with
  | nil => simp at he
  | cons p r =>
    rw [he] at h hP
    obtain ⟨g, cap, rfl, _, hl⟩ := h.lies
    exact rpath_any g cap (p :: r) w hl hP

theorem Lies.news {w : World} {g cap : Nat} {ps : List Bs} (h : Lies w g cap ps) : ∀ j u, (ps.map strV)[j]? = some u → w.cell? ((⟨g, 0, none⟩ : Addr).add j) = some u := by
  intro j u hj
  rw [List.getElem?_map, Option.map_eq_some_iff] at hj
  obtain ⟨x, hx, rfl⟩ := hj
  obtain ⟨hlt, rfl⟩ := List.getElem?_eq_some_iff.1 hx
  have e : (⟨g, 0, none⟩ : Addr).add j = ⟨g, j, none⟩ := by cases j <;> simp [Addr.add]
  rw [e]; exact h.cell j hlt
theorem many_c2 (ps : List Bs) : ∀ u, u ∈ ps.map strV → u.oneCell' = true := by
  intro u hu; simp at hu; obtain ⟨x, _, rfl⟩ := hu; rfl

set_option maxHeartbeats 1000000 in
theorem rJoin_yes (l q : Bs) (w : World) (hl : sz l) (hq : sz q) (ps : List Bs) (hs : split l = some ps) (hp : isPart q = true) (h6 : ps.length < 6) :
    Calls Tryz.prog 60 #[.string (B l), .string (B q)] w fun e w' => e = .returned (.tuple #[.string (B (joinP (ps ++ [q]))), .bool true]) ∧ Gr w w' := by
  obtain ⟨i0, hi, hz0, hz1, hz2⟩ := info_parts Tryz.infoS
  have hP := ((split_iff _ _).1 hs).1
  have HS := Lib.hid hs; clear hs
  have HP := Lib.hid (fun w => rPart_at q true w hq hp)
  go_enter Tryz.func60, Tryz.ntmps60
  go_wp2_with fail
  refine (rSplit_c l w hl).mono ?_
  rintro e w1 ⟨v, rfl, hown, hb⟩
  rw [HS.out] at hown ⊢
  have hown : Own w.heap.size w1 v ps := hown
  have hs1 := hb.size
  cases ps with
  | nil =>
    obtain rfl := hown.2 rfl
    go_wp2_with fail
    refine (HP.out _).mono ?_
    rintro e w2 ⟨rfl, rfl⟩
    have hrow : (w1.alloc (.cells #[] 9)).ownsRow w.heap.size 9 1 (.slice (some ⟨w1.heap.size, 0, none⟩) 0 0) 0 [] := World.ownsRow_lit w1 #[] 0 hs1 (by simp [maxLen]) rfl
    have hs2 : w.heap.size ≤ (w1.alloc (.cells #[] 9)).heap.size := by simp; omega
    have hb2 := hb.alloc hs1 (.cells #[] 9)
    have b1 := cell_one_new (w1.alloc (.cells #[] 9)) (strV q) 9
    simp at b1
    go_wp2_with (first
      | (at_builtin; refine wpList_append_own_none rfl (.tmp 25) (.tmp 26) 29 rfl w.heap.size 9 i0 1 Tryz.underlying29 hi _ _ _ rfl hrow rfl ?_)
      | (at_builtin; go_must (refine wpList_append_own _ rfl (.tmp 27) (.tmp 29) 29 rfl w.heap.size 9 i0 (.string ⟨#[]⟩) 1 16 Tryz.underlying29 hi hz0 hz1 hz2 rfl (by decide) _ _ _ rfl (hrow.alloc _) ⟨w1.heap.size + 1, 0, none⟩ 1 1 [strV q] rfl rfl b1 (one_c2 _) (by unfold maxLen; omega) (by omega) (by simp; omega) ?_; intro v' w3 hown' hgrow _)))
    obtain ⟨hO, hB⟩ := Own.push (acc := []) hrow hb2 hs2 hown' hgrow
    clear hown' hgrow
    have HW := Lib.hid (rpath_snoc w.heap.size v' [] q w3 hO (hP.snoc h6 hp))
    clear hO
    refine HW.out.mono ?_
    rintro e w4 ⟨rfl, rfl⟩
    go_wp2
    go_ret2
    exact ⟨rfl, hB⟩
  | cons p r =>
    obtain ⟨g, cap, rfl, hg, hlies⟩ := hown.lies
    have h66 := h6
    simp only [List.length_cons] at h66
    have hcap := hlies.room
    have hmost := hlies.most
    unfold maxLen at hmost
    simp only [List.length_cons] at hcap
    have hlies2 := hlies.below (Below.alloc (Below.refl w1.heap.size w1) (Nat.le_refl _) (.cells #[] 9)) hlies.lt
    have hnews := hlies2.news
    have hrow : (w1.alloc (.cells #[] 9)).ownsRow w.heap.size 9 1 (.slice (some ⟨w1.heap.size, 0, none⟩) 0 0) 0 [] := World.ownsRow_lit w1 #[] 0 hs1 (by simp [maxLen]) rfl
    have hs2 : w.heap.size ≤ (w1.alloc (.cells #[] 9)).heap.size := by simp; omega
    have hb2 := hb.alloc hs1 (.cells #[] 9)
    clear hown hlies hlies2
    go_wp2_with fail
    refine (HP.out _).mono ?_
    rintro e w2 ⟨rfl, rfl⟩
    go_wp2_with (at_builtin; go_must (refine wpList_append_own _ rfl (.tmp 25) (.tmp 26) 29 rfl w.heap.size 9 i0 (.string ⟨#[]⟩) 1 16 Tryz.underlying29 hi hz0 hz1 hz2 rfl (by decide) _ _ _ rfl hrow ⟨g, 0, none⟩ (r.length + 1) cap ((p :: r).map strV) rfl (by simp) hnews (many_c2 _) (by unfold maxLen; omega) (by omega) hs2 ?_))
    intro v1 W hrow1 hgrow1 _
    have hB1 := hb2.grown hgrow1 hs2 (fun k hk => (hrow.lt k hk).1)
    have hS1 := hB1.size
    have hrow1' : W.ownsRow w.heap.size 9 1 v1 (p :: r).length ((p :: r).map strV) := by simpa using hrow1
    clear hrow1 hgrow1 hrow hnews hb2 hs2
    go_wp2_with (at_builtin; go_must (refine wpList_append_own _ rfl (.tmp 27) (.tmp 29) 29 rfl w.heap.size 9 i0 (.string ⟨#[]⟩) 1 16 Tryz.underlying29 hi hz0 hz1 hz2 rfl (by decide) _ _ _ rfl (hrow1'.alloc _) ⟨W.heap.size, 0, none⟩ 1 1 [strV q] rfl rfl (cell_one_new _ _ _) (one_c2 _) (by unfold maxLen; simp; omega) (by simp; omega) (by simp; omega) ?_; intro v' w3 hown' hgrow _))
    obtain ⟨hO, hB⟩ := Own.push hrow1' hB1 hS1 hown' hgrow
    clear hown' hgrow
    have HW := Lib.hid (rpath_snoc w.heap.size v' (p :: r) q w3 hO (hP.snoc h6 hp))
    clear hO
    refine HW.out.mono ?_
    rintro e w4 ⟨rfl, rfl⟩
    go_wp2
    go_ret2
    exact ⟨rfl, hB⟩

theorem rJoin_g (l q : Bs) (w : World) (hl : sz l) (hq : sz q) :
    Calls Tryz.prog 60 #[.string (B l), .string (B q)] w fun e w' => e = .returned (.tuple #[.string (B ((join l q).getD [])), .bool (join l q).isSome]) ∧ Gr w w' := by
  cases hj : join l q with
  | none => exact rJoin_no l q w hl hq hj
  | some c =>
    unfold join at hj
    split at hj
    · rename_i ps hs
      split at hj
      · rename_i hc
        injection hj with hj; subst hj
        exact rJoin_yes l q w hl hq ps hs hc.1 hc.2
      · cases hj
    · cases hj

/-- Equal, element by element. -/
theorem rSame_c (g1 c1 g2 c2 : Nat) (a b : List Bs) (w : World) (h1 : Lies w g1 c1 a) (h2 : Lies w g2 c2 b) (hab : a = b) :
    Calls Tryz.prog 35 #[.slice (some ⟨g1, 0, none⟩) a.length c1, .slice (some ⟨g2, 0, none⟩) b.length c2] w fun e w' => e = .returned (.bool true) ∧ Dr w w' := by
  subst hab
  have hc1 := h1.cell
  have hc2 := h2.cell
  have hr1 := h1.room
  have hm1 := h1.most
  unfold strV at hc1 hc2
  unfold maxLen at hm1
  have H1 := Lib.hid hc1; clear hc1 h1
  have H2 := Lib.hid hc2; clear hc2 h2
  go_enter Tryz.func35, Tryz.ntmps35
  go_wp2
  go_loopw [5] (fun i wr => ∃ k : Nat, k ≤ a.length ∧ i = .int .i64 k ∧ Dr w wr) (fun i _ => a.length - (intOf i).toNat)
  case atStart => exact ⟨0, Nat.zero_le _, rfl, Dr.refl _⟩
  case round =>
    obtain ⟨k, hk, rfl, hd⟩ := hrel
    by_cases hlt : k < a.length
    · have e1 := H1.out k hlt
      have e2 := H2.out k hlt
      generalize a[k] = x at e1 e2
      have e1' : wr.cell? ⟨g1, k, none⟩ = some (.string (B x)) := by obtain ⟨n, rfl⟩ := hd; exact e1
      have e2' : wr.cell? ⟨g2, k, none⟩ = some (.string (B x)) := by obtain ⟨n, rfl⟩ := hd; exact e2
      have hlti : (k : Int) < (a.length : Int) := by omega
      clear e1 e2
      go_wp2
      go_quiet (fail)
      go_wp2
      go_roundw
      case rel => exact ⟨k + 1, by omega, by go_num, hd.trans (Dr.of _ _)⟩
      case measure => simp [intOf]; omega
    · go_wp2
      go_ret
      exact ⟨rfl, hd⟩
end Go.Proofs.YthaepjeikicigaaGreatDoor

/- The document's own In and Numbered, walked. -/
namespace Go.Proofs.YthaepjeikicigaaGreatDoor
set_option maxRecDepth 20000
open Go.RowKit Pm

theorem inB_false {l q : Bs} (h : (split l).isSome = false ∨ (split q).isSome = false) : inB l q = false := by
  unfold inB
  cases h1 : split l with
  | none => rfl
  | some a => cases h2 : split q with
    | none => rfl
    | some b => rw [h1, h2] at h; simp at h

set_option maxHeartbeats 1000000 in
theorem rNumbered_no (p : Bs) (n : Int) (w : World) (h : n < 0 ∨ 9999 < n) :
    Calls Tryz.prog 59 #[.string (B p), .int .i64 n] w fun e w' => e = .returned (.tuple #[.string (B []), .bool false]) ∧ Gr w w' := by
  by_cases h1 : n < 0
  · clear h
    go_enter Tryz.func59, Tryz.ntmps59
    go_wp2
    go_ret2
    exact ⟨rfl, Gr.refl _⟩
  · have h2 := h.resolve_left h1
    clear h
    go_enter Tryz.func59, Tryz.ntmps59
    go_wp2
    go_ret2
    exact ⟨rfl, Gr.refl _⟩

set_option maxHeartbeats 1000000 in
theorem rNumbered_yes (p : Bs) (k : Nat) (w : World) (hp : p.length ≤ 1000000) (hk : k ≤ 9999) :
    Calls Tryz.prog 59 #[.string (B p), .int .i64 k] w fun e w' => e = .returned (.tuple #[.string (B ((numbered p k).getD [])), .bool (numbered p k).isSome]) ∧ Gr w w' := by
  have h0 : (0 : Int) ≤ (k : Int) := by omega
  have h9 : (k : Int) ≤ 9999 := by omega
  have hdata : strOfNums [48 + (k : Int) / 1000, 48 + (k : Int) / 100 % 10, 48 + (k : Int) / 10 % 10, 48 + (k : Int) % 10] = B (dig k) := by
    apply ByteArray.ext; apply Array.toList_inj.1
    rw [strOfNums_data]
    show _ = dig k
    unfold dig
    simp only [List.map_cons, List.map_nil]
    rw [show (48 + (k : Int) / 1000).toNat = 48 + k / 1000 by omega, show (48 + (k : Int) / 100 % 10).toNat = 48 + k / 100 % 10 by omega,
      show (48 + (k : Int) / 10 % 10).toNat = 48 + k / 10 % 10 by omega, show (48 + (k : Int) % 10).toNat = 48 + k % 10 by omega]
  have hconv : (convert 91 9 (.slice (some ⟨w.heap.size, 0, none⟩) 4 4)).run Tryz.prog (w.alloc (.cells #[.int .u8 (48 + (k : Int) / 1000), .int .u8 (48 + (k : Int) / 100 % 10), .int .u8 (48 + (k : Int) / 10 % 10), .int .u8 (48 + (k : Int) % 10)] 5)) = .ok (.string (B (dig k))) (w.alloc (.cells #[.int .u8 (48 + (k : Int) / 1000), .int .u8 (48 + (k : Int) / 100 % 10), .int .u8 (48 + (k : Int) / 10 % 10), .int .u8 (48 + (k : Int) % 10)] 5)) := by
    rw [← hdata]
    refine run_convert_bytes_arg (P := Tryz.prog) _ 91 5 Tryz.underlying91 Tryz.underlying5 w.heap.size 0 4 4 [48 + (k : Int) / 1000, 48 + (k : Int) / 100 % 10, 48 + (k : Int) / 10 % 10, 48 + (k : Int) % 10] rfl ?_ 9 Tryz.underlying9
    intro i hi
    rcases i with _ | _ | _ | _ | i
    · simp
    · simp
    · simp
    · simp
    · omega
  have hdl : (dig k).length = 4 := rfl
  have hb : Gr w (w.alloc (.cells #[.int .u8 (48 + (k : Int) / 1000), .int .u8 (48 + (k : Int) / 100 % 10), .int .u8 (48 + (k : Int) / 10 % 10), .int .u8 (48 + (k : Int) % 10)] 5)) := Below.alloc (Below.refl _ w) (Nat.le_refl _) _
  have HD := Lib.hid hdl
  have hpl : (p ++ dig k).length ≤ 4611686018427387904 := by simp [hdl]; omega
  have h4 : (dig k).length ≤ 4 := by omega
  clear hdata hdl
  generalize hx : dig k = x at hconv hpl h4 HD
  cases hpart : isPart (p ++ x) with
  | false =>
    have hnum : numbered p k = none := by
      unfold numbered; rw [if_neg]; rintro ⟨_, _, h⟩; rw [Int.toNat_natCast, hx, hpart] at h; cases h
    rw [hnum]
    have HP := Lib.hid (fun w => rPart_at (p ++ x) false w hpl hpart); clear hpart hnum hx
    go_enter Tryz.func59, Tryz.ntmps59
    go_wp2_with fail
    refine (HP.out _).mono ?_
    rintro e w1 ⟨rfl, rfl⟩
    go_wp2
    go_ret2
    exact ⟨rfl, hb⟩
  | true =>
    have hnum : numbered p k = some (p ++ x) := by
      unfold numbered; rw [if_pos]
      · rw [Int.toNat_natCast, hx]
      · exact ⟨h0, h9, by rw [Int.toNat_natCast, hx]; exact hpart⟩
    rw [hnum]
    have HP := Lib.hid (fun w => rPart_at (p ++ x) true w hpl hpart); clear hpart hnum hx
    go_enter Tryz.func59, Tryz.ntmps59
    go_wp2_with fail
    refine (HP.out _).mono ?_
    rintro e w1 ⟨rfl, rfl⟩
    go_wp2
    go_ret2
    exact ⟨rfl, hb⟩

theorem rNumbered_g (p : Bs) (n : Int) (w : World) (hp : p.length ≤ 1000000) :
    Calls Tryz.prog 59 #[.string (B p), .int .i64 n] w fun e w' => e = .returned (.tuple #[.string (B ((numbered p n).getD [])), .bool (numbered p n).isSome]) ∧ Gr w w' := by
  by_cases h : n < 0 ∨ 9999 < n
  · have hnum : numbered p n = none := by unfold numbered; rw [if_neg]; omega
    rw [hnum]; exact rNumbered_no p n w h
  · obtain ⟨k, rfl⟩ := Int.eq_ofNat_of_zero_le (show 0 ≤ n by omega)
    exact rNumbered_yes p k w hp (by omega)
end Go.Proofs.YthaepjeikicigaaGreatDoor

