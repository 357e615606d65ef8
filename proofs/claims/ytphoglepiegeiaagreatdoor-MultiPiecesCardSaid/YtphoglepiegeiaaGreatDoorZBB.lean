/- A text of this proof. -/
import Derived.Lib.AppendIntMem
import Derived.Shelf.LaysM
import Derived.Shelf.Small.Bits
import Derived.Shelf.Small.Strs
import Derived.Shelf.Strconv.Itoa0
import Derived.Shelf.Strconv.Itoa1
import Derived.Shelf.Strconv.Itoa2
import Derived.Shelf.Strconv.Itoa3
import GoSem.Op.String
import Derived.Test.YtphoglepiegeiaaGreatDoorProg
import Derived.Test.YtphoglepiegeiaaGreatDoorZBA
namespace Go.Proofs
open Go.Shelf
def Tryz.lays106_ren : Go.Shelf.Ren := ⟨fun | 106 => 73 | 213 => 106 | 265 => 149 | n => n, fun | 9 => 9 | 3 => 3 | n => n, fun | n => n⟩
theorem Tryz.lays106 : Go.Proofs.Lays.n106 Tryz.prog Tryz.lays106_ren := {
 mixed := by kernel_rfl
 f106 := Tryz.func73.trans (congrArg some (by kernel_rfl))
 f213 := Tryz.func106.trans (congrArg some (by kernel_rfl))
 f265 := Tryz.func149.trans (congrArg some (by kernel_rfl))
 t3 := Tryz.underlying3
 a3 := Tryz.isAgg3
 z3 := Tryz.sizeOf3
 v3 := Tryz.zeroValue3
 t9 := Tryz.underlying9
 a9 := Tryz.isAgg9
 z9 := Tryz.sizeOf9
 v9 := Tryz.zeroValue9 }
open Go.RowKit in
theorem Tryz.strings_Compare (a b : ByteArray) (w : World) :
  Calls Tryz.prog 73 #[.string a, .string b] w fun e w' => e = .returned (.int .i64 (Lib.compareBytes a.data.toList b.data.toList)) ∧ w' = w := Any.strings_Compare Tryz.lays106 a b w
def Tryz.laysM243_ren : Go.Shelf.Ren := ⟨fun | 243 => 191 | 246 => 196 | 283 => 200 | 284 => 201 | 285 => 202 | 286 => 203 | 129 => 148 | 317 => 204 | 318 => 205 | 319 => 206 | 320 => 207 | 337 => 208 | 338 => 209 | n => n, fun | 3 => 3 | 9 => 9 | 2 => 2 | 4 => 4 | 171 => 208 | 0 => 0 | 53 => 163 | 37 => 174 | 5 => 5 | 173 => 210 | 212 => 214 | 51 => 161 | 20 => 20 | 213 => 215 | 46 => 127 | 232 => 217 | 233 => 218 | n => n, fun | 17 => 1 | 18 => 2 | 19 => 3 | n => n⟩
def Tryz.laysM171_ren : Go.Shelf.Ren := ⟨fun | 171 => 179 | 243 => 191 | 246 => 196 | 283 => 200 | 284 => 201 | 285 => 202 | 286 => 203 | 129 => 148 | 317 => 204 | 318 => 205 | 319 => 206 | 320 => 207 | 337 => 208 | 338 => 209 | n => n, fun | 3 => 3 | 9 => 9 | 2 => 2 | 4 => 4 | 171 => 208 | 0 => 0 | 53 => 163 | 37 => 174 | 5 => 5 | 173 => 210 | 212 => 214 | 51 => 161 | 20 => 20 | 213 => 215 | 46 => 127 | 232 => 217 | 233 => 218 | n => n, fun | 17 => 1 | 18 => 2 | 19 => 3 | n => n⟩
theorem Tryz.laysM171 : Go.Proofs.LaysM.n171 Tryz.prog Tryz.laysM171_ren := {
 mixed := by kernel_rfl
 f129 := Tryz.func148.trans (congrArg some (by kernel_rfl))
 f171 := Tryz.func179.trans (congrArg some (by kernel_rfl))
 f243 := Tryz.func191.trans (congrArg some (by kernel_rfl))
 f246 := Tryz.func196.trans (congrArg some (by kernel_rfl))
 f283 := Tryz.func200.trans (congrArg some (by kernel_rfl))
 f284 := Tryz.func201.trans (congrArg some (by kernel_rfl))
 f285 := Tryz.func202.trans (congrArg some (by kernel_rfl))
 f286 := Tryz.func203.trans (congrArg some (by kernel_rfl))
 f317 := Tryz.func204.trans (congrArg some (by kernel_rfl))
 f318 := Tryz.func205.trans (congrArg some (by kernel_rfl))
 f319 := Tryz.func206.trans (congrArg some (by kernel_rfl))
 f320 := Tryz.func207.trans (congrArg some (by kernel_rfl))
 f337 := Tryz.func208.trans (congrArg some (by kernel_rfl))
 f338 := Tryz.func209.trans (congrArg some (by kernel_rfl))
 t0 := Tryz.underlying0
 a0 := Tryz.isAgg0
 z0 := Tryz.sizeOf0
 v0 := Tryz.zeroValue0
 t2 := Tryz.underlying2
 a2 := Tryz.isAgg2
 z2 := Tryz.sizeOf2
 v2 := Tryz.zeroValue2
 t3 := Tryz.underlying3
 a3 := Tryz.isAgg3
 z3 := Tryz.sizeOf3
 v3 := Tryz.zeroValue3
 t4 := Tryz.underlying4
 a4 := Tryz.isAgg4
 z4 := Tryz.sizeOf4
 v4 := Tryz.zeroValue4
 t5 := Tryz.underlying5
 a5 := Tryz.isAgg5
 z5 := Tryz.sizeOf5
 v5 := Tryz.zeroValue5
 t9 := Tryz.underlying9
 a9 := Tryz.isAgg9
 z9 := Tryz.sizeOf9
 v9 := Tryz.zeroValue9
 t20 := Tryz.underlying20
 a20 := Tryz.isAgg20
 z20 := Tryz.sizeOf20
 v20 := Tryz.zeroValue20
 t37 := Tryz.underlying174
 a37 := Tryz.isAgg174
 z37 := Tryz.sizeOf174
 v37 := Tryz.zeroValue174
 t46 := Tryz.underlying127
 a46 := Tryz.isAgg127
 z46 := Tryz.sizeOf127
 v46 := Tryz.zeroValue127
 t51 := Tryz.underlying161
 a51 := Tryz.isAgg161
 z51 := Tryz.sizeOf161
 v51 := Tryz.zeroValue161
 t53 := Tryz.underlying163
 a53 := Tryz.isAgg163
 z53 := Tryz.sizeOf163
 v53 := Tryz.zeroValue163
 t171 := Tryz.underlying208
 a171 := Tryz.isAgg208
 z171 := Tryz.sizeOf208
 v171 := Tryz.zeroValue208
 t173 := Tryz.underlying210
 a173 := Tryz.isAgg210
 z173 := Tryz.sizeOf210
 v173 := Tryz.zeroValue210
 t212 := Tryz.underlying214
 a212 := Tryz.isAgg214
 z212 := Tryz.sizeOf214
 v212 := Tryz.zeroValue214
 t213 := Tryz.underlying215
 a213 := Tryz.isAgg215
 z213 := Tryz.sizeOf215
 t232 := Tryz.underlying217
 a232 := Tryz.isAgg217
 z232 := Tryz.sizeOf217
 v232 := Tryz.zeroValue217
 t233 := Tryz.underlying218
 a233 := Tryz.isAgg218
 z233 := Tryz.sizeOf218
 v233 := Tryz.zeroValue218
 g17 := by kernel_rfl
 g18 := by kernel_rfl
 g19 := by kernel_rfl
 i0 := by kernel_rfl
 i2 := by kernel_rfl
 i3 := by kernel_rfl
 i4 := by kernel_rfl
 i5 := by kernel_rfl
 i9 := by kernel_rfl
 i20 := by kernel_rfl
 i37 := by kernel_rfl
 i46 := by kernel_rfl
 i51 := by kernel_rfl
 i53 := by kernel_rfl
 i171 := by kernel_rfl
 i173 := by kernel_rfl
 i212 := by kernel_rfl
 i232 := by kernel_rfl
 i233 := by kernel_rfl
 m17 := by kernel_rfl
 m18 := by kernel_rfl
 m19 := by kernel_rfl }
open Go.RowKit Go.Sort Go.Lib in
theorem Tryz.strconv_Itoa (n : Int) (h0 : -9223372036854775808 ≤ n) (h1 : n ≤ 9223372036854775807) (w : World) (htab : Lib.TabIs Tryz.prog w "internal/strconv.uint64pow10" .u64 Lib.pow10Tab) :
  Calls Tryz.prog 179 #[.int .i64 n] w fun e w' => e = .returned (.string ⟨(Lib.itoa n).toArray⟩) ∧ ∃ k os, w' = grow (w.drewN k) os := Any.strconv_Itoa Tryz.laysM171 n h0 h1 w htab
def Tryz.lays171_ren : Go.Shelf.Ren := ⟨fun | 171 => 179 | 243 => 191 | 246 => 196 | 283 => 200 | 284 => 201 | 285 => 202 | 286 => 203 | 129 => 148 | 317 => 204 | 318 => 205 | 319 => 206 | 320 => 207 | 337 => 208 | 338 => 209 | n => n, fun | 3 => 3 | 9 => 9 | 2 => 2 | 4 => 4 | 171 => 208 | 0 => 0 | 53 => 163 | 37 => 174 | 5 => 5 | 173 => 210 | 212 => 214 | 51 => 161 | 20 => 20 | 213 => 215 | 46 => 127 | 232 => 217 | 233 => 218 | n => n, fun | 17 => 1 | 18 => 2 | 19 => 3 | n => n⟩
theorem Tryz.lays171 : Go.Proofs.Lays.n171 Tryz.prog Tryz.lays171_ren := {
 mixed := by kernel_rfl
 f129 := Tryz.func148.trans (congrArg some (by kernel_rfl))
 f171 := Tryz.func179.trans (congrArg some (by kernel_rfl))
 f243 := Tryz.func191.trans (congrArg some (by kernel_rfl))
 f246 := Tryz.func196.trans (congrArg some (by kernel_rfl))
 f283 := Tryz.func200.trans (congrArg some (by kernel_rfl))
 f284 := Tryz.func201.trans (congrArg some (by kernel_rfl))
 f285 := Tryz.func202.trans (congrArg some (by kernel_rfl))
 f286 := Tryz.func203.trans (congrArg some (by kernel_rfl))
 f317 := Tryz.func204.trans (congrArg some (by kernel_rfl))
 f318 := Tryz.func205.trans (congrArg some (by kernel_rfl))
 f319 := Tryz.func206.trans (congrArg some (by kernel_rfl))
 f320 := Tryz.func207.trans (congrArg some (by kernel_rfl))
 f337 := Tryz.func208.trans (congrArg some (by kernel_rfl))
 f338 := Tryz.func209.trans (congrArg some (by kernel_rfl))
 t0 := Tryz.underlying0
 a0 := Tryz.isAgg0
 z0 := Tryz.sizeOf0
 v0 := Tryz.zeroValue0
 t2 := Tryz.underlying2
 a2 := Tryz.isAgg2
 z2 := Tryz.sizeOf2
 v2 := Tryz.zeroValue2
 t3 := Tryz.underlying3
 a3 := Tryz.isAgg3
 z3 := Tryz.sizeOf3
 v3 := Tryz.zeroValue3
 t4 := Tryz.underlying4
 a4 := Tryz.isAgg4
 z4 := Tryz.sizeOf4
 v4 := Tryz.zeroValue4
 t5 := Tryz.underlying5
 a5 := Tryz.isAgg5
 z5 := Tryz.sizeOf5
 v5 := Tryz.zeroValue5
 t9 := Tryz.underlying9
 a9 := Tryz.isAgg9
 z9 := Tryz.sizeOf9
 v9 := Tryz.zeroValue9
 t20 := Tryz.underlying20
 a20 := Tryz.isAgg20
 z20 := Tryz.sizeOf20
 v20 := Tryz.zeroValue20
 t37 := Tryz.underlying174
 a37 := Tryz.isAgg174
 z37 := Tryz.sizeOf174
 v37 := Tryz.zeroValue174
 t46 := Tryz.underlying127
 a46 := Tryz.isAgg127
 z46 := Tryz.sizeOf127
 v46 := Tryz.zeroValue127
 t51 := Tryz.underlying161
 a51 := Tryz.isAgg161
 z51 := Tryz.sizeOf161
 v51 := Tryz.zeroValue161
 t53 := Tryz.underlying163
 a53 := Tryz.isAgg163
 z53 := Tryz.sizeOf163
 v53 := Tryz.zeroValue163
 t171 := Tryz.underlying208
 a171 := Tryz.isAgg208
 z171 := Tryz.sizeOf208
 v171 := Tryz.zeroValue208
 t173 := Tryz.underlying210
 a173 := Tryz.isAgg210
 z173 := Tryz.sizeOf210
 v173 := Tryz.zeroValue210
 t212 := Tryz.underlying214
 a212 := Tryz.isAgg214
 z212 := Tryz.sizeOf214
 v212 := Tryz.zeroValue214
 t213 := Tryz.underlying215
 a213 := Tryz.isAgg215
 z213 := Tryz.sizeOf215
 t232 := Tryz.underlying217
 a232 := Tryz.isAgg217
 z232 := Tryz.sizeOf217
 v232 := Tryz.zeroValue217
 t233 := Tryz.underlying218
 a233 := Tryz.isAgg218
 z233 := Tryz.sizeOf218
 v233 := Tryz.zeroValue218
 g17 := by kernel_rfl
 g18 := by kernel_rfl
 g19 := by kernel_rfl }
open Go.RowKit Go.Sort Go.Lib in
theorem Tryz.strconv_Itoa_small (i : Nat) (hi : i < 100) (w : World) :
  Calls Tryz.prog 179 #[.int .i64 i] w fun e w' => e = .returned (.string ⟨(Lib.decDigits i).toArray⟩) ∧ w' = w := Any.strconv_Itoa_small Tryz.lays171 i hi w
end Go.Proofs
set_option linter.unusedSimpArgs false
set_option linter.unusedVariables false
namespace Go.Proofs.YtphoglepiegeiaaGreatDoor
set_option maxRecDepth 20000
open Go.RowKit Pm
structure Lies (w : World) (g cap : Nat) (ps : List Bs) : Prop where
 lt : g < w.heap.size
 room : ps.length ≤ cap
 most : cap ≤ maxLen
 cell : ∀ j (h : j < ps.length), w.cell? ⟨g, j, none⟩ = some (strV ps[j])
theorem Own.lies {b0 : Nat} {w : World} {v : Value} {p : Bs} {r : List Bs} (h : Own b0 w v (p :: r)) :
  ∃ g cap, v = .slice (some ⟨g, 0, none⟩) (r.length + 1) cap ∧ b0 ≤ g ∧ Lies w g cap (p :: r) := by
 obtain ⟨ho, _⟩ := h
 rcases ho.2 with ⟨_, h0⟩ | ⟨g, cap, cur, rfl, hb, hg, hc, hm, hs, ht⟩
 ·simp at h0
 refine ⟨g, cap, rfl, hb, (Array.getElem?_eq_some_iff.1 hg).1, hc, hm, fun j hj => ?_⟩
 have := ho.cellAt j (by simpa using hj)
 rw [this, List.getElem?_map, List.getElem?_eq_getElem hj]
 rfl
theorem Own.shape {b0 : Nat} {w : World} {v : Value} {ps : List Bs} (h : Own b0 w v ps) : ∃ ao cap, v = .slice ao ps.length cap := by
 cases ps with
 | nil => exact ⟨none, 0, h.2 rfl⟩
 | cons p r => obtain ⟨g, cap, rfl, _⟩ := h.lies; exact ⟨_, _, rfl⟩
theorem Lies.below {w w' : World} {g cap : Nat} {ps : List Bs} (h : Lies w g cap ps) {b0 : Nat} (hb : Below b0 w w') (hg : g < b0) : Lies w' g cap ps :=
 ⟨Nat.lt_of_lt_of_le h.lt hb.size, h.room, h.most, fun j hj => by rw [hb.cell (p := ⟨g, j, none⟩) hg]; exact h.cell j hj⟩
theorem Lies.take {w : World} {g cap : Nat} {ps : List Bs} (h : Lies w g cap ps) (k : Nat) : Lies w g cap (ps.take k) :=
 ⟨h.lt, by have := h.room; rw [List.length_take]; omega, h.most, fun j hj => by
  rw [List.getElem_take]; exact h.cell j (by rw [List.length_take] at hj; omega)⟩
theorem Join_c (g cap : Nat) (ps : List Bs) (w : World) (h : Lies w g cap ps) (hn : ps.length ≤ 1000) (hl : lens ps ≤ 500000000) :
  Calls Tryz.prog 176 #[.slice (some ⟨g, 0, none⟩) ps.length cap, .string ⟨#[47]⟩] w fun e w' => e = .returned (.string (B (jn ps))) ∧ Below w.heap.size w w' := by
 match ps, h, hn, hl with
 | [], _, _, _ => exact (Join_none _ cap w).mono fun e w' ⟨he, hw⟩ => ⟨he, hw ▸ Below.refl _ _⟩
 | [p], h, _, _ =>
  refine (Join_one g 0 cap p w (h.cell 0 (by simp))).mono fun e w' ⟨he, hw⟩ => ⟨?_, hw ▸ Below.refl _ _⟩
  rw [he]; simp [jn, flat]
 | p :: q :: r, h, hn, hl =>
  exact Join_many g 0 cap p (q :: r) w (fun j hj => by simpa using h.cell j hj) h.lt (by simp) (by simp at hn ⊢; omega) (by have := h.room; simpa using this) hl
set_option maxHeartbeats 400000 in
theorem whole_c (g cap : Nat) (ps : List Bs) (w : World) (h : Lies w g cap ps) (hn : ps.length ≤ 1000) (hl : lens ps ≤ 500000000) :
  Calls Tryz.prog 152 #[.slice (some ⟨g, 0, none⟩) ps.length cap] w fun e w' => e = .returned (.string (B (joinP ps))) ∧ Below w.heap.size w w' := by
 have hjl : (jn ps).length ≤ 600000000 := by
  cases ps with
  | nil => simp [jn]
  | cons p r => have := flat_len r; simp [jn, lens] at hl hn this ⊢; omega
 go_enter Tryz.func152, Tryz.ntmps152
 go_wp2_with fail
 refine (Join_c g cap ps w h hn hl).mono ?_
 rintro e w1 ⟨rfl, hb⟩
 go_wp2
 go_ret
 refine ⟨?_, hb⟩
 rfl
theorem whole_own (b0 : Nat) (v : Value) (p : Bs) (r : List Bs) (w : World) (h : Own b0 w v (p :: r)) (hn : (p :: r).length ≤ 1000) (hl : lens (p :: r) ≤ 500000000) :
  Calls Tryz.prog 152 #[v] w fun e w' => e = .returned (.string (B (joinP (p :: r)))) ∧ Below w.heap.size w w' := by
 obtain ⟨g, cap, rfl, _, hlies⟩ := h.lies
 exact whole_c g cap (p :: r) w hlies hn hl
theorem whole_snoc (b0 : Nat) (v : Value) (ps : List Bs) (q : Bs) (w : World) (h : Own b0 w v (ps ++ [q])) (hP : Parts ps) (hq : isPart q = true) :
  Calls Tryz.prog 152 #[v] w fun e w' => e = .returned (.string (B (joinP (ps ++ [q])))) ∧ Below w.heap.size w w' := by
 have h1 := hP.1
 have h2 := hP.lens
 have h3 := isPart_len hq
 have h4 : (ps ++ [q]).length ≤ 1000 := by simp; omega
 have h5 : lens (ps ++ [q]) ≤ 500000000 := by unfold lens at h2 ⊢; rw [List.map_append, List.sum_append]; simp; omega
 cases he : ps ++ [q] with
 | nil => simp at he
 | cons p r => rw [he] at h h4 h5; exact whole_own b0 v p r w h h4 h5
set_option maxHeartbeats 400000 in
theorem Right_c (l : Bs) (w : World) (hl : l.length ≤ 4611686018427387904) :
  Calls Tryz.prog 64 #[.string (B l)] w fun e w' => e = .returned (.bool (split l).isSome) ∧ Below w.heap.size w w' := by
 go_enter Tryz.func64, Tryz.ntmps64
 go_wp2_with fail
 refine (Split_c l w hl).mono ?_
 rintro e w1 ⟨v, rfl, _, hb⟩
 go_wp2
 go_ret
 exact ⟨rfl, hb⟩
set_option maxHeartbeats 400000 in
theorem Parent_c (l : Bs) (w : World) (hl : l.length ≤ 4611686018427387904) :
  Calls Tryz.prog 110 #[.string (B l)] w fun e w' => e = .returned (.tuple #[.string (B ((parent l).getD [])), .bool (parent l).isSome]) ∧ Below w.heap.size w w' := by
 cases hs : split l with
 | none =>
  have hp : parent l = none := by unfold parent; rw [hs]
  rw [hp]
  have HS := Lib.hid hs; clear hs hp
  go_enter Tryz.func110, Tryz.ntmps110
  go_wp2_with fail
  refine (Split_c l w hl).mono ?_
  rintro e w1 ⟨v, rfl, hown, hb⟩
  rw [HS.out] at hown ⊢
  go_wp2
  go_ret2
  exact ⟨rfl, hb⟩
 | some ps => ?_
 cases ps with
 | nil =>
  have hp : parent l = none := by unfold parent; rw [hs]
  rw [hp]
  have HS := Lib.hid hs; clear hs hp
  go_enter Tryz.func110, Tryz.ntmps110
  go_wp2_with fail
  refine (Split_c l w hl).mono ?_
  rintro e w1 ⟨v, rfl, hown, hb⟩
  rw [HS.out] at hown ⊢
  obtain rfl := hown.2 rfl
  go_wp2
  go_ret2
  exact ⟨rfl, hb⟩
 | cons p r => ?_
 have hp : parent l = some (joinP (p :: r).dropLast) := by unfold parent; rw [hs]
 have hP := ((split_iff _ _).1 hs).1
 rw [hp]
 have HS := Lib.hid hs; clear hs hp
 go_enter Tryz.func110, Tryz.ntmps110
 go_wp2_with fail
 refine (Split_c l w hl).mono ?_
 rintro e w1 ⟨v, rfl, hown, hb⟩
 rw [HS.out] at hown ⊢
 obtain ⟨g, cap, rfl, hg, hlies⟩ := hown.lies
 have h6 := hP.1
 have hc1 := hlies.room
 have hc2 := hlies.most
 unfold maxLen at hc2
 simp only [List.length_cons] at hc1 h6
 have hd : (p :: r).dropLast = (p :: r).take r.length := by rw [List.dropLast_eq_take]; simp
 have hlen : ((p :: r).take r.length).length = r.length := by simp
 have hln := hP.lens
 have hw := whole_c g cap ((p :: r).take r.length) w1 (hlies.take _) (by omega) (Nat.le_trans (lens_take_le _ _) (by omega))
 rw [hlen, ← hd] at hw
 have HW := Lib.hid hw; clear hw hlen hd hln hlies
 go_wp2_with fail
 refine HW.out.mono ?_
 rintro e w2 ⟨rfl, hb2⟩
 have hb2' := hb.trans (hb2.mono hb.size)
 clear hb2
 go_wp2
 go_ret2
 exact ⟨rfl, hb2'⟩
set_option maxHeartbeats 400000 in
theorem Last_c (l : Bs) (w : World) (hl : l.length ≤ 4611686018427387904) :
  Calls Tryz.prog 161 #[.string (B l)] w fun e w' => e = .returned (.string (B (last l))) ∧ Below w.heap.size w w' := by
 by_cases hs : (split l).getD [] = []
 ·have hp : last l = [] := by unfold last; cases h : split l with
   | none => rfl
   | some ps => rw [h] at hs; cases ps with
    | nil => rfl
    | cons p r => simp at hs
  rw [hp]
  have HS := Lib.hid hs; clear hs hp
  go_enter Tryz.func161, Tryz.ntmps161
  go_wp2_with fail
  refine (Split_c l w hl).mono ?_
  rintro e w1 ⟨v, rfl, hown, hb⟩
  rw [HS.out] at hown
  obtain rfl := hown.2 rfl
  go_wp2
  go_ret
  exact ⟨rfl, hb⟩
 obtain ⟨p, r, hs'⟩ : ∃ p r, split l = some (p :: r) := by
  cases h : split l with
  | none => rw [h] at hs; exact absurd rfl hs
  | some ps => cases ps with
   | nil => rw [h] at hs; exact absurd rfl hs
   | cons p r => exact ⟨p, r, rfl⟩
 obtain ⟨q, hq⟩ : ∃ q, (p :: r)[r.length]'(by simp) = q := ⟨_, rfl⟩
 have hp : last l = q := by unfold last; rw [hs', ← hq]; simp [List.getLast_eq_getElem]
 have hP := ((split_iff _ _).1 hs').1
 rw [hp]
 have HS := Lib.hid hs'; clear hs hs' hp
 go_enter Tryz.func161, Tryz.ntmps161
 go_wp2_with fail
 refine (Split_c l w hl).mono ?_
 rintro e w1 ⟨v, rfl, hown, hb⟩
 rw [HS.out] at hown
 obtain ⟨g, cap, rfl, hg, hlies⟩ := hown.lies
 have h6 := hP.1
 simp only [List.length_cons] at h6
 have hc := hlies.cell r.length (by simp)
 rw [hq] at hc
 unfold strV at hc
 clear hown hlies hq
 go_wp2
 go_ret
 exact ⟨rfl, hb⟩
theorem isPart_call (q : Bs) (w : World) (hl : q.length ≤ 9223372036854775807) (b : Bool) (h : isPart q = b) :
  Calls Tryz.prog 180 #[.string (B q)] w fun e w' => e = .returned (.bool b) ∧ w = w' := by
 rw [← h]; exact isPart_c q w hl
set_option maxHeartbeats 800000 in
theorem Join_path_c (l q : Bs) (w : World) (hl : l.length ≤ 4611686018427387904) (hq : q.length ≤ 4611686018427387904) :
  Calls Tryz.prog 162 #[.string (B l), .string (B q)] w fun e w' => e = .returned (.tuple #[.string (B ((join l q).getD [])), .bool (join l q).isSome]) ∧ Below w.heap.size w w' := by
 obtain ⟨i0, hi, hz0, hz1, hz2⟩ := info_parts Tryz.infoS
 cases hs : split l with
 | none =>
  have hp : join l q = none := by unfold join; rw [hs]
  rw [hp]
  have HS := Lib.hid hs; clear hs hp
  go_enter Tryz.func162, Tryz.ntmps162
  go_wp2_with fail
  refine (Split_c l w hl).mono ?_
  rintro e w1 ⟨v, rfl, hown, hb⟩
  rw [HS.out]
  go_wp2
  go_ret2
  exact ⟨rfl, hb⟩
 | some ps => ?_
 have hP := ((split_iff _ _).1 hs).1
 have h6 := hP.1
 cases hpart : isPart q with
 | false =>
  have hp : join l q = none := by unfold join; rw [hs]; simp [hpart]
  rw [hp]
  have HS := Lib.hid hs; clear hs hp
  have HC := Lib.hid (fun w => isPart_call q w (by omega) false hpart); clear hpart
  go_enter Tryz.func162, Tryz.ntmps162
  go_wp2_with fail
  refine (Split_c l w hl).mono ?_
  rintro e w1 ⟨v, rfl, hown, hb⟩
  rw [HS.out]
  go_wp2_with fail
  refine (HC.out _).mono ?_
  rintro e w2 ⟨rfl, rfl⟩
  go_wp2
  go_ret2
  exact ⟨rfl, hb⟩
 | true => ?_
 have HC := Lib.hid (fun w => isPart_call q w (by omega) true hpart)
 by_cases hlt : ps.length < 6
 ·have hp : join l q = some (joinP (ps ++ [q])) := by unfold join; rw [hs]; simp [hpart, hlt]
  rw [hp]
  have HS := Lib.hid hs; clear hs hp
  have h5 : ((ps.length : Int) == 6) = false := beq_eq_false_iff_ne.2 (by omega)
  go_enter Tryz.func162, Tryz.ntmps162
  go_wp2_with fail
  refine (Split_c l w hl).mono ?_
  rintro e w1 ⟨v, rfl, hown, hb⟩
  rw [HS.out] at hown ⊢
  have hown : Own w.heap.size w1 v ps := hown
  obtain ⟨ao, cap, rfl⟩ := hown.shape
  have hs1 := hb.size
  go_wp2_with fail
  refine (HC.out _).mono ?_
  rintro e w2 ⟨rfl, rfl⟩
  go_wp2_with (at_builtin; go_must (refine wpList_append_own _ rfl _ _ 32 rfl w.heap.size 9 i0 (.string ⟨#[]⟩) 1 16 Tryz.underlying32 hi hz0 hz1 hz2 rfl (by decide) _ _ _ rfl (hown.1.alloc _) ⟨w1.heap.size, 0, none⟩ 1 1 [strV q] rfl rfl (cell_one_new _ _ _) (one_c2 _) (by unfold maxLen; omega) (by omega) (by simp; omega) ?_; intro v' w2 hown' hgrow _))
  obtain ⟨hO, hB⟩ := Own.push hown.1 hb hs1 hown' hgrow
  clear hown' hgrow hown
  have HW := Lib.hid (whole_snoc w.heap.size v' ps q w2 hO hP hpart)
  refine HW.out.mono ?_
  rintro e w3 ⟨rfl, hb3⟩
  have hb3' := hB.trans (hb3.mono hB.size)
  clear hb3 hO HW
  go_wp2
  go_ret2
  exact ⟨rfl, hb3'⟩
 have hp : join l q = none := by unfold join; rw [hs]; simp [hlt]
 rw [hp]
 have HS := Lib.hid hs; clear hs hp
 have h5 : ((ps.length : Int) == 6) = true := beq_iff_eq.2 (by omega)
 go_enter Tryz.func162, Tryz.ntmps162
 go_wp2_with fail
 refine (Split_c l w hl).mono ?_
 rintro e w1 ⟨v, rfl, hown, hb⟩
 rw [HS.out] at hown ⊢
 have hown : Own w.heap.size w1 v ps := hown
 obtain ⟨ao, cap, rfl⟩ := hown.shape
 go_wp2_with fail
 refine (HC.out _).mono ?_
 rintro e w2 ⟨rfl, rfl⟩
 go_wp2
 go_ret2
 exact ⟨rfl, hb⟩
theorem four (n : Nat) (h : n ≤ 9999) : (Lib.itoa n).length ≤ 4 ∧ ([48, 48, 48, 48].drop (Lib.itoa n).length).take (4 - (Lib.itoa n).length) ++ Lib.itoa n = dig n := by
 have e : Lib.itoa n = Lib.decDigits n := by unfold Lib.itoa; rw [if_neg (by omega)]; rfl
 rw [e]
 by_cases h1 : n < 10
 ·have d : Lib.decDigits n = [UInt8.ofNat (48 + n)] := by rw [Lib.decDigits, dif_pos h1]
  rw [d]; refine ⟨by simp, ?_⟩
  simp [dig, show n / 1000 = 0 by omega, show n / 100 = 0 by omega, show n / 10 = 0 by omega, Nat.mod_eq_of_lt h1]
 by_cases h2 : n < 100
 ·have d : Lib.decDigits n = [UInt8.ofNat (48 + n / 10), UInt8.ofNat (48 + n % 10)] := by
   rw [Lib.decDigits, dif_neg h1, Lib.decDigits, dif_pos (by omega)]; rfl
  rw [d]; refine ⟨by simp, ?_⟩
  simp [dig, show n / 1000 = 0 by omega, show n / 100 = 0 by omega, show n / 10 % 10 = n / 10 by omega]
 by_cases h3 : n < 1000
 ·have d : Lib.decDigits n = [UInt8.ofNat (48 + n / 100), UInt8.ofNat (48 + n / 10 % 10), UInt8.ofNat (48 + n % 10)] := by
   rw [Lib.decDigits, dif_neg h1, Lib.decDigits, dif_neg (by omega), Lib.decDigits, dif_pos (by omega), Nat.div_div_eq_div_mul]; rfl
  rw [d]; refine ⟨by simp, ?_⟩
  simp [dig, show n / 1000 = 0 by omega, show n / 100 % 10 = n / 100 by omega]
 have d : Lib.decDigits n = [UInt8.ofNat (48 + n / 1000), UInt8.ofNat (48 + n / 100 % 10), UInt8.ofNat (48 + n / 10 % 10), UInt8.ofNat (48 + n % 10)] := by
  rw [Lib.decDigits, dif_neg h1, Lib.decDigits, dif_neg (by omega), Lib.decDigits, dif_neg (by omega), Lib.decDigits, dif_pos (by omega), show n / 10 / 10 / 10 = n / 1000 by omega, show n / 10 / 10 = n / 100 by omega]; rfl
 rw [d]; refine ⟨by simp, ?_⟩
 simp [dig]
set_option maxHeartbeats 1000000 in
theorem Numbered_c (p : Bs) (n : Int) (w : World) (hp : p.length ≤ 4611686018427387904) (hn1 : -9223372036854775808 ≤ n) (hn2 : n ≤ 9223372036854775807)
  (ht : n < 100 ∨ Lib.TabIs Tryz.prog w "internal/strconv.uint64pow10" .u64 Lib.pow10Tab) :
  Calls Tryz.prog 160 #[.string (B p), .int .i64 n] w fun e w' => e = .returned (.tuple #[.string (B ((numbered p n).getD [])), .bool (numbered p n).isSome]) ∧ Below w.heap.size w w' := by
 by_cases h1 : n < 0
 ·have hnum : numbered p n = none := by unfold numbered; rw [if_neg (by omega)]
  rw [hnum]
  clear hnum ht
  go_enter Tryz.func160, Tryz.ntmps160
  go_wp2
  go_ret2
  exact ⟨rfl, Below.refl _ _⟩
 by_cases h2 : 9999 < n
 ·have hnum : numbered p n = none := by unfold numbered; rw [if_neg (by omega)]
  rw [hnum]
  clear hnum ht
  go_enter Tryz.func160, Tryz.ntmps160
  go_wp2
  go_ret2
  exact ⟨rfl, Below.refl _ _⟩
 by_cases h3 : 12 < p.length
 ·have hnum : numbered p n = none := by
   unfold numbered; rw [if_neg]; rintro ⟨_, _, h⟩
   have := (isPart_len h).2; simp at this; omega
  rw [hnum]
  clear hnum ht
  go_enter Tryz.func160, Tryz.ntmps160
  go_wp2
  go_ret2
  exact ⟨rfl, Below.refl _ _⟩
 obtain ⟨k, rfl⟩ := Int.eq_ofNat_of_zero_le (Int.not_lt.1 h1)
 have hI : Calls Tryz.prog 179 #[.int .i64 (k : Int)] w fun e w' => e = .returned (.string (B (Lib.itoa k))) ∧ Below w.heap.size w w' := by
  rcases ht with ht | ht
  ·refine (Tryz.strconv_Itoa_small k (by omega) w).mono ?_
   rintro e w' ⟨rfl, rfl⟩
   refine ⟨?_, Below.refl _ _⟩
   show Ending.returned (.string (B (Lib.decDigits k))) = _
   unfold Lib.itoa; rw [if_neg (by omega)]; rfl
  refine (Tryz.strconv_Itoa k (by omega) (by omega) w ht).mono ?_
  rintro e w' ⟨rfl, q, os, rfl⟩
  exact ⟨rfl, Lib.below_grow _ w (Nat.le_refl _) q os⟩
 obtain ⟨hlen, h4⟩ := four k (by omega)
 have HI := Lib.hid hI; clear hI
 have H4 := Lib.hid h4; clear h4 ht
 generalize Lib.itoa (k : Int) = d at HI H4 hlen
 cases hpart : isPart (p ++ dig k) with
 | false =>
  have hnum : numbered p k = none := by unfold numbered; rw [if_neg]; rintro ⟨_, _, h⟩; rw [Int.toNat_natCast, hpart] at h; cases h
  rw [hnum]
  have HC := Lib.hid (fun w hl => isPart_call (p ++ dig k) w hl false hpart); clear hpart hnum
  go_enter Tryz.func160, Tryz.ntmps160
  go_wp2_with fail
  refine HI.out.mono ?_
  rintro e w1 ⟨rfl, hb⟩
  go_wp2_with fail
  rw [H4.out]
  refine (HC.out _ (by simp [dig]; omega)).mono ?_
  rintro e w2 ⟨rfl, rfl⟩
  go_wp2
  go_ret2
  exact ⟨rfl, hb⟩
 | true => ?_
 have hnum : numbered p k = some (p ++ dig k) := by unfold numbered; rw [if_pos]; rw [Int.toNat_natCast]; exact ⟨by omega, by omega, by rw [Int.toNat_natCast]; exact hpart⟩
 rw [hnum]
 have HC := Lib.hid (fun w hl => isPart_call (p ++ dig k) w hl true hpart); clear hpart hnum
 go_enter Tryz.func160, Tryz.ntmps160
 go_wp2_with fail
 refine HI.out.mono ?_
 rintro e w1 ⟨rfl, hb⟩
 go_wp2_with fail
 rw [H4.out]
 refine (HC.out _ (by simp [dig]; omega)).mono ?_
 rintro e w2 ⟨rfl, rfl⟩
 go_wp2
 go_ret2
 exact ⟨rfl, hb⟩
end Go.Proofs.YtphoglepiegeiaaGreatDoor
namespace Go.Proofs.YtphoglepiegeiaaGreatDoor
set_option maxRecDepth 20000
namespace Pm
theorem Parts.init {p : Bs} {r : List Bs} (h : Parts (p :: r)) : Parts (p :: r).dropLast := by
 obtain ⟨h1, h2⟩ := h
 refine ⟨by simp at h1 ⊢; omega, fun q hq => h2 q (List.dropLast_subset _ hq)⟩
theorem Parts.snoc {ps : List Bs} {q : Bs} (h : Parts ps) (hn : ps.length < 6) (hq : isPart q = true) : Parts (ps ++ [q]) := by
 obtain ⟨h1, h2⟩ := h
 refine ⟨by simp; omega, fun x hx => ?_⟩
 rw [List.mem_append] at hx
 rcases hx with hx | hx
 ·exact h2 x hx
 simp at hx; subst hx; exact hq
theorem joinP_len {ps : List Bs} (h : Parts ps) : (joinP ps).length ≤ 100 := by
 have h1 := h.1
 have h2 := h.lens
 cases ps with
 | nil => simp [joinP, jn]
 | cons p r => rw [joinP_cons, flat_len]; omega
theorem parent_some {l a : Bs} (h : parent l = some a) :
  ∃ ps, split l = some ps ∧ join a (last l) = some l ∧ a.length ≤ 100 ∧ (last l).length ≤ 100 ∧ l.length ≤ 100 ∧ inB l a = true ∧ inB a l = false := by
 unfold parent at h
 split at h
 ·rename_i p r hs
  injection h with h; subst h
  have hP := ((split_iff _ _).1 hs)
  have hI := hP.1.init
  have hl : last l = (p :: r).getLast (by simp) := by unfold last; rw [hs]
  have hq : isPart ((p :: r).getLast (by simp)) = true := hP.1.2 _ (List.getLast_mem _)
  have hlt : (p :: r).dropLast.length < 6 := by have := hP.1.1; simp at this ⊢; omega
  refine ⟨p :: r, hs, ?_, joinP_len hI, ?_, ?_, ?_, ?_⟩
  ·rw [hl]; unfold join
   rw [split_join hI]
   simp only
   rw [if_pos ⟨hq, hlt⟩, List.dropLast_concat_getLast, hP.2]
  ·rw [hl]; have := (isPart_len hq).2; omega
  ·rw [← hP.2]; exact joinP_len hP.1
  ·unfold inB; rw [hs, split_join hI]
   simp only [List.isPrefixOf_iff_prefix]
   exact List.dropLast_prefix _
  unfold inB; rw [hs, split_join hI]
  simp only
  rw [← Bool.not_eq_true, List.isPrefixOf_iff_prefix]
  intro hh; have := hh.length_le; simp at this; omega
 cases h
theorem parent_none {l : Bs} (h : parent l = none) : (split l).isSome = (l == [47]) ∧ last l = [] := by
 unfold parent at h
 split at h
 ·cases h
 rename_i hx
 cases hs : split l with
 | none =>
  refine ⟨?_, by unfold last; rw [hs]⟩
  have : l ≠ [47] := by rintro rfl; cases hs
  simpa using this
 | some ps => ?_
 cases ps with
 | nil =>
  have := ((split_iff _ _).1 hs).2
  refine ⟨?_, by unfold last; rw [hs]⟩
  rw [← this]; rfl
 | cons p r => exact absurd hs (hx p r)
theorem join_some {l q c : Bs} (h : join l q = some c) : ∃ cs, split c = some cs ∧ parent c = some l ∧ last c = q ∧ c.length ≤ 100 := by
 unfold join at h
 split at h
 ·rename_i ps hs
  split at h
  ·rename_i hc
   injection h with h; subst h
   have hP := (split_iff _ _).1 hs
   have hS := hP.1.snoc hc.2 hc.1
   have h1 := split_join hS
   refine ⟨_, h1, ?_, ?_, joinP_len hS⟩
   ·unfold parent; rw [h1]
    cases hh : ps ++ [q] with
    | nil => simp at hh
    | cons a b => simp only; rw [← hh]; simp [hP.2]
   unfold last; rw [h1]
   cases hh : ps ++ [q] with
   | nil => simp at hh
   | cons a b => simp only [← hh]; simp
  cases h
 cases h
theorem in_refl {p : Bs} {ps : List Bs} (h : split p = some ps) : inB p p = true := by
 unfold inB; rw [h]; simp only [List.isPrefixOf_iff_prefix]; exact List.prefix_refl _
theorem Parts.take {ps : List Bs} (h : Parts ps) (k : Nat) : Parts (ps.take k) :=
 ⟨by have := h.1; rw [List.length_take]; omega, fun p hp => h.2 p (List.mem_of_mem_take hp)⟩
theorem pl_all : ∀ (k : Nat) (d : Bs), (∀ c ∈ d, okB c = true) → pl k d = min k d.length
 | 0, d, _ => by simp [pl]
 | k + 1, [], _ => by simp [pl]
 | k + 1, c :: d, h => by
  have := pl_all k d (fun x hx => h x (by simp [hx]))
  simp [pl, h c (by simp), this]
end Pm
open Go.RowKit Pm
def Gr (w w' : World) : Prop := Below w.heap.size w w'
theorem Gr.refl (w : World) : Gr w w := Below.refl _ _
theorem Gr.trans {a b c : World} (h : Gr a b) (k : Gr b c) : Gr a c := Below.trans h (Below.mono k h.size)
theorem Gr.drew {a b : World} (h : Gr a b) (n : Nat) : Gr a (b.drewN n) := below_drewN h n
def sz (l : Bs) : Prop := l.length ≤ 4611686018427387904
theorem sz_of {l : Bs} {k : Nat} (h : l.length ≤ k) (hk : k ≤ 4611686018427387904) : sz l := Nat.le_trans h hk
theorem Parent_g (l : Bs) (w : World) (hl : sz l) : Calls Tryz.prog 110 #[.string (B l)] w fun e w' => e = .returned (.tuple #[.string (B ((parent l).getD [])), .bool (parent l).isSome]) ∧ Gr w w' := Parent_c l w hl
theorem Last_g (l : Bs) (w : World) (hl : sz l) : Calls Tryz.prog 161 #[.string (B l)] w fun e w' => e = .returned (.string (B (last l))) ∧ Gr w w' := Last_c l w hl
theorem Right_g (l : Bs) (w : World) (hl : sz l) : Calls Tryz.prog 64 #[.string (B l)] w fun e w' => e = .returned (.bool (split l).isSome) ∧ Gr w w' := Right_c l w hl
theorem Join_g (l q : Bs) (w : World) (hl : sz l) (hq : sz q) : Calls Tryz.prog 162 #[.string (B l), .string (B q)] w fun e w' => e = .returned (.tuple #[.string (B ((join l q).getD [])), .bool (join l q).isSome]) ∧ Gr w w' := Join_path_c l q w hl hq
structure Tab (w : World) : Prop where
 is : Lib.TabIs Tryz.prog w "internal/strconv.uint64pow10" .u64 Lib.pow10Tab
theorem gPow : Tryz.prog.globalNamed "internal/strconv.uint64pow10" = some 1 := by kernel_rfl
theorem Tab.lt {w : World} (h : Tab w) : 1 < w.heap.size := by
 have := h.is
 unfold Lib.TabIs World.var? at this
 rw [gPow] at this
 simp only [Option.bind_some] at this
 rcases Nat.lt_or_ge 1 w.heap.size with k | k
 ·exact k
 rw [Array.getElem?_eq_none k] at this; cases this
theorem Tab.grown {w w' : World} (h : Tab w) (g : Gr w w') : Tab w' := ⟨var?_below g gPow h.lt h.is⟩
end Go.Proofs.YtphoglepiegeiaaGreatDoor
namespace Go.Proofs.YtphoglepiegeiaaGreatDoor
set_option maxRecDepth 20000
namespace Pm
structure Nd where
 path : Bs
 data : Bs
 ver : Int
 turn : Int
 own : Int
deriving DecidableEq
structure Opn where
 kind : Int
 path : Bs
 data : Bs
 ver : Int
 own : Int
 turns : Bool
deriving DecidableEq
structure Res where
 err : Int
 path : Bs
 data : Bs
 ver : Int
 names : List Bs
deriving DecidableEq
def Res.bad (e : Int) : Res := ⟨e, [], [], 0, []⟩
abbrev lt (a b : Bs) : Bool := Op.bytesLess a b
theorem lt_nil_right (a : Bs) : lt a [] = false := by cases a <;> rfl
theorem lt_cons (a b : UInt8) (x y : Bs) : lt (a :: x) (b :: y) = (decide (a < b) || (a == b && lt x y)) := rfl
theorem lt_irrefl : ∀ a : Bs, lt a a = false
 | [] => rfl
 | c :: a => by rw [lt_cons, lt_irrefl a]; simp
theorem lt_trans : ∀ {a b c : Bs}, lt a b = true → lt b c = true → lt a c = true
 | _, _, [], _, h => by rw [lt_nil_right] at h; cases h
 | _, [], _ :: _, h, _ => by rw [lt_nil_right] at h; cases h
 | [], _ :: _, _ :: _, _, _ => rfl
 | x :: a, y :: b, z :: c, h, k => by
  rw [lt_cons] at h k ⊢
  simp only [Bool.or_eq_true, Bool.and_eq_true, decide_eq_true_eq, beq_iff_eq] at h k ⊢
  rcases h with h | ⟨rfl, h⟩ <;> rcases k with k | ⟨rfl, k⟩
  ·exact .inl (UInt8.lt_trans h k)
  ·exact .inl h
  ·exact .inl k
  exact .inr ⟨rfl, lt_trans h k⟩
theorem lt_total : ∀ (a b : Bs), lt a b = false → lt b a = false → a = b
 | [], [], _, _ => rfl
 | [], _ :: _, h, _ => by cases h
 | _ :: _, [], _, h => by cases h
 | x :: a, y :: b, h, k => by
  rw [lt_cons] at h k
  simp only [Bool.or_eq_false_iff, Bool.and_eq_false_iff, decide_eq_false_iff_not, beq_eq_false_iff_ne] at h k
  have e : x = y := UInt8.le_antisymm (UInt8.not_lt.1 k.1) (UInt8.not_lt.1 h.1)
  subst e
  have h2 := h.2.resolve_left (fun f => f rfl)
  have k2 := k.2.resolve_left (fun f => f rfl)
  rw [lt_total a b h2 k2]
theorem lt_asymm {a b : Bs} (h : lt a b = true) : lt b a = false := by
 cases k : lt b a with
 | false => rfl
 | true => have := lt_trans h k; rw [lt_irrefl] at this; cases this
theorem lt_ne {a b : Bs} (h : lt a b = true) : a ≠ b := by
 rintro rfl; rw [lt_irrefl] at h; cases h
theorem lt_of {a b : Bs} (h : lt a b = false) (k : a ≠ b) : lt b a = true := by
 cases h2 : lt b a with
 | true => rfl
 | false => exact absurd (lt_total a b h h2) k
theorem lt_prefix : ∀ (a : Bs) (c : UInt8) (b : Bs), lt a (a ++ c :: b) = true
 | [], _, _ => rfl
 | x :: a, c, b => by rw [List.cons_append, lt_cons, lt_prefix a c b]; simp
def find (l : List Nd) (p : Bs) : Option Nd := l.find? (fun n => n.path == p)
def fitsB (n : Nd) : Bool := decide (n.data.length ≤ 256 ∧ 0 ≤ n.ver ∧ n.ver ≤ 281474976710656 ∧ 0 ≤ n.turn ∧ n.turn ≤ 10000 ∧ 0 ≤ n.own ∧ n.own ≤ 1099511627776 ∧ (n.own = 0 ∨ n.turn = 0))
def free (l : List Nd) (u : Bs) : Bool := match find l u with
 | some x => x.own == 0
 | none => false
def lies (l : List Nd) (n : Nd) : Bool := match parent n.path with
 | some u => free l u
 | none => false
def asc : List Nd → Prop
 | [] => True
 | [_] => True
 | a :: b :: r => lt a.path b.path = true ∧ asc (b :: r)
structure Tree (l : List Nd) : Prop where
 pos : 0 < l.length
 most : l.length ≤ 512
 root : (l[0]'pos).path = [47]
 free : (l[0]'pos).own = 0
 fit : ∀ i (h : i < l.length), fitsB l[i] = true
 up : ∀ i (h : i + 1 < l.length), lt l[i].path l[i+1].path = true
 lie : ∀ i (h : i < l.length), 0 < i → lies l l[i] = true
open Classical in
noncomputable def right (l : List Nd) : Bool := decide (Tree l)
theorem right_iff (l : List Nd) : right l = true ↔ Tree l := by unfold right; simp
theorem right_false {l : List Nd} (h : ¬ Tree l) : right l = false := by unfold right; simp [h]
theorem right_true {l : List Nd} (h : Tree l) : right l = true := by unfold right; simp [h]
def Asc (l : List Nd) : Prop := ∀ i j (hi : i < l.length) (hj : j < l.length), i < j → lt l[i].path l[j].path = true
theorem asc_of {l : List Nd} (h : ∀ i (h : i + 1 < l.length), lt l[i].path l[i+1].path = true) : Asc l := by
 intro i j hi hj hij
 obtain ⟨d, rfl⟩ : ∃ d, j = i + 1 + d := ⟨j - (i + 1), by omega⟩
 clear hij
 induction d with
 | zero => exact h i hj
 | succ d ih => exact lt_trans (ih (by omega)) (h (i + 1 + d) (by omega))
theorem Tree.asc {l : List Nd} (h : Tree l) : Asc l := asc_of h.up
theorem Asc.step {l : List Nd} (h : Asc l) : ∀ i (hi : i + 1 < l.length), lt l[i].path l[i+1].path = true := fun i hi => h i (i + 1) (by omega) hi (by omega)
theorem Asc.inj {l : List Nd} (h : Asc l) {i j : Nat} (hi : i < l.length) (hj : j < l.length) (e : l[i].path = l[j].path) : i = j := by
 rcases Nat.lt_trichotomy i j with k | k | k
 ·exact absurd e (lt_ne (h i j hi hj k))
 ·exact k
 exact absurd e.symm (lt_ne (h j i hj hi k))
theorem asc_iff {l : List Nd} : Asc l ↔ l.Pairwise (fun a b => lt a.path b.path = true) := by
 rw [List.pairwise_iff_getElem]; rfl
theorem Asc.filter {l : List Nd} (h : Asc l) (p : Nd → Bool) : Asc (l.filter p) := asc_iff.2 ((asc_iff.1 h).filter p)
theorem Asc.tail {a : Nd} {l : List Nd} (h : Asc (a :: l)) : Asc l := by
 rw [asc_iff] at h ⊢; exact (List.pairwise_cons.1 h).2
theorem Asc.head {a : Nd} {l : List Nd} (h : Asc (a :: l)) : ∀ b ∈ l, lt a.path b.path = true := by
 rw [asc_iff] at h; exact (List.pairwise_cons.1 h).1
theorem find_mem {l : List Nd} {p : Bs} {x : Nd} (h : find l p = some x) : x ∈ l ∧ x.path = p := by
 unfold find at h
 exact ⟨List.mem_of_find?_eq_some h, by simpa using List.find?_some h⟩
theorem find_none {l : List Nd} {p : Bs} : find l p = none ↔ ∀ x ∈ l, x.path ≠ p := by
 unfold find; rw [List.find?_eq_none]; simp
theorem find_of {l : List Nd} (ha : Asc l) {x : Nd} (h : x ∈ l) : find l x.path = some x := by
 induction l with
 | nil => simp at h
 | cons a l ih =>
  rw [List.mem_cons] at h
  unfold find
  rw [List.find?_cons]
  rcases h with rfl | h
  ·simp
  rw [show (a.path == x.path) = false from by simpa using lt_ne (ha.head x h)]
  exact ih ha.tail h
theorem find_iff {l : List Nd} (ha : Asc l) {p : Bs} {x : Nd} : find l p = some x ↔ x ∈ l ∧ x.path = p :=
 ⟨find_mem, fun ⟨h, e⟩ => e ▸ find_of ha h⟩
theorem parent_lt {l u : Bs} (h : parent l = some u) : lt u l = true := by
 unfold parent at h
 split at h
 ·rename_i p r hs
  injection h with h
  have hP := (split_iff _ _).1 hs
  have hne : (p :: r) ≠ [] := by simp
  have e := List.dropLast_concat_getLast hne
  generalize hd : (p :: r).dropLast = d at e h
  generalize (p :: r).getLast hne = q at e
  rw [← h, ← hP.2, ← e]
  cases d with
  | nil =>
   rw [List.nil_append, joinP_cons, flat_cons]
   have : isPart q = true := hP.1.2 q (by rw [← e]; simp)
   obtain ⟨k, _⟩ := isPart_len this
   cases q with
   | nil => simp at k
   | cons c q => rfl
  | cons a d => ?_
  rw [joinP_cons, List.cons_append, joinP_cons, ← List.cons_append]
  have : flat (a :: d ++ [q]) = flat (a :: d) ++ 47 :: (q ++ []) := by unfold flat; rw [List.map_append, List.flatten_append]; simp
  rw [this]; exact lt_prefix _ _ _
 cases h
theorem parent_root : parent [47] = none := rfl
end Pm
end Go.Proofs.YtphoglepiegeiaaGreatDoor
