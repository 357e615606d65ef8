/- A text of this proof. -/
import Derived.Deep.Upon
import Derived.Ground.SlsfProg
import Derived.Laws.EntriesVeiled
import Derived.Shelf.SlSortCmp.NoneTotal
import Derived.Shelf.SlSortCmp.WholeK
import Derived.Test.YtphoglepiegeiaaGreatDoorProg
import Derived.Test.YtphoglepiegeiaaGreatDoorZAD
import Derived.Test.YtphoglepiegeiaaGreatDoorZAE
import Derived.Test.YtphoglepiegeiaaGreatDoorZAI
import Derived.Test.YtphoglepiegeiaaGreatDoorZAK
import Derived.Test.YtphoglepiegeiaaGreatDoorZAL
import Derived.Test.YtphoglepiegeiaaGreatDoorZAR
namespace Go.Proofs
open Go.Shelf
def Tryz.sortN_ren : Go.Shelf.Ren := ⟨fun | 6 => 71 | 15 => 105 | 14 => 104 | 28 => 147 | 29 => 148 | 20 => 139 | 21 => 140 | 22 => 141 | 23 => 142 | 24 => 143 | 25 => 144 | 26 => 145 | 27 => 146 | 46 => 171 | 47 => 172 | 48 => 173 | 49 => 174 | 50 => 175 | 57 => 187 | n => n, fun | 22 => 22 | 24 => 79 | 25 => 102 | 3 => 3 | 39 => 127 | 0 => 0 | 53 => 161 | 55 => 163 | 4 => 4 | 46 => 155 | 45 => 154 | 50 => 128 | 5 => 5 | 9 => 9 | 66 => 176 | 70 => 180 | 76 => 189 | 77 => 190 | n => n, fun | n => n⟩
theorem Tryz.sortN : Go.Proofs.SlLaysF0.n6 Tryz.prog Tryz.sortN_ren := {
 mixed := by kernel_rfl
 f6 := ⟨Tryz.f71.name, by decide, Tryz.func71.trans (congrArg some (by kernel_rfl))⟩
 f14 := ⟨Tryz.f104.name, by decide, Tryz.func104.trans (congrArg some (by kernel_rfl))⟩
 f15 := Tryz.func105.trans (congrArg some (by kernel_rfl))
 f20 := ⟨Tryz.f139.name, by decide, Tryz.func139.trans (congrArg some (by kernel_rfl))⟩
 f21 := ⟨Tryz.f140.name, by decide, Tryz.func140.trans (congrArg some (by kernel_rfl))⟩
 f22 := ⟨Tryz.f141.name, by decide, Tryz.func141.trans (congrArg some (by kernel_rfl))⟩
 f23 := ⟨Tryz.f142.name, by decide, Tryz.func142.trans (congrArg some (by kernel_rfl))⟩
 f24 := ⟨Tryz.f143.name, by decide, Tryz.func143.trans (congrArg some (by kernel_rfl))⟩
 f25 := ⟨Tryz.f144.name, by decide, Tryz.func144.trans (congrArg some (by kernel_rfl))⟩
 f26 := ⟨Tryz.f145.name, by decide, Tryz.func145.trans (congrArg some (by kernel_rfl))⟩
 f27 := ⟨Tryz.f146.name, by decide, Tryz.func146.trans (congrArg some (by kernel_rfl))⟩
 f28 := Tryz.func147.trans (congrArg some (by kernel_rfl))
 f29 := Tryz.func148.trans (congrArg some (by kernel_rfl))
 f46 := ⟨Tryz.f171.name, by decide, Tryz.func171.trans (congrArg some (by kernel_rfl))⟩
 f47 := Tryz.func172.trans (congrArg some (by kernel_rfl))
 f48 := Tryz.func173.trans (congrArg some (by kernel_rfl))
 f49 := ⟨Tryz.f174.name, by decide, Tryz.func174.trans (congrArg some (by kernel_rfl))⟩
 f50 := ⟨Tryz.f175.name, by decide, Tryz.func175.trans (congrArg some (by kernel_rfl))⟩
 f57 := ⟨Tryz.f187.name, by decide, Tryz.func187.trans (congrArg some (by kernel_rfl))⟩
 t0 := Tryz.underlying0
 a0 := Tryz.isAgg0
 z0 := Tryz.sizeOf0
 v0 := Tryz.zeroValue0
 t3 := Tryz.underlying3
 a3 := Tryz.isAgg3
 z3 := Tryz.sizeOf3
 v3 := Tryz.zeroValue3
 t4 := Tryz.underlying4
 a4 := Tryz.isAgg4
 z4 := Tryz.sizeOf4
 v4 := Tryz.zeroValue4
 t5 := Tryz.underlying5
 a5 := Tryz.isAgg5
 z5 := Tryz.sizeOf5
 v5 := Tryz.zeroValue5
 t9 := Tryz.underlying9
 a9 := Tryz.isAgg9
 z9 := Tryz.sizeOf9
 v9 := Tryz.zeroValue9
 t22 := Tryz.underlying22
 a22 := Tryz.isAgg22
 z22 := Tryz.sizeOf22
 v22 := Tryz.zeroValue22
 t25 := Tryz.underlying102
 a25 := Tryz.isAgg102
 z25 := Tryz.sizeOf102
 v25 := Tryz.zeroValue102
 t39 := Tryz.underlying127
 a39 := Tryz.isAgg127
 z39 := Tryz.sizeOf127
 v39 := Tryz.zeroValue127
 t45 := Tryz.underlying154
 a45 := Tryz.isAgg154
 z45 := Tryz.sizeOf154
 v45 := Tryz.zeroValue154
 t46 := Tryz.underlying155
 a46 := Tryz.isAgg155
 z46 := Tryz.sizeOf155
 v46 := Tryz.zeroValue155
 t50 := Tryz.underlying128
 a50 := Tryz.isAgg128
 z50 := Tryz.sizeOf128
 v50 := Tryz.zeroValue128
 t53 := Tryz.underlying161
 a53 := Tryz.isAgg161
 z53 := Tryz.sizeOf161
 v53 := Tryz.zeroValue161
 t55 := Tryz.underlying163
 a55 := Tryz.isAgg163
 z55 := Tryz.sizeOf163
 v55 := Tryz.zeroValue163
 t66 := Tryz.underlying176
 a66 := Tryz.isAgg176
 z66 := Tryz.sizeOf176
 v66 := Tryz.zeroValue176
 t70 := Tryz.underlying180
 a70 := Tryz.isAgg180
 z70 := Tryz.sizeOf180
 v70 := Tryz.zeroValue180
 t76 := Tryz.underlying189
 a76 := Tryz.isAgg189
 z76 := Tryz.sizeOf189
 v76 := Tryz.zeroValue189
 t77 := Tryz.underlying190
 a77 := Tryz.isAgg190
 z77 := Tryz.sizeOf190
 v77 := Tryz.zeroValue190 }
end Go.Proofs
namespace Go.Proofs.YtphoglepiegeiaaGreatDoor
set_option linter.unusedSimpArgs false
set_option linter.unusedVariables false
set_option maxRecDepth 20000
set_option linter.unusedVariables false
set_option linter.unusedSimpArgs false
open Go.RowKit Pm Go.Sort
instance : Inhabited Nd := ⟨⟨[], [], 0, 0, 0⟩⟩
def cfN (a b : Nd) : Int := cmpI a.path b.path
theorem cfN_lt (a b : Nd) : ltOf cfN a b = lt a.path b.path := by
 unfold ltOf cfN cmpI
 cases h : lt a.path b.path with
 | true => simp
 | false =>
  simp only [Bool.false_eq_true, if_false]
  split <;> simp
theorem cfN_swo : SWO (ltOf cfN) where
 irrefl x := by rw [cfN_lt]; exact lt_irrefl _
 trans x y z h1 h2 := by rw [cfN_lt] at *; exact lt_trans h1 h2
 ntrans x y z h1 h2 := by
  rw [cfN_lt] at *
  cases h : lt x.path z.path with
  | false => rfl
  | true =>
   have := lt_le_trans h h2
   rw [h1] at this; cases this
theorem putRows (l : List Nd) (dk : Array Nd) (rest : List Value) (hs : dk.size = l.length) : putCells id 0 (flatK ndC 5 dk) (rows l ++ rest).toArray = (rows dk.toList ++ rest).toArray := by
 apply Array.ext
 ·simp [putCells, rows_len, hs]
 ·intro i h1 h2
  simp only [putCells, Array.getElem_mapIdx, List.getElem_toArray, size_flatK, id, Nat.zero_add, Nat.sub_zero, Nat.zero_le, true_and]
  by_cases hi : i < dk.size * 5
  ·have h5 : i / 5 < dk.size := by omega
   have h6 := rows_get dk.toList (i / 5) (i % 5) (by simpa using h5) (by omega)
   rw [show i / 5 * 5 + i % 5 = i by omega] at h6
   rw [if_pos hi, get_flatK _ _ _ _ hi, List.getElem_append_left (by rw [rows_len]; simpa using hi)]
   rw [List.getElem?_eq_getElem (by rw [rows_len]; simpa using hi)] at h6
   simp only [Array.getElem_toList] at h6
   rw [getElem!_pos dk (i / 5) h5, List.getElem!_eq_getElem?_getD, ← h6]; rfl
  ·rw [if_neg hi, List.getElem_append_right (by rw [rows_len]; omega), List.getElem_append_right (by rw [rows_len]; simp; omega)]
   simp [rows_len, hs]
theorem sort_nr {w : World} {G cap : Nat} {l : List Nd} (h : Nr w G cap l) (m : Nat) (dk : Array Nd) (os : Array Obj) (hs : dk.size = l.length) : Nr (sortWorldK ndC 5 w G 0 m dk os) G cap dk.toList := by
 obtain ⟨rest, h1, h2⟩ := h.ex
 have hG := h.lt
 refine ⟨⟨rest, ?_, by simp [hs]; omega⟩, by simp [hs]; exact h.room, h.most⟩
 unfold sortWorldK grow putRowK putRow mapBlock Go.Sort.ahead
 simp only
 rw [Array.getElem?_append_left (by simpa using hG), Array.getElem?_modify, if_pos rfl, h1]
 simp only [Option.map_some, onCells]
 rw [putRows l dk rest hs]
theorem sort_fp {w : World} {G : Nat} (m : Nat) (dk : Array Nd) (os : Array Obj) : Fp (fun k => k = G) w (sortWorldK ndC 5 w G 0 m dk os) := by
 refine ⟨rfl, rfl, rfl, ?_, fun k hk hS => ?_⟩
 ·unfold sortWorldK grow putRowK putRow mapBlock Go.Sort.ahead; simp
 ·unfold sortWorldK grow putRowK putRow mapBlock Go.Sort.ahead
  simp only
  rw [Array.getElem?_append_left (by simpa using hk), Array.getElem?_modify, if_neg (fun e => hS e.symm)]
theorem holds_nr {w : World} {G cap : Nat} {l : List Nd} (h : Nr w G cap l) : HoldsK ndC 5 w G 0 l.toArray := by
 intro j hj
 simp only [size_flatK, List.size_toArray] at hj
 rw [Nat.zero_add]
 refine ⟨?_, h.frozen j⟩
 have h5 : j / 5 < l.length := by omega
 have h6 := h.cell (j / 5) (j % 5) h5 (by omega)
 rw [show j / 5 * 5 + j % 5 = j by omega] at h6
 rw [h6, get_flatK _ _ _ _ (by simpa using hj)]
 simp only [id]
 rw [getElem!_pos l.toArray (j / 5) (by simpa using h5)]
 simp only [List.getElem_toArray]
 rw [List.getElem!_eq_getElem?_getD]
 have h7 : j % 5 < (ndC l[j / 5]).length := by rw [ndC_len]; omega
 rw [List.getElem?_eq_getElem h7]; rfl
theorem sorted_ascW {l : List Nd} {d' : Array Nd} (hs : d'.size = l.length) (h : SortedIn (ltOf cfN) 0 l.length d') : AscW d'.toList := by
 intro i j hi hj hij
 have hi' : i < d'.size := by simpa using hi
 have hj' : j < d'.size := by simpa using hj
 have := h i j (Nat.zero_le _) hij (by omega)
 rw [cfN_lt, getElem!_pos d' j hj', getElem!_pos d' i hi'] at this
 simpa using this
theorem perm_in {l : List Nd} {d' : Array Nd} (h : PermIn 0 l.toArray.size l.toArray d') : d'.size = l.length ∧ d'.toList.Perm l := by
 obtain ⟨h1, _, h3⟩ := h
 have h1' : d'.size = l.length := by simpa using h1
 refine ⟨h1', ?_⟩
 have e1 : (d'.extract 0 l.toArray.size) = d' := by rw [show l.toArray.size = d'.size by simp [h1']]; simp
 have e2 : (l.toArray.extract 0 l.toArray.size) = l.toArray := by simp
 rw [e1, e2] at h3
 exact h3
theorem B_data (l : Bs) : (B l).data.toList = l := by unfold B; rfl
set_option maxHeartbeats 1000000 in
theorem treeCmp_c (x y : Nd) (W : World) :
  Calls Tryz.prog 72 #[ndV x, ndV y] W fun e w' => e = .returned (.int .i64 (cfN x y)) ∧ ∃ q os', w' = grow (W.drewN q) os' := by
 obtain ⟨np, d, v, t, o⟩ := x
 obtain ⟨np', d', v', t', o'⟩ := y
 unfold ndV strV cfN
 have hc := fun w => Tryz.strings_Compare (B np) (B np') w
 simp only [B_data, cmp_eq] at hc
 have HC := Lib.hid hc
 clear hc
 go_enter Tryz.func72, Tryz.ntmps72
 go_wp2_with fail
 refine (HC.out _).mono ?_
 rintro e w1 ⟨rfl, rfl⟩
 go_wp2
 go_ret
 exact ⟨rfl, 0, _, by rw [alloc_eq_grow, alloc_eq_grow, grow_grow]; rfl⟩
structure SoR (w : World) (G cap : Nat) (l : List Nd) (w' : World) : Prop where
 ex : ∃ l', Nr w' G cap l' ∧ l'.Perm l ∧ AscW l'
 fp : Fp (fun k => k = G) w w'
theorem sort_c (w : World) (G cap : Nat) (l : List Nd) (h : Nr w G cap l) (hl : l.length ≤ 1000000) :
  Calls Tryz.prog 71 #[.slice (some ⟨G, 0, none⟩) l.length cap, .func (.func 72) #[] #[]] w fun e w' => e = .returned (.tuple #[]) ∧ SoR w G cap l w' := by
 have eg : ∀ args w, (callFunc 72 args).run Tryz.prog w = .ok (.enter 72 args) w := enters_of Tryz.func72 (by kernel_rfl) rfl
 have hcmp : CmpLays Tryz.prog 72 #[] ndC 5 cfN G 0 l.toArray.size w := fun _ _ _ _ x y => treeCmp_c x y _
 have h1 : ∀ x, ∀ v ∈ ndC x, v.oneCell' = true := fun x v hv => by
  simp only [ndC, List.mem_cons, List.not_mem_nil, or_false] at hv
  rcases hv with rfl | rfl | rfl | rfl | rfl <;> rfl
 have hcon := AnyQ.slices_SortFunc Tryz.sortN 5 Tryz.isAgg79 Tryz.sizeOf79 ndC ndC_len h1 cfN cfN_swo 72 #[] G 0 cap l.toArray w eg hcmp (holds_nr h) h.lt (by simp; omega)
 simp only [List.size_toArray] at hcon
 refine Calls.mono (show Calls Tryz.prog 71 _ _ _ from hcon) ?_
 rintro e w' ⟨he, d', n, os, hp, hs, rfl⟩
 have hp' : PermIn 0 l.toArray.size l.toArray d' := by simpa using hp
 obtain ⟨k1, k2⟩ := perm_in hp'
 exact ⟨he, ⟨d'.toList, sort_nr h n d' os k1, k2, sorted_ascW k1 hs⟩, sort_fp n d' os⟩
theorem sort_none (w : World) (fv : Value) :
  Calls Tryz.prog 71 #[.slice none 0 0, fv] w fun e w' => e = .returned (.tuple #[]) ∧ w' = w :=
 AnyF.slices_SortFunc_none Tryz.sortN none 0 fv w
end Go.Proofs.YtphoglepiegeiaaGreatDoor
namespace Go.Proofs.YtphoglepiegeiaaGreatDoor
set_option maxRecDepth 20000
open Go.RowKit Pm
section
variable {α : Type} {enc : α → List Value} {k : Nat}
def rowsG (enc : α → List Value) (l : List α) : List Value := l.flatMap enc
theorem rowsG_cons (x : α) (l : List α) : rowsG enc (x :: l) = enc x ++ rowsG enc l := by simp [rowsG]
theorem rowsG_app (a b : List α) : rowsG enc (a ++ b) = rowsG enc a ++ rowsG enc b := by simp [rowsG]
theorem rowsG_len (hk : ∀ x, (enc x).length = k) (l : List α) : (rowsG enc l).length = l.length * k := by
 induction l with
 | nil => simp [rowsG]
 | cons x l ih => rw [rowsG_cons, List.length_append, hk, ih, List.length_cons, Nat.add_mul, Nat.one_mul, Nat.add_comm]
theorem rowsG_get (hk : ∀ x, (enc x).length = k) (l : List α) (i j : Nat) (hi : i < l.length) (hj : j < k) : (rowsG enc l)[i * k + j]? = (enc l[i])[j]? := by
 induction l generalizing i with
 | nil => simp at hi
 | cons x l ih =>
  rw [rowsG_cons]
  cases i with
  | zero => rw [List.getElem?_append_left (by rw [hk]; omega)]; simp
  | succ i =>
   have e : (i + 1) * k + j = k + (i * k + j) := by rw [Nat.add_mul, Nat.one_mul]; omega
   rw [List.getElem?_append_right (by rw [hk, e]; omega), hk, e, Nat.add_sub_cancel_left, ih i (by simpa using hi)]
   simp
structure ElAt (enc : α → List Value) (w : World) (g o : Nat) (x : α) : Prop where
 get : ∀ j v, (enc x)[j]? = some v → w.cell? ⟨g, o + j, none⟩ = some v
theorem ElAt.keep {w w' : World} {g o : Nat} {x : α} (h : ElAt enc w g o x) {S : Nat → Prop} (f : Fp S w w') (hS : ¬ S g) : ElAt enc w' g o x := ⟨fun j v hv => f.cell (h.get j v hv) hS⟩
structure Sg (enc : α → List Value) (k : Nat) (w : World) (v : Value) (l : List α) : Prop where
 ex : ∃ ao cap, v = .slice ao l.length cap ∧ (l = [] ∨ ∃ g o, ao = some ⟨g, o, none⟩ ∧ ∀ i (h : i < l.length), ElAt enc w g (o + i * k) l[i])
theorem Sg.non {w w' : World} {v : Value} {l : List α} (h : Sg enc k w v l) (f : Fp Non w w') : Sg enc k w' v l := by
 obtain ⟨ao, cap, rfl, h3⟩ := h.ex
 refine ⟨ao, cap, rfl, ?_⟩
 rcases h3 with h3 | ⟨g, o, rfl, hc⟩
 ·exact .inl h3
 ·exact .inr ⟨g, o, rfl, fun i hi => (hc i hi).keep f (fun h => h)⟩
theorem Sg.shape {w : World} {v : Value} {l : List α} (h : Sg enc k w v l) : ∃ ao cap, v = .slice ao l.length cap := by
 obtain ⟨ao, cap, rfl, _⟩ := h.ex; exact ⟨ao, cap, rfl⟩
theorem Sg.nil (w : World) : Sg enc k w (.slice none 0 0) [] := ⟨none, 0, rfl, .inl rfl⟩
theorem Sg.at {w : World} {v : Value} {l : List α} (h : Sg enc k w v l) (h0 : 0 < l.length) : ∃ g o cap, v = .slice (some ⟨g, o, none⟩) l.length cap ∧ ∀ i (h : i < l.length), ElAt enc w g (o + i * k) l[i] := by
 obtain ⟨ao, cap, rfl, h3⟩ := h.ex
 rcases h3 with h3 | ⟨g, o, rfl, hc⟩
 ·subst h3; simp at h0
 ·exact ⟨g, o, cap, rfl, hc⟩
def OwG (T : TypeId) (enc : α → List Value) (k : Nat) (lo : Nat) (w : World) (v : Value) (l : List α) : Prop := w.ownsRow lo T k v l.length (rowsG enc l)
variable {T : TypeId}
theorem OwG.nil (lo : Nat) (w : World) : OwG T enc k lo w (.slice none 0 0) [] := ⟨by simp [rowsG], .inl ⟨rfl, rfl⟩⟩
theorem OwG.non {lo : Nat} {w w' : World} {v : Value} {l : List α} (h : OwG T enc k lo w v l) (f : Fp Non w w') : OwG T enc k lo w' v l := f.owns h (fun _ _ h => h)
theorem OwG.lt {lo : Nat} {w : World} {v : Value} {l : List α} (h : OwG T enc k lo w v l) : ∀ j, v.ownBlock = some j → lo ≤ j ∧ j < w.heap.size := fun j hj => World.ownsRow.lt h j hj
theorem OwG.sg (hk : ∀ x, (enc x).length = k) {lo : Nat} {w : World} {v : Value} {l : List α} (h : OwG T enc k lo w v l) : Sg enc k w v l := by
 rcases h.2 with ⟨h0, h1⟩ | ⟨g, cap, cur, e, hb, hg, h1, h2, h3, h4⟩
 ·refine ⟨none, 0, ?_, ?_⟩
  ·rw [h1]; exact h0
  ·exact .inl (List.eq_nil_of_length_eq_zero h1)
 ·refine ⟨_, cap, e, .inr ⟨g, 0, rfl, fun i hi => ⟨fun j v hv => ?_⟩⟩⟩
  have hj : j < k := by rw [← hk l[i]]; exact (List.getElem?_eq_some_iff.1 hv).1
  rw [← rowsG_get hk l i j hi hj, ← h4] at hv
  rw [cell_of_row w g _ _ T (0, 0) hg, Nat.zero_add]
  rw [List.getElem?_take] at hv
  split at hv
  ·rw [← hv]; simp
  ·cases hv
end
theorem ptC_len (x : Pt) : (ptC x).length = 7 := rfl
end Go.Proofs.YtphoglepiegeiaaGreatDoor
namespace Go.Proofs.YtphoglepiegeiaaGreatDoor
set_option maxRecDepth 20000
set_option linter.unusedVariables false
set_option linter.unusedSimpArgs false
open Go.RowKit Pm
theorem app_ns (w : World) (lo : Nat) (v x : Value) (l m : List Nd) (ty : TypeId) (ho : Ow lo w v l) (hx : Ns w x m) (hn : l.length + m.length ≤ 100000) (hlo : lo ≤ w.heap.size) :
  ∃ v' w', (Builtin.append_ #[TL, TL] ty #[v, x]).run Tryz.prog w = .ok v' w' ∧ ChR lo w v (l ++ m) v' w' := by
 obtain ⟨ao, cap, rfl, h1, h2, h3⟩ := hx.ex
 cases ao with
 | none =>
  have hm : m = [] := by
   rcases h3 with h3 | ⟨g, o, e, _⟩
   ·exact h3
   ·cases e
  subst hm
  obtain ⟨i, hi, hz, hsz, hby⟩ := info_parts Tryz.infoN
  have hs : Src Tryz.prog i.size TL (.slice none 0 cap) 0 [] w := Src.ofNil w Tryz.underlying22 _
  refine ⟨v, w, ?_, by rw [List.append_nil]; exact ho, Fp.refl _ _, fun k hk => .inl hk⟩
  rcases ho.2 with ⟨rfl, _⟩ | ⟨g, cap, cur, rfl, hb, hgg, r1, r2, r3⟩
  ·exact run_append_nothing w _ _ _ _ i Tryz.underlying22 hi none 0 0 (Nat.le_refl _) _ hs
  ·exact run_append_nothing w _ _ _ _ i Tryz.underlying22 hi _ _ _ r1 _ hs
 | some a =>
  obtain ⟨v', w', hr, k1, k2, k3⟩ := app_own w lo v l m ty a m.length cap ho rfl (fun i hi j u hu => by
   rcases h3 with h3 | ⟨g, o, e, _, hc⟩
   ·subst h3; simp at hi
   ·injection e with e
    subst e
    have := (hc i hi).get j u hu
    rw [Addr.add_lit] at this ⊢
    rwa [Nat.add_assoc] at this) hn hlo
  exact ⟨v', w', hr, k1, (Fp.refl _ _).grown k2 (fun k hk => .inl hk), k3⟩
structure Sv where
 vn : Value
 vt : Value
 s : St
def svC (x : Sv) : List Value := [x.vn, x.vt]
theorem svC_len (x : Sv) : (svC x).length = 2 := rfl
structure Stos (w : World) (v : Value) (l : List Sv) : Prop where
 sg : Sg svC 2 w v l
 sto : ∀ x ∈ l, Ns w x.vn x.s.nodes ∧ Ts w x.vt x.s.turns
theorem Stos.non {w w' : World} {v : Value} {l : List Sv} (h : Stos w v l) (f : Fp Non w w') : Stos w' v l := ⟨h.sg.non f, fun x hx => ⟨(h.sto x hx).1.non f, (h.sto x hx).2.non f⟩⟩
structure Sfew (s : St) : Prop where
 sp : Sp s.nodes
 dirs : ∀ t ∈ s.turns, t.dir.length ≤ 1000000
 nodes : s.nodes.length ≤ 3900
 turns : s.turns.length ≤ 3900
structure TreR (ss : List St) (w : World) (e : Ending) (w' : World) : Prop where
 ex : ∃ v b, e = .returned (.tuple #[v, .bool b]) ∧ ((b = true ∧ ∃ y, Ns w' v y ∧ TreeOf ss y) ∨ (b = false ∧ v = .slice none 0 0 ∧ ∀ y, ¬ TreeOf ss y))
 fp : Fp Non w w'
structure TrM (l : List Sv) (w : World) (k : Nat) (v : Value) (wr : World) : Prop where
 own : Ow w.heap.size wr v ((l.take k).flatMap (fun x => x.s.nodes))
 right : ∀ x ∈ l.take k, StR x.s
 fp : Fp Non w wr
theorem few_all : ∀ (l : List Sv), (∀ x ∈ l, x.s.nodes.length ≤ 3900) → (l.flatMap (fun x => x.s.nodes)).length ≤ 3900 * l.length
 | [], _ => by simp
 | a :: l, h => by
  rw [List.flatMap_cons, List.length_append, List.length_cons]
  have h1 := h a (List.mem_cons_self ..)
  have h2 := few_all l (fun x hx => h x (List.mem_cons_of_mem _ hx))
  omega
structure SowR (lo : Nat) (w : World) (v : Value) (l : List Nd) (w' : World) : Prop where
 ex : ∃ A, Ow lo w' v A ∧ A.Perm l ∧ AscW A
 fp : Fp (fun k => v.ownBlock = some k) w w'
theorem sort_ow {lo : Nat} {w : World} {v : Value} {l : List Nd} (h : Ow lo w v l) (hl : l.length ≤ 1000000) :
  Calls Tryz.prog 71 #[v, .func (.func 72) #[] #[]] w fun e w' => e = .returned (.tuple #[]) ∧ SowR lo w v l w' := by
 rcases h.ways with ⟨rfl, rfl⟩ | ⟨G, cap, rfl, hr, hlo⟩
 ·refine (sort_none w _).mono ?_
  rintro e w' ⟨he, rfl⟩
  exact ⟨he, ⟨[], h, List.Perm.refl _, fun i j hi _ _ => by simp at hi⟩, Fp.refl _ _⟩
 ·refine (sort_c w G cap l hr hl).mono ?_
  rintro e w' ⟨he, ⟨A, k1, k2, k3⟩, hf⟩
  refine ⟨he, ⟨A, ?_, k2, k3⟩, hf.mono fun k e => by subst e; rfl⟩
  have := Ow.row (lo := lo) k1 hlo
  rwa [k2.length_eq] at this
theorem flat_st (l : List Sv) : (l.map Sv.s).flatMap St.nodes = l.flatMap (fun x => x.s.nodes) ∧ (l.map Sv.s).flatMap St.turns = l.flatMap (fun x => x.s.turns) := by
 constructor <;> rw [List.flatMap_map]
set_option maxHeartbeats 8000000 in
theorem Tree_c (v : Value) (l : List Sv) (w : World) (hv : Stos w v l) (hn : l.length ≤ 3) (hf : ∀ x ∈ l, Sfew x.s) :
  Calls Tryz.prog 27 #[v] w (TreR (l.map Sv.s) w) := by
 obtain ⟨ao, cap, rfl⟩ := hv.sg.shape
 obtain ⟨n, hnn⟩ : ∃ n, n = l.length := ⟨_, rfl⟩
 have hnb : n ≤ 3 := by omega
 have HX := Lib.hid (And.intro hnn (And.intro hv hf))
 rw [← hnn]
 have H0 : Hid (TrM l w 0 (.slice none 0 0) w) := ⟨by rw [List.take_zero]; exact Ow.nil _ _, (by rw [List.take_zero]; intro x hx; cases hx), Fp.refl _ _⟩
 clear hv hn hf hnn
 go_enter Tryz.func27, Tryz.ntmps27
 go_wp2_with fail
 go_loopw [4, 11] (fun va i wr => ∃ k : Nat, k ≤ n ∧ i = .int .i64 k ∧ Hid (TrM l w k va wr)) (fun _ i _ => n - (RowKit.intOf i).toNat)
 case atStart => exact ⟨0, Nat.zero_le _, rfl, H0⟩
 case round =>
  clear H0
  obtain ⟨k, hk, rfl, hR⟩ := hrel
  rename_i wr _
  by_cases hlt : k < n
  ·have hkl : k < l.length := by rw [← HX.out.1]; exact hlt
   have HS := HX.out.2.1.non hR.out.fp
   obtain ⟨g, o, ct', e9, hcell⟩ := HS.sg.at (by omega)
   injection e9 with e1 e2 e3
   subst e1 e3
   clear e2
   have hel := hcell k hkl
   have hst := HS.sto l[k] (List.getElem_mem hkl)
   have hfw := HX.out.2.2 l[k] (List.getElem_mem hkl)
   have htk : (l.take (k + 1)).flatMap (fun x => x.s.nodes) = (l.take k).flatMap (fun x => x.s.nodes) ++ l[k].s.nodes := by rw [List.take_succ_eq_append_getElem hkl, List.flatMap_append]; simp
   have hlen : ((l.take k).flatMap (fun x => x.s.nodes)).length ≤ 12000 := by
    have := few_all (l.take k) (fun x hx => (HX.out.2.2 x (List.mem_of_mem_take hx)).nodes)
    rw [List.length_take] at this; omega
   have hno : ¬ StR l[k].s → ∀ y, ¬ TreeOf (l.map Sv.s) y := fun h y t => h (t.right _ (List.mem_map.2 ⟨l[k], List.getElem_mem hkl, rfl⟩))
   have hri : StR l[k].s → ∀ x ∈ l.take (k + 1), StR x.s := fun h x hx => by
    rw [List.take_succ_eq_append_getElem hkl, List.mem_append, List.mem_singleton] at hx
    rcases hx with hx | rfl
    ·exact hR.out.right x hx
    ·exact h
   obtain ⟨x, hx⟩ : ∃ x, l[k] = x := ⟨_, rfl⟩
   rw [hx] at hel hst hfw htk hno hri
   obtain ⟨xn, xt, xs⟩ := x
   simp only at hst hfw htk hno hri
   have c0 := hel.get 0 xn rfl
   have c1 := hel.get 1 xt rfl
   rw [Nat.add_zero] at c0
   obtain ⟨an, cn, hsh⟩ := hst.1.shape
   obtain ⟨at_, ct, hsh2⟩ := hst.2.shape
   subst hsh hsh2
   obtain ⟨b, hb⟩ : ∃ b, rightS xs = b := ⟨_, rfl⟩
   have hrc := fun W (f : Fp Non wr W) => rightP_c (.agg #[.slice an xs.nodes.length cn, .slice at_ xs.turns.length ct]) xs W ⟨_, _, rfl, hst.1.non f, hst.2.non f⟩ hfw.sp (by have := hfw.nodes; omega) hfw.dirs (by have := hfw.turns; omega)
   rw [hb] at hrc
   have HRC := Lib.hid (And.intro hrc (And.intro hst.1 (And.intro hlen (And.intro hfw.nodes hR.out.own))))
   have HB := Lib.hid (And.intro hb (And.intro hno (And.intro hri htk)))
   have q3 : ((k : Int) < (n : Int)) = True := eq_true (by omega)
   have q4 : (k < n) = True := eq_true hlt
   have HL := Lib.hid hlt
   obtain ⟨nn, hnn⟩ : ∃ nn, nn = xs.nodes.length := ⟨_, rfl⟩
   obtain ⟨tt, htt⟩ : ∃ tt, tt = xs.turns.length := ⟨_, rfl⟩
   have HNN := Lib.hid hnn
   rw [← hnn] at HRC c0
   rw [← htt] at HRC c1
   clear HS hcell hel hst hfw htk hlen hno hri hx hb hrc hlt hkl hnn htt
   have hf0 := fp_alloc wr (.cells #[.slice an nn cn, .slice at_ tt ct] TST)
   have hb0 := heap_alloc_new wr (.cells #[.slice an nn cn, .slice at_ tt ct] TST)
   have HF0 := Lib.hid (And.intro hf0 hb0)
   clear hf0 hb0
   cases b with
   | false =>
    have HNO := Lib.hid (HB.out.2.1 (fun h => by have := rightS_true h; rw [HB.out.1] at this; cases this))
    go_wp2_with fail
    refine (HRC.out.1 _ HF0.out.1).mono ?_
    rintro e w1 ⟨rfl, hf⟩
    have F := Lib.hid ((hR.out.fp.then HF0.out.1).then hf)
    clear hf
    go_wp2
    go_ret2
    exact ⟨⟨_, _, rfl, .inr ⟨rfl, rfl, HNO.out⟩⟩, F.out⟩
   | true =>
    have HRI := Lib.hid (HB.out.2.2.1 ((rightS_iff _).1 HB.out.1))
    go_wp2_with fail
    refine (HRC.out.1 _ HF0.out.1).mono ?_
    rintro e w1 ⟨rfl, hf⟩
    have F := Lib.hid (HF0.out.1.then hf)
    obtain ⟨b0, b1⟩ := boxP2 (hf.heap HF0.out.2 (fun h => h))
    have hap := app_ns w1 w.heap.size u4 (.slice an nn cn) ((l.take k).flatMap (fun x => x.s.nodes)) xs.nodes TL (HRC.out.2.2.2.2.non F.out) (HRC.out.2.1.non F.out) (by have := HRC.out.2.2.1; have := HRC.out.2.2.2.1; have := HNN.out; omega) (by have := hR.out.fp.size; have := F.out.size; omega)
    have HAP := Lib.hid hap
    clear hf hap
    go_wp2_with (at_builtin; go_must (refine wpList_app rfl _ _ _ _ rfl _ _ rfl rfl _ HAP.out ?_))
    intro v4 w4 hc
    have hM : Hid (TrM l w (k + 1) v4 w4) := ⟨by rw [HB.out.2.2.2]; exact hc.own, HRI.out, (hR.out.fp.then F.out).trans hc.fp (fun j hj => .inr ((World.ownsRow.lt HRC.out.2.2.2.2 j hj).1))⟩
    obtain ⟨a4, c4', hsh⟩ := hc.own.ns.shape
    clear hc b0 b1
    have hj1 := HL.out
    go_wp2
    go_roundw
    case rel => exact ⟨k + 1, by omega, by go_num, hM⟩
    case measure => simp [RowKit.intOf]; omega
  ·have hke : k = n := by omega
   subst hke
   have q3 : ((k : Int) < (k : Int)) = False := eq_false (by omega)
   have htl : l.take k = l := by rw [HX.out.1, List.take_length]
   have hO := hR.out.own
   have hRR := hR.out.right
   rw [htl] at hO hRR
   have HO := Lib.hid (And.intro hO (And.intro hRR hR.out.fp))
   clear htl hlt hk hO hRR hR
   have hlen := few_all l (fun x hx => (HX.out.2.2 x hx).nodes)
   have hso := sort_ow HO.out.1 (by have := HX.out.1; omega)
   have HSO := Lib.hid hso
   clear hlen hso
   have hkk : k ≤ 3 := hnb
   go_wp2_with fail
   refine HSO.out.mono ?_
   rintro e w1 ⟨rfl, ⟨A, hA, hP, hW⟩, hf⟩
   have F1 := Lib.hid (HO.out.2.2.trans hf (fun j hj => .inr ((World.ownsRow.lt HO.out.1 j hj).1)))
   have HA := Lib.hid (And.intro hP (And.intro hW hA))
   clear hf hA hP hW
   have HW := Lib.hid HO.out.2.1
   have HLO := Lib.hid (fun j hj => (World.ownsRow.lt HO.out.1 j hj).1)
   clear HO HSO
   have hk0 : (0 : Nat) ≤ k := Nat.zero_le _
   have hlenA : A.length ≤ 12000 := by
    have h1 := HA.out.1.length_eq
    have h2 := few_all l (fun x hx => (HX.out.2.2 x hx).nodes)
    have h3 := HX.out.1
    omega
   have H0 : Hid (∃ m, giveAll A ((l.take 0).flatMap (fun x => x.s.turns)) = some m ∧ Ow w.heap.size w1 u4 m ∧ Fp Non w w1) := ⟨A, by rw [List.take_zero]; rfl, HA.out.2.2, F1.out⟩
   have HLA := Lib.hid hlenA
   clear hlenA F1
   go_wp2_with fail
   go_loopw [27] (fun i wr => ∃ j : Nat, j ≤ k ∧ i = .int .i64 j ∧ Hid (∃ m, giveAll A ((l.take j).flatMap (fun x => x.s.turns)) = some m ∧ Ow w.heap.size wr u4 m ∧ Fp Non w wr)) (fun i _ => k - (RowKit.intOf i).toNat)
   case atStart => exact ⟨0, Nat.zero_le _, rfl, H0⟩
   case round =>
    clear H0
    obtain ⟨j, hj, rfl, hR⟩ := hrel
    rename World => wr2
    obtain ⟨m, hg, hO, hF⟩ := hR.out
    clear hR
    by_cases hlt : j < k
    ·have hjl : j < l.length := by rw [← HX.out.1]; exact hlt
     have HS := HX.out.2.1.non hF
     obtain ⟨g, o, ct', e9, hcell⟩ := HS.sg.at (by omega)
     injection e9 with e1 e2 e3
     subst e1 e3
     clear e2
     have hel := hcell j hjl
     have hst := HS.sto l[j] (List.getElem_mem hjl)
     have hst0 := HX.out.2.1.sto l[j] (List.getElem_mem hjl)
     have hfw := HX.out.2.2 l[j] (List.getElem_mem hjl)
     have htk : (l.take (j + 1)).flatMap (fun x => x.s.turns) = (l.take j).flatMap (fun x => x.s.turns) ++ l[j].s.turns := by rw [List.take_succ_eq_append_getElem hjl, List.flatMap_append]; simp
     have hall : l.flatMap (fun x => x.s.turns) = (l.take (j + 1)).flatMap (fun x => x.s.turns) ++ (l.drop (j + 1)).flatMap (fun x => x.s.turns) := by rw [← List.flatMap_append, List.take_append_drop]
     obtain ⟨x, hx⟩ : ∃ x, l[j] = x := ⟨_, rfl⟩
     rw [hx] at hel hst hst0 hfw htk
     obtain ⟨xn, xt, xs⟩ := x
     simp only at hst hst0 hfw htk
     have c0 := hel.get 0 xn rfl
     have c1 := hel.get 1 xt rfl
     rw [Nat.add_zero] at c0
     have hkn := giveAll_kn hg
     have hml : m.length ≤ 12000 := by have h1 := congrArg List.length hkn; simp only [List.length_map] at h1; have := HLA.out; omega
     have hmw := HA.out.2.1.kn hkn
     have hap : 0 < xs.turns.length → ∀ i, xt.ownBlock = some i → u4.ownBlock ≠ some i := fun h0 i hi e => by
      obtain ⟨g', o', c', e1, _, _, hgl, _⟩ := hst0.2.at h0
      rw [e1] at hi
      have e2 : g' = i := by simpa [Value.ownBlock] using hi
      have := HLO.out i e
      omega
     have hgive : giveAll A ((l.take (j + 1)).flatMap (fun x => x.s.turns)) = giveAll m xs.turns := by rw [htk, giveAll_app, hg]; rfl
     have htt := fun W (f : Fp Non wr2 W) => takeTurns_c (lo := w.heap.size) (hO.non f) (hst.2.non f) hap hmw (by omega) (by have := hfw.turns; omega)
     have HTT := Lib.hid (And.intro htt (And.intro hgive (And.intro hall (And.intro hO hF))))
     have q3 : ((j : Int) < (k : Int)) = True := eq_true (by omega)
     have q4 : (j < k) = True := eq_true hlt
     have HL := Lib.hid hlt
     obtain ⟨an, cn, hsh⟩ := hst.1.shape
     obtain ⟨at_, ct, hsh2⟩ := hst.2.shape
     subst hsh hsh2
     obtain ⟨nn, hnn⟩ : ∃ nn, nn = xs.nodes.length := ⟨_, rfl⟩
     obtain ⟨tt, htt2⟩ : ∃ tt, tt = xs.turns.length := ⟨_, rfl⟩
     rw [← hnn] at c0
     rw [← htt2] at c1 HTT
     have hf0 := fp_alloc wr2 (.cells #[.slice an nn cn, .slice at_ tt ct] TST)
     have hb0 := heap_alloc_new wr2 (.cells #[.slice an nn cn, .slice at_ tt ct] TST)
     obtain ⟨b0, b1⟩ := boxP2 hb0
     have HF0 := Lib.hid hf0
     clear HS hcell hel hst hst0 hfw htk hall hap hmw hml hkn hgive htt hx hlt hjl hnn htt2 hf0 hb0 hg hO hF
     go_wp2_with fail
     refine (HTT.out.1 _ HF0.out).mono ?_
     rintro e w2 ⟨⟨b, rfl, hb⟩, hf⟩
     have F2 := Lib.hid ((HTT.out.2.2.2.2.then HF0.out).trans hf (fun i hi => .inr (HLO.out i hi)))
     clear hf b0 b1
     rcases hb with ⟨rfl, m2, hm2, hO2⟩ | ⟨rfl, hm2⟩
     ·have hM : Hid (∃ m, giveAll A ((l.take (j + 1)).flatMap (fun x => x.s.turns)) = some m ∧ Ow w.heap.size w2 u4 m ∧ Fp Non w w2) := ⟨m2, by rw [HTT.out.2.1]; exact hm2, hO2, F2.out⟩
      clear hm2 hO2
      have hj1 := HL.out
      go_wp2
      go_roundw
      case rel => exact ⟨j + 1, by omega, by go_num, hM⟩
      case measure => simp [RowKit.intOf]; omega
     ·have hno : giveAll A (l.flatMap (fun x => x.s.turns)) = none := by rw [HTT.out.2.2.1, giveAll_app, HTT.out.2.1, hm2]; rfl
      have HNO := Lib.hid (show ∀ y, ¬ TreeOf (l.map Sv.s) y from fun y t => by
       have := tree_made t (by rw [(flat_st l).1]; exact HA.out.1) HA.out.2.1
       rw [(flat_st l).2, hno] at this; cases this)
      clear hm2 hno
      go_wp2
      go_ret2
      exact ⟨⟨_, _, rfl, .inr ⟨rfl, rfl, HNO.out⟩⟩, F2.out⟩
    ·have hke : j = k := by omega
     subst hke
     have q3 : ((j : Int) < (j : Int)) = False := eq_false (by omega)
     have htl : l.take j = l := by rw [HX.out.1, List.take_length]
     rw [htl, ← (flat_st l).2] at hg
     have hkn := giveAll_kn hg
     have hspA : Sp A := fun x hx => by
      obtain ⟨y, hy, hxy⟩ := List.mem_flatMap.1 (HA.out.1.mem_iff.1 hx)
      exact (HX.out.2.2 y hy).sp x hxy
     have hspm : Sp m := fun x hx => by
      have h1 : kn x ∈ A.map kn := by rw [← hkn]; exact List.mem_map.2 ⟨x, hx, rfl⟩
      obtain ⟨y, hy, e⟩ := List.mem_map.1 h1
      have h2 := hspA y hy
      have e2 : (kn y).path = (kn x).path := by rw [e]
      rw [kn_path, kn_path] at e2
      rw [e2] at h2; exact h2
     have hnr := fun W (f : Fp Non wr2 W) => nRight_c u4 m W (hO.non f).ns hspm
     obtain ⟨b, hb⟩ : ∃ b, right m = b := ⟨_, rfl⟩
     rw [hb] at hnr
     have HR := Lib.hid (And.intro hnr (And.intro hb (And.intro hg (And.intro hO hF))))
     clear htl hlt hj hkn hspA hspm hnr hb hg hO hF
     go_wp2_with fail
     refine (HR.out.1 _ (Fp.refl _ _)).mono ?_
     rintro e w2 ⟨rfl, hf⟩
     have F2 := Lib.hid (HR.out.2.2.2.2.then hf)
     have HO2 := Lib.hid (HR.out.2.2.2.1.non hf)
     clear hf
     cases b with
     | true =>
      have HT := Lib.hid (tree_of (ss := l.map Sv.s) (A := A) (m := m) (fun s hs => by obtain ⟨x, hx, rfl⟩ := List.mem_map.1 hs; exact HW.out x hx) (by rw [(flat_st l).1]; exact HA.out.1) HA.out.2.1 HR.out.2.2.1 ((right_iff m).1 HR.out.2.1).tr)
      go_wp2
      go_ret2
      exact ⟨⟨_, _, rfl, .inl ⟨rfl, m, HO2.out.ns, HT.out⟩⟩, F2.out⟩
     | false =>
      have HNO := Lib.hid (show ∀ y, ¬ TreeOf (l.map Sv.s) y from fun y t => by
       have := tree_made t (by rw [(flat_st l).1]; exact HA.out.1) HA.out.2.1
       rw [HR.out.2.2.1] at this
       have e := Option.some.inj this
       have h1 := right_true t.tree.tree
       rw [← e, HR.out.2.1] at h1; cases h1)
      go_wp2
      go_ret2
      exact ⟨⟨_, _, rfl, .inr ⟨rfl, rfl, HNO.out⟩⟩, F2.out⟩
end Go.Proofs.YtphoglepiegeiaaGreatDoor
namespace Go.Proofs.YtphoglepiegeiaaGreatDoor
set_option maxRecDepth 20000
set_option linter.unusedVariables false
set_option linter.unusedSimpArgs false
open Go.RowKit Pm
def fillP (q : Bs) (x : Pt) : Pt := { x with path := if x.kind = 1 then upB q else q, dir := keptAt x.kind (if x.kind = 1 then upB q else q) }
def cur (q : Bs) (l : List Pt) (k : Nat) : List Pt := (l.take k).map (fillP q) ++ l.drop k
theorem cur_rows (q : Bs) (l : List Pt) (k : Nat) (hk : k < l.length) : rowsG ptC (cur q l k) = rowsG ptC ((l.take k).map (fillP q)) ++ (ptC l[k] ++ rowsG ptC (l.drop (k + 1))) := by
 unfold cur
 rw [rowsG_app, List.drop_eq_getElem_cons hk, rowsG_cons]
theorem cur_next (q : Bs) (l : List Pt) (k : Nat) (hk : k < l.length) : rowsG ptC ((l.take k).map (fillP q)) ++ (ptC (fillP q l[k]) ++ rowsG ptC (l.drop (k + 1))) = rowsG ptC (cur q l (k + 1)) := by
 unfold cur
 rw [List.take_succ_eq_append_getElem hk, List.map_append, rowsG_app, rowsG_app, List.append_assoc]
 simp [rowsG]
theorem cur_len (q : Bs) (l : List Pt) (k : Nat) (hk : k ≤ l.length) : (rowsG ptC ((l.take k).map (fillP q))).length = k * 7 := by
 rw [rowsG_len ptC_len, List.length_map, List.length_take, Nat.min_eq_left hk]
theorem upB_len {p : Bs} (h : p.length ≤ 100) : (upB p).length ≤ 100 := by
 unfold upB
 cases hp : parent p with
 | none => simp
 | some u => obtain ⟨_, _, _, h1, _⟩ := parent_some hp; exact h1
structure R7 (G k : Nat) (A C : List Value) (c0 c1 c2 c3 c4 c5 c6 : Value) (w : World) : Prop where
 row : w.heap[G]? = some (.cells (A ++ ([c0, c1, c2, c3, c4, c5, c6] ++ C)).toArray TP (0, 0))
 len : A.length = k * 7
section
variable {G k : Nat} {A C : List Value} {c0 c1 c2 c3 c4 c5 c6 : Value} {w w' : World}
theorem R7.non (h : R7 G k A C c0 c1 c2 c3 c4 c5 c6 w) (f : Fp Non w w') : R7 G k A C c0 c1 c2 c3 c4 c5 c6 w' := ⟨f.heap h.row (fun h => h), h.len⟩
theorem R7.fz (h : R7 G k A C c0 c1 c2 c3 c4 c5 c6 w) (j : Nat) : w.frozen? ⟨G, k * 7 + j, none⟩ = false := frozen_at h.row _
theorem R7.get (h : R7 G k A C c0 c1 c2 c3 c4 c5 c6 w) (j : Nat) (v : Value) (hj : [c0, c1, c2, c3, c4, c5, c6][j]? = some v) : w.cell? ⟨G, k * 7 + j, none⟩ = some v := by
 rw [cell_of_row _ _ _ _ _ _ h.row, List.getElem?_toArray, List.getElem?_append_right (by rw [h.len]; omega), h.len, Nat.add_sub_cancel_left]
 rw [List.getElem?_append_left (List.getElem?_eq_some_iff.1 hj).1]; exact hj
theorem R7.at0 (h : R7 G k A C c0 c1 c2 c3 c4 c5 c6 w) : w.cell? ⟨G, k * 7, none⟩ = some c0 := h.get 0 c0 rfl
theorem R7.at1 (h : R7 G k A C c0 c1 c2 c3 c4 c5 c6 w) : w.cell? ⟨G, k * 7 + 1, none⟩ = some c1 := h.get 1 c1 rfl
theorem R7.at2 (h : R7 G k A C c0 c1 c2 c3 c4 c5 c6 w) : w.cell? ⟨G, k * 7 + 2, none⟩ = some c2 := h.get 2 c2 rfl
theorem R7.set1 (h : R7 G k A C c0 c1 c2 c3 c4 c5 c6 w) (v : Value) : R7 G k A C c0 v c2 c3 c4 c5 c6 (w.setCell ⟨G, k * 7 + 1, none⟩ v) := by
 refine ⟨?_, h.len⟩
 rw [heap_setCell_same w G (k * 7 + 1) _ TP v h.row, List.setIfInBounds_toArray, List.set_append_right _ _ (by rw [h.len]; omega), h.len, Nat.add_sub_cancel_left]; rfl
theorem R7.set2 (h : R7 G k A C c0 c1 c2 c3 c4 c5 c6 w) (v : Value) : R7 G k A C c0 c1 v c3 c4 c5 c6 (w.setCell ⟨G, k * 7 + 2, none⟩ v) := by
 refine ⟨?_, h.len⟩
 rw [heap_setCell_same w G (k * 7 + 2) _ TP v h.row, List.setIfInBounds_toArray, List.set_append_right _ _ (by rw [h.len]; omega), h.len, Nat.add_sub_cancel_left]; rfl
end
set_option maxHeartbeats 16000000 in
theorem Of1_c (l : List Pt) (G g : Nat) (q : Bs) (w : World) (hG : w.heap[G]? = some (.cells (rowsG ptC l).toArray TP (0, 0))) (hg : w.cell? ⟨g, 1, none⟩ = some (.string (B q))) (hgG : g ≠ G) (hq : q.length ≤ 100) (hl : l.length ≤ 10) :
  Calls Tryz.prog 76 #[.slice (some ⟨G, 0, none⟩) l.length l.length, .pointer (some ⟨g, 0, none⟩)] w fun e w' => e = .returned (.slice (some ⟨G, 0, none⟩) l.length l.length) ∧ w'.heap[G]? = some (.cells (rowsG ptC (l.map (fillP q))).toArray TP (0, 0)) ∧ Fp (fun j => j = G) w w' := by
 obtain ⟨n, hn⟩ : ∃ n, n = l.length := ⟨_, rfl⟩
 rw [← hn]
 have hn10 : n ≤ 10 := by omega
 have HX := Lib.hid (And.intro hn (And.intro hg (And.intro hgG hq)))
 have H0 : Hid (w.heap[G]? = some (.cells (rowsG ptC (cur q l 0)).toArray TP (0, 0)) ∧ Fp (fun j => j = G) w w) := ⟨by unfold cur; simpa using hG, Fp.refl _ _⟩
 clear hG hg hgG hq hl hn
 go_enter Tryz.func76, Tryz.ntmps76
 go_wp2_with fail
 go_loopw [8] (fun i wr => ∃ k : Nat, k ≤ n ∧ i = .int .i64 k ∧ Hid (wr.heap[G]? = some (.cells (rowsG ptC (cur q l k)).toArray TP (0, 0)) ∧ Fp (fun j => j = G) w wr)) (fun i _ => n - (RowKit.intOf i).toNat)
 case atStart => exact ⟨0, Nat.zero_le _, rfl, H0⟩
 case round =>
  clear H0
  obtain ⟨k, hk, rfl, hR0⟩ := hrel
  rename_i wr _
  by_cases hlt : k < n
  ·have hkl : k < l.length := by rw [← HX.out.1]; exact hlt
   have hrow := hR0.out.1
   rw [cur_rows q l k hkl] at hrow
   have hnx := cur_next q l k hkl
   have hlen := cur_len q l k (Nat.le_of_lt hkl)
   obtain ⟨x, hx⟩ : ∃ x, l[k] = x := ⟨_, rfl⟩
   rw [hx] at hrow hnx
   obtain ⟨kd, dd, p0, da, ve, ow, tt⟩ := x
   generalize rowsG ptC ((l.take k).map (fillP q)) = A at *
   generalize rowsG ptC (l.drop (k + 1)) = C at *
   have HR : Hid (R7 G k A C (.int .i64 kd) (.string (B dd)) (.string (B p0)) (.string (B da)) (.int .i64 ve) (.int .i64 ow) (.bool tt) wr ∧ Fp (fun j => j = G) w wr) := ⟨⟨hrow, hlen⟩, hR0.out.2⟩
   have c0 := HR.out.1.at0; have c1 := HR.out.1.at1; have c2 := HR.out.1.at2
   have z2 := HR.out.1.fz 2
   have g1 := HR.out.2.cell HX.out.2.1 HX.out.2.2.1
   have hq := HX.out.2.2.2
   have HL := Lib.hid hlt
   have q3 : ((k : Int) < (n : Int)) = True := eq_true (by omega)
   have q4 : (k < n) = True := eq_true hlt
   have ng : (g = G) = False := eq_false HX.out.2.2.1
   have ng2 : (G = g) = False := eq_false (fun e => HX.out.2.2.1 e.symm)
   clear hrow hlen hR0 hlt
   by_cases hk1 : kd = 1
   ·subst hk1
    have HNX : Hid (∀ wz, R7 G k A C (.int .i64 1) (.string (B (keptAt 1 (upB q)))) (.string (B (upB q))) (.string (B da)) (.int .i64 ve) (.int .i64 ow) (.bool tt) wz → wz.heap[G]? = some (.cells (rowsG ptC (cur q l (k + 1))).toArray TP (0, 0))) := fun wz h => by rw [← hnx]; exact h.row
    clear hnx
    have HUP := Lib.hid (fun w => upP_c q w (by omega))
    have HKE := Lib.hid (fun w => keptAt_c 1 (upB q) w (by have := upB_len hq; omega))
    clear hx hq hkl
    go_wp2_with fail
    have HR0 := Lib.hid (And.intro (HR.out.2.setCell (S := fun j => j = G) (p := ⟨G, k * 7 + 2, none⟩) (.inl rfl) (.string (B q))) (HR.out.1.set2 (.string (B q))))
    clear c0 c1 c2 z2
    generalize (wr.setCell ⟨G, k * 7 + 2, none⟩ _) = W0 at *
    refine (HUP.out _).mono ?_
    rintro e w3 ⟨rfl, hf3⟩
    have HR3 := Lib.hid (And.intro (HR0.out.1.trans hf3 (fun _ h => h.elim)) (HR0.out.2.non hf3))
    clear hf3
    have z3 := HR3.out.2.fz 2
    have c0 := HR3.out.2.at0; have c2 := HR3.out.2.at2
    go_wp2_with fail
    have HR1a := Lib.hid (And.intro (HR3.out.1.setCell (S := fun j => j = G) (p := ⟨G, k * 7 + 2, none⟩) (.inl rfl) (.string (B (upB q)))) (HR3.out.2.set2 (.string (B (upB q)))))
    clear c0 c2 z3
    generalize (w3.setCell ⟨G, k * 7 + 2, none⟩ _) = W1 at *
    have HR1 := Lib.hid (And.intro (HR1a.out.1.trans (Fp.refl Non W1).drew (fun _ h => h.elim)) (HR1a.out.2.non (Fp.refl Non W1).drew))
    have HS0 := Lib.hid (And.intro HR1.out.2.at0 HR1.out.2.at2)
    refine wp_region_held_drew (S := (fun w' => w'.cell? ⟨G, k * 7, none⟩ = some (.int .i64 1) ∧ w'.cell? ⟨G, k * 7 + 2, none⟩ = some (.string (B (upB q))))) (by kernel_rfl) ?_ (fun hHeld => ?_)
    ·exact HS0.out
    generalize W1.drew = wd at *
    refine tk 0 (v := ?_) hHeld (fun w hSw => ?_) ?_; rotate_left
    ·(try dsimp only at hSw); obtain ⟨s0, s1⟩ := hSw; go_simp; try with_reducible rfl
    try simp only [zP, zN, zS, zT, zU]
    refine tk 1 (v := ?_) hHeld (fun w hSw => ?_) ?_; rotate_left
    ·(try dsimp only at hSw); obtain ⟨s0, s1⟩ := hSw; go_simp; try with_reducible rfl
    try simp only [zP, zN, zS, zT, zU]
    refine tk 2 (v := ?_) hHeld (fun w hSw => ?_) ?_; rotate_left
    ·(try dsimp only at hSw); obtain ⟨s0, s1⟩ := hSw; go_simp; try with_reducible rfl
    try simp only [zP, zN, zS, zT, zU]
    refine tk 3 (v := ?_) hHeld (fun w hSw => ?_) ?_; rotate_left
    ·(try dsimp only at hSw); obtain ⟨s0, s1⟩ := hSw; go_simp; try with_reducible rfl
    try simp only [zP, zN, zS, zT, zU]
    refine tk 4 (v := ?_) hHeld (fun w hSw => ?_) ?_; rotate_left
    ·(try dsimp only at hSw); obtain ⟨s0, s1⟩ := hSw; go_simp; try with_reducible rfl
    try simp only [zP, zN, zS, zT, zU]
    refine tk 5 (v := ?_) hHeld (fun w hSw => ?_) ?_; rotate_left
    ·(try dsimp only at hSw); obtain ⟨s0, s1⟩ := hSw; go_simp; try with_reducible rfl
    try simp only [zP, zN, zS, zT, zU]
    refine tk 6 (v := ?_) hHeld (fun w hSw => ?_) ?_; rotate_left
    ·(try dsimp only at hSw); obtain ⟨s0, s1⟩ := hSw; go_simp; try with_reducible rfl
    try simp only [zP, zN, zS, zT, zU]
    refine tk 7 (v := ?_) hHeld (fun w hSw => ?_) ?_; rotate_left
    ·(try dsimp only at hSw); obtain ⟨s0, s1⟩ := hSw; go_simp; try with_reducible rfl
    try simp only [zP, zN, zS, zT, zU]
    refine tk 8 (v := ?_) hHeld (fun w hSw => ?_) ?_; rotate_left
    ·(try dsimp only at hSw); obtain ⟨s0, s1⟩ := hSw; go_simp; try with_reducible rfl
    try simp only [zP, zN, zS, zT, zU]
    refine wpAnyH_ready (rs := [9]) (by kernel_rfl) (by simp) ?_
    refine AllReadyH.cons (o := ?_) (by simp only [zA, zB, zC] <;> exact rfl) (fun K hK => ?_) AllReadyH.nil
    go_simp
    go_at_call 68
    refine (HKE.out _).mono ?_
    rintro e w9 ⟨rfl, hf9⟩
    have HR9 := Lib.hid (And.intro (HR1.out.1.trans hf9 (fun _ h => h.elim)) (HR1.out.2.non hf9))
    have HS9 := Lib.hid (And.intro HR9.out.2.at0 HR9.out.2.at2)
    have z9 := HR9.out.2.fz 1
    have c19 := HR9.out.2.at1
    have hr10 := HR9.out.2.set1 (.string (B (keptAt 1 (upB q))))
    have HS10 := Lib.hid (And.intro hr10.at0 hr10.at2)
    have HR10 := Lib.hid (And.intro (HR9.out.1.setCell (S := fun j => j = G) (p := ⟨G, k * 7 + 1, none⟩) (.inl rfl) (.string (B (keptAt 1 (upB q))))) hr10)
    clear hf9 hr10
    go_wp2_with fail
    refine hK.out _ _ HS9.out (fun hHeld => ?_)
    clear hK K
    try simp only [zP, zN, zS, zT, zU]
    refine tk 10 (v := ?_) hHeld (fun w hSw => ?_) ?_; rotate_left
    ·(try dsimp only at hSw); obtain ⟨s0, s1⟩ := hSw; go_simp; try with_reducible rfl
    try simp only [zP, zN, zS, zT, zU]
    refine tk 11 (v := ?_) hHeld (fun w hSw => ?_) ?_; rotate_left
    ·(try dsimp only at hSw); obtain ⟨s0, s1⟩ := hSw; go_simp; try with_reducible rfl
    try simp only [zP, zN, zS, zT, zU]
    refine wpAnyH_ready (rs := [12]) (by kernel_rfl) (by simp) ?_
    refine AllReadyH.cons (o := ?_) (by simp only [zA, zB, zC] <;> exact rfl) (fun K hK => ?_) AllReadyH.nil
    go_simp
    refine hK.out _ _ HS10.out (fun hHeld => ?_)
    clear hK K z9 c19
    try simp only [zP, zN, zS, zT, zU]
    refine wpAnyH_done (by kernel_rfl) ?_ _
    clear hHeld
    generalize (w9.setCell ⟨G, k * 7 + 1, none⟩ _) = wz at *
    have hM : Hid (wz.heap[G]? = some (.cells (rowsG ptC (cur q l (k + 1))).toArray TP (0, 0)) ∧ Fp (fun j => j = G) w wz) := ⟨HNX.out wz HR10.out.2, HR10.out.1⟩
    have hj1 := HL.out
    go_wp2
    go_roundw
    case rel => exact ⟨k + 1, by omega, by go_num, hM⟩
    case measure => simp [RowKit.intOf]; omega
   ·have q5 : (kd == 1) = false := beq_eq_false_iff_ne.2 hk1
    have q6 : (kd = 1) = False := eq_false hk1
    have HNX : Hid (∀ wz, R7 G k A C (.int .i64 kd) (.string (B (keptAt kd q))) (.string (B q)) (.string (B da)) (.int .i64 ve) (.int .i64 ow) (.bool tt) wz → wz.heap[G]? = some (.cells (rowsG ptC (cur q l (k + 1))).toArray TP (0, 0))) := fun wz h => by
     rw [← hnx]
     have e : fillP q ⟨kd, dd, p0, da, ve, ow, tt⟩ = ⟨kd, keptAt kd q, q, da, ve, ow, tt⟩ := by unfold fillP; simp only [hk1, if_false]
     rw [e]; exact h.row
    clear hnx hk1
    have HKE := Lib.hid (fun w => keptAt_c kd q w (by omega))
    clear hx hq hkl
    go_wp2_with fail
    have HR1a := Lib.hid (And.intro (HR.out.2.setCell (S := fun j => j = G) (p := ⟨G, k * 7 + 2, none⟩) (.inl rfl) (.string (B q))) (HR.out.1.set2 (.string (B q))))
    clear c0 c1 c2 z2
    generalize (wr.setCell ⟨G, k * 7 + 2, none⟩ _) = W1 at *
    have HR1 := Lib.hid (And.intro (HR1a.out.1.trans (Fp.refl Non W1).drew (fun _ h => h.elim)) (HR1a.out.2.non (Fp.refl Non W1).drew))
    have HS0 := Lib.hid (And.intro HR1.out.2.at0 HR1.out.2.at2)
    refine wp_region_held_drew (S := (fun w' => w'.cell? ⟨G, k * 7, none⟩ = some (.int .i64 kd) ∧ w'.cell? ⟨G, k * 7 + 2, none⟩ = some (.string (B q)))) (by kernel_rfl) ?_ (fun hHeld => ?_)
    ·exact HS0.out
    generalize W1.drew = wd at *
    refine tk 0 (v := ?_) hHeld (fun w hSw => ?_) ?_; rotate_left
    ·(try dsimp only at hSw); obtain ⟨s0, s1⟩ := hSw; go_simp; try with_reducible rfl
    try simp only [zP, zN, zS, zT, zU]
    refine tk 1 (v := ?_) hHeld (fun w hSw => ?_) ?_; rotate_left
    ·(try dsimp only at hSw); obtain ⟨s0, s1⟩ := hSw; go_simp; try with_reducible rfl
    try simp only [zP, zN, zS, zT, zU]
    refine tk 2 (v := ?_) hHeld (fun w hSw => ?_) ?_; rotate_left
    ·(try dsimp only at hSw); obtain ⟨s0, s1⟩ := hSw; go_simp; try with_reducible rfl
    try simp only [zP, zN, zS, zT, zU]
    refine tk 3 (v := ?_) hHeld (fun w hSw => ?_) ?_; rotate_left
    ·(try dsimp only at hSw); obtain ⟨s0, s1⟩ := hSw; go_simp; try with_reducible rfl
    try simp only [zP, zN, zS, zT, zU]
    refine tk 4 (v := ?_) hHeld (fun w hSw => ?_) ?_; rotate_left
    ·(try dsimp only at hSw); obtain ⟨s0, s1⟩ := hSw; go_simp; try with_reducible rfl
    try simp only [zP, zN, zS, zT, zU]
    refine tk 5 (v := ?_) hHeld (fun w hSw => ?_) ?_; rotate_left
    ·(try dsimp only at hSw); obtain ⟨s0, s1⟩ := hSw; go_simp; try with_reducible rfl
    try simp only [zP, zN, zS, zT, zU]
    refine tk 6 (v := ?_) hHeld (fun w hSw => ?_) ?_; rotate_left
    ·(try dsimp only at hSw); obtain ⟨s0, s1⟩ := hSw; go_simp; try with_reducible rfl
    try simp only [zP, zN, zS, zT, zU]
    refine tk 7 (v := ?_) hHeld (fun w hSw => ?_) ?_; rotate_left
    ·(try dsimp only at hSw); obtain ⟨s0, s1⟩ := hSw; go_simp; try with_reducible rfl
    try simp only [zP, zN, zS, zT, zU]
    refine tk 8 (v := ?_) hHeld (fun w hSw => ?_) ?_; rotate_left
    ·(try dsimp only at hSw); obtain ⟨s0, s1⟩ := hSw; go_simp; try with_reducible rfl
    try simp only [zP, zN, zS, zT, zU]
    refine wpAnyH_ready (rs := [9]) (by kernel_rfl) (by simp) ?_
    refine AllReadyH.cons (o := ?_) (by simp only [zA, zB, zC] <;> exact rfl) (fun K hK => ?_) AllReadyH.nil
    go_simp
    go_at_call 68
    refine (HKE.out _).mono ?_
    rintro e w9 ⟨rfl, hf9⟩
    have HR9 := Lib.hid (And.intro (HR1.out.1.trans hf9 (fun _ h => h.elim)) (HR1.out.2.non hf9))
    have HS9 := Lib.hid (And.intro HR9.out.2.at0 HR9.out.2.at2)
    have z9 := HR9.out.2.fz 1
    have c19 := HR9.out.2.at1
    have hr10 := HR9.out.2.set1 (.string (B (keptAt kd q)))
    have HS10 := Lib.hid (And.intro hr10.at0 hr10.at2)
    have HR10 := Lib.hid (And.intro (HR9.out.1.setCell (S := fun j => j = G) (p := ⟨G, k * 7 + 1, none⟩) (.inl rfl) (.string (B (keptAt kd q)))) hr10)
    clear hf9 hr10
    go_wp2_with fail
    refine hK.out _ _ HS9.out (fun hHeld => ?_)
    clear hK K
    try simp only [zP, zN, zS, zT, zU]
    refine tk 10 (v := ?_) hHeld (fun w hSw => ?_) ?_; rotate_left
    ·(try dsimp only at hSw); obtain ⟨s0, s1⟩ := hSw; go_simp; try with_reducible rfl
    try simp only [zP, zN, zS, zT, zU]
    refine tk 11 (v := ?_) hHeld (fun w hSw => ?_) ?_; rotate_left
    ·(try dsimp only at hSw); obtain ⟨s0, s1⟩ := hSw; go_simp; try with_reducible rfl
    try simp only [zP, zN, zS, zT, zU]
    refine wpAnyH_ready (rs := [12]) (by kernel_rfl) (by simp) ?_
    refine AllReadyH.cons (o := ?_) (by simp only [zA, zB, zC] <;> exact rfl) (fun K hK => ?_) AllReadyH.nil
    go_simp
    refine hK.out _ _ HS10.out (fun hHeld => ?_)
    clear hK K z9 c19
    try simp only [zP, zN, zS, zT, zU]
    refine wpAnyH_done (by kernel_rfl) ?_ _
    clear hHeld
    generalize (w9.setCell ⟨G, k * 7 + 1, none⟩ _) = wz at *
    have hM : Hid (wz.heap[G]? = some (.cells (rowsG ptC (cur q l (k + 1))).toArray TP (0, 0)) ∧ Fp (fun j => j = G) w wz) := ⟨HNX.out wz HR10.out.2, HR10.out.1⟩
    have hj1 := HL.out
    go_wp2
    go_roundw
    case rel => exact ⟨k + 1, by omega, by go_num, hM⟩
    case measure => simp [RowKit.intOf]; omega
  ·have hke : k = n := by omega
   subst hke
   have q3 : ((k : Int) < (k : Int)) = False := eq_false (by omega)
   have hfin := hR0.out.1
   unfold cur at hfin
   rw [HX.out.1, List.take_length, List.drop_length, List.append_nil] at hfin
   have HF := Lib.hid (And.intro hfin hR0.out.2)
   clear hlt hk hfin hR0
   go_wp2
   go_ret
   exact ⟨rfl, HF.out.1, HF.out.2⟩
end Go.Proofs.YtphoglepiegeiaaGreatDoor
namespace Go.Proofs.YtphoglepiegeiaaGreatDoor
set_option maxRecDepth 20000
set_option linter.unusedVariables false
set_option linter.unusedSimpArgs false
open Go.RowKit Pm
theorem Sg.of_row {α : Type} {enc : α → List Value} {k : Nat} (hk : ∀ x, (enc x).length = k) {w : World} {G : Nat} {T : TypeId} {l : List α} (c : Nat) (h : w.heap[G]? = some (.cells (rowsG enc l).toArray T (0, 0))) : Sg enc k w (.slice (some ⟨G, 0, none⟩) l.length c) l := by
 refine ⟨_, c, rfl, .inr ⟨G, 0, rfl, fun i hi => ⟨fun j v hv => ?_⟩⟩⟩
 have hj : j < k := by rw [← hk l[i]]; exact (List.getElem?_eq_some_iff.1 hv).1
 rw [cell_of_row w G _ _ T (0, 0) h, Nat.zero_add, List.getElem?_toArray, rowsG_get hk l i j hi hj]
 exact hv
theorem of_step {q : Bs} (l : List Pt) (g : Nat) (w : World) (hg : w.cell? ⟨g, 1, none⟩ = some (.string (B q))) (hgl : g < w.heap.size) (hq : q.length ≤ 100) (hl : l.length ≤ 10) :
  Calls Tryz.prog 76 #[.slice (some ⟨w.heap.size, 0, none⟩) l.length l.length, .pointer (some ⟨g, 0, none⟩)] (w.alloc (.cells (rowsG ptC l).toArray TP)) fun e w' => e = .returned (.slice (some ⟨w.heap.size, 0, none⟩) l.length l.length) ∧ Sg ptC 7 w' (.slice (some ⟨w.heap.size, 0, none⟩) l.length l.length) (l.map (fillP q)) ∧ Fp Non w w' := by
 have hf := fp_alloc w (.cells (rowsG ptC l).toArray TP)
 refine (Of1_c l w.heap.size g q _ (heap_alloc_new w _) (hf.cell hg (fun h => h)) (by omega) hq hl).mono ?_
 rintro e w' ⟨rfl, h1, h2⟩
 refine ⟨rfl, ?_, hf.trans h2 (fun k hk => .inr (by omega))⟩
 have := Sg.of_row ptC_len l.length h1
 rwa [List.length_map] at this
set_option maxHeartbeats 16000000 in
theorem Of_c (o : Opn) (w : World) (hl : o.path.length ≤ 1000000) :
  Calls Tryz.prog 30 #[opV o] w fun e w' => (∃ v', e = .returned v' ∧ Sg ptC 7 w' v' (partsOf o)) ∧ Fp Non w w' := by
 have hmc := fun w => May_c o w hl
 obtain ⟨kk, p, d, v, ow, t⟩ := o
 obtain ⟨bm, hm⟩ : ∃ b, may ⟨kk, p, d, v, ow, t⟩ = b := ⟨_, rfl⟩
 rw [hm] at hmc
 have hf0 := fp_alloc w (.cells #[.int .i64 kk, .string (B p), .string (B d), .int .i64 v, .int .i64 ow, .bool t] TO_)
 have hb0 := heap_alloc_new w (.cells #[.int .i64 kk, .string (B p), .string (B d), .int .i64 v, .int .i64 ow, .bool t] TO_)
 have HF0 := Lib.hid (And.intro hf0 hb0)
 unfold opV strV at hmc ⊢
 simp only at hmc ⊢
 have HM := Lib.hid hmc
 clear hmc hf0 hb0
 cases bm with
 | false =>
  have e : partsOf ⟨kk, p, d, v, ow, t⟩ = [] := by unfold partsOf; rw [hm]; rfl
  rw [e]
  clear e hm hl
  go_enter Tryz.func30, Tryz.ntmps30
  go_wp2_with fail
  refine (HM.out _).mono ?_
  rintro e w1 ⟨rfl, hf⟩
  have F := Lib.hid (HF0.out.1.then hf)
  clear hf
  go_wp2
  go_ret
  exact ⟨⟨_, rfl, Sg.nil _⟩, F.out⟩
 | true =>
  have hk := may_kind hm
  have hp : p.length ≤ 100 := split_len (may_split hm)
  clear hl
  simp only at hk
  rcases hk with rfl | rfl | rfl | rfl | rfl | rfl | rfl
  ·obtain ⟨ps, hps⟩ : ∃ ps, ps = partsOf ⟨1, p, d, v, ow, t⟩ := ⟨_, rfl⟩
   have hpe : ([⟨1, [], [], [], 0, 0, false⟩, ⟨2, [], [], d, 0, ow, t⟩] : List Pt).map (fillP p) = ps := by rw [hps]; unfold partsOf; rw [if_pos hm]; simp [fillP, keptAt]
   rw [← hps]
   have HPE := Lib.hid (And.intro hpe hp)
   clear hpe hps hp hm
   go_enter Tryz.func30, Tryz.ntmps30
   go_wp2_with fail
   refine (HM.out _).mono ?_
   rintro e w1 ⟨rfl, hf⟩
   have K1 := Lib.hid (And.intro (HF0.out.1.then hf) (hf.heap HF0.out.2 (fun h => h)))
   clear hf
   obtain ⟨o0, o1, o2, o3, o4, o5⟩ := box6 K1.out.2
   have HC := Lib.hid (of_step (q := p) ([⟨1, [], [], [], 0, 0, false⟩, ⟨2, [], [], d, 0, ow, t⟩] : List Pt) w.heap.size w1 o1 (Array.getElem?_eq_some_iff.1 K1.out.2).1 HPE.out.2 (by simp))
   go_wp2_with fail
   refine HC.out.mono ?_
   rintro e w2 ⟨rfl, hsg, hf⟩
   have HE := Lib.hid (And.intro (show Sg ptC 7 w2 (.slice (some ⟨w1.heap.size, 0, none⟩) 2 2) ps by rw [← HPE.out.1]; exact hsg) (K1.out.1.then hf))
   clear hsg hf
   go_wp2
   go_ret
   exact ⟨⟨_, rfl, HE.out.1⟩, HE.out.2⟩
  ·obtain ⟨ps, hps⟩ : ∃ ps, ps = partsOf ⟨2, p, d, v, ow, t⟩ := ⟨_, rfl⟩
   have hpe : ([⟨3, [], [], [], v, 0, false⟩, ⟨4, [], [], [], 0, 0, false⟩] : List Pt).map (fillP p) = ps := by rw [hps]; unfold partsOf; rw [if_pos hm]; simp [fillP, keptAt]
   rw [← hps]
   have HPE := Lib.hid (And.intro hpe hp)
   clear hpe hps hp hm
   go_enter Tryz.func30, Tryz.ntmps30
   go_wp2_with fail
   refine (HM.out _).mono ?_
   rintro e w1 ⟨rfl, hf⟩
   have K1 := Lib.hid (And.intro (HF0.out.1.then hf) (hf.heap HF0.out.2 (fun h => h)))
   clear hf
   obtain ⟨o0, o1, o2, o3, o4, o5⟩ := box6 K1.out.2
   have HC := Lib.hid (of_step (q := p) ([⟨3, [], [], [], v, 0, false⟩, ⟨4, [], [], [], 0, 0, false⟩] : List Pt) w.heap.size w1 o1 (Array.getElem?_eq_some_iff.1 K1.out.2).1 HPE.out.2 (by simp))
   go_wp2_with fail
   refine HC.out.mono ?_
   rintro e w2 ⟨rfl, hsg, hf⟩
   have HE := Lib.hid (And.intro (show Sg ptC 7 w2 (.slice (some ⟨w1.heap.size, 0, none⟩) 2 2) ps by rw [← HPE.out.1]; exact hsg) (K1.out.1.then hf))
   clear hsg hf
   go_wp2
   go_ret
   exact ⟨⟨_, rfl, HE.out.1⟩, HE.out.2⟩
  ·obtain ⟨ps, hps⟩ : ∃ ps, ps = partsOf ⟨3, p, d, v, ow, t⟩ := ⟨_, rfl⟩
   have hpe : ([⟨5, [], [], d, v, 0, false⟩] : List Pt).map (fillP p) = ps := by rw [hps]; unfold partsOf; rw [if_pos hm]; simp [fillP, keptAt]
   rw [← hps]
   have HPE := Lib.hid (And.intro hpe hp)
   clear hpe hps hp hm
   go_enter Tryz.func30, Tryz.ntmps30
   go_wp2_with fail
   refine (HM.out _).mono ?_
   rintro e w1 ⟨rfl, hf⟩
   have K1 := Lib.hid (And.intro (HF0.out.1.then hf) (hf.heap HF0.out.2 (fun h => h)))
   clear hf
   obtain ⟨o0, o1, o2, o3, o4, o5⟩ := box6 K1.out.2
   have HC := Lib.hid (of_step (q := p) ([⟨5, [], [], d, v, 0, false⟩] : List Pt) w.heap.size w1 o1 (Array.getElem?_eq_some_iff.1 K1.out.2).1 HPE.out.2 (by simp))
   go_wp2_with fail
   refine HC.out.mono ?_
   rintro e w2 ⟨rfl, hsg, hf⟩
   have HE := Lib.hid (And.intro (show Sg ptC 7 w2 (.slice (some ⟨w1.heap.size, 0, none⟩) 1 1) ps by rw [← HPE.out.1]; exact hsg) (K1.out.1.then hf))
   clear hsg hf
   go_wp2
   go_ret
   exact ⟨⟨_, rfl, HE.out.1⟩, HE.out.2⟩
  ·obtain ⟨ps, hps⟩ : ∃ ps, ps = partsOf ⟨4, p, d, v, ow, t⟩ := ⟨_, rfl⟩
   have hpe : ([⟨6, [], [], [], v, 0, false⟩] : List Pt).map (fillP p) = ps := by rw [hps]; unfold partsOf; rw [if_pos hm]; simp [fillP, keptAt]
   rw [← hps]
   have HPE := Lib.hid (And.intro hpe hp)
   clear hpe hps hp hm
   go_enter Tryz.func30, Tryz.ntmps30
   go_wp2_with fail
   refine (HM.out _).mono ?_
   rintro e w1 ⟨rfl, hf⟩
   have K1 := Lib.hid (And.intro (HF0.out.1.then hf) (hf.heap HF0.out.2 (fun h => h)))
   clear hf
   obtain ⟨o0, o1, o2, o3, o4, o5⟩ := box6 K1.out.2
   have HC := Lib.hid (of_step (q := p) ([⟨6, [], [], [], v, 0, false⟩] : List Pt) w.heap.size w1 o1 (Array.getElem?_eq_some_iff.1 K1.out.2).1 HPE.out.2 (by simp))
   go_wp2_with fail
   refine HC.out.mono ?_
   rintro e w2 ⟨rfl, hsg, hf⟩
   have HE := Lib.hid (And.intro (show Sg ptC 7 w2 (.slice (some ⟨w1.heap.size, 0, none⟩) 1 1) ps by rw [← HPE.out.1]; exact hsg) (K1.out.1.then hf))
   clear hsg hf
   go_wp2
   go_ret
   exact ⟨⟨_, rfl, HE.out.1⟩, HE.out.2⟩
  ·obtain ⟨ps, hps⟩ : ∃ ps, ps = partsOf ⟨5, p, d, v, ow, t⟩ := ⟨_, rfl⟩
   have hpe : ([⟨7, [], [], [], 0, 0, false⟩] : List Pt).map (fillP p) = ps := by rw [hps]; unfold partsOf; rw [if_pos hm]; simp [fillP, keptAt]
   rw [← hps]
   have HPE := Lib.hid (And.intro hpe hp)
   clear hpe hps hp hm
   go_enter Tryz.func30, Tryz.ntmps30
   go_wp2_with fail
   refine (HM.out _).mono ?_
   rintro e w1 ⟨rfl, hf⟩
   have K1 := Lib.hid (And.intro (HF0.out.1.then hf) (hf.heap HF0.out.2 (fun h => h)))
   clear hf
   obtain ⟨o0, o1, o2, o3, o4, o5⟩ := box6 K1.out.2
   have HC := Lib.hid (of_step (q := p) ([⟨7, [], [], [], 0, 0, false⟩] : List Pt) w.heap.size w1 o1 (Array.getElem?_eq_some_iff.1 K1.out.2).1 HPE.out.2 (by simp))
   go_wp2_with fail
   refine HC.out.mono ?_
   rintro e w2 ⟨rfl, hsg, hf⟩
   have HE := Lib.hid (And.intro (show Sg ptC 7 w2 (.slice (some ⟨w1.heap.size, 0, none⟩) 1 1) ps by rw [← HPE.out.1]; exact hsg) (K1.out.1.then hf))
   clear hsg hf
   go_wp2
   go_ret
   exact ⟨⟨_, rfl, HE.out.1⟩, HE.out.2⟩
  ·obtain ⟨ps, hps⟩ : ∃ ps, ps = partsOf ⟨6, p, d, v, ow, t⟩ := ⟨_, rfl⟩
   have hpe : ([⟨8, [], [], [], 0, 0, false⟩, ⟨9, [], [], [], 0, 0, false⟩] : List Pt).map (fillP p) = ps := by rw [hps]; unfold partsOf; rw [if_pos hm]; simp [fillP, keptAt]
   rw [← hps]
   have HPE := Lib.hid (And.intro hpe hp)
   clear hpe hps hp hm
   go_enter Tryz.func30, Tryz.ntmps30
   go_wp2_with fail
   refine (HM.out _).mono ?_
   rintro e w1 ⟨rfl, hf⟩
   have K1 := Lib.hid (And.intro (HF0.out.1.then hf) (hf.heap HF0.out.2 (fun h => h)))
   clear hf
   obtain ⟨o0, o1, o2, o3, o4, o5⟩ := box6 K1.out.2
   have HC := Lib.hid (of_step (q := p) ([⟨8, [], [], [], 0, 0, false⟩, ⟨9, [], [], [], 0, 0, false⟩] : List Pt) w.heap.size w1 o1 (Array.getElem?_eq_some_iff.1 K1.out.2).1 HPE.out.2 (by simp))
   go_wp2_with fail
   refine HC.out.mono ?_
   rintro e w2 ⟨rfl, hsg, hf⟩
   have HE := Lib.hid (And.intro (show Sg ptC 7 w2 (.slice (some ⟨w1.heap.size, 0, none⟩) 2 2) ps by rw [← HPE.out.1]; exact hsg) (K1.out.1.then hf))
   clear hsg hf
   go_wp2
   go_ret
   exact ⟨⟨_, rfl, HE.out.1⟩, HE.out.2⟩
  ·obtain ⟨ps, hps⟩ : ∃ ps, ps = partsOf ⟨7, p, d, v, ow, t⟩ := ⟨_, rfl⟩
   have hpe : ([⟨8, [], [], [], 0, 0, false⟩, ⟨10, [], [], [], 0, ow, false⟩] : List Pt).map (fillP p) = ps := by rw [hps]; unfold partsOf; rw [if_pos hm]; simp [fillP, keptAt]
   rw [← hps]
   have HPE := Lib.hid (And.intro hpe hp)
   clear hpe hps hp hm
   go_enter Tryz.func30, Tryz.ntmps30
   go_wp2_with fail
   refine (HM.out _).mono ?_
   rintro e w1 ⟨rfl, hf⟩
   have K1 := Lib.hid (And.intro (HF0.out.1.then hf) (hf.heap HF0.out.2 (fun h => h)))
   clear hf
   obtain ⟨o0, o1, o2, o3, o4, o5⟩ := box6 K1.out.2
   have HC := Lib.hid (of_step (q := p) ([⟨8, [], [], [], 0, 0, false⟩, ⟨10, [], [], [], 0, ow, false⟩] : List Pt) w.heap.size w1 o1 (Array.getElem?_eq_some_iff.1 K1.out.2).1 HPE.out.2 (by simp))
   go_wp2_with fail
   refine HC.out.mono ?_
   rintro e w2 ⟨rfl, hsg, hf⟩
   have HE := Lib.hid (And.intro (show Sg ptC 7 w2 (.slice (some ⟨w1.heap.size, 0, none⟩) 2 2) ps by rw [← HPE.out.1]; exact hsg) (K1.out.1.then hf))
   clear hsg hf
   go_wp2
   go_ret
   exact ⟨⟨_, rfl, HE.out.1⟩, HE.out.2⟩
end Go.Proofs.YtphoglepiegeiaaGreatDoor
