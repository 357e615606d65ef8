/- A text of this proof. -/
import Derived.ChangeSlices
import Derived.Deep.Grids
import Derived.Deep.Strs
import Derived.Laws.StructEq
import Derived.Lib.Bytealg
import Derived.OpenShut
import Derived.ProofKit
import Derived.Shelf.Abstract
import Derived.Test.YtphoglepiegeiaaGreatDoorZCA
import Derived.Test.YtphoglepiegeiaaGreatDoorZCC
set_option linter.unusedSimpArgs false
set_option linter.unusedVariables false
namespace Go.Proofs.YtphoglepiegeiaaGreatDoor
set_option maxRecDepth 20000
open Go.RowKit Pm
set_option maxHeartbeats 1000000 in
theorem nRight_c (v : Value) (l : List Nd) (w : World) (hv : Ns w v l) (hs : Sp l) :
  Calls Tryz.prog 75 #[v] w fun e w' => e = .returned (.bool (right l)) ∧ Fp Non w w' := by
 by_cases h0 : 0 < l.length
 ·by_cases h5 : l.length ≤ 512
  ·by_cases hr : (l[0]'h0).path = [47]
   ·by_cases ho : (l[0]'h0).own = 0
    ·exact Right_loop v l w hv hs h0 h5 hr ho
    have hf : right l = false := right_false (fun t => ho t.free)
    obtain ⟨g, o, cap, rfl, hlc, hcm, hgl, hcell⟩ := hv.at h0
    have hc0 := hcell 0 h0
    obtain ⟨n, hn⟩ : ∃ n, n = l.length := ⟨_, rfl⟩
    have q0 : w.cell? ⟨g, o, none⟩ = some (.string ⟨#[47]⟩) := by have := hc0.c0; rw [hr] at this; simpa [strV, B] using this
    obtain ⟨z, hz⟩ : ∃ z, z = (l[0]'h0).own := ⟨_, rfl⟩
    have q4 : w.cell? ⟨g, o + 4, none⟩ = some (.int .i64 z) := by have := hc0.c4; rw [← hz] at this; simpa using this
    have q1 : ((512 : Int) < (n : Int)) = False := eq_false (by omega)
    have q2 : ((n : Int) == 0) = false := beq_eq_false_iff_ne.2 (by omega)
    have q3 : (z != 0) = true := by rw [hz]; simpa using ho
    rw [hf, ← hn]
    have hn0 : 0 < n := by omega
    clear hv hlc hcm hc0 hcell hr ho hf hz hs h5 hn h0
    go_enter Tryz.func75, Tryz.ntmps75
    go_wp2
    go_ret
    exact ⟨rfl, Fp.refl _ _⟩
   have hf : right l = false := right_false (fun t => hr t.root)
   obtain ⟨g, o, cap, rfl, hlc, hcm, hgl, hcell⟩ := hv.at h0
   have hc0 := hcell 0 h0
   obtain ⟨n, hn⟩ : ∃ n, n = l.length := ⟨_, rfl⟩
   obtain ⟨p, hp⟩ : ∃ p, p = (l[0]'h0).path := ⟨_, rfl⟩
   have q0 : w.cell? ⟨g, o, none⟩ = some (.string (B p)) := by have := hc0.c0; rw [← hp] at this; simpa [strV] using this
   have q1 : ((512 : Int) < (n : Int)) = False := eq_false (by omega)
   have q2 : ((n : Int) == 0) = false := beq_eq_false_iff_ne.2 (by omega)
   have q3 : (p == [47]) = false := by rw [hp]; simpa using hr
   rw [hf, ← hn]
   have hn0 : 0 < n := by omega
   clear hv hlc hcm hc0 hcell hr hf hp hs h5 hn h0
   go_enter Tryz.func75, Tryz.ntmps75
   go_wp2
   go_ret
   exact ⟨rfl, Fp.refl _ _⟩
  have hf : right l = false := right_false (fun t => h5 t.most)
  obtain ⟨ao, cap, rfl⟩ := hv.shape
  obtain ⟨n, hn⟩ : ∃ n, n = l.length := ⟨_, rfl⟩
  have q1 : ((512 : Int) < (n : Int)) = True := eq_true (by omega)
  have q2 : ((n : Int) == 0) = false := beq_eq_false_iff_ne.2 (by omega)
  rw [hf, ← hn]
  clear hv hf hs h5 hn h0
  go_enter Tryz.func75, Tryz.ntmps75
  go_wp2
  go_ret
  exact ⟨rfl, Fp.refl _ _⟩
 have hf : right l = false := right_false (fun t => h0 t.pos)
 have h0' : l.length = 0 := by omega
 obtain ⟨ao, cap, rfl⟩ := hv.shape
 rw [hf, h0']
 clear hv hf hs h0 h0'
 go_enter Tryz.func75, Tryz.ntmps75
 go_wp2
 go_ret
 exact ⟨rfl, Fp.refl _ _⟩
structure Pd (S : Nat → Prop) (wc : World) (f : Value) (q : Nd → Bool) : Prop where
 ex : ∃ k fi cap, f = .func (.func k) fi cap ∧ Enters Tryz.prog k ∧ ∀ n w1, n.path.length ≤ 1000000 → Fp S wc w1 →
  Calls Tryz.prog k (fi ++ #[ndV n] ++ cap) w1 fun e w2 => e = .returned (.bool (q n)) ∧ Fp Non w1 w2
theorem Pd.later {S : Nat → Prop} {wc w : World} {f : Value} {q : Nd → Bool} (h : Pd S wc f q) (g : Fp S wc w) : Pd S w f q := by
 obtain ⟨k, fi, cap, e, h1, h2⟩ := h.ex
 exact ⟨k, fi, cap, e, h1, fun n w1 hn hf => h2 n w1 hn (g.same hf)⟩
theorem Pd.non {S : Nat → Prop} {wc : World} {f : Value} {q : Nd → Bool} (h : Pd S wc f q) : Pd Non wc f q := by
 obtain ⟨k, fi, cap, e, h1, h2⟩ := h.ex
 exact ⟨k, fi, cap, e, h1, fun n w1 hn hf => h2 n w1 hn hf.any⟩
def Idx (q : Nd → Bool) (l : List Nd) (z : Int) : Prop := (z = -1 ∧ ∀ n ∈ l, q n = false) ∨ ∃ i, z = ((i : Nat) : Int) ∧ ∃ h : i < l.length, q l[i] = true ∧ ∀ j (hj : j < l.length), j < i → q l[j] = false
set_option maxHeartbeats 1000000 in
theorem IndexFunc_c (v f : Value) (l : List Nd) (q : Nd → Bool) (w : World) (hv : Ns w v l) (hs : Sp l) (hq : Pd Non w f q) (hn : l.length ≤ 1000000) :
  Calls Tryz.prog 168 #[v, f] w fun e w' => (∃ z, e = .returned (.int .i64 z) ∧ Idx q l z) ∧ Fp Non w w' := by
 obtain ⟨ao, cap, rfl⟩ := hv.shape
 obtain ⟨n, hnn⟩ : ∃ n, n = l.length := ⟨_, rfl⟩
 obtain ⟨kf, fi, fc, rfl, hen, hcall⟩ := hq.ex
 have HX := zI (yI hnn (yI hv (yI hs hcall)))
 rw [← hnn]
 have hnb : n ≤ 1000000 := by omega
 clear hv hs hq hcall hn hnn
 go_enter Tryz.func168, Tryz.ntmps168
 go_wp2_with fail
 go_loopw [8] (fun i wr => ∃ k : Nat, k ≤ n ∧ i = .int .i64 k ∧ Hid (Fp Non w wr ∧ ∀ j (hj : j < l.length), j < k → q l[j] = false)) (fun i _ => n - (RowKit.intOf i).toNat)
 case atStart => exact ⟨0, Nat.zero_le _, rfl, Fp.refl _ _, fun j _ h => absurd h (Nat.not_lt_zero j)⟩
 obtain ⟨k, hk, rfl, hR⟩ := hrel
 rename_i wr _
 by_cases hlt : k < n
 ·have hkl : k < l.length := by rw [← HX.out.1]; exact hlt
  obtain ⟨g, o, cap', e, _, _, _, hcell⟩ := HX.out.2.1.at (by omega)
  injection e with e1 e2 e3
  subst e1 e3
  have hnd := (hcell k hkl).keep hR.out.1 id
  have hcc := HX.out.2.2.2 l[k] wr (HX.out.2.2.1 _ (List.getElem_mem hkl)) hR.out.1
  obtain ⟨b, hb⟩ : ∃ b, q l[k] = b := ⟨_, rfl⟩
  rw [hb] at hcc
  have HB := zI (yI hkl (yI hb hlt))
  have HL := zI (yI hkl hlt)
  have hnew : b = false → ∀ j (hj : j < l.length), j < k + 1 → q l[j] = false := fun h j hj hjk => by
   rcases Nat.lt_or_eq_of_le (show j ≤ k by omega) with e | e
   ·exact hR.out.2 j hj e
   subst e; rw [hb, h]
  have hfin : b = true → Idx q l (k : Int) := fun h => .inr ⟨k, rfl, hkl, by rw [hb, h], fun j hj hjk => hR.out.2 j hj hjk⟩
  have HN := zI (yI hnew hfin)
  clear HB hnew hfin hb hcell
  generalize l[k] = x at *
  have c0 := hnd.c0; have c1 := hnd.c1; have c2 := hnd.c2; have c3 := hnd.c3; have c4 := hnd.c4
  unfold strV at c0 c1
  unfold ndV strV at hcc
  have q3 : ((k : Int) < (n : Int)) = True := eq_true (by omega)
  have q4 : (k < n) = True := eq_true hlt
  have HCC := zI hcc
  clear hnd hcc hkl hlt
  go_wp2_with fail
  rw [hen _ _]
  go_wp2_with fail
  refine HCC.out.mono ?_
  rintro e w2 ⟨rfl, hf2⟩
  have HF := zI (hR.out.1.then hf2)
  clear hf2
  cases b with
  | true =>
   have hI := HN.out.2 rfl
   have HI := zI hI
   clear HN hI
   go_wp2
   go_ret
   exact ⟨⟨_, rfl, HI.out⟩, HF.out⟩
  | false => ?_
  have hM : Hid (Fp Non w w2 ∧ ∀ j (hj : j < l.length), j < k + 1 → q l[j] = false) := ⟨HF.out, HN.out.1 rfl⟩
  have hkn := HL.out.2
  clear HN
  go_wp2
  go_roundw
  case rel => exact ⟨k + 1, by omega, by go_num, hM⟩
  case measure => simp [RowKit.intOf]; omega
 have hke : k = n := by omega
 subst hke
 have q3 : ((k : Int) < (k : Int)) = False := eq_false (by omega)
 have hI : Idx q l (-1) := .inl ⟨rfl, fun x hx => by
  obtain ⟨i, hi, rfl⟩ := List.getElem_of_mem hx
  exact hR.out.2 i hi (by rw [HX.out.1]; exact hi)⟩
 have HI := zI hI
 clear hlt hk hI
 go_wp2
 go_ret
 exact ⟨⟨_, rfl, HI.out⟩, hR.out.1⟩
theorem Idx.pos {q : Nd → Bool} {l : List Nd} {z : Int} (h : Idx q l z) : decide (0 ≤ z) = l.any q := by
 rcases h with ⟨rfl, h⟩ | ⟨i, rfl, hi, h, _⟩
 ·have : l.any q = false := by rw [List.any_eq_false]; intro x hx; simp [h x hx]
  rw [this]; rfl
 have : l.any q = true := List.any_eq_true.2 ⟨_, List.getElem_mem hi, h⟩
 rw [this]; simp
set_option maxHeartbeats 1000000 in
theorem ContainsFunc_c (v f : Value) (l : List Nd) (q : Nd → Bool) (w : World) (hv : Ns w v l) (hs : Sp l) (hq : Pd Non w f q) (hn : l.length ≤ 1000000) :
  Calls Tryz.prog 131 #[v, f] w fun e w' => e = .returned (.bool (l.any q)) ∧ Fp Non w w' := by
 have hi := IndexFunc_c v f l q w hv hs hq hn
 have HI := zI hi
 obtain ⟨ao, cap, rfl⟩ := hv.shape
 obtain ⟨kf, fi, fc, rfl, _, _⟩ := hq.ex
 clear hi hv hq hs hn
 go_enter Tryz.func131, Tryz.ntmps131
 go_wp2_with fail
 refine HI.out.mono ?_
 rintro e w1 ⟨⟨z, rfl, hz⟩, hf⟩
 have HZ := zI (yI hz.pos hf)
 clear hz hf
 go_wp2
 go_ret
 exact ⟨ret_bool HZ.out.1, HZ.out.2⟩
theorem set5 {w : World} {b : Nat} {T : TypeId} {a0 a1 a2 a3 a4 : Value} (h : w.heap[b]? = some (.cells #[a0, a1, a2, a3, a4] T (0, 0))) (v0 v1 v2 v3 v4 : Value) :
  (((((w.setCell ⟨b, 0, none⟩ v0).setCell ⟨b, 1, none⟩ v1).setCell ⟨b, 2, none⟩ v2).setCell ⟨b, 3, none⟩ v3).setCell ⟨b, 4, none⟩ v4).heap[b]? = some (.cells #[v0, v1, v2, v3, v4] T (0, 0)) := by
 have h1 := heap_setCell_same w b 0 _ T v0 h
 have h2 := heap_setCell_same _ b 1 _ T v1 h1
 have h3 := heap_setCell_same _ b 2 _ T v2 h2
 have h4 := heap_setCell_same _ b 3 _ T v3 h3
 have h5 := heap_setCell_same _ b 4 _ T v4 h4
 exact h5
theorem fp5 {S : Nat → Prop} {a w : World} (f : Fp S a w) {b : Nat} (hb : S b ∨ a.heap.size ≤ b) (v0 v1 v2 v3 v4 : Value) :
  Fp S a (((((w.setCell ⟨b, 0, none⟩ v0).setCell ⟨b, 1, none⟩ v1).setCell ⟨b, 2, none⟩ v2).setCell ⟨b, 3, none⟩ v3).setCell ⟨b, 4, none⟩ v4) :=
 ((((f.setCell (p := ⟨b, 0, none⟩) hb v0).setCell (p := ⟨b, 1, none⟩) hb v1).setCell (p := ⟨b, 2, none⟩) hb v2).setCell (p := ⟨b, 3, none⟩) hb v3).setCell (p := ⟨b, 4, none⟩) hb v4
def zeroNd : Nd := ⟨[], [], 0, 0, 0⟩
set_option maxHeartbeats 1000000 in
theorem child1_c (n : Nd) (g : Nat) (p : Bs) (w : World) (hn : n.path.length ≤ 1000000) (hg : w.cell? ⟨g, 0, none⟩ = some (.string (B p))) :
  Calls Tryz.prog 178 #[ndV n, .pointer (some ⟨g, 0, none⟩)] w fun e w' => e = .returned (.bool (parent n.path == some p)) ∧ Fp Non w w' := by
 obtain ⟨np, d, v, t, o⟩ := n
 unfold ndV strV
 have hf : ∀ o, Fp Non w (w.alloc o) := fun o => (Fp.refl Non w).alloc o
 have hpar := fun w => Parent_g np w (sz_of hn (by omega))
 have HF := zI hf
 have HG := zI hg
 show Calls _ _ _ _ (fun e w' => e = .returned (.bool (parent np == some p)) ∧ _)
 cases hu : parent np with
 | none =>
  rw [hu] at hpar
  have HP := zI hpar
  clear hpar hu hf hg hn
  go_enter Tryz.func178, Tryz.ntmps178
  go_wp2_with fail
  refine (HP.out _).mono ?_
  rintro e w1 ⟨rfl, g1⟩
  have F := zI ((HF.out _).then g1.fp)
  clear g1
  go_wp2
  go_ret
  exact ⟨rfl, F.out⟩
 | some u => ?_
 rw [hu] at hpar
 have HP := zI hpar
 have hb : (some u == some p) = (u == p) := rfl
 rw [hb]
 clear hpar hu hf hg hn hb
 go_enter Tryz.func178, Tryz.ntmps178
 go_wp2_with fail
 refine (HP.out _).mono ?_
 rintro e w1 ⟨rfl, g1⟩
 have f1 := (HF.out _).then g1.fp
 have c1 := f1.cell HG.out id
 have F := zI f1
 clear g1 f1
 go_wp2
 all_goals (go_ret; exact ⟨rfl, F.out⟩)
theorem child_pd (w : World) (g : Nat) (p : Bs) (hg : w.cell? ⟨g, 0, none⟩ = some (.string (B p))) (S : Nat → Prop) (hS : ¬ S g) :
  Pd S w (.func (.func 178) #[] #[.pointer (some ⟨g, 0, none⟩)]) (fun n => parent n.path == some p) :=
 ⟨_, _, _, rfl, enters_of Tryz.func178 (by kernel_rfl) rfl, fun n w1 hn hf => child1_c n g p w1 hn (hf.cell hg hS)⟩
set_option maxHeartbeats 1000000 in
theorem childOf_c (p : Bs) (w : World) :
  Calls Tryz.prog 156 #[.string (B p)] w fun e w' => e = .returned (.func (.func 178) #[] #[.pointer (some ⟨w.heap.size, 0, none⟩)]) ∧ w' = w.alloc (.cells #[.string (B p)] 9) := by
 go_enter Tryz.func156, Tryz.ntmps156
 go_wp2
 go_ret
 exact ⟨rfl, rfl⟩
theorem childOf_pd (p : Bs) (w : World) (S : Nat → Prop) (hS : ∀ k, S k → k < w.heap.size) : Pd S (w.alloc (.cells #[.string (B p)] 9)) (.func (.func 178) #[] #[.pointer (some ⟨w.heap.size, 0, none⟩)]) (fun n => parent n.path == some p) :=
 child_pd _ _ p (by rw [cell_of_row _ _ _ _ _ _ (heap_alloc_new w _)]; rfl) S (fun h => by have := hS _ h; omega)
def cmpI (a b : Bs) : Int := if lt a b = true then -1 else if a = b then 0 else 1
theorem cmp_eq : ∀ a b : Bs, Lib.compareBytes a b = cmpI a b
 | [], [] => rfl
 | [], _ :: _ => rfl
 | x :: a, [] => by unfold cmpI; rw [lt_nil_right]; simp [Lib.compareBytes]
 | x :: a, y :: b => by
  have ih := cmp_eq a b
  unfold Lib.compareBytes cmpI
  rw [lt_cons]
  by_cases h1 : x < y
  ·simp [h1]
  rw [if_neg h1]
  by_cases h2 : y < x
  ·have hne : x ≠ y := fun e => by subst e; exact h1 h2
   simp [h1, h2, hne]
  have e : x = y := UInt8.le_antisymm (UInt8.not_lt.1 h2) (UInt8.not_lt.1 h1)
  subst e
  rw [if_neg h2, ih]
  unfold cmpI
  simp [h1]
set_option maxHeartbeats 1000000 in
theorem place1_c (n : Nd) (p : Bs) (w : World) :
  Calls Tryz.prog 177 #[ndV n, .string (B p)] w fun e w' => e = .returned (.int .i64 (cmpI n.path p)) ∧ Fp Non w w' := by
 obtain ⟨np, d, v, t, o⟩ := n
 unfold ndV strV
 have hf : ∀ o, Fp Non w (w.alloc o) := fun o => (Fp.refl Non w).alloc o
 have hc := fun w => Tryz.strings_Compare (B np) (B p) w
 have e : ∀ l : Bs, (B l).data.toList = l := fun l => by unfold B; rfl
 simp only [e, cmp_eq] at hc
 have HF := zI hf
 have HC := zI hc
 clear hf hc e
 go_enter Tryz.func177, Tryz.ntmps177
 go_wp2_with fail
 refine (HC.out _).mono ?_
 rintro e w1 ⟨rfl, rfl⟩
 go_wp2
 go_ret
 exact ⟨rfl, HF.out _⟩
structure BsM (l : List Nd) (p : Bs) (w : World) (i j : Nat) (wr : World) : Prop where
 fp : Fp Non w wr
 lo : ∀ x (h : x < l.length), x < i → lt l[x].path p = true
 hi : ∀ x (h : x < l.length), j ≤ x → lt l[x].path p = false
 ij : i ≤ j
 jn : j ≤ l.length
set_option maxHeartbeats 2000000 in
theorem Search_c (v : Value) (l : List Nd) (p : Bs) (w : World) (hv : Ns w v l) (ha : Asc l) (hn : l.length ≤ 1000000) :
  Calls Tryz.prog 150 #[v, .string (B p), .func (.func 177) #[] #[]] w fun e w' => e = .returned (.tuple #[.int .i64 (place l p), .bool (find l p).isSome]) ∧ Fp Non w w' := by
 obtain ⟨ao, cap, rfl⟩ := hv.shape
 obtain ⟨n, hnn⟩ : ∃ n, n = l.length := ⟨_, rfl⟩
 have HX := zI (yI hnn (yI hv ha))
 have H0 : Hid (BsM l p w 0 n w) := ⟨Fp.refl _ _, fun x _ h => absurd h (Nat.not_lt_zero x), fun x h1 h2 => by omega, Nat.zero_le _, by omega⟩
 rw [← hnn]
 have hnb : n ≤ 1000000 := by omega
 clear hv ha hn hnn
 go_enter Tryz.func150, Tryz.ntmps150
 go_wp2_with fail
 go_loopw [9, 10] (fun i j wr => ∃ a b : Nat, a ≤ n ∧ b ≤ n ∧ i = .int .i64 a ∧ j = .int .i64 b ∧ Hid (BsM l p w a b wr)) (fun i j _ => (RowKit.intOf j).toNat - (RowKit.intOf i).toNat)
 case atStart => exact ⟨0, n, Nat.zero_le _, Nat.le_refl _, rfl, rfl, H0⟩
 obtain ⟨a, b, han, hbn, rfl, rfl, hR⟩ := hrel
 rename_i wr _
 by_cases hlt : a < b
 ·obtain ⟨h, hh⟩ : ∃ h, h = (a + b) / 2 := ⟨_, rfl⟩
  have hab : a ≤ h ∧ h < b := by omega
  have he : ((a : Int) + (b : Int)) / 2 = (h : Int) := by omega
  have hhl : h < l.length := by rw [← HX.out.1]; omega
  have q5 : (h < n) = True := eq_true (by omega)
  have q6 : ((h : Int) < (n : Int)) = True := eq_true (by omega)
  obtain ⟨g, o, cap', e, _, _, _, hcell⟩ := HX.out.2.1.at (by omega)
  injection e with e1 e2 e3
  subst e1 e3
  have hnd := (hcell h hhl).keep hR.out.fp id
  have hdn : lt l[h].path p = true → ∀ x (hx : x < l.length), x < h + 1 → lt l[x].path p = true := fun k x hx hxh => by
   rcases Nat.lt_or_eq_of_le (show x ≤ h by omega) with e | e
   ·exact lt_trans (HX.out.2.2 x h hx hhl e) k
   subst e; exact k
  have hup : lt l[h].path p = false → ∀ x (hx : x < l.length), h ≤ x → lt l[x].path p = false := fun k x hx hxh => by
   rcases Nat.lt_or_eq_of_le hxh with e | e
   ·cases c : lt l[x].path p with
    | false => rfl
    | true => rw [lt_trans (HX.out.2.2 h x hhl hx e) c] at k; cases k
   subst e; exact k
  have hpc := fun w => place1_c l[h] p w
  have HB := zI (yI hdn hup)
  have HA := zI (yI hab (yI han hbn))
  clear hcell hdn hup hh han hbn
  generalize l[h] = y at *
  have c0 := hnd.c0; have c1 := hnd.c1; have c2 := hnd.c2; have c3 := hnd.c3; have c4 := hnd.c4
  unfold strV at c0 c1
  unfold ndV strV at hpc
  have q3 : ((a : Int) < (b : Int)) = True := eq_true (by omega)
  have q4 : (a < b) = True := eq_true hlt
  have hcmp : ∃ z, cmpI y.path p = z := ⟨_, rfl⟩
  obtain ⟨z, hz⟩ := hcmp
  rw [hz] at hpc
  have HPC := zI hpc
  have hhb : h ≤ 1000000 := by have := HA.out; omega
  clear hnd hpc hhl hlt hab
  by_cases hlo : lt y.path p = true
  ·have z0 : (z < 0) = True := eq_true (by rw [← hz]; unfold cmpI; rw [if_pos hlo]; decide)
   have HLo := zI hlo
   clear hz hlo
   go_wp2_with fail
   refine (HPC.out _).mono ?_
   rintro e w2 ⟨rfl, hf2⟩
   have hM : Hid (BsM l p w (h + 1) b w2) := ⟨hR.out.fp.then hf2, HB.out.1 HLo.out, hR.out.hi, by have := HA.out.1; omega, hR.out.jn⟩
   clear hf2
   go_wp2
   go_roundw
   case rel => exact ⟨h + 1, b, by have := HA.out; omega, HA.out.2.2, by go_num, rfl, hM⟩
   case measure => have := HA.out; simp [RowKit.intOf]; omega
  have hlo' : lt y.path p = false := by simpa using hlo
  have z0 : (z < 0) = False := eq_false (by rw [← hz]; unfold cmpI; rw [if_neg hlo]; split <;> decide)
  have HLo := zI hlo'
  clear hz hlo hlo'
  go_wp2_with fail
  refine (HPC.out _).mono ?_
  rintro e w2 ⟨rfl, hf2⟩
  have hM : Hid (BsM l p w a h w2) := ⟨hR.out.fp.then hf2, hR.out.lo, HB.out.2 HLo.out, by have := HA.out.1; omega, by have := HA.out.1; have := hR.out.jn; omega⟩
  clear hf2
  go_wp2
  go_roundw
  case rel => exact ⟨a, h, HA.out.2.1, by have := HA.out; omega, rfl, rfl, hM⟩
  case measure => have := HA.out; simp [RowKit.intOf]; omega
 have hab : a = b := by have := hR.out.ij; omega
 subst hab
 have hpl : place l p = a := place_of hR.out.jn hR.out.lo hR.out.hi
 have q3 : ((a : Int) < (a : Int)) = False := eq_false (by omega)
 have hfp := find_place HX.out.2.2 p
 rw [hpl] at hfp
 have HP := zI hpl
 by_cases hal : a < n
 ·have hal' : a < l.length := by rw [← HX.out.1]; exact hal
  rw [dif_pos hal'] at hfp
  obtain ⟨g, o, cap', e, _, _, _, hcell⟩ := HX.out.2.1.at (by omega)
  injection e with e1 e2 e3
  subst e1 e3
  have hnd := (hcell a hal').keep hR.out.fp id
  have hpc := fun w => place1_c l[a] p w
  have hnl := hR.out.hi a hal' (Nat.le_refl _)
  clear hcell
  generalize l[a] = y at *
  have c0 := hnd.c0; have c1 := hnd.c1; have c2 := hnd.c2; have c3 := hnd.c3; have c4 := hnd.c4
  unfold strV at c0 c1
  unfold ndV strV at hpc
  have q5 : ((a : Int) < (n : Int)) = True := eq_true (by omega)
  have q6 : (a < n) = True := eq_true hal
  obtain ⟨z, hz⟩ : ∃ z, cmpI y.path p = z := ⟨_, rfl⟩
  have hze : (z == 0) = (find l p).isSome := by
   rw [hfp, ← hz]; unfold cmpI
   rw [if_neg (by rw [hnl]; exact Bool.false_ne_true)]
   by_cases e : y.path = p
   ·rw [if_pos e, if_pos e]; rfl
   rw [if_neg e, if_neg e]; rfl
  rw [hz] at hpc
  have HPC := zI hpc
  have HZ := zI hze
  clear hnd hpc hz hze hfp hnl hal hal' hpl han hbn
  go_wp2_with fail
  refine (HPC.out _).mono ?_
  rintro e w2 ⟨rfl, hf2⟩
  have HF := zI (hR.out.fp.then hf2)
  clear hf2
  go_wp2
  go_ret2
  exact ⟨by rw [HP.out, ← HZ.out]; rfl, HF.out⟩
 have q5 : ((a : Int) < (n : Int)) = False := eq_false (by omega)
 have q6 : (a < n) = False := eq_false hal
 rw [dif_neg (by rw [← HX.out.1]; exact hal)] at hfp
 have HFN := zI hfp
 clear hfp hpl hal hlt han hbn
 go_wp2
 go_ret2
 exact ⟨by rw [HP.out, HFN.out]; rfl, hR.out.fp⟩
abbrev TO_ : TypeId := 41
abbrev TT : TypeId := 114
def opV (o : Opn) : Value := .agg #[.int .i64 o.kind, strV o.path, strV o.data, .int .i64 o.ver, .int .i64 o.own, .bool o.turns]
structure Tn (lo b G cap : Nat) (l : List Nd) (w : World) : Prop where
 blk : w.heap[b]? = some (.cells #[.slice (some ⟨G, 0, none⟩) l.length cap] TT (0, 0))
 low : lo ≤ b
 lowG : lo ≤ G
 ne : b ≠ G
 row : Nr w G cap l
def ownT (b G : Nat) : Nat → Prop := fun k => k = b ∨ k = G
section
variable {lo b G cap : Nat} {l : List Nd} {w w' : World}
theorem Tn.keep (h : Tn lo b G cap l w) {S : Nat → Prop} (f : Fp S w w') (hb : ¬ S b) (hG : ¬ S G) : Tn lo b G cap l w' := ⟨f.heap h.blk hb, h.low, h.lowG, h.ne, h.row.keep f hG⟩
theorem Tn.non (h : Tn lo b G cap l w) (f : Fp Non w w') : Tn lo b G cap l w' := h.keep f id id
theorem Tn.lt (h : Tn lo b G cap l w) : b < w.heap.size := (Array.getElem?_eq_some_iff.1 h.blk).1
theorem Tn.c0 (h : Tn lo b G cap l w) : w.cell? ⟨b, 0, none⟩ = some (.slice (some ⟨G, 0, none⟩) l.length cap) := by rw [cell_of_row _ _ _ _ _ _ h.blk]; rfl
theorem Tn.fz (h : Tn lo b G cap l w) : w.frozen? ⟨b, 0, none⟩ = false := by simp [World.frozen?, h.blk]
end
set_option maxHeartbeats 1000000 in
theorem place_c {lo b G cap : Nat} {l : List Nd} {w : World} (h : Tn lo b G cap l w) (p : Bs) (ha : Asc l) (hn : l.length ≤ 1000000) :
  Calls Tryz.prog 153 #[.pointer (some ⟨b, 0, none⟩), .string (B p)] w fun e w' => e = .returned (.tuple #[.int .i64 (place l p), .bool (find l p).isSome]) ∧ Fp Non w w' := by
 have hs := Search_c _ l p w h.row.ns ha hn
 have c0 := h.c0
 generalize l.length = n at *
 have HS := zI hs
 clear hs h hn ha
 go_enter Tryz.func153, Tryz.ntmps153
 go_wp2_with fail
 refine HS.out.mono ?_
 rintro e w1 ⟨rfl, hf⟩
 have HF := zI hf
 clear hf
 go_wp2
 go_ret2
 exact ⟨rfl, HF.out⟩
theorem fO : (Tryz.prog.fieldsOf TO_).toList = [⟨ "Kind", 3, 0, false, "", "", 0⟩, ⟨ "Path", 9, 1, false, "", "", 8⟩, ⟨ "Data", 9, 2, false, "", "", 24⟩, ⟨ "Version", 2, 3, false, "", "", 40⟩, ⟨ "Owner", 2, 4, false, "", "", 48⟩, ⟨ "Turns", 4, 5, false, "", "", 56⟩] := by kernel_rfl
theorem eq_op (w : World) (k k' : Int) (p p' d d' : ByteArray) (v v' o o' : Int) (t t' : Bool) : (Op.equalIn 10000 TO_ (.agg #[.int .i64 k, .string p, .string d, .int .i64 v, .int .i64 o, .bool t]) (.agg #[.int .i64 k', .string p', .string d', .int .i64 v', .int .i64 o', .bool t'])).run Tryz.prog w =
  .ok (decide (k = k' ∧ p.toList = p'.toList ∧ d.toList = d'.toList ∧ v = v' ∧ o = o' ∧ t = t')) w := by
 rw [run_equalIn_agg w 9999 TO_ _ _ (by kernel_rfl) (by kernel_rfl), fO]
 have e1 := fun w a b => run_equalIn_int (P := Tryz.prog) w 9998 3 .i64 .i64 a b Tryz.underlying3
 have e2 := fun w a b => run_equalIn_int (P := Tryz.prog) w 9998 2 .i64 .i64 a b Tryz.underlying2
 have e3 := fun w a b => run_equalIn_string (P := Tryz.prog) w 9998 9 a b Tryz.underlying9
 have e4 := fun w a b => run_equalIn_bool' (P := Tryz.prog) w 9998 4 a b Tryz.underlying4
 simp only [Op.eqFields]
 simp [e1, e2, e3, e4, go_sem]
 by_cases h1 : k = k' <;> by_cases h2 : p.toList = p'.toList <;> by_cases h3 : d.toList = d'.toList <;> by_cases h4 : v = v' <;> by_cases h5 : o = o' <;> by_cases h6 : t = t' <;> simp [h1, h2, h3, h4, h5, h6]
theorem box6 {w : World} {b : Nat} {T : TypeId} {c0 c1 c2 c3 c4 c5 : Value} (h : w.heap[b]? = some (.cells #[c0, c1, c2, c3, c4, c5] T (0, 0))) :
  w.cell? ⟨b, 0, none⟩ = some c0 ∧ w.cell? ⟨b, 1, none⟩ = some c1 ∧ w.cell? ⟨b, 2, none⟩ = some c2 ∧ w.cell? ⟨b, 3, none⟩ = some c3 ∧ w.cell? ⟨b, 4, none⟩ = some c4 ∧ w.cell? ⟨b, 5, none⟩ = some c5 :=
 ⟨by rw [cell_of_row _ _ _ _ _ _ h]; rfl, by rw [cell_of_row _ _ _ _ _ _ h]; rfl, by rw [cell_of_row _ _ _ _ _ _ h]; rfl, by rw [cell_of_row _ _ _ _ _ _ h]; rfl, by rw [cell_of_row _ _ _ _ _ _ h]; rfl, by rw [cell_of_row _ _ _ _ _ _ h]; rfl⟩
theorem fields_at1 (w : World) : (Instr.index 108 (.agg #[.int .i64 0, .int .i64 43, .int .i64 5, .int .i64 6, .int .i64 4, .int .i64 0, .int .i64 0, .int .i64 24]) (.int .i64 1)).run Tryz.prog w = .ok (.int .i64 43) w := by kernel_rfl
theorem fields_at2 (w : World) : (Instr.index 108 (.agg #[.int .i64 0, .int .i64 43, .int .i64 5, .int .i64 6, .int .i64 4, .int .i64 0, .int .i64 0, .int .i64 24]) (.int .i64 2)).run Tryz.prog w = .ok (.int .i64 5) w := by kernel_rfl
theorem fields_at3 (w : World) : (Instr.index 108 (.agg #[.int .i64 0, .int .i64 43, .int .i64 5, .int .i64 6, .int .i64 4, .int .i64 0, .int .i64 0, .int .i64 24]) (.int .i64 3)).run Tryz.prog w = .ok (.int .i64 6) w := by kernel_rfl
theorem fields_at4 (w : World) : (Instr.index 108 (.agg #[.int .i64 0, .int .i64 43, .int .i64 5, .int .i64 6, .int .i64 4, .int .i64 0, .int .i64 0, .int .i64 24]) (.int .i64 4)).run Tryz.prog w = .ok (.int .i64 4) w := by kernel_rfl
theorem fields_at5 (w : World) : (Instr.index 108 (.agg #[.int .i64 0, .int .i64 43, .int .i64 5, .int .i64 6, .int .i64 4, .int .i64 0, .int .i64 0, .int .i64 24]) (.int .i64 5)).run Tryz.prog w = .ok (.int .i64 0) w := by kernel_rfl
theorem fields_at6 (w : World) : (Instr.index 108 (.agg #[.int .i64 0, .int .i64 43, .int .i64 5, .int .i64 6, .int .i64 4, .int .i64 0, .int .i64 0, .int .i64 24]) (.int .i64 6)).run Tryz.prog w = .ok (.int .i64 0) w := by kernel_rfl
theorem fields_at7 (w : World) : (Instr.index 108 (.agg #[.int .i64 0, .int .i64 43, .int .i64 5, .int .i64 6, .int .i64 4, .int .i64 0, .int .i64 0, .int .i64 24]) (.int .i64 7)).run Tryz.prog w = .ok (.int .i64 24) w := by kernel_rfl
end Go.Proofs.YtphoglepiegeiaaGreatDoor
namespace Go.Proofs.YtphoglepiegeiaaGreatDoor
set_option maxRecDepth 20000
open Go.RowKit Pm
set_option maxHeartbeats 1000000 in
theorem GreatOp_c (o : Opn) (w : World) :
  Calls Tryz.prog 25 #[opV o] w fun e w' => ∃ c, e = .returned (.bool c) ∧ (c = false → o.path.length ≤ 3000 ∧ o.data.length ≤ 3000) ∧ Fp Non w w' := by
 obtain ⟨kk, p, d, v, ow, t⟩ := o
 unfold opV strV
 have lenB : ∀ l : Bs, (B l).data.size = l.length := fun l => by unfold B; simp
 by_cases h1 : 3000 < p.length
 ·have q1 : (3000 < p.length) = True := eq_true h1
  have q2 : ((3000 : Int) < (p.length : Int)) = True := eq_true (by omega)
  clear h1
  go_enter Tryz.func25, Tryz.ntmps25
  go_wp2
  go_ret
  exact ⟨_, rfl, fun h => by simp at h, (Fp.refl Non w).alloc _⟩
 have q1 : (3000 < p.length) = False := eq_false h1
 have q2 : ((3000 : Int) < (p.length : Int)) = False := eq_false (by omega)
 by_cases h2 : 3000 < d.length
 ·have q3 : (3000 < d.length) = True := eq_true h2
  have q4 : ((3000 : Int) < (d.length : Int)) = True := eq_true (by omega)
  clear h1 h2
  go_enter Tryz.func25, Tryz.ntmps25
  go_wp2
  go_ret
  exact ⟨_, rfl, fun h => by simp at h, (Fp.refl Non w).alloc _⟩
 have q3 : (3000 < d.length) = False := eq_false h2
 have q4 : ((3000 : Int) < (d.length : Int)) = False := eq_false (by omega)
 have HL := zI (show p.length ≤ 3000 ∧ d.length ≤ 3000 by omega)
 clear h1 h2
 go_enter Tryz.func25, Tryz.ntmps25
 go_wp2
 go_ret
 exact ⟨_, rfl, fun _ => HL.out, (Fp.refl Non w).alloc _⟩
theorem box5 {w : World} {b : Nat} {T : TypeId} {c0 c1 c2 c3 c4 : Value} (h : w.heap[b]? = some (.cells #[c0, c1, c2, c3, c4] T (0, 0))) :
  w.cell? ⟨b, 0, none⟩ = some c0 ∧ w.cell? ⟨b, 1, none⟩ = some c1 ∧ w.cell? ⟨b, 2, none⟩ = some c2 ∧ w.cell? ⟨b, 3, none⟩ = some c3 ∧ w.cell? ⟨b, 4, none⟩ = some c4 :=
 ⟨by rw [cell_of_row _ _ _ _ _ _ h]; rfl, by rw [cell_of_row _ _ _ _ _ _ h]; rfl, by rw [cell_of_row _ _ _ _ _ _ h]; rfl, by rw [cell_of_row _ _ _ _ _ _ h]; rfl, by rw [cell_of_row _ _ _ _ _ _ h]; rfl⟩
structure RfM (l : List Nd) (p : Bs) (w : World) (k : Nat) (wr : World) : Prop where
 row : wr.heap[w.heap.size]? = some (.cells #[.string ⟨#[]⟩, .string ⟨#[]⟩, .int .i64 0, .int .i64 0, .int .i64 0] TN (0, 0))
 fp : Fp Non w wr
 no : ∀ j (hj : j < l.length), j < k → l[j].path ≠ p
theorem RfM.next {l : List Nd} {p : Bs} {w wr : World} {k : Nat} (h : RfM l p w k wr) (hk : k < l.length) (hp : l[k].path ≠ p) : RfM l p w (k + 1) wr :=
 ⟨h.row, h.fp, fun j hj hjk => by
  rcases Nat.lt_or_eq_of_le (show j ≤ k by omega) with e | e
  ·exact h.no j hj e
  subst e; exact hp⟩
theorem RfM.found {l : List Nd} {p : Bs} {w wr : World} {k : Nat} (h : RfM l p w k wr) (hk : k < l.length) (hp : l[k].path = p) : find l p = some l[k] := by
 unfold find
 rw [List.find?_eq_some_iff_getElem]
 refine ⟨by simp [hp], k, hk, rfl, fun j hji => ?_⟩
 have := h.no j (by omega) hji
 simp [this]
theorem RfM.none {l : List Nd} {p : Bs} {w wr : World} {k : Nat} (h : RfM l p w k wr) (hk : k = l.length) : find l p = none := by
 rw [find_none]
 intro x hx
 obtain ⟨j, hj, rfl⟩ := List.getElem_of_mem hx
 exact h.no j hj (by omega)
set_option maxHeartbeats 2000000 in
theorem rFind_c (v : Value) (l : List Nd) (p : Bs) (w : World) (hv : Ns w v l) (hn : l.length ≤ 1000000) :
  Calls Tryz.prog 60 #[v, .string (B p)] w fun e w' => e = .returned (.tuple #[ndV ((find l p).getD zeroNd), .bool (find l p).isSome]) ∧ Fp Non w w' := by
 obtain ⟨ao, cap, rfl⟩ := hv.shape
 obtain ⟨n, hnn⟩ : ∃ n, n = l.length := ⟨_, rfl⟩
 have HX := zI (yI hnn hv)
 rw [← hnn]
 have hnb : n ≤ 1000000 := by omega
 have H0 : Hid (RfM l p w 0 (w.alloc (.cells #[.string ⟨#[]⟩, .string ⟨#[]⟩, .int .i64 0, .int .i64 0, .int .i64 0] TN))) := ⟨heap_alloc_new w _, (Fp.refl Non w).alloc _, fun j _ h => absurd h (Nat.not_lt_zero j)⟩
 clear hv hn hnn
 go_enter Tryz.func60, Tryz.ntmps60
 go_wp2_with fail
 go_loopw [6] (fun i wr => ∃ k : Nat, k ≤ n ∧ i = .int .i64 k ∧ Hid (RfM l p w k wr)) (fun i _ => n - (RowKit.intOf i).toNat)
 case atStart => exact ⟨0, Nat.zero_le _, rfl, H0⟩
 clear H0
 obtain ⟨k, hk, rfl, hR⟩ := hrel
 rename_i wr _
 have HB := zI hR.out.row
 have HF := zI hR.out.fp
 obtain ⟨r0, r1, r2, r3, r4⟩ := box5 hR.out.row
 have fz : ∀ j, wr.frozen? ⟨w.heap.size, j, none⟩ = false := fun j => by simp [World.frozen?, HB.out]
 have f0 := fz 0; have f1 := fz 1; have f2 := fz 2; have f3 := fz 3; have f4 := fz 4
 clear fz
 by_cases hlt : k < n
 ·have hkl : k < l.length := by rw [← HX.out.1]; exact hlt
  obtain ⟨g, o, cap', e, _, _, _, hcell⟩ := HX.out.2.at (by omega)
  injection e with e1 e2 e3
  subst e1 e3
  have hnd := (hcell k hkl).keep hR.out.fp id
  have q3 : ((k : Int) < (n : Int)) = True := eq_true (by omega)
  have q4 : (k < n) = True := eq_true hlt
  have hnx := fun h => hR.out.next hkl h
  have hfd := fun h => hR.out.found hkl h
  have HNX := zI hnx
  have HFD := zI hfd
  have HL := zI hlt
  clear hcell hnx hfd hlt
  generalize l[k] = x at *
  clear hkl
  have c0 := hnd.c0; have c1 := hnd.c1; have c2 := hnd.c2; have c3 := hnd.c3; have c4 := hnd.c4
  unfold strV at c0 c1
  clear hnd
  by_cases hp : x.path = p
  ·have HFN := zI (HFD.out hp)
   have q5 : (x.path == p) = true := beq_iff_eq.2 hp
   have q6 : (x.path = p) = True := eq_true hp
   clear hp
   go_wp2
   have hw9 := set5 HB.out (.string (B x.path)) (.string (B x.data)) (.int .i64 x.ver) (.int .i64 x.turn) (.int .i64 x.own)
   have hf9 := fp5 (S := Non) HF.out (b := w.heap.size) (.inr (Nat.le_refl _)) (.string (B x.path)) (.string (B x.data)) (.int .i64 x.ver) (.int .i64 x.turn) (.int .i64 x.own)
   generalize (((((World.setCell wr _ _).setCell _ _).setCell _ _).setCell _ _).setCell _ _) = w9 at *
   have s0 := cell_of_row _ w.heap.size 0 _ _ _ hw9
   have s1 := cell_of_row _ w.heap.size 1 _ _ _ hw9
   have s2 := cell_of_row _ w.heap.size 2 _ _ _ hw9
   have s3 := cell_of_row _ w.heap.size 3 _ _ _ hw9
   have s4 := cell_of_row _ w.heap.size 4 _ _ _ hw9
   simp only [zA, zB, zC] at s0 s1 s2 s3 s4
   exact bodyPost_ret (v := .tuple #[.agg #[.string (B x.path), .string (B x.data), .int .i64 x.ver, .int .i64 x.turn, .int .i64 x.own], .bool true]) (by simp [results, Tryz.results60, go_sem, s0, s1, s2, s3, s4]) rfl ⟨by rw [HFN.out]; rfl, hf9⟩
  have hM := zI (HNX.out hp)
  have q5 : (x.path == p) = false := beq_eq_false_iff_ne.2 hp
  have q6 : (x.path = p) = False := eq_false hp
  have hj := HL.out
  clear hp r0 r1 r2 r3 r4 f0 f1 f2 f3 f4
  go_wp2
  go_roundw
  case rel => exact ⟨k + 1, by omega, by go_num, hM⟩
  case measure => simp [RowKit.intOf]; omega
 have hke : k = n := by omega
 subst hke
 have q3 : ((k : Int) < (k : Int)) = False := eq_false (by omega)
 have hfin := hR.out.none HX.out.1
 have HFN := zI hfin
 clear hlt hk hfin
 go_wp2
 have hw9 := set5 HB.out (.string ⟨#[]⟩) (.string ⟨#[]⟩) (.int .i64 0) (.int .i64 0) (.int .i64 0)
 have hf9 := fp5 (S := Non) HF.out (b := w.heap.size) (.inr (Nat.le_refl _)) (.string ⟨#[]⟩) (.string ⟨#[]⟩) (.int .i64 0) (.int .i64 0) (.int .i64 0)
 generalize (((((World.setCell wr _ _).setCell _ _).setCell _ _).setCell _ _).setCell _ _) = w9 at *
 have s0 := cell_of_row _ w.heap.size 0 _ _ _ hw9
 have s1 := cell_of_row _ w.heap.size 1 _ _ _ hw9
 have s2 := cell_of_row _ w.heap.size 2 _ _ _ hw9
 have s3 := cell_of_row _ w.heap.size 3 _ _ _ hw9
 have s4 := cell_of_row _ w.heap.size 4 _ _ _ hw9
 simp only [zA, zB, zC] at s0 s1 s2 s3 s4
 exact bodyPost_ret (v := .tuple #[.agg #[.string ⟨#[]⟩, .string ⟨#[]⟩, .int .i64 0, .int .i64 0, .int .i64 0], .bool false]) (by simp [results, Tryz.results60, go_sem, s0, s1, s2, s3, s4]) rfl ⟨by rw [HFN.out]; rfl, hf9⟩
theorem fN : (Tryz.prog.fieldsOf TN).toList = [⟨ "Path", 9, 0, false, "", "", 0⟩, ⟨ "Data", 9, 1, false, "", "", 16⟩, ⟨ "Version", 2, 2, false, "", "", 32⟩, ⟨ "Turn", 2, 3, false, "", "", 40⟩, ⟨ "Owner", 2, 4, false, "", "", 48⟩] := by kernel_rfl
theorem eq_nd (w : World) (p p' d d' : ByteArray) (v v' t t' o o' : Int) : (Op.equalIn 10000 TN (.agg #[.string p, .string d, .int .i64 v, .int .i64 t, .int .i64 o]) (.agg #[.string p', .string d', .int .i64 v', .int .i64 t', .int .i64 o'])).run Tryz.prog w =
  .ok (decide (p.toList = p'.toList ∧ d.toList = d'.toList ∧ v = v' ∧ t = t' ∧ o = o')) w := by
 rw [run_equalIn_agg w 9999 TN _ _ (by kernel_rfl) (by kernel_rfl), fN]
 have e2 := fun w a b => run_equalIn_int (P := Tryz.prog) w 9998 2 .i64 .i64 a b Tryz.underlying2
 have e3 := fun w a b => run_equalIn_string (P := Tryz.prog) w 9998 9 a b Tryz.underlying9
 simp only [Op.eqFields]
 simp [e2, e3, go_sem]
 by_cases h2 : p.toList = p'.toList <;> by_cases h3 : d.toList = d'.toList <;> by_cases h4 : v = v' <;> by_cases h5 : t = t' <;> by_cases h6 : o = o' <;> simp [h2, h3, h4, h5, h6]
theorem B_list (l : Bs) : (B l).toList = l := by
 unfold B; simp [ByteArray.toList_eq]
theorem eq_nds (w : World) (x y : Nd) : (Op.equalIn 10000 TN (.agg #[.string (B x.path), .string (B x.data), .int .i64 x.ver, .int .i64 x.turn, .int .i64 x.own]) (.agg #[.string (B y.path), .string (B y.data), .int .i64 y.ver, .int .i64 y.turn, .int .i64 y.own])).run Tryz.prog w = .ok (decide (x = y)) w := by
 rw [eq_nd]
 congr 1
 simp only [B_list]
 obtain ⟨_, _, _, _, _⟩ := x
 obtain ⟨_, _, _, _, _⟩ := y
 simp
structure SaM (a b : List Nd) (w : World) (k : Nat) (wr : World) : Prop where
 fp : Fp Non w wr
 eq : a.take k = b.take k
theorem take_succ_eq {a b : List Nd} {k : Nat} (ha : k < a.length) (hb : k < b.length) (h : a.take k = b.take k) (e : a[k] = b[k]) : a.take (k + 1) = b.take (k + 1) := by
 rw [List.take_succ_eq_append_getElem ha, List.take_succ_eq_append_getElem hb, h, e]
set_option maxHeartbeats 2000000 in
theorem rSameN_c (va vb : Value) (a b : List Nd) (w : World) (hva : Ns w va a) (hvb : Ns w vb b) (hn : a.length ≤ 1000000) (hm : b.length ≤ 1000000) :
  Calls Tryz.prog 34 #[va, vb] w fun e w' => e = .returned (.bool (decide (a = b))) ∧ Fp Non w w' := by
 obtain ⟨ao, ca, rfl⟩ := hva.shape
 obtain ⟨bo, cb, rfl⟩ := hvb.shape
 by_cases hl : a.length = b.length
 ·obtain ⟨n, hnn⟩ : ∃ n, n = a.length := ⟨_, rfl⟩
  have hnb : n ≤ 1000000 := by omega
  have HX := zI (yI hnn (yI (show n = b.length by omega) (yI hva hvb)))
  rw [← hl, ← hnn]
  have H0 : Hid (SaM a b w 0 w) := ⟨Fp.refl _ _, by simp⟩
  have heq := eq_nds
  clear hva hvb hl hn hm hnn
  go_enter Tryz.func34, Tryz.ntmps34
  go_wp2_with fail
  go_loopw [5] (fun i wr => ∃ k : Nat, k ≤ n ∧ i = .int .i64 k ∧ Hid (SaM a b w k wr)) (fun i _ => n - (RowKit.intOf i).toNat)
  case atStart => exact ⟨0, Nat.zero_le _, rfl, H0⟩
  clear H0
  obtain ⟨k, hk, rfl, hR⟩ := hrel
  rename_i wr _
  by_cases hlt : k < n
  ·have hka : k < a.length := by rw [← HX.out.1]; exact hlt
   have hkb : k < b.length := by rw [← HX.out.2.1]; exact hlt
   obtain ⟨g, o, cap', e, _, _, _, hcell⟩ := HX.out.2.2.1.at (by omega)
   injection e with e1 e2 e3
   subst e1 e3
   obtain ⟨g', o', cap', e, _, _, _, hcell'⟩ := HX.out.2.2.2.at (by omega)
   injection e with e1 e2 e3
   subst e1 e3
   have hnd := (hcell k hka).keep hR.out.fp id
   have hnd' := (hcell' k hkb).keep hR.out.fp id
   have q3 : ((k : Int) < (n : Int)) = True := eq_true (by omega)
   have q4 : (k < n) = True := eq_true hlt
   have hnx := fun e wr' (f : Fp Non wr wr') => (show SaM a b w (k + 1) wr' from ⟨hR.out.fp.then f, take_succ_eq hka hkb hR.out.eq e⟩)
   have hno := fun (e : a[k] ≠ b[k]) => (show a ≠ b from fun h => e (by subst h; rfl))
   have HNX := zI hnx
   have HNO := zI hno
   have HL := zI hlt
   clear hcell hcell' hnx hno hlt
   generalize a[k] = x at *
   generalize b[k] = y at *
   have c0 := hnd.c0; have c1 := hnd.c1; have c2 := hnd.c2; have c3 := hnd.c3; have c4 := hnd.c4
   have d0 := hnd'.c0; have d1 := hnd'.c1; have d2 := hnd'.c2; have d3 := hnd'.c3; have d4 := hnd'.c4
   unfold strV at c0 c1 d0 d1
   clear hnd hnd' hka hkb
   by_cases hxy : x = y
   ·have q5 : decide (x = y) = true := decide_eq_true hxy
    have q6 : (x = y) = True := eq_true hxy
    have hM := zI (HNX.out hxy)
    have hj := HL.out
    clear hxy
    go_wp2_with fail
    go_quiet (fail)
    go_wp2
    go_roundw
    case rel => exact ⟨k + 1, by omega, by go_num, hM.out _ ((Fp.refl _ _).drewN _)⟩
    case measure => simp [RowKit.intOf]; omega
   have q5 : decide (x = y) = false := decide_eq_false hxy
   have q6 : (x = y) = False := eq_false hxy
   have HN := zI (HNO.out hxy)
   clear hxy
   go_wp2_with fail
   go_quiet (fail)
   go_wp2
   go_ret
   exact ⟨by rw [decide_eq_false HN.out]; rfl, hR.out.fp.drewN _⟩
  have hke : k = n := by omega
  subst hke
  have q3 : ((k : Int) < (k : Int)) = False := eq_false (by omega)
  have hfin : a = b := by
   have := hR.out.eq
   rw [HX.out.1, List.take_length, ← HX.out.1, HX.out.2.1, List.take_length] at this; exact this
  have HFN := zI hfin
  clear hlt hk hfin
  go_wp2
  go_ret
  exact ⟨by rw [decide_eq_true HFN.out]; rfl, hR.out.fp⟩
 have HN := zI (show a ≠ b from fun h => hl (by rw [h]))
 have q1 : ((a.length : Int) == (b.length : Int)) = false := beq_eq_false_iff_ne.2 (by omega)
 have q2 : ((a.length : Int) = (b.length : Int)) = False := eq_false (by omega)
 have q3 : (a.length == b.length) = false := beq_eq_false_iff_ne.2 hl
 have q4 : (a.length = b.length) = False := eq_false hl
 clear hl hva hvb hn hm
 go_enter Tryz.func34, Tryz.ntmps34
 go_wp2
 go_ret
 exact ⟨by rw [decide_eq_false HN.out]; rfl, Fp.refl _ _⟩
structure GrM (l : List Nd) (w : World) (k : Nat) (N : Int) (wr : World) : Prop where
 fp : Fp Non w wr
 lo : 3 * (l.length : Int) ≤ N
 eq : ∀ j (h : j < l.length), j < k → (min (l[j].path.length : Int) 5000 ≤ N ∧ min (l[j].data.length : Int) 5000 ≤ N)
theorem min5 (a : Nat) : (0 : Int) ≤ min (a : Int) 5000 ∧ min (a : Int) 5000 ≤ 5000 := by omega
theorem GrM.next {l : List Nd} {w wr wr' : World} {k : Nat} {N : Int} (h : GrM l w k N wr) (f : Fp Non wr wr') (hk : k < l.length) :
  GrM l w (k + 1) (N + min (l[k].path.length : Int) 5000 + min (l[k].data.length : Int) 5000) wr' := by
 have hN : 0 ≤ N := by have := h.lo; omega
 have m1 := min5 l[k].path.length
 have m2 := min5 l[k].data.length
 refine ⟨h.fp.then f, by have := h.lo; omega, fun j hj hjk => ?_⟩
 rcases Nat.lt_or_eq_of_le (show j ≤ k by omega) with e | e
 ·have := h.eq j hj e
  omega
 subst e
 omega
theorem GrM.few {l : List Nd} {w wr : World} {k : Nat} {N : Int} (h : GrM l w k N wr) (hk : k = l.length) (hN : N < 5000) : l.length ≤ 1667 ∧ ∀ x ∈ l, x.path.length ≤ 5000 ∧ x.data.length ≤ 5000 := by
 refine ⟨by have := h.lo; omega, fun x hx => ?_⟩
 obtain ⟨j, hj, rfl⟩ := List.getElem_of_mem hx
 have := h.eq j hj (by omega)
 omega
set_option maxHeartbeats 6000000 in
theorem Great_c (v : Value) (l : List Nd) (w : World) (hv : Ns w v l) (hn : l.length ≤ 140737488355328) :
  Calls Tryz.prog 26 #[v] w fun e w' => ∃ g : Bool, e = .returned (.bool g) ∧ (g = false → l.length ≤ 1667 ∧ ∀ x ∈ l, x.path.length ≤ 5000 ∧ x.data.length ≤ 5000) ∧ Fp Non w w' := by
 obtain ⟨ao, cap, rfl⟩ := hv.shape
 obtain ⟨n, hnn⟩ : ∃ n, n = l.length := ⟨_, rfl⟩
 have HX := zI (yI hnn hv)
 rw [← hnn]
 have hnb : n ≤ 140737488355328 := by omega
 clear hv hn hnn
 go_enter Tryz.func26, Tryz.ntmps26
 go_wp2_with fail
 go_loopw [3, 4] (fun m i wr => ∃ k : Nat, k ≤ n ∧ i = .int .i64 k ∧ ∃ N : Int, m = .int .i64 N ∧ (0 ≤ N ∧ N ≤ 422212465095680) ∧ Hid (GrM l w k N wr)) (fun _ i _ => n - (RowKit.intOf i).toNat)
 case atStart => exact ⟨0, Nat.zero_le _, rfl, 3 * (n : Int), by go_num, by omega, ⟨Fp.refl _ _, by rw [HX.out.1]; exact Int.le_refl _, fun j _ h => absurd h (Nat.not_lt_zero j)⟩⟩
 obtain ⟨k, hk, rfl, N, rfl, hN, hR⟩ := hrel
 rename_i wr _
 by_cases hlt : k < n
 ·have hkl : k < l.length := by rw [← HX.out.1]; exact hlt
  have q3 : ((k : Int) < (n : Int)) = True := eq_true (by omega)
  have q4 : (k < n) = True := eq_true hlt
  by_cases hN5 : N < 5000
  ·have q5 : (N < 5000) = True := eq_true hN5
   obtain ⟨g, o, cap', e, _, _, _, hcell⟩ := HX.out.2.at (by omega)
   injection e with e1 e2 e3
   subst e1 e3
   have hnd := (hcell k hkl).keep hR.out.fp id
   clear hcell
   have hnx := fun wr' f => hR.out.next (wr' := wr') f hkl
   have HNX := zI hnx
   have HL := zI (yI hlt hN5)
   clear hnx hlt hN5
   generalize l[k] = x at *
   clear hkl
   have c0 := hnd.c0; have c1 := hnd.c1
   unfold strV at c0 c1
   have HB := zI (yI (min5 x.path.length) (min5 x.data.length))
   clear hnd
   go_wp2_with fail
   go_quiet (fail)
   go_wp2_with fail
   have hb := HB.out
   have hj := HL.out
   refine ⟨⟨k + 1, by omega, by go_num, _, rfl, ⟨by omega, by omega⟩, HNX.out _ ((Fp.refl _ _).drewN _)⟩, ?_⟩
   simp [RowKit.intOf]; omega
  have q5 : (N < 5000) = False := eq_false hN5
  have q6 : ((5000 : Int) ≤ N) = True := eq_true (by omega)
  clear hN5 hkl hlt
  go_wp2
  go_ret
  exact ⟨true, rfl, fun h => by simp at h, hR.out.fp⟩
 have hke : k = n := by omega
 subst hke
 have q3 : ((k : Int) < (k : Int)) = False := eq_false (by omega)
 by_cases hN5 : N < 5000
 ·have q6 : ((5000 : Int) ≤ N) = False := eq_false (by omega)
  have hfw := hR.out.few HX.out.1 hN5
  rw [← HX.out.1] at hfw
  have HFW := zI hfw
  clear hfw hN5 hlt hk
  go_wp2
  go_ret
  exact ⟨false, rfl, fun _ => HFW.out, hR.out.fp⟩
 have q6 : ((5000 : Int) ≤ N) = True := eq_true (by omega)
 clear hN5 hlt hk
 go_wp2
 go_ret
 exact ⟨true, rfl, fun h => by simp at h, hR.out.fp⟩
open Go.ChangeShapes Go.WideShapes Go.ChangeAt Go.RowKit Pm Go.Deep
open Go.WideMaps Go.WideElems
open Go.ChangeMaps (setBlock shut_map_nil open_string shut_string)
theorem spot_none {w : World} {a : Addr} {v : Value} (h : w.cell? a = some v) : ∃ g o, a = ⟨g, o, none⟩ := by
 obtain ⟨g, o, spot⟩ := a
 have hs : spot = none := World.cell?_spot h
 exact ⟨g, o, by rw [hs]⟩
theorem Tryz.cellsNd : Tryz.prog.cellsOf 79 = 5 := by kernel_rfl
theorem Tryz.bytesNd : Tryz.prog.bytesOf 79 = 56 := by kernel_rfl
theorem Tryz.cellsStr' : Tryz.prog.cellsOf 9 = 1 := by kernel_rfl
theorem Tryz.cellsOp : Tryz.prog.cellsOf 41 = 6 := by kernel_rfl
theorem Tryz.cellsInt : Tryz.prog.cellsOf 3 = 1 := by kernel_rfl
theorem Tryz.cellsBoo : Tryz.prog.cellsOf 4 = 1 := by kernel_rfl
theorem Tryz.cellsI64 : Tryz.prog.cellsOf 2 = 1 := by kernel_rfl
section
variable {H : Type} {enc : TypeId × Value → H} {W : World}
theorem nd_of {n : Nat} {cs : List Value} {y : DataW H × List MemPlace} (hlen : cs.length = 5) (h : DataW.trod enc Tryz.prog W 0 (fun _ => true) true n 79 cs = some y) :
  ∃ x : Nd, cs = ndC x ∧ x.path.length ≤ maxLen ∧ x.data.length ≤ maxLen := by
 obtain ⟨xs, k, hk, hxy, _, hxl, hf⟩ := DataW.trod_struct Tryz.underlying79 h
 match xs, hxl, cs, hlen with
 | [y0, y1, y2, y3, y4], _, [v0, v1, v2, v3, v4], _ =>
  have g0 := hf 0 _ rfl
  have g1 := hf 1 _ rfl
  have g2 := hf 2 _ rfl
  have g3 := hf 3 _ rfl
  have g4 := hf 4 _ rfl
  simp [Tryz.cellsStr'] at g0
  simp [Tryz.cellsStr'] at g1
  simp [Tryz.cellsI64] at g2
  simp [Tryz.cellsI64] at g3
  simp [Tryz.cellsI64] at g4
  obtain ⟨z0, e0, _, h0⟩ := DataW.trod_string Tryz.underlying9 g0
  obtain ⟨z1, e1, _, h1⟩ := DataW.trod_string Tryz.underlying9 g1
  obtain ⟨z2, e2, _, _⟩ := DataW.trod_int Tryz.underlying2 g2
  obtain ⟨z3, e3, _, _⟩ := DataW.trod_int Tryz.underlying2 g3
  obtain ⟨z4, e4, _, _⟩ := DataW.trod_int Tryz.underlying2 g4
  simp only [List.cons.injEq, and_true] at e0 e1 e2 e3 e4
  subst e0 e1 e2 e3 e4
  refine ⟨⟨z0.data.toList, z1.data.toList, z2, z3, z4⟩, ?_, ?_, ?_⟩
  ·unfold ndC strV; rw [← B_of, ← B_of]
  ·simpa using h0
  simpa using h1
theorem open_nodes {v : Value} {d : DataW H} {p : List MemPlace} {base : Nat} (hv : Value.okWide Tryz.prog W .any base 22 v) (h : DataW.Trod enc Tryz.prog W 0 (fun _ => true) true 22 v d p) (hsz : ∀ n ∈ d.weights Tryz.prog 22, n ≤ reachBytes) :
  ∃ l, Ns W v l ∧ l.length ≤ 140737488355328 ∧ ∀ x ∈ l, x.path.length ≤ maxLen ∧ x.data.length ≤ maxLen := by
 obtain ⟨a0, len, cap, rfl⟩ := okWide_slice Tryz.underlying22 hv
 obtain ⟨fuel, hf⟩ := h
 have hf : DataW.trod enc Tryz.prog W 0 (fun _ => true) true fuel 22 [.slice a0 len cap] = some (d, p) := by simpa [Value.cells] using hf
 rcases open_slice Tryz.underlying22 hf with ⟨hcs, hx⟩ | ⟨a, len', cap', m, n, D, Pl, hcs, _, hl, hm, hmm, hx, hel⟩
 ·simp only [List.cons.injEq, Value.slice.injEq, and_true] at hcs
  obtain ⟨rfl, rfl, rfl⟩ := hcs
  exact ⟨[], Ns.nil W, Nat.zero_le _, fun _ h => by cases h⟩
 simp only [List.cons.injEq, Value.slice.injEq, and_true] at hcs
 obtain ⟨rfl, rfl, rfl⟩ := hcs
 simp only [if_true] at hmm
 subst hmm
 have hlb : len ≤ 140737488355328 := by
  simp only [Prod.mk.injEq] at hx
  rw [hx.1] at hsz
  simp only [DataW.weights, Tryz.underlying22] at hsz
  have := hsz _ (List.mem_cons_self ..)
  rw [Tryz.bytesNd] at this
  simp only [List.length_map, List.length_range, reachBytes] at this
  omega
 have each : ∀ i, i < len → ∃ x : Nd, (∀ j (hj : j < 5), W.cell? (a.add (i * 5 + j)) = (ndC x)[j]?) ∧ x.path.length ≤ maxLen ∧ x.data.length ≤ maxLen := by
  intro i hi
  obtain ⟨cs', h1, h2⟩ := hel i (by omega)
  rw [Tryz.cellsNd] at h1
  obtain ⟨_, hlen, hcell⟩ := World.cells?_some h1
  obtain ⟨x, rfl, h3, h4⟩ := nd_of hlen h2
  refine ⟨x, fun j hj => ?_, h3, h4⟩
  have := hcell j (by omega)
  rw [add_add] at this
  exact this
 obtain ⟨f, hfi⟩ : ∃ f : Nat → Nd, ∀ i, i < len → (∀ j (hj : j < 5), W.cell? (a.add (i * 5 + j)) = (ndC (f i))[j]?) ∧ (f i).path.length ≤ maxLen ∧ (f i).data.length ≤ maxLen := by
  haveI : Inhabited Nd := ⟨zeroNd⟩
  exact choose_lt each
 have hlen : ((List.range len).map f).length = len := by simp
 by_cases h0 : len = 0
 ·subst h0
  exact ⟨[], ⟨some a, m, rfl, by simp, hm, .inl rfl⟩, Nat.zero_le _, fun _ h => by cases h⟩
 have hc0 := (hfi 0 (by omega)).1 0 (by omega)
 have hc0 : W.cell? a = some (.string (B (f 0).path)) := by simpa [Addr.add, ndC, strV] using hc0
 have hlt := World.block_lt_of_cell? W a hc0
 obtain ⟨g, o, rfl⟩ := spot_none hc0
 refine ⟨(List.range len).map f, ⟨some ⟨g, o, none⟩, m, by rw [hlen], by rw [hlen]; exact hl, hm, .inr ⟨g, o, rfl, hlt, fun i hi => ?_⟩⟩, by rw [hlen]; exact hlb, fun x hx => ?_⟩
 ·rw [hlen] at hi
  obtain ⟨k1, _, _⟩ := hfi i (by omega)
  simp only [List.getElem_map, List.getElem_range]
  have q0 := k1 0 (by omega)
  have q1 := k1 1 (by omega)
  have q2 := k1 2 (by omega)
  have q3 := k1 3 (by omega)
  have q4 := k1 4 (by omega)
  rw [Addr.add_lit] at q0 q1 q2 q3 q4
  exact ⟨by simpa [ndC] using q0, by simpa [Nat.add_assoc, ndC] using q1, by simpa [Nat.add_assoc, ndC] using q2, by simpa [Nat.add_assoc, ndC] using q3, by simpa [Nat.add_assoc, ndC] using q4⟩
 obtain ⟨i, hi, rfl⟩ := List.mem_map.1 hx
 exact (hfi i (List.mem_range.1 hi)).2
end
end Go.Proofs.YtphoglepiegeiaaGreatDoor
namespace Go.Proofs.YtphoglepiegeiaaGreatDoor
set_option maxRecDepth 20000
open Go.ChangeShapes Go.WideShapes Go.ChangeAt Go.RowKit Pm Go.Deep
open Go.WideMaps Go.WideElems
open Go.ChangeMaps (setBlock shut_map_nil open_string shut_string)
structure Tx (w : World) (v : Value) (l : List Bs) : Prop where
 ex : ∃ ao cap, v = .slice ao l.length cap ∧ (l = [] ∨ ∃ g o, ao = some ⟨g, o, none⟩ ∧ ∀ i (h : i < l.length), w.cell? ⟨g, o + i, none⟩ = some (.string (B l[i])))
theorem Tx.non {w w' : World} {v : Value} {l : List Bs} (h : Tx w v l) (f : Fp Non w w') : Tx w' v l := by
 obtain ⟨ao, cap, rfl, h3⟩ := h.ex
 refine ⟨ao, cap, rfl, ?_⟩
 rcases h3 with h3 | ⟨g, o, rfl, hc⟩
 ·exact .inl h3
 exact .inr ⟨g, o, rfl, fun i hi => f.cell (hc i hi) id⟩
theorem Tx.shape {w : World} {v : Value} {l : List Bs} (h : Tx w v l) : ∃ ao cap, v = .slice ao l.length cap := by
 obtain ⟨ao, cap, rfl, _⟩ := h.ex; exact ⟨ao, cap, rfl⟩
theorem Tx.at {w : World} {v : Value} {l : List Bs} (h : Tx w v l) (h0 : 0 < l.length) : ∃ g o cap, v = .slice (some ⟨g, o, none⟩) l.length cap ∧ ∀ i (h : i < l.length), w.cell? ⟨g, o + i, none⟩ = some (.string (B l[i])) := by
 obtain ⟨ao, cap, rfl, h3⟩ := h.ex
 rcases h3 with h3 | ⟨g, o, rfl, hc⟩
 ·subst h3; simp at h0
 exact ⟨g, o, cap, rfl, hc⟩
structure OpAt (w : World) (g o : Nat) (x : Opn) : Prop where
 c0 : w.cell? ⟨g, o, none⟩ = some (.int .i64 x.kind)
 c1 : w.cell? ⟨g, o + 1, none⟩ = some (strV x.path)
 c2 : w.cell? ⟨g, o + 2, none⟩ = some (strV x.data)
 c3 : w.cell? ⟨g, o + 3, none⟩ = some (.int .i64 x.ver)
 c4 : w.cell? ⟨g, o + 4, none⟩ = some (.int .i64 x.own)
 c5 : w.cell? ⟨g, o + 5, none⟩ = some (.bool x.turns)
theorem OpAt.keep {w w' : World} {g o : Nat} {n : Opn} (h : OpAt w g o n) {S : Nat → Prop} (f : Fp S w w') (hS : ¬ S g) : OpAt w' g o n :=
 ⟨f.cell h.c0 hS, f.cell h.c1 hS, f.cell h.c2 hS, f.cell h.c3 hS, f.cell h.c4 hS, f.cell h.c5 hS⟩
structure Ops (w : World) (v : Value) (l : List Opn) : Prop where
 ex : ∃ ao cap, v = .slice ao l.length cap ∧ (l = [] ∨ ∃ g o, ao = some ⟨g, o, none⟩ ∧ ∀ i (h : i < l.length), OpAt w g (o + i * 6) l[i])
theorem Ops.non {w w' : World} {v : Value} {l : List Opn} (h : Ops w v l) (f : Fp Non w w') : Ops w' v l := by
 obtain ⟨ao, cap, rfl, h3⟩ := h.ex
 refine ⟨ao, cap, rfl, ?_⟩
 rcases h3 with h3 | ⟨g, o, rfl, hc⟩
 ·exact .inl h3
 exact .inr ⟨g, o, rfl, fun i hi => (hc i hi).keep f id⟩
theorem Ops.shape {w : World} {v : Value} {l : List Opn} (h : Ops w v l) : ∃ ao cap, v = .slice ao l.length cap := by
 obtain ⟨ao, cap, rfl, _⟩ := h.ex; exact ⟨ao, cap, rfl⟩
theorem Ops.at {w : World} {v : Value} {l : List Opn} (h : Ops w v l) (h0 : 0 < l.length) : ∃ g o cap, v = .slice (some ⟨g, o, none⟩) l.length cap ∧ ∀ i (h : i < l.length), OpAt w g (o + i * 6) l[i] := by
 obtain ⟨ao, cap, rfl, h3⟩ := h.ex
 rcases h3 with h3 | ⟨g, o, rfl, hc⟩
 ·subst h3; simp at h0
 exact ⟨g, o, cap, rfl, hc⟩
section
variable {H : Type} {enc : TypeId × Value → H} {W : World}
theorem op_of {n : Nat} {cs : List Value} {y : DataW H × List MemPlace} (hlen : cs.length = 6) (h : DataW.trod enc Tryz.prog W 0 (fun _ => true) true n 41 cs = some y) :
  ∃ x : Opn, cs = [.int .i64 x.kind, strV x.path, strV x.data, .int .i64 x.ver, .int .i64 x.own, .bool x.turns] := by
 obtain ⟨xs, k, hk, hxy, _, hxl, hf⟩ := DataW.trod_struct Tryz.underlying41 h
 match xs, hxl, cs, hlen with
 | [y0, y1, y2, y3, y4, y5], _, [v0, v1, v2, v3, v4, v5], _ =>
  have g0 := hf 0 _ rfl
  have g1 := hf 1 _ rfl
  have g2 := hf 2 _ rfl
  have g3 := hf 3 _ rfl
  have g4 := hf 4 _ rfl
  have g5 := hf 5 _ rfl
  simp [Tryz.cellsInt] at g0
  simp [Tryz.cellsStr'] at g1
  simp [Tryz.cellsStr'] at g2
  simp [Tryz.cellsI64] at g3
  simp [Tryz.cellsI64] at g4
  simp [Tryz.cellsBoo] at g5
  obtain ⟨z0, e0, _, _⟩ := DataW.trod_int Tryz.underlying3 g0
  obtain ⟨z1, e1, _, h1⟩ := DataW.trod_string Tryz.underlying9 g1
  obtain ⟨z2, e2, _, h2⟩ := DataW.trod_string Tryz.underlying9 g2
  obtain ⟨z3, e3, _, _⟩ := DataW.trod_int Tryz.underlying2 g3
  obtain ⟨z4, e4, _, _⟩ := DataW.trod_int Tryz.underlying2 g4
  obtain ⟨z5, e5, _⟩ := DataW.trod_bool Tryz.underlying4 g5
  simp only [List.cons.injEq, and_true] at e0 e1 e2 e3 e4 e5
  subst e0 e1 e2 e3 e4 e5
  refine ⟨⟨z0, z1.data.toList, z2.data.toList, z3, z4, z5⟩, ?_⟩
  unfold strV; rw [← B_of, ← B_of]
theorem open_ops {v : Value} {d : DataW H} {p : List MemPlace} {base : Nat} (hv : Value.okWide Tryz.prog W .any base 56 v) (h : DataW.Trod enc Tryz.prog W 0 (fun _ => true) true 56 v d p) (hsz : ∀ n ∈ d.weights Tryz.prog 56, n ≤ reachBytes) :
  ∃ l, Ops W v l ∧ True ∧ True := by
 obtain ⟨a0, len, cap, rfl⟩ := okWide_slice Tryz.underlying56 hv
 obtain ⟨fuel, hf⟩ := h
 have hf : DataW.trod enc Tryz.prog W 0 (fun _ => true) true fuel 56 [.slice a0 len cap] = some (d, p) := by simpa [Value.cells] using hf
 rcases open_slice Tryz.underlying56 hf with ⟨hcs, hx⟩ | ⟨a, len', cap', m, n, D, Pl, hcs, _, hl, hm, hmm, hx, hel⟩
 ·simp only [List.cons.injEq, Value.slice.injEq, and_true] at hcs
  obtain ⟨rfl, rfl, rfl⟩ := hcs
  exact ⟨[], ⟨none, 0, rfl, .inl rfl⟩, trivial, trivial⟩
 simp only [List.cons.injEq, Value.slice.injEq, and_true] at hcs
 obtain ⟨rfl, rfl, rfl⟩ := hcs
 simp only [if_true] at hmm
 subst hmm
 have each : ∀ i, i < len → ∃ x : Opn, ∀ j (hj : j < 6), W.cell? (a.add (i * 6 + j)) = ([.int .i64 x.kind, strV x.path, strV x.data, .int .i64 x.ver, .int .i64 x.own, .bool x.turns] : List Value)[j]? := by
  intro i hi
  obtain ⟨cs', h1, h2⟩ := hel i (by omega)
  rw [Tryz.cellsOp] at h1
  obtain ⟨_, hlen, hcell⟩ := World.cells?_some h1
  obtain ⟨x, rfl⟩ := op_of hlen h2
  refine ⟨x, fun j hj => ?_⟩
  have := hcell j (by omega)
  rw [add_add] at this
  exact this
 obtain ⟨f, hfi⟩ : ∃ f : Nat → Opn, ∀ i, i < len → ∀ j (hj : j < 6), W.cell? (a.add (i * 6 + j)) = ([.int .i64 (f i).kind, strV (f i).path, strV (f i).data, .int .i64 (f i).ver, .int .i64 (f i).own, .bool (f i).turns] : List Value)[j]? := by
  haveI : Inhabited Opn := ⟨⟨0, [], [], 0, 0, false⟩⟩
  exact choose_lt each
 have hlen : ((List.range len).map f).length = len := by simp
 by_cases h0 : len = 0
 ·subst h0
  exact ⟨[], ⟨some a, m, rfl, .inl rfl⟩, trivial, trivial⟩
 have hc0 := hfi 0 (by omega) 0 (by omega)
 have hc0 : W.cell? a = some (.int .i64 (f 0).kind) := by simpa [Addr.add, strV] using hc0
 obtain ⟨g, o, rfl⟩ := spot_none hc0
 refine ⟨(List.range len).map f, ⟨some ⟨g, o, none⟩, m, by rw [hlen], .inr ⟨g, o, rfl, fun i hi => ?_⟩⟩, trivial, trivial⟩
 rw [hlen] at hi
 have k1 := hfi i (by omega)
 simp only [List.getElem_map, List.getElem_range]
 have q0 := k1 0 (by omega)
 have q1 := k1 1 (by omega)
 have q2 := k1 2 (by omega)
 have q3 := k1 3 (by omega)
 have q4 := k1 4 (by omega)
 have q5 := k1 5 (by omega)
 rw [Addr.add_lit] at q0 q1 q2 q3 q4 q5
 exact ⟨by simpa using q0, by simpa [Nat.add_assoc] using q1, by simpa [Nat.add_assoc] using q2, by simpa [Nat.add_assoc] using q3, by simpa [Nat.add_assoc] using q4, by simpa [Nat.add_assoc] using q5⟩
end
end Go.Proofs.YtphoglepiegeiaaGreatDoor
