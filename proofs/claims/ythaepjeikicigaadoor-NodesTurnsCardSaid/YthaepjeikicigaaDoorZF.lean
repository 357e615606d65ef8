/- Texts of this proof, merged. -/
import Derived.Test.YthaepjeikicigaaDoorZE
import Derived.Shelf.Abstract
import Derived.Test.YthaepjeikicigaaDoorZC
import Derived.Lib.Bytealg
import Derived.Laws.StructEq
/- Right, whole; what asks of nodes: IndexFunc, Find, ContainsFunc, childOf. -/
namespace Go.Proofs.YthaepjeikicigaaDoor
set_option maxRecDepth 20000
open Go.RowKit Pm

set_option maxHeartbeats 1000000 in
theorem nRight_c (v : Value) (l : List Nd) (w : World) (hv : Ns w v l) (hs : Sp l) :
    Calls Tryd.prog 25 #[v] w fun e w' => e = .returned (.bool (right l)) ∧ Fp Non w w' := by
  by_cases h0 : 0 < l.length
  · by_cases h5 : l.length ≤ 512
    · by_cases hr : (l[0]'h0).path = [47]
      · by_cases ho : (l[0]'h0).own = 0
        · exact Right_loop v l w hv hs h0 h5 hr ho
        · have hf : right l = false := right_false (fun t => ho t.free)
          obtain ⟨g, o, cap, rfl, hlc, hcm, hgl, hcell⟩ := hv.at h0
          have hc0 := hcell 0 h0
          obtain ⟨n, hn⟩ : ∃ n, n = l.length := ⟨_, rfl⟩
          have q0 : w.cell? ⟨g, o, none⟩ = some (.string ⟨#[47]⟩) := by have := hc0.c0; rw [hr] at this; simpa [strV, B] using this
          obtain ⟨z, hz⟩ : ∃ z, z = (l[0]'h0).own := ⟨_, rfl⟩
          have q4 : w.cell? ⟨g, o + 4, none⟩ = some (.int .i64 z) := by have := hc0.c4; rw [← hz] at this; simpa using this
          have q1 : ((512 : Int) < (n : Int)) = False := eq_false (by omega)
          have q2 : ((n : Int) == 0) = false := beq_eq_false_iff_ne.2 (by omega)
          have q3 : (z != 0) = true := by rw [hz]; simpa using ho
          rw [hf, ← hn]
          have hn0 : 0 < n := by omega
          clear hv hlc hcm hc0 hcell hr ho hf hz hs h5 hn h0
          go_enter Tryd.func25, Tryd.ntmps25
          go_wp2
          go_ret
          exact ⟨rfl, Fp.refl _ _⟩
      · have hf : right l = false := right_false (fun t => hr t.root)
        obtain ⟨g, o, cap, rfl, hlc, hcm, hgl, hcell⟩ := hv.at h0
        have hc0 := hcell 0 h0
        obtain ⟨n, hn⟩ : ∃ n, n = l.length := ⟨_, rfl⟩
        obtain ⟨p, hp⟩ : ∃ p, p = (l[0]'h0).path := ⟨_, rfl⟩
        have q0 : w.cell? ⟨g, o, none⟩ = some (.string (B p)) := by have := hc0.c0; rw [← hp] at this; simpa [strV] using this
        have q1 : ((512 : Int) < (n : Int)) = False := eq_false (by omega)
        have q2 : ((n : Int) == 0) = false := beq_eq_false_iff_ne.2 (by omega)
        have q3 : (p == [47]) = false := by rw [hp]; simpa using hr
        rw [hf, ← hn]
        have hn0 : 0 < n := by omega
        clear hv hlc hcm hc0 hcell hr hf hp hs h5 hn h0
        go_enter Tryd.func25, Tryd.ntmps25
        go_wp2
        go_ret
        exact ⟨rfl, Fp.refl _ _⟩
    · have hf : right l = false := right_false (fun t => h5 t.most)
      obtain ⟨ao, cap, rfl⟩ := hv.shape
      obtain ⟨n, hn⟩ : ∃ n, n = l.length := ⟨_, rfl⟩
      have q1 : ((512 : Int) < (n : Int)) = True := eq_true (by omega)
      have q2 : ((n : Int) == 0) = false := beq_eq_false_iff_ne.2 (by omega)
      rw [hf, ← hn]
      clear hv hf hs h5 hn h0
      go_enter Tryd.func25, Tryd.ntmps25
      go_wp2
      go_ret
      exact ⟨rfl, Fp.refl _ _⟩
  · have hf : right l = false := right_false (fun t => h0 t.pos)
    have h0' : l.length = 0 := by omega
    obtain ⟨ao, cap, rfl⟩ := hv.shape
    rw [hf, h0']
    clear hv hf hs h0 h0'
    go_enter Tryd.func25, Tryd.ntmps25
    go_wp2
    go_ret
    exact ⟨rfl, Fp.refl _ _⟩

/-- A function value that tells of a node what q does, in whatever world that differs from wc in S alone. -/
structure Pd (S : Nat → Prop) (wc : World) (f : Value) (q : Nd → Bool) : Prop where
  ex : ∃ k fi cap, f = .func (.func k) fi cap ∧ Enters Tryd.prog k ∧ ∀ n w1, n.path.length ≤ 1000000 → Fp S wc w1 →
    Calls Tryd.prog k (fi ++ #[ndV n] ++ cap) w1 fun e w2 => e = .returned (.bool (q n)) ∧ Fp Non w1 w2
theorem Pd.later {S : Nat → Prop} {wc w : World} {f : Value} {q : Nd → Bool} (h : Pd S wc f q) (g : Fp S wc w) : Pd S w f q := by
  obtain ⟨k, fi, cap, e, h1, h2⟩ := h.ex
  exact ⟨k, fi, cap, e, h1, fun n w1 hn hf => h2 n w1 hn (g.same hf)⟩
theorem Pd.non {S : Nat → Prop} {wc : World} {f : Value} {q : Nd → Bool} (h : Pd S wc f q) : Pd Non wc f q := by
  obtain ⟨k, fi, cap, e, h1, h2⟩ := h.ex
  exact ⟨k, fi, cap, e, h1, fun n w1 hn hf => h2 n w1 hn hf.any⟩

/-- Where the first one is. -/
def Idx (q : Nd → Bool) (l : List Nd) (z : Int) : Prop := (z = -1 ∧ ∀ n ∈ l, q n = false) ∨ ∃ i, z = ((i : Nat) : Int) ∧ ∃ h : i < l.length, q l[i] = true ∧ ∀ j (hj : j < l.length), j < i → q l[j] = false

set_option maxHeartbeats 1000000 in
theorem IndexFunc_c (v f : Value) (l : List Nd) (q : Nd → Bool) (w : World) (hv : Ns w v l) (hs : Sp l) (hq : Pd Non w f q) (hn : l.length ≤ 1000000) :
    Calls Tryd.prog 33 #[v, f] w fun e w' => (∃ z, e = .returned (.int .i64 z) ∧ Idx q l z) ∧ Fp Non w w' := by
  obtain ⟨ao, cap, rfl⟩ := hv.shape
  obtain ⟨n, hnn⟩ : ∃ n, n = l.length := ⟨_, rfl⟩
  obtain ⟨kf, fi, fc, rfl, hen, hcall⟩ := hq.ex
  have HX := Lib.hid (And.intro hnn (And.intro hv (And.intro hs hcall)))
  rw [← hnn]
  have hnb : n ≤ 1000000 := by omega
  clear hv hs hq hcall hn hnn
  go_enter Tryd.func33, Tryd.ntmps33
  go_wp2_with fail
  go_loopw [8] (fun i wr => ∃ k : Nat, k ≤ n ∧ i = .int .i64 k ∧ Hid (Fp Non w wr ∧ ∀ j (hj : j < l.length), j < k → q l[j] = false)) (fun i _ => n - (RowKit.intOf i).toNat)
  case atStart => exact ⟨0, Nat.zero_le _, rfl, Fp.refl _ _, fun j _ h => absurd h (Nat.not_lt_zero j)⟩
  case round =>
    obtain ⟨k, hk, rfl, hR⟩ := hrel
    rename_i wr _
    by_cases hlt : k < n
    · have hkl : k < l.length := by rw [← HX.out.1]; exact hlt
      obtain ⟨g, o, cap', e, _, _, _, hcell⟩ := HX.out.2.1.at (by omega)
      injection e with e1 e2 e3
      subst e1 e3
      have hnd := (hcell k hkl).keep hR.out.1 (fun h => h)
      have hcc := HX.out.2.2.2 l[k] wr (HX.out.2.2.1 _ (List.getElem_mem hkl)) hR.out.1
      obtain ⟨b, hb⟩ : ∃ b, q l[k] = b := ⟨_, rfl⟩
      rw [hb] at hcc
      have HB := Lib.hid (And.intro hkl (And.intro hb hlt))
      have HL := Lib.hid (And.intro hkl hlt)
      have hnew : b = false → ∀ j (hj : j < l.length), j < k + 1 → q l[j] = false := fun h j hj hjk => by
        rcases Nat.lt_or_eq_of_le (show j ≤ k by omega) with e | e
        · exact hR.out.2 j hj e
        · subst e; rw [hb, h]
      have hfin : b = true → Idx q l (k : Int) := fun h => .inr ⟨k, rfl, hkl, by rw [hb, h], fun j hj hjk => hR.out.2 j hj hjk⟩
      have HN := Lib.hid (And.intro hnew hfin)
      clear HB hnew hfin hb hcell
      generalize l[k] = x at *
      have c0 := hnd.c0; have c1 := hnd.c1; have c2 := hnd.c2; have c3 := hnd.c3; have c4 := hnd.c4
      unfold strV at c0 c1
      unfold ndV strV at hcc
      have q3 : ((k : Int) < (n : Int)) = True := eq_true (by omega)
      have q4 : (k < n) = True := eq_true hlt
      have HCC := Lib.hid hcc
      clear hnd hcc hkl hlt
      go_wp2_with fail
      rw [hen _ _]
      go_wp2_with fail
      refine HCC.out.mono ?_
      rintro e w2 ⟨rfl, hf2⟩
      have HF := Lib.hid (hR.out.1.then hf2)
      clear hf2
      cases b with
      | true =>
        have hI := HN.out.2 rfl
        have HI := Lib.hid hI
        clear HN hI
        go_wp2
        go_ret
        exact ⟨⟨_, rfl, HI.out⟩, HF.out⟩
      | false =>
        have hM : Hid (Fp Non w w2 ∧ ∀ j (hj : j < l.length), j < k + 1 → q l[j] = false) := ⟨HF.out, HN.out.1 rfl⟩
        have hkn := HL.out.2
        clear HN
        go_wp2
        go_roundw
        case rel => exact ⟨k + 1, by omega, by go_num, hM⟩
        case measure => simp [RowKit.intOf]; omega
    · have hke : k = n := by omega
      subst hke
      have q3 : ((k : Int) < (k : Int)) = False := eq_false (by omega)
      have hI : Idx q l (-1) := .inl ⟨rfl, fun x hx => by
        obtain ⟨i, hi, rfl⟩ := List.getElem_of_mem hx
        exact hR.out.2 i hi (by rw [HX.out.1]; exact hi)⟩
      have HI := Lib.hid hI
      clear hlt hk hI
      go_wp2
      go_ret
      exact ⟨⟨_, rfl, HI.out⟩, hR.out.1⟩

theorem Idx.pos {q : Nd → Bool} {l : List Nd} {z : Int} (h : Idx q l z) : decide (0 ≤ z) = l.any q := by
  rcases h with ⟨rfl, h⟩ | ⟨i, rfl, hi, h, _⟩
  · have : l.any q = false := by rw [List.any_eq_false]; intro x hx; simp [h x hx]
    rw [this]; rfl
  · have : l.any q = true := List.any_eq_true.2 ⟨_, List.getElem_mem hi, h⟩
    rw [this]; simp

set_option maxHeartbeats 1000000 in
theorem ContainsFunc_c (v f : Value) (l : List Nd) (q : Nd → Bool) (w : World) (hv : Ns w v l) (hs : Sp l) (hq : Pd Non w f q) (hn : l.length ≤ 1000000) :
    Calls Tryd.prog 55 #[v, f] w fun e w' => e = .returned (.bool (l.any q)) ∧ Fp Non w w' := by
  have hi := IndexFunc_c v f l q w hv hs hq hn
  have HI := Lib.hid hi
  obtain ⟨ao, cap, rfl⟩ := hv.shape
  obtain ⟨kf, fi, fc, rfl, _, _⟩ := hq.ex
  clear hi hv hq hs hn
  go_enter Tryd.func55, Tryd.ntmps55
  go_wp2_with fail
  refine HI.out.mono ?_
  rintro e w1 ⟨⟨z, rfl, hz⟩, hf⟩
  have HZ := Lib.hid (And.intro hz.pos hf)
  clear hz hf
  go_wp2
  go_ret
  exact ⟨ret_bool HZ.out.1, HZ.out.2⟩

set_option maxHeartbeats 1000000 in
theorem find1_c (n : Nd) (g : Nat) (p : Bs) (w : World) (hg : w.cell? ⟨g, 0, none⟩ = some (.string (B p))) :
    Calls Tryd.prog 34 #[ndV n, .pointer (some ⟨g, 0, none⟩)] w fun e w' => e = .returned (.bool (n.path == p)) ∧ Fp Non w w' := by
  obtain ⟨np, d, v, t, o⟩ := n
  unfold ndV strV
  have hf : ∀ o, Fp Non w (w.alloc o) := fun o => (Fp.refl Non w).alloc o
  have hg2 : ∀ o, (w.alloc o).cell? ⟨g, 0, none⟩ = some (.string (B p)) := fun o => (hf o).cell hg (fun h => h)
  have HF := Lib.hid hf
  clear hf hg
  go_enter Tryd.func34, Tryd.ntmps34
  go_wp2
  go_ret
  exact ⟨rfl, HF.out _⟩

/-- A closure over a box that holds a text. -/
theorem find_pd (w : World) (g : Nat) (p : Bs) (hg : w.cell? ⟨g, 0, none⟩ = some (.string (B p))) (S : Nat → Prop) (hS : ¬ S g) :
    Pd S w (.func (.func 34) #[] #[.pointer (some ⟨g, 0, none⟩)]) (fun n => n.path == p) :=
  ⟨_, _, _, rfl, enters_of Tryd.func34 (by kernel_rfl) rfl, fun n w1 _ hf => find1_c n g p w1 (hf.cell hg hS)⟩

theorem idx_find {l : List Nd} {p : Bs} {z : Int} (h : Idx (fun n => n.path == p) l z) : (z = -1 ∧ find l p = none) ∨ ∃ i, z = ((i : Nat) : Int) ∧ ∃ h : i < l.length, find l p = some l[i] := by
  rcases h with ⟨rfl, h⟩ | ⟨i, rfl, hi, h, hj⟩
  · refine .inl ⟨rfl, find_none.2 fun x hx e => ?_⟩
    have := h x hx
    simp [e] at this
  · refine .inr ⟨i, rfl, hi, ?_⟩
    unfold find
    rw [List.find?_eq_some_iff_getElem]
    refine ⟨h, i, hi, rfl, fun j hji => ?_⟩
    have := hj j (by omega) hji
    simp [this]

/-- Five cells of a block of one's own, stored anew. -/
theorem set5 {w : World} {b : Nat} {T : TypeId} {a0 a1 a2 a3 a4 : Value} (h : w.heap[b]? = some (.cells #[a0, a1, a2, a3, a4] T (0, 0))) (v0 v1 v2 v3 v4 : Value) :
    (((((w.setCell ⟨b, 0, none⟩ v0).setCell ⟨b, 1, none⟩ v1).setCell ⟨b, 2, none⟩ v2).setCell ⟨b, 3, none⟩ v3).setCell ⟨b, 4, none⟩ v4).heap[b]? = some (.cells #[v0, v1, v2, v3, v4] T (0, 0)) := by
  have h1 := heap_setCell_same w b 0 _ T v0 h
  have h2 := heap_setCell_same _ b 1 _ T v1 h1
  have h3 := heap_setCell_same _ b 2 _ T v2 h2
  have h4 := heap_setCell_same _ b 3 _ T v3 h3
  have h5 := heap_setCell_same _ b 4 _ T v4 h4
  exact h5
theorem fp5 {S : Nat → Prop} {a w : World} (f : Fp S a w) {b : Nat} (hb : S b ∨ a.heap.size ≤ b) (v0 v1 v2 v3 v4 : Value) :
    Fp S a (((((w.setCell ⟨b, 0, none⟩ v0).setCell ⟨b, 1, none⟩ v1).setCell ⟨b, 2, none⟩ v2).setCell ⟨b, 3, none⟩ v3).setCell ⟨b, 4, none⟩ v4) :=
  ((((f.setCell (p := ⟨b, 0, none⟩) hb v0).setCell (p := ⟨b, 1, none⟩) hb v1).setCell (p := ⟨b, 2, none⟩) hb v2).setCell (p := ⟨b, 3, none⟩) hb v3).setCell (p := ⟨b, 4, none⟩) hb v4

def zeroNd : Nd := ⟨[], [], 0, 0, 0⟩

set_option maxHeartbeats 2000000 in
theorem nFind_c (v : Value) (l : List Nd) (p : Bs) (w : World) (hv : Ns w v l) (hs : Sp l) (hn : l.length ≤ 1000000) :
    Calls Tryd.prog 21 #[v, .string (B p)] w fun e w' => e = .returned (.tuple #[ndV ((find l p).getD zeroNd), .bool (find l p).isSome]) ∧ Fp Non w w' := by
  obtain ⟨W1, hW1⟩ : ∃ W1, W1 = (w.alloc (.cells #[.string (B p)] 9)).alloc (.cells #[.string ⟨#[]⟩, .string ⟨#[]⟩, .int .i64 0, .int .i64 0, .int .i64 0] TN) := ⟨_, rfl⟩
  have hf1 : Fp Non w W1 := by rw [hW1]; exact ((Fp.refl Non w).alloc _).alloc _
  have hg : W1.cell? ⟨w.heap.size, 0, none⟩ = some (.string (B p)) := by
    rw [hW1]
    refine Fp.cell ((Fp.refl Non _).alloc _) ?_ (fun h => h)
    rw [cell_of_row _ _ _ _ _ _ (heap_alloc_new w _)]; rfl
  have hi := IndexFunc_c v _ l _ W1 (hv.non hf1) hs (find_pd W1 w.heap.size p hg Non (fun h => h)) hn
  have hsz : W1.heap.size = w.heap.size + 2 := by rw [hW1]; simp
  have hblk : W1.heap[w.heap.size + 1]? = some (.cells #[.string ⟨#[]⟩, .string ⟨#[]⟩, .int .i64 0, .int .i64 0, .int .i64 0] TN (0, 0)) := by
    rw [hW1]
    have := heap_alloc_new (w.alloc (.cells #[.string (B p)] 9)) (.cells #[.string ⟨#[]⟩, .string ⟨#[]⟩, .int .i64 0, .int .i64 0, .int .i64 0] TN)
    simpa using this
  rw [hW1] at hi
  have HI := Lib.hid hi
  have HX := Lib.hid (And.intro hf1 (And.intro hW1 (And.intro hv (And.intro hsz hblk))))
  obtain ⟨ao, cap, rfl⟩ := hv.shape
  obtain ⟨n, hnn⟩ : ∃ n, n = l.length := ⟨_, rfl⟩
  have HN := Lib.hid (And.intro hnn hn)
  rw [← hnn] at HI ⊢
  clear hi hf1 hg hv hs hW1 hsz hblk hn hnn
  go_enter Tryd.func21, Tryd.ntmps21
  go_wp2_with fail
  refine HI.out.mono ?_
  rintro e w2 ⟨⟨z, rfl, hz⟩, hf⟩
  have hb2 := hf.heap (k := w.heap.size + 1) (by rw [← HX.out.2.1]; exact HX.out.2.2.2.2) (fun h => h)
  rw [← HX.out.2.1] at hf
  have F := Lib.hid (HX.out.1.then hf)
  have r0 : w2.cell? ⟨w.heap.size + 1, 0, none⟩ = some (.string ⟨#[]⟩) := by rw [cell_of_row _ _ _ _ _ _ hb2]; rfl
  have r1 : w2.cell? ⟨w.heap.size + 1, 1, none⟩ = some (.string ⟨#[]⟩) := by rw [cell_of_row _ _ _ _ _ _ hb2]; rfl
  have r2 : w2.cell? ⟨w.heap.size + 1, 2, none⟩ = some (.int .i64 0) := by rw [cell_of_row _ _ _ _ _ _ hb2]; rfl
  have r3 : w2.cell? ⟨w.heap.size + 1, 3, none⟩ = some (.int .i64 0) := by rw [cell_of_row _ _ _ _ _ _ hb2]; rfl
  have r4 : w2.cell? ⟨w.heap.size + 1, 4, none⟩ = some (.int .i64 0) := by rw [cell_of_row _ _ _ _ _ _ hb2]; rfl
  have fz : ∀ j, w2.frozen? ⟨w.heap.size + 1, j, none⟩ = false := fun j => by simp [World.frozen?, hb2]
  have HB2 := Lib.hid hb2
  have f0 := fz 0; have f1 := fz 1; have f2 := fz 2; have f3 := fz 3; have f4 := fz 4
  rcases idx_find hz with ⟨rfl, hfn⟩ | ⟨i, rfl, hil, hfs⟩
  · have HFN := Lib.hid hfn
    clear hfn hz hf hb2 fz
    go_wp2
    have hw9 := set5 HB2.out (.string ⟨#[]⟩) (.string ⟨#[]⟩) (.int .i64 0) (.int .i64 0) (.int .i64 0)
    have hf9 := fp5 F.out (b := w.heap.size + 1) (.inr (Nat.le_succ _)) (.string ⟨#[]⟩) (.string ⟨#[]⟩) (.int .i64 0) (.int .i64 0) (.int .i64 0)
    generalize (((((w2.setCell _ _).setCell _ _).setCell _ _).setCell _ _).setCell _ _) = w9 at *
    have s0 : w9.cell? ⟨w.heap.size + 1, 0, none⟩ = some (.string ⟨#[]⟩) := by rw [cell_of_row _ _ _ _ _ _ hw9]; rfl
    have s1 : w9.cell? ⟨w.heap.size + 1, 1, none⟩ = some (.string ⟨#[]⟩) := by rw [cell_of_row _ _ _ _ _ _ hw9]; rfl
    have s2 : w9.cell? ⟨w.heap.size + 1, 2, none⟩ = some (.int .i64 0) := by rw [cell_of_row _ _ _ _ _ _ hw9]; rfl
    have s3 : w9.cell? ⟨w.heap.size + 1, 3, none⟩ = some (.int .i64 0) := by rw [cell_of_row _ _ _ _ _ _ hw9]; rfl
    have s4 : w9.cell? ⟨w.heap.size + 1, 4, none⟩ = some (.int .i64 0) := by rw [cell_of_row _ _ _ _ _ _ hw9]; rfl
    exact bodyPost_ret (v := .tuple #[.agg #[.string ⟨#[]⟩, .string ⟨#[]⟩, .int .i64 0, .int .i64 0, .int .i64 0], .bool false]) (by simp [results, Tryd.results21, go_sem, s0, s1, s2, s3, s4]) rfl ⟨by rw [HFN.out]; rfl, hf9⟩
  · obtain ⟨g, o, cap', e, _, _, _, hcell⟩ := HX.out.2.2.1.at (by omega)
    injection e with e1 e2 e3
    subst e1 e3
    have hnd := (hcell i hil).keep F.out (fun h => h)
    have HFS := Lib.hid (show find l p = some l[i] from hfs)
    have q1 : (i < n) = True := eq_true (by rw [HN.out.1]; exact hil)
    have q2 : ((i : Int) < (n : Int)) = True := eq_true (by have := HN.out.1; omega)
    clear hcell hfs
    generalize l[i] = x at *
    have c0 := hnd.c0; have c1 := hnd.c1; have c2 := hnd.c2; have c3 := hnd.c3; have c4 := hnd.c4
    unfold strV at c0 c1
    clear hz hf hb2 fz hnd hil
    go_wp2
    have hw9 := set5 HB2.out (.string (B x.path)) (.string (B x.data)) (.int .i64 x.ver) (.int .i64 x.turn) (.int .i64 x.own)
    have hf9 := fp5 F.out (b := w.heap.size + 1) (.inr (Nat.le_succ _)) (.string (B x.path)) (.string (B x.data)) (.int .i64 x.ver) (.int .i64 x.turn) (.int .i64 x.own)
    generalize (((((w2.setCell _ _).setCell _ _).setCell _ _).setCell _ _).setCell _ _) = w9 at *
    have s0 : w9.cell? ⟨w.heap.size + 1, 0, none⟩ = some (.string (B x.path)) := by rw [cell_of_row _ _ _ _ _ _ hw9]; rfl
    have s1 : w9.cell? ⟨w.heap.size + 1, 1, none⟩ = some (.string (B x.data)) := by rw [cell_of_row _ _ _ _ _ _ hw9]; rfl
    have s2 : w9.cell? ⟨w.heap.size + 1, 2, none⟩ = some (.int .i64 x.ver) := by rw [cell_of_row _ _ _ _ _ _ hw9]; rfl
    have s3 : w9.cell? ⟨w.heap.size + 1, 3, none⟩ = some (.int .i64 x.turn) := by rw [cell_of_row _ _ _ _ _ _ hw9]; rfl
    have s4 : w9.cell? ⟨w.heap.size + 1, 4, none⟩ = some (.int .i64 x.own) := by rw [cell_of_row _ _ _ _ _ _ hw9]; rfl
    exact bodyPost_ret (v := .tuple #[.agg #[.string (B x.path), .string (B x.data), .int .i64 x.ver, .int .i64 x.turn, .int .i64 x.own], .bool true]) (by simp [results, Tryd.results21, go_sem, s0, s1, s2, s3, s4]) rfl ⟨by rw [HFS.out]; rfl, hf9⟩
end Go.Proofs.YthaepjeikicigaaDoor

/- childOf; where a path lies: BinarySearchFunc, place. -/
namespace Go.Proofs.YthaepjeikicigaaDoor
set_option maxRecDepth 20000
open Go.RowKit Pm

set_option maxHeartbeats 1000000 in
theorem child1_c (n : Nd) (g : Nat) (p : Bs) (w : World) (hn : n.path.length ≤ 1000000) (hg : w.cell? ⟨g, 0, none⟩ = some (.string (B p))) :
    Calls Tryd.prog 71 #[ndV n, .pointer (some ⟨g, 0, none⟩)] w fun e w' => e = .returned (.bool (parent n.path == some p)) ∧ Fp Non w w' := by
  obtain ⟨np, d, v, t, o⟩ := n
  unfold ndV strV
  have hf : ∀ o, Fp Non w (w.alloc o) := fun o => (Fp.refl Non w).alloc o
  have hpar := fun w => Parent_g np w (sz_of hn (by omega))
  have HF := Lib.hid hf
  have HG := Lib.hid hg
  show Calls _ _ _ _ (fun e w' => e = .returned (.bool (parent np == some p)) ∧ _)
  cases hu : parent np with
  | none =>
    rw [hu] at hpar
    have HP := Lib.hid hpar
    clear hpar hu hf hg hn
    go_enter Tryd.func71, Tryd.ntmps71
    go_wp2_with fail
    refine (HP.out _).mono ?_
    rintro e w1 ⟨rfl, g1⟩
    have F := Lib.hid ((HF.out _).then g1.fp)
    clear g1
    go_wp2
    go_ret
    exact ⟨rfl, F.out⟩
  | some u =>
    rw [hu] at hpar
    have HP := Lib.hid hpar
    have hb : (some u == some p) = (u == p) := rfl
    rw [hb]
    clear hpar hu hf hg hn hb
    go_enter Tryd.func71, Tryd.ntmps71
    go_wp2_with fail
    refine (HP.out _).mono ?_
    rintro e w1 ⟨rfl, g1⟩
    have f1 := (HF.out _).then g1.fp
    have c1 := f1.cell HG.out (fun h => h)
    have F := Lib.hid f1
    clear g1 f1
    go_wp2
    all_goals (go_ret; exact ⟨rfl, F.out⟩)

theorem child_pd (w : World) (g : Nat) (p : Bs) (hg : w.cell? ⟨g, 0, none⟩ = some (.string (B p))) (S : Nat → Prop) (hS : ¬ S g) :
    Pd S w (.func (.func 71) #[] #[.pointer (some ⟨g, 0, none⟩)]) (fun n => parent n.path == some p) :=
  ⟨_, _, _, rfl, enters_of Tryd.func71 (by kernel_rfl) rfl, fun n w1 hn hf => child1_c n g p w1 hn (hf.cell hg hS)⟩

set_option maxHeartbeats 1000000 in
theorem childOf_c (p : Bs) (w : World) :
    Calls Tryd.prog 56 #[.string (B p)] w fun e w' => e = .returned (.func (.func 71) #[] #[.pointer (some ⟨w.heap.size, 0, none⟩)]) ∧ w' = w.alloc (.cells #[.string (B p)] 9) := by
  go_enter Tryd.func56, Tryd.ntmps56
  go_wp2
  go_ret
  exact ⟨rfl, rfl⟩
theorem childOf_pd (p : Bs) (w : World) (S : Nat → Prop) (hS : ∀ k, S k → k < w.heap.size) : Pd S (w.alloc (.cells #[.string (B p)] 9)) (.func (.func 71) #[] #[.pointer (some ⟨w.heap.size, 0, none⟩)]) (fun n => parent n.path == some p) :=
  child_pd _ _ p (by rw [cell_of_row _ _ _ _ _ _ (heap_alloc_new w _)]; rfl) S (fun h => by have := hS _ h; omega)

/-- strings.Compare's number, by the order. -/
def cmpI (a b : Bs) : Int := if lt a b = true then -1 else if a = b then 0 else 1
theorem cmp_eq : ∀ a b : Bs, Lib.compareBytes a b = cmpI a b
  | [], [] => rfl
  | [], _ :: _ => rfl
  | x :: a, [] => by unfold cmpI; rw [lt_nil_right]; simp [Lib.compareBytes]
  | x :: a, y :: b => by
    have ih := cmp_eq a b
    unfold Lib.compareBytes cmpI
    rw [lt_cons]
    by_cases h1 : x < y
    · simp [h1]
    · rw [if_neg h1]
      by_cases h2 : y < x
      · have hne : x ≠ y := fun e => by subst e; exact h1 h2
        simp [h1, h2, hne]
      · have e : x = y := UInt8.le_antisymm (UInt8.not_lt.1 h2) (UInt8.not_lt.1 h1)
        subst e
        rw [if_neg h2, ih]
        unfold cmpI
        simp [h1]

set_option maxHeartbeats 1000000 in
theorem place1_c (n : Nd) (p : Bs) (w : World) :
    Calls Tryd.prog 64 #[ndV n, .string (B p)] w fun e w' => e = .returned (.int .i64 (cmpI n.path p)) ∧ Fp Non w w' := by
  obtain ⟨np, d, v, t, o⟩ := n
  unfold ndV strV
  have hf : ∀ o, Fp Non w (w.alloc o) := fun o => (Fp.refl Non w).alloc o
  have hc := fun w => Tryd.strings_Compare (B np) (B p) w
  have e : ∀ l : Bs, (B l).data.toList = l := fun l => by unfold B; rfl
  simp only [e, cmp_eq] at hc
  have HF := Lib.hid hf
  have HC := Lib.hid hc
  clear hf hc e
  go_enter Tryd.func64, Tryd.ntmps64
  go_wp2_with fail
  refine (HC.out _).mono ?_
  rintro e w1 ⟨rfl, rfl⟩
  go_wp2
  go_ret
  exact ⟨rfl, HF.out _⟩

/-- Between i and j it lies. -/
structure BsM (l : List Nd) (p : Bs) (w : World) (i j : Nat) (wr : World) : Prop where
  fp : Fp Non w wr
  lo : ∀ x (h : x < l.length), x < i → lt l[x].path p = true
  hi : ∀ x (h : x < l.length), j ≤ x → lt l[x].path p = false
  ij : i ≤ j
  jn : j ≤ l.length

set_option maxHeartbeats 2000000 in
theorem Search_c (v : Value) (l : List Nd) (p : Bs) (w : World) (hv : Ns w v l) (ha : Asc l) (hn : l.length ≤ 1000000) :
    Calls Tryd.prog 63 #[v, .string (B p), .func (.func 64) #[] #[]] w fun e w' => e = .returned (.tuple #[.int .i64 (place l p), .bool (find l p).isSome]) ∧ Fp Non w w' := by
  obtain ⟨ao, cap, rfl⟩ := hv.shape
  obtain ⟨n, hnn⟩ : ∃ n, n = l.length := ⟨_, rfl⟩
  have HX := Lib.hid (And.intro hnn (And.intro hv ha))
  have H0 : Hid (BsM l p w 0 n w) := ⟨Fp.refl _ _, fun x _ h => absurd h (Nat.not_lt_zero x), fun x h1 h2 => by omega, Nat.zero_le _, by omega⟩
  rw [← hnn]
  have hnb : n ≤ 1000000 := by omega
  clear hv ha hn hnn
  go_enter Tryd.func63, Tryd.ntmps63
  go_wp2_with fail
  go_loopw [9, 10] (fun i j wr => ∃ a b : Nat, a ≤ n ∧ b ≤ n ∧ i = .int .i64 a ∧ j = .int .i64 b ∧ Hid (BsM l p w a b wr)) (fun i j _ => (RowKit.intOf j).toNat - (RowKit.intOf i).toNat)
  case atStart => exact ⟨0, n, Nat.zero_le _, Nat.le_refl _, rfl, rfl, H0⟩
  case round =>
    obtain ⟨a, b, han, hbn, rfl, rfl, hR⟩ := hrel
    rename_i wr _
    by_cases hlt : a < b
    · obtain ⟨h, hh⟩ : ∃ h, h = (a + b) / 2 := ⟨_, rfl⟩
      have hab : a ≤ h ∧ h < b := by omega
      have he : ((a : Int) + (b : Int)) / 2 = (h : Int) := by omega
      have hhl : h < l.length := by rw [← HX.out.1]; omega
      have q5 : (h < n) = True := eq_true (by omega)
      have q6 : ((h : Int) < (n : Int)) = True := eq_true (by omega)
      obtain ⟨g, o, cap', e, _, _, _, hcell⟩ := HX.out.2.1.at (by omega)
      injection e with e1 e2 e3
      subst e1 e3
      have hnd := (hcell h hhl).keep hR.out.fp (fun h => h)
      have hdn : lt l[h].path p = true → ∀ x (hx : x < l.length), x < h + 1 → lt l[x].path p = true := fun k x hx hxh => by
        rcases Nat.lt_or_eq_of_le (show x ≤ h by omega) with e | e
        · exact lt_trans (HX.out.2.2 x h hx hhl e) k
        · subst e; exact k
      have hup : lt l[h].path p = false → ∀ x (hx : x < l.length), h ≤ x → lt l[x].path p = false := fun k x hx hxh => by
        rcases Nat.lt_or_eq_of_le hxh with e | e
        · cases c : lt l[x].path p with
          | false => rfl
          | true => rw [lt_trans (HX.out.2.2 h x hhl hx e) c] at k; cases k
        · subst e; exact k
      have hpc := fun w => place1_c l[h] p w
      have HB := Lib.hid (And.intro hdn hup)
      have HA := Lib.hid (And.intro hab (And.intro han hbn))
      clear hcell hdn hup hh han hbn
      generalize l[h] = y at *
      have c0 := hnd.c0; have c1 := hnd.c1; have c2 := hnd.c2; have c3 := hnd.c3; have c4 := hnd.c4
      unfold strV at c0 c1
      unfold ndV strV at hpc
      have q3 : ((a : Int) < (b : Int)) = True := eq_true (by omega)
      have q4 : (a < b) = True := eq_true hlt
      have hcmp : ∃ z, cmpI y.path p = z := ⟨_, rfl⟩
      obtain ⟨z, hz⟩ := hcmp
      rw [hz] at hpc
      have HPC := Lib.hid hpc
      have hhb : h ≤ 1000000 := by have := HA.out; omega
      clear hnd hpc hhl hlt hab
      by_cases hlo : lt y.path p = true
      · have z0 : (z < 0) = True := eq_true (by rw [← hz]; unfold cmpI; rw [if_pos hlo]; decide)
        have HLo := Lib.hid hlo
        clear hz hlo
        go_wp2_with fail
        refine (HPC.out _).mono ?_
        rintro e w2 ⟨rfl, hf2⟩
        have hM : Hid (BsM l p w (h + 1) b w2) := ⟨hR.out.fp.then hf2, HB.out.1 HLo.out, hR.out.hi, by have := HA.out.1; omega, hR.out.jn⟩
        clear hf2
        go_wp2
        go_roundw
        case rel => exact ⟨h + 1, b, by have := HA.out; omega, HA.out.2.2, by go_num, rfl, hM⟩
        case measure => have := HA.out; simp [RowKit.intOf]; omega
      · have hlo' : lt y.path p = false := by simpa using hlo
        have z0 : (z < 0) = False := eq_false (by rw [← hz]; unfold cmpI; rw [if_neg hlo]; split <;> decide)
        have HLo := Lib.hid hlo'
        clear hz hlo hlo'
        go_wp2_with fail
        refine (HPC.out _).mono ?_
        rintro e w2 ⟨rfl, hf2⟩
        have hM : Hid (BsM l p w a h w2) := ⟨hR.out.fp.then hf2, hR.out.lo, HB.out.2 HLo.out, by have := HA.out.1; omega, by have := HA.out.1; have := hR.out.jn; omega⟩
        clear hf2
        go_wp2
        go_roundw
        case rel => exact ⟨a, h, HA.out.2.1, by have := HA.out; omega, rfl, rfl, hM⟩
        case measure => have := HA.out; simp [RowKit.intOf]; omega
    · have hab : a = b := by have := hR.out.ij; omega
      subst hab
      have hpl : place l p = a := place_of hR.out.jn hR.out.lo hR.out.hi
      have q3 : ((a : Int) < (a : Int)) = False := eq_false (by omega)
      have hfp := find_place HX.out.2.2 p
      rw [hpl] at hfp
      have HP := Lib.hid hpl
      by_cases hal : a < n
      · have hal' : a < l.length := by rw [← HX.out.1]; exact hal
        rw [dif_pos hal'] at hfp
        obtain ⟨g, o, cap', e, _, _, _, hcell⟩ := HX.out.2.1.at (by omega)
        injection e with e1 e2 e3
        subst e1 e3
        have hnd := (hcell a hal').keep hR.out.fp (fun h => h)
        have hpc := fun w => place1_c l[a] p w
        have hnl := hR.out.hi a hal' (Nat.le_refl _)
        clear hcell
        generalize l[a] = y at *
        have c0 := hnd.c0; have c1 := hnd.c1; have c2 := hnd.c2; have c3 := hnd.c3; have c4 := hnd.c4
        unfold strV at c0 c1
        unfold ndV strV at hpc
        have q5 : ((a : Int) < (n : Int)) = True := eq_true (by omega)
        have q6 : (a < n) = True := eq_true hal
        obtain ⟨z, hz⟩ : ∃ z, cmpI y.path p = z := ⟨_, rfl⟩
        have hze : (z == 0) = (find l p).isSome := by
          rw [hfp, ← hz]; unfold cmpI
          rw [if_neg (by rw [hnl]; exact Bool.false_ne_true)]
          by_cases e : y.path = p
          · rw [if_pos e, if_pos e]; rfl
          · rw [if_neg e, if_neg e]; rfl
        rw [hz] at hpc
        have HPC := Lib.hid hpc
        have HZ := Lib.hid hze
        clear hnd hpc hz hze hfp hnl hal hal' hpl han hbn
        go_wp2_with fail
        refine (HPC.out _).mono ?_
        rintro e w2 ⟨rfl, hf2⟩
        have HF := Lib.hid (hR.out.fp.then hf2)
        clear hf2
        go_wp2
        go_ret2
        exact ⟨by rw [HP.out, ← HZ.out]; rfl, HF.out⟩
      · have q5 : ((a : Int) < (n : Int)) = False := eq_false (by omega)
        have q6 : (a < n) = False := eq_false hal
        rw [dif_neg (by rw [← HX.out.1]; exact hal)] at hfp
        have HFN := Lib.hid hfp
        clear hfp hpl hal hlt han hbn
        go_wp2
        go_ret2
        exact ⟨by rw [HP.out, HFN.out]; rfl, hR.out.fp⟩
end Go.Proofs.YthaepjeikicigaaDoor

/- The tree that an operation works on; place; May. -/
namespace Go.Proofs.YthaepjeikicigaaDoor
set_option maxRecDepth 20000
open Go.RowKit Pm

abbrev TO_ : TypeId := 24
abbrev TT : TypeId := 57
def opV (o : Opn) : Value := .agg #[.int .i64 o.kind, strV o.path, strV o.data, .int .i64 o.ver, .int .i64 o.own, .bool o.turns]

/-- A tree in work: block b holds its slice, block G its nodes. -/
structure Tn (lo b G cap : Nat) (l : List Nd) (w : World) : Prop where
  blk : w.heap[b]? = some (.cells #[.slice (some ⟨G, 0, none⟩) l.length cap] TT (0, 0))
  low : lo ≤ b
  lowG : lo ≤ G
  ne : b ≠ G
  row : Nr w G cap l
def ownT (b G : Nat) : Nat → Prop := fun k => k = b ∨ k = G
section
variable {lo b G cap : Nat} {l : List Nd} {w w' : World}
theorem Tn.keep (h : Tn lo b G cap l w) {S : Nat → Prop} (f : Fp S w w') (hb : ¬ S b) (hG : ¬ S G) : Tn lo b G cap l w' := ⟨f.heap h.blk hb, h.low, h.lowG, h.ne, h.row.keep f hG⟩
theorem Tn.non (h : Tn lo b G cap l w) (f : Fp Non w w') : Tn lo b G cap l w' := h.keep f (fun h => h) (fun h => h)
theorem Tn.lt (h : Tn lo b G cap l w) : b < w.heap.size := (Array.getElem?_eq_some_iff.1 h.blk).1
theorem Tn.c0 (h : Tn lo b G cap l w) : w.cell? ⟨b, 0, none⟩ = some (.slice (some ⟨G, 0, none⟩) l.length cap) := by rw [cell_of_row _ _ _ _ _ _ h.blk]; rfl
theorem Tn.fz (h : Tn lo b G cap l w) : w.frozen? ⟨b, 0, none⟩ = false := by simp [World.frozen?, h.blk]
end

set_option maxHeartbeats 1000000 in
theorem place_c {lo b G cap : Nat} {l : List Nd} {w : World} (h : Tn lo b G cap l w) (p : Bs) (ha : Asc l) (hn : l.length ≤ 1000000) :
    Calls Tryd.prog 51 #[.pointer (some ⟨b, 0, none⟩), .string (B p)] w fun e w' => e = .returned (.tuple #[.int .i64 (place l p), .bool (find l p).isSome]) ∧ Fp Non w w' := by
  have hs := Search_c _ l p w h.row.ns ha hn
  have c0 := h.c0
  generalize l.length = n at *
  have HS := Lib.hid hs
  clear hs h hn ha
  go_enter Tryd.func51, Tryd.ntmps51
  go_wp2_with fail
  refine HS.out.mono ?_
  rintro e w1 ⟨rfl, hf⟩
  have HF := Lib.hid hf
  clear hf
  go_wp2
  go_ret2
  exact ⟨rfl, HF.out⟩

theorem fO : (Tryd.prog.fieldsOf TO_).toList = [⟨ "Kind", 3, 0, false, "", "", 0⟩, ⟨ "Path", 9, 1, false, "", "", 8⟩, ⟨ "Data", 9, 2, false, "", "", 24⟩, ⟨ "Version", 2, 3, false, "", "", 40⟩, ⟨ "Owner", 2, 4, false, "", "", 48⟩, ⟨ "Turns", 4, 5, false, "", "", 56⟩] := by kernel_rfl
theorem eq_op (w : World) (k k' : Int) (p p' d d' : ByteArray) (v v' o o' : Int) (t t' : Bool) : (Op.equalIn 10000 TO_ (.agg #[.int .i64 k, .string p, .string d, .int .i64 v, .int .i64 o, .bool t]) (.agg #[.int .i64 k', .string p', .string d', .int .i64 v', .int .i64 o', .bool t'])).run Tryd.prog w =
    .ok (decide (k = k' ∧ p.toList = p'.toList ∧ d.toList = d'.toList ∧ v = v' ∧ o = o' ∧ t = t')) w := by
  rw [run_equalIn_agg w 9999 TO_ _ _ (by kernel_rfl) (by kernel_rfl), fO]
  have e1 := fun w a b => run_equalIn_int (P := Tryd.prog) w 9998 3 .i64 .i64 a b Tryd.underlying3
  have e2 := fun w a b => run_equalIn_int (P := Tryd.prog) w 9998 2 .i64 .i64 a b Tryd.underlying2
  have e3 := fun w a b => run_equalIn_string (P := Tryd.prog) w 9998 9 a b Tryd.underlying9
  have e4 := fun w a b => run_equalIn_bool' (P := Tryd.prog) w 9998 4 a b Tryd.underlying4
  simp only [Op.eqFields]
  simp [e1, e2, e3, e4, go_sem]
  by_cases h1 : k = k' <;> by_cases h2 : p.toList = p'.toList <;> by_cases h3 : d.toList = d'.toList <;> by_cases h4 : v = v' <;> by_cases h5 : o = o' <;> by_cases h6 : t = t' <;> simp [h1, h2, h3, h4, h5, h6]
theorem box6 {w : World} {b : Nat} {T : TypeId} {c0 c1 c2 c3 c4 c5 : Value} (h : w.heap[b]? = some (.cells #[c0, c1, c2, c3, c4, c5] T (0, 0))) :
    w.cell? ⟨b, 0, none⟩ = some c0 ∧ w.cell? ⟨b, 1, none⟩ = some c1 ∧ w.cell? ⟨b, 2, none⟩ = some c2 ∧ w.cell? ⟨b, 3, none⟩ = some c3 ∧ w.cell? ⟨b, 4, none⟩ = some c4 ∧ w.cell? ⟨b, 5, none⟩ = some c5 :=
  ⟨by rw [cell_of_row _ _ _ _ _ _ h]; rfl, by rw [cell_of_row _ _ _ _ _ _ h]; rfl, by rw [cell_of_row _ _ _ _ _ _ h]; rfl, by rw [cell_of_row _ _ _ _ _ _ h]; rfl, by rw [cell_of_row _ _ _ _ _ _ h]; rfl, by rw [cell_of_row _ _ _ _ _ _ h]; rfl⟩
theorem fields_at1 (w : World) : (Instr.index 69 (.agg #[.int .i64 0, .int .i64 43, .int .i64 5, .int .i64 6, .int .i64 4, .int .i64 0, .int .i64 0, .int .i64 24]) (.int .i64 1)).run Tryd.prog w = .ok (.int .i64 43) w := by kernel_rfl
theorem fields_at2 (w : World) : (Instr.index 69 (.agg #[.int .i64 0, .int .i64 43, .int .i64 5, .int .i64 6, .int .i64 4, .int .i64 0, .int .i64 0, .int .i64 24]) (.int .i64 2)).run Tryd.prog w = .ok (.int .i64 5) w := by kernel_rfl
theorem fields_at3 (w : World) : (Instr.index 69 (.agg #[.int .i64 0, .int .i64 43, .int .i64 5, .int .i64 6, .int .i64 4, .int .i64 0, .int .i64 0, .int .i64 24]) (.int .i64 3)).run Tryd.prog w = .ok (.int .i64 6) w := by kernel_rfl
theorem fields_at4 (w : World) : (Instr.index 69 (.agg #[.int .i64 0, .int .i64 43, .int .i64 5, .int .i64 6, .int .i64 4, .int .i64 0, .int .i64 0, .int .i64 24]) (.int .i64 4)).run Tryd.prog w = .ok (.int .i64 4) w := by kernel_rfl
theorem fields_at5 (w : World) : (Instr.index 69 (.agg #[.int .i64 0, .int .i64 43, .int .i64 5, .int .i64 6, .int .i64 4, .int .i64 0, .int .i64 0, .int .i64 24]) (.int .i64 5)).run Tryd.prog w = .ok (.int .i64 0) w := by kernel_rfl
theorem fields_at6 (w : World) : (Instr.index 69 (.agg #[.int .i64 0, .int .i64 43, .int .i64 5, .int .i64 6, .int .i64 4, .int .i64 0, .int .i64 0, .int .i64 24]) (.int .i64 6)).run Tryd.prog w = .ok (.int .i64 0) w := by kernel_rfl
theorem fields_at7 (w : World) : (Instr.index 69 (.agg #[.int .i64 0, .int .i64 43, .int .i64 5, .int .i64 6, .int .i64 4, .int .i64 0, .int .i64 0, .int .i64 24]) (.int .i64 7)).run Tryd.prog w = .ok (.int .i64 24) w := by kernel_rfl
end Go.Proofs.YthaepjeikicigaaDoor

/- What Apply answers. -/
namespace Go.Proofs.YthaepjeikicigaaDoor
set_option maxRecDepth 20000
open Go.RowKit Pm

/-- Behind Apply. -/
structure ApR (w : World) (l' : List Nd) (r : Res) (e : Ending) (w' : World) : Prop where
  ex : ∃ v' nv, e = .returned (.tuple #[v', .agg #[.int .i64 r.err, strV r.path, strV r.data, .int .i64 r.ver, nv]]) ∧ Ns w' v' l' ∧ Own w.heap.size w' nv r.names
  fp : Fp Non w w'
end Go.Proofs.YthaepjeikicigaaDoor

