/- Small functions of watch, and of the document's. -/
import Derived.Test.YtjdpbieifcjmiaaYf
import Derived.Test.YtjdpbieifcjmiaaYv
import Derived.Test.YtjdpbieifcjmiaaYe
import Derived.Laws.EntriesVeiled
namespace Go.Proofs.Ytjdpbieifcjmiaa
set_option maxRecDepth 20000
set_option linter.unusedVariables false
set_option linter.unusedSimpArgs false
open Go.RowKit Pm

set_option maxHeartbeats 400000 in
theorem isNum_c (n : Int) (w : World) : Calls Try.prog 41 #[.int .i64 n] w fun e w' => e = .returned (.bool (isN n)) ∧ w' = w := by
  go_enter Try.func41, Try.ntmps41
  go_wp2
  all_goals (go_ret; refine ⟨ret_bool ?_, rfl⟩; unfold isN mxN; rw [Bool.eq_iff_iff]; simp; omega)
set_option maxHeartbeats 400000 in
theorem number_c (n : Int) (w : World) : Calls Try.prog 23 #[.int .i64 n] w fun e w' => e = .returned (.bool (isN n)) ∧ w' = w := by
  go_enter Try.func23, Try.ntmps23
  go_wp2
  all_goals (go_ret; refine ⟨ret_bool ?_, rfl⟩; unfold isN mxN; rw [Bool.eq_iff_iff]; simp; omega)

set_option maxHeartbeats 1000000 in
theorem rightWatch_c (x : Wt) (w : World) (hp : x.p.length ≤ 1000000) : Calls Try.prog 19 #[wtV x] w fun e w' => e = .returned (.bool (rWt x)) ∧ Fp Non w w' := by
  obtain ⟨s, n, p, d⟩ := x
  have h1 := fun w => isNum_c s w
  have h2 := fun w => isNum_c n w
  have h3 := fun w => Right_g p w (sz_of hp (by omega))
  have e : rWt ⟨s, n, p, d⟩ = (isN s && isN n && (split p).isSome) := rfl
  rw [e]
  have HF := Lib.hid (fp_alloc w (.cells #[.int .i64 s, .int .i64 n, .string (B p), .bool d] TW))
  unfold wtV strV
  generalize isN s = b1 at *
  generalize isN n = b2 at *
  generalize (split p).isSome = b3 at *
  have H1 := Lib.hid h1
  have H2 := Lib.hid h2
  have H3 := Lib.hid h3
  clear h1 h2 h3 hp e
  go_enter Try.func19, Try.ntmps19
  go_wp2_with fail
  refine (H1.out _).mono ?_
  rintro e w1 ⟨rfl, rfl⟩
  cases b1 with
  | false =>
    go_wp2
    go_ret
    exact ⟨rfl, HF.out⟩
  | true =>
    go_wp2_with fail
    refine (H2.out _).mono ?_
    rintro e w1 ⟨rfl, rfl⟩
    cases b2 with
    | false =>
      go_wp2
      go_ret
      exact ⟨rfl, HF.out⟩
    | true =>
      go_wp2_with fail
      refine (H3.out _).mono ?_
      rintro e w2 ⟨rfl, hf⟩
      have HG := Lib.hid (HF.out.then hf.fp)
      clear hf
      go_wp2
      go_ret
      exact ⟨rfl, HG.out⟩

set_option maxHeartbeats 1000000 in
theorem numbered1_c (x : Wt) (g h : Nat) (s n : Int) (w : World) (hg : w.cell? ⟨g, 0, none⟩ = some (.int .i64 s)) (hh : w.cell? ⟨h, 0, none⟩ = some (.int .i64 n)) :
    Calls Try.prog 43 #[wtV x, .pointer (some ⟨g, 0, none⟩), .pointer (some ⟨h, 0, none⟩)] w fun e w' => e = .returned (.bool (hit s n x)) ∧ Fp Non w w' := by
  obtain ⟨a, b, p, d⟩ := x
  unfold wtV strV
  have hf : ∀ o, Fp Non w (w.alloc o) := fun o => (Fp.refl Non w).alloc o
  have hg2 : ∀ o, (w.alloc o).cell? ⟨g, 0, none⟩ = some (.int .i64 s) := fun o => (hf o).cell hg (fun h => h)
  have hh2 : ∀ o, (w.alloc o).cell? ⟨h, 0, none⟩ = some (.int .i64 n) := fun o => (hf o).cell hh (fun h => h)
  have HF := Lib.hid hf
  clear hf hg hh
  go_enter Try.func43, Try.ntmps43
  go_wp2
  all_goals
    go_ret
    refine ⟨ret_bool ?_, HF.out _⟩
    unfold hit
    rw [Bool.eq_iff_iff]
    simp [*]

/-- A closure over two boxes that hold numbers. -/
theorem hit_pd (w : World) (g h : Nat) (s n : Int) (hg : w.cell? ⟨g, 0, none⟩ = some (.int .i64 s)) (hh : w.cell? ⟨h, 0, none⟩ = some (.int .i64 n)) (S : Nat → Prop) (hS : ¬ S g) (hT : ¬ S h) :
    PdW S w (.func (.func 43) #[] #[.pointer (some ⟨g, 0, none⟩), .pointer (some ⟨h, 0, none⟩)]) (hit s n) :=
  ⟨_, _, _, rfl, enters_of Try.func43 (by kernel_rfl) rfl, fun x w1 _ hf => numbered1_c x g h s n w1 (hf.cell hg hS) (hf.cell hh hT)⟩

/-- What numbered answers. -/
structure NumR (s n : Int) (w : World) (e : Ending) (w' : World) : Prop where
  ex : ∃ g h : Nat, e = .returned (.func (.func 43) #[] #[.pointer (some ⟨g, 0, none⟩), .pointer (some ⟨h, 0, none⟩)]) ∧ w.heap.size ≤ g ∧ w.heap.size ≤ h ∧ w'.cell? ⟨g, 0, none⟩ = some (.int .i64 s) ∧ w'.cell? ⟨h, 0, none⟩ = some (.int .i64 n)
  fp : Fp Non w w'
set_option maxHeartbeats 1000000 in
theorem numbered_c (s n : Int) (w : World) : Calls Try.prog 21 #[.int .i64 s, .int .i64 n] w (NumR s n w) := by
  go_enter Try.func21, Try.ntmps21
  go_wp2
  go_ret
  have f2 := fp_alloc (w.alloc (.cells #[.int .i64 s] 2)) (.cells #[.int .i64 n] 2)
  have r1 := heap_alloc_new w (.cells #[.int .i64 s] 2)
  have r2 := heap_alloc_new (w.alloc (.cells #[.int .i64 s] 2)) (.cells #[.int .i64 n] 2)
  have sz : (w.alloc (.cells #[.int .i64 s] 2)).heap.size = w.heap.size + 1 := by simp
  rw [sz] at r2
  refine ⟨⟨w.heap.size, w.heap.size + 1, rfl, Nat.le_refl _, by omega, ?_, ?_⟩, (fp_alloc w _).then f2⟩
  · rw [cell_of_row _ _ _ _ _ _ (f2.heap r1 (fun h => h))]; rfl
  · rw [cell_of_row _ _ _ _ _ _ r2]; rfl

/-- Sessions in memory, and a Watched. -/
structure Ses (w : World) (v : Value) (ss : List Se) : Prop where
  ex : ∃ L : List Sv, L.map Sv.s = ss ∧ NsV w v L ∧ ∀ x ∈ L, NsE w x.ev x.s.evs
structure WdR (w : World) (v : Value) (d : Wd) : Prop where
  ex : ∃ vw vs, v = .agg #[vw, vs] ∧ NsW w vw d.ws ∧ Ses w vs d.ss
theorem Ses.non {w w' : World} {v : Value} {ss : List Se} (h : Ses w v ss) (f : Fp Non w w') : Ses w' v ss := by
  obtain ⟨L, h1, h2, h3⟩ := h.ex
  exact ⟨L, h1, h2.non f, fun x hx => (h3 x hx).non f⟩
theorem WdR.non {w w' : World} {v : Value} {d : Wd} (h : WdR w v d) (f : Fp Non w w') : WdR w' v d := by
  obtain ⟨vw, vs, h1, h2, h3⟩ := h.ex
  exact ⟨vw, vs, h1, h2.non f, h3.non f⟩
theorem Ses.nil (w : World) : Ses w (.slice none 0 0) [] := ⟨[], rfl, NsV.nil w, fun _ h => by cases h⟩
theorem WdR.nil (w : World) : WdR w (.agg #[.slice none 0 0, .slice none 0 0]) ⟨[], []⟩ := ⟨_, _, rfl, NsW.nil w, Ses.nil w⟩
theorem Ses.shape {w : World} {v : Value} {ss : List Se} (h : Ses w v ss) : ∃ a c, v = .slice a ss.length c := by
  obtain ⟨L, h1, h2, _⟩ := h.ex
  obtain ⟨a, c, e⟩ := h2.shape
  rw [← h1, List.length_map]; exact ⟨a, c, e⟩
/-- Of a size that may be. -/
structure SzD (d : Wd) : Prop where
  w : d.ws.length ≤ 30000
  s : d.ss.length ≤ 30000
  wp : WSp d.ws
  sp : ∀ s ∈ d.ss, s.evs.length ≤ 30000 ∧ ∀ e ∈ s.evs, e.p.length ≤ 1000000
theorem boxP2 {w : World} {b : Nat} {T : TypeId} {c0 c1 : Value} (h : w.heap[b]? = some (.cells #[c0, c1] T (0, 0))) : w.cell? ⟨b, 0, none⟩ = some c0 ∧ w.cell? ⟨b, 1, none⟩ = some c1 :=
  ⟨by rw [cell_of_row _ _ _ _ _ _ h]; rfl, by rw [cell_of_row _ _ _ _ _ _ h]; rfl⟩
theorem boxP3 {w : World} {b : Nat} {T : TypeId} {c0 c1 c2 : Value} (h : w.heap[b]? = some (.cells #[c0, c1, c2] T (0, 0))) : w.cell? ⟨b, 0, none⟩ = some c0 ∧ w.cell? ⟨b, 1, none⟩ = some c1 ∧ w.cell? ⟨b, 2, none⟩ = some c2 :=
  ⟨by rw [cell_of_row _ _ _ _ _ _ h]; rfl, by rw [cell_of_row _ _ _ _ _ _ h]; rfl, by rw [cell_of_row _ _ _ _ _ _ h]; rfl⟩
theorem boxP4 {w : World} {b : Nat} {T : TypeId} {c0 c1 c2 c3 : Value} (h : w.heap[b]? = some (.cells #[c0, c1, c2, c3] T (0, 0))) : w.cell? ⟨b, 0, none⟩ = some c0 ∧ w.cell? ⟨b, 1, none⟩ = some c1 ∧ w.cell? ⟨b, 2, none⟩ = some c2 ∧ w.cell? ⟨b, 3, none⟩ = some c3 :=
  ⟨by rw [cell_of_row _ _ _ _ _ _ h]; rfl, by rw [cell_of_row _ _ _ _ _ _ h]; rfl, by rw [cell_of_row _ _ _ _ _ _ h]; rfl, by rw [cell_of_row _ _ _ _ _ _ h]; rfl⟩
theorem frozen_at {w : World} {b : Nat} {cs : Array Value} {T : TypeId} (h : w.heap[b]? = some (.cells cs T (0, 0))) (j : Nat) : w.frozen? ⟨b, j, none⟩ = false := by
  unfold World.frozen?; simp only [h]; simp
abbrev TD : TypeId := 25

end Go.Proofs.Ytjdpbieifcjmiaa
