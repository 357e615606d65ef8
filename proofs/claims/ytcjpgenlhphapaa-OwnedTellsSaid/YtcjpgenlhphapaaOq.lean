/- owned.Cut of a store of nodes that have a path alone, and no turns -/
import Derived.Test.YtcjpgenlhphapaaOp
namespace Go.Proofs.Ytcjpgenlhphapaa
set_option maxRecDepth 20000
set_option linter.unusedVariables false
set_option linter.unusedSimpArgs false
open Go.RowKit Pm

/-- What Cut answers. -/
structure CutR (l : List Bs) (q : Bs → Bool) (w : World) (e : Ending) (w' : World) : Prop where
  ex : ∃ a1 k1 a2 k2, e = .returned (.tuple #[.agg #[.slice a1 (l.filter q).length k1, .slice none 0 0], .agg #[.slice a2 (l.filter (fun p => !q p)).length k2, .slice none 0 0]])
  fp : Fp Non w w'

theorem rows3 (w : World) (v1 : Value) (T1 : TypeId) (o2 : Unit) : (((w.alloc (Obj.cells #[v1] T1)).alloc (Obj.cells #[.slice none 0 0, .slice none 0 0] TSt)).alloc (Obj.cells #[.slice none 0 0, .slice none 0 0] TSt)).heap[w.heap.size]? = some (.cells #[v1] T1 (0, 0)) ∧ (((w.alloc (Obj.cells #[v1] T1)).alloc (Obj.cells #[.slice none 0 0, .slice none 0 0] TSt)).alloc (Obj.cells #[.slice none 0 0, .slice none 0 0] TSt)).heap[w.heap.size + 1]? = some (.cells #[.slice none 0 0, .slice none 0 0] TSt (0, 0)) ∧ (((w.alloc (Obj.cells #[v1] T1)).alloc (Obj.cells #[.slice none 0 0, .slice none 0 0] TSt)).alloc (Obj.cells #[.slice none 0 0, .slice none 0 0] TSt)).heap[w.heap.size + 1 + 1]? = some (.cells #[.slice none 0 0, .slice none 0 0] TSt (0, 0)) := by
  have h0 := heap_alloc_new w (Obj.cells #[v1] T1)
  obtain ⟨w1, hw1⟩ : ∃ w1, w1 = w.alloc (Obj.cells #[v1] T1) := ⟨_, rfl⟩
  have z1 : w1.heap.size = w.heap.size + 1 := by rw [hw1]; simp
  rw [← hw1] at h0 ⊢
  have h1 := heap_alloc_new w1 (Obj.cells #[.slice none 0 0, .slice none 0 0] TSt)
  obtain ⟨w2, hw2⟩ : ∃ w2, w2 = w1.alloc (Obj.cells #[.slice none 0 0, .slice none 0 0] TSt) := ⟨_, rfl⟩
  have z2 : w2.heap.size = w.heap.size + 1 + 1 := by rw [hw2]; simp [z1]
  have f1 : Fp Non w1 w2 := by rw [hw2]; exact fp_alloc _ _
  rw [← hw2, z1] at h1
  rw [← hw2]
  have h2 := heap_alloc_new w2 (Obj.cells #[.slice none 0 0, .slice none 0 0] TSt)
  rw [z2] at h2
  have f2 := fp_alloc w2 (Obj.cells #[.slice none 0 0, .slice none 0 0] TSt)
  exact ⟨(f1.then f2).heap h0 (fun h => h), f2.heap h1 (fun h => h), h2⟩
structure Rows5 (s : Nat) (v1 v2 v3 : Value) (W : World) : Prop where
  r0 : W.heap[s]? = some (.cells #[v1, .slice none 0 0] TSt (0, 0))
  r1 : W.heap[s + 1]? = some (.cells #[v2] TLH (0, 0))
  r2 : W.heap[s + 2]? = some (.cells #[v3] 9 (0, 0))
  r3 : W.heap[s + 3]? = some (.cells #[.slice none 0 0, .slice none 0 0] TSt (0, 0))
  r4 : W.heap[s + 4]? = some (.cells #[.slice none 0 0, .slice none 0 0] TSt (0, 0))
theorem Rows5.keep {s : Nat} {v1 v2 v3 : Value} {W W' : World} (h : Rows5 s v1 v2 v3 W) {S : Nat → Prop} (f : Fp S W W') (hS : ∀ k, S k → s + 5 ≤ k) : Rows5 s v1 v2 v3 W' :=
  ⟨f.heap h.r0 (fun k => by have := hS _ k; omega), f.heap h.r1 (fun k => by have := hS _ k; omega), f.heap h.r2 (fun k => by have := hS _ k; omega), f.heap h.r3 (fun k => by have := hS _ k; omega), f.heap h.r4 (fun k => by have := hS _ k; omega)⟩
theorem c_row {W : World} {b : Nat} {T : TypeId} {c0 : Value} (h : W.heap[b]? = some (.cells #[c0] T (0, 0))) : W.cell? ⟨b, 0, none⟩ = some c0 := by rw [cell_of_row _ _ _ _ _ _ h]; rfl
theorem c_row2 {W : World} {b : Nat} {T : TypeId} {c0 c1 : Value} (h : W.heap[b]? = some (.cells #[c0, c1] T (0, 0))) : W.cell? ⟨b, 0, none⟩ = some c0 ∧ W.cell? ⟨b, 1, none⟩ = some c1 ∧ ∀ o, W.frozen? ⟨b, o, none⟩ = false :=
  ⟨by rw [cell_of_row _ _ _ _ _ _ h]; rfl, by rw [cell_of_row _ _ _ _ _ _ h]; rfl, fun o => by simp [World.frozen?, h]⟩
theorem st_same {W : World} {b : Nat} {T : TypeId} {c0 c1 v : Value} (h : W.heap[b]? = some (.cells #[c0, c1] T (0, 0))) : (W.setCell ⟨b, 0, none⟩ v).heap[b]? = some (.cells #[v, c1] T (0, 0)) := by rw [heap_setCell_same W b 0 _ T v h]; rfl
theorem st_same1 {W : World} {b : Nat} {T : TypeId} {c0 c1 v : Value} (h : W.heap[b]? = some (.cells #[c0, c1] T (0, 0))) : (W.setCell ⟨b, 1, none⟩ v).heap[b]? = some (.cells #[c0, v] T (0, 0)) := by rw [heap_setCell_same W b 1 _ T v h]; rfl
theorem st_fp (W : World) (b o : Nat) (v : Value) : Fp (fun k => k = b) W (W.setCell ⟨b, o, none⟩ v) := (Fp.refl (fun k => k = b) W).setCell (p := ⟨b, o, none⟩) (.inl rfl) v
theorem st_other {W : World} {b k o : Nat} {v : Value} {ob : Obj} (h : W.heap[k]? = some ob) (hne : k ≠ b) : (W.setCell ⟨b, o, none⟩ v).heap[k]? = some ob := (st_fp W b o v).heap h hne
theorem rows5 (w : World) (v1 v2 v3 : Value) : Rows5 w.heap.size v1 v2 v3 (((((w.alloc (Obj.cells #[v1, .slice none 0 0] TSt)).alloc (Obj.cells #[v2] TLH)).alloc (Obj.cells #[v3] 9)).alloc (Obj.cells #[.slice none 0 0, .slice none 0 0] TSt)).alloc (Obj.cells #[.slice none 0 0, .slice none 0 0] TSt)) := by
  have h0 := heap_alloc_new w (Obj.cells #[v1, .slice none 0 0] TSt)
  obtain ⟨w1, hw1⟩ : ∃ w1, w1 = w.alloc (Obj.cells #[v1, .slice none 0 0] TSt) := ⟨_, rfl⟩
  have z1 : w1.heap.size = w.heap.size + 1 := by rw [hw1]; simp
  rw [← hw1] at h0 ⊢
  have h1 := heap_alloc_new w1 (Obj.cells #[v2] TLH)
  obtain ⟨w2, hw2⟩ : ∃ w2, w2 = w1.alloc (Obj.cells #[v2] TLH) := ⟨_, rfl⟩
  have z2 : w2.heap.size = w.heap.size + 2 := by rw [hw2]; simp [z1]
  have f1 : Fp Non w1 w2 := by rw [hw2]; exact fp_alloc _ _
  rw [← hw2, z1] at h1
  rw [← hw2]
  have h2 := heap_alloc_new w2 (Obj.cells #[v3] 9)
  obtain ⟨w3, hw3⟩ : ∃ w3, w3 = w2.alloc (Obj.cells #[v3] 9) := ⟨_, rfl⟩
  have z3 : w3.heap.size = w.heap.size + 3 := by rw [hw3]; simp [z2]
  have f2 : Fp Non w2 w3 := by rw [hw3]; exact fp_alloc _ _
  rw [← hw3, z2] at h2
  rw [← hw3]
  have h3 := heap_alloc_new w3 (Obj.cells #[.slice none 0 0, .slice none 0 0] TSt)
  obtain ⟨w4, hw4⟩ : ∃ w4, w4 = w3.alloc (Obj.cells #[.slice none 0 0, .slice none 0 0] TSt) := ⟨_, rfl⟩
  have z4 : w4.heap.size = w.heap.size + 4 := by rw [hw4]; simp [z3]
  have f3 : Fp Non w3 w4 := by rw [hw4]; exact fp_alloc _ _
  rw [← hw4, z3] at h3
  rw [← hw4]
  have h4 := heap_alloc_new w4 (Obj.cells #[.slice none 0 0, .slice none 0 0] TSt)
  rw [z4] at h4
  have f4 := fp_alloc w4 (Obj.cells #[.slice none 0 0, .slice none 0 0] TSt)
  exact ⟨((((f1.then f2).then f3).then f4).heap h0 (fun h => h)), (((f2.then f3).then f4).heap h1 (fun h => h)), ((f3.then f4).heap h2 (fun h => h)), f4.heap h3 (fun h => h), h4⟩

set_option maxHeartbeats 4000000 in
theorem Cut_c (vn vm : Value) (l : List Bs) (m : List Hl) (pre : Bs) (w : World) (hv : SgN w vn l) (hs : ∀ x ∈ l, (split x).isSome = true) (hu : Up l) (hn : l.length ≤ 80000) (hm : NsH w vm m) (hms : Szs m) (hr : RtH m) :
    Calls Try.prog 25 #[.agg #[vn, .slice none 0 0], vm, .string (B pre)] w fun e w' => CutR l (fun p => ins1 m pre (kept p)) w e w' := by
  have hlen : ∀ x ∈ l, x.length ≤ 1000000 := fun x hx => by
    obtain ⟨a, ha⟩ := Option.isSome_iff_exists.1 (hs x hx)
    have := (split_iff x a).1 ha
    have h2 := joinP_len this.1
    rw [this.2] at h2; omega
  have h1 := fun W (f : Fp Non w W) => rightN_c vn l W (hv.non f) hs hu (by omega)
  have h2 := fun W (f : Fp Non w W) => RightH_c vm m W (hm.non f) hms.p hms.n
  rw [(right_iff m).2 hr] at h2
  obtain ⟨q, hq⟩ : ∃ q : Bs → Bool, q = fun p => ins1 m pre (kept p) := ⟨_, rfl⟩
  have h3 := fun (b8 : Nat) (b1 b2 : Nat) W (f : Fp Non w W) (c1 : W.cell? ⟨b1, 0, none⟩ = some vm) (c2 : W.cell? ⟨b2, 0, none⟩ = some (.string (B pre))) (c8 : W.cell? ⟨b8, 0, none⟩ = some (.func (.func 41) #[] #[.pointer (some ⟨b1, 0, none⟩), .pointer (some ⟨b2, 0, none⟩)])) =>
    divideN_c vn (.func (.func 43) #[] #[.pointer (some ⟨b8, 0, none⟩)]) l q W (hv.non f) hlen
      ⟨_, _, _, rfl, enters_of Try.func43 (by kernel_rfl) rfl, fun p w1 hp g => by
        rw [hq]
        exact Cut2_c vm m pre p b1 b2 b8 w1 ((hm.non f).non g) hms hp (g.cell c1 (fun h => h)) (g.cell c2 (fun h => h)) (g.cell c8 (fun h => h))⟩ hn
  rw [← hq]
  obtain ⟨ao, cap, rfl⟩ := hv.shape
  obtain ⟨am, capm, rfl⟩ := hm.shape
  generalize m.length = mn at *
  generalize hln : l.length = n at *
  have H1 := Lib.hid h1
  have H2 := Lib.hid h2
  have H3 := Lib.hid h3
  clear hv hs hu hm hms hr h1 h2 h3 hlen hq hln
  obtain ⟨s, hs⟩ : ∃ s, s = w.heap.size := ⟨_, rfl⟩
  obtain ⟨W1, hW1⟩ : ∃ W1, W1 = ((((w.alloc (Obj.cells #[.slice ao n cap, .slice none 0 0] TSt)).alloc (Obj.cells #[.slice am mn capm] TLH)).alloc (Obj.cells #[.string (B pre)] 9)).alloc (Obj.cells #[.slice none 0 0, .slice none 0 0] TSt)).alloc (Obj.cells #[.slice none 0 0, .slice none 0 0] TSt) := ⟨_, rfl⟩
  have f1 : Fp Non w W1 := by rw [hW1]; exact ((((fp_alloc w _).alloc _).alloc _).alloc _).alloc _
  have hR : Hid (Rows5 s (.slice ao n cap) (.slice am mn capm) (.string (B pre)) W1) := by
    rw [hW1, hs]; exact rows5 w _ _ _
  have hsz : W1.heap.size = s + 5 := by rw [hW1, hs]; simp
  go_enter Try.func25, Try.ntmps25
  go_wp2_with fail
  rw [← hW1]
  simp only [← hs]
  have HS := Lib.hid hs
  clear hW1 hs
  refine (H1.out _ f1).mono ?_
  rintro e w1 ⟨rfl, g1⟩
  have F1 := Lib.hid (f1.then g1)
  have R1 := Lib.hid (hR.out.keep g1 (fun k h => h.elim))
  have hsz1 : s + 5 ≤ w1.heap.size := by have := g1.size; omega
  have d1 := c_row R1.out.r1
  clear g1 f1 hR hsz
  go_wp2_with fail
  refine (H2.out _ F1.out).mono ?_
  rintro e w2 ⟨rfl, g2⟩
  have F2 := Lib.hid (F1.out.then g2)
  have R2 := Lib.hid (R1.out.keep g2 (fun k h => h.elim))
  have hsz2 : s + 5 ≤ w2.heap.size := by have := g2.size; omega
  clear g2 d1 F1 R1
  -- the closure, the two stores
  obtain ⟨W5, hW5⟩ : ∃ W5, W5 = ((w2.alloc (Obj.cells #[.func (.func 41) #[] #[.pointer (some ⟨s + 1, 0, none⟩), .pointer (some ⟨s + 1 + 1, 0, none⟩)]] 42)).alloc (Obj.cells #[.slice none 0 0, .slice none 0 0] TSt)).alloc (Obj.cells #[.slice none 0 0, .slice none 0 0] TSt) := ⟨_, rfl⟩
  obtain ⟨b8, hb8⟩ : ∃ b, b = w2.heap.size := ⟨_, rfl⟩
  have g5 : Fp Non w2 W5 := by rw [hW5]; exact ((fp_alloc w2 _).alloc _).alloc _
  have R5 := Lib.hid (R2.out.keep g5 (fun k h => h.elim))
  have F5 := Lib.hid (F2.out.then g5)
  have N5 := Lib.hid (show W5.heap[b8]? = some (.cells #[.func (.func 41) #[] #[.pointer (some ⟨s + 1, 0, none⟩), .pointer (some ⟨s + 1 + 1, 0, none⟩)]] 42 (0, 0)) ∧ W5.heap[b8 + 1]? = some (.cells #[.slice none 0 0, .slice none 0 0] TSt (0, 0)) ∧ W5.heap[b8 + 1 + 1]? = some (.cells #[.slice none 0 0, .slice none 0 0] TSt (0, 0)) by
    rw [hW5, hb8]; exact rows3 w2 _ _ ())
  have e1 := (c_row2 R5.out.r0).1
  rw [hW5] at e1
  go_wp2_with fail
  rw [← hW5]
  simp only [← hb8]
  clear e1
  have HW5 := Lib.hid hW5
  clear hW5
  have hb : s + 5 ≤ b8 := by omega
  clear hb8
  refine (H3.out b8 (s + 1) (s + 1 + 1) W5 F5.out (c_row R5.out.r1) (c_row R5.out.r2) (c_row N5.out.1)).mono ?_
  rintro e w6 hD
  obtain ⟨v1, v2, rfl, hv1, hv2⟩ := hD.ex
  obtain ⟨a1, k1, rfl⟩ := hv1.shape
  obtain ⟨a2, k2, rfl⟩ := hv2.shape
  obtain ⟨n1, hn1⟩ : ∃ n, n = (l.filter q).length := ⟨_, rfl⟩
  obtain ⟨n2, hn2⟩ : ∃ n, n = (l.filter (fun p => !q p)).length := ⟨_, rfl⟩
  rw [← hn1, ← hn2]
  have HN := Lib.hid (And.intro hn1 hn2)
  clear hn1 hn2
  have F6 := Lib.hid (F5.out.then hD.fp)
  have R6 := Lib.hid (R5.out.keep hD.fp (fun k h => h.elim))
  have N6 := Lib.hid (And.intro (hD.fp.heap N5.out.2.1 (fun h => h)) (hD.fp.heap N5.out.2.2 (fun h => h)))
  clear hD hv1 hv2 HW5 g5 N5 F5 R5 H1 H2 H3 hsz1 F2 R2
  -- the four stores into the two stores
  have x1 := c_row2 N6.out.1
  have x2 := c_row2 N6.out.2
  have y1 := c_row2 (st_same (v := .slice a1 n1 k1) N6.out.1)
  have y2 := c_row2 (st_other (b := b8 + 1) (o := 0) (v := .slice a1 n1 k1) N6.out.2 (by omega))
  have y0 := c_row2 (st_other (b := b8 + 1 + 1) (o := 0) (v := .slice a2 n2 k2) (st_other (b := b8 + 1) (o := 0) (v := .slice a1 n1 k1) R6.out.r0 (by omega)) (by omega))
  obtain ⟨x10, x11, x1f⟩ := x1
  obtain ⟨x20, x21, x2f⟩ := x2
  obtain ⟨y20, y21, y2f⟩ := y2
  obtain ⟨_, y01, _⟩ := y0
  clear y1
  go_wp2_with fail
  obtain ⟨W8, hW8⟩ : ∃ W8, W8 = (w6.setCell ⟨b8 + 1, 0, none⟩ (.slice a1 n1 k1)).setCell ⟨b8 + 1 + 1, 0, none⟩ (.slice a2 n2 k2) := ⟨_, rfl⟩
  have p8 : Fp (fun k => b8 ≤ k) w6 W8 := by rw [hW8]; exact ((st_fp _ _ _ _).mono (fun k h => by omega)).same ((st_fp _ _ _ _).mono (fun k h => by omega))
  have m8 := st_other (b := b8 + 1 + 1) (o := 0) (v := .slice a2 n2 k2) (st_same (v := .slice a1 n1 k1) N6.out.1) (by omega)
  have n8 := st_same (v := .slice a2 n2 k2) (st_other (b := b8 + 1) (o := 0) (v := .slice a1 n1 k1) N6.out.2 (by omega))
  rw [← hW8] at m8 n8
  rw [← hW8]
  have R8 := Lib.hid (R6.out.keep p8 (fun k h => by omega))
  have F8 := Lib.hid (F6.out.trans p8 (fun k h => .inr (by have := HS.out; omega)))
  clear x10 x11 x1f x20 x21 x2f y20 y21 y2f y01 hW8 p8 F6 R6
  refine (divideT_nil _ _).mono ?_
  rintro e w9 ⟨rfl, rfl⟩
  have MN := Lib.hid (And.intro m8 n8)
  have z1 := c_row2 m8
  have z2 := c_row2 n8
  have z3 := c_row2 (st_other (b := b8 + 1) (o := 1) (v := .slice none 0 0) n8 (by omega))
  obtain ⟨z10, z11, z1f⟩ := z1
  obtain ⟨z20, z21, z2f⟩ := z2
  obtain ⟨z30, z31, z3f⟩ := z3
  clear m8 n8
  go_wp2_with fail
  obtain ⟨Wa, hWa⟩ : ∃ Wa, Wa = (w9.setCell ⟨b8 + 1, 1, none⟩ (.slice none 0 0)).setCell ⟨b8 + 1 + 1, 1, none⟩ (.slice none 0 0) := ⟨_, rfl⟩
  have pa : Fp (fun k => b8 ≤ k) w9 Wa := by rw [hWa]; exact ((st_fp _ _ _ _).mono (fun k h => by omega)).same ((st_fp _ _ _ _).mono (fun k h => by omega))
  have ma := st_other (b := b8 + 1 + 1) (o := 1) (v := .slice none 0 0) (st_same1 (v := .slice none 0 0) MN.out.1) (by omega)
  have na := st_same1 (v := .slice none 0 0) (st_other (b := b8 + 1) (o := 1) (v := .slice none 0 0) MN.out.2 (by omega))
  rw [← hWa] at ma na
  rw [← hWa]
  have Ra := Lib.hid (R8.out.keep pa (fun k h => by omega))
  have Fa := Lib.hid (F8.out.trans pa (fun k h => .inr (by have := HS.out; omega)))
  clear z10 z11 z1f z20 z21 z2f z30 z31 z3f hWa pa F8 R8 MN
  have y1 := c_row2 ma
  have y2 := c_row2 na
  have y3 := c_row2 Ra.out.r3
  have y4 := c_row2 Ra.out.r4
  obtain ⟨y10, y11, _⟩ := y1
  obtain ⟨y20, y21, _⟩ := y2
  obtain ⟨y30, y31, y3f⟩ := y3
  obtain ⟨y40, y41, y4f⟩ := y4
  have t3 := st_same1 (v := .slice none 0 0) (st_same (v := .slice a1 n1 k1) Ra.out.r3)
  have t4 := st_same1 (v := .slice none 0 0) (st_same (v := .slice a2 n2 k2) (st_other (b := s + 1 + 1 + 1) (o := 1) (v := .slice none 0 0) (st_other (b := s + 1 + 1 + 1) (o := 0) (v := .slice a1 n1 k1) Ra.out.r4 (by omega)) (by omega)))
  have t3' := st_other (b := s + 1 + 1 + 1 + 1) (o := 1) (v := .slice none 0 0) (st_other (b := s + 1 + 1 + 1 + 1) (o := 0) (v := .slice a2 n2 k2) t3 (by omega)) (by omega)
  have hfz : Fp Non w (((((Wa.setCell ⟨s + 1 + 1 + 1, 0, none⟩ (.slice a1 n1 k1)).setCell ⟨s + 1 + 1 + 1, 1, none⟩ (.slice none 0 0)).setCell ⟨s + 1 + 1 + 1 + 1, 0, none⟩ (.slice a2 n2 k2)).setCell ⟨s + 1 + 1 + 1 + 1, 1, none⟩ (.slice none 0 0)).drew) := by
    have h0 := HS.out
    exact ((((Fa.out.setCell (p := ⟨s + 1 + 1 + 1, 0, none⟩) (.inr (by simp; omega)) _).setCell (p := ⟨s + 1 + 1 + 1, 1, none⟩) (.inr (by simp; omega)) _).setCell (p := ⟨s + 1 + 1 + 1 + 1, 0, none⟩) (.inr (by simp; omega)) _).setCell (p := ⟨s + 1 + 1 + 1 + 1, 1, none⟩) (.inr (by simp; omega)) _).drew
  have HZ := Lib.hid (And.intro t3' (And.intro t4 hfz))
  clear t3 t3' t4 hfz
  go_region
  all_goals
    obtain ⟨h3, h4, hfw⟩ := HZ.out
    generalize ((((World.setCell Wa _ _).setCell _ _).setCell _ _).setCell _ _) = wz at *
    have s0 := (c_row2 (W := wz.drew) h3).1
    have s1 := (c_row2 (W := wz.drew) h3).2.1
    have s2 := (c_row2 (W := wz.drew) h4).1
    have s3 := (c_row2 (W := wz.drew) h4).2.1
    clear h3 h4
    go_wp2
    refine bodyPost_ret (v := .tuple #[.agg #[.slice a1 n1 k1, .slice none 0 0], .agg #[.slice a2 n2 k2, .slice none 0 0]]) (by simp [results, Try.results25, go_sem, s0, s1, s2, s3]) rfl ?_
    exact ⟨⟨_, _, _, _, by rw [← HN.out.1, ← HN.out.2]⟩, hfw⟩
end Go.Proofs.Ytcjpgenlhphapaa
