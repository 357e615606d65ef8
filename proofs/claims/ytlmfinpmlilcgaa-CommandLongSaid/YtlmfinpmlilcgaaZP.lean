/- Texts of this proof, merged. -/
import Derived.Test.YtlmfinpmlilcgaaZK
import Derived.Test.YtlmfinpmlilcgaaZO
set_option linter.unusedVariables false
set_option linter.unusedSimpArgs false
/- A flag, a node, a piece are read. (gen_gl.py) -/
namespace Go.Proofs.Ytlmfinpmlilcgaa
set_option maxRecDepth 20000
set_option linter.unusedVariables false
set_option linter.unusedSimpArgs false
open Go.RowKit Pm

abbrev TRD : TypeId := 65
theorem frz {w : World} {b : Nat} {cs : Array Value} {T : TypeId} (h : w.heap[b]? = some (.cells cs T (0, 0))) (j : Nat) : w.frozen? ⟨b, j, none⟩ = false := by simp [World.frozen?, h]
/-- Values stored one behind the other. -/
def setAll (w : World) (b : Nat) : Nat → List Value → World
  | _, [] => w
  | j, v :: r => setAll (w.setCell ⟨b, j, none⟩ v) b (j + 1) r
theorem setAll_fp : ∀ (l : List Value) (w : World) (b j : Nat), Fp (fun k => k = b) w (setAll w b j l)
  | [], w, b, j => Fp.refl _ _
  | v :: r, w, b, j => ((Fp.refl (fun k => k = b) w).setCell (p := ⟨b, j, none⟩) (.inl rfl) v).same (setAll_fp r _ b (j + 1))
theorem set_heap {w : World} {b : Nat} {cs : Array Value} {T : TypeId} (h : w.heap[b]? = some (.cells cs T (0, 0))) (j : Nat) (v : Value) : (w.setCell ⟨b, j, none⟩ v).heap[b]? = some (.cells (cs.setIfInBounds j v) T (0, 0)) := by
  simp [World.setCell, Array.getElem?_modify, h]
theorem setAll_heap : ∀ (l : List Value) (w : World) (b j : Nat) (cs : Array Value) (T : TypeId), w.heap[b]? = some (.cells cs T (0, 0)) → j + l.length = cs.size → (setAll w b j l).heap[b]? = some (.cells (cs.toList.take j ++ l).toArray T (0, 0))
  | [], w, b, j, cs, T, h, hj => by
    have : j = cs.size := by simpa using hj
    subst this
    have e : (cs.toList.take cs.size ++ []).toArray = cs := by
      rw [List.append_nil, ← Array.length_toList, List.take_length]
    rw [e]; exact h
  | v :: r, w, b, j, cs, T, h, hj => by
    simp only [List.length_cons] at hj
    have h1 := setAll_heap r (w.setCell ⟨b, j, none⟩ v) b (j + 1) (cs.setIfInBounds j v) T (set_heap h j v) (by rw [Array.size_setIfInBounds]; omega)
    have hlt : j < cs.toList.length := by rw [Array.length_toList]; omega
    have e : (cs.setIfInBounds j v).toList.take (j + 1) ++ r = cs.toList.take j ++ v :: r := by
      rw [Array.toList_setIfInBounds, List.take_succ_eq_append_getElem (by rw [List.length_set]; exact hlt), List.take_set_of_le (Nat.le_refl _)]
      simp
    rw [e] at h1; exact h1

/-- While a struct is read: the reader, the receiver's box, the result's, and the struct's. -/
structure Rd3 (lo b : Nat) (s : Rst) (w : World) (n0 : Nat) (T : TypeId) (Z C : Array Value) (W : World) : Prop where
  rr : Rr lo b s W
  fp : Fp (fun k => k = b) w W
  hn : n0 = w.heap.size
  hb : b < n0
  hx : W.heap[n0]? = some (.cells #[.pointer (some ⟨b, 0, none⟩)] TRD (0, 0))
  hr : W.heap[n0 + 1]? = some (.cells Z T (0, 0))
  hp : W.heap[n0 + 1 + 1]? = some (.cells C T (0, 0))
section
variable {lo b : Nat} {s s' : Rst} {w W W' : World} {n0 : Nat} {T : TypeId} {Z C : Array Value}
theorem Rd3.start (h : Rr lo b s w) (hn : n0 = w.heap.size) (Z : Array Value) (T : TypeId) : Rd3 lo b s w n0 T Z Z (((w.alloc (.cells #[.pointer (some ⟨b, 0, none⟩)] TRD)).alloc (.cells Z T)).alloc (.cells Z T)) := by
  subst hn
  have hf1 := fp_alloc w (.cells #[.pointer (some ⟨b, 0, none⟩)] TRD)
  have hf2 := fp_alloc (w.alloc (.cells #[.pointer (some ⟨b, 0, none⟩)] TRD)) (.cells Z T)
  have hf3 := fp_alloc ((w.alloc (.cells #[.pointer (some ⟨b, 0, none⟩)] TRD)).alloc (.cells Z T)) (.cells Z T)
  have e1 := heap_alloc_new w (.cells #[.pointer (some ⟨b, 0, none⟩)] TRD)
  have e2 := heap_alloc_new (w.alloc (.cells #[.pointer (some ⟨b, 0, none⟩)] TRD)) (.cells Z T)
  have e3 := heap_alloc_new ((w.alloc (.cells #[.pointer (some ⟨b, 0, none⟩)] TRD)).alloc (.cells Z T)) (.cells Z T)
  have s1 : (w.alloc (.cells #[.pointer (some ⟨b, 0, none⟩)] TRD)).heap.size = w.heap.size + 1 := by simp
  have s2 : ((w.alloc (.cells #[.pointer (some ⟨b, 0, none⟩)] TRD)).alloc (.cells Z T)).heap.size = w.heap.size + 1 + 1 := by simp
  rw [s1] at e2
  rw [s2] at e3
  exact ⟨h.keep ((hf1.then hf2).then hf3) (fun h => h), ((hf1.then hf2).then hf3).any, rfl, h.lt, (hf2.then hf3).heap e1 (fun h => h), hf3.heap e2 (fun h => h), e3⟩
theorem Rd3.step (h : Rd3 lo b s w n0 T Z C W) (g : RrStep lo b s' W W') : Rd3 lo b s' w n0 T Z C W' := by
  have := h.hb
  exact ⟨g.1, h.fp.same g.2, h.hn, h.hb, g.2.heap h.hx (fun e => by omega), g.2.heap h.hr (fun e => by omega), g.2.heap h.hp (fun e => by omega)⟩
theorem Rd3.put (h : Rd3 lo b s w n0 T Z C W) (j : Nat) (v : Value) : Rd3 lo b s w n0 T Z (C.setIfInBounds j v) (W.setCell ⟨n0 + 1 + 1, j, none⟩ v) := by
  have h1 := h.hb
  have h2 := h.hn
  have f : Fp (fun k => k = n0 + 1 + 1) W (W.setCell ⟨n0 + 1 + 1, j, none⟩ v) := (Fp.refl (fun k => k = n0 + 1 + 1) W).setCell (p := ⟨n0 + 1 + 1, j, none⟩) (.inl rfl) v
  exact ⟨h.rr.keep f (fun e => by omega), h.fp.setCell (p := ⟨n0 + 1 + 1, j, none⟩) (.inr (by show w.heap.size ≤ n0 + 1 + 1; omega)) v, h2, h1, f.heap h.hx (fun e => by omega), f.heap h.hr (fun e => by omega), set_heap h.hp j v⟩
theorem Rd3.box (h : Rd3 lo b s w n0 T Z C W) : W.cell? ⟨n0, 0, none⟩ = some (.pointer (some ⟨b, 0, none⟩)) := by rw [cell_of_row _ _ _ _ _ _ h.hx]; rfl
theorem Rd3.cell (h : Rd3 lo b s w n0 T Z C W) (j : Nat) : W.cell? ⟨n0 + 1 + 1, j, none⟩ = C[j]? := cell_of_row _ _ _ _ _ _ h.hp
theorem Rd3.cellZ (h : Rd3 lo b s w n0 T Z C W) (j : Nat) : W.cell? ⟨n0 + 1, j, none⟩ = Z[j]? := cell_of_row _ _ _ _ _ _ h.hr
theorem Rd3.fin (h : Rd3 lo b s w n0 T Z C W) (l : List Value) : RrStep lo b s w (setAll W (n0 + 1) 0 l) := by
  have h1 := h.hb
  have h2 := h.hn
  have f := setAll_fp l W (n0 + 1) 0
  exact ⟨h.rr.keep f (fun e => by omega), h.fp.trans f (fun k hk => by right; omega)⟩
theorem Rd3.res (h : Rd3 lo b s w n0 T Z C W) (l : List Value) (hl : l.length = Z.size) : (setAll W (n0 + 1) 0 l).heap[n0 + 1]? = some (.cells l.toArray T (0, 0)) := by
  have := setAll_heap l W (n0 + 1) 0 Z T h.hr (by omega)
  simpa using this
end

set_option maxHeartbeats 2000000 in
theorem rFl_c (lo b : Nat) (s : Rst) (w : World) (h : Rr lo b s w) (hl : s.1.length ≤ 1000000) :
    Calls Try.prog 46 #[.agg #[.pointer (some ⟨b, 0, none⟩)]] w fun e w' => e = .returned (.bool (rFl s).1) ∧ RrStep lo b (rFl s).2 w w' := by
  have hf := fp_alloc w (.cells #[.pointer (some ⟨b, 0, none⟩)] TRD)
  have hc := RNum_c lo b s 1 _ (h.keep hf (fun h => h)) hl
  unfold rFl
  generalize rNum s 1 = x at hc ⊢
  obtain ⟨n, s1⟩ := x
  simp only at hc ⊢
  have HC := Lib.hid hc
  have HF := Lib.hid hf
  clear hc h hl hf
  go_enter Try.func46, Try.ntmps46
  go_wp2_with fail
  refine HC.out.mono ?_
  rintro e w1 ⟨rfl, g⟩
  have HG := Lib.hid (show RrStep lo b s1 w w1 from ⟨g.1, (HF.out.any).same g.2⟩)
  clear g
  by_cases h1 : n = 1
  · subst h1
    go_wp2
    go_ret
    exact ⟨rfl, HG.out⟩
  · have q1 : ((n : Int) == 1) = false := beq_eq_false_iff_ne.2 (by omega)
    have q2 : ((n : Int) = 1) = False := eq_false (by omega)
    have q3 : (n == 1) = false := beq_eq_false_iff_ne.2 h1
    have q4 : (n = 1) = False := eq_false h1
    have HD := Lib.hid (decide_eq_false h1)
    clear h1
    go_wp2
    go_ret
    exact ⟨by rw [HD.out]; rfl, HG.out⟩

set_option maxHeartbeats 16000000 in
theorem rNd_c (lo b : Nat) (s : Rst) (w : World) (h : Rr lo b s w) (hl : s.1.length ≤ 1000000) :
    Calls Try.prog 51 #[.agg #[.pointer (some ⟨b, 0, none⟩)]] w fun e w' => e = .returned (.agg #[.string (B (rNd s).1.path), .string (B (rNd s).1.data), .int .i64 (rNd s).1.ver, .int .i64 (rNd s).1.turn, .int .i64 (rNd s).1.own]) ∧ RrStep lo b (rNd s).2 w w' := by
  have H0 := Lib.hid (Rd3.start h rfl #[.string ⟨#[]⟩, .string ⟨#[]⟩, .int .i64 0, .int .i64 0, .int .i64 0] 81)
  obtain ⟨a1, e1⟩ : ∃ a, a = rText s := ⟨_, rfl⟩
  obtain ⟨a2, e2⟩ : ∃ a, a = rText a1.2 := ⟨_, rfl⟩
  obtain ⟨a3, e3⟩ : ∃ a, a = rNum a2.2 281474976710656 := ⟨_, rfl⟩
  obtain ⟨a4, e4⟩ : ∃ a, a = rNum a3.2 1099511627776 := ⟨_, rfl⟩
  have l0 : s.1.length ≤ 1000000 := hl
  have l1 : a1.2.1.length ≤ 1000000 := by rw [e1]; have := (rText_le s).1; exact Nat.le_trans this l0
  have l2 : a2.2.1.length ≤ 1000000 := by rw [e2]; have := (rText_le a1.2).1; exact Nat.le_trans this l1
  have l3 : a3.2.1.length ≤ 1000000 := by rw [e3]; have := rNum_le a2.2 281474976710656; exact Nat.le_trans this l2
  have l4 : a4.2.1.length ≤ 1000000 := by rw [e4]; have := rNum_le a3.2 1099511627776; exact Nat.le_trans this l3
  have hE : rNd s = ((⟨a1.1, a2.1, (a3.1 : Int), 0, (a4.1 : Int)⟩ : Nd), a4.2) := by
    rw [e4, e3, e2, e1]; rfl
  rw [hE]
  have HL := Lib.hid (And.intro l0 (And.intro l1 (And.intro l2 (And.intro l3 (And.intro l4 trivial)))))
  have HEs := Lib.hid (And.intro e1 (And.intro e2 (And.intro e3 (And.intro e4 trivial))))
  clear l0 l1 l2 l3 l4 hE hl h e1 e2 e3 e4
  go_enter Try.func51, Try.ntmps51
  have hc := RText_c lo b s _ H0.out.rr HL.out.1
  rw [← HEs.out.1] at hc
  have HC := Lib.hid hc
  clear hc
  have bx := H0.out.box
  go_wp2_with fail
  refine HC.out.mono ?_
  rintro e w1 ⟨rfl, g⟩
  have K1 := Lib.hid (H0.out.step g)
  clear g bx HC H0
  have cj := K1.out.cell 0
  have fj := frz K1.out.hp 0
  simp only [List.getElem?_toArray, List.getElem?_cons_zero, List.getElem?_cons_succ] at cj
  have H1 := Lib.hid (show Rd3 lo b a1.2 w w.heap.size 81 #[.string ⟨#[]⟩, .string ⟨#[]⟩, .int .i64 0, .int .i64 0, .int .i64 0] #[.string (B a1.1), .string ⟨#[]⟩, .int .i64 0, .int .i64 0, .int .i64 0] (w1.setCell ⟨w.heap.size + 1 + 1, 0, none⟩ (.string (B a1.1))) from K1.out.put 0 _)
  have bx := H1.out.box
  clear bx
  have hc := RText_c lo b a1.2 _ H1.out.rr HL.out.2.1
  rw [← HEs.out.2.1] at hc
  have HC := Lib.hid hc
  clear hc
  have bx := H1.out.box
  go_wp2_with fail
  refine HC.out.mono ?_
  rintro e w2 ⟨rfl, g⟩
  have K2 := Lib.hid (H1.out.step g)
  clear g bx HC H1
  have cj := K2.out.cell 1
  have fj := frz K2.out.hp 1
  simp only [List.getElem?_toArray, List.getElem?_cons_zero, List.getElem?_cons_succ] at cj
  have H2 := Lib.hid (show Rd3 lo b a2.2 w w.heap.size 81 #[.string ⟨#[]⟩, .string ⟨#[]⟩, .int .i64 0, .int .i64 0, .int .i64 0] #[.string (B a1.1), .string (B a2.1), .int .i64 0, .int .i64 0, .int .i64 0] (w2.setCell ⟨w.heap.size + 1 + 1, 1, none⟩ (.string (B a2.1))) from K2.out.put 1 _)
  have bx := H2.out.box
  clear bx
  have hc := RNum_c lo b a2.2 281474976710656 _ H2.out.rr HL.out.2.2.1
  rw [← HEs.out.2.2.1] at hc
  have HC := Lib.hid hc
  clear hc
  have bx := H2.out.box
  go_wp2_with fail
  refine HC.out.mono ?_
  rintro e w3 ⟨rfl, g⟩
  have K3 := Lib.hid (H2.out.step g)
  clear g bx HC H2
  have cj := K3.out.cell 2
  have fj := frz K3.out.hp 2
  simp only [List.getElem?_toArray, List.getElem?_cons_zero, List.getElem?_cons_succ] at cj
  have H3 := Lib.hid (show Rd3 lo b a3.2 w w.heap.size 81 #[.string ⟨#[]⟩, .string ⟨#[]⟩, .int .i64 0, .int .i64 0, .int .i64 0] #[.string (B a1.1), .string (B a2.1), .int .i64 (a3.1 : Int), .int .i64 0, .int .i64 0] (w3.setCell ⟨w.heap.size + 1 + 1, 2, none⟩ (.int .i64 (a3.1 : Int))) from K3.out.put 2 _)
  have bx := H3.out.box
  clear bx
  have hc := RNum_c lo b a3.2 1099511627776 _ H3.out.rr HL.out.2.2.2.1
  rw [← HEs.out.2.2.2.1] at hc
  have HC := Lib.hid hc
  clear hc
  have bx := H3.out.box
  go_wp2_with fail
  refine HC.out.mono ?_
  rintro e w4 ⟨rfl, g⟩
  have K4 := Lib.hid (H3.out.step g)
  clear g bx HC H3
  have cj := K4.out.cell 4
  have fj := frz K4.out.hp 4
  simp only [List.getElem?_toArray, List.getElem?_cons_zero, List.getElem?_cons_succ] at cj
  have H4 := Lib.hid (show Rd3 lo b a4.2 w w.heap.size 81 #[.string ⟨#[]⟩, .string ⟨#[]⟩, .int .i64 0, .int .i64 0, .int .i64 0] #[.string (B a1.1), .string (B a2.1), .int .i64 (a3.1 : Int), .int .i64 0, .int .i64 (a4.1 : Int)] (w4.setCell ⟨w.heap.size + 1 + 1, 4, none⟩ (.int .i64 (a4.1 : Int))) from K4.out.put 4 _)
  have bx := H4.out.box
  clear bx
  have HZ := H4
  have p0 := HZ.out.cell 0
  have p1 := HZ.out.cell 1
  have p2 := HZ.out.cell 2
  have p3 := HZ.out.cell 3
  have p4 := HZ.out.cell 4
  have r0 := HZ.out.cellZ 0
  have z0 := frz HZ.out.hr 0
  have r1 := HZ.out.cellZ 1
  have z1 := frz HZ.out.hr 1
  have r2 := HZ.out.cellZ 2
  have z2 := frz HZ.out.hr 2
  have r3 := HZ.out.cellZ 3
  have z3 := frz HZ.out.hr 3
  have r4 := HZ.out.cellZ 4
  have z4 := frz HZ.out.hr 4
  simp only [List.getElem?_toArray, List.getElem?_cons_zero, List.getElem?_cons_succ] at p0 r0 p1 r1 p2 r2 p3 r3 p4 r4
  have hfin := HZ.out.fin [.string (B a1.1), .string (B a2.1), .int .i64 (a3.1 : Int), .int .i64 0, .int .i64 (a4.1 : Int)]
  have hres := HZ.out.res [.string (B a1.1), .string (B a2.1), .int .i64 (a3.1 : Int), .int .i64 0, .int .i64 (a4.1 : Int)] rfl
  go_wp2
  obtain ⟨wz, hwz⟩ : ∃ wz, wz = setAll (w4.setCell ⟨w.heap.size + 1 + 1, 4, none⟩ (.int .i64 (a4.1 : Int))) (w.heap.size + 1) 0 [.string (B a1.1), .string (B a2.1), .int .i64 (a3.1 : Int), .int .i64 0, .int .i64 (a4.1 : Int)] := ⟨_, rfl⟩
  rw [← hwz] at hfin hres
  simp only [setAll, Nat.zero_add, Nat.reduceAdd] at hwz
  rw [← hwz]
  clear hwz
  have s0 := cell_of_row _ (w.heap.size + 1) 0 _ _ _ hres
  have s1 := cell_of_row _ (w.heap.size + 1) 1 _ _ _ hres
  have s2 := cell_of_row _ (w.heap.size + 1) 2 _ _ _ hres
  have s3 := cell_of_row _ (w.heap.size + 1) 3 _ _ _ hres
  have s4 := cell_of_row _ (w.heap.size + 1) 4 _ _ _ hres
  simp only [List.getElem?_toArray, List.getElem?_cons_zero, List.getElem?_cons_succ] at s0 s1 s2 s3 s4
  exact bodyPost_ret (v := .agg #[.string (B a1.1), .string (B a2.1), .int .i64 (a3.1 : Int), .int .i64 0, .int .i64 (a4.1 : Int)]) (by simp [results, Try.results51, go_sem, s0, s1, s2, s3, s4]) rfl ⟨rfl, hfin⟩

set_option maxHeartbeats 16000000 in
theorem rPe_c (lo b : Nat) (s : Rst) (w : World) (h : Rr lo b s w) (hl : s.1.length ≤ 1000000) :
    Calls Try.prog 48 #[.agg #[.pointer (some ⟨b, 0, none⟩)]] w fun e w' => e = .returned (.agg #[.int .i64 (rPe s).1.op, .int .i64 (rPe s).1.p.kind, .string (B (rPe s).1.p.dir), .string (B (rPe s).1.p.path), .string (B (rPe s).1.p.data), .int .i64 (rPe s).1.p.ver, .int .i64 (rPe s).1.p.own, .bool (rPe s).1.p.turns]) ∧ RrStep lo b (rPe s).2 w w' := by
  have H0 := Lib.hid (Rd3.start h rfl #[.int .i64 0, .int .i64 0, .string ⟨#[]⟩, .string ⟨#[]⟩, .string ⟨#[]⟩, .int .i64 0, .int .i64 0, .bool false] 48)
  obtain ⟨a1, e1⟩ : ∃ a, a = rNum s 7 := ⟨_, rfl⟩
  obtain ⟨a2, e2⟩ : ∃ a, a = rNum a1.2 10 := ⟨_, rfl⟩
  obtain ⟨a3, e3⟩ : ∃ a, a = rText a2.2 := ⟨_, rfl⟩
  obtain ⟨a4, e4⟩ : ∃ a, a = rText a3.2 := ⟨_, rfl⟩
  obtain ⟨a5, e5⟩ : ∃ a, a = rText a4.2 := ⟨_, rfl⟩
  obtain ⟨a6, e6⟩ : ∃ a, a = rNum a5.2 281474976710656 := ⟨_, rfl⟩
  obtain ⟨a7, e7⟩ : ∃ a, a = rNum a6.2 1099511627776 := ⟨_, rfl⟩
  obtain ⟨a8, e8⟩ : ∃ a, a = rFl a7.2 := ⟨_, rfl⟩
  have l0 : s.1.length ≤ 1000000 := hl
  have l1 : a1.2.1.length ≤ 1000000 := by rw [e1]; have := rNum_le s 7; exact Nat.le_trans this l0
  have l2 : a2.2.1.length ≤ 1000000 := by rw [e2]; have := rNum_le a1.2 10; exact Nat.le_trans this l1
  have l3 : a3.2.1.length ≤ 1000000 := by rw [e3]; have := (rText_le a2.2).1; exact Nat.le_trans this l2
  have l4 : a4.2.1.length ≤ 1000000 := by rw [e4]; have := (rText_le a3.2).1; exact Nat.le_trans this l3
  have l5 : a5.2.1.length ≤ 1000000 := by rw [e5]; have := (rText_le a4.2).1; exact Nat.le_trans this l4
  have l6 : a6.2.1.length ≤ 1000000 := by rw [e6]; have := rNum_le a5.2 281474976710656; exact Nat.le_trans this l5
  have l7 : a7.2.1.length ≤ 1000000 := by rw [e7]; have := rNum_le a6.2 1099511627776; exact Nat.le_trans this l6
  have l8 : a8.2.1.length ≤ 1000000 := by rw [e8]; have := rNum_le a7.2 1; unfold rFl; exact Nat.le_trans this l7
  have hE : rPe s = ((⟨(a1.1 : Int), ⟨(a2.1 : Int), a3.1, a4.1, a5.1, (a6.1 : Int) - 1, (a7.1 : Int), a8.1⟩⟩ : Pe), a8.2) := by
    rw [e8, e7, e6, e5, e4, e3, e2, e1]; rfl
  have hvv := rNum_val a5.2 281474976710656
  rw [← e6] at hvv
  have HVV := Lib.hid (show wrap64 ((a6.1 : Int) - 1) = (a6.1 : Int) - 1 from by have := hvv.1; unfold wrap64; omega)
  clear hvv
  rw [hE]
  have HL := Lib.hid (And.intro l0 (And.intro l1 (And.intro l2 (And.intro l3 (And.intro l4 (And.intro l5 (And.intro l6 (And.intro l7 (And.intro l8 trivial)))))))))
  have HEs := Lib.hid (And.intro e1 (And.intro e2 (And.intro e3 (And.intro e4 (And.intro e5 (And.intro e6 (And.intro e7 (And.intro e8 trivial))))))))
  clear l0 l1 l2 l3 l4 l5 l6 l7 l8 hE hl h e1 e2 e3 e4 e5 e6 e7 e8
  go_enter Try.func48, Try.ntmps48
  have hc := RNum_c lo b s 7 _ H0.out.rr HL.out.1
  rw [← HEs.out.1] at hc
  have HC := Lib.hid hc
  clear hc
  have bx := H0.out.box
  go_wp2_with fail
  refine HC.out.mono ?_
  rintro e w1 ⟨rfl, g⟩
  have K1 := Lib.hid (H0.out.step g)
  clear g bx HC H0
  have cj := K1.out.cell 0
  have fj := frz K1.out.hp 0
  simp only [List.getElem?_toArray, List.getElem?_cons_zero, List.getElem?_cons_succ] at cj
  have H1 := Lib.hid (show Rd3 lo b a1.2 w w.heap.size 48 #[.int .i64 0, .int .i64 0, .string ⟨#[]⟩, .string ⟨#[]⟩, .string ⟨#[]⟩, .int .i64 0, .int .i64 0, .bool false] #[.int .i64 (a1.1 : Int), .int .i64 0, .string ⟨#[]⟩, .string ⟨#[]⟩, .string ⟨#[]⟩, .int .i64 0, .int .i64 0, .bool false] (w1.setCell ⟨w.heap.size + 1 + 1, 0, none⟩ (.int .i64 (a1.1 : Int))) from K1.out.put 0 _)
  have bx := H1.out.box
  clear bx
  have hc := RNum_c lo b a1.2 10 _ H1.out.rr HL.out.2.1
  rw [← HEs.out.2.1] at hc
  have HC := Lib.hid hc
  clear hc
  have bx := H1.out.box
  go_wp2_with fail
  refine HC.out.mono ?_
  rintro e w2 ⟨rfl, g⟩
  have K2 := Lib.hid (H1.out.step g)
  clear g bx HC H1
  have cj := K2.out.cell 1
  have fj := frz K2.out.hp 1
  simp only [List.getElem?_toArray, List.getElem?_cons_zero, List.getElem?_cons_succ] at cj
  have H2 := Lib.hid (show Rd3 lo b a2.2 w w.heap.size 48 #[.int .i64 0, .int .i64 0, .string ⟨#[]⟩, .string ⟨#[]⟩, .string ⟨#[]⟩, .int .i64 0, .int .i64 0, .bool false] #[.int .i64 (a1.1 : Int), .int .i64 (a2.1 : Int), .string ⟨#[]⟩, .string ⟨#[]⟩, .string ⟨#[]⟩, .int .i64 0, .int .i64 0, .bool false] (w2.setCell ⟨w.heap.size + 1 + 1, 1, none⟩ (.int .i64 (a2.1 : Int))) from K2.out.put 1 _)
  have bx := H2.out.box
  clear bx
  have hc := RText_c lo b a2.2 _ H2.out.rr HL.out.2.2.1
  rw [← HEs.out.2.2.1] at hc
  have HC := Lib.hid hc
  clear hc
  have bx := H2.out.box
  go_wp2_with fail
  refine HC.out.mono ?_
  rintro e w3 ⟨rfl, g⟩
  have K3 := Lib.hid (H2.out.step g)
  clear g bx HC H2
  have cj := K3.out.cell 2
  have fj := frz K3.out.hp 2
  simp only [List.getElem?_toArray, List.getElem?_cons_zero, List.getElem?_cons_succ] at cj
  have H3 := Lib.hid (show Rd3 lo b a3.2 w w.heap.size 48 #[.int .i64 0, .int .i64 0, .string ⟨#[]⟩, .string ⟨#[]⟩, .string ⟨#[]⟩, .int .i64 0, .int .i64 0, .bool false] #[.int .i64 (a1.1 : Int), .int .i64 (a2.1 : Int), .string (B a3.1), .string ⟨#[]⟩, .string ⟨#[]⟩, .int .i64 0, .int .i64 0, .bool false] (w3.setCell ⟨w.heap.size + 1 + 1, 2, none⟩ (.string (B a3.1))) from K3.out.put 2 _)
  have bx := H3.out.box
  clear bx
  have hc := RText_c lo b a3.2 _ H3.out.rr HL.out.2.2.2.1
  rw [← HEs.out.2.2.2.1] at hc
  have HC := Lib.hid hc
  clear hc
  have bx := H3.out.box
  go_wp2_with fail
  refine HC.out.mono ?_
  rintro e w4 ⟨rfl, g⟩
  have K4 := Lib.hid (H3.out.step g)
  clear g bx HC H3
  have cj := K4.out.cell 3
  have fj := frz K4.out.hp 3
  simp only [List.getElem?_toArray, List.getElem?_cons_zero, List.getElem?_cons_succ] at cj
  have H4 := Lib.hid (show Rd3 lo b a4.2 w w.heap.size 48 #[.int .i64 0, .int .i64 0, .string ⟨#[]⟩, .string ⟨#[]⟩, .string ⟨#[]⟩, .int .i64 0, .int .i64 0, .bool false] #[.int .i64 (a1.1 : Int), .int .i64 (a2.1 : Int), .string (B a3.1), .string (B a4.1), .string ⟨#[]⟩, .int .i64 0, .int .i64 0, .bool false] (w4.setCell ⟨w.heap.size + 1 + 1, 3, none⟩ (.string (B a4.1))) from K4.out.put 3 _)
  have bx := H4.out.box
  clear bx
  have hc := RText_c lo b a4.2 _ H4.out.rr HL.out.2.2.2.2.1
  rw [← HEs.out.2.2.2.2.1] at hc
  have HC := Lib.hid hc
  clear hc
  have bx := H4.out.box
  go_wp2_with fail
  refine HC.out.mono ?_
  rintro e w5 ⟨rfl, g⟩
  have K5 := Lib.hid (H4.out.step g)
  clear g bx HC H4
  have cj := K5.out.cell 4
  have fj := frz K5.out.hp 4
  simp only [List.getElem?_toArray, List.getElem?_cons_zero, List.getElem?_cons_succ] at cj
  have H5 := Lib.hid (show Rd3 lo b a5.2 w w.heap.size 48 #[.int .i64 0, .int .i64 0, .string ⟨#[]⟩, .string ⟨#[]⟩, .string ⟨#[]⟩, .int .i64 0, .int .i64 0, .bool false] #[.int .i64 (a1.1 : Int), .int .i64 (a2.1 : Int), .string (B a3.1), .string (B a4.1), .string (B a5.1), .int .i64 0, .int .i64 0, .bool false] (w5.setCell ⟨w.heap.size + 1 + 1, 4, none⟩ (.string (B a5.1))) from K5.out.put 4 _)
  have bx := H5.out.box
  clear bx
  have hc := RNum_c lo b a5.2 281474976710656 _ H5.out.rr HL.out.2.2.2.2.2.1
  rw [← HEs.out.2.2.2.2.2.1] at hc
  have HC := Lib.hid hc
  clear hc
  have bx := H5.out.box
  go_wp2_with fail
  refine HC.out.mono ?_
  rintro e w6 ⟨rfl, g⟩
  have K6 := Lib.hid (H5.out.step g)
  clear g bx HC H5
  have cj := K6.out.cell 5
  have fj := frz K6.out.hp 5
  simp only [List.getElem?_toArray, List.getElem?_cons_zero, List.getElem?_cons_succ] at cj
  have H6 := Lib.hid (show Rd3 lo b a6.2 w w.heap.size 48 #[.int .i64 0, .int .i64 0, .string ⟨#[]⟩, .string ⟨#[]⟩, .string ⟨#[]⟩, .int .i64 0, .int .i64 0, .bool false] #[.int .i64 (a1.1 : Int), .int .i64 (a2.1 : Int), .string (B a3.1), .string (B a4.1), .string (B a5.1), .int .i64 (wrap64 ((a6.1 : Int) - 1)), .int .i64 0, .bool false] (w6.setCell ⟨w.heap.size + 1 + 1, 5, none⟩ (.int .i64 (wrap64 ((a6.1 : Int) - 1)))) from K6.out.put 5 _)
  have bx := H6.out.box
  clear bx
  have hc := RNum_c lo b a6.2 1099511627776 _ H6.out.rr HL.out.2.2.2.2.2.2.1
  rw [← HEs.out.2.2.2.2.2.2.1] at hc
  have HC := Lib.hid hc
  clear hc
  have bx := H6.out.box
  go_wp2_with fail
  refine HC.out.mono ?_
  rintro e w7 ⟨rfl, g⟩
  have K7 := Lib.hid (H6.out.step g)
  clear g bx HC H6
  have cj := K7.out.cell 6
  have fj := frz K7.out.hp 6
  simp only [List.getElem?_toArray, List.getElem?_cons_zero, List.getElem?_cons_succ] at cj
  have H7 := Lib.hid (show Rd3 lo b a7.2 w w.heap.size 48 #[.int .i64 0, .int .i64 0, .string ⟨#[]⟩, .string ⟨#[]⟩, .string ⟨#[]⟩, .int .i64 0, .int .i64 0, .bool false] #[.int .i64 (a1.1 : Int), .int .i64 (a2.1 : Int), .string (B a3.1), .string (B a4.1), .string (B a5.1), .int .i64 (wrap64 ((a6.1 : Int) - 1)), .int .i64 (a7.1 : Int), .bool false] (w7.setCell ⟨w.heap.size + 1 + 1, 6, none⟩ (.int .i64 (a7.1 : Int))) from K7.out.put 6 _)
  have bx := H7.out.box
  clear bx
  have hc := rFl_c lo b a7.2 _ H7.out.rr HL.out.2.2.2.2.2.2.2.1
  rw [← HEs.out.2.2.2.2.2.2.2.1] at hc
  have HC := Lib.hid hc
  clear hc
  have bx := H7.out.box
  go_wp2_with fail
  refine HC.out.mono ?_
  rintro e w8 ⟨rfl, g⟩
  have K8 := Lib.hid (H7.out.step g)
  clear g bx HC H7
  have cj := K8.out.cell 7
  have fj := frz K8.out.hp 7
  simp only [List.getElem?_toArray, List.getElem?_cons_zero, List.getElem?_cons_succ] at cj
  have H8 := Lib.hid (show Rd3 lo b a8.2 w w.heap.size 48 #[.int .i64 0, .int .i64 0, .string ⟨#[]⟩, .string ⟨#[]⟩, .string ⟨#[]⟩, .int .i64 0, .int .i64 0, .bool false] #[.int .i64 (a1.1 : Int), .int .i64 (a2.1 : Int), .string (B a3.1), .string (B a4.1), .string (B a5.1), .int .i64 (wrap64 ((a6.1 : Int) - 1)), .int .i64 (a7.1 : Int), .bool a8.1] (w8.setCell ⟨w.heap.size + 1 + 1, 7, none⟩ (.bool a8.1)) from K8.out.put 7 _)
  have bx := H8.out.box
  clear bx
  have HZ := H8
  have p0 := HZ.out.cell 0
  have p1 := HZ.out.cell 1
  have p2 := HZ.out.cell 2
  have p3 := HZ.out.cell 3
  have p4 := HZ.out.cell 4
  have p5 := HZ.out.cell 5
  have p6 := HZ.out.cell 6
  have p7 := HZ.out.cell 7
  have r0 := HZ.out.cellZ 0
  have z0 := frz HZ.out.hr 0
  have r1 := HZ.out.cellZ 1
  have z1 := frz HZ.out.hr 1
  have r2 := HZ.out.cellZ 2
  have z2 := frz HZ.out.hr 2
  have r3 := HZ.out.cellZ 3
  have z3 := frz HZ.out.hr 3
  have r4 := HZ.out.cellZ 4
  have z4 := frz HZ.out.hr 4
  have r5 := HZ.out.cellZ 5
  have z5 := frz HZ.out.hr 5
  have r6 := HZ.out.cellZ 6
  have z6 := frz HZ.out.hr 6
  have r7 := HZ.out.cellZ 7
  have z7 := frz HZ.out.hr 7
  simp only [List.getElem?_toArray, List.getElem?_cons_zero, List.getElem?_cons_succ] at p0 r0 p1 r1 p2 r2 p3 r3 p4 r4 p5 r5 p6 r6 p7 r7
  have hfin := HZ.out.fin [.int .i64 (a1.1 : Int), .int .i64 (a2.1 : Int), .string (B a3.1), .string (B a4.1), .string (B a5.1), .int .i64 (wrap64 ((a6.1 : Int) - 1)), .int .i64 (a7.1 : Int), .bool a8.1]
  have hres := HZ.out.res [.int .i64 (a1.1 : Int), .int .i64 (a2.1 : Int), .string (B a3.1), .string (B a4.1), .string (B a5.1), .int .i64 (wrap64 ((a6.1 : Int) - 1)), .int .i64 (a7.1 : Int), .bool a8.1] rfl
  go_wp2
  obtain ⟨wz, hwz⟩ : ∃ wz, wz = setAll (w8.setCell ⟨w.heap.size + 1 + 1, 7, none⟩ (.bool a8.1)) (w.heap.size + 1) 0 [.int .i64 (a1.1 : Int), .int .i64 (a2.1 : Int), .string (B a3.1), .string (B a4.1), .string (B a5.1), .int .i64 (wrap64 ((a6.1 : Int) - 1)), .int .i64 (a7.1 : Int), .bool a8.1] := ⟨_, rfl⟩
  rw [← hwz] at hfin hres
  simp only [setAll, Nat.zero_add, Nat.reduceAdd] at hwz
  rw [← hwz]
  clear hwz
  have s0 := cell_of_row _ (w.heap.size + 1) 0 _ _ _ hres
  have s1 := cell_of_row _ (w.heap.size + 1) 1 _ _ _ hres
  have s2 := cell_of_row _ (w.heap.size + 1) 2 _ _ _ hres
  have s3 := cell_of_row _ (w.heap.size + 1) 3 _ _ _ hres
  have s4 := cell_of_row _ (w.heap.size + 1) 4 _ _ _ hres
  have s5 := cell_of_row _ (w.heap.size + 1) 5 _ _ _ hres
  have s6 := cell_of_row _ (w.heap.size + 1) 6 _ _ _ hres
  have s7 := cell_of_row _ (w.heap.size + 1) 7 _ _ _ hres
  simp only [List.getElem?_toArray, List.getElem?_cons_zero, List.getElem?_cons_succ] at s0 s1 s2 s3 s4 s5 s6 s7
  exact bodyPost_ret (v := .agg #[.int .i64 (a1.1 : Int), .int .i64 (a2.1 : Int), .string (B a3.1), .string (B a4.1), .string (B a5.1), .int .i64 (wrap64 ((a6.1 : Int) - 1)), .int .i64 (a7.1 : Int), .bool a8.1]) (by simp [results, Try.results48, go_sem, s0, s1, s2, s3, s4, s5, s6, s7]) rfl ⟨by rw [HVV.out], hfin⟩
end Go.Proofs.Ytlmfinpmlilcgaa

