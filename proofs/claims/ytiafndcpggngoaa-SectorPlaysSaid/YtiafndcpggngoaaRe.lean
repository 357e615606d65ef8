/- The document's Read. -/
import Derived.Test.YtiafndcpggngoaaRd
namespace Go.Proofs.Ytiafndcpggngoaa
open Go.RowKit Pm

/-- Sixteen bytes of a slice. -/
theorem Sl.part {w : World} {g o n cap : Nat} {l : Bs} (h : Sl w (.slice (some ⟨g, o, none⟩) n cap) l) (p m : Nat) (hp : p + m ≤ l.length) : Sl w (.slice (some ⟨g, o + p, none⟩) m (cap - p)) ((l.drop p).take m) := by
  have hl : ((l.drop p).take m).length = m := by simp; omega
  obtain ⟨ao, cap', e, h1, h2, h3⟩ := h.ex
  injection e with e1 e2 e3
  subst e1 e2 e3
  refine ⟨_, cap - p, by rw [hl], by rw [hl]; omega, by omega, .inr ?_⟩
  rcases h3 with ⟨h0, _⟩ | ⟨g2, o2, e, hg, hc⟩
  · cases h0
  · injection e with e
    injection e with e1 e2
    subst e1 e2
    refine ⟨g, o + p, rfl, hg, fun j hj => ?_⟩
    rw [Nat.add_assoc, hc (p + j) (by omega)]
    simp

theorem RRead_down {lo : Nat} {p : At} {s : Dk} {w : World} (h : Rf lo p s w) (a n : Int) (ho : s.off = true) :
    Calls Try.prog 18 #[.pointer (some ⟨p.b, 0, none⟩), .int .i64 a, .int .i64 n] w fun e w' => e = .returned (.tuple #[.slice none 0 0, .int .i64 31]) ∧ w = w' := by
  have c6 := h.c6
  rw [ho] at c6
  clear h
  go_enter Try.func18, Try.ntmps18
  go_wp2
  go_ret2
  exact ⟨rfl, rfl⟩

theorem read_ways (s : Dk) (hcl : s.cur.length = s.wet.length * 16) (hhi : s.wet.length ≤ 4096) (a n : Int) (hf : ¬ fits s a n) : (a < 0) = True ∨ (a < 0) = False ∧ ((n < 0) = True ∨ (n < 0) = False ∧ (((s.cur.length : Int) < a) = True ∨ ((s.cur.length : Int) < a) = False ∧ wrap64 ((s.cur.length : Int) - a) = (s.cur.length : Int) - a ∧ ((s.cur.length : Int) - a < n) = True)) := by
  unfold fits at hf
  by_cases h1 : a < 0
  · exact .inl (eq_true h1)
  · refine .inr ⟨eq_false h1, ?_⟩
    by_cases h2 : n < 0
    · exact .inl (eq_true h2)
    · refine .inr ⟨eq_false h2, ?_⟩
      by_cases h3 : (s.cur.length : Int) < a
      · exact .inl (eq_true h3)
      · exact .inr ⟨eq_false h3, by unfold wrap64; omega, eq_true (by omega)⟩

theorem RRead_arg {lo : Nat} {p : At} {s : Dk} {w : World} (h : Rf lo p s w) (a n : Int) (ho : s.off = false) (hf : ¬ fits s a n) :
    Calls Try.prog 18 #[.pointer (some ⟨p.b, 0, none⟩), .int .i64 a, .int .i64 n] w fun e w' => e = .returned (.tuple #[.slice none 0 0, .int .i64 1]) ∧ w = w' := by
  have c6 := h.c6
  have c0 := h.c0
  rw [ho] at c6
  have hq := read_ways s h.rt.cl h.rt.hi a n hf
  clear h hf
  rcases hq with q1 | ⟨q1, q2 | ⟨q2, q3 | ⟨q3, q4, q5⟩⟩⟩ <;> (
    go_enter Try.func18, Try.ntmps18
    go_wp2
    go_ret2
    exact ⟨rfl, rfl⟩)

theorem read_facts (L a n : Nat) (h : a + n ≤ L) (hL : L ≤ 1000000) : ((a : Int) < 0) = False ∧ ((n : Int) < 0) = False ∧ ((L : Int) < (a : Int)) = False ∧ wrap64 ((L : Int) - (a : Int)) = (L : Int) - (a : Int) ∧ ((L : Int) - (a : Int) < (n : Int)) = False :=
  ⟨eq_false (by omega), eq_false (by omega), eq_false (by omega), by unfold wrap64; omega, eq_false (by omega)⟩

theorem read_caps (L cap a n : Nat) (h : a + n ≤ L) (hc : L ≤ cap) : ((a : Int) + (n : Int) ≤ (cap : Int)) = True ∧ (a + n ≤ cap) = True ∧ (a + n) - a = n := ⟨eq_true (by omega), eq_true (by omega), by omega⟩

set_option maxHeartbeats 1000000 in
theorem RRead_ok {lo : Nat} {p : At} {s : Dk} {w : World} (h : Rf lo p s w) (a n : Nat) (ho : s.off = false) (hf : a + n ≤ s.cur.length) (hga : ¬ p.gc = a) :
    Calls Try.prog 18 #[.pointer (some ⟨p.b, 0, none⟩), .int .i64 (a : Int), .int .i64 (n : Int)] w fun e w' => ∃ v, e = .returned (.tuple #[v, .int .i64 0]) ∧ Nw w w' v ((s.cur.drop a).take n) := by
  have c6 := h.c6
  rw [ho] at c6
  have hcl := h.rt.cl
  have hhi := h.rt.hi
  obtain ⟨q1, q2, q3, q4, q5⟩ := read_facts s.cur.length a n hf (by omega)
  obtain ⟨b1, b2, b3⟩ := read_caps s.cur.length p.gc a n hf h.cap.1.1
  have han : a + n ≤ 100000 := by omega
  have fa : Fp Non w (w.alloc (.cells #[] 5)) := (Fp.refl Non w).alloc _
  have c0 := h.c0
  have c0a := fa.cell h.c0 (fun h => h)
  have hsl := ((h.cur.sl h.cap.1.1 h.cap.1.2).keep fa (fun _ _ h => h)).part a n hf
  have hsn : ((s.cur.drop a).take n).length ≤ 1000000 := by simp; omega
  have happ := (Nw.made w).more _ ((s.cur.drop a).take n) 22 hsl (by simp only [List.length_nil]; omega)
  rw [List.nil_append, Nat.zero_add] at happ
  have happ : ∃ v' w', (Builtin.append_ #[22, 22] 22 #[.slice (some ⟨w.heap.size, 0, none⟩) 0 0, .slice (some ⟨p.g, a, none⟩) (a + n - a) (p.gc - a)]).run Try.prog (w.alloc (.cells #[] 5)) = .ok v' w' ∧ Nw w w' v' ((s.cur.drop a).take n) := by rw [b3]; exact happ
  clear b3
  have HA := Lib.hid happ
  clear h hf hcl hhi fa hsl happ hsn
  go_enter Try.func18, Try.ntmps18
  go_wp2_with (at_builtin; go_must (refine wpList_app rfl _ _ _ _ rfl _ _ rfl rfl _ HA.out ?_))
  intro v2 w2 hN
  obtain ⟨ao2, cap2, rfl⟩ := hN.shape
  have HN := Lib.hid hN; clear hN HA
  go_wp2
  go_ret2
  exact ⟨_, rfl, HN.out⟩

set_option maxHeartbeats 1000000 in
theorem RRead_edge {lo : Nat} {p : At} {s : Dk} {w : World} (h : Rf lo p s w) (a n : Nat) (ho : s.off = false) (hf : a + n ≤ s.cur.length) (hga : p.gc = a) :
    Calls Try.prog 18 #[.pointer (some ⟨p.b, 0, none⟩), .int .i64 (a : Int), .int .i64 (n : Int)] w fun e w' => ∃ v, e = .returned (.tuple #[v, .int .i64 0]) ∧ Nw w w' v ((s.cur.drop a).take n) := by
  have c6 := h.c6
  rw [ho] at c6
  have hcl := h.rt.cl
  have hhi := h.rt.hi
  obtain ⟨q1, q2, q3, q4, q5⟩ := read_facts s.cur.length a n hf (by omega)
  have hcp := h.cap.1.1
  obtain ⟨b1, b2, b3⟩ := read_caps s.cur.length p.gc a n hf h.cap.1.1
  have han : a + n ≤ 100000 := by omega
  have fa : Fp Non w (w.alloc (.cells #[] 5)) := (Fp.refl Non w).alloc _
  have c0 := h.c0
  have c0a := fa.cell h.c0 (fun h => h)
  have hsl := ((h.cur.sl h.cap.1.1 h.cap.1.2).keep fa (fun _ _ h => h)).part a n hf
  have hsn : ((s.cur.drop a).take n).length ≤ 1000000 := by simp; omega
  have hn0 : n = 0 := by have := hcp; omega
  subst hn0
  subst hga
  have hsl : Sl (w.alloc (.cells #[] 5)) (.slice (some ⟨p.g, 0, none⟩) 0 0) [] := ⟨some ⟨p.g, 0, none⟩, 0, rfl, Nat.le_refl _, Nat.zero_le _, .inr ⟨p.g, 0, rfl, Nat.lt_of_lt_of_le h.cur.lt fa.size, fun j hj => absurd hj (Nat.not_lt_zero j)⟩⟩
  have q6 : ((s.cur.length : Int) - (p.gc : Int) < 0) = False := eq_false (by omega)
  have HN := Lib.hid (Nw.made w)
  clear h hf hcl hhi fa hsl hsn hcp b3
  go_enter Try.func18, Try.ntmps18
  go_wp2
  go_ret2
  exact ⟨_, rfl, by rw [List.take_zero]; exact HN.out⟩

theorem RRead_c {lo : Nat} {p : At} {s : Dk} {w : World} (h : Rf lo p s w) (a n : Int) :
    Calls Try.prog 18 #[.pointer (some ⟨p.b, 0, none⟩), .int .i64 a, .int .i64 n] w fun e w' => ∃ v, e = .returned (.tuple #[v, .int .i64 (dRead s a n).2]) ∧ Nw w w' v (dRead s a n).1 := by
  unfold dRead
  cases ho : s.off with
  | true =>
    rw [if_pos rfl]
    refine (RRead_down h a n ho).mono ?_
    rintro e w' ⟨rfl, rfl⟩
    exact ⟨_, rfl, Nw.nil _⟩
  | false =>
    rw [if_neg Bool.false_ne_true]
    by_cases hf : fits s a n
    · rw [if_pos hf]
      have hf' := hf
      unfold fits at hf'
      obtain ⟨a, rfl⟩ := Int.eq_ofNat_of_zero_le hf'.1
      obtain ⟨n, rfl⟩ := Int.eq_ofNat_of_zero_le hf'.2.1
      by_cases hga : p.gc = a
      · exact RRead_edge h a n ho (by omega) hga
      · exact RRead_ok h a n ho (by omega) hga
    · rw [if_neg hf]
      refine (RRead_arg h a n ho hf).mono ?_
      rintro e w' ⟨rfl, rfl⟩
      exact ⟨_, rfl, Nw.nil _⟩
end Go.Proofs.Ytiafndcpggngoaa
