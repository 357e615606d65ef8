/- The document's own reader: contracts over plain lists. -/
import Derived.Test.YtidkihadlhkbkaaRd
namespace Go.Proofs.Ytidkihadlhkbkaa
open Go.RowKit Pm

abbrev TQ : TypeId := 51

/-- The document's reader: what is left, and the error. -/
structure Rq (lo b : Nat) (v : Value) (s : St) (w : World) : Prop where
  low : lo ≤ b
  blk : w.heap[b]? = some (.cells #[v, .int .i64 s.2] TQ (0, 0))
  sl : Sl w v s.1
  apart : ∀ k, v.ownBlock = some k → lo ≤ k ∧ k ≠ b

def RqStep (lo b : Nat) (v : Value) (s : St) (w w' : World) : Prop := ∃ v', Rq lo b v' s w' ∧ Fp (fun k => k = b) w w' ∧ ∀ k, v'.ownBlock = some k → v.ownBlock = some k

theorem Rq.lt {lo b : Nat} {v : Value} {s : St} {w : World} (h : Rq lo b v s w) : b < w.heap.size := (Array.getElem?_eq_some_iff.1 h.blk).1
theorem Rq.cell0 {lo b : Nat} {v : Value} {s : St} {w : World} (h : Rq lo b v s w) : w.cell? ⟨b, 0, none⟩ = some v := by simp [World.cell?, h.blk]
theorem Rq.cell1 {lo b : Nat} {v : Value} {s : St} {w : World} (h : Rq lo b v s w) : w.cell? ⟨b, 1, none⟩ = some (.int .i64 s.2) := by simp [World.cell?, h.blk]
theorem Rq.free {lo b : Nat} {v : Value} {s : St} {w : World} (h : Rq lo b v s w) : w.frozen? ⟨b, 0, none⟩ = false ∧ w.frozen? ⟨b, 1, none⟩ = false := by
  have := h.blk; constructor <;> simp [World.frozen?, this]
theorem Rq.keep {lo b : Nat} {v : Value} {s : St} {w w' : World} (h : Rq lo b v s w) {S : Nat → Prop} (f : Fp S w w') (hS : ∀ k, own2 b v k → ¬ S k) : Rq lo b v s w' :=
  ⟨h.low, f.heap h.blk (hS b (.inl rfl)), h.sl.keep f (fun k hk => hS k (.inr hk)), h.apart⟩
theorem RqStep.refl {lo b : Nat} {v : Value} {s : St} {w : World} (h : Rq lo b v s w) : RqStep lo b v s w w := ⟨v, h, Fp.refl _ _, fun _ h => h⟩

theorem Rq.put0 {lo b : Nat} {v v' : Value} {s : St} {l : Bs} {w : World} (h : Rq lo b v s w) (hs : Sl w v' l) (hv : ∀ k, v'.ownBlock = some k → v.ownBlock = some k) : Rq lo b v' (l, s.2) (w.setCell ⟨b, 0, none⟩ v') := by
  have hf : Fp (fun k => k = b) w (w.setCell ⟨b, 0, none⟩ v') := (Fp.refl (fun k => k = b) w).setCell (p := ⟨b, 0, none⟩) (.inl rfl) _
  refine ⟨h.low, by have := h.blk; simp [World.setCell, Array.getElem?_modify, this], hs.keep hf (fun k hk => (h.apart k (hv k hk)).2), fun k hk => h.apart k (hv k hk)⟩
theorem Rq.put1 {lo b : Nat} {v : Value} {s : St} {w : World} (h : Rq lo b v s w) (e : Int) : Rq lo b v (s.1, e) (w.setCell ⟨b, 1, none⟩ (.int .i64 e)) := by
  have hf : Fp (fun k => k = b) w (w.setCell ⟨b, 1, none⟩ (.int .i64 e)) := (Fp.refl (fun k => k = b) w).setCell (p := ⟨b, 1, none⟩) (.inl rfl) _
  refine ⟨h.low, by have := h.blk; simp [World.setCell, Array.getElem?_modify, this], h.sl.keep hf (fun k hk => (h.apart k hk).2), h.apart⟩

/-- An error, where there was none. -/
theorem fail_c (lo b : Nat) (v : Value) (l : Bs) (er : Int) (w : World) (h : Rq lo b v (l, 0) w) :
    Calls Try.prog 35 #[.pointer (some ⟨b, 0, none⟩), .int .i64 er] w fun e w' => e = .returned (.tuple #[]) ∧ RqStep lo b v ([], er) w w' := by
  obtain ⟨f0, f1⟩ := h.free
  have c0 := h.cell0
  have c1 := h.cell1
  have hfin : RqStep lo b v ([], er) w ((w.setCell ⟨b, 1, none⟩ (.int .i64 er)).setCell ⟨b, 0, none⟩ (.slice none 0 0)) :=
    ⟨_, (h.put1 er).put0 (Sl.nil _) (fun k hk => by cases hk), ((Fp.refl (fun k => k = b) w).setCell (p := ⟨b, 1, none⟩) (.inl rfl) _).setCell (p := ⟨b, 0, none⟩) (.inl rfl) _, fun k hk => by cases hk⟩
  have HF := Lib.hid hfin; clear hfin h
  go_enter Try.func35, Try.ntmps35
  go_wp2
  go_end0
  exact ⟨rfl, HF.out⟩

/-- A slice from i on, of a slice of bytes. -/
theorem Sl.from {w : World} {g o len cap : Nat} {l : Bs} (h : Sl w (.slice (some ⟨g, o, none⟩) len cap) l) (i : Nat) (hi : i ≤ l.length) :
    ∃ p, (if cap = i then some (⟨g, o, none⟩ : Addr) else some ⟨g, o + i, none⟩) = some ⟨g, p, none⟩ ∧ Sl w (.slice (some ⟨g, p, none⟩) (l.length - i) (cap - i)) (l.drop i) := by
  obtain ⟨ao, cap', e, h1, h2, h3⟩ := h.ex
  injection e with e1 e2 e3
  subst e1 e2 e3
  rcases h3 with ⟨h3, _⟩ | ⟨g', o', e, hg, hc⟩
  · cases h3
  · injection e with e
    injection e with e1 e2
    subst e1 e2
    by_cases hci : cap = i
    · refine ⟨o, by rw [if_pos hci], ⟨_, _, by rw [List.length_drop], by rw [List.length_drop]; omega, by omega, .inr ⟨g, o, rfl, hg, fun j hj => ?_⟩⟩⟩
      rw [List.length_drop] at hj; omega
    · refine ⟨o + i, by rw [if_neg hci], ⟨_, _, by rw [List.length_drop], by rw [List.length_drop]; omega, by omega, .inr ⟨g, o + i, rfl, hg, fun j hj => ?_⟩⟩⟩
      rw [List.getElem_drop, Nat.add_assoc]
      exact hc (i + j) (by rw [List.length_drop] at hj; omega)

theorem head_128 (l : Bs) (h : 0 < l.length) : l.head? = some 128 ↔ l[0].toNat = 128 := by
  rw [List.head?_eq_getElem?, List.getElem?_eq_getElem h]
  constructor
  · intro h; rw [Option.some.inj h]; rfl
  · intro h'; rw [← UInt8.toNat_inj.1 (show l[0].toNat = (128 : UInt8).toNat from h')]
theorem nx_first (l : Bs) (most : Int) (h : 0 < l.length) (hc : l[0].toNat = 128) : nx l most = (3, 0, []) := by unfold nx; rw [if_pos (.inl ((head_128 l h).2 hc))]
theorem nx_seven (l : Bs) (most : Int) (h : lead 7 l = 7) : nx l most = (3, 0, []) := by unfold nx; rw [if_pos (.inr h)]
theorem nx_no (l : Bs) (k : Nat) (hk : k < 7) (hl : lead 7 l = k) (hc : ∀ h : 0 < l.length, l[0].toNat ≠ 128) : ¬ (l.head? = some 128 ∨ lead 7 l = 7) := by
  rintro (h | h)
  · rcases Nat.eq_zero_or_pos l.length with h0 | h0
    · rw [List.eq_nil_of_length_eq_zero h0] at h; cases h
    · exact hc h0 ((head_128 l h0).1 h)
  · omega
theorem nx_end (l : Bs) (most : Int) (k : Nat) (hk : k < 7) (hl : lead 7 l = k) (hc : ∀ h : 0 < l.length, l[0].toNat ≠ 128) (he : k = l.length) : nx l most = (21, 0, []) := by
  unfold nx; rw [if_neg (nx_no l k hk hl hc), if_pos (by omega)]
theorem nx_val (l : Bs) (most : Int) (k : Nat) (hk : k < 7) (hl : lead 7 l = k) (hc : ∀ h : 0 < l.length, l[0].toNat ≠ 128) (he : k < l.length) :
    nx l most = if M < val (l.take (k + 1)) ∨ most < (val (l.take (k + 1)) : Int) then (3, 0, []) else (0, val (l.take (k + 1)), l.drop (k + 1)) := by
  unfold nx; rw [if_neg (nx_no l k hk hl hc), if_neg (by omega), hl]

end Go.Proofs.Ytidkihadlhkbkaa
