/- Plain: OwnedMoves: of two that keep ranges one keeps a prefix, and hands it to the other one. -/
import Derived.Test.YtcjpgenlhphapaaOx
namespace Go.Proofs.Ytcjpgenlhphapaa
set_option maxRecDepth 20000
set_option linter.unusedVariables false
set_option linter.unusedSimpArgs false
open Go.RowKit Pm

/-- Ahead of round i: A keeps it, B does not. -/
structure MvI (p : Bs) (i : Nat) (A B : List Hl) : Prop where
  ra : RtH A
  rb : RtH B
  la : A.length ≤ i + 1
  lb : B.length ≤ i + 1
  pa : ∃ y, pick A p = some y ∧ y.a = 1 ∧ y.t = (i : Int) + 1
  sb : stR B p = 3
  gb : ∀ y, getH B p = some y → y.t ≤ (i : Int) + 1
theorem root_rt (a : Int) (ha : 1 ≤ a ∧ a ≤ 3) : RtH [⟨[47], 1, a⟩] :=
  ⟨by simp, fun x hx => by
    simp only [List.mem_singleton] at hx
    subst hx
    exact okH_of (by decide) ⟨by omega, by unfold mxN; omega⟩ ha, List.pairwise_singleton _ _⟩
theorem root_pick {p : Bs} (hp : okP p = true) (a : Int) (ha : 1 ≤ a ∧ a ≤ 3) : pick [⟨[47], 1, a⟩] p = some ⟨[47], 1, a⟩ := by
  obtain ⟨ps, hps⟩ := Option.isSome_iff_exists.1 hp
  rw [pick_filter (root_rt a ha)]
  simp [in_root hps]
theorem mv_start {p : Bs} (hp : okP p = true) : MvI p 0 [⟨[47], 1, 1⟩] [⟨[47], 1, 3⟩] :=
  ⟨root_rt 1 (by omega), root_rt 3 (by omega), by simp, by simp, ⟨_, root_pick hp 1 (by omega), rfl, rfl⟩, by unfold stR; rw [root_pick hp 3 (by omega)],
    fun y hy => by
      have := (getH_some hy).1
      simp only [List.mem_singleton] at this
      subst this; simp⟩
structure MvS (p : Bs) (i : Nat) (A B a b c : List Hl) : Prop where
  fa : frz A p = some a
  fb : inst B p ((i : Int) + 2) = some b
  fc : drp a p ((i : Int) + 1) = some c
  ra : RtH a
  rb : RtH b
  rc : RtH c
  sa : stR a p = 2
  sb : stR b p = 1
  sc : stR c p = 3
  nx : MvI p (i + 1) b c
theorem mv_step {p : Bs} (hp : okP p = true) {i : Nat} {A B : List Hl} (h : MvI p i A B) (hi : i < 20) : ∃ a b c, MvS p i A B a b c := by
  obtain ⟨y, hy, hya, hyt⟩ := h.pa
  have hA : A.length < 32 := by have := h.la; omega
  have hB : B.length < 32 := by have := h.lb; omega
  have hb1 : (0 : Int) ≤ (i : Int) + 1 ∧ (i : Int) + 1 ≤ mxN := ⟨by omega, by unfold mxN; omega⟩
  have hb2 : (0 : Int) ≤ (i : Int) + 2 ∧ (i : Int) + 2 ≤ mxN := ⟨by omega, by unfold mxN; omega⟩
  have Pa : Put A ⟨p, (i : Int) + 1, 2⟩ := put_of h.ra (okH_of hp hb1 (by omega)) (.inr hA)
  have Pb : Put B ⟨p, (i : Int) + 2, 1⟩ := put_of h.rb (okH_of hp hb2 (by omega)) (.inr hB)
  have hsa : (getH (putH A ⟨p, (i : Int) + 1, 2⟩) p).isSome = true := by rw [Pa.gt]; rfl
  have Pc : Put (putH A ⟨p, (i : Int) + 1, 2⟩) ⟨p, (i : Int) + 1, 3⟩ := put_of Pa.rt (okH_of hp hb1 (by omega)) (.inl hsa)
  have hma : (⟨p, (i : Int) + 1, 2⟩ : Hl) ∈ putH A ⟨p, (i : Int) + 1, 2⟩ := (mem_put h.ra.up).2 (.inl rfl)
  refine ⟨_, _, _, ?_, ?_, ?_, Pa.rt, Pb.rt, Pc.rt, Pa.st, Pb.st, Pc.st, ?_⟩
  · unfold frz withR
    rw [hy]
    simp only [hya, hyt, if_true]
    rw [if_pos (.inr hA)]
  · refine inst_yes h.rb hp hb2 ?_ (.inr hB)
    unfold mayI
    cases e : getH B p with
    | none => rfl
    | some z =>
      have := h.gb z e
      simp only [decide_eq_true_eq]; omega
  · unfold drp withR; rw [if_pos ⟨(right_iff _).2 Pa.rt, hma⟩, if_pos (.inl hsa)]
  · refine ⟨Pb.rt, Pc.rt, ?_, ?_, ⟨_, Pb.pk, rfl, by push_cast; omega⟩, Pc.st, fun z hz => ?_⟩
    · rw [len_put h.rb.up]; have := h.lb; split <;> omega
    · rw [len_put Pa.rt.up, if_pos hsa, len_put h.ra.up]; have := h.la; split <;> omega
    · have := Pc.gt
      simp only at this
      rw [this] at hz
      injection hz with hz
      rw [← hz]; push_cast; omega

/-- A store into a block of slices leaves ranges as they lay. -/
theorem NsH.set {w : World} {v : Value} {l : List Hl} {G : Nat} {x0 x1 : Option Addr × Nat × Nat} (h : NsH w v l) (hG : w.heap[G]? = some (.cells #[.slice x0.1 x0.2.1 x0.2.2, .slice x1.1 x1.2.1 x1.2.2] TLH (0, 0))) (j : Nat) (u : Value) : NsH (w.setCell ⟨G, j, none⟩ u) v l := by
  obtain ⟨ao, cap, rfl, h1, h2, h3⟩ := h.ex
  refine ⟨ao, cap, rfl, h1, h2, ?_⟩
  rcases h3 with h3 | ⟨g, o, rfl, hg, hc⟩
  · exact .inl h3
  · by_cases e : g = G
    · subst e
      cases l with
      | nil => exact .inl rfl
      | cons x l =>
        exfalso
        have := (hc 0 (by simp)).c0
        rw [cell_of_row _ _ _ _ _ _ hG] at this
        simp only [Nat.zero_mul, Nat.add_zero, List.getElem_cons_zero, strV] at this
        match o, this with
        | 0, this => cases this
        | 1, this => cases this
        | o + 2, this => simp at this
    · exact .inr ⟨g, o, rfl, by simpa [World.setCell] using hg, fun i hi => (hc i hi).keep (st_fp w G j u) e⟩
end Go.Proofs.Ytcjpgenlhphapaa
