/- The document's own In and Numbered, walked. -/
import Derived.Test.YtjdpbieifcjmiaaRc
namespace Go.Proofs.Ytjdpbieifcjmiaa
set_option maxRecDepth 20000
open Go.RowKit Pm

theorem inB_false {l q : Bs} (h : (split l).isSome = false ∨ (split q).isSome = false) : inB l q = false := by
  unfold inB
  cases h1 : split l with
  | none => rfl
  | some a => cases h2 : split q with
    | none => rfl
    | some b => rw [h1, h2] at h; simp at h

set_option maxHeartbeats 1000000 in
theorem rIn_loop (l q : Bs) (w : World) (hl : sz l) (hq : sz q) (a b : List Bs) (hs : split l = some a) (ht : split q = some b) (hle : b.length ≤ a.length) :
    Calls Try.prog 40 #[.string (B l), .string (B q)] w fun e w' => e = .returned (.bool (b.isPrefixOf a)) ∧ Gr w w' := by
  have h6 := ((split_iff _ _).1 hs).1.1
  have h6' := ((split_iff _ _).1 ht).1.1
  have HS := Lib.hid hs; clear hs
  have HT := Lib.hid ht; clear ht
  go_enter Try.func40, Try.ntmps40
  go_wp2_with fail
  refine (rSplit_c l w hl).mono ?_
  rintro e w1 ⟨v, rfl, hown, hb⟩
  rw [HS.out] at hown ⊢
  have hown : Own w.heap.size w1 v a := hown
  obtain ⟨ao, cap, rfl⟩ := hown.shape
  go_wp2_with fail
  refine (rSplit_c q w1 hq).mono ?_
  rintro e w2 ⟨v2, rfl, hown2, hb2⟩
  rw [HT.out] at hown2 ⊢
  have hown2 : Own w1.heap.size w2 v2 b := hown2
  obtain ⟨ao2, cap2, rfl⟩ := hown2.shape
  have g2 : Gr w w2 := hb.trans (hb2.mono hb.size)
  have C1 := Lib.hid (fun w3 (g : Gr w1 w3) => hown.cells w3 g)
  have C2 := Lib.hid (fun w3 (g : Gr w2 w3) => hown2.cells w3 g)
  have g12 : Gr w1 w2 := hb2
  have n1 : ao = none → a.length = 0 := by
    intro h; subst h
    cases a with
    | nil => rfl
    | cons p r => obtain ⟨g, c, hv, _⟩ := hown.lies; cases hv
  have hr1 : a.length ≤ cap ∧ cap ≤ 9223372036854775807 := by
    cases a with
    | nil => have := hown.2 rfl; injection this with _ _ h; subst h; simp
    | cons p r => obtain ⟨g, c, hv, _, hli⟩ := hown.lies; injection hv with _ _ h; subst h; exact ⟨hli.room, hli.most⟩
  have hr2 : b.length ≤ cap2 ∧ cap2 ≤ 9223372036854775807 := by
    cases b with
    | nil => have := hown2.2 rfl; injection this with _ _ h; subst h; simp
    | cons p r => obtain ⟨g, c, hv, _, hli⟩ := hown2.lies; injection hv with _ _ h; subst h; exact ⟨hli.room, hli.most⟩
  obtain ⟨hr1, hm1⟩ := hr1
  obtain ⟨hr2, hm2⟩ := hr2
  clear hown hown2 hb hb2 n1
  go_wp2
  go_loopw [9] (fun i wr => ∃ k : Nat, k ≤ b.length ∧ i = .int .i64 k ∧ Dr w2 wr ∧ Hid (∀ j (h : j < b.length) (h' : j < a.length), j < k → b[j] = a[j])) (fun i _ => b.length - (intOf i).toNat)
  case atStart => exact ⟨0, Nat.zero_le _, rfl, Dr.refl _, fun j _ _ h => by omega⟩
  case round =>
    obtain ⟨k, hk, rfl, hd, hall⟩ := hrel
    have gd : Gr w wr := g2.trans (hd.below _)
    by_cases hlt : k < b.length
    · obtain ⟨x1, hx1, e1⟩ := C1.out wr (g12.trans (hd.below _)) k (by omega)
      obtain ⟨x2, hx2, e2⟩ := C2.out wr (hd.below _) k hlt
      subst hx1 hx2
      by_cases hbk : b[k] = a[k]
      · have hnx : Hid (∀ j (h : j < b.length) (h' : j < a.length), j < k + 1 → b[j] = a[j]) := fun j h h' hj => by
          by_cases e : j = k
          · subst e; exact hbk
          · exact hall j h h' (by omega)
        rw [hbk] at e2
        clear hall hbk
        generalize a[k] = x at e1 e2
        have hki : (k : Int) < (a.length : Int) := by omega
        have hkj : (k : Int) < (b.length : Int) := by omega
        go_wp2
        go_quiet (fail)
        go_wp2
        go_roundw
        case rel => exact ⟨k + 1, by omega, by go_num, hd.trans (Dr.of _ _), hnx⟩
        case measure => simp [intOf]; omega
      · have hno : b.isPrefixOf a = false := by
          rw [← Bool.not_eq_true, List.isPrefixOf_iff_prefix]
          intro h
          have := h.getElem hlt
          exact hbk this
        have HN := Lib.hid hno; clear hno hall
        generalize a[k] = x at e1 hbk
        generalize b[k] = y at e2 hbk
        have hxy : (y == x) = false := by rw [beq_eq_false_iff_ne]; exact hbk
        have hki : (k : Int) < (a.length : Int) := by omega
        have hkj : (k : Int) < (b.length : Int) := by omega
        go_wp2
        go_quiet (fail)
        go_wp2
        go_ret
        exact ⟨ret_bool HN.out.symm, gd.drew _⟩
    · have hke : k = b.length := by omega
      subst hke
      have hyes : b.isPrefixOf a = true := by
        rw [List.isPrefixOf_iff_prefix, List.prefix_iff_eq_take]
        apply List.ext_getElem
        · simp; omega
        · intro j h1 h2
          rw [List.getElem_take]
          exact hall j h1 (by omega) h1
      have HY := Lib.hid hyes; clear hyes hall
      go_wp2
      go_ret
      exact ⟨ret_bool HY.out.symm, gd⟩

set_option maxHeartbeats 1000000 in
theorem rIn_no (l q : Bs) (w : World) (hl : sz l) (hq : sz q) (b1 b2 : Bool) (hs : (split l).isSome = b1) (ht : (split q).isSome = b2) (hn : b1 = false ∨ b2 = false) :
    Calls Try.prog 40 #[.string (B l), .string (B q)] w fun e w' => e = .returned (.bool false) ∧ Gr w w' := by
  have HS := Lib.hid hs; clear hs
  have HT := Lib.hid ht; clear ht
  go_enter Try.func40, Try.ntmps40
  go_wp2_with fail
  refine (rSplit_c l w hl).mono ?_
  rintro e w1 ⟨v, rfl, hown, hb⟩
  rw [HS.out]
  go_wp2_with fail
  refine (rSplit_c q w1 hq).mono ?_
  rintro e w2 ⟨v2, rfl, hown2, hb2⟩
  rw [HT.out]
  have g2 : Gr w w2 := hb.trans (hb2.mono hb.size)
  clear hown hown2 hb hb2
  cases b1 with
  | false =>
    go_wp2
    go_ret
    exact ⟨rfl, g2⟩
  | true =>
    have hb2 : b2 = false := by rcases hn with h | h; cases h; exact h
    subst hb2
    go_wp2
    go_ret
    exact ⟨rfl, g2⟩

set_option maxHeartbeats 1000000 in
theorem rIn_long (l q : Bs) (w : World) (hl : sz l) (hq : sz q) (a b : List Bs) (hs : split l = some a) (ht : split q = some b) (hle : a.length < b.length) :
    Calls Try.prog 40 #[.string (B l), .string (B q)] w fun e w' => e = .returned (.bool false) ∧ Gr w w' := by
  have h6 := ((split_iff _ _).1 hs).1.1
  have h6' := ((split_iff _ _).1 ht).1.1
  have HS := Lib.hid hs; clear hs
  have HT := Lib.hid ht; clear ht
  go_enter Try.func40, Try.ntmps40
  go_wp2_with fail
  refine (rSplit_c l w hl).mono ?_
  rintro e w1 ⟨v, rfl, hown, hb⟩
  rw [HS.out] at hown ⊢
  have hown : Own w.heap.size w1 v a := hown
  obtain ⟨ao, cap, rfl⟩ := hown.shape
  go_wp2_with fail
  refine (rSplit_c q w1 hq).mono ?_
  rintro e w2 ⟨v2, rfl, hown2, hb2⟩
  rw [HT.out] at hown2 ⊢
  have hown2 : Own w1.heap.size w2 v2 b := hown2
  obtain ⟨ao2, cap2, rfl⟩ := hown2.shape
  have g2 : Gr w w2 := hb.trans (hb2.mono hb.size)
  clear hown hown2 hb hb2
  go_wp2
  go_ret
  exact ⟨rfl, g2⟩

theorem rIn_g (l q : Bs) (w : World) (hl : sz l) (hq : sz q) :
    Calls Try.prog 40 #[.string (B l), .string (B q)] w fun e w' => e = .returned (.bool (inB l q)) ∧ Gr w w' := by
  cases hs : split l with
  | none =>
    rw [inB_false (Or.inl (by rw [hs]; rfl))]
    exact rIn_no l q w hl hq false _ (by rw [hs]; rfl) rfl (Or.inl rfl)
  | some a =>
    cases ht : split q with
    | none =>
      rw [inB_false (Or.inr (by rw [ht]; rfl))]
      exact rIn_no l q w hl hq _ false rfl (by rw [ht]; rfl) (Or.inr rfl)
    | some b =>
      have e : inB l q = b.isPrefixOf a := by unfold inB; rw [hs, ht]
      rw [e]
      by_cases hle : b.length ≤ a.length
      · exact rIn_loop l q w hl hq a b hs ht hle
      · have hno : b.isPrefixOf a = false := by
          rw [← Bool.not_eq_true, List.isPrefixOf_iff_prefix]; intro h; exact hle h.length_le
        rw [hno]; exact rIn_long l q w hl hq a b hs ht (by omega)

end Go.Proofs.Ytjdpbieifcjmiaa
