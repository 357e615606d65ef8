/- The document's own In and Numbered, walked. -/
import Derived.Test.YtajgjhkienhpjaaRc
namespace Go.Proofs.Ytajgjhkienhpjaa
set_option maxRecDepth 20000
open Go.RowKit Pm

theorem inB_false {l q : Bs} (h : (split l).isSome = false ∨ (split q).isSome = false) : inB l q = false := by
  unfold inB
  cases h1 : split l with
  | none => rfl
  | some a => cases h2 : split q with
    | none => rfl
    | some b => rw [h1, h2] at h; simp at h

set_option maxHeartbeats 1000000 in
theorem rIn_loop (l q : Bs) (w : World) (hl : sz l) (hq : sz q) (a b : List Bs) (hs : split l = some a) (ht : split q = some b) (hle : b.length ≤ a.length) :
    Calls Try.prog 18 #[.string (B l), .string (B q)] w fun e w' => e = .returned (.bool (b.isPrefixOf a)) ∧ Gr w w' := by
  have h6 := ((split_iff _ _).1 hs).1.1
  have h6' := ((split_iff _ _).1 ht).1.1
  have HS := Lib.hid hs; clear hs
  have HT := Lib.hid ht; clear ht
  go_enter Try.func18, Try.ntmps18
  go_wp2_with fail
  refine (rSplit_c l w hl).mono ?_
  rintro e w1 ⟨v, rfl, hown, hb⟩
  rw [HS.out] at hown ⊢
  have hown : Own w.heap.size w1 v a := hown
  obtain ⟨ao, cap, rfl⟩ := hown.shape
  go_wp2_with fail
  refine (rSplit_c q w1 hq).mono ?_
  rintro e w2 ⟨v2, rfl, hown2, hb2⟩
  rw [HT.out] at hown2 ⊢
  have hown2 : Own w1.heap.size w2 v2 b := hown2
  obtain ⟨ao2, cap2, rfl⟩ := hown2.shape
  have g2 : Gr w w2 := hb.trans (hb2.mono hb.size)
  have C1 := Lib.hid (fun w3 (g : Gr w1 w3) => hown.cells w3 g)
  have C2 := Lib.hid (fun w3 (g : Gr w2 w3) => hown2.cells w3 g)
  have g12 : Gr w1 w2 := hb2
  have n1 : ao = none → a.length = 0 := by
    intro h; subst h
    cases a with
    | nil => rfl
    | cons p r => obtain ⟨g, c, hv, _⟩ := hown.lies; cases hv
  have hr1 : a.length ≤ cap ∧ cap ≤ 9223372036854775807 := by
    cases a with
    | nil => have := hown.2 rfl; injection this with _ _ h; subst h; simp
    | cons p r => obtain ⟨g, c, hv, _, hli⟩ := hown.lies; injection hv with _ _ h; subst h; exact ⟨hli.room, hli.most⟩
  have hr2 : b.length ≤ cap2 ∧ cap2 ≤ 9223372036854775807 := by
    cases b with
    | nil => have := hown2.2 rfl; injection this with _ _ h; subst h; simp
    | cons p r => obtain ⟨g, c, hv, _, hli⟩ := hown2.lies; injection hv with _ _ h; subst h; exact ⟨hli.room, hli.most⟩
  obtain ⟨hr1, hm1⟩ := hr1
  obtain ⟨hr2, hm2⟩ := hr2
  clear hown hown2 hb hb2 n1
  go_wp2
  go_loopw [9] (fun i wr => ∃ k : Nat, k ≤ b.length ∧ i = .int .i64 k ∧ Dr w2 wr ∧ Hid (∀ j (h : j < b.length) (h' : j < a.length), j < k → b[j] = a[j])) (fun i _ => b.length - (intOf i).toNat)
  case atStart => exact ⟨0, Nat.zero_le _, rfl, Dr.refl _, fun j _ _ h => by omega⟩
  case round =>
    obtain ⟨k, hk, rfl, hd, hall⟩ := hrel
    have gd : Gr w wr := g2.trans (hd.below _)
    by_cases hlt : k < b.length
    · obtain ⟨x1, hx1, e1⟩ := C1.out wr (g12.trans (hd.below _)) k (by omega)
      obtain ⟨x2, hx2, e2⟩ := C2.out wr (hd.below _) k hlt
      subst hx1 hx2
      by_cases hbk : b[k] = a[k]
      · have hnx : Hid (∀ j (h : j < b.length) (h' : j < a.length), j < k + 1 → b[j] = a[j]) := fun j h h' hj => by
          by_cases e : j = k
          · subst e; exact hbk
          · exact hall j h h' (by omega)
        rw [hbk] at e2
        clear hall hbk
        generalize a[k] = x at e1 e2
        have hki : (k : Int) < (a.length : Int) := by omega
        have hkj : (k : Int) < (b.length : Int) := by omega
        go_wp2
        go_quiet (fail)
        go_wp2
        go_roundw
        case rel => exact ⟨k + 1, by omega, by go_num, hd.trans (Dr.of _ _), hnx⟩
        case measure => simp [intOf]; omega
      · have hno : b.isPrefixOf a = false := by
          rw [← Bool.not_eq_true, List.isPrefixOf_iff_prefix]
          intro h
          have := h.getElem hlt
          exact hbk this
        have HN := Lib.hid hno; clear hno hall
        generalize a[k] = x at e1 hbk
        generalize b[k] = y at e2 hbk
        have hxy : (y == x) = false := by rw [beq_eq_false_iff_ne]; exact hbk
        have hki : (k : Int) < (a.length : Int) := by omega
        have hkj : (k : Int) < (b.length : Int) := by omega
        go_wp2
        go_quiet (fail)
        go_wp2
        go_ret
        exact ⟨ret_bool HN.out.symm, gd.drew _⟩
    · have hke : k = b.length := by omega
      subst hke
      have hyes : b.isPrefixOf a = true := by
        rw [List.isPrefixOf_iff_prefix, List.prefix_iff_eq_take]
        apply List.ext_getElem
        · simp; omega
        · intro j h1 h2
          rw [List.getElem_take]
          exact hall j h1 (by omega) h1
      have HY := Lib.hid hyes; clear hyes hall
      go_wp2
      go_ret
      exact ⟨ret_bool HY.out.symm, gd⟩

set_option maxHeartbeats 1000000 in
theorem rIn_no (l q : Bs) (w : World) (hl : sz l) (hq : sz q) (b1 b2 : Bool) (hs : (split l).isSome = b1) (ht : (split q).isSome = b2) (hn : b1 = false ∨ b2 = false) :
    Calls Try.prog 18 #[.string (B l), .string (B q)] w fun e w' => e = .returned (.bool false) ∧ Gr w w' := by
  have HS := Lib.hid hs; clear hs
  have HT := Lib.hid ht; clear ht
  go_enter Try.func18, Try.ntmps18
  go_wp2_with fail
  refine (rSplit_c l w hl).mono ?_
  rintro e w1 ⟨v, rfl, hown, hb⟩
  rw [HS.out]
  go_wp2_with fail
  refine (rSplit_c q w1 hq).mono ?_
  rintro e w2 ⟨v2, rfl, hown2, hb2⟩
  rw [HT.out]
  have g2 : Gr w w2 := hb.trans (hb2.mono hb.size)
  clear hown hown2 hb hb2
  cases b1 with
  | false =>
    go_wp2
    go_ret
    exact ⟨rfl, g2⟩
  | true =>
    have hb2 : b2 = false := by rcases hn with h | h; cases h; exact h
    subst hb2
    go_wp2
    go_ret
    exact ⟨rfl, g2⟩

set_option maxHeartbeats 1000000 in
theorem rIn_long (l q : Bs) (w : World) (hl : sz l) (hq : sz q) (a b : List Bs) (hs : split l = some a) (ht : split q = some b) (hle : a.length < b.length) :
    Calls Try.prog 18 #[.string (B l), .string (B q)] w fun e w' => e = .returned (.bool false) ∧ Gr w w' := by
  have h6 := ((split_iff _ _).1 hs).1.1
  have h6' := ((split_iff _ _).1 ht).1.1
  have HS := Lib.hid hs; clear hs
  have HT := Lib.hid ht; clear ht
  go_enter Try.func18, Try.ntmps18
  go_wp2_with fail
  refine (rSplit_c l w hl).mono ?_
  rintro e w1 ⟨v, rfl, hown, hb⟩
  rw [HS.out] at hown ⊢
  have hown : Own w.heap.size w1 v a := hown
  obtain ⟨ao, cap, rfl⟩ := hown.shape
  go_wp2_with fail
  refine (rSplit_c q w1 hq).mono ?_
  rintro e w2 ⟨v2, rfl, hown2, hb2⟩
  rw [HT.out] at hown2 ⊢
  have hown2 : Own w1.heap.size w2 v2 b := hown2
  obtain ⟨ao2, cap2, rfl⟩ := hown2.shape
  have g2 : Gr w w2 := hb.trans (hb2.mono hb.size)
  clear hown hown2 hb hb2
  go_wp2
  go_ret
  exact ⟨rfl, g2⟩

theorem rIn_g (l q : Bs) (w : World) (hl : sz l) (hq : sz q) :
    Calls Try.prog 18 #[.string (B l), .string (B q)] w fun e w' => e = .returned (.bool (inB l q)) ∧ Gr w w' := by
  cases hs : split l with
  | none =>
    rw [inB_false (Or.inl (by rw [hs]; rfl))]
    exact rIn_no l q w hl hq false _ (by rw [hs]; rfl) rfl (Or.inl rfl)
  | some a =>
    cases ht : split q with
    | none =>
      rw [inB_false (Or.inr (by rw [ht]; rfl))]
      exact rIn_no l q w hl hq _ false rfl (by rw [ht]; rfl) (Or.inr rfl)
    | some b =>
      have e : inB l q = b.isPrefixOf a := by unfold inB; rw [hs, ht]
      rw [e]
      by_cases hle : b.length ≤ a.length
      · exact rIn_loop l q w hl hq a b hs ht hle
      · have hno : b.isPrefixOf a = false := by
          rw [← Bool.not_eq_true, List.isPrefixOf_iff_prefix]; intro h; exact hle h.length_le
        rw [hno]; exact rIn_long l q w hl hq a b hs ht (by omega)

set_option maxHeartbeats 1000000 in
theorem rNumbered_no (p : Bs) (n : Int) (w : World) (h : n < 0 ∨ 9999 < n) :
    Calls Try.prog 19 #[.string (B p), .int .i64 n] w fun e w' => e = .returned (.tuple #[.string (B []), .bool false]) ∧ Gr w w' := by
  by_cases h1 : n < 0
  · clear h
    go_enter Try.func19, Try.ntmps19
    go_wp2
    go_ret2
    exact ⟨rfl, Gr.refl _⟩
  · have h2 := h.resolve_left h1
    clear h
    go_enter Try.func19, Try.ntmps19
    go_wp2
    go_ret2
    exact ⟨rfl, Gr.refl _⟩

set_option maxHeartbeats 1000000 in
theorem rNumbered_yes (p : Bs) (k : Nat) (w : World) (hp : p.length ≤ 1000000) (hk : k ≤ 9999) :
    Calls Try.prog 19 #[.string (B p), .int .i64 k] w fun e w' => e = .returned (.tuple #[.string (B ((numbered p k).getD [])), .bool (numbered p k).isSome]) ∧ Gr w w' := by
  have h0 : (0 : Int) ≤ (k : Int) := by omega
  have h9 : (k : Int) ≤ 9999 := by omega
  have hdata : strOfNums [48 + (k : Int) / 1000, 48 + (k : Int) / 100 % 10, 48 + (k : Int) / 10 % 10, 48 + (k : Int) % 10] = B (dig k) := by
    apply ByteArray.ext; apply Array.toList_inj.1
    rw [strOfNums_data]
    show _ = dig k
    unfold dig
    simp only [List.map_cons, List.map_nil]
    rw [show (48 + (k : Int) / 1000).toNat = 48 + k / 1000 by omega, show (48 + (k : Int) / 100 % 10).toNat = 48 + k / 100 % 10 by omega,
      show (48 + (k : Int) / 10 % 10).toNat = 48 + k / 10 % 10 by omega, show (48 + (k : Int) % 10).toNat = 48 + k % 10 by omega]
  have hconv : (convert 35 9 (.slice (some ⟨w.heap.size, 0, none⟩) 4 4)).run Try.prog (w.alloc (.cells #[.int .u8 (48 + (k : Int) / 1000), .int .u8 (48 + (k : Int) / 100 % 10), .int .u8 (48 + (k : Int) / 10 % 10), .int .u8 (48 + (k : Int) % 10)] 5)) = .ok (.string (B (dig k))) (w.alloc (.cells #[.int .u8 (48 + (k : Int) / 1000), .int .u8 (48 + (k : Int) / 100 % 10), .int .u8 (48 + (k : Int) / 10 % 10), .int .u8 (48 + (k : Int) % 10)] 5)) := by
    rw [← hdata]
    refine run_convert_bytes_arg (P := Try.prog) _ 35 5 Try.underlying35 Try.underlying5 w.heap.size 0 4 4 [48 + (k : Int) / 1000, 48 + (k : Int) / 100 % 10, 48 + (k : Int) / 10 % 10, 48 + (k : Int) % 10] rfl ?_ 9 Try.underlying9
    intro i hi
    rcases i with _ | _ | _ | _ | i
    · simp
    · simp
    · simp
    · simp
    · omega
  have hdl : (dig k).length = 4 := rfl
  have hb : Gr w (w.alloc (.cells #[.int .u8 (48 + (k : Int) / 1000), .int .u8 (48 + (k : Int) / 100 % 10), .int .u8 (48 + (k : Int) / 10 % 10), .int .u8 (48 + (k : Int) % 10)] 5)) := Below.alloc (Below.refl _ w) (Nat.le_refl _) _
  have HD := Lib.hid hdl
  have hpl : (p ++ dig k).length ≤ 4611686018427387904 := by simp [hdl]; omega
  have h4 : (dig k).length ≤ 4 := by omega
  clear hdata hdl
  generalize hx : dig k = x at hconv hpl h4 HD
  cases hpart : isPart (p ++ x) with
  | false =>
    have hnum : numbered p k = none := by
      unfold numbered; rw [if_neg]; rintro ⟨_, _, h⟩; rw [Int.toNat_natCast, hx, hpart] at h; cases h
    rw [hnum]
    have HP := Lib.hid (fun w => rPart_at (p ++ x) false w hpl hpart); clear hpart hnum hx
    go_enter Try.func19, Try.ntmps19
    go_wp2_with fail
    refine (HP.out _).mono ?_
    rintro e w1 ⟨rfl, rfl⟩
    go_wp2
    go_ret2
    exact ⟨rfl, hb⟩
  | true =>
    have hnum : numbered p k = some (p ++ x) := by
      unfold numbered; rw [if_pos]
      · rw [Int.toNat_natCast, hx]
      · exact ⟨h0, h9, by rw [Int.toNat_natCast, hx]; exact hpart⟩
    rw [hnum]
    have HP := Lib.hid (fun w => rPart_at (p ++ x) true w hpl hpart); clear hpart hnum hx
    go_enter Try.func19, Try.ntmps19
    go_wp2_with fail
    refine (HP.out _).mono ?_
    rintro e w1 ⟨rfl, rfl⟩
    go_wp2
    go_ret2
    exact ⟨rfl, hb⟩

theorem rNumbered_g (p : Bs) (n : Int) (w : World) (hp : p.length ≤ 1000000) :
    Calls Try.prog 19 #[.string (B p), .int .i64 n] w fun e w' => e = .returned (.tuple #[.string (B ((numbered p n).getD [])), .bool (numbered p n).isSome]) ∧ Gr w w' := by
  by_cases h : n < 0 ∨ 9999 < n
  · have hnum : numbered p n = none := by unfold numbered; rw [if_neg]; omega
    rw [hnum]; exact rNumbered_no p n w h
  · obtain ⟨k, rfl⟩ := Int.eq_ofNat_of_zero_le (show 0 ≤ n by omega)
    exact rNumbered_yes p k w hp (by omega)
end Go.Proofs.Ytajgjhkienhpjaa
