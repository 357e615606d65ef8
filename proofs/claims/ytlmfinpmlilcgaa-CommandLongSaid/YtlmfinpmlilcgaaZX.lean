/- Texts of this proof, merged. -/
import Derived.Test.YtlmfinpmlilcgaaZU
import Derived.Test.YtlmfinpmlilcgaaZV
import Derived.Test.YtlmfinpmlilcgaaZW
import Derived.Test.YtlmfinpmlilcgaaZJ
import Derived.Test.YtlmfinpmlilcgaaZN
set_option linter.unusedVariables false
set_option linter.unusedSimpArgs false
/- Get: its contract. (gen_gp.py) -/
namespace Go.Proofs.Ytlmfinpmlilcgaa
set_option maxRecDepth 20000
set_option linter.unusedVariables false
set_option linter.unusedSimpArgs false
open Go.RowKit Pm

theorem Get_c (v : Value) (bs : Bs) (w : World) (hv : Sl w v bs) (hl : bs.length ≤ 1000000) :
    Calls Try.prog 11 #[v] w fun e w' => ∃ vc, e = .returned (.tuple #[vc, .int .i64 (getC bs).2]) ∧ CdW w' vc (getC bs).1 ∧ Fp Non w w' := by
  by_cases h1 : stE (rCd (bs, 0)).2 = true
  · by_cases h2 : CdR (rCd (bs, 0)).1
    · exact Get_ok v bs w hv hl h1 h2
    · exact Get_bad v bs w hv hl h1 h2
  · exact Get_end v bs w hv hl (by simpa using h1)
end Go.Proofs.Ytlmfinpmlilcgaa

/- A writer, and what stays while it writes: numbers, texts, flags. -/
namespace Go.Proofs.Ytlmfinpmlilcgaa
set_option maxRecDepth 20000
set_option linter.unusedVariables false
set_option linter.unusedSimpArgs false
open Go.RowKit Pm

/-- A writer in block b, to whom the blocks of P do not belong. -/
structure Ww (P : Nat → Prop) (b : Nat) (l : Bs) (w : World) : Prop where
  ex : ∃ lo v, Wr TW lo b v l false w ∧ ∀ k, P k → k < w.heap.size ∧ k ≠ b ∧ v.ownBlock ≠ some k
structure WwS (P : Nat → Prop) (b : Nat) (l : Bs) (w w' : World) : Prop where
  is : Ww P b l w'
  fp : Fp (fun k => ¬ P k) w w'
theorem Ww.of {P : Nat → Prop} {b : Nat} {l' : Bs} {w w' : World} {lo : Nat} {v : Value} (hP : ∀ k, P k → k < w.heap.size ∧ k ≠ b ∧ v.ownBlock ≠ some k) (h : WrStep TW lo b v l' false w w') : WwS P b l' w w' := by
  obtain ⟨v', h1, h2, h3⟩ := h
  have hs := h2.size
  refine ⟨⟨lo, v', h1, fun k hk => ?_⟩, h2.mono (fun k hk hp => ?_)⟩
  · obtain ⟨g1, g2, g3⟩ := hP k hk
    refine ⟨by omega, g2, fun e => ?_⟩
    rcases h3 k e with e | e
    · exact g3 e
    · omega
  · obtain ⟨g1, g2, g3⟩ := hP k hp
    rcases hk with e | e
    · exact g2 e
    · exact g3 e
theorem WwS.trans {P : Nat → Prop} {b : Nat} {l l' : Bs} {w w1 w2 : World} (h : WwS P b l w w1) (g : WwS P b l' w1 w2) : WwS P b l' w w2 := ⟨g.is, h.fp.same g.fp⟩
theorem WwS.eq {P : Nat → Prop} {b : Nat} {l l' : Bs} {w w1 : World} (h : WwS P b l w w1) (e : l = l') : WwS P b l' w w1 := by rw [← e]; exact h
/-- A block more. -/
abbrev Px (P : Nat → Prop) (n : Nat) : Nat → Prop := fun k => P k ∨ k = n
theorem Ww.alloc {P : Nat → Prop} {b : Nat} {l : Bs} {w : World} (h : Ww P b l w) (o : Obj) : Ww (Px P w.heap.size) b l (w.alloc o) := by
  obtain ⟨lo, v, h1, h2⟩ := h.ex
  refine ⟨lo, v, h1.keep (fp_alloc w o) (fun _ _ h => h), fun k hk => ?_⟩
  have hs : (w.alloc o).heap.size = w.heap.size + 1 := by simp
  rcases hk with hk | rfl
  · obtain ⟨g1, g2, g3⟩ := h2 k hk
    exact ⟨by omega, g2, g3⟩
  · refine ⟨by omega, fun e => ?_, fun e => ?_⟩
    · have := h1.lt; omega
    · have := (h1.all _ (.inr e)).2; omega
theorem Ww.sub {P Q : Nat → Prop} {b : Nat} {l : Bs} {w : World} (h : Ww P b l w) (k : ∀ i, Q i → P i) : Ww Q b l w := by
  obtain ⟨lo, v, h1, h2⟩ := h.ex
  exact ⟨lo, v, h1, fun i hi => h2 i (k i hi)⟩
/-- Behind a step with a block more. -/
theorem WwS.back {P : Nat → Prop} {b : Nat} {l : Bs} {w w' : World} {o : Obj} (h : WwS (Px P w.heap.size) b l (w.alloc o) w') : WwS P b l w w' :=
  ⟨h.is.sub (fun _ h => .inl h), ((fp_alloc w o).any).trans h.fp (fun k hk => .inl (fun hp => hk (.inl hp)))⟩
theorem Ww.drew {P : Nat → Prop} {b : Nat} {l : Bs} {w : World} (h : Ww P b l w) (n : Nat) : Ww P b l (w.drewN n) := by
  obtain ⟨lo, v, h1, h2⟩ := h.ex
  exact ⟨lo, v, h1.keep ((Fp.refl Non w).drewN n) (fun _ _ h => h), h2⟩

theorem Num_w (P : Nat → Prop) (b : Nat) (l : Bs) (n : Int) (w : World) (h : Ww P b l w) (hn : num n) (hl : l.length ≤ 40000000) :
    Calls Try.prog 56 #[.pointer (some ⟨b, 0, none⟩), .int .i64 n] w fun e w' => e = .returned (.tuple #[]) ∧ WwS P b (l ++ encI n) w w' := by
  obtain ⟨lo, v, h1, h2⟩ := h.ex
  unfold num at hn
  have := Num_ok lo b v l false n.toNat w h1 (by unfold M; omega) (by omega)
  rw [Int.toNat_of_nonneg hn.1] at this
  exact this.mono fun e w' h => ⟨h.1, Ww.of h2 h.2⟩
theorem Text_w (P : Nat → Prop) (b : Nat) (l s : Bs) (w : World) (h : Ww P b l w) (hl : l.length + s.length ≤ 40000000) :
    Calls Try.prog 34 #[.pointer (some ⟨b, 0, none⟩), .string (B s)] w fun e w' => e = .returned (.tuple #[]) ∧ WwS P b (l ++ encT s) w w' := by
  obtain ⟨lo, v, h1, h2⟩ := h.ex
  exact (Text_c lo b v l s false w h1 (by omega)).mono fun e w' h => ⟨h.1, Ww.of h2 h.2⟩

set_option maxHeartbeats 2000000 in
theorem flag_w (P : Nat → Prop) (b : Nat) (l : Bs) (y : Bool) (w : World) (h : Ww P b l w) (hl : l.length ≤ 40000000) :
    Calls Try.prog 31 #[.pointer (some ⟨b, 0, none⟩), .bool y] w fun e w' => e = .returned (.tuple #[]) ∧ WwS P b (l ++ encI (fl y)) w w' := by
  have hc := Lib.hid (Num_w P b l (fl y) w h (fl_num y) hl)
  clear h hl
  cases y with
  | true =>
    change Hid (Calls Try.prog 56 #[.pointer (some ⟨b, 0, none⟩), .int .i64 1] w _) at hc
    go_enter Try.func31, Try.ntmps31
    go_wp2_with fail
    refine hc.out.mono ?_
    rintro e w1 ⟨rfl, hw⟩
    have HW := Lib.hid hw
    clear hw
    go_wp2
    go_end0
    exact ⟨rfl, HW.out⟩
  | false =>
    change Hid (Calls Try.prog 56 #[.pointer (some ⟨b, 0, none⟩), .int .i64 0] w _) at hc
    go_enter Try.func31, Try.ntmps31
    go_wp2_with fail
    refine hc.out.mono ?_
    rintro e w1 ⟨rfl, hw⟩
    have HW := Lib.hid hw
    clear hw
    go_wp2
    go_end0
    exact ⟨rfl, HW.out⟩

theorem encN_app (a b : List Int) : encN (a ++ b) = encN a ++ encN b := by
  induction a with
  | nil => rfl
  | cons x a ih => simp [encN, ih]
theorem encN_take (l : List Int) (k : Nat) (h : k < l.length) : encN (l.take (k + 1)) = encN (l.take k) ++ encI l[k] := by
  rw [List.take_succ_eq_append_getElem h, encN_app]; simp [encN]
theorem encN_len : ∀ (l : List Int), (∀ x ∈ l, num x) → (encN l).length ≤ 7 * l.length
  | [], _ => by simp [encN]
  | x :: l, h => by
    have := encI_len (h x (by simp)); have := encN_len l (fun y hy => h y (by simp [hy]))
    unfold encN; rw [List.length_append, List.length_cons]; omega

set_option maxHeartbeats 4000000 in
theorem nums_w (P : Nat → Prop) (b : Nat) (l : Bs) (v : Value) (ns : List Int) (w : World) (h : Ww P b l w) (hv : ∀ W, Fp (fun k => ¬ P k) w W → Sg inC 1 W v ns) (hn : ∀ x ∈ ns, num x) (hl : l.length ≤ 30000000) (hnl : ns.length ≤ 1000) :
    Calls Try.prog 30 #[.pointer (some ⟨b, 0, none⟩), v] w fun e w' => e = .returned (.tuple #[]) ∧ WwS P b (l ++ encN ns) w w' := by
  obtain ⟨ao, cap, rfl⟩ := (hv w (Fp.refl _ _)).shape
  obtain ⟨n, hnn⟩ : ∃ n, n = ns.length := ⟨_, rfl⟩
  have HX := Lib.hid (And.intro hnn (And.intro hv (And.intro hn (And.intro hl hnl))))
  have hnb : n ≤ 1000 := by omega
  have H0 : Hid (WwS P b (l ++ encN (ns.take 0)) w w) := by
    have e : l ++ encN (ns.take 0) = l := by simp [encN]
    rw [e]; exact ⟨h, Fp.refl _ _⟩
  rw [← hnn]
  clear h hv hn hl hnl hnn
  go_enter Try.func30, Try.ntmps30
  go_wp2_with fail
  go_loopw [8] (fun i wr => ∃ k : Nat, k ≤ n ∧ i = .int .i64 k ∧ Hid (WwS P b (l ++ encN (ns.take k)) w wr)) (fun i _ => n - (RowKit.intOf i).toNat)
  case atStart => exact ⟨0, Nat.zero_le _, rfl, H0⟩
  case round =>
    clear H0
    obtain ⟨k, hk, rfl, hR⟩ := hrel
    by_cases hlt : k < n
    · have hkl : k < ns.length := by rw [← HX.out.1]; exact hlt
      obtain ⟨g, o, cap', e, hcell⟩ := (HX.out.2.1 wr hR.out.fp).at (by omega)
      injection e with e1 e2 e3
      subst e1 e3
      have c0 := (hcell k hkl).get 0 _ rfl
      simp only [Nat.mul_one, Nat.add_zero] at c0
      have hx := HX.out.2.2.1 _ (List.getElem_mem hkl)
      have hen := encN_len (ns.take k) (fun x hx => HX.out.2.2.1 x (List.mem_of_mem_take hx))
      have htl : (ns.take k).length ≤ 1000 := by rw [List.length_take]; omega
      have hc := Num_w P b (l ++ encN (ns.take k)) ns[k] wr hR.out.is hx (by rw [List.length_append]; have := HX.out.2.2.2.1; omega)
      rw [List.append_assoc, ← encN_take ns k hkl] at hc
      generalize ns[k] = x at *
      have q3 : ((k : Int) < (n : Int)) = True := eq_true (by omega)
      have q4 : (k < n) = True := eq_true hlt
      have HC := Lib.hid hc
      have HL := Lib.hid hlt
      clear hcell hkl hlt hc hx hen htl
      go_wp2_with fail
      refine HC.out.mono ?_
      rintro e w1 ⟨rfl, hw⟩
      have HW := Lib.hid (hR.out.trans hw)
      have hkn := HL.out
      clear hw
      go_wp2
      go_roundw
      case rel => exact ⟨k + 1, by omega, by go_num, HW⟩
      case measure => simp [RowKit.intOf]; omega
    · have hke : k = n := by omega
      subst hke
      have q3 : ((k : Int) < (k : Int)) = False := eq_false (by omega)
      have HT : Hid (WwS P b (l ++ encN ns) w wr) := by have := hR.out; rw [HX.out.1, List.take_length] at this; exact this
      clear hlt hk
      go_wp2
      go_end0
      exact ⟨rfl, HT.out⟩

set_option maxHeartbeats 4000000 in
theorem Texts_w (P : Nat → Prop) (b : Nat) (l : Bs) (v : Value) (ps : List Bs) (w : World) (h : Ww P b l w) (hv : ∀ W, Fp (fun k => ¬ P k) w W → Tx W v ps) (hl : l.length + (encTs ps).length ≤ 30000000) (hnl : ps.length ≤ 1000) (hpl : ∀ x ∈ ps, x.length ≤ 100000) :
    Calls Try.prog 39 #[.pointer (some ⟨b, 0, none⟩), v] w fun e w' => e = .returned (.tuple #[]) ∧ WwS P b (l ++ encTs ps) w w' := by
  obtain ⟨ao, cap, rfl⟩ := (hv w (Fp.refl _ _)).shape
  obtain ⟨n, hnn⟩ : ∃ n, n = ps.length := ⟨_, rfl⟩
  have hN := Num_w P b l (ps.length : Int) w h ⟨by omega, by omega⟩ (by omega)
  have HX := Lib.hid (And.intro hnn (And.intro hv (And.intro hl (And.intro hnl hpl))))
  have hnb : n ≤ 1000 := by omega
  rw [← hnn] at hN
  have HN := Lib.hid hN
  rw [← hnn]
  clear h hv hl hnl hnn hN hpl
  go_enter Try.func39, Try.ntmps39
  go_wp2_with fail
  refine HN.out.mono ?_
  rintro e w1 ⟨rfl, hw⟩
  have H0 : Hid (WwS P b (l ++ encI n ++ encF encT (ps.take 0)) w w1) := by
    have e : l ++ encI n ++ encF encT (ps.take 0) = l ++ encI n := by simp [encF]
    rw [e]; exact hw
  clear hw HN
  go_wp2_with fail
  go_loopw [12] (fun i wr => ∃ k : Nat, k ≤ n ∧ i = .int .i64 k ∧ Hid (WwS P b (l ++ encI n ++ encF encT (ps.take k)) w wr)) (fun i _ => n - (RowKit.intOf i).toNat)
  case atStart => exact ⟨0, Nat.zero_le _, rfl, H0⟩
  case round =>
    clear H0
    obtain ⟨k, hk, rfl, hR⟩ := hrel
    by_cases hlt : k < n
    · have hkl : k < ps.length := by rw [← HX.out.1]; exact hlt
      obtain ⟨g, o, cap', e, hcell⟩ := (HX.out.2.1 wr hR.out.fp).at (by omega)
      injection e with e1 e2 e3
      subst e1 e3
      have c0 := hcell k hkl
      have hx := HX.out.2.2.2.2 _ (List.getElem_mem hkl)
      have hsz : (l ++ encI n ++ encF encT (ps.take k)).length ≤ 30000000 := by
        have h1 := HX.out.2.2.1
        have h2 : (encTs ps).length = (encI n).length + (encF encT ps).length := by
          rw [show encTs ps = encI n ++ encF encT ps from by rw [HX.out.1]; rfl, List.length_append]
        have h3 : encF encT ps = encF encT (ps.take k) ++ encF encT (ps.drop k) := by rw [← encF_app, List.take_append_drop]
        rw [h3, List.length_append] at h2
        simp only [List.length_append]; omega
      have hc := Text_w P b (l ++ encI n ++ encF encT (ps.take k)) ps[k] wr hR.out.is (by omega)
      rw [List.append_assoc, ← encF_take encT ps k hkl] at hc
      generalize ps[k] = x at *
      have q3 : ((k : Int) < (n : Int)) = True := eq_true (by omega)
      have q4 : (k < n) = True := eq_true hlt
      have HC := Lib.hid hc
      have HL := Lib.hid hlt
      clear hcell hkl hlt hc hx hsz
      go_wp2_with fail
      refine HC.out.mono ?_
      rintro e w1 ⟨rfl, hw⟩
      have HW := Lib.hid (hR.out.trans hw)
      have hkn := HL.out
      clear hw
      go_wp2
      go_roundw
      case rel => exact ⟨k + 1, by omega, by go_num, HW⟩
      case measure => simp [RowKit.intOf]; omega
    · have hke : k = n := by omega
      subst hke
      have q3 : ((k : Int) < (k : Int)) = False := eq_false (by omega)
      have HT : Hid (WwS P b (l ++ encTs ps) w wr) := by
        have := hR.out; rw [HX.out.1, List.take_length, List.append_assoc] at this; exact this
      clear hlt hk
      go_wp2
      go_end0
      exact ⟨rfl, HT.out⟩
end Go.Proofs.Ytlmfinpmlilcgaa

