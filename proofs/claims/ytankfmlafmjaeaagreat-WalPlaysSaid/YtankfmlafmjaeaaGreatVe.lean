/- The document's log: put. -/
import Derived.Test.YtankfmlafmjaeaaGreatVd
import Derived.Deep.RegionLaw
import Derived.Deep.RegionHeld3
namespace Go.Proofs.YtankfmlafmjaeaaGreat
open Go.RowKit Pm
set_option maxRecDepth 20000

/-- Behind a call that turns the disk alone. -/
structure RfS (lo : Nat) (p : At) (s' : Dk) (w w' : World) : Prop where
  ex : ∃ p', Rf lo p' s' w' ∧ p'.b = p.b ∧ (∀ k, own4 p' k → own4 p k ∨ w.heap.size ≤ k)
  fp : Fp (own4 p) w w'
theorem RfS.refl {lo : Nat} {p : At} {s : Dk} {w : World} (h : Rf lo p s w) : RfS lo p s w w := ⟨⟨p, h, rfl, fun _ hk => .inl hk⟩, Fp.refl _ _⟩
theorem RfS.then {lo : Nat} {p p' : At} {s'' : Dk} {w w1 w2 : World} (hb : p'.b = p.b) (hp : ∀ k, own4 p' k → own4 p k ∨ w.heap.size ≤ k) (f : Fp (own4 p) w w1) (h : RfS lo p' s'' w1 w2) : RfS lo p s'' w w2 := by
  obtain ⟨p2, h1, h2, h3⟩ := h.ex
  refine ⟨⟨p2, h1, h2.trans hb, fun k hk => ?_⟩, f.trans h.fp hp⟩
  rcases h3 k hk with h4 | h4
  · exact hp k h4
  · exact .inr (Nat.le_trans f.size h4)
theorem RfS.non {lo : Nat} {p : At} {s' : Dk} {w w1 w2 : World} (f : Fp Non w w1) (h : RfS lo p s' w1 w2) : RfS lo p s' w w2 := by
  obtain ⟨p2, h1, h2, h3⟩ := h.ex
  exact ⟨⟨p2, h1, h2, fun k hk => (h3 k hk).imp id (fun h4 => Nat.le_trans f.size h4)⟩, (f.any (S := own4 p)).same h.fp⟩
theorem RfS.later {lo : Nat} {p : At} {s' : Dk} {w w1 w2 : World} (h : RfS lo p s' w w1) (f : Fp Non w1 w2) : RfS lo p s' w w2 := by
  obtain ⟨p2, h1, h2, h3⟩ := h.ex
  exact ⟨⟨p2, h1.keep f (fun _ _ h => h), h2, h3⟩, h.fp.then f⟩

/-- Write of bytes of the call's own, and Sync, as put uses them. -/
theorem rwrite_s {lo : Nat} {p : At} {s : Dk} {w : World} (h : Rf lo p s w) (a : Nat) (ha : a ≤ 1000000) (bv : Value) (bl : Bs) (hb : Sl w bv bl) (hn : ∀ k, bv.ownBlock = some k → ¬ own4 p k) (h0 : bl.length ≠ 0) (hacts : s.acts ≤ 999999) :
    Calls Tryz.prog 42 #[.pointer (some ⟨p.b, 0, none⟩), .int .i64 (a : Int), bv] w fun e w' => e = .returned (.int .i64 (wr a bl s).1) ∧ RfS lo p (wr a bl s).2 w w' := by
  unfold wr
  rw [if_neg h0]
  refine (RWrite_c h (a : Int) (by omega) bv bl hb.zero (fun _ => hn) hacts).mono ?_
  rintro e w' ⟨rfl, h1, h2⟩
  exact ⟨rfl, ⟨p, h1, rfl, fun k hk => .inl hk⟩, h2⟩
theorem rsync_s {lo : Nat} {p : At} {s : Dk} {w : World} (h : Rf lo p s w) (hacts : s.acts ≤ 999999) :
    Calls Tryz.prog 43 #[.pointer (some ⟨p.b, 0, none⟩)] w fun e w' => e = .returned (.int .i64 (dSync s).1) ∧ RfS lo p (dSync s).2 w w' := by
  refine (RSync_c h hacts).mono ?_
  rintro e w' ⟨p', rfl, h1, h2, h3, h4⟩
  exact ⟨rfl, ⟨p', h1, h3, h4⟩, h2⟩

theorem seq_bad {f : Dk → Int × Dk} {r : List (Dk → Int × Dk)} {s : Dk} (h : (f s).1 ≠ 0) : seqF (f :: r) s = f s := by
  conv => lhs; unfold seqF
  rw [if_neg h]
theorem seq_good {f : Dk → Int × Dk} {r : List (Dk → Int × Dk)} {s : Dk} (h : (f s).1 = 0) : seqF (f :: r) s = seqF r (f s).2 := by
  conv => lhs; unfold seqF
  rw [if_pos h]
theorem seq_last (f : Dk → Int × Dk) (s : Dk) : seqF [f] s = f s := by
  by_cases h : (f s).1 = 0
  · rw [seq_good h]
    show ((0 : Int), (f s).2) = f s
    rw [← h]
  · exact seq_bad h

set_option maxHeartbeats 4000000 in
theorem put_c {lo q : Nat} {p : At} {s : Dk} {w : World} (h : Rf lo p s w) (hc0 : w.cell? ⟨q, 0, none⟩ = some (.pointer (some ⟨p.b, 0, none⟩))) (hq : ¬ own4 p q) (a i : Nat) (ha : a ≤ 900000) (hi : i ≤ 65535) (bv : Value) (b : Bs) (hb : Se w bv b)
    (hn : 0 < b.length → ∀ k, bv.ownBlock = some k → ¬ own4 p k) (hbl : b.length ≤ 16384) (hac : s.acts ≤ 990000) :
    Calls Tryz.prog 51 #[.pointer (some ⟨q, 0, none⟩), .int .i64 (a : Int), .int .i64 (i : Int), bv] w fun e w' => e = .returned (.int .i64 (seqF (apSteps a i b) s).1) ∧ RfS lo p (seqF (apSteps a i b) s).2 w w' := by
  obtain ⟨ao, cap, hv⟩ := hb.shape
  obtain ⟨pb, hpb⟩ : ∃ pb, pb = p.b := ⟨_, rfl⟩
  rw [← hpb] at hc0
  have HPB := Lib.hid hpb
  have HQN := Lib.hid (show ∀ pk : At, (∀ k, own4 pk k → own4 p k ∨ w.heap.size ≤ k) → ¬ own4 pk q from fun pk hp ho => (hp q ho).elim hq (fun h1 => by have : q < w.heap.size := World.block_lt_of_cell? w ⟨q, 0, none⟩ hc0; omega))
  have c0 := hc0
  clear hpb hc0 hq
  obtain ⟨T, hT⟩ : ∃ T, T = seqF (apSteps a i b) s := ⟨_, rfl⟩
  rw [← hT]
  by_cases h0 : b.length = 0
  · have q1 : (0 < b.length) = False := eq_false (by omega)
    have q2 : ((0 : Int) < (b.length : Int)) = False := eq_false (by omega)
    have HR0 := Lib.hid (RfS.refl h)
    have HA0 := Lib.hid (show s.acts ≤ s.acts + 0 from Nat.le_refl _)
    have HQ0 := Lib.hid (show T = seqF [dSync, wr a (hdr i b), dSync] s by
      have e : wr (a + 16) (pad b) s = (0, s) := by unfold wr; rw [if_pos (by rw [pad_len, h0]; rfl)]
      rw [hT]
      show seqF [wr (a + 16) (pad b), dSync, wr a (hdr i b), dSync] s = _
      rw [seq_good (by rw [e]), e])
    have HB := Lib.hid (And.intro hb (And.intro hv (And.intro hn (And.intro hbl (And.intro h hac)))))
    rw [hv]
    clear hb hv hn h h0 hT
    go_enter Tryz.func51, Tryz.ntmps51
    obtain ⟨pk, hdk, hbk, hnk⟩ := HR0.out.ex
    have hsy := rsync_s hdk (by have := HA0.out; have := HB.out.2.2.2.2.2; omega)
    obtain ⟨x1, s1, hr⟩ : ∃ x y, (x, y) = dSync s := ⟨_, _, rfl⟩
    rw [hbk, ← HPB.out, ← hr] at hsy
    have HSY := Lib.hid hsy
    have HDK := Lib.hid (And.intro hbk hnk)
    have HX1 := Lib.hid hr
    clear hsy hdk hbk hnk hr
    go_wp2_with fail
    refine HSY.out.mono ?_
    rintro e w1 ⟨rfl, hS⟩
    have c1 : w1.cell? ⟨q, 0, none⟩ = some (.pointer (some ⟨pb, 0, none⟩)) := hS.fp.cell c0 (fun ho => HQN.out _ HDK.out.2 ho)
    have HR1 := Lib.hid (RfS.then HDK.out.1 HDK.out.2 HR0.out.fp hS)
    clear hS
    by_cases hx : x1 = 0
    · subst hx
      have HQ1 := Lib.hid (show T = seqF _ s1 by rw [HQ0.out, seq_good (by rw [← HX1.out]), ← HX1.out])
      have HA1 := Lib.hid (show s1.acts ≤ s.acts + 1 by have h1 := acts_sync s; rw [← HX1.out] at h1; simp only at h1; have h2 := HA0.out; omega)
      go_wp2_with fail
      obtain ⟨pk, hdk, hbk, hnk⟩ := HR1.out.ex
      have W0 : Fp Non w1 w1.drew := (Fp.refl Non w1).drew
      have kc : w1.drew.cell? ⟨q, 0, none⟩ = some (.pointer (some ⟨pb, 0, none⟩)) := c1
      have hse : Se w1.drew _ b := (HB.out.1.keep HR1.out.fp (fun h0 k hk => HB.out.2.2.1 h0 k hk)).keep W0 (fun _ _ _ h => h)
      rw [HB.out.2.1] at hse
      have hpd := rhead_c i _ b _ hse hbl hi
      have HPD := Lib.hid hpd
      have HDK := Lib.hid (And.intro (hdk.keep W0 (fun _ _ h => h)) (And.intro hbk (And.intro hnk W0)))
      obtain ⟨x2, s2, hr⟩ : ∃ x y, (x, y) = wr a (hdr i b) s1 := ⟨_, _, rfl⟩
      have HX2 := Lib.hid hr
      clear hpd hse hdk hbk hnk hr W0
      refine wp_region_held_drew (S := (fun w' => w'.cell? ⟨q, 0, none⟩ = some (.pointer (some ⟨pb, 0, none⟩)))) (by kernel_rfl) ?_ (fun hHeld => ?_)
      · exact kc
      refine wpAnyH_take (i := 0) (oi := ?oi121) (v := ?vi121) ?h121 (by kernel_rfl) (by kernel_rfl) (by kernel_rfl) ?q121 (Or.inl ⟨?w121, ?y121⟩) hHeld ?r121
      case h121 => first | (simp only [List.getElem?_toArray, List.getElem?_cons_zero]; done) | (simp only [List.getElem?_toArray, List.getElem?_cons_zero]; exact rfl)
      case q121 => exact fun _ _ _ h => h
      case w121 => rfl
      case y121 =>
        intro w hSw
        (try dsimp only at hSw)
        skip
        go_simp
        try with_reducible rfl
      try simp only [Act.put, List.setIfInBounds_toArray, List.set_cons_zero, List.set_cons_succ]
      refine wpAnyH_take (i := 1) (oi := ?oi122) (v := ?vi122) ?h122 (by kernel_rfl) (by kernel_rfl) (by kernel_rfl) ?q122 (Or.inl ⟨?w122, ?y122⟩) hHeld ?r122
      case h122 => first | (simp only [List.getElem?_toArray, List.getElem?_cons_zero, List.getElem?_cons_succ]; done) | (simp only [List.getElem?_toArray, List.getElem?_cons_zero, List.getElem?_cons_succ]; exact rfl)
      case q122 => exact fun _ _ _ h => h
      case w122 => rfl
      case y122 =>
        intro w hSw
        (try dsimp only at hSw)
        skip
        go_simp
        try with_reducible rfl
      try simp only [Act.put, List.setIfInBounds_toArray, List.set_cons_zero, List.set_cons_succ]
      refine wpAnyH_take (i := 2) (oi := ?oi123) (v := ?vi123) ?h123 (by kernel_rfl) (by kernel_rfl) (by kernel_rfl) ?q123 (Or.inl ⟨?w123, ?y123⟩) hHeld ?r123
      case h123 => first | (simp only [List.getElem?_toArray, List.getElem?_cons_zero, List.getElem?_cons_succ]; done) | (simp only [List.getElem?_toArray, List.getElem?_cons_zero, List.getElem?_cons_succ]; exact rfl)
      case q123 => exact fun _ _ _ h => h
      case w123 => rfl
      case y123 =>
        intro w hSw
        (try dsimp only at hSw)
        skip
        go_simp
        try with_reducible rfl
      try simp only [Act.put, List.setIfInBounds_toArray, List.set_cons_zero, List.set_cons_succ]
      refine wpAnyH_take (i := 3) (oi := ?oi124) (v := ?vi124) ?h124 (by kernel_rfl) (by kernel_rfl) (by kernel_rfl) ?q124 (Or.inl ⟨?w124, ?y124⟩) hHeld ?r124
      case h124 => first | (simp only [List.getElem?_toArray, List.getElem?_cons_zero, List.getElem?_cons_succ]; done) | (simp only [List.getElem?_toArray, List.getElem?_cons_zero, List.getElem?_cons_succ]; exact rfl)
      case q124 => exact fun _ _ _ h => h
      case w124 => rfl
      case y124 =>
        intro w hSw
        (try dsimp only at hSw)
        skip
        go_simp
        try with_reducible rfl
      try simp only [Act.put, List.setIfInBounds_toArray, List.set_cons_zero, List.set_cons_succ]
      refine wpAnyH_take (i := 4) (oi := ?oi125) (v := ?vi125) ?h125 (by kernel_rfl) (by kernel_rfl) (by kernel_rfl) ?q125 (Or.inl ⟨?w125, ?y125⟩) hHeld ?r125
      case h125 => first | (simp only [List.getElem?_toArray, List.getElem?_cons_zero, List.getElem?_cons_succ]; done) | (simp only [List.getElem?_toArray, List.getElem?_cons_zero, List.getElem?_cons_succ]; exact rfl)
      case q125 => exact fun _ _ _ h => h
      case w125 => rfl
      case y125 =>
        intro w hSw
        (try dsimp only at hSw)
        skip
        go_simp
        try with_reducible rfl
      try simp only [Act.put, List.setIfInBounds_toArray, List.set_cons_zero, List.set_cons_succ]
      refine wpAnyH_take (i := 5) (oi := ?oi126) (v := ?vi126) ?h126 (by kernel_rfl) (by kernel_rfl) (by kernel_rfl) ?q126 (Or.inl ⟨?w126, ?y126⟩) hHeld ?r126
      case h126 => first | (simp only [List.getElem?_toArray, List.getElem?_cons_zero, List.getElem?_cons_succ]; done) | (simp only [List.getElem?_toArray, List.getElem?_cons_zero, List.getElem?_cons_succ]; exact rfl)
      case q126 => exact fun _ _ _ h => h
      case w126 => rfl
      case y126 =>
        intro w hSw
        (try dsimp only at hSw)
        skip
        go_simp
        try with_reducible rfl
      try simp only [Act.put, List.setIfInBounds_toArray, List.set_cons_zero, List.set_cons_succ]
      refine wpAnyH_take (i := 6) (oi := ?oi127) (v := ?vi127) ?h127 (by kernel_rfl) (by kernel_rfl) (by kernel_rfl) ?q127 (Or.inl ⟨?w127, ?y127⟩) hHeld ?r127
      case h127 => first | (simp only [List.getElem?_toArray, List.getElem?_cons_zero, List.getElem?_cons_succ]; done) | (simp only [List.getElem?_toArray, List.getElem?_cons_zero, List.getElem?_cons_succ]; exact rfl)
      case q127 => exact fun _ _ _ h => h
      case w127 => rfl
      case y127 =>
        intro w hSw
        (try dsimp only at hSw)
        skip
        go_simp
        try with_reducible rfl
      try simp only [Act.put, List.setIfInBounds_toArray, List.set_cons_zero, List.set_cons_succ]
      refine wpAnyH_ready (rs := [7]) (by kernel_rfl) (by simp) ?_
      refine AllReadyH.cons (o := ?ob128) ?hb128 (fun K hK => ?_) AllReadyH.nil
      case hb128 => first | (simp only [List.getElem?_toArray, List.getElem?_cons_zero, List.getElem?_cons_succ]; done) | (simp only [List.getElem?_toArray, List.getElem?_cons_zero, List.getElem?_cons_succ]; exact rfl)
      go_simp
      go_at_call 62
      refine HPD.out.mono ?_
      rintro e v2 ⟨u, rfl, hN⟩
      have kc2 : v2.cell? ⟨q, 0, none⟩ = some (.pointer (some ⟨pb, 0, none⟩)) := hN.fp.cell kc (fun h => h)
      have hw := rwrite_s (HDK.out.1.keep hN.fp (fun _ _ h => h)) a (by omega) _ _ hN.sl (fun k hk ho => by have h1 := hN.block k hk; have h2 := (HDK.out.1.all k ho).2; omega) (by rw [hdr_len]; omega) (by have := HA1.out; have := HB.out.2.2.2.2.2; omega)
      rw [HDK.out.2.1, ← HPB.out, ← HX2.out] at hw
      obtain ⟨uao, un, ucap, rfl⟩ := hN.shape3
      have HW := Lib.hid hw
      have HNF := Lib.hid hN.fp
      clear hw hN kc hHeld
      go_wp2_with fail
      refine hK.out _ _ kc2 (fun hHeld => ?_)
      clear hK K
      try simp only [Act.put, List.setIfInBounds_toArray, List.set_cons_zero, List.set_cons_succ]
      refine wpAnyH_ready (rs := [8]) (by kernel_rfl) (by simp) ?_
      refine AllReadyH.cons (o := ?ob129) ?hb129 (fun K hK => ?_) AllReadyH.nil
      case hb129 => first | (simp only [List.getElem?_toArray, List.getElem?_cons_zero, List.getElem?_cons_succ]; done) | (simp only [List.getElem?_toArray, List.getElem?_cons_zero, List.getElem?_cons_succ]; exact rfl)
      go_simp
      go_at_call 42
      refine HW.out.mono ?_
      rintro e w2 ⟨rfl, hS⟩
      have c2 : w2.cell? ⟨q, 0, none⟩ = some (.pointer (some ⟨pb, 0, none⟩)) := hS.fp.cell kc2 (fun ho => HQN.out _ HDK.out.2.2.1 ho)
      have hS2 : RfS lo p s2 w w2 := by
        have h1 := RfS.then HDK.out.2.1 HDK.out.2.2.1 HR1.out.fp (hS.non (HDK.out.2.2.2.then HNF.out))
        exact h1
      have HR2 := Lib.hid hS2
      clear hS hS2 kc2 hHeld
      go_wp2_with fail
      refine hK.out _ _ c2 (fun hHeld => ?_)
      clear hK K
      try simp only [Act.put, List.setIfInBounds_toArray, List.set_cons_zero, List.set_cons_succ]
      refine wpAnyH_take (i := 9) (oi := ?oi130) (v := ?vi130) ?h130 (by kernel_rfl) (by kernel_rfl) (by kernel_rfl) ?q130 (Or.inl ⟨?w130, ?y130⟩) hHeld ?r130
      case h130 => first | (simp only [List.getElem?_toArray, List.getElem?_cons_zero, List.getElem?_cons_succ]; done) | (simp only [List.getElem?_toArray, List.getElem?_cons_zero, List.getElem?_cons_succ]; exact rfl)
      case q130 => exact fun _ _ _ h => h
      case w130 => rfl
      case y130 =>
        intro w hSw
        (try dsimp only at hSw)
        skip
        go_simp
        try with_reducible rfl
      try simp only [Act.put, List.setIfInBounds_toArray, List.set_cons_zero, List.set_cons_succ]
      refine wpAnyH_done (by kernel_rfl) ?_ _
      by_cases hx : x2 = 0
      · subst hx
        have HQ2 := Lib.hid (show T = seqF _ s2 by rw [HQ1.out, seq_good (by rw [← HX2.out]), ← HX2.out])
        have HA2 := Lib.hid (show s2.acts ≤ s.acts + 2 by have h1 := wr_acts a (hdr i b) s1; rw [← HX2.out] at h1; simp only at h1; have h2 := HA1.out; omega)
        obtain ⟨pk, hdk, hbk, hnk⟩ := HR2.out.ex
        have hsy := rsync_s hdk (by have := HA2.out; have := HB.out.2.2.2.2.2; omega)
        obtain ⟨x3, s3, hr⟩ : ∃ x y, (x, y) = dSync s2 := ⟨_, _, rfl⟩
        rw [hbk, ← HPB.out, ← hr] at hsy
        have HSY := Lib.hid hsy
        have HDK := Lib.hid (And.intro hbk hnk)
        have HX3 := Lib.hid hr
        clear hsy hdk hbk hnk hr
        go_wp2_with fail
        refine HSY.out.mono ?_
        rintro e w3 ⟨rfl, hS⟩
        have c3 : w3.cell? ⟨q, 0, none⟩ = some (.pointer (some ⟨pb, 0, none⟩)) := hS.fp.cell c2 (fun ho => HQN.out _ HDK.out.2 ho)
        have HR3 := Lib.hid (RfS.then HDK.out.1 HDK.out.2 HR2.out.fp hS)
        clear hS
        have hQ : T = (x3, s3) := by rw [HQ2.out, seq_last, ← HX3.out]
        have HQ := Lib.hid hQ
        clear hQ
        go_wp2
        go_ret
        exact ⟨by rw [HQ.out]; rfl, by rw [HQ.out]; exact HR3.out⟩
      · have hQ : T = (x2, s2) := by rw [HQ1.out, seq_bad (by rw [← HX2.out]; exact hx), ← HX2.out]
        have HQ := Lib.hid hQ
        have g1 : (x2 = 0) = False := eq_false hx
        have g2 : (x2 == 0) = false := beq_eq_false_iff_ne.2 hx
        clear hQ hx
        go_wp2
        go_ret
        exact ⟨by rw [HQ.out]; rfl, by rw [HQ.out]; exact HR2.out⟩
    · have hQ : T = (x1, s1) := by rw [HQ0.out, seq_bad (by rw [← HX1.out]; exact hx), ← HX1.out]
      have HQ := Lib.hid hQ
      have g1 : (x1 = 0) = False := eq_false hx
      have g2 : (x1 == 0) = false := beq_eq_false_iff_ne.2 hx
      clear hQ hx
      go_wp2
      go_ret
      exact ⟨by rw [HQ.out]; rfl, by rw [HQ.out]; exact HR1.out⟩
  · have HWR := Lib.hid (show IntKind.i64.wrap ((a : Int) + 16) = (a : Int) + 16 by rw [IntKind.wrap_i64]; omega)
    have q1 : (0 < b.length) = True := eq_true (by omega)
    have q2 : ((0 : Int) < (b.length : Int)) = True := eq_true (by omega)
    have HR0 := Lib.hid (RfS.refl h)
    have HA0 := Lib.hid (show s.acts ≤ s.acts + 0 from Nat.le_refl _)
    have HQ0 := Lib.hid (show T = seqF [wr (a + 16) (pad b), dSync, wr a (hdr i b), dSync] s from hT)
    have HB := Lib.hid (And.intro hb (And.intro hv (And.intro hn (And.intro hbl (And.intro h hac)))))
    rw [hv]
    clear hb hv hn h hT
    go_enter Tryz.func51, Tryz.ntmps51
    go_wp2_with fail
    obtain ⟨pk, hdk, hbk, hnk⟩ := HR0.out.ex
    have W0 : Fp Non w w.drew := (Fp.refl Non w).drew
    have kc : w.drew.cell? ⟨q, 0, none⟩ = some (.pointer (some ⟨pb, 0, none⟩)) := c0
    have hse : Se w.drew _ b := (HB.out.1.keep HR0.out.fp (fun h0 k hk => HB.out.2.2.1 h0 k hk)).keep W0 (fun _ _ _ h => h)
    rw [HB.out.2.1] at hse
    have hpd := padded_c _ b _ hse (by omega)
    have HPD := Lib.hid hpd
    have HDK := Lib.hid (And.intro (hdk.keep W0 (fun _ _ h => h)) (And.intro hbk (And.intro hnk W0)))
    obtain ⟨x1, s1, hr⟩ : ∃ x y, (x, y) = wr (a + 16) (pad b) s := ⟨_, _, rfl⟩
    have HX1 := Lib.hid hr
    clear hpd hse hdk hbk hnk hr W0
    refine wp_region_held_drew (S := (fun w' => w'.cell? ⟨q, 0, none⟩ = some (.pointer (some ⟨pb, 0, none⟩)))) (by kernel_rfl) ?_ (fun hHeld => ?_)
    · exact kc
    refine wpAnyH_take (i := 0) (oi := ?oi101) (v := ?vi101) ?h101 (by kernel_rfl) (by kernel_rfl) (by kernel_rfl) ?q101 (Or.inl ⟨?w101, ?y101⟩) hHeld ?r101
    case h101 => first | (simp only [List.getElem?_toArray, List.getElem?_cons_zero]; done) | (simp only [List.getElem?_toArray, List.getElem?_cons_zero]; exact rfl)
    case q101 => exact fun _ _ _ h => h
    case w101 => rfl
    case y101 =>
      intro w hSw
      (try dsimp only at hSw)
      skip
      go_simp
      try with_reducible rfl
    try simp only [Act.put, List.setIfInBounds_toArray, List.set_cons_zero, List.set_cons_succ]
    refine wpAnyH_take (i := 1) (oi := ?oi102) (v := ?vi102) ?h102 (by kernel_rfl) (by kernel_rfl) (by kernel_rfl) ?q102 (Or.inl ⟨?w102, ?y102⟩) hHeld ?r102
    case h102 => first | (simp only [List.getElem?_toArray, List.getElem?_cons_zero, List.getElem?_cons_succ]; done) | (simp only [List.getElem?_toArray, List.getElem?_cons_zero, List.getElem?_cons_succ]; exact rfl)
    case q102 => exact fun _ _ _ h => h
    case w102 => rfl
    case y102 =>
      intro w hSw
      (try dsimp only at hSw)
      skip
      go_simp
      try with_reducible rfl
    try simp only [Act.put, List.setIfInBounds_toArray, List.set_cons_zero, List.set_cons_succ]
    refine wpAnyH_take (i := 2) (oi := ?oi103) (v := ?vi103) ?h103 (by kernel_rfl) (by kernel_rfl) (by kernel_rfl) ?q103 (Or.inl ⟨?w103, ?y103⟩) hHeld ?r103
    case h103 => first | (simp only [List.getElem?_toArray, List.getElem?_cons_zero, List.getElem?_cons_succ]; done) | (simp only [List.getElem?_toArray, List.getElem?_cons_zero, List.getElem?_cons_succ]; exact rfl)
    case q103 => exact fun _ _ _ h => h
    case w103 => rfl
    case y103 =>
      intro w hSw
      (try dsimp only at hSw)
      skip
      go_simp
      try with_reducible rfl
    try simp only [Act.put, List.setIfInBounds_toArray, List.set_cons_zero, List.set_cons_succ]
    refine wpAnyH_take (i := 3) (oi := ?oi104) (v := ?vi104) ?h104 (by kernel_rfl) (by kernel_rfl) (by kernel_rfl) ?q104 (Or.inl ⟨?w104, ?y104⟩) hHeld ?r104
    case h104 => first | (simp only [List.getElem?_toArray, List.getElem?_cons_zero, List.getElem?_cons_succ]; done) | (simp only [List.getElem?_toArray, List.getElem?_cons_zero, List.getElem?_cons_succ]; exact rfl)
    case q104 => exact fun _ _ _ h => h
    case w104 => rfl
    case y104 =>
      intro w hSw
      (try dsimp only at hSw)
      skip
      go_simp
      try with_reducible rfl
    try simp only [Act.put, List.setIfInBounds_toArray, List.set_cons_zero, List.set_cons_succ]
    refine wpAnyH_take (i := 4) (oi := ?oi105) (v := ?vi105) ?h105 (by kernel_rfl) (by kernel_rfl) (by kernel_rfl) ?q105 (Or.inl ⟨?w105, ?y105⟩) hHeld ?r105
    case h105 => first | (simp only [List.getElem?_toArray, List.getElem?_cons_zero, List.getElem?_cons_succ]; done) | (simp only [List.getElem?_toArray, List.getElem?_cons_zero, List.getElem?_cons_succ]; exact rfl)
    case q105 => exact fun _ _ _ h => h
    case w105 => rfl
    case y105 =>
      intro w hSw
      (try dsimp only at hSw)
      skip
      go_simp
      try with_reducible rfl
    try simp only [Act.put, List.setIfInBounds_toArray, List.set_cons_zero, List.set_cons_succ]
    refine wpAnyH_take (i := 5) (oi := ?oi106) (v := ?vi106) ?h106 (by kernel_rfl) (by kernel_rfl) (by kernel_rfl) ?q106 (Or.inl ⟨?w106, ?y106⟩) hHeld ?r106
    case h106 => first | (simp only [List.getElem?_toArray, List.getElem?_cons_zero, List.getElem?_cons_succ]; done) | (simp only [List.getElem?_toArray, List.getElem?_cons_zero, List.getElem?_cons_succ]; exact rfl)
    case q106 => exact fun _ _ _ h => h
    case w106 => rfl
    case y106 =>
      intro w hSw
      (try dsimp only at hSw)
      skip
      go_simp
      try with_reducible rfl
    try simp only [Act.put, List.setIfInBounds_toArray, List.set_cons_zero, List.set_cons_succ]
    refine wpAnyH_take (i := 6) (oi := ?oi107) (v := ?vi107) ?h107 (by kernel_rfl) (by kernel_rfl) (by kernel_rfl) ?q107 (Or.inl ⟨?w107, ?y107⟩) hHeld ?r107
    case h107 => first | (simp only [List.getElem?_toArray, List.getElem?_cons_zero, List.getElem?_cons_succ]; done) | (simp only [List.getElem?_toArray, List.getElem?_cons_zero, List.getElem?_cons_succ]; exact rfl)
    case q107 => exact fun _ _ _ h => h
    case w107 => rfl
    case y107 =>
      intro w hSw
      (try dsimp only at hSw)
      skip
      go_simp
      try with_reducible rfl
    try simp only [Act.put, List.setIfInBounds_toArray, List.set_cons_zero, List.set_cons_succ]
    refine wpAnyH_ready (rs := [7]) (by kernel_rfl) (by simp) ?_
    refine AllReadyH.cons (o := ?ob108) ?hb108 (fun K hK => ?_) AllReadyH.nil
    case hb108 => first | (simp only [List.getElem?_toArray, List.getElem?_cons_zero, List.getElem?_cons_succ]; done) | (simp only [List.getElem?_toArray, List.getElem?_cons_zero, List.getElem?_cons_succ]; exact rfl)
    go_simp
    go_at_call 68
    refine HPD.out.mono ?_
    rintro e v1 ⟨u, rfl, hN⟩
    have kc2 : v1.cell? ⟨q, 0, none⟩ = some (.pointer (some ⟨pb, 0, none⟩)) := hN.fp.cell kc (fun h => h)
    have hw := rwrite_s (HDK.out.1.keep hN.fp (fun _ _ h => h)) (a + 16) (by omega) _ _ hN.sl (fun k hk ho => by have h1 := hN.block k hk; have h2 := (HDK.out.1.all k ho).2; omega) (by rw [pad_len]; have := (up_le b.length).1; omega) (by have := HA0.out; have := HB.out.2.2.2.2.2; omega)
    rw [HDK.out.2.1, ← HPB.out, ← HX1.out, show ((a + 16 : Nat) : Int) = (a : Int) + 16 by omega] at hw
    obtain ⟨uao, un, ucap, rfl⟩ := hN.shape3
    have HW := Lib.hid hw
    have HNF := Lib.hid hN.fp
    clear hw hN kc hHeld
    go_wp2_with fail
    refine hK.out _ _ kc2 (fun hHeld => ?_)
    clear hK K
    try simp only [Act.put, List.setIfInBounds_toArray, List.set_cons_zero, List.set_cons_succ]
    refine wpAnyH_ready (rs := [8]) (by kernel_rfl) (by simp) ?_
    refine AllReadyH.cons (o := ?ob109) ?hb109 (fun K hK => ?_) AllReadyH.nil
    case hb109 => first | (simp only [List.getElem?_toArray, List.getElem?_cons_zero, List.getElem?_cons_succ]; done) | (simp only [List.getElem?_toArray, List.getElem?_cons_zero, List.getElem?_cons_succ]; exact rfl)
    go_simp
    go_at_call 42
    rw [show IntKind.i64.wrap ((a : Int) + 16) = (a : Int) + 16 from HWR.out]
    refine HW.out.mono ?_
    rintro e w1 ⟨rfl, hS⟩
    have c1 : w1.cell? ⟨q, 0, none⟩ = some (.pointer (some ⟨pb, 0, none⟩)) := hS.fp.cell kc2 (fun ho => HQN.out _ HDK.out.2.2.1 ho)
    have hS2 : RfS lo p s1 w w1 := by
      have h1 := RfS.then HDK.out.2.1 HDK.out.2.2.1 HR0.out.fp (hS.non (HDK.out.2.2.2.then HNF.out))
      exact h1
    have HR1 := Lib.hid hS2
    clear hS hS2 kc2 hHeld
    go_wp2_with fail
    refine hK.out _ _ c1 (fun hHeld => ?_)
    clear hK K
    try simp only [Act.put, List.setIfInBounds_toArray, List.set_cons_zero, List.set_cons_succ]
    refine wpAnyH_take (i := 9) (oi := ?oi110) (v := ?vi110) ?h110 (by kernel_rfl) (by kernel_rfl) (by kernel_rfl) ?q110 (Or.inl ⟨?w110, ?y110⟩) hHeld ?r110
    case h110 => first | (simp only [List.getElem?_toArray, List.getElem?_cons_zero, List.getElem?_cons_succ]; done) | (simp only [List.getElem?_toArray, List.getElem?_cons_zero, List.getElem?_cons_succ]; exact rfl)
    case q110 => exact fun _ _ _ h => h
    case w110 => rfl
    case y110 =>
      intro w hSw
      (try dsimp only at hSw)
      skip
      go_simp
      try with_reducible rfl
    try simp only [Act.put, List.setIfInBounds_toArray, List.set_cons_zero, List.set_cons_succ]
    refine wpAnyH_done (by kernel_rfl) ?_ _
    by_cases hx : x1 = 0
    · subst hx
      have HQ1 := Lib.hid (show T = seqF _ s1 by rw [HQ0.out, seq_good (by rw [← HX1.out]), ← HX1.out])
      have HA1 := Lib.hid (show s1.acts ≤ s.acts + 1 by have h1 := wr_acts (a + 16) (pad b) s; rw [← HX1.out] at h1; simp only at h1; have h2 := HA0.out; omega)
      obtain ⟨pk, hdk, hbk, hnk⟩ := HR1.out.ex
      have hsy := rsync_s hdk (by have := HA1.out; have := HB.out.2.2.2.2.2; omega)
      obtain ⟨x2, s2, hr⟩ : ∃ x y, (x, y) = dSync s1 := ⟨_, _, rfl⟩
      rw [hbk, ← HPB.out, ← hr] at hsy
      have HSY := Lib.hid hsy
      have HDK := Lib.hid (And.intro hbk hnk)
      have HX2 := Lib.hid hr
      clear hsy hdk hbk hnk hr
      go_wp2_with fail
      refine HSY.out.mono ?_
      rintro e w2 ⟨rfl, hS⟩
      have c2 : w2.cell? ⟨q, 0, none⟩ = some (.pointer (some ⟨pb, 0, none⟩)) := hS.fp.cell c1 (fun ho => HQN.out _ HDK.out.2 ho)
      have HR2 := Lib.hid (RfS.then HDK.out.1 HDK.out.2 HR1.out.fp hS)
      clear hS
      by_cases hx : x2 = 0
      · subst hx
        have HQ2 := Lib.hid (show T = seqF _ s2 by rw [HQ1.out, seq_good (by rw [← HX2.out]), ← HX2.out])
        have HA2 := Lib.hid (show s2.acts ≤ s.acts + 2 by have h1 := acts_sync s1; rw [← HX2.out] at h1; simp only at h1; have h2 := HA1.out; omega)
        go_wp2_with fail
        obtain ⟨pk, hdk, hbk, hnk⟩ := HR2.out.ex
        have W0 : Fp Non w2 w2.drew := (Fp.refl Non w2).drew
        have kc : w2.drew.cell? ⟨q, 0, none⟩ = some (.pointer (some ⟨pb, 0, none⟩)) := c2
        have hse : Se w2.drew _ b := (HB.out.1.keep HR2.out.fp (fun h0 k hk => HB.out.2.2.1 h0 k hk)).keep W0 (fun _ _ _ h => h)
        rw [HB.out.2.1] at hse
        have hpd := rhead_c i _ b _ hse hbl hi
        have HPD := Lib.hid hpd
        have HDK := Lib.hid (And.intro (hdk.keep W0 (fun _ _ h => h)) (And.intro hbk (And.intro hnk W0)))
        obtain ⟨x3, s3, hr⟩ : ∃ x y, (x, y) = wr a (hdr i b) s2 := ⟨_, _, rfl⟩
        have HX3 := Lib.hid hr
        clear hpd hse hdk hbk hnk hr W0
        refine wp_region_held_drew (S := (fun w' => w'.cell? ⟨q, 0, none⟩ = some (.pointer (some ⟨pb, 0, none⟩)))) (by kernel_rfl) ?_ (fun hHeld => ?_)
        · exact kc
        refine wpAnyH_take (i := 0) (oi := ?oi111) (v := ?vi111) ?h111 (by kernel_rfl) (by kernel_rfl) (by kernel_rfl) ?q111 (Or.inl ⟨?w111, ?y111⟩) hHeld ?r111
        case h111 => first | (simp only [List.getElem?_toArray, List.getElem?_cons_zero]; done) | (simp only [List.getElem?_toArray, List.getElem?_cons_zero]; exact rfl)
        case q111 => exact fun _ _ _ h => h
        case w111 => rfl
        case y111 =>
          intro w hSw
          (try dsimp only at hSw)
          skip
          go_simp
          try with_reducible rfl
        try simp only [Act.put, List.setIfInBounds_toArray, List.set_cons_zero, List.set_cons_succ]
        refine wpAnyH_take (i := 1) (oi := ?oi112) (v := ?vi112) ?h112 (by kernel_rfl) (by kernel_rfl) (by kernel_rfl) ?q112 (Or.inl ⟨?w112, ?y112⟩) hHeld ?r112
        case h112 => first | (simp only [List.getElem?_toArray, List.getElem?_cons_zero, List.getElem?_cons_succ]; done) | (simp only [List.getElem?_toArray, List.getElem?_cons_zero, List.getElem?_cons_succ]; exact rfl)
        case q112 => exact fun _ _ _ h => h
        case w112 => rfl
        case y112 =>
          intro w hSw
          (try dsimp only at hSw)
          skip
          go_simp
          try with_reducible rfl
        try simp only [Act.put, List.setIfInBounds_toArray, List.set_cons_zero, List.set_cons_succ]
        refine wpAnyH_take (i := 2) (oi := ?oi113) (v := ?vi113) ?h113 (by kernel_rfl) (by kernel_rfl) (by kernel_rfl) ?q113 (Or.inl ⟨?w113, ?y113⟩) hHeld ?r113
        case h113 => first | (simp only [List.getElem?_toArray, List.getElem?_cons_zero, List.getElem?_cons_succ]; done) | (simp only [List.getElem?_toArray, List.getElem?_cons_zero, List.getElem?_cons_succ]; exact rfl)
        case q113 => exact fun _ _ _ h => h
        case w113 => rfl
        case y113 =>
          intro w hSw
          (try dsimp only at hSw)
          skip
          go_simp
          try with_reducible rfl
        try simp only [Act.put, List.setIfInBounds_toArray, List.set_cons_zero, List.set_cons_succ]
        refine wpAnyH_take (i := 3) (oi := ?oi114) (v := ?vi114) ?h114 (by kernel_rfl) (by kernel_rfl) (by kernel_rfl) ?q114 (Or.inl ⟨?w114, ?y114⟩) hHeld ?r114
        case h114 => first | (simp only [List.getElem?_toArray, List.getElem?_cons_zero, List.getElem?_cons_succ]; done) | (simp only [List.getElem?_toArray, List.getElem?_cons_zero, List.getElem?_cons_succ]; exact rfl)
        case q114 => exact fun _ _ _ h => h
        case w114 => rfl
        case y114 =>
          intro w hSw
          (try dsimp only at hSw)
          skip
          go_simp
          try with_reducible rfl
        try simp only [Act.put, List.setIfInBounds_toArray, List.set_cons_zero, List.set_cons_succ]
        refine wpAnyH_take (i := 4) (oi := ?oi115) (v := ?vi115) ?h115 (by kernel_rfl) (by kernel_rfl) (by kernel_rfl) ?q115 (Or.inl ⟨?w115, ?y115⟩) hHeld ?r115
        case h115 => first | (simp only [List.getElem?_toArray, List.getElem?_cons_zero, List.getElem?_cons_succ]; done) | (simp only [List.getElem?_toArray, List.getElem?_cons_zero, List.getElem?_cons_succ]; exact rfl)
        case q115 => exact fun _ _ _ h => h
        case w115 => rfl
        case y115 =>
          intro w hSw
          (try dsimp only at hSw)
          skip
          go_simp
          try with_reducible rfl
        try simp only [Act.put, List.setIfInBounds_toArray, List.set_cons_zero, List.set_cons_succ]
        refine wpAnyH_take (i := 5) (oi := ?oi116) (v := ?vi116) ?h116 (by kernel_rfl) (by kernel_rfl) (by kernel_rfl) ?q116 (Or.inl ⟨?w116, ?y116⟩) hHeld ?r116
        case h116 => first | (simp only [List.getElem?_toArray, List.getElem?_cons_zero, List.getElem?_cons_succ]; done) | (simp only [List.getElem?_toArray, List.getElem?_cons_zero, List.getElem?_cons_succ]; exact rfl)
        case q116 => exact fun _ _ _ h => h
        case w116 => rfl
        case y116 =>
          intro w hSw
          (try dsimp only at hSw)
          skip
          go_simp
          try with_reducible rfl
        try simp only [Act.put, List.setIfInBounds_toArray, List.set_cons_zero, List.set_cons_succ]
        refine wpAnyH_take (i := 6) (oi := ?oi117) (v := ?vi117) ?h117 (by kernel_rfl) (by kernel_rfl) (by kernel_rfl) ?q117 (Or.inl ⟨?w117, ?y117⟩) hHeld ?r117
        case h117 => first | (simp only [List.getElem?_toArray, List.getElem?_cons_zero, List.getElem?_cons_succ]; done) | (simp only [List.getElem?_toArray, List.getElem?_cons_zero, List.getElem?_cons_succ]; exact rfl)
        case q117 => exact fun _ _ _ h => h
        case w117 => rfl
        case y117 =>
          intro w hSw
          (try dsimp only at hSw)
          skip
          go_simp
          try with_reducible rfl
        try simp only [Act.put, List.setIfInBounds_toArray, List.set_cons_zero, List.set_cons_succ]
        refine wpAnyH_ready (rs := [7]) (by kernel_rfl) (by simp) ?_
        refine AllReadyH.cons (o := ?ob118) ?hb118 (fun K hK => ?_) AllReadyH.nil
        case hb118 => first | (simp only [List.getElem?_toArray, List.getElem?_cons_zero, List.getElem?_cons_succ]; done) | (simp only [List.getElem?_toArray, List.getElem?_cons_zero, List.getElem?_cons_succ]; exact rfl)
        go_simp
        go_at_call 62
        refine HPD.out.mono ?_
        rintro e v3 ⟨u, rfl, hN⟩
        have kc2 : v3.cell? ⟨q, 0, none⟩ = some (.pointer (some ⟨pb, 0, none⟩)) := hN.fp.cell kc (fun h => h)
        have hw := rwrite_s (HDK.out.1.keep hN.fp (fun _ _ h => h)) a (by omega) _ _ hN.sl (fun k hk ho => by have h1 := hN.block k hk; have h2 := (HDK.out.1.all k ho).2; omega) (by rw [hdr_len]; omega) (by have := HA2.out; have := HB.out.2.2.2.2.2; omega)
        rw [HDK.out.2.1, ← HPB.out, ← HX3.out] at hw
        obtain ⟨uao, un, ucap, rfl⟩ := hN.shape3
        have HW := Lib.hid hw
        have HNF := Lib.hid hN.fp
        clear hw hN kc hHeld
        go_wp2_with fail
        refine hK.out _ _ kc2 (fun hHeld => ?_)
        clear hK K
        try simp only [Act.put, List.setIfInBounds_toArray, List.set_cons_zero, List.set_cons_succ]
        refine wpAnyH_ready (rs := [8]) (by kernel_rfl) (by simp) ?_
        refine AllReadyH.cons (o := ?ob119) ?hb119 (fun K hK => ?_) AllReadyH.nil
        case hb119 => first | (simp only [List.getElem?_toArray, List.getElem?_cons_zero, List.getElem?_cons_succ]; done) | (simp only [List.getElem?_toArray, List.getElem?_cons_zero, List.getElem?_cons_succ]; exact rfl)
        go_simp
        go_at_call 42
        refine HW.out.mono ?_
        rintro e w3 ⟨rfl, hS⟩
        have c3 : w3.cell? ⟨q, 0, none⟩ = some (.pointer (some ⟨pb, 0, none⟩)) := hS.fp.cell kc2 (fun ho => HQN.out _ HDK.out.2.2.1 ho)
        have hS2 : RfS lo p s3 w w3 := by
          have h1 := RfS.then HDK.out.2.1 HDK.out.2.2.1 HR2.out.fp (hS.non (HDK.out.2.2.2.then HNF.out))
          exact h1
        have HR3 := Lib.hid hS2
        clear hS hS2 kc2 hHeld
        go_wp2_with fail
        refine hK.out _ _ c3 (fun hHeld => ?_)
        clear hK K
        try simp only [Act.put, List.setIfInBounds_toArray, List.set_cons_zero, List.set_cons_succ]
        refine wpAnyH_take (i := 9) (oi := ?oi120) (v := ?vi120) ?h120 (by kernel_rfl) (by kernel_rfl) (by kernel_rfl) ?q120 (Or.inl ⟨?w120, ?y120⟩) hHeld ?r120
        case h120 => first | (simp only [List.getElem?_toArray, List.getElem?_cons_zero, List.getElem?_cons_succ]; done) | (simp only [List.getElem?_toArray, List.getElem?_cons_zero, List.getElem?_cons_succ]; exact rfl)
        case q120 => exact fun _ _ _ h => h
        case w120 => rfl
        case y120 =>
          intro w hSw
          (try dsimp only at hSw)
          skip
          go_simp
          try with_reducible rfl
        try simp only [Act.put, List.setIfInBounds_toArray, List.set_cons_zero, List.set_cons_succ]
        refine wpAnyH_done (by kernel_rfl) ?_ _
        by_cases hx : x3 = 0
        · subst hx
          have HQ3 := Lib.hid (show T = seqF _ s3 by rw [HQ2.out, seq_good (by rw [← HX3.out]), ← HX3.out])
          have HA3 := Lib.hid (show s3.acts ≤ s.acts + 3 by have h1 := wr_acts a (hdr i b) s2; rw [← HX3.out] at h1; simp only at h1; have h2 := HA2.out; omega)
          obtain ⟨pk, hdk, hbk, hnk⟩ := HR3.out.ex
          have hsy := rsync_s hdk (by have := HA3.out; have := HB.out.2.2.2.2.2; omega)
          obtain ⟨x4, s4, hr⟩ : ∃ x y, (x, y) = dSync s3 := ⟨_, _, rfl⟩
          rw [hbk, ← HPB.out, ← hr] at hsy
          have HSY := Lib.hid hsy
          have HDK := Lib.hid (And.intro hbk hnk)
          have HX4 := Lib.hid hr
          clear hsy hdk hbk hnk hr
          go_wp2_with fail
          refine HSY.out.mono ?_
          rintro e w4 ⟨rfl, hS⟩
          have c4 : w4.cell? ⟨q, 0, none⟩ = some (.pointer (some ⟨pb, 0, none⟩)) := hS.fp.cell c3 (fun ho => HQN.out _ HDK.out.2 ho)
          have HR4 := Lib.hid (RfS.then HDK.out.1 HDK.out.2 HR3.out.fp hS)
          clear hS
          have hQ : T = (x4, s4) := by rw [HQ3.out, seq_last, ← HX4.out]
          have HQ := Lib.hid hQ
          clear hQ
          go_wp2
          go_ret
          exact ⟨by rw [HQ.out]; rfl, by rw [HQ.out]; exact HR4.out⟩
        · have hQ : T = (x3, s3) := by rw [HQ2.out, seq_bad (by rw [← HX3.out]; exact hx), ← HX3.out]
          have HQ := Lib.hid hQ
          have g1 : (x3 = 0) = False := eq_false hx
          have g2 : (x3 == 0) = false := beq_eq_false_iff_ne.2 hx
          clear hQ hx
          go_wp2
          go_ret
          exact ⟨by rw [HQ.out]; rfl, by rw [HQ.out]; exact HR3.out⟩
      · have hQ : T = (x2, s2) := by rw [HQ1.out, seq_bad (by rw [← HX2.out]; exact hx), ← HX2.out]
        have HQ := Lib.hid hQ
        have g1 : (x2 = 0) = False := eq_false hx
        have g2 : (x2 == 0) = false := beq_eq_false_iff_ne.2 hx
        clear hQ hx
        go_wp2
        go_ret
        exact ⟨by rw [HQ.out]; rfl, by rw [HQ.out]; exact HR2.out⟩
    · have hQ : T = (x1, s1) := by rw [HQ0.out, seq_bad (by rw [← HX1.out]; exact hx), ← HX1.out]
      have HQ := Lib.hid hQ
      have g1 : (x1 = 0) = False := eq_false hx
      have g2 : (x1 == 0) = false := beq_eq_false_iff_ne.2 hx
      clear hQ hx
      go_wp2
      go_ret
      exact ⟨by rw [HQ.out]; rfl, by rw [HQ.out]; exact HR1.out⟩
end Go.Proofs.YtankfmlafmjaeaaGreat
