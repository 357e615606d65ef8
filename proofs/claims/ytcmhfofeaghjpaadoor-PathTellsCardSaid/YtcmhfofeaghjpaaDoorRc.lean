/- The document's own path functions, walked. -/
import Derived.Test.YtcmhfofeaghjpaaDoorRb
import Derived.Laws.AppendOwnNone
namespace Go.Proofs.YtcmhfofeaghjpaaDoor
open Go.RowKit Pm

set_option maxHeartbeats 1000000 in
theorem rpath_c (g cap : Nat) (p : Bs) (r : List Bs) (w : World) (h : Lies w g cap (p :: r)) (hn : (p :: r).length ≤ 1000) (hl : lens (p :: r) ≤ 500000000) :
    Calls Tryd.prog 28 #[.slice (some ⟨g, 0, none⟩) (r.length + 1) cap] w fun e w' => e = .returned (.string (B (joinP (p :: r)))) ∧ w = w' := by
  obtain ⟨ps, hps⟩ : ∃ ps, ps = p :: r := ⟨_, rfl⟩
  have hlen : ps.length = r.length + 1 := by rw [hps]; rfl
  rw [← hps] at h hn hl ⊢
  rw [← hlen]
  have h0 : ((ps.length : Int) == 0) = false := beq_eq_false_iff_ne.2 (by omega)
  have hjoin : joinP ps = flat ps := by rw [hps]; exact joinP_cons p r
  have HJ := Lib.hid hjoin; clear hjoin hps hlen
  have hc := h.cell
  unfold strV at hc
  have HC := Lib.hid hc; clear hc
  have hroom := h.room
  have hfl := flat_len ps
  have HF := Lib.hid hfl; clear hfl h
  go_enter Tryd.func28, Tryd.ntmps28
  go_wp2
  go_loop [3, 4] (fun o i => ∃ k : Nat, k ≤ ps.length ∧ i = .int .i64 k ∧ o = .string (B (flat (ps.take k)))) (fun _ i => ps.length - (intOf i).toNat)
  case atStart => exact ⟨0, Nat.zero_le _, rfl, rfl⟩
  case round =>
    obtain ⟨k, hk, rfl, rfl⟩ := hrel
    by_cases hlt : k < ps.length
    · have hc := HC.out k hlt
      have hst := flat_take_succ ps k hlt
      have hb : (flat (ps.take k)).length + 1 + (ps[k]).length ≤ 600000000 := by
        have e3 := congrArg List.length hst
        have e4 := flat_len (ps.take (k + 1))
        have e6 := lens_take_le ps (k + 1)
        have e7 : (ps.take (k + 1)).length ≤ ps.length := by rw [List.length_take]; omega
        simp only [List.length_append, List.length_cons, List.length_nil] at e3
        omega
      have HS := Lib.hid hst; clear hst
      generalize hx : ps[k] = x at hc hb HS
      clear hx
      generalize hJ : flat (ps.take k) = J at hb HS
      clear hJ
      go_wp2
      go_round
      case rel => exact ⟨k + 1, by omega, by go_num, by rw [HS.out]; simp⟩
      case measure => simp [intOf]; omega
    · have hke : k = ps.length := by omega
      subst hke
      rw [List.take_length]
      go_wp2
      go_ret
      exact ⟨by rw [HJ.out]; rfl, rfl⟩

theorem rpath_none (a : Option Addr) (c : Nat) (w : World) :
    Calls Tryd.prog 28 #[.slice a 0 c] w fun e w' => e = .returned (.string (B (joinP []))) ∧ w = w' := by
  go_enter Tryd.func28, Tryd.ntmps28
  go_wp2
  go_ret
  exact ⟨rfl, rfl⟩

theorem rpath_any (g cap : Nat) (ps : List Bs) (w : World) (h : Lies w g cap ps) (hP : Parts ps) :
    Calls Tryd.prog 28 #[.slice (some ⟨g, 0, none⟩) ps.length cap] w fun e w' => e = .returned (.string (B (joinP ps))) ∧ w = w' := by
  have h1 := hP.1
  have h2 := hP.lens
  cases ps with
  | nil => exact rpath_none _ _ _
  | cons p r => exact rpath_c g cap p r w h (by omega) (by omega)

set_option maxHeartbeats 400000 in
theorem rRight_g (l : Bs) (w : World) (hl : sz l) :
    Calls Tryd.prog 15 #[.string (B l)] w fun e w' => e = .returned (.bool (split l).isSome) ∧ Gr w w' := by
  go_enter Tryd.func15, Tryd.ntmps15
  go_wp2_with fail
  refine (rSplit_c l w hl).mono ?_
  rintro e w1 ⟨v, rfl, _, hb⟩
  go_wp2
  go_ret
  exact ⟨rfl, hb⟩

theorem no_parent {l : Bs} (h : parent l = none) : (split l).getD [] = [] := by
  unfold parent at h
  split at h
  · cases h
  · rename_i hx
    cases hs : split l with
    | none => rfl
    | some ps => cases ps with
      | nil => rfl
      | cons p r => exact absurd hs (hx p r)
theorem has_parent {l a : Bs} (h : parent l = some a) : ∃ p r, split l = some (p :: r) ∧ a = joinP (p :: r).dropLast := by
  unfold parent at h
  split at h
  · rename_i p r hs; injection h with h; exact ⟨p, r, hs, h.symm⟩
  · cases h

set_option maxHeartbeats 400000 in
theorem rParent_g (l : Bs) (w : World) (hl : sz l) :
    Calls Tryd.prog 13 #[.string (B l)] w fun e w' => e = .returned (.tuple #[.string (B ((parent l).getD [])), .bool (parent l).isSome]) ∧ Gr w w' := by
  cases hp : parent l with
  | none =>
    have HN := Lib.hid (no_parent hp); clear hp
    cases hs : (split l).isSome with
    | false =>
      have HS := Lib.hid hs; clear hs
      go_enter Tryd.func13, Tryd.ntmps13
      go_wp2_with fail
      refine (rSplit_c l w hl).mono ?_
      rintro e w1 ⟨v, rfl, hown, hb⟩
      rw [HS.out]
      go_wp2
      go_ret2
      exact ⟨rfl, hb⟩
    | true =>
      have HS := Lib.hid hs; clear hs
      go_enter Tryd.func13, Tryd.ntmps13
      go_wp2_with fail
      refine (rSplit_c l w hl).mono ?_
      rintro e w1 ⟨v, rfl, hown, hb⟩
      rw [HS.out]
      rw [HN.out] at hown
      obtain rfl := hown.2 rfl
      go_wp2
      go_ret2
      exact ⟨rfl, hb⟩
  | some a =>
    obtain ⟨p, r, hs, rfl⟩ := has_parent hp
    have hP := ((split_iff _ _).1 hs).1
    have HS := Lib.hid hs; clear hs hp
    go_enter Tryd.func13, Tryd.ntmps13
    go_wp2_with fail
    refine (rSplit_c l w hl).mono ?_
    rintro e w1 ⟨v, rfl, hown, hb⟩
    rw [HS.out] at hown ⊢
    obtain ⟨g, cap, rfl, hg, hlies⟩ := hown.lies
    have h6 := hP.1
    have hc1 := hlies.room
    have hc2 := hlies.most
    unfold maxLen at hc2
    simp only [List.length_cons] at hc1 h6
    have hd : (p :: r).dropLast = (p :: r).take r.length := by rw [List.dropLast_eq_take]; simp
    have hlen : ((p :: r).take r.length).length = r.length := by simp
    have hw := rpath_any g cap ((p :: r).take r.length) w1 (hlies.take _) (hP.take _)
    rw [hlen, ← hd] at hw
    have HW := Lib.hid hw; clear hw hlen hd hlies
    go_wp2_with fail
    refine HW.out.mono ?_
    rintro e w2 ⟨rfl, rfl⟩
    go_wp2
    go_ret2
    exact ⟨rfl, hb⟩

set_option maxHeartbeats 400000 in
theorem rLast_g (l : Bs) (w : World) (hl : sz l) :
    Calls Tryd.prog 18 #[.string (B l)] w fun e w' => e = .returned (.string (B (last l))) ∧ Gr w w' := by
  cases hp : parent l with
  | none =>
    have HN := Lib.hid (no_parent hp)
    have HL := Lib.hid (parent_none hp).2; clear hp
    cases hs : (split l).isSome with
    | false =>
      have HS := Lib.hid hs; clear hs
      go_enter Tryd.func18, Tryd.ntmps18
      go_wp2_with fail
      refine (rSplit_c l w hl).mono ?_
      rintro e w1 ⟨v, rfl, hown, hb⟩
      rw [HS.out]
      go_wp2
      go_ret
      exact ⟨by rw [HL.out]; rfl, hb⟩
    | true =>
      have HS := Lib.hid hs; clear hs
      go_enter Tryd.func18, Tryd.ntmps18
      go_wp2_with fail
      refine (rSplit_c l w hl).mono ?_
      rintro e w1 ⟨v, rfl, hown, hb⟩
      rw [HS.out]
      rw [HN.out] at hown
      obtain rfl := hown.2 rfl
      go_wp2
      go_ret
      exact ⟨by rw [HL.out]; rfl, hb⟩
  | some a =>
    obtain ⟨p, r, hs, rfl⟩ := has_parent hp
    obtain ⟨q, hq⟩ : ∃ q, (p :: r)[r.length]'(by simp) = q := ⟨_, rfl⟩
    have hlast : last l = q := by unfold last; rw [hs, ← hq]; simp [List.getLast_eq_getElem]
    have hP := ((split_iff _ _).1 hs).1
    have HS := Lib.hid hs; clear hs hp
    have HL := Lib.hid hlast; clear hlast
    go_enter Tryd.func18, Tryd.ntmps18
    go_wp2_with fail
    refine (rSplit_c l w hl).mono ?_
    rintro e w1 ⟨v, rfl, hown, hb⟩
    rw [HS.out] at hown ⊢
    obtain ⟨g, cap, rfl, hg, hlies⟩ := hown.lies
    have h6 := hP.1
    simp only [List.length_cons] at h6
    have hc := hlies.cell r.length (by simp)
    rw [hq] at hc
    unfold strV at hc
    clear hown hlies hq
    go_wp2
    go_ret
    exact ⟨by rw [HL.out]; rfl, hb⟩

theorem rPart_at (q : Bs) (b : Bool) (w : World) (hl : sz q) (h : isPart q = b) :
    Calls Tryd.prog 26 #[.string (B q)] w fun e w' => e = .returned (.bool b) ∧ w = w' := by
  rw [← h]; exact rPart_c q w (Nat.le_trans hl (by omega))

set_option maxHeartbeats 1000000 in
theorem rJoin_no (l q : Bs) (w : World) (hl : sz l) (hq : sz q) (hj : join l q = none) :
    Calls Tryd.prog 20 #[.string (B l), .string (B q)] w fun e w' => e = .returned (.tuple #[.string (B []), .bool false]) ∧ Gr w w' := by
  cases hs : split l with
  | none =>
    have HS := Lib.hid hs; clear hs hj
    go_enter Tryd.func20, Tryd.ntmps20
    go_wp2_with fail
    refine (rSplit_c l w hl).mono ?_
    rintro e w1 ⟨v, rfl, hown, hb⟩
    rw [HS.out]
    go_wp2
    go_ret2
    exact ⟨rfl, hb⟩
  | some ps =>
    have HS := Lib.hid hs
    cases hp : isPart q with
    | false =>
      have HP := Lib.hid (fun w => rPart_at q false w hq hp); clear hp hj hs
      go_enter Tryd.func20, Tryd.ntmps20
      go_wp2_with fail
      refine (rSplit_c l w hl).mono ?_
      rintro e w1 ⟨v, rfl, hown, hb⟩
      rw [HS.out]
      go_wp2_with fail
      refine (HP.out _).mono ?_
      rintro e w2 ⟨rfl, rfl⟩
      go_wp2
      go_ret2
      exact ⟨rfl, hb⟩
    | true =>
      have h6 : 6 ≤ ps.length := by
        unfold join at hj; rw [hs] at hj; simp only at hj
        by_cases h : ps.length < 6
        · rw [if_pos ⟨hp, h⟩] at hj; cases hj
        · omega
      have h66 := ((split_iff _ _).1 hs).1.1
      have HP := Lib.hid (fun w => rPart_at q true w hq hp); clear hp hj hs
      go_enter Tryd.func20, Tryd.ntmps20
      go_wp2_with fail
      refine (rSplit_c l w hl).mono ?_
      rintro e w1 ⟨v, rfl, hown, hb⟩
      rw [HS.out] at hown ⊢
      have hown : Own w.heap.size w1 v ps := hown
      obtain ⟨ao, cap, rfl⟩ := hown.shape
      go_wp2_with fail
      refine (HP.out _).mono ?_
      rintro e w2 ⟨rfl, rfl⟩
      go_wp2
      go_ret2
      exact ⟨rfl, hb⟩

theorem rpath_snoc (b0 : Nat) (v : Value) (ps : List Bs) (q : Bs) (w : World) (h : Own b0 w v (ps ++ [q])) (hP : Parts (ps ++ [q])) :
    Calls Tryd.prog 28 #[v] w fun e w' => e = .returned (.string (B (joinP (ps ++ [q])))) ∧ w = w' := by
  cases he : ps ++ [q] with
  | nil => simp at he
  | cons p r =>
    rw [he] at h hP
    obtain ⟨g, cap, rfl, _, hl⟩ := h.lies
    exact rpath_any g cap (p :: r) w hl hP

theorem Lies.news {w : World} {g cap : Nat} {ps : List Bs} (h : Lies w g cap ps) : ∀ j u, (ps.map strV)[j]? = some u → w.cell? ((⟨g, 0, none⟩ : Addr).add j) = some u := by
  intro j u hj
  rw [List.getElem?_map, Option.map_eq_some_iff] at hj
  obtain ⟨x, hx, rfl⟩ := hj
  obtain ⟨hlt, rfl⟩ := List.getElem?_eq_some_iff.1 hx
  have e : (⟨g, 0, none⟩ : Addr).add j = ⟨g, j, none⟩ := by cases j <;> simp [Addr.add]
  rw [e]; exact h.cell j hlt
theorem many_c2 (ps : List Bs) : ∀ u, u ∈ ps.map strV → u.oneCell' = true := by
  intro u hu; simp at hu; obtain ⟨x, _, rfl⟩ := hu; rfl

set_option maxHeartbeats 1000000 in
theorem rJoin_yes (l q : Bs) (w : World) (hl : sz l) (hq : sz q) (ps : List Bs) (hs : split l = some ps) (hp : isPart q = true) (h6 : ps.length < 6) :
    Calls Tryd.prog 20 #[.string (B l), .string (B q)] w fun e w' => e = .returned (.tuple #[.string (B (joinP (ps ++ [q]))), .bool true]) ∧ Gr w w' := by
  obtain ⟨i0, hi, hz0, hz1, hz2⟩ := info_parts Tryd.infoS
  have hP := ((split_iff _ _).1 hs).1
  have HS := Lib.hid hs; clear hs
  have HP := Lib.hid (fun w => rPart_at q true w hq hp)
  go_enter Tryd.func20, Tryd.ntmps20
  go_wp2_with fail
  refine (rSplit_c l w hl).mono ?_
  rintro e w1 ⟨v, rfl, hown, hb⟩
  rw [HS.out] at hown ⊢
  have hown : Own w.heap.size w1 v ps := hown
  have hs1 := hb.size
  cases ps with
  | nil =>
    obtain rfl := hown.2 rfl
    go_wp2_with fail
    refine (HP.out _).mono ?_
    rintro e w2 ⟨rfl, rfl⟩
    have hrow : (w1.alloc (.cells #[] 9)).ownsRow w.heap.size 9 1 (.slice (some ⟨w1.heap.size, 0, none⟩) 0 0) 0 [] := World.ownsRow_lit w1 #[] 0 hs1 (by simp [maxLen]) rfl
    have hs2 : w.heap.size ≤ (w1.alloc (.cells #[] 9)).heap.size := by simp; omega
    have hb2 := hb.alloc hs1 (.cells #[] 9)
    have b1 := cell_one_new (w1.alloc (.cells #[] 9)) (strV q) 9
    simp at b1
    go_wp2_with (first
      | (at_builtin; refine wpList_append_own_none rfl (.tmp 25) (.tmp 26) 23 rfl w.heap.size 9 i0 1 Tryd.underlying23 hi _ _ _ rfl hrow rfl ?_)
      | (at_builtin; go_must (refine wpList_append_own _ rfl (.tmp 27) (.tmp 29) 23 rfl w.heap.size 9 i0 (.string ⟨#[]⟩) 1 16 Tryd.underlying23 hi hz0 hz1 hz2 rfl (by decide) _ _ _ rfl (hrow.alloc _) ⟨w1.heap.size + 1, 0, none⟩ 1 1 [strV q] rfl rfl b1 (one_c2 _) (by unfold maxLen; omega) (by omega) (by simp; omega) ?_; intro v' w3 hown' hgrow _)))
    obtain ⟨hO, hB⟩ := Own.push (acc := []) hrow hb2 hs2 hown' hgrow
    clear hown' hgrow
    have HW := Lib.hid (rpath_snoc w.heap.size v' [] q w3 hO (hP.snoc h6 hp))
    clear hO
    refine HW.out.mono ?_
    rintro e w4 ⟨rfl, rfl⟩
    go_wp2
    go_ret2
    exact ⟨rfl, hB⟩
  | cons p r =>
    obtain ⟨g, cap, rfl, hg, hlies⟩ := hown.lies
    have h66 := h6
    simp only [List.length_cons] at h66
    have hcap := hlies.room
    have hmost := hlies.most
    unfold maxLen at hmost
    simp only [List.length_cons] at hcap
    have hlies2 := hlies.below (Below.alloc (Below.refl w1.heap.size w1) (Nat.le_refl _) (.cells #[] 9)) hlies.lt
    have hnews := hlies2.news
    have hrow : (w1.alloc (.cells #[] 9)).ownsRow w.heap.size 9 1 (.slice (some ⟨w1.heap.size, 0, none⟩) 0 0) 0 [] := World.ownsRow_lit w1 #[] 0 hs1 (by simp [maxLen]) rfl
    have hs2 : w.heap.size ≤ (w1.alloc (.cells #[] 9)).heap.size := by simp; omega
    have hb2 := hb.alloc hs1 (.cells #[] 9)
    clear hown hlies hlies2
    go_wp2_with fail
    refine (HP.out _).mono ?_
    rintro e w2 ⟨rfl, rfl⟩
    go_wp2_with (at_builtin; go_must (refine wpList_append_own _ rfl (.tmp 25) (.tmp 26) 23 rfl w.heap.size 9 i0 (.string ⟨#[]⟩) 1 16 Tryd.underlying23 hi hz0 hz1 hz2 rfl (by decide) _ _ _ rfl hrow ⟨g, 0, none⟩ (r.length + 1) cap ((p :: r).map strV) rfl (by simp) hnews (many_c2 _) (by unfold maxLen; omega) (by omega) hs2 ?_))
    intro v1 W hrow1 hgrow1 _
    have hB1 := hb2.grown hgrow1 hs2 (fun k hk => (hrow.lt k hk).1)
    have hS1 := hB1.size
    have hrow1' : W.ownsRow w.heap.size 9 1 v1 (p :: r).length ((p :: r).map strV) := by simpa using hrow1
    clear hrow1 hgrow1 hrow hnews hb2 hs2
    go_wp2_with (at_builtin; go_must (refine wpList_append_own _ rfl (.tmp 27) (.tmp 29) 23 rfl w.heap.size 9 i0 (.string ⟨#[]⟩) 1 16 Tryd.underlying23 hi hz0 hz1 hz2 rfl (by decide) _ _ _ rfl (hrow1'.alloc _) ⟨W.heap.size, 0, none⟩ 1 1 [strV q] rfl rfl (cell_one_new _ _ _) (one_c2 _) (by unfold maxLen; simp; omega) (by simp; omega) (by simp; omega) ?_; intro v' w3 hown' hgrow _))
    obtain ⟨hO, hB⟩ := Own.push hrow1' hB1 hS1 hown' hgrow
    clear hown' hgrow
    have HW := Lib.hid (rpath_snoc w.heap.size v' (p :: r) q w3 hO (hP.snoc h6 hp))
    clear hO
    refine HW.out.mono ?_
    rintro e w4 ⟨rfl, rfl⟩
    go_wp2
    go_ret2
    exact ⟨rfl, hB⟩

theorem rJoin_g (l q : Bs) (w : World) (hl : sz l) (hq : sz q) :
    Calls Tryd.prog 20 #[.string (B l), .string (B q)] w fun e w' => e = .returned (.tuple #[.string (B ((join l q).getD [])), .bool (join l q).isSome]) ∧ Gr w w' := by
  cases hj : join l q with
  | none => exact rJoin_no l q w hl hq hj
  | some c =>
    unfold join at hj
    split at hj
    · rename_i ps hs
      split at hj
      · rename_i hc
        injection hj with hj; subst hj
        exact rJoin_yes l q w hl hq ps hs hc.1 hc.2
      · cases hj
    · cases hj

/-- Equal, element by element. -/
theorem rSame_c (g1 c1 g2 c2 : Nat) (a b : List Bs) (w : World) (h1 : Lies w g1 c1 a) (h2 : Lies w g2 c2 b) (hab : a = b) :
    Calls Tryd.prog 16 #[.slice (some ⟨g1, 0, none⟩) a.length c1, .slice (some ⟨g2, 0, none⟩) b.length c2] w fun e w' => e = .returned (.bool true) ∧ Dr w w' := by
  subst hab
  have hc1 := h1.cell
  have hc2 := h2.cell
  have hr1 := h1.room
  have hm1 := h1.most
  unfold strV at hc1 hc2
  unfold maxLen at hm1
  have H1 := Lib.hid hc1; clear hc1 h1
  have H2 := Lib.hid hc2; clear hc2 h2
  go_enter Tryd.func16, Tryd.ntmps16
  go_wp2
  go_loopw [5] (fun i wr => ∃ k : Nat, k ≤ a.length ∧ i = .int .i64 k ∧ Dr w wr) (fun i _ => a.length - (intOf i).toNat)
  case atStart => exact ⟨0, Nat.zero_le _, rfl, Dr.refl _⟩
  case round =>
    obtain ⟨k, hk, rfl, hd⟩ := hrel
    by_cases hlt : k < a.length
    · have e1 := H1.out k hlt
      have e2 := H2.out k hlt
      generalize a[k] = x at e1 e2
      have e1' : wr.cell? ⟨g1, k, none⟩ = some (.string (B x)) := by obtain ⟨n, rfl⟩ := hd; exact e1
      have e2' : wr.cell? ⟨g2, k, none⟩ = some (.string (B x)) := by obtain ⟨n, rfl⟩ := hd; exact e2
      have hlti : (k : Int) < (a.length : Int) := by omega
      clear e1 e2
      go_wp2
      go_quiet (fail)
      go_wp2
      go_roundw
      case rel => exact ⟨k + 1, by omega, by go_num, hd.trans (Dr.of _ _)⟩
      case measure => simp [intOf]; omega
    · go_wp2
      go_ret
      exact ⟨rfl, hd⟩
end Go.Proofs.YtcmhfofeaghjpaaDoor
