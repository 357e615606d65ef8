/- The document's own path functions, walked. -/
import Derived.Test.YtcjpgenlhphapaaRb
import Derived.Laws.AppendOwnNone
namespace Go.Proofs.Ytcjpgenlhphapaa
set_option maxRecDepth 20000
open Go.RowKit Pm

set_option maxHeartbeats 1000000 in
theorem rpath_c (g cap : Nat) (p : Bs) (r : List Bs) (w : World) (h : Lies w g cap (p :: r)) (hn : (p :: r).length ≤ 1000) (hl : lens (p :: r) ≤ 500000000) :
    Calls Try.prog 76 #[.slice (some ⟨g, 0, none⟩) (r.length + 1) cap] w fun e w' => e = .returned (.string (B (joinP (p :: r)))) ∧ w = w' := by
  obtain ⟨ps, hps⟩ : ∃ ps, ps = p :: r := ⟨_, rfl⟩
  have hlen : ps.length = r.length + 1 := by rw [hps]; rfl
  rw [← hps] at h hn hl ⊢
  rw [← hlen]
  have h0 : ((ps.length : Int) == 0) = false := beq_eq_false_iff_ne.2 (by omega)
  have hjoin : joinP ps = flat ps := by rw [hps]; exact joinP_cons p r
  have HJ := Lib.hid hjoin; clear hjoin hps hlen
  have hc := h.cell
  unfold strV at hc
  have HC := Lib.hid hc; clear hc
  have hroom := h.room
  have hfl := flat_len ps
  have HF := Lib.hid hfl; clear hfl h
  go_enter Try.func76, Try.ntmps76
  go_wp2
  go_loop [3, 4] (fun o i => ∃ k : Nat, k ≤ ps.length ∧ i = .int .i64 k ∧ o = .string (B (flat (ps.take k)))) (fun _ i => ps.length - (intOf i).toNat)
  case atStart => exact ⟨0, Nat.zero_le _, rfl, rfl⟩
  case round =>
    obtain ⟨k, hk, rfl, rfl⟩ := hrel
    by_cases hlt : k < ps.length
    · have hc := HC.out k hlt
      have hst := flat_take_succ ps k hlt
      have hb : (flat (ps.take k)).length + 1 + (ps[k]).length ≤ 600000000 := by
        have e3 := congrArg List.length hst
        have e4 := flat_len (ps.take (k + 1))
        have e6 := lens_take_le ps (k + 1)
        have e7 : (ps.take (k + 1)).length ≤ ps.length := by rw [List.length_take]; omega
        simp only [List.length_append, List.length_cons, List.length_nil] at e3
        omega
      have HS := Lib.hid hst; clear hst
      generalize hx : ps[k] = x at hc hb HS
      clear hx
      generalize hJ : flat (ps.take k) = J at hb HS
      clear hJ
      go_wp2
      go_round
      case rel => exact ⟨k + 1, by omega, by go_num, by rw [HS.out]; simp⟩
      case measure => simp [intOf]; omega
    · have hke : k = ps.length := by omega
      subst hke
      rw [List.take_length]
      go_wp2
      go_ret
      exact ⟨by rw [HJ.out]; rfl, rfl⟩

theorem rpath_none (a : Option Addr) (c : Nat) (w : World) :
    Calls Try.prog 76 #[.slice a 0 c] w fun e w' => e = .returned (.string (B (joinP []))) ∧ w = w' := by
  go_enter Try.func76, Try.ntmps76
  go_wp2
  go_ret
  exact ⟨rfl, rfl⟩

theorem rpath_any (g cap : Nat) (ps : List Bs) (w : World) (h : Lies w g cap ps) (hP : Parts ps) :
    Calls Try.prog 76 #[.slice (some ⟨g, 0, none⟩) ps.length cap] w fun e w' => e = .returned (.string (B (joinP ps))) ∧ w = w' := by
  have h1 := hP.1
  have h2 := hP.lens
  cases ps with
  | nil => exact rpath_none _ _ _
  | cons p r => exact rpath_c g cap p r w h (by omega) (by omega)

set_option maxHeartbeats 400000 in
theorem rRight_g (l : Bs) (w : World) (hl : sz l) :
    Calls Try.prog 29 #[.string (B l)] w fun e w' => e = .returned (.bool (split l).isSome) ∧ Gr w w' := by
  go_enter Try.func29, Try.ntmps29
  go_wp2_with fail
  refine (rSplit_c l w hl).mono ?_
  rintro e w1 ⟨v, rfl, _, hb⟩
  go_wp2
  go_ret
  exact ⟨rfl, hb⟩

theorem no_parent {l : Bs} (h : parent l = none) : (split l).getD [] = [] := by
  unfold parent at h
  split at h
  · cases h
  · rename_i hx
    cases hs : split l with
    | none => rfl
    | some ps => cases ps with
      | nil => rfl
      | cons p r => exact absurd hs (hx p r)
theorem has_parent {l a : Bs} (h : parent l = some a) : ∃ p r, split l = some (p :: r) ∧ a = joinP (p :: r).dropLast := by
  unfold parent at h
  split at h
  · rename_i p r hs; injection h with h; exact ⟨p, r, hs, h.symm⟩
  · cases h

set_option maxHeartbeats 400000 in
theorem rParent_g (l : Bs) (w : World) (hl : sz l) :
    Calls Try.prog 72 #[.string (B l)] w fun e w' => e = .returned (.tuple #[.string (B ((parent l).getD [])), .bool (parent l).isSome]) ∧ Gr w w' := by
  cases hp : parent l with
  | none =>
    have HN := Lib.hid (no_parent hp); clear hp
    cases hs : (split l).isSome with
    | false =>
      have HS := Lib.hid hs; clear hs
      go_enter Try.func72, Try.ntmps72
      go_wp2_with fail
      refine (rSplit_c l w hl).mono ?_
      rintro e w1 ⟨v, rfl, hown, hb⟩
      rw [HS.out]
      go_wp2
      go_ret2
      exact ⟨rfl, hb⟩
    | true =>
      have HS := Lib.hid hs; clear hs
      go_enter Try.func72, Try.ntmps72
      go_wp2_with fail
      refine (rSplit_c l w hl).mono ?_
      rintro e w1 ⟨v, rfl, hown, hb⟩
      rw [HS.out]
      rw [HN.out] at hown
      obtain rfl := hown.2 rfl
      go_wp2
      go_ret2
      exact ⟨rfl, hb⟩
  | some a =>
    obtain ⟨p, r, hs, rfl⟩ := has_parent hp
    have hP := ((split_iff _ _).1 hs).1
    have HS := Lib.hid hs; clear hs hp
    go_enter Try.func72, Try.ntmps72
    go_wp2_with fail
    refine (rSplit_c l w hl).mono ?_
    rintro e w1 ⟨v, rfl, hown, hb⟩
    rw [HS.out] at hown ⊢
    obtain ⟨g, cap, rfl, hg, hlies⟩ := hown.lies
    have h6 := hP.1
    have hc1 := hlies.room
    have hc2 := hlies.most
    unfold maxLen at hc2
    simp only [List.length_cons] at hc1 h6
    have hd : (p :: r).dropLast = (p :: r).take r.length := by rw [List.dropLast_eq_take]; simp
    have hlen : ((p :: r).take r.length).length = r.length := by simp
    have hw := rpath_any g cap ((p :: r).take r.length) w1 (hlies.take _) (hP.take _)
    rw [hlen, ← hd] at hw
    have HW := Lib.hid hw; clear hw hlen hd hlies
    go_wp2_with fail
    refine HW.out.mono ?_
    rintro e w2 ⟨rfl, rfl⟩
    go_wp2
    go_ret2
    exact ⟨rfl, hb⟩

theorem rPart_at (q : Bs) (b : Bool) (w : World) (hl : sz q) (h : isPart q = b) :
    Calls Try.prog 51 #[.string (B q)] w fun e w' => e = .returned (.bool b) ∧ w = w' := by
  rw [← h]; exact rPart_c q w (Nat.le_trans hl (by omega))

theorem rpath_snoc (b0 : Nat) (v : Value) (ps : List Bs) (q : Bs) (w : World) (h : Own b0 w v (ps ++ [q])) (hP : Parts (ps ++ [q])) :
    Calls Try.prog 76 #[v] w fun e w' => e = .returned (.string (B (joinP (ps ++ [q])))) ∧ w = w' := by
  cases he : ps ++ [q] with
  | nil => simp at he
  | cons p r =>
    rw [he] at h hP
    obtain ⟨g, cap, rfl, _, hl⟩ := h.lies
    exact rpath_any g cap (p :: r) w hl hP

theorem Lies.news {w : World} {g cap : Nat} {ps : List Bs} (h : Lies w g cap ps) : ∀ j u, (ps.map strV)[j]? = some u → w.cell? ((⟨g, 0, none⟩ : Addr).add j) = some u := by
  intro j u hj
  rw [List.getElem?_map, Option.map_eq_some_iff] at hj
  obtain ⟨x, hx, rfl⟩ := hj
  obtain ⟨hlt, rfl⟩ := List.getElem?_eq_some_iff.1 hx
  have e : (⟨g, 0, none⟩ : Addr).add j = ⟨g, j, none⟩ := by cases j <;> simp [Addr.add]
  rw [e]; exact h.cell j hlt
theorem many_c2 (ps : List Bs) : ∀ u, u ∈ ps.map strV → u.oneCell' = true := by
  intro u hu; simp at hu; obtain ⟨x, _, rfl⟩ := hu; rfl

end Go.Proofs.Ytcjpgenlhphapaa
