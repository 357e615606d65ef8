/- A text of this proof. -/
import Derived.Laws.AppendOwnNone
import Derived.Test.YtphoglepiegeiaaGreatDoorZCC
import Derived.Test.YtphoglepiegeiaaGreatDoorZCD
import Derived.Test.YtphoglepiegeiaaGreatDoorZCE
import Derived.Test.YtphoglepiegeiaaGreatDoorZCF
import Derived.Test.YtphoglepiegeiaaGreatDoorZCG
import Derived.Test.YtphoglepiegeiaaGreatDoorZCM
import Derived.Test.YtphoglepiegeiaaGreatDoorZCO
import Derived.Test.YtphoglepiegeiaaGreatDoorZCS
import Derived.Test.YtphoglepiegeiaaGreatDoorZCV
set_option linter.unusedSimpArgs false
set_option linter.unusedVariables false
namespace Go.Proofs.YtphoglepiegeiaaGreatDoor
set_option maxRecDepth 20000
open Go.RowKit Pm
set_option maxHeartbeats 1000000 in
theorem rpath_c (g cap : Nat) (p : Bs) (r : List Bs) (w : World) (h : Lies w g cap (p :: r)) (hn : (p :: r).length ≤ 1000) (hl : lens (p :: r) ≤ 500000000) :
  Calls Tryz.prog 111 #[.slice (some ⟨g, 0, none⟩) (r.length + 1) cap] w fun e w' => e = .returned (.string (B (joinP (p :: r)))) ∧ w = w' := by
 obtain ⟨ps, hps⟩ : ∃ ps, ps = p :: r := ⟨_, rfl⟩
 have hlen : ps.length = r.length + 1 := by rw [hps]; rfl
 rw [← hps] at h hn hl ⊢
 rw [← hlen]
 have h0 : ((ps.length : Int) == 0) = false := beq_eq_false_iff_ne.2 (by omega)
 have hjoin : joinP ps = flat ps := by rw [hps]; exact joinP_cons p r
 have HJ := Lib.hid hjoin; clear hjoin hps hlen
 have hc := h.cell
 unfold strV at hc
 have HC := Lib.hid hc; clear hc
 have hroom := h.room
 have hfl := flat_len ps
 have HF := Lib.hid hfl; clear hfl h
 go_enter Tryz.func111, Tryz.ntmps111
 go_wp2
 go_loop [3, 4] (fun o i => ∃ k : Nat, k ≤ ps.length ∧ i = .int .i64 k ∧ o = .string (B (flat (ps.take k)))) (fun _ i => ps.length - (intOf i).toNat)
 case atStart => exact ⟨0, Nat.zero_le _, rfl, rfl⟩
 obtain ⟨k, hk, rfl, rfl⟩ := hrel
 by_cases hlt : k < ps.length
 ·have hc := HC.out k hlt
  have hst := flat_take_succ ps k hlt
  have hb : (flat (ps.take k)).length + 1 + (ps[k]).length ≤ 600000000 := by
   have e3 := congrArg List.length hst
   have e4 := flat_len (ps.take (k + 1))
   have e6 := lens_take_le ps (k + 1)
   have e7 : (ps.take (k + 1)).length ≤ ps.length := by rw [List.length_take]; omega
   simp only [List.length_append, List.length_cons, List.length_nil] at e3
   omega
  have HS := Lib.hid hst; clear hst
  generalize hx : ps[k] = x at hc hb HS
  clear hx
  generalize hJ : flat (ps.take k) = J at hb HS
  clear hJ
  go_wp2
  go_round
  case rel => exact ⟨k + 1, by omega, by go_num, by rw [HS.out]; simp⟩
  case measure => simp [intOf]; omega
 have hke : k = ps.length := by omega
 subst hke
 rw [List.take_length]
 go_wp2
 go_ret
 exact ⟨by rw [HJ.out]; rfl, rfl⟩
theorem rpath_none (a : Option Addr) (c : Nat) (w : World) :
  Calls Tryz.prog 111 #[.slice a 0 c] w fun e w' => e = .returned (.string (B (joinP []))) ∧ w = w' := by
 go_enter Tryz.func111, Tryz.ntmps111
 go_wp2
 go_ret
 exact ⟨rfl, rfl⟩
theorem rpath_any (g cap : Nat) (ps : List Bs) (w : World) (h : Lies w g cap ps) (hP : Parts ps) :
  Calls Tryz.prog 111 #[.slice (some ⟨g, 0, none⟩) ps.length cap] w fun e w' => e = .returned (.string (B (joinP ps))) ∧ w = w' := by
 have h1 := hP.1
 have h2 := hP.lens
 cases ps with
 | nil => exact rpath_none _ _ _
 | cons p r => exact rpath_c g cap p r w h (by omega) (by omega)
set_option maxHeartbeats 400000 in
theorem rRight_g (l : Bs) (w : World) (hl : sz l) :
  Calls Tryz.prog 67 #[.string (B l)] w fun e w' => e = .returned (.bool (split l).isSome) ∧ Gr w w' := by
 go_enter Tryz.func67, Tryz.ntmps67
 go_wp2_with fail
 refine (rSplit_c l w hl).mono ?_
 rintro e w1 ⟨v, rfl, _, hb⟩
 go_wp2
 go_ret
 exact ⟨rfl, hb⟩
theorem no_parent {l : Bs} (h : parent l = none) : (split l).getD [] = [] := by
 unfold parent at h
 split at h
 ·cases h
 rename_i hx
 cases hs : split l with
 | none => rfl
 | some ps => cases ps with
  | nil => rfl
  | cons p r => exact absurd hs (hx p r)
theorem has_parent {l a : Bs} (h : parent l = some a) : ∃ p r, split l = some (p :: r) ∧ a = joinP (p :: r).dropLast := by
 unfold parent at h
 split at h
 ·rename_i p r hs; injection h with h; exact ⟨p, r, hs, h.symm⟩
 cases h
set_option maxHeartbeats 400000 in
theorem rParent_g (l : Bs) (w : World) (hl : sz l) :
  Calls Tryz.prog 78 #[.string (B l)] w fun e w' => e = .returned (.tuple #[.string (B ((parent l).getD [])), .bool (parent l).isSome]) ∧ Gr w w' := by
 cases hp : parent l with
 | none =>
  have HN := Lib.hid (no_parent hp); clear hp
  cases hs : (split l).isSome with
  | false =>
   have HS := Lib.hid hs; clear hs
   go_enter Tryz.func78, Tryz.ntmps78
   go_wp2_with fail
   refine (rSplit_c l w hl).mono ?_
   rintro e w1 ⟨v, rfl, hown, hb⟩
   rw [HS.out]
   go_wp2
   go_ret2
   exact ⟨rfl, hb⟩
  | true => ?_
  have HS := Lib.hid hs; clear hs
  go_enter Tryz.func78, Tryz.ntmps78
  go_wp2_with fail
  refine (rSplit_c l w hl).mono ?_
  rintro e w1 ⟨v, rfl, hown, hb⟩
  rw [HS.out]
  rw [HN.out] at hown
  obtain rfl := hown.2 rfl
  go_wp2
  go_ret2
  exact ⟨rfl, hb⟩
 | some a => ?_
 obtain ⟨p, r, hs, rfl⟩ := has_parent hp
 have hP := ((split_iff _ _).1 hs).1
 have HS := Lib.hid hs; clear hs hp
 go_enter Tryz.func78, Tryz.ntmps78
 go_wp2_with fail
 refine (rSplit_c l w hl).mono ?_
 rintro e w1 ⟨v, rfl, hown, hb⟩
 rw [HS.out] at hown ⊢
 obtain ⟨g, cap, rfl, hg, hlies⟩ := hown.lies
 have h6 := hP.1
 have hc1 := hlies.room
 have hc2 := hlies.most
 unfold maxLen at hc2
 simp only [List.length_cons] at hc1 h6
 have hd : (p :: r).dropLast = (p :: r).take r.length := by rw [List.dropLast_eq_take]; simp
 have hlen : ((p :: r).take r.length).length = r.length := by simp
 have hw := rpath_any g cap ((p :: r).take r.length) w1 (hlies.take _) (hP.take _)
 rw [hlen, ← hd] at hw
 have HW := Lib.hid hw; clear hw hlen hd hlies
 go_wp2_with fail
 refine HW.out.mono ?_
 rintro e w2 ⟨rfl, rfl⟩
 go_wp2
 go_ret2
 exact ⟨rfl, hb⟩
set_option maxHeartbeats 400000 in
theorem rLast_g (l : Bs) (w : World) (hl : sz l) :
  Calls Tryz.prog 101 #[.string (B l)] w fun e w' => e = .returned (.string (B (last l))) ∧ Gr w w' := by
 cases hp : parent l with
 | none =>
  have HN := Lib.hid (no_parent hp)
  have HL := Lib.hid (parent_none hp).2; clear hp
  cases hs : (split l).isSome with
  | false =>
   have HS := Lib.hid hs; clear hs
   go_enter Tryz.func101, Tryz.ntmps101
   go_wp2_with fail
   refine (rSplit_c l w hl).mono ?_
   rintro e w1 ⟨v, rfl, hown, hb⟩
   rw [HS.out]
   go_wp2
   go_ret
   exact ⟨by rw [HL.out]; rfl, hb⟩
  | true => ?_
  have HS := Lib.hid hs; clear hs
  go_enter Tryz.func101, Tryz.ntmps101
  go_wp2_with fail
  refine (rSplit_c l w hl).mono ?_
  rintro e w1 ⟨v, rfl, hown, hb⟩
  rw [HS.out]
  rw [HN.out] at hown
  obtain rfl := hown.2 rfl
  go_wp2
  go_ret
  exact ⟨by rw [HL.out]; rfl, hb⟩
 | some a => ?_
 obtain ⟨p, r, hs, rfl⟩ := has_parent hp
 obtain ⟨q, hq⟩ : ∃ q, (p :: r)[r.length]'(by simp) = q := ⟨_, rfl⟩
 have hlast : last l = q := by unfold last; rw [hs, ← hq]; simp [List.getLast_eq_getElem]
 have hP := ((split_iff _ _).1 hs).1
 have HS := Lib.hid hs; clear hs hp
 have HL := Lib.hid hlast; clear hlast
 go_enter Tryz.func101, Tryz.ntmps101
 go_wp2_with fail
 refine (rSplit_c l w hl).mono ?_
 rintro e w1 ⟨v, rfl, hown, hb⟩
 rw [HS.out] at hown ⊢
 obtain ⟨g, cap, rfl, hg, hlies⟩ := hown.lies
 have h6 := hP.1
 simp only [List.length_cons] at h6
 have hc := hlies.cell r.length (by simp)
 rw [hq] at hc
 unfold strV at hc
 clear hown hlies hq
 go_wp2
 go_ret
 exact ⟨by rw [HL.out]; rfl, hb⟩
theorem rPart_at (q : Bs) (b : Bool) (w : World) (hl : sz q) (h : isPart q = b) :
  Calls Tryz.prog 138 #[.string (B q)] w fun e w' => e = .returned (.bool b) ∧ w = w' := by
 rw [← h]; exact rPart_c q w (Nat.le_trans hl (by omega))
set_option maxHeartbeats 1000000 in
theorem rJoin_no (l q : Bs) (w : World) (hl : sz l) (hq : sz q) (hj : join l q = none) :
  Calls Tryz.prog 136 #[.string (B l), .string (B q)] w fun e w' => e = .returned (.tuple #[.string (B []), .bool false]) ∧ Gr w w' := by
 cases hs : split l with
 | none =>
  have HS := Lib.hid hs; clear hs hj
  go_enter Tryz.func136, Tryz.ntmps136
  go_wp2_with fail
  refine (rSplit_c l w hl).mono ?_
  rintro e w1 ⟨v, rfl, hown, hb⟩
  rw [HS.out]
  go_wp2
  go_ret2
  exact ⟨rfl, hb⟩
 | some ps => ?_
 have HS := Lib.hid hs
 cases hp : isPart q with
 | false =>
  have HP := Lib.hid (fun w => rPart_at q false w hq hp); clear hp hj hs
  go_enter Tryz.func136, Tryz.ntmps136
  go_wp2_with fail
  refine (rSplit_c l w hl).mono ?_
  rintro e w1 ⟨v, rfl, hown, hb⟩
  rw [HS.out]
  go_wp2_with fail
  refine (HP.out _).mono ?_
  rintro e w2 ⟨rfl, rfl⟩
  go_wp2
  go_ret2
  exact ⟨rfl, hb⟩
 | true => ?_
 have h6 : 6 ≤ ps.length := by
  unfold join at hj; rw [hs] at hj; simp only at hj
  by_cases h : ps.length < 6
  ·rw [if_pos ⟨hp, h⟩] at hj; cases hj
  omega
 have h66 := ((split_iff _ _).1 hs).1.1
 have HP := Lib.hid (fun w => rPart_at q true w hq hp); clear hp hj hs
 go_enter Tryz.func136, Tryz.ntmps136
 go_wp2_with fail
 refine (rSplit_c l w hl).mono ?_
 rintro e w1 ⟨v, rfl, hown, hb⟩
 rw [HS.out] at hown ⊢
 have hown : Own w.heap.size w1 v ps := hown
 obtain ⟨ao, cap, rfl⟩ := hown.shape
 go_wp2_with fail
 refine (HP.out _).mono ?_
 rintro e w2 ⟨rfl, rfl⟩
 go_wp2
 go_ret2
 exact ⟨rfl, hb⟩
theorem rpath_snoc (b0 : Nat) (v : Value) (ps : List Bs) (q : Bs) (w : World) (h : Own b0 w v (ps ++ [q])) (hP : Parts (ps ++ [q])) :
  Calls Tryz.prog 111 #[v] w fun e w' => e = .returned (.string (B (joinP (ps ++ [q])))) ∧ w = w' := by
 cases he : ps ++ [q] with
 | nil => simp at he
 | cons p r => ?_
 rw [he] at h hP
 obtain ⟨g, cap, rfl, _, hl⟩ := h.lies
 exact rpath_any g cap (p :: r) w hl hP
theorem Lies.news {w : World} {g cap : Nat} {ps : List Bs} (h : Lies w g cap ps) : ∀ j u, (ps.map strV)[j]? = some u → w.cell? ((⟨g, 0, none⟩ : Addr).add j) = some u := by
 intro j u hj
 rw [List.getElem?_map, Option.map_eq_some_iff] at hj
 obtain ⟨x, hx, rfl⟩ := hj
 obtain ⟨hlt, rfl⟩ := List.getElem?_eq_some_iff.1 hx
 have e : (⟨g, 0, none⟩ : Addr).add j = ⟨g, j, none⟩ := by cases j <;> simp [Addr.add]
 rw [e]; exact h.cell j hlt
theorem many_c2 (ps : List Bs) : ∀ u, u ∈ ps.map strV → u.oneCell' = true := by
 intro u hu; simp at hu; obtain ⟨x, _, rfl⟩ := hu; rfl
set_option maxHeartbeats 1000000 in
theorem rJoin_yes (l q : Bs) (w : World) (hl : sz l) (hq : sz q) (ps : List Bs) (hs : split l = some ps) (hp : isPart q = true) (h6 : ps.length < 6) :
  Calls Tryz.prog 136 #[.string (B l), .string (B q)] w fun e w' => e = .returned (.tuple #[.string (B (joinP (ps ++ [q]))), .bool true]) ∧ Gr w w' := by
 obtain ⟨i0, hi, hz0, hz1, hz2⟩ := info_parts Tryz.infoS
 have hP := ((split_iff _ _).1 hs).1
 have HS := Lib.hid hs; clear hs
 have HP := Lib.hid (fun w => rPart_at q true w hq hp)
 go_enter Tryz.func136, Tryz.ntmps136
 go_wp2_with fail
 refine (rSplit_c l w hl).mono ?_
 rintro e w1 ⟨v, rfl, hown, hb⟩
 rw [HS.out] at hown ⊢
 have hown : Own w.heap.size w1 v ps := hown
 have hs1 := hb.size
 cases ps with
 | nil =>
  obtain rfl := hown.2 rfl
  go_wp2_with fail
  refine (HP.out _).mono ?_
  rintro e w2 ⟨rfl, rfl⟩
  have hrow : (w1.alloc (.cells #[] 9)).ownsRow w.heap.size 9 1 (.slice (some ⟨w1.heap.size, 0, none⟩) 0 0) 0 [] := World.ownsRow_lit w1 #[] 0 hs1 (by simp [maxLen]) rfl
  have hs2 : w.heap.size ≤ (w1.alloc (.cells #[] 9)).heap.size := by simp; omega
  have hb2 := hb.alloc hs1 (.cells #[] 9)
  have b1 := cell_one_new (w1.alloc (.cells #[] 9)) (strV q) 9
  simp at b1
  go_wp2_with (first
   | (at_builtin; refine wpList_append_own_none rfl (.tmp 25) (.tmp 26) 32 rfl w.heap.size 9 i0 1 Tryz.underlying32 hi _ _ _ rfl hrow rfl ?_)
   | (at_builtin; go_must (refine wpList_append_own _ rfl (.tmp 27) (.tmp 29) 32 rfl w.heap.size 9 i0 (.string ⟨#[]⟩) 1 16 Tryz.underlying32 hi hz0 hz1 hz2 rfl (by decide) _ _ _ rfl (hrow.alloc _) ⟨w1.heap.size + 1, 0, none⟩ 1 1 [strV q] rfl rfl b1 (one_c2 _) (by unfold maxLen; omega) (by omega) (by simp; omega) ?_; intro v' w3 hown' hgrow _)))
  obtain ⟨hO, hB⟩ := Own.push (acc := []) hrow hb2 hs2 hown' hgrow
  clear hown' hgrow
  have HW := Lib.hid (rpath_snoc w.heap.size v' [] q w3 hO (hP.snoc h6 hp))
  clear hO
  refine HW.out.mono ?_
  rintro e w4 ⟨rfl, rfl⟩
  go_wp2
  go_ret2
  exact ⟨rfl, hB⟩
 | cons p r => ?_
 obtain ⟨g, cap, rfl, hg, hlies⟩ := hown.lies
 have h66 := h6
 simp only [List.length_cons] at h66
 have hcap := hlies.room
 have hmost := hlies.most
 unfold maxLen at hmost
 simp only [List.length_cons] at hcap
 have hlies2 := hlies.below (Below.alloc (Below.refl w1.heap.size w1) (Nat.le_refl _) (.cells #[] 9)) hlies.lt
 have hnews := hlies2.news
 have hrow : (w1.alloc (.cells #[] 9)).ownsRow w.heap.size 9 1 (.slice (some ⟨w1.heap.size, 0, none⟩) 0 0) 0 [] := World.ownsRow_lit w1 #[] 0 hs1 (by simp [maxLen]) rfl
 have hs2 : w.heap.size ≤ (w1.alloc (.cells #[] 9)).heap.size := by simp; omega
 have hb2 := hb.alloc hs1 (.cells #[] 9)
 clear hown hlies hlies2
 go_wp2_with fail
 refine (HP.out _).mono ?_
 rintro e w2 ⟨rfl, rfl⟩
 go_wp2_with (at_builtin; go_must (refine wpList_append_own _ rfl (.tmp 25) (.tmp 26) 32 rfl w.heap.size 9 i0 (.string ⟨#[]⟩) 1 16 Tryz.underlying32 hi hz0 hz1 hz2 rfl (by decide) _ _ _ rfl hrow ⟨g, 0, none⟩ (r.length + 1) cap ((p :: r).map strV) rfl (by simp) hnews (many_c2 _) (by unfold maxLen; omega) (by omega) hs2 ?_))
 intro v1 W hrow1 hgrow1 _
 have hB1 := hb2.grown hgrow1 hs2 (fun k hk => (hrow.lt k hk).1)
 have hS1 := hB1.size
 have hrow1' : W.ownsRow w.heap.size 9 1 v1 (p :: r).length ((p :: r).map strV) := by simpa using hrow1
 clear hrow1 hgrow1 hrow hnews hb2 hs2
 go_wp2_with (at_builtin; go_must (refine wpList_append_own _ rfl (.tmp 27) (.tmp 29) 32 rfl w.heap.size 9 i0 (.string ⟨#[]⟩) 1 16 Tryz.underlying32 hi hz0 hz1 hz2 rfl (by decide) _ _ _ rfl (hrow1'.alloc _) ⟨W.heap.size, 0, none⟩ 1 1 [strV q] rfl rfl (cell_one_new _ _ _) (one_c2 _) (by unfold maxLen; simp; omega) (by simp; omega) (by simp; omega) ?_; intro v' w3 hown' hgrow _))
 obtain ⟨hO, hB⟩ := Own.push hrow1' hB1 hS1 hown' hgrow
 clear hown' hgrow
 have HW := Lib.hid (rpath_snoc w.heap.size v' (p :: r) q w3 hO (hP.snoc h6 hp))
 clear hO
 refine HW.out.mono ?_
 rintro e w4 ⟨rfl, rfl⟩
 go_wp2
 go_ret2
 exact ⟨rfl, hB⟩
theorem rJoin_g (l q : Bs) (w : World) (hl : sz l) (hq : sz q) :
  Calls Tryz.prog 136 #[.string (B l), .string (B q)] w fun e w' => e = .returned (.tuple #[.string (B ((join l q).getD [])), .bool (join l q).isSome]) ∧ Gr w w' := by
 cases hj : join l q with
 | none => exact rJoin_no l q w hl hq hj
 | some c => ?_
 unfold join at hj
 split at hj
 ·rename_i ps hs
  split at hj
  ·rename_i hc
   injection hj with hj; subst hj
   exact rJoin_yes l q w hl hq ps hs hc.1 hc.2
  cases hj
 cases hj
theorem rSame_c (g1 c1 g2 c2 : Nat) (a b : List Bs) (w : World) (h1 : Lies w g1 c1 a) (h2 : Lies w g2 c2 b) (hab : a = b) :
  Calls Tryz.prog 70 #[.slice (some ⟨g1, 0, none⟩) a.length c1, .slice (some ⟨g2, 0, none⟩) b.length c2] w fun e w' => e = .returned (.bool true) ∧ Dr w w' := by
 subst hab
 have hc1 := h1.cell
 have hc2 := h2.cell
 have hr1 := h1.room
 have hm1 := h1.most
 unfold strV at hc1 hc2
 unfold maxLen at hm1
 have H1 := Lib.hid hc1; clear hc1 h1
 have H2 := Lib.hid hc2; clear hc2 h2
 go_enter Tryz.func70, Tryz.ntmps70
 go_wp2
 go_loopw [5] (fun i wr => ∃ k : Nat, k ≤ a.length ∧ i = .int .i64 k ∧ Dr w wr) (fun i _ => a.length - (intOf i).toNat)
 case atStart => exact ⟨0, Nat.zero_le _, rfl, Dr.refl _⟩
 obtain ⟨k, hk, rfl, hd⟩ := hrel
 by_cases hlt : k < a.length
 ·have e1 := H1.out k hlt
  have e2 := H2.out k hlt
  generalize a[k] = x at e1 e2
  have e1' : wr.cell? ⟨g1, k, none⟩ = some (.string (B x)) := by obtain ⟨n, rfl⟩ := hd; exact e1
  have e2' : wr.cell? ⟨g2, k, none⟩ = some (.string (B x)) := by obtain ⟨n, rfl⟩ := hd; exact e2
  have hlti : (k : Int) < (a.length : Int) := by omega
  clear e1 e2
  go_wp2
  go_quiet (fail)
  go_wp2
  go_roundw
  case rel => exact ⟨k + 1, by omega, by go_num, hd.trans (Dr.of _ _)⟩
  case measure => simp [intOf]; omega
 go_wp2
 go_ret
 exact ⟨rfl, hd⟩
set_option maxHeartbeats 1000000 in
theorem rNumbered_no (p : Bs) (n : Int) (w : World) (h : n < 0 ∨ 9999 < n) :
  Calls Tryz.prog 135 #[.string (B p), .int .i64 n] w fun e w' => e = .returned (.tuple #[.string (B []), .bool false]) ∧ Gr w w' := by
 by_cases h1 : n < 0
 ·clear h
  go_enter Tryz.func135, Tryz.ntmps135
  go_wp2
  go_ret2
  exact ⟨rfl, Gr.refl _⟩
 have h2 := h.resolve_left h1
 clear h
 go_enter Tryz.func135, Tryz.ntmps135
 go_wp2
 go_ret2
 exact ⟨rfl, Gr.refl _⟩
set_option maxHeartbeats 1000000 in
theorem rNumbered_yes (p : Bs) (k : Nat) (w : World) (hp : p.length ≤ 1000000) (hk : k ≤ 9999) :
  Calls Tryz.prog 135 #[.string (B p), .int .i64 k] w fun e w' => e = .returned (.tuple #[.string (B ((numbered p k).getD [])), .bool (numbered p k).isSome]) ∧ Gr w w' := by
 have h0 : (0 : Int) ≤ (k : Int) := by omega
 have h9 : (k : Int) ≤ 9999 := by omega
 have hdata : strOfNums [48 + (k : Int) / 1000, 48 + (k : Int) / 100 % 10, 48 + (k : Int) / 10 % 10, 48 + (k : Int) % 10] = B (dig k) := by
  apply ByteArray.ext; apply Array.toList_inj.1
  rw [strOfNums_data]
  show _ = dig k
  unfold dig
  simp only [List.map_cons, List.map_nil]
  rw [show (48 + (k : Int) / 1000).toNat = 48 + k / 1000 by omega, show (48 + (k : Int) / 100 % 10).toNat = 48 + k / 100 % 10 by omega,
   show (48 + (k : Int) / 10 % 10).toNat = 48 + k / 10 % 10 by omega, show (48 + (k : Int) % 10).toNat = 48 + k % 10 by omega]
 have hconv : (convert 174 9 (.slice (some ⟨w.heap.size, 0, none⟩) 4 4)).run Tryz.prog (w.alloc (.cells #[.int .u8 (48 + (k : Int) / 1000), .int .u8 (48 + (k : Int) / 100 % 10), .int .u8 (48 + (k : Int) / 10 % 10), .int .u8 (48 + (k : Int) % 10)] 5)) = .ok (.string (B (dig k))) (w.alloc (.cells #[.int .u8 (48 + (k : Int) / 1000), .int .u8 (48 + (k : Int) / 100 % 10), .int .u8 (48 + (k : Int) / 10 % 10), .int .u8 (48 + (k : Int) % 10)] 5)) := by
  rw [← hdata]
  refine run_convert_bytes_arg (P := Tryz.prog) _ 174 5 Tryz.underlying174 Tryz.underlying5 w.heap.size 0 4 4 [48 + (k : Int) / 1000, 48 + (k : Int) / 100 % 10, 48 + (k : Int) / 10 % 10, 48 + (k : Int) % 10] rfl ?_ 9 Tryz.underlying9
  intro i hi
  rcases i with _ | _ | _ | _ | i
  ·simp
  ·simp
  ·simp
  ·simp
  omega
 have hdl : (dig k).length = 4 := rfl
 have hb : Gr w (w.alloc (.cells #[.int .u8 (48 + (k : Int) / 1000), .int .u8 (48 + (k : Int) / 100 % 10), .int .u8 (48 + (k : Int) / 10 % 10), .int .u8 (48 + (k : Int) % 10)] 5)) := Below.alloc (Below.refl _ w) (Nat.le_refl _) _
 have HD := Lib.hid hdl
 have hpl : (p ++ dig k).length ≤ 4611686018427387904 := by simp [hdl]; omega
 have h4 : (dig k).length ≤ 4 := by omega
 clear hdata hdl
 generalize hx : dig k = x at hconv hpl h4 HD
 cases hpart : isPart (p ++ x) with
 | false =>
  have hnum : numbered p k = none := by
   unfold numbered; rw [if_neg]; rintro ⟨_, _, h⟩; rw [Int.toNat_natCast, hx, hpart] at h; cases h
  rw [hnum]
  have HP := Lib.hid (fun w => rPart_at (p ++ x) false w hpl hpart); clear hpart hnum hx
  go_enter Tryz.func135, Tryz.ntmps135
  go_wp2_with fail
  refine (HP.out _).mono ?_
  rintro e w1 ⟨rfl, rfl⟩
  go_wp2
  go_ret2
  exact ⟨rfl, hb⟩
 | true => ?_
 have hnum : numbered p k = some (p ++ x) := by
  unfold numbered; rw [if_pos]
  ·rw [Int.toNat_natCast, hx]
  exact ⟨h0, h9, by rw [Int.toNat_natCast, hx]; exact hpart⟩
 rw [hnum]
 have HP := Lib.hid (fun w => rPart_at (p ++ x) true w hpl hpart); clear hpart hnum hx
 go_enter Tryz.func135, Tryz.ntmps135
 go_wp2_with fail
 refine (HP.out _).mono ?_
 rintro e w1 ⟨rfl, rfl⟩
 go_wp2
 go_ret2
 exact ⟨rfl, hb⟩
theorem rNumbered_g (p : Bs) (n : Int) (w : World) (hp : p.length ≤ 1000000) :
  Calls Tryz.prog 135 #[.string (B p), .int .i64 n] w fun e w' => e = .returned (.tuple #[.string (B ((numbered p n).getD [])), .bool (numbered p n).isSome]) ∧ Gr w w' := by
 by_cases h : n < 0 ∨ 9999 < n
 ·have hnum : numbered p n = none := by unfold numbered; rw [if_neg]; omega
  rw [hnum]; exact rNumbered_no p n w h
 obtain ⟨k, rfl⟩ := Int.eq_ofNat_of_zero_le (show 0 ≤ n by omega)
 exact rNumbered_yes p k w hp (by omega)
set_option maxHeartbeats 400000 in
theorem rUp_c (p : Bs) (w : World) (hl : p.length ≤ 1000000) :
  Calls Tryz.prog 69 #[.string (B p)] w fun e w' => e = .returned (.string (B (upB p))) ∧ Fp Non w w' := by
 have hpa := fun w => rParent_g p w (sz_of hl (by omega))
 cases h : parent p with
 | none =>
  rw [h] at hpa
  simp only [Option.getD_none, Option.isSome_none] at hpa
  have e : upB p = [47] := by unfold upB; rw [h]; rfl
  rw [e]
  have HP := zI hpa
  clear hpa hl h e
  go_enter Tryz.func69, Tryz.ntmps69
  go_wp2_with fail
  refine (HP.out _).mono ?_
  rintro e w1 ⟨rfl, g1⟩
  have F := zI g1.fp
  clear g1
  go_wp2
  go_ret
  exact ⟨rfl, F.out⟩
 | some u => ?_
 rw [h] at hpa
 simp only [Option.getD_some, Option.isSome_some] at hpa
 have e : upB p = u := by unfold upB; rw [h]; rfl
 rw [e]
 have HP := zI hpa
 clear hpa hl h e
 go_enter Tryz.func69, Tryz.ntmps69
 go_wp2_with fail
 refine (HP.out _).mono ?_
 rintro e w1 ⟨rfl, g1⟩
 have F := zI g1.fp
 clear g1
 go_wp2
 go_ret
 exact ⟨rfl, F.out⟩
structure GtM (l : List Tu) (w : World) (k : Nat) (N : Int) (wr : World) : Prop where
 fp : Fp Non w wr
 lo : (l.length : Int) ≤ N
 eq : ∀ j (h : j < l.length), j < k → min (l[j].dir.length : Int) 3000 ≤ N
theorem GtM.few {l : List Tu} {w wr : World} {k : Nat} {N : Int} (h : GtM l w k N wr) (hk : k = l.length) (hN : N < 3000) : l.length ≤ 3000 ∧ ∀ x ∈ l, x.dir.length ≤ 3000 := by
 refine ⟨by have := h.lo; omega, fun x hx => ?_⟩
 obtain ⟨j, hj, rfl⟩ := List.getElem_of_mem hx
 have := h.eq j hj (by omega)
 omega
theorem Pm.StR.up {s : St} (h : StR s) {k : Nat} (h0 : 0 < k) (hk : k < s.nodes.length) (h1 : k - 1 < s.nodes.length) : lt (s.nodes[k-1]).path (s.nodes[k]).path = true := h.asc (k - 1) k h1 hk (by omega)
theorem setT_len (l : List Tu) (p : Bs) (n : Int) : (setT l p n).length ≤ l.length + 1 := by
 have h1 : (l.eraseIdx (placeT l p)).length ≤ l.length := by rw [List.length_eraseIdx]; split <;> omega
 have h2 : ∀ (m : List Tu) (k : Nat) (x : Tu), (insT m k x).length = m.length + 1 := fun m k x => by unfold insT; rw [List.length_append, List.length_cons, List.length_take, List.length_drop]; omega
 unfold setT
 simp only
 split <;> split <;> (try rw [h2]) <;> omega
theorem Ow.type {lo : Nat} {w : World} {v : Value} {l : List Nd} (h : Ow lo w v l) {k : Nat} (hk : v.ownBlock = some k) : ∃ cs, w.heap[k]? = some (.cells cs TN (0, 0)) := by
 rcases h.ways with ⟨rfl, _⟩ | ⟨G, cap, rfl, hr, _⟩
 ·simp [Value.ownBlock] at hk
 have : G = k := by simpa [Value.ownBlock] using hk
 subst this
 obtain ⟨rest, h1, _⟩ := hr.ex
 exact ⟨_, h1⟩
theorem OwT.type {lo : Nat} {w : World} {v : Value} {l : List Tu} (h : OwT lo w v l) {k : Nat} (hk : v.ownBlock = some k) : ∃ cs, w.heap[k]? = some (.cells cs TU (0, 0)) := by
 rcases h.ways with ⟨rfl, _⟩ | ⟨G, cap, rfl, hr, _⟩
 ·simp [Value.ownBlock] at hk
 have : G = k := by simpa [Value.ownBlock] using hk
 subst this
 obtain ⟨rest, h1, _⟩ := hr.ex
 exact ⟨_, h1⟩
theorem typ_ne {w : World} {i j : Nat} {c d : Array Value} {S T : TypeId} (h : w.heap[i]? = some (.cells c S (0, 0))) (k : w.heap[j]? = some (.cells d T (0, 0))) (hST : S ≠ T) : i ≠ j := fun e => by
 rw [e, k] at h
 injection h with h
 injection h with _ h _
 exact hST h.symm
structure Bst (u0 : World) (vN : Value) (lN : List Nd) (vT : Value) (lT : List Tu) (b : Nat) (x : Bool) (u : World) : Prop where
 f : Fp Non u0 u
 n : Ow u0.heap.size u vN lN
 t : OwT u0.heap.size u vT lT
 x : x = true → u0.heap.size ≤ b ∧ u.heap[b]? = some (.cells #[.slice none 0 0, .slice none 0 0] TST (0, 0))
section
variable {u0 u : World} {vN vT : Value} {lN : List Nd} {lT : List Tu} {b : Nat} {x : Bool}
theorem Bst.start (u0 : World) : Bst u0 (.slice none 0 0) [] (.slice none 0 0) [] 0 false u0 := ⟨Fp.refl _ _, Ow.nil _ _, OwT.nil _ _, fun h => by cases h⟩
theorem Bst.non (h : Bst u0 vN lN vT lT b x u) {u' : World} (f : Fp Non u u') : Bst u0 vN lN vT lT b x u' := ⟨h.f.then f, h.n.non f, h.t.non f, fun e => ⟨(h.x e).1, f.heap (h.x e).2 id⟩⟩
theorem Bst.box (h : Bst u0 vN lN vT lT b false u) : Bst u0 vN lN vT lT u.heap.size true (u.alloc (.cells #[.slice none 0 0, .slice none 0 0] TST)) := by
 have k := h.non (fp_alloc u (.cells #[.slice none 0 0, .slice none 0 0] TST))
 exact ⟨k.f, k.n, k.t, fun _ => ⟨h.f.size, heap_alloc_new u _⟩⟩
end
end Go.Proofs.YtphoglepiegeiaaGreatDoor
namespace Go.Proofs.YtphoglepiegeiaaGreatDoor
set_option maxRecDepth 20000
open Go.RowKit Pm
set_option maxHeartbeats 1000000 in
theorem rSame0_c (a b : Option Addr) (c c' : Nat) (w : World) :
  Calls Tryz.prog 70 #[.slice a 0 c, .slice b 0 c'] w fun e w' => e = .returned (.bool true) ∧ Fp Non w w' := by
 go_enter Tryz.func70, Tryz.ntmps70
 go_wp2_with fail
 go_loopw [5] (fun i wr => i = .int .i64 0 ∧ wr = w) (fun _ _ => 0)
 case atStart => exact ⟨rfl, rfl⟩
 obtain ⟨rfl, rfl⟩ := hrel
 go_wp2
 go_ret
 exact ⟨rfl, Fp.refl _ _⟩
set_option maxHeartbeats 4000000 in
theorem rSameOne_c (re : Int) (rp rd : Bs) (rv : Int) (n1 n2 : Value) (w : World) (hsame : ∀ w1, Fp Non w w1 → Calls Tryz.prog 70 #[n1, n2] w1 fun e w' => e = .returned (.bool true) ∧ Fp Non w1 w') :
  Calls Tryz.prog 24 #[.agg #[.int .i64 re, .string (B rp), .string (B rd), .int .i64 rv, n1], .agg #[.int .i64 re, .string (B rp), .string (B rd), .int .i64 rv, n2]] w fun e w' => e = .returned (.bool true) ∧ Fp Non w w' := by
 have hf0 : ∀ o o', Fp Non w ((w.alloc o).alloc o') := fun o o' => ((Fp.refl Non w).alloc o).alloc o'
 have HF := zI hf0
 have HS := zI hsame
 clear hf0 hsame
 go_enter Tryz.func24, Tryz.ntmps24
 go_wp2_with fail
 refine (HS.out _ (HF.out _ _)).mono ?_
 rintro e w1 ⟨rfl, hf⟩
 have H1 := zI ((HF.out _ _).then hf)
 clear hf
 go_wp2
 go_ret
 exact ⟨rfl, H1.out⟩
end Go.Proofs.YtphoglepiegeiaaGreatDoor
