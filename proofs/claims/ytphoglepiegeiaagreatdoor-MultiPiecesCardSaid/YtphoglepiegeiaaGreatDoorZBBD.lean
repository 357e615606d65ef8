/- A text of this proof. -/
import Derived.Laws.AppendOwnNone
import Derived.Test.YtphoglepiegeiaaGreatDoorZBBC
import Derived.Test.YtphoglepiegeiaaGreatDoorZBD
import Derived.Test.YtphoglepiegeiaaGreatDoorZBF
import Derived.Test.YtphoglepiegeiaaGreatDoorZBH
import Derived.Test.YtphoglepiegeiaaGreatDoorZBI
import Derived.Test.YtphoglepiegeiaaGreatDoorZBJ
import Derived.Test.YtphoglepiegeiaaGreatDoorZBQ
import Derived.Test.YtphoglepiegeiaaGreatDoorZBT
import Derived.Test.YtphoglepiegeiaaGreatDoorZBY
set_option linter.unusedSimpArgs false
set_option linter.unusedVariables false
namespace Go.Proofs.YtphoglepiegeiaaGreatDoor
set_option maxRecDepth 20000
open Go.RowKit Pm
def At (l : Bs) (acc : List Bs) (fr i : Nat) : Prop :=
 (i ≤ l.length ∧ 1 ≤ fr ∧ fr ≤ i ∧ split l = sp acc ((l.drop fr).take (i - fr)) (l.drop i)) ∨ (i = l.length + 1 ∧ split l = some acc)
theorem At.other {l : Bs} {acc : List Bs} {fr i : Nat} (h : At l acc fr i) (hi : i < l.length) (hc : l[i] ≠ 47) : At l acc fr (i + 1) := by
 rcases h with ⟨h1, h2, h3, h4⟩ | ⟨h1, _⟩
 ·refine Or.inl ⟨by omega, h2, by omega, ?_⟩
  rw [h4, List.drop_eq_getElem_cons hi]
  conv => lhs; unfold sp
  rw [if_pos hc]
  have e : (l.drop fr).take (i + 1 - fr) = (l.drop fr).take (i - fr) ++ [l[i]] := by
   rw [show i + 1 - fr = (i - fr) + 1 by omega, List.take_succ_eq_append_getElem (by simp; omega), List.getElem_drop]
   congr 2; simp [show fr + (i - fr) = i by omega]
  rw [e]
 omega
theorem At.bad {l : Bs} {acc : List Bs} {fr i : Nat} (h : At l acc fr i) (hi : i ≤ l.length) (hc : ∀ h : i < l.length, l[i] = 47) (hb : isPart ((l.drop fr).take (i - fr)) = false ∨ 6 ≤ acc.length) : split l = none := by
 rcases h with ⟨h1, h2, h3, h4⟩ | ⟨h1, _⟩
 ·rw [h4]
  have hn : ¬ (isPart ((l.drop fr).take (i - fr)) = true ∧ acc.length < 6) := by
   rintro ⟨a, b⟩
   rcases hb with hb | hb
   ·rw [a] at hb; cases hb
   omega
  by_cases hlt : i < l.length
  ·rw [List.drop_eq_getElem_cons hlt]
   unfold sp
   rw [if_neg (by simpa using hc hlt), if_neg hn]
  rw [show l.drop i = [] from List.drop_of_length_le (by omega)]
  unfold sp; rw [if_neg hn]
 omega
theorem At.part {l : Bs} {acc : List Bs} {fr i : Nat} (h : At l acc fr i) (hi : i ≤ l.length) (hc : ∀ h : i < l.length, l[i] = 47) (hp : isPart ((l.drop fr).take (i - fr)) = true) (h6 : acc.length < 6) :
  At l (acc ++ [(l.drop fr).take (i - fr)]) (i + 1) (i + 1) := by
 rcases h with ⟨h1, h2, h3, h4⟩ | ⟨h1, _⟩
 ·by_cases hlt : i < l.length
  ·refine Or.inl ⟨by omega, by omega, Nat.le_refl _, ?_⟩
   rw [h4, List.drop_eq_getElem_cons hlt]
   conv => lhs; unfold sp
   rw [if_neg (by simpa using hc hlt), if_pos ⟨hp, h6⟩]
   simp
  refine Or.inr ⟨by omega, ?_⟩
  rw [h4, show l.drop i = [] from List.drop_of_length_le (by omega)]
  unfold sp; rw [if_pos ⟨hp, h6⟩]
 omega
def RRel (l : Bs) (w : World) (v f i : Value) (wr : World) : Prop :=
 ∃ (acc : List Bs) (fr j : Nat), j ≤ l.length + 1 ∧ 1 ≤ j ∧ f = .int .i64 fr ∧ i = .int .i64 j ∧ fr ≤ j ∧ acc.length ≤ 6 ∧ At l acc fr j ∧ Own w.heap.size wr v acc ∧ Below w.heap.size w wr
set_option maxRecDepth 100000 in
set_option maxHeartbeats 2000000 in
theorem rSplit_loop (c : UInt8) (r : Bs) (w : World) (hl : r.length ≤ 4611686018427387903) (hc : c = 47) (hr : r ≠ []) :
  Calls Tryz.prog 103 #[.string (B (c :: r))] w (SplitPost (c :: r) w) := by
 obtain ⟨i0, hi, hz0, hz1, hz2⟩ := info_parts Tryz.infoS
 obtain ⟨l, hle⟩ : ∃ l, l = c :: r := ⟨_, rfl⟩
 have hl0 : (l == [47]) = false := by rw [hle, hc]; simpa using hr
 have hlen : 1 ≤ l.length := by rw [hle]; simp
 have hl' : l.length ≤ 4611686018427387904 := by rw [hle]; simp; omega
 have hnil : l.isEmpty = false := by rw [hle]; rfl
 have hne : l ≠ [] := by rw [hle]; simp
 have hat : At l [] 1 1 := Or.inl ⟨by omega, by omega, by omega, by rw [hle, hc]; simpa using sp_split r hr⟩
 have hg0 : l[0] = 47 := by simp only [hle, hc, List.getElem_cons_zero]
 have hne2 : l ≠ [47] := by simpa using hl0
 rw [← hle]
 have HA := Lib.hid hat; clear hat hle
 go_enter Tryz.func103, Tryz.ntmps103
 go_wp2
 go_loopw [4, 5, 6] (fun v f i wr => RRel l w v f i wr) (fun _ _ i _ => l.length + 1 - (intOf i).toNat)
 case atStart => exact ⟨[], 1, 1, by omega, by omega, rfl, rfl, by omega, by simp, HA.out, Own.nil _ _, Below.refl _ _⟩
 clear HA hg0
 obtain ⟨acc, fr, j, hj, hj1, rfl, rfl, hfj, h6, hA, hown, hb⟩ := hrel
 have HA := Lib.hid hA; clear hA
 have hs := hb.size
 by_cases hjl : j ≤ l.length
 ·by_cases hsl : ∃ h : j < l.length, l[j] ≠ 47
  ·obtain ⟨hlt, h47⟩ := hsl
   have h47' : (((l[j]).toNat : Int) != 47) = true := by
    rw [bne_iff_ne]; intro h; apply h47; apply UInt8.toNat.inj; exact Int.ofNat_inj.1 h
   have hA' := Lib.hid (HA.out.other hlt h47)
   clear h47
   go_wp2
   go_roundw
   case rel => exact ⟨acc, fr, j + 1, by omega, by omega, rfl, by go_num, by omega, h6, hA'.out, hown, hb⟩
   case measure => simp [intOf]; omega
  have h47 : ∀ h : j < l.length, l[j] = 47 := fun h => Decidable.not_not.1 fun k => hsl ⟨h, k⟩
  clear hsl
  have hcl : ((l.drop fr).take (j - fr)).length ≤ 9223372036854775807 := by simp; omega
  obtain ⟨ao, cap, rfl⟩ := hown.shape
  cases hp : isPart ((l.drop fr).take (j - fr)) with
  | false =>
   have hno := Lib.hid (HA.out.bad hjl h47 (Or.inl hp))
   have HP := Lib.hid (fun w => (by rw [← hp]; exact rPart_c _ w hcl : Calls Tryz.prog 138 #[.string (B ((l.drop fr).take (j - fr)))] w fun e w' => e = .returned (.bool false) ∧ w = w'))
   clear hp
   by_cases hlt : j < l.length
   ·have h47' : (((l[j]).toNat : Int) != 47) = false := by rw [h47 hlt]; rfl
    clear h47
    go_wp2_with fail
    refine (HP.out _).mono ?_
    rintro e w1 ⟨rfl, rfl⟩
    go_wp2
    go_ret2
    exact ⟨_, by rw [hno.out]; rfl, by rw [hno.out]; exact Own.nil _ _, hb⟩
   clear h47
   go_wp2_with fail
   refine (HP.out _).mono ?_
   rintro e w1 ⟨rfl, rfl⟩
   go_wp2
   go_ret2
   exact ⟨_, by rw [hno.out]; rfl, by rw [hno.out]; exact Own.nil _ _, hb⟩
  | true => ?_
  have HP := Lib.hid (fun w => (by rw [← hp]; exact rPart_c _ w hcl : Calls Tryz.prog 138 #[.string (B ((l.drop fr).take (j - fr)))] w fun e w' => e = .returned (.bool true) ∧ w = w'))
  by_cases h66 : acc.length < 6
  ·have hA' := Lib.hid (HA.out.part hjl h47 hp h66)
   clear hp
   by_cases hlt : j < l.length
   ·have h47' : (((l[j]).toNat : Int) != 47) = false := by rw [h47 hlt]; rfl
    clear h47
    go_wp2_with fail
    refine (HP.out _).mono ?_
    rintro e w1 ⟨rfl, rfl⟩
    go_wp2_with (at_builtin; go_must (refine wpList_append_own _ rfl _ _ 32 rfl w.heap.size 9 i0 (.string ⟨#[]⟩) 1 16 Tryz.underlying32 hi hz0 hz1 hz2 rfl (by decide) _ _ _ rfl (hown.1.alloc _) ⟨wr.heap.size, 0, none⟩ 1 1 [strV ((l.drop fr).take (j - fr))] rfl rfl (cell_one_new _ _ _) (one_c2 _) (by unfold maxLen; omega) (by omega) (by simp; omega) ?_; intro v' w2 hown' hgrow _))
    obtain ⟨hO, hB⟩ := Own.push hown.1 hb hs hown' hgrow
    clear hown' hgrow hown
    go_roundw
    case rel => exact ⟨acc ++ [((l.drop fr).take (j - fr))], j + 1, j + 1, by omega, by omega, by go_num, by go_num, by omega, by simp; omega, hA'.out, hO, hB⟩
    case measure => simp [intOf]; omega
   clear h47
   go_wp2_with fail
   refine (HP.out _).mono ?_
   rintro e w1 ⟨rfl, rfl⟩
   go_wp2_with (at_builtin; go_must (refine wpList_append_own _ rfl _ _ 32 rfl w.heap.size 9 i0 (.string ⟨#[]⟩) 1 16 Tryz.underlying32 hi hz0 hz1 hz2 rfl (by decide) _ _ _ rfl (hown.1.alloc _) ⟨wr.heap.size, 0, none⟩ 1 1 [strV ((l.drop fr).take (j - fr))] rfl rfl (cell_one_new _ _ _) (one_c2 _) (by unfold maxLen; omega) (by omega) (by simp; omega) ?_; intro v' w2 hown' hgrow _))
   obtain ⟨hO, hB⟩ := Own.push hown.1 hb hs hown' hgrow
   clear hown' hgrow hown
   go_roundw
   case rel => exact ⟨acc ++ [((l.drop fr).take (j - fr))], j + 1, j + 1, by omega, by omega, by go_num, by go_num, by omega, by simp; omega, hA'.out, hO, hB⟩
   case measure => simp [intOf]; omega
  have hno := Lib.hid (HA.out.bad hjl h47 (Or.inr (by omega)))
  clear hp
  by_cases hlt : j < l.length
  ·have h47' : (((l[j]).toNat : Int) != 47) = false := by rw [h47 hlt]; rfl
   clear h47
   go_wp2_with fail
   refine (HP.out _).mono ?_
   rintro e w1 ⟨rfl, rfl⟩
   go_wp2
   go_ret2
   exact ⟨_, by rw [hno.out]; rfl, by rw [hno.out]; exact Own.nil _ _, hb⟩
  clear h47
  go_wp2_with fail
  refine (HP.out _).mono ?_
  rintro e w1 ⟨rfl, rfl⟩
  go_wp2
  go_ret2
  exact ⟨_, by rw [hno.out]; rfl, by rw [hno.out]; exact Own.nil _ _, hb⟩
 have hje : j = l.length + 1 := by omega
 have e : split l = some acc := by
  rcases HA.out with ⟨h, _⟩ | ⟨_, h⟩
  ·omega
  exact h
 have HE := Lib.hid e; clear e HA
 go_wp2
 go_ret2
 exact ⟨_, by rw [HE.out]; rfl, by rw [HE.out]; exact hown, hb⟩
set_option maxHeartbeats 400000 in
theorem rSplit_c (l : Bs) (w : World) (hl : l.length ≤ 4611686018427387904) :
  Calls Tryz.prog 103 #[.string (B l)] w (SplitPost l w) := by
 match l, hl with
 | [], _ =>
  go_enter Tryz.func103, Tryz.ntmps103
  go_wp2
  go_ret2
  exact ⟨_, by rw [split_nil]; rfl, by rw [split_nil]; exact Own.nil _ _, Below.refl _ _⟩
 | c :: r, hl =>
  by_cases hc : c = 47
  ·by_cases hr : r = []
   ·subst hc hr
    go_enter Tryz.func103, Tryz.ntmps103
    go_wp2
    go_ret2
    exact ⟨_, rfl, Own.nil _ _, Below.refl _ _⟩
   exact rSplit_loop c r w (by simp at hl; omega) hc hr
  have hne : ((c.toNat : Int) != 47) = true := by
   rw [bne_iff_ne]; intro h; apply hc; apply UInt8.toNat.inj; exact Int.ofNat_inj.1 h
  have h0 : (c :: r == [47]) = false := by
   rw [beq_eq_false_iff_ne]; rintro ⟨⟩; exact hc rfl
  have hn2 : ¬ (c = 47 ∧ r = []) := fun h => hc h.1
  have HS := Lib.hid (split_other (r := r) hc)
  clear hc
  simp at hl
  go_enter Tryz.func103, Tryz.ntmps103
  go_wp2
  go_ret2
  exact ⟨_, by rw [HS.out]; rfl, by rw [HS.out]; exact Own.nil _ _, Below.refl _ _⟩
set_option maxHeartbeats 1000000 in
theorem rpath_c (g cap : Nat) (p : Bs) (r : List Bs) (w : World) (h : Lies w g cap (p :: r)) (hn : (p :: r).length ≤ 1000) (hl : lens (p :: r) ≤ 500000000) :
  Calls Tryz.prog 111 #[.slice (some ⟨g, 0, none⟩) (r.length + 1) cap] w fun e w' => e = .returned (.string (B (joinP (p :: r)))) ∧ w = w' := by
 obtain ⟨ps, hps⟩ : ∃ ps, ps = p :: r := ⟨_, rfl⟩
 have hlen : ps.length = r.length + 1 := by rw [hps]; rfl
 rw [← hps] at h hn hl ⊢
 rw [← hlen]
 have h0 : ((ps.length : Int) == 0) = false := beq_eq_false_iff_ne.2 (by omega)
 have hjoin : joinP ps = flat ps := by rw [hps]; exact joinP_cons p r
 have HJ := Lib.hid hjoin; clear hjoin hps hlen
 have hc := h.cell
 unfold strV at hc
 have HC := Lib.hid hc; clear hc
 have hroom := h.room
 have hfl := flat_len ps
 have HF := Lib.hid hfl; clear hfl h
 go_enter Tryz.func111, Tryz.ntmps111
 go_wp2
 go_loop [3, 4] (fun o i => ∃ k : Nat, k ≤ ps.length ∧ i = .int .i64 k ∧ o = .string (B (flat (ps.take k)))) (fun _ i => ps.length - (intOf i).toNat)
 case atStart => exact ⟨0, Nat.zero_le _, rfl, rfl⟩
 obtain ⟨k, hk, rfl, rfl⟩ := hrel
 by_cases hlt : k < ps.length
 ·have hc := HC.out k hlt
  have hst := flat_take_succ ps k hlt
  have hb : (flat (ps.take k)).length + 1 + (ps[k]).length ≤ 600000000 := by
   have e3 := congrArg List.length hst
   have e4 := flat_len (ps.take (k + 1))
   have e6 := lens_take_le ps (k + 1)
   have e7 : (ps.take (k + 1)).length ≤ ps.length := by rw [List.length_take]; omega
   simp only [List.length_append, List.length_cons, List.length_nil] at e3
   omega
  have HS := Lib.hid hst; clear hst
  generalize hx : ps[k] = x at hc hb HS
  clear hx
  generalize hJ : flat (ps.take k) = J at hb HS
  clear hJ
  go_wp2
  go_round
  case rel => exact ⟨k + 1, by omega, by go_num, by rw [HS.out]; simp⟩
  case measure => simp [intOf]; omega
 have hke : k = ps.length := by omega
 subst hke
 rw [List.take_length]
 go_wp2
 go_ret
 exact ⟨by rw [HJ.out]; rfl, rfl⟩
theorem rpath_none (a : Option Addr) (c : Nat) (w : World) :
  Calls Tryz.prog 111 #[.slice a 0 c] w fun e w' => e = .returned (.string (B (joinP []))) ∧ w = w' := by
 go_enter Tryz.func111, Tryz.ntmps111
 go_wp2
 go_ret
 exact ⟨rfl, rfl⟩
theorem rpath_any (g cap : Nat) (ps : List Bs) (w : World) (h : Lies w g cap ps) (hP : Parts ps) :
  Calls Tryz.prog 111 #[.slice (some ⟨g, 0, none⟩) ps.length cap] w fun e w' => e = .returned (.string (B (joinP ps))) ∧ w = w' := by
 have h1 := hP.1
 have h2 := hP.lens
 cases ps with
 | nil => exact rpath_none _ _ _
 | cons p r => exact rpath_c g cap p r w h (by omega) (by omega)
set_option maxHeartbeats 400000 in
theorem rRight_g (l : Bs) (w : World) (hl : sz l) :
  Calls Tryz.prog 67 #[.string (B l)] w fun e w' => e = .returned (.bool (split l).isSome) ∧ Gr w w' := by
 go_enter Tryz.func67, Tryz.ntmps67
 go_wp2_with fail
 refine (rSplit_c l w hl).mono ?_
 rintro e w1 ⟨v, rfl, _, hb⟩
 go_wp2
 go_ret
 exact ⟨rfl, hb⟩
theorem no_parent {l : Bs} (h : parent l = none) : (split l).getD [] = [] := by
 unfold parent at h
 split at h
 ·cases h
 rename_i hx
 cases hs : split l with
 | none => rfl
 | some ps => cases ps with
  | nil => rfl
  | cons p r => exact absurd hs (hx p r)
theorem has_parent {l a : Bs} (h : parent l = some a) : ∃ p r, split l = some (p :: r) ∧ a = joinP (p :: r).dropLast := by
 unfold parent at h
 split at h
 ·rename_i p r hs; injection h with h; exact ⟨p, r, hs, h.symm⟩
 cases h
set_option maxHeartbeats 400000 in
theorem rParent_g (l : Bs) (w : World) (hl : sz l) :
  Calls Tryz.prog 78 #[.string (B l)] w fun e w' => e = .returned (.tuple #[.string (B ((parent l).getD [])), .bool (parent l).isSome]) ∧ Gr w w' := by
 cases hp : parent l with
 | none =>
  have HN := Lib.hid (no_parent hp); clear hp
  cases hs : (split l).isSome with
  | false =>
   have HS := Lib.hid hs; clear hs
   go_enter Tryz.func78, Tryz.ntmps78
   go_wp2_with fail
   refine (rSplit_c l w hl).mono ?_
   rintro e w1 ⟨v, rfl, hown, hb⟩
   rw [HS.out]
   go_wp2
   go_ret2
   exact ⟨rfl, hb⟩
  | true => ?_
  have HS := Lib.hid hs; clear hs
  go_enter Tryz.func78, Tryz.ntmps78
  go_wp2_with fail
  refine (rSplit_c l w hl).mono ?_
  rintro e w1 ⟨v, rfl, hown, hb⟩
  rw [HS.out]
  rw [HN.out] at hown
  obtain rfl := hown.2 rfl
  go_wp2
  go_ret2
  exact ⟨rfl, hb⟩
 | some a => ?_
 obtain ⟨p, r, hs, rfl⟩ := has_parent hp
 have hP := ((split_iff _ _).1 hs).1
 have HS := Lib.hid hs; clear hs hp
 go_enter Tryz.func78, Tryz.ntmps78
 go_wp2_with fail
 refine (rSplit_c l w hl).mono ?_
 rintro e w1 ⟨v, rfl, hown, hb⟩
 rw [HS.out] at hown ⊢
 obtain ⟨g, cap, rfl, hg, hlies⟩ := hown.lies
 have h6 := hP.1
 have hc1 := hlies.room
 have hc2 := hlies.most
 unfold maxLen at hc2
 simp only [List.length_cons] at hc1 h6
 have hd : (p :: r).dropLast = (p :: r).take r.length := by rw [List.dropLast_eq_take]; simp
 have hlen : ((p :: r).take r.length).length = r.length := by simp
 have hw := rpath_any g cap ((p :: r).take r.length) w1 (hlies.take _) (hP.take _)
 rw [hlen, ← hd] at hw
 have HW := Lib.hid hw; clear hw hlen hd hlies
 go_wp2_with fail
 refine HW.out.mono ?_
 rintro e w2 ⟨rfl, rfl⟩
 go_wp2
 go_ret2
 exact ⟨rfl, hb⟩
theorem rSame_c (g1 c1 g2 c2 : Nat) (a b : List Bs) (w : World) (h1 : Lies w g1 c1 a) (h2 : Lies w g2 c2 b) (hab : a = b) :
  Calls Tryz.prog 70 #[.slice (some ⟨g1, 0, none⟩) a.length c1, .slice (some ⟨g2, 0, none⟩) b.length c2] w fun e w' => e = .returned (.bool true) ∧ Dr w w' := by
 subst hab
 have hc1 := h1.cell
 have hc2 := h2.cell
 have hr1 := h1.room
 have hm1 := h1.most
 unfold strV at hc1 hc2
 unfold maxLen at hm1
 have H1 := Lib.hid hc1; clear hc1 h1
 have H2 := Lib.hid hc2; clear hc2 h2
 go_enter Tryz.func70, Tryz.ntmps70
 go_wp2
 go_loopw [5] (fun i wr => ∃ k : Nat, k ≤ a.length ∧ i = .int .i64 k ∧ Dr w wr) (fun i _ => a.length - (intOf i).toNat)
 case atStart => exact ⟨0, Nat.zero_le _, rfl, Dr.refl _⟩
 obtain ⟨k, hk, rfl, hd⟩ := hrel
 by_cases hlt : k < a.length
 ·have e1 := H1.out k hlt
  have e2 := H2.out k hlt
  generalize a[k] = x at e1 e2
  have e1' : wr.cell? ⟨g1, k, none⟩ = some (.string (B x)) := by obtain ⟨n, rfl⟩ := hd; exact e1
  have e2' : wr.cell? ⟨g2, k, none⟩ = some (.string (B x)) := by obtain ⟨n, rfl⟩ := hd; exact e2
  have hlti : (k : Int) < (a.length : Int) := by omega
  clear e1 e2
  go_wp2
  go_quiet (fail)
  go_wp2
  go_roundw
  case rel => exact ⟨k + 1, by omega, by go_num, hd.trans (Dr.of _ _)⟩
  case measure => simp [intOf]; omega
 go_wp2
 go_ret
 exact ⟨rfl, hd⟩
structure GtM (l : List Tu) (w : World) (k : Nat) (N : Int) (wr : World) : Prop where
 fp : Fp Non w wr
 lo : (l.length : Int) ≤ N
 eq : ∀ j (h : j < l.length), j < k → min (l[j].dir.length : Int) 3000 ≤ N
theorem GtM.few {l : List Tu} {w wr : World} {k : Nat} {N : Int} (h : GtM l w k N wr) (hk : k = l.length) (hN : N < 3000) : l.length ≤ 3000 ∧ ∀ x ∈ l, x.dir.length ≤ 3000 := by
 refine ⟨by have := h.lo; omega, fun x hx => ?_⟩
 obtain ⟨j, hj, rfl⟩ := List.getElem_of_mem hx
 have := h.eq j hj (by omega)
 omega
theorem Pm.StR.up {s : St} (h : StR s) {k : Nat} (h0 : 0 < k) (hk : k < s.nodes.length) (h1 : k - 1 < s.nodes.length) : lt (s.nodes[k-1]).path (s.nodes[k]).path = true := h.asc (k - 1) k h1 hk (by omega)
theorem setT_len (l : List Tu) (p : Bs) (n : Int) : (setT l p n).length ≤ l.length + 1 := by
 have h1 : (l.eraseIdx (placeT l p)).length ≤ l.length := by rw [List.length_eraseIdx]; split <;> omega
 have h2 : ∀ (m : List Tu) (k : Nat) (x : Tu), (insT m k x).length = m.length + 1 := fun m k x => by unfold insT; rw [List.length_append, List.length_cons, List.length_take, List.length_drop]; omega
 unfold setT
 simp only
 split <;> split <;> (try rw [h2]) <;> omega
theorem Ow.type {lo : Nat} {w : World} {v : Value} {l : List Nd} (h : Ow lo w v l) {k : Nat} (hk : v.ownBlock = some k) : ∃ cs, w.heap[k]? = some (.cells cs TN (0, 0)) := by
 rcases h.ways with ⟨rfl, _⟩ | ⟨G, cap, rfl, hr, _⟩
 ·simp [Value.ownBlock] at hk
 have : G = k := by simpa [Value.ownBlock] using hk
 subst this
 obtain ⟨rest, h1, _⟩ := hr.ex
 exact ⟨_, h1⟩
theorem OwT.type {lo : Nat} {w : World} {v : Value} {l : List Tu} (h : OwT lo w v l) {k : Nat} (hk : v.ownBlock = some k) : ∃ cs, w.heap[k]? = some (.cells cs TU (0, 0)) := by
 rcases h.ways with ⟨rfl, _⟩ | ⟨G, cap, rfl, hr, _⟩
 ·simp [Value.ownBlock] at hk
 have : G = k := by simpa [Value.ownBlock] using hk
 subst this
 obtain ⟨rest, h1, _⟩ := hr.ex
 exact ⟨_, h1⟩
theorem typ_ne {w : World} {i j : Nat} {c d : Array Value} {S T : TypeId} (h : w.heap[i]? = some (.cells c S (0, 0))) (k : w.heap[j]? = some (.cells d T (0, 0))) (hST : S ≠ T) : i ≠ j := fun e => by
 rw [e, k] at h
 injection h with h
 injection h with _ h _
 exact hST h.symm
structure Bst (u0 : World) (vN : Value) (lN : List Nd) (vT : Value) (lT : List Tu) (b : Nat) (x : Bool) (u : World) : Prop where
 f : Fp Non u0 u
 n : Ow u0.heap.size u vN lN
 t : OwT u0.heap.size u vT lT
 x : x = true → u0.heap.size ≤ b ∧ u.heap[b]? = some (.cells #[.slice none 0 0, .slice none 0 0] TST (0, 0))
section
variable {u0 u : World} {vN vT : Value} {lN : List Nd} {lT : List Tu} {b : Nat} {x : Bool}
theorem Bst.start (u0 : World) : Bst u0 (.slice none 0 0) [] (.slice none 0 0) [] 0 false u0 := ⟨Fp.refl _ _, Ow.nil _ _, OwT.nil _ _, fun h => by cases h⟩
theorem Bst.non (h : Bst u0 vN lN vT lT b x u) {u' : World} (f : Fp Non u u') : Bst u0 vN lN vT lT b x u' := ⟨h.f.then f, h.n.non f, h.t.non f, fun e => ⟨(h.x e).1, f.heap (h.x e).2 id⟩⟩
theorem Bst.box (h : Bst u0 vN lN vT lT b false u) : Bst u0 vN lN vT lT u.heap.size true (u.alloc (.cells #[.slice none 0 0, .slice none 0 0] TST)) := by
 have k := h.non (fp_alloc u (.cells #[.slice none 0 0, .slice none 0 0] TST))
 exact ⟨k.f, k.n, k.t, fun _ => ⟨h.f.size, heap_alloc_new u _⟩⟩
end
end Go.Proofs.YtphoglepiegeiaaGreatDoor
namespace Go.Proofs.YtphoglepiegeiaaGreatDoor
set_option maxRecDepth 20000
open Go.RowKit Pm
set_option maxHeartbeats 1000000 in
theorem rSame0_c (a b : Option Addr) (c c' : Nat) (w : World) :
  Calls Tryz.prog 70 #[.slice a 0 c, .slice b 0 c'] w fun e w' => e = .returned (.bool true) ∧ Fp Non w w' := by
 go_enter Tryz.func70, Tryz.ntmps70
 go_wp2_with fail
 go_loopw [5] (fun i wr => i = .int .i64 0 ∧ wr = w) (fun _ _ => 0)
 case atStart => exact ⟨rfl, rfl⟩
 obtain ⟨rfl, rfl⟩ := hrel
 go_wp2
 go_ret
 exact ⟨rfl, Fp.refl _ _⟩
set_option maxHeartbeats 4000000 in
theorem rSameOne_c (re : Int) (rp rd : Bs) (rv : Int) (n1 n2 : Value) (w : World) (hsame : ∀ w1, Fp Non w w1 → Calls Tryz.prog 70 #[n1, n2] w1 fun e w' => e = .returned (.bool true) ∧ Fp Non w1 w') :
  Calls Tryz.prog 24 #[.agg #[.int .i64 re, .string (B rp), .string (B rd), .int .i64 rv, n1], .agg #[.int .i64 re, .string (B rp), .string (B rd), .int .i64 rv, n2]] w fun e w' => e = .returned (.bool true) ∧ Fp Non w w' := by
 have hf0 : ∀ o o', Fp Non w ((w.alloc o).alloc o') := fun o o' => ((Fp.refl Non w).alloc o).alloc o'
 have HF := Lib.hid hf0
 have HS := Lib.hid hsame
 clear hf0 hsame
 go_enter Tryz.func24, Tryz.ntmps24
 go_wp2_with fail
 refine (HS.out _ (HF.out _ _)).mono ?_
 rintro e w1 ⟨rfl, hf⟩
 have H1 := Lib.hid ((HF.out _ _).then hf)
 clear hf
 go_wp2
 go_ret
 exact ⟨rfl, H1.out⟩
end Go.Proofs.YtphoglepiegeiaaGreatDoor
