/- A text of this proof. -/
import Derived.Laws.AppendOwnNone
import Derived.Laws.Externs
import Derived.Lib.AppendZerosOnto
import Derived.Lib.Overlaps
import Derived.Lib.SliceRun
import Derived.Test.YtphoglepiegeiaaGreatDoorZDB
import Derived.Test.YtphoglepiegeiaaGreatDoorZDE
import Derived.Test.YtphoglepiegeiaaGreatDoorZDF
import Derived.Test.YtphoglepiegeiaaGreatDoorZDG
set_option linter.unusedSimpArgs false
set_option linter.unusedVariables false
namespace Go.Proofs.YtphoglepiegeiaaGreatDoor
set_option maxRecDepth 20000
open Go.RowKit Pm
def At (l : Bs) (acc : List Bs) (fr i : Nat) : Prop :=
 (i ≤ l.length ∧ 1 ≤ fr ∧ fr ≤ i ∧ split l = sp acc ((l.drop fr).take (i - fr)) (l.drop i)) ∨ (i = l.length + 1 ∧ split l = some acc)
theorem At.other {l : Bs} {acc : List Bs} {fr i : Nat} (h : At l acc fr i) (hi : i < l.length) (hc : l[i] ≠ 47) : At l acc fr (i + 1) := by
 rcases h with ⟨h1, h2, h3, h4⟩ | ⟨h1, _⟩
 ·refine Or.inl ⟨by omega, h2, by omega, ?_⟩
  rw [h4, List.drop_eq_getElem_cons hi]
  conv => lhs; unfold sp
  rw [if_pos hc]
  have e : (l.drop fr).take (i + 1 - fr) = (l.drop fr).take (i - fr) ++ [l[i]] := by
   rw [show i + 1 - fr = (i - fr) + 1 by omega, List.take_succ_eq_append_getElem (by simp; omega), List.getElem_drop]
   congr 2; simp [show fr + (i - fr) = i by omega]
  rw [e]
 omega
theorem At.bad {l : Bs} {acc : List Bs} {fr i : Nat} (h : At l acc fr i) (hi : i ≤ l.length) (hc : ∀ h : i < l.length, l[i] = 47) (hb : isPart ((l.drop fr).take (i - fr)) = false ∨ 6 ≤ acc.length) : split l = none := by
 rcases h with ⟨h1, h2, h3, h4⟩ | ⟨h1, _⟩
 ·rw [h4]
  have hn : ¬ (isPart ((l.drop fr).take (i - fr)) = true ∧ acc.length < 6) := by
   rintro ⟨a, b⟩
   rcases hb with hb | hb
   ·rw [a] at hb; cases hb
   omega
  by_cases hlt : i < l.length
  ·rw [List.drop_eq_getElem_cons hlt]
   unfold sp
   rw [if_neg (by simpa using hc hlt), if_neg hn]
  rw [show l.drop i = [] from List.drop_of_length_le (by omega)]
  unfold sp; rw [if_neg hn]
 omega
theorem At.part {l : Bs} {acc : List Bs} {fr i : Nat} (h : At l acc fr i) (hi : i ≤ l.length) (hc : ∀ h : i < l.length, l[i] = 47) (hp : isPart ((l.drop fr).take (i - fr)) = true) (h6 : acc.length < 6) :
  At l (acc ++ [(l.drop fr).take (i - fr)]) (i + 1) (i + 1) := by
 rcases h with ⟨h1, h2, h3, h4⟩ | ⟨h1, _⟩
 ·by_cases hlt : i < l.length
  ·refine Or.inl ⟨by omega, by omega, Nat.le_refl _, ?_⟩
   rw [h4, List.drop_eq_getElem_cons hlt]
   conv => lhs; unfold sp
   rw [if_neg (by simpa using hc hlt), if_pos ⟨hp, h6⟩]
   simp
  refine Or.inr ⟨by omega, ?_⟩
  rw [h4, show l.drop i = [] from List.drop_of_length_le (by omega)]
  unfold sp; rw [if_pos ⟨hp, h6⟩]
 omega
def RRel (l : Bs) (w : World) (v f i : Value) (wr : World) : Prop :=
 ∃ (acc : List Bs) (fr j : Nat), j ≤ l.length + 1 ∧ 1 ≤ j ∧ f = .int .i64 fr ∧ i = .int .i64 j ∧ fr ≤ j ∧ acc.length ≤ 6 ∧ At l acc fr j ∧ Own w.heap.size wr v acc ∧ Below w.heap.size w wr
set_option maxRecDepth 100000 in
set_option maxHeartbeats 2000000 in
theorem rSplit_loop (c : UInt8) (r : Bs) (w : World) (hl : r.length ≤ 4611686018427387903) (hc : c = 47) (hr : r ≠ []) :
  Calls Tryz.prog 103 #[.string (B (c :: r))] w (SplitPost (c :: r) w) := by
 obtain ⟨i0, hi, hz0, hz1, hz2⟩ := info_parts Tryz.infoS
 obtain ⟨l, hle⟩ : ∃ l, l = c :: r := ⟨_, rfl⟩
 have hl0 : (l == [47]) = false := by rw [hle, hc]; simpa using hr
 have hlen : 1 ≤ l.length := by rw [hle]; simp
 have hl' : l.length ≤ 4611686018427387904 := by rw [hle]; simp; omega
 have hnil : l.isEmpty = false := by rw [hle]; rfl
 have hne : l ≠ [] := by rw [hle]; simp
 have hat : At l [] 1 1 := Or.inl ⟨by omega, by omega, by omega, by rw [hle, hc]; simpa using sp_split r hr⟩
 have hg0 : l[0] = 47 := by simp only [hle, hc, List.getElem_cons_zero]
 have hne2 : l ≠ [47] := by simpa using hl0
 rw [← hle]
 have HA := Lib.hid hat; clear hat hle
 go_enter Tryz.func103, Tryz.ntmps103
 go_wp2
 go_loopw [4, 5, 6] (fun v f i wr => RRel l w v f i wr) (fun _ _ i _ => l.length + 1 - (intOf i).toNat)
 case atStart => exact ⟨[], 1, 1, by omega, by omega, rfl, rfl, by omega, by simp, HA.out, Own.nil _ _, Below.refl _ _⟩
 clear HA hg0
 obtain ⟨acc, fr, j, hj, hj1, rfl, rfl, hfj, h6, hA, hown, hb⟩ := hrel
 have HA := Lib.hid hA; clear hA
 have hs := hb.size
 by_cases hjl : j ≤ l.length
 ·by_cases hsl : ∃ h : j < l.length, l[j] ≠ 47
  ·obtain ⟨hlt, h47⟩ := hsl
   have h47' : (((l[j]).toNat : Int) != 47) = true := by
    rw [bne_iff_ne]; intro h; apply h47; apply UInt8.toNat.inj; exact Int.ofNat_inj.1 h
   have hA' := Lib.hid (HA.out.other hlt h47)
   clear h47
   go_wp2
   go_roundw
   case rel => exact ⟨acc, fr, j + 1, by omega, by omega, rfl, by go_num, by omega, h6, hA'.out, hown, hb⟩
   case measure => simp [intOf]; omega
  have h47 : ∀ h : j < l.length, l[j] = 47 := fun h => Decidable.not_not.1 fun k => hsl ⟨h, k⟩
  clear hsl
  have hcl : ((l.drop fr).take (j - fr)).length ≤ 9223372036854775807 := by simp; omega
  obtain ⟨ao, cap, rfl⟩ := hown.shape
  cases hp : isPart ((l.drop fr).take (j - fr)) with
  | false =>
   have hno := Lib.hid (HA.out.bad hjl h47 (Or.inl hp))
   have HP := Lib.hid (fun w => (by rw [← hp]; exact rPart_c _ w hcl : Calls Tryz.prog 138 #[.string (B ((l.drop fr).take (j - fr)))] w fun e w' => e = .returned (.bool false) ∧ w = w'))
   clear hp
   by_cases hlt : j < l.length
   ·have h47' : (((l[j]).toNat : Int) != 47) = false := by rw [h47 hlt]; rfl
    clear h47
    go_wp2_with fail
    refine (HP.out _).mono ?_
    rintro e w1 ⟨rfl, rfl⟩
    go_wp2
    go_ret2
    exact ⟨_, by rw [hno.out]; rfl, by rw [hno.out]; exact Own.nil _ _, hb⟩
   clear h47
   go_wp2_with fail
   refine (HP.out _).mono ?_
   rintro e w1 ⟨rfl, rfl⟩
   go_wp2
   go_ret2
   exact ⟨_, by rw [hno.out]; rfl, by rw [hno.out]; exact Own.nil _ _, hb⟩
  | true => ?_
  have HP := Lib.hid (fun w => (by rw [← hp]; exact rPart_c _ w hcl : Calls Tryz.prog 138 #[.string (B ((l.drop fr).take (j - fr)))] w fun e w' => e = .returned (.bool true) ∧ w = w'))
  by_cases h66 : acc.length < 6
  ·have hA' := Lib.hid (HA.out.part hjl h47 hp h66)
   clear hp
   by_cases hlt : j < l.length
   ·have h47' : (((l[j]).toNat : Int) != 47) = false := by rw [h47 hlt]; rfl
    clear h47
    go_wp2_with fail
    refine (HP.out _).mono ?_
    rintro e w1 ⟨rfl, rfl⟩
    go_wp2_with (at_builtin; go_must (refine wpList_append_own _ rfl _ _ 32 rfl w.heap.size 9 i0 (.string ⟨#[]⟩) 1 16 Tryz.underlying32 hi hz0 hz1 hz2 rfl (by decide) _ _ _ rfl (hown.1.alloc _) ⟨wr.heap.size, 0, none⟩ 1 1 [strV ((l.drop fr).take (j - fr))] rfl rfl (cell_one_new _ _ _) (one_c2 _) (by unfold maxLen; omega) (by omega) (by simp; omega) ?_; intro v' w2 hown' hgrow _))
    obtain ⟨hO, hB⟩ := Own.push hown.1 hb hs hown' hgrow
    clear hown' hgrow hown
    go_roundw
    case rel => exact ⟨acc ++ [((l.drop fr).take (j - fr))], j + 1, j + 1, by omega, by omega, by go_num, by go_num, by omega, by simp; omega, hA'.out, hO, hB⟩
    case measure => simp [intOf]; omega
   clear h47
   go_wp2_with fail
   refine (HP.out _).mono ?_
   rintro e w1 ⟨rfl, rfl⟩
   go_wp2_with (at_builtin; go_must (refine wpList_append_own _ rfl _ _ 32 rfl w.heap.size 9 i0 (.string ⟨#[]⟩) 1 16 Tryz.underlying32 hi hz0 hz1 hz2 rfl (by decide) _ _ _ rfl (hown.1.alloc _) ⟨wr.heap.size, 0, none⟩ 1 1 [strV ((l.drop fr).take (j - fr))] rfl rfl (cell_one_new _ _ _) (one_c2 _) (by unfold maxLen; omega) (by omega) (by simp; omega) ?_; intro v' w2 hown' hgrow _))
   obtain ⟨hO, hB⟩ := Own.push hown.1 hb hs hown' hgrow
   clear hown' hgrow hown
   go_roundw
   case rel => exact ⟨acc ++ [((l.drop fr).take (j - fr))], j + 1, j + 1, by omega, by omega, by go_num, by go_num, by omega, by simp; omega, hA'.out, hO, hB⟩
   case measure => simp [intOf]; omega
  have hno := Lib.hid (HA.out.bad hjl h47 (Or.inr (by omega)))
  clear hp
  by_cases hlt : j < l.length
  ·have h47' : (((l[j]).toNat : Int) != 47) = false := by rw [h47 hlt]; rfl
   clear h47
   go_wp2_with fail
   refine (HP.out _).mono ?_
   rintro e w1 ⟨rfl, rfl⟩
   go_wp2
   go_ret2
   exact ⟨_, by rw [hno.out]; rfl, by rw [hno.out]; exact Own.nil _ _, hb⟩
  clear h47
  go_wp2_with fail
  refine (HP.out _).mono ?_
  rintro e w1 ⟨rfl, rfl⟩
  go_wp2
  go_ret2
  exact ⟨_, by rw [hno.out]; rfl, by rw [hno.out]; exact Own.nil _ _, hb⟩
 have hje : j = l.length + 1 := by omega
 have e : split l = some acc := by
  rcases HA.out with ⟨h, _⟩ | ⟨_, h⟩
  ·omega
  exact h
 have HE := Lib.hid e; clear e HA
 go_wp2
 go_ret2
 exact ⟨_, by rw [HE.out]; rfl, by rw [HE.out]; exact hown, hb⟩
set_option maxHeartbeats 400000 in
theorem rSplit_c (l : Bs) (w : World) (hl : l.length ≤ 4611686018427387904) :
  Calls Tryz.prog 103 #[.string (B l)] w (SplitPost l w) := by
 match l, hl with
 | [], _ =>
  go_enter Tryz.func103, Tryz.ntmps103
  go_wp2
  go_ret2
  exact ⟨_, by rw [split_nil]; rfl, by rw [split_nil]; exact Own.nil _ _, Below.refl _ _⟩
 | c :: r, hl =>
  by_cases hc : c = 47
  ·by_cases hr : r = []
   ·subst hc hr
    go_enter Tryz.func103, Tryz.ntmps103
    go_wp2
    go_ret2
    exact ⟨_, rfl, Own.nil _ _, Below.refl _ _⟩
   exact rSplit_loop c r w (by simp at hl; omega) hc hr
  have hne : ((c.toNat : Int) != 47) = true := by
   rw [bne_iff_ne]; intro h; apply hc; apply UInt8.toNat.inj; exact Int.ofNat_inj.1 h
  have h0 : (c :: r == [47]) = false := by
   rw [beq_eq_false_iff_ne]; rintro ⟨⟩; exact hc rfl
  have hn2 : ¬ (c = 47 ∧ r = []) := fun h => hc h.1
  have HS := Lib.hid (split_other (r := r) hc)
  clear hc
  simp at hl
  go_enter Tryz.func103, Tryz.ntmps103
  go_wp2
  go_ret2
  exact ⟨_, by rw [HS.out]; rfl, by rw [HS.out]; exact Own.nil _ _, Below.refl _ _⟩
set_option maxHeartbeats 1000000 in
theorem rpath_c (g cap : Nat) (p : Bs) (r : List Bs) (w : World) (h : Lies w g cap (p :: r)) (hn : (p :: r).length ≤ 1000) (hl : lens (p :: r) ≤ 500000000) :
  Calls Tryz.prog 111 #[.slice (some ⟨g, 0, none⟩) (r.length + 1) cap] w fun e w' => e = .returned (.string (B (joinP (p :: r)))) ∧ w = w' := by
 obtain ⟨ps, hps⟩ : ∃ ps, ps = p :: r := ⟨_, rfl⟩
 have hlen : ps.length = r.length + 1 := by rw [hps]; rfl
 rw [← hps] at h hn hl ⊢
 rw [← hlen]
 have h0 : ((ps.length : Int) == 0) = false := beq_eq_false_iff_ne.2 (by omega)
 have hjoin : joinP ps = flat ps := by rw [hps]; exact joinP_cons p r
 have HJ := Lib.hid hjoin; clear hjoin hps hlen
 have hc := h.cell
 unfold strV at hc
 have HC := Lib.hid hc; clear hc
 have hroom := h.room
 have hfl := flat_len ps
 have HF := Lib.hid hfl; clear hfl h
 go_enter Tryz.func111, Tryz.ntmps111
 go_wp2
 go_loop [3, 4] (fun o i => ∃ k : Nat, k ≤ ps.length ∧ i = .int .i64 k ∧ o = .string (B (flat (ps.take k)))) (fun _ i => ps.length - (intOf i).toNat)
 case atStart => exact ⟨0, Nat.zero_le _, rfl, rfl⟩
 obtain ⟨k, hk, rfl, rfl⟩ := hrel
 by_cases hlt : k < ps.length
 ·have hc := HC.out k hlt
  have hst := flat_take_succ ps k hlt
  have hb : (flat (ps.take k)).length + 1 + (ps[k]).length ≤ 600000000 := by
   have e3 := congrArg List.length hst
   have e4 := flat_len (ps.take (k + 1))
   have e6 := lens_take_le ps (k + 1)
   have e7 : (ps.take (k + 1)).length ≤ ps.length := by rw [List.length_take]; omega
   simp only [List.length_append, List.length_cons, List.length_nil] at e3
   omega
  have HS := Lib.hid hst; clear hst
  generalize hx : ps[k] = x at hc hb HS
  clear hx
  generalize hJ : flat (ps.take k) = J at hb HS
  clear hJ
  go_wp2
  go_round
  case rel => exact ⟨k + 1, by omega, by go_num, by rw [HS.out]; simp⟩
  case measure => simp [intOf]; omega
 have hke : k = ps.length := by omega
 subst hke
 rw [List.take_length]
 go_wp2
 go_ret
 exact ⟨by rw [HJ.out]; rfl, rfl⟩
theorem rpath_none (a : Option Addr) (c : Nat) (w : World) :
  Calls Tryz.prog 111 #[.slice a 0 c] w fun e w' => e = .returned (.string (B (joinP []))) ∧ w = w' := by
 go_enter Tryz.func111, Tryz.ntmps111
 go_wp2
 go_ret
 exact ⟨rfl, rfl⟩
theorem rpath_any (g cap : Nat) (ps : List Bs) (w : World) (h : Lies w g cap ps) (hP : Parts ps) :
  Calls Tryz.prog 111 #[.slice (some ⟨g, 0, none⟩) ps.length cap] w fun e w' => e = .returned (.string (B (joinP ps))) ∧ w = w' := by
 have h1 := hP.1
 have h2 := hP.lens
 cases ps with
 | nil => exact rpath_none _ _ _
 | cons p r => exact rpath_c g cap p r w h (by omega) (by omega)
set_option maxHeartbeats 400000 in
theorem rRight_g (l : Bs) (w : World) (hl : sz l) :
  Calls Tryz.prog 67 #[.string (B l)] w fun e w' => e = .returned (.bool (split l).isSome) ∧ Gr w w' := by
 go_enter Tryz.func67, Tryz.ntmps67
 go_wp2_with fail
 refine (rSplit_c l w hl).mono ?_
 rintro e w1 ⟨v, rfl, _, hb⟩
 go_wp2
 go_ret
 exact ⟨rfl, hb⟩
theorem no_parent {l : Bs} (h : parent l = none) : (split l).getD [] = [] := by
 unfold parent at h
 split at h
 ·cases h
 rename_i hx
 cases hs : split l with
 | none => rfl
 | some ps => cases ps with
  | nil => rfl
  | cons p r => exact absurd hs (hx p r)
theorem has_parent {l a : Bs} (h : parent l = some a) : ∃ p r, split l = some (p :: r) ∧ a = joinP (p :: r).dropLast := by
 unfold parent at h
 split at h
 ·rename_i p r hs; injection h with h; exact ⟨p, r, hs, h.symm⟩
 cases h
set_option maxHeartbeats 400000 in
theorem rParent_g (l : Bs) (w : World) (hl : sz l) :
  Calls Tryz.prog 78 #[.string (B l)] w fun e w' => e = .returned (.tuple #[.string (B ((parent l).getD [])), .bool (parent l).isSome]) ∧ Gr w w' := by
 cases hp : parent l with
 | none =>
  have HN := Lib.hid (no_parent hp); clear hp
  cases hs : (split l).isSome with
  | false =>
   have HS := Lib.hid hs; clear hs
   go_enter Tryz.func78, Tryz.ntmps78
   go_wp2_with fail
   refine (rSplit_c l w hl).mono ?_
   rintro e w1 ⟨v, rfl, hown, hb⟩
   rw [HS.out]
   go_wp2
   go_ret2
   exact ⟨rfl, hb⟩
  | true => ?_
  have HS := Lib.hid hs; clear hs
  go_enter Tryz.func78, Tryz.ntmps78
  go_wp2_with fail
  refine (rSplit_c l w hl).mono ?_
  rintro e w1 ⟨v, rfl, hown, hb⟩
  rw [HS.out]
  rw [HN.out] at hown
  obtain rfl := hown.2 rfl
  go_wp2
  go_ret2
  exact ⟨rfl, hb⟩
 | some a => ?_
 obtain ⟨p, r, hs, rfl⟩ := has_parent hp
 have hP := ((split_iff _ _).1 hs).1
 have HS := Lib.hid hs; clear hs hp
 go_enter Tryz.func78, Tryz.ntmps78
 go_wp2_with fail
 refine (rSplit_c l w hl).mono ?_
 rintro e w1 ⟨v, rfl, hown, hb⟩
 rw [HS.out] at hown ⊢
 obtain ⟨g, cap, rfl, hg, hlies⟩ := hown.lies
 have h6 := hP.1
 have hc1 := hlies.room
 have hc2 := hlies.most
 unfold maxLen at hc2
 simp only [List.length_cons] at hc1 h6
 have hd : (p :: r).dropLast = (p :: r).take r.length := by rw [List.dropLast_eq_take]; simp
 have hlen : ((p :: r).take r.length).length = r.length := by simp
 have hw := rpath_any g cap ((p :: r).take r.length) w1 (hlies.take _) (hP.take _)
 rw [hlen, ← hd] at hw
 have HW := Lib.hid hw; clear hw hlen hd hlies
 go_wp2_with fail
 refine HW.out.mono ?_
 rintro e w2 ⟨rfl, rfl⟩
 go_wp2
 go_ret2
 exact ⟨rfl, hb⟩
set_option maxHeartbeats 400000 in
theorem rUp_c (p : Bs) (w : World) (hl : p.length ≤ 1000000) :
  Calls Tryz.prog 69 #[.string (B p)] w fun e w' => e = .returned (.string (B (upB p))) ∧ Fp Non w w' := by
 have hpa := fun w => rParent_g p w (sz_of hl (by omega))
 cases h : parent p with
 | none =>
  rw [h] at hpa
  simp only [Option.getD_none, Option.isSome_none] at hpa
  have e : upB p = [47] := by unfold upB; rw [h]; rfl
  rw [e]
  have HP := Lib.hid hpa
  clear hpa hl h e
  go_enter Tryz.func69, Tryz.ntmps69
  go_wp2_with fail
  refine (HP.out _).mono ?_
  rintro e w1 ⟨rfl, g1⟩
  have F := Lib.hid g1.fp
  clear g1
  go_wp2
  go_ret
  exact ⟨rfl, F.out⟩
 | some u => ?_
 rw [h] at hpa
 simp only [Option.getD_some, Option.isSome_some] at hpa
 have e : upB p = u := by unfold upB; rw [h]; rfl
 rw [e]
 have HP := Lib.hid hpa
 clear hpa hl h e
 go_enter Tryz.func69, Tryz.ntmps69
 go_wp2_with fail
 refine (HP.out _).mono ?_
 rintro e w1 ⟨rfl, g1⟩
 have F := Lib.hid g1.fp
 clear g1
 go_wp2
 go_ret
 exact ⟨rfl, F.out⟩
def nfit (n : Nd) : Bool := (split n.path).isSome && decide (n.data.length ≤ 256 ∧ 0 ≤ n.ver ∧ n.ver ≤ 281474976710656 ∧ 0 ≤ n.own ∧ n.own ≤ 1099511627776 ∧ n.turn = 0)
theorem nfit_of {n : Nd} (h : sfit n = true) : nfit n = true := by
 obtain ⟨h1, h2, h3, h4, h5, h6, h7, h8⟩ := (sfit_iff n).1 h
 unfold nfit; rw [h1]; simp only [Bool.true_and, decide_eq_true_eq]; exact ⟨h2, h5, h6, h7, h8, h3⟩
set_option maxHeartbeats 4000000 in
theorem rNode_c (n : Nd) (w : World) (hl : n.path.length ≤ 1000000) :
  Calls Tryz.prog 66 #[ndV n] w fun e w' => e = .returned (.bool (nfit n)) ∧ Fp Non w w' := by
 have hri := fun w => rRight_g n.path w (sz_of hl (by omega))
 obtain ⟨p, d, v, t, o⟩ := n
 obtain ⟨sp, hsp⟩ : ∃ b, (split p).isSome = b := ⟨_, rfl⟩
 simp only at hri
 rw [hsp] at hri
 have HR := Lib.hid hri
 have HSP := Lib.hid hsp
 have hf0 := fp_alloc w (.cells #[.string (B p), .string (B d), .int .i64 v, .int .i64 t, .int .i64 o] TN)
 have hb0 := heap_alloc_new w (.cells #[.string (B p), .string (B d), .int .i64 v, .int .i64 t, .int .i64 o] TN)
 have HF0 := Lib.hid (And.intro hf0 hb0)
 obtain ⟨m, hm⟩ : ∃ m, nfit ⟨p, d, v, t, o⟩ = m := ⟨_, rfl⟩
 have HM := Lib.hid hm
 rw [hm]
 unfold ndV strV
 simp only
 clear hri hsp hf0 hb0 hm hl
 go_enter Tryz.func66, Tryz.ntmps66
 go_wp2_with fail
 all_goals
  refine (HR.out _).mono ?_
  rintro e w1 ⟨rfl, g1⟩
  have F1 := Lib.hid (HF0.out.1.then g1.fp)
  have hb1 := (g1.fp.heap HF0.out.2 id)
  obtain ⟨o0, o1, o2, o3, o4⟩ := box5 hb1
  clear g1 hb1
 all_goals go_wp2
 all_goals
  go_ret
  refine ⟨ret_bool ?_, F1.out⟩
  have hm := HM.out
  have hs := HSP.out
  rw [← hm]
  unfold nfit
  clear HR HF0 F1 o0 o1 o2 o3 o4 hm HM HSP
  rw [hs]
  clear hs
  dsimp only
  first
   | (simp_all; done)
   | (simp_all; omega)
   | (have hdl : List.length d ≤ 256 := (by omega); rw [Bool.eq_iff_iff]; simp_all)
theorem wpList_app {P : Program} {w : World} {ops : Array Oper} {rest : List Oper} {o : Oper} {a : Act} {Q : Exit → Act → World → Prop} (hgd : o.guard = none) (s x : Operand) (t u : TypeId)
  (ho : o.op = .call { callee := .builtin .append, args := #[s, x], argTypes := #[t, u] }) (v xv : Value) (hs : a.eval s = v) (hx : a.eval x = xv) (R : Value → World → Prop)
  (hr : ∃ v' w', (Builtin.append_ #[t, u] o.type #[v, xv]).run P w = .ok v' w' ∧ R v' w') (h : ∀ v' w', R v' w' → wpList P ops Q rest (a.put o.dst v') w') : wpList P ops Q (o :: rest) a w := by
 refine wpList_plain hgd fun K hK => ?_
 obtain ⟨v', w', hr, h2⟩ := hr
 unfold Oper.wp execOp
 simp only [ho, resolve, invoke, builtin, Sem.run_bind, Sem.run_pure, Result.andThen_ok, List.map_toArray, List.map_cons, List.map_nil, hs, hx, hr]
 exact hK _ _ (h v' w' h2)
theorem nil_slice (w : World) (a : Addr) (n c : Nat) : (binOp .eql TL (.slice (some a) n c) (.slice none 0 0)).run Tryz.prog w = .ok (.bool false) w :=
 Lib.run_eql_slice_nil w TL TN (some a) n c 0 0 Tryz.underlying22
theorem step_copy {P : Program} {ops : Array Oper} {o : Oper} {a : Act} {w : World} {K : Act → World → Prop} {Q : Exit → Act → World → Prop} {E : Prop} (hgd : o.guard = none) (s x : Operand) (t u : TypeId)
  (ho : o.op = .call { callee := .builtin .copy, args := #[s, x], argTypes := #[t, u] }) (v xv : Value) (hs : a.eval s = v) (hx : a.eval x = xv) (R : Value → World → Prop)
  (hr : ∃ v' w', (Builtin.copy_ #[t, u] o.type #[v, xv]).run P w = .ok v' w' ∧ R v' w') (h : ∀ v' w', R v' w' → K (a.put o.dst v') w') :
  if Region.wanted o (yielded ops a.tmps) = true then Oper.wp P o a w K Q else E := by
 have hw : Region.wanted o (yielded ops a.tmps) = true := by simp [Region.wanted, hgd]
 rw [if_pos hw]
 obtain ⟨v', w', hr, h2⟩ := hr
 unfold Oper.wp execOp
 simp only [ho, resolve, invoke, builtin, Sem.run_bind, Sem.run_pure, Result.andThen_ok, List.map_toArray, List.map_cons, List.map_nil, hs, hx, hr]
 exact h v' w' h2
structure CopR (G cap : Nat) (cur : List Value) (w w' : World) : Prop where
 hp : w'.heap[G]? = some (.cells cur.toArray TN (0, 0))
 len : cur.length = cap * 5
 fp : Fp (fun k => k = G) w w'
theorem copy_at {w : World} {G cap : Nat} {cur : List Value} (hg : w.heap[G]? = some (.cells cur.toArray TN (0, 0))) (hl : cur.length = cap * 5) (ty : TypeId) (o dLen dCap : Nat) (a : Addr) (sLen sCap : Nat) (l : List Nd) (hm : l.length = Nat.min sLen dLen)
  (hsrc : ∀ i (h : i < l.length) j v, (ndC l[i])[j]? = some v → w.cell? (a.add (i * 5 + j)) = some v) (hfit : o + l.length * 5 ≤ cap * 5) :
  ∃ v' w', (Builtin.copy_ #[TL, TL] ty #[.slice (some ⟨G, o, none⟩) dLen dCap, .slice (some a) sLen sCap]).run Tryz.prog w = .ok v' w' ∧ CopR G cap (cur.take o ++ rows l ++ cur.drop (o + l.length * 5)) w w' := by
 have h := run_copy_nodes w ty G o dLen dCap a sLen sCap cur l.length (rows l) hg hm (rows_len l) (fun j v hv => by
  have hj : j < l.length * 5 := by rw [← rows_len]; exact (List.getElem?_eq_some_iff.1 hv).1
  have hd : j / 5 < l.length := by omega
  have e : j / 5 * 5 + j % 5 = j := by omega
  rw [← e, rows_get l (j / 5) (j % 5) hd (by omega)] at hv
  have := hsrc (j / 5) hd (j % 5) v hv
  rwa [e] at this) (by rw [rows_len, hl]; exact hfit) (rows_one l)
 rw [rows_len] at h
 refine ⟨_, _, h, setRow_heap w G _ _ TN _ hg, ?_, fp_setRow w G _⟩
 simp only [List.length_append, List.length_take, List.length_drop, rows_len, hl]
 omega
theorem Nr.src {w : World} {G cap : Nat} {l : List Nd} (h : Nr w G cap l) (k : Nat) : ∀ i (hi : i < (l.drop k).length) j v, (ndC (l.drop k)[i])[j]? = some v → w.cell? ((⟨G, k * 5, none⟩ : Addr).add (i * 5 + j)) = some v := by
 intro i hi j v hv
 rw [List.length_drop] at hi
 rw [List.getElem_drop] at hv
 have hj : j < 5 := by have := (List.getElem?_eq_some_iff.1 hv).1; simpa [ndC] using this
 rw [Addr.add_lit, show k * 5 + (i * 5 + j) = (k + i) * 5 + j from by omega, h.cell (k + i) j (by omega) hj, hv]
theorem ins_cells (l : List Nd) (k : Nat) (hk : k ≤ l.length) (x : Nd) (cur : List Value) (h1 : cur.take (k * 5) = rows (l.take k)) (h2 : (l.length + 1) * 5 ≤ cur.length) :
  ∃ rest, ((cur.take ((k + 1) * 5) ++ rows (l.drop k) ++ cur.drop ((k + 1) * 5 + (l.drop k).length * 5)).take (k * 5) ++ rows [x] ++ (cur.take ((k + 1) * 5) ++ rows (l.drop k) ++ cur.drop ((k + 1) * 5 + (l.drop k).length * 5)).drop (k * 5 + [x].length * 5)) = rows (ins l k x) ++ rest ∧
   (l.length + 1) * 5 + rest.length = cur.length := by
 refine ⟨cur.drop ((k + 1) * 5 + (l.drop k).length * 5), ?_, ?_⟩
 ·have e1 : (cur.take ((k + 1) * 5)).length = (k + 1) * 5 := by rw [List.length_take]; omega
  have e2 : (cur.take ((k + 1) * 5) ++ rows (l.drop k) ++ cur.drop ((k + 1) * 5 + (l.drop k).length * 5)).take (k * 5) = rows (l.take k) := by
   rw [List.append_assoc, List.take_append_of_le_length (by rw [e1]; omega), List.take_take, Nat.min_eq_left (by omega), h1]
  have e3 : (cur.take ((k + 1) * 5) ++ rows (l.drop k) ++ cur.drop ((k + 1) * 5 + (l.drop k).length * 5)).drop (k * 5 + [x].length * 5) = rows (l.drop k) ++ cur.drop ((k + 1) * 5 + (l.drop k).length * 5) := by
   rw [List.append_assoc, List.drop_append, List.drop_of_length_le (by rw [e1]; simp; omega), e1, show k * 5 + [x].length * 5 - (k + 1) * 5 = 0 from by simp; omega]
   rfl
  rw [e2, e3, ins, rows_app]
  simp [rows, List.append_assoc]
 simp only [List.length_drop]; omega
set_option maxHeartbeats 4000000 in
theorem Insert_mid {w : World} {G cap X : Nat} {l : List Nd} {x : Nd} (h : Nr w G cap l) (k : Nat) (hk : k < l.length) (hroom : l.length + 1 ≤ cap) (hX : NdAt w X 0 x) (hne : X ≠ G) (hl : l.length ≤ 4000) (hfr : w.heap[X]? = some (.cells (ndC x).toArray TN (0, 0))) :
  Calls Tryz.prog 125 #[.slice (some ⟨G, 0, none⟩) l.length cap, .int .i64 (k : Int), .slice (some ⟨X, 0, none⟩) 1 1] w fun e w' => e = .returned (.slice (some ⟨G, 0, none⟩) (l.length + 1) cap) ∧ Nr w' G cap (ins l k x) ∧ Fp (fun j => j = G) w w' := by
 have hm := h.most
 unfold maxLen at hm
 obtain ⟨n, hn⟩ : ∃ n, n = l.length := ⟨_, rfl⟩
 have q1 : ((k : Int) == (n : Int)) = false := beq_eq_false_iff_ne.2 (by omega)
 have q2 : ((cap : Int) < (n : Int) + 1) = False := eq_false (by omega)
 have hkn : k < n := by omega
 have hn6 : n ≤ 4000 := by omega
 have hcn : n + 1 ≤ cap := by omega
 have wk : IntKind.i64.wrap ((k : Int) + 1) = ((k + 1 : Nat) : Int) := by rw [IntKind.wrap_i64]; omega
 have r1 : (cap = k + 1) = False := eq_false (by omega)
 have r2 : (cap = k) = False := eq_false (by omega)
 have r3 : (((k + 1 : Nat) : Int) ≤ (n : Int) + 1) = True := eq_true (by omega)
 have r4 : (k ≤ n) = True := eq_true (by omega)
 have r5 : ((0 : Int) ≤ ((k + 1 : Nat) : Int)) = True := eq_true (by omega)
 have r7 : ((k : Int) ≤ (n : Int) + 1) = True := eq_true (by omega)
 have r6 : ((0 : Int) ≤ (k : Int) + 1) = True := eq_true (by omega)
 have e5 : n + 1 - (k + 1) = n - k := by omega
 obtain ⟨rest, hgr, hrl⟩ := h.ex
 have hd : Nr w.drew G cap l := h.keep ((Fp.refl Non w).drew) id
 have hlc : (rows l ++ rest).length = cap * 5 := by rw [List.length_append, rows_len]; omega
 have hc1 : ∀ ty, ∃ v' w', (Builtin.copy_ #[TL, TL] ty #[.slice (some ⟨G, (k + 1) * 5, none⟩) (n - k) (cap - (k + 1)), .slice (some ⟨G, k * 5, none⟩) (n + 1 - k) (cap - k)]).run Tryz.prog w.drew = .ok v' w' ∧ CopR G cap ((rows l ++ rest).take ((k + 1) * 5) ++ rows (l.drop k) ++ (rows l ++ rest).drop ((k + 1) * 5 + (l.drop k).length * 5)) w.drew w' := fun ty =>
  copy_at (w := w.drew) hgr hlc ty ((k + 1) * 5) (n - k) (cap - (k + 1)) ⟨G, k * 5, none⟩ (n + 1 - k) (cap - k) (l.drop k) (by rw [List.length_drop, ← hn]; simp only [Nat.min_def]; split <;> omega) (hd.src k) (by rw [List.length_drop]; omega)
 have HC1 := Lib.hid hc1
 have HX := Lib.hid (And.intro hX hne)
 have HX2 := Lib.hid (And.intro (show (rows l ++ rest).take (k * 5) = rows (l.take k) by rw [List.take_append_of_le_length (by rw [rows_len]; omega), rows_take]) (show (l.length + 1) * 5 ≤ (rows l ++ rest).length by rw [hlc]; omega))
 have HX3 := Lib.hid (And.intro hlc h.most)
 have hov : ∀ o lb cb, (callFunc 163 #[.slice (some ⟨X, 0, none⟩) 1 1, .slice (some ⟨G, o, none⟩) lb cb]).run Tryz.prog w = .ok (.value (.bool false)) w := fun o lb cb => by
  obtain ⟨r, hg, hr⟩ := h.ex
  rw [run_callFunc_extern Tryz.func163 (by kernel_rfl) (by kernel_rfl) (by kernel_rfl) (e := Extern.SlicesOverlaps.overlaps #[TL, TL] #[4]) (by kernel_rfl),
   Lib.run_overlaps_apart w TL 4 TN Tryz.underlying22 5 szN ⟨X, 0, none⟩ ⟨G, o, none⟩ 1 1 lb cb hne TN TN 5 (cap * 5) (by simp [World.shape?, hfr, ndC]) (by simp [World.shape?, hg, rows_len]; omega) (by omega) (by simp [World.frozen?, hfr]) (by simp [World.frozen?, hfr])]
  rfl
 rw [← hn]
 have HN := Lib.hid hn
 clear hn
 go_enter Tryz.func125, Tryz.ntmps125
 clear h hX hfr hc1 hd hlc hgr hrl
 go_wp2_with (simp only [hov])
 go_region_law ((refine step_copy rfl _ _ TL TL rfl (.slice (some ⟨G, (k + 1) * 5, none⟩) (n - k) (cap - (k + 1))) (.slice (some ⟨G, k * 5, none⟩) (n + 1 - k) (cap - k)) (by simp [Act.eval, Act.put]) (by simp [Act.eval, Act.put]) (fun _ w' => CopR G cap _ w.drew w') (HC1.out _) ?_; intro v1 w1 hR1))
 have hX1 : NdAt w1 X 0 x := (HX.out.1.keep ((Fp.refl Non w).drew) id).keep hR1.fp HX.out.2
 have hc2 := fun ty => copy_at hR1.hp hR1.len ty (k * 5) (n + 1 - k) (cap - k) ⟨X, 0, none⟩ 1 1 [x] (by simp only [Nat.min_def, List.length_cons, List.length_nil]; split <;> omega) (fun i hi j v hv => by
  have hi0 : i = 0 := by simp at hi; omega
  subst hi0
  have := hX1.get j v hv
  rwa [show 0 * 5 + j = j from by omega]) (by simp; omega)
 have HC2 := Lib.hid hc2
 have HF1 := Lib.hid (((Fp.refl Non w).drew.any (S := fun j => j = G)).same hR1.fp)
 clear hR1 hX1 hc2
 go_wp2_with fail
 obtain ⟨v2, w2, hr, hR2⟩ := HC2.out 3
 rw [hr]
 simp only [Result.andThen]
 rw [Oper.upon_value]
 clear hr
 obtain ⟨rest2, he, hl2⟩ := ins_cells l k (by have := HN.out; omega) x (rows l ++ rest) HX2.out.1 HX2.out.2
 have hrow : Nr w2 G cap (ins l k x) := by
  refine ⟨⟨rest2, ?_, ?_⟩, ?_, HX3.out.2⟩
  ·have := hR2.hp; rw [he] at this; exact this
  ·rw [ins_length]; have := HX3.out.1; omega
  rw [ins_length]; have := HN.out; omega
 have HR := Lib.hid (And.intro hrow (HF1.out.same hR2.fp))
 clear hR2 he hl2 hrow
 go_wp2
 go_ret
 exact ⟨rfl, HR.out.1, HR.out.2⟩
structure InsR (w : World) (G n : Nat) (l : List Nd) (v' : Value) (w' : World) : Prop where
 ex : ∃ G' cap', v' = .slice (some ⟨G', 0, none⟩) n cap' ∧ Nr w' G' cap' l ∧ (G' = G ∨ w.heap.size ≤ G') ∧ Fp (fun j => j = G) w w'
set_option maxHeartbeats 2000000 in
theorem Insert_end {w : World} {G cap X : Nat} {l : List Nd} {x : Nd} (h : Nr w G cap l) (hX : NdAt w X 0 x) (hl : l.length ≤ 4000) (h0 : 0 < l.length) :
  Calls Tryz.prog 125 #[.slice (some ⟨G, 0, none⟩) l.length cap, .int .i64 (l.length : Int), .slice (some ⟨X, 0, none⟩) 1 1] w fun e w' => ∃ v', e = .returned v' ∧ InsR w G (l.length + 1) (l ++ [x]) v' w' := by
 have hap : ∀ ty, ∃ v' w', (Builtin.append_ #[TL, TL] ty #[.slice (some ⟨G, 0, none⟩) l.length cap, .slice (some ⟨X, 0, none⟩) 1 1]).run Tryz.prog w = .ok v' w' ∧ InsR w G (l.length + 1) (l ++ [x]) v' w' := fun ty => by
  obtain ⟨G', cap', w', hr, h1, _, h2, h3⟩ := app_nodes w 0 _ l [x] ty X 0 1 1 (h.owns (Nat.zero_le _)) rfl (fun i hi => by
   have hi0 : i = 0 := by simp at hi; omega
   subst hi0; exact hX) (by simp; omega) (Nat.zero_le _) (by omega)
  refine ⟨_, w', hr, ⟨G', cap', rfl, h1, ?_, (Fp.refl _ w).grown h2 (fun k hk => .inl (by simp [Value.ownBlock] at hk; exact hk.symm))⟩⟩
  rcases h3 with h3 | h3
  ·left; simp [Value.ownBlock] at h3; exact h3.symm
  exact .inr h3
 have hm := h.most
 have hr := h.room
 unfold maxLen at hm
 generalize l.length = n at *
 have HA := Lib.hid hap
 have hn1 : (0 : Int) ≤ (n : Int) := by omega
 clear hap h hX
 go_enter Tryz.func125, Tryz.ntmps125
 go_wp2_with (at_builtin; go_must (refine wpList_app rfl _ _ _ _ rfl _ _ rfl rfl (InsR w G (n + 1) (l ++ [x])) (HA.out TL) ?_))
 all_goals
  intro v2 w2 hR2
  have HR := Lib.hid hR2
  obtain ⟨G', cap', rfl, _⟩ := hR2.ex
  clear hR2
  go_wp2
  go_ret
  exact ⟨_, rfl, HR.out⟩
structure ZerR (w : World) (n gc : Nat) (W1 : World) (v' : Value) (w' : World) : Prop where
 v : v' = .slice (some ⟨w.heap.size, 0, none⟩) (n + 1) gc
 w : w' = W1
theorem zer {w W1 : World} {n gc k G cap : Nat} {ty : TypeId} (h : ∀ ty, (Builtin.append_ #[TL, 3] ty #[.slice (some ⟨G, 0, none⟩) k cap, .int .i64 ((n + 1 - k : Nat) : Int)]).run Tryz.prog w = .ok (.slice (some ⟨w.heap.size, 0, none⟩) (n + 1) gc) W1) :
  ∃ v' w', (Builtin.append_ #[TL, 3] ty #[.slice (some ⟨G, 0, none⟩) k cap, .int .i64 ((n + 1 - k : Nat) : Int)]).run Tryz.prog w = .ok v' w' ∧ ZerR w n gc W1 v' w' := ⟨_, _, h ty, rfl, rfl⟩
theorem grow_cells (l : List Nd) (k : Nat) (hk : k ≤ l.length) (x : Nd) (cur : List Value) (h1 : cur.take (k * 5) = rows (l.take k)) (h2 : (l.length + 1) * 5 ≤ cur.length) :
  ∃ rest, ((cur.take (k * 5) ++ rows [x] ++ cur.drop (k * 5 + [x].length * 5)).take ((k + 1) * 5) ++ rows (l.drop k) ++ (cur.take (k * 5) ++ rows [x] ++ cur.drop (k * 5 + [x].length * 5)).drop ((k + 1) * 5 + (l.drop k).length * 5)) = rows (ins l k x) ++ rest ∧
   (l.length + 1) * 5 + rest.length = cur.length := by
 have e0 : (rows (l.take k) ++ rows [x]).length = (k + 1) * 5 := by rw [List.length_append, rows_len, rows_len, List.length_take]; simp; omega
 refine ⟨(cur.take (k * 5) ++ rows [x] ++ cur.drop (k * 5 + [x].length * 5)).drop ((k + 1) * 5 + (l.drop k).length * 5), ?_, ?_⟩
 ·rw [h1]
  rw [List.take_append_of_le_length (by rw [e0]; omega), List.take_of_length_le (by rw [e0]; omega)]
  congr 1
  rw [ins, rows_app]
  simp [rows, List.append_assoc]
 rw [h1, List.length_drop, List.length_append, e0, List.length_drop, List.length_drop]
 simp; omega
set_option maxHeartbeats 4000000 in
theorem Insert_grow {w : World} {G cap X : Nat} {l : List Nd} {x : Nd} (h : Nr w G cap l) (k : Nat) (hk : k < l.length) (hroom : cap < l.length + 1) (hX : NdAt w X 0 x) (hl : l.length ≤ 4000) :
  Calls Tryz.prog 125 #[.slice (some ⟨G, 0, none⟩) l.length cap, .int .i64 (k : Int), .slice (some ⟨X, 0, none⟩) 1 1] w fun e w' => ∃ v', e = .returned v' ∧ InsR w G (l.length + 1) (ins l k x) v' w' := by
 have hm := h.most
 have hcr := h.room
 unfold maxLen at hm
 obtain ⟨n, hn⟩ : ∃ n, n = l.length := ⟨_, rfl⟩
 obtain ⟨i0, hi0, hz0, hzs, hzb⟩ := info_parts Tryz.infoN
 have hold : (Builtin.firstCells i0.size k (.slice (some ⟨G, 0, none⟩) k cap)).run Tryz.prog w.drew = .ok (rows (l.take k)).toArray w.drew := by
  rw [hzs]
  refine run_firstCells_some w.drew 5 k ⟨G, 0, none⟩ k cap (rows (l.take k)) (by rw [rows_len, List.length_take]; omega) (fun j v hj => ?_)
  have hj5 : j < k * 5 := by have := (List.getElem?_eq_some_iff.1 hj).1; rw [rows_len, List.length_take] at this; omega
  have hd : j / 5 < (l.take k).length := by rw [List.length_take]; omega
  have e : j / 5 * 5 + j % 5 = j := by omega
  rw [← e, rows_get _ (j / 5) (j % 5) hd (by omega), List.getElem_take] at hj
  have := h.cell (j / 5) (j % 5) (by omega) (by omega)
  rw [e, hj] at this
  rw [Addr.add_lit, Nat.zero_add]
  exact this
 have hrz : ∀ ty, _ := fun ty => Lib.run_append_grow_zeros w TL 3 ty TN i0 _ .i64 .i64 Tryz.underlying22 Tryz.underlying3 hi0 hz0 (some ⟨G, 0, none⟩) k cap (rows (l.take k)) hold (n + 1 - k) (by omega) (by omega) (by omega) (by omega) (by rw [hzb]; omega) (by rw [hzb]; exact growslice_fits (by omega) (by omega))
 rw [show k + (n + 1 - k) = n + 1 from by omega] at hrz
 obtain ⟨gc, hgc⟩ : ∃ gc, gc = grownCap w (n + 1) cap TN := ⟨_, rfl⟩
 have hgl : n + 1 ≤ gc := by rw [hgc]; exact grownCap_ge w (n + 1) cap TN
 have hgm : gc ≤ maxLen := by rw [hgc]; exact grownCap_le_maxLen w (n + 1) cap TN (by unfold maxLen; omega)
 rw [← hgc] at hrz
 obtain ⟨cur, hcur⟩ : ∃ cur : List Value, cur = ((rows (l.take k)).toArray ++ Builtin.zeroCells (Value.cells (.agg #[.string ⟨#[]⟩, .string ⟨#[]⟩, .int .i64 0, .int .i64 0, .int .i64 0])) (n + 1 - k) ++ Builtin.zeroCells (Value.cells (.agg #[.string ⟨#[]⟩, .string ⟨#[]⟩, .int .i64 0, .int .i64 0, .int .i64 0])) (gc - (n + 1))).toList := ⟨_, rfl⟩
 have hcl : cur.length = gc * 5 := by
  rw [hcur, Array.length_toList, Array.size_append, Array.size_append, size_zeroCells, size_zeroCells, List.size_toArray, rows_len, List.length_take]
  show min k l.length * 5 + (n + 1 - k) * 5 + (gc - (n + 1)) * 5 = gc * 5
  omega
 have hct : cur.take (k * 5) = rows (l.take k) := by
  rw [hcur, Array.toList_append, Array.toList_append, List.append_assoc, List.take_append_of_le_length (by simp [rows_len]; omega), List.take_of_length_le (by simp [rows_len]; omega)]
 obtain ⟨W1, hW1⟩ : ∃ W1, W1 = w.drew.alloc (.cells cur.toArray TN) := ⟨_, rfl⟩
 have hrz2 : ∀ ty, (Builtin.append_ #[TL, 3] ty #[.slice (some ⟨G, 0, none⟩) k cap, .int .i64 ((n + 1 - k : Nat) : Int)]).run Tryz.prog w = .ok (.slice (some ⟨w.heap.size, 0, none⟩) (n + 1) gc) W1 := fun ty => by
  rw [hW1, hcur]; exact hrz ty
 have hf1 : Fp Non w W1 := by rw [hW1]; exact ((Fp.refl Non w).drew).alloc _
 have hg1 : W1.heap[w.heap.size]? = some (.cells cur.toArray TN (0, 0)) := by rw [hW1]; exact heap_alloc_new w.drew _
 have hX1 := hX.keep hf1 id
 have h1 := h.keep hf1 id
 have hGlt := h.lt
 have hc1 : ∀ ty, ∃ v' w', (Builtin.copy_ #[TL, TL] ty #[.slice (some ⟨w.heap.size, k * 5, none⟩) (n + 1 - k) (gc - k), .slice (some ⟨X, 0, none⟩) 1 1]).run Tryz.prog W1 = .ok v' w' ∧ CopR w.heap.size gc (cur.take (k * 5) ++ rows [x] ++ cur.drop (k * 5 + [x].length * 5)) W1 w' := fun ty =>
  copy_at hg1 hcl ty (k * 5) (n + 1 - k) (gc - k) ⟨X, 0, none⟩ 1 1 [x] (by simp only [Nat.min_def, List.length_cons, List.length_nil]; split <;> omega) (fun i hi j v hv => by
   have hi0 : i = 0 := by simp at hi; omega
   subst hi0
   have := hX1.get j v hv
   rwa [show 0 * 5 + j = j from by omega]) (by simp; omega)
 have q1 : ((k : Int) == (n : Int)) = false := beq_eq_false_iff_ne.2 (by omega)
 have q2 : ((cap : Int) < (n : Int) + 1) = True := eq_true (by omega)
 have hkn : k < n := by omega
 have hn6 : n ≤ 4000 := by omega
 have hcn : cap = n := by omega
 have wk : IntKind.i64.wrap ((k : Int) + 1) = ((k + 1 : Nat) : Int) := by rw [IntKind.wrap_i64]; omega
 have wn : (n : Int) + 1 - (k : Int) = ((n + 1 - k : Nat) : Int) := by omega
 have r1 : (gc = k + 1) = False := eq_false (by omega)
 have r2 : (gc = k) = False := eq_false (by omega)
 have r8 : (cap = k) = False := eq_false (by omega)
 have r3 : (((k + 1 : Nat) : Int) ≤ (n : Int) + 1) = True := eq_true (by omega)
 have r4 : (k ≤ n) = True := eq_true (by omega)
 have r5 : ((0 : Int) ≤ ((k + 1 : Nat) : Int)) = True := eq_true (by omega)
 have r7 : ((k : Int) ≤ (n : Int) + 1) = True := eq_true (by omega)
 have r6 : ((0 : Int) ≤ (k : Int) + 1) = True := eq_true (by omega)
 have r9 : (k ≤ cap) = True := eq_true (by omega)
 have r10 : ((k : Int) ≤ (cap : Int)) = True := eq_true (by omega)
 have e5 : n + 1 - (k + 1) = n - k := by omega
 rw [← hn]
 have HZ := Lib.hid hrz2
 have HC1 := Lib.hid hc1
 have HX := Lib.hid (And.intro hn (And.intro h1 (And.intro hcl (And.intro hct (And.intro hgm (And.intro hgl (And.intro hf1 hGlt)))))))
 unfold maxLen at hgm
 clear hrz2 hc1 hrz hold hn h1 hX1 hg1 hf1 hW1 hcl hct hcur hgc hX h hGlt hcn hk hroom hl hcr hi0 hz0 hzs hzb
 go_enter Tryz.func125, Tryz.ntmps125
 go_wp2_with (at_builtin; go_must (refine wpList_app rfl _ _ _ _ rfl _ _ rfl rfl (fun v' w' => ZerR w n gc W1 v' w') (zer HZ.out) ?_))
 intro v2 w2 hR2
 obtain ⟨rfl, rfl⟩ := hR2
 go_wp2_with fail
 obtain ⟨v3, w3, hr, hR3⟩ := HC1.out 3
 rw [hr]
 simp only [Result.andThen]
 rw [Oper.upon_value]
 clear hr
 have h3 : Nr w3 G cap l := HX.out.2.1.keep hR3.fp (fun e => by have := HX.out.2.2.2.2.2.2.2; omega)
 have hd3 : Nr w3.drew G cap l := h3.keep ((Fp.refl Non w3).drew) id
 have hl3 := HX.out.1
 have hc2 : ∀ ty, ∃ v' w', (Builtin.copy_ #[TL, TL] ty #[.slice (some ⟨w.heap.size, (k + 1) * 5, none⟩) (n - k) (gc - (k + 1)), .slice (some ⟨G, k * 5, none⟩) (n - k) (cap - k)]).run Tryz.prog w3.drew = .ok v' w' ∧ CopR w.heap.size gc _ w3.drew w' := fun ty =>
  copy_at (w := w3.drew) hR3.hp hR3.len ty ((k + 1) * 5) (n - k) (gc - (k + 1)) ⟨G, k * 5, none⟩ (n - k) (cap - k) (l.drop k) (by rw [List.length_drop, ← hl3]; simp only [Nat.min_def]; split <;> omega) (hd3.src k) (by rw [List.length_drop]; omega)
 have HC2 := Lib.hid hc2
 have HF3 := Lib.hid hR3.fp
 clear hR3 h3 hd3 hl3 hc2
 go_wp2_with fail
 go_region_law ((refine step_copy rfl _ _ TL TL rfl (.slice (some ⟨w.heap.size, (k + 1) * 5, none⟩) (n - k) (gc - (k + 1))) (.slice (some ⟨G, k * 5, none⟩) (n - k) (cap - k)) (by simp [Act.eval, Act.put]) (by simp [Act.eval, Act.put]) (fun _ w' => CopR w.heap.size gc _ w3.drew w') (HC2.out _) ?_; intro v4 w4 hR4))
 obtain ⟨rest2, he, hl2⟩ := grow_cells l k (by have := HX.out.1; omega) x cur HX.out.2.2.2.1 (by have h1 := HX.out.1; have h2 := HX.out.2.2.1; have h3 := HX.out.2.2.2.2.2.1; omega)
 have hrow : Nr w4 w.heap.size gc (ins l k x) := by
  refine ⟨⟨rest2, ?_, ?_⟩, ?_, HX.out.2.2.2.2.1⟩
  ·have := hR4.hp; rw [he] at this; exact this
  ·rw [ins_length]; have := HX.out.2.2.1; omega
  rw [ins_length]; have h1 := HX.out.1; have h3 := HX.out.2.2.2.2.2.1; omega
 have hfp : Fp (fun j => j = G) w w4 := (((HX.out.2.2.2.2.2.2.1.any (S := fun j => j = G)).trans HF3.out (fun k hk => .inr (by rw [hk]; exact Nat.le_refl _))).trans (((Fp.refl Non w3).drew.any (S := fun j => j = w.heap.size)).same hR4.fp) (fun k hk => .inr (by rw [hk]; exact Nat.le_refl _)))
 have HR := Lib.hid (And.intro hrow hfp)
 clear hR4 he hl2 hrow hfp
 go_wp2
 go_ret
 exact ⟨_, rfl, ⟨w.heap.size, gc, rfl, HR.out.1, .inr (Nat.le_refl _), HR.out.2⟩⟩
end Go.Proofs.YtphoglepiegeiaaGreatDoor
