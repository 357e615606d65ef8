/- A text of this proof. -/
import Derived.ChangeSlices
import Derived.Deep.Grids
import Derived.Deep.Strs
import Derived.Laws.AppendOwnNone
import Derived.OpenShut
import Derived.ProofKit
import Derived.Test.YtphoglepiegeiaaGreatDoorZAA
import Derived.Test.YtphoglepiegeiaaGreatDoorZAB
import Derived.Test.YtphoglepiegeiaaGreatDoorZAC
import Derived.Test.YtphoglepiegeiaaGreatDoorZAH
import Derived.Test.YtphoglepiegeiaaGreatDoorZAI
import Derived.Test.YtphoglepiegeiaaGreatDoorZAJ
import Derived.Test.YtphoglepiegeiaaGreatDoorZAL
namespace Go.Proofs.YtphoglepiegeiaaGreatDoor
set_option linter.unusedSimpArgs false
set_option linter.unusedVariables false
set_option maxRecDepth 20000
namespace Pm
def sp (acc : List Bs) (cur : Bs) : Bs → Option (List Bs)
 | [] => if isPart cur = true ∧ acc.length < 6 then some (acc ++ [cur]) else none
 | c :: r => if c ≠ 47 then sp acc (cur ++ [c]) r else if isPart cur = true ∧ acc.length < 6 then sp (acc ++ [cur]) [] r else none
theorem cut_head {c : UInt8} {l : Bs} (h : c ≠ 47) : cut (c :: l) = ([], []) := by simp [cut, h]
theorem splitN_bad {n : Nat} {c : UInt8} {l : Bs} (h : c ≠ 47) : splitN n (c :: l) = none := by
 cases n with
 | zero => rfl
 | succ n => unfold splitN; rw [cut_head h]; simp
theorem splitN_no (n : Nat) (cur rest : Bs) (hc : ∀ c ∈ cur, c ≠ 47) (hr : rest = [] ∨ ∃ t, rest = 47 :: t) (hp : isPart cur = false) : splitN n (47 :: (cur ++ rest)) = none := by
 cases n with
 | zero => rfl
 | succ n =>
  by_cases h0 : cur = []
  ·subst h0
   have e : pl 12 rest = 0 := by
    rcases hr with rfl | ⟨t, rfl⟩
    ·rfl
    ·simp [pl, show okB 47 = false from by decide]
   unfold splitN
   simp [cut, e]
  ·have hlt : pl 12 cur < cur.length := by
    have h1 := pl_len 12 cur
    rcases Nat.lt_or_eq_of_le h1 with h | h
    ·exact h
    ·rw [(isPart_iff cur).2 ⟨h0, h⟩] at hp; cases hp
   have e : pl 12 (cur ++ rest) = pl 12 cur := by
    have key : ∀ (k : Nat) (x : Bs), pl k x < x.length → pl k (x ++ rest) = pl k x := by
     intro k
     induction k with
     | zero => intro x _; cases x <;> simp [pl]
     | succ k ih =>
      intro x hx
      cases x with
      | nil => simp at hx
      | cons c x =>
       by_cases hok : okB c = true
       ·simp [pl, hok] at hx ⊢
        exact ih x hx
       ·simp [pl, hok]
    exact key 12 cur hlt
   obtain ⟨c, t, hd⟩ : ∃ c t, cur.drop (pl 12 cur) = c :: t := by
    cases hh : cur.drop (pl 12 cur) with
    | nil => have := congrArg List.length hh; simp at this; omega
    | cons c t => exact ⟨c, t, rfl⟩
   have hne : c ≠ 47 := hc c (List.mem_of_mem_drop (by rw [hd]; simp))
   have e2 : (cur ++ rest).drop (pl 12 cur) = c :: (t ++ rest) := by
    rw [List.drop_append_of_le_length (by omega), hd]; rfl
   unfold splitN
   have ec : cut (47 :: (cur ++ rest)) = ((cur ++ rest).take (pl 12 cur), c :: (t ++ rest)) := by
    show ((cur ++ rest).take (pl 12 (cur ++ rest)), (cur ++ rest).drop (pl 12 (cur ++ rest))) = _
    rw [e, e2]
   rw [ec]
   simp only
   rw [splitN_bad hne]
   simp
theorem splitN_part (n : Nat) (cur rest : Bs) (hr : rest = [] ∨ ∃ t, rest = 47 :: t) (hp : isPart cur = true) :
  splitN (n + 1) (47 :: (cur ++ rest)) = if rest = [] then some [cur] else (splitN n rest).map (cur :: ·) := by
 have hi := (isPart_iff cur).1 hp
 have e := pl_app 12 cur rest hi.2 hr
 have ec : cut (47 :: (cur ++ rest)) = (cur, rest) := by
  show ((cur ++ rest).take (pl 12 (cur ++ rest)), (cur ++ rest).drop (pl 12 (cur ++ rest))) = _
  rw [e]; simp
 conv => lhs; unfold splitN
 rw [ec]; simp only; rw [if_neg hi.1]
theorem sp_eq : ∀ (rest cur : Bs) (acc : List Bs), acc.length ≤ 6 → (∀ c ∈ cur, c ≠ 47) → sp acc cur rest = (splitN (6 - acc.length) (47 :: (cur ++ rest))).map (acc ++ ·)
 | [], cur, acc, ha, hc => by
  unfold sp
  cases hp : isPart cur with
  | false => rw [splitN_no _ cur [] hc (Or.inl rfl) hp]; simp
  | true =>
   by_cases h6 : acc.length < 6
   ·rw [show 6 - acc.length = (5 - acc.length) + 1 by omega, splitN_part _ cur [] (Or.inl rfl) hp]; simp [h6]
   ·rw [show 6 - acc.length = 0 by omega]; simp [h6, splitN]
 | c :: r, cur, acc, ha, hc => by
  unfold sp
  by_cases h47 : c ≠ 47
  ·rw [if_pos h47, sp_eq r (cur ++ [c]) acc ha (fun x hx => by rw [List.mem_append] at hx; rcases hx with hx | hx; exact hc x hx; simp at hx; rw [hx]; exact h47)]
   simp
  ·have h47' : c = 47 := Decidable.not_not.1 h47
   subst h47'
   rw [if_neg h47]
   cases hp : isPart cur with
   | false => rw [splitN_no _ cur (47 :: r) hc (Or.inr ⟨r, rfl⟩) hp]; simp
   | true =>
    by_cases h6 : acc.length < 6
    ·rw [if_pos ⟨rfl, h6⟩, sp_eq r [] (acc ++ [cur]) (by simp; omega) (by simp),
      show 6 - acc.length = (5 - acc.length) + 1 by omega, splitN_part _ cur (47 :: r) (Or.inr ⟨r, rfl⟩) hp]
     simp only [List.nil_append, List.length_append, List.length_cons, List.length_nil]
     rw [show 6 - (acc.length + (0 + 1)) = 5 - acc.length by omega, if_neg (by simp)]
     simp [Function.comp_def]
    ·rw [if_neg (fun h => h6 h.2), show 6 - acc.length = 0 by omega]; simp [splitN]
theorem sp_split (r : Bs) (h : r ≠ []) : split (47 :: r) = sp [] [] r := by
 rw [sp_eq r [] [] (by simp) (by simp)]
 unfold split
 rw [if_neg (by simpa using h)]
 simp
theorem split_other {c : UInt8} {r : Bs} (h : c ≠ 47) : split (c :: r) = none := by
 unfold split; rw [if_neg (by rintro ⟨⟩; exact h rfl), splitN_bad h]
theorem split_nil : split [] = none := by decide
theorem isPart_all (l : Bs) : isPart l = (decide (1 ≤ l.length ∧ l.length ≤ 12) && l.all okB) := by
 rw [Bool.eq_iff_iff, isPart_iff]
 simp only [Bool.and_eq_true, decide_eq_true_eq, List.all_eq_true]
 constructor
 ·rintro ⟨h0, h1⟩
  have hp := isPart_len ((isPart_iff l).2 ⟨h0, h1⟩)
  refine ⟨hp, ?_⟩
  have key : ∀ (k : Nat) (x : Bs), pl k x = x.length → ∀ c ∈ x, okB c = true := by
   intro k
   induction k with
   | zero => intro x hx c hc; cases x with
    | nil => cases hc
    | cons a x => simp [pl] at hx
   | succ k ih =>
    intro x hx c hc
    cases x with
    | nil => cases hc
    | cons a x =>
     by_cases ha : okB a = true
     ·simp [pl, ha] at hx
      rcases List.mem_cons.1 hc with rfl | hc
      ·exact ha
      ·exact ih x hx c hc
     ·simp [pl, ha] at hx
  exact key 12 l h1
 ·rintro ⟨⟨h1, h2⟩, h3⟩
  refine ⟨by rintro rfl; simp at h1, ?_⟩
  rw [pl_all 12 l h3]; omega
end Pm
end Go.Proofs.YtphoglepiegeiaaGreatDoor
namespace Go.Proofs.YtphoglepiegeiaaGreatDoor
set_option maxRecDepth 20000
open Go.RowKit Pm
set_option maxHeartbeats 1000000 in
theorem rPart_c (l : Bs) (w : World) (hl : l.length ≤ 9223372036854775807) :
  Calls Tryz.prog 138 #[.string (B l)] w fun e w' => e = .returned (.bool (isPart l)) ∧ w = w' := by
 go_enter Tryz.func138, Tryz.ntmps138
 go_wp2
 go_loop [3] (fun i => ∃ k : Nat, k ≤ l.length ∧ i = .int .i64 k ∧ Hid (∀ i (h : i < l.length), i < k → okB l[i] = true)) (fun i => l.length - (intOf i).toNat)
 case atStart => exact ⟨0, by omega, rfl, fun i h hn => by omega⟩
 case round =>
  obtain ⟨k, hk, rfl, ha⟩ := hrel
  by_cases h1 : k < l.length
  ·obtain ⟨n, hn⟩ : ∃ n, (l[k]).toNat = n := ⟨_, rfl⟩
   by_cases hok : okN n = true
   ·have hnx : Hid (∀ i (h : i < l.length), i < k + 1 → okB l[i] = true) := fun i hi hik => by
     by_cases e : i = k
     ·subst e; unfold okB; rw [hn]; exact hok
     ·exact ha i hi (by omega)
    clear ha
    have hd : n = 45 ∨ (97 ≤ n ∧ n ≤ 122) ∨ (48 ≤ n ∧ n ≤ 57) := by unfold okN at hok; simp at hok; omega
    clear hok
    rcases hd with rfl | ⟨d1, d2⟩ | ⟨d1, d2⟩
    all_goals (
     go_wp2
     go_round
     case rel => exact ⟨k + 1, by omega, by go_num, hnx⟩
     case measure => simp [intOf]; omega)
   ·have hbad : isPart l = false := by
     rw [isPart_all, Bool.and_eq_false_iff]; right
     rw [List.all_eq_false]
     exact ⟨l[k], List.getElem_mem h1, by unfold okB; rw [hn]; exact hok⟩
    have HB := Lib.hid hbad; clear hbad ha
    have hd : n < 45 ∨ (45 < n ∧ n < 48) ∨ (57 < n ∧ n < 97) ∨ 122 < n := by unfold okN at hok; simp at hok; omega
    clear hok
    rcases hd with d1 | ⟨d1, d2⟩ | ⟨d1, d2⟩ | d1
    all_goals (
     have hne : ((n : Int) != 45) = true := by rw [bne_iff_ne]; omega
     go_wp2
     go_ret
     exact ⟨ret_bool HB.out.symm, rfl⟩)
  ·have hke : k = l.length := by omega
   subst hke
   have hall : l.all okB = true := by
    rw [List.all_eq_true]; intro c hc
    obtain ⟨i, hi, rfl⟩ := List.getElem_of_mem hc
    exact ha i hi hi
   have hp : isPart l = decide (1 ≤ l.length ∧ l.length ≤ 12) := by rw [isPart_all, hall, Bool.and_true]
   have HP := Lib.hid hp; clear hp hall ha
   go_wp2
   all_goals (go_ret; refine ⟨ret_bool ?_, rfl⟩; rw [HP.out, Bool.eq_iff_iff]; simp; omega)
end Go.Proofs.YtphoglepiegeiaaGreatDoor
namespace Go.Proofs.YtphoglepiegeiaaGreatDoor
set_option maxRecDepth 20000
open Go.RowKit Pm
def At (l : Bs) (acc : List Bs) (fr i : Nat) : Prop :=
 (i ≤ l.length ∧ 1 ≤ fr ∧ fr ≤ i ∧ split l = sp acc ((l.drop fr).take (i - fr)) (l.drop i)) ∨ (i = l.length + 1 ∧ split l = some acc)
theorem At.other {l : Bs} {acc : List Bs} {fr i : Nat} (h : At l acc fr i) (hi : i < l.length) (hc : l[i] ≠ 47) : At l acc fr (i + 1) := by
 rcases h with ⟨h1, h2, h3, h4⟩ | ⟨h1, _⟩
 ·refine Or.inl ⟨by omega, h2, by omega, ?_⟩
  rw [h4, List.drop_eq_getElem_cons hi]
  conv => lhs; unfold sp
  rw [if_pos hc]
  have e : (l.drop fr).take (i + 1 - fr) = (l.drop fr).take (i - fr) ++ [l[i]] := by
   rw [show i + 1 - fr = (i - fr) + 1 by omega, List.take_succ_eq_append_getElem (by simp; omega), List.getElem_drop]
   congr 2; simp [show fr + (i - fr) = i by omega]
  rw [e]
 ·omega
theorem At.bad {l : Bs} {acc : List Bs} {fr i : Nat} (h : At l acc fr i) (hi : i ≤ l.length) (hc : ∀ h : i < l.length, l[i] = 47) (hb : isPart ((l.drop fr).take (i - fr)) = false ∨ 6 ≤ acc.length) : split l = none := by
 rcases h with ⟨h1, h2, h3, h4⟩ | ⟨h1, _⟩
 ·rw [h4]
  have hn : ¬ (isPart ((l.drop fr).take (i - fr)) = true ∧ acc.length < 6) := by
   rintro ⟨a, b⟩
   rcases hb with hb | hb
   ·rw [a] at hb; cases hb
   ·omega
  by_cases hlt : i < l.length
  ·rw [List.drop_eq_getElem_cons hlt]
   unfold sp
   rw [if_neg (by simpa using hc hlt), if_neg hn]
  ·rw [show l.drop i = [] from List.drop_of_length_le (by omega)]
   unfold sp; rw [if_neg hn]
 ·omega
theorem At.part {l : Bs} {acc : List Bs} {fr i : Nat} (h : At l acc fr i) (hi : i ≤ l.length) (hc : ∀ h : i < l.length, l[i] = 47) (hp : isPart ((l.drop fr).take (i - fr)) = true) (h6 : acc.length < 6) :
  At l (acc ++ [(l.drop fr).take (i - fr)]) (i + 1) (i + 1) := by
 rcases h with ⟨h1, h2, h3, h4⟩ | ⟨h1, _⟩
 ·by_cases hlt : i < l.length
  ·refine Or.inl ⟨by omega, by omega, Nat.le_refl _, ?_⟩
   rw [h4, List.drop_eq_getElem_cons hlt]
   conv => lhs; unfold sp
   rw [if_neg (by simpa using hc hlt), if_pos ⟨hp, h6⟩]
   simp
  ·refine Or.inr ⟨by omega, ?_⟩
   rw [h4, show l.drop i = [] from List.drop_of_length_le (by omega)]
   unfold sp; rw [if_pos ⟨hp, h6⟩]
 ·omega
def RRel (l : Bs) (w : World) (v f i : Value) (wr : World) : Prop :=
 ∃ (acc : List Bs) (fr j : Nat), j ≤ l.length + 1 ∧ 1 ≤ j ∧ f = .int .i64 fr ∧ i = .int .i64 j ∧ fr ≤ j ∧ acc.length ≤ 6 ∧ At l acc fr j ∧ Own w.heap.size wr v acc ∧ Below w.heap.size w wr
set_option maxRecDepth 100000 in
set_option maxHeartbeats 2000000 in
theorem rSplit_loop (c : UInt8) (r : Bs) (w : World) (hl : r.length ≤ 4611686018427387903) (hc : c = 47) (hr : r ≠ []) :
  Calls Tryz.prog 103 #[.string (B (c :: r))] w (SplitPost (c :: r) w) := by
 obtain ⟨i0, hi, hz0, hz1, hz2⟩ := info_parts Tryz.infoS
 obtain ⟨l, hle⟩ : ∃ l, l = c :: r := ⟨_, rfl⟩
 have hl0 : (l == [47]) = false := by rw [hle, hc]; simpa using hr
 have hlen : 1 ≤ l.length := by rw [hle]; simp
 have hl' : l.length ≤ 4611686018427387904 := by rw [hle]; simp; omega
 have hnil : l.isEmpty = false := by rw [hle]; rfl
 have hne : l ≠ [] := by rw [hle]; simp
 have hat : At l [] 1 1 := Or.inl ⟨by omega, by omega, by omega, by rw [hle, hc]; simpa using sp_split r hr⟩
 have hg0 : l[0] = 47 := by simp only [hle, hc, List.getElem_cons_zero]
 have hne2 : l ≠ [47] := by simpa using hl0
 rw [← hle]
 have HA := Lib.hid hat; clear hat hle
 go_enter Tryz.func103, Tryz.ntmps103
 go_wp2
 go_loopw [4, 5, 6] (fun v f i wr => RRel l w v f i wr) (fun _ _ i _ => l.length + 1 - (intOf i).toNat)
 case atStart => exact ⟨[], 1, 1, by omega, by omega, rfl, rfl, by omega, by simp, HA.out, Own.nil _ _, Below.refl _ _⟩
 case round =>
  clear HA hg0
  obtain ⟨acc, fr, j, hj, hj1, rfl, rfl, hfj, h6, hA, hown, hb⟩ := hrel
  have HA := Lib.hid hA; clear hA
  have hs := hb.size
  by_cases hjl : j ≤ l.length
  ·by_cases hsl : ∃ h : j < l.length, l[j] ≠ 47
   ·obtain ⟨hlt, h47⟩ := hsl
    have h47' : (((l[j]).toNat : Int) != 47) = true := by
     rw [bne_iff_ne]; intro h; apply h47; apply UInt8.toNat.inj; exact Int.ofNat_inj.1 h
    have hA' := Lib.hid (HA.out.other hlt h47)
    clear h47
    go_wp2
    go_roundw
    case rel => exact ⟨acc, fr, j + 1, by omega, by omega, rfl, by go_num, by omega, h6, hA'.out, hown, hb⟩
    case measure => simp [intOf]; omega
   ·have h47 : ∀ h : j < l.length, l[j] = 47 := fun h => Decidable.not_not.1 fun k => hsl ⟨h, k⟩
    clear hsl
    have hcl : ((l.drop fr).take (j - fr)).length ≤ 9223372036854775807 := by simp; omega
    obtain ⟨ao, cap, rfl⟩ := hown.shape
    cases hp : isPart ((l.drop fr).take (j - fr)) with
    | false =>
     have hno := Lib.hid (HA.out.bad hjl h47 (Or.inl hp))
     have HP := Lib.hid (fun w => (by rw [← hp]; exact rPart_c _ w hcl : Calls Tryz.prog 138 #[.string (B ((l.drop fr).take (j - fr)))] w fun e w' => e = .returned (.bool false) ∧ w = w'))
     clear hp
     by_cases hlt : j < l.length
     ·have h47' : (((l[j]).toNat : Int) != 47) = false := by rw [h47 hlt]; rfl
      clear h47
      go_wp2_with fail
      refine (HP.out _).mono ?_
      rintro e w1 ⟨rfl, rfl⟩
      go_wp2
      go_ret2
      exact ⟨_, by rw [hno.out]; rfl, by rw [hno.out]; exact Own.nil _ _, hb⟩
     ·clear h47
      go_wp2_with fail
      refine (HP.out _).mono ?_
      rintro e w1 ⟨rfl, rfl⟩
      go_wp2
      go_ret2
      exact ⟨_, by rw [hno.out]; rfl, by rw [hno.out]; exact Own.nil _ _, hb⟩
    | true =>
     have HP := Lib.hid (fun w => (by rw [← hp]; exact rPart_c _ w hcl : Calls Tryz.prog 138 #[.string (B ((l.drop fr).take (j - fr)))] w fun e w' => e = .returned (.bool true) ∧ w = w'))
     by_cases h66 : acc.length < 6
     ·have hA' := Lib.hid (HA.out.part hjl h47 hp h66)
      clear hp
      by_cases hlt : j < l.length
      ·have h47' : (((l[j]).toNat : Int) != 47) = false := by rw [h47 hlt]; rfl
       clear h47
       go_wp2_with fail
       refine (HP.out _).mono ?_
       rintro e w1 ⟨rfl, rfl⟩
       go_wp2_with (at_builtin; go_must (refine wpList_append_own _ rfl _ _ 32 rfl w.heap.size 9 i0 (.string ⟨#[]⟩) 1 16 Tryz.underlying32 hi hz0 hz1 hz2 rfl (by decide) _ _ _ rfl (hown.1.alloc _) ⟨wr.heap.size, 0, none⟩ 1 1 [strV ((l.drop fr).take (j - fr))] rfl rfl (cell_one_new _ _ _) (one_c2 _) (by unfold maxLen; omega) (by omega) (by simp; omega) ?_; intro v' w2 hown' hgrow _))
       obtain ⟨hO, hB⟩ := Own.push hown.1 hb hs hown' hgrow
       clear hown' hgrow hown
       go_roundw
       case rel => exact ⟨acc ++ [((l.drop fr).take (j - fr))], j + 1, j + 1, by omega, by omega, by go_num, by go_num, by omega, by simp; omega, hA'.out, hO, hB⟩
       case measure => simp [intOf]; omega
      ·clear h47
       go_wp2_with fail
       refine (HP.out _).mono ?_
       rintro e w1 ⟨rfl, rfl⟩
       go_wp2_with (at_builtin; go_must (refine wpList_append_own _ rfl _ _ 32 rfl w.heap.size 9 i0 (.string ⟨#[]⟩) 1 16 Tryz.underlying32 hi hz0 hz1 hz2 rfl (by decide) _ _ _ rfl (hown.1.alloc _) ⟨wr.heap.size, 0, none⟩ 1 1 [strV ((l.drop fr).take (j - fr))] rfl rfl (cell_one_new _ _ _) (one_c2 _) (by unfold maxLen; omega) (by omega) (by simp; omega) ?_; intro v' w2 hown' hgrow _))
       obtain ⟨hO, hB⟩ := Own.push hown.1 hb hs hown' hgrow
       clear hown' hgrow hown
       go_roundw
       case rel => exact ⟨acc ++ [((l.drop fr).take (j - fr))], j + 1, j + 1, by omega, by omega, by go_num, by go_num, by omega, by simp; omega, hA'.out, hO, hB⟩
       case measure => simp [intOf]; omega
     ·have hno := Lib.hid (HA.out.bad hjl h47 (Or.inr (by omega)))
      clear hp
      by_cases hlt : j < l.length
      ·have h47' : (((l[j]).toNat : Int) != 47) = false := by rw [h47 hlt]; rfl
       clear h47
       go_wp2_with fail
       refine (HP.out _).mono ?_
       rintro e w1 ⟨rfl, rfl⟩
       go_wp2
       go_ret2
       exact ⟨_, by rw [hno.out]; rfl, by rw [hno.out]; exact Own.nil _ _, hb⟩
      ·clear h47
       go_wp2_with fail
       refine (HP.out _).mono ?_
       rintro e w1 ⟨rfl, rfl⟩
       go_wp2
       go_ret2
       exact ⟨_, by rw [hno.out]; rfl, by rw [hno.out]; exact Own.nil _ _, hb⟩
  ·have hje : j = l.length + 1 := by omega
   have e : split l = some acc := by
    rcases HA.out with ⟨h, _⟩ | ⟨_, h⟩
    ·omega
    ·exact h
   have HE := Lib.hid e; clear e HA
   go_wp2
   go_ret2
   exact ⟨_, by rw [HE.out]; rfl, by rw [HE.out]; exact hown, hb⟩
set_option maxHeartbeats 400000 in
theorem rSplit_c (l : Bs) (w : World) (hl : l.length ≤ 4611686018427387904) :
  Calls Tryz.prog 103 #[.string (B l)] w (SplitPost l w) := by
 match l, hl with
 | [], _ =>
  go_enter Tryz.func103, Tryz.ntmps103
  go_wp2
  go_ret2
  exact ⟨_, by rw [split_nil]; rfl, by rw [split_nil]; exact Own.nil _ _, Below.refl _ _⟩
 | c :: r, hl =>
  by_cases hc : c = 47
  ·by_cases hr : r = []
   ·subst hc hr
    go_enter Tryz.func103, Tryz.ntmps103
    go_wp2
    go_ret2
    exact ⟨_, rfl, Own.nil _ _, Below.refl _ _⟩
   ·exact rSplit_loop c r w (by simp at hl; omega) hc hr
  ·have hne : ((c.toNat : Int) != 47) = true := by
    rw [bne_iff_ne]; intro h; apply hc; apply UInt8.toNat.inj; exact Int.ofNat_inj.1 h
   have h0 : (c :: r == [47]) = false := by
    rw [beq_eq_false_iff_ne]; rintro ⟨⟩; exact hc rfl
   have hn2 : ¬ (c = 47 ∧ r = []) := fun h => hc h.1
   have HS := Lib.hid (split_other (r := r) hc)
   clear hc
   simp at hl
   go_enter Tryz.func103, Tryz.ntmps103
   go_wp2
   go_ret2
   exact ⟨_, by rw [HS.out]; rfl, by rw [HS.out]; exact Own.nil _ _, Below.refl _ _⟩
end Go.Proofs.YtphoglepiegeiaaGreatDoor
namespace Go.Proofs.YtphoglepiegeiaaGreatDoor
set_option maxRecDepth 20000
open Go.RowKit Pm
set_option maxHeartbeats 1000000 in
theorem rpath_c (g cap : Nat) (p : Bs) (r : List Bs) (w : World) (h : Lies w g cap (p :: r)) (hn : (p :: r).length ≤ 1000) (hl : lens (p :: r) ≤ 500000000) :
  Calls Tryz.prog 111 #[.slice (some ⟨g, 0, none⟩) (r.length + 1) cap] w fun e w' => e = .returned (.string (B (joinP (p :: r)))) ∧ w = w' := by
 obtain ⟨ps, hps⟩ : ∃ ps, ps = p :: r := ⟨_, rfl⟩
 have hlen : ps.length = r.length + 1 := by rw [hps]; rfl
 rw [← hps] at h hn hl ⊢
 rw [← hlen]
 have h0 : ((ps.length : Int) == 0) = false := beq_eq_false_iff_ne.2 (by omega)
 have hjoin : joinP ps = flat ps := by rw [hps]; exact joinP_cons p r
 have HJ := Lib.hid hjoin; clear hjoin hps hlen
 have hc := h.cell
 unfold strV at hc
 have HC := Lib.hid hc; clear hc
 have hroom := h.room
 have hfl := flat_len ps
 have HF := Lib.hid hfl; clear hfl h
 go_enter Tryz.func111, Tryz.ntmps111
 go_wp2
 go_loop [3, 4] (fun o i => ∃ k : Nat, k ≤ ps.length ∧ i = .int .i64 k ∧ o = .string (B (flat (ps.take k)))) (fun _ i => ps.length - (intOf i).toNat)
 case atStart => exact ⟨0, Nat.zero_le _, rfl, rfl⟩
 case round =>
  obtain ⟨k, hk, rfl, rfl⟩ := hrel
  by_cases hlt : k < ps.length
  ·have hc := HC.out k hlt
   have hst := flat_take_succ ps k hlt
   have hb : (flat (ps.take k)).length + 1 + (ps[k]).length ≤ 600000000 := by
    have e3 := congrArg List.length hst
    have e4 := flat_len (ps.take (k + 1))
    have e6 := lens_take_le ps (k + 1)
    have e7 : (ps.take (k + 1)).length ≤ ps.length := by rw [List.length_take]; omega
    simp only [List.length_append, List.length_cons, List.length_nil] at e3
    omega
   have HS := Lib.hid hst; clear hst
   generalize hx : ps[k] = x at hc hb HS
   clear hx
   generalize hJ : flat (ps.take k) = J at hb HS
   clear hJ
   go_wp2
   go_round
   case rel => exact ⟨k + 1, by omega, by go_num, by rw [HS.out]; simp⟩
   case measure => simp [intOf]; omega
  ·have hke : k = ps.length := by omega
   subst hke
   rw [List.take_length]
   go_wp2
   go_ret
   exact ⟨by rw [HJ.out]; rfl, rfl⟩
theorem rpath_none (a : Option Addr) (c : Nat) (w : World) :
  Calls Tryz.prog 111 #[.slice a 0 c] w fun e w' => e = .returned (.string (B (joinP []))) ∧ w = w' := by
 go_enter Tryz.func111, Tryz.ntmps111
 go_wp2
 go_ret
 exact ⟨rfl, rfl⟩
theorem rpath_any (g cap : Nat) (ps : List Bs) (w : World) (h : Lies w g cap ps) (hP : Parts ps) :
  Calls Tryz.prog 111 #[.slice (some ⟨g, 0, none⟩) ps.length cap] w fun e w' => e = .returned (.string (B (joinP ps))) ∧ w = w' := by
 have h1 := hP.1
 have h2 := hP.lens
 cases ps with
 | nil => exact rpath_none _ _ _
 | cons p r => exact rpath_c g cap p r w h (by omega) (by omega)
set_option maxHeartbeats 400000 in
theorem rRight_g (l : Bs) (w : World) (hl : sz l) :
  Calls Tryz.prog 67 #[.string (B l)] w fun e w' => e = .returned (.bool (split l).isSome) ∧ Gr w w' := by
 go_enter Tryz.func67, Tryz.ntmps67
 go_wp2_with fail
 refine (rSplit_c l w hl).mono ?_
 rintro e w1 ⟨v, rfl, _, hb⟩
 go_wp2
 go_ret
 exact ⟨rfl, hb⟩
theorem no_parent {l : Bs} (h : parent l = none) : (split l).getD [] = [] := by
 unfold parent at h
 split at h
 ·cases h
 ·rename_i hx
  cases hs : split l with
  | none => rfl
  | some ps => cases ps with
   | nil => rfl
   | cons p r => exact absurd hs (hx p r)
theorem has_parent {l a : Bs} (h : parent l = some a) : ∃ p r, split l = some (p :: r) ∧ a = joinP (p :: r).dropLast := by
 unfold parent at h
 split at h
 ·rename_i p r hs; injection h with h; exact ⟨p, r, hs, h.symm⟩
 ·cases h
set_option maxHeartbeats 400000 in
theorem rParent_g (l : Bs) (w : World) (hl : sz l) :
  Calls Tryz.prog 78 #[.string (B l)] w fun e w' => e = .returned (.tuple #[.string (B ((parent l).getD [])), .bool (parent l).isSome]) ∧ Gr w w' := by
 cases hp : parent l with
 | none =>
  have HN := Lib.hid (no_parent hp); clear hp
  cases hs : (split l).isSome with
  | false =>
   have HS := Lib.hid hs; clear hs
   go_enter Tryz.func78, Tryz.ntmps78
   go_wp2_with fail
   refine (rSplit_c l w hl).mono ?_
   rintro e w1 ⟨v, rfl, hown, hb⟩
   rw [HS.out]
   go_wp2
   go_ret2
   exact ⟨rfl, hb⟩
  | true =>
   have HS := Lib.hid hs; clear hs
   go_enter Tryz.func78, Tryz.ntmps78
   go_wp2_with fail
   refine (rSplit_c l w hl).mono ?_
   rintro e w1 ⟨v, rfl, hown, hb⟩
   rw [HS.out]
   rw [HN.out] at hown
   obtain rfl := hown.2 rfl
   go_wp2
   go_ret2
   exact ⟨rfl, hb⟩
 | some a =>
  obtain ⟨p, r, hs, rfl⟩ := has_parent hp
  have hP := ((split_iff _ _).1 hs).1
  have HS := Lib.hid hs; clear hs hp
  go_enter Tryz.func78, Tryz.ntmps78
  go_wp2_with fail
  refine (rSplit_c l w hl).mono ?_
  rintro e w1 ⟨v, rfl, hown, hb⟩
  rw [HS.out] at hown ⊢
  obtain ⟨g, cap, rfl, hg, hlies⟩ := hown.lies
  have h6 := hP.1
  have hc1 := hlies.room
  have hc2 := hlies.most
  unfold maxLen at hc2
  simp only [List.length_cons] at hc1 h6
  have hd : (p :: r).dropLast = (p :: r).take r.length := by rw [List.dropLast_eq_take]; simp
  have hlen : ((p :: r).take r.length).length = r.length := by simp
  have hw := rpath_any g cap ((p :: r).take r.length) w1 (hlies.take _) (hP.take _)
  rw [hlen, ← hd] at hw
  have HW := Lib.hid hw; clear hw hlen hd hlies
  go_wp2_with fail
  refine HW.out.mono ?_
  rintro e w2 ⟨rfl, rfl⟩
  go_wp2
  go_ret2
  exact ⟨rfl, hb⟩
end Go.Proofs.YtphoglepiegeiaaGreatDoor
namespace Go.Proofs.YtphoglepiegeiaaGreatDoor
set_option maxRecDepth 20000
open Go.RowKit Pm
end Go.Proofs.YtphoglepiegeiaaGreatDoor
namespace Go.Proofs.YtphoglepiegeiaaGreatDoor
set_option maxRecDepth 20000
set_option linter.unusedVariables false
set_option linter.unusedSimpArgs false
open Go.RowKit Pm
set_option maxHeartbeats 400000 in
theorem rUp_c (p : Bs) (w : World) (hl : p.length ≤ 1000000) :
  Calls Tryz.prog 69 #[.string (B p)] w fun e w' => e = .returned (.string (B (upB p))) ∧ Fp Non w w' := by
 have hpa := fun w => rParent_g p w (sz_of hl (by omega))
 cases h : parent p with
 | none =>
  rw [h] at hpa
  simp only [Option.getD_none, Option.isSome_none] at hpa
  have e : upB p = [47] := by unfold upB; rw [h]; rfl
  rw [e]
  have HP := Lib.hid hpa
  clear hpa hl h e
  go_enter Tryz.func69, Tryz.ntmps69
  go_wp2_with fail
  refine (HP.out _).mono ?_
  rintro e w1 ⟨rfl, g1⟩
  have F := Lib.hid g1.fp
  clear g1
  go_wp2
  go_ret
  exact ⟨rfl, F.out⟩
 | some u =>
  rw [h] at hpa
  simp only [Option.getD_some, Option.isSome_some] at hpa
  have e : upB p = u := by unfold upB; rw [h]; rfl
  rw [e]
  have HP := Lib.hid hpa
  clear hpa hl h e
  go_enter Tryz.func69, Tryz.ntmps69
  go_wp2_with fail
  refine (HP.out _).mono ?_
  rintro e w1 ⟨rfl, g1⟩
  have F := Lib.hid g1.fp
  clear g1
  go_wp2
  go_ret
  exact ⟨rfl, F.out⟩
set_option maxHeartbeats 400000 in
theorem rHome_c (p : Bs) (w : World) (hl : p.length ≤ 1000000) :
  Calls Tryz.prog 36 #[.string (B p)] w fun e w' => e = .returned (.string (B (upB p))) ∧ Fp Non w w' := by
 have HU := Lib.hid (rUp_c p w hl)
 clear hl
 go_enter Tryz.func36, Tryz.ntmps36
 go_wp2_with fail
 refine HU.out.mono ?_
 rintro e w1 ⟨rfl, hf⟩
 have F := Lib.hid hf
 clear hf
 go_wp2
 go_ret
 exact ⟨rfl, F.out⟩
def nfit (n : Nd) : Bool := (split n.path).isSome && decide (n.data.length ≤ 256 ∧ 0 ≤ n.ver ∧ n.ver ≤ 281474976710656 ∧ 0 ≤ n.own ∧ n.own ≤ 1099511627776 ∧ n.turn = 0)
theorem nfit_of {n : Nd} (h : sfit n = true) : nfit n = true := by
 obtain ⟨h1, h2, h3, h4, h5, h6, h7, h8⟩ := (sfit_iff n).1 h
 unfold nfit; rw [h1]; simp only [Bool.true_and, decide_eq_true_eq]; exact ⟨h2, h5, h6, h7, h8, h3⟩
set_option maxHeartbeats 4000000 in
theorem rNode_c (n : Nd) (w : World) (hl : n.path.length ≤ 1000000) :
  Calls Tryz.prog 66 #[ndV n] w fun e w' => e = .returned (.bool (nfit n)) ∧ Fp Non w w' := by
 have hri := fun w => rRight_g n.path w (sz_of hl (by omega))
 obtain ⟨p, d, v, t, o⟩ := n
 obtain ⟨sp, hsp⟩ : ∃ b, (split p).isSome = b := ⟨_, rfl⟩
 simp only at hri
 rw [hsp] at hri
 have HR := Lib.hid hri
 have HSP := Lib.hid hsp
 have hf0 := fp_alloc w (.cells #[.string (B p), .string (B d), .int .i64 v, .int .i64 t, .int .i64 o] TN)
 have hb0 := heap_alloc_new w (.cells #[.string (B p), .string (B d), .int .i64 v, .int .i64 t, .int .i64 o] TN)
 have HF0 := Lib.hid (And.intro hf0 hb0)
 obtain ⟨m, hm⟩ : ∃ m, nfit ⟨p, d, v, t, o⟩ = m := ⟨_, rfl⟩
 have HM := Lib.hid hm
 rw [hm]
 unfold ndV strV
 simp only
 clear hri hsp hf0 hb0 hm hl
 go_enter Tryz.func66, Tryz.ntmps66
 go_wp2_with fail
 all_goals
  refine (HR.out _).mono ?_
  rintro e w1 ⟨rfl, g1⟩
  have F1 := Lib.hid (HF0.out.1.then g1.fp)
  have hb1 := (g1.fp.heap HF0.out.2 (fun h => h))
  obtain ⟨o0, o1, o2, o3, o4⟩ := box5 hb1
  clear g1 hb1
 all_goals go_wp2
 all_goals
  go_ret
  refine ⟨ret_bool ?_, F1.out⟩
  have hm := HM.out
  have hs := HSP.out
  rw [← hm]
  unfold nfit
  clear HR HF0 F1 o0 o1 o2 o3 o4 hm HM HSP
  rw [hs]
  clear hs
  dsimp only
  first
   | (simp_all; done)
   | (simp_all; omega)
   | (have hdl : List.length d ≤ 256 := (by omega); rw [Bool.eq_iff_iff]; simp_all)
set_option maxHeartbeats 2000000 in
theorem GreatPart_c (x : Pt) (w : World) :
  Calls Tryz.prog 16 #[ptV x] w fun e w' => ∃ c, e = .returned (.bool c) ∧ (c = false → x.dir.length ≤ 3000 ∧ x.path.length ≤ 3000 ∧ x.data.length ≤ 3000) ∧ Fp Non w w' := by
 obtain ⟨kk, di, p, d, v, ow, t⟩ := x
 unfold ptV strV
 by_cases h0 : 3000 < di.length
 ·have q1 : (3000 < di.length) = True := eq_true h0
  have q2 : ((3000 : Int) < (di.length : Int)) = True := eq_true (by omega)
  clear h0
  go_enter Tryz.func16, Tryz.ntmps16
  go_wp2
  go_ret
  exact ⟨_, rfl, fun h => by simp at h, (Fp.refl Non w).alloc _⟩
 have q1 : (3000 < di.length) = False := eq_false h0
 have q2 : ((3000 : Int) < (di.length : Int)) = False := eq_false (by omega)
 by_cases h1 : 3000 < p.length
 ·have q3 : (3000 < p.length) = True := eq_true h1
  have q4 : ((3000 : Int) < (p.length : Int)) = True := eq_true (by omega)
  clear h0 h1
  go_enter Tryz.func16, Tryz.ntmps16
  go_wp2
  go_ret
  exact ⟨_, rfl, fun h => by simp at h, (Fp.refl Non w).alloc _⟩
 have q3 : (3000 < p.length) = False := eq_false h1
 have q4 : ((3000 : Int) < (p.length : Int)) = False := eq_false (by omega)
 by_cases h2 : 3000 < d.length
 ·have q5 : (3000 < d.length) = True := eq_true h2
  have q6 : ((3000 : Int) < (d.length : Int)) = True := eq_true (by omega)
  clear h0 h1 h2
  go_enter Tryz.func16, Tryz.ntmps16
  go_wp2
  go_ret
  exact ⟨_, rfl, fun h => by simp at h, (Fp.refl Non w).alloc _⟩
 have q5 : (3000 < d.length) = False := eq_false h2
 have q6 : ((3000 : Int) < (d.length : Int)) = False := eq_false (by omega)
 have HL := Lib.hid (show di.length ≤ 3000 ∧ p.length ≤ 3000 ∧ d.length ≤ 3000 by omega)
 clear h0 h1 h2
 go_enter Tryz.func16, Tryz.ntmps16
 go_wp2
 go_ret
 exact ⟨_, rfl, fun _ => HL.out, (Fp.refl Non w).alloc _⟩
end Go.Proofs.YtphoglepiegeiaaGreatDoor
namespace Go.Proofs.YtphoglepiegeiaaGreatDoor
set_option maxRecDepth 20000
set_option linter.unusedVariables false
set_option linter.unusedSimpArgs false
open Go.RowKit Pm
structure GrM (l : List Nd) (w : World) (k : Nat) (N : Int) (wr : World) : Prop where
 fp : Fp Non w wr
 lo : 3 * (l.length : Int) ≤ N
 eq : ∀ j (h : j < l.length), j < k → (min (l[j].path.length : Int) 5000 ≤ N ∧ min (l[j].data.length : Int) 5000 ≤ N)
theorem min5 (a : Nat) : (0 : Int) ≤ min (a : Int) 5000 ∧ min (a : Int) 5000 ≤ 5000 := by omega
theorem GrM.next {l : List Nd} {w wr wr' : World} {k : Nat} {N : Int} (h : GrM l w k N wr) (f : Fp Non wr wr') (hk : k < l.length) :
  GrM l w (k + 1) (N + min (l[k].path.length : Int) 5000 + min (l[k].data.length : Int) 5000) wr' := by
 have hN : 0 ≤ N := by have := h.lo; omega
 have m1 := min5 l[k].path.length
 have m2 := min5 l[k].data.length
 refine ⟨h.fp.then f, by have := h.lo; omega, fun j hj hjk => ?_⟩
 rcases Nat.lt_or_eq_of_le (show j ≤ k by omega) with e | e
 ·have := h.eq j hj e
  omega
 ·subst e
  omega
theorem GrM.few {l : List Nd} {w wr : World} {k : Nat} {N : Int} (h : GrM l w k N wr) (hk : k = l.length) (hN : N < 5000) : l.length ≤ 1667 ∧ ∀ x ∈ l, x.path.length ≤ 5000 ∧ x.data.length ≤ 5000 := by
 refine ⟨by have := h.lo; omega, fun x hx => ?_⟩
 obtain ⟨j, hj, rfl⟩ := List.getElem_of_mem hx
 have := h.eq j hj (by omega)
 omega
set_option maxHeartbeats 6000000 in
theorem Great_c (v : Value) (l : List Nd) (w : World) (hv : Ns w v l) (hn : l.length ≤ 140737488355328) :
  Calls Tryz.prog 26 #[v] w fun e w' => ∃ g : Bool, e = .returned (.bool g) ∧ (g = false → l.length ≤ 1667 ∧ ∀ x ∈ l, x.path.length ≤ 5000 ∧ x.data.length ≤ 5000) ∧ Fp Non w w' := by
 obtain ⟨ao, cap, rfl⟩ := hv.shape
 obtain ⟨n, hnn⟩ : ∃ n, n = l.length := ⟨_, rfl⟩
 have HX := Lib.hid (And.intro hnn hv)
 rw [← hnn]
 have hnb : n ≤ 140737488355328 := by omega
 clear hv hn hnn
 go_enter Tryz.func26, Tryz.ntmps26
 go_wp2_with fail
 go_loopw [3, 4] (fun m i wr => ∃ k : Nat, k ≤ n ∧ i = .int .i64 k ∧ ∃ N : Int, m = .int .i64 N ∧ (0 ≤ N ∧ N ≤ 422212465095680) ∧ Hid (GrM l w k N wr)) (fun _ i _ => n - (RowKit.intOf i).toNat)
 case atStart => exact ⟨0, Nat.zero_le _, rfl, 3 * (n : Int), by go_num, by omega, ⟨Fp.refl _ _, by rw [HX.out.1]; exact Int.le_refl _, fun j _ h => absurd h (Nat.not_lt_zero j)⟩⟩
 case round =>
  obtain ⟨k, hk, rfl, N, rfl, hN, hR⟩ := hrel
  rename_i wr _
  by_cases hlt : k < n
  ·have hkl : k < l.length := by rw [← HX.out.1]; exact hlt
   have q3 : ((k : Int) < (n : Int)) = True := eq_true (by omega)
   have q4 : (k < n) = True := eq_true hlt
   by_cases hN5 : N < 5000
   ·have q5 : (N < 5000) = True := eq_true hN5
    obtain ⟨g, o, cap', e, _, _, _, hcell⟩ := HX.out.2.at (by omega)
    injection e with e1 e2 e3
    subst e1 e3
    have hnd := (hcell k hkl).keep hR.out.fp (fun h => h)
    clear hcell
    have hnx := fun wr' f => hR.out.next (wr' := wr') f hkl
    have HNX := Lib.hid hnx
    have HL := Lib.hid (And.intro hlt hN5)
    clear hnx hlt hN5
    generalize l[k] = x at *
    clear hkl
    have c0 := hnd.c0; have c1 := hnd.c1
    unfold strV at c0 c1
    have HB := Lib.hid (And.intro (min5 x.path.length) (min5 x.data.length))
    clear hnd
    go_wp2_with fail
    go_quiet (fail)
    go_wp2_with fail
    have hb := HB.out
    have hj := HL.out
    refine ⟨⟨k + 1, by omega, by go_num, _, rfl, ⟨by omega, by omega⟩, HNX.out _ ((Fp.refl _ _).drewN _)⟩, ?_⟩
    simp [RowKit.intOf]; omega
   ·have q5 : (N < 5000) = False := eq_false hN5
    have q6 : ((5000 : Int) ≤ N) = True := eq_true (by omega)
    clear hN5 hkl hlt
    go_wp2
    go_ret
    exact ⟨true, rfl, fun h => by simp at h, hR.out.fp⟩
  ·have hke : k = n := by omega
   subst hke
   have q3 : ((k : Int) < (k : Int)) = False := eq_false (by omega)
   by_cases hN5 : N < 5000
   ·have q6 : ((5000 : Int) ≤ N) = False := eq_false (by omega)
    have hfw := hR.out.few HX.out.1 hN5
    rw [← HX.out.1] at hfw
    have HFW := Lib.hid hfw
    clear hfw hN5 hlt hk
    go_wp2
    go_ret
    exact ⟨false, rfl, fun _ => HFW.out, hR.out.fp⟩
   ·have q6 : ((5000 : Int) ≤ N) = True := eq_true (by omega)
    clear hN5 hlt hk
    go_wp2
    go_ret
    exact ⟨true, rfl, fun h => by simp at h, hR.out.fp⟩
end Go.Proofs.YtphoglepiegeiaaGreatDoor
namespace Go.Proofs.YtphoglepiegeiaaGreatDoor
set_option maxRecDepth 20000
open Go.ChangeShapes Go.WideShapes Go.ChangeAt Go.RowKit Pm Go.Deep
open Go.WideMaps Go.WideElems
open Go.ChangeMaps (setBlock shut_map_nil open_string shut_string)
theorem spot_none {w : World} {a : Addr} {v : Value} (h : w.cell? a = some v) : ∃ g o, a = ⟨g, o, none⟩ := by
 obtain ⟨g, o, spot⟩ := a
 have hs : spot = none := World.cell?_spot h
 exact ⟨g, o, by rw [hs]⟩
theorem Tryz.cellsNd : Tryz.prog.cellsOf 79 = 5 := by kernel_rfl
theorem Tryz.bytesNd : Tryz.prog.bytesOf 79 = 56 := by kernel_rfl
theorem Tryz.cellsStr' : Tryz.prog.cellsOf 9 = 1 := by kernel_rfl
theorem Tryz.cellsOp : Tryz.prog.cellsOf 41 = 6 := by kernel_rfl
theorem Tryz.cellsInt : Tryz.prog.cellsOf 3 = 1 := by kernel_rfl
theorem Tryz.cellsBoo : Tryz.prog.cellsOf 4 = 1 := by kernel_rfl
theorem Tryz.cellsI64 : Tryz.prog.cellsOf 2 = 1 := by kernel_rfl
section
variable {H : Type} {enc : TypeId × Value → H} {W : World}
theorem nd_of {n : Nat} {cs : List Value} {y : DataW H × List MemPlace} (hlen : cs.length = 5) (h : DataW.trod enc Tryz.prog W 0 (fun _ => true) true n 79 cs = some y) :
  ∃ x : Nd, cs = ndC x ∧ x.path.length ≤ maxLen ∧ x.data.length ≤ maxLen := by
 obtain ⟨xs, k, hk, hxy, _, hxl, hf⟩ := DataW.trod_struct Tryz.underlying79 h
 match xs, hxl, cs, hlen with
 | [y0, y1, y2, y3, y4], _, [v0, v1, v2, v3, v4], _ =>
  have g0 := hf 0 _ rfl
  have g1 := hf 1 _ rfl
  have g2 := hf 2 _ rfl
  have g3 := hf 3 _ rfl
  have g4 := hf 4 _ rfl
  simp [Tryz.cellsStr'] at g0
  simp [Tryz.cellsStr'] at g1
  simp [Tryz.cellsI64] at g2
  simp [Tryz.cellsI64] at g3
  simp [Tryz.cellsI64] at g4
  obtain ⟨z0, e0, _, h0⟩ := DataW.trod_string Tryz.underlying9 g0
  obtain ⟨z1, e1, _, h1⟩ := DataW.trod_string Tryz.underlying9 g1
  obtain ⟨z2, e2, _, _⟩ := DataW.trod_int Tryz.underlying2 g2
  obtain ⟨z3, e3, _, _⟩ := DataW.trod_int Tryz.underlying2 g3
  obtain ⟨z4, e4, _, _⟩ := DataW.trod_int Tryz.underlying2 g4
  simp only [List.cons.injEq, and_true] at e0 e1 e2 e3 e4
  subst e0 e1 e2 e3 e4
  refine ⟨⟨z0.data.toList, z1.data.toList, z2, z3, z4⟩, ?_, ?_, ?_⟩
  ·unfold ndC strV; rw [← B_of, ← B_of]
  ·simpa using h0
  ·simpa using h1
theorem open_nodes {v : Value} {d : DataW H} {p : List MemPlace} {base : Nat} (hv : Value.okWide Tryz.prog W .any base 22 v) (h : DataW.Trod enc Tryz.prog W 0 (fun _ => true) true 22 v d p) (hsz : ∀ n ∈ d.weights Tryz.prog 22, n ≤ reachBytes) :
  ∃ l, Ns W v l ∧ l.length ≤ 140737488355328 ∧ ∀ x ∈ l, x.path.length ≤ maxLen ∧ x.data.length ≤ maxLen := by
 obtain ⟨a0, len, cap, rfl⟩ := okWide_slice Tryz.underlying22 hv
 obtain ⟨fuel, hf⟩ := h
 have hf : DataW.trod enc Tryz.prog W 0 (fun _ => true) true fuel 22 [.slice a0 len cap] = some (d, p) := by simpa [Value.cells] using hf
 rcases open_slice Tryz.underlying22 hf with ⟨hcs, hx⟩ | ⟨a, len', cap', m, n, D, Pl, hcs, _, hl, hm, hmm, hx, hel⟩
 ·simp only [List.cons.injEq, Value.slice.injEq, and_true] at hcs
  obtain ⟨rfl, rfl, rfl⟩ := hcs
  exact ⟨[], Ns.nil W, Nat.zero_le _, fun _ h => by cases h⟩
 ·simp only [List.cons.injEq, Value.slice.injEq, and_true] at hcs
  obtain ⟨rfl, rfl, rfl⟩ := hcs
  simp only [if_true] at hmm
  subst hmm
  have hlb : len ≤ 140737488355328 := by
   simp only [Prod.mk.injEq] at hx
   rw [hx.1] at hsz
   simp only [DataW.weights, Tryz.underlying22] at hsz
   have := hsz _ (List.mem_cons_self ..)
   rw [Tryz.bytesNd] at this
   simp only [List.length_map, List.length_range, reachBytes] at this
   omega
  have each : ∀ i, i < len → ∃ x : Nd, (∀ j (hj : j < 5), W.cell? (a.add (i * 5 + j)) = (ndC x)[j]?) ∧ x.path.length ≤ maxLen ∧ x.data.length ≤ maxLen := by
   intro i hi
   obtain ⟨cs', h1, h2⟩ := hel i (by omega)
   rw [Tryz.cellsNd] at h1
   obtain ⟨_, hlen, hcell⟩ := World.cells?_some h1
   obtain ⟨x, rfl, h3, h4⟩ := nd_of hlen h2
   refine ⟨x, fun j hj => ?_, h3, h4⟩
   have := hcell j (by omega)
   rw [add_add] at this
   exact this
  obtain ⟨f, hfi⟩ : ∃ f : Nat → Nd, ∀ i, i < len → (∀ j (hj : j < 5), W.cell? (a.add (i * 5 + j)) = (ndC (f i))[j]?) ∧ (f i).path.length ≤ maxLen ∧ (f i).data.length ≤ maxLen := by
   haveI : Inhabited Nd := ⟨zeroNd⟩
   exact choose_lt each
  have hlen : ((List.range len).map f).length = len := by simp
  by_cases h0 : len = 0
  ·subst h0
   exact ⟨[], ⟨some a, m, rfl, by simp, hm, .inl rfl⟩, Nat.zero_le _, fun _ h => by cases h⟩
  ·have hc0 := (hfi 0 (by omega)).1 0 (by omega)
   have hc0 : W.cell? a = some (.string (B (f 0).path)) := by simpa [Addr.add, ndC, strV] using hc0
   have hlt := World.block_lt_of_cell? W a hc0
   obtain ⟨g, o, rfl⟩ := spot_none hc0
   refine ⟨(List.range len).map f, ⟨some ⟨g, o, none⟩, m, by rw [hlen], by rw [hlen]; exact hl, hm, .inr ⟨g, o, rfl, hlt, fun i hi => ?_⟩⟩, by rw [hlen]; exact hlb, fun x hx => ?_⟩
   ·rw [hlen] at hi
    obtain ⟨k1, _, _⟩ := hfi i (by omega)
    simp only [List.getElem_map, List.getElem_range]
    have q0 := k1 0 (by omega)
    have q1 := k1 1 (by omega)
    have q2 := k1 2 (by omega)
    have q3 := k1 3 (by omega)
    have q4 := k1 4 (by omega)
    rw [Addr.add_lit] at q0 q1 q2 q3 q4
    exact ⟨by simpa [ndC] using q0, by simpa [Nat.add_assoc, ndC] using q1, by simpa [Nat.add_assoc, ndC] using q2, by simpa [Nat.add_assoc, ndC] using q3, by simpa [Nat.add_assoc, ndC] using q4⟩
   ·obtain ⟨i, hi, rfl⟩ := List.mem_map.1 hx
    exact (hfi i (List.mem_range.1 hi)).2
theorem open_op {v : Value} {d : DataW H} {p : List MemPlace} {base : Nat} (hv : Value.okWide Tryz.prog W .any base 41 v) (h : DataW.Trod enc Tryz.prog W 0 (fun _ => true) true 41 v d p) :
  ∃ o : Opn, v = opV o ∧ o.path.length ≤ maxLen ∧ o.data.length ≤ maxLen := by
 obtain ⟨cs, rfl, hcs⟩ := okWide_struct Tryz.underlying41 hv
 rw [Tryz.cellsOp] at hcs
 obtain ⟨fuel, hf⟩ := h
 have hf : DataW.trod enc Tryz.prog W 0 (fun _ => true) true fuel 41 cs.toList = some (d, p) := by simpa [Value.cells] using hf
 obtain ⟨cs⟩ := cs
 simp only at hf
 have hlen : cs.length = 6 := by simpa using hcs
 obtain ⟨xs, k, hk, hxy, _, hxl, hf⟩ := DataW.trod_struct Tryz.underlying41 hf
 match xs, hxl, cs, hlen with
 | [y0, y1, y2, y3, y4, y5], _, [v0, v1, v2, v3, v4, v5], _ =>
  have g0 := hf 0 _ rfl
  have g1 := hf 1 _ rfl
  have g2 := hf 2 _ rfl
  have g3 := hf 3 _ rfl
  have g4 := hf 4 _ rfl
  have g5 := hf 5 _ rfl
  simp [Tryz.cellsInt] at g0
  simp [Tryz.cellsStr'] at g1
  simp [Tryz.cellsStr'] at g2
  simp [Tryz.cellsI64] at g3
  simp [Tryz.cellsI64] at g4
  simp [Tryz.cellsBoo] at g5
  obtain ⟨z0, e0, _, _⟩ := DataW.trod_int Tryz.underlying3 g0
  obtain ⟨z1, e1, _, h1⟩ := DataW.trod_string Tryz.underlying9 g1
  obtain ⟨z2, e2, _, h2⟩ := DataW.trod_string Tryz.underlying9 g2
  obtain ⟨z3, e3, _, _⟩ := DataW.trod_int Tryz.underlying2 g3
  obtain ⟨z4, e4, _, _⟩ := DataW.trod_int Tryz.underlying2 g4
  obtain ⟨z5, e5, _⟩ := DataW.trod_bool Tryz.underlying4 g5
  simp only [List.cons.injEq, and_true] at e0 e1 e2 e3 e4 e5
  subst e0 e1 e2 e3 e4 e5
  refine ⟨⟨z0, z1.data.toList, z2.data.toList, z3, z4, z5⟩, ?_, ?_, ?_⟩
  ·unfold opV strV; rw [← B_of, ← B_of]
  ·simpa using h1
  ·simpa using h2
end
end Go.Proofs.YtphoglepiegeiaaGreatDoor
namespace Go.Proofs.YtphoglepiegeiaaGreatDoor
set_option maxRecDepth 20000
set_option linter.unusedVariables false
set_option linter.unusedSimpArgs false
open Go.ChangeShapes Go.WideShapes Go.ChangeAt Go.RowKit Pm Go.Deep
open Go.WideMaps Go.WideElems
open Go.ChangeMaps (setBlock shut_map_nil open_string shut_string)
structure Tx (w : World) (v : Value) (l : List Bs) : Prop where
 ex : ∃ ao cap, v = .slice ao l.length cap ∧ (l = [] ∨ ∃ g o, ao = some ⟨g, o, none⟩ ∧ ∀ i (h : i < l.length), w.cell? ⟨g, o + i, none⟩ = some (.string (B l[i])))
theorem Tx.non {w w' : World} {v : Value} {l : List Bs} (h : Tx w v l) (f : Fp Non w w') : Tx w' v l := by
 obtain ⟨ao, cap, rfl, h3⟩ := h.ex
 refine ⟨ao, cap, rfl, ?_⟩
 rcases h3 with h3 | ⟨g, o, rfl, hc⟩
 ·exact .inl h3
 ·exact .inr ⟨g, o, rfl, fun i hi => f.cell (hc i hi) (fun h => h)⟩
theorem Tx.shape {w : World} {v : Value} {l : List Bs} (h : Tx w v l) : ∃ ao cap, v = .slice ao l.length cap := by
 obtain ⟨ao, cap, rfl, _⟩ := h.ex; exact ⟨ao, cap, rfl⟩
theorem Tx.at {w : World} {v : Value} {l : List Bs} (h : Tx w v l) (h0 : 0 < l.length) : ∃ g o cap, v = .slice (some ⟨g, o, none⟩) l.length cap ∧ ∀ i (h : i < l.length), w.cell? ⟨g, o + i, none⟩ = some (.string (B l[i])) := by
 obtain ⟨ao, cap, rfl, h3⟩ := h.ex
 rcases h3 with h3 | ⟨g, o, rfl, hc⟩
 ·subst h3; simp at h0
 ·exact ⟨g, o, cap, rfl, hc⟩
structure OpAt (w : World) (g o : Nat) (x : Opn) : Prop where
 c0 : w.cell? ⟨g, o, none⟩ = some (.int .i64 x.kind)
 c1 : w.cell? ⟨g, o + 1, none⟩ = some (strV x.path)
 c2 : w.cell? ⟨g, o + 2, none⟩ = some (strV x.data)
 c3 : w.cell? ⟨g, o + 3, none⟩ = some (.int .i64 x.ver)
 c4 : w.cell? ⟨g, o + 4, none⟩ = some (.int .i64 x.own)
 c5 : w.cell? ⟨g, o + 5, none⟩ = some (.bool x.turns)
theorem OpAt.keep {w w' : World} {g o : Nat} {n : Opn} (h : OpAt w g o n) {S : Nat → Prop} (f : Fp S w w') (hS : ¬ S g) : OpAt w' g o n :=
 ⟨f.cell h.c0 hS, f.cell h.c1 hS, f.cell h.c2 hS, f.cell h.c3 hS, f.cell h.c4 hS, f.cell h.c5 hS⟩
structure Ops (w : World) (v : Value) (l : List Opn) : Prop where
 ex : ∃ ao cap, v = .slice ao l.length cap ∧ (l = [] ∨ ∃ g o, ao = some ⟨g, o, none⟩ ∧ ∀ i (h : i < l.length), OpAt w g (o + i * 6) l[i])
theorem Ops.non {w w' : World} {v : Value} {l : List Opn} (h : Ops w v l) (f : Fp Non w w') : Ops w' v l := by
 obtain ⟨ao, cap, rfl, h3⟩ := h.ex
 refine ⟨ao, cap, rfl, ?_⟩
 rcases h3 with h3 | ⟨g, o, rfl, hc⟩
 ·exact .inl h3
 ·exact .inr ⟨g, o, rfl, fun i hi => (hc i hi).keep f (fun h => h)⟩
theorem Ops.shape {w : World} {v : Value} {l : List Opn} (h : Ops w v l) : ∃ ao cap, v = .slice ao l.length cap := by
 obtain ⟨ao, cap, rfl, _⟩ := h.ex; exact ⟨ao, cap, rfl⟩
theorem Ops.at {w : World} {v : Value} {l : List Opn} (h : Ops w v l) (h0 : 0 < l.length) : ∃ g o cap, v = .slice (some ⟨g, o, none⟩) l.length cap ∧ ∀ i (h : i < l.length), OpAt w g (o + i * 6) l[i] := by
 obtain ⟨ao, cap, rfl, h3⟩ := h.ex
 rcases h3 with h3 | ⟨g, o, rfl, hc⟩
 ·subst h3; simp at h0
 ·exact ⟨g, o, cap, rfl, hc⟩
section
variable {H : Type} {enc : TypeId × Value → H} {W : World}
end
end Go.Proofs.YtphoglepiegeiaaGreatDoor
namespace Go.Proofs.YtphoglepiegeiaaGreatDoor
set_option maxRecDepth 20000
set_option linter.unusedVariables false
open Go.ChangeShapes Go.WideShapes Go.ChangeAt Go.RowKit Pm Go.Deep
open Go.WideMaps Go.WideElems
open Go.ChangeMaps (setBlock shut_map_nil open_string shut_string)
theorem Tryz.cellsTu : Tryz.prog.cellsOf 81 = 2 := by kernel_rfl
theorem Tryz.bytesTu : Tryz.prog.bytesOf 81 = 24 := by kernel_rfl
theorem Tryz.cellsPt : Tryz.prog.cellsOf 27 = 7 := by kernel_rfl
theorem Tryz.cellsSt : Tryz.prog.cellsOf 25 = 2 := by kernel_rfl
theorem Tryz.cellsNs : Tryz.prog.cellsOf 22 = 1 := by kernel_rfl
theorem Tryz.cellsTs : Tryz.prog.cellsOf 23 = 1 := by kernel_rfl
section
variable {H : Type} {enc : TypeId × Value → H} {W : World}
theorem tu_of {n : Nat} {cs : List Value} {y : DataW H × List MemPlace} (hlen : cs.length = 2) (h : DataW.trod enc Tryz.prog W 0 (fun _ => true) true n 81 cs = some y) :
  ∃ x : Tu, cs = tuC x ∧ x.dir.length ≤ maxLen := by
 obtain ⟨xs, k, hk, hxy, _, hxl, hf⟩ := DataW.trod_struct Tryz.underlying81 h
 match xs, hxl, cs, hlen with
 | [y0, y1], _, [v0, v1], _ =>
  have g0 := hf 0 _ rfl
  have g1 := hf 1 _ rfl
  simp [Tryz.cellsStr'] at g0
  simp [Tryz.cellsI64] at g1
  obtain ⟨z0, e0, _, h0⟩ := DataW.trod_string Tryz.underlying9 g0
  obtain ⟨z1, e1, _, _⟩ := DataW.trod_int Tryz.underlying2 g1
  simp only [List.cons.injEq, and_true] at e0 e1
  subst e0 e1
  refine ⟨⟨z0.data.toList, z1⟩, ?_, ?_⟩
  ·unfold tuC strV; rw [← B_of]
  ·simpa using h0
theorem open_nodes_in {fuel : Nat} {v : Value} {y : DataW H × List MemPlace} (hf : DataW.trod enc Tryz.prog W 0 (fun _ => true) true fuel 22 [v] = some y) (hsz : ∀ n ∈ y.1.weights Tryz.prog 22, n ≤ reachBytes) :
  ∃ l, Ns W v l ∧ l.length ≤ 140737488355328 ∧ ∀ x ∈ l, x.path.length ≤ maxLen ∧ x.data.length ≤ maxLen := by
 rcases open_slice Tryz.underlying22 hf with ⟨hcs, hx⟩ | ⟨a, len, cap, m, n, D, Pl, hcs, _, hl, hm, hmm, hx, hel⟩
 ·simp only [List.cons.injEq, and_true] at hcs
  subst hcs
  exact ⟨[], Ns.nil W, Nat.zero_le _, fun _ h => by cases h⟩
 ·simp only [List.cons.injEq, and_true] at hcs
  subst hcs
  simp only [if_true] at hmm
  subst hmm
  have hlb : len ≤ 140737488355328 := by
   rw [hx] at hsz
   simp only [DataW.weights, Tryz.underlying22] at hsz
   have := hsz _ (List.mem_cons_self ..)
   rw [Tryz.bytesNd] at this
   simp only [List.length_map, List.length_range, reachBytes] at this
   omega
  have each : ∀ i, i < len → ∃ x : Nd, (∀ j (hj : j < 5), W.cell? (a.add (i * 5 + j)) = (ndC x)[j]?) ∧ x.path.length ≤ maxLen ∧ x.data.length ≤ maxLen := by
   intro i hi
   obtain ⟨cs', h1, h2⟩ := hel i (by omega)
   rw [Tryz.cellsNd] at h1
   obtain ⟨_, hlen, hcell⟩ := World.cells?_some h1
   obtain ⟨x, rfl, h3, h4⟩ := nd_of hlen h2
   refine ⟨x, fun j hj => ?_, h3, h4⟩
   have := hcell j (by omega)
   rw [add_add] at this
   exact this
  obtain ⟨f, hfi⟩ : ∃ f : Nat → Nd, ∀ i, i < len → (∀ j (hj : j < 5), W.cell? (a.add (i * 5 + j)) = (ndC (f i))[j]?) ∧ (f i).path.length ≤ maxLen ∧ (f i).data.length ≤ maxLen := by
   haveI : Inhabited Nd := ⟨zeroNd⟩
   exact choose_lt each
  have hlen : ((List.range len).map f).length = len := by simp
  by_cases h0 : len = 0
  ·subst h0
   exact ⟨[], ⟨some a, m, rfl, by simp, hm, .inl rfl⟩, Nat.zero_le _, fun _ h => by cases h⟩
  ·have hc0 := (hfi 0 (by omega)).1 0 (by omega)
   have hc0 : W.cell? a = some (.string (B (f 0).path)) := by simpa [Addr.add, ndC, strV] using hc0
   have hlt := World.block_lt_of_cell? W a hc0
   obtain ⟨g, o, rfl⟩ := spot_none hc0
   refine ⟨(List.range len).map f, ⟨some ⟨g, o, none⟩, m, by rw [hlen], by rw [hlen]; exact hl, hm, .inr ⟨g, o, rfl, hlt, fun i hi => ?_⟩⟩, by rw [hlen]; exact hlb, fun x hx => ?_⟩
   ·rw [hlen] at hi
    obtain ⟨k1, _, _⟩ := hfi i (by omega)
    simp only [List.getElem_map, List.getElem_range]
    have q0 := k1 0 (by omega)
    have q1 := k1 1 (by omega)
    have q2 := k1 2 (by omega)
    have q3 := k1 3 (by omega)
    have q4 := k1 4 (by omega)
    rw [Addr.add_lit] at q0 q1 q2 q3 q4
    exact ⟨by simpa [ndC] using q0, by simpa [Nat.add_assoc, ndC] using q1, by simpa [Nat.add_assoc, ndC] using q2, by simpa [Nat.add_assoc, ndC] using q3, by simpa [Nat.add_assoc, ndC] using q4⟩
   ·obtain ⟨i, hi, rfl⟩ := List.mem_map.1 hx
    exact (hfi i (List.mem_range.1 hi)).2
theorem open_turns_in {fuel : Nat} {v : Value} {y : DataW H × List MemPlace} (hf : DataW.trod enc Tryz.prog W 0 (fun _ => true) true fuel 23 [v] = some y) (hsz : ∀ n ∈ y.1.weights Tryz.prog 23, n ≤ reachBytes) :
  ∃ l, Ts W v l ∧ l.length ≤ 140737488355328 ∧ ∀ x ∈ l, x.dir.length ≤ maxLen := by
 rcases open_slice Tryz.underlying23 hf with ⟨hcs, hx⟩ | ⟨a, len, cap, m, n, D, Pl, hcs, _, hl, hm, hmm, hx, hel⟩
 ·simp only [List.cons.injEq, and_true] at hcs
  subst hcs
  exact ⟨[], Ts.nil W, Nat.zero_le _, fun _ h => by cases h⟩
 ·simp only [List.cons.injEq, and_true] at hcs
  subst hcs
  simp only [if_true] at hmm
  subst hmm
  have hlb : len ≤ 140737488355328 := by
   rw [hx] at hsz
   simp only [DataW.weights, Tryz.underlying23] at hsz
   have := hsz _ (List.mem_cons_self ..)
   rw [Tryz.bytesTu] at this
   simp only [List.length_map, List.length_range, reachBytes] at this
   omega
  have each : ∀ i, i < len → ∃ x : Tu, (∀ j (hj : j < 2), W.cell? (a.add (i * 2 + j)) = (tuC x)[j]?) ∧ x.dir.length ≤ maxLen := by
   intro i hi
   obtain ⟨cs', h1, h2⟩ := hel i (by omega)
   rw [Tryz.cellsTu] at h1
   obtain ⟨_, hlen, hcell⟩ := World.cells?_some h1
   obtain ⟨x, rfl, h3⟩ := tu_of hlen h2
   refine ⟨x, fun j hj => ?_, h3⟩
   have := hcell j (by omega)
   rw [add_add] at this
   exact this
  obtain ⟨f, hfi⟩ : ∃ f : Nat → Tu, ∀ i, i < len → (∀ j (hj : j < 2), W.cell? (a.add (i * 2 + j)) = (tuC (f i))[j]?) ∧ (f i).dir.length ≤ maxLen := by
   haveI : Inhabited Tu := ⟨⟨[], 0⟩⟩
   exact choose_lt each
  have hlen : ((List.range len).map f).length = len := by simp
  by_cases h0 : len = 0
  ·subst h0
   exact ⟨[], ⟨some a, m, rfl, by simp, hm, .inl rfl⟩, Nat.zero_le _, fun _ h => by cases h⟩
  ·have hc0 := (hfi 0 (by omega)).1 0 (by omega)
   have hc0 : W.cell? a = some (.string (B (f 0).dir)) := by simpa [Addr.add, tuC, strV] using hc0
   have hlt := World.block_lt_of_cell? W a hc0
   obtain ⟨g, o, rfl⟩ := spot_none hc0
   refine ⟨(List.range len).map f, ⟨some ⟨g, o, none⟩, m, by rw [hlen], by rw [hlen]; exact hl, hm, .inr ⟨g, o, rfl, hlt, fun i hi => ?_⟩⟩, by rw [hlen]; exact hlb, fun x hx => ?_⟩
   ·rw [hlen] at hi
    obtain ⟨k1, _⟩ := hfi i (by omega)
    simp only [List.getElem_map, List.getElem_range]
    have q0 := k1 0 (by omega)
    have q1 := k1 1 (by omega)
    rw [Addr.add_lit] at q0 q1
    exact ⟨by simpa [tuC] using q0, by simpa [Nat.add_assoc, tuC] using q1⟩
   ·obtain ⟨i, hi, rfl⟩ := List.mem_map.1 hx
    exact (hfi i (List.mem_range.1 hi)).2
theorem open_store {v : Value} {d : DataW H} {p : List MemPlace} {base : Nat} (hv : Value.okWide Tryz.prog W .any base 25 v) (h : DataW.Trod enc Tryz.prog W 0 (fun _ => true) true 25 v d p) (hsz : ∀ n ∈ d.weights Tryz.prog 25, n ≤ reachBytes) :
  ∃ s : St, Sto W v s ∧ s.nodes.length ≤ 140737488355328 ∧ s.turns.length ≤ 140737488355328 := by
 obtain ⟨cs, rfl, hcs⟩ := okWide_struct Tryz.underlying25 hv
 rw [Tryz.cellsSt] at hcs
 obtain ⟨fuel, hf⟩ := h
 have hf : DataW.trod enc Tryz.prog W 0 (fun _ => true) true fuel 25 cs.toList = some (d, p) := by simpa [Value.cells] using hf
 obtain ⟨cs⟩ := cs
 simp only at hf
 have hlen : cs.length = 2 := by simpa using hcs
 obtain ⟨xs, k, hk, hxy, _, hxl, hf⟩ := DataW.trod_struct Tryz.underlying25 hf
 match xs, hxl, cs, hlen with
 | [y0, y1], _, [v0, v1], _ =>
  have g0 := hf 0 _ rfl
  have g1 := hf 1 _ rfl
  simp [Tryz.cellsNs] at g0
  simp [Tryz.cellsTs] at g1
  have hd := congrArg Prod.fst hxy
  simp only at hd
  obtain ⟨l0, h0, n0, _⟩ := open_nodes_in g0 (fun n hn => hsz n (by rw [hd]; simp only [DataW.weights, Tryz.underlying25, List.map_cons, List.map_nil, DataW.weightsEach, List.mem_append]; simp [hn]))
  obtain ⟨l1, h1, n1, _⟩ := open_turns_in g1 (fun n hn => hsz n (by rw [hd]; simp only [DataW.weights, Tryz.underlying25, List.map_cons, List.map_nil, DataW.weightsEach, List.mem_append]; simp [hn]))
  exact ⟨⟨l0, l1⟩, ⟨v0, v1, rfl, h0, h1⟩, n0, n1⟩
theorem open_part {v : Value} {d : DataW H} {p : List MemPlace} {base : Nat} (hv : Value.okWide Tryz.prog W .any base 27 v) (h : DataW.Trod enc Tryz.prog W 0 (fun _ => true) true 27 v d p) :
  ∃ x : Pt, v = ptV x ∧ True := by
 obtain ⟨cs, rfl, hcs⟩ := okWide_struct Tryz.underlying27 hv
 rw [Tryz.cellsPt] at hcs
 obtain ⟨fuel, hf⟩ := h
 have hf : DataW.trod enc Tryz.prog W 0 (fun _ => true) true fuel 27 cs.toList = some (d, p) := by simpa [Value.cells] using hf
 obtain ⟨cs⟩ := cs
 simp only at hf
 have hlen : cs.length = 7 := by simpa using hcs
 obtain ⟨xs, k, hk, hxy, _, hxl, hf⟩ := DataW.trod_struct Tryz.underlying27 hf
 match xs, hxl, cs, hlen with
 | [y0, y1, y2, y3, y4, y5, y6], _, [v0, v1, v2, v3, v4, v5, v6], _ =>
  have g0 := hf 0 _ rfl
  have g1 := hf 1 _ rfl
  have g2 := hf 2 _ rfl
  have g3 := hf 3 _ rfl
  have g4 := hf 4 _ rfl
  have g5 := hf 5 _ rfl
  have g6 := hf 6 _ rfl
  simp [Tryz.cellsInt] at g0
  simp [Tryz.cellsStr'] at g1
  simp [Tryz.cellsStr'] at g2
  simp [Tryz.cellsStr'] at g3
  simp [Tryz.cellsI64] at g4
  simp [Tryz.cellsI64] at g5
  simp [Tryz.cellsBoo] at g6
  obtain ⟨z0, e0, _, _⟩ := DataW.trod_int Tryz.underlying3 g0
  obtain ⟨z1, e1, _, _⟩ := DataW.trod_string Tryz.underlying9 g1
  obtain ⟨z2, e2, _, _⟩ := DataW.trod_string Tryz.underlying9 g2
  obtain ⟨z3, e3, _, _⟩ := DataW.trod_string Tryz.underlying9 g3
  obtain ⟨z4, e4, _, _⟩ := DataW.trod_int Tryz.underlying2 g4
  obtain ⟨z5, e5, _, _⟩ := DataW.trod_int Tryz.underlying2 g5
  obtain ⟨z6, e6, _⟩ := DataW.trod_bool Tryz.underlying4 g6
  simp only [List.cons.injEq, and_true] at e0 e1 e2 e3 e4 e5 e6
  subst e0 e1 e2 e3 e4 e5 e6
  exact ⟨⟨z0, z1.data.toList, z2.data.toList, z3.data.toList, z4, z5, z6⟩, by unfold ptV strV; rw [← B_of, ← B_of, ← B_of], trivial⟩
end
end Go.Proofs.YtphoglepiegeiaaGreatDoor
