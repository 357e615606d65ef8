/- Texts of this proof, merged. -/
import Derived.Test.YtdfnfkknbjageaaZP
set_option linter.unusedVariables false
set_option linter.unusedSimpArgs false
/- The document's own Split, walked. -/
namespace Go.Proofs.Ytdfnfkknbjageaa
set_option maxRecDepth 20000
open Go.RowKit Pm

/-- Where the loop stands. -/
def At (l : Bs) (acc : List Bs) (fr i : Nat) : Prop :=
  (i ≤ l.length ∧ 1 ≤ fr ∧ fr ≤ i ∧ split l = sp acc ((l.drop fr).take (i - fr)) (l.drop i)) ∨ (i = l.length + 1 ∧ split l = some acc)

theorem At.other {l : Bs} {acc : List Bs} {fr i : Nat} (h : At l acc fr i) (hi : i < l.length) (hc : l[i] ≠ 47) : At l acc fr (i + 1) := by
  rcases h with ⟨h1, h2, h3, h4⟩ | ⟨h1, _⟩
  · refine Or.inl ⟨by omega, h2, by omega, ?_⟩
    rw [h4, List.drop_eq_getElem_cons hi]
    conv => lhs; unfold sp
    rw [if_pos hc]
    have e : (l.drop fr).take (i + 1 - fr) = (l.drop fr).take (i - fr) ++ [l[i]] := by
      rw [show i + 1 - fr = (i - fr) + 1 by omega, List.take_succ_eq_append_getElem (by simp; omega), List.getElem_drop]
      congr 2; simp [show fr + (i - fr) = i by omega]
    rw [e]
  · omega
theorem At.bad {l : Bs} {acc : List Bs} {fr i : Nat} (h : At l acc fr i) (hi : i ≤ l.length) (hc : ∀ h : i < l.length, l[i] = 47) (hb : isPart ((l.drop fr).take (i - fr)) = false ∨ 6 ≤ acc.length) : split l = none := by
  rcases h with ⟨h1, h2, h3, h4⟩ | ⟨h1, _⟩
  · rw [h4]
    have hn : ¬ (isPart ((l.drop fr).take (i - fr)) = true ∧ acc.length < 6) := by
      rintro ⟨a, b⟩
      rcases hb with hb | hb
      · rw [a] at hb; cases hb
      · omega
    by_cases hlt : i < l.length
    · rw [List.drop_eq_getElem_cons hlt]
      unfold sp
      rw [if_neg (by simpa using hc hlt), if_neg hn]
    · rw [show l.drop i = [] from List.drop_of_length_le (by omega)]
      unfold sp; rw [if_neg hn]
  · omega
theorem At.part {l : Bs} {acc : List Bs} {fr i : Nat} (h : At l acc fr i) (hi : i ≤ l.length) (hc : ∀ h : i < l.length, l[i] = 47) (hp : isPart ((l.drop fr).take (i - fr)) = true) (h6 : acc.length < 6) :
    At l (acc ++ [(l.drop fr).take (i - fr)]) (i + 1) (i + 1) := by
  rcases h with ⟨h1, h2, h3, h4⟩ | ⟨h1, _⟩
  · by_cases hlt : i < l.length
    · refine Or.inl ⟨by omega, by omega, Nat.le_refl _, ?_⟩
      rw [h4, List.drop_eq_getElem_cons hlt]
      conv => lhs; unfold sp
      rw [if_neg (by simpa using hc hlt), if_pos ⟨hp, h6⟩]
      simp
    · refine Or.inr ⟨by omega, ?_⟩
      rw [h4, show l.drop i = [] from List.drop_of_length_le (by omega)]
      unfold sp; rw [if_pos ⟨hp, h6⟩]
  · omega

def RRel (l : Bs) (w : World) (v f i : Value) (wr : World) : Prop :=
  ∃ (acc : List Bs) (fr j : Nat), j ≤ l.length + 1 ∧ 1 ≤ j ∧ f = .int .i64 fr ∧ i = .int .i64 j ∧ fr ≤ j ∧ acc.length ≤ 6 ∧ At l acc fr j ∧ Own w.heap.size wr v acc ∧ Below w.heap.size w wr

set_option maxRecDepth 100000 in
set_option maxHeartbeats 2000000 in
theorem rSplit_loop (c : UInt8) (r : Bs) (w : World) (hl : r.length ≤ 4611686018427387903) (hc : c = 47) (hr : r ≠ []) :
    Calls Try.prog 45 #[.string (B (c :: r))] w (SplitPost (c :: r) w) := by
  obtain ⟨i0, hi, hz0, hz1, hz2⟩ := info_parts Try.infoS
  obtain ⟨l, hle⟩ : ∃ l, l = c :: r := ⟨_, rfl⟩
  have hl0 : (l == [47]) = false := by rw [hle, hc]; simpa using hr
  have hlen : 1 ≤ l.length := by rw [hle]; simp
  have hl' : l.length ≤ 4611686018427387904 := by rw [hle]; simp; omega
  have hnil : l.isEmpty = false := by rw [hle]; rfl
  have hne : l ≠ [] := by rw [hle]; simp
  have hat : At l [] 1 1 := Or.inl ⟨by omega, by omega, by omega, by rw [hle, hc]; simpa using sp_split r hr⟩
  have hg0 : l[0] = 47 := by simp only [hle, hc, List.getElem_cons_zero]
  have hne2 : l ≠ [47] := by simpa using hl0
  rw [← hle]
  have HA := Lib.hid hat; clear hat hle
  go_enter Try.func45, Try.ntmps45
  go_wp2
  go_loopw [4, 5, 6] (fun v f i wr => RRel l w v f i wr) (fun _ _ i _ => l.length + 1 - (intOf i).toNat)
  case atStart => exact ⟨[], 1, 1, by omega, by omega, rfl, rfl, by omega, by simp, HA.out, Own.nil _ _, Below.refl _ _⟩
  case round =>
    clear HA hg0
    obtain ⟨acc, fr, j, hj, hj1, rfl, rfl, hfj, h6, hA, hown, hb⟩ := hrel
    have HA := Lib.hid hA; clear hA
    have hs := hb.size
    by_cases hjl : j ≤ l.length
    · by_cases hsl : ∃ h : j < l.length, l[j] ≠ 47
      · obtain ⟨hlt, h47⟩ := hsl
        have h47' : (((l[j]).toNat : Int) != 47) = true := by
          rw [bne_iff_ne]; intro h; apply h47; apply UInt8.toNat.inj; exact Int.ofNat_inj.1 h
        have hA' := Lib.hid (HA.out.other hlt h47)
        clear h47
        go_wp2
        go_roundw
        case rel => exact ⟨acc, fr, j + 1, by omega, by omega, rfl, by go_num, by omega, h6, hA'.out, hown, hb⟩
        case measure => simp [intOf]; omega
      · have h47 : ∀ h : j < l.length, l[j] = 47 := fun h => Decidable.not_not.1 fun k => hsl ⟨h, k⟩
        clear hsl
        have hcl : ((l.drop fr).take (j - fr)).length ≤ 9223372036854775807 := by simp; omega
        obtain ⟨ao, cap, rfl⟩ := hown.shape
        cases hp : isPart ((l.drop fr).take (j - fr)) with
        | false =>
          have hno := Lib.hid (HA.out.bad hjl h47 (Or.inl hp))
          have HP := Lib.hid (fun w => (by rw [← hp]; exact rPart_c _ w hcl : Calls Try.prog 65 #[.string (B ((l.drop fr).take (j - fr)))] w fun e w' => e = .returned (.bool false) ∧ w = w'))
          clear hp
          by_cases hlt : j < l.length
          · have h47' : (((l[j]).toNat : Int) != 47) = false := by rw [h47 hlt]; rfl
            clear h47
            go_wp2_with fail
            refine (HP.out _).mono ?_
            rintro e w1 ⟨rfl, rfl⟩
            go_wp2
            go_ret2
            exact ⟨_, by rw [hno.out]; rfl, by rw [hno.out]; exact Own.nil _ _, hb⟩
          · clear h47
            go_wp2_with fail
            refine (HP.out _).mono ?_
            rintro e w1 ⟨rfl, rfl⟩
            go_wp2
            go_ret2
            exact ⟨_, by rw [hno.out]; rfl, by rw [hno.out]; exact Own.nil _ _, hb⟩
        | true =>
          have HP := Lib.hid (fun w => (by rw [← hp]; exact rPart_c _ w hcl : Calls Try.prog 65 #[.string (B ((l.drop fr).take (j - fr)))] w fun e w' => e = .returned (.bool true) ∧ w = w'))
          by_cases h66 : acc.length < 6
          · have hA' := Lib.hid (HA.out.part hjl h47 hp h66)
            clear hp
            by_cases hlt : j < l.length
            · have h47' : (((l[j]).toNat : Int) != 47) = false := by rw [h47 hlt]; rfl
              clear h47
              go_wp2_with fail
              refine (HP.out _).mono ?_
              rintro e w1 ⟨rfl, rfl⟩
              go_wp2_with (at_builtin; go_must (refine wpList_append_own _ rfl _ _ 41 rfl w.heap.size 9 i0 (.string ⟨#[]⟩) 1 16 Try.underlying41 hi hz0 hz1 hz2 rfl (by decide) _ _ _ rfl (hown.1.alloc _) ⟨wr.heap.size, 0, none⟩ 1 1 [strV ((l.drop fr).take (j - fr))] rfl rfl (cell_one_new _ _ _) (one_c2 _) (by unfold maxLen; omega) (by omega) (by simp; omega) ?_; intro v' w2 hown' hgrow _))
              obtain ⟨hO, hB⟩ := Own.push hown.1 hb hs hown' hgrow
              clear hown' hgrow hown
              go_roundw
              case rel => exact ⟨acc ++ [((l.drop fr).take (j - fr))], j + 1, j + 1, by omega, by omega, by go_num, by go_num, by omega, by simp; omega, hA'.out, hO, hB⟩
              case measure => simp [intOf]; omega
            · clear h47
              go_wp2_with fail
              refine (HP.out _).mono ?_
              rintro e w1 ⟨rfl, rfl⟩
              go_wp2_with (at_builtin; go_must (refine wpList_append_own _ rfl _ _ 41 rfl w.heap.size 9 i0 (.string ⟨#[]⟩) 1 16 Try.underlying41 hi hz0 hz1 hz2 rfl (by decide) _ _ _ rfl (hown.1.alloc _) ⟨wr.heap.size, 0, none⟩ 1 1 [strV ((l.drop fr).take (j - fr))] rfl rfl (cell_one_new _ _ _) (one_c2 _) (by unfold maxLen; omega) (by omega) (by simp; omega) ?_; intro v' w2 hown' hgrow _))
              obtain ⟨hO, hB⟩ := Own.push hown.1 hb hs hown' hgrow
              clear hown' hgrow hown
              go_roundw
              case rel => exact ⟨acc ++ [((l.drop fr).take (j - fr))], j + 1, j + 1, by omega, by omega, by go_num, by go_num, by omega, by simp; omega, hA'.out, hO, hB⟩
              case measure => simp [intOf]; omega
          · have hno := Lib.hid (HA.out.bad hjl h47 (Or.inr (by omega)))
            clear hp
            by_cases hlt : j < l.length
            · have h47' : (((l[j]).toNat : Int) != 47) = false := by rw [h47 hlt]; rfl
              clear h47
              go_wp2_with fail
              refine (HP.out _).mono ?_
              rintro e w1 ⟨rfl, rfl⟩
              go_wp2
              go_ret2
              exact ⟨_, by rw [hno.out]; rfl, by rw [hno.out]; exact Own.nil _ _, hb⟩
            · clear h47
              go_wp2_with fail
              refine (HP.out _).mono ?_
              rintro e w1 ⟨rfl, rfl⟩
              go_wp2
              go_ret2
              exact ⟨_, by rw [hno.out]; rfl, by rw [hno.out]; exact Own.nil _ _, hb⟩
    · have hje : j = l.length + 1 := by omega
      have e : split l = some acc := by
        rcases HA.out with ⟨h, _⟩ | ⟨_, h⟩
        · omega
        · exact h
      have HE := Lib.hid e; clear e HA
      go_wp2
      go_ret2
      exact ⟨_, by rw [HE.out]; rfl, by rw [HE.out]; exact hown, hb⟩

set_option maxHeartbeats 400000 in
theorem rSplit_c (l : Bs) (w : World) (hl : l.length ≤ 4611686018427387904) :
    Calls Try.prog 45 #[.string (B l)] w (SplitPost l w) := by
  match l, hl with
  | [], _ =>
    go_enter Try.func45, Try.ntmps45
    go_wp2
    go_ret2
    exact ⟨_, by rw [split_nil]; rfl, by rw [split_nil]; exact Own.nil _ _, Below.refl _ _⟩
  | c :: r, hl =>
    by_cases hc : c = 47
    · by_cases hr : r = []
      · subst hc hr
        go_enter Try.func45, Try.ntmps45
        go_wp2
        go_ret2
        exact ⟨_, rfl, Own.nil _ _, Below.refl _ _⟩
      · exact rSplit_loop c r w (by simp at hl; omega) hc hr
    · have hne : ((c.toNat : Int) != 47) = true := by
        rw [bne_iff_ne]; intro h; apply hc; apply UInt8.toNat.inj; exact Int.ofNat_inj.1 h
      have h0 : (c :: r == [47]) = false := by
        rw [beq_eq_false_iff_ne]; rintro ⟨⟩; exact hc rfl
      have hn2 : ¬ (c = 47 ∧ r = []) := fun h => hc h.1
      have HS := Lib.hid (split_other (r := r) hc)
      clear hc
      simp at hl
      go_enter Try.func45, Try.ntmps45
      go_wp2
      go_ret2
      exact ⟨_, by rw [HS.out]; rfl, by rw [HS.out]; exact Own.nil _ _, Below.refl _ _⟩
end Go.Proofs.Ytdfnfkknbjageaa

