/- Layer 1's laws, walked: PathSplits. -/
import Derived.Test.YtcmhfofeaghjpaaDoorLb
namespace Go.Proofs.YtcmhfofeaghjpaaDoor
open Go.RowKit Pm

theorem Split_g (l : Bs) (w : World) (hl : sz l) : Calls Tryd.prog 10 #[.string (B l)] w fun e w' => (∃ v, e = .returned (.tuple #[v, .bool (split l).isSome]) ∧ Own w.heap.size w' v ((split l).getD [])) ∧ Gr w w' :=
  (Split_c l w hl).mono fun _ _ ⟨v, h1, h2, h3⟩ => ⟨⟨v, h1, h2⟩, h3⟩

theorem Own.cells {b0 : Nat} {w : World} {ao : Option Addr} {n cap : Nat} {ps : List Bs} (h : Own b0 w (.slice ao n cap) ps) :
    ∀ (w3 : World), Gr w w3 → ∀ k (hk : k < ps.length), ∃ g, ao = some ⟨g, 0, none⟩ ∧ w3.cell? ⟨g, k, none⟩ = some (.string (B ps[k])) := by
  intro w3 g3 k hk
  match ps, h, hk with
  | q :: r, h, hk =>
    obtain ⟨g, c, hv, _, hl⟩ := h.lies
    injection hv with hv _ _
    refine ⟨g, hv, ?_⟩
    rw [Below.cell g3 (p := ⟨g, k, none⟩) hl.lt]
    exact hl.cell k hk

set_option maxRecDepth 100000 in
set_option maxHeartbeats 1000000 in
theorem PathSplits_no (p : Bs) (w : World) (hp : p.length ≤ 9223372036854775807) (h : 3000 < p.length ∨ split p = none) :
    Calls Tryd.prog 7 #[.string (B p)] w fun e w' => e = .returned (.bool true) ∧ Gr w w' := by
  by_cases h1 : 3000 < p.length
  · clear h
    go_enter Tryd.func7, Tryd.ntmps7
    go_wp2_with (go_at_call 9; refine (head_g _).mono ?_; rintro e w1 ⟨rfl, g1⟩)
    go_ret
    exact ⟨rfl, by assumption⟩
  · have sp : sz p := sz_of (Nat.le_of_not_lt h1) (by omega)
    have hs := h.resolve_left h1
    clear h
    go_enter Tryd.func7, Tryd.ntmps7
    go_wp2_with fail
    refine (head_g _).mono ?_; rintro e w1 ⟨rfl, g1⟩
    go_wp2_with fail
    refine (Split_g _ _ sp).mono ?_; rintro e w2 ⟨⟨v, rfl, hown⟩, g2⟩
    have HS := Lib.hid hs; clear hs
    rw [HS.out] at hown ⊢
    obtain rfl := hown.2 rfl
    go_wp2_with fail
    refine (Right_g _ _ sp).mono ?_; rintro e w3 ⟨rfl, g3⟩
    rw [HS.out]
    go_wp2
    go_ret
    exact ⟨rfl, (g1.trans g2).trans g3⟩

set_option maxRecDepth 100000 in
set_option maxHeartbeats 1000000 in
theorem PathSplits_yes (p : Bs) (w : World) (h1 : ¬ 3000 < p.length) (ps : List Bs) (hs : split p = some ps) :
    Calls Tryd.prog 7 #[.string (B p)] w fun e w' => e = .returned (.bool true) ∧ Gr w w' := by
  have sp : sz p := sz_of (Nat.le_of_not_lt h1) (by omega)
  have hP := (split_iff _ _).1 hs
  have h6 := hP.1.1
  have HS := Lib.hid hs; clear hs
  have HP := Lib.hid hP; clear hP
  go_enter Tryd.func7, Tryd.ntmps7
  go_wp2_with fail
  refine (head_g _).mono ?_; rintro e w1 ⟨rfl, g1⟩
  go_wp2_with fail
  refine (Split_g _ _ sp).mono ?_; rintro e w2 ⟨⟨v, rfl, hown⟩, g2⟩
  rw [HS.out] at hown ⊢
  have hown : Own w1.heap.size w2 v ps := hown
  obtain ⟨ao, cap, rfl⟩ := hown.shape
  have g12 := g1.trans g2
  have hcell := hown.cells
  have HC := Lib.hid hcell; clear hcell hown g2 g1
  go_wp2_with fail
  go_loopw [6, 7] (fun q i wr => ∃ k : Nat, k ≤ ps.length ∧ i = .int .i64 k ∧ q = .string (B (joinP (ps.take k))) ∧ Gr w2 wr) (fun _ i _ => ps.length - (intOf i).toNat)
  case atStart => exact ⟨0, Nat.zero_le _, rfl, rfl, Gr.refl _⟩
  case round =>
    obtain ⟨k, hk, rfl, rfl, g3⟩ := hrel
    by_cases hlt : k < ps.length
    · obtain ⟨g, hg, hc⟩ := HC.out wr g3 k hlt
      have hj := splits_loop HP.out.1 k hlt
      have s1 : sz (joinP (ps.take k)) := sz_of (joinP_take_len HP.out.1 k) (by omega)
      have s2 : sz ps[k] := sz_of (isPart_len (HP.out.1.2 _ (List.getElem_mem hlt))).2 (by omega)
      have hjg := Join_g _ _ wr s1 s2
      rw [hj] at hjg
      have HJ := Lib.hid hjg; clear hjg hj
      generalize hq : joinP (ps.take k) = q at HJ s1
      generalize hq' : joinP (ps.take (k + 1)) = q' at HJ
      generalize hx : ps[k] = x at HJ hc s2
      have HQ := Lib.hid hq'
      clear hq hq' hx
      subst hg
      go_wp2_with fail
      refine HJ.out.mono ?_
      rintro e w3 ⟨rfl, g4⟩
      have g34 := g3.trans g4
      clear g4
      go_wp2
      go_roundw
      case rel => exact ⟨k + 1, by omega, by go_num, by rw [HQ.out], g34⟩
      case measure => simp [intOf]; omega
    · have hke : k = ps.length := by omega
      subst hke
      rw [List.take_length, HP.out.2]
      have hsl := slashes_le p
      go_wp2_with fail
      go_loop [10, 11] (fun n i => ∃ k : Nat, k ≤ p.length ∧ i = .int .i64 k ∧ n = .int .i64 (slashes (p.take k))) (fun _ i => p.length - (intOf i).toNat)
      case atStart => exact ⟨0, Nat.zero_le _, rfl, rfl⟩
      case round =>
        obtain ⟨k, hk', rfl, rfl⟩ := hrel
        by_cases hlp : k < p.length
        · have hst := slashes_take_succ p k hlp
          have hb := slashes_le (p.take k)
          have hb2 : (p.take k).length ≤ 3000 := by rw [List.length_take]; omega
          generalize hn' : slashes (p.take (k + 1)) = n' at hst
          generalize slashes (p.take k) = n at hst hb ⊢
          have HN := Lib.hid hn'; clear hn'
          by_cases hc : p[k] = 47
          · have hc' : (((p[k]).toNat : Int) == 47) = true := by rw [hc]; rfl
            have hst' : n' = n + 1 := by rw [hst, hc]; rfl
            have HS' := Lib.hid hst'; clear hst hst' hc
            have hn3 : n ≤ 3000 := by omega
            clear hb hb2
            go_wp2
            go_round
            case rel => exact ⟨k + 1, by omega, by go_num, by rw [HN.out, HS'.out]; go_num⟩
            case measure => simp [intOf]; omega
          · have hc' : (((p[k]).toNat : Int) == 47) = false := by
              rw [beq_eq_false_iff_ne]; intro h; apply hc; apply UInt8.toNat.inj; exact Int.ofNat_inj.1 h
            have hst' : n' = n := by rw [hst]; simp [hc]
            have HS' := Lib.hid hst'; clear hst hst' hc
            clear hb hb2
            go_wp2
            go_round
            case rel => exact ⟨k + 1, by omega, by go_num, by rw [HN.out, HS'.out]⟩
            case measure => simp [intOf]; omega
        · have hke : k = p.length := by omega
          subst hke
          rw [List.take_length]
          have gg := g12.trans g3
          clear HC g12 g3
          cases ps with
          | nil =>
            have hp47 : p = [47] := HP.out.2.symm
            subst hp47
            go_wp2
            go_ret
            exact ⟨rfl, gg⟩
          | cons q r =>
            have hne : (p == [47]) = false := by
              rw [beq_eq_false_iff_ne]; intro h
              have := (split_iff _ _).1 HS.out
              rw [h] at this
              have e : q :: r = [] := joinP_inj this.1 ⟨by simp, by simp⟩ this.2
              cases e
            have hnn : slashes p = (q :: r).length := by
              rw [← HP.out.2, joinP_cons]; exact slashes_flat _ HP.out.1.2
            have hne2 : ¬ p = [47] := by simpa using hne
            rw [hnn]
            clear hnn hsl
            go_wp2
            go_ret
            exact ⟨rfl, gg⟩

theorem PathSplits_c (p : Bs) (w : World) (hp : p.length ≤ 9223372036854775807) :
    Calls Tryd.prog 7 #[.string (B p)] w fun e w' => e = .returned (.bool true) ∧ Gr w w' := by
  by_cases h1 : 3000 < p.length
  · exact PathSplits_no p w hp (Or.inl h1)
  · cases hs : split p with
    | none => exact PathSplits_no p w hp (Or.inr hs)
    | some ps => exact PathSplits_yes p w h1 ps hs
end Go.Proofs.YtcmhfofeaghjpaaDoor
