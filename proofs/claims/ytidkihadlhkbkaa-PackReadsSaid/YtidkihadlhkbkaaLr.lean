/- PackReads: the law's walk. -/
import Derived.Test.YtidkihadlhkbkaaSm
namespace Go.Proofs.Ytidkihadlhkbkaa
open Go.RowKit Pm

theorem rtx_le : ∀ (n : Nat) (s : St) (acc : List Bs), (rtx n s acc).2.1.length ≤ s.1.length
  | 0, s, acc => Nat.le_refl _
  | n + 1, s, acc => by
    have h := rText_le s
    simp only [rtx]
    split
    · exact h
    · exact Nat.le_trans (rtx_le n _ _) h
theorem rTexts_le (s : St) : (rTexts s).2.1.length ≤ s.1.length := by
  unfold rTexts
  exact Nat.le_trans (rtx_le _ _ _) (rNum_le s M)
theorem rtx_num : ∀ (n : Nat) (s : St) (acc : List Bs), s.2 = 0 → (rtx n s acc).1.length ≤ acc.length + s.1.length
  | 0, s, acc, _ => by simp [rtx]
  | n + 1, s, acc, h0 => by
    simp only [rtx]
    split
    · simp
    · rename_i h
      have hz : (rText s).2.2 = 0 := by omega
      have h1 := rText_lt s h0 hz
      have := rtx_num n (rText s).2 (acc ++ [(rText s).1]) hz
      rw [List.length_append, List.length_singleton] at this
      omega
theorem rTexts_num (s : St) : (rTexts s).1.length ≤ s.1.length := by
  unfold rTexts
  by_cases h : (rNum s M).2.2 = 0
  · have := rtx_num (rNum s M).1 (rNum s M).2 [] h
    have := rNum_le s M
    simp at *; omega
  · have h0 : (rNum s M).1 = 0 := by
      unfold rNum at h ⊢
      by_cases h2 : s.2 ≠ 0
      · rw [if_pos h2]
      · rw [if_neg h2] at h ⊢; dsimp only at h ⊢; rw [(nx_err h).2]
    rw [h0]; simp [rtx]

set_option maxHeartbeats 4000000 in
set_option maxRecDepth 20000 in
theorem PackReads_f (v vl : Value) (lb : Bs) (l : List It) (w : World) (hv : Sl w v lb) (hl : Its2 w w.heap.size vl l) :
    Calls Try.prog 4 #[v, vl] w fun e w' => e = .returned (.bool true) ∧ Fp Non w w' := by
  obtain ⟨ao, cap, rfl, _, _, _⟩ := hv.ex
  obtain ⟨aol, capl, rfl, _, _, hcell⟩ := hl.its.ex
  have HV := Lib.hid (And.intro hv hl); clear hv hl
  go_enter Try.func4, Try.ntmps4
  go_wp2_with fail
  refine (head_c w).mono ?_
  rintro e w0 ⟨rfl, hf⟩
  have hl1 := HV.out.2.keep hf (fun _ h => h.elim)
  have HF := Lib.hid hf; clear hf
  have HV1 := Lib.hid hl1; clear hl1
  go_wp2_with fail
  refine (Great_c _ _ _ _ HV1.out).mono ?_
  rintro e w1 ⟨g, rfl, hg, hf2⟩
  have hfw := HF.out.then hf2
  have hs1 := hfw.size
  have HG := Lib.hid (And.intro hg hfw); clear hg hf2 hfw
  cases g with
  | true =>
    go_wp2
    go_ret
    exact ⟨rfl, HG.out.2⟩
  | false =>
    by_cases hlb : 20000 < lb.length
    · have r1 : (20000 < lb.length) = True := eq_true hlb
      have r2 : ((20000 : Int) < (lb.length : Int)) = True := eq_true (by omega)
      clear hlb
      go_wp2
      go_ret
      exact ⟨rfl, HG.out.2⟩
    · have r1 : (20000 < lb.length) = False := eq_false hlb
      have r2 : ((20000 : Int) < (lb.length : Int)) = False := eq_false (by omega)
      have hlb' : lb.length ≤ 20000 := by omega
      have HLB := Lib.hid hlb'
      have hll : l.length ≤ 20000 := by have := HG.out.1 rfl; omega
      clear hlb hlb'
      have hv1 := HV.out.1.keep HG.out.2 (fun _ _ h => h)
      have HVV := Lib.hid hv1; clear hv1
      go_wp2_with fail
      refine (New_c w1.heap.size _ _ _ HVV.out (Nat.le_refl _)).mono ?_
      rintro e w2 ⟨br, rfl, hbr, hr, hf3⟩
      have hs3 := hf3.size
      have hv2 := HVV.out.keep hf3 (fun _ _ h => h)
      have HR := Lib.hid (And.intro hr (And.intro (HG.out.2.then hf3) hv2)); clear hr hf3 hv2
      go_wp2_with fail
      refine (QNew_c w1.heap.size _ _ _ HR.out.2.2 hs3 (by have := HLB.out; omega)).mono ?_
      rintro e w3 ⟨bq, vq, rfl, hbq, hvq, hq, hf4⟩
      have hr3 := HR.out.1.keep hf4 (fun h => h)
      have hlow : ∀ j, own2 bq vq j → j ≠ br ∧ w1.heap.size ≤ j := by
        intro j hj
        have h1 := HR.out.1.lt
        rcases hj with rfl | hj
        · exact ⟨by omega, by omega⟩
        · have := hvq j hj; exact ⟨by omega, by omega⟩
      have HQ0 := Lib.hid (And.intro hr3 (And.intro hq (And.intro (HR.out.2.1.then hf4) hlow))); clear hr3 hq hf4 hlow hvq
      go_wp2_with fail
      go_loopw [8] (fun i wr => ∃ k : Nat, k ≤ l.length ∧ i = .int .i64 k ∧ ∃ s vq, Hid (Rr w1.heap.size br s wr ∧ Rq w1.heap.size bq vq s wr ∧ Fp Non w wr ∧ (∀ j, own2 bq vq j → j ≠ br ∧ w1.heap.size ≤ j) ∧ s.1.length ≤ lb.length)) (fun i _ => l.length - (intOf i).toNat)
      case atStart => exact ⟨0, Nat.zero_le _, rfl, (lb, 0), vq, HQ0.out.1, HQ0.out.2.1, HQ0.out.2.2.1, HQ0.out.2.2.2, Nat.le_refl _⟩
      case round =>
        obtain ⟨k, hk, rfl, s, vq, HH⟩ := hrel
        by_cases hkl : k < l.length
        · have q1 : ((k : Int) < (l.length : Int)) = True := eq_true (by omega)
          have q2 : (k < l.length) = True := eq_true hkl
          rcases hcell with hcell | ⟨gi, oi, rfl, hgi, hcell⟩
          · omega
          have hit := (hcell k hkl).keep HH.out.2.2.1 (fun _ h => h.elim) hgi
          have HIC := Lib.hid hcell; clear hcell
          generalize hxx : l[k] = x at hit
          have HX := Lib.hid hxx; clear hxx
          have HL1 := Lib.hid (show s.1.length ≤ 1000000 by have := HH.out.2.2.2.2; have := HLB.out; omega)
          have hlr := Lib.hid (show ∀ (res : List Bs) (s' : St), rTexts s = (res, s') → res.length ≤ 1000000 from fun res s' h => by have := rTexts_num s; rw [h] at this; have := HL1.out; simp only at *; omega)
          have c0 := hit.c0
          have c1 := hit.c1
          clear hit q2
          by_cases h0 : x.what = 0
          · rw [h0] at c0
            clear h0
            go_wp2_with fail
            refine (RNum_c _ _ _ x.n _ HH.out.1 HL1.out).mono ?_
            rintro e u1 ⟨rfl, k1⟩
            have qq := HH.out.2.1.keep k1.2 (fun j hj e => (HH.out.2.2.2.1 j hj).1 e)
            have fw1 : Fp Non w u1 := HH.out.2.2.1.trans k1.2 (fun j hj => .inr (by omega))
            have hit1 := (HIC.out k hkl).keep fw1 (fun _ h => h.elim) hgi
            rw [HX.out] at hit1
            have d1 := hit1.c1
            have HA := Lib.hid (And.intro k1 (And.intro qq fw1))
            skip
            skip
            clear k1 qq fw1 hit1 
            go_wp2_with fail
            refine (QNum_c _ _ _ _ x.n _ HA.out.2.1 HL1.out).mono ?_
            rintro e u2 ⟨rfl, k2⟩
            obtain ⟨vq', q2, f2, hv2⟩ := k2
            have hle := rNum_le s x.n
            have r2 := HA.out.1.1.keep f2 (fun h => (HH.out.2.2.2.1 bq (.inl rfl)).1 h.symm)
            have fw2 : Fp Non w u2 := HA.out.2.2.trans f2 (fun j hj => .inr (by have := (HH.out.2.2.2.1 bq (.inl rfl)).2; omega))
            generalize rNum s x.n = y at *
            obtain ⟨res, s'⟩ := y
            simp only at *
            have hall : Rr w1.heap.size br s' u2 ∧ Rq w1.heap.size bq vq' s' u2 ∧ Fp Non w u2 ∧ (∀ j, own2 bq vq' j → j ≠ br ∧ w1.heap.size ≤ j) ∧ s'.1.length ≤ lb.length := by
              refine ⟨r2, q2, fw2, ?_, by have := HH.out.2.2.2.2; omega⟩
              intro j hj
              rcases hj with rfl | hj
              · exact HH.out.2.2.2.1 _ (.inl rfl)
              · exact HH.out.2.2.2.1 _ (.inr (hv2 j hj))
            have HN := Lib.hid hall
            have HRd := Lib.hid (show ∀ n, Rr w1.heap.size br s' (u2.drewN n) from fun n => r2.keep ((Fp.refl Non u2).drewN n) (fun h => h))
            have HQd := Lib.hid (show ∀ n, Rq w1.heap.size bq vq' s' (u2.drewN n) from fun n => q2.keep ((Fp.refl Non u2).drewN n) (fun _ _ h => h))
            have c1q := q2.cell1
            have hrf : (s'.2 == s'.2) = true := beq_self_eq_true _
            clear hall r2 q2 fw2 hv2 hle
            clear f2
            go_wp2_with fail
            go_quiet (first
              | (go_at_call 29; refine (RErr_c _ _ _ _ (HRd.out _)).mono ?_; rintro e w' ⟨rfl, rfl⟩; exact ⟨rfl, _, rfl⟩)
              | (go_at_call 30; refine (REnd_c _ _ _ _ (HRd.out _)).mono ?_; rintro e w' ⟨rfl, rfl⟩; exact ⟨rfl, _, rfl⟩)
              | (go_at_call 31; refine (QEnd_c _ _ _ _ _ (HQd.out _)).mono ?_; rintro e w' ⟨rfl, rfl⟩; exact ⟨rfl, _, rfl⟩))
            go_wp2
            go_roundw
            case rel => exact ⟨k + 1, by omega, by go_num, _, _, HN.out.1.keep ((Fp.refl Non _).drewN _) (fun h => h), HN.out.2.1.keep ((Fp.refl Non _).drewN _) (fun _ _ h => h), HN.out.2.2.1.drewN _, HN.out.2.2.2.1, HN.out.2.2.2.2⟩
            case measure => simp [intOf]; omega
          · by_cases h1 : x.what = 1
            · rw [h1] at c0
              clear h0 h1
              go_wp2_with fail
              refine (RText_c _ _ _ _ HH.out.1 HL1.out).mono ?_
              rintro e u1 ⟨rfl, k1⟩
              have qq := HH.out.2.1.keep k1.2 (fun j hj e => (HH.out.2.2.2.1 j hj).1 e)
              have fw1 : Fp Non w u1 := HH.out.2.2.1.trans k1.2 (fun j hj => .inr (by omega))
              have hit1 := (HIC.out k hkl).keep fw1 (fun _ h => h.elim) hgi
              rw [HX.out] at hit1
              have d1 := hit1.c1
              have HA := Lib.hid (And.intro k1 (And.intro qq fw1))
              skip
              skip
              clear k1 qq fw1 hit1 
              go_wp2_with fail
              refine (QText_c _ _ _ _ _ HA.out.2.1 HL1.out).mono ?_
              rintro e u2 ⟨rfl, k2⟩
              obtain ⟨vq', q2, f2, hv2⟩ := k2
              have hle := rText_le s
              have r2 := HA.out.1.1.keep f2 (fun h => (HH.out.2.2.2.1 bq (.inl rfl)).1 h.symm)
              have fw2 : Fp Non w u2 := HA.out.2.2.trans f2 (fun j hj => .inr (by have := (HH.out.2.2.2.1 bq (.inl rfl)).2; omega))
              generalize rText s = y at *
              obtain ⟨res, s'⟩ := y
              simp only at *
              have hall : Rr w1.heap.size br s' u2 ∧ Rq w1.heap.size bq vq' s' u2 ∧ Fp Non w u2 ∧ (∀ j, own2 bq vq' j → j ≠ br ∧ w1.heap.size ≤ j) ∧ s'.1.length ≤ lb.length := by
                refine ⟨r2, q2, fw2, ?_, by have := HH.out.2.2.2.2; omega⟩
                intro j hj
                rcases hj with rfl | hj
                · exact HH.out.2.2.2.1 _ (.inl rfl)
                · exact HH.out.2.2.2.1 _ (.inr (hv2 j hj))
              have HN := Lib.hid hall
              have HRd := Lib.hid (show ∀ n, Rr w1.heap.size br s' (u2.drewN n) from fun n => r2.keep ((Fp.refl Non u2).drewN n) (fun h => h))
              have HQd := Lib.hid (show ∀ n, Rq w1.heap.size bq vq' s' (u2.drewN n) from fun n => q2.keep ((Fp.refl Non u2).drewN n) (fun _ _ h => h))
              have c1q := q2.cell1
              have hrf : (s'.2 == s'.2) = true := beq_self_eq_true _
              clear hall r2 q2 fw2 hv2 hle
              clear f2
              go_wp2_with fail
              go_quiet (first
                | (go_at_call 29; refine (RErr_c _ _ _ _ (HRd.out _)).mono ?_; rintro e w' ⟨rfl, rfl⟩; exact ⟨rfl, _, rfl⟩)
                | (go_at_call 30; refine (REnd_c _ _ _ _ (HRd.out _)).mono ?_; rintro e w' ⟨rfl, rfl⟩; exact ⟨rfl, _, rfl⟩)
                | (go_at_call 31; refine (QEnd_c _ _ _ _ _ (HQd.out _)).mono ?_; rintro e w' ⟨rfl, rfl⟩; exact ⟨rfl, _, rfl⟩))
              go_wp2
              go_roundw
              case rel => exact ⟨k + 1, by omega, by go_num, _, _, HN.out.1.keep ((Fp.refl Non _).drewN _) (fun h => h), HN.out.2.1.keep ((Fp.refl Non _).drewN _) (fun _ _ h => h), HN.out.2.2.1.drewN _, HN.out.2.2.2.1, HN.out.2.2.2.2⟩
              case measure => simp [intOf]; omega
            · by_cases h2 : x.what = 2
              · rw [h2] at c0
                clear h0 h1 h2
                go_wp2_with fail
                refine (RTexts_c _ _ _ _ HH.out.1 HL1.out).mono ?_
                rintro e u1 ⟨vt, rfl, ho, k1⟩
                have qq := HH.out.2.1.keep k1.2 (fun j hj e => (HH.out.2.2.2.1 j hj).1 e)
                have fw1 : Fp Non w u1 := HH.out.2.2.1.trans k1.2 (fun j hj => .inr (by omega))
                have hit1 := (HIC.out k hkl).keep fw1 (fun _ h => h.elim) hgi
                rw [HX.out] at hit1
                have d1 := hit1.c1
                have HA := Lib.hid (And.intro k1 (And.intro qq fw1))
                have HO := Lib.hid ho
                obtain ⟨ax, nx1, cx, rfl⟩ := ho.shape
                clear k1 qq fw1 hit1 ho
                go_wp2_with fail
                refine (QTexts_c _ _ _ _ _ HA.out.2.1 HL1.out).mono ?_
                rintro e u2 ⟨vy, rfl, hoy, k2⟩
                obtain ⟨vq', q2, f2, hv2⟩ := k2
                have hle := rTexts_le s
                have r2 := HA.out.1.1.keep f2 (fun h => (HH.out.2.2.2.1 bq (.inl rfl)).1 h.symm)
                have fw2 : Fp Non w u2 := HA.out.2.2.trans f2 (fun j hj => .inr (by have := (HH.out.2.2.2.1 bq (.inl rfl)).2; omega))
                have ho2 : Os wr.heap.size u2 _ _ := HO.out.keep f2 (fun j hj e => by have := HH.out.2.1.lt; omega)
                generalize rTexts s = y at *
                obtain ⟨res, s'⟩ := y
                simp only at *
                have HS2 := Lib.hid (And.intro ho2.ss hoy.ss)
                have hrl : res.length ≤ 1000000 := hlr.out res s' rfl
                obtain ⟨ay, ny1, cy, rfl⟩ := hoy.shape
                clear ho2 hoy
                have HPRE := Lib.hid (And.intro r2 (And.intro q2 (And.intro fw2 (And.intro hv2 hle)))); clear r2 q2 fw2 hv2 hle
                go_wp2_with fail
                refine (Same_c _ _ res _ HS2.out.1 HS2.out.2 hrl).mono ?_
                rintro e u3 ⟨rfl, f3⟩
                obtain ⟨r2, q2, fw2, hv2, hle⟩ := HPRE.out
                have r2 := r2.keep f3 (fun h => h)
                have q2 := q2.keep f3 (fun _ _ h => h)
                have fw2 := fw2.then f3
                have hall : Rr w1.heap.size br s' u3 ∧ Rq w1.heap.size bq vq' s' u3 ∧ Fp Non w u3 ∧ (∀ j, own2 bq vq' j → j ≠ br ∧ w1.heap.size ≤ j) ∧ s'.1.length ≤ lb.length := by
                  refine ⟨r2, q2, fw2, ?_, by have := HH.out.2.2.2.2; omega⟩
                  intro j hj
                  rcases hj with rfl | hj
                  · exact HH.out.2.2.2.1 _ (.inl rfl)
                  · exact HH.out.2.2.2.1 _ (.inr (hv2 j hj))
                have HN := Lib.hid hall
                have HRd := Lib.hid (show ∀ n, Rr w1.heap.size br s' (u3.drewN n) from fun n => r2.keep ((Fp.refl Non u3).drewN n) (fun h => h))
                have HQd := Lib.hid (show ∀ n, Rq w1.heap.size bq vq' s' (u3.drewN n) from fun n => q2.keep ((Fp.refl Non u3).drewN n) (fun _ _ h => h))
                have c1q := q2.cell1
                have hrf : (s'.2 == s'.2) = true := beq_self_eq_true _
                clear hall r2 q2 fw2 hv2 hle
                clear f3 f2
                go_wp2_with fail
                go_quiet (first
                  | (go_at_call 29; refine (RErr_c _ _ _ _ (HRd.out _)).mono ?_; rintro e w' ⟨rfl, rfl⟩; exact ⟨rfl, _, rfl⟩)
                  | (go_at_call 30; refine (REnd_c _ _ _ _ (HRd.out _)).mono ?_; rintro e w' ⟨rfl, rfl⟩; exact ⟨rfl, _, rfl⟩)
                  | (go_at_call 31; refine (QEnd_c _ _ _ _ _ (HQd.out _)).mono ?_; rintro e w' ⟨rfl, rfl⟩; exact ⟨rfl, _, rfl⟩))
                go_wp2
                go_roundw
                case rel => exact ⟨k + 1, by omega, by go_num, _, _, HN.out.1.keep ((Fp.refl Non _).drewN _) (fun h => h), HN.out.2.1.keep ((Fp.refl Non _).drewN _) (fun _ _ h => h), HN.out.2.2.1.drewN _, HN.out.2.2.2.1, HN.out.2.2.2.2⟩
                case measure => simp [intOf]; omega
              · have t0 : (x.what == 0) = false := beq_eq_false_iff_ne.2 h0
                have t1 : (x.what == 1) = false := beq_eq_false_iff_ne.2 h1
                have t2 : (x.what == 2) = false := beq_eq_false_iff_ne.2 h2
                clear h0 h1 h2
                have r2 := HH.out.1
                have q2 := HH.out.2.1
                have HRd := Lib.hid (show ∀ n, Rr w1.heap.size br s (wr.drewN n) from fun n => r2.keep ((Fp.refl Non wr).drewN n) (fun h => h))
                have HQd := Lib.hid (show ∀ n, Rq w1.heap.size bq vq s (wr.drewN n) from fun n => q2.keep ((Fp.refl Non wr).drewN n) (fun _ _ h => h))
                have c1q := q2.cell1
                have hrf : (s.2 == s.2) = true := beq_self_eq_true _
                have HN := Lib.hid HH.out
                clear r2 q2
                go_wp2_with fail
                go_quiet (first
                  | (go_at_call 29; refine (RErr_c _ _ _ _ (HRd.out _)).mono ?_; rintro e w' ⟨rfl, rfl⟩; exact ⟨rfl, _, rfl⟩)
                  | (go_at_call 30; refine (REnd_c _ _ _ _ (HRd.out _)).mono ?_; rintro e w' ⟨rfl, rfl⟩; exact ⟨rfl, _, rfl⟩)
                  | (go_at_call 31; refine (QEnd_c _ _ _ _ _ (HQd.out _)).mono ?_; rintro e w' ⟨rfl, rfl⟩; exact ⟨rfl, _, rfl⟩))
                go_wp2
                go_roundw
                case rel => exact ⟨k + 1, by omega, by go_num, _, _, HN.out.1.keep ((Fp.refl Non _).drewN _) (fun h => h), HN.out.2.1.keep ((Fp.refl Non _).drewN _) (fun _ _ h => h), HN.out.2.2.1.drewN _, HN.out.2.2.2.1, HN.out.2.2.2.2⟩
                case measure => simp [intOf]; omega
        · have q1 : ((k : Int) < (l.length : Int)) = False := eq_false (by omega)
          have q2 : (k < l.length) = False := eq_false hkl
          clear hkl hk hcell
          go_wp2
          go_ret
          exact ⟨rfl, HH.out.2.2.1⟩

theorem PackReads_c (v : Value) (lb : Bs) (vl : Value) (l : List It) (w : World) (hv : Sl w v lb) (hl : Its2 w w.heap.size vl l) :
    Calls Try.prog 4 #[v, vl] w fun e w' => e = .returned (.bool true) ∧ Below w.heap.size w w' :=
  (PackReads_f v vl lb l w hv hl).mono fun _ _ h => ⟨h.1, h.2.below (fun _ h => h.elim) (Nat.le_refl _)⟩
end Go.Proofs.Ytidkihadlhkbkaa
