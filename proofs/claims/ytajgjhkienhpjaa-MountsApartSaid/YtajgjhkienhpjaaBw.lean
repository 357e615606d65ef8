/- mounts.with (gen_bw.py) -/
import Derived.Test.YtajgjhkienhpjaaBc
import Derived.Test.YtajgjhkienhpjaaBr
namespace Go.Proofs.Ytajgjhkienhpjaa
set_option maxRecDepth 20000
set_option linter.unusedVariables false
set_option linter.unusedSimpArgs false
open Go.RowKit Pm


theorem geq_place {l : List Mt} {p : Bs} {z : Int} (hu : UpM l) (h : IdxM (fun m => geqB m.d p) l z) :
    (z = -1 ∧ plM l p = l.length ∧ getM l p = none) ∨ (∃ i, z = ((i : Nat) : Int) ∧ plM l p = i ∧ ∃ h : i < l.length, lt l[i].d p = false) := by
  rcases h with ⟨rfl, h⟩ | ⟨i, rfl, hi, hq, hb⟩
  · left
    have h2 : ∀ n ∈ l, lt n.d p = true := fun n hn => by have := h n hn; unfold geqB at this; simpa using this
    refine ⟨rfl, plM_of (Nat.le_refl _) (fun i hi _ => h2 _ (List.getElem_mem hi)) (fun i hi h => by omega), getM_no fun x hx e => ?_⟩
    have := h2 x hx
    rw [e, lt_irrefl] at this; cases this
  · right
    have hq' : lt l[i].d p = false := by unfold geqB at hq; simpa using hq
    refine ⟨i, rfl, plM_of (by omega) (fun j hj hji => by have := hb j hj hji; unfold geqB at this; simpa using this) (fun j hj hij => ?_), hi, hq'⟩
    rcases Nat.lt_or_eq_of_le hij with e | e
    · cases h3 : lt l[j].d p with
      | false => rfl
      | true => rw [lt_trans (hu.at hi hj e) h3] at hq'; cases hq'
    · subst e; exact hq'

/-- Mounts that were made. -/
structure MkR (w : World) (m : List Mt) (e : Ending) (w' : World) : Prop where
  ex : ∃ v', e = .returned v' ∧ NsM w' v' m ∧ ∀ k, v'.ownBlock = some k → w.heap.size ≤ k
  fp : Fp Non w w'

set_option maxHeartbeats 8000000 in
theorem with_c (v : Value) (l : List Mt) (x : Mt) (w : World) (hv : NsM w v l) (hu : UpM l) (h0 : 0 < l.length) (h32 : l.length ≤ 32) (hp : ∀ y ∈ l, y.d.length ≤ 1000000) (hx : x.d.length ≤ 1000000) :
    Calls Try.prog 28 #[v, mtV x] w fun e w' => MkR w (putM l x) e w' := by
  obtain ⟨xd, xg, xe, xt⟩ := x
  have f1 := fp_alloc w (.cells #[.string (B xd), .int .i64 xg, .int .i64 xe, .int .i64 xt] TM)
  have hbx := BxM.new w ⟨xd, xg, xe, xt⟩
  have hcl := fun W (f : Fp Non w W) => Clone_ownM v l W (hv.non f) (by omega)
  have hix := fun v2 g W (h : NsM W v2 l) (hg : W.cell? ⟨g, 0, none⟩ = some (.string (B xd))) => IndexM_c v2 _ l _ W h hp (with_pd (y := ⟨xd, xg, xe, xt⟩) hg) (by omega)
  obtain ⟨ao, cap, rfl⟩ := hv.shape
  obtain ⟨n, hn⟩ : ∃ n, n = l.length := ⟨_, rfl⟩
  have HG := Lib.hid (fun z h => geq_place (l := l) (p := xd) (z := z) hu h)
  have HPI := Lib.hid (fun h => put_ins (l := l) (x := ⟨xd, xg, xe, xt⟩) h)
  have HPS := Lib.hid (fun h => put_set (l := l) hu (x := ⟨xd, xg, xe, xt⟩) h)
  have HGP := Lib.hid (getM_place hu xd)
  have HX := Lib.hid (And.intro hn (And.intro h0 h32))
  have HC := Lib.hid hcl
  have HI := Lib.hid hix
  have HF1 := Lib.hid (And.intro f1 hbx)
  rw [← hn] at HC h32 h0 ⊢
  unfold mtV strV
  clear hcl hix hv hu hn f1 hbx hp hx
  simp only
  go_enter Try.func28, Try.ntmps28
  go_wp2_with fail
  refine (HC.out _ HF1.out.1).mono ?_
  rintro e w2 ⟨v2, rfl, hR⟩
  rcases hR.own.ways with ⟨rfl, hl0⟩ | ⟨G, cp, rfl, hN, hlo⟩
  · have := HX.out; rw [hl0] at this; exact absurd this.2.1 (by simp)
  have K2 := Lib.hid (And.intro (HF1.out.1.then hR.fp) (And.intro (HF1.out.2.non hR.fp) (And.intro hN hlo)))
  clear hR hN hlo
  go_wp2_with fail
  refine (HI.out _ w.heap.size _ K2.out.2.2.1.ns K2.out.2.1.at.1).mono ?_
  rintro e w3 ⟨⟨z, rfl, hz⟩, hf⟩
  have hgz := HG.out z hz
  have K3 := Lib.hid (And.intro (K2.out.1.then hf) (And.intro (K2.out.2.1.non hf) (And.intro (K2.out.2.2.1.keep hf (fun h => h)) K2.out.2.2.2)))
  have hcp : l.length ≤ cp ∧ cp ≤ maxLen := ⟨K2.out.2.2.1.room, K2.out.2.2.1.most⟩
  rw [← HX.out.1] at hcp ⊢
  unfold maxLen at hcp
  have hGw : w.heap.size < G := by have h1 := K2.out.2.2.2; simp at h1; omega
  clear hf hz K2
  rcases hgz with ⟨rfl, hpl, hgn⟩ | ⟨i, rfl, hpl, hil, hge⟩
  · have hput : putM l ⟨xd, xg, xe, xt⟩ = l ++ [⟨xd, xg, xe, xt⟩] := by rw [HPI.out hgn]; rw [hpl, List.take_length, List.drop_length]
    have HPUT := Lib.hid hput
    clear hgn hpl hput
    have hc := K3.out.2.1.at
    have c0 := hc.1; have c1 := hc.2.1; have c2 := hc.2.2.1; have c3 := hc.2.2.2
    simp only at c0 c1 c2 c3
    clear hc
    have HAP := Lib.hid (show ∀ ty, ∃ v' w', (Builtin.append_ #[TLM, TLM] ty #[.slice (some ⟨G, 0, none⟩) n cp, .slice (some ⟨w3.heap.size, 0, none⟩) 1 1]).run Try.prog (w3.alloc (.cells #[.string (B xd), .int .i64 xg, .int .i64 xe, .int .i64 xt] TM)) = .ok v' w' ∧ ChRM w.heap.size (w3.alloc (.cells #[.string (B xd), .int .i64 xg, .int .i64 xe, .int .i64 xt] TM)) (.slice (some ⟨G, 0, none⟩) n cp) (l ++ [⟨xd, xg, xe, xt⟩]) v' w' from fun ty => by
      have hN := K3.out.2.2.1.keep (fp_alloc w3 (.cells #[.string (B xd), .int .i64 xg, .int .i64 xe, .int .i64 xt] TM)) (fun h => h)
      have hO : OwM w.heap.size (w3.alloc (.cells #[.string (B xd), .int .i64 xg, .int .i64 xe, .int .i64 xt] TM)) (.slice (some ⟨G, 0, none⟩) l.length cp) l := hN.owns (by omega)
      rw [← HX.out.1] at hO
      have hnd := (BxM.new w3 ⟨xd, xg, xe, xt⟩).nd
      obtain ⟨v', w', hr, ho, hg, hn8⟩ := app_ownM _ w.heap.size _ l [(⟨xd, xg, xe, xt⟩ : Mt)] ty ⟨w3.heap.size, 0, none⟩ 1 1 hO rfl (fun i hi j u hu => by
        have hi0 : i = 0 := by simp at hi; omega
        subst hi0
        have := hnd.get j u hu
        rwa [show 0 * 4 + j = j from by omega]) (by have := HX.out; simp; omega) (by have := K3.out.1.size; simp at this ⊢; omega)
      exact ⟨v', w', hr, ho, (Fp.refl _ _).grown hg (fun k hk => .inl hk), hn8⟩)
    go_wp2_with (at_builtin; go_must (refine wpList_app rfl _ _ _ _ rfl _ _ rfl rfl (ChRM w.heap.size (w3.alloc (.cells #[.string (B xd), .int .i64 xg, .int .i64 xe, .int .i64 xt] TM)) (.slice (some ⟨G, 0, none⟩) n cp) (l ++ [(⟨xd, xg, xe, xt⟩ : Mt)])) (HAP.out TLM) ?_))
    all_goals
      intro v4 w4 hR4
      have HNEW := Lib.hid (show ∀ k, v4.ownBlock = some k → w.heap.size ≤ k from fun k hk => (hR4.new k hk).elim (fun h => by simp only [Value.ownBlock, Option.some.injEq] at h; omega) (fun h => by have := K3.out.1.size; simp at h; omega))
      have HR := Lib.hid (And.intro hR4.own.ns ((K3.out.1.then (fp_alloc w3 (.cells #[.string (B xd), .int .i64 xg, .int .i64 xe, .int .i64 xt] TM))).trans hR4.fp (fun k hk => .inr (by simp [Value.ownBlock] at hk; omega))))
      clear hR4
      go_wp2
      go_ret
      exact ⟨⟨_, rfl, by rw [HPUT.out]; exact HR.out.1, HNEW.out⟩, HR.out.2⟩
  · have hin : i < n := by rw [HX.out.1]; exact hil
    obtain ⟨y, hy⟩ : ∃ y, y = l[i] := ⟨_, rfl⟩
    have hnd := K3.out.2.2.1.nd i hil
    rw [← hy] at hnd hge
    rw [Nat.zero_add] at hnd
    have hc := K3.out.2.1.at
    have c0 := hc.1; have c1 := hc.2.1; have c2 := hc.2.2.1; have c3 := hc.2.2.2
    have y0 := hnd.c0; have y1 := hnd.c1; have y2 := hnd.c2; have y3 := hnd.c3
    simp only at c0 c1 c2 c3
    unfold strV at y0
    have q2 : ((i : Int) < (n : Int)) = True := eq_true (by omega)
    have q3 : (i < n) = True := eq_true hin
    have q5 : ((i : Int) == -1) = false := beq_eq_false_iff_ne.2 (by omega)
    have q6 : ((i : Int) = -1) = False := eq_false (by omega)
    have hib : i ≤ 32 := by omega
    have HL := Lib.hid hil
    have HIL := Lib.hid (show i < l.length from hil)
    have hgp := HGP.out
    rw [dif_pos (by rw [hpl]; exact hil)] at hgp
    simp only [hpl] at hgp
    rw [← hy] at hgp
    by_cases he : y.d = xd
    · have q7 : (y.d == xd) = true := by rw [he]; exact beq_self_eq_true xd
      rw [if_pos he] at hgp
      have hput := (HPS.out (by rw [hgp]; rfl)).2
      simp only [hpl] at hput
      have HPUT := Lib.hid hput
      have q8 : (y.d = xd) = True := eq_true he
      clear hin hil hge hpl hgp hc hnd hy hput he q8 HL y1 y2 y3
      obtain ⟨ky, kyl⟩ : ∃ k, k = y.d := ⟨_, rfl⟩
      rw [← kyl] at y0 q7
      clear kyl
      go_wp2_with fail
      go_quiet (fail)
      obtain ⟨W4, hW4⟩ : ∃ W4, w3.drewN nq = W4 := ⟨_, rfl⟩
      have hf4 : Fp Non w3 W4 := by rw [← hW4]; exact (Fp.refl Non w3).drewN nq
      rw [hW4]
      have hN4 := K3.out.2.2.1.keep hf4 (fun h => h)
      have hb4 := (K3.out.2.1.non hf4).at
      have hM := hN4.put i HIL.out ⟨xd, xg, xe, xt⟩
      have hF := fp_putM (S := Non) (K3.out.1.then hf4) (b := G) (.inr (by omega)) (i * 4) (strV xd) (.int .i64 xg) (.int .i64 xe) (.int .i64 xt)
      have f0 := hN4.frozen (i * 4); have f1 := hN4.frozen (i * 4 + 1); have f2 := hN4.frozen (i * 4 + 2); have f3 := hN4.frozen (i * 4 + 3)
      have hnd := hN4.nd i HIL.out
      rw [Nat.zero_add] at hnd
      have y0 := hnd.c0; have y1 := hnd.c1; have y2 := hnd.c2; have y3 := hnd.c3
      have hdr := hM.ns
      rw [List.length_set, ← HX.out.1, ← HPUT.out] at hdr
      have c0 := hb4.1; have c1 := hb4.2.1; have c2 := hb4.2.2.1; have c3 := hb4.2.2.2
      simp only at c0 c1 c2 c3
      unfold strV at hdr hF y0
      have HR := Lib.hid (And.intro hdr hF)
      clear hdr hF hM hN4 hb4 hf4 hW4 hnd
      go_wp2
      go_ret
      exact ⟨⟨_, rfl, HR.out.1, fun k hk => by simp [Value.ownBlock] at hk; omega⟩, HR.out.2⟩
    · have q7 : (y.d == xd) = false := beq_eq_false_iff_ne.2 he
      rw [if_neg he] at hgp
      have hput := HPI.out hgp
      simp only [hpl] at hput
      have HPUT := Lib.hid (show putM l ⟨xd, xg, xe, xt⟩ = insM l i ⟨xd, xg, xe, xt⟩ from hput)
      clear HL hin hil hge hpl hgp hc hnd hy hput he y1 y2 y3
      obtain ⟨ky, kyl⟩ : ∃ k, k = y.d := ⟨_, rfl⟩
      rw [← kyl] at y0 q7
      clear kyl
      go_wp2_with fail
      go_quiet (fail)
      obtain ⟨W4, hW4⟩ : ∃ W4, w3.drewN nq = W4 := ⟨_, rfl⟩
      have hf4 : Fp Non w3 W4 := by rw [← hW4]; exact (Fp.refl Non w3).drewN nq
      rw [hW4]
      have hN4 := K3.out.2.2.1.keep hf4 (fun h => h)
      have hb4 := (K3.out.2.1.non hf4).at
      have c0 := hb4.1; have c1 := hb4.2.1; have c2 := hb4.2.2.1; have c3 := hb4.2.2.2
      simp only at c0 c1 c2 c3
      have HR := Lib.hid (And.intro hN4 (And.intro (K3.out.1.then hf4) hf4.size))
      clear hN4 hb4 hf4 hW4
      go_wp2_with fail
      have hX := BxM.new W4 ⟨xd, xg, xe, xt⟩
      have hN5 := HR.out.1.keep (fp_alloc W4 (.cells #[.string (B xd), .int .i64 xg, .int .i64 xe, .int .i64 xt] TM)) (fun h => h)
      have hO : OwM w.heap.size (W4.alloc (.cells #[.string (B xd), .int .i64 xg, .int .i64 xe, .int .i64 xt] TM)) (.slice (some ⟨G, 0, none⟩) l.length cp) l := hN5.owns (by omega)
      rw [← HX.out.1] at hO
      refine (Insert_ownM (x := ⟨xd, xg, xe, xt⟩) (X := W4.heap.size) hO i (by have := HIL.out; omega) hX (fun e => by have h1 := HR.out.1.lt; simp only [Value.ownBlock, Option.some.injEq] at e; omega) (by have := HX.out; omega) (by have := HR.out.2.1.size; simp; omega)).mono ?_
      rintro e w5 ⟨v5, rfl, hI⟩
      have HZ := Lib.hid (show MkR w (putM l ⟨xd, xg, xe, xt⟩) (.returned v5) w5 from ⟨⟨v5, rfl, by rw [HPUT.out]; exact hI.own.ns, fun k hk => (hI.new k hk).elim (fun h => by simp only [Value.ownBlock, Option.some.injEq] at h; omega) (fun h => by have := HR.out.2.1.size; simp at h; omega)⟩, (HR.out.2.1.then (fp_alloc W4 (.cells #[.string (B xd), .int .i64 xg, .int .i64 xe, .int .i64 xt] TM))).trans hI.fp (fun k hk => .inr (by simp only [Value.ownBlock, Option.some.injEq] at hk; omega))⟩)
      clear hI hX hN5 hO
      go_wp2
      go_ret
      exact HZ.out

end Go.Proofs.Ytajgjhkienhpjaa
