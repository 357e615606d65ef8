/- SectorSynced: the law's walk. -/
import Derived.Test.YtphjedpcebdbhaaWk
import Derived.Deep.RegionHeld3
namespace Go.Proofs.Ytphjedpcebdbhaa
open Go.RowKit Pm

theorem loose_rep (n : Nat) : loose (List.replicate n false) = [] := by
  rw [List.eq_nil_iff_forall_not_mem]
  intro i hi
  obtain ⟨h, h2⟩ := mem_loose.1 hi
  simp at h2

/-- All is synced. -/
structure SyAt (c : Bs) (k : Nat) (s : Dk) : Prop where
  cur : s.cur = c
  wet : loose s.wet = []
  fu : s.fuse = -1
  of : s.off = false
  ac : s.acts ≤ k
theorem WrAt.sync {l : Bs} {k : Nat} {s : Dk} (h : WrAt l k s) : (dSync s).1 = 0 ∧ SyAt s.cur (k + 1) (dSync s).2 := by
  unfold dSync
  rw [h.pw, if_neg (by rw [h.of]; exact Bool.false_ne_true)]
  refine ⟨rfl, rfl, loose_rep _, ?_, h.of, ?_⟩
  · show (if 0 < s.fuse then s.fuse - 1 else s.fuse) = -1; rw [h.fu]; rfl
  · show s.acts + 1 ≤ k + 1; have := h.ac; omega
theorem SyAt.bad {c : Bs} {k : Nat} {s : Dk} (h : SyAt c k s) (a : Int) (b : Bs) (hf : ¬ fits s a b.length) : dWrite s a b = (1, s) := by
  have hp : pw s = s := by
    unfold pw
    have : decide (s.fuse = 0) = false := decide_eq_false (by have := h.fu; omega)
    rw [this, Bool.or_false]
  unfold dWrite
  rw [hp, if_neg (by rw [h.of]; exact Bool.false_ne_true), if_neg hf]
theorem SyAt.crash {c : Bs} {k : Nat} {s : Dk} (h : SyAt c k s) (keep : List Bool) : (dCrash s keep).cur = c := by
  show cr s.old keep (loose s.wet) 0 s.cur = c
  rw [h.wet]; exact h.cur

set_option maxHeartbeats 1000000 in
theorem Synced_none (v : Value) (l : Bs) (qv : Value)  (kv : Value) (at_ : Int) (bv : Value) (w : World) (hl : Sl w v l) (h : ¬ (1 ≤ l.length / 16 ∧ l.length / 16 ≤ 4096 ∧ l.length % 16 = 0)) : Calls Try.prog 6 #[v, qv, kv, .int .i64 at_, bv] w fun e w' => e = .returned (.bool true) ∧ Fp Non w w' := by
  have HL := Lib.hid (And.intro hl h); clear hl h
  go_enter Try.func6, Try.ntmps6
  go_wp2_with fail
  refine (head_c w).mono ?_
  rintro e w1 ⟨rfl, hf⟩
  have hn := Of_none w1 v l (HL.out.1.keep hf (fun _ _ h => h)) HL.out.2
  have HF := Lib.hid (And.intro hf hn); clear hf hn
  go_wp2_with fail
  refine HF.out.2.mono ?_
  rintro e w2 ⟨rfl, rfl⟩
  go_wp2
  go_ret
  exact ⟨rfl, HF.out.1⟩

set_option maxHeartbeats 1000000 in
theorem Synced_long (v : Value) (l : Bs) (qv : Value) (q : List Oq) (kv : Value) (at_ : Int) (bv : Value) (bl : Bs) (w : World) (hl : Sl w v l) (hq : Oqs w w.heap.size qv q) (hb : Sl w bv bl) (N : Nat) (h1 : 1 ≤ N) (h2 : N ≤ 4096) (hln : l.length = N * 16) (h : 5000 < l.length ∨ (l.length ≤ 5000 ∧ 9000 < bl.length)) : Calls Try.prog 6 #[v, qv, kv, .int .i64 at_, bv] w fun e w' => e = .returned (.bool true) ∧ Fp Non w w' := by
  obtain ⟨qao, qcap, hqv, _, _, _⟩ := hq.ex
  obtain ⟨ao, cap, hv, _, _, _⟩ := hl.ex
  obtain ⟨bao, bcap, hbv, _, _, _⟩ := hb.ex
  have HL := Lib.hid (And.intro hl (And.intro hq hb))
  have HN := Lib.hid (And.intro h1 (And.intro h2 hln))
  rw [hv, hqv, hbv]
  rcases h with h | ⟨h, h'⟩
  · have q1 : ((5000 : Int) < (l.length : Int)) = True := eq_true (by omega)
    clear hl hq hb h h1 h2 hln
    go_enter Try.func6, Try.ntmps6
    go_wp2_with fail
    refine (head_c w).mono ?_
    rintro e w1 ⟨rfl, hf⟩
    have hn := Of_c w1.heap.size w1 v l (HL.out.1.keep hf (fun _ _ h => h)) N HN.out.1 HN.out.2.1 HN.out.2.2 (Nat.le_refl _)
    rw [hv] at hn
    have HF := Lib.hid (And.intro hf hn); clear hf hn
    go_wp2_with fail
    refine HF.out.2.mono ?_
    rintro e w2 ⟨b, g, m, rfl, hd, hf2, hown⟩
    have H2 := Lib.hid (And.intro hd (And.intro hf2 hown)); clear hf2 hd hown
    have hq2 := (HL.out.2.1.keep_ HF.out.1 (fun _ h => h.elim)).keep_ H2.out.2.1 (fun _ h => h.elim)
    have hgr := Great_c w.heap.size qv q w2 hq2
    rw [hqv] at hgr
    have HG := Lib.hid (And.intro hq2 hgr); clear hq2 hgr
    go_wp2_with fail
    refine HG.out.2.mono ?_
    rintro e w3 ⟨gr, rfl, hgl, hf3⟩
    have H3 := Lib.hid hf3; clear hf3 hgl
    cases gr with
    | true =>
      go_wp2
      go_ret
      exact ⟨rfl, (HF.out.1.then H2.out.2.1).then H3.out⟩
    | false =>
      go_wp2
      go_ret
      exact ⟨rfl, (HF.out.1.then H2.out.2.1).then H3.out⟩
  · have q1 : ((5000 : Int) < (l.length : Int)) = False := eq_false (by omega)
    have q2 : ((9000 : Int) < (bl.length : Int)) = True := eq_true (by omega)
    clear hl hq hb h h' h1 h2 hln
    go_enter Try.func6, Try.ntmps6
    go_wp2_with fail
    refine (head_c w).mono ?_
    rintro e w1 ⟨rfl, hf⟩
    have hn := Of_c w1.heap.size w1 v l (HL.out.1.keep hf (fun _ _ h => h)) N HN.out.1 HN.out.2.1 HN.out.2.2 (Nat.le_refl _)
    rw [hv] at hn
    have HF := Lib.hid (And.intro hf hn); clear hf hn
    go_wp2_with fail
    refine HF.out.2.mono ?_
    rintro e w2 ⟨b, g, m, rfl, hd, hf2, hown⟩
    have H2 := Lib.hid (And.intro hd (And.intro hf2 hown)); clear hf2 hd hown
    have hq2 := (HL.out.2.1.keep_ HF.out.1 (fun _ h => h.elim)).keep_ H2.out.2.1 (fun _ h => h.elim)
    have hgr := Great_c w.heap.size qv q w2 hq2
    rw [hqv] at hgr
    have HG := Lib.hid (And.intro hq2 hgr); clear hq2 hgr
    go_wp2_with fail
    refine HG.out.2.mono ?_
    rintro e w3 ⟨gr, rfl, hgl, hf3⟩
    have H3 := Lib.hid hf3; clear hf3 hgl
    cases gr with
    | true =>
      go_wp2
      go_ret
      exact ⟨rfl, (HF.out.1.then H2.out.2.1).then H3.out⟩
    | false =>
      go_wp2
      go_ret
      exact ⟨rfl, (HF.out.1.then H2.out.2.1).then H3.out⟩

attribute [local irreducible] wpStill

set_option maxRecDepth 20000 in
set_option maxHeartbeats 4000000 in
theorem Synced_some (v : Value) (l : Bs) (qv : Value) (q : List Oq) (kv : Value) (keep : List Bool) (at_ : Int) (bv : Value) (bl : Bs) (w : World) (hl : Sl w v l) (hq : Oqs w w.heap.size qv q) (hk : Sb w kv keep ∧ (0 < keep.length → ∀ k, kv.ownBlock = some k → k < w.heap.size)) (hat : -9223372036854775808 ≤ at_ ∧ at_ ≤ 9223372036854775807) (hb : Sl w bv bl) (N : Nat) (h1 : 1 ≤ N) (h2 : N ≤ 4096) (hln : l.length = N * 16) (h : l.length ≤ 5000) (h9 : bl.length ≤ 9000) : Calls Try.prog 6 #[v, qv, kv, .int .i64 at_, bv] w fun e w' => e = .returned (.bool true) ∧ Fp Non w w' := by
  obtain ⟨qao, qcap, hqv, hq1, _, hq3⟩ := hq.ex
  obtain ⟨ao, cap, hv, _, _, _⟩ := hl.ex
  obtain ⟨bao, bcap, hbv, _, _, _⟩ := hb.ex
  obtain ⟨kao, kcap, hkv, _, _, _⟩ := hk.1.ex
  have HL := Lib.hid (And.intro hl (And.intro hq (And.intro hb (And.intro hk hat))))
  have HN := Lib.hid (And.intro h1 (And.intro h2 (And.intro hln (And.intro h h9))))
  rw [hv, hqv, hbv, hkv]
  have q1 : ((5000 : Int) < (l.length : Int)) = False := eq_false (by omega)
  have q2 : ((9000 : Int) < (bl.length : Int)) = False := eq_false (by omega)
  have HQ3 := Lib.hid (And.intro hq1 hq3)
  clear hl hq hk hb h h9 h1 h2 hln hq1 hq3 hat
  go_enter Try.func6, Try.ntmps6
  go_wp2_with fail
  refine (head_c w).mono ?_
  rintro e w1 ⟨rfl, hf⟩
  have hn := Of_c w1.heap.size w1 v l (HL.out.1.keep hf (fun _ _ h => h)) N HN.out.1 HN.out.2.1 HN.out.2.2.1 (Nat.le_refl _)
  rw [hv] at hn
  have HF := Lib.hid (And.intro hf hn); clear hf hn
  go_wp2_with fail
  refine HF.out.2.mono ?_
  rintro e w2 ⟨b, g, m, rfl, hd, hf2, hown⟩
  have H2 := Lib.hid (And.intro hd (And.intro hf2 hown)); clear hf2 hd hown
  have hq2 := (HL.out.2.1.keep_ HF.out.1 (fun _ h => h.elim)).keep_ H2.out.2.1 (fun _ h => h.elim)
  have hgr := Great_c w.heap.size qv q w2 hq2
  rw [hqv] at hgr
  have HG := Lib.hid (And.intro hq2 hgr); clear hq2 hgr
  go_wp2_with fail
  refine HG.out.2.mono ?_
  rintro e w3 ⟨gr, rfl, hgl, hf3⟩
  have H3 := Lib.hid (And.intro hf3 hgl); clear hf3 hgl
  have hz : ∀ j, own3 b g m j → False ∨ w.heap.size ≤ j := fun j hj => .inr (by have := H2.out.2.2 j hj; have := HF.out.1.size; omega)
  have HZ0 := Lib.hid (And.intro hz ((HF.out.1.then H2.out.2.1).then H3.out.1)); clear hz
  have HKD : Hid (0 < keep.length → ∀ j, kv.ownBlock = some j → ¬ own3 b g m j) := fun h0 j hj ho => by have h5 := HL.out.2.2.2.1.2 h0 j hj; exact (HZ0.out.1 j ho).elim id (fun h => absurd h (Nat.not_le.2 h5))
  have HBD : Hid (∀ j, bv.ownBlock = some j → ¬ own3 b g m j) := fun j hj ho => by have h5 := HL.out.2.2.1.below j hj; exact (HZ0.out.1 j ho).elim id (fun h => absurd h (Nat.not_le.2 h5))
  cases gr with
  | true =>
    go_wp2
    go_ret
    exact ⟨rfl, HZ0.out.2⟩
  | false =>
    have hd3 := H2.out.1.keep H3.out.1 (fun _ _ h => h)
    have HD3 := Lib.hid (And.intro hd3 (WrAt.of_ hd3.rt)); clear hd3
    have hq300 : q.length ≤ 300 := H3.out.2 rfl
    go_wp2_with fail
    go_loopw [13] (fun i wr => ∃ k : Nat, k ≤ q.length ∧ i = .int .i64 k ∧ ∃ s, Hid (Dr w1.heap.size b g m s wr ∧ Fp Non w wr ∧ WrAt l k s)) (fun i _ => q.length - (RowKit.intOf i).toNat)
    case atStart => exact ⟨0, Nat.zero_le _, rfl, _, HD3.out.1, HZ0.out.2, HD3.out.2⟩
    case round =>
      obtain ⟨k, hk, rfl, s, hR⟩ := hrel
      rename_i wr _
      by_cases hlt : k < q.length
      · have g1 : ((k : Int) < (q.length : Int)) = True := eq_true (by omega)
        have g2 : (k < q.length) = True := eq_true hlt
        rcases HQ3.out.2 with h0 | ⟨qg, qo, rfl, hqg, hqc⟩
        · have := HQ3.out.1; omega
        have hit := (hqc k hlt).keep_ hR.out.2.1 (fun _ h => h.elim) hqg
        generalize q[k] = x at hit
        have c0 := hit.c0
        have c1 := hit.c1
        have c2 := hit.c2
        have hwr := Write_c (hR.out.1.keep (Fp.drew (Fp.refl Non wr)) (fun _ _ h => h)) x.at_ hit.ha x.bv x.b (hit.sb.keep (Fp.drew (Fp.refl Non wr)) (fun _ _ _ h => h)) (fun h0 j hj ho => by have h5 := hit.lb h0 j hj; exact (HZ0.out.1 j ho).elim id (fun h => absurd h (Nat.not_le.2 h5))) (by have := hR.out.2.2.ac; omega)
        obtain ⟨xao, xcap, exb, _, _, _⟩ := hit.sb.ex
        rw [exb] at c2 hwr
        have q13 : wrap64 ((k : Int) + 1) = ((k + 1 : Nat) : Int) := by unfold wrap64; omega
        have HW := Lib.hid hwr
        have HZ := Lib.hid (And.intro hlt (And.intro hk (And.intro hit (And.intro exb q13))))
        clear hlt hk hit exb hqc hwr q13
        by_cases hw0 : 0 ≤ x.what
        · have g3 : (0 ≤ x.what) = True := eq_true hw0
          by_cases hw3 : x.what < 3
          · have g4 : (x.what < 3) = True := eq_true hw3
            clear hw0 hw3
            go_wp2_with fail
            refine wp_region_still_tail 11 (by kernel_rfl) (by kernel_rfl) ?_
            simp only [List.take_succ_cons, List.take_zero, List.drop_succ_cons, List.drop_zero]
            change wpStill _ _ wr.drew _ _ _
            repeat still_step
            refine wpStill_nil ?_
            change wpList _ _ _ _ _ wr.drew
            go_wp2_with fail
            refine HW.out.mono ?_
            rintro e w5 ⟨rfl, hd5, hf5⟩
            have H5 := Lib.hid (And.intro hd5 ((hR.out.2.1.drew).trans hf5 HZ0.out.1)); clear hd5 hf5
            have q13 := HZ.out.2.2.2.2
            go_wp2
            go_roundw
            case rel => exact ⟨k + 1, HZ.out.1, congrArg (Value.int .i64) q13, _, H5.out.1, H5.out.2, hR.out.2.2.write _ _⟩
            case measure => have := HZ.out.1; rw [q13]; simp [RowKit.intOf]; omega
          · have g4 : (x.what < 3) = False := eq_false hw3
            have q13 := HZ.out.2.2.2.2
            clear hw0 hw3
            go_wp2
            go_roundw
            case rel => exact ⟨k + 1, HZ.out.1, congrArg (Value.int .i64) q13, _, hR.out.1, hR.out.2.1, hR.out.2.2.mono⟩
            case measure => have := HZ.out.1; rw [q13]; simp [RowKit.intOf]; omega
        · have g3 : (0 ≤ x.what) = False := eq_false hw0
          have q13 := HZ.out.2.2.2.2
          clear hw0
          go_wp2
          go_roundw
          case rel => exact ⟨k + 1, HZ.out.1, congrArg (Value.int .i64) q13, _, hR.out.1, hR.out.2.1, hR.out.2.2.mono⟩
          case measure => have := HZ.out.1; rw [q13]; simp [RowKit.intOf]; omega
      · have g1 : ((k : Int) < (q.length : Int)) = False := eq_false (by omega)
        clear hlt
        have hsc := Sync_c hR.out.1 (by have := hR.out.2.2.ac; omega)
        have hsy := hR.out.2.2.sync
        rw [hsy.1] at hsc
        have HS := Lib.hid (And.intro hsc (And.intro hsy hk)); clear hsc hsy hk
        go_wp2_with fail
        refine HS.out.1.mono ?_
        rintro e w6 ⟨rfl, hd6, hf6⟩
        have hy := HS.out.2.1.2
        generalize (dSync s).2 = s6 at hd6 hy
        have H6 := Lib.hid (And.intro hd6 (And.intro (hR.out.2.1.trans hf6 HZ0.out.1) hy)); clear hd6 hf6 hy
        go_wp2_with fail
        refine (Bytes_c H6.out.1).mono ?_
        rintro e w7 ⟨wv, rfl, hwv⟩
        rw [H6.out.2.2.cur] at hwv
        have hcl : s.cur.length = l.length := hR.out.2.2.cl
        have hd7 := H6.out.1.keep hwv.fp (fun _ _ h => h)
        have h7f := H6.out.2.1.then hwv.fp
        have hbw := Write_c hd7 at_ HL.out.2.2.2.2 bv bl ((HL.out.2.2.1.keep h7f (fun _ _ h => h)).zero) (fun _ => HBD.out) (by have := H6.out.2.2.ac; have := HS.out.2.2; omega)
        rw [hbv] at hbw
        have H7 := Lib.hid (And.intro hd7 (And.intro h7f (And.intro hwv.own hbw)))
        obtain ⟨wao, wlen, wcap, rfl⟩ := hwv.shape3
        have h6cl : s6.cur.length = l.length := by rw [H6.out.2.2.cur]; exact hcl
        clear hd7 h7f hbw hwv hcl
        have HWD : Hid (∀ j, (Value.slice wao wlen wcap).ownBlock = some j → ¬ own3 b g m j) := fun j hj ho => by
          have h5 := (H7.out.2.2.1.lt j hj).1
          have h6 := (H6.out.1.all j ho).2
          exact absurd h5 (Nat.not_le.2 h6)
        have HWS := Lib.hid (Sl.of_owns H7.out.2.2.1)
        by_cases hfit : fits s6 at_ bl.length
        · obtain ⟨a, rfl⟩ := Int.eq_ofNat_of_zero_le hfit.1
          have hfi := hfit.2.2
          rw [h6cl] at hfi
          have g3 : ((a : Int) < 0) = False := eq_false (by omega)
          have g4 : ((l.length : Int) < (a : Int)) = False := eq_false (by omega)
          have g5 : ((l.length : Int) - (a : Int) < (bl.length : Int)) = False := eq_false (by omega)
          have g6 : wrap64 ((l.length : Int) - (a : Int)) = (l.length : Int) - (a : Int) := by have := HN.out.2.2.2.1; unfold wrap64; omega
          clear hfi hfit h6cl
          go_wp2_with fail
          have hcr := Crash_c H7.out.1 kv keep (HL.out.2.2.2.1.1.keep (H7.out.2.1) (fun _ _ _ h => h)) HKD.out
          rw [hkv] at hcr
          refine hcr.mono ?_
          clear hcr
          rintro e wA ⟨rfl, hdA, hfA⟩
          have hcu := H6.out.2.2.crash keep
          have hbA := Bytes_c (hdA.keep (Fp.drew (Fp.refl Non wA)) (fun _ _ h => h))
          rw [hcu] at hbA
          have slA := (HWS.out).keep hfA HWD.out
          have k1 : (convert 22 9 (.slice wao wlen wcap)).run Try.prog wA.drew = .ok (.string (B s.cur)) wA.drew := conv_sl _ _ _ (slA.keep (Fp.drew (Fp.refl Non wA)) (fun _ _ h => h))
          have HA := Lib.hid (And.intro ((H7.out.2.1).trans hfA HZ0.out.1) slA)
          have HB := Lib.hid hbA
          clear hdA hfA hcu hbA slA
          go_wp2_with fail
          go_region_held3 (fun w' => (convert 22 9 (.slice wao wlen wcap)).run Try.prog w' = .ok (.string (B s.cur)) w') (first | exact k1 | exact k3 | go_keep) (first
            | (go_simp; go_at_call 28
               refine HB.out.mono ?_
               rintro e wB ⟨v2, rfl, hNB⟩
               have hf2 : Fp Non w wB := HA.out.1.drew.then hNB.fp
               have s2 := hNB.sl
               obtain ⟨vao, vlen, vcap, rfl⟩ := hNB.shape3
               have k2 : (convert 22 9 (.slice vao vlen vcap)).run Try.prog wB = .ok (.string (B s.cur)) wB := conv_sl _ _ _ s2
               have k3 : (convert 22 9 (.slice wao wlen wcap)).run Try.prog wB = .ok (.string (B s.cur)) wB := conv_sl _ _ _ ((HA.out.2.keep (Fp.drew (Fp.refl Non wA)) (fun _ _ h => h)).keep hNB.fp (fun _ _ h => h))
               have HFIN := Lib.hid hf2
               clear hNB hf2 s2))
          all_goals (go_wp2; go_ret; exact ⟨rfl, HFIN.out⟩)
        · have hbad := H6.out.2.2.bad at_ bl hfit
          have hb7 := H7.out.2.2.2
          rw [hbad] at hb7
          have HB := Lib.hid hb7; clear hb7 hbad
          by_cases ha0 : at_ < 0
          · have g3 : (at_ < 0) = True := eq_true ha0
            clear hfit ha0 h6cl
            go_wp2_with fail
            refine HB.out.mono ?_
            rintro e w8 ⟨rfl, hd8, hf8⟩
            have sl8 := HWS.out.keep hf8 HWD.out
            have H8 := Lib.hid (And.intro hd8 (And.intro (H7.out.2.1.trans hf8 HZ0.out.1) sl8)); clear hd8 hf8 sl8
            go_wp2_with fail
            refine (Loose_c H8.out.1).mono ?_
            rintro e w9 ⟨lv, rfl, hlv⟩
            rw [H6.out.2.2.wet] at hlv
            obtain ⟨lao, lcap, rfl, _⟩ := hlv.cells
            have H9 := Lib.hid (And.intro (H8.out.1.keep hlv.fp (fun _ _ h => h)) (And.intro (H8.out.2.1.then hlv.fp) (H8.out.2.2.keep hlv.fp (fun _ _ h => h)))); clear hlv
            go_wp2_with fail
            have hcr := Crash_c H9.out.1 kv keep (HL.out.2.2.2.1.1.keep (H9.out.2.1) (fun _ _ _ h => h)) HKD.out
            rw [hkv] at hcr
            refine hcr.mono ?_
            clear hcr
            rintro e wA ⟨rfl, hdA, hfA⟩
            have hcu := H6.out.2.2.crash keep
            have hbA := Bytes_c (hdA.keep (Fp.drew (Fp.refl Non wA)) (fun _ _ h => h))
            rw [hcu] at hbA
            have slA := (H9.out.2.2).keep hfA HWD.out
            have k1 : (convert 22 9 (.slice wao wlen wcap)).run Try.prog wA.drew = .ok (.string (B s.cur)) wA.drew := conv_sl _ _ _ (slA.keep (Fp.drew (Fp.refl Non wA)) (fun _ _ h => h))
            have HA := Lib.hid (And.intro ((H9.out.2.1).trans hfA HZ0.out.1) slA)
            have HB := Lib.hid hbA
            clear hdA hfA hcu hbA slA
            go_wp2_with fail
            go_region_held3 (fun w' => (convert 22 9 (.slice wao wlen wcap)).run Try.prog w' = .ok (.string (B s.cur)) w') (first | exact k1 | exact k3 | go_keep) (first
              | (go_simp; go_at_call 28
                 refine HB.out.mono ?_
                 rintro e wB ⟨v2, rfl, hNB⟩
                 have hf2 : Fp Non w wB := HA.out.1.drew.then hNB.fp
                 have s2 := hNB.sl
                 obtain ⟨vao, vlen, vcap, rfl⟩ := hNB.shape3
                 have k2 : (convert 22 9 (.slice vao vlen vcap)).run Try.prog wB = .ok (.string (B s.cur)) wB := conv_sl _ _ _ s2
                 have k3 : (convert 22 9 (.slice wao wlen wcap)).run Try.prog wB = .ok (.string (B s.cur)) wB := conv_sl _ _ _ ((HA.out.2.keep (Fp.drew (Fp.refl Non wA)) (fun _ _ h => h)).keep hNB.fp (fun _ _ h => h))
                 have HFIN := Lib.hid hf2
                 clear hNB hf2 s2))
            all_goals (go_wp2; go_ret; exact ⟨rfl, HFIN.out⟩)
          · have g3 : (at_ < 0) = False := eq_false ha0
            by_cases hal : (l.length : Int) < at_
            · have g4 : ((l.length : Int) < at_) = True := eq_true hal
              clear hfit ha0 hal h6cl
              go_wp2_with fail
              refine HB.out.mono ?_
              rintro e w8 ⟨rfl, hd8, hf8⟩
              have sl8 := HWS.out.keep hf8 HWD.out
              have H8 := Lib.hid (And.intro hd8 (And.intro (H7.out.2.1.trans hf8 HZ0.out.1) sl8)); clear hd8 hf8 sl8
              go_wp2_with fail
              refine (Loose_c H8.out.1).mono ?_
              rintro e w9 ⟨lv, rfl, hlv⟩
              rw [H6.out.2.2.wet] at hlv
              obtain ⟨lao, lcap, rfl, _⟩ := hlv.cells
              have H9 := Lib.hid (And.intro (H8.out.1.keep hlv.fp (fun _ _ h => h)) (And.intro (H8.out.2.1.then hlv.fp) (H8.out.2.2.keep hlv.fp (fun _ _ h => h)))); clear hlv
              go_wp2_with fail
              have hcr := Crash_c H9.out.1 kv keep (HL.out.2.2.2.1.1.keep (H9.out.2.1) (fun _ _ _ h => h)) HKD.out
              rw [hkv] at hcr
              refine hcr.mono ?_
              clear hcr
              rintro e wA ⟨rfl, hdA, hfA⟩
              have hcu := H6.out.2.2.crash keep
              have hbA := Bytes_c (hdA.keep (Fp.drew (Fp.refl Non wA)) (fun _ _ h => h))
              rw [hcu] at hbA
              have slA := (H9.out.2.2).keep hfA HWD.out
              have k1 : (convert 22 9 (.slice wao wlen wcap)).run Try.prog wA.drew = .ok (.string (B s.cur)) wA.drew := conv_sl _ _ _ (slA.keep (Fp.drew (Fp.refl Non wA)) (fun _ _ h => h))
              have HA := Lib.hid (And.intro ((H9.out.2.1).trans hfA HZ0.out.1) slA)
              have HB := Lib.hid hbA
              clear hdA hfA hcu hbA slA
              go_wp2_with fail
              go_region_held3 (fun w' => (convert 22 9 (.slice wao wlen wcap)).run Try.prog w' = .ok (.string (B s.cur)) w') (first | exact k1 | exact k3 | go_keep) (first
                | (go_simp; go_at_call 28
                   refine HB.out.mono ?_
                   rintro e wB ⟨v2, rfl, hNB⟩
                   have hf2 : Fp Non w wB := HA.out.1.drew.then hNB.fp
                   have s2 := hNB.sl
                   obtain ⟨vao, vlen, vcap, rfl⟩ := hNB.shape3
                   have k2 : (convert 22 9 (.slice vao vlen vcap)).run Try.prog wB = .ok (.string (B s.cur)) wB := conv_sl _ _ _ s2
                   have k3 : (convert 22 9 (.slice wao wlen wcap)).run Try.prog wB = .ok (.string (B s.cur)) wB := conv_sl _ _ _ ((HA.out.2.keep (Fp.drew (Fp.refl Non wA)) (fun _ _ h => h)).keep hNB.fp (fun _ _ h => h))
                   have HFIN := Lib.hid hf2
                   clear hNB hf2 s2))
              all_goals (go_wp2; go_ret; exact ⟨rfl, HFIN.out⟩)
            · have g4 : ((l.length : Int) < at_) = False := eq_false hal
              have g5 : ((l.length : Int) - at_ < (bl.length : Int)) = True := eq_true (by
                refine Int.not_le.1 (fun hle => hfit ⟨by omega, by omega, by rw [h6cl]; exact hle⟩))
              have g6 : wrap64 ((l.length : Int) - at_) = (l.length : Int) - at_ := by have := HN.out.2.2.2.1; unfold wrap64; omega
              clear hfit ha0 hal h6cl
              go_wp2_with fail
              refine HB.out.mono ?_
              rintro e w8 ⟨rfl, hd8, hf8⟩
              have sl8 := HWS.out.keep hf8 HWD.out
              have H8 := Lib.hid (And.intro hd8 (And.intro (H7.out.2.1.trans hf8 HZ0.out.1) sl8)); clear hd8 hf8 sl8
              go_wp2_with fail
              refine (Loose_c H8.out.1).mono ?_
              rintro e w9 ⟨lv, rfl, hlv⟩
              rw [H6.out.2.2.wet] at hlv
              obtain ⟨lao, lcap, rfl, _⟩ := hlv.cells
              have H9 := Lib.hid (And.intro (H8.out.1.keep hlv.fp (fun _ _ h => h)) (And.intro (H8.out.2.1.then hlv.fp) (H8.out.2.2.keep hlv.fp (fun _ _ h => h)))); clear hlv
              go_wp2_with fail
              have hcr := Crash_c H9.out.1 kv keep (HL.out.2.2.2.1.1.keep (H9.out.2.1) (fun _ _ _ h => h)) HKD.out
              rw [hkv] at hcr
              refine hcr.mono ?_
              clear hcr
              rintro e wA ⟨rfl, hdA, hfA⟩
              have hcu := H6.out.2.2.crash keep
              have hbA := Bytes_c (hdA.keep (Fp.drew (Fp.refl Non wA)) (fun _ _ h => h))
              rw [hcu] at hbA
              have slA := (H9.out.2.2).keep hfA HWD.out
              have k1 : (convert 22 9 (.slice wao wlen wcap)).run Try.prog wA.drew = .ok (.string (B s.cur)) wA.drew := conv_sl _ _ _ (slA.keep (Fp.drew (Fp.refl Non wA)) (fun _ _ h => h))
              have HA := Lib.hid (And.intro ((H9.out.2.1).trans hfA HZ0.out.1) slA)
              have HB := Lib.hid hbA
              clear hdA hfA hcu hbA slA
              go_wp2_with fail
              go_region_held3 (fun w' => (convert 22 9 (.slice wao wlen wcap)).run Try.prog w' = .ok (.string (B s.cur)) w') (first | exact k1 | exact k3 | go_keep) (first
                | (go_simp; go_at_call 28
                   refine HB.out.mono ?_
                   rintro e wB ⟨v2, rfl, hNB⟩
                   have hf2 : Fp Non w wB := HA.out.1.drew.then hNB.fp
                   have s2 := hNB.sl
                   obtain ⟨vao, vlen, vcap, rfl⟩ := hNB.shape3
                   have k2 : (convert 22 9 (.slice vao vlen vcap)).run Try.prog wB = .ok (.string (B s.cur)) wB := conv_sl _ _ _ s2
                   have k3 : (convert 22 9 (.slice wao wlen wcap)).run Try.prog wB = .ok (.string (B s.cur)) wB := conv_sl _ _ _ ((HA.out.2.keep (Fp.drew (Fp.refl Non wA)) (fun _ _ h => h)).keep hNB.fp (fun _ _ h => h))
                   have HFIN := Lib.hid hf2
                   clear hNB hf2 s2))
              all_goals (go_wp2; go_ret; exact ⟨rfl, HFIN.out⟩)


theorem SectorSynced_c (v : Value) (l : Bs) (qv : Value) (q : List Oq) (kv : Value) (keep : List Bool) (at_ : Int) (bv : Value) (bl : Bs) (w : World) (hl : Sl w v l) (hq : Oqs w w.heap.size qv q) (hk : Sb w kv keep ∧ (0 < keep.length → ∀ k, kv.ownBlock = some k → k < w.heap.size)) (hat : -9223372036854775808 ≤ at_ ∧ at_ ≤ 9223372036854775807) (hb : Sl w bv bl) :
    Calls Try.prog 6 #[v, qv, kv, .int .i64 at_, bv] w fun e w' => e = .returned (.bool true) ∧ Fp Non w w' := by
  by_cases h : 1 ≤ l.length / 16 ∧ l.length / 16 ≤ 4096 ∧ l.length % 16 = 0
  · by_cases h5 : l.length ≤ 5000 ∧ bl.length ≤ 9000
    · exact Synced_some v l qv q kv keep at_ bv bl w hl hq hk hat hb (l.length / 16) h.1 h.2.1 (by omega) h5.1 h5.2
    · exact Synced_long v l qv q kv at_ bv bl w hl hq hb (l.length / 16) h.1 h.2.1 (by omega) (by omega)
  · exact Synced_none v l qv kv at_ bv w hl h
end Go.Proofs.Ytphjedpcebdbhaa
