/- SectorSynced: the law's walk. -/
import Derived.Test.YtphjedpcebdbhaaWk
import Derived.Deep.RegionHeld3
namespace Go.Proofs.Ytphjedpcebdbhaa
open Go.RowKit Pm

theorem loose_rep (n : Nat) : loose (List.replicate n false) = [] := by
  rw [List.eq_nil_iff_forall_not_mem]
  intro i hi
  obtain ⟨h, h2⟩ := mem_loose.1 hi
  simp at h2

/-- All is synced. -/
structure SyAt (c : Bs) (k : Nat) (s : Dk) : Prop where
  cur : s.cur = c
  wet : loose s.wet = []
  fu : s.fuse = -1
  of : s.off = false
  ac : s.acts ≤ k
theorem WrAt.sync {l : Bs} {k : Nat} {s : Dk} (h : WrAt l k s) : (dSync s).1 = 0 ∧ SyAt s.cur (k + 1) (dSync s).2 := by
  unfold dSync
  rw [h.pw, if_neg (by rw [h.of]; exact Bool.false_ne_true)]
  refine ⟨rfl, rfl, loose_rep _, ?_, h.of, ?_⟩
  · show (if 0 < s.fuse then s.fuse - 1 else s.fuse) = -1; rw [h.fu]; rfl
  · show s.acts + 1 ≤ k + 1; have := h.ac; omega
theorem SyAt.bad {c : Bs} {k : Nat} {s : Dk} (h : SyAt c k s) (a : Int) (b : Bs) (hf : ¬ fits s a b.length) : dWrite s a b = (1, s) := by
  have hp : pw s = s := by
    unfold pw
    have : decide (s.fuse = 0) = false := decide_eq_false (by have := h.fu; omega)
    rw [this, Bool.or_false]
  unfold dWrite
  rw [hp, if_neg (by rw [h.of]; exact Bool.false_ne_true), if_neg hf]
theorem SyAt.crash {c : Bs} {k : Nat} {s : Dk} (h : SyAt c k s) (keep : List Bool) : (dCrash s keep).cur = c := by
  show cr s.old keep (loose s.wet) 0 s.cur = c
  rw [h.wet]; exact h.cur

set_option maxHeartbeats 1000000 in
theorem Synced_none (v : Value) (l : Bs) (qv : Value)  (kv : Value) (at_ : Int) (bv : Value) (w : World) (hl : Sl w v l) (h : ¬ (1 ≤ l.length / 16 ∧ l.length / 16 ≤ 4096 ∧ l.length % 16 = 0)) : Calls Try.prog 6 #[v, qv, kv, .int .i64 at_, bv] w fun e w' => e = .returned (.bool true) ∧ Fp Non w w' := by
  have HL := Lib.hid (And.intro hl h); clear hl h
  go_enter Try.func6, Try.ntmps6
  go_wp2_with fail
  refine (head_c w).mono ?_
  rintro e w1 ⟨rfl, hf⟩
  have hn := Of_none w1 v l (HL.out.1.keep hf (fun _ _ h => h)) HL.out.2
  have HF := Lib.hid (And.intro hf hn); clear hf hn
  go_wp2_with fail
  refine HF.out.2.mono ?_
  rintro e w2 ⟨rfl, rfl⟩
  go_wp2
  go_ret
  exact ⟨rfl, HF.out.1⟩

set_option maxHeartbeats 1000000 in
theorem Synced_long (v : Value) (l : Bs) (qv : Value) (q : List Oq) (kv : Value) (at_ : Int) (bv : Value) (bl : Bs) (w : World) (hl : Sl w v l) (hq : Oqs w w.heap.size qv q) (hb : Sl w bv bl) (N : Nat) (h1 : 1 ≤ N) (h2 : N ≤ 4096) (hln : l.length = N * 16) (h : 5000 < l.length ∨ (l.length ≤ 5000 ∧ 9000 < bl.length)) : Calls Try.prog 6 #[v, qv, kv, .int .i64 at_, bv] w fun e w' => e = .returned (.bool true) ∧ Fp Non w w' := by
  obtain ⟨qao, qcap, hqv, _, _, _⟩ := hq.ex
  obtain ⟨ao, cap, hv, _, _, _⟩ := hl.ex
  obtain ⟨bao, bcap, hbv, _, _, _⟩ := hb.ex
  have HL := Lib.hid (And.intro hl (And.intro hq hb))
  have HN := Lib.hid (And.intro h1 (And.intro h2 hln))
  rw [hv, hqv, hbv]
  rcases h with h | ⟨h, h'⟩
  · have q1 : ((5000 : Int) < (l.length : Int)) = True := eq_true (by omega)
    clear hl hq hb h h1 h2 hln
    go_enter Try.func6, Try.ntmps6
    go_wp2_with fail
    refine (head_c w).mono ?_
    rintro e w1 ⟨rfl, hf⟩
    have hn := Of_c w1.heap.size w1 v l (HL.out.1.keep hf (fun _ _ h => h)) N HN.out.1 HN.out.2.1 HN.out.2.2 (Nat.le_refl _)
    rw [hv] at hn
    have HF := Lib.hid (And.intro hf hn); clear hf hn
    go_wp2_with fail
    refine HF.out.2.mono ?_
    rintro e w2 ⟨b, g, m, rfl, hd, hf2, hown⟩
    have H2 := Lib.hid (And.intro hd (And.intro hf2 hown)); clear hf2 hd hown
    have hq2 := (HL.out.2.1.keep_ HF.out.1 (fun _ h => h.elim)).keep_ H2.out.2.1 (fun _ h => h.elim)
    have hgr := Great_c w.heap.size qv q w2 hq2
    rw [hqv] at hgr
    have HG := Lib.hid (And.intro hq2 hgr); clear hq2 hgr
    go_wp2_with fail
    refine HG.out.2.mono ?_
    rintro e w3 ⟨gr, rfl, hgl, hf3⟩
    have H3 := Lib.hid hf3; clear hf3 hgl
    cases gr with
    | true =>
      go_wp2
      go_ret
      exact ⟨rfl, (HF.out.1.then H2.out.2.1).then H3.out⟩
    | false =>
      go_wp2
      go_ret
      exact ⟨rfl, (HF.out.1.then H2.out.2.1).then H3.out⟩
  · have q1 : ((5000 : Int) < (l.length : Int)) = False := eq_false (by omega)
    have q2 : ((9000 : Int) < (bl.length : Int)) = True := eq_true (by omega)
    clear hl hq hb h h' h1 h2 hln
    go_enter Try.func6, Try.ntmps6
    go_wp2_with fail
    refine (head_c w).mono ?_
    rintro e w1 ⟨rfl, hf⟩
    have hn := Of_c w1.heap.size w1 v l (HL.out.1.keep hf (fun _ _ h => h)) N HN.out.1 HN.out.2.1 HN.out.2.2 (Nat.le_refl _)
    rw [hv] at hn
    have HF := Lib.hid (And.intro hf hn); clear hf hn
    go_wp2_with fail
    refine HF.out.2.mono ?_
    rintro e w2 ⟨b, g, m, rfl, hd, hf2, hown⟩
    have H2 := Lib.hid (And.intro hd (And.intro hf2 hown)); clear hf2 hd hown
    have hq2 := (HL.out.2.1.keep_ HF.out.1 (fun _ h => h.elim)).keep_ H2.out.2.1 (fun _ h => h.elim)
    have hgr := Great_c w.heap.size qv q w2 hq2
    rw [hqv] at hgr
    have HG := Lib.hid (And.intro hq2 hgr); clear hq2 hgr
    go_wp2_with fail
    refine HG.out.2.mono ?_
    rintro e w3 ⟨gr, rfl, hgl, hf3⟩
    have H3 := Lib.hid hf3; clear hf3 hgl
    cases gr with
    | true =>
      go_wp2
      go_ret
      exact ⟨rfl, (HF.out.1.then H2.out.2.1).then H3.out⟩
    | false =>
      go_wp2
      go_ret
      exact ⟨rfl, (HF.out.1.then H2.out.2.1).then H3.out⟩

attribute [local irreducible] wpStill

set_option maxRecDepth 20000 in
set_option maxHeartbeats 4000000 in
theorem Synced_some (v : Value) (l : Bs) (qv : Value) (q : List Oq) (kv : Value) (keep : List Bool) (at_ : Int) (bv : Value) (bl : Bs) (w : World) (hl : Sl w v l) (hq : Oqs w w.heap.size qv q) (hk : Sb w kv keep ∧ (0 < keep.length → ∀ k, kv.ownBlock = some k → k < w.heap.size)) (hat : -9223372036854775808 ≤ at_ ∧ at_ ≤ 9223372036854775807) (hb : Sl w bv bl) (N : Nat) (h1 : 1 ≤ N) (h2 : N ≤ 4096) (hln : l.length = N * 16) (h : l.length ≤ 5000) (h9 : bl.length ≤ 9000) : Calls Try.prog 6 #[v, qv, kv, .int .i64 at_, bv] w fun e w' => e = .returned (.bool true) ∧ Fp Non w w' := by
  obtain ⟨qao, qcap, hqv, hq1, _, hq3⟩ := hq.ex
  obtain ⟨ao, cap, hv, _, _, _⟩ := hl.ex
  obtain ⟨bao, bcap, hbv, _, _, _⟩ := hb.ex
  obtain ⟨kao, kcap, hkv, _, _, _⟩ := hk.1.ex
  have HL := Lib.hid (And.intro hl (And.intro hq (And.intro hb (And.intro hk hat))))
  have HN := Lib.hid (And.intro h1 (And.intro h2 (And.intro hln (And.intro h h9))))
  rw [hv, hqv, hbv, hkv]
  have q1 : ((5000 : Int) < (l.length : Int)) = False := eq_false (by omega)
  have q2 : ((9000 : Int) < (bl.length : Int)) = False := eq_false (by omega)
  have HQ3 := Lib.hid (And.intro hq1 hq3)
  clear hl hq hk hb h h9 h1 h2 hln hq1 hq3 hat
  go_enter Try.func6, Try.ntmps6
  go_wp2_with fail
  refine (head_c w).mono ?_
  rintro e w1 ⟨rfl, hf⟩
  have hn := Of_c w1.heap.size w1 v l (HL.out.1.keep hf (fun _ _ h => h)) N HN.out.1 HN.out.2.1 HN.out.2.2.1 (Nat.le_refl _)
  rw [hv] at hn
  have HF := Lib.hid (And.intro hf hn); clear hf hn
  go_wp2_with fail
  refine HF.out.2.mono ?_
  rintro e w2 ⟨b, g, m, rfl, hd, hf2, hown⟩
  have H2 := Lib.hid (And.intro hd (And.intro hf2 hown)); clear hf2 hd hown
  have hq2 := (HL.out.2.1.keep_ HF.out.1 (fun _ h => h.elim)).keep_ H2.out.2.1 (fun _ h => h.elim)
  have hgr := Great_c w.heap.size qv q w2 hq2
  rw [hqv] at hgr
  have HG := Lib.hid (And.intro hq2 hgr); clear hq2 hgr
  go_wp2_with fail
  refine HG.out.2.mono ?_
  rintro e w3 ⟨gr, rfl, hgl, hf3⟩
  have H3 := Lib.hid (And.intro hf3 hgl); clear hf3 hgl
  have hz : ∀ j, own3 b g m j → False ∨ w.heap.size ≤ j := fun j hj => .inr (by have := H2.out.2.2 j hj; have := HF.out.1.size; omega)
  have HZ0 := Lib.hid (And.intro hz ((HF.out.1.then H2.out.2.1).then H3.out.1)); clear hz
  have HKD : Hid (0 < keep.length → ∀ j, kv.ownBlock = some j → ¬ own3 b g m j) := fun h0 j hj ho => by have h5 := HL.out.2.2.2.1.2 h0 j hj; exact (HZ0.out.1 j ho).elim id (fun h => absurd h (Nat.not_le.2 h5))
  have HBD : Hid (∀ j, bv.ownBlock = some j → ¬ own3 b g m j) := fun j hj ho => by have h5 := HL.out.2.2.1.below j hj; exact (HZ0.out.1 j ho).elim id (fun h => absurd h (Nat.not_le.2 h5))
  cases gr with
  | true =>
    go_wp2
    go_ret
    exact ⟨rfl, HZ0.out.2⟩
  | false =>
    have hd3 := H2.out.1.keep H3.out.1 (fun _ _ h => h)
    have HD3 := Lib.hid (And.intro hd3 (WrAt.of_ hd3.rt)); clear hd3
    have hq300 : q.length ≤ 300 := H3.out.2 rfl
    go_wp2_with fail
    go_loopw [13] (fun i wr => ∃ k : Nat, k ≤ q.length ∧ i = .int .i64 k ∧ ∃ s, Hid (Dr w1.heap.size b g m s wr ∧ Fp Non w wr ∧ WrAt l k s)) (fun i _ => q.length - (RowKit.intOf i).toNat)
    case atStart => exact ⟨0, Nat.zero_le _, rfl, _, HD3.out.1, HZ0.out.2, HD3.out.2⟩
    case round =>
      obtain ⟨k, hk, rfl, s, hR⟩ := hrel
      rename_i wr _
      by_cases hlt : k < q.length
      · have g1 : ((k : Int) < (q.length : Int)) = True := eq_true (by omega)
        have g2 : (k < q.length) = True := eq_true hlt
        rcases HQ3.out.2 with h0 | ⟨qg, qo, rfl, hqg, hqc⟩
        · have := HQ3.out.1; omega
        have hit := (hqc k hlt).keep_ hR.out.2.1 (fun _ h => h.elim) hqg
        generalize q[k] = x at hit
        have c0 := hit.c0
        have c1 := hit.c1
        have c2 := hit.c2
        have hwr := Write_c (hR.out.1.keep (Fp.drew (Fp.refl Non wr)) (fun _ _ h => h)) x.at_ hit.ha x.bv x.b (hit.sb.keep (Fp.drew (Fp.refl Non wr)) (fun _ _ _ h => h)) (fun h0 j hj ho => by have h5 := hit.lb h0 j hj; exact (HZ0.out.1 j ho).elim id (fun h => absurd h (Nat.not_le.2 h5))) (by have := hR.out.2.2.ac; omega)
        obtain ⟨xao, xcap, exb, _, _, _⟩ := hit.sb.ex
        rw [exb] at c2 hwr
        have q13 : wrap64 ((k : Int) + 1) = ((k + 1 : Nat) : Int) := by unfold wrap64; omega
        have HW := Lib.hid hwr
        have HZ := Lib.hid (And.intro hlt (And.intro hk (And.intro hit (And.intro exb q13))))
        clear hlt hk hit exb hqc hwr q13
        by_cases hw0 : 0 ≤ x.what
        · have g3 : (0 ≤ x.what) = True := eq_true hw0
          by_cases hw3 : x.what < 3
          · have g4 : (x.what < 3) = True := eq_true hw3
            clear hw0 hw3
            go_wp2_with fail
            refine wp_region_still_tail 11 (by kernel_rfl) (by kernel_rfl) ?_
            simp only [List.take_succ_cons, List.take_zero, List.drop_succ_cons, List.drop_zero]
            change wpStill _ _ wr.drew _ _ _
            repeat still_step
            refine wpStill_nil ?_
            change wpList _ _ _ _ _ wr.drew
            go_wp2_with fail
            refine HW.out.mono ?_
            rintro e w5 ⟨rfl, hd5, hf5⟩
            have H5 := Lib.hid (And.intro hd5 ((hR.out.2.1.drew).trans hf5 HZ0.out.1)); clear hd5 hf5
            have q13 := HZ.out.2.2.2.2
            go_wp2
            go_roundw
            case rel => exact ⟨k + 1, HZ.out.1, congrArg (Value.int .i64) q13, _, H5.out.1, H5.out.2, hR.out.2.2.write _ _⟩
            case measure => have := HZ.out.1; rw [q13]; simp [RowKit.intOf]; omega
          · have g4 : (x.what < 3) = False := eq_false hw3
            have q13 := HZ.out.2.2.2.2
            clear hw0 hw3
            go_wp2
            go_roundw
            case rel => exact ⟨k + 1, HZ.out.1, congrArg (Value.int .i64) q13, _, hR.out.1, hR.out.2.1, hR.out.2.2.mono⟩
            case measure => have := HZ.out.1; rw [q13]; simp [RowKit.intOf]; omega
        · have g3 : (0 ≤ x.what) = False := eq_false hw0
          have q13 := HZ.out.2.2.2.2
          clear hw0
          go_wp2
          go_roundw
          case rel => exact ⟨k + 1, HZ.out.1, congrArg (Value.int .i64) q13, _, hR.out.1, hR.out.2.1, hR.out.2.2.mono⟩
          case measure => have := HZ.out.1; rw [q13]; simp [RowKit.intOf]; omega
      · have g1 : ((k : Int) < (q.length : Int)) = False := eq_false (by omega)
        clear hlt
        have hsc := Sync_c hR.out.1 (by have := hR.out.2.2.ac; omega)
        have hsy := hR.out.2.2.sync
        rw [hsy.1] at hsc
        have HS := Lib.hid (And.intro hsc (And.intro hsy hk)); clear hsc hsy hk
        go_wp2_with fail
        refine HS.out.1.mono ?_
        rintro e w6 ⟨rfl, hd6, hf6⟩
        have hy := HS.out.2.1.2
        generalize (dSync s).2 = s6 at hd6 hy
        have H6 := Lib.hid (And.intro hd6 (And.intro (hR.out.2.1.trans hf6 HZ0.out.1) hy)); clear hd6 hf6 hy
        go_wp2_with fail
        refine (Bytes_c H6.out.1).mono ?_
        rintro e w7 ⟨wv, rfl, hwv⟩
        rw [H6.out.2.2.cur] at hwv
        have hcl : s.cur.length = l.length := hR.out.2.2.cl
        have hd7 := H6.out.1.keep hwv.fp (fun _ _ h => h)
        have h7f := H6.out.2.1.then hwv.fp
        have hbw := Write_c hd7 at_ HL.out.2.2.2.2 bv bl ((HL.out.2.2.1.keep h7f (fun _ _ h => h)).zero) (fun _ => HBD.out) (by have := H6.out.2.2.ac; have := HS.out.2.2; omega)
        rw [hbv] at hbw
        have H7 := Lib.hid (And.intro hd7 (And.intro h7f (And.intro hwv.own hbw)))
        obtain ⟨wao, wlen, wcap, rfl⟩ := hwv.shape3
        have h6cl : s6.cur.length = l.length := by rw [H6.out.2.2.cur]; exact hcl
        clear hd7 h7f hbw hwv hcl
        have HWD : Hid (∀ j, (Value.slice wao wlen wcap).ownBlock = some j → ¬ own3 b g m j) := fun j hj ho => by
          have h5 := (H7.out.2.2.1.lt j hj).1
          have h6 := (H6.out.1.all j ho).2
          exact absurd h5 (Nat.not_le.2 h6)
        have HWS := Lib.hid (Sl.of_owns H7.out.2.2.1)
        by_cases hfit : fits s6 at_ bl.length
        · obtain ⟨a, rfl⟩ := Int.eq_ofNat_of_zero_le hfit.1
          have hfi := hfit.2.2
          rw [h6cl] at hfi
          have g3 : ((a : Int) < 0) = False := eq_false (by omega)
          have g4 : ((l.length : Int) < (a : Int)) = False := eq_false (by omega)
          have g5 : ((l.length : Int) - (a : Int) < (bl.length : Int)) = False := eq_false (by omega)
          have g6 : wrap64 ((l.length : Int) - (a : Int)) = (l.length : Int) - (a : Int) := by have := HN.out.2.2.2.1; unfold wrap64; omega
          clear hfi hfit h6cl
          go_wp2_with fail
          have hcr := Crash_c H7.out.1 kv keep (HL.out.2.2.2.1.1.keep (H7.out.2.1) (fun _ _ _ h => h)) HKD.out
          rw [hkv] at hcr
          refine hcr.mono ?_
          clear hcr
          rintro e wA ⟨rfl, hdA, hfA⟩
          have hcu := H6.out.2.2.crash keep
          have hbA := Bytes_c (hdA.keep (Fp.drew (Fp.refl Non wA)) (fun _ _ h => h))
          rw [hcu] at hbA
          have slA := (HWS.out).keep hfA HWD.out
          have k1 : (convert 22 9 (.slice wao wlen wcap)).run Try.prog wA.drew = .ok (.string (B s.cur)) wA.drew := conv_sl _ _ _ (slA.keep (Fp.drew (Fp.refl Non wA)) (fun _ _ h => h))
          have HA := Lib.hid (And.intro ((H7.out.2.1).trans hfA HZ0.out.1) slA)
          have HB := Lib.hid hbA
          clear hdA hfA hcu hbA slA
          go_wp2_with fail
          refine wp_region_noPanic ?_
          refine wp_region_held_drew (S := fun w' => (convert 22 9 (.slice wao wlen wcap)).run Try.prog w' = .ok (.string (B s.cur)) w') (by kernel_rfl) ?_ (fun hHeld => ?_)
          · exact k1
          refine wpAnyH_take (i := 0) (oi := ?oi1) (v := ?vi1) ?h1 (by kernel_rfl) (by kernel_rfl) (by kernel_rfl) ?q1 (Or.inl ⟨?w1, ?y1⟩) hHeld ?r1
          case h1 => first | (simp only [List.getElem?_toArray, List.getElem?_cons_zero]; done) | (simp only [List.getElem?_toArray, List.getElem?_cons_zero]; exact rfl)
          case q1 => exact fun _ _ _ h => h
          case w1 => rfl
          case y1 =>
            intro w hSw
            (try dsimp only at hSw)
            go_simp
            try with_reducible rfl
          try simp only [Act.put, List.setIfInBounds_toArray, List.set_cons_zero, List.set_cons_succ]
          refine wpAnyH_take (i := 1) (oi := ?oi2) (v := ?vi2) ?h2 (by kernel_rfl) (by kernel_rfl) (by kernel_rfl) ?q2 (Or.inl ⟨?w2, ?y2⟩) hHeld ?r2
          case h2 => first | (simp only [List.getElem?_toArray, List.getElem?_cons_zero, List.getElem?_cons_succ]; done) | (simp only [List.getElem?_toArray, List.getElem?_cons_zero, List.getElem?_cons_succ]; exact rfl)
          case q2 => exact fun _ _ _ h => h
          case w2 => rfl
          case y2 =>
            intro w hSw
            (try dsimp only at hSw)
            go_simp
            try with_reducible rfl
          try simp only [Act.put, List.setIfInBounds_toArray, List.set_cons_zero, List.set_cons_succ]
          refine wpAnyH_take (i := 2) (oi := ?oi3) (v := ?vi3) ?h3 (by kernel_rfl) (by kernel_rfl) (by kernel_rfl) ?q3 (Or.inl ⟨?w3, ?y3⟩) hHeld ?r3
          case h3 => first | (simp only [List.getElem?_toArray, List.getElem?_cons_zero, List.getElem?_cons_succ]; done) | (simp only [List.getElem?_toArray, List.getElem?_cons_zero, List.getElem?_cons_succ]; exact rfl)
          case q3 => exact fun _ _ _ h => h
          case w3 => rfl
          case y3 =>
            intro w hSw
            (try dsimp only at hSw)
            go_simp
            try with_reducible rfl
          try simp only [Act.put, List.setIfInBounds_toArray, List.set_cons_zero, List.set_cons_succ]
          refine wpAnyH_take (i := 3) (oi := ?oi4) (v := ?vi4) ?h4 (by kernel_rfl) (by kernel_rfl) (by kernel_rfl) ?q4 (Or.inl ⟨?w4, ?y4⟩) hHeld ?r4
          case h4 => first | (simp only [List.getElem?_toArray, List.getElem?_cons_zero, List.getElem?_cons_succ]; done) | (simp only [List.getElem?_toArray, List.getElem?_cons_zero, List.getElem?_cons_succ]; exact rfl)
          case q4 => exact fun _ _ _ h => h
          case w4 => rfl
          case y4 =>
            intro w hSw
            (try dsimp only at hSw)
            go_simp
            try with_reducible rfl
          try simp only [Act.put, List.setIfInBounds_toArray, List.set_cons_zero, List.set_cons_succ]
          refine wpAnyH_take (i := 4) (oi := ?oi5) (v := ?vi5) ?h5 (by kernel_rfl) (by kernel_rfl) (by kernel_rfl) ?q5 (Or.inl ⟨?w5, ?y5⟩) hHeld ?r5
          case h5 => first | (simp only [List.getElem?_toArray, List.getElem?_cons_zero, List.getElem?_cons_succ]; done) | (simp only [List.getElem?_toArray, List.getElem?_cons_zero, List.getElem?_cons_succ]; exact rfl)
          case q5 => exact fun _ _ _ h => h
          case w5 => rfl
          case y5 =>
            intro w hSw
            (try dsimp only at hSw)
            go_simp
            try with_reducible rfl
          try simp only [Act.put, List.setIfInBounds_toArray, List.set_cons_zero, List.set_cons_succ]
          refine wpAnyH_take (i := 5) (oi := ?oi6) (v := ?vi6) ?h6 (by kernel_rfl) (by kernel_rfl) (by kernel_rfl) ?q6 (Or.inl ⟨?w6, ?y6⟩) hHeld ?r6
          case h6 => first | (simp only [List.getElem?_toArray, List.getElem?_cons_zero, List.getElem?_cons_succ]; done) | (simp only [List.getElem?_toArray, List.getElem?_cons_zero, List.getElem?_cons_succ]; exact rfl)
          case q6 => exact fun _ _ _ h => h
          case w6 => rfl
          case y6 =>
            intro w hSw
            (try dsimp only at hSw)
            go_simp
            try with_reducible rfl
          try simp only [Act.put, List.setIfInBounds_toArray, List.set_cons_zero, List.set_cons_succ]
          refine wpAnyH_take (i := 6) (oi := ?oi7) (v := ?vi7) ?h7 (by kernel_rfl) (by kernel_rfl) (by kernel_rfl) ?q7 (Or.inl ⟨?w7, ?y7⟩) hHeld ?r7
          case h7 => first | (simp only [List.getElem?_toArray, List.getElem?_cons_zero, List.getElem?_cons_succ]; done) | (simp only [List.getElem?_toArray, List.getElem?_cons_zero, List.getElem?_cons_succ]; exact rfl)
          case q7 => exact fun _ _ _ h => h
          case w7 => rfl
          case y7 =>
            intro w hSw
            (try dsimp only at hSw)
            go_simp
            try with_reducible rfl
          try simp only [Act.put, List.setIfInBounds_toArray, List.set_cons_zero, List.set_cons_succ]
          refine wpAnyH_take (i := 9) (oi := ?oi8) (v := ?vi8) ?h8 (by kernel_rfl) (by kernel_rfl) (by kernel_rfl) ?q8 (Or.inl ⟨?w8, ?y8⟩) hHeld ?r8
          case h8 => first | (simp only [List.getElem?_toArray, List.getElem?_cons_zero, List.getElem?_cons_succ]; done) | (simp only [List.getElem?_toArray, List.getElem?_cons_zero, List.getElem?_cons_succ]; exact rfl)
          case q8 => exact fun _ _ _ h => h
          case w8 => rfl
          case y8 =>
            intro w hSw
            (try dsimp only at hSw)
            go_simp
            try with_reducible rfl
          try simp only [Act.put, List.setIfInBounds_toArray, List.set_cons_zero, List.set_cons_succ]
          refine wpAnyH_take (i := 10) (oi := ?oi9) (v := ?vi9) ?h9 (by kernel_rfl) (by kernel_rfl) (by kernel_rfl) ?q9 (Or.inl ⟨?w9, ?y9⟩) hHeld ?r9
          case h9 => first | (simp only [List.getElem?_toArray, List.getElem?_cons_zero, List.getElem?_cons_succ]; done) | (simp only [List.getElem?_toArray, List.getElem?_cons_zero, List.getElem?_cons_succ]; exact rfl)
          case q9 => exact fun _ _ _ h => h
          case w9 => rfl
          case y9 =>
            intro w hSw
            (try dsimp only at hSw)
            go_simp
            try with_reducible rfl
          try simp only [Act.put, List.setIfInBounds_toArray, List.set_cons_zero, List.set_cons_succ]
          refine wpAnyH_ready (rs := [7]) (by kernel_rfl) (by simp) ?_
          refine AllReadyH.cons (o := ?ob10) ?hb10 (fun K hK => ?_) AllReadyH.nil
          case hb10 => first | (simp only [List.getElem?_toArray, List.getElem?_cons_zero, List.getElem?_cons_succ]; done) | (simp only [List.getElem?_toArray, List.getElem?_cons_zero, List.getElem?_cons_succ]; exact rfl)
          go_simp
          go_at_call 28
          refine HB.out.mono ?_
          rintro e wB ⟨v2, rfl, hNB⟩
          have hf2 : Fp Non w wB := HA.out.1.drew.then hNB.fp
          have s2 := hNB.sl
          obtain ⟨vao, vlen, vcap, rfl⟩ := hNB.shape3
          have k2 : (convert 22 9 (.slice vao vlen vcap)).run Try.prog wB = .ok (.string (B s.cur)) wB := conv_sl _ _ _ s2
          have k3 : (convert 22 9 (.slice wao wlen wcap)).run Try.prog wB = .ok (.string (B s.cur)) wB := conv_sl _ _ _ ((HA.out.2.keep (Fp.drew (Fp.refl Non wA)) (fun _ _ h => h)).keep hNB.fp (fun _ _ h => h))
          have HFIN := Lib.hid hf2
          clear hNB hf2 s2 hHeld
          go_wp2_with fail
          refine hK.out _ _ k3 (fun hHeld => ?_)
          clear hK K
          try simp only [Act.put, List.setIfInBounds_toArray, List.set_cons_zero, List.set_cons_succ]
          refine wpAnyH_ready (rs := [8]) (by kernel_rfl) (by simp) ?_
          refine AllReadyH.cons (o := ?ob11) ?hb11 (fun K hK => ?_) AllReadyH.nil
          case hb11 => first | (simp only [List.getElem?_toArray, List.getElem?_cons_zero, List.getElem?_cons_succ]; done) | (simp only [List.getElem?_toArray, List.getElem?_cons_zero, List.getElem?_cons_succ]; exact rfl)
          go_simp
          refine hK.out _ _ k3 (fun hHeld => ?_)
          clear hK K
          try simp only [Act.put, List.setIfInBounds_toArray, List.set_cons_zero, List.set_cons_succ]
          refine wpAnyH_take (i := 11) (oi := ?oi12) (v := ?vi12) ?h12 (by kernel_rfl) (by kernel_rfl) (by kernel_rfl) ?q12 (Or.inl ⟨?w12, ?y12⟩) hHeld ?r12
          case h12 => first | (simp only [List.getElem?_toArray, List.getElem?_cons_zero, List.getElem?_cons_succ]; done) | (simp only [List.getElem?_toArray, List.getElem?_cons_zero, List.getElem?_cons_succ]; exact rfl)
          case q12 => exact fun _ _ _ h => h
          case w12 => rfl
          case y12 =>
            intro w hSw
            (try dsimp only at hSw)
            go_simp
            try with_reducible rfl
          try simp only [Act.put, List.setIfInBounds_toArray, List.set_cons_zero, List.set_cons_succ]
          refine wpAnyH_take (i := 12) (oi := ?oi13) (v := ?vi13) ?h13 (by kernel_rfl) (by kernel_rfl) (by kernel_rfl) ?q13 (Or.inl ⟨?w13, ?y13⟩) hHeld ?r13
          case h13 => first | (simp only [List.getElem?_toArray, List.getElem?_cons_zero, List.getElem?_cons_succ]; done) | (simp only [List.getElem?_toArray, List.getElem?_cons_zero, List.getElem?_cons_succ]; exact rfl)
          case q13 => exact fun _ _ _ h => h
          case w13 => rfl
          case y13 =>
            intro w hSw
            (try dsimp only at hSw)
            go_simp
            try with_reducible rfl
          try simp only [Act.put, List.setIfInBounds_toArray, List.set_cons_zero, List.set_cons_succ]
          refine wpAnyH_take (i := 13) (oi := ?oi14) (v := ?vi14) ?h14 (by kernel_rfl) (by kernel_rfl) (by kernel_rfl) ?q14 (Or.inl ⟨?w14, ?y14⟩) hHeld ?r14
          case h14 => first | (simp only [List.getElem?_toArray, List.getElem?_cons_zero, List.getElem?_cons_succ]; done) | (simp only [List.getElem?_toArray, List.getElem?_cons_zero, List.getElem?_cons_succ]; exact rfl)
          case q14 => exact fun _ _ _ h => h
          case w14 => rfl
          case y14 =>
            intro w hSw
            (try dsimp only at hSw)
            go_simp
            try with_reducible rfl
          try simp only [Act.put, List.setIfInBounds_toArray, List.set_cons_zero, List.set_cons_succ]
          refine wpAnyH_done (by kernel_rfl) ?_ _
          refine NoPanic.normal ?_
          go_wp2
          go_ret
          exact ⟨rfl, HFIN.out⟩
        · have hbad := H6.out.2.2.bad at_ bl hfit
          have hb7 := H7.out.2.2.2
          rw [hbad] at hb7
          have HB := Lib.hid hb7; clear hb7 hbad
          by_cases ha0 : at_ < 0
          · have g3 : (at_ < 0) = True := eq_true ha0
            clear hfit ha0 h6cl
            go_wp2_with fail
            refine HB.out.mono ?_
            rintro e w8 ⟨rfl, hd8, hf8⟩
            have sl8 := HWS.out.keep hf8 HWD.out
            have H8 := Lib.hid (And.intro hd8 (And.intro (H7.out.2.1.trans hf8 HZ0.out.1) sl8)); clear hd8 hf8 sl8
            go_wp2_with fail
            refine (Loose_c H8.out.1).mono ?_
            rintro e w9 ⟨lv, rfl, hlv⟩
            rw [H6.out.2.2.wet] at hlv
            obtain ⟨lao, lcap, rfl, _⟩ := hlv.cells
            have H9 := Lib.hid (And.intro (H8.out.1.keep hlv.fp (fun _ _ h => h)) (And.intro (H8.out.2.1.then hlv.fp) (H8.out.2.2.keep hlv.fp (fun _ _ h => h)))); clear hlv
            go_wp2_with fail
            have hcr := Crash_c H9.out.1 kv keep (HL.out.2.2.2.1.1.keep (H9.out.2.1) (fun _ _ _ h => h)) HKD.out
            rw [hkv] at hcr
            refine hcr.mono ?_
            clear hcr
            rintro e wA ⟨rfl, hdA, hfA⟩
            have hcu := H6.out.2.2.crash keep
            have hbA := Bytes_c (hdA.keep (Fp.drew (Fp.refl Non wA)) (fun _ _ h => h))
            rw [hcu] at hbA
            have slA := (H9.out.2.2).keep hfA HWD.out
            have k1 : (convert 22 9 (.slice wao wlen wcap)).run Try.prog wA.drew = .ok (.string (B s.cur)) wA.drew := conv_sl _ _ _ (slA.keep (Fp.drew (Fp.refl Non wA)) (fun _ _ h => h))
            have HA := Lib.hid (And.intro ((H9.out.2.1).trans hfA HZ0.out.1) slA)
            have HB := Lib.hid hbA
            clear hdA hfA hcu hbA slA
            go_wp2_with fail
            refine wp_region_noPanic ?_
            refine wp_region_held_drew (S := fun w' => (convert 22 9 (.slice wao wlen wcap)).run Try.prog w' = .ok (.string (B s.cur)) w') (by kernel_rfl) ?_ (fun hHeld => ?_)
            · exact k1
            refine wpAnyH_take (i := 0) (oi := ?oi15) (v := ?vi15) ?h15 (by kernel_rfl) (by kernel_rfl) (by kernel_rfl) ?q15 (Or.inl ⟨?w15, ?y15⟩) hHeld ?r15
            case h15 => first | (simp only [List.getElem?_toArray, List.getElem?_cons_zero]; done) | (simp only [List.getElem?_toArray, List.getElem?_cons_zero]; exact rfl)
            case q15 => exact fun _ _ _ h => h
            case w15 => rfl
            case y15 =>
              intro w hSw
              (try dsimp only at hSw)
              go_simp
              try with_reducible rfl
            try simp only [Act.put, List.setIfInBounds_toArray, List.set_cons_zero, List.set_cons_succ]
            refine wpAnyH_take (i := 1) (oi := ?oi16) (v := ?vi16) ?h16 (by kernel_rfl) (by kernel_rfl) (by kernel_rfl) ?q16 (Or.inl ⟨?w16, ?y16⟩) hHeld ?r16
            case h16 => first | (simp only [List.getElem?_toArray, List.getElem?_cons_zero, List.getElem?_cons_succ]; done) | (simp only [List.getElem?_toArray, List.getElem?_cons_zero, List.getElem?_cons_succ]; exact rfl)
            case q16 => exact fun _ _ _ h => h
            case w16 => rfl
            case y16 =>
              intro w hSw
              (try dsimp only at hSw)
              go_simp
              try with_reducible rfl
            try simp only [Act.put, List.setIfInBounds_toArray, List.set_cons_zero, List.set_cons_succ]
            refine wpAnyH_take (i := 2) (oi := ?oi17) (v := ?vi17) ?h17 (by kernel_rfl) (by kernel_rfl) (by kernel_rfl) ?q17 (Or.inl ⟨?w17, ?y17⟩) hHeld ?r17
            case h17 => first | (simp only [List.getElem?_toArray, List.getElem?_cons_zero, List.getElem?_cons_succ]; done) | (simp only [List.getElem?_toArray, List.getElem?_cons_zero, List.getElem?_cons_succ]; exact rfl)
            case q17 => exact fun _ _ _ h => h
            case w17 => rfl
            case y17 =>
              intro w hSw
              (try dsimp only at hSw)
              go_simp
              try with_reducible rfl
            try simp only [Act.put, List.setIfInBounds_toArray, List.set_cons_zero, List.set_cons_succ]
            refine wpAnyH_take (i := 3) (oi := ?oi18) (v := ?vi18) ?h18 (by kernel_rfl) (by kernel_rfl) (by kernel_rfl) ?q18 (Or.inl ⟨?w18, ?y18⟩) hHeld ?r18
            case h18 => first | (simp only [List.getElem?_toArray, List.getElem?_cons_zero, List.getElem?_cons_succ]; done) | (simp only [List.getElem?_toArray, List.getElem?_cons_zero, List.getElem?_cons_succ]; exact rfl)
            case q18 => exact fun _ _ _ h => h
            case w18 => rfl
            case y18 =>
              intro w hSw
              (try dsimp only at hSw)
              go_simp
              try with_reducible rfl
            try simp only [Act.put, List.setIfInBounds_toArray, List.set_cons_zero, List.set_cons_succ]
            refine wpAnyH_take (i := 4) (oi := ?oi19) (v := ?vi19) ?h19 (by kernel_rfl) (by kernel_rfl) (by kernel_rfl) ?q19 (Or.inl ⟨?w19, ?y19⟩) hHeld ?r19
            case h19 => first | (simp only [List.getElem?_toArray, List.getElem?_cons_zero, List.getElem?_cons_succ]; done) | (simp only [List.getElem?_toArray, List.getElem?_cons_zero, List.getElem?_cons_succ]; exact rfl)
            case q19 => exact fun _ _ _ h => h
            case w19 => rfl
            case y19 =>
              intro w hSw
              (try dsimp only at hSw)
              go_simp
              try with_reducible rfl
            try simp only [Act.put, List.setIfInBounds_toArray, List.set_cons_zero, List.set_cons_succ]
            refine wpAnyH_take (i := 5) (oi := ?oi20) (v := ?vi20) ?h20 (by kernel_rfl) (by kernel_rfl) (by kernel_rfl) ?q20 (Or.inl ⟨?w20, ?y20⟩) hHeld ?r20
            case h20 => first | (simp only [List.getElem?_toArray, List.getElem?_cons_zero, List.getElem?_cons_succ]; done) | (simp only [List.getElem?_toArray, List.getElem?_cons_zero, List.getElem?_cons_succ]; exact rfl)
            case q20 => exact fun _ _ _ h => h
            case w20 => rfl
            case y20 =>
              intro w hSw
              (try dsimp only at hSw)
              go_simp
              try with_reducible rfl
            try simp only [Act.put, List.setIfInBounds_toArray, List.set_cons_zero, List.set_cons_succ]
            refine wpAnyH_take (i := 6) (oi := ?oi21) (v := ?vi21) ?h21 (by kernel_rfl) (by kernel_rfl) (by kernel_rfl) ?q21 (Or.inl ⟨?w21, ?y21⟩) hHeld ?r21
            case h21 => first | (simp only [List.getElem?_toArray, List.getElem?_cons_zero, List.getElem?_cons_succ]; done) | (simp only [List.getElem?_toArray, List.getElem?_cons_zero, List.getElem?_cons_succ]; exact rfl)
            case q21 => exact fun _ _ _ h => h
            case w21 => rfl
            case y21 =>
              intro w hSw
              (try dsimp only at hSw)
              go_simp
              try with_reducible rfl
            try simp only [Act.put, List.setIfInBounds_toArray, List.set_cons_zero, List.set_cons_succ]
            refine wpAnyH_take (i := 9) (oi := ?oi22) (v := ?vi22) ?h22 (by kernel_rfl) (by kernel_rfl) (by kernel_rfl) ?q22 (Or.inl ⟨?w22, ?y22⟩) hHeld ?r22
            case h22 => first | (simp only [List.getElem?_toArray, List.getElem?_cons_zero, List.getElem?_cons_succ]; done) | (simp only [List.getElem?_toArray, List.getElem?_cons_zero, List.getElem?_cons_succ]; exact rfl)
            case q22 => exact fun _ _ _ h => h
            case w22 => rfl
            case y22 =>
              intro w hSw
              (try dsimp only at hSw)
              go_simp
              try with_reducible rfl
            try simp only [Act.put, List.setIfInBounds_toArray, List.set_cons_zero, List.set_cons_succ]
            refine wpAnyH_take (i := 10) (oi := ?oi23) (v := ?vi23) ?h23 (by kernel_rfl) (by kernel_rfl) (by kernel_rfl) ?q23 (Or.inl ⟨?w23, ?y23⟩) hHeld ?r23
            case h23 => first | (simp only [List.getElem?_toArray, List.getElem?_cons_zero, List.getElem?_cons_succ]; done) | (simp only [List.getElem?_toArray, List.getElem?_cons_zero, List.getElem?_cons_succ]; exact rfl)
            case q23 => exact fun _ _ _ h => h
            case w23 => rfl
            case y23 =>
              intro w hSw
              (try dsimp only at hSw)
              go_simp
              try with_reducible rfl
            try simp only [Act.put, List.setIfInBounds_toArray, List.set_cons_zero, List.set_cons_succ]
            refine wpAnyH_ready (rs := [7]) (by kernel_rfl) (by simp) ?_
            refine AllReadyH.cons (o := ?ob24) ?hb24 (fun K hK => ?_) AllReadyH.nil
            case hb24 => first | (simp only [List.getElem?_toArray, List.getElem?_cons_zero, List.getElem?_cons_succ]; done) | (simp only [List.getElem?_toArray, List.getElem?_cons_zero, List.getElem?_cons_succ]; exact rfl)
            go_simp
            go_at_call 28
            refine HB.out.mono ?_
            rintro e wB ⟨v2, rfl, hNB⟩
            have hf2 : Fp Non w wB := HA.out.1.drew.then hNB.fp
            have s2 := hNB.sl
            obtain ⟨vao, vlen, vcap, rfl⟩ := hNB.shape3
            have k2 : (convert 22 9 (.slice vao vlen vcap)).run Try.prog wB = .ok (.string (B s.cur)) wB := conv_sl _ _ _ s2
            have k3 : (convert 22 9 (.slice wao wlen wcap)).run Try.prog wB = .ok (.string (B s.cur)) wB := conv_sl _ _ _ ((HA.out.2.keep (Fp.drew (Fp.refl Non wA)) (fun _ _ h => h)).keep hNB.fp (fun _ _ h => h))
            have HFIN := Lib.hid hf2
            clear hNB hf2 s2 hHeld
            go_wp2_with fail
            refine hK.out _ _ k3 (fun hHeld => ?_)
            clear hK K
            try simp only [Act.put, List.setIfInBounds_toArray, List.set_cons_zero, List.set_cons_succ]
            refine wpAnyH_ready (rs := [8]) (by kernel_rfl) (by simp) ?_
            refine AllReadyH.cons (o := ?ob25) ?hb25 (fun K hK => ?_) AllReadyH.nil
            case hb25 => first | (simp only [List.getElem?_toArray, List.getElem?_cons_zero, List.getElem?_cons_succ]; done) | (simp only [List.getElem?_toArray, List.getElem?_cons_zero, List.getElem?_cons_succ]; exact rfl)
            go_simp
            refine hK.out _ _ k3 (fun hHeld => ?_)
            clear hK K
            try simp only [Act.put, List.setIfInBounds_toArray, List.set_cons_zero, List.set_cons_succ]
            refine wpAnyH_take (i := 11) (oi := ?oi26) (v := ?vi26) ?h26 (by kernel_rfl) (by kernel_rfl) (by kernel_rfl) ?q26 (Or.inl ⟨?w26, ?y26⟩) hHeld ?r26
            case h26 => first | (simp only [List.getElem?_toArray, List.getElem?_cons_zero, List.getElem?_cons_succ]; done) | (simp only [List.getElem?_toArray, List.getElem?_cons_zero, List.getElem?_cons_succ]; exact rfl)
            case q26 => exact fun _ _ _ h => h
            case w26 => rfl
            case y26 =>
              intro w hSw
              (try dsimp only at hSw)
              go_simp
              try with_reducible rfl
            try simp only [Act.put, List.setIfInBounds_toArray, List.set_cons_zero, List.set_cons_succ]
            refine wpAnyH_take (i := 12) (oi := ?oi27) (v := ?vi27) ?h27 (by kernel_rfl) (by kernel_rfl) (by kernel_rfl) ?q27 (Or.inl ⟨?w27, ?y27⟩) hHeld ?r27
            case h27 => first | (simp only [List.getElem?_toArray, List.getElem?_cons_zero, List.getElem?_cons_succ]; done) | (simp only [List.getElem?_toArray, List.getElem?_cons_zero, List.getElem?_cons_succ]; exact rfl)
            case q27 => exact fun _ _ _ h => h
            case w27 => rfl
            case y27 =>
              intro w hSw
              (try dsimp only at hSw)
              go_simp
              try with_reducible rfl
            try simp only [Act.put, List.setIfInBounds_toArray, List.set_cons_zero, List.set_cons_succ]
            refine wpAnyH_take (i := 13) (oi := ?oi28) (v := ?vi28) ?h28 (by kernel_rfl) (by kernel_rfl) (by kernel_rfl) ?q28 (Or.inl ⟨?w28, ?y28⟩) hHeld ?r28
            case h28 => first | (simp only [List.getElem?_toArray, List.getElem?_cons_zero, List.getElem?_cons_succ]; done) | (simp only [List.getElem?_toArray, List.getElem?_cons_zero, List.getElem?_cons_succ]; exact rfl)
            case q28 => exact fun _ _ _ h => h
            case w28 => rfl
            case y28 =>
              intro w hSw
              (try dsimp only at hSw)
              go_simp
              try with_reducible rfl
            try simp only [Act.put, List.setIfInBounds_toArray, List.set_cons_zero, List.set_cons_succ]
            refine wpAnyH_done (by kernel_rfl) ?_ _
            refine NoPanic.normal ?_
            go_wp2
            go_ret
            exact ⟨rfl, HFIN.out⟩
          · have g3 : (at_ < 0) = False := eq_false ha0
            by_cases hal : (l.length : Int) < at_
            · have g4 : ((l.length : Int) < at_) = True := eq_true hal
              clear hfit ha0 hal h6cl
              go_wp2_with fail
              refine HB.out.mono ?_
              rintro e w8 ⟨rfl, hd8, hf8⟩
              have sl8 := HWS.out.keep hf8 HWD.out
              have H8 := Lib.hid (And.intro hd8 (And.intro (H7.out.2.1.trans hf8 HZ0.out.1) sl8)); clear hd8 hf8 sl8
              go_wp2_with fail
              refine (Loose_c H8.out.1).mono ?_
              rintro e w9 ⟨lv, rfl, hlv⟩
              rw [H6.out.2.2.wet] at hlv
              obtain ⟨lao, lcap, rfl, _⟩ := hlv.cells
              have H9 := Lib.hid (And.intro (H8.out.1.keep hlv.fp (fun _ _ h => h)) (And.intro (H8.out.2.1.then hlv.fp) (H8.out.2.2.keep hlv.fp (fun _ _ h => h)))); clear hlv
              go_wp2_with fail
              have hcr := Crash_c H9.out.1 kv keep (HL.out.2.2.2.1.1.keep (H9.out.2.1) (fun _ _ _ h => h)) HKD.out
              rw [hkv] at hcr
              refine hcr.mono ?_
              clear hcr
              rintro e wA ⟨rfl, hdA, hfA⟩
              have hcu := H6.out.2.2.crash keep
              have hbA := Bytes_c (hdA.keep (Fp.drew (Fp.refl Non wA)) (fun _ _ h => h))
              rw [hcu] at hbA
              have slA := (H9.out.2.2).keep hfA HWD.out
              have k1 : (convert 22 9 (.slice wao wlen wcap)).run Try.prog wA.drew = .ok (.string (B s.cur)) wA.drew := conv_sl _ _ _ (slA.keep (Fp.drew (Fp.refl Non wA)) (fun _ _ h => h))
              have HA := Lib.hid (And.intro ((H9.out.2.1).trans hfA HZ0.out.1) slA)
              have HB := Lib.hid hbA
              clear hdA hfA hcu hbA slA
              go_wp2_with fail
              refine wp_region_noPanic ?_
              refine wp_region_held_drew (S := fun w' => (convert 22 9 (.slice wao wlen wcap)).run Try.prog w' = .ok (.string (B s.cur)) w') (by kernel_rfl) ?_ (fun hHeld => ?_)
              · exact k1
              refine wpAnyH_take (i := 0) (oi := ?oi29) (v := ?vi29) ?h29 (by kernel_rfl) (by kernel_rfl) (by kernel_rfl) ?q29 (Or.inl ⟨?w29, ?y29⟩) hHeld ?r29
              case h29 => first | (simp only [List.getElem?_toArray, List.getElem?_cons_zero]; done) | (simp only [List.getElem?_toArray, List.getElem?_cons_zero]; exact rfl)
              case q29 => exact fun _ _ _ h => h
              case w29 => rfl
              case y29 =>
                intro w hSw
                (try dsimp only at hSw)
                go_simp
                try with_reducible rfl
              try simp only [Act.put, List.setIfInBounds_toArray, List.set_cons_zero, List.set_cons_succ]
              refine wpAnyH_take (i := 1) (oi := ?oi30) (v := ?vi30) ?h30 (by kernel_rfl) (by kernel_rfl) (by kernel_rfl) ?q30 (Or.inl ⟨?w30, ?y30⟩) hHeld ?r30
              case h30 => first | (simp only [List.getElem?_toArray, List.getElem?_cons_zero, List.getElem?_cons_succ]; done) | (simp only [List.getElem?_toArray, List.getElem?_cons_zero, List.getElem?_cons_succ]; exact rfl)
              case q30 => exact fun _ _ _ h => h
              case w30 => rfl
              case y30 =>
                intro w hSw
                (try dsimp only at hSw)
                go_simp
                try with_reducible rfl
              try simp only [Act.put, List.setIfInBounds_toArray, List.set_cons_zero, List.set_cons_succ]
              refine wpAnyH_take (i := 2) (oi := ?oi31) (v := ?vi31) ?h31 (by kernel_rfl) (by kernel_rfl) (by kernel_rfl) ?q31 (Or.inl ⟨?w31, ?y31⟩) hHeld ?r31
              case h31 => first | (simp only [List.getElem?_toArray, List.getElem?_cons_zero, List.getElem?_cons_succ]; done) | (simp only [List.getElem?_toArray, List.getElem?_cons_zero, List.getElem?_cons_succ]; exact rfl)
              case q31 => exact fun _ _ _ h => h
              case w31 => rfl
              case y31 =>
                intro w hSw
                (try dsimp only at hSw)
                go_simp
                try with_reducible rfl
              try simp only [Act.put, List.setIfInBounds_toArray, List.set_cons_zero, List.set_cons_succ]
              refine wpAnyH_take (i := 3) (oi := ?oi32) (v := ?vi32) ?h32 (by kernel_rfl) (by kernel_rfl) (by kernel_rfl) ?q32 (Or.inl ⟨?w32, ?y32⟩) hHeld ?r32
              case h32 => first | (simp only [List.getElem?_toArray, List.getElem?_cons_zero, List.getElem?_cons_succ]; done) | (simp only [List.getElem?_toArray, List.getElem?_cons_zero, List.getElem?_cons_succ]; exact rfl)
              case q32 => exact fun _ _ _ h => h
              case w32 => rfl
              case y32 =>
                intro w hSw
                (try dsimp only at hSw)
                go_simp
                try with_reducible rfl
              try simp only [Act.put, List.setIfInBounds_toArray, List.set_cons_zero, List.set_cons_succ]
              refine wpAnyH_take (i := 4) (oi := ?oi33) (v := ?vi33) ?h33 (by kernel_rfl) (by kernel_rfl) (by kernel_rfl) ?q33 (Or.inl ⟨?w33, ?y33⟩) hHeld ?r33
              case h33 => first | (simp only [List.getElem?_toArray, List.getElem?_cons_zero, List.getElem?_cons_succ]; done) | (simp only [List.getElem?_toArray, List.getElem?_cons_zero, List.getElem?_cons_succ]; exact rfl)
              case q33 => exact fun _ _ _ h => h
              case w33 => rfl
              case y33 =>
                intro w hSw
                (try dsimp only at hSw)
                go_simp
                try with_reducible rfl
              try simp only [Act.put, List.setIfInBounds_toArray, List.set_cons_zero, List.set_cons_succ]
              refine wpAnyH_take (i := 5) (oi := ?oi34) (v := ?vi34) ?h34 (by kernel_rfl) (by kernel_rfl) (by kernel_rfl) ?q34 (Or.inl ⟨?w34, ?y34⟩) hHeld ?r34
              case h34 => first | (simp only [List.getElem?_toArray, List.getElem?_cons_zero, List.getElem?_cons_succ]; done) | (simp only [List.getElem?_toArray, List.getElem?_cons_zero, List.getElem?_cons_succ]; exact rfl)
              case q34 => exact fun _ _ _ h => h
              case w34 => rfl
              case y34 =>
                intro w hSw
                (try dsimp only at hSw)
                go_simp
                try with_reducible rfl
              try simp only [Act.put, List.setIfInBounds_toArray, List.set_cons_zero, List.set_cons_succ]
              refine wpAnyH_take (i := 6) (oi := ?oi35) (v := ?vi35) ?h35 (by kernel_rfl) (by kernel_rfl) (by kernel_rfl) ?q35 (Or.inl ⟨?w35, ?y35⟩) hHeld ?r35
              case h35 => first | (simp only [List.getElem?_toArray, List.getElem?_cons_zero, List.getElem?_cons_succ]; done) | (simp only [List.getElem?_toArray, List.getElem?_cons_zero, List.getElem?_cons_succ]; exact rfl)
              case q35 => exact fun _ _ _ h => h
              case w35 => rfl
              case y35 =>
                intro w hSw
                (try dsimp only at hSw)
                go_simp
                try with_reducible rfl
              try simp only [Act.put, List.setIfInBounds_toArray, List.set_cons_zero, List.set_cons_succ]
              refine wpAnyH_take (i := 9) (oi := ?oi36) (v := ?vi36) ?h36 (by kernel_rfl) (by kernel_rfl) (by kernel_rfl) ?q36 (Or.inl ⟨?w36, ?y36⟩) hHeld ?r36
              case h36 => first | (simp only [List.getElem?_toArray, List.getElem?_cons_zero, List.getElem?_cons_succ]; done) | (simp only [List.getElem?_toArray, List.getElem?_cons_zero, List.getElem?_cons_succ]; exact rfl)
              case q36 => exact fun _ _ _ h => h
              case w36 => rfl
              case y36 =>
                intro w hSw
                (try dsimp only at hSw)
                go_simp
                try with_reducible rfl
              try simp only [Act.put, List.setIfInBounds_toArray, List.set_cons_zero, List.set_cons_succ]
              refine wpAnyH_take (i := 10) (oi := ?oi37) (v := ?vi37) ?h37 (by kernel_rfl) (by kernel_rfl) (by kernel_rfl) ?q37 (Or.inl ⟨?w37, ?y37⟩) hHeld ?r37
              case h37 => first | (simp only [List.getElem?_toArray, List.getElem?_cons_zero, List.getElem?_cons_succ]; done) | (simp only [List.getElem?_toArray, List.getElem?_cons_zero, List.getElem?_cons_succ]; exact rfl)
              case q37 => exact fun _ _ _ h => h
              case w37 => rfl
              case y37 =>
                intro w hSw
                (try dsimp only at hSw)
                go_simp
                try with_reducible rfl
              try simp only [Act.put, List.setIfInBounds_toArray, List.set_cons_zero, List.set_cons_succ]
              refine wpAnyH_ready (rs := [7]) (by kernel_rfl) (by simp) ?_
              refine AllReadyH.cons (o := ?ob38) ?hb38 (fun K hK => ?_) AllReadyH.nil
              case hb38 => first | (simp only [List.getElem?_toArray, List.getElem?_cons_zero, List.getElem?_cons_succ]; done) | (simp only [List.getElem?_toArray, List.getElem?_cons_zero, List.getElem?_cons_succ]; exact rfl)
              go_simp
              go_at_call 28
              refine HB.out.mono ?_
              rintro e wB ⟨v2, rfl, hNB⟩
              have hf2 : Fp Non w wB := HA.out.1.drew.then hNB.fp
              have s2 := hNB.sl
              obtain ⟨vao, vlen, vcap, rfl⟩ := hNB.shape3
              have k2 : (convert 22 9 (.slice vao vlen vcap)).run Try.prog wB = .ok (.string (B s.cur)) wB := conv_sl _ _ _ s2
              have k3 : (convert 22 9 (.slice wao wlen wcap)).run Try.prog wB = .ok (.string (B s.cur)) wB := conv_sl _ _ _ ((HA.out.2.keep (Fp.drew (Fp.refl Non wA)) (fun _ _ h => h)).keep hNB.fp (fun _ _ h => h))
              have HFIN := Lib.hid hf2
              clear hNB hf2 s2 hHeld
              go_wp2_with fail
              refine hK.out _ _ k3 (fun hHeld => ?_)
              clear hK K
              try simp only [Act.put, List.setIfInBounds_toArray, List.set_cons_zero, List.set_cons_succ]
              refine wpAnyH_ready (rs := [8]) (by kernel_rfl) (by simp) ?_
              refine AllReadyH.cons (o := ?ob39) ?hb39 (fun K hK => ?_) AllReadyH.nil
              case hb39 => first | (simp only [List.getElem?_toArray, List.getElem?_cons_zero, List.getElem?_cons_succ]; done) | (simp only [List.getElem?_toArray, List.getElem?_cons_zero, List.getElem?_cons_succ]; exact rfl)
              go_simp
              refine hK.out _ _ k3 (fun hHeld => ?_)
              clear hK K
              try simp only [Act.put, List.setIfInBounds_toArray, List.set_cons_zero, List.set_cons_succ]
              refine wpAnyH_take (i := 11) (oi := ?oi40) (v := ?vi40) ?h40 (by kernel_rfl) (by kernel_rfl) (by kernel_rfl) ?q40 (Or.inl ⟨?w40, ?y40⟩) hHeld ?r40
              case h40 => first | (simp only [List.getElem?_toArray, List.getElem?_cons_zero, List.getElem?_cons_succ]; done) | (simp only [List.getElem?_toArray, List.getElem?_cons_zero, List.getElem?_cons_succ]; exact rfl)
              case q40 => exact fun _ _ _ h => h
              case w40 => rfl
              case y40 =>
                intro w hSw
                (try dsimp only at hSw)
                go_simp
                try with_reducible rfl
              try simp only [Act.put, List.setIfInBounds_toArray, List.set_cons_zero, List.set_cons_succ]
              refine wpAnyH_take (i := 12) (oi := ?oi41) (v := ?vi41) ?h41 (by kernel_rfl) (by kernel_rfl) (by kernel_rfl) ?q41 (Or.inl ⟨?w41, ?y41⟩) hHeld ?r41
              case h41 => first | (simp only [List.getElem?_toArray, List.getElem?_cons_zero, List.getElem?_cons_succ]; done) | (simp only [List.getElem?_toArray, List.getElem?_cons_zero, List.getElem?_cons_succ]; exact rfl)
              case q41 => exact fun _ _ _ h => h
              case w41 => rfl
              case y41 =>
                intro w hSw
                (try dsimp only at hSw)
                go_simp
                try with_reducible rfl
              try simp only [Act.put, List.setIfInBounds_toArray, List.set_cons_zero, List.set_cons_succ]
              refine wpAnyH_take (i := 13) (oi := ?oi42) (v := ?vi42) ?h42 (by kernel_rfl) (by kernel_rfl) (by kernel_rfl) ?q42 (Or.inl ⟨?w42, ?y42⟩) hHeld ?r42
              case h42 => first | (simp only [List.getElem?_toArray, List.getElem?_cons_zero, List.getElem?_cons_succ]; done) | (simp only [List.getElem?_toArray, List.getElem?_cons_zero, List.getElem?_cons_succ]; exact rfl)
              case q42 => exact fun _ _ _ h => h
              case w42 => rfl
              case y42 =>
                intro w hSw
                (try dsimp only at hSw)
                go_simp
                try with_reducible rfl
              try simp only [Act.put, List.setIfInBounds_toArray, List.set_cons_zero, List.set_cons_succ]
              refine wpAnyH_done (by kernel_rfl) ?_ _
              refine NoPanic.normal ?_
              go_wp2
              go_ret
              exact ⟨rfl, HFIN.out⟩
            · have g4 : ((l.length : Int) < at_) = False := eq_false hal
              have g5 : ((l.length : Int) - at_ < (bl.length : Int)) = True := eq_true (by
                refine Int.not_le.1 (fun hle => hfit ⟨by omega, by omega, by rw [h6cl]; exact hle⟩))
              have g6 : wrap64 ((l.length : Int) - at_) = (l.length : Int) - at_ := by have := HN.out.2.2.2.1; unfold wrap64; omega
              clear hfit ha0 hal h6cl
              go_wp2_with fail
              refine HB.out.mono ?_
              rintro e w8 ⟨rfl, hd8, hf8⟩
              have sl8 := HWS.out.keep hf8 HWD.out
              have H8 := Lib.hid (And.intro hd8 (And.intro (H7.out.2.1.trans hf8 HZ0.out.1) sl8)); clear hd8 hf8 sl8
              go_wp2_with fail
              refine (Loose_c H8.out.1).mono ?_
              rintro e w9 ⟨lv, rfl, hlv⟩
              rw [H6.out.2.2.wet] at hlv
              obtain ⟨lao, lcap, rfl, _⟩ := hlv.cells
              have H9 := Lib.hid (And.intro (H8.out.1.keep hlv.fp (fun _ _ h => h)) (And.intro (H8.out.2.1.then hlv.fp) (H8.out.2.2.keep hlv.fp (fun _ _ h => h)))); clear hlv
              go_wp2_with fail
              have hcr := Crash_c H9.out.1 kv keep (HL.out.2.2.2.1.1.keep (H9.out.2.1) (fun _ _ _ h => h)) HKD.out
              rw [hkv] at hcr
              refine hcr.mono ?_
              clear hcr
              rintro e wA ⟨rfl, hdA, hfA⟩
              have hcu := H6.out.2.2.crash keep
              have hbA := Bytes_c (hdA.keep (Fp.drew (Fp.refl Non wA)) (fun _ _ h => h))
              rw [hcu] at hbA
              have slA := (H9.out.2.2).keep hfA HWD.out
              have k1 : (convert 22 9 (.slice wao wlen wcap)).run Try.prog wA.drew = .ok (.string (B s.cur)) wA.drew := conv_sl _ _ _ (slA.keep (Fp.drew (Fp.refl Non wA)) (fun _ _ h => h))
              have HA := Lib.hid (And.intro ((H9.out.2.1).trans hfA HZ0.out.1) slA)
              have HB := Lib.hid hbA
              clear hdA hfA hcu hbA slA
              go_wp2_with fail
              refine wp_region_noPanic ?_
              refine wp_region_held_drew (S := fun w' => (convert 22 9 (.slice wao wlen wcap)).run Try.prog w' = .ok (.string (B s.cur)) w') (by kernel_rfl) ?_ (fun hHeld => ?_)
              · exact k1
              refine wpAnyH_take (i := 0) (oi := ?oi43) (v := ?vi43) ?h43 (by kernel_rfl) (by kernel_rfl) (by kernel_rfl) ?q43 (Or.inl ⟨?w43, ?y43⟩) hHeld ?r43
              case h43 => first | (simp only [List.getElem?_toArray, List.getElem?_cons_zero]; done) | (simp only [List.getElem?_toArray, List.getElem?_cons_zero]; exact rfl)
              case q43 => exact fun _ _ _ h => h
              case w43 => rfl
              case y43 =>
                intro w hSw
                (try dsimp only at hSw)
                go_simp
                try with_reducible rfl
              try simp only [Act.put, List.setIfInBounds_toArray, List.set_cons_zero, List.set_cons_succ]
              refine wpAnyH_take (i := 1) (oi := ?oi44) (v := ?vi44) ?h44 (by kernel_rfl) (by kernel_rfl) (by kernel_rfl) ?q44 (Or.inl ⟨?w44, ?y44⟩) hHeld ?r44
              case h44 => first | (simp only [List.getElem?_toArray, List.getElem?_cons_zero, List.getElem?_cons_succ]; done) | (simp only [List.getElem?_toArray, List.getElem?_cons_zero, List.getElem?_cons_succ]; exact rfl)
              case q44 => exact fun _ _ _ h => h
              case w44 => rfl
              case y44 =>
                intro w hSw
                (try dsimp only at hSw)
                go_simp
                try with_reducible rfl
              try simp only [Act.put, List.setIfInBounds_toArray, List.set_cons_zero, List.set_cons_succ]
              refine wpAnyH_take (i := 2) (oi := ?oi45) (v := ?vi45) ?h45 (by kernel_rfl) (by kernel_rfl) (by kernel_rfl) ?q45 (Or.inl ⟨?w45, ?y45⟩) hHeld ?r45
              case h45 => first | (simp only [List.getElem?_toArray, List.getElem?_cons_zero, List.getElem?_cons_succ]; done) | (simp only [List.getElem?_toArray, List.getElem?_cons_zero, List.getElem?_cons_succ]; exact rfl)
              case q45 => exact fun _ _ _ h => h
              case w45 => rfl
              case y45 =>
                intro w hSw
                (try dsimp only at hSw)
                go_simp
                try with_reducible rfl
              try simp only [Act.put, List.setIfInBounds_toArray, List.set_cons_zero, List.set_cons_succ]
              refine wpAnyH_take (i := 3) (oi := ?oi46) (v := ?vi46) ?h46 (by kernel_rfl) (by kernel_rfl) (by kernel_rfl) ?q46 (Or.inl ⟨?w46, ?y46⟩) hHeld ?r46
              case h46 => first | (simp only [List.getElem?_toArray, List.getElem?_cons_zero, List.getElem?_cons_succ]; done) | (simp only [List.getElem?_toArray, List.getElem?_cons_zero, List.getElem?_cons_succ]; exact rfl)
              case q46 => exact fun _ _ _ h => h
              case w46 => rfl
              case y46 =>
                intro w hSw
                (try dsimp only at hSw)
                go_simp
                try with_reducible rfl
              try simp only [Act.put, List.setIfInBounds_toArray, List.set_cons_zero, List.set_cons_succ]
              refine wpAnyH_take (i := 4) (oi := ?oi47) (v := ?vi47) ?h47 (by kernel_rfl) (by kernel_rfl) (by kernel_rfl) ?q47 (Or.inl ⟨?w47, ?y47⟩) hHeld ?r47
              case h47 => first | (simp only [List.getElem?_toArray, List.getElem?_cons_zero, List.getElem?_cons_succ]; done) | (simp only [List.getElem?_toArray, List.getElem?_cons_zero, List.getElem?_cons_succ]; exact rfl)
              case q47 => exact fun _ _ _ h => h
              case w47 => rfl
              case y47 =>
                intro w hSw
                (try dsimp only at hSw)
                go_simp
                try with_reducible rfl
              try simp only [Act.put, List.setIfInBounds_toArray, List.set_cons_zero, List.set_cons_succ]
              refine wpAnyH_take (i := 5) (oi := ?oi48) (v := ?vi48) ?h48 (by kernel_rfl) (by kernel_rfl) (by kernel_rfl) ?q48 (Or.inl ⟨?w48, ?y48⟩) hHeld ?r48
              case h48 => first | (simp only [List.getElem?_toArray, List.getElem?_cons_zero, List.getElem?_cons_succ]; done) | (simp only [List.getElem?_toArray, List.getElem?_cons_zero, List.getElem?_cons_succ]; exact rfl)
              case q48 => exact fun _ _ _ h => h
              case w48 => rfl
              case y48 =>
                intro w hSw
                (try dsimp only at hSw)
                go_simp
                try with_reducible rfl
              try simp only [Act.put, List.setIfInBounds_toArray, List.set_cons_zero, List.set_cons_succ]
              refine wpAnyH_take (i := 6) (oi := ?oi49) (v := ?vi49) ?h49 (by kernel_rfl) (by kernel_rfl) (by kernel_rfl) ?q49 (Or.inl ⟨?w49, ?y49⟩) hHeld ?r49
              case h49 => first | (simp only [List.getElem?_toArray, List.getElem?_cons_zero, List.getElem?_cons_succ]; done) | (simp only [List.getElem?_toArray, List.getElem?_cons_zero, List.getElem?_cons_succ]; exact rfl)
              case q49 => exact fun _ _ _ h => h
              case w49 => rfl
              case y49 =>
                intro w hSw
                (try dsimp only at hSw)
                go_simp
                try with_reducible rfl
              try simp only [Act.put, List.setIfInBounds_toArray, List.set_cons_zero, List.set_cons_succ]
              refine wpAnyH_take (i := 9) (oi := ?oi50) (v := ?vi50) ?h50 (by kernel_rfl) (by kernel_rfl) (by kernel_rfl) ?q50 (Or.inl ⟨?w50, ?y50⟩) hHeld ?r50
              case h50 => first | (simp only [List.getElem?_toArray, List.getElem?_cons_zero, List.getElem?_cons_succ]; done) | (simp only [List.getElem?_toArray, List.getElem?_cons_zero, List.getElem?_cons_succ]; exact rfl)
              case q50 => exact fun _ _ _ h => h
              case w50 => rfl
              case y50 =>
                intro w hSw
                (try dsimp only at hSw)
                go_simp
                try with_reducible rfl
              try simp only [Act.put, List.setIfInBounds_toArray, List.set_cons_zero, List.set_cons_succ]
              refine wpAnyH_take (i := 10) (oi := ?oi51) (v := ?vi51) ?h51 (by kernel_rfl) (by kernel_rfl) (by kernel_rfl) ?q51 (Or.inl ⟨?w51, ?y51⟩) hHeld ?r51
              case h51 => first | (simp only [List.getElem?_toArray, List.getElem?_cons_zero, List.getElem?_cons_succ]; done) | (simp only [List.getElem?_toArray, List.getElem?_cons_zero, List.getElem?_cons_succ]; exact rfl)
              case q51 => exact fun _ _ _ h => h
              case w51 => rfl
              case y51 =>
                intro w hSw
                (try dsimp only at hSw)
                go_simp
                try with_reducible rfl
              try simp only [Act.put, List.setIfInBounds_toArray, List.set_cons_zero, List.set_cons_succ]
              refine wpAnyH_ready (rs := [7]) (by kernel_rfl) (by simp) ?_
              refine AllReadyH.cons (o := ?ob52) ?hb52 (fun K hK => ?_) AllReadyH.nil
              case hb52 => first | (simp only [List.getElem?_toArray, List.getElem?_cons_zero, List.getElem?_cons_succ]; done) | (simp only [List.getElem?_toArray, List.getElem?_cons_zero, List.getElem?_cons_succ]; exact rfl)
              go_simp
              go_at_call 28
              refine HB.out.mono ?_
              rintro e wB ⟨v2, rfl, hNB⟩
              have hf2 : Fp Non w wB := HA.out.1.drew.then hNB.fp
              have s2 := hNB.sl
              obtain ⟨vao, vlen, vcap, rfl⟩ := hNB.shape3
              have k2 : (convert 22 9 (.slice vao vlen vcap)).run Try.prog wB = .ok (.string (B s.cur)) wB := conv_sl _ _ _ s2
              have k3 : (convert 22 9 (.slice wao wlen wcap)).run Try.prog wB = .ok (.string (B s.cur)) wB := conv_sl _ _ _ ((HA.out.2.keep (Fp.drew (Fp.refl Non wA)) (fun _ _ h => h)).keep hNB.fp (fun _ _ h => h))
              have HFIN := Lib.hid hf2
              clear hNB hf2 s2 hHeld
              go_wp2_with fail
              refine hK.out _ _ k3 (fun hHeld => ?_)
              clear hK K
              try simp only [Act.put, List.setIfInBounds_toArray, List.set_cons_zero, List.set_cons_succ]
              refine wpAnyH_ready (rs := [8]) (by kernel_rfl) (by simp) ?_
              refine AllReadyH.cons (o := ?ob53) ?hb53 (fun K hK => ?_) AllReadyH.nil
              case hb53 => first | (simp only [List.getElem?_toArray, List.getElem?_cons_zero, List.getElem?_cons_succ]; done) | (simp only [List.getElem?_toArray, List.getElem?_cons_zero, List.getElem?_cons_succ]; exact rfl)
              go_simp
              refine hK.out _ _ k3 (fun hHeld => ?_)
              clear hK K
              try simp only [Act.put, List.setIfInBounds_toArray, List.set_cons_zero, List.set_cons_succ]
              refine wpAnyH_take (i := 11) (oi := ?oi54) (v := ?vi54) ?h54 (by kernel_rfl) (by kernel_rfl) (by kernel_rfl) ?q54 (Or.inl ⟨?w54, ?y54⟩) hHeld ?r54
              case h54 => first | (simp only [List.getElem?_toArray, List.getElem?_cons_zero, List.getElem?_cons_succ]; done) | (simp only [List.getElem?_toArray, List.getElem?_cons_zero, List.getElem?_cons_succ]; exact rfl)
              case q54 => exact fun _ _ _ h => h
              case w54 => rfl
              case y54 =>
                intro w hSw
                (try dsimp only at hSw)
                go_simp
                try with_reducible rfl
              try simp only [Act.put, List.setIfInBounds_toArray, List.set_cons_zero, List.set_cons_succ]
              refine wpAnyH_take (i := 12) (oi := ?oi55) (v := ?vi55) ?h55 (by kernel_rfl) (by kernel_rfl) (by kernel_rfl) ?q55 (Or.inl ⟨?w55, ?y55⟩) hHeld ?r55
              case h55 => first | (simp only [List.getElem?_toArray, List.getElem?_cons_zero, List.getElem?_cons_succ]; done) | (simp only [List.getElem?_toArray, List.getElem?_cons_zero, List.getElem?_cons_succ]; exact rfl)
              case q55 => exact fun _ _ _ h => h
              case w55 => rfl
              case y55 =>
                intro w hSw
                (try dsimp only at hSw)
                go_simp
                try with_reducible rfl
              try simp only [Act.put, List.setIfInBounds_toArray, List.set_cons_zero, List.set_cons_succ]
              refine wpAnyH_take (i := 13) (oi := ?oi56) (v := ?vi56) ?h56 (by kernel_rfl) (by kernel_rfl) (by kernel_rfl) ?q56 (Or.inl ⟨?w56, ?y56⟩) hHeld ?r56
              case h56 => first | (simp only [List.getElem?_toArray, List.getElem?_cons_zero, List.getElem?_cons_succ]; done) | (simp only [List.getElem?_toArray, List.getElem?_cons_zero, List.getElem?_cons_succ]; exact rfl)
              case q56 => exact fun _ _ _ h => h
              case w56 => rfl
              case y56 =>
                intro w hSw
                (try dsimp only at hSw)
                go_simp
                try with_reducible rfl
              try simp only [Act.put, List.setIfInBounds_toArray, List.set_cons_zero, List.set_cons_succ]
              refine wpAnyH_done (by kernel_rfl) ?_ _
              refine NoPanic.normal ?_
              go_wp2
              go_ret
              exact ⟨rfl, HFIN.out⟩


theorem SectorSynced_c (v : Value) (l : Bs) (qv : Value) (q : List Oq) (kv : Value) (keep : List Bool) (at_ : Int) (bv : Value) (bl : Bs) (w : World) (hl : Sl w v l) (hq : Oqs w w.heap.size qv q) (hk : Sb w kv keep ∧ (0 < keep.length → ∀ k, kv.ownBlock = some k → k < w.heap.size)) (hat : -9223372036854775808 ≤ at_ ∧ at_ ≤ 9223372036854775807) (hb : Sl w bv bl) :
    Calls Try.prog 6 #[v, qv, kv, .int .i64 at_, bv] w fun e w' => e = .returned (.bool true) ∧ Fp Non w w' := by
  by_cases h : 1 ≤ l.length / 16 ∧ l.length / 16 ≤ 4096 ∧ l.length % 16 = 0
  · by_cases h5 : l.length ≤ 5000 ∧ bl.length ≤ 9000
    · exact Synced_some v l qv q kv keep at_ bv bl w hl hq hk hat hb (l.length / 16) h.1 h.2.1 (by omega) h5.1 h5.2
    · exact Synced_long v l qv q kv at_ bv bl w hl hq hb (l.length / 16) h.1 h.2.1 (by omega) (by omega)
  · exact Synced_none v l qv kv at_ bv w hl h
end Go.Proofs.Ytphjedpcebdbhaa
