/- SectorPlays: the law's walk. -/
import Derived.Test.YtiafndcpggngoaaRh
import Derived.Test.YtiafndcpggngoaaWk
import Derived.Deep.CutBlock
import Derived.Deep.RegionLaw
import Derived.Deep.RegionHeld3
namespace Go.Proofs.Ytiafndcpggngoaa
open Go.RowKit Pm

set_option maxHeartbeats 1000000 in
theorem ROf_none (w : World) (v : Value) (l : Bs) (hl : Sl w v l) (h : ¬ (1 ≤ l.length / 16 ∧ l.length / 16 ≤ 4096 ∧ l.length % 16 = 0)) (hs : l.length ≤ 5000) :
    Calls Try.prog 12 #[v] w fun e w' => e = .returned (.pointer none) ∧ w = w' := by
  obtain ⟨ao, cap, rfl, _, _, _⟩ := hl.ex
  clear hl
  by_cases h0 : l.length = 0
  · have q1 : ((l.length : Int) == 0) = true := beq_iff_eq.2 (by omega)
    clear h h0
    go_enter Try.func12, Try.ntmps12
    go_wp2
    go_ret
    exact ⟨rfl, rfl⟩
  · have q1 : ((l.length : Int) == 0) = false := beq_eq_false_iff_ne.2 (by omega)
    have q2 : ((l.length : Int) % 16 == 0) = false := beq_eq_false_iff_ne.2 (by omega)
    have q3 : ((l.length : Int) % 16 = 0) = False := eq_false (by omega)
    clear h h0
    go_enter Try.func12, Try.ntmps12
    go_wp2
    go_ret
    exact ⟨rfl, rfl⟩

/-- Both disks, alike. -/
structure Two (lo1 lo2 b g m : Nat) (p : At) (s : Dk) (w0 w : World) : Prop where
  d : Dr lo1 b g m s w
  r : Rf lo2 p s w
  fp : Fp Non w0 w
  apart : ∀ k, own3 b g m k → ¬ own4 p k
  low : ∀ k, own3 b g m k ∨ own4 p k → w0.heap.size ≤ k
theorem Two.keep {lo1 lo2 b g m : Nat} {p : At} {s : Dk} {w0 w w' : World} (h : Two lo1 lo2 b g m p s w0 w) (f : Fp Non w w') : Two lo1 lo2 b g m p s w0 w' :=
  ⟨h.d.keep f (fun _ _ h => h), h.r.keep f (fun _ _ h => h), h.fp.then f, h.apart, h.low⟩
/-- A step of the first, then of the second. -/
theorem Two.step {lo1 lo2 b g m : Nat} {p p' : At} {s s' : Dk} {w0 w wa wb : World} (h : Two lo1 lo2 b g m p s w0 w) (hd : Dr lo1 b g m s' wa) (fa : Fp (own3 b g m) w wa) (hr : Rf lo2 p' s' wb) (fb : Fp (own4 p) wa wb)
    (hp : ∀ k, own4 p' k → own4 p k ∨ wa.heap.size ≤ k) : Two lo1 lo2 b g m p' s' w0 wb := by
  refine ⟨hd.keep fb (fun k hk ho => h.apart k hk ho), hr, ?_, ?_, ?_⟩
  · exact (h.fp.trans fa (fun k hk => .inr (h.low k (.inl hk)))).trans fb (fun k hk => .inr (h.low k (.inr hk)))
  · intro k hk ho
    rcases hp k ho with h1 | h1
    · exact h.apart k hk h1
    · exact absurd (hd.all k hk).2 (Nat.not_lt.2 h1)
  · rintro k (hk | hk)
    · exact h.low k (.inl hk)
    · rcases hp k hk with h1 | h1
      · exact h.low k (.inr h1)
      · have := h.fp.size; have := fa.size; omega
/-- The second disk behind a step of the first. -/
theorem Two.mid {lo1 lo2 b g m : Nat} {p : At} {s : Dk} {w0 w wa : World} (h : Two lo1 lo2 b g m p s w0 w) (fa : Fp (own3 b g m) w wa) : Rf lo2 p s wa := h.r.keep fa (fun k hk ho => h.apart k ho hk)

theorem acts_le {a k : Nat} (h : a ≤ k) (h2 : k ≤ 300) : a ≤ 999999 := Nat.le_trans h (Nat.le_trans h2 (by omega))
theorem cell_new (w : World) (vs : Array Value) (T : TypeId) (j : Nat) (h : j < vs.size) : (w.alloc (.cells vs T)).cell? ⟨w.heap.size, j, none⟩ = some vs[j] := by
  rw [cell_of_row _ _ _ _ _ _ (heap_alloc_new w _)]; simp [h]
theorem loose_le {s : Dk} (h : Rt s) : (loose s.wet).length ≤ 4096 := by
  have := lt_len s.wet s.wet.length
  rw [lt_all] at this
  exact Nat.le_trans this h.hi

abbrev FP : Nat := 3

set_option maxRecDepth 20000 in
set_option maxHeartbeats 16000000 in
theorem Plays_some (v : Value) (l : Bs) (qv : Value) (q : List Oq) (w : World) (hl : Sl w v l) (hq : Oqs w w.heap.size qv q) (N : Nat) (h1 : 1 ≤ N) (h2 : N ≤ 4096) (hln : l.length = N * 16) (h : l.length ≤ 5000) :
    Calls Try.prog 3 #[v, qv] w fun e w' => e = .returned (.bool true) ∧ Fp Non w w' := by
  obtain ⟨qao, qcap, hqv, hq1, _, hq3⟩ := hq.ex
  obtain ⟨ao, cap, hv, _, _, _⟩ := hl.ex
  have HL := Lib.hid (And.intro hl hq)
  have HN := Lib.hid (And.intro h1 (And.intro h2 (And.intro hln h)))
  rw [hv, hqv]
  have q1 : ((5000 : Int) < (l.length : Int)) = False := eq_false (by omega)
  have HQ3 := Lib.hid (And.intro hq1 hq3)
  clear hl hq h h1 h2 hln hq1 hq3
  go_enter Try.func3, Try.ntmps3
  go_wp2_with fail
  refine (head_c w).mono ?_
  rintro e w1 ⟨rfl, hf⟩
  have hq1 := HL.out.2.keep_ hf (fun _ h => h.elim)
  have hgr := Great_c w.heap.size qv q w1 hq1
  rw [hqv] at hgr
  have HG := Lib.hid (And.intro hf (And.intro hq1 hgr)); clear hq1 hgr hf
  go_wp2_with fail
  refine HG.out.2.2.mono ?_
  rintro e w3 ⟨gr, rfl, hgl, hf3⟩
  have H3 := Lib.hid (And.intro (HG.out.1.then hf3) hgl); clear hf3 hgl
  cases gr with
  | true =>
    go_wp2
    go_ret
    exact ⟨rfl, H3.out.1⟩
  | false =>
    have hn := Of_c w3.heap.size w3 v l (HL.out.1.keep H3.out.1 (fun _ _ h => h)) N HN.out.1 HN.out.2.1 HN.out.2.2.1 (Nat.le_refl _)
    rw [hv] at hn
    have HOf := Lib.hid hn; clear hn
    go_wp2_with fail
    refine HOf.out.mono ?_
    rintro e w4 ⟨b, g, m, rfl, hd, hf4, hown⟩
    have H4 := Lib.hid (And.intro hd (And.intro (H3.out.1.then hf4) (And.intro hown hf4.size))); clear hd hf4 hown
    have hr := ROf_c w4.heap.size w4 v l (HL.out.1.keep H4.out.2.1 (fun _ _ h => h)) N HN.out.1 HN.out.2.1 HN.out.2.2.1 (Nat.le_refl _)
    rw [hv] at hr
    have HRf := Lib.hid hr; clear hr
    go_wp2_with fail
    refine HRf.out.mono ?_
    rintro e w5 ⟨p, rfl, hr5, hf5, hown5⟩
    have H5 := Lib.hid (And.intro hr5 (And.intro (H4.out.2.1.then hf5) (And.intro hown5 (H4.out.1.keep hf5 (fun _ _ h => h))))); clear hr5 hf5 hown5
    have hq300 : q.length ≤ 300 := H3.out.2 trivial
    have h0 : Two w3.heap.size w4.heap.size b g m p (dOf l) w w5 := by
      have hs3 := H3.out.1.size
      have hs4 := H4.out.2.2.2
      refine ⟨H5.out.2.2.2, H5.out.1, H5.out.2.1, fun k hk ho => absurd (H4.out.1.all k hk).2 (Nat.not_lt.2 (H5.out.2.2.1 k ho)), ?_⟩
      rintro k (hk | hk)
      · exact Nat.le_trans hs3 (H4.out.2.2.1 k hk)
      · exact Nat.le_trans hs3 (Nat.le_trans hs4 (H5.out.2.2.1 k hk))
    have H0 := Lib.hid h0; clear h0
    obtain ⟨pb, hpb⟩ : ∃ pb, pb = p.b := ⟨_, rfl⟩
    rw [← hpb]
    have HPB := Lib.hid hpb; clear hpb
    go_wp2_with fail
    go_loopw [8] (fun i wr => ∃ k : Nat, k ≤ q.length ∧ i = .int .i64 k ∧ ∃ s p', Hid (Two w3.heap.size w4.heap.size b g m p' s w wr ∧ s.acts ≤ k ∧ pb = p'.b)) (fun i _ => q.length - (RowKit.intOf i).toNat)
    case atStart => exact ⟨0, Nat.zero_le _, rfl, _, p, H0.out, Nat.le_refl _, HPB.out⟩
    case round =>
      obtain ⟨k, hk, rfl, s, p', hR⟩ := hrel
      by_cases hlt : k < q.length
      · have g1 : ((k : Int) < (q.length : Int)) = True := eq_true (by omega)
        have g2 : (k < q.length) = True := eq_true hlt
        rcases HQ3.out.2 with h0 | ⟨qg, qo, rfl, hqg, hqc⟩
        · have := HQ3.out.1; omega
        have hit := (hqc k hlt).keep_ hR.out.1.fp (fun _ h => h.elim) hqg
        generalize q[k] = x at hit
        have c0 := hit.c0
        have c1 := hit.c1
        have c2 := hit.c2
        have c3 := hit.c3
        have c4 := hit.c4
        obtain ⟨xao, xcap, exb, _, _, _⟩ := hit.sb.ex
        obtain ⟨yao, ycap, eyb, _, _, _⟩ := hit.sk.ex
        rw [exb] at c2
        rw [eyb] at c4
        have HZ := Lib.hid (And.intro hlt (And.intro hk (And.intro hit (And.intro exb eyb))))
        have hd3 : 0 < x.b.length → ∀ j, (Value.slice xao x.b.length xcap).ownBlock = some j → ¬ own3 b g m j := fun h0 j hj ho => absurd (hit.lb h0 j (by rw [exb]; exact hj)) (Nat.not_lt.2 (hR.out.1.low j (.inl ho)))
        have hd4 : 0 < x.b.length → ∀ j, (Value.slice xao x.b.length xcap).ownBlock = some j → ¬ own4 p' j := fun h0 j hj ho => absurd (hit.lb h0 j (by rw [exb]; exact hj)) (Nat.not_lt.2 (hR.out.1.low j (.inr ho)))
        have HZ3 := Lib.hid (And.intro hd3 (And.intro hd4 (Nat.le_trans hk hq300)))
        have hk3 : 0 < x.keep.length → ∀ j, (Value.slice yao x.keep.length ycap).ownBlock = some j → ¬ own3 b g m j := fun h0 j hj ho => absurd (hit.lk h0 j (by rw [eyb]; exact hj)) (Nat.not_lt.2 (hR.out.1.low j (.inl ho)))
        have hk4 : 0 < x.keep.length → ∀ j, (Value.slice yao x.keep.length ycap).ownBlock = some j → ¬ own4 p' j := fun h0 j hj ho => absurd (hit.lk h0 j (by rw [eyb]; exact hj)) (Nat.not_lt.2 (hR.out.1.low j (.inr ho)))
        have HK3 := Lib.hid (And.intro hk3 hk4)
        have fa0 : Fp Non wr (wr.alloc (.cells #[.int .i64 x.what, .int .i64 x.at_, .slice xao x.b.length xcap, .int .i64 x.n, .slice yao x.keep.length ycap] 32)) := (Fp.refl Non wr).alloc _
        have hT := hR.out.1.keep fa0
        have hsb := hit.sb.keep fa0 (fun _ _ _ h => h)
        have hsk := hit.sk.keep fa0 (fun _ _ _ h => h)
        rw [exb] at hsb
        rw [eyb] at hsk
        have co1 := cell_new wr #[.int .i64 x.what, .int .i64 x.at_, .slice xao x.b.length xcap, .int .i64 x.n, .slice yao x.keep.length ycap] 32 1 (by simp)
        have co2 := cell_new wr #[.int .i64 x.what, .int .i64 x.at_, .slice xao x.b.length xcap, .int .i64 x.n, .slice yao x.keep.length ycap] 32 2 (by simp)
        have co3 := cell_new wr #[.int .i64 x.what, .int .i64 x.at_, .slice xao x.b.length xcap, .int .i64 x.n, .slice yao x.keep.length ycap] 32 3 (by simp)
        have co4 := cell_new wr #[.int .i64 x.what, .int .i64 x.at_, .slice xao x.b.length xcap, .int .i64 x.n, .slice yao x.keep.length ycap] 32 4 (by simp)
        have HT0 := Lib.hid (And.intro hT (And.intro hsb hsk))
        have HCO := Lib.hid (And.intro co1 (And.intro co2 (And.intro co3 co4)))
        have hnb : ¬ own3 b g m wr.heap.size := fun ho => absurd (hR.out.1.d.all _ ho).2 (Nat.lt_irrefl _)
        have HNB := Lib.hid hnb
        clear hT hsb hsk co1 co2 co3 co4 hnb fa0 hk3 hk4
        clear hlt hk hit exb eyb hqc hqg hd3 hd4
        go_upto_block 2 with (fail)
        go_cut [10, 11, 12, 13, 14, 15] from 55 to 123 (fun x10 x11 _ _ _ _ wc => ∃ E : Int, x10 = .int .i64 E ∧ x11 = .int .i64 E ∧ ∃ s2 p2, Hid (Two w3.heap.size w4.heap.size b g m p2 s2 w wc ∧ s2.acts ≤ k + 1 ∧ pb = p2.b))
        case first =>
          by_cases h0 : x.what = 0
          · have t0 : (x.what == 0) = true := beq_iff_eq.2 h0
            clear h0
            obtain ⟨co1, co2, co3, co4⟩ := HCO.out
            have h1 := Write_c HT0.out.1.d x.at_ HZ.out.2.2.1.ha _ x.b HT0.out.2.1 HZ3.out.1 (acts_le hR.out.2.1 HZ3.out.2.2)
            have HA1 := Lib.hid h1; clear h1
            go_wp2_with fail
            refine HA1.out.mono ?_
            rintro e wa ⟨rfl, hda, hfa⟩
            have co1 := hfa.cell HCO.out.1 HNB.out
            have co2 := hfa.cell HCO.out.2.1 HNB.out
            have h2 := RWrite_c (HT0.out.1.mid hfa) x.at_ HZ.out.2.2.1.ha _ x.b (HT0.out.2.1.keep hfa HZ3.out.1) HZ3.out.2.1 (acts_le hR.out.2.1 HZ3.out.2.2)
            rw [← hR.out.2.2] at h2
            have HA2 := Lib.hid h2
            have HA := Lib.hid (And.intro hda hfa)
            clear hda hfa h2
            go_wp2_with fail
            refine HA2.out.mono ?_
            rintro e wb ⟨rfl, hrb, hfb⟩
            have HT := Lib.hid (HT0.out.1.step HA.out.1 HA.out.2 hrb hfb (fun k hk => .inl hk))
            clear hrb hfb
            go_wp2_with fail
            go_meet
            case rel => exact ⟨_, rfl, rfl, _, p', HT.out, (Nat.le_trans (acts_write s x.at_ x.b) (Nat.succ_le_succ hR.out.2.1)), hR.out.2.2⟩
          by_cases h1 : x.what = 1
          · have t0 : (x.what == 0) = false := beq_eq_false_iff_ne.2 h0
            have t1 : (x.what == 1) = true := beq_iff_eq.2 h1
            clear h0 h1
            obtain ⟨co1, co2, co3, co4⟩ := HCO.out
            have h1 := Write_c HT0.out.1.d x.at_ HZ.out.2.2.1.ha _ x.b HT0.out.2.1 HZ3.out.1 (acts_le hR.out.2.1 HZ3.out.2.2)
            have HA1 := Lib.hid h1; clear h1
            go_wp2_with fail
            refine HA1.out.mono ?_
            rintro e wa ⟨rfl, hda, hfa⟩
            have co1 := hfa.cell HCO.out.1 HNB.out
            have co2 := hfa.cell HCO.out.2.1 HNB.out
            have h2 := RWrite_c (HT0.out.1.mid hfa) x.at_ HZ.out.2.2.1.ha _ x.b (HT0.out.2.1.keep hfa HZ3.out.1) HZ3.out.2.1 (acts_le hR.out.2.1 HZ3.out.2.2)
            rw [← hR.out.2.2] at h2
            have HA2 := Lib.hid h2
            have HA := Lib.hid (And.intro hda hfa)
            clear hda hfa h2
            go_wp2_with fail
            refine HA2.out.mono ?_
            rintro e wb ⟨rfl, hrb, hfb⟩
            have HT := Lib.hid (HT0.out.1.step HA.out.1 HA.out.2 hrb hfb (fun k hk => .inl hk))
            clear hrb hfb
            go_wp2_with fail
            go_meet
            case rel => exact ⟨_, rfl, rfl, _, p', HT.out, (Nat.le_trans (acts_write s x.at_ x.b) (Nat.succ_le_succ hR.out.2.1)), hR.out.2.2⟩
          by_cases h2 : x.what = 2
          · have t0 : (x.what == 0) = false := beq_eq_false_iff_ne.2 h0
            have t1 : (x.what == 1) = false := beq_eq_false_iff_ne.2 h1
            have t2 : (x.what == 2) = true := beq_iff_eq.2 h2
            clear h0 h1 h2
            obtain ⟨co1, co2, co3, co4⟩ := HCO.out
            have h1 := Write_c HT0.out.1.d x.at_ HZ.out.2.2.1.ha _ x.b HT0.out.2.1 HZ3.out.1 (acts_le hR.out.2.1 HZ3.out.2.2)
            have HA1 := Lib.hid h1; clear h1
            go_wp2_with fail
            refine HA1.out.mono ?_
            rintro e wa ⟨rfl, hda, hfa⟩
            have co1 := hfa.cell HCO.out.1 HNB.out
            have co2 := hfa.cell HCO.out.2.1 HNB.out
            have h2 := RWrite_c (HT0.out.1.mid hfa) x.at_ HZ.out.2.2.1.ha _ x.b (HT0.out.2.1.keep hfa HZ3.out.1) HZ3.out.2.1 (acts_le hR.out.2.1 HZ3.out.2.2)
            rw [← hR.out.2.2] at h2
            have HA2 := Lib.hid h2
            have HA := Lib.hid (And.intro hda hfa)
            clear hda hfa h2
            go_wp2_with fail
            refine HA2.out.mono ?_
            rintro e wb ⟨rfl, hrb, hfb⟩
            have HT := Lib.hid (HT0.out.1.step HA.out.1 HA.out.2 hrb hfb (fun k hk => .inl hk))
            clear hrb hfb
            go_wp2_with fail
            go_meet
            case rel => exact ⟨_, rfl, rfl, _, p', HT.out, (Nat.le_trans (acts_write s x.at_ x.b) (Nat.succ_le_succ hR.out.2.1)), hR.out.2.2⟩
          by_cases h3 : x.what = 3
          · have t0 : (x.what == 0) = false := beq_eq_false_iff_ne.2 h0
            have t1 : (x.what == 1) = false := beq_eq_false_iff_ne.2 h1
            have t2 : (x.what == 2) = false := beq_eq_false_iff_ne.2 h2
            have t3 : (x.what == 3) = true := beq_iff_eq.2 h3
            clear h0 h1 h2 h3
            obtain ⟨co1, co2, co3, co4⟩ := HCO.out
            have h1 := Sync_c HT0.out.1.d (acts_le hR.out.2.1 HZ3.out.2.2)
            have HA1 := Lib.hid h1; clear h1
            go_wp2_with fail
            refine HA1.out.mono ?_
            rintro e wa ⟨rfl, hda, hfa⟩
            have h2 := RSync_c (HT0.out.1.mid hfa) (acts_le hR.out.2.1 HZ3.out.2.2)
            rw [← hR.out.2.2] at h2
            have HA2 := Lib.hid h2
            have HA := Lib.hid (And.intro hda hfa)
            clear hda hfa h2
            go_wp2_with fail
            refine HA2.out.mono ?_
            rintro e wb ⟨p2, rfl, hrb, hfb, hpe, hop⟩
            have HT := Lib.hid (HT0.out.1.step HA.out.1 HA.out.2 hrb hfb hop)
            have HPE := Lib.hid hpe
            clear hpe hop
            clear hrb hfb
            go_wp2_with fail
            go_meet
            case rel => exact ⟨_, rfl, rfl, _, p2, HT.out, (Nat.le_trans (acts_sync s) (Nat.succ_le_succ hR.out.2.1)), HPE.out.symm⟩
          by_cases h4 : x.what = 4
          · have t0 : (x.what == 0) = false := beq_eq_false_iff_ne.2 h0
            have t1 : (x.what == 1) = false := beq_eq_false_iff_ne.2 h1
            have t2 : (x.what == 2) = false := beq_eq_false_iff_ne.2 h2
            have t3 : (x.what == 3) = false := beq_eq_false_iff_ne.2 h3
            have t4 : (x.what == 4) = true := beq_iff_eq.2 h4
            clear h0 h1 h2 h3 h4
            obtain ⟨co1, co2, co3, co4⟩ := HCO.out
            have HA1 := Lib.hid (Read_c HT0.out.1.d x.at_ x.n HZ.out.2.2.1.ha.2)
            go_wp2_with fail
            refine HA1.out.mono ?_
            rintro e wa ⟨v1, rfl, hN1⟩
            obtain ⟨a1, z1, rfl⟩ := hN1.shape
            have co1 := hN1.fp.cell HCO.out.1 (fun h => h)
            have co3 := hN1.fp.cell HCO.out.2.2.1 (fun h => h)
            have h2 := RRead_c (HT0.out.1.r.keep hN1.fp (fun _ _ h => h)) x.at_ x.n
            rw [← hR.out.2.2] at h2
            have HA2 := Lib.hid h2
            have HN1 := Lib.hid hN1
            clear hN1 h2
            go_wp2_with fail
            refine HA2.out.mono ?_
            rintro e wb ⟨v2, rfl, hN2⟩
            obtain ⟨a2, z2, rfl⟩ := hN2.shape
            have cv1 := conv_sl wb _ _ (HN1.out.sl.keep hN2.fp (fun _ _ h => h))
            have cv2 := conv_sl wb _ _ hN2.sl
            have HT := Lib.hid ((HT0.out.1.keep HN1.out.fp).keep hN2.fp)
            clear hN2
            go_wp2_with fail
            go_meet
            case rel => exact ⟨_, rfl, rfl, _, p', HT.out, Nat.le_succ_of_le hR.out.2.1, hR.out.2.2⟩
          by_cases h5 : x.what = 5
          · have t0 : (x.what == 0) = false := beq_eq_false_iff_ne.2 h0
            have t1 : (x.what == 1) = false := beq_eq_false_iff_ne.2 h1
            have t2 : (x.what == 2) = false := beq_eq_false_iff_ne.2 h2
            have t3 : (x.what == 3) = false := beq_eq_false_iff_ne.2 h3
            have t4 : (x.what == 4) = false := beq_eq_false_iff_ne.2 h4
            have t5 : (x.what == 5) = true := beq_iff_eq.2 h5
            clear h0 h1 h2 h3 h4 h5
            obtain ⟨co1, co2, co3, co4⟩ := HCO.out
            have h1 := Fuse_c HT0.out.1.d x.n HZ.out.2.2.1.hn.2
            have HA1 := Lib.hid h1; clear h1
            go_wp2_with fail
            refine HA1.out.mono ?_
            rintro e wa ⟨rfl, hda, hfa0⟩
            have hfa : Fp (own3 b g m) _ wa := hfa0.mono (fun k hk => .inl hk)
            have co3 := hfa.cell HCO.out.2.2.1 HNB.out
            have h2 := (RFuse_c (HT0.out.1.mid hfa) x.n HZ.out.2.2.1.hn.2)
            rw [← hR.out.2.2] at h2
            have HA2 := Lib.hid h2
            have HA := Lib.hid (And.intro hda hfa)
            clear hda hfa hfa0 h2
            go_wp2_with fail
            refine HA2.out.mono ?_
            rintro e wb ⟨rfl, hrb, hfb0⟩
            have hfb : Fp (own4 p') wa wb := hfb0.mono (fun k hk => .inl (hk.trans hR.out.2.2))
            have HT := Lib.hid (HT0.out.1.step HA.out.1 HA.out.2 hrb hfb (fun k hk => .inl hk))
            clear hfb0
            clear hrb hfb
            go_wp2_with fail
            go_meet
            case rel => exact ⟨0, rfl, rfl, _, p', HT.out, (Nat.le_succ_of_le hR.out.2.1), hR.out.2.2⟩
          by_cases h6 : x.what = 6
          · have t0 : (x.what == 0) = false := beq_eq_false_iff_ne.2 h0
            have t1 : (x.what == 1) = false := beq_eq_false_iff_ne.2 h1
            have t2 : (x.what == 2) = false := beq_eq_false_iff_ne.2 h2
            have t3 : (x.what == 3) = false := beq_eq_false_iff_ne.2 h3
            have t4 : (x.what == 4) = false := beq_eq_false_iff_ne.2 h4
            have t5 : (x.what == 5) = false := beq_eq_false_iff_ne.2 h5
            have t6 : (x.what == 6) = true := beq_iff_eq.2 h6
            clear h0 h1 h2 h3 h4 h5 h6
            obtain ⟨co1, co2, co3, co4⟩ := HCO.out
            have h1 := Crash_c HT0.out.1.d _ x.keep HT0.out.2.2 HK3.out.1
            have HA1 := Lib.hid h1; clear h1
            go_wp2_with fail
            refine HA1.out.mono ?_
            rintro e wa ⟨rfl, hda, hfa⟩
            have co4 := hfa.cell HCO.out.2.2.2 HNB.out
            have h2 := RCrash_walk (HT0.out.1.mid hfa) _ x.keep (HT0.out.2.2.keep hfa HK3.out.1) HK3.out.2
            rw [← hR.out.2.2] at h2
            have HA2 := Lib.hid h2
            have HA := Lib.hid (And.intro hda hfa)
            clear hda hfa h2
            go_wp2_with fail
            refine HA2.out.mono ?_
            rintro e wb ⟨p2, rfl, hrb, hfb, hpe, hop⟩
            have HT := Lib.hid (HT0.out.1.step HA.out.1 HA.out.2 hrb hfb hop)
            have HPE := Lib.hid hpe
            clear hpe hop
            clear hrb hfb
            go_wp2_with fail
            go_meet
            case rel => exact ⟨0, rfl, rfl, _, p2, HT.out, (Nat.le_succ_of_le hR.out.2.1), HPE.out.symm⟩
          have t0 : (x.what == 0) = false := beq_eq_false_iff_ne.2 h0
          have t1 : (x.what == 1) = false := beq_eq_false_iff_ne.2 h1
          have t2 : (x.what == 2) = false := beq_eq_false_iff_ne.2 h2
          have t3 : (x.what == 3) = false := beq_eq_false_iff_ne.2 h3
          have t4 : (x.what == 4) = false := beq_eq_false_iff_ne.2 h4
          have t5 : (x.what == 5) = false := beq_eq_false_iff_ne.2 h5
          have t6 : (x.what == 6) = false := beq_eq_false_iff_ne.2 h6
          have HT := Lib.hid HT0.out.1
          go_wp2_with fail
          go_meet
          case rel => exact ⟨0, rfl, rfl, _, p', HT.out, Nat.le_succ_of_le hR.out.2.1, hR.out.2.2⟩
        case rest =>
          obtain ⟨E, rfl, rfl, s2, p2, hT⟩ := hcut
          have d3 := hT.out.1.r.c3
          have d6 := hT.out.1.r.c6
          rw [← hT.out.2.2] at d3 d6
          have HT := Lib.hid hT.out
          have HQW := Lib.hid (wrap_one' k (Nat.lt_of_lt_of_le HZ.out.1 (Nat.le_trans hq300 (by omega))))
          clear hT c0 c1 c2 c3 c4
          go_wp2_with fail
          have hdA := HT.out.1.d.keep (Fp.drew (Fp.refl Non wc)) (fun _ _ h => h)
          have hrA := HT.out.1.r.keep (Fp.drew (Fp.refl Non wc)) (fun _ _ h => h)
          have k1 : wc.drew.cell? ⟨pb, 3, none⟩ = some (.int .i64 (s2.acts : Int)) ∧ wc.drew.cell? ⟨pb, 6, none⟩ = some (.bool s2.off) := ⟨d3, d6⟩
          have HAc := Lib.hid (Acts_c hdA)
          have HDn := Lib.hid (Down_c hdA)
          have HLo := Lib.hid (Loose_c hdA)
          have HRA := Lib.hid hrA
          clear hdA hrA d3 d6
          refine wp_region_noPanic ?_
          refine wp_region_held_drew (S := (fun w' => w'.cell? ⟨pb, 3, none⟩ = some (.int .i64 (s2.acts : Int)) ∧ w'.cell? ⟨pb, 6, none⟩ = some (.bool s2.off))) (by kernel_rfl) ?_ (fun hHeld => ?_)
          · exact k1
          refine wpAnyH_take (i := 0) (oi := ?oi201) (v := ?vi201) ?h201 (by kernel_rfl) (by kernel_rfl) (by kernel_rfl) ?q201 (Or.inl ⟨?w201, ?y201⟩) hHeld ?r201
          case h201 => first | (simp only [List.getElem?_toArray, List.getElem?_cons_zero]; done) | (simp only [List.getElem?_toArray, List.getElem?_cons_zero]; exact rfl)
          case q201 => exact fun _ _ _ h => h
          case w201 => rfl
          case y201 =>
            intro w hSw
            (try dsimp only at hSw)
            obtain ⟨hS1, hS2⟩ := hSw
            go_simp
            try with_reducible rfl
          try simp only [Act.put, List.setIfInBounds_toArray, List.set_cons_zero, List.set_cons_succ]
          refine wpAnyH_take (i := 1) (oi := ?oi202) (v := ?vi202) ?h202 (by kernel_rfl) (by kernel_rfl) (by kernel_rfl) ?q202 (Or.inl ⟨?w202, ?y202⟩) hHeld ?r202
          case h202 => first | (simp only [List.getElem?_toArray, List.getElem?_cons_zero, List.getElem?_cons_succ]; done) | (simp only [List.getElem?_toArray, List.getElem?_cons_zero, List.getElem?_cons_succ]; exact rfl)
          case q202 => exact fun _ _ _ h => h
          case w202 => rfl
          case y202 =>
            intro w hSw
            (try dsimp only at hSw)
            obtain ⟨hS1, hS2⟩ := hSw
            go_simp
            try with_reducible rfl
          try simp only [Act.put, List.setIfInBounds_toArray, List.set_cons_zero, List.set_cons_succ]
          refine wpAnyH_take (i := 2) (oi := ?oi203) (v := ?vi203) ?h203 (by kernel_rfl) (by kernel_rfl) (by kernel_rfl) ?q203 (Or.inl ⟨?w203, ?y203⟩) hHeld ?r203
          case h203 => first | (simp only [List.getElem?_toArray, List.getElem?_cons_zero, List.getElem?_cons_succ]; done) | (simp only [List.getElem?_toArray, List.getElem?_cons_zero, List.getElem?_cons_succ]; exact rfl)
          case q203 => exact fun _ _ _ h => h
          case w203 => rfl
          case y203 =>
            intro w hSw
            (try dsimp only at hSw)
            obtain ⟨hS1, hS2⟩ := hSw
            go_simp
            try with_reducible rfl
          try simp only [Act.put, List.setIfInBounds_toArray, List.set_cons_zero, List.set_cons_succ]
          refine wpAnyH_take (i := 3) (oi := ?oi204) (v := ?vi204) ?h204 (by kernel_rfl) (by kernel_rfl) (by kernel_rfl) ?q204 (Or.inl ⟨?w204, ?y204⟩) hHeld ?r204
          case h204 => first | (simp only [List.getElem?_toArray, List.getElem?_cons_zero, List.getElem?_cons_succ]; done) | (simp only [List.getElem?_toArray, List.getElem?_cons_zero, List.getElem?_cons_succ]; exact rfl)
          case q204 => exact fun _ _ _ h => h
          case w204 => rfl
          case y204 =>
            intro w hSw
            (try dsimp only at hSw)
            obtain ⟨hS1, hS2⟩ := hSw
            go_simp
            try with_reducible rfl
          try simp only [Act.put, List.setIfInBounds_toArray, List.set_cons_zero, List.set_cons_succ]
          refine wpAnyH_take (i := 4) (oi := ?oi205) (v := ?vi205) ?h205 (by kernel_rfl) (by kernel_rfl) (by kernel_rfl) ?q205 (Or.inl ⟨?w205, ?y205⟩) hHeld ?r205
          case h205 => first | (simp only [List.getElem?_toArray, List.getElem?_cons_zero, List.getElem?_cons_succ]; done) | (simp only [List.getElem?_toArray, List.getElem?_cons_zero, List.getElem?_cons_succ]; exact rfl)
          case q205 => exact fun _ _ _ h => h
          case w205 => rfl
          case y205 =>
            intro w hSw
            (try dsimp only at hSw)
            obtain ⟨hS1, hS2⟩ := hSw
            go_simp
            try with_reducible rfl
          try simp only [Act.put, List.setIfInBounds_toArray, List.set_cons_zero, List.set_cons_succ]
          refine wpAnyH_take (i := 6) (oi := ?oi206) (v := ?vi206) ?h206 (by kernel_rfl) (by kernel_rfl) (by kernel_rfl) ?q206 (Or.inl ⟨?w206, ?y206⟩) hHeld ?r206
          case h206 => first | (simp only [List.getElem?_toArray, List.getElem?_cons_zero, List.getElem?_cons_succ]; done) | (simp only [List.getElem?_toArray, List.getElem?_cons_zero, List.getElem?_cons_succ]; exact rfl)
          case q206 => exact fun _ _ _ h => h
          case w206 => rfl
          case y206 =>
            intro w hSw
            (try dsimp only at hSw)
            obtain ⟨hS1, hS2⟩ := hSw
            go_simp
            try with_reducible rfl
          try simp only [Act.put, List.setIfInBounds_toArray, List.set_cons_zero, List.set_cons_succ]
          refine wpAnyH_take (i := 7) (oi := ?oi207) (v := ?vi207) ?h207 (by kernel_rfl) (by kernel_rfl) (by kernel_rfl) ?q207 (Or.inl ⟨?w207, ?y207⟩) hHeld ?r207
          case h207 => first | (simp only [List.getElem?_toArray, List.getElem?_cons_zero, List.getElem?_cons_succ]; done) | (simp only [List.getElem?_toArray, List.getElem?_cons_zero, List.getElem?_cons_succ]; exact rfl)
          case q207 => exact fun _ _ _ h => h
          case w207 => rfl
          case y207 =>
            intro w hSw
            (try dsimp only at hSw)
            obtain ⟨hS1, hS2⟩ := hSw
            go_simp
            try with_reducible rfl
          try simp only [Act.put, List.setIfInBounds_toArray, List.set_cons_zero, List.set_cons_succ]
          refine wpAnyH_take (i := 8) (oi := ?oi208) (v := ?vi208) ?h208 (by kernel_rfl) (by kernel_rfl) (by kernel_rfl) ?q208 (Or.inl ⟨?w208, ?y208⟩) hHeld ?r208
          case h208 => first | (simp only [List.getElem?_toArray, List.getElem?_cons_zero, List.getElem?_cons_succ]; done) | (simp only [List.getElem?_toArray, List.getElem?_cons_zero, List.getElem?_cons_succ]; exact rfl)
          case q208 => exact fun _ _ _ h => h
          case w208 => rfl
          case y208 =>
            intro w hSw
            (try dsimp only at hSw)
            obtain ⟨hS1, hS2⟩ := hSw
            go_simp
            try with_reducible rfl
          try simp only [Act.put, List.setIfInBounds_toArray, List.set_cons_zero, List.set_cons_succ]
          refine wpAnyH_take (i := 9) (oi := ?oi209) (v := ?vi209) ?h209 (by kernel_rfl) (by kernel_rfl) (by kernel_rfl) ?q209 (Or.inl ⟨?w209, ?y209⟩) hHeld ?r209
          case h209 => first | (simp only [List.getElem?_toArray, List.getElem?_cons_zero, List.getElem?_cons_succ]; done) | (simp only [List.getElem?_toArray, List.getElem?_cons_zero, List.getElem?_cons_succ]; exact rfl)
          case q209 => exact fun _ _ _ h => h
          case w209 => rfl
          case y209 =>
            intro w hSw
            (try dsimp only at hSw)
            obtain ⟨hS1, hS2⟩ := hSw
            go_simp
            try with_reducible rfl
          try simp only [Act.put, List.setIfInBounds_toArray, List.set_cons_zero, List.set_cons_succ]
          refine wpAnyH_ready (rs := [5]) (by kernel_rfl) (by simp) ?_
          refine AllReadyH.cons (o := ?ob210) ?hb210 (fun K hK => ?_) AllReadyH.nil
          case hb210 => first | (simp only [List.getElem?_toArray, List.getElem?_cons_zero, List.getElem?_cons_succ]; done) | (simp only [List.getElem?_toArray, List.getElem?_cons_zero, List.getElem?_cons_succ]; exact rfl)
          go_simp
          go_at_call 23
          refine HAc.out.mono ?_
          rintro e wx ⟨rfl, rfl⟩
          go_wp2_with fail
          refine hK.out _ _ k1 (fun hHeld => ?_)
          clear hK K
          try simp only [Act.put, List.setIfInBounds_toArray, List.set_cons_zero, List.set_cons_succ]
          refine wpAnyH_take (i := 10) (oi := ?oi211) (v := ?vi211) ?h211 (by kernel_rfl) (by kernel_rfl) (by kernel_rfl) ?q211 (Or.inl ⟨?w211, ?y211⟩) hHeld ?r211
          case h211 => first | (simp only [List.getElem?_toArray, List.getElem?_cons_zero, List.getElem?_cons_succ]; done) | (simp only [List.getElem?_toArray, List.getElem?_cons_zero, List.getElem?_cons_succ]; exact rfl)
          case q211 => exact fun _ _ _ h => h
          case w211 => rfl
          case y211 =>
            intro w hSw
            (try dsimp only at hSw)
            obtain ⟨hS1, hS2⟩ := hSw
            go_simp
            try with_reducible rfl
          try simp only [Act.put, List.setIfInBounds_toArray, List.set_cons_zero, List.set_cons_succ]
          refine wpAnyH_take (i := 11) (oi := ?oi212) (v := ?vi212) ?h212 (by kernel_rfl) (by kernel_rfl) (by kernel_rfl) ?q212 (Or.inl ⟨?w212, ?y212⟩) hHeld ?r212
          case h212 => first | (simp only [List.getElem?_toArray, List.getElem?_cons_zero, List.getElem?_cons_succ]; done) | (simp only [List.getElem?_toArray, List.getElem?_cons_zero, List.getElem?_cons_succ]; exact rfl)
          case q212 => exact fun _ _ _ h => h
          case w212 => rfl
          case y212 =>
            intro w hSw
            (try dsimp only at hSw)
            obtain ⟨hS1, hS2⟩ := hSw
            go_simp
            try with_reducible rfl
          try simp only [Act.put, List.setIfInBounds_toArray, List.set_cons_zero, List.set_cons_succ]
          refine wpAnyH_take (i := 12) (oi := ?oi213) (v := ?vi213) ?h213 (by kernel_rfl) (by kernel_rfl) (by kernel_rfl) ?q213 (Or.inl ⟨?w213, ?y213⟩) hHeld ?r213
          case h213 => first | (simp only [List.getElem?_toArray, List.getElem?_cons_zero, List.getElem?_cons_succ]; done) | (simp only [List.getElem?_toArray, List.getElem?_cons_zero, List.getElem?_cons_succ]; exact rfl)
          case q213 => exact fun _ _ _ h => h
          case w213 => rfl
          case y213 =>
            intro w hSw
            (try dsimp only at hSw)
            obtain ⟨hS1, hS2⟩ := hSw
            go_simp
            try with_reducible rfl
          try simp only [Act.put, List.setIfInBounds_toArray, List.set_cons_zero, List.set_cons_succ]
          refine wpAnyH_take (i := 13) (oi := ?oi214) (v := ?vi214) ?h214 (by kernel_rfl) (by kernel_rfl) (by kernel_rfl) ?q214 (Or.inl ⟨?w214, ?y214⟩) hHeld ?r214
          case h214 => first | (simp only [List.getElem?_toArray, List.getElem?_cons_zero, List.getElem?_cons_succ]; done) | (simp only [List.getElem?_toArray, List.getElem?_cons_zero, List.getElem?_cons_succ]; exact rfl)
          case q214 => exact fun _ _ _ h => h
          case w214 => rfl
          case y214 =>
            intro w hSw
            (try dsimp only at hSw)
            obtain ⟨hS1, hS2⟩ := hSw
            go_simp
            try with_reducible rfl
          try simp only [Act.put, List.setIfInBounds_toArray, List.set_cons_zero, List.set_cons_succ]
          refine wpAnyH_take (i := 15) (oi := ?oi215) (v := ?vi215) ?h215 (by kernel_rfl) (by kernel_rfl) (by kernel_rfl) ?q215 (Or.inl ⟨?w215, ?y215⟩) hHeld ?r215
          case h215 => first | (simp only [List.getElem?_toArray, List.getElem?_cons_zero, List.getElem?_cons_succ]; done) | (simp only [List.getElem?_toArray, List.getElem?_cons_zero, List.getElem?_cons_succ]; exact rfl)
          case q215 => exact fun _ _ _ h => h
          case w215 => rfl
          case y215 =>
            intro w hSw
            (try dsimp only at hSw)
            obtain ⟨hS1, hS2⟩ := hSw
            go_simp
            try with_reducible rfl
          try simp only [Act.put, List.setIfInBounds_toArray, List.set_cons_zero, List.set_cons_succ]
          refine wpAnyH_take (i := 16) (oi := ?oi216) (v := ?vi216) ?h216 (by kernel_rfl) (by kernel_rfl) (by kernel_rfl) ?q216 (Or.inl ⟨?w216, ?y216⟩) hHeld ?r216
          case h216 => first | (simp only [List.getElem?_toArray, List.getElem?_cons_zero, List.getElem?_cons_succ]; done) | (simp only [List.getElem?_toArray, List.getElem?_cons_zero, List.getElem?_cons_succ]; exact rfl)
          case q216 => exact fun _ _ _ h => h
          case w216 => rfl
          case y216 =>
            intro w hSw
            (try dsimp only at hSw)
            obtain ⟨hS1, hS2⟩ := hSw
            go_simp
            try with_reducible rfl
          try simp only [Act.put, List.setIfInBounds_toArray, List.set_cons_zero, List.set_cons_succ]
          refine wpAnyH_take (i := 17) (oi := ?oi217) (v := ?vi217) ?h217 (by kernel_rfl) (by kernel_rfl) (by kernel_rfl) ?q217 (Or.inl ⟨?w217, ?y217⟩) hHeld ?r217
          case h217 => first | (simp only [List.getElem?_toArray, List.getElem?_cons_zero, List.getElem?_cons_succ]; done) | (simp only [List.getElem?_toArray, List.getElem?_cons_zero, List.getElem?_cons_succ]; exact rfl)
          case q217 => exact fun _ _ _ h => h
          case w217 => rfl
          case y217 =>
            intro w hSw
            (try dsimp only at hSw)
            obtain ⟨hS1, hS2⟩ := hSw
            go_simp
            try with_reducible rfl
          try simp only [Act.put, List.setIfInBounds_toArray, List.set_cons_zero, List.set_cons_succ]
          refine wpAnyH_take (i := 18) (oi := ?oi218) (v := ?vi218) ?h218 (by kernel_rfl) (by kernel_rfl) (by kernel_rfl) ?q218 (Or.inl ⟨?w218, ?y218⟩) hHeld ?r218
          case h218 => first | (simp only [List.getElem?_toArray, List.getElem?_cons_zero, List.getElem?_cons_succ]; done) | (simp only [List.getElem?_toArray, List.getElem?_cons_zero, List.getElem?_cons_succ]; exact rfl)
          case q218 => exact fun _ _ _ h => h
          case w218 => rfl
          case y218 =>
            intro w hSw
            (try dsimp only at hSw)
            obtain ⟨hS1, hS2⟩ := hSw
            go_simp
            try with_reducible rfl
          try simp only [Act.put, List.setIfInBounds_toArray, List.set_cons_zero, List.set_cons_succ]
          refine wpAnyH_ready (rs := [14]) (by kernel_rfl) (by simp) ?_
          refine AllReadyH.cons (o := ?ob219) ?hb219 (fun K hK => ?_) AllReadyH.nil
          case hb219 => first | (simp only [List.getElem?_toArray, List.getElem?_cons_zero, List.getElem?_cons_succ]; done) | (simp only [List.getElem?_toArray, List.getElem?_cons_zero, List.getElem?_cons_succ]; exact rfl)
          go_simp
          go_at_call 24
          refine HDn.out.mono ?_
          rintro e wx ⟨rfl, rfl⟩
          go_wp2_with fail
          refine hK.out _ _ k1 (fun hHeld => ?_)
          clear hK K
          try simp only [Act.put, List.setIfInBounds_toArray, List.set_cons_zero, List.set_cons_succ]
          refine wpAnyH_take (i := 19) (oi := ?oi220) (v := ?vi220) ?h220 (by kernel_rfl) (by kernel_rfl) (by kernel_rfl) ?q220 (Or.inl ⟨?w220, ?y220⟩) hHeld ?r220
          case h220 => first | (simp only [List.getElem?_toArray, List.getElem?_cons_zero, List.getElem?_cons_succ]; done) | (simp only [List.getElem?_toArray, List.getElem?_cons_zero, List.getElem?_cons_succ]; exact rfl)
          case q220 => exact fun _ _ _ h => h
          case w220 => rfl
          case y220 =>
            intro w hSw
            (try dsimp only at hSw)
            obtain ⟨hS1, hS2⟩ := hSw
            go_simp
            try with_reducible rfl
          try simp only [Act.put, List.setIfInBounds_toArray, List.set_cons_zero, List.set_cons_succ]
          refine wpAnyH_take (i := 20) (oi := ?oi221) (v := ?vi221) ?h221 (by kernel_rfl) (by kernel_rfl) (by kernel_rfl) ?q221 (Or.inl ⟨?w221, ?y221⟩) hHeld ?r221
          case h221 => first | (simp only [List.getElem?_toArray, List.getElem?_cons_zero, List.getElem?_cons_succ]; done) | (simp only [List.getElem?_toArray, List.getElem?_cons_zero, List.getElem?_cons_succ]; exact rfl)
          case q221 => exact fun _ _ _ h => h
          case w221 => rfl
          case y221 =>
            intro w hSw
            (try dsimp only at hSw)
            obtain ⟨hS1, hS2⟩ := hSw
            go_simp
            try with_reducible rfl
          try simp only [Act.put, List.setIfInBounds_toArray, List.set_cons_zero, List.set_cons_succ]
          refine wpAnyH_take (i := 21) (oi := ?oi222) (v := ?vi222) ?h222 (by kernel_rfl) (by kernel_rfl) (by kernel_rfl) ?q222 (Or.inl ⟨?w222, ?y222⟩) hHeld ?r222
          case h222 => first | (simp only [List.getElem?_toArray, List.getElem?_cons_zero, List.getElem?_cons_succ]; done) | (simp only [List.getElem?_toArray, List.getElem?_cons_zero, List.getElem?_cons_succ]; exact rfl)
          case q222 => exact fun _ _ _ h => h
          case w222 => rfl
          case y222 =>
            intro w hSw
            (try dsimp only at hSw)
            obtain ⟨hS1, hS2⟩ := hSw
            go_simp
            try with_reducible rfl
          try simp only [Act.put, List.setIfInBounds_toArray, List.set_cons_zero, List.set_cons_succ]
          refine wpAnyH_take (i := 22) (oi := ?oi223) (v := ?vi223) ?h223 (by kernel_rfl) (by kernel_rfl) (by kernel_rfl) ?q223 (Or.inl ⟨?w223, ?y223⟩) hHeld ?r223
          case h223 => first | (simp only [List.getElem?_toArray, List.getElem?_cons_zero, List.getElem?_cons_succ]; done) | (simp only [List.getElem?_toArray, List.getElem?_cons_zero, List.getElem?_cons_succ]; exact rfl)
          case q223 => exact fun _ _ _ h => h
          case w223 => rfl
          case y223 =>
            intro w hSw
            (try dsimp only at hSw)
            obtain ⟨hS1, hS2⟩ := hSw
            go_simp
            try with_reducible rfl
          try simp only [Act.put, List.setIfInBounds_toArray, List.set_cons_zero, List.set_cons_succ]
          refine wpAnyH_take (i := 24) (oi := ?oi224) (v := ?vi224) ?h224 (by kernel_rfl) (by kernel_rfl) (by kernel_rfl) ?q224 (Or.inl ⟨?w224, ?y224⟩) hHeld ?r224
          case h224 => first | (simp only [List.getElem?_toArray, List.getElem?_cons_zero, List.getElem?_cons_succ]; done) | (simp only [List.getElem?_toArray, List.getElem?_cons_zero, List.getElem?_cons_succ]; exact rfl)
          case q224 => exact fun _ _ _ h => h
          case w224 => rfl
          case y224 =>
            intro w hSw
            (try dsimp only at hSw)
            obtain ⟨hS1, hS2⟩ := hSw
            go_simp
            try with_reducible rfl
          try simp only [Act.put, List.setIfInBounds_toArray, List.set_cons_zero, List.set_cons_succ]
          refine wpAnyH_ready (rs := [23]) (by kernel_rfl) (by simp) ?_
          refine AllReadyH.cons (o := ?ob225) ?hb225 (fun K hK => ?_) AllReadyH.nil
          case hb225 => first | (simp only [List.getElem?_toArray, List.getElem?_cons_zero, List.getElem?_cons_succ]; done) | (simp only [List.getElem?_toArray, List.getElem?_cons_zero, List.getElem?_cons_succ]; exact rfl)
          go_simp
          go_at_call 26
          refine HLo.out.mono ?_
          rintro e wl ⟨v1, rfl, hN1⟩
          have k2 : wl.cell? ⟨pb, 3, none⟩ = some (.int .i64 (s2.acts : Int)) ∧ wl.cell? ⟨pb, 6, none⟩ = some (.bool s2.off) := ⟨hN1.fp.cell k1.1 (fun h => h), hN1.fp.cell k1.2 (fun h => h)⟩
          have hRL := RLoose_c (HRA.out.keep hN1.fp (fun _ _ h => h))
          rw [← HT.out.2.2] at hRL
          have HRL := Lib.hid hRL
          have HN1 := Lib.hid hN1
          clear hN1 hRL k1
          go_wp2_with fail
          refine hK.out _ _ k2 (fun hHeld => ?_)
          clear hK K
          try simp only [Act.put, List.setIfInBounds_toArray, List.set_cons_zero, List.set_cons_succ]
          refine wpAnyH_ready (rs := [25]) (by kernel_rfl) (by simp) ?_
          refine AllReadyH.cons (o := ?ob226) ?hb226 (fun K hK => ?_) AllReadyH.nil
          case hb226 => first | (simp only [List.getElem?_toArray, List.getElem?_cons_zero, List.getElem?_cons_succ]; done) | (simp only [List.getElem?_toArray, List.getElem?_cons_zero, List.getElem?_cons_succ]; exact rfl)
          go_simp
          go_at_call 27
          refine HRL.out.mono ?_
          rintro e wm ⟨v2, rfl, hN2⟩
          have k3 : wm.cell? ⟨pb, 3, none⟩ = some (.int .i64 (s2.acts : Int)) ∧ wm.cell? ⟨pb, 6, none⟩ = some (.bool s2.off) := ⟨hN2.fp.cell k2.1 (fun h => h), hN2.fp.cell k2.2 (fun h => h)⟩
          have HSm := Lib.hid (RSame_c _ _ _ _ (HN1.out.si_keep hN2.fp) hN2.si (loose_le HT.out.1.r.rt))
          have HN2 := Lib.hid hN2
          clear hN2 k2
          go_wp2_with fail
          refine hK.out _ _ k3 (fun hHeld => ?_)
          clear hK K
          try simp only [Act.put, List.setIfInBounds_toArray, List.set_cons_zero, List.set_cons_succ]
          refine wpAnyH_ready (rs := [26]) (by kernel_rfl) (by simp) ?_
          refine AllReadyH.cons (o := ?ob227) ?hb227 (fun K hK => ?_) AllReadyH.nil
          case hb227 => first | (simp only [List.getElem?_toArray, List.getElem?_cons_zero, List.getElem?_cons_succ]; done) | (simp only [List.getElem?_toArray, List.getElem?_cons_zero, List.getElem?_cons_succ]; exact rfl)
          go_simp
          go_at_call 25
          refine HSm.out.mono ?_
          rintro e wn ⟨rfl, hF⟩
          have k4 : wn.cell? ⟨pb, 3, none⟩ = some (.int .i64 (s2.acts : Int)) ∧ wn.cell? ⟨pb, 6, none⟩ = some (.bool s2.off) := ⟨hF.cell k3.1 (fun h => h), hF.cell k3.2 (fun h => h)⟩
          have HF := Lib.hid hF
          clear hF k3
          go_wp2_with fail
          refine hK.out _ _ k4 (fun hHeld => ?_)
          clear hK K
          try simp only [Act.put, List.setIfInBounds_toArray, List.set_cons_zero, List.set_cons_succ]
          refine wpAnyH_take (i := 27) (oi := ?oi228) (v := ?vi228) ?h228 (by kernel_rfl) (by kernel_rfl) (by kernel_rfl) ?q228 (Or.inl ⟨?w228, ?y228⟩) hHeld ?r228
          case h228 => first | (simp only [List.getElem?_toArray, List.getElem?_cons_zero, List.getElem?_cons_succ]; done) | (simp only [List.getElem?_toArray, List.getElem?_cons_zero, List.getElem?_cons_succ]; exact rfl)
          case q228 => exact fun _ _ _ h => h
          case w228 => rfl
          case y228 =>
            intro w hSw
            (try dsimp only at hSw)
            obtain ⟨hS1, hS2⟩ := hSw
            go_simp
            try with_reducible rfl
          try simp only [Act.put, List.setIfInBounds_toArray, List.set_cons_zero, List.set_cons_succ]
          refine wpAnyH_take (i := 28) (oi := ?oi229) (v := ?vi229) ?h229 (by kernel_rfl) (by kernel_rfl) (by kernel_rfl) ?q229 (Or.inl ⟨?w229, ?y229⟩) hHeld ?r229
          case h229 => first | (simp only [List.getElem?_toArray, List.getElem?_cons_zero, List.getElem?_cons_succ]; done) | (simp only [List.getElem?_toArray, List.getElem?_cons_zero, List.getElem?_cons_succ]; exact rfl)
          case q229 => exact fun _ _ _ h => h
          case w229 => rfl
          case y229 =>
            intro w hSw
            (try dsimp only at hSw)
            obtain ⟨hS1, hS2⟩ := hSw
            go_simp
            try with_reducible rfl
          try simp only [Act.put, List.setIfInBounds_toArray, List.set_cons_zero, List.set_cons_succ]
          refine wpAnyH_done (by kernel_rfl) ?_ _
          refine NoPanic.normal ?_
          clear k4
          go_wp2
          go_roundw
          case rel => exact ⟨k + 1, HZ.out.1, congrArg (Value.int .i64) HQW.out, s2, p2, ((HT.out.1.keep (Fp.drew (Fp.refl Non _))).keep HN1.out.fp |>.keep HN2.out.fp).keep HF.out, HT.out.2.1, HT.out.2.2⟩
          case measure => have := HZ.out.1; rw [HQW.out]; simp [RowKit.intOf]; omega
      · have hke : k = q.length := Nat.le_antisymm hk (Nat.not_lt.1 hlt)
        subst hke
        have g1 : ((q.length : Int) < (q.length : Int)) = False := eq_false (Int.lt_irrefl _)
        have HT := Lib.hid hR.out
        clear hk hlt
        have d0 := HT.out.1.r.c0
        rw [← HT.out.2.2] at d0
        have slB := (HT.out.1.r.cur.sl HT.out.1.r.cap.1.1 HT.out.1.r.cap.1.2).keep (Fp.drew (Fp.refl Non wr)) (fun _ _ h => h)
        have k1 : wr.drew.cell? ⟨pb, 0, none⟩ = some (.slice (some ⟨p'.g, 0, none⟩) s.cur.length p'.gc) ∧ (convert 22 9 (.slice (some ⟨p'.g, 0, none⟩) s.cur.length p'.gc)).run Try.prog wr.drew = .ok (.string (B s.cur)) wr.drew := ⟨d0, conv_sl _ _ _ slB⟩
        have hdA := HT.out.1.d.keep (Fp.drew (Fp.refl Non wr)) (fun _ _ h => h)
        have HB := Lib.hid (Bytes_c hdA)
        have HA := Lib.hid (And.intro slB (And.intro hdA k1.1))
        clear slB hdA d0
        go_wp2_with fail
        refine wp_region_noPanic ?_
        refine wp_region_held_drew (S := (fun w' => w'.cell? ⟨pb, 0, none⟩ = some (.slice (some ⟨p'.g, 0, none⟩) s.cur.length p'.gc) ∧ (convert 22 9 (.slice (some ⟨p'.g, 0, none⟩) s.cur.length p'.gc)).run Try.prog w' = .ok (.string (B s.cur)) w')) (by kernel_rfl) ?_ (fun hHeld => ?_)
        · exact k1
        refine wpAnyH_take (i := 0) (oi := ?oi101) (v := ?vi101) ?h101 (by kernel_rfl) (by kernel_rfl) (by kernel_rfl) ?q101 (Or.inl ⟨?w101, ?y101⟩) hHeld ?r101
        case h101 => first | (simp only [List.getElem?_toArray, List.getElem?_cons_zero]; done) | (simp only [List.getElem?_toArray, List.getElem?_cons_zero]; exact rfl)
        case q101 => exact fun _ _ _ h => h
        case w101 => rfl
        case y101 =>
          intro w hSw
          (try dsimp only at hSw)
          obtain ⟨hS1, hS2⟩ := hSw
          go_simp
          try with_reducible rfl
        try simp only [Act.put, List.setIfInBounds_toArray, List.set_cons_zero, List.set_cons_succ]
        refine wpAnyH_take (i := 1) (oi := ?oi102) (v := ?vi102) ?h102 (by kernel_rfl) (by kernel_rfl) (by kernel_rfl) ?q102 (Or.inl ⟨?w102, ?y102⟩) hHeld ?r102
        case h102 => first | (simp only [List.getElem?_toArray, List.getElem?_cons_zero, List.getElem?_cons_succ]; done) | (simp only [List.getElem?_toArray, List.getElem?_cons_zero, List.getElem?_cons_succ]; exact rfl)
        case q102 => exact fun _ _ _ h => h
        case w102 => rfl
        case y102 =>
          intro w hSw
          (try dsimp only at hSw)
          obtain ⟨hS1, hS2⟩ := hSw
          go_simp
          try with_reducible rfl
        try simp only [Act.put, List.setIfInBounds_toArray, List.set_cons_zero, List.set_cons_succ]
        refine wpAnyH_take (i := 2) (oi := ?oi103) (v := ?vi103) ?h103 (by kernel_rfl) (by kernel_rfl) (by kernel_rfl) ?q103 (Or.inl ⟨?w103, ?y103⟩) hHeld ?r103
        case h103 => first | (simp only [List.getElem?_toArray, List.getElem?_cons_zero, List.getElem?_cons_succ]; done) | (simp only [List.getElem?_toArray, List.getElem?_cons_zero, List.getElem?_cons_succ]; exact rfl)
        case q103 => exact fun _ _ _ h => h
        case w103 => rfl
        case y103 =>
          intro w hSw
          (try dsimp only at hSw)
          obtain ⟨hS1, hS2⟩ := hSw
          go_simp
          try with_reducible rfl
        try simp only [Act.put, List.setIfInBounds_toArray, List.set_cons_zero, List.set_cons_succ]
        refine wpAnyH_take (i := 5) (oi := ?oi104) (v := ?vi104) ?h104 (by kernel_rfl) (by kernel_rfl) (by kernel_rfl) ?q104 (Or.inl ⟨?w104, ?y104⟩) hHeld ?r104
        case h104 => first | (simp only [List.getElem?_toArray, List.getElem?_cons_zero, List.getElem?_cons_succ]; done) | (simp only [List.getElem?_toArray, List.getElem?_cons_zero, List.getElem?_cons_succ]; exact rfl)
        case q104 => exact fun _ _ _ h => h
        case w104 => rfl
        case y104 =>
          intro w hSw
          (try dsimp only at hSw)
          obtain ⟨hS1, hS2⟩ := hSw
          go_simp
          try with_reducible rfl
        try simp only [Act.put, List.setIfInBounds_toArray, List.set_cons_zero, List.set_cons_succ]
        refine wpAnyH_take (i := 6) (oi := ?oi105) (v := ?vi105) ?h105 (by kernel_rfl) (by kernel_rfl) (by kernel_rfl) ?q105 (Or.inl ⟨?w105, ?y105⟩) hHeld ?r105
        case h105 => first | (simp only [List.getElem?_toArray, List.getElem?_cons_zero, List.getElem?_cons_succ]; done) | (simp only [List.getElem?_toArray, List.getElem?_cons_zero, List.getElem?_cons_succ]; exact rfl)
        case q105 => exact fun _ _ _ h => h
        case w105 => rfl
        case y105 =>
          intro w hSw
          (try dsimp only at hSw)
          obtain ⟨hS1, hS2⟩ := hSw
          go_simp
          try with_reducible rfl
        try simp only [Act.put, List.setIfInBounds_toArray, List.set_cons_zero, List.set_cons_succ]
        refine wpAnyH_take (i := 7) (oi := ?oi106) (v := ?vi106) ?h106 (by kernel_rfl) (by kernel_rfl) (by kernel_rfl) ?q106 (Or.inl ⟨?w106, ?y106⟩) hHeld ?r106
        case h106 => first | (simp only [List.getElem?_toArray, List.getElem?_cons_zero, List.getElem?_cons_succ]; done) | (simp only [List.getElem?_toArray, List.getElem?_cons_zero, List.getElem?_cons_succ]; exact rfl)
        case q106 => exact fun _ _ _ h => h
        case w106 => rfl
        case y106 =>
          intro w hSw
          (try dsimp only at hSw)
          obtain ⟨hS1, hS2⟩ := hSw
          go_simp
          try with_reducible rfl
        try simp only [Act.put, List.setIfInBounds_toArray, List.set_cons_zero, List.set_cons_succ]
        refine wpAnyH_take (i := 8) (oi := ?oi107) (v := ?vi107) ?h107 (by kernel_rfl) (by kernel_rfl) (by kernel_rfl) ?q107 (Or.inl ⟨?w107, ?y107⟩) hHeld ?r107
        case h107 => first | (simp only [List.getElem?_toArray, List.getElem?_cons_zero, List.getElem?_cons_succ]; done) | (simp only [List.getElem?_toArray, List.getElem?_cons_zero, List.getElem?_cons_succ]; exact rfl)
        case q107 => exact fun _ _ _ h => h
        case w107 => rfl
        case y107 =>
          intro w hSw
          (try dsimp only at hSw)
          obtain ⟨hS1, hS2⟩ := hSw
          go_simp
          try with_reducible rfl
        try simp only [Act.put, List.setIfInBounds_toArray, List.set_cons_zero, List.set_cons_succ]
        refine wpAnyH_take (i := 9) (oi := ?oi108) (v := ?vi108) ?h108 (by kernel_rfl) (by kernel_rfl) (by kernel_rfl) ?q108 (Or.inl ⟨?w108, ?y108⟩) hHeld ?r108
        case h108 => first | (simp only [List.getElem?_toArray, List.getElem?_cons_zero, List.getElem?_cons_succ]; done) | (simp only [List.getElem?_toArray, List.getElem?_cons_zero, List.getElem?_cons_succ]; exact rfl)
        case q108 => exact fun _ _ _ h => h
        case w108 => rfl
        case y108 =>
          intro w hSw
          (try dsimp only at hSw)
          obtain ⟨hS1, hS2⟩ := hSw
          go_simp
          try with_reducible rfl
        try simp only [Act.put, List.setIfInBounds_toArray, List.set_cons_zero, List.set_cons_succ]
        refine wpAnyH_ready (rs := [3]) (by kernel_rfl) (by simp) ?_
        refine AllReadyH.cons (o := ?ob109) ?hb109 (fun K hK => ?_) AllReadyH.nil
        case hb109 => first | (simp only [List.getElem?_toArray, List.getElem?_cons_zero, List.getElem?_cons_succ]; done) | (simp only [List.getElem?_toArray, List.getElem?_cons_zero, List.getElem?_cons_succ]; exact rfl)
        go_simp
        go_at_call 28
        refine HB.out.mono ?_
        rintro e wB ⟨v2, rfl, hNB⟩
        have hf2 : Fp Non w wB := HT.out.1.fp.drew.then hNB.fp
        have s2 := hNB.sl
        obtain ⟨vao, vlen, vcap, rfl⟩ := hNB.shape3
        have k2 : (convert 22 9 (.slice vao vlen vcap)).run Try.prog wB = .ok (.string (B s.cur)) wB := conv_sl _ _ _ s2
        have k3 : wB.cell? ⟨pb, 0, none⟩ = some (.slice (some ⟨p'.g, 0, none⟩) s.cur.length p'.gc) ∧ (convert 22 9 (.slice (some ⟨p'.g, 0, none⟩) s.cur.length p'.gc)).run Try.prog wB = .ok (.string (B s.cur)) wB := ⟨hNB.fp.cell HA.out.2.2 (fun h => h), conv_sl _ _ _ (HA.out.1.keep hNB.fp (fun _ _ h => h))⟩
        have HSZ := Lib.hid (Size_c (HA.out.2.1.keep hNB.fp (fun _ _ h => h)))
        have HFIN := Lib.hid hf2
        clear hNB hf2 s2 hHeld
        go_wp2_with fail
        refine hK.out _ _ k3 (fun hHeld => ?_)
        clear hK K
        try simp only [Act.put, List.setIfInBounds_toArray, List.set_cons_zero, List.set_cons_succ]
        refine wpAnyH_ready (rs := [4]) (by kernel_rfl) (by simp) ?_
        refine AllReadyH.cons (o := ?ob110) ?hb110 (fun K hK => ?_) AllReadyH.nil
        case hb110 => first | (simp only [List.getElem?_toArray, List.getElem?_cons_zero, List.getElem?_cons_succ]; done) | (simp only [List.getElem?_toArray, List.getElem?_cons_zero, List.getElem?_cons_succ]; exact rfl)
        go_simp
        refine hK.out _ _ k3 (fun hHeld => ?_)
        clear hK K
        try simp only [Act.put, List.setIfInBounds_toArray, List.set_cons_zero, List.set_cons_succ]
        refine wpAnyH_take (i := 10) (oi := ?oi111) (v := ?vi111) ?h111 (by kernel_rfl) (by kernel_rfl) (by kernel_rfl) ?q111 (Or.inl ⟨?w111, ?y111⟩) hHeld ?r111
        case h111 => first | (simp only [List.getElem?_toArray, List.getElem?_cons_zero, List.getElem?_cons_succ]; done) | (simp only [List.getElem?_toArray, List.getElem?_cons_zero, List.getElem?_cons_succ]; exact rfl)
        case q111 => exact fun _ _ _ h => h
        case w111 => rfl
        case y111 =>
          intro w hSw
          (try dsimp only at hSw)
          obtain ⟨hS1, hS2⟩ := hSw
          go_simp
          try with_reducible rfl
        try simp only [Act.put, List.setIfInBounds_toArray, List.set_cons_zero, List.set_cons_succ]
        refine wpAnyH_take (i := 11) (oi := ?oi112) (v := ?vi112) ?h112 (by kernel_rfl) (by kernel_rfl) (by kernel_rfl) ?q112 (Or.inl ⟨?w112, ?y112⟩) hHeld ?r112
        case h112 => first | (simp only [List.getElem?_toArray, List.getElem?_cons_zero, List.getElem?_cons_succ]; done) | (simp only [List.getElem?_toArray, List.getElem?_cons_zero, List.getElem?_cons_succ]; exact rfl)
        case q112 => exact fun _ _ _ h => h
        case w112 => rfl
        case y112 =>
          intro w hSw
          (try dsimp only at hSw)
          obtain ⟨hS1, hS2⟩ := hSw
          go_simp
          try with_reducible rfl
        try simp only [Act.put, List.setIfInBounds_toArray, List.set_cons_zero, List.set_cons_succ]
        refine wpAnyH_take (i := 12) (oi := ?oi113) (v := ?vi113) ?h113 (by kernel_rfl) (by kernel_rfl) (by kernel_rfl) ?q113 (Or.inl ⟨?w113, ?y113⟩) hHeld ?r113
        case h113 => first | (simp only [List.getElem?_toArray, List.getElem?_cons_zero, List.getElem?_cons_succ]; done) | (simp only [List.getElem?_toArray, List.getElem?_cons_zero, List.getElem?_cons_succ]; exact rfl)
        case q113 => exact fun _ _ _ h => h
        case w113 => rfl
        case y113 =>
          intro w hSw
          (try dsimp only at hSw)
          obtain ⟨hS1, hS2⟩ := hSw
          go_simp
          try with_reducible rfl
        try simp only [Act.put, List.setIfInBounds_toArray, List.set_cons_zero, List.set_cons_succ]
        refine wpAnyH_take (i := 13) (oi := ?oi114) (v := ?vi114) ?h114 (by kernel_rfl) (by kernel_rfl) (by kernel_rfl) ?q114 (Or.inl ⟨?w114, ?y114⟩) hHeld ?r114
        case h114 => first | (simp only [List.getElem?_toArray, List.getElem?_cons_zero, List.getElem?_cons_succ]; done) | (simp only [List.getElem?_toArray, List.getElem?_cons_zero, List.getElem?_cons_succ]; exact rfl)
        case q114 => exact fun _ _ _ h => h
        case w114 => rfl
        case y114 =>
          intro w hSw
          (try dsimp only at hSw)
          obtain ⟨hS1, hS2⟩ := hSw
          go_simp
          try with_reducible rfl
        try simp only [Act.put, List.setIfInBounds_toArray, List.set_cons_zero, List.set_cons_succ]
        refine wpAnyH_take (i := 15) (oi := ?oi115) (v := ?vi115) ?h115 (by kernel_rfl) (by kernel_rfl) (by kernel_rfl) ?q115 (Or.inl ⟨?w115, ?y115⟩) hHeld ?r115
        case h115 => first | (simp only [List.getElem?_toArray, List.getElem?_cons_zero, List.getElem?_cons_succ]; done) | (simp only [List.getElem?_toArray, List.getElem?_cons_zero, List.getElem?_cons_succ]; exact rfl)
        case q115 => exact fun _ _ _ h => h
        case w115 => rfl
        case y115 =>
          intro w hSw
          (try dsimp only at hSw)
          obtain ⟨hS1, hS2⟩ := hSw
          go_simp
          try with_reducible rfl
        try simp only [Act.put, List.setIfInBounds_toArray, List.set_cons_zero, List.set_cons_succ]
        refine wpAnyH_take (i := 16) (oi := ?oi116) (v := ?vi116) ?h116 (by kernel_rfl) (by kernel_rfl) (by kernel_rfl) ?q116 (Or.inl ⟨?w116, ?y116⟩) hHeld ?r116
        case h116 => first | (simp only [List.getElem?_toArray, List.getElem?_cons_zero, List.getElem?_cons_succ]; done) | (simp only [List.getElem?_toArray, List.getElem?_cons_zero, List.getElem?_cons_succ]; exact rfl)
        case q116 => exact fun _ _ _ h => h
        case w116 => rfl
        case y116 =>
          intro w hSw
          (try dsimp only at hSw)
          obtain ⟨hS1, hS2⟩ := hSw
          go_simp
          try with_reducible rfl
        try simp only [Act.put, List.setIfInBounds_toArray, List.set_cons_zero, List.set_cons_succ]
        refine wpAnyH_take (i := 17) (oi := ?oi117) (v := ?vi117) ?h117 (by kernel_rfl) (by kernel_rfl) (by kernel_rfl) ?q117 (Or.inl ⟨?w117, ?y117⟩) hHeld ?r117
        case h117 => first | (simp only [List.getElem?_toArray, List.getElem?_cons_zero, List.getElem?_cons_succ]; done) | (simp only [List.getElem?_toArray, List.getElem?_cons_zero, List.getElem?_cons_succ]; exact rfl)
        case q117 => exact fun _ _ _ h => h
        case w117 => rfl
        case y117 =>
          intro w hSw
          (try dsimp only at hSw)
          obtain ⟨hS1, hS2⟩ := hSw
          go_simp
          try with_reducible rfl
        try simp only [Act.put, List.setIfInBounds_toArray, List.set_cons_zero, List.set_cons_succ]
        refine wpAnyH_take (i := 18) (oi := ?oi118) (v := ?vi118) ?h118 (by kernel_rfl) (by kernel_rfl) (by kernel_rfl) ?q118 (Or.inl ⟨?w118, ?y118⟩) hHeld ?r118
        case h118 => first | (simp only [List.getElem?_toArray, List.getElem?_cons_zero, List.getElem?_cons_succ]; done) | (simp only [List.getElem?_toArray, List.getElem?_cons_zero, List.getElem?_cons_succ]; exact rfl)
        case q118 => exact fun _ _ _ h => h
        case w118 => rfl
        case y118 =>
          intro w hSw
          (try dsimp only at hSw)
          obtain ⟨hS1, hS2⟩ := hSw
          go_simp
          try with_reducible rfl
        try simp only [Act.put, List.setIfInBounds_toArray, List.set_cons_zero, List.set_cons_succ]
        refine wpAnyH_take (i := 19) (oi := ?oi119) (v := ?vi119) ?h119 (by kernel_rfl) (by kernel_rfl) (by kernel_rfl) ?q119 (Or.inl ⟨?w119, ?y119⟩) hHeld ?r119
        case h119 => first | (simp only [List.getElem?_toArray, List.getElem?_cons_zero, List.getElem?_cons_succ]; done) | (simp only [List.getElem?_toArray, List.getElem?_cons_zero, List.getElem?_cons_succ]; exact rfl)
        case q119 => exact fun _ _ _ h => h
        case w119 => rfl
        case y119 =>
          intro w hSw
          (try dsimp only at hSw)
          obtain ⟨hS1, hS2⟩ := hSw
          go_simp
          try with_reducible rfl
        try simp only [Act.put, List.setIfInBounds_toArray, List.set_cons_zero, List.set_cons_succ]
        refine wpAnyH_ready (rs := [14]) (by kernel_rfl) (by simp) ?_
        refine AllReadyH.cons (o := ?ob120) ?hb120 (fun K hK => ?_) AllReadyH.nil
        case hb120 => first | (simp only [List.getElem?_toArray, List.getElem?_cons_zero, List.getElem?_cons_succ]; done) | (simp only [List.getElem?_toArray, List.getElem?_cons_zero, List.getElem?_cons_succ]; exact rfl)
        go_simp
        go_at_call 29
        refine HSZ.out.mono ?_
        rintro e wC ⟨rfl, rfl⟩
        go_wp2_with fail
        refine hK.out _ _ k3 (fun hHeld => ?_)
        clear hK K
        try simp only [Act.put, List.setIfInBounds_toArray, List.set_cons_zero, List.set_cons_succ]
        refine wpAnyH_take (i := 20) (oi := ?oi121) (v := ?vi121) ?h121 (by kernel_rfl) (by kernel_rfl) (by kernel_rfl) ?q121 (Or.inl ⟨?w121, ?y121⟩) hHeld ?r121
        case h121 => first | (simp only [List.getElem?_toArray, List.getElem?_cons_zero, List.getElem?_cons_succ]; done) | (simp only [List.getElem?_toArray, List.getElem?_cons_zero, List.getElem?_cons_succ]; exact rfl)
        case q121 => exact fun _ _ _ h => h
        case w121 => rfl
        case y121 =>
          intro w hSw
          (try dsimp only at hSw)
          obtain ⟨hS1, hS2⟩ := hSw
          go_simp
          try with_reducible rfl
        try simp only [Act.put, List.setIfInBounds_toArray, List.set_cons_zero, List.set_cons_succ]
        refine wpAnyH_take (i := 21) (oi := ?oi122) (v := ?vi122) ?h122 (by kernel_rfl) (by kernel_rfl) (by kernel_rfl) ?q122 (Or.inl ⟨?w122, ?y122⟩) hHeld ?r122
        case h122 => first | (simp only [List.getElem?_toArray, List.getElem?_cons_zero, List.getElem?_cons_succ]; done) | (simp only [List.getElem?_toArray, List.getElem?_cons_zero, List.getElem?_cons_succ]; exact rfl)
        case q122 => exact fun _ _ _ h => h
        case w122 => rfl
        case y122 =>
          intro w hSw
          (try dsimp only at hSw)
          obtain ⟨hS1, hS2⟩ := hSw
          go_simp
          try with_reducible rfl
        try simp only [Act.put, List.setIfInBounds_toArray, List.set_cons_zero, List.set_cons_succ]
        refine wpAnyH_take (i := 22) (oi := ?oi123) (v := ?vi123) ?h123 (by kernel_rfl) (by kernel_rfl) (by kernel_rfl) ?q123 (Or.inl ⟨?w123, ?y123⟩) hHeld ?r123
        case h123 => first | (simp only [List.getElem?_toArray, List.getElem?_cons_zero, List.getElem?_cons_succ]; done) | (simp only [List.getElem?_toArray, List.getElem?_cons_zero, List.getElem?_cons_succ]; exact rfl)
        case q123 => exact fun _ _ _ h => h
        case w123 => rfl
        case y123 =>
          intro w hSw
          (try dsimp only at hSw)
          obtain ⟨hS1, hS2⟩ := hSw
          go_simp
          try with_reducible rfl
        try simp only [Act.put, List.setIfInBounds_toArray, List.set_cons_zero, List.set_cons_succ]
        refine wpAnyH_done (by kernel_rfl) ?_ _
        refine NoPanic.normal ?_
        go_wp2
        go_ret
        exact ⟨rfl, HFIN.out⟩

set_option maxRecDepth 20000 in
set_option maxHeartbeats 1000000 in
theorem Plays_long (v : Value) (l : Bs) (qv : Value) (q : List Oq) (w : World) (hl : Sl w v l) (hq : Oqs w w.heap.size qv q) (h : 5000 < l.length) :
    Calls Try.prog 3 #[v, qv] w fun e w' => e = .returned (.bool true) ∧ Fp Non w w' := by
  obtain ⟨qao, qcap, hqv, _, _, _⟩ := hq.ex
  obtain ⟨ao, cap, hv, _, _, _⟩ := hl.ex
  have HL := Lib.hid (And.intro hl hq)
  rw [hv, hqv]
  have q1 : ((5000 : Int) < (l.length : Int)) = True := eq_true (by omega)
  clear hl hq h
  go_enter Try.func3, Try.ntmps3
  go_wp2_with fail
  refine (head_c w).mono ?_
  rintro e w1 ⟨rfl, hf⟩
  have hgr := Great_c w.heap.size qv q w1 (HL.out.2.keep_ hf (fun _ h => h.elim))
  rw [hqv] at hgr
  have HG := Lib.hid (And.intro hf hgr); clear hgr hf
  go_wp2_with fail
  refine HG.out.2.mono ?_
  rintro e w3 ⟨gr, rfl, hgl, hf3⟩
  have H3 := Lib.hid (HG.out.1.then hf3); clear hf3 hgl
  cases gr with
  | true =>
    go_wp2
    go_ret
    exact ⟨rfl, H3.out⟩
  | false =>
    go_wp2
    go_ret
    exact ⟨rfl, H3.out⟩

set_option maxRecDepth 20000 in
set_option maxHeartbeats 1000000 in
theorem Plays_none (v : Value) (l : Bs) (qv : Value) (q : List Oq) (w : World) (hl : Sl w v l) (hq : Oqs w w.heap.size qv q) (hs : l.length ≤ 5000) (h : ¬ (1 ≤ l.length / 16 ∧ l.length / 16 ≤ 4096 ∧ l.length % 16 = 0)) :
    Calls Try.prog 3 #[v, qv] w fun e w' => e = .returned (.bool true) ∧ Fp Non w w' := by
  obtain ⟨qao, qcap, hqv, _, _, _⟩ := hq.ex
  obtain ⟨ao, cap, hv, _, _, _⟩ := hl.ex
  have HL := Lib.hid (And.intro hl (And.intro hq (And.intro hs h)))
  rw [hv, hqv]
  have q1 : ((5000 : Int) < (l.length : Int)) = False := eq_false (by omega)
  clear hl hq h hs
  go_enter Try.func3, Try.ntmps3
  go_wp2_with fail
  refine (head_c w).mono ?_
  rintro e w1 ⟨rfl, hf⟩
  have hgr := Great_c w.heap.size qv q w1 (HL.out.2.1.keep_ hf (fun _ h => h.elim))
  rw [hqv] at hgr
  have HG := Lib.hid (And.intro hf hgr); clear hgr hf
  go_wp2_with fail
  refine HG.out.2.mono ?_
  rintro e w3 ⟨gr, rfl, hgl, hf3⟩
  have H3 := Lib.hid (HG.out.1.then hf3); clear hf3 hgl
  cases gr with
  | true =>
    go_wp2
    go_ret
    exact ⟨rfl, H3.out⟩
  | false =>
    have hn := Of_none w3 v l (HL.out.1.keep H3.out (fun _ _ h => h)) HL.out.2.2.2
    have hr := ROf_none w3 v l (HL.out.1.keep H3.out (fun _ _ h => h)) HL.out.2.2.2 HL.out.2.2.1
    rw [hv] at hn hr
    have HO := Lib.hid (And.intro hn hr); clear hn hr
    go_wp2_with fail
    refine HO.out.1.mono ?_
    rintro e w4 ⟨rfl, rfl⟩
    go_wp2_with fail
    refine HO.out.2.mono ?_
    rintro e w5 ⟨rfl, rfl⟩
    go_wp2
    go_ret
    exact ⟨rfl, H3.out⟩

theorem SectorPlays_c (v : Value) (l : Bs) (qv : Value) (q : List Oq) (w : World) (hl : Sl w v l) (hq : Oqs w w.heap.size qv q) :
    Calls Try.prog 3 #[v, qv] w fun e w' => e = .returned (.bool true) ∧ Fp Non w w' := by
  by_cases h5 : l.length ≤ 5000
  · by_cases h : 1 ≤ l.length / 16 ∧ l.length / 16 ≤ 4096 ∧ l.length % 16 = 0
    · exact Plays_some v l qv q w hl hq (l.length / 16) h.1 h.2.1 (by omega) h5
    · exact Plays_none v l qv q w hl hq h5 h
  · exact Plays_long v l qv q w hl hq (by omega)
end Go.Proofs.Ytiafndcpggngoaa
