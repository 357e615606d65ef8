/- The short ways of the document's SectorStays: where there is no disk, and where the list is great or the bytes are more than 5000, it answers true. -/
import Derived.Test.YtiafndcpggngoaaWk
import Derived.Test.YtiafndcpggngoaaKs
namespace Go.Proofs.Ytiafndcpggngoaa
open Go.RowKit Pm

theorem Sl.at_ {w : World} {v : Value} {l : Bs} (h : Sl w v l) (h0 : 0 < l.length) : ∃ g o cap, v = .slice (some ⟨g, o, none⟩) l.length cap ∧ l.length ≤ cap ∧ cap ≤ maxLen := by
  obtain ⟨ao, cap, rfl, h1, h2, h3⟩ := h.ex
  rcases h3 with ⟨rfl, rfl⟩ | ⟨g, o, rfl, _, _⟩
  · omega
  · exact ⟨g, o, cap, rfl, h1, h2⟩

set_option maxRecDepth 20000 in
set_option maxHeartbeats 1000000 in
theorem Stays_none (v : Value) (l : Bs) (qv : Value)  (kv : Value) (w : World) (hl : Sl w v l) (h : ¬ (1 ≤ l.length / 16 ∧ l.length / 16 ≤ 4096 ∧ l.length % 16 = 0)) : Calls Try.prog 5 #[v, qv, kv] w fun e w' => e = .returned (.bool true) ∧ Fp Non w w' := by
  have HL := Lib.hid (And.intro hl h); clear hl h
  go_enter Try.func5, Try.ntmps5
  go_wp2_with fail
  refine (head_c w).mono ?_
  rintro e w1 ⟨rfl, hf⟩
  have hn := Of_none w1 v l (HL.out.1.keep hf (fun _ _ h => h)) HL.out.2
  have HF := Lib.hid (And.intro hf hn); clear hf hn
  go_wp2_with fail
  refine HF.out.2.mono ?_
  rintro e w2 ⟨rfl, rfl⟩
  go_wp2
  go_ret
  exact ⟨rfl, HF.out.1⟩

set_option maxRecDepth 20000 in
set_option maxHeartbeats 1000000 in
theorem Stays_long (v : Value) (l : Bs) (qv : Value) (q : List Oq) (kv : Value) (w : World) (hl : Sl w v l) (hq : Oqs w w.heap.size qv q) (N : Nat) (h1 : 1 ≤ N) (h2 : N ≤ 4096) (hln : l.length = N * 16) (h : 5000 < l.length) : Calls Try.prog 5 #[v, qv, kv] w fun e w' => e = .returned (.bool true) ∧ Fp Non w w' := by
  obtain ⟨qao, qcap, hqv, _, _, _⟩ := hq.ex
  obtain ⟨ao, cap, hv, _, _, _⟩ := hl.ex
  have HL := Lib.hid (And.intro hl (And.intro hq hq))
  have HN := Lib.hid (And.intro h1 (And.intro h2 hln))
  rw [hv, hqv]
  have q1 : ((5000 : Int) < (l.length : Int)) = True := eq_true (by omega)
  clear hl hq h h1 h2 hln
  go_enter Try.func5, Try.ntmps5
  go_wp2_with fail
  refine (head_c w).mono ?_
  rintro e w1 ⟨rfl, hf⟩
  have hn := Of_c w1.heap.size w1 v l (HL.out.1.keep hf (fun _ _ h => h)) N HN.out.1 HN.out.2.1 HN.out.2.2 (Nat.le_refl _)
  rw [hv] at hn
  have HF := Lib.hid (And.intro hf hn); clear hf hn
  go_wp2_with fail
  refine HF.out.2.mono ?_
  rintro e w2 ⟨b, g, m, rfl, hd, hf2, hown⟩
  have H2 := Lib.hid (And.intro hd (And.intro hf2 hown)); clear hf2 hd hown
  have hq2 := (HL.out.2.1.keep_ HF.out.1 (fun _ h => h.elim)).keep_ H2.out.2.1 (fun _ h => h.elim)
  have hgr := Great_c w.heap.size qv q w2 hq2
  rw [hqv] at hgr
  have HG := Lib.hid (And.intro hq2 hgr); clear hq2 hgr
  go_wp2_with fail
  refine HG.out.2.mono ?_
  rintro e w3 ⟨gr, rfl, hgl, hf3⟩
  have H3 := Lib.hid hf3; clear hf3 hgl
  cases gr with
  | true =>
    go_wp2
    go_ret
    exact ⟨rfl, (HF.out.1.then H2.out.2.1).then H3.out⟩
  | false =>
    go_wp2
    go_ret
    exact ⟨rfl, (HF.out.1.then H2.out.2.1).then H3.out⟩

/-- Sixteen bytes of a slice. -/
theorem Sl.sub {w : World} {g o n cap : Nat} {l : Bs} (h : Sl w (.slice (some ⟨g, o, none⟩) n cap) l) (p m : Nat) (hp : p + m ≤ l.length) : Sl w (.slice (some ⟨g, o + p, none⟩) m (cap - p)) ((l.drop p).take m) := by
  have hl : ((l.drop p).take m).length = m := by simp; omega
  obtain ⟨ao, cap', e, h1, h2, h3⟩ := h.ex
  injection e with e1 e2 e3
  subst e1 e2 e3
  refine ⟨_, cap - p, by rw [hl], by rw [hl]; omega, by omega, .inr ?_⟩
  rcases h3 with ⟨h0, _⟩ | ⟨g2, o2, e, hg, hc⟩
  · cases h0
  · injection e with e
    injection e with e1 e2
    subst e1 e2
    refine ⟨g, o + p, rfl, hg, fun j hj => ?_⟩
    rw [Nat.add_assoc, hc (p + j) (by omega)]
    simp
/-- A round's sector, as a text. -/
theorem conv_blk {w : World} {g o cap : Nat} {l : Bs} (N i : Nat) (h : Sl w (.slice (some ⟨g, o, none⟩) l.length cap) l) (hln : l.length = N * 16) (hi : i < N) :
    (convert 22 9 (.slice (some ⟨g, o + i * 16, none⟩) ((i + 1) * 16 - i * 16) (cap - i * 16))).run Try.prog w = .ok (.string (B (blk l i))) w := by
  have hm : (i + 1) * 16 - i * 16 = 16 := by omega
  have := conv_sl w _ _ (h.sub (i * 16) ((i + 1) * 16 - i * 16) (by omega))
  rw [this]
  unfold blk
  rw [hm]
theorem caps (N i len cap : Nat) (hln : len = N * 16) (hi : i < N) (hc : len ≤ cap) : (((i : Int) + 1) * 16 ≤ (cap : Int)) = True ∧ ¬ (cap = i * 16) := ⟨eq_true (by omega), by omega⟩
theorem rnd_wet (s : Dk) (hs : Rt s) (N n : Nat) (h1 : n = N * 16) (h2 : s.cur.length = n) (i : Nat) (hi : i < N) : i < s.wet.length := by
  have := hs.cl
  omega
theorem wrap_one (i : Nat) (h : i < 4096) : wrap64 ((i : Int) + 1) = ((i + 1 : Nat) : Int) := by unfold wrap64; omega
theorem loose_len (s : Dk) (h : Rt s) : (loose s.wet).length ≤ 4096 := by
  have h1 : (loose s.wet).length ≤ s.wet.length := by
    unfold loose
    have := List.length_filter_le (fun i => s.wet.getD i false) (List.range s.wet.length)
    rwa [List.length_range] at this
  exact Nat.le_trans h1 h.hi
theorem posn_hit (L : List Nat) (i j : Nat) (h : L[j]? = some i) : posn L i (j + 1) = (j : Int) := by simp [posn, h]
theorem posn_miss (L : List Nat) (i j x : Nat) (h : L[j]? = some x) (hx : ¬ x = i) : posn L i (j + 1) = posn L i j := by simp [posn, h, hx]
theorem loose_rep (n : Nat) : loose (List.replicate n false) = [] := by
  apply List.eq_nil_iff_forall_not_mem.2
  intro i h
  obtain ⟨h1, h2⟩ := mem_loose.1 h
  simp at h2
theorem rnd_N (N len : Nat) (hN : N ≤ 4096) (hln : len = N * 16) : wrap64 ((len : Int) / 16) = (N : Int) := by unfold wrap64; omega

attribute [local irreducible] wpStill

set_option maxRecDepth 20000 in
set_option maxHeartbeats 4000000 in
theorem Stays_some (v : Value) (l : Bs) (qv : Value) (q : List Oq) (kv : Value) (keep : List Bool) (w : World) (hl : Sl w v l) (hq : Oqs w w.heap.size qv q) (hk : Sb w kv keep ∧ (0 < keep.length → ∀ k, kv.ownBlock = some k → k < w.heap.size)) (N : Nat) (h1 : 1 ≤ N) (h2 : N ≤ 4096) (hln : l.length = N * 16) (h : l.length ≤ 5000) : Calls Try.prog 5 #[v, qv, kv] w fun e w' => e = .returned (.bool true) ∧ Fp Non w w' := by
  obtain ⟨qao, qcap, hqv, hq1, _, hq3⟩ := hq.ex
  obtain ⟨ao, cap, hv, _, _, _⟩ := hl.ex
  obtain ⟨kao, kcap, hkv, _, _, _⟩ := hk.1.ex
  have HL := Lib.hid (And.intro hl (And.intro hq hk))
  have HN := Lib.hid (And.intro h1 (And.intro h2 (And.intro hln h)))
  rw [hv, hqv, hkv]
  have q1 : ((5000 : Int) < (l.length : Int)) = False := eq_false (by omega)
  have HQ3 := Lib.hid (And.intro hq1 hq3)
  clear hl hq hk h h1 h2 hln hq1 hq3
  go_enter Try.func5, Try.ntmps5
  go_wp2_with fail
  refine (head_c w).mono ?_
  rintro e w1 ⟨rfl, hf⟩
  have hn := Of_c w1.heap.size w1 v l (HL.out.1.keep hf (fun _ _ h => h)) N HN.out.1 HN.out.2.1 HN.out.2.2.1 (Nat.le_refl _)
  rw [hv] at hn
  have HF := Lib.hid (And.intro hf hn); clear hf hn
  go_wp2_with fail
  refine HF.out.2.mono ?_
  rintro e w2 ⟨b, g, m, rfl, hd, hf2, hown⟩
  have H2 := Lib.hid (And.intro hd (And.intro hf2 hown)); clear hf2 hd hown
  have hq2 := (HL.out.2.1.keep_ HF.out.1 (fun _ h => h.elim)).keep_ H2.out.2.1 (fun _ h => h.elim)
  have hgr := Great_c w.heap.size qv q w2 hq2
  rw [hqv] at hgr
  have HG := Lib.hid (And.intro hq2 hgr); clear hq2 hgr
  go_wp2_with fail
  refine HG.out.2.mono ?_
  rintro e w3 ⟨gr, rfl, hgl, hf3⟩
  have H3 := Lib.hid (And.intro hf3 hgl); clear hf3 hgl
  have hz : ∀ j, own3 b g m j → False ∨ w.heap.size ≤ j := fun j hj => .inr (by have := H2.out.2.2 j hj; have := HF.out.1.size; omega)
  have HZ0 := Lib.hid (And.intro hz ((HF.out.1.then H2.out.2.1).then H3.out.1)); clear hz
  have HKD : Hid (0 < keep.length → ∀ j, kv.ownBlock = some j → ¬ own3 b g m j) := fun h0 j hj ho => by have h5 := HL.out.2.2.2 h0 j hj; exact (HZ0.out.1 j ho).elim id (fun h => absurd h (Nat.not_le.2 h5))
  cases gr with
  | true =>
    go_wp2
    go_ret
    exact ⟨rfl, HZ0.out.2⟩
  | false =>
    have hd3 := H2.out.1.keep H3.out.1 (fun _ _ h => h)
    have HD3 := Lib.hid (And.intro hd3 (WrAt.of_ hd3.rt)); clear hd3
    have hq300 : q.length ≤ 300 := H3.out.2 rfl
    go_wp2_with fail
    go_loopw [9] (fun i wr => ∃ k : Nat, k ≤ q.length ∧ i = .int .i64 k ∧ ∃ s, Hid (Dr w1.heap.size b g m s wr ∧ Fp Non w wr ∧ WrAt l k s)) (fun i _ => q.length - (RowKit.intOf i).toNat)
    case atStart => exact ⟨0, Nat.zero_le _, rfl, _, HD3.out.1, HZ0.out.2, HD3.out.2⟩
    case round =>
      obtain ⟨k, hk, rfl, s, hR⟩ := hrel
      rename_i wr _
      by_cases hlt : k < q.length
      · have g1 : ((k : Int) < (q.length : Int)) = True := eq_true (by omega)
        have g2 : (k < q.length) = True := eq_true hlt
        rcases HQ3.out.2 with h0 | ⟨qg, qo, rfl, hqg, hqc⟩
        · have := HQ3.out.1; omega
        have hit := (hqc k hlt).keep_ hR.out.2.1 (fun _ h => h.elim) hqg
        generalize q[k] = x at hit
        have c0 := hit.c0
        have c1 := hit.c1
        have c2 := hit.c2
        have hwr := Write_c (hR.out.1.keep (Fp.drew (Fp.refl Non wr)) (fun _ _ h => h)) x.at_ hit.ha x.bv x.b (hit.sb.keep (Fp.drew (Fp.refl Non wr)) (fun _ _ _ h => h)) (fun h0 j hj ho => by have h5 := hit.lb h0 j hj; exact (HZ0.out.1 j ho).elim id (fun h => absurd h (Nat.not_le.2 h5))) (by have := hR.out.2.2.ac; omega)
        obtain ⟨xao, xcap, exb, _, _, _⟩ := hit.sb.ex
        rw [exb] at c2 hwr
        have q13 : wrap64 ((k : Int) + 1) = ((k + 1 : Nat) : Int) := by unfold wrap64; omega
        have HW := Lib.hid hwr
        have HZ := Lib.hid (And.intro hlt (And.intro hk (And.intro hit (And.intro exb q13))))
        clear hlt hk hit exb hqc hwr q13
        by_cases hw0 : 0 ≤ x.what
        · have g3 : (0 ≤ x.what) = True := eq_true hw0
          by_cases hw3 : x.what < 3
          · have g4 : (x.what < 3) = True := eq_true hw3
            clear hw0 hw3
            go_wp2_with fail
            refine wp_region_still_tail 11 (by kernel_rfl) (by kernel_rfl) ?_
            simp only [List.take_succ_cons, List.take_zero, List.drop_succ_cons, List.drop_zero]
            change wpStill _ _ wr.drew _ _ _
            repeat still_step
            refine wpStill_nil ?_
            change wpList _ _ _ _ _ wr.drew
            go_wp2_with fail
            refine HW.out.mono ?_
            rintro e w5 ⟨rfl, hd5, hf5⟩
            have H5 := Lib.hid (And.intro hd5 ((hR.out.2.1.drew).trans hf5 HZ0.out.1)); clear hd5 hf5
            have q13 := HZ.out.2.2.2.2
            go_wp2
            go_roundw
            case rel => exact ⟨k + 1, HZ.out.1, congrArg (Value.int .i64) q13, _, H5.out.1, H5.out.2, hR.out.2.2.write _ _⟩
            case measure => have := HZ.out.1; rw [q13]; simp [RowKit.intOf]; omega
          · have g4 : (x.what < 3) = False := eq_false hw3
            have q13 := HZ.out.2.2.2.2
            clear hw0 hw3
            go_wp2
            go_roundw
            case rel => exact ⟨k + 1, HZ.out.1, congrArg (Value.int .i64) q13, _, hR.out.1, hR.out.2.1, hR.out.2.2.mono⟩
            case measure => have := HZ.out.1; rw [q13]; simp [RowKit.intOf]; omega
        · have g3 : (0 ≤ x.what) = False := eq_false hw0
          have q13 := HZ.out.2.2.2.2
          clear hw0
          go_wp2
          go_roundw
          case rel => exact ⟨k + 1, HZ.out.1, congrArg (Value.int .i64) q13, _, hR.out.1, hR.out.2.1, hR.out.2.2.mono⟩
          case measure => have := HZ.out.1; rw [q13]; simp [RowKit.intOf]; omega
      · have g1 : ((k : Int) < (q.length : Int)) = False := eq_false (by omega)
        clear hlt
        go_wp2_with fail
        refine (Bytes_c hR.out.1).mono ?_
        rintro e w6 ⟨nv, rfl, hnv⟩
        have hd6 := hR.out.1.keep hnv.fp (fun _ _ h => h)
        have H6 := Lib.hid (And.intro hd6 (And.intro (hR.out.2.1.then hnv.fp) (And.intro hnv.own hk))); clear hd6
        have hcl : s.cur.length = l.length := hR.out.2.2.cl
        obtain ⟨nao, ncap, hne⟩ := hnv.shape
        rw [hcl] at hne
        subst hne
        have HNO : Hid (∀ j, (Value.slice nao l.length ncap).ownBlock = some j → ¬ own3 b g m j) := fun j hj ho => by
          have h5 := (H6.out.2.2.1.lt j hj).1
          have h6 := (hR.out.1.all j ho).2
          exact absurd h5 (Nat.not_le.2 h6)
        have HNS := Lib.hid (Sl.of_owns H6.out.2.2.1)
        clear hnv
        go_wp2_with fail
        refine (Loose_c H6.out.1).mono ?_
        rintro e w7 ⟨lv, rfl, hlv⟩
        have hd7 := H6.out.1.keep hlv.fp (fun _ _ h => h)
        have hcr := Crash_c hd7 kv keep (HL.out.2.2.1.keep (H6.out.2.1.then hlv.fp) (fun _ _ _ h => h)) HKD.out
        rw [hkv] at hcr
        have H7 := Lib.hid (And.intro (H6.out.2.1.then hlv.fp) (And.intro hlv (And.intro (HNS.out.keep hlv.fp (fun _ _ h => h)) hcr)))
        obtain ⟨lao, lcap, rfl, hlc⟩ := hlv.cells
        have HLC := Lib.hid hlc
        clear hd7 hcr hlv hlc
        go_wp2_with fail
        refine H7.out.2.2.2.mono ?_
        rintro e w8 ⟨rfl, hd8, hf8⟩
        have H8 := Lib.hid (And.intro hd8 (And.intro (H7.out.1.trans hf8 HZ0.out.1) (And.intro hf8 (H7.out.2.2.1.keep hf8 HNO.out)))); clear hd8 hf8
        go_wp2_with fail
        refine (Bytes_c H8.out.1).mono ?_
        rintro e w9 ⟨fv, rfl, hfv⟩
        have H9 := Lib.hid (And.intro (H8.out.1.keep hfv.fp (fun _ _ h => h)) (And.intro (H8.out.2.1.then hfv.fp) (And.intro (H8.out.2.2.2.keep hfv.fp (fun _ _ h => h)) hfv)))
        have hfl : (dCrash s keep).cur.length = l.length := by
          have h3 : (dCrash s keep).wet.length = s.wet.length := by simp [dCrash]
          rw [H8.out.1.rt.cl, h3, ← hR.out.1.rt.cl, hcl]
        obtain ⟨fao, fcap, hfe⟩ := hfv.shape
        rw [hfl] at hfe
        subst hfe
        have HCL := Lib.hid (And.intro hcl hfl)
        clear hfv hcl hfl
        go_wp2_with fail
        go_loopw [13] (fun i wr => ∃ k : Nat, k ≤ N ∧ i = .int .i64 k ∧ wr = w9) (fun i _ => N - (RowKit.intOf i).toNat)
        case atStart => exact ⟨0, Nat.zero_le _, rfl, rfl⟩
        case round =>
          obtain ⟨i, hi, rfl, rfl⟩ := hrel
          obtain ⟨ag, ao', cap', hve, ha1, ha2⟩ := (HL.out.1).at_ (by have := HN.out; omega)
          obtain ⟨rfl, rfl⟩ : ao = some ⟨ag, ao', none⟩ ∧ cap = cap' := by rw [hv] at hve; injection hve with x1 x2 x3; exact ⟨x1, x3⟩
          obtain ⟨bg, bo, cap2, hne, hb1, hb2⟩ := HNS.out.at_ (by have := HN.out; have := HCL.out; omega)
          obtain ⟨rfl, rfl⟩ : nao = some ⟨bg, bo, none⟩ ∧ ncap = cap2 := by injection hne with x1 x2 x3; exact ⟨x1, x3⟩
          obtain ⟨cg, co, cap3, hfe, hc1, hc2⟩ := H9.out.2.2.2.sl.at_ (by have := HN.out; have := HCL.out; omega)
          obtain ⟨rfl, rfl⟩ : fao = some ⟨cg, co, none⟩ ∧ fcap = cap3 := by injection hfe with x1 x2 x3; exact ⟨x1, x3⟩
          by_cases hlt : i < N
          · have eN := rnd_N N l.length HN.out.2.1 HN.out.2.2.1
            have g2 : ((i : Int) < (N : Int)) = True := eq_true (Int.ofNat_lt.2 hlt)
            have hl9 := HL.out.1.keep H9.out.2.1 (fun _ _ h => h)
            rw [hv] at hl9
            have hb9 := H9.out.2.2.1
            have hc9 := H9.out.2.2.2.sl
            have cva := conv_blk N i hl9 HN.out.2.2.1 hlt
            rw [← HCL.out.1] at hb9
            have cvb := conv_blk N i hb9 (HCL.out.1.trans HN.out.2.2.1) hlt
            rw [← HCL.out.2] at hc9
            have cvc := conv_blk N i hc9 (HCL.out.2.trans HN.out.2.2.1) hlt
            have HI := Lib.hid (And.intro hi hlt)
            have hb : i ≤ 4096 := Nat.le_trans (Nat.le_of_lt hlt) HN.out.2.1
            obtain ⟨b1, d1⟩ := caps N i l.length cap HN.out.2.2.1 hlt ha1
            obtain ⟨b2, d2⟩ := caps N i s.cur.length ncap (HCL.out.1.trans HN.out.2.2.1) hlt hb1
            obtain ⟨b3, d3⟩ := caps N i (dCrash s keep).cur.length fcap (HCL.out.2.trans HN.out.2.2.1) hlt hc1
            have hwl : i < s.wet.length := rnd_wet s hR.out.1.rt N l.length HN.out.2.2.1 HCL.out.1 i hlt
            have hst := stays hR.out.1.rt keep i hwl
            rw [hR.out.2.2.ol] at hst
            have hlc9 : 0 < (loose s.wet).length → ∃ lg, lao = some ⟨lg, 0, none⟩ ∧ ∀ j (hj : j < (loose s.wet).length), wr.cell? ⟨lg, j, none⟩ = some (.int .i64 ((loose s.wet)[j] : Int)) := fun h0 => by
              obtain ⟨lg, e, hge, hc⟩ := HLC.out h0
              exact ⟨lg, e, fun j hj => H9.out.2.2.2.fp.cell (H8.out.2.2.1.cell (hc j hj) (fun ho => absurd (H6.out.1.all _ ho).2 (Nat.not_lt.2 hge))) (fun h => h)⟩
            have hks := HL.out.2.2.1.keep H9.out.2.1 (fun _ _ _ h => h)
            have HST := Lib.hid (And.intro hst (And.intro hlc9 hks))
            clear hi hlt hve hne hfe ha1 ha2 hb1 hb2 hc1 hc2 hl9 hb9 hc9 hwl hst hlc9 hks
            have HQ := Lib.hid (And.intro (loose_len s hR.out.1.rt) (wrap_one i (Nat.lt_of_lt_of_le HI.out.2 HN.out.2.1)))
            generalize blk l i = A at HST cva
            generalize blk s.cur i = Z at HST cvb
            generalize blk (dCrash s keep).cur i = Y at HST cvc
            go_wp2_with fail
            clear cva cvb cvc b1 b2 b3 d1 d2 d3 eN g2
            go_loopw [17, 18] (fun a k w' => ∃ j : Nat, j ≤ (loose s.wet).length ∧ k = .int .i64 j ∧ a = .int .i64 (posn (loose s.wet) i j) ∧ w' = wr) (fun _ k _ => (loose s.wet).length - (RowKit.intOf k).toNat)
            case atStart => exact ⟨0, Nat.zero_le _, rfl, rfl, rfl⟩
            case round =>
              obtain ⟨j, hj, rfl, rfl, rfl⟩ := hrel
              by_cases hjl : j < (loose s.wet).length
              · obtain ⟨lg, rfl, hlc⟩ := HST.out.2.1 (Nat.lt_of_le_of_lt (Nat.zero_le _) hjl)
                have cj := hlc j hjl
                have g5 : ((j : Int) < ((loose s.wet).length : Int)) = True := eq_true (Int.ofNat_lt.2 hjl)
                have g6 : (j < (loose s.wet).length) = True := eq_true hjl
                have hxg : (loose s.wet)[j]? = some (loose s.wet)[j] := List.getElem?_eq_getElem hjl
                generalize (loose s.wet)[j] = x at cj hxg
                have HJ := Lib.hid (And.intro hjl (And.intro (wrap_one j (Nat.lt_of_lt_of_le hjl HQ.out.1)) hxg))
                clear hjl hj hlc hxg
                by_cases hxe : x = i
                · have g7 : ((x : Int) == (i : Int)) = true := by rw [hxe]; exact beq_self_eq_true _
                  have HX := Lib.hid hxe; clear hxe
                  go_wp2
                  go_roundw
                  case rel => exact ⟨j + 1, HJ.out.1, congrArg (Value.int .i64) HJ.out.2.1, by rw [posn_hit (loose s.wet) i j (by rw [← HX.out]; exact HJ.out.2.2)], trivial⟩
                  case measure => have := HJ.out.1; rw [HJ.out.2.1]; simp [RowKit.intOf]; omega
                · have g7 : ((x : Int) == (i : Int)) = false := beq_eq_false_iff_ne.2 (fun e => hxe (Int.ofNat.inj e))
                  have HX := Lib.hid hxe; clear hxe
                  go_wp2
                  go_roundw
                  case rel => exact ⟨j + 1, HJ.out.1, congrArg (Value.int .i64) HJ.out.2.1, by rw [posn_miss (loose s.wet) i j x HJ.out.2.2 HX.out], trivial⟩
                  case measure => have := HJ.out.1; rw [HJ.out.2.1]; simp [RowKit.intOf]; omega
              · have hje : j = (loose s.wet).length := Nat.le_antisymm hj (Nat.not_lt.1 hjl)
                subst hje
                have g5 : (((loose s.wet).length : Int) < ((loose s.wet).length : Int)) = False := eq_false (Int.lt_irrefl _)
                clear hjl hj
                rcases HST.out.1 with ⟨p, hp, e, hY⟩ | ⟨e, hZ, hY⟩
                · rw [e]
                  clear e
                  by_cases hpk : p < keep.length
                  · obtain ⟨kao', kcap', hke, hk1, _, hk3⟩ := HST.out.2.2.ex
                    obtain ⟨rfl, rfl⟩ : kao = kao' ∧ kcap = kcap' := by rw [hkv] at hke; injection hke with x1 x2 x3; exact ⟨x1, x3⟩
                    rcases hk3 with hk3 | ⟨kg, ko, rfl, _, hk3⟩
                    · exact absurd (Nat.lt_of_lt_of_le hpk (hk3 ▸ hk1)) (Nat.not_lt_zero p)
                    have ck := hk3 p hpk
                    have g8 : ((p : Int) < (keep.length : Int)) = True := eq_true (Int.ofNat_lt.2 hpk)
                    have g9 : (p < keep.length) = True := eq_true hpk
                    have hge : keep.getD p false = keep[p] := by simp [List.getD, hpk]
                    rw [hge] at hY
                    generalize keep[p] = K at ck hY
                    clear hpk hk3 hk1 hke hge hp
                    cases K with
                    | true =>
                      rw [if_pos rfl] at hY
                      subst hY
                      go_wp2
                      go_roundw
                      case rel => exact ⟨i + 1, HI.out.2, congrArg (Value.int .i64) (Int.natCast_succ i).symm, trivial⟩
                      case measure => have := HI.out.2; simp [RowKit.intOf]; omega
                    | false =>
                      rw [if_neg Bool.false_ne_true] at hY
                      subst hY
                      go_wp2
                      go_roundw
                      case rel => exact ⟨i + 1, HI.out.2, congrArg (Value.int .i64) (Int.natCast_succ i).symm, trivial⟩
                      case measure => have := HI.out.2; simp [RowKit.intOf]; omega
                  · have g8 : ((p : Int) < (keep.length : Int)) = False := eq_false (fun h => hpk (Int.ofNat_lt.1 h))
                    have hge : keep.getD p false = false := by simp [List.getD, Nat.not_lt.1 hpk]
                    rw [hge, if_neg Bool.false_ne_true] at hY
                    subst hY
                    clear hpk hge hp
                    go_wp2
                    go_roundw
                    case rel => exact ⟨i + 1, HI.out.2, congrArg (Value.int .i64) (Int.natCast_succ i).symm, trivial⟩
                    case measure => have := HI.out.2; simp [RowKit.intOf]; omega
                · rw [e]
                  clear e
                  subst hZ
                  subst hY
                  go_wp2
                  go_roundw
                  case rel => exact ⟨i + 1, HI.out.2, congrArg (Value.int .i64) (Int.natCast_succ i).symm, trivial⟩
                  case measure => have := HI.out.2; simp [RowKit.intOf]; omega
          · have hie : i = N := Nat.le_antisymm hi (Nat.not_lt.1 hlt)
            have eN := rnd_N N l.length HN.out.2.1 HN.out.2.2.1
            have g2 : ((i : Int) < (N : Int)) = False := eq_false (fun h => hlt (Int.ofNat_lt.1 h))
            have hlo := Loose_c H9.out.1
            have hl0 : loose (dCrash s keep).wet = [] := loose_rep _
            rw [hl0] at hlo
            have HLO := Lib.hid hlo
            clear hi hlt hve hne hfe ha1 ha2 hb1 hb2 hc1 hc2 hie hlo hl0
            go_wp2_with fail
            refine HLO.out.mono ?_
            rintro e w10 ⟨v10, rfl, h10⟩
            obtain ⟨lao2, lcap2, rfl, _⟩ := h10.cells
            have H10 := Lib.hid (H9.out.2.1.then h10.fp); clear h10
            go_wp2
            go_ret
            exact ⟨rfl, H10.out⟩

theorem SectorStays_c (v : Value) (l : Bs) (qv : Value) (q : List Oq) (kv : Value) (keep : List Bool) (w : World) (hl : Sl w v l) (hq : Oqs w w.heap.size qv q) (hk : Sb w kv keep ∧ (0 < keep.length → ∀ k, kv.ownBlock = some k → k < w.heap.size)) : Calls Try.prog 5 #[v, qv, kv] w fun e w' => e = .returned (.bool true) ∧ Fp Non w w' := by
  by_cases h : 1 ≤ l.length / 16 ∧ l.length / 16 ≤ 4096 ∧ l.length % 16 = 0
  · by_cases h5 : l.length ≤ 5000
    · exact Stays_some v l qv q kv keep w hl hq hk (l.length / 16) h.1 h.2.1 (by omega) h5
    · exact Stays_long v l qv q kv w hl hq (l.length / 16) h.1 h.2.1 (by omega) (by omega)
  · exact Stays_none v l qv kv w hl h
end Go.Proofs.Ytiafndcpggngoaa
