/- Sync, Read, Bytes, New, Of. -/
import Derived.Test.YtankfmlafmjaeaaGreatWr
import Derived.Carry
namespace Go.Proofs.YtankfmlafmjaeaaGreat
set_option maxRecDepth 20000
open Go.RowKit Pm

theorem Nw.shape3 {w w' : World} {v : Value} {l : Bs} (h : Nw w w' v l) : ∃ ao n cap, v = .slice ao n cap := by
  obtain ⟨ao, cap, e⟩ := h.shape; exact ⟨ao, _, cap, e⟩
/-- All is synced. -/
theorem Dr.synced {lo b g m : Nat} {s : Dk} {w w' : World} (h : Dr lo b g m s w) (hc : ClR m w w') : Dr lo b g m { s with old := s.cur, wet := List.replicate s.wet.length false } w' :=
  ⟨h.rt.synced s.cur h.rt.cl s.fuse s.off h.rt.f1 h.rt.f2, h.low, h.ne, by
    have := hc.fp.heap h.blk h.ne.2.1
    simpa [dcells] using this, h.row.keep hc.fp (fun e => h.ne.2.2 e), hc.mp _ _⟩

set_option maxHeartbeats 1000000 in
theorem Sync_c {lo b g m : Nat} {s : Dk} {w : World} (h : Dr lo b g m s w) (hacts : s.acts ≤ 999999) :
    Calls Tryz.prog 37 #[.pointer (some ⟨b, 0, none⟩)] w fun e w' => e = .returned (.int .i64 (dSync s).1) ∧ Dr lo b g m (dSync s).2 w' ∧ Fp (own3 b g m) w w' := by
  have hc := power_c h
  have HH := Lib.hid (And.intro h hacts); clear h hacts
  unfold dSync
  cases hoff : (pw s).off with
  | true =>
    rw [hoff] at hc
    simp only [if_true] at hc ⊢
    have HC := Lib.hid hc; clear hc
    go_enter Tryz.func37, Tryz.ntmps37
    go_wp2_with fail
    refine HC.out.mono ?_
    rintro e w1 ⟨rfl, hp, hf1⟩
    have HP := Lib.hid (And.intro hp hf1); clear hp hf1
    go_wp2
    go_ret
    exact ⟨rfl, HP.out.1, HP.out.2.mono (fun k hk => .inl hk)⟩
  | false =>
    rw [hoff] at hc
    simp only [Bool.false_eq_true, if_false] at hc ⊢
    have HC := Lib.hid hc; clear hc
    go_enter Tryz.func37, Tryz.ntmps37
    go_wp2_with fail
    refine HC.out.mono ?_
    rintro e w1 ⟨rfl, hp, hf1⟩
    have c1 := hp.c1
    have hcl := hp.mp.clear 0
    have HCL := Lib.hid hcl
    have HP := Lib.hid (And.intro hp hf1); clear hp hf1 hcl
    go_wp2_with (refine wpList_clear rfl _ _ rfl _ rfl _ HCL.out ?_; intro w2 hw2)
    have hd := HP.out.1.synced hw2
    have hf := hw2.fp
    clear hw2
    refine (performed_c hd (by show s.acts ≤ _; have := HH.out.2; omega)).mono ?_
    rintro e w3 ⟨rfl, hd3, hf3⟩
    have HD := Lib.hid (And.intro hd3 ((HP.out.2.mono (T := own3 b g m) (fun x hx => .inl hx)).same ((hf.mono (fun x hx => .inr (.inr hx))).same (hf3.mono (fun x hx => .inl hx))))); clear hd3 hf3 hd hf
    go_wp2
    go_ret
    exact ⟨rfl, HD.out.1, HD.out.2⟩

set_option maxHeartbeats 1000000 in
theorem Read_c {lo b g m : Nat} {s : Dk} {w : World} (h : Dr lo b g m s w) (a n : Int) (ha : a ≤ 9223372036854775807) :
    Calls Tryz.prog 25 #[.pointer (some ⟨b, 0, none⟩), .int .i64 a, .int .i64 n] w fun e w' => ∃ v, e = .returned (.tuple #[v, .int .i64 (dRead s a n).2]) ∧ Nw w w' v (dRead s a n).1 := by
  have c4 := h.c4
  have hwi := within_c h a n ha
  have HN := Lib.hid (Nw.nil w)
  have HH := Lib.hid h; clear h
  unfold dRead
  cases hoff : s.off with
  | true =>
    rw [hoff] at c4
    simp only [if_true]
    clear hwi
    go_enter Tryz.func25, Tryz.ntmps25
    go_wp2
    go_ret2
    exact ⟨_, rfl, HN.out⟩
  | false =>
    rw [hoff] at c4
    simp only [Bool.false_eq_true, if_false]
    by_cases hfit : fits s a n
    · have hd : decide (fits s a n) = true := decide_eq_true hfit
      rw [hd] at hwi
      rw [if_pos hfit]
      obtain ⟨a, rfl⟩ := Int.eq_ofNat_of_zero_le hfit.1
      obtain ⟨n, rfl⟩ := Int.eq_ofNat_of_zero_le hfit.2.1
      rw [Int.toNat_natCast, Int.toNat_natCast]
      have hby := bytes_c HH.out a n (by have := hfit.2.2; omega)
      have HW := Lib.hid hwi
      have HB := Lib.hid hby
      clear hwi hby hd hfit
      go_enter Tryz.func25, Tryz.ntmps25
      go_wp2_with fail
      refine HW.out.mono ?_
      rintro e w2 ⟨rfl, rfl⟩
      go_wp2_with fail
      refine HB.out.mono ?_
      rintro e w3 ⟨v, rfl, hv⟩
      have HV := Lib.hid hv
      obtain ⟨ao, vn, cap, rfl⟩ := hv.shape3
      clear hv
      go_wp2
      go_ret2
      exact ⟨_, rfl, HV.out⟩
    · have hd : decide (fits s a n) = false := decide_eq_false hfit
      rw [hd] at hwi
      rw [if_neg hfit]
      have HW := Lib.hid hwi
      clear hwi hd hfit
      go_enter Tryz.func25, Tryz.ntmps25
      go_wp2_with fail
      refine HW.out.mono ?_
      rintro e w2 ⟨rfl, rfl⟩
      go_wp2
      go_ret2
      exact ⟨_, rfl, HN.out⟩

theorem Bytes_c {lo b g m : Nat} {s : Dk} {w : World} (h : Dr lo b g m s w) :
    Calls Tryz.prog 23 #[.pointer (some ⟨b, 0, none⟩)] w fun e w' => ∃ v, e = .returned v ∧ Nw w w' v s.cur := by
  have hby := bytes_c h 0 s.cur.length (by omega)
  rw [List.drop_zero, List.take_length] at hby
  have HH := Lib.hid h; clear h
  have HB := Lib.hid hby; clear hby
  go_enter Tryz.func23, Tryz.ntmps23
  go_wp2_with fail
  refine (Size_c HH.out).mono ?_
  rintro e w2 ⟨rfl, rfl⟩
  go_wp2_with fail
  refine HB.out.mono ?_
  rintro e w3 ⟨v, rfl, hv⟩
  have HV := Lib.hid hv
  obtain ⟨ao, vn, cap, rfl⟩ := hv.shape3
  clear hv
  go_wp2
  go_ret
  exact ⟨_, rfl, HV.out⟩

theorem Dr.new (lo : Nat) (w : World) (n : Nat) (h1 : 1 ≤ n) (h2 : n ≤ 4096) (hlo : lo ≤ w.heap.size) :
    let w1 := w.alloc (.cells (Lib.byteCells (List.replicate (n * 16) 0)).toArray TB)
    let w2 := w1.alloc (.map #[] 0)
    let w3 := w2.alloc (.cells (dcells w.heap.size (w.heap.size + 1) (dOf (List.replicate (n * 16) 0))) TD)
    Dr lo (w.heap.size + 2) w.heap.size (w.heap.size + 1) (dOf (List.replicate (n * 16) 0)) w3 ∧ Fp Non w w3 := by
  intro w1 w2 w3
  have f1 : Fp Non w w1 := (Fp.refl Non w).alloc _
  have f2 : Fp Non w1 w2 := (Fp.refl Non w1).alloc _
  have f3 : Fp Non w2 w3 := (Fp.refl Non w2).alloc _
  have s1 : w1.heap.size = w.heap.size + 1 := by simp [w1]
  have s2 : w2.heap.size = w.heap.size + 2 := by simp [w2, w1]
  have hr : Rw w1 w.heap.size TB (List.replicate (n * 16) 0) := Rw.made w TB _
  have hm : Mp w2 w1.heap.size (List.replicate n false) (List.replicate (n * 16) 0) := Mp.made w1 n _
  rw [s1] at hm
  have hb : w3.heap[w2.heap.size]? = _ := heap_alloc_new w2 _
  rw [s2] at hb
  have hn : (dOf (List.replicate (n * 16) 0)).wet = List.replicate n false := by simp [dOf]
  refine ⟨⟨Rt.of _ n h1 h2 (by simp), ⟨by omega, by omega, by omega⟩, ⟨by omega, by omega, by omega⟩, hb, (hr.keep f2 (fun h => h)).keep f3 (fun h => h), ?_⟩, (f1.then f2).then f3⟩
  rw [hn]
  exact hm.keep f3 (fun h => h)

set_option maxHeartbeats 1000000 in
theorem New_c (lo : Nat) (w : World) (n : Nat) (h1 : 1 ≤ n) (h2 : n ≤ 4096) (hlo : lo ≤ w.heap.size) :
    Calls Tryz.prog 26 #[.int .i64 (n : Int)] w fun e w' => ∃ b g m, e = .returned (.pointer (some ⟨b, 0, none⟩)) ∧ Dr lo b g m (dOf (List.replicate (n * 16) 0)) w' ∧ Fp Non w w' ∧ (∀ k, own3 b g m k → w.heap.size ≤ k) := by
  have hnew := Dr.new lo w n h1 h2 hlo
  have hmk := make_blocks w n h2
  have hmm := @run_makeMap Tryz.prog
  obtain ⟨w1, hw1⟩ : ∃ w1, w1 = w.alloc (.cells (Lib.byteCells (List.replicate (n * 16) 0)).toArray TB) := ⟨_, rfl⟩
  have hs1 : w1.heap.size = w.heap.size + 1 := by rw [hw1]; simp
  simp only [← hw1] at hnew hmk
  have hwl : (dOf (List.replicate (n * 16) 0)).wet.length = n := by simp [dOf]
  unfold dcells at hnew
  rw [hwl] at hnew
  have e0 : (dOf (List.replicate (n * 16) 0)).acts = 0 := rfl
  have e1 : (dOf (List.replicate (n * 16) 0)).fuse = -1 := rfl
  have e2 : (dOf (List.replicate (n * 16) 0)).off = false := rfl
  rw [e0, e1, e2] at hnew
  have HN := Lib.hid hnew
  have HM := Lib.hid hmk
  have q1 : ((n : Int) < 1) = False := eq_false (by omega)
  have q2 : ((4096 : Int) < (n : Int)) = False := eq_false (by omega)
  have HX := Lib.hid (And.intro hw1 (And.intro hwl (And.intro h1 (And.intro h2 (And.intro hlo (And.intro e0 (And.intro e1 e2)))))))
  clear hnew hmk hw1 hwl h1 h2 hlo e0 e1 e2
  go_enter Tryz.func26, Tryz.ntmps26
  go_wp2_with (refine wpList_make_run rfl 58 _ _ rfl _ _ _ rfl rfl HM.out ?_)
  go_ret
  exact ⟨_, _, _, rfl, HN.out.1, HN.out.2, by rintro k (rfl | rfl | rfl) <;> omega⟩

theorem New_none (w : World) (n : Int) (h : n < 1 ∨ 4096 < n) :
    Calls Tryz.prog 26 #[.int .i64 n] w fun e w' => e = .returned (.pointer none) ∧ w' = w := by
  by_cases h1 : n < 1
  · have q1 : (n < 1) = True := eq_true h1
    clear h h1
    go_enter Tryz.func26, Tryz.ntmps26
    go_wp2
    go_ret
    exact ⟨rfl, rfl⟩
  · have q1 : (n < 1) = False := eq_false h1
    have q2 : (4096 < n) = True := eq_true (by omega)
    clear h h1
    go_enter Tryz.func26, Tryz.ntmps26
    go_wp2
    go_ret
    exact ⟨rfl, rfl⟩

/-- A disk's bytes, all synced. -/
theorem Dr.fill {lo b g m : Nat} {c c' : Bs} {w w' : World} {n : Nat} (h : Dr lo b g m (dOf c) w) (hf : Fp (fun k => k = g) w w') (hr : Rw w' g TB c') (hc : c.length = n * 16) (hc' : c'.length = n * 16) (hn : 1 ≤ n ∧ n ≤ 4096) :
    Dr lo b g m (dOf c') w' := by
  have hw : (dOf c').wet = (dOf c).wet := by simp [dOf, hc, hc']
  refine ⟨Rt.of c' n hn.1 hn.2 hc', h.low, h.ne, ?_, hr, ?_⟩
  · have := hf.heap h.blk h.ne.1
    simpa [dcells, dOf, hc, hc'] using this
  · have := h.mp.keep hf (fun e => h.ne.2.2 e.symm)
    obtain ⟨D, h1, h2, h3⟩ := this
    refine ⟨D, h1, by rw [hw]; exact h2, fun i hi hwi => ?_⟩
    simp [dOf] at hwi

theorem Of_none (w : World) (v : Value) (l : Bs) (hl : Sl w v l) (h : ¬ (1 ≤ l.length / 16 ∧ l.length / 16 ≤ 4096 ∧ l.length % 16 = 0)) :
    Calls Tryz.prog 6 #[v] w fun e w' => e = .returned (.pointer none) ∧ w' = w := by
  obtain ⟨ao, cap, rfl, h1, h2, h3⟩ := hl.ex
  unfold maxLen at h2
  clear hl h3
  by_cases hm : l.length % 16 = 0
  · have t2 : ((l.length : Int)).tmod 16 = 0 := by rw [Int.tmod_eq_emod_of_nonneg (by omega)]; omega
    have t1 : ((l.length : Int)).tdiv 16 = ((l.length / 16 : Nat) : Int) := by rw [Int.tdiv_eq_ediv_of_nonneg (by omega)]; omega
    obtain ⟨q, hq⟩ : ∃ q, q = l.length / 16 := ⟨_, rfl⟩
    rw [← hq] at t1
    have hqb : q ≤ 9223372036854775807 := by omega
    have HX := New_none w (q : Int) (by omega)
    have e2 : (l.length : Int) % 16 = 0 := by omega
    have e1 : (l.length : Int) / 16 = (q : Int) := by omega
    have HN := Lib.hid HX; clear HX h hq
    go_enter Tryz.func6, Tryz.ntmps6
    go_wp2_with fail
    refine HN.out.mono ?_
    rintro e w' ⟨rfl, rfl⟩
    go_wp2
    go_ret
    exact ⟨rfl, rfl⟩
  · have q1 : ((l.length : Int).tmod 16 = 0) = False := eq_false (by rw [Int.tmod_eq_emod_of_nonneg (by omega)]; omega)
    have q2 : ((l.length : Int) % 16 = 0) = False := eq_false (by omega)
    have q3 : ((l.length : Int) % 16 != 0) = true := by simp; omega
    have q4 : ((l.length : Int).tmod 16 != 0) = true := by rw [Int.tmod_eq_emod_of_nonneg (by omega)]; exact q3
    clear h hm
    go_enter Tryz.func6, Tryz.ntmps6
    go_wp2
    go_ret
    exact ⟨rfl, rfl⟩

set_option maxHeartbeats 2000000 in
theorem Of_c (lo : Nat) (w : World) (v : Value) (l : Bs) (hl : Sl w v l) (n : Nat) (h1 : 1 ≤ n) (h2 : n ≤ 4096) (hln : l.length = n * 16) (hlo : lo ≤ w.heap.size) :
    Calls Tryz.prog 6 #[v] w fun e w' => ∃ b g m, e = .returned (.pointer (some ⟨b, 0, none⟩)) ∧ Dr lo b g m (dOf l) w' ∧ Fp Non w w' ∧ (∀ k, own3 b g m k → w.heap.size ≤ k) := by
  obtain ⟨ao, cap, rfl, hc1, hc2, h3⟩ := hl.ex
  rcases h3 with ⟨h0, h00⟩ | ⟨g2, o2, rfl, hg2, hcl⟩
  · omega
  unfold maxLen at hc2
  have t2 : ((l.length : Int)).tmod 16 = 0 := by rw [Int.tmod_eq_emod_of_nonneg (by omega)]; omega
  have t1 : ((l.length : Int)).tdiv 16 = (n : Int) := by rw [Int.tdiv_eq_ediv_of_nonneg (by omega)]; omega
  have e2 : (l.length : Int) % 16 = 0 := by omega
  have e1 : (l.length : Int) / 16 = (n : Int) := by omega
  have hnew := New_c lo w n h1 h2 hlo
  have HN := Lib.hid hnew
  have HL := Lib.hid hl
  have HC := Lib.hid hcl
  have HLN := Lib.hid hln
  clear hnew hl hcl hln
  go_enter Tryz.func6, Tryz.ntmps6
  go_wp2_with fail
  refine HN.out.mono ?_
  rintro e w1 ⟨b, g, m, rfl, hd, hf, hown⟩
  have c0 := hd.c0
  rw [show (dOf (List.replicate (n * 16) 0)).wet.length = n by simp [dOf]] at c0
  have hgb : g ≠ b := fun e => hd.ne.1 e.symm
  have HD := Lib.hid (And.intro hd (And.intro hf hown)); clear hd hf hown
  go_wp2_with fail
  clear t1 t2 e1 e2
  go_loopw [20, 4] (fun i _ wr => ∃ k : Nat, k ≤ n ∧ i = .int .i64 k ∧ Hid (Dr lo b g m (dOf (spl (List.replicate (n * 16) 0) 0 (l.take (k * 16)))) wr ∧ Fp (fun j => j = g) w1 wr)) (fun i _ _ => n - (RowKit.intOf i).toNat)
  case atStart => exact ⟨0, Nat.zero_le _, rfl, by rw [Nat.zero_mul, List.take_zero, spl_nil]; exact ⟨HD.out.1, Fp.refl _ _⟩⟩
  case round =>
    obtain ⟨k, hk, rfl, hR⟩ := hrel
    rename_i wr _
    have hln := HLN.out
    by_cases hlt : k < n
    · have q1 : ((k : Int) < (n : Int)) = True := eq_true (by omega)
      have q2 : (k < n) = True := eq_true hlt
      obtain ⟨p, hp⟩ : ∃ p, p = k * 16 := ⟨_, rfl⟩
      have htl : (l.take (k * 16)).length = k * 16 := by simp; omega
      have hzl : (List.replicate (n * 16) (0 : UInt8)).length = n * 16 := by simp
      have hsc : (spl (List.replicate (n * 16) 0) 0 (l.take (k * 16))).length = n * 16 := by rw [spl_len _ _ _ (by rw [htl, hzl]; omega), hzl]
      have c0 : wr.cell? ⟨b, 0, none⟩ = some (.slice (some ⟨g, 0, none⟩) n n) := by
        have := hR.out.1.c0
        rwa [show (dOf (spl (List.replicate (n * 16) 0) 0 (l.take (k * 16)))).wet.length = n by simp [dOf, hsc]] at this
      have hrow : Rw wr.drew g TB (spl (List.replicate (n * 16) 0) 0 (l.take (k * 16))) := hR.out.1.row.keep (Fp.drew (Fp.refl Non wr)) (fun h => h)
      have hsl : Sl wr.drew (.slice (some ⟨g2, o2 + p, none⟩) (l.length - p) (cap - p)) (l.drop (k * 16)) := by
        rw [hp]
        exact
        (((HL.out.keep HD.out.2.1 (fun _ _ h => h)).keep hR.out.2 (fun x hx e => by have := HD.out.2.2 g (.inr (.inl rfl)); injection hx with hx; simp at hx; omega)).keep (Fp.drew (Fp.refl Non wr)) (fun _ _ h => h)).drop (k * 16) (by omega)
      have hcp := copy_at hrow (k * 16) 16 16 hsl 16 (by rw [List.length_drop]; exact (Nat.min_eq_right (by omega)).symm) (by rw [hsc]; omega) (some ⟨g, k * 16, none⟩) (fun _ => rfl) 3
      have hnext : spl (spl (List.replicate (n * 16) 0) 0 (l.take (k * 16))) (k * 16) ((l.drop (k * 16)).take 16) = spl (List.replicate (n * 16) 0) 0 (l.take ((k + 1) * 16)) := by
        have := spl_spl (List.replicate (n * 16) 0) 0 (l.take (k * 16)) ((l.drop (k * 16)).take 16) (by simp; omega)
        rw [Nat.zero_add, htl] at this
        rw [this, Nat.add_mul, List.take_add]
      rw [hnext] at hcp
      have hfin : Hid (∀ v w4, CpR g TB (spl (List.replicate (n * 16) 0) 0 (l.take ((k + 1) * 16))) 16 wr.drew v w4 → Dr lo b g m (dOf (spl (List.replicate (n * 16) 0) 0 (l.take ((k + 1) * 16)))) w4 ∧ Fp (fun j => j = g) w1 w4) := fun v w4 hc4 =>
        ⟨hR.out.1.fill (n := n) (Fp.drew (Fp.refl (fun j => j = g) wr) |>.same hc4.fp) hc4.row hsc (by rw [spl_len _ _ _ (by simp; omega), hzl]) ⟨h1, h2⟩, (hR.out.2.drew).same hc4.fp⟩
      have HC2 := Lib.hid hcp
      have q5 := slice_blk0 g (k * 16)
      have q9 : IntKind.i64.wrap ((k : Int) * 16) = (p : Int) := by rw [IntKind.wrap_i64]; omega
      have q10 : wrap64 ((k : Int) * 16) = (p : Int) := by unfold wrap64; omega
      have q11 : (k : Int) * 16 = (p : Int) := by omega
      have q12 : IntKind.i64.wrap (p : Int) = (p : Int) := by rw [IntKind.wrap_i64]; omega
      have q6 : (cap = p) = False := eq_false (by omega)
      have q7 : ((p : Int) ≤ (l.length : Int)) = True := eq_true (by omega)
      have q8 : (p ≤ l.length) = True := eq_true (by omega)
      have hpb : p ≤ 70000 := by omega
      have hkb : k ≤ 4096 := by omega
      have HZ := Lib.hid (And.intro hrow (And.intro hsl (And.intro hsc (And.intro htl (And.intro hlt (And.intro hk (And.intro hln hp)))))))
      clear hrow hsl hsc htl hcp hnext hlt hk hln hp hzl
      go_wp2_with fail
      go_region_law (refine step_copy rfl _ _ _ _ rfl _ _ rfl rfl _ HC2.out ?_; intro v' w4 hw4; have HW := Lib.hid (hfin.out _ _ hw4); obtain rfl := hw4.val; clear hw4)
      clear q2 q5 q6 q7 q8 q9 q10 q11 q12 hc1 hc2 hlo hpb
      go_wp2
      go_roundw
      case rel =>
        have hlt2 := HZ.out.2.2.2.2.1
        exact ⟨k + 1, hlt2, rfl, HW.out⟩
      case measure =>
        have hlt2 := HZ.out.2.2.2.2.1
        simp [RowKit.intOf]; omega
    · have q1 : ((k : Int) < (n : Int)) = False := eq_false (by omega)
      have hkn : l.take (k * 16) = l := List.take_of_length_le (by have : k = n := by omega
                                                                   subst this; omega)
      rw [hkn, spl_all _ _ (by simp; omega)] at hR
      have HZ := Lib.hid (And.intro hkn (And.intro hlt hk)); clear hkn hlt hk hln
      go_wp2
      go_ret
      exact ⟨_, _, _, rfl, hR.out.1, HD.out.2.1.trans hR.out.2 (fun x hx => .inr (by have := HD.out.2.2 g (.inr (.inl rfl)); omega)), HD.out.2.2⟩
end Go.Proofs.YtankfmlafmjaeaaGreat
