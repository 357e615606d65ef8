/- Sync, Read, Bytes, New, Of. -/
import Derived.Test.YtkpcpnlfbajbiaaWr
import Derived.Carry
namespace Go.Proofs.Ytkpcpnlfbajbiaa
set_option maxRecDepth 20000
open Go.RowKit Pm

theorem Nw.shape3 {w w' : World} {v : Value} {l : Bs} (h : Nw w w' v l) : ∃ ao n cap, v = .slice ao n cap := by
  obtain ⟨ao, cap, e⟩ := h.shape; exact ⟨ao, _, cap, e⟩
/-- All is synced. -/
theorem Dr.synced {lo b g m : Nat} {s : Dk} {w w' : World} (h : Dr lo b g m s w) (hc : ClR m w w') : Dr lo b g m { s with old := s.cur, wet := List.replicate s.wet.length false } w' :=
  ⟨h.rt.synced s.cur h.rt.cl s.fuse s.off h.rt.f1 h.rt.f2, h.low, h.ne, by
    have := hc.fp.heap h.blk h.ne.2.1
    simpa [dcells] using this, h.row.keep hc.fp (fun e => h.ne.2.2 e), hc.mp _ _⟩

set_option maxHeartbeats 1000000 in
theorem Sync_c {lo b g m : Nat} {s : Dk} {w : World} (h : Dr lo b g m s w) (hacts : s.acts ≤ 999999) :
    Calls Try.prog 22 #[.pointer (some ⟨b, 0, none⟩)] w fun e w' => e = .returned (.int .i64 (dSync s).1) ∧ Dr lo b g m (dSync s).2 w' ∧ Fp (own3 b g m) w w' := by
  have hc := power_c h
  have HH := Lib.hid (And.intro h hacts); clear h hacts
  unfold dSync
  cases hoff : (pw s).off with
  | true =>
    rw [hoff] at hc
    simp only [if_true] at hc ⊢
    have HC := Lib.hid hc; clear hc
    go_enter Try.func22, Try.ntmps22
    go_wp2_with fail
    refine HC.out.mono ?_
    rintro e w1 ⟨rfl, hp, hf1⟩
    have HP := Lib.hid (And.intro hp hf1); clear hp hf1
    go_wp2
    go_ret
    exact ⟨rfl, HP.out.1, HP.out.2.mono (fun k hk => .inl hk)⟩
  | false =>
    rw [hoff] at hc
    simp only [Bool.false_eq_true, if_false] at hc ⊢
    have HC := Lib.hid hc; clear hc
    go_enter Try.func22, Try.ntmps22
    go_wp2_with fail
    refine HC.out.mono ?_
    rintro e w1 ⟨rfl, hp, hf1⟩
    have c1 := hp.c1
    have hcl := hp.mp.clear 0
    have HCL := Lib.hid hcl
    have HP := Lib.hid (And.intro hp hf1); clear hp hf1 hcl
    go_wp2_with (refine wpList_clear rfl _ _ rfl _ rfl _ HCL.out ?_; intro w2 hw2)
    have hd := HP.out.1.synced hw2
    have hf := hw2.fp
    clear hw2
    refine (performed_c hd (by show s.acts ≤ _; have := HH.out.2; omega)).mono ?_
    rintro e w3 ⟨rfl, hd3, hf3⟩
    have HD := Lib.hid (And.intro hd3 ((HP.out.2.mono (T := own3 b g m) (fun x hx => .inl hx)).same ((hf.mono (fun x hx => .inr (.inr hx))).same (hf3.mono (fun x hx => .inl hx))))); clear hd3 hf3 hd hf
    go_wp2
    go_ret
    exact ⟨rfl, HD.out.1, HD.out.2⟩

set_option maxHeartbeats 1000000 in
theorem Read_c {lo b g m : Nat} {s : Dk} {w : World} (h : Dr lo b g m s w) (a n : Int) (ha : a ≤ 9223372036854775807) :
    Calls Try.prog 13 #[.pointer (some ⟨b, 0, none⟩), .int .i64 a, .int .i64 n] w fun e w' => ∃ v, e = .returned (.tuple #[v, .int .i64 (dRead s a n).2]) ∧ Nw w w' v (dRead s a n).1 := by
  have c4 := h.c4
  have hwi := within_c h a n ha
  have HN := Lib.hid (Nw.nil w)
  have HH := Lib.hid h; clear h
  unfold dRead
  cases hoff : s.off with
  | true =>
    rw [hoff] at c4
    simp only [if_true]
    clear hwi
    go_enter Try.func13, Try.ntmps13
    go_wp2
    go_ret2
    exact ⟨_, rfl, HN.out⟩
  | false =>
    rw [hoff] at c4
    simp only [Bool.false_eq_true, if_false]
    by_cases hfit : fits s a n
    · have hd : decide (fits s a n) = true := decide_eq_true hfit
      rw [hd] at hwi
      rw [if_pos hfit]
      obtain ⟨a, rfl⟩ := Int.eq_ofNat_of_zero_le hfit.1
      obtain ⟨n, rfl⟩ := Int.eq_ofNat_of_zero_le hfit.2.1
      rw [Int.toNat_natCast, Int.toNat_natCast]
      have hby := bytes_c HH.out a n (by have := hfit.2.2; omega)
      have HW := Lib.hid hwi
      have HB := Lib.hid hby
      clear hwi hby hd hfit
      go_enter Try.func13, Try.ntmps13
      go_wp2_with fail
      refine HW.out.mono ?_
      rintro e w2 ⟨rfl, rfl⟩
      go_wp2_with fail
      refine HB.out.mono ?_
      rintro e w3 ⟨v, rfl, hv⟩
      have HV := Lib.hid hv
      obtain ⟨ao, vn, cap, rfl⟩ := hv.shape3
      clear hv
      go_wp2
      go_ret2
      exact ⟨_, rfl, HV.out⟩
    · have hd : decide (fits s a n) = false := decide_eq_false hfit
      rw [hd] at hwi
      rw [if_neg hfit]
      have HW := Lib.hid hwi
      clear hwi hd hfit
      go_enter Try.func13, Try.ntmps13
      go_wp2_with fail
      refine HW.out.mono ?_
      rintro e w2 ⟨rfl, rfl⟩
      go_wp2
      go_ret2
      exact ⟨_, rfl, HN.out⟩

theorem Dr.new (lo : Nat) (w : World) (n : Nat) (h1 : 1 ≤ n) (h2 : n ≤ 4096) (hlo : lo ≤ w.heap.size) :
    let w1 := w.alloc (.cells (Lib.byteCells (List.replicate (n * 16) 0)).toArray TB)
    let w2 := w1.alloc (.map #[] 0)
    let w3 := w2.alloc (.cells (dcells w.heap.size (w.heap.size + 1) (dOf (List.replicate (n * 16) 0))) TD)
    Dr lo (w.heap.size + 2) w.heap.size (w.heap.size + 1) (dOf (List.replicate (n * 16) 0)) w3 ∧ Fp Non w w3 := by
  intro w1 w2 w3
  have f1 : Fp Non w w1 := (Fp.refl Non w).alloc _
  have f2 : Fp Non w1 w2 := (Fp.refl Non w1).alloc _
  have f3 : Fp Non w2 w3 := (Fp.refl Non w2).alloc _
  have s1 : w1.heap.size = w.heap.size + 1 := by simp [w1]
  have s2 : w2.heap.size = w.heap.size + 2 := by simp [w2, w1]
  have hr : Rw w1 w.heap.size TB (List.replicate (n * 16) 0) := Rw.made w TB _
  have hm : Mp w2 w1.heap.size (List.replicate n false) (List.replicate (n * 16) 0) := Mp.made w1 n _
  rw [s1] at hm
  have hb : w3.heap[w2.heap.size]? = _ := heap_alloc_new w2 _
  rw [s2] at hb
  have hn : (dOf (List.replicate (n * 16) 0)).wet = List.replicate n false := by simp [dOf]
  refine ⟨⟨Rt.of _ n h1 h2 (by simp), ⟨by omega, by omega, by omega⟩, ⟨by omega, by omega, by omega⟩, hb, (hr.keep f2 (fun h => h)).keep f3 (fun h => h), ?_⟩, (f1.then f2).then f3⟩
  rw [hn]
  exact hm.keep f3 (fun h => h)

set_option maxHeartbeats 1000000 in
theorem New_c (lo : Nat) (w : World) (n : Nat) (h1 : 1 ≤ n) (h2 : n ≤ 4096) (hlo : lo ≤ w.heap.size) :
    Calls Try.prog 15 #[.int .i64 (n : Int)] w fun e w' => ∃ b g m, e = .returned (.pointer (some ⟨b, 0, none⟩)) ∧ Dr lo b g m (dOf (List.replicate (n * 16) 0)) w' ∧ Fp Non w w' ∧ (∀ k, own3 b g m k → w.heap.size ≤ k) := by
  have hnew := Dr.new lo w n h1 h2 hlo
  have hmk := make_blocks w n h2
  have hmm := @run_makeMap Try.prog
  obtain ⟨w1, hw1⟩ : ∃ w1, w1 = w.alloc (.cells (Lib.byteCells (List.replicate (n * 16) 0)).toArray TB) := ⟨_, rfl⟩
  have hs1 : w1.heap.size = w.heap.size + 1 := by rw [hw1]; simp
  simp only [← hw1] at hnew hmk
  have hwl : (dOf (List.replicate (n * 16) 0)).wet.length = n := by simp [dOf]
  unfold dcells at hnew
  rw [hwl] at hnew
  have e0 : (dOf (List.replicate (n * 16) 0)).acts = 0 := rfl
  have e1 : (dOf (List.replicate (n * 16) 0)).fuse = -1 := rfl
  have e2 : (dOf (List.replicate (n * 16) 0)).off = false := rfl
  rw [e0, e1, e2] at hnew
  have HN := Lib.hid hnew
  have HM := Lib.hid hmk
  have q1 : ((n : Int) < 1) = False := eq_false (by omega)
  have q2 : ((4096 : Int) < (n : Int)) = False := eq_false (by omega)
  have HX := Lib.hid (And.intro hw1 (And.intro hwl (And.intro h1 (And.intro h2 (And.intro hlo (And.intro e0 (And.intro e1 e2)))))))
  clear hnew hmk hw1 hwl h1 h2 hlo e0 e1 e2
  go_enter Try.func15, Try.ntmps15
  go_wp2_with (refine wpList_make_run rfl 60 _ _ rfl _ _ _ rfl rfl HM.out ?_)
  go_ret
  exact ⟨_, _, _, rfl, HN.out.1, HN.out.2, by rintro k (rfl | rfl | rfl) <;> omega⟩

theorem New_none (w : World) (n : Int) (h : n < 1 ∨ 4096 < n) :
    Calls Try.prog 15 #[.int .i64 n] w fun e w' => e = .returned (.pointer none) ∧ w' = w := by
  by_cases h1 : n < 1
  · have q1 : (n < 1) = True := eq_true h1
    clear h h1
    go_enter Try.func15, Try.ntmps15
    go_wp2
    go_ret
    exact ⟨rfl, rfl⟩
  · have q1 : (n < 1) = False := eq_false h1
    have q2 : (4096 < n) = True := eq_true (by omega)
    clear h h1
    go_enter Try.func15, Try.ntmps15
    go_wp2
    go_ret
    exact ⟨rfl, rfl⟩

/-- A disk's bytes, all synced. -/
theorem Dr.fill {lo b g m : Nat} {c c' : Bs} {w w' : World} {n : Nat} (h : Dr lo b g m (dOf c) w) (hf : Fp (fun k => k = g) w w') (hr : Rw w' g TB c') (hc : c.length = n * 16) (hc' : c'.length = n * 16) (hn : 1 ≤ n ∧ n ≤ 4096) :
    Dr lo b g m (dOf c') w' := by
  have hw : (dOf c').wet = (dOf c).wet := by simp [dOf, hc, hc']
  refine ⟨Rt.of c' n hn.1 hn.2 hc', h.low, h.ne, ?_, hr, ?_⟩
  · have := hf.heap h.blk h.ne.1
    simpa [dcells, dOf, hc, hc'] using this
  · have := h.mp.keep hf (fun e => h.ne.2.2 e.symm)
    obtain ⟨D, h1, h2, h3⟩ := this
    refine ⟨D, h1, by rw [hw]; exact h2, fun i hi hwi => ?_⟩
    simp [dOf] at hwi

end Go.Proofs.Ytkpcpnlfbajbiaa
