/- A text of this proof. -/
import Derived.Test.YtlmfinpmlilcgaaYC
import Derived.Test.YtlmfinpmlilcgaaZN
import Derived.Test.YtlmfinpmlilcgaaYE
import Derived.Test.YtlmfinpmlilcgaaYF
set_option linter.unusedVariables false
set_option linter.unusedSimpArgs false
/- CommandBack: the law's walk. (gen_ub.py) -/
namespace Go.Proofs.Ytlmfinpmlilcgaa
set_option maxRecDepth 20000
set_option linter.unusedVariables false
set_option linter.unusedSimpArgs false
open Go.RowKit Pm

set_option maxHeartbeats 32000000 in
theorem CommandBack_c (v : Value) (c : Cd) (bv : Value) (bs : Bs) (w : World) (hv : CdW w v c) (hln : Ln c) (hb : Sl w bv bs) :
    Calls Try.prog 3 #[v, bv] w fun e w' => e = .returned (.bool true) ∧ Fp Non w w' := by
  obtain ⟨vp, vn, vt, vg, rfl, f1, f2, f3, f4⟩ := hv.ex
  have hbx := heap_alloc_new w (.cells (cdL c vp vn vt vg) TCD)
  have hfa := fp_alloc w (.cells (cdL c vp vn vt vg) TCD)
  have hGr := fun W (f : Fp Non w W) => cGreat_c _ c W (hv.non f) hln
  have hRi := fun W (f : Fp Non w W) (h : Fw c) => cRight_c _ c W (hv.non f) h
  have hPu := fun W (f : Fp Non w W) (h : Fw c) => Put_c _ c W (hv.non f) h
  have hSa := fun W (f : Fp Non w W) (h : Fw c) v' (hv' : CdW W v' c) => cSame_c _ v' c c W (hv.non f) hv' h h
  have hGb := fun W (f : Fp Non w W) (h : bs.length ≤ 1000000) => Get_c bv bs W (hb.keep f (fun _ _ h => h)) h
  obtain ⟨ao, cap, hbv, _, _, _⟩ := hb.ex
  subst hbv
  obtain ⟨w0, hw0⟩ : ∃ w0, w0 = w.alloc (.cells (cdL c vp vn vt vg) TCD) := ⟨_, rfl⟩
  rw [← hw0] at hbx hfa
  have HH := Lib.hid (head_c w0)
  have H0 := Lib.hid (And.intro hbx hfa)
  have HC := Lib.hid (And.intro hGr (And.intro hRi (And.intro hPu (And.intro hSa hGb))))
  have HBs := Lib.hid hb
  clear f1 f2 f3 f4 hv hln hbx hfa hGr hRi hPu hSa hGb hb
  go_enter Try.func3, Try.ntmps3
  go_wp2_with fail
  try rw [show (31 : TypeId) = TCD from rfl]
  rw [← hw0]
  clear hw0
  refine HH.out.mono ?_
  rintro e w1 ⟨rfl, g1⟩
  have hb1 := g1.heap H0.out.1 (fun h => h)
  have HF1 := Lib.hid (H0.out.2.then g1)
  clear g1 HH
  go_wp2_with (refine wpList_ldC (by rfl) TCD _ rfl _ _ rfl (ld_cd (by assumption) rfl) ?_)
  refine (HC.out.1 _ HF1.out).mono ?_
  rintro e w2 ⟨g, rfl, hg, hf⟩
  have hb2 := hf.heap hb1 (fun h => h)
  have HF2 := Lib.hid (HF1.out.then hf)
  clear hf hb1
  cases g with
  | true =>
    clear hg
    go_wp2
    go_ret
    exact ⟨rfl, HF2.out⟩
  | false =>
  have HW := Lib.hid (hg rfl)
  clear hg
  by_cases hlb : 20000 < bs.length
  · have t1 : ((20000 : Int) < (bs.length : Int)) = True := eq_true (by omega)
    have t2 : (20000 < bs.length) = True := eq_true hlb
    clear hlb
    go_wp2
    go_ret
    exact ⟨rfl, HF2.out⟩
  have t1 : ((20000 : Int) < (bs.length : Int)) = False := eq_false (by omega)
  have t2 : (20000 < bs.length) = False := eq_false hlb
  have HLB := Lib.hid hlb
  clear hlb
  go_wp2_with (refine wpList_ldC (by rfl) TCD _ rfl _ _ rfl (ld_cd (by assumption) rfl) ?_)
  refine (HC.out.2.2.1 _ HF2.out HW.out).mono ?_
  rintro e w3 ⟨vx, rfl, hx⟩
  have hb3 := hx.fp.heap hb2 (fun h => h)
  have HF3 := Lib.hid (HF2.out.then hx.fp)
  have HX := Lib.hid hx.sl
  obtain ⟨xao, xcap, rfl⟩ := hx.shape
  clear hx t1 t2 hb2
  obtain ⟨r, hr⟩ : ∃ r, rightC c = r := ⟨_, rfl⟩
  rw [hr] at HX ⊢
  have HGET := Lib.hid (fun W (f : Fp Non w W) => HC.out.2.2.2.2 W f (by have := HLB.out; omega))
  cases r with
  | false =>
    rw [if_neg (by simp)]
    rw [if_neg (by simp)] at HX
    have HR := Lib.hid (HC.out.2.1 _ HF3.out HW.out)
    go_wp2_with (refine wpList_ldC (by rfl) TCD _ rfl _ _ rfl (ld_cd (by assumption) rfl) ?_)
    refine HR.out.mono ?_
    rintro e w4 ⟨rfl, hf⟩
    have HF4 := Lib.hid (HF3.out.then hf)
    clear hf HR hb3
    rw [hr]
    clear hr
    go_wp2_with fail
    refine (HGET.out _ HF4.out).mono ?_
    rintro e w5 ⟨vc, rfl, hcw, hf⟩
    have HF5 := Lib.hid (HF4.out.then hf)
    have HCW := Lib.hid hcw
    clear hf hcw
    obtain ⟨qp, qn, qt, qg, rfl, k1, k2, k3, k4⟩ := HCW.out.ex
    have hS := CdW.slc k1 k2 k3 k4
    clear k1 k2 k3 k4
    rcases get_err bs with hge | ⟨u, hge⟩
    · rw [hge] at HCW ⊢
      simp only at HCW ⊢
      have hfz := fp_alloc w5 (.cells (cdL zeroC qp qn qt qg) TCD)
      have hbz := heap_alloc_new w5 (.cells (cdL zeroC qp qn qt qg) TCD)
      have HF6 := Lib.hid (HF5.out.then hfz)
      have HSA := Lib.hid (cSame_c _ _ zeroC zeroC _ (HCW.out.non hfz) (cdw_zero _) fw_zero fw_zero)
      clear hfz hge
      go_wp2_with (first | (refine wpList_ldC (by rfl) TCD _ rfl _ _ rfl (ld_cd (by assumption) rfl) ?_) | (refine wpList_stC rfl TCD _ _ rfl _ _ rfl rfl (stn_cd _ (by assumption)) ?_))
      refine HSA.out.mono ?_
      rintro e w7 ⟨rfl, hf⟩
      have HF7 := Lib.hid (HF6.out.then hf)
      clear hf HSA hbz
      try rw [decide_eq_true (rfl : zeroC = zeroC)]
      try simp only [decide_true]
      go_wp2
      go_ret
      exact ⟨rfl, HF7.out⟩
    · obtain ⟨hcu, heu⟩ := get_once hge
      rw [hge] at HCW ⊢
      simp only at HCW ⊢
      have hfz := fp_alloc w5 (.cells (cdL u qp qn qt qg) TCD)
      have hbz := heap_alloc_new w5 (.cells (cdL u qp qn qt qg) TCD)
      have HF6 := Lib.hid (HF5.out.then hfz)
      have hpu := Put_c _ u _ (HCW.out.non hfz) (fw_of hcu.ok (by rw [heu]; have := HLB.out; omega))
      rw [rightC_true hcu, if_pos rfl, if_pos rfl, heu] at hpu
      have HPU := Lib.hid hpu
      clear hfz hge hpu hcu heu
      go_wp2_with (first | (refine wpList_ldC (by rfl) TCD _ rfl _ _ rfl (ld_cd (by assumption) rfl) ?_) | (refine wpList_stC rfl TCD _ _ rfl _ _ rfl rfl (stn_cd _ (by assumption)) ?_))
      refine HPU.out.mono ?_
      rintro e w7 ⟨vy, rfl, hN⟩
      have HF7 := Lib.hid (HF6.out.then hN.fp)
      have k1 := conv_sl w7 vy bs hN.sl
      have k2 := conv_sl w7 _ bs (HBs.out.keep HF7.out (fun _ _ h => h))
      obtain ⟨yao, ycap, rfl⟩ := hN.shape
      clear hN HPU hbz
      go_wp2
      go_ret
      exact ⟨rfl, HF7.out⟩
  | true =>
    rw [if_pos rfl]
    rw [if_pos rfl] at HX
    have HCR := Lib.hid ((rightC_iff c).1 hr)
    have HR := Lib.hid (HC.out.2.1 _ HF3.out HW.out)
    go_wp2_with (refine wpList_ldC (by rfl) TCD _ rfl _ _ rfl (ld_cd (by assumption) rfl) ?_)
    refine HR.out.mono ?_
    rintro e w4 ⟨rfl, hf⟩
    have hb4 := hf.heap hb3 (fun h => h)
    have HF4 := Lib.hid (HF3.out.then hf)
    have hge := Get_c _ _ w4 (HX.out.keep hf (fun _ _ h => h)) (by have := HCR.out.few; simpa using this)
    rw [get_back HCR.out] at hge
    have HGE := Lib.hid hge
    clear hf HR hge hb3
    rw [hr]
    clear hr
    go_wp2_with fail
    refine HGE.out.mono ?_
    rintro e w5 ⟨vd, rfl, hcw, hf⟩
    obtain ⟨xp, xn, xt, xg, rfl, k1, k2, k3, k4⟩ := hcw.ex
    have hS := CdW.slc k1 k2 k3 k4
    clear k1 k2 k3 k4
    have hb5 := hf.heap hb4 (fun h => h)
    have hfz := fp_alloc w5 (.cells (cdL c xp xn xt xg) TCD)
    have hbz := heap_alloc_new w5 (.cells (cdL c xp xn xt xg) TCD)
    have hb6 := hfz.heap hb5 (fun h => h)
    have HF6 := Lib.hid ((HF4.out.then hf).then hfz)
    have HSA := Lib.hid (HC.out.2.2.2.1 _ HF6.out HW.out _ (hcw.non hfz))
    clear hf hfz hb5 hcw hb4
    go_wp2_with (first | (refine wpList_ldC (by rfl) TCD _ rfl _ _ rfl (ld_cd (by assumption) rfl) ?_) | (refine wpList_stC rfl TCD _ _ rfl _ _ rfl rfl (stn_cd _ (by assumption)) ?_))
    refine HSA.out.mono ?_
    rintro e w7 ⟨rfl, hf⟩
    have HF4 := Lib.hid (HF6.out.then hf)
    clear hf HSA hbz hb6 hS
    try rw [decide_eq_true (rfl : c = c)]
    try simp only [decide_true]
    go_wp2_with fail
    refine (HGET.out _ HF4.out).mono ?_
    rintro e w5 ⟨vc, rfl, hcw, hf⟩
    have HF5 := Lib.hid (HF4.out.then hf)
    have HCW := Lib.hid hcw
    clear hf hcw
    obtain ⟨qp, qn, qt, qg, rfl, k1, k2, k3, k4⟩ := HCW.out.ex
    have hS := CdW.slc k1 k2 k3 k4
    clear k1 k2 k3 k4
    rcases get_err bs with hge | ⟨u, hge⟩
    · rw [hge] at HCW ⊢
      simp only at HCW ⊢
      have hfz := fp_alloc w5 (.cells (cdL zeroC qp qn qt qg) TCD)
      have hbz := heap_alloc_new w5 (.cells (cdL zeroC qp qn qt qg) TCD)
      have HF6 := Lib.hid (HF5.out.then hfz)
      have HSA := Lib.hid (cSame_c _ _ zeroC zeroC _ (HCW.out.non hfz) (cdw_zero _) fw_zero fw_zero)
      clear hfz hge
      go_wp2_with (first | (refine wpList_ldC (by rfl) TCD _ rfl _ _ rfl (ld_cd (by assumption) rfl) ?_) | (refine wpList_stC rfl TCD _ _ rfl _ _ rfl rfl (stn_cd _ (by assumption)) ?_))
      refine HSA.out.mono ?_
      rintro e w7 ⟨rfl, hf⟩
      have HF7 := Lib.hid (HF6.out.then hf)
      clear hf HSA hbz
      try rw [decide_eq_true (rfl : zeroC = zeroC)]
      try simp only [decide_true]
      go_wp2
      go_ret
      exact ⟨rfl, HF7.out⟩
    · obtain ⟨hcu, heu⟩ := get_once hge
      rw [hge] at HCW ⊢
      simp only at HCW ⊢
      have hfz := fp_alloc w5 (.cells (cdL u qp qn qt qg) TCD)
      have hbz := heap_alloc_new w5 (.cells (cdL u qp qn qt qg) TCD)
      have HF6 := Lib.hid (HF5.out.then hfz)
      have hpu := Put_c _ u _ (HCW.out.non hfz) (fw_of hcu.ok (by rw [heu]; have := HLB.out; omega))
      rw [rightC_true hcu, if_pos rfl, if_pos rfl, heu] at hpu
      have HPU := Lib.hid hpu
      clear hfz hge hpu hcu heu
      go_wp2_with (first | (refine wpList_ldC (by rfl) TCD _ rfl _ _ rfl (ld_cd (by assumption) rfl) ?_) | (refine wpList_stC rfl TCD _ _ rfl _ _ rfl rfl (stn_cd _ (by assumption)) ?_))
      refine HPU.out.mono ?_
      rintro e w7 ⟨vy, rfl, hN⟩
      have HF7 := Lib.hid (HF6.out.then hN.fp)
      have k1 := conv_sl w7 vy bs hN.sl
      have k2 := conv_sl w7 _ bs (HBs.out.keep HF7.out (fun _ _ h => h))
      obtain ⟨yao, ycap, rfl⟩ := hN.shape
      clear hN HPU hbz
      go_wp2
      go_ret
      exact ⟨rfl, HF7.out⟩
end Go.Proofs.Ytlmfinpmlilcgaa
