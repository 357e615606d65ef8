/- The live question (cantonlaw14.head; gen_bl.py) -/
import Derived.Test.YtajgjhkienhpjaaBy
namespace Go.Proofs.Ytajgjhkienhpjaa
set_option maxRecDepth 20000
set_option linter.unusedVariables false
set_option linter.unusedSimpArgs false
open Go.RowKit Pm


def hdA : List Mt := [⟨[47], 0, 1, 0⟩]
def hdB : List Mt := [⟨[47], 0, 1, 0⟩, ⟨[47, 97], 0, 1, 1⟩]
def hdC : List Mt := [⟨[47], 0, 1, 0⟩, ⟨[47, 97], 1, 2, 1⟩]
theorem hd_1 : bgn hdA [47, 97] 1 = ⟨hdB, ⟨[47, 97], 0, 1, 1⟩, 0⟩ := by decide +kernel
theorem hd_2 : bgn hdB [47] 2 = ⟨hdB, mt0, 131⟩ := by decide +kernel
theorem hd_3 : flp hdB [47, 97] 1 1 = ⟨hdC, 0⟩ := by decide +kernel
theorem hd_4 : flp hdC [47, 97] 1 1 = ⟨hdC, 0⟩ := by decide +kernel
theorem hd_5 : flp hdC [47, 98] 1 1 = ⟨hdC, 133⟩ := by decide +kernel
theorem hd_6 : ofR hdC [47, 97, 47, 98] = some 1 := by decide +kernel
theorem hd_7 : rightM hdC = true := by decide +kernel
theorem hd_sz (l : List Mt) (h : (l.all fun x => decide (x.d.length ≤ 1000000)) = true) (hn : l.length ≤ 1000000) : SzM l := ⟨hn, fun x hx => by simpa using List.all_eq_true.1 h x hx⟩
theorem Kp.nsM {W : World} {v : Value} {l : List Mt} (h : NsM W v l) : Kp (fun W' => NsM W' v l) W := fun W' f => h.non f
theorem Kp.bxM {W : World} {b : Nat} {x : Mt} (h : BxM W b x) : Kp (fun W' => BxM W' b x) W := fun W' f => h.non f

set_option maxHeartbeats 4000000 in
theorem head_c (w : World) : Calls Try.prog 8 #[] w fun e w' => e = .returned (.bool true) ∧ Fp Non w w' := by
  have h1 := fun v W (h : NsM W v hdA) => Begin_c v hdA [47, 97] 1 W h (hd_sz hdA rfl (by decide)) (by decide)
  have h2 := fun v W (h : NsM W v hdB) => Begin_c v hdB [47] 2 W h (hd_sz hdB rfl (by decide)) (by decide)
  have h3 := fun v W (h : NsM W v hdB) => Flip_c v hdB [47, 97] 1 1 W h (hd_sz hdB rfl (by decide)) (by decide) (by decide)
  have h4 := fun v W (h : NsM W v hdC) => Flip_c v hdC [47, 97] 1 1 W h (hd_sz hdC rfl (by decide)) (by decide) (by decide)
  have h5 := fun v W (h : NsM W v hdC) => Flip_c v hdC [47, 98] 1 1 W h (hd_sz hdC rfl (by decide)) (by decide) (by decide)
  have h6 := fun v W (h : NsM W v hdC) => OfM_c v hdC [47, 97, 47, 98] W h (hd_sz hdC rfl (by decide)) (by decide)
  have h7 := fun v W (h : NsM W v hdC) => RightM_c v hdC W h (hd_sz hdC rfl (by decide)).p (by decide)
  rw [hd_1] at h1
  rw [hd_2] at h2
  rw [hd_3] at h3
  rw [hd_4] at h4
  rw [hd_5] at h5
  rw [hd_6] at h6
  rw [hd_7] at h7
  have H1 := Lib.hid h1
  have H2 := Lib.hid h2
  have H3 := Lib.hid h3
  have H4 := Lib.hid h4
  have H5 := Lib.hid h5
  have H6 := Lib.hid h6
  have H7 := Lib.hid h7
  clear h1 h2 h3 h4 h5 h6 h7
  go_enter Try.func8, Try.ntmps8
  go_wp2_with fail
  have hA : NsM (w.alloc (.cells #[.string ⟨#[47]⟩, .int .i64 0, .int .i64 1, .int .i64 0] TM)) (.slice (some ⟨w.heap.size, 0, none⟩) 1 1) hdA := by
    have hb : BxM (w.alloc (.cells #[.string ⟨#[47]⟩, .int .i64 0, .int .i64 1, .int .i64 0] TM)) w.heap.size ⟨[47], 0, 1, 0⟩ := BxM.new w ⟨[47], 0, 1, 0⟩
    exact ⟨_, 1, rfl, Nat.le_refl _, by decide, .inr ⟨_, 0, rfl, hb.lt, fun i hi => by
      have hi0 : i = 0 := by simp [hdA] at hi; omega
      subst hi0; exact hb.nd⟩⟩
  have K0 := Lib.hid (Kp.fp (fp_alloc w (.cells #[.string ⟨#[47]⟩, .int .i64 0, .int .i64 1, .int .i64 0] TM)))
  refine (H1.out _ _ hA).mono ?_
  rintro e w1 hR
  obtain ⟨va, rfl, na⟩ := hR.ex
  have hfa := fp_alloc w1 (.cells #[.string ⟨#[47, 97]⟩, .int .i64 0, .int .i64 1, .int .i64 1] TM)
  have hbx : BxM (w1.alloc (.cells #[.string ⟨#[47, 97]⟩, .int .i64 0, .int .i64 1, .int .i64 1] TM)) w1.heap.size ⟨[47, 97], 0, 1, 1⟩ := BxM.new w1 ⟨[47, 97], 0, 1, 1⟩
  have K1 := Lib.hid (Kp.and (Kp.nsM (na.non hfa)) (Kp.and (Kp.bxM hbx) ((K0.out.later hR.fp).later hfa)))
  clear hR na hA hfa hbx
  unfold mtV strV B
  simp only
  go_wp2_with fail
  refine (H2.out _ _ K1.out.now.1).mono ?_
  rintro e w2 hR
  obtain ⟨vb, rfl, nb⟩ := hR.ex
  have hfa := fp_alloc w2 (.cells #[.string ⟨#[]⟩, .int .i64 0, .int .i64 0, .int .i64 0] TM)
  have K2 := Lib.hid ((K1.out.later hR.fp).later hfa)
  clear hR nb hfa
  unfold mtV strV mt0 B
  simp only
  go_wp2_with fail
  refine (H3.out _ _ K2.out.now.1).mono ?_
  rintro e w3 hR
  obtain ⟨vc, rfl, nc⟩ := hR.ex
  have K3 := Lib.hid (Kp.and (Kp.nsM nc) (K2.out.later hR.fp))
  clear hR nc
  go_wp2_with fail
  refine (H4.out _ _ K3.out.now.1).mono ?_
  rintro e w4 hR
  obtain ⟨vd, rfl, nd⟩ := hR.ex
  have K4 := Lib.hid (K3.out.later hR.fp)
  clear hR nd
  go_wp2_with fail
  refine (H5.out _ _ K4.out.now.1).mono ?_
  rintro e w5 hR
  obtain ⟨ve, rfl, ne⟩ := hR.ex
  have K5 := Lib.hid (K4.out.later hR.fp)
  clear hR ne
  have hk := K5.out.now
  obtain ⟨g2, o2, c2, rfl, _, _, _, hcell⟩ := hk.2.1.at (by decide)
  obtain ⟨g1, o1, c1, rfl, _, _, _, hcell1⟩ := hk.1.at (by decide)
  have y := hcell1 1 (by decide)
  have y1 : _ = some (Value.int .i64 1) := y.c1
  have y2 : _ = some (Value.int .i64 2) := y.c2
  have b := hk.2.2.1.at
  have b1 : _ = some (Value.int .i64 0) := b.2.1
  have b3 : _ = some (Value.int .i64 1) := b.2.2.2
  simp only [show hdC.length = 2 from rfl, show hdB.length = 2 from rfl] at *
  clear hk hcell hcell1 y b
  go_wp2_with fail
  refine (H6.out _ _ K5.out.now.1).mono ?_
  rintro e w6 ⟨rfl, hf⟩
  have K6 := Lib.hid (K5.out.later hf)
  clear hf y1 y2 b1 b3
  simp only [idx]
  go_wp2_with fail
  refine (H7.out _ _ K6.out.now.1).mono ?_
  rintro e w7 ⟨rfl, hf⟩
  have K7 := Lib.hid (K6.out.later hf)
  clear hf
  go_wp2
  go_ret
  exact ⟨rfl, K7.out.now.2.2.2⟩
end Go.Proofs.Ytajgjhkienhpjaa
