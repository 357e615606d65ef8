/- The live question (cantonlaw11.head) -/
import Derived.Test.YtcjpgenlhphapaaOq
namespace Go.Proofs.Ytcjpgenlhphapaa
set_option maxRecDepth 20000
set_option linter.unusedVariables false
set_option linter.unusedSimpArgs false
open Go.RowKit Pm

def hdA : List Hl := [⟨[47], 1, 1⟩]
def hdB : List Hl := [⟨[47], 1, 1⟩, ⟨[47, 97], 1, 2⟩]
def hdC : List Hl := [⟨[47], 1, 1⟩, ⟨[47, 97], 1, 3⟩]
def hdD : List Hl := [⟨[47], 1, 1⟩, ⟨[47, 97], 2, 1⟩]
def hdP : List Bs := [[47], [47, 97], [47, 97, 47, 98]]
theorem hd_1 : inst [] [47] 1 = some hdA := by decide +kernel
theorem hd_2 : frz hdA [47, 97] = some hdB := by decide +kernel
theorem hd_3 : drp hdB [47, 97] 1 = some hdC := by decide +kernel
theorem hd_4 : inst hdC [47, 97] 2 = some hdD := by decide +kernel
theorem hd_5 : inst hdD [47, 97] 2 = none := by decide +kernel
theorem hd_6 : stR hdB [47, 97, 47, 98] = 2 := by decide +kernel
theorem hd_7 : stR hdB [47, 98] = 1 := by decide +kernel
theorem hd_8 : stR hdD [47, 97] = 1 := by decide +kernel
theorem hd_9 : ofR hdB [47, 97] = some 1 := by decide +kernel
theorem hd_10 : stR [] [47] = 3 := by decide +kernel
theorem hd_11 : rightH hdB = true := by decide +kernel
theorem hd_12 : (hdP.filter (fun p => ins1 hdB [47, 97] (kept p))).length = 1 ∧ (hdP.filter (fun p => !ins1 hdB [47, 97] (kept p))).length = 2 := by decide +kernel
theorem hd_13 : (∀ x ∈ hdP, (split x).isSome = true) ∧ Up hdP := by decide +kernel
theorem hd_sz (l : List Hl) (h : (l.all fun x => decide (x.d.length ≤ 1000000)) = true) (hn : l.length ≤ 1000000) : Szs l := ⟨hn, fun x hx => by simpa using List.all_eq_true.1 h x hx⟩
theorem Kp.nsH {W : World} {v : Value} {l : List Hl} (h : NsH W v l) : Kp (fun W' => NsH W' v l) W := fun W' f => h.non f
theorem sgN_row {W : World} {b : Nat} {l : List Bs} {cs : Array Value} (h : W.heap[b]? = some (.cells cs TNd (0, 0))) (hc : cs.toList = rowsG ndC l) (n : Nat) (hn : n = l.length) : SgN W (.slice (some ⟨b, 0, none⟩) n n) l := by
  subst hn
  refine ⟨_, _, rfl, .inr ⟨b, 0, rfl, fun i hi => ⟨fun j v hv => ?_⟩⟩⟩
  have hj : j < 5 := by have := (List.getElem?_eq_some_iff.1 hv).1; rw [ndC_len] at this; exact this
  rw [cell_of_row W b _ cs TNd (0, 0) h, Nat.zero_add, ← Array.getElem?_toList, hc, rowsG_get ndC_len l i j hi hj]
  exact hv

set_option maxHeartbeats 4000000 in
theorem head_c (w : World) : Calls Try.prog 9 #[] w fun e w' => e = .returned (.bool true) ∧ Fp Non w w' := by
  have h1 := fun W => Install_c (.slice none 0 0) [] [47] 1 W (NsH.nil W) (hd_sz [] rfl (by decide)) (by decide)
  have h2 := fun v W (h : NsH W v hdA) => Freeze_c v hdA [47, 97] W h (hd_sz hdA rfl (by decide)) (by decide)
  have h3 := fun v W (h : NsH W v hdB) => Drop_c v hdB [47, 97] 1 W h (hd_sz hdB rfl (by decide)) (by decide)
  have h4 := fun v W (h : NsH W v hdC) => Install_c v hdC [47, 97] 2 W h (hd_sz hdC rfl (by decide)) (by decide)
  have h5 := fun v W (h : NsH W v hdD) => Install_c v hdD [47, 97] 2 W h (hd_sz hdD rfl (by decide)) (by decide)
  have h6 := fun v W (h : NsH W v hdB) => StateH_c v hdB [47, 97, 47, 98] W h (hd_sz hdB rfl (by decide)) (by decide)
  have h7 := fun v W (h : NsH W v hdB) => StateH_c v hdB [47, 98] W h (hd_sz hdB rfl (by decide)) (by decide)
  have h8 := fun v W (h : NsH W v hdD) => StateH_c v hdD [47, 97] W h (hd_sz hdD rfl (by decide)) (by decide)
  have h9 := fun v W (h : NsH W v hdB) => OfH_c v hdB [47, 97] W h (hd_sz hdB rfl (by decide)) (by decide)
  have h10 := fun W => StateH_c (.slice none 0 0) [] [47] W (NsH.nil W) (hd_sz [] rfl (by decide)) (by decide)
  have h11 := fun v W (h : NsH W v hdB) => RightH_c v hdB W h (hd_sz hdB rfl (by decide)).p (by decide)
  have h12 := fun vn vm W (hn : SgN W vn hdP) (h : NsH W vm hdB) => Cut_c vn vm hdP hdB [47, 97] W hn hd_13.1 hd_13.2 (by decide) h (hd_sz hdB rfl (by decide)) ((right_iff _).1 hd_11)
  rw [hd_1] at h1
  rw [hd_2] at h2
  rw [hd_3] at h3
  rw [hd_4] at h4
  rw [hd_5] at h5
  rw [hd_6] at h6
  rw [hd_7] at h7
  rw [hd_8] at h8
  rw [hd_9] at h9
  rw [hd_10] at h10
  rw [hd_11] at h11
  have H1 := Lib.hid h1
  have H2 := Lib.hid h2
  have H3 := Lib.hid h3
  have H4 := Lib.hid h4
  have H5 := Lib.hid h5
  have H6 := Lib.hid h6
  have H7 := Lib.hid h7
  have H8 := Lib.hid h8
  have H9 := Lib.hid h9
  have H10 := Lib.hid h10
  have H11 := Lib.hid h11
  have H12 := Lib.hid h12
  clear h1 h2 h3 h4 h5 h6 h7 h8 h9 h10 h11 h12
  go_enter Try.func9, Try.ntmps9
  go_wp2_with fail
  refine (H1.out _).mono ?_
  rintro e w1 hR
  obtain ⟨va, rfl, na⟩ := hR.ex
  have K1 := Lib.hid (Kp.and (Kp.nsH na) (Kp.fp hR.fp))
  clear hR na
  go_wp2_with fail
  refine (H2.out _ _ K1.out.now.1).mono ?_
  rintro e w2 hR
  obtain ⟨vb, rfl, nb⟩ := hR.ex
  have K2 := Lib.hid (Kp.and (Kp.nsH nb) (K1.out.later hR.fp))
  clear hR nb
  go_wp2_with fail
  refine (H3.out _ _ K2.out.now.1).mono ?_
  rintro e w3 hR
  obtain ⟨vc, rfl, nc⟩ := hR.ex
  have K3 := Lib.hid (Kp.and (Kp.nsH nc) (K2.out.later hR.fp))
  clear hR nc
  go_wp2_with fail
  refine (H4.out _ _ K3.out.now.1).mono ?_
  rintro e w4 hR
  obtain ⟨vd, rfl, nd⟩ := hR.ex
  have K4 := Lib.hid (Kp.and (Kp.nsH nd) (K3.out.later hR.fp))
  clear hR nd
  go_wp2_with fail
  refine (H5.out _ _ K4.out.now.1).mono ?_
  rintro e w5 hR
  obtain ⟨ve, rfl, ne⟩ := hR.ex
  have K5 := Lib.hid (K4.out.later hR.fp)
  clear hR ne
  simp only [Option.isSome_some, Option.isSome_none]
  go_wp2_with fail
  have K6 := Lib.hid (K5.out.later (fp_alloc w5 (.cells #[.string ⟨#[47]⟩, .string ⟨#[]⟩, .int .i64 0, .int .i64 0, .int .i64 0, .string ⟨#[47, 97]⟩, .string ⟨#[]⟩, .int .i64 0, .int .i64 0, .int .i64 0, .string ⟨#[47, 97, 47, 98]⟩, .string ⟨#[]⟩, .int .i64 0, .int .i64 0, .int .i64 0] TNd)))
  refine (H12.out _ _ _ (sgN_row (l := hdP) (heap_alloc_new w5 _) rfl 3 rfl) K6.out.now.2.2.1).mono ?_
  rintro e w6 hR
  obtain ⟨a1, k1, a2, k2, rfl⟩ := hR.ex
  have K7 := Lib.hid (K6.out.later hR.fp)
  clear hR
  rw [hd_12.1, hd_12.2]
  go_wp2_with fail
  obtain ⟨W8, hW8⟩ : ∃ W8, W8 = (w6.alloc (Obj.cells #[.slice a1 1 k1, .slice none 0 0] TSt)).alloc (Obj.cells #[.slice a2 2 k2, .slice none 0 0] TSt) := ⟨_, rfl⟩
  have p1 : W8.heap[w6.heap.size]? = some (.cells #[.slice a1 1 k1, .slice none 0 0] TSt (0, 0)) := by rw [hW8]; exact (fp_alloc _ _).heap (heap_alloc_new w6 _) (fun h => h)
  have p2 : W8.heap[w6.heap.size + 1]? = some (.cells #[.slice a2 2 k2, .slice none 0 0] TSt (0, 0)) := by
    rw [hW8]
    have := heap_alloc_new (w6.alloc (Obj.cells #[.slice a1 1 k1, .slice none 0 0] TSt)) (Obj.cells #[.slice a2 2 k2, .slice none 0 0] TSt)
    rwa [World.size_alloc] at this
  have K8 := Lib.hid (Kp.and (Kp.row p1) (Kp.and (Kp.row p2) (K7.out.later (W' := W8) (by rw [hW8]; exact (fp_alloc _ _).then (fp_alloc _ _)))))
  rw [← hW8]
  clear hW8 p1 p2 K1 K2 K3 K4 K5 K6 K7 H1 H2 H3 H4 H5 H12
  refine (H6.out _ _ K8.out.now.2.2.2.2.1).mono ?_
  rintro e w9 ⟨rfl, hf⟩
  have K9 := Lib.hid (K8.out.later hf)
  clear hf
  go_wp2_with fail
  refine (H7.out _ _ K9.out.now.2.2.2.2.1).mono ?_
  rintro e wa ⟨rfl, hf⟩
  have Ka := Lib.hid (K9.out.later hf)
  clear hf
  go_wp2_with fail
  refine (H8.out _ _ Ka.out.now.2.2.1).mono ?_
  rintro e wb ⟨rfl, hf⟩
  have Kb := Lib.hid (Ka.out.later hf)
  clear hf
  go_wp2_with fail
  refine (H9.out _ _ Kb.out.now.2.2.2.2.1).mono ?_
  rintro e wc ⟨rfl, hf⟩
  have Kc := Lib.hid (Kb.out.later hf)
  clear hf
  simp only [idx]
  go_wp2_with fail
  refine (H10.out _).mono ?_
  rintro e wd ⟨rfl, hf⟩
  have Kd := Lib.hid (Kc.out.later hf)
  clear hf
  have s1 := (c_row2 Kd.out.now.1).1
  have s2 := (c_row2 Kd.out.now.2.1).1
  go_wp2_with fail
  refine (H11.out _ _ Kd.out.now.2.2.2.2.1).mono ?_
  rintro e we ⟨rfl, hf⟩
  have HF := Lib.hid (Kd.out.now.2.2.2.2.2.2.then hf)
  clear hf s1 s2
  go_wp2
  go_ret
  exact ⟨rfl, HF.out⟩
end Go.Proofs.Ytcjpgenlhphapaa
