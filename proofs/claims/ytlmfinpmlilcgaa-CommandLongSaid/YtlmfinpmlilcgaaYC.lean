/- Texts of this proof, merged. -/
import Derived.Test.YtlmfinpmlilcgaaZX
import Derived.Test.YtlmfinpmlilcgaaYB
set_option linter.unusedVariables false
set_option linter.unusedSimpArgs false
/- The live question. (gen_gu.py) -/
namespace Go.Proofs.Ytlmfinpmlilcgaa
set_option maxRecDepth 20000
set_option linter.unusedVariables false
set_option linter.unusedSimpArgs false
open Go.RowKit Pm

def c13 : Cd := { zeroC with kind := 13 }
theorem enc_small (n : Nat) (h : n < 128) : enc n = [dg n] := by
  unfold enc; rw [Nat.div_eq_of_lt h, hi_zero, Nat.mod_eq_of_lt h]; rfl
theorem str_nil : StR ⟨[], []⟩ := ⟨(by intro n h; cases h), (by intro i j hi; simp at hi), (by intro n h; cases h), (by intro i j hi; simp at hi)⟩
theorem c13_right : CdR c13 := ⟨by decide, by decide, by decide, by decide, by decide, ⟨by decide, fun k h => by simp [c13, zeroC] at h⟩, ⟨by decide, by decide, str_nil⟩, ⟨by decide, fun k h => by simp [c13, zeroC] at h⟩⟩
theorem zero_wrong : ¬ CdR zeroC := fun h => by have := h.kind; simp [zeroC] at this
theorem c13_enc : encCd c13 = [13, 0, 0, 0, 0, 0, 0, 0, 0, 0, 0, 0, 0, 0, 0, 0] := by
  simp [encCd, c13, zeroC, encN, encI, encS, encF, encT, encTs, encL, fl, enc_small]
  decide
theorem fw_zero : Fw zeroC := ⟨by decide, by decide, by decide, fun _ h => by simp [zeroC] at h, by decide, fun _ h => by simp [zeroC] at h, by decide, fun _ h => by simp [zeroC] at h, by decide, fun _ h => by simp [zeroC] at h⟩
theorem fw_c13 : Fw c13 := ⟨by decide, by decide, by decide, fun _ h => by simp [c13, zeroC] at h, by decide, fun _ h => by simp [c13, zeroC] at h, by decide, fun _ h => by simp [c13, zeroC] at h, by decide, fun _ h => by simp [c13, zeroC] at h⟩
theorem cdw_13 (w : World) : CdW w (.agg #[.int .i64 13, .int .i64 0, .int .i64 0, .int .i64 0, .bool false, .slice none 0 0, .string ⟨#[]⟩, .int .i64 0, .int .i64 0, .slice none 0 0, .slice none 0 0, .slice none 0 0, .int .i64 0, .int .i64 0, .string ⟨#[]⟩, .bool false]) c13 :=
  ⟨.slice none 0 0, .slice none 0 0, .slice none 0 0, .slice none 0 0, rfl, Sg.nil w, Ns.nil w, Ts.nil w, ⟨none, 0, rfl, .inl rfl⟩⟩
theorem put13 (w : World) : Calls Try.prog 9 #[.agg #[.int .i64 13, .int .i64 0, .int .i64 0, .int .i64 0, .bool false, .slice none 0 0, .string ⟨#[]⟩, .int .i64 0, .int .i64 0, .slice none 0 0, .slice none 0 0, .slice none 0 0, .int .i64 0, .int .i64 0, .string ⟨#[]⟩, .bool false]] w fun e w' => ∃ v', e = .returned (.tuple #[v', .int .i64 0]) ∧ Nw w w' v' [13, 0, 0, 0, 0, 0, 0, 0, 0, 0, 0, 0, 0, 0, 0, 0] := by
  have := Put_c _ c13 w (cdw_13 w) fw_c13
  rw [rightC_true c13_right, if_pos rfl, if_pos rfl, c13_enc] at this; exact this
theorem put0 (w : World) : Calls Try.prog 9 #[.agg #[.int .i64 0, .int .i64 0, .int .i64 0, .int .i64 0, .bool false, .slice none 0 0, .string ⟨#[]⟩, .int .i64 0, .int .i64 0, .slice none 0 0, .slice none 0 0, .slice none 0 0, .int .i64 0, .int .i64 0, .string ⟨#[]⟩, .bool false]] w fun e w' => ∃ v', e = .returned (.tuple #[v', .int .i64 1]) ∧ Nw w w' v' [] := by
  have := Put_c _ zeroC w (cdw_zero w) fw_zero
  rw [rightC_false zero_wrong, if_neg (by simp), if_neg (by simp)] at this; exact this
theorem get13 (v : Value) (w : World) (h : Sl w v [13, 0, 0, 0, 0, 0, 0, 0, 0, 0, 0, 0, 0, 0, 0, 0]) : Calls Try.prog 11 #[v] w fun e w' => ∃ vc, e = .returned (.tuple #[vc, .int .i64 0]) ∧ CdW w' vc c13 ∧ Fp Non w w' := by
  have := Get_c v _ w h (by decide)
  rw [← c13_enc, get_back c13_right] at this; exact this
theorem get0 (w : World) : Calls Try.prog 11 #[.slice none 0 0] w fun e w' => ∃ vc, e = .returned (.tuple #[vc, .int .i64 3]) ∧ CdW w' vc zeroC ∧ Fp Non w w' := by
  have := Get_c _ [] w (Sl.nil w) (by decide)
  rw [get_nil] at this; exact this

set_option maxHeartbeats 16000000 in
theorem head_c (w : World) : Calls Try.prog 7 #[] w fun e w' => e = .returned (.bool true) ∧ Fp Non w w' := by
  go_enter Try.func7, Try.ntmps7
  go_wp2_with fail
  refine (put13 _).mono ?_
  rintro e w1 ⟨vb, rfl, hN⟩
  have HN := Lib.hid hN
  obtain ⟨ao, cap, rfl⟩ := hN.shape
  have HG := Lib.hid (get13 _ _ hN.sl)
  clear hN
  go_wp2_with fail
  refine HG.out.mono ?_
  rintro e w2 ⟨vc, rfl, hc, hf⟩
  obtain ⟨vp, vn, vt, vg, rfl, f1, f2, f3, f4⟩ := hc.ex
  obtain ⟨ap, cp, rfl⟩ := f1.shape
  obtain ⟨an, cn, rfl⟩ := f2.shape
  obtain ⟨at', ct, rfl⟩ := f3.shape
  obtain ⟨ag, cg, rfl⟩ := f4.shape
  have HF := Lib.hid (HN.out.fp.then hf)
  have HS := Lib.hid (HN.out.sl.keep hf (fun _ _ h => h))
  have HC := Lib.hid hc
  clear f1 f2 f3 f4 hc hf HG HN
  simp only [cdL, c13, zeroC, List.length_nil] at HC ⊢
  have hb := heap_alloc_new w2 (.cells #[.int .i64 13, .int .i64 0, .int .i64 0, .int .i64 0, .bool false, .slice ap 0 cp, .string (B []), .int .i64 0, .int .i64 0, .slice an 0 cn, .slice at' 0 ct, .slice ag 0 cg, .int .i64 0, .int .i64 0, .string (B []), .bool false] TCD)
  have hfa := fp_alloc w2 (.cells #[.int .i64 13, .int .i64 0, .int .i64 0, .int .i64 0, .bool false, .slice ap 0 cp, .string (B []), .int .i64 0, .int .i64 0, .slice an 0 cn, .slice at' 0 ct, .slice ag 0 cg, .int .i64 0, .int .i64 0, .string (B []), .bool false] TCD)
  have HB := Lib.hid (And.intro hb hfa)
  clear hb hfa
  go_wp2_with fail
  refine (put0 _).mono ?_
  rintro e w3 ⟨vb', rfl, hN⟩
  obtain ⟨ao', cap', rfl⟩ := hN.shape
  have HN := Lib.hid hN.fp
  clear hN
  go_wp2_with fail
  refine (get0 _).mono ?_
  rintro e w4 ⟨vc', rfl, hc, hf⟩
  obtain ⟨vp', vn', vt', vg', rfl, f1, f2, f3, f4⟩ := hc.ex
  obtain ⟨ap', cp', rfl⟩ := f1.shape
  obtain ⟨an', cn', rfl⟩ := f2.shape
  obtain ⟨at'', ct', rfl⟩ := f3.shape
  obtain ⟨ag', cg', rfl⟩ := f4.shape
  clear f1 f2 f3 f4 hc
  simp only [cdL, zeroC, List.length_nil]
  have hfz := fp_alloc w4 (.cells #[.int .i64 0, .int .i64 0, .int .i64 0, .int .i64 0, .bool false, .slice ap' 0 cp', .string (B []), .int .i64 0, .int .i64 0, .slice an' 0 cn', .slice at'' 0 ct', .slice ag' 0 cg', .int .i64 0, .int .i64 0, .string (B []), .bool false] TCD)
  have hF2 := (HN.out.then hf).then hfz
  have hb := hF2.heap HB.out.1 (fun h => h)
  have p0 := cell_of_row _ _ 0 _ _ _ hb
  have p1 := cell_of_row _ _ 1 _ _ _ hb
  have p2 := cell_of_row _ _ 2 _ _ _ hb
  have p3 := cell_of_row _ _ 3 _ _ _ hb
  have p4 := cell_of_row _ _ 4 _ _ _ hb
  have p5 := cell_of_row _ _ 5 _ _ _ hb
  have p6 := cell_of_row _ _ 6 _ _ _ hb
  have p7 := cell_of_row _ _ 7 _ _ _ hb
  have p8 := cell_of_row _ _ 8 _ _ _ hb
  have p9 := cell_of_row _ _ 9 _ _ _ hb
  have p10 := cell_of_row _ _ 10 _ _ _ hb
  have p11 := cell_of_row _ _ 11 _ _ _ hb
  have p12 := cell_of_row _ _ 12 _ _ _ hb
  have p13 := cell_of_row _ _ 13 _ _ _ hb
  have p14 := cell_of_row _ _ 14 _ _ _ hb
  have p15 := cell_of_row _ _ 15 _ _ _ hb
  simp only [List.getElem?_toArray, List.getElem?_cons_zero, List.getElem?_cons_succ] at p0 p1 p2 p3 p4 p5 p6 p7 p8 p9 p10 p11 p12 p13 p14 p15
  have hS := HS.out.keep (HB.out.2.then hF2) (fun _ _ h => h)
  obtain ⟨ao2, cap2, e, _, _, h3⟩ := hS.ex
  injection e with e1 e2 e3
  subst e1 e3
  rcases h3 with ⟨rfl, rfl⟩ | ⟨g, o, rfl, hg, hcell⟩
  · exact absurd HS.out.ex (fun ⟨_, _, e, hle, _⟩ => by injection e with _ _ e3; subst e3; simp at hle)
  have b0 := hcell 0 (by decide)
  simp only [Nat.add_zero, List.getElem_cons_zero] at b0
  have hR := cRight_c _ c13 (w4.alloc (.cells #[.int .i64 0, .int .i64 0, .int .i64 0, .int .i64 0, .bool false, .slice ap' 0 cp', .string (B []), .int .i64 0, .int .i64 0, .slice an' 0 cn', .slice at'' 0 ct', .slice ag' 0 cg', .int .i64 0, .int .i64 0, .string (B []), .bool false] TCD)) (HC.out.non (HB.out.2.then hF2)) fw_c13
  rw [rightC_true c13_right] at hR
  have HR := Lib.hid hR
  have HFF := Lib.hid (HF.out.then (HB.out.2.then hF2))
  clear hR hS hcell hg hb hF2 hfz hf HC HB HN HF HS
  go_wp2_with fail
  refine HR.out.mono ?_
  rintro e w6 ⟨rfl, hf⟩
  have HF6 := Lib.hid (HFF.out.then hf)
  clear hf
  go_wp2
  go_ret
  exact ⟨rfl, HF6.out⟩
end Go.Proofs.Ytlmfinpmlilcgaa

