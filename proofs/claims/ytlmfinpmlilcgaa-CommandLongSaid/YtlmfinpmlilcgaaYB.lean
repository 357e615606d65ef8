/- Texts of this proof, merged. -/
import Derived.Test.YtlmfinpmlilcgaaYA
set_option linter.unusedVariables false
set_option linter.unusedSimpArgs false
/- Put. -/
namespace Go.Proofs.Ytlmfinpmlilcgaa
set_option maxRecDepth 20000
set_option linter.unusedVariables false
set_option linter.unusedSimpArgs false
open Go.RowKit Pm

theorem Nw.later {w w1 w' : World} {v : Value} {l : Bs} (h : Nw w1 w' v l) (f : Fp Non w w1) : Nw w w' v l := by
  refine ⟨⟨h.own.1, ?_⟩, f.then h.fp⟩
  rcases h.own.2 with hn | ⟨g, cap, cur, rfl, hb, rest⟩
  · exact .inl hn
  · exact .inr ⟨g, cap, cur, rfl, Nat.le_trans f.size hb, rest⟩

set_option maxHeartbeats 8000000 in
theorem Put_c (v : Value) (c : Cd) (w : World) (hv : CdW w v c) (hw : Fw c) :
    Calls Try.prog 9 #[v] w fun e w' => ∃ v', e = .returned (.tuple #[v', .int .i64 (if rightC c then 0 else 1)]) ∧ Nw w w' v' (if rightC c then encCd c else []) := by
  obtain ⟨vp, vn, vt, vg, rfl, h1, h2, h3, h4⟩ := hv.ex
  have hb := heap_alloc_new w (.cells (cdL c vp vn vt vg) TCD)
  have hF := fp_alloc w (.cells (cdL c vp vn vt vg) TCD)
  have hR := cRight_c _ c (w.alloc (.cells (cdL c vp vn vt vg) TCD)) (hv.non hF) hw
  obtain ⟨w0, hw0⟩ : ∃ w0, w0 = w.alloc (.cells (cdL c vp vn vt vg) TCD) := ⟨_, rfl⟩
  have hd := bxC (c := c) hb
  rw [← hw0] at hR hb hF
  have HF := Lib.hid hF
  have HV := Lib.hid (And.intro h1 (And.intro h2 (And.intro h3 h4)))
  have HB := Lib.hid hb
  obtain ⟨r, hr⟩ : ∃ r, rightC c = r := ⟨_, rfl⟩
  rw [hr] at hR ⊢
  have HR := Lib.hid hR
  have HY := Lib.hid hr
  clear h1 h2 h3 h4 hv hw hb hF hR hd hr
  unfold cdL at hw0 HR ⊢
  go_enter Try.func9, Try.ntmps9
  go_wp2_with fail
  rw [show (31 : TypeId) = TCD from rfl, ← hw0]
  refine HR.out.mono ?_
  rintro e w1 ⟨rfl, hf⟩
  have HF1 := Lib.hid (HF.out.then hf)
  have hb1 := hf.heap HB.out (fun h => h)
  have HB1 := Lib.hid hb1
  have hbl : w.heap.size < w1.heap.size := (Array.getElem?_eq_some_iff.1 hb1).1
  clear hf hb1 hw0 HR
  cases r with
  | false =>
    have HN := Lib.hid ((Nw.nil w1).later HF1.out)
    clear hbl
    go_wp2
    go_ret2
    exact ⟨_, rfl, HN.out⟩
  | true =>
    have hC : CdR c := (rightC_iff c).1 HY.out
    have hw2 := heap_alloc_new w1 (.cells #[.slice none 0 0, .bool false] TW)
    have hsz : (w1.alloc (.cells #[.slice none 0 0, .bool false] TW)).heap.size = w1.heap.size + 1 := by simp
    have hf2 := fp_alloc w1 (.cells #[.slice none 0 0, .bool false] TW)
    have hWw : Ww (fun k => k < w1.heap.size) w1.heap.size [] (w1.alloc (.cells #[.slice none 0 0, .bool false] TW)) :=
      ⟨w.heap.size, .slice none 0 0, ⟨by omega, hw2, World.ownsRow_nil _ _ _ _, by simp [Value.ownBlock]⟩, fun k hk => ⟨by omega, by omega, by simp [Value.ownBlock]⟩⟩
    have hcw := command_w (fun k => k < w1.heap.size) w1.heap.size c vp vn vt vg (w1.alloc (.cells #[.slice none 0 0, .bool false] TW)) hWw (fun W f => by
      have f0 : Fp Non w W := (HF1.out.then hf2).over f (fun k hk => by omega)
      exact ⟨HV.out.1.non f0, HV.out.2.1.non f0, HV.out.2.2.1.non f0, HV.out.2.2.2.non f0⟩) hC
    have hd := bxC (c := c) (hf2.heap HB1.out (fun h => h))
    have d0 := hd.c0; have d1 := hd.c1; have d2 := hd.c2; have d3 := hd.c3; have d4 := hd.c4; have d5 := hd.c5; have d6 := hd.c6; have d7 := hd.c7; have d8 := hd.c8; have d9 := hd.c9; have d10 := hd.c10; have d11 := hd.c11; have d12 := hd.c12; have d13 := hd.c13; have d14 := hd.c14; have d15 := hd.c15
    have HC := Lib.hid hcw
    have HL := Lib.hid (And.intro hC.few (And.intro hf2 hbl))
    unfold cdL at HC
    clear hC hw2 hsz hf2 hWw hcw hd hbl
    go_wp2_with fail
    refine HC.out.mono ?_
    rintro e w3 ⟨rfl, hws⟩
    obtain ⟨lo, v', hWr, hP⟩ := hws.is.ex
    have hbc := Bytes_c lo w1.heap.size v' (encCd c) false w3 hWr (by have := HL.out.1; omega)
    have HFP := Lib.hid ((HF1.out.then HL.out.2.1).over hws.fp (fun k hk => by have := HL.out.2.2; omega))
    have HBC := Lib.hid hbc
    clear hbc hws hWr hP HC d0 d1 d2 d3 d4 d5 d6 d7 d8 d9 d10 d11 d12 d13 d14 d15
    go_wp2_with fail
    refine HBC.out.mono ?_
    rintro e w4 ⟨vb, rfl, hN⟩
    have HN := Lib.hid (hN.later HFP.out)
    obtain ⟨ao, cap, rfl⟩ := hN.shape
    clear hN
    go_wp2
    go_ret2
    exact ⟨_, rfl, HN.out⟩
end Go.Proofs.Ytlmfinpmlilcgaa

