/- Texts of this proof, merged. -/
import Derived.Test.YtlmfinpmlilcgaaZL
set_option linter.unusedVariables false
set_option linter.unusedSimpArgs false
/- A command: may it be? -/
namespace Go.Proofs.Ytlmfinpmlilcgaa
set_option maxRecDepth 20000
set_option linter.unusedVariables false
set_option linter.unusedSimpArgs false
open Go.RowKit Pm

/-- A command's box. -/
structure BxC (w : World) (b : Nat) (c : Cd) (vp vn vt vg : Value) : Prop where
  c0 : w.cell? ⟨b, 0, none⟩ = some (.int .i64 c.kind)
  c1 : w.cell? ⟨b, 1, none⟩ = some (.int .i64 c.id)
  c2 : w.cell? ⟨b, 2, none⟩ = some (.int .i64 c.txn)
  c3 : w.cell? ⟨b, 3, none⟩ = some (.int .i64 c.age)
  c4 : w.cell? ⟨b, 4, none⟩ = some (.bool c.yes)
  c5 : w.cell? ⟨b, 5, none⟩ = some vp
  c6 : w.cell? ⟨b, 6, none⟩ = some (.string (B c.pre))
  c7 : w.cell? ⟨b, 7, none⟩ = some (.int .i64 c.ep)
  c8 : w.cell? ⟨b, 8, none⟩ = some (.int .i64 c.to)
  c9 : w.cell? ⟨b, 9, none⟩ = some vn
  c10 : w.cell? ⟨b, 10, none⟩ = some vt
  c11 : w.cell? ⟨b, 11, none⟩ = some vg
  c12 : w.cell? ⟨b, 12, none⟩ = some (.int .i64 c.ws)
  c13 : w.cell? ⟨b, 13, none⟩ = some (.int .i64 c.wn)
  c14 : w.cell? ⟨b, 14, none⟩ = some (.string (B c.wp))
  c15 : w.cell? ⟨b, 15, none⟩ = some (.bool c.deep)
theorem bxC {w : World} {b : Nat} {c : Cd} {vp vn vt vg : Value} (h : w.heap[b]? = some (.cells (cdL c vp vn vt vg) TCD (0, 0))) : BxC w b c vp vn vt vg := by
  constructor <;> (rw [cell_of_row _ _ _ _ _ _ h]; rfl)

set_option maxHeartbeats 16000000 in
theorem cRight_c (v : Value) (c : Cd) (w : World) (hv : CdW w v c) (hw : Fw c) :
    Calls Try.prog 10 #[v] w fun e w' => e = .returned (.bool (rightC c)) ∧ Fp Non w w' := by
  obtain ⟨vp, vn, vt, vg, rfl, h1, h2, h3, h4⟩ := hv.ex
  obtain ⟨ap, cp, rfl⟩ := h1.shape
  obtain ⟨an, cn, rfl⟩ := h2.shape
  obtain ⟨at', ct, rfl⟩ := h3.shape
  obtain ⟨ag, cg, rfl⟩ := h4.shape
  obtain ⟨r, hr⟩ : ∃ r, rightC c = r := ⟨_, rfl⟩
  have hno : ¬ CdR c → r = false := fun h => by rw [← hr]; exact rightC_false h
  have hyes : CdR c → r = true := fun h => by rw [← hr]; exact rightC_true h
  rw [hr]
  have hb := heap_alloc_new w (.cells (cdL c (.slice ap c.ps.length cp) (.slice an c.st.nodes.length cn) (.slice at' c.st.turns.length ct) (.slice ag c.gone.length cg)) TCD)
  have HF := Lib.hid (fp_alloc w (.cells (cdL c (.slice ap c.ps.length cp) (.slice an c.st.nodes.length cn) (.slice at' c.st.turns.length ct) (.slice ag c.gone.length cg)) TCD))
  have H0 := Lib.hid (And.intro hb (And.intro h1 (And.intro h2 (And.intro h3 h4))))
  have HR := Lib.hid (And.intro hno (And.intro hyes hw))
  clear h1 h2 h3 h4 hv hw hno hyes hr hb
  unfold cdL at HF H0 ⊢
  by_cases k1 : c.kind < 1
  · have t1 : (c.kind < 1) = True := eq_true k1
    have HN := Lib.hid (HR.out.1 (fun h => by have := h.kind; omega))
    clear k1
    go_enter Try.func10, Try.ntmps10
    go_wp2
    go_ret
    exact ⟨by rw [HN.out]; rfl, HF.out⟩
  have t1 : (c.kind < 1) = False := eq_false k1
  by_cases k2 : 13 < c.kind
  · have t2 : (13 < c.kind) = True := eq_true k2
    have HN := Lib.hid (HR.out.1 (fun h => by have := h.kind; omega))
    clear k1 k2
    go_enter Try.func10, Try.ntmps10
    go_wp2
    go_ret
    exact ⟨by rw [HN.out]; rfl, HF.out⟩
  have t2 : (13 < c.kind) = False := eq_false k2
  by_cases k3 : c.to < 0
  · have t3 : (c.to < 0) = True := eq_true k3
    have HN := Lib.hid (HR.out.1 (fun h => by have := h.to; omega))
    clear k1 k2 k3
    go_enter Try.func10, Try.ntmps10
    go_wp2
    go_ret
    exact ⟨by rw [HN.out]; rfl, HF.out⟩
  have t3 : (c.to < 0) = False := eq_false k3
  by_cases k4 : 4 ≤ c.to
  · have t4 : (4 ≤ c.to) = True := eq_true k4
    have HN := Lib.hid (HR.out.1 (fun h => by have := h.to; omega))
    clear k1 k2 k3 k4
    go_enter Try.func10, Try.ntmps10
    go_wp2
    go_ret
    exact ⟨by rw [HN.out]; rfl, HF.out⟩
  have t4 : (4 ≤ c.to) = False := eq_false k4
  have HK := Lib.hid (show (1 ≤ c.kind ∧ c.kind ≤ 13) ∧ 0 ≤ c.to ∧ c.to < 4 from ⟨⟨by omega, by omega⟩, by omega, by omega⟩)
  clear k1 k2 k3 k4
  have HB0 := Lib.hid (bxC (c := c) H0.out.1)
  obtain ⟨W0, hW0⟩ : ∃ W0, W0 = w.alloc (.cells #[.int .i64 c.kind, .int .i64 c.id, .int .i64 c.txn, .int .i64 c.age, .bool c.yes, .slice ap c.ps.length cp, .string (B c.pre), .int .i64 c.ep, .int .i64 c.to, .slice an c.st.nodes.length cn, .slice at' c.st.turns.length ct, .slice ag c.gone.length cg, .int .i64 c.ws, .int .i64 c.wn, .string (B c.wp), .bool c.deep] TCD) := ⟨_, rfl⟩
  have hsz : W0.heap.size = w.heap.size + 1 := by rw [hW0]; simp
  have HA := Lib.hid (areNums_c (.slice (some ⟨W0.heap.size, 0, none⟩) 6 6) [c.id, c.txn, c.age, c.ep, c.ws, c.wn] (W0.alloc (.cells #[.int .i64 c.id, .int .i64 c.txn, .int .i64 c.age, .int .i64 c.ep, .int .i64 c.ws, .int .i64 c.wn] 2)) (Sg.block (l := [c.id, c.txn, c.age, c.ep, c.ws, c.wn]) inC_len (heap_alloc_new W0 (.cells #[.int .i64 c.id, .int .i64 c.txn, .int .i64 c.age, .int .i64 c.ep, .int .i64 c.ws, .int .i64 c.wn] 2)) rfl 6) (by simp))
  have HF1 := Lib.hid (HF.out.then (fp_alloc (w.alloc (.cells #[.int .i64 c.kind, .int .i64 c.id, .int .i64 c.txn, .int .i64 c.age, .bool c.yes, .slice ap c.ps.length cp, .string (B c.pre), .int .i64 c.ep, .int .i64 c.to, .slice an c.st.nodes.length cn, .slice at' c.st.turns.length ct, .slice ag c.gone.length cg, .int .i64 c.ws, .int .i64 c.wn, .string (B c.wp), .bool c.deep] TCD)) (.cells #[.int .i64 c.id, .int .i64 c.txn, .int .i64 c.age, .int .i64 c.ep, .int .i64 c.ws, .int .i64 c.wn] 2)))
  rw [← hW0] at HB0 HF1
  have HB1 := Lib.hid (show BxC (W0.alloc (.cells #[.int .i64 c.id, .int .i64 c.txn, .int .i64 c.age, .int .i64 c.ep, .int .i64 c.ws, .int .i64 c.wn] 2)) w.heap.size c (.slice ap c.ps.length cp) (.slice an c.st.nodes.length cn) (.slice at' c.st.turns.length ct) (.slice ag c.gone.length cg) from bxC ((fp_alloc W0 _).heap (by rw [hW0]; exact H0.out.1) (fun h => h)))
  have hb1 : (W0.alloc (.cells #[.int .i64 c.id, .int .i64 c.txn, .int .i64 c.age, .int .i64 c.ep, .int .i64 c.ws, .int .i64 c.wn] 2)).heap[w.heap.size]? = some (.cells (cdL c (.slice ap c.ps.length cp) (.slice an c.st.nodes.length cn) (.slice at' c.st.turns.length ct) (.slice ag c.gone.length cg)) TCD (0, 0)) := (fp_alloc W0 _).heap (by rw [hW0]; exact H0.out.1) (fun h => h)
  have HH := Lib.hid hb1
  clear hb1
  have HS := Lib.hid hsz
  obtain ⟨a0, ha0⟩ : ∃ b, areNum [c.id, c.txn, c.age, c.ep, c.ws, c.wn] = b := ⟨_, rfl⟩
  obtain ⟨a1, ha1⟩ : ∃ b, isPe c.pre = b := ⟨_, rfl⟩
  obtain ⟨a2, ha2⟩ : ∃ b, isPe c.wp = b := ⟨_, rfl⟩
  obtain ⟨a3, ha3⟩ : ∃ b, psB c.ps = b := ⟨_, rfl⟩
  obtain ⟨a4, ha4⟩ : ∃ b, stB c.st = b := ⟨_, rfl⟩
  obtain ⟨a5, ha5⟩ : ∃ b, goB c.pre c.gone = b := ⟨_, rfl⟩
  have HY := Lib.hid (And.intro ha0 (And.intro ha1 (And.intro ha2 (And.intro ha3 (And.intro ha4 ha5)))))
  rw [ha0] at HA
  have C1 := Lib.hid (show ∀ W, Calls Try.prog 18 #[.string (B c.pre)] W fun e w' => e = .returned (.bool a1) ∧ Fp Non W w' from fun W => by have := isPe_c c.pre W HR.out.2.2.pre; rwa [ha1] at this)
  have C2 := Lib.hid (show ∀ W, Calls Try.prog 18 #[.string (B c.wp)] W fun e w' => e = .returned (.bool a2) ∧ Fp Non W w' from fun W => by have := isPe_c c.wp W HR.out.2.2.wp; rwa [ha2] at this)
  have C3 := Lib.hid (show ∀ W, Fp Non w W → Calls Try.prog 19 #[.slice ap c.ps.length cp] W fun e w' => e = .returned (.bool a3) ∧ Fp Non W w' from fun W f => by
    have := arePs_c _ c.ps W (H0.out.2.1.non f) (fun x hx => (HR.out.2.2.ps x hx).2.1); rwa [ha3] at this)
  have C4 := Lib.hid (show ∀ W, Fp Non w W → Calls Try.prog 20 #[.agg #[.slice an c.st.nodes.length cn, .slice at' c.st.turns.length ct]] W fun e w' => e = .returned (.bool a4) ∧ Fp Non W w' from fun W f => by
    have := isSt_c _ c.st W ⟨_, _, rfl, H0.out.2.2.1.non f, H0.out.2.2.2.1.non f⟩ (fun x hx => (HR.out.2.2.nodes x hx).1) HR.out.2.2.nn HR.out.2.2.turns HR.out.2.2.tn; rwa [ha4] at this)
  have C5 := Lib.hid (show ∀ W, Fp Non w W → Calls Try.prog 21 #[.string (B c.pre), .slice ag c.gone.length cg] W fun e w' => e = .returned (.bool a5) ∧ Fp Non W w' from fun W f => by
    have := areIn_c c.pre _ c.gone W (H0.out.2.2.2.2.non f) HR.out.2.2.pre HR.out.2.2.gone; rwa [ha5] at this)
  clear ha0 ha1 ha2 ha3 ha4 ha5
  go_enter Try.func10, Try.ntmps10
  go_wp2_with fail
  rw [show (31 : TypeId) = TCD from rfl, ← hW0, ← hsz]
  clear hW0 hsz
  refine HA.out.mono ?_
  rintro e w1 ⟨rfl, hf⟩
  have hh := hf.heap HH.out (fun h => h)
  have HF2 := Lib.hid (HF1.out.then hf)
  have HH2 := Lib.hid hh
  have b := bxC (c := c) hh
  have d6 := b.c6; have d14 := b.c14
  clear hf hh b HA
  cases a0 with
  | false =>
    have HN := Lib.hid (HR.out.1 (fun h => by have := h.nums; rw [HY.out.1] at this; exact Bool.noConfusion this))
    go_wp2
    go_ret
    exact ⟨by rw [HN.out]; rfl, HF2.out⟩
  | true =>
  go_wp2_with fail
  refine (C1.out _).mono ?_
  rintro e w2 ⟨rfl, hf⟩
  have hh := hf.heap HH2.out (fun h => h)
  have HF3 := Lib.hid (HF2.out.then hf)
  have HH3 := Lib.hid hh
  have b := bxC (c := c) hh
  clear d6 d14
  have d14 := b.c14
  clear hf hh b
  cases a1 with
  | false =>
    have HN := Lib.hid (HR.out.1 (fun h => by have := h.pre; rw [HY.out.2.1] at this; exact Bool.noConfusion this))
    go_wp2
    go_ret
    exact ⟨by rw [HN.out]; rfl, HF3.out⟩
  | true =>
  go_wp2_with fail
  refine (C2.out _).mono ?_
  rintro e w3 ⟨rfl, hf⟩
  have hh := hf.heap HH3.out (fun h => h)
  have HF4 := Lib.hid (HF3.out.then hf)
  have HH4 := Lib.hid hh
  have b := bxC (c := c) hh
  clear d14
  have d5 := b.c5
  clear hf hh b
  cases a2 with
  | false =>
    have HN := Lib.hid (HR.out.1 (fun h => by have := h.wp; rw [HY.out.2.2.1] at this; exact Bool.noConfusion this))
    go_wp2
    go_ret
    exact ⟨by rw [HN.out]; rfl, HF4.out⟩
  | true =>
  go_wp2_with fail
  refine (C3.out _ HF4.out).mono ?_
  rintro e w4 ⟨rfl, hf⟩
  have hh := hf.heap HH4.out (fun h => h)
  have HF5 := Lib.hid (HF4.out.then hf)
  have HH5 := Lib.hid hh
  have b := bxC (c := c) hh
  clear d5
  have d9 := b.c9; have d10 := b.c10
  clear hf hh b
  cases a3 with
  | false =>
    have HN := Lib.hid (HR.out.1 (fun h => by have := psB_true h.ps; rw [HY.out.2.2.2.1] at this; exact Bool.noConfusion this))
    go_wp2
    go_ret
    exact ⟨by rw [HN.out]; rfl, HF5.out⟩
  | true =>
  go_wp2_with fail
  refine (C4.out _ HF5.out).mono ?_
  rintro e w5 ⟨rfl, hf⟩
  have hh := hf.heap HH5.out (fun h => h)
  have HF6 := Lib.hid (HF5.out.then hf)
  have b := bxC (c := c) hh
  clear d9 d10
  have d6 := b.c6; have d11 := b.c11
  clear hf hh b
  cases a4 with
  | false =>
    have HN := Lib.hid (HR.out.1 (fun h => by have := stB_true h.st; rw [HY.out.2.2.2.2.1] at this; exact Bool.noConfusion this))
    go_wp2
    go_ret
    exact ⟨by rw [HN.out]; rfl, HF6.out⟩
  | true =>
  go_wp2_with fail
  refine (C5.out _ HF6.out).mono ?_
  rintro e w6 ⟨rfl, hf⟩
  have HF7 := Lib.hid (HF6.out.then hf)
  clear d6 d11 hf
  cases a5 with
  | false =>
    have HN := Lib.hid (HR.out.1 (fun h => by have := goB_true h.gone; rw [HY.out.2.2.2.2.2] at this; exact Bool.noConfusion this))
    go_wp2
    go_ret
    exact ⟨by rw [HN.out]; rfl, HF7.out⟩
  | true =>
    have HN := Lib.hid (HR.out.2.1 ⟨HK.out.1, HK.out.2, HY.out.1, HY.out.2.1, HY.out.2.2.1, (psB_iff _).1 HY.out.2.2.2.1, (stB_iff _).1 HY.out.2.2.2.2.1, (goB_iff _ _).1 HY.out.2.2.2.2.2⟩)
    go_wp2
    go_ret
    exact ⟨by rw [HN.out]; rfl, HF7.out⟩
end Go.Proofs.Ytlmfinpmlilcgaa

