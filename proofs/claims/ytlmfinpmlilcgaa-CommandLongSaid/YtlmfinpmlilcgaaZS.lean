/- Texts of this proof, merged. -/
import Derived.Test.YtlmfinpmlilcgaaZR
import Derived.Test.YtlmfinpmlilcgaaZM
set_option linter.unusedVariables false
set_option linter.unusedSimpArgs false
/- A command is read. (gen_go.py) -/
namespace Go.Proofs.Ytlmfinpmlilcgaa
set_option maxRecDepth 20000
set_option linter.unusedVariables false
set_option linter.unusedSimpArgs false
open Go.RowKit Pm

theorem OwG.lower {α : Type} {enc : α → List Value} {k : Nat} {T : TypeId} {lo lo' : Nat} {w : World} {v : Value} {l : List α} (h : OwG T enc k lo' w v l) (hl : lo ≤ lo') : OwG T enc k lo w v l := by
  refine ⟨h.1, ?_⟩
  rcases h.2 with hn | ⟨g, cap, cur, rfl, hb, rest⟩
  · exact .inl hn
  · exact .inr ⟨g, cap, cur, rfl, Nat.le_trans hl hb, rest⟩
theorem OwG.shape {α : Type} {enc : α → List Value} {k : Nat} {T : TypeId} {lo : Nat} {w : World} {v : Value} {l : List α} (h : OwG T enc k lo w v l) : ∃ ao n cap, v = .slice ao n cap := by
  rcases h.2 with ⟨rfl, _⟩ | ⟨g, cap, cur, rfl, _⟩
  · exact ⟨_, _, _, rfl⟩
  · exact ⟨_, _, _, rfl⟩
/-- The blocks that are written while a command is read. -/
def Sx (b n0 : Nat) : Nat → Prop := fun j => j = b ∨ j = n0 + 1 ∨ j = n0 + 1 + 1
theorem stays {S : Nat → Prop} {W W2 : World} {Q : World → Prop} (h : ∀ W', Fp S W W' → Q W') (f : Fp S W W2) : ∀ W', Fp S W2 W' → Q W' := fun W' g => h W' (f.same g)
theorem sxB {b n0 : Nat} {W W2 : World} (f : Fp (fun j => j = b) W W2) : Fp (Sx b n0) W W2 := f.mono (fun _ h => .inl h)
theorem sxP {b n0 : Nat} (W : World) (j : Nat) (v : Value) : Fp (Sx b n0) W (W.setCell ⟨n0 + 1 + 1, j, none⟩ v) := (Fp.refl _ W).setCell (p := ⟨n0 + 1 + 1, j, none⟩) (.inl (.inr (.inr rfl))) v
theorem sxR {b n0 : Nat} (W : World) (l : List Value) : Fp (Sx b n0) W (setAll W (n0 + 1) 0 l) := (setAll_fp l W (n0 + 1) 0).mono (fun _ h => .inr (.inl h))
theorem owSx {α : Type} {enc : α → List Value} {k : Nat} {T TT : TypeId} {lo b : Nat} {s : Rst} {w : World} {n0 : Nat} {Z C : Array Value} {W W2 : World} {v : Value} {l : List α} (H : Rd3 lo b s w n0 TT Z C W) (h : OwG T enc k W.heap.size W2 v l) :
    ∀ W', Fp (Sx b n0) W2 W' → OwG T enc k w.heap.size W' v l := fun W' f => by
  have h1 := (Array.getElem?_eq_some_iff.1 H.hp).1
  have h2 := H.hn
  have h3 := H.hb
  exact (h.keep f (fun j hj hs => by rcases hs with e | e | e <;> omega)).lower (by omega)

set_option maxHeartbeats 32000000 in
theorem rCd_c (lo b : Nat) (s : Rst) (w : World) (h : Rr lo b s w) (hl : s.1.length ≤ 1000000) :
    Calls Try.prog 23 #[.agg #[.pointer (some ⟨b, 0, none⟩)]] w fun e w' => ∃ vp vn vt vg, e = .returned (.agg (cdL (rCd s).1 vp vn vt vg)) ∧
      (OwG 48 peC 8 w.heap.size w' vp (rCd s).1.ps ∧ OwG 81 ndC 5 w.heap.size w' vn (rCd s).1.st.nodes ∧ OwG 72 tuC 2 w.heap.size w' vt (rCd s).1.st.turns ∧ OwG 9 txC 1 w.heap.size w' vg (rCd s).1.gone) ∧ RrStep lo b (rCd s).2 w w' := by
  have H0 := Lib.hid (Rd3.start h rfl #[.int .i64 0, .int .i64 0, .int .i64 0, .int .i64 0, .bool false, .slice none 0 0, .string ⟨#[]⟩, .int .i64 0, .int .i64 0, .slice none 0 0, .slice none 0 0, .slice none 0 0, .int .i64 0, .int .i64 0, .string ⟨#[]⟩, .bool false] 31)
  obtain ⟨a1, e1⟩ : ∃ a, a = rNum s 13 := ⟨_, rfl⟩
  obtain ⟨a2, e2⟩ : ∃ a, a = rNum a1.2 281474976710656 := ⟨_, rfl⟩
  obtain ⟨a3, e3⟩ : ∃ a, a = rNum a2.2 281474976710656 := ⟨_, rfl⟩
  obtain ⟨a4, e4⟩ : ∃ a, a = rNum a3.2 281474976710656 := ⟨_, rfl⟩
  obtain ⟨a5, e5⟩ : ∃ a, a = rFl a4.2 := ⟨_, rfl⟩
  obtain ⟨a6, e6⟩ : ∃ a, a = rLs rPe 16 a5.2 := ⟨_, rfl⟩
  obtain ⟨a7, e7⟩ : ∃ a, a = rText a6.2 := ⟨_, rfl⟩
  obtain ⟨a8, e8⟩ : ∃ a, a = rNum a7.2 281474976710656 := ⟨_, rfl⟩
  obtain ⟨a9, e9⟩ : ∃ a, a = rNum a8.2 3 := ⟨_, rfl⟩
  obtain ⟨a10, e10⟩ : ∃ a, a = rLs rNd 512 a9.2 := ⟨_, rfl⟩
  obtain ⟨a11, e11⟩ : ∃ a, a = rLs rTu 512 a10.2 := ⟨_, rfl⟩
  obtain ⟨a12, e12⟩ : ∃ a, a = rLs rText 32 a11.2 := ⟨_, rfl⟩
  obtain ⟨a13, e13⟩ : ∃ a, a = rNum a12.2 281474976710656 := ⟨_, rfl⟩
  obtain ⟨a14, e14⟩ : ∃ a, a = rNum a13.2 281474976710656 := ⟨_, rfl⟩
  obtain ⟨a15, e15⟩ : ∃ a, a = rText a14.2 := ⟨_, rfl⟩
  obtain ⟨a16, e16⟩ : ∃ a, a = rFl a15.2 := ⟨_, rfl⟩
  have l0 : s.1.length ≤ 1000000 := hl
  have l1 : a1.2.1.length ≤ 1000000 := by rw [e1]; have := rNum_le s 13; exact Nat.le_trans this l0
  have l2 : a2.2.1.length ≤ 1000000 := by rw [e2]; have := rNum_le a1.2 281474976710656; exact Nat.le_trans this l1
  have l3 : a3.2.1.length ≤ 1000000 := by rw [e3]; have := rNum_le a2.2 281474976710656; exact Nat.le_trans this l2
  have l4 : a4.2.1.length ≤ 1000000 := by rw [e4]; have := rNum_le a3.2 281474976710656; exact Nat.le_trans this l3
  have l5 : a5.2.1.length ≤ 1000000 := by rw [e5]; have := rNum_le a4.2 1; unfold rFl; exact Nat.le_trans this l4
  have l6 : a6.2.1.length ≤ 1000000 := by rw [e6]; have := rLs_le rPe_le 16 a5.2; exact Nat.le_trans this l5
  have l7 : a7.2.1.length ≤ 1000000 := by rw [e7]; have := (rText_le a6.2).1; exact Nat.le_trans this l6
  have l8 : a8.2.1.length ≤ 1000000 := by rw [e8]; have := rNum_le a7.2 281474976710656; exact Nat.le_trans this l7
  have l9 : a9.2.1.length ≤ 1000000 := by rw [e9]; have := rNum_le a8.2 3; exact Nat.le_trans this l8
  have l10 : a10.2.1.length ≤ 1000000 := by rw [e10]; have := rLs_le rNd_le 512 a9.2; exact Nat.le_trans this l9
  have l11 : a11.2.1.length ≤ 1000000 := by rw [e11]; have := rLs_le rTu_le 512 a10.2; exact Nat.le_trans this l10
  have l12 : a12.2.1.length ≤ 1000000 := by rw [e12]; have := rLs_le rTx_le 32 a11.2; exact Nat.le_trans this l11
  have l13 : a13.2.1.length ≤ 1000000 := by rw [e13]; have := rNum_le a12.2 281474976710656; exact Nat.le_trans this l12
  have l14 : a14.2.1.length ≤ 1000000 := by rw [e14]; have := rNum_le a13.2 281474976710656; exact Nat.le_trans this l13
  have l15 : a15.2.1.length ≤ 1000000 := by rw [e15]; have := (rText_le a14.2).1; exact Nat.le_trans this l14
  have l16 : a16.2.1.length ≤ 1000000 := by rw [e16]; have := rNum_le a15.2 1; unfold rFl; exact Nat.le_trans this l15
  have hE : rCd s = ((⟨(a1.1 : Int), (a2.1 : Int), (a3.1 : Int), (a4.1 : Int), a5.1, a6.1, a7.1, (a8.1 : Int), (a9.1 : Int), ⟨a10.1, a11.1⟩, a12.1, (a13.1 : Int), (a14.1 : Int), a15.1, a16.1⟩ : Cd), a16.2) := by
    rw [e16, e15, e14, e13, e12, e11, e10, e9, e8, e7, e6, e5, e4, e3, e2, e1]; rfl
  rw [hE]
  simp only [cdL]
  have HL := Lib.hid (And.intro l0 (And.intro l1 (And.intro l2 (And.intro l3 (And.intro l4 (And.intro l5 (And.intro l6 (And.intro l7 (And.intro l8 (And.intro l9 (And.intro l10 (And.intro l11 (And.intro l12 (And.intro l13 (And.intro l14 (And.intro l15 (And.intro l16 trivial)))))))))))))))))
  have HEs := Lib.hid (And.intro e1 (And.intro e2 (And.intro e3 (And.intro e4 (And.intro e5 (And.intro e6 (And.intro e7 (And.intro e8 (And.intro e9 (And.intro e10 (And.intro e11 (And.intro e12 (And.intro e13 (And.intro e14 (And.intro e15 (And.intro e16 trivial))))))))))))))))
  clear l0 l1 l2 l3 l4 l5 l6 l7 l8 l9 l10 l11 l12 l13 l14 l15 l16 hE hl h e1 e2 e3 e4 e5 e6 e7 e8 e9 e10 e11 e12 e13 e14 e15 e16
  have Q0 := Lib.hid (show ∀ W', Fp (Sx b w.heap.size) (((w.alloc (.cells #[.pointer (some ⟨b, 0, none⟩)] TRD)).alloc (.cells #[.int .i64 0, .int .i64 0, .int .i64 0, .int .i64 0, .bool false, .slice none 0 0, .string ⟨#[]⟩, .int .i64 0, .int .i64 0, .slice none 0 0, .slice none 0 0, .slice none 0 0, .int .i64 0, .int .i64 0, .string ⟨#[]⟩, .bool false] 31)).alloc (.cells #[.int .i64 0, .int .i64 0, .int .i64 0, .int .i64 0, .bool false, .slice none 0 0, .string ⟨#[]⟩, .int .i64 0, .int .i64 0, .slice none 0 0, .slice none 0 0, .slice none 0 0, .int .i64 0, .int .i64 0, .string ⟨#[]⟩, .bool false] 31)) W' → True from fun _ _ => trivial)
  go_enter Try.func23, Try.ntmps23
  have hc := RNum_c lo b s 13 _ H0.out.rr HL.out.1
  rw [← HEs.out.1] at hc
  have HC := Lib.hid hc
  clear hc
  have bx := H0.out.box
  go_wp2_with fail
  refine HC.out.mono ?_
  rintro e w1 ⟨rfl, g⟩
  have Q1 := Lib.hid (stays Q0.out (sxB g.2))
  clear Q0
  have K1 := Lib.hid (H0.out.step g)
  clear g bx HC H0
  have cj := K1.out.cell 0
  have fj := frz K1.out.hp 0
  simp only [List.getElem?_toArray, List.getElem?_cons_zero, List.getElem?_cons_succ] at cj
  have H1 := Lib.hid (show Rd3 lo b a1.2 w w.heap.size 31 #[.int .i64 0, .int .i64 0, .int .i64 0, .int .i64 0, .bool false, .slice none 0 0, .string ⟨#[]⟩, .int .i64 0, .int .i64 0, .slice none 0 0, .slice none 0 0, .slice none 0 0, .int .i64 0, .int .i64 0, .string ⟨#[]⟩, .bool false] #[.int .i64 (a1.1 : Int), .int .i64 0, .int .i64 0, .int .i64 0, .bool false, .slice none 0 0, .string ⟨#[]⟩, .int .i64 0, .int .i64 0, .slice none 0 0, .slice none 0 0, .slice none 0 0, .int .i64 0, .int .i64 0, .string ⟨#[]⟩, .bool false] (w1.setCell ⟨w.heap.size + 1 + 1, 0, none⟩ (.int .i64 (a1.1 : Int))) from K1.out.put 0 _)
  have R1 := Lib.hid (stays Q1.out (sxP w1 0 (.int .i64 (a1.1 : Int))))
  clear Q1 K1
  have Q1 := R1
  clear R1
  have hc := RNum_c lo b a1.2 281474976710656 _ H1.out.rr HL.out.2.1
  rw [← HEs.out.2.1] at hc
  have HC := Lib.hid hc
  clear hc
  have bx := H1.out.box
  go_wp2_with fail
  refine HC.out.mono ?_
  rintro e w2 ⟨rfl, g⟩
  have Q2 := Lib.hid (stays Q1.out (sxB g.2))
  clear Q1
  have K2 := Lib.hid (H1.out.step g)
  clear g bx HC H1
  have cj := K2.out.cell 1
  have fj := frz K2.out.hp 1
  simp only [List.getElem?_toArray, List.getElem?_cons_zero, List.getElem?_cons_succ] at cj
  have H2 := Lib.hid (show Rd3 lo b a2.2 w w.heap.size 31 #[.int .i64 0, .int .i64 0, .int .i64 0, .int .i64 0, .bool false, .slice none 0 0, .string ⟨#[]⟩, .int .i64 0, .int .i64 0, .slice none 0 0, .slice none 0 0, .slice none 0 0, .int .i64 0, .int .i64 0, .string ⟨#[]⟩, .bool false] #[.int .i64 (a1.1 : Int), .int .i64 (a2.1 : Int), .int .i64 0, .int .i64 0, .bool false, .slice none 0 0, .string ⟨#[]⟩, .int .i64 0, .int .i64 0, .slice none 0 0, .slice none 0 0, .slice none 0 0, .int .i64 0, .int .i64 0, .string ⟨#[]⟩, .bool false] (w2.setCell ⟨w.heap.size + 1 + 1, 1, none⟩ (.int .i64 (a2.1 : Int))) from K2.out.put 1 _)
  have R2 := Lib.hid (stays Q2.out (sxP w2 1 (.int .i64 (a2.1 : Int))))
  clear Q2 K2
  have Q2 := R2
  clear R2
  have hc := RNum_c lo b a2.2 281474976710656 _ H2.out.rr HL.out.2.2.1
  rw [← HEs.out.2.2.1] at hc
  have HC := Lib.hid hc
  clear hc
  have bx := H2.out.box
  go_wp2_with fail
  refine HC.out.mono ?_
  rintro e w3 ⟨rfl, g⟩
  have Q3 := Lib.hid (stays Q2.out (sxB g.2))
  clear Q2
  have K3 := Lib.hid (H2.out.step g)
  clear g bx HC H2
  have cj := K3.out.cell 2
  have fj := frz K3.out.hp 2
  simp only [List.getElem?_toArray, List.getElem?_cons_zero, List.getElem?_cons_succ] at cj
  have H3 := Lib.hid (show Rd3 lo b a3.2 w w.heap.size 31 #[.int .i64 0, .int .i64 0, .int .i64 0, .int .i64 0, .bool false, .slice none 0 0, .string ⟨#[]⟩, .int .i64 0, .int .i64 0, .slice none 0 0, .slice none 0 0, .slice none 0 0, .int .i64 0, .int .i64 0, .string ⟨#[]⟩, .bool false] #[.int .i64 (a1.1 : Int), .int .i64 (a2.1 : Int), .int .i64 (a3.1 : Int), .int .i64 0, .bool false, .slice none 0 0, .string ⟨#[]⟩, .int .i64 0, .int .i64 0, .slice none 0 0, .slice none 0 0, .slice none 0 0, .int .i64 0, .int .i64 0, .string ⟨#[]⟩, .bool false] (w3.setCell ⟨w.heap.size + 1 + 1, 2, none⟩ (.int .i64 (a3.1 : Int))) from K3.out.put 2 _)
  have R3 := Lib.hid (stays Q3.out (sxP w3 2 (.int .i64 (a3.1 : Int))))
  clear Q3 K3
  have Q3 := R3
  clear R3
  have hc := RNum_c lo b a3.2 281474976710656 _ H3.out.rr HL.out.2.2.2.1
  rw [← HEs.out.2.2.2.1] at hc
  have HC := Lib.hid hc
  clear hc
  have bx := H3.out.box
  go_wp2_with fail
  refine HC.out.mono ?_
  rintro e w4 ⟨rfl, g⟩
  have Q4 := Lib.hid (stays Q3.out (sxB g.2))
  clear Q3
  have K4 := Lib.hid (H3.out.step g)
  clear g bx HC H3
  have cj := K4.out.cell 3
  have fj := frz K4.out.hp 3
  simp only [List.getElem?_toArray, List.getElem?_cons_zero, List.getElem?_cons_succ] at cj
  have H4 := Lib.hid (show Rd3 lo b a4.2 w w.heap.size 31 #[.int .i64 0, .int .i64 0, .int .i64 0, .int .i64 0, .bool false, .slice none 0 0, .string ⟨#[]⟩, .int .i64 0, .int .i64 0, .slice none 0 0, .slice none 0 0, .slice none 0 0, .int .i64 0, .int .i64 0, .string ⟨#[]⟩, .bool false] #[.int .i64 (a1.1 : Int), .int .i64 (a2.1 : Int), .int .i64 (a3.1 : Int), .int .i64 (a4.1 : Int), .bool false, .slice none 0 0, .string ⟨#[]⟩, .int .i64 0, .int .i64 0, .slice none 0 0, .slice none 0 0, .slice none 0 0, .int .i64 0, .int .i64 0, .string ⟨#[]⟩, .bool false] (w4.setCell ⟨w.heap.size + 1 + 1, 3, none⟩ (.int .i64 (a4.1 : Int))) from K4.out.put 3 _)
  have R4 := Lib.hid (stays Q4.out (sxP w4 3 (.int .i64 (a4.1 : Int))))
  clear Q4 K4
  have Q4 := R4
  clear R4
  have hc := rFl_c lo b a4.2 _ H4.out.rr HL.out.2.2.2.2.1
  rw [← HEs.out.2.2.2.2.1] at hc
  have HC := Lib.hid hc
  clear hc
  have bx := H4.out.box
  go_wp2_with fail
  refine HC.out.mono ?_
  rintro e w5 ⟨rfl, g⟩
  have Q5 := Lib.hid (stays Q4.out (sxB g.2))
  clear Q4
  have K5 := Lib.hid (H4.out.step g)
  clear g bx HC H4
  have cj := K5.out.cell 4
  have fj := frz K5.out.hp 4
  simp only [List.getElem?_toArray, List.getElem?_cons_zero, List.getElem?_cons_succ] at cj
  have H5 := Lib.hid (show Rd3 lo b a5.2 w w.heap.size 31 #[.int .i64 0, .int .i64 0, .int .i64 0, .int .i64 0, .bool false, .slice none 0 0, .string ⟨#[]⟩, .int .i64 0, .int .i64 0, .slice none 0 0, .slice none 0 0, .slice none 0 0, .int .i64 0, .int .i64 0, .string ⟨#[]⟩, .bool false] #[.int .i64 (a1.1 : Int), .int .i64 (a2.1 : Int), .int .i64 (a3.1 : Int), .int .i64 (a4.1 : Int), .bool a5.1, .slice none 0 0, .string ⟨#[]⟩, .int .i64 0, .int .i64 0, .slice none 0 0, .slice none 0 0, .slice none 0 0, .int .i64 0, .int .i64 0, .string ⟨#[]⟩, .bool false] (w5.setCell ⟨w.heap.size + 1 + 1, 4, none⟩ (.bool a5.1)) from K5.out.put 4 _)
  have R5 := Lib.hid (stays Q5.out (sxP w5 4 (.bool a5.1)))
  clear Q5 K5
  have Q5 := R5
  clear R5
  have hc := getPe_c lo b a5.2 16 _ H5.out.rr HL.out.2.2.2.2.2.1 (by omega) (by omega)
  rw [← HEs.out.2.2.2.2.2.1] at hc
  have HC := Lib.hid hc
  clear hc
  have bx := H5.out.box
  go_wp2_with fail
  refine HC.out.mono ?_
  rintro e w6 ⟨vp, rfl, ho, g⟩
  obtain ⟨vpa, vpn, vpc, rfl⟩ := ho.shape
  have q := owSx H5.out ho
  have Q6 := Lib.hid (fun W' f => And.intro (q W' f) (stays Q5.out (sxB g.2) W' f))
  clear q ho Q5
  have K6 := Lib.hid (H5.out.step g)
  clear g bx HC H5
  have cj := K6.out.cell 5
  have fj := frz K6.out.hp 5
  simp only [List.getElem?_toArray, List.getElem?_cons_zero, List.getElem?_cons_succ] at cj
  have H6 := Lib.hid (show Rd3 lo b a6.2 w w.heap.size 31 #[.int .i64 0, .int .i64 0, .int .i64 0, .int .i64 0, .bool false, .slice none 0 0, .string ⟨#[]⟩, .int .i64 0, .int .i64 0, .slice none 0 0, .slice none 0 0, .slice none 0 0, .int .i64 0, .int .i64 0, .string ⟨#[]⟩, .bool false] #[.int .i64 (a1.1 : Int), .int .i64 (a2.1 : Int), .int .i64 (a3.1 : Int), .int .i64 (a4.1 : Int), .bool a5.1, .slice vpa vpn vpc, .string ⟨#[]⟩, .int .i64 0, .int .i64 0, .slice none 0 0, .slice none 0 0, .slice none 0 0, .int .i64 0, .int .i64 0, .string ⟨#[]⟩, .bool false] (w6.setCell ⟨w.heap.size + 1 + 1, 5, none⟩ (.slice vpa vpn vpc)) from K6.out.put 5 _)
  have R6 := Lib.hid (stays Q6.out (sxP w6 5 (.slice vpa vpn vpc)))
  clear Q6 K6
  have Q6 := R6
  clear R6
  have hc := RText_c lo b a6.2 _ H6.out.rr HL.out.2.2.2.2.2.2.1
  rw [← HEs.out.2.2.2.2.2.2.1] at hc
  have HC := Lib.hid hc
  clear hc
  have bx := H6.out.box
  go_wp2_with fail
  refine HC.out.mono ?_
  rintro e w7 ⟨rfl, g⟩
  have Q7 := Lib.hid (stays Q6.out (sxB g.2))
  clear Q6
  have K7 := Lib.hid (H6.out.step g)
  clear g bx HC H6
  have cj := K7.out.cell 6
  have fj := frz K7.out.hp 6
  simp only [List.getElem?_toArray, List.getElem?_cons_zero, List.getElem?_cons_succ] at cj
  have H7 := Lib.hid (show Rd3 lo b a7.2 w w.heap.size 31 #[.int .i64 0, .int .i64 0, .int .i64 0, .int .i64 0, .bool false, .slice none 0 0, .string ⟨#[]⟩, .int .i64 0, .int .i64 0, .slice none 0 0, .slice none 0 0, .slice none 0 0, .int .i64 0, .int .i64 0, .string ⟨#[]⟩, .bool false] #[.int .i64 (a1.1 : Int), .int .i64 (a2.1 : Int), .int .i64 (a3.1 : Int), .int .i64 (a4.1 : Int), .bool a5.1, .slice vpa vpn vpc, .string (B a7.1), .int .i64 0, .int .i64 0, .slice none 0 0, .slice none 0 0, .slice none 0 0, .int .i64 0, .int .i64 0, .string ⟨#[]⟩, .bool false] (w7.setCell ⟨w.heap.size + 1 + 1, 6, none⟩ (.string (B a7.1))) from K7.out.put 6 _)
  have R7 := Lib.hid (stays Q7.out (sxP w7 6 (.string (B a7.1))))
  clear Q7 K7
  have Q7 := R7
  clear R7
  have hc := RNum_c lo b a7.2 281474976710656 _ H7.out.rr HL.out.2.2.2.2.2.2.2.1
  rw [← HEs.out.2.2.2.2.2.2.2.1] at hc
  have HC := Lib.hid hc
  clear hc
  have bx := H7.out.box
  go_wp2_with fail
  refine HC.out.mono ?_
  rintro e w8 ⟨rfl, g⟩
  have Q8 := Lib.hid (stays Q7.out (sxB g.2))
  clear Q7
  have K8 := Lib.hid (H7.out.step g)
  clear g bx HC H7
  have cj := K8.out.cell 7
  have fj := frz K8.out.hp 7
  simp only [List.getElem?_toArray, List.getElem?_cons_zero, List.getElem?_cons_succ] at cj
  have H8 := Lib.hid (show Rd3 lo b a8.2 w w.heap.size 31 #[.int .i64 0, .int .i64 0, .int .i64 0, .int .i64 0, .bool false, .slice none 0 0, .string ⟨#[]⟩, .int .i64 0, .int .i64 0, .slice none 0 0, .slice none 0 0, .slice none 0 0, .int .i64 0, .int .i64 0, .string ⟨#[]⟩, .bool false] #[.int .i64 (a1.1 : Int), .int .i64 (a2.1 : Int), .int .i64 (a3.1 : Int), .int .i64 (a4.1 : Int), .bool a5.1, .slice vpa vpn vpc, .string (B a7.1), .int .i64 (a8.1 : Int), .int .i64 0, .slice none 0 0, .slice none 0 0, .slice none 0 0, .int .i64 0, .int .i64 0, .string ⟨#[]⟩, .bool false] (w8.setCell ⟨w.heap.size + 1 + 1, 7, none⟩ (.int .i64 (a8.1 : Int))) from K8.out.put 7 _)
  have R8 := Lib.hid (stays Q8.out (sxP w8 7 (.int .i64 (a8.1 : Int))))
  clear Q8 K8
  have Q8 := R8
  clear R8
  have hc := RNum_c lo b a8.2 3 _ H8.out.rr HL.out.2.2.2.2.2.2.2.2.1
  rw [← HEs.out.2.2.2.2.2.2.2.2.1] at hc
  have HC := Lib.hid hc
  clear hc
  have bx := H8.out.box
  go_wp2_with fail
  refine HC.out.mono ?_
  rintro e w9 ⟨rfl, g⟩
  have Q9 := Lib.hid (stays Q8.out (sxB g.2))
  clear Q8
  have K9 := Lib.hid (H8.out.step g)
  clear g bx HC H8
  have cj := K9.out.cell 8
  have fj := frz K9.out.hp 8
  simp only [List.getElem?_toArray, List.getElem?_cons_zero, List.getElem?_cons_succ] at cj
  have H9 := Lib.hid (show Rd3 lo b a9.2 w w.heap.size 31 #[.int .i64 0, .int .i64 0, .int .i64 0, .int .i64 0, .bool false, .slice none 0 0, .string ⟨#[]⟩, .int .i64 0, .int .i64 0, .slice none 0 0, .slice none 0 0, .slice none 0 0, .int .i64 0, .int .i64 0, .string ⟨#[]⟩, .bool false] #[.int .i64 (a1.1 : Int), .int .i64 (a2.1 : Int), .int .i64 (a3.1 : Int), .int .i64 (a4.1 : Int), .bool a5.1, .slice vpa vpn vpc, .string (B a7.1), .int .i64 (a8.1 : Int), .int .i64 (a9.1 : Int), .slice none 0 0, .slice none 0 0, .slice none 0 0, .int .i64 0, .int .i64 0, .string ⟨#[]⟩, .bool false] (w9.setCell ⟨w.heap.size + 1 + 1, 8, none⟩ (.int .i64 (a9.1 : Int))) from K9.out.put 8 _)
  have R9 := Lib.hid (stays Q9.out (sxP w9 8 (.int .i64 (a9.1 : Int))))
  clear Q9 K9
  have Q9 := R9
  clear R9
  have hc := getNd_c lo b a9.2 512 _ H9.out.rr HL.out.2.2.2.2.2.2.2.2.2.1 (by omega) (by omega)
  rw [← HEs.out.2.2.2.2.2.2.2.2.2.1] at hc
  have HC := Lib.hid hc
  clear hc
  have bx := H9.out.box
  go_wp2_with fail
  refine HC.out.mono ?_
  rintro e w10 ⟨vn, rfl, ho, g⟩
  obtain ⟨vna, vnn, vnc, rfl⟩ := ho.shape
  have q := owSx H9.out ho
  have Q10 := Lib.hid (fun W' f => And.intro (q W' f) (stays Q9.out (sxB g.2) W' f))
  clear q ho Q9
  have K10 := Lib.hid (H9.out.step g)
  clear g bx HC H9
  have cj := K10.out.cell 9
  have fj := frz K10.out.hp 9
  simp only [List.getElem?_toArray, List.getElem?_cons_zero, List.getElem?_cons_succ] at cj
  have H10 := Lib.hid (show Rd3 lo b a10.2 w w.heap.size 31 #[.int .i64 0, .int .i64 0, .int .i64 0, .int .i64 0, .bool false, .slice none 0 0, .string ⟨#[]⟩, .int .i64 0, .int .i64 0, .slice none 0 0, .slice none 0 0, .slice none 0 0, .int .i64 0, .int .i64 0, .string ⟨#[]⟩, .bool false] #[.int .i64 (a1.1 : Int), .int .i64 (a2.1 : Int), .int .i64 (a3.1 : Int), .int .i64 (a4.1 : Int), .bool a5.1, .slice vpa vpn vpc, .string (B a7.1), .int .i64 (a8.1 : Int), .int .i64 (a9.1 : Int), .slice vna vnn vnc, .slice none 0 0, .slice none 0 0, .int .i64 0, .int .i64 0, .string ⟨#[]⟩, .bool false] (w10.setCell ⟨w.heap.size + 1 + 1, 9, none⟩ (.slice vna vnn vnc)) from K10.out.put 9 _)
  have R10 := Lib.hid (stays Q10.out (sxP w10 9 (.slice vna vnn vnc)))
  clear Q10 K10
  have Q10 := R10
  clear R10
  have hc := getTu_c lo b a10.2 512 _ H10.out.rr HL.out.2.2.2.2.2.2.2.2.2.2.1 (by omega) (by omega)
  rw [← HEs.out.2.2.2.2.2.2.2.2.2.2.1] at hc
  have HC := Lib.hid hc
  clear hc
  have bx := H10.out.box
  go_wp2_with fail
  refine HC.out.mono ?_
  rintro e w11 ⟨vt, rfl, ho, g⟩
  obtain ⟨vta, vtn, vtc, rfl⟩ := ho.shape
  have q := owSx H10.out ho
  have Q11 := Lib.hid (fun W' f => And.intro (q W' f) (stays Q10.out (sxB g.2) W' f))
  clear q ho Q10
  have K11 := Lib.hid (H10.out.step g)
  clear g bx HC H10
  have cj := K11.out.cell 10
  have fj := frz K11.out.hp 10
  simp only [List.getElem?_toArray, List.getElem?_cons_zero, List.getElem?_cons_succ] at cj
  have H11 := Lib.hid (show Rd3 lo b a11.2 w w.heap.size 31 #[.int .i64 0, .int .i64 0, .int .i64 0, .int .i64 0, .bool false, .slice none 0 0, .string ⟨#[]⟩, .int .i64 0, .int .i64 0, .slice none 0 0, .slice none 0 0, .slice none 0 0, .int .i64 0, .int .i64 0, .string ⟨#[]⟩, .bool false] #[.int .i64 (a1.1 : Int), .int .i64 (a2.1 : Int), .int .i64 (a3.1 : Int), .int .i64 (a4.1 : Int), .bool a5.1, .slice vpa vpn vpc, .string (B a7.1), .int .i64 (a8.1 : Int), .int .i64 (a9.1 : Int), .slice vna vnn vnc, .slice vta vtn vtc, .slice none 0 0, .int .i64 0, .int .i64 0, .string ⟨#[]⟩, .bool false] (w11.setCell ⟨w.heap.size + 1 + 1, 10, none⟩ (.slice vta vtn vtc)) from K11.out.put 10 _)
  have R11 := Lib.hid (stays Q11.out (sxP w11 10 (.slice vta vtn vtc)))
  clear Q11 K11
  have Q11 := R11
  clear R11
  have hc := getTx_c lo b a11.2 32 _ H11.out.rr HL.out.2.2.2.2.2.2.2.2.2.2.2.1 (by omega) (by omega)
  rw [← HEs.out.2.2.2.2.2.2.2.2.2.2.2.1] at hc
  have HC := Lib.hid hc
  clear hc
  have bx := H11.out.box
  go_wp2_with fail
  refine HC.out.mono ?_
  rintro e w12 ⟨vg, rfl, ho, g⟩
  obtain ⟨vga, vgn, vgc, rfl⟩ := ho.shape
  have q := owSx H11.out ho
  have Q12 := Lib.hid (fun W' f => And.intro (q W' f) (stays Q11.out (sxB g.2) W' f))
  clear q ho Q11
  have K12 := Lib.hid (H11.out.step g)
  clear g bx HC H11
  have cj := K12.out.cell 11
  have fj := frz K12.out.hp 11
  simp only [List.getElem?_toArray, List.getElem?_cons_zero, List.getElem?_cons_succ] at cj
  have H12 := Lib.hid (show Rd3 lo b a12.2 w w.heap.size 31 #[.int .i64 0, .int .i64 0, .int .i64 0, .int .i64 0, .bool false, .slice none 0 0, .string ⟨#[]⟩, .int .i64 0, .int .i64 0, .slice none 0 0, .slice none 0 0, .slice none 0 0, .int .i64 0, .int .i64 0, .string ⟨#[]⟩, .bool false] #[.int .i64 (a1.1 : Int), .int .i64 (a2.1 : Int), .int .i64 (a3.1 : Int), .int .i64 (a4.1 : Int), .bool a5.1, .slice vpa vpn vpc, .string (B a7.1), .int .i64 (a8.1 : Int), .int .i64 (a9.1 : Int), .slice vna vnn vnc, .slice vta vtn vtc, .slice vga vgn vgc, .int .i64 0, .int .i64 0, .string ⟨#[]⟩, .bool false] (w12.setCell ⟨w.heap.size + 1 + 1, 11, none⟩ (.slice vga vgn vgc)) from K12.out.put 11 _)
  have R12 := Lib.hid (stays Q12.out (sxP w12 11 (.slice vga vgn vgc)))
  clear Q12 K12
  have Q12 := R12
  clear R12
  have hc := RNum_c lo b a12.2 281474976710656 _ H12.out.rr HL.out.2.2.2.2.2.2.2.2.2.2.2.2.1
  rw [← HEs.out.2.2.2.2.2.2.2.2.2.2.2.2.1] at hc
  have HC := Lib.hid hc
  clear hc
  have bx := H12.out.box
  go_wp2_with fail
  refine HC.out.mono ?_
  rintro e w13 ⟨rfl, g⟩
  have Q13 := Lib.hid (stays Q12.out (sxB g.2))
  clear Q12
  have K13 := Lib.hid (H12.out.step g)
  clear g bx HC H12
  have cj := K13.out.cell 12
  have fj := frz K13.out.hp 12
  simp only [List.getElem?_toArray, List.getElem?_cons_zero, List.getElem?_cons_succ] at cj
  have H13 := Lib.hid (show Rd3 lo b a13.2 w w.heap.size 31 #[.int .i64 0, .int .i64 0, .int .i64 0, .int .i64 0, .bool false, .slice none 0 0, .string ⟨#[]⟩, .int .i64 0, .int .i64 0, .slice none 0 0, .slice none 0 0, .slice none 0 0, .int .i64 0, .int .i64 0, .string ⟨#[]⟩, .bool false] #[.int .i64 (a1.1 : Int), .int .i64 (a2.1 : Int), .int .i64 (a3.1 : Int), .int .i64 (a4.1 : Int), .bool a5.1, .slice vpa vpn vpc, .string (B a7.1), .int .i64 (a8.1 : Int), .int .i64 (a9.1 : Int), .slice vna vnn vnc, .slice vta vtn vtc, .slice vga vgn vgc, .int .i64 (a13.1 : Int), .int .i64 0, .string ⟨#[]⟩, .bool false] (w13.setCell ⟨w.heap.size + 1 + 1, 12, none⟩ (.int .i64 (a13.1 : Int))) from K13.out.put 12 _)
  have R13 := Lib.hid (stays Q13.out (sxP w13 12 (.int .i64 (a13.1 : Int))))
  clear Q13 K13
  have Q13 := R13
  clear R13
  have hc := RNum_c lo b a13.2 281474976710656 _ H13.out.rr HL.out.2.2.2.2.2.2.2.2.2.2.2.2.2.1
  rw [← HEs.out.2.2.2.2.2.2.2.2.2.2.2.2.2.1] at hc
  have HC := Lib.hid hc
  clear hc
  have bx := H13.out.box
  go_wp2_with fail
  refine HC.out.mono ?_
  rintro e w14 ⟨rfl, g⟩
  have Q14 := Lib.hid (stays Q13.out (sxB g.2))
  clear Q13
  have K14 := Lib.hid (H13.out.step g)
  clear g bx HC H13
  have cj := K14.out.cell 13
  have fj := frz K14.out.hp 13
  simp only [List.getElem?_toArray, List.getElem?_cons_zero, List.getElem?_cons_succ] at cj
  have H14 := Lib.hid (show Rd3 lo b a14.2 w w.heap.size 31 #[.int .i64 0, .int .i64 0, .int .i64 0, .int .i64 0, .bool false, .slice none 0 0, .string ⟨#[]⟩, .int .i64 0, .int .i64 0, .slice none 0 0, .slice none 0 0, .slice none 0 0, .int .i64 0, .int .i64 0, .string ⟨#[]⟩, .bool false] #[.int .i64 (a1.1 : Int), .int .i64 (a2.1 : Int), .int .i64 (a3.1 : Int), .int .i64 (a4.1 : Int), .bool a5.1, .slice vpa vpn vpc, .string (B a7.1), .int .i64 (a8.1 : Int), .int .i64 (a9.1 : Int), .slice vna vnn vnc, .slice vta vtn vtc, .slice vga vgn vgc, .int .i64 (a13.1 : Int), .int .i64 (a14.1 : Int), .string ⟨#[]⟩, .bool false] (w14.setCell ⟨w.heap.size + 1 + 1, 13, none⟩ (.int .i64 (a14.1 : Int))) from K14.out.put 13 _)
  have R14 := Lib.hid (stays Q14.out (sxP w14 13 (.int .i64 (a14.1 : Int))))
  clear Q14 K14
  have Q14 := R14
  clear R14
  have hc := RText_c lo b a14.2 _ H14.out.rr HL.out.2.2.2.2.2.2.2.2.2.2.2.2.2.2.1
  rw [← HEs.out.2.2.2.2.2.2.2.2.2.2.2.2.2.2.1] at hc
  have HC := Lib.hid hc
  clear hc
  have bx := H14.out.box
  go_wp2_with fail
  refine HC.out.mono ?_
  rintro e w15 ⟨rfl, g⟩
  have Q15 := Lib.hid (stays Q14.out (sxB g.2))
  clear Q14
  have K15 := Lib.hid (H14.out.step g)
  clear g bx HC H14
  have cj := K15.out.cell 14
  have fj := frz K15.out.hp 14
  simp only [List.getElem?_toArray, List.getElem?_cons_zero, List.getElem?_cons_succ] at cj
  have H15 := Lib.hid (show Rd3 lo b a15.2 w w.heap.size 31 #[.int .i64 0, .int .i64 0, .int .i64 0, .int .i64 0, .bool false, .slice none 0 0, .string ⟨#[]⟩, .int .i64 0, .int .i64 0, .slice none 0 0, .slice none 0 0, .slice none 0 0, .int .i64 0, .int .i64 0, .string ⟨#[]⟩, .bool false] #[.int .i64 (a1.1 : Int), .int .i64 (a2.1 : Int), .int .i64 (a3.1 : Int), .int .i64 (a4.1 : Int), .bool a5.1, .slice vpa vpn vpc, .string (B a7.1), .int .i64 (a8.1 : Int), .int .i64 (a9.1 : Int), .slice vna vnn vnc, .slice vta vtn vtc, .slice vga vgn vgc, .int .i64 (a13.1 : Int), .int .i64 (a14.1 : Int), .string (B a15.1), .bool false] (w15.setCell ⟨w.heap.size + 1 + 1, 14, none⟩ (.string (B a15.1))) from K15.out.put 14 _)
  have R15 := Lib.hid (stays Q15.out (sxP w15 14 (.string (B a15.1))))
  clear Q15 K15
  have Q15 := R15
  clear R15
  have hc := rFl_c lo b a15.2 _ H15.out.rr HL.out.2.2.2.2.2.2.2.2.2.2.2.2.2.2.2.1
  rw [← HEs.out.2.2.2.2.2.2.2.2.2.2.2.2.2.2.2.1] at hc
  have HC := Lib.hid hc
  clear hc
  have bx := H15.out.box
  go_wp2_with fail
  refine HC.out.mono ?_
  rintro e w16 ⟨rfl, g⟩
  have Q16 := Lib.hid (stays Q15.out (sxB g.2))
  clear Q15
  have K16 := Lib.hid (H15.out.step g)
  clear g bx HC H15
  have cj := K16.out.cell 15
  have fj := frz K16.out.hp 15
  simp only [List.getElem?_toArray, List.getElem?_cons_zero, List.getElem?_cons_succ] at cj
  have H16 := Lib.hid (show Rd3 lo b a16.2 w w.heap.size 31 #[.int .i64 0, .int .i64 0, .int .i64 0, .int .i64 0, .bool false, .slice none 0 0, .string ⟨#[]⟩, .int .i64 0, .int .i64 0, .slice none 0 0, .slice none 0 0, .slice none 0 0, .int .i64 0, .int .i64 0, .string ⟨#[]⟩, .bool false] #[.int .i64 (a1.1 : Int), .int .i64 (a2.1 : Int), .int .i64 (a3.1 : Int), .int .i64 (a4.1 : Int), .bool a5.1, .slice vpa vpn vpc, .string (B a7.1), .int .i64 (a8.1 : Int), .int .i64 (a9.1 : Int), .slice vna vnn vnc, .slice vta vtn vtc, .slice vga vgn vgc, .int .i64 (a13.1 : Int), .int .i64 (a14.1 : Int), .string (B a15.1), .bool a16.1] (w16.setCell ⟨w.heap.size + 1 + 1, 15, none⟩ (.bool a16.1)) from K16.out.put 15 _)
  have R16 := Lib.hid (stays Q16.out (sxP w16 15 (.bool a16.1)))
  clear Q16 K16
  have Q16 := R16
  clear R16
  have HZ := H16
  have p0 := HZ.out.cell 0
  have p1 := HZ.out.cell 1
  have p2 := HZ.out.cell 2
  have p3 := HZ.out.cell 3
  have p4 := HZ.out.cell 4
  have p5 := HZ.out.cell 5
  have p6 := HZ.out.cell 6
  have p7 := HZ.out.cell 7
  have p8 := HZ.out.cell 8
  have p9 := HZ.out.cell 9
  have p10 := HZ.out.cell 10
  have p11 := HZ.out.cell 11
  have p12 := HZ.out.cell 12
  have p13 := HZ.out.cell 13
  have p14 := HZ.out.cell 14
  have p15 := HZ.out.cell 15
  have r0 := HZ.out.cellZ 0
  have z0 := frz HZ.out.hr 0
  have r1 := HZ.out.cellZ 1
  have z1 := frz HZ.out.hr 1
  have r2 := HZ.out.cellZ 2
  have z2 := frz HZ.out.hr 2
  have r3 := HZ.out.cellZ 3
  have z3 := frz HZ.out.hr 3
  have r4 := HZ.out.cellZ 4
  have z4 := frz HZ.out.hr 4
  have r5 := HZ.out.cellZ 5
  have z5 := frz HZ.out.hr 5
  have r6 := HZ.out.cellZ 6
  have z6 := frz HZ.out.hr 6
  have r7 := HZ.out.cellZ 7
  have z7 := frz HZ.out.hr 7
  have r8 := HZ.out.cellZ 8
  have z8 := frz HZ.out.hr 8
  have r9 := HZ.out.cellZ 9
  have z9 := frz HZ.out.hr 9
  have r10 := HZ.out.cellZ 10
  have z10 := frz HZ.out.hr 10
  have r11 := HZ.out.cellZ 11
  have z11 := frz HZ.out.hr 11
  have r12 := HZ.out.cellZ 12
  have z12 := frz HZ.out.hr 12
  have r13 := HZ.out.cellZ 13
  have z13 := frz HZ.out.hr 13
  have r14 := HZ.out.cellZ 14
  have z14 := frz HZ.out.hr 14
  have r15 := HZ.out.cellZ 15
  have z15 := frz HZ.out.hr 15
  simp only [List.getElem?_toArray, List.getElem?_cons_zero, List.getElem?_cons_succ] at p0 r0 p1 r1 p2 r2 p3 r3 p4 r4 p5 r5 p6 r6 p7 r7 p8 r8 p9 r9 p10 r10 p11 r11 p12 r12 p13 r13 p14 r14 p15 r15
  have hfin := HZ.out.fin [.int .i64 (a1.1 : Int), .int .i64 (a2.1 : Int), .int .i64 (a3.1 : Int), .int .i64 (a4.1 : Int), .bool a5.1, .slice vpa vpn vpc, .string (B a7.1), .int .i64 (a8.1 : Int), .int .i64 (a9.1 : Int), .slice vna vnn vnc, .slice vta vtn vtc, .slice vga vgn vgc, .int .i64 (a13.1 : Int), .int .i64 (a14.1 : Int), .string (B a15.1), .bool a16.1]
  have hres := HZ.out.res [.int .i64 (a1.1 : Int), .int .i64 (a2.1 : Int), .int .i64 (a3.1 : Int), .int .i64 (a4.1 : Int), .bool a5.1, .slice vpa vpn vpc, .string (B a7.1), .int .i64 (a8.1 : Int), .int .i64 (a9.1 : Int), .slice vna vnn vnc, .slice vta vtn vtc, .slice vga vgn vgc, .int .i64 (a13.1 : Int), .int .i64 (a14.1 : Int), .string (B a15.1), .bool a16.1] rfl
  have hq := Q16.out _ (sxR (w16.setCell ⟨w.heap.size + 1 + 1, 15, none⟩ (.bool a16.1)) [.int .i64 (a1.1 : Int), .int .i64 (a2.1 : Int), .int .i64 (a3.1 : Int), .int .i64 (a4.1 : Int), .bool a5.1, .slice vpa vpn vpc, .string (B a7.1), .int .i64 (a8.1 : Int), .int .i64 (a9.1 : Int), .slice vna vnn vnc, .slice vta vtn vtc, .slice vga vgn vgc, .int .i64 (a13.1 : Int), .int .i64 (a14.1 : Int), .string (B a15.1), .bool a16.1])
  go_wp2
  obtain ⟨wz, hwz⟩ : ∃ wz, wz = setAll (w16.setCell ⟨w.heap.size + 1 + 1, 15, none⟩ (.bool a16.1)) (w.heap.size + 1) 0 [.int .i64 (a1.1 : Int), .int .i64 (a2.1 : Int), .int .i64 (a3.1 : Int), .int .i64 (a4.1 : Int), .bool a5.1, .slice vpa vpn vpc, .string (B a7.1), .int .i64 (a8.1 : Int), .int .i64 (a9.1 : Int), .slice vna vnn vnc, .slice vta vtn vtc, .slice vga vgn vgc, .int .i64 (a13.1 : Int), .int .i64 (a14.1 : Int), .string (B a15.1), .bool a16.1] := ⟨_, rfl⟩
  rw [← hwz] at hfin hres hq
  simp only [setAll, Nat.zero_add, Nat.reduceAdd] at hwz
  rw [← hwz]
  clear hwz
  have s0 := cell_of_row _ (w.heap.size + 1) 0 _ _ _ hres
  have s1 := cell_of_row _ (w.heap.size + 1) 1 _ _ _ hres
  have s2 := cell_of_row _ (w.heap.size + 1) 2 _ _ _ hres
  have s3 := cell_of_row _ (w.heap.size + 1) 3 _ _ _ hres
  have s4 := cell_of_row _ (w.heap.size + 1) 4 _ _ _ hres
  have s5 := cell_of_row _ (w.heap.size + 1) 5 _ _ _ hres
  have s6 := cell_of_row _ (w.heap.size + 1) 6 _ _ _ hres
  have s7 := cell_of_row _ (w.heap.size + 1) 7 _ _ _ hres
  have s8 := cell_of_row _ (w.heap.size + 1) 8 _ _ _ hres
  have s9 := cell_of_row _ (w.heap.size + 1) 9 _ _ _ hres
  have s10 := cell_of_row _ (w.heap.size + 1) 10 _ _ _ hres
  have s11 := cell_of_row _ (w.heap.size + 1) 11 _ _ _ hres
  have s12 := cell_of_row _ (w.heap.size + 1) 12 _ _ _ hres
  have s13 := cell_of_row _ (w.heap.size + 1) 13 _ _ _ hres
  have s14 := cell_of_row _ (w.heap.size + 1) 14 _ _ _ hres
  have s15 := cell_of_row _ (w.heap.size + 1) 15 _ _ _ hres
  simp only [List.getElem?_toArray, List.getElem?_cons_zero, List.getElem?_cons_succ] at s0 s1 s2 s3 s4 s5 s6 s7 s8 s9 s10 s11 s12 s13 s14 s15
  exact bodyPost_ret (v := .agg #[.int .i64 (a1.1 : Int), .int .i64 (a2.1 : Int), .int .i64 (a3.1 : Int), .int .i64 (a4.1 : Int), .bool a5.1, .slice vpa vpn vpc, .string (B a7.1), .int .i64 (a8.1 : Int), .int .i64 (a9.1 : Int), .slice vna vnn vnc, .slice vta vtn vtc, .slice vga vgn vgc, .int .i64 (a13.1 : Int), .int .i64 (a14.1 : Int), .string (B a15.1), .bool a16.1]) (by simp [results, Try.results23, go_sem, s0, s1, s2, s3, s4, s5, s6, s7, s8, s9, s10, s11, s12, s13, s14, s15]) rfl ⟨_, _, _, _, rfl, ⟨hq.2.2.2.1, hq.2.2.1, hq.2.1, hq.1⟩, hfin⟩
end Go.Proofs.Ytlmfinpmlilcgaa

