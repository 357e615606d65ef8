/- A text of this proof. -/
import Derived.Test.YthaepjeikicigaaDoorZT
import Derived.Test.YthaepjeikicigaaDoorZS
/- NodesStill, walked. -/
namespace Go.Proofs.YthaepjeikicigaaDoor
set_option maxRecDepth 20000
set_option linter.unusedVariables false
set_option linter.unusedSimpArgs false
open Go.RowKit Pm

theorem few_sp {l : List Nd} (h : l.length ≤ 1667 ∧ ∀ x ∈ l, x.path.length ≤ 5000 ∧ x.data.length ≤ 5000) : Sp l := fun x hx => by have := (h.2 x hx).1; omega
theorem tr_few {l : List Nd} (h : Tr l) : l.length ≤ 1000000 ∧ Sp l := ⟨by have := h.most; omega, fun x hx => by
  obtain ⟨ps, hs⟩ := h.valid hx
  obtain ⟨hP, e⟩ := (split_iff _ _).1 hs
  have := joinP_len hP
  rw [e] at this; omega⟩

/-- Apply on a tree: refused, in vain, or done. -/
inductive ApW (l : List Nd) (o : Opn) (w' : World) (e : Ending) : Prop where
  | arg (ao : Option Addr) (c : Nat) (n : Option Addr) (c2 : Nat) (he : e = .returned (.tuple #[.slice ao 0 c, .agg #[.int .i64 1, .string ⟨#[]⟩, .string ⟨#[]⟩, .int .i64 0, .slice n 0 c2]])) (hm : may o = false)
  | vain (ao : Option Addr) (c : Nat) (k : Int) (n : Option Addr) (c2 : Nat) (he : e = .returned (.tuple #[.slice ao l.length c, .agg #[.int .i64 k, .string ⟨#[]⟩, .string ⟨#[]⟩, .int .i64 0, .slice n 0 c2]])) (hm : may o = true) (h0 : k ≠ 0) (h1 : k ≠ 1) (hl : Ns w' (.slice ao l.length c) l)
  | done (ao : Option Addr) (c : Nat) (n : Option Addr) (c2 : Nat) (he : e = .returned (.tuple #[.slice ao (perform l o).1.length c, .agg #[.int .i64 0, .string (B (perform l o).2.path), .string (B (perform l o).2.data), .int .i64 (perform l o).2.ver, .slice n (perform l o).2.names.length c2]])) (hm : may o = true)
      (hk : (perform l o).2.err = 0) (hl : Ns w' (.slice ao (perform l o).1.length c) (perform l o).1)
theorem Apply_w (v : Value) (l : List Nd) (o : Opn) (w : World) (hv : Ns w v l) (hT : Tr l) (hp : o.path.length ≤ 1000000) (ht : Tab w) :
    Calls Tryd.prog 14 #[v, opV o] w fun e w' => ApW l o w' e ∧ Fp Non w w' := by
  refine (Apply_c v l o w hv (tr_few hT).2 hp ht).mono fun e w' h => ⟨?_, h.fp⟩
  obtain ⟨v', nv, rfl, h1, h2⟩ := h.ex
  obtain ⟨ao, c, rfl⟩ := h1.shape
  obtain ⟨n, c2, rfl⟩ := h2.shape
  cases hm : may o with
  | false =>
    have e1 := apply_no (l := l) (o := o) (fun k => by rw [hm] at k; cases k.2)
    simp only [e1]
    exact .arg ao c n c2 rfl hm
  | true =>
    rw [apply_yes hT hm] at h1 ⊢
    have hpe := perform_err hT hm
    by_cases h0 : (perform l o).2.err = 0
    · rw [h0]
      exact .done ao c n c2 rfl hm h0 h1
    · obtain ⟨e1, e2⟩ := hpe.2 h0
      rw [e2] at hpe h0 ⊢
      rw [e1] at h1 ⊢
      exact .vain ao c _ n c2 rfl hm h0 hpe.1 h1

theorem same_bad (k : Int) (a b : Option Addr) (c c' : Nat) (w : World) :
    Calls Tryd.prog 19 #[.agg #[.int .i64 k, .string ⟨#[]⟩, .string ⟨#[]⟩, .int .i64 0, .slice a 0 c], .agg #[.int .i64 k, .string ⟨#[]⟩, .string ⟨#[]⟩, .int .i64 0, .slice b 0 c']] w fun e w' => e = .returned (.bool true) ∧ Fp Non w w' :=
  rSameOne_c k [] [] 0 (.slice a 0 c) (.slice b 0 c') w (fun w1 _ => rSame0_c a b c c' w1)

set_option maxHeartbeats 4000000 in
theorem NodesStill_c (v : Value) (l : List Nd) (o : Opn) (w : World) (hv : Ns w v l) (hn : l.length ≤ 140737488355328) (ht : Tab w) :
    Calls Tryd.prog 4 #[v, opV o] w fun e w' => e = .returned (.bool true) ∧ Fp Non w w' := by
  obtain ⟨ao, cap, rfl⟩ := hv.shape
  obtain ⟨kk, p, d, vv, ow, t⟩ := o
  unfold opV strV
  simp only
  have hbx := heap_alloc_new w (.cells #[.int .i64 kk, .string (B p), .string (B d), .int .i64 vv, .int .i64 ow, .bool t] TO_)
  have hf0 := fp_alloc w (.cells #[.int .i64 kk, .string (B p), .string (B d), .int .i64 vv, .int .i64 ow, .bool t] TO_)
  have K0 := Lib.hid (Kp.and (Kp.row hbx) (Kp.and (Kp.fp hf0) (Kp.and (Kp.ns (hv.non hf0)) (Kp.tab (ht.non hf0)))))
  have HN := Lib.hid hn
  clear hbx hf0 hv ht hn
  obtain ⟨n, hnn⟩ : ∃ n, n = l.length := ⟨_, rfl⟩
  have HX := Lib.hid hnn
  rw [← hnn]
  clear hnn
  go_enter Tryd.func4, Tryd.ntmps4
  go_wp2_with fail
  refine (head_c _ K0.out.now.2.2.2).mono ?_
  rintro e w1 ⟨rfl, hf⟩
  have K1 := Lib.hid (K0.out.later hf)
  clear hf K0
  obtain ⟨o0, o1, o2, o3, o4, o5⟩ := box6 K1.out.now.1
  have hgr := Great_c _ l w1 K1.out.now.2.2.1 HN.out
  rw [← HX.out] at hgr
  have HGR := Lib.hid hgr
  clear hgr
  go_wp2_with fail
  refine HGR.out.mono ?_
  rintro e w2 ⟨g, rfl, hg, hf⟩
  have K2 := Lib.hid (K1.out.later hf)
  have HG := Lib.hid hg
  clear hf hg K1 HGR o0 o1 o2 o3 o4 o5
  cases g with
  | true =>
    have F2 := Lib.hid K2.out.now.2.1
    clear K2 HG
    go_wp2
    go_ret
    exact ⟨rfl, F2.out⟩
  | false =>
  obtain ⟨o0, o1, o2, o3, o4, o5⟩ := box6 K2.out.now.1
  go_wp2_with fail
  refine (GreatOp_c ⟨kk, p, d, vv, ow, t⟩ w2).mono ?_
  rintro e w3 ⟨g, rfl, hg, hf⟩
  have K3 := Lib.hid (K2.out.later hf)
  have HO := Lib.hid hg
  clear hf hg K2 o0 o1 o2 o3 o4 o5
  cases g with
  | true =>
    have F2 := Lib.hid K3.out.now.2.1
    clear K3 HG HO
    go_wp2
    go_ret
    exact ⟨rfl, F2.out⟩
  | false =>
  have hrr := rRightN_g _ l w3 K3.out.now.2.2.1 (few_sp (by have := HG.out trivial; rw [HX.out] at this; exact this))
  rw [← HX.out] at hrr
  obtain ⟨br, hbr⟩ : ∃ b, right l = b := ⟨_, rfl⟩
  rw [hbr] at hrr
  have HRR := Lib.hid hrr
  have HBR := Lib.hid hbr
  clear hrr hbr
  go_wp2_with fail
  refine HRR.out.mono ?_
  rintro e w4 ⟨rfl, hf⟩
  have K4 := Lib.hid (K3.out.later hf)
  clear hf K3 HRR
  cases br with
  | false =>
    have F2 := Lib.hid K4.out.now.2.1
    clear K4 HG HO HBR
    go_wp2
    go_ret
    exact ⟨rfl, F2.out⟩
  | true =>
  have HT := Lib.hid ((right_iff l).1 HBR.out).tr
  have hap := Apply_w _ l ⟨kk, p, d, vv, ow, t⟩ w4 K4.out.now.2.2.1 HT.out (show p.length ≤ 1000000 by have := (HO.out trivial).1; omega) K4.out.now.2.2.2
  rw [← HX.out] at hap
  have HAP := Lib.hid hap
  clear hap HBR HO HG
  obtain ⟨o0, o1, o2, o3, o4, o5⟩ := box6 K4.out.now.1
  go_wp2_with fail
  refine HAP.out.mono ?_
  rintro e w5 ⟨hw, hf⟩
  have K5 := Lib.hid (K4.out.later hf)
  clear hf K4 HAP o0 o1 o2 o3 o4 o5
  rcases hw with ⟨ao', c, na, c2, rfl, hm⟩ | ⟨ao', c, k, na, c2, rfl, hm, h0, h1, hl⟩ | ⟨ao', c, na, c2, rfl, hm, hk, hl⟩
  · have hbx := heap_alloc_new w5 (.cells #[.int .i64 1, .string ⟨#[]⟩, .string ⟨#[]⟩, .int .i64 0, .slice na 0 c2] TR)
    have K6 := Lib.hid (Kp.and (Kp.row hbx) (K5.out.later (fp_alloc w5 (.cells #[.int .i64 1, .string ⟨#[]⟩, .string ⟨#[]⟩, .int .i64 0, .slice na 0 c2] TR))))
    clear hbx K5
    go_wp2_with fail
    refine (same_bad 1 _ _ _ _ _).mono ?_
    rintro e w6 ⟨rfl, hf⟩
    have K7 := Lib.hid (K6.out.later hf)
    clear hf K6
    obtain ⟨r0, r1, r2, r3, r4⟩ := box5 K7.out.now.1
    have F7 := Lib.hid K7.out.now.2.2.1
    go_wp2
    go_ret
    exact ⟨rfl, F7.out⟩
  · have hbx := heap_alloc_new w5 (.cells #[.int .i64 k, .string ⟨#[]⟩, .string ⟨#[]⟩, .int .i64 0, .slice na 0 c2] TR)
    have K6 := Lib.hid (Kp.and (Kp.row hbx) (Kp.and ((Kp.ns hl).later (fp_alloc w5 (.cells #[.int .i64 k, .string ⟨#[]⟩, .string ⟨#[]⟩, .int .i64 0, .slice na 0 c2] TR))) (K5.out.later (fp_alloc w5 (.cells #[.int .i64 k, .string ⟨#[]⟩, .string ⟨#[]⟩, .int .i64 0, .slice na 0 c2] TR)))))
    have q0 : (k == 0) = false := beq_eq_false_iff_ne.2 h0
    have q1 : (k != 0) = true := by simpa using h0
    have q2 : (k = 0) = False := eq_false h0
    have q3 : (k == 1) = false := beq_eq_false_iff_ne.2 h1
    have q4 : (k != 1) = true := by simpa using h1
    have q5 : (k = 1) = False := eq_false h1
    clear hbx K5 hl h0 h1
    rw [← HX.out]
    go_wp2_with fail
    refine (same_bad k _ _ _ _ _).mono ?_
    rintro e w6 ⟨rfl, hf⟩
    have K7 := Lib.hid (K6.out.later hf)
    clear hf K6
    obtain ⟨r0, r1, r2, r3, r4⟩ := box5 K7.out.now.1
    have F7 := Lib.hid K7.out.now.2.2.2.1
    have hsm := rSameN_c _ _ l l w6 K7.out.now.2.1 K7.out.now.2.2.2.2.1 (tr_few HT.out).1 (tr_few HT.out).1
    rw [← HX.out, decide_eq_true rfl] at hsm
    have HSM := Lib.hid hsm
    clear hsm
    go_wp2_with fail
    refine HSM.out.mono ?_
    rintro e w7 ⟨rfl, hf⟩
    have F8 := Lib.hid (F7.out.then hf)
    clear hf
    go_wp2
    go_ret
    exact ⟨rfl, F8.out⟩
  · have hlk : kk = 4 ∨ kk = 5 ∨ kk = 6 → (perform l ⟨kk, p, d, vv, ow, t⟩).1 = l := fun h => perform_looks h
    generalize (perform l ⟨kk, p, d, vv, ow, t⟩).1 = a at *
    generalize (perform l ⟨kk, p, d, vv, ow, t⟩).2.path = rp at *
    generalize (perform l ⟨kk, p, d, vv, ow, t⟩).2.data = rd at *
    generalize (perform l ⟨kk, p, d, vv, ow, t⟩).2.ver = rv at *
    generalize (perform l ⟨kk, p, d, vv, ow, t⟩).2.names.length = rn at *
    generalize ham : a.length = m at *
    have K6 := Lib.hid (Kp.and (Kp.ns hl) K5.out)
    have K6 := Lib.hid (K6.out.later (fp_alloc w5 (.cells #[.int .i64 0, .string (B rp), .string (B rd), .int .i64 rv, .slice na rn c2] TR)))
    have HAM := Lib.hid ham
    have HLK := Lib.hid hlk
    clear hl hk hm K5 ham hlk
    obtain ⟨o0, o1, o2, o3, o4, o5⟩ := box6 K6.out.now.2.1
    by_cases hkk : kk = 4 ∨ kk = 5 ∨ kk = 6
    · have hal : a = l := HLK.out hkk
      subst hal
      have hsm := rSameN_c _ _ a a _ K6.out.now.1 K6.out.now.2.2.2.1 (tr_few HT.out).1 (tr_few HT.out).1
      rw [HAM.out, decide_eq_true rfl] at hsm
      have hnm : n = m := by rw [HX.out, HAM.out]
      subst hnm
      have HSM := Lib.hid hsm
      have F6 := Lib.hid K6.out.now.2.2.1
      clear hsm HLK K6
      rcases hkk with rfl | rfl | rfl
      · go_wp2_with fail
        refine HSM.out.mono ?_
        rintro e w7 ⟨rfl, hf⟩
        have F8 := Lib.hid (F6.out.then hf)
        clear hf
        go_wp2
        go_ret
        exact ⟨rfl, F8.out⟩
      · go_wp2_with fail
        refine HSM.out.mono ?_
        rintro e w7 ⟨rfl, hf⟩
        have F8 := Lib.hid (F6.out.then hf)
        clear hf
        go_wp2
        go_ret
        exact ⟨rfl, F8.out⟩
      · go_wp2_with fail
        refine HSM.out.mono ?_
        rintro e w7 ⟨rfl, hf⟩
        have F8 := Lib.hid (F6.out.then hf)
        clear hf
        go_wp2
        go_ret
        exact ⟨rfl, F8.out⟩
    · have q4 : (kk == 4) = false := beq_eq_false_iff_ne.2 (by omega)
      have q5 : (kk == 5) = false := beq_eq_false_iff_ne.2 (by omega)
      have q6 : (kk == 6) = false := beq_eq_false_iff_ne.2 (by omega)
      have q4' : (kk = 4) = False := eq_false (by omega)
      have q5' : (kk = 5) = False := eq_false (by omega)
      have q6' : (kk = 6) = False := eq_false (by omega)
      have F6 := Lib.hid K6.out.now.2.2.1
      clear hkk K6
      go_wp2
      go_ret
      exact ⟨rfl, F6.out⟩
end Go.Proofs.YthaepjeikicigaaDoor
