/- Texts of this proof, merged. -/
import Derived.Test.YthaepjeikicigaaGreatDoorZQ
import Derived.Test.YthaepjeikicigaaGreatDoorZP
import Derived.Test.YthaepjeikicigaaGreatDoorZN
import Derived.Test.YthaepjeikicigaaGreatDoorZB
/- The live question of layer 6's laws: its answer is true. -/
namespace Go.Proofs.YthaepjeikicigaaGreatDoor
set_option linter.unusedSimpArgs false
set_option linter.unusedVariables false
set_option maxRecDepth 20000
set_option linter.unusedVariables false
set_option linter.unusedSimpArgs false
open Go.RowKit Pm
set_option maxHeartbeats 1000000 in
theorem New_c (w : World) : Calls Tryz.prog 17 #[] w fun e w' => (∃ v, e = .returned v ∧ Ns w' v hd0) ∧ Fp Non w w' := by
  go_enter Tryz.func17, Tryz.ntmps17
  go_wp2_with fail
  go_ret
  refine ⟨⟨_, rfl, ?_⟩, ?_⟩
  · exact (Nr.ns (l := hd0) (g := w.heap.size) (cap := 1) ⟨⟨[], heap_alloc_new w _, rfl⟩, Nat.le_refl _, by unfold maxLen; omega⟩)
  · exact (Fp.refl Non w).alloc _
theorem hd_ap {l a : List Nd} {o : Opn} {r : Res} (hap : apply l o = (a, r)) (v : Value) (w : World) (hv : Ns w v l) (hs : Sp l) (hp : o.path.length ≤ 1000000) (ht : Tab w) :
    Calls Tryz.prog 7 #[v, opV o] w fun e w' => (∃ v' nv, e = .returned (.tuple #[v', .agg #[.int .i64 r.err, .string (B r.path), .string (B r.data), .int .i64 r.ver, nv]]) ∧ Ns w' v' a ∧ Own w.heap.size w' nv r.names) ∧ Fp Non w w' := by
  refine (Apply_c v l o w hv hs hp ht).mono fun e w' h => ?_
  rw [hap] at h
  exact ⟨h.ex, h.fp⟩
theorem hd1 (v : Value) (w : World) (hv : Ns w v hd0) (ht : Tab w) :
    Calls Tryz.prog 7 #[v, .agg #[.int .i64 1, .string ⟨#[47, 113]⟩, .string ⟨#[]⟩, .int .i64 0, .int .i64 0, .bool true]] w fun e w' => (∃ v' an cn, e = .returned (.tuple #[v', .agg #[.int .i64 0, .string ⟨#[47, 113, 48, 48, 48, 48]⟩, .string ⟨#[]⟩, .int .i64 0, .slice an 0 cn]]) ∧ Ns w' v' hdA) ∧ Fp Non w w' :=
  (hd_ap hd_apply1 v w hv (by unfold Sp; decide) (by decide) ht).mono fun e w' ⟨⟨v', nv, h, h1, h2⟩, hf⟩ => by
    obtain ⟨an, cn, rfl⟩ := h2.shape
    exact ⟨⟨v', an, cn, h, h1⟩, hf⟩
theorem hd2 (v : Value) (w : World) (hv : Ns w v hdA) (ht : Tab w) :
    Calls Tryz.prog 7 #[v, .agg #[.int .i64 3, .string ⟨#[47, 113, 48, 48, 48, 48]⟩, .string ⟨#[120]⟩, .int .i64 (-1), .int .i64 0, .bool false]] w fun e w' => (∃ v' an cn, e = .returned (.tuple #[v', .agg #[.int .i64 0, .string ⟨#[]⟩, .string ⟨#[]⟩, .int .i64 1, .slice an 0 cn]]) ∧ Ns w' v' hdB) ∧ Fp Non w w' :=
  (hd_ap hd_apply2 v w hv (by unfold Sp; decide) (by decide) ht).mono fun e w' ⟨⟨v', nv, h, h1, h2⟩, hf⟩ => by
    obtain ⟨an, cn, rfl⟩ := h2.shape
    exact ⟨⟨v', an, cn, h, h1⟩, hf⟩
theorem hd3 (v : Value) (w : World) (hv : Ns w v hdB) (ht : Tab w) :
    Calls Tryz.prog 7 #[v, .agg #[.int .i64 2, .string ⟨#[47, 113, 48, 48, 48, 48]⟩, .string ⟨#[]⟩, .int .i64 0, .int .i64 0, .bool false]] w fun e w' => (∃ v' an cn, e = .returned (.tuple #[v', .agg #[.int .i64 63, .string ⟨#[]⟩, .string ⟨#[]⟩, .int .i64 0, .slice an 0 cn]])) ∧ Fp Non w w' :=
  (hd_ap hd_apply3 v w hv (by unfold Sp; decide) (by decide) ht).mono fun e w' ⟨⟨v', nv, h, h1, h2⟩, hf⟩ => by
    obtain ⟨an, cn, rfl⟩ := h2.shape
    exact ⟨⟨v', an, cn, h⟩, hf⟩
theorem hd4 (v : Value) (w : World) (hv : Ns w v hdB) (ht : Tab w) :
    Calls Tryz.prog 7 #[v, .agg #[.int .i64 6, .string ⟨#[47]⟩, .string ⟨#[]⟩, .int .i64 0, .int .i64 0, .bool false]] w fun e w' => (∃ v' ao cap, e = .returned (.tuple #[v', .agg #[.int .i64 0, .string ⟨#[]⟩, .string ⟨#[]⟩, .int .i64 0, .slice ao 1 cap]])) ∧ Fp Non w w' :=
  (hd_ap hd_apply4 v w hv (by unfold Sp; decide) (by decide) ht).mono fun e w' ⟨⟨v', nv, h, _, h1⟩, hf⟩ => by
    obtain ⟨ao, cap, rfl⟩ := h1.shape
    exact ⟨⟨v', ao, cap, h⟩, hf⟩
theorem hd5 (w : World) (ht : Tab w) :
    Calls Tryz.prog 7 #[.slice none 0 0, .agg #[.int .i64 0, .string ⟨#[]⟩, .string ⟨#[]⟩, .int .i64 0, .int .i64 0, .bool false]] w fun e w' => (∃ v' an cn, e = .returned (.tuple #[v', .agg #[.int .i64 1, .string ⟨#[]⟩, .string ⟨#[]⟩, .int .i64 0, .slice an 0 cn]])) ∧ Fp Non w w' :=
  (hd_ap hd_apply5 _ w (Ns.nil w) (fun _ h => by cases h) (by decide) ht).mono fun e w' ⟨⟨v', nv, h, h1, h2⟩, hf⟩ => by
    obtain ⟨an, cn, rfl⟩ := h2.shape
    exact ⟨⟨v', an, cn, h⟩, hf⟩
theorem hd6 (v : Value) (w : World) (hv : Ns w v hdB) :
    Calls Tryz.prog 9 #[v, .string ⟨#[47, 113, 48, 48, 48, 48]⟩] w fun e w' => e = .returned (.tuple #[.agg #[.string ⟨#[47, 113, 48, 48, 48, 48]⟩, .string ⟨#[120]⟩, .int .i64 1, .int .i64 0, .int .i64 0], .bool true]) ∧ Fp Non w w' :=
  nFind_c v hdB [47, 113, 48, 48, 48, 48] w hv (by unfold Sp; decide) (by decide)
theorem hd7 (v : Value) (w : World) (hv : Ns w v hdB) :
    Calls Tryz.prog 11 #[v] w fun e w' => e = .returned (.bool true) ∧ Fp Non w w' := by
  have := nRight_c v hdB w hv (by unfold Sp; decide)
  rwa [right_true hdB_tr.tree] at this
theorem hd8 (w : World) :
    Calls Tryz.prog 13 #[.agg #[.int .i64 0, .string ⟨#[]⟩, .string ⟨#[]⟩, .int .i64 0, .int .i64 0, .bool false]] w fun e w' => e = .returned (.bool false) ∧ Fp Non w w' := by
  have := May_c ⟨0, [], [], 0, 0, false⟩ w (by decide)
  rwa [show may ⟨0, [], [], 0, 0, false⟩ = false by decide] at this
set_option maxHeartbeats 8000000 in
theorem head_c (w : World) (ht : Tab w) : Calls Tryz.prog 4 #[] w fun e w' => e = .returned (.bool true) ∧ Fp Non w w' := by
  go_enter Tryz.func4, Tryz.ntmps4
  go_wp2_with fail
  refine (New_c _).mono ?_
  rintro e w1 ⟨⟨v1, rfl, hl1⟩, hf1⟩
  obtain ⟨ao1, c1, e1⟩ := hl1.shape
  rw [show hd0.length = 1 from rfl] at e1
  subst e1
  have H1 := Lib.hid (Kp.and (Kp.ns hl1) (Kp.and (Kp.fp hf1) (Kp.tab (ht.non hf1))))
  clear hl1 hf1 ht
  go_wp2_with fail
  refine (hd1 _ w1 H1.out.now.1 H1.out.now.2.2).mono ?_
  rintro e w2 ⟨⟨va, na, ma, rfl, hla⟩, hf⟩
  obtain ⟨ga, oa, ca, e1, _, _, _, hcell⟩ := hla.at (by decide)
  rw [show hdA.length = 2 from rfl] at e1
  subst e1
  have H2 := Lib.hid (Kp.and (Kp.ns hla) (Kp.and (Kp.nd (hcell 0 (by decide))) (H1.out.later hf)))
  clear hla hf hcell H1
  go_wp2_with fail
  have hfa := fp_alloc w2 (.cells #[.int .i64 0, .string ⟨#[47, 113, 48, 48, 48, 48]⟩, .string ⟨#[]⟩, .int .i64 0, .slice na 0 ma] TR)
  have hbx := heap_alloc_new w2 (.cells #[.int .i64 0, .string ⟨#[47, 113, 48, 48, 48, 48]⟩, .string ⟨#[]⟩, .int .i64 0, .slice na 0 ma] TR)
  generalize w2.alloc (.cells #[.int .i64 0, .string ⟨#[47, 113, 48, 48, 48, 48]⟩, .string ⟨#[]⟩, .int .i64 0, .slice na 0 ma] TR) = W2 at *
  have K2 := Lib.hid (Kp.and (Kp.row hbx) (H2.out.later hfa))
  clear hbx hfa H2
  refine (hd2 _ W2 K2.out.now.2.1 K2.out.now.2.2.2.2.2).mono ?_
  rintro e w3 ⟨⟨vb, nb, mb, rfl, hlb⟩, hf⟩
  have H3 := Lib.hid (Kp.and (Kp.ns hlb) (K2.out.later hf))
  clear hlb hf K2
  go_wp2_with fail
  have hfa := fp_alloc w3 (.cells #[.int .i64 0, .string ⟨#[]⟩, .string ⟨#[]⟩, .int .i64 1, .slice nb 0 mb] TR)
  have hbx := heap_alloc_new w3 (.cells #[.int .i64 0, .string ⟨#[]⟩, .string ⟨#[]⟩, .int .i64 1, .slice nb 0 mb] TR)
  generalize w3.alloc (.cells #[.int .i64 0, .string ⟨#[]⟩, .string ⟨#[]⟩, .int .i64 1, .slice nb 0 mb] TR) = W3 at *
  have K3 := Lib.hid (Kp.and (Kp.row hbx) (H3.out.later hfa))
  clear hbx hfa H3
  refine (hd3 _ W3 K3.out.now.2.1 K3.out.now.2.2.2.2.2.2.2).mono ?_
  rintro e w4 ⟨⟨vt, nt, mt, rfl⟩, hf⟩
  have H4 := Lib.hid (K3.out.later hf)
  clear hf K3
  go_wp2_with fail
  have hfa := fp_alloc w4 (.cells #[.int .i64 63, .string ⟨#[]⟩, .string ⟨#[]⟩, .int .i64 0, .slice nt 0 mt] TR)
  have hbx := heap_alloc_new w4 (.cells #[.int .i64 63, .string ⟨#[]⟩, .string ⟨#[]⟩, .int .i64 0, .slice nt 0 mt] TR)
  generalize w4.alloc (.cells #[.int .i64 63, .string ⟨#[]⟩, .string ⟨#[]⟩, .int .i64 0, .slice nt 0 mt] TR) = W4 at *
  have K4 := Lib.hid (Kp.and (Kp.row hbx) (H4.out.later hfa))
  clear hbx hfa H4
  refine (hd4 _ W4 K4.out.now.2.2.1 K4.out.now.2.2.2.2.2.2.2.2).mono ?_
  rintro e w5 ⟨⟨vu, au, cu, rfl⟩, hf⟩
  have H5 := Lib.hid (K4.out.later hf)
  clear hf K4
  go_wp2_with fail
  have hfa := fp_alloc w5 (.cells #[.int .i64 0, .string ⟨#[]⟩, .string ⟨#[]⟩, .int .i64 0, .slice au 1 cu] TR)
  have hbx := heap_alloc_new w5 (.cells #[.int .i64 0, .string ⟨#[]⟩, .string ⟨#[]⟩, .int .i64 0, .slice au 1 cu] TR)
  generalize w5.alloc (.cells #[.int .i64 0, .string ⟨#[]⟩, .string ⟨#[]⟩, .int .i64 0, .slice au 1 cu] TR) = W5 at *
  have K5 := Lib.hid (Kp.and (Kp.row hbx) (H5.out.later hfa))
  clear hbx hfa H5
  refine (hd5 W5 K5.out.now.2.2.2.2.2.2.2.2.2).mono ?_
  rintro e w6 ⟨⟨vv, nv, mv, rfl⟩, hf⟩
  have H6 := Lib.hid (K5.out.later hf)
  clear hf K5
  go_wp2_with fail
  have hfa := fp_alloc w6 (.cells #[.int .i64 1, .string ⟨#[]⟩, .string ⟨#[]⟩, .int .i64 0, .slice nv 0 mv] TR)
  have hbx := heap_alloc_new w6 (.cells #[.int .i64 1, .string ⟨#[]⟩, .string ⟨#[]⟩, .int .i64 0, .slice nv 0 mv] TR)
  generalize w6.alloc (.cells #[.int .i64 1, .string ⟨#[]⟩, .string ⟨#[]⟩, .int .i64 0, .slice nv 0 mv] TR) = W6 at *
  have K6 := Lib.hid (Kp.and (Kp.row hbx) (H6.out.later hfa))
  clear hbx hfa H6
  refine (hd6 _ W6 K6.out.now.2.2.2.2.1).mono ?_
  rintro e w7 ⟨rfl, hf⟩
  have H7 := Lib.hid (K6.out.later hf)
  clear hf K6
  have hbx := heap_alloc_new w7 (.cells #[.string ⟨#[47, 113, 48, 48, 48, 48]⟩, .string ⟨#[120]⟩, .int .i64 1, .int .i64 0, .int .i64 0] TN)
  have K7 := Lib.hid (Kp.and (Kp.row hbx) (H7.out.later (fp_alloc w7 (.cells #[.string ⟨#[47, 113, 48, 48, 48, 48]⟩, .string ⟨#[120]⟩, .int .i64 1, .int .i64 0, .int .i64 0] TN))))
  clear hbx H7
  obtain ⟨x0, x1, x2, x3, x4⟩ := box5 K7.out.now.1
  obtain ⟨v0, v1, v2, v3, v4⟩ := box5 K7.out.now.2.1
  obtain ⟨u0, u1, u2, u3, u4⟩ := box5 K7.out.now.2.2.1
  obtain ⟨t0, t1, t2, t3, t4⟩ := box5 K7.out.now.2.2.2.1
  obtain ⟨s0, s1, s2, s3, s4⟩ := box5 K7.out.now.2.2.2.2.1
  have hB := K7.out.now.2.2.2.2.2.1
  obtain ⟨r0, r1, r2, r3, r4⟩ := box5 K7.out.now.2.2.2.2.2.2.1
  have a3 := K7.out.now.2.2.2.2.2.2.2.2.1.c3
  have hF := K7.out.now.2.2.2.2.2.2.2.2.2.2.1
  rw [Nat.zero_mul, Nat.add_zero] at a3
  have h7 := hd7 _ _ hB
  have HE := Lib.hid (And.intro hF h7)
  clear hB hF h7 K7
  go_wp2_with fail
  refine HE.out.2.mono ?_
  rintro e w8 ⟨rfl, hf⟩
  have F8 := Lib.hid (HE.out.1.then hf)
  clear hf x0 x1 x2 x3 x4 v0 v1 v2 v3 v4 u0 u1 u2 u3 u4 t0 t1 t2 t3 t4 s0 s1 s2 s3 s4 r0 r1 r2 r3 r4 a3
  go_wp2_with fail
  refine (hd8 _).mono ?_
  rintro e w9 ⟨rfl, hf⟩
  have F9 := Lib.hid (F8.out.then hf)
  clear hf
  go_wp2
  go_ret
  exact ⟨rfl, F9.out⟩
end Go.Proofs.YthaepjeikicigaaGreatDoor
