/- A text of this proof. -/
import Derived.Test.YtphoglepiegeiaaGreatDoorZDBB
import Derived.Test.YtphoglepiegeiaaGreatDoorZDBC
import Derived.Test.YtphoglepiegeiaaGreatDoorZDBD
import Derived.Test.YtphoglepiegeiaaGreatDoorZDD
import Derived.Test.YtphoglepiegeiaaGreatDoorZDG
import Derived.Test.YtphoglepiegeiaaGreatDoorZDL
import Derived.Test.YtphoglepiegeiaaGreatDoorZDS
import Derived.Test.YtphoglepiegeiaaGreatDoorZDT
import Derived.Test.YtphoglepiegeiaaGreatDoorZDU
import Derived.Test.YtphoglepiegeiaaGreatDoorZDZ
set_option linter.unusedSimpArgs false
set_option linter.unusedVariables false
namespace Go.Proofs.YtphoglepiegeiaaGreatDoor
set_option maxRecDepth 20000
open Go.RowKit Pm
theorem Pm.StR.up {s : St} (h : StR s) {k : Nat} (h0 : 0 < k) (hk : k < s.nodes.length) (h1 : k - 1 < s.nodes.length) : lt (s.nodes[k-1]).path (s.nodes[k]).path = true := h.asc (k - 1) k h1 hk (by omega)
theorem Pm.StR.upT {s : St} (h : StR s) {k : Nat} (h0 : 0 < k) (hk : k < s.turns.length) (h1 : k - 1 < s.turns.length) : lt (s.turns[k-1]).dir (s.turns[k]).dir = true := h.tasc (k - 1) k h1 hk (by omega)
theorem fewDo {s : St} (h : Gfew s) : Sp s.nodes ∧ (∀ t ∈ s.turns, t.dir.length ≤ 1000000) ∧ s.nodes.length ≤ 3900 ∧ s.turns.length ≤ 3900 :=
 ⟨few_sp h.nodes, fun t ht => by have := h.turns.2 t ht; omega, by have := h.nodes.1; omega, by have := h.turns.1; omega⟩
theorem keep_len (l : List Nd) : (keep l).nodes.length = l.length ∧ (keep l).turns.length ≤ l.length := by
 unfold keep turnsOf
 exact ⟨List.length_map _, by rw [List.length_map]; exact List.length_filter_le _ _⟩
theorem keep_few {l : List Nd} (h : l.length ≤ 1667 ∧ ∀ x ∈ l, x.path.length ≤ 5000 ∧ x.data.length ≤ 5000) : Sfew (keep l) := by
 refine ⟨fun x hx => ?_, fun t ht => ?_, by rw [(keep_len l).1]; omega, by have := (keep_len l).2; omega⟩
 ·obtain ⟨y, hy, rfl⟩ := List.mem_map.1 hx
  have := (h.2 y hy).1
  rw [kn_path]; omega
 obtain ⟨y, hy, e, _⟩ := mem_turnsOf.1 (show t ∈ turnsOf l from ht)
 have := (h.2 y hy).1
 rw [← e]; omega
theorem Gfew.sfew {s : St} (h : Gfew s) : Sfew s := ⟨(fewDo h).1, (fewDo h).2.1, (fewDo h).2.2.1, (fewDo h).2.2.2⟩
def TOut (ss : List St) (b : Bool) (A : List Nd) : Prop := (b = true ∧ TreeOf ss A) ∨ (b = false ∧ A = [] ∧ ∀ y, ¬ TreeOf ss y)
theorem TOut.det {ss : List St} {b b' : Bool} {A A' : List Nd} (h : TOut ss b A) (g : TOut ss b' A') : b = b' ∧ A = A' := by
 rcases h with ⟨rfl, h⟩ | ⟨rfl, rfl, h⟩ <;> rcases g with ⟨rfl, g⟩ | ⟨rfl, rfl, g⟩
 ·exact ⟨rfl, h.one g⟩
 ·exact absurd h (g A)
 ·exact absurd g (h A')
 exact ⟨rfl, rfl⟩
theorem TOut.few {ss : List St} {b : Bool} {A : List Nd} (h : TOut ss b A) : A.length ≤ 512 := by
 rcases h with ⟨rfl, h⟩ | ⟨rfl, rfl, h⟩
 ·exact h.tree.most
 simp
theorem TreR.out {ss : List St} {w : World} {e : Ending} {w' : World} (h : TreR ss w e w') : ∃ v b A, e = .returned (.tuple #[v, .bool b]) ∧ Ns w' v A ∧ TOut ss b A := by
 obtain ⟨v, b, he, h⟩ := h.ex
 rcases h with ⟨rfl, y, h1, h2⟩ | ⟨rfl, rfl, h2⟩
 ·exact ⟨v, _, y, he, h1, .inl ⟨rfl, h2⟩⟩
 exact ⟨_, _, [], he, Ns.nil _, .inr ⟨rfl, rfl, h2⟩⟩
theorem parts_two (o : Opn) : (partsOf o).length ≤ 2 := by
 unfold partsOf
 split
 ·split
  ·simp
  split
  ·simp
  split
  ·simp
  split
  ·simp
  split
  ·simp
  split
  ·simp
  simp
 simp
theorem two_stos {w : World} {an at_ bn bt : Option Addr} {n m p q cn ct dn dt : Nat} {s r : St} (h : Sto w (.agg #[.slice an n cn, .slice at_ m ct]) s) (g : Sto w (.agg #[.slice bn p dn, .slice bt q dt]) r) :
  Stos (w.alloc (.cells #[.slice an n cn, .slice at_ m ct, .slice bn p dn, .slice bt q dt] TST)) (.slice (some ⟨w.heap.size, 0, none⟩) 2 2) [⟨.slice an n cn, .slice at_ m ct, s⟩, ⟨.slice bn p dn, .slice bt q dt, r⟩] := by
 have hf := fp_alloc w (.cells #[.slice an n cn, .slice at_ m ct, .slice bn p dn, .slice bt q dt] TST)
 have key : ∀ {a b c d : Value} {s : St}, Sto w (.agg #[a, b]) s → Ns w a s.nodes ∧ Ts w b s.turns := fun h => by
  obtain ⟨vn, vt, e, h1, h2⟩ := h.ex
  injection e with e
  injection e with e
  injection e with e1 e
  injection e with e2 _
  subst e1 e2
  exact ⟨h1, h2⟩
 refine ⟨Sg.of_row (l := [(⟨.slice an n cn, .slice at_ m ct, s⟩ : Sv), ⟨.slice bn p dn, .slice bt q dt, r⟩]) svC_len 2 (heap_alloc_new w _), fun x hx => ?_⟩
 rcases List.mem_cons.1 hx with rfl | hx
 ·have := key (c := .bool true) (d := .bool true) h; exact ⟨this.1.non hf, this.2.non hf⟩
 rw [List.mem_singleton.1 hx]
 have := key (c := .bool true) (d := .bool true) g; exact ⟨this.1.non hf, this.2.non hf⟩
attribute [local irreducible] wpStill
set_option maxHeartbeats 40000000 in
theorem PartSplits_c (o : Opn) (v : Value) (l : List Nd) (va : Value) (sa : St) (vb : Value) (sb : St) (w : World) (hl : Ns w v l) (hln : l.length ≤ 140737488355328) (hva : Sto w va sa) (hna : sa.nodes.length ≤ 140737488355328) (hma : sa.turns.length ≤ 140737488355328) (hvb : Sto w vb sb) (hnb : sb.nodes.length ≤ 140737488355328) (hmb : sb.turns.length ≤ 140737488355328) (ht : Tab w) :
  Calls Tryz.prog 4 #[opV o, v, va, vb] w fun e w' => e = .returned (.bool true) ∧ Fp Non w w' := by
 have hg0 := fun W (f : Fp Non w W) => Great_c v l W (hl.non f) hln
 have hga := fun W (f : Fp Non w W) => GreatS_c va sa W (hva.non f) hna hma
 have hgb := fun W (f : Fp Non w W) => GreatS_c vb sb W (hvb.non f) hnb hmb
 have hgo := fun W => GreatOp_c o W
 obtain ⟨al, cl, rfl⟩ := hl.shape
 obtain ⟨van, vat, rfl, ha1, ha2⟩ := hva.ex
 obtain ⟨an, cn, rfl⟩ := ha1.shape
 obtain ⟨at_, ct, rfl⟩ := ha2.shape
 obtain ⟨vbn, vbt, rfl, hb1, hb2⟩ := hvb.ex
 obtain ⟨bn, dn, rfl⟩ := hb1.shape
 obtain ⟨bt, dt, rfl⟩ := hb2.shape
 obtain ⟨z, hz⟩ : ∃ z, z = l.length := ⟨_, rfl⟩
 obtain ⟨n, hn⟩ : ∃ n, n = sa.nodes.length := ⟨_, rfl⟩
 obtain ⟨m, hm⟩ : ∃ n, n = sa.turns.length := ⟨_, rfl⟩
 obtain ⟨p, hp⟩ : ∃ n, n = sb.nodes.length := ⟨_, rfl⟩
 obtain ⟨q, hq⟩ : ∃ n, n = sb.turns.length := ⟨_, rfl⟩
 have HZ := Lib.hid hz
 rw [← hz] at hl hg0 ⊢
 rw [← hn, ← hm] at hva hga ⊢
 rw [← hp, ← hq] at hvb hgb ⊢
 have HG0 := Lib.hid hg0
 have HGA := Lib.hid hga
 have HGB := Lib.hid hgb
 obtain ⟨ok, op, od, ov, oo, ot⟩ := o
 unfold opV strV at hgo ⊢
 simp only at hgo ⊢
 have HGO := Lib.hid hgo
 have f0 := fp_alloc w (.cells #[.int .i64 ok, .string (B op), .string (B od), .int .i64 ov, .int .i64 oo, .bool ot] TO_)
 have r0 := heap_alloc_new w (.cells #[.int .i64 ok, .string (B op), .string (B od), .int .i64 ov, .int .i64 oo, .bool ot] TO_)
 have s0 : (w.alloc (.cells #[.int .i64 ok, .string (B op), .string (B od), .int .i64 ov, .int .i64 oo, .bool ot] TO_)).heap.size = w.heap.size + 1 := by simp
 have f1 := fp_alloc (w.alloc (.cells #[.int .i64 ok, .string (B op), .string (B od), .int .i64 ov, .int .i64 oo, .bool ot] TO_)) (.cells #[.slice an n cn, .slice at_ m ct] TST)
 have r1 := heap_alloc_new (w.alloc (.cells #[.int .i64 ok, .string (B op), .string (B od), .int .i64 ov, .int .i64 oo, .bool ot] TO_)) (.cells #[.slice an n cn, .slice at_ m ct] TST)
 have s1 : ((w.alloc (.cells #[.int .i64 ok, .string (B op), .string (B od), .int .i64 ov, .int .i64 oo, .bool ot] TO_)).alloc (.cells #[.slice an n cn, .slice at_ m ct] TST)).heap.size = w.heap.size + 1 + 1 := by simp
 have f2 := fp_alloc ((w.alloc (.cells #[.int .i64 ok, .string (B op), .string (B od), .int .i64 ov, .int .i64 oo, .bool ot] TO_)).alloc (.cells #[.slice an n cn, .slice at_ m ct] TST)) (.cells #[.slice bn p dn, .slice bt q dt] TST)
 have r2 := heap_alloc_new ((w.alloc (.cells #[.int .i64 ok, .string (B op), .string (B od), .int .i64 ov, .int .i64 oo, .bool ot] TO_)).alloc (.cells #[.slice an n cn, .slice at_ m ct] TST)) (.cells #[.slice bn p dn, .slice bt q dt] TST)
 rw [s0] at r1
 rw [s1] at r2
 have HT := Lib.hid ht
 have HV := Lib.hid (And.intro hl (And.intro hva hvb))
 have K0 := Lib.hid (Kp.and (Kp.fp ((f0.then f1).then f2)) (Kp.and (Kp.row (f2.heap (f1.heap r0 id) id)) (Kp.and (Kp.row (f2.heap r1 id)) (Kp.row r2))))
 clear hl hva hvb ht hln hna hma hnb hmb hz hn hm hp hq hg0 hga hgb hgo f0 f1 f2 r0 r1 r2 s0 s1 ha1 ha2 hb1 hb2
 go_enter Tryz.func4, Tryz.ntmps4
 go_wp2_with fail
 refine (head7_c _ (HT.out.non K0.out.now.1)).mono ?_
 rintro e w1 ⟨rfl, hf⟩
 have K1 := Lib.hid (K0.out.later hf)
 clear K0
 clear hf
 obtain ⟨o0, o1, o2, o3, o4, o5⟩ := box6 K1.out.now.2.1
 go_wp2_with fail
 refine (HGO.out _).mono ?_
 rintro e w2 ⟨g, rfl, hg, hf⟩
 have K2 := Lib.hid (K1.out.later hf)
 clear K1
 have HG := Lib.hid hg
 clear hf hg HGO o0 o1 o2 o3 o4 o5
 cases g with
 | true =>
  go_wp2
  go_ret
  exact ⟨rfl, K2.out.now.1⟩
 | false => ?_
 have HFO := Lib.hid (HG.out (by first | rfl | trivial))
 clear HG
 go_wp2_with fail
 refine (HG0.out _ K2.out.now.1).mono ?_
 rintro e w3 ⟨g, rfl, hg, hf⟩
 have K3 := Lib.hid (K2.out.later hf)
 clear K2
 have HG := Lib.hid hg
 clear hf hg HG0
 cases g with
 | true =>
  go_wp2
  go_ret
  exact ⟨rfl, K3.out.now.1⟩
 | false => ?_
 have HLF := Lib.hid (HG.out (by first | rfl | trivial))
 clear HG
 obtain ⟨a0, a1⟩ := boxP2 K3.out.now.2.2.1
 go_wp2_with fail
 refine (HGA.out _ K3.out.now.1).mono ?_
 rintro e w4 ⟨g, rfl, hg, hf⟩
 have K4 := Lib.hid (K3.out.later hf)
 clear K3
 have HG := Lib.hid hg
 clear hf hg HGA a0 a1
 cases g with
 | true =>
  go_wp2
  go_ret
  exact ⟨rfl, K4.out.now.1⟩
 | false => ?_
 have HSA := Lib.hid (HG.out (by first | rfl | trivial))
 clear HG
 obtain ⟨b0, b1⟩ := boxP2 K4.out.now.2.2.2
 go_wp2_with fail
 refine (HGB.out _ K4.out.now.1).mono ?_
 rintro e w5 ⟨g, rfl, hg, hf⟩
 have K5 := Lib.hid (K4.out.later hf)
 clear K4
 have HG := Lib.hid hg
 clear hf hg HGB b0 b1
 cases g with
 | true =>
  go_wp2
  go_ret
  exact ⟨rfl, K5.out.now.1⟩
 | false => ?_
 have HSB := Lib.hid (HG.out (by first | rfl | trivial))
 clear HG
 obtain ⟨a0, a1⟩ := boxP2 K5.out.now.2.2.1
 obtain ⟨b0, b1⟩ := boxP2 K5.out.now.2.2.2
 have hst := two_stos (HV.out.2.1.non K5.out.now.1) (HV.out.2.2.non K5.out.now.1)
 have htr := Tree_c _ _ _ hst (by simp) (fun x hx => by
  rcases List.mem_cons.1 hx with rfl | hx
  ·exact HSA.out.sfew
  rw [List.mem_singleton.1 hx]; exact HSB.out.sfew)
 have f0 := fp_alloc w5 (.cells #[.slice an n cn, .slice at_ m ct, .slice bn p dn, .slice bt q dt] TST)
 have K6 := Lib.hid (K5.out.later f0)
 clear K5
 have HTR := Lib.hid htr
 clear hst htr f0
 go_wp2_with fail
 refine HTR.out.mono ?_
 rintro e w6 hm
 have hf := hm.fp
 obtain ⟨xx, bx9, Ax, rfl, hz, hox⟩ := hm.out
 obtain ⟨xxo, xxc, rfl⟩ := hz.shape
 have K7 := Lib.hid (Kp.and (Kp.ns hz) (K6.out.later hf))
 clear K6
 have HOx := Lib.hid hox
 clear hf hm hz hox HTR a0 a1 b0 b1
 obtain ⟨a0, a1⟩ := boxP2 K7.out.now.2.2.2.1
 obtain ⟨b0, b1⟩ := boxP2 K7.out.now.2.2.2.2
 have hst := two_stos (HV.out.2.1.non K7.out.now.2.1) (HV.out.2.2.non K7.out.now.2.1)
 have htr := rTree_c _ _ _ hst (by simp) (fun x hx => by
  rcases List.mem_cons.1 hx with rfl | hx
  ·exact HSA.out.sfew
  rw [List.mem_singleton.1 hx]; exact HSB.out.sfew)
 have f0 := fp_alloc w6 (.cells #[.slice an n cn, .slice at_ m ct, .slice bn p dn, .slice bt q dt] TST)
 have K8 := Lib.hid (K7.out.later f0)
 clear K7
 have HTR := Lib.hid htr
 clear hst htr f0
 go_wp2_with fail
 refine HTR.out.mono ?_
 rintro e w7 hm
 have hf := hm.fp
 obtain ⟨xy, by9, Ay, rfl, hz, hoy⟩ := hm.out
 obtain ⟨xyo, xyc, rfl⟩ := hz.shape
 have K9 := Lib.hid (Kp.and (Kp.ns hz) (K8.out.later hf))
 clear K8
 have HOy := Lib.hid hoy
 clear hf hm hz hoy HTR a0 a1 b0 b1
 obtain ⟨rfl, rfl⟩ := HOx.out.det HOy.out
 clear HOy
 have hlf := HLF.out
 rw [HZ.out] at hlf
 have HLL := Lib.hid hlf
 clear hlf
 have hbb : (bx9 == bx9) = true := by cases bx9 <;> rfl
 obtain ⟨nx, hnx⟩ : ∃ nx, nx = Ax.length := ⟨_, rfl⟩
 have HNXX := Lib.hid hnx
 rw [← hnx]
 clear hnx
 have Hq := Lib.hid (fun W (f : Fp Non w7 W) => (And.intro (box6 (K9.out.later f).now.2.2.2.1).1 (And.intro (box6 (K9.out.later f).now.2.2.2.1).2.1 (And.intro (box6 (K9.out.later f).now.2.2.2.1).2.2.1 (And.intro (box6 (K9.out.later f).now.2.2.2.1).2.2.2.1 (And.intro (box6 (K9.out.later f).now.2.2.2.1).2.2.2.2.1 (box6 (K9.out.later f).now.2.2.2.1).2.2.2.2.2))))))
 have HWD := Lib.hid (Fp.refl Non w7).drew
 go_wp2_with fail
 refine wp_region_held_drew (S := (fun w' => w'.cell? ⟨w.heap.size, 0, none⟩ = some (.int .i64 ok) ∧ w'.cell? ⟨w.heap.size, 1, none⟩ = some (.string (B op)) ∧ w'.cell? ⟨w.heap.size, 2, none⟩ = some (.string (B od)) ∧ w'.cell? ⟨w.heap.size, 3, none⟩ = some (.int .i64 ov) ∧ w'.cell? ⟨w.heap.size, 4, none⟩ = some (.int .i64 oo) ∧ w'.cell? ⟨w.heap.size, 5, none⟩ = some (.bool ot))) (by kernel_rfl) ?_ (fun hH => ?_)
 ·exact Hq.out _ HWD.out
 generalize w7.drew = wd at *
 refine tk 0 hH ?_
 refine tk 1 hH ?_
 refine tk 2 hH ?_
 refine tk 4 hH ?_
 have HC := Lib.hid (Of_c ⟨ok, op, od, ov, oo, ot⟩ wd (show op.length ≤ 1000000 by have := HFO.out.1; omega))
 refine rY 3 fun K hK => ?_
 go_simp
 go_at_call 30
 refine HC.out.mono ?_
 rintro e u1 ⟨⟨y1, rfl, hy⟩, hf⟩
 have HWG1 := Lib.hid (HWD.out.then hf)
 have HY1 := Lib.hid hy
 clear hy
 clear hf HC
 go_wp2_with fail
 refine hK.out _ _ (Hq.out _ HWG1.out) (fun hH => ?_)
 clear hK K
 try simp only [zz]
 have HC := Lib.hid (rOf_c ⟨ok, op, od, ov, oo, ot⟩ u1 (show op.length ≤ 1000000 by have := HFO.out.1; omega))
 refine rY 5 fun K hK => ?_
 go_simp
 go_at_call 31
 refine HC.out.mono ?_
 rintro e u2 hm
 have hf := hm.fp
 obtain ⟨y2, rfl, hy, _⟩ := hm.ex
 have HWG2 := Lib.hid (HWG1.out.then hf)
 have HF12 := Lib.hid hf
 have HY2 := Lib.hid hy
 clear hy hm
 clear hf HC
 go_wp2_with fail
 refine hK.out _ _ (Hq.out _ HWG2.out) (fun hH => ?_)
 clear hK K
 try simp only [zz]
 have HC := Lib.hid (rSameParts_c y1 y2 (partsOf ⟨ok, op, od, ov, oo, ot⟩) u2 (HY1.out.non (show Fp Non u1 u2 from HF12.out)) HY2.out (Nat.le_trans (parts_two ⟨ok, op, od, ov, oo, ot⟩) (by omega)))
 refine rY 6 fun K hK => ?_
 go_simp
 go_at_call 29
 refine HC.out.mono ?_
 rintro e u3 ⟨rfl, hf⟩
 have HWG3 := Lib.hid (HWG2.out.then hf)
 clear hf HC
 go_wp2_with fail
 refine hK.out _ _ (Hq.out _ HWG3.out) (fun hH => ?_)
 clear hK K
 try simp only [zz]
 refine tk 7 hH ?_
 refine tk 8 hH ?_
 refine tk 9 hH ?_
 refine tk 11 hH ?_
 have HC := Lib.hid (Keep_c _ l u3 (HV.out.1.non (K9.out.later HWG3.out).now.2.2.1) (by have := HLL.out.1; omega))
 refine rY 10 fun K hK => ?_
 go_simp
 go_at_call 32
 refine HC.out.mono ?_
 rintro e u4 ⟨⟨y4, rfl, hy⟩, hf⟩
 have HWG4 := Lib.hid (HWG3.out.then hf)
 have HY4 := Lib.hid hy
 clear hy
 clear hf HC
 go_wp2_with fail
 refine hK.out _ _ (Hq.out _ HWG4.out) (fun hH => ?_)
 clear hK K
 try simp only [zz]
 have HC := Lib.hid (rKeep_c _ l u4 (HV.out.1.non (K9.out.later HWG4.out).now.2.2.1) (by have := HLL.out.1; omega))
 refine rY 12 fun K hK => ?_
 go_simp
 go_at_call 33
 refine HC.out.mono ?_
 rintro e u5 ⟨⟨y5, rfl, hy⟩, hf⟩
 have HWG5 := Lib.hid (HWG4.out.then hf)
 have HY5 := Lib.hid hy
 have HF45 := Lib.hid hf
 clear hy
 clear hf HC
 go_wp2_with fail
 refine hK.out _ _ (Hq.out _ HWG5.out) (fun hH => ?_)
 clear hK K
 try simp only [zz]
 have hsm := rSameS_c y4 y5 (keep l) (keep l) u5 (HY4.out.non HF45.out) HY5.out (by have := (keep_few HLL.out).nodes; omega) (by have := (keep_few HLL.out).nodes; omega) (by have := (keep_few HLL.out).turns; omega) (by have := (keep_few HLL.out).turns; omega)
 rw [decide_eq_true rfl] at hsm
 have HC := Lib.hid (hsm)
 refine rY 13 fun K hK => ?_
 go_simp
 go_at_call 23
 refine HC.out.mono ?_
 rintro e u6 ⟨rfl, hf⟩
 have HWG6 := Lib.hid (HWG5.out.then hf)
 clear hf HC
 go_wp2_with fail
 refine hK.out _ _ (Hq.out _ HWG6.out) (fun hH => ?_)
 clear hK K
 try simp only [zz]
 refine tk 14 hH ?_
 refine tk 15 hH ?_
 refine tk 16 hH ?_
 refine tk 17 hH ?_
 have hsn := rSameN_c _ _ Ax Ax u6 (K9.out.later HWG6.out).now.2.1 (K9.out.later HWG6.out).now.1 (by have := HOx.out.few; omega) (by have := HOx.out.few; omega)
 rw [decide_eq_true rfl, ← HNXX.out] at hsn
 have HC := Lib.hid (hsn)
 refine rY 18 fun K hK => ?_
 go_simp
 go_at_call 34
 refine HC.out.mono ?_
 rintro e u7 ⟨rfl, hf⟩
 have HWG7 := Lib.hid (HWG6.out.then hf)
 clear hf HC
 go_wp2_with fail
 refine hK.out _ _ (Hq.out _ HWG7.out) (fun hH => ?_)
 clear hK K
 try simp only [zz]
 refine tk 19 hH ?_
 refine tk 20 hH ?_
 refine tk 21 hH ?_
 refine tk 22 hH ?_
 refine tk 23 hH ?_
 refine tk 24 hH ?_
 refine tk 25 hH ?_
 refine wpAnyH_done (by kernel_rfl) ?_ _
 have HFIN := Lib.hid ((K9.out.later HWG7.out).now.2.2.1)
 clear hH Hq
 go_wp2
 go_ret
 exact ⟨rfl, HFIN.out⟩
end Go.Proofs.YtphoglepiegeiaaGreatDoor
namespace Go.Proofs.YtphoglepiegeiaaGreatDoor
set_option maxRecDepth 20000
open Go.ChangeShapes Go.WideShapes Go.ChangeAt Go.RowKit Pm Go.Deep
open Go.WideMaps Go.WideElems
open Go.ChangeMaps (setBlock shut_map_nil open_string shut_string)
structure Tx (w : World) (v : Value) (l : List Bs) : Prop where
 ex : ∃ ao cap, v = .slice ao l.length cap ∧ (l = [] ∨ ∃ g o, ao = some ⟨g, o, none⟩ ∧ ∀ i (h : i < l.length), w.cell? ⟨g, o + i, none⟩ = some (.string (B l[i])))
theorem Tx.non {w w' : World} {v : Value} {l : List Bs} (h : Tx w v l) (f : Fp Non w w') : Tx w' v l := by
 obtain ⟨ao, cap, rfl, h3⟩ := h.ex
 refine ⟨ao, cap, rfl, ?_⟩
 rcases h3 with h3 | ⟨g, o, rfl, hc⟩
 ·exact .inl h3
 exact .inr ⟨g, o, rfl, fun i hi => f.cell (hc i hi) id⟩
theorem Tx.shape {w : World} {v : Value} {l : List Bs} (h : Tx w v l) : ∃ ao cap, v = .slice ao l.length cap := by
 obtain ⟨ao, cap, rfl, _⟩ := h.ex; exact ⟨ao, cap, rfl⟩
theorem Tx.at {w : World} {v : Value} {l : List Bs} (h : Tx w v l) (h0 : 0 < l.length) : ∃ g o cap, v = .slice (some ⟨g, o, none⟩) l.length cap ∧ ∀ i (h : i < l.length), w.cell? ⟨g, o + i, none⟩ = some (.string (B l[i])) := by
 obtain ⟨ao, cap, rfl, h3⟩ := h.ex
 rcases h3 with h3 | ⟨g, o, rfl, hc⟩
 ·subst h3; simp at h0
 exact ⟨g, o, cap, rfl, hc⟩
structure OpAt (w : World) (g o : Nat) (x : Opn) : Prop where
 c0 : w.cell? ⟨g, o, none⟩ = some (.int .i64 x.kind)
 c1 : w.cell? ⟨g, o + 1, none⟩ = some (strV x.path)
 c2 : w.cell? ⟨g, o + 2, none⟩ = some (strV x.data)
 c3 : w.cell? ⟨g, o + 3, none⟩ = some (.int .i64 x.ver)
 c4 : w.cell? ⟨g, o + 4, none⟩ = some (.int .i64 x.own)
 c5 : w.cell? ⟨g, o + 5, none⟩ = some (.bool x.turns)
theorem OpAt.keep {w w' : World} {g o : Nat} {n : Opn} (h : OpAt w g o n) {S : Nat → Prop} (f : Fp S w w') (hS : ¬ S g) : OpAt w' g o n :=
 ⟨f.cell h.c0 hS, f.cell h.c1 hS, f.cell h.c2 hS, f.cell h.c3 hS, f.cell h.c4 hS, f.cell h.c5 hS⟩
structure Ops (w : World) (v : Value) (l : List Opn) : Prop where
 ex : ∃ ao cap, v = .slice ao l.length cap ∧ (l = [] ∨ ∃ g o, ao = some ⟨g, o, none⟩ ∧ ∀ i (h : i < l.length), OpAt w g (o + i * 6) l[i])
theorem Ops.non {w w' : World} {v : Value} {l : List Opn} (h : Ops w v l) (f : Fp Non w w') : Ops w' v l := by
 obtain ⟨ao, cap, rfl, h3⟩ := h.ex
 refine ⟨ao, cap, rfl, ?_⟩
 rcases h3 with h3 | ⟨g, o, rfl, hc⟩
 ·exact .inl h3
 exact .inr ⟨g, o, rfl, fun i hi => (hc i hi).keep f id⟩
theorem Ops.shape {w : World} {v : Value} {l : List Opn} (h : Ops w v l) : ∃ ao cap, v = .slice ao l.length cap := by
 obtain ⟨ao, cap, rfl, _⟩ := h.ex; exact ⟨ao, cap, rfl⟩
theorem Ops.at {w : World} {v : Value} {l : List Opn} (h : Ops w v l) (h0 : 0 < l.length) : ∃ g o cap, v = .slice (some ⟨g, o, none⟩) l.length cap ∧ ∀ i (h : i < l.length), OpAt w g (o + i * 6) l[i] := by
 obtain ⟨ao, cap, rfl, h3⟩ := h.ex
 rcases h3 with h3 | ⟨g, o, rfl, hc⟩
 ·subst h3; simp at h0
 exact ⟨g, o, cap, rfl, hc⟩
section
variable {H : Type} {enc : TypeId × Value → H} {W : World}
end
end Go.Proofs.YtphoglepiegeiaaGreatDoor
namespace Go.Proofs.YtphoglepiegeiaaGreatDoor
set_option maxRecDepth 20000
open Go.ChangeShapes Go.WideShapes Go.ChangeAt Go.RowKit Pm Go.Deep
open Go.WideMaps Go.WideElems
open Go.ChangeMaps (setBlock shut_map_nil open_string shut_string)
theorem Tryz.cellsTu : Tryz.prog.cellsOf 81 = 2 := by kernel_rfl
theorem Tryz.bytesTu : Tryz.prog.bytesOf 81 = 24 := by kernel_rfl
theorem Tryz.cellsSt : Tryz.prog.cellsOf 25 = 2 := by kernel_rfl
theorem Tryz.cellsNs : Tryz.prog.cellsOf 22 = 1 := by kernel_rfl
theorem Tryz.cellsTs : Tryz.prog.cellsOf 23 = 1 := by kernel_rfl
section
variable {H : Type} {enc : TypeId × Value → H} {W : World}
theorem tu_of {n : Nat} {cs : List Value} {y : DataW H × List MemPlace} (hlen : cs.length = 2) (h : DataW.trod enc Tryz.prog W 0 (fun _ => true) true n 81 cs = some y) :
  ∃ x : Tu, cs = tuC x ∧ x.dir.length ≤ maxLen := by
 obtain ⟨xs, k, hk, hxy, _, hxl, hf⟩ := DataW.trod_struct Tryz.underlying81 h
 match xs, hxl, cs, hlen with
 | [y0, y1], _, [v0, v1], _ =>
  have g0 := hf 0 _ rfl
  have g1 := hf 1 _ rfl
  simp [Tryz.cellsStr'] at g0
  simp [Tryz.cellsI64] at g1
  obtain ⟨z0, e0, _, h0⟩ := DataW.trod_string Tryz.underlying9 g0
  obtain ⟨z1, e1, _, _⟩ := DataW.trod_int Tryz.underlying2 g1
  simp only [List.cons.injEq, and_true] at e0 e1
  subst e0 e1
  refine ⟨⟨z0.data.toList, z1⟩, ?_, ?_⟩
  ·unfold tuC strV; rw [← B_of]
  simpa using h0
theorem open_nodes_in {fuel : Nat} {v : Value} {y : DataW H × List MemPlace} (hf : DataW.trod enc Tryz.prog W 0 (fun _ => true) true fuel 22 [v] = some y) (hsz : ∀ n ∈ y.1.weights Tryz.prog 22, n ≤ reachBytes) :
  ∃ l, Ns W v l ∧ l.length ≤ 140737488355328 ∧ ∀ x ∈ l, x.path.length ≤ maxLen ∧ x.data.length ≤ maxLen := by
 rcases open_slice Tryz.underlying22 hf with ⟨hcs, hx⟩ | ⟨a, len, cap, m, n, D, Pl, hcs, _, hl, hm, hmm, hx, hel⟩
 ·simp only [List.cons.injEq, and_true] at hcs
  subst hcs
  exact ⟨[], Ns.nil W, Nat.zero_le _, fun _ h => by cases h⟩
 simp only [List.cons.injEq, and_true] at hcs
 subst hcs
 simp only [if_true] at hmm
 subst hmm
 have hlb : len ≤ 140737488355328 := by
  rw [hx] at hsz
  simp only [DataW.weights, Tryz.underlying22] at hsz
  have := hsz _ (List.mem_cons_self ..)
  rw [Tryz.bytesNd] at this
  simp only [List.length_map, List.length_range, reachBytes] at this
  omega
 have each : ∀ i, i < len → ∃ x : Nd, (∀ j (hj : j < 5), W.cell? (a.add (i * 5 + j)) = (ndC x)[j]?) ∧ x.path.length ≤ maxLen ∧ x.data.length ≤ maxLen := by
  intro i hi
  obtain ⟨cs', h1, h2⟩ := hel i (by omega)
  rw [Tryz.cellsNd] at h1
  obtain ⟨_, hlen, hcell⟩ := World.cells?_some h1
  obtain ⟨x, rfl, h3, h4⟩ := nd_of hlen h2
  refine ⟨x, fun j hj => ?_, h3, h4⟩
  have := hcell j (by omega)
  rw [add_add] at this
  exact this
 obtain ⟨f, hfi⟩ : ∃ f : Nat → Nd, ∀ i, i < len → (∀ j (hj : j < 5), W.cell? (a.add (i * 5 + j)) = (ndC (f i))[j]?) ∧ (f i).path.length ≤ maxLen ∧ (f i).data.length ≤ maxLen := by
  haveI : Inhabited Nd := ⟨zeroNd⟩
  exact choose_lt each
 have hlen : ((List.range len).map f).length = len := by simp
 by_cases h0 : len = 0
 ·subst h0
  exact ⟨[], ⟨some a, m, rfl, by simp, hm, .inl rfl⟩, Nat.zero_le _, fun _ h => by cases h⟩
 have hc0 := (hfi 0 (by omega)).1 0 (by omega)
 have hc0 : W.cell? a = some (.string (B (f 0).path)) := by simpa [Addr.add, ndC, strV] using hc0
 have hlt := World.block_lt_of_cell? W a hc0
 obtain ⟨g, o, rfl⟩ := spot_none hc0
 refine ⟨(List.range len).map f, ⟨some ⟨g, o, none⟩, m, by rw [hlen], by rw [hlen]; exact hl, hm, .inr ⟨g, o, rfl, hlt, fun i hi => ?_⟩⟩, by rw [hlen]; exact hlb, fun x hx => ?_⟩
 ·rw [hlen] at hi
  obtain ⟨k1, _, _⟩ := hfi i (by omega)
  simp only [List.getElem_map, List.getElem_range]
  have q0 := k1 0 (by omega)
  have q1 := k1 1 (by omega)
  have q2 := k1 2 (by omega)
  have q3 := k1 3 (by omega)
  have q4 := k1 4 (by omega)
  rw [Addr.add_lit] at q0 q1 q2 q3 q4
  exact ⟨by simpa [ndC] using q0, by simpa [Nat.add_assoc, ndC] using q1, by simpa [Nat.add_assoc, ndC] using q2, by simpa [Nat.add_assoc, ndC] using q3, by simpa [Nat.add_assoc, ndC] using q4⟩
 obtain ⟨i, hi, rfl⟩ := List.mem_map.1 hx
 exact (hfi i (List.mem_range.1 hi)).2
theorem open_turns_in {fuel : Nat} {v : Value} {y : DataW H × List MemPlace} (hf : DataW.trod enc Tryz.prog W 0 (fun _ => true) true fuel 23 [v] = some y) (hsz : ∀ n ∈ y.1.weights Tryz.prog 23, n ≤ reachBytes) :
  ∃ l, Ts W v l ∧ l.length ≤ 140737488355328 ∧ ∀ x ∈ l, x.dir.length ≤ maxLen := by
 rcases open_slice Tryz.underlying23 hf with ⟨hcs, hx⟩ | ⟨a, len, cap, m, n, D, Pl, hcs, _, hl, hm, hmm, hx, hel⟩
 ·simp only [List.cons.injEq, and_true] at hcs
  subst hcs
  exact ⟨[], Ts.nil W, Nat.zero_le _, fun _ h => by cases h⟩
 simp only [List.cons.injEq, and_true] at hcs
 subst hcs
 simp only [if_true] at hmm
 subst hmm
 have hlb : len ≤ 140737488355328 := by
  rw [hx] at hsz
  simp only [DataW.weights, Tryz.underlying23] at hsz
  have := hsz _ (List.mem_cons_self ..)
  rw [Tryz.bytesTu] at this
  simp only [List.length_map, List.length_range, reachBytes] at this
  omega
 have each : ∀ i, i < len → ∃ x : Tu, (∀ j (hj : j < 2), W.cell? (a.add (i * 2 + j)) = (tuC x)[j]?) ∧ x.dir.length ≤ maxLen := by
  intro i hi
  obtain ⟨cs', h1, h2⟩ := hel i (by omega)
  rw [Tryz.cellsTu] at h1
  obtain ⟨_, hlen, hcell⟩ := World.cells?_some h1
  obtain ⟨x, rfl, h3⟩ := tu_of hlen h2
  refine ⟨x, fun j hj => ?_, h3⟩
  have := hcell j (by omega)
  rw [add_add] at this
  exact this
 obtain ⟨f, hfi⟩ : ∃ f : Nat → Tu, ∀ i, i < len → (∀ j (hj : j < 2), W.cell? (a.add (i * 2 + j)) = (tuC (f i))[j]?) ∧ (f i).dir.length ≤ maxLen := by
  haveI : Inhabited Tu := ⟨⟨[], 0⟩⟩
  exact choose_lt each
 have hlen : ((List.range len).map f).length = len := by simp
 by_cases h0 : len = 0
 ·subst h0
  exact ⟨[], ⟨some a, m, rfl, by simp, hm, .inl rfl⟩, Nat.zero_le _, fun _ h => by cases h⟩
 have hc0 := (hfi 0 (by omega)).1 0 (by omega)
 have hc0 : W.cell? a = some (.string (B (f 0).dir)) := by simpa [Addr.add, tuC, strV] using hc0
 have hlt := World.block_lt_of_cell? W a hc0
 obtain ⟨g, o, rfl⟩ := spot_none hc0
 refine ⟨(List.range len).map f, ⟨some ⟨g, o, none⟩, m, by rw [hlen], by rw [hlen]; exact hl, hm, .inr ⟨g, o, rfl, hlt, fun i hi => ?_⟩⟩, by rw [hlen]; exact hlb, fun x hx => ?_⟩
 ·rw [hlen] at hi
  obtain ⟨k1, _⟩ := hfi i (by omega)
  simp only [List.getElem_map, List.getElem_range]
  have q0 := k1 0 (by omega)
  have q1 := k1 1 (by omega)
  rw [Addr.add_lit] at q0 q1
  exact ⟨by simpa [tuC] using q0, by simpa [Nat.add_assoc, tuC] using q1⟩
 obtain ⟨i, hi, rfl⟩ := List.mem_map.1 hx
 exact (hfi i (List.mem_range.1 hi)).2
theorem open_store {v : Value} {d : DataW H} {p : List MemPlace} {base : Nat} (hv : Value.okWide Tryz.prog W .any base 25 v) (h : DataW.Trod enc Tryz.prog W 0 (fun _ => true) true 25 v d p) (hsz : ∀ n ∈ d.weights Tryz.prog 25, n ≤ reachBytes) :
  ∃ s : St, Sto W v s ∧ s.nodes.length ≤ 140737488355328 ∧ s.turns.length ≤ 140737488355328 := by
 obtain ⟨cs, rfl, hcs⟩ := okWide_struct Tryz.underlying25 hv
 rw [Tryz.cellsSt] at hcs
 obtain ⟨fuel, hf⟩ := h
 have hf : DataW.trod enc Tryz.prog W 0 (fun _ => true) true fuel 25 cs.toList = some (d, p) := by simpa [Value.cells] using hf
 obtain ⟨cs⟩ := cs
 simp only at hf
 have hlen : cs.length = 2 := by simpa using hcs
 obtain ⟨xs, k, hk, hxy, _, hxl, hf⟩ := DataW.trod_struct Tryz.underlying25 hf
 match xs, hxl, cs, hlen with
 | [y0, y1], _, [v0, v1], _ =>
  have g0 := hf 0 _ rfl
  have g1 := hf 1 _ rfl
  simp [Tryz.cellsNs] at g0
  simp [Tryz.cellsTs] at g1
  have hd := congrArg Prod.fst hxy
  simp only at hd
  obtain ⟨l0, h0, n0, _⟩ := open_nodes_in g0 (fun n hn => hsz n (by rw [hd]; simp only [DataW.weights, Tryz.underlying25, List.map_cons, List.map_nil, DataW.weightsEach, List.mem_append]; simp [hn]))
  obtain ⟨l1, h1, n1, _⟩ := open_turns_in g1 (fun n hn => hsz n (by rw [hd]; simp only [DataW.weights, Tryz.underlying25, List.map_cons, List.map_nil, DataW.weightsEach, List.mem_append]; simp [hn]))
  exact ⟨⟨l0, l1⟩, ⟨v0, v1, rfl, h0, h1⟩, n0, n1⟩
end
end Go.Proofs.YtphoglepiegeiaaGreatDoor
