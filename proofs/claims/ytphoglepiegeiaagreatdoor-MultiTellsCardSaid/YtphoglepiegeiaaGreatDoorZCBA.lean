/- A text of this proof. -/
import Derived.Test.YtphoglepiegeiaaGreatDoorZCC
import Derived.Test.YtphoglepiegeiaaGreatDoorZCD
import Derived.Test.YtphoglepiegeiaaGreatDoorZCF
import Derived.Test.YtphoglepiegeiaaGreatDoorZCG
import Derived.Test.YtphoglepiegeiaaGreatDoorZCV
import Derived.Test.YtphoglepiegeiaaGreatDoorZCW
import Derived.Test.YtphoglepiegeiaaGreatDoorZCX
import Derived.Test.YtphoglepiegeiaaGreatDoorZCY
import Derived.Test.YtphoglepiegeiaaGreatDoorZCZ
set_option linter.unusedSimpArgs false
set_option linter.unusedVariables false
namespace Go.Proofs.YtphoglepiegeiaaGreatDoor
set_option maxRecDepth 20000
open Go.RowKit Pm
theorem same_ownM {b0 b1 : Nat} {w : World} {n1 n2 : Value} {ps : List Bs} (h1 : Own b0 w n1 ps) (h2 : Own b1 w n2 ps) :
  Calls Tryz.prog 70 #[n1, n2] w fun e w' => e = .returned (.bool true) ∧ Fp Non w w' := by
 match ps, h1, h2 with
 | [], h1, h2 =>
  obtain ⟨a1, c1, rfl⟩ := h1.shape
  obtain ⟨a2, c2, rfl⟩ := h2.shape
  exact rSame0_c a1 a2 c1 c2 w
 | q :: r, h1, h2 =>
  obtain ⟨g1, c1, rfl, _, l1⟩ := h1.lies
  obtain ⟨g2, c2, rfl, _, l2⟩ := h2.lies
  refine (rSame_c g1 c1 g2 c2 (q :: r) (q :: r) w l1 l2 rfl).mono fun e w' h => ⟨h.1, ?_⟩
  obtain ⟨n, rfl⟩ := h.2
  exact (Fp.refl _ _).drewN n
structure GoM (l : List Opn) (w : World) (k : Nat) (wr : World) : Prop where
 fp : Fp Non w wr
 eq : ∀ j (h : j < l.length), j < k → l[j].path.length ≤ 3000
set_option maxHeartbeats 4000000 in
theorem GreatOps_c (lv : Value) (l : List Opn) (w : World) (hl : Ops w lv l) :
  Calls Tryz.prog 39 #[lv] w fun e w' => ∃ c, e = .returned (.bool c) ∧ (c = false → l.length ≤ 40 ∧ OSp l) ∧ Fp Non w w' := by
 obtain ⟨al, cl, rfl⟩ := hl.shape
 obtain ⟨n, hn⟩ : ∃ n, n = l.length := ⟨_, rfl⟩
 have HN := zI (yI hn hl)
 rw [← hn]
 clear hl
 by_cases h40 : 40 < n
 ·have q1 : (40 < n) = True := eq_true h40
  have q2 : ((40 : Int) < (n : Int)) = True := eq_true (by omega)
  clear hn h40
  go_enter Tryz.func39, Tryz.ntmps39
  go_wp2
  go_ret
  exact ⟨true, rfl, (fun h => by cases h), Fp.refl _ _⟩
 have q1 : (40 < n) = False := eq_false h40
 have q2 : ((40 : Int) < (n : Int)) = False := eq_false (by omega)
 have hnb : n ≤ 40 := by omega
 clear hn h40
 go_enter Tryz.func39, Tryz.ntmps39
 go_wp2_with fail
 go_loopw [3] (fun i wr => ∃ k : Nat, k ≤ n ∧ i = .int .i64 k ∧ Hid (GoM l w k wr)) (fun i _ => n - (RowKit.intOf i).toNat)
 case atStart => exact ⟨0, Nat.zero_le _, rfl, ⟨Fp.refl _ _, fun j _ h => absurd h (Nat.not_lt_zero j)⟩⟩
 obtain ⟨k, hk, rfl, hR⟩ := hrel
 rename_i wr _
 by_cases hlt : k < n
 ·have hkl : k < l.length := by rw [← HN.out.1]; exact hlt
  obtain ⟨g, og, cap', e9, hcell⟩ := (HN.out.2.non hR.out.fp).at (by omega)
  injection e9 with e1 e2 e3
  subst e1 e3
  clear e2
  have hop := hcell k hkl
  have hg := fun W => GreatOp_c l[k] W
  have hnx : ∀ W, Fp Non wr W → l[k].path.length ≤ 3000 → GoM l w (k + 1) W := fun W f h => ⟨hR.out.fp.then f, fun j hj hjk => by
   rcases Nat.lt_or_eq_of_le (show j ≤ k by omega) with e | e
   ·exact hR.out.eq j hj e
   subst e; exact h⟩
  obtain ⟨x, hx⟩ : ∃ x, l[k] = x := ⟨_, rfl⟩
  rw [hx] at hop hg hnx
  obtain ⟨kk, op, od, ov, oo, ot⟩ := x
  have c0 := hop.c0; have c1 := hop.c1; have c2 := hop.c2; have c3 := hop.c3; have c4 := hop.c4; have c5 := hop.c5
  unfold opV strV at hg
  unfold strV at c1 c2
  simp only at c0 c1 c2 c3 c4 c5 hg hnx
  have HG := zI hg
  have HNX := zI hnx
  have HL := zI hlt
  have q3 : ((k : Int) < (n : Int)) = True := eq_true (by omega)
  have q4 : (k < n) = True := eq_true hlt
  clear hcell hop hg hnx hx hlt hkl
  go_wp2_with fail
  refine (HG.out _).mono ?_
  rintro e w5 ⟨c, rfl, hc, hf⟩
  cases c with
  | true =>
   have HF := zI (hR.out.fp.then hf)
   clear hc hf hR c0 c1 c2 c3 c4 c5
   go_wp2
   go_ret
   exact ⟨true, rfl, (fun h => by cases h), HF.out⟩
  | false => ?_
  have hM := zI (HNX.out w5 hf (hc rfl).1)
  clear hc hf hR c0 c1 c2 c3 c4 c5
  have hj := HL.out
  go_wp2
  go_roundw
  case rel => exact ⟨k + 1, by have := HL.out; omega, by have := HL.out; go_num, hM⟩
  case measure => have := HL.out; simp [RowKit.intOf]; omega
 have hke : k = n := by omega
 subst hke
 have q3 : ((k : Int) < (k : Int)) = False := eq_false (by omega)
 have HE := zI (show l.length ≤ 40 ∧ OSp l from ⟨by rw [← HN.out.1]; exact hnb, fun x hx => by
  obtain ⟨j, hj, rfl⟩ := List.getElem_of_mem hx
  have := hR.out.eq j hj (by rw [HN.out.1]; exact hj)
  omega⟩)
 have HF := zI hR.out.fp
 clear hR hlt hk
 go_wp2
 go_ret
 exact ⟨false, rfl, (fun _ => by have := HE.out; rw [HN.out.1]; exact this), HF.out⟩
structure MyM (l : List Opn) (w : World) (k : Nat) (wr : World) : Prop where
 fp : Fp Non w wr
 eq : ∀ j (h : j < l.length), j < k → may l[j] = true
set_option maxHeartbeats 4000000 in
theorem rMayL_c (lv : Value) (l : List Opn) (w : World) (hl : Ops w lv l) (hs : OSp l) (hln : l.length ≤ 1000000) :
  Calls Tryz.prog 43 #[lv] w fun e w' => e = .returned (.bool (mayL l)) ∧ Fp Non w w' := by
 obtain ⟨al, cl, rfl⟩ := hl.shape
 obtain ⟨n, hn⟩ : ∃ n, n = l.length := ⟨_, rfl⟩
 have HN := zI (yI hn (yI hl hs))
 have hnb : n ≤ 1000000 := by omega
 rw [← hn]
 clear hl hs hln hn
 go_enter Tryz.func43, Tryz.ntmps43
 go_wp2_with fail
 go_loopw [3] (fun i wr => ∃ k : Nat, k ≤ n ∧ i = .int .i64 k ∧ Hid (MyM l w k wr)) (fun i _ => n - (RowKit.intOf i).toNat)
 case atStart => exact ⟨0, Nat.zero_le _, rfl, ⟨Fp.refl _ _, fun j _ h => absurd h (Nat.not_lt_zero j)⟩⟩
 obtain ⟨k, hk, rfl, hR⟩ := hrel
 rename_i wr _
 by_cases hlt : k < n
 ·have hkl : k < l.length := by rw [← HN.out.1]; exact hlt
  obtain ⟨g, og, cap', e9, hcell⟩ := (HN.out.2.1.non hR.out.fp).at (by omega)
  injection e9 with e1 e2 e3
  subst e1 e3
  clear e2
  have hop := hcell k hkl
  have hg := fun W => rMay_c l[k] W (HN.out.2.2 _ (List.getElem_mem hkl))
  have hnx : ∀ W, Fp Non wr W → may l[k] = true → MyM l w (k + 1) W := fun W f h => ⟨hR.out.fp.then f, fun j hj hjk => by
   rcases Nat.lt_or_eq_of_le (show j ≤ k by omega) with e | e
   ·exact hR.out.eq j hj e
   subst e; exact h⟩
  have hno : may l[k] = false → mayL l = false := fun h => by
   cases hm : mayL l with
   | false => rfl
   | true => rw [((mayL_iff l).1 hm).2 _ (List.getElem_mem hkl)] at h; cases h
  obtain ⟨x, hx⟩ : ∃ x, l[k] = x := ⟨_, rfl⟩
  rw [hx] at hop hg hnx hno
  obtain ⟨b, hb⟩ : ∃ b, may x = b := ⟨_, rfl⟩
  rw [hb] at hg hnx hno
  obtain ⟨kk, op, od, ov, oo, ot⟩ := x
  have c0 := hop.c0; have c1 := hop.c1; have c2 := hop.c2; have c3 := hop.c3; have c4 := hop.c4; have c5 := hop.c5
  unfold opV strV at hg
  unfold strV at c1 c2
  simp only at c0 c1 c2 c3 c4 c5 hg
  have HG := zI hg
  have HNX := zI (yI hnx hno)
  have HL := zI hlt
  have q3 : ((k : Int) < (n : Int)) = True := eq_true (by omega)
  have q4 : (k < n) = True := eq_true hlt
  clear hcell hop hg hnx hno hx hb hlt hkl
  go_wp2_with fail
  refine (HG.out _).mono ?_
  rintro e w5 ⟨rfl, hf⟩
  cases b with
  | false =>
   have HF := zI (yI (hR.out.fp.then hf) (HNX.out.2 rfl))
   clear hf hR c0 c1 c2 c3 c4 c5
   go_wp2
   go_ret
   exact ⟨by rw [HF.out.2]; rfl, HF.out.1⟩
  | true => ?_
  have hM := zI (HNX.out.1 w5 hf rfl)
  clear hf hR c0 c1 c2 c3 c4 c5
  have hj := HL.out
  go_wp2
  go_roundw
  case rel => exact ⟨k + 1, by have := HL.out; omega, by have := HL.out; go_num, hM⟩
  case measure => have := HL.out; simp [RowKit.intOf]; omega
 have hke : k = n := by omega
 subst hke
 have q3 : ((k : Int) < (k : Int)) = False := eq_false (by omega)
 have hall : ∀ o ∈ l, may o = true := fun x hx => by
  obtain ⟨j, hj, rfl⟩ := List.getElem_of_mem hx
  exact hR.out.eq j hj (by rw [HN.out.1]; exact hj)
 have HE := zI (show mayL l = (decide (1 ≤ k) && decide (k ≤ 8)) from by
  unfold mayL
  rw [List.all_eq_true.2 hall, Bool.and_true, ← HN.out.1]
  simp)
 have HF := zI hR.out.fp
 clear hR hlt hk hall
 by_cases h1 : 1 ≤ k
 ·have q5 : (1 ≤ k) = True := eq_true h1
  have q6 : ((1 : Int) ≤ (k : Int)) = True := eq_true (by omega)
  by_cases h8 : k ≤ 8
  ·have q7 : (k ≤ 8) = True := eq_true h8
   have q8 : ((k : Int) ≤ 8) = True := eq_true (by omega)
   go_wp2
   go_ret
   exact ⟨by rw [HE.out]; simp [h1, h8], HF.out⟩
  have q7 : (k ≤ 8) = False := eq_false h8
  have q8 : ((k : Int) ≤ 8) = False := eq_false (by omega)
  go_wp2
  go_ret
  exact ⟨by rw [HE.out]; simp [h8], HF.out⟩
 have q5 : (1 ≤ k) = False := eq_false h1
 have q6 : ((1 : Int) ≤ (k : Int)) = False := eq_false (by omega)
 go_wp2
 go_ret
 exact ⟨by rw [HE.out]; simp [h1], HF.out⟩
theorem Kp.rrs {W : World} {v : Value} {rs : List Res} (h : Rrs W v rs) : Kp (fun W' => Rrs W' v rs) W := fun W' f => h.non f
theorem Kp.ops {W : World} {v : Value} {l : List Opn} (h : Ops W v l) : Kp (fun W' => Ops W' v l) W := fun W' f => h.non f
namespace Pm
def cur (l ks : List Nd) (ow : Int) : List Nd := l.filter (fun n => !(ks.any (fun c => c.own == ow && c.path == n.path)))
theorem cur_nil (l : List Nd) (ow : Int) : cur l [] ow = l := by unfold cur; simp
theorem cur_snoc (l ks : List Nd) (c : Nd) (ow : Int) : cur l (ks ++ [c]) ow = if c.own = ow then wo (cur l ks ow) c.path else cur l ks ow := by
 unfold cur wo
 split
 ·rename_i h
  rw [List.filter_filter]
  congr 1
  funext n
  simp only [List.any_append, List.any_cons, List.any_nil, Bool.or_false, h, beq_self_eq_true, Bool.true_and, Bool.not_or]
  rw [Bool.and_comm]
  congr 1
  by_cases e : c.path = n.path
  ·simp [e]
  have e2 : ¬ n.path = c.path := fun k => e k.symm
  have e3 : (c.path == n.path) = false := beq_eq_false_iff_ne.2 e
  have e4 : (n.path != c.path) = true := bne_iff_ne.2 e2
  rw [e3, e4]; rfl
 rename_i h
 congr 1
 funext n
 simp [h]
theorem cur_fin {l : List Nd} (h : Asc l) (o : Opn) : cur l (kids l o.path) o.own = l.filter (fun n => !swept o n) := by
 unfold cur
 apply List.filter_congr
 intro n hn
 congr 1
 rw [Bool.eq_iff_iff, List.any_eq_true]
 unfold swept
 simp only [Bool.and_eq_true, beq_iff_eq]
 constructor
 ·rintro ⟨c, hc, h1, h2⟩
  obtain ⟨hm, hp⟩ := mem_kids.1 hc
  have e1 := find_of h hm
  have e2 := find_of h hn
  rw [h2, e2] at e1
  obtain rfl := Option.some.inj e1
  exact ⟨h1, hp⟩
 rintro ⟨h1, h2⟩
 exact ⟨n, mem_kids.2 ⟨hn, h2⟩, h1, rfl⟩
theorem names_fin (l : List Nd) (o : Opn) : (kids l o.path).filter (fun c => c.own == o.own) = l.filter (swept o) := by
 unfold kids; rw [List.filter_filter]; rfl
theorem names_snoc (ks : List Nd) (c : Nd) (ow : Int) : (ks ++ [c]).filter (fun c => c.own == ow) = ks.filter (fun c => c.own == ow) ++ if c.own = ow then [c] else [] := by
 rw [List.filter_append, List.filter_cons, List.filter_nil]
 by_cases h : c.own = ow <;> simp [h]
theorem perform_not1 {l : List Nd} {o : Opn} (h : o.kind ≠ 1) : perform l o = (match find l o.path with
  | none => (l, .bad 62)
  | some x => if versioned o.kind = true ∧ o.ver ≠ -1 ∧ o.ver ≠ x.ver then (l, .bad 63) else doit l o x) := by
 unfold perform; rw [if_neg h]; rfl
end Pm
theorem may_len2 {o : Opn} (hm : may o = true) : o.path.length ≤ 1000000 := by
 have := may_split hm
 obtain ⟨ps, hps⟩ := Option.isSome_iff_exists.1 this
 obtain ⟨hP, e⟩ := (split_iff _ _).1 hps
 have := joinP_len hP
 rw [e] at this
 exact Nat.le_trans this (by omega)
theorem parent_ok {o : Opn} (hm : may o = true) : True := trivial
theorem may_ver {k : Int} {p d : Bs} {vv ow : Int} {tt : Bool} (hk : k = 2 ∨ k = 3 ∨ k = 4) (hm : may ⟨k, p, d, vv, ow, tt⟩ = true) : -1 ≤ vv := by
 unfold may at hm
 simp only [Bool.and_eq_true] at hm
 have := hm.2
 rcases hk with rfl | rfl | rfl <;> simp at this <;> omega
theorem res_ok {w w' : World} {v : Value} {l : List Nd} {rp rd : Bs} {rv : Int} (hn : Ns w' v l) (hf : Fp Non w w') : ApB w v l ⟨0, rp, rd, rv, []⟩ (.returned (.tuple #[v, .agg #[.int .i64 0, .string (B rp), .string (B rd), .int .i64 rv, .slice none 0 0]])) w' :=
 ⟨⟨v, .slice none 0 0, rfl, hn, Own.nil _ _, fun _ h => .inl h⟩, hf⟩
set_option maxHeartbeats 16000000 in
theorem rApply_4 (v : Value) (l : List Nd) (p d : Bs) (vv ow : Int) (tt : Bool) (w : World) (hv : Ns w v l) (hT : Tr l) (hm : may ⟨4, p, d, vv, ow, tt⟩ = true) :
  Calls Tryz.prog 82 #[v, .agg #[.int .i64 4, .string (B p), .string (B d), .int .i64 vv, .int .i64 ow, .bool tt]] w (ApB w v (perform l ⟨4, p, d, vv, ow, tt⟩).1 (perform l ⟨4, p, d, vv, ow, tt⟩).2) := by
 obtain ⟨ao, cap, rfl⟩ := hv.shape
 have hpl : p.length ≤ 1000000 := may_len2 hm
 have hrr := fun w' hv => rRightN_g (.slice ao l.length cap) l w' hv (tr_few hT).2
 rw [right_true hT.tree] at hrr
 have hmy := fun w' => rMay_c ⟨4, p, d, vv, ow, tt⟩ w' hpl
 rw [hm] at hmy
 have hfd := fun w' hv => rFind_c (.slice ao l.length cap) l p w' hv (tr_few hT).1
 have hcl := parent_ok hm
 have hln := hT.most
 rw [perform_not1 (l := l) (o := ⟨4, p, d, vv, ow, tt⟩) (by simp)]
 simp only
 have hdo : ∀ x, doit l ⟨4, p, d, vv, ow, tt⟩ x = (l, ⟨0, [], [], x.ver, []⟩) := fun x => by unfold doit; simp
 have HVM := zI (may_ver (.inr (.inr rfl)) hm)
 have hb0 := Bx.made w 4 p d vv ow tt
 have hf0 : Fp Non w ((w.alloc (.cells #[.int .i64 4, .string (B p), .string (B d), .int .i64 vv, .int .i64 ow, .bool tt] TO_)).alloc (.cells #[.int .i64 0, .string ⟨#[]⟩, .string ⟨#[]⟩, .int .i64 0, .slice none 0 0] TR)) := (fp_alloc w _).then (fp_alloc _ _)
 have HF0 := zI (Kp.and (fun W' f => hb0.non f : Kp (Bx w 4 p d vv ow tt) ((w.alloc (.cells #[.int .i64 4, .string (B p), .string (B d), .int .i64 vv, .int .i64 ow, .bool tt] TO_)).alloc (.cells #[.int .i64 0, .string ⟨#[]⟩, .string ⟨#[]⟩, .int .i64 0, .slice none 0 0] TR))) (Kp.and (Kp.fp hf0) (Kp.ns (hv.non hf0))))
 have HRR := zI hrr
 have HMY := zI hmy
 have HT := zI hT
 have HM := zI hm
 have HVV := zI hv
 unfold opV strV at HMY
 simp only at HMY
 clear hrr hmy hf0 hb0 hv hT hm hpl
 cases hfx : find l p with
 | none =>
  rw [hfx] at hfd
  simp only [Option.getD_none, Option.isSome_none, ndV, strV, zeroNd] at hfd
  dsimp only
  obtain ⟨n, hnn⟩ : ∃ n, n = l.length := ⟨_, rfl⟩
  rw [← hnn] at HVV hfd HF0 HRR ⊢
  have HFD := zI hfd
  have HNN := zI hnn
  clear hfd hfx hnn
  go_enter Tryz.func82, Tryz.ntmps82
  go_wp2_with fail
  refine (HRR.out _ HF0.out.now.2.2).mono ?_
  rintro e w1 ⟨rfl, hf⟩
  have K1 := zI (HF0.out.later hf)
  clear hf
  obtain ⟨o0, o1, o2, o3, o4, o5⟩ := box6 K1.out.now.1.op
  go_wp2_with fail
  refine (HMY.out _).mono ?_
  rintro e w2 ⟨rfl, hf⟩
  have K2 := zI (K1.out.later hf)
  clear hf o0 o1 o2 o3 o4 o5
  obtain ⟨o0, o1, o2, o3, o4, o5⟩ := box6 K2.out.now.1.op
  go_wp2_with fail
  refine (HFD.out _ K2.out.now.2.2).mono ?_
  rintro e w3 ⟨rfl, hf⟩
  have HW3 := zI (Nat.le_trans K2.out.now.1.sz hf.size)
  have K3 := zI (K2.out.later (hf.alloc (.cells #[.string (B []), .string (B []), .int .i64 0, .int .i64 0, .int .i64 0] TN)))
  clear hf
  have hbr := K3.out.now.1
  have hfw := K3.out.now.2.1
  obtain ⟨r0, r1, r2, r3, r4⟩ := hbr.r
  have z0 := hbr.fz 0; have z1 := hbr.fz 1; have z2 := hbr.fz 2; have z3 := hbr.fz 3; have z4 := hbr.fz 4
  have HE := zI (yI hbr.res hfw)
  clear hbr hfw
  go_wp2
  have hw9 := set5 HE.out.1 (.int .i64 62) (.string ⟨#[]⟩) (.string ⟨#[]⟩) (.int .i64 0) (.slice none 0 0)
  have hfz := fp5 (S := Non) HE.out.2 (b := w.heap.size + 1) (.inr (by omega)) (.int .i64 62) (.string ⟨#[]⟩) (.string ⟨#[]⟩) (.int .i64 0) (.slice none 0 0)
  have hfk := fp5k HE.out.1 (.int .i64 62) (.string ⟨#[]⟩) (.string ⟨#[]⟩) (.int .i64 0) (.slice none 0 0)
  generalize (((((World.setCell _ _ _).setCell _ _).setCell _ _).setCell _ _).setCell _ _) = wz at *
  obtain ⟨s0, s1, s2, s3, s4⟩ := b5 hw9
  exact bodyPost_ret (v := .tuple #[.slice ao n cap, .agg #[.int .i64 62, .string ⟨#[]⟩, .string ⟨#[]⟩, .int .i64 0, .slice none 0 0]]) (by simp [results, Tryz.results82, go_sem, s0, s1, s2, s3, s4]) rfl (res_bad (HVV.out.non hfz) hfz)
 | some x => ?_
 rw [hfx] at hfd
 simp only [Option.getD_some, Option.isSome_some, ndV, strV] at hfd
 dsimp only
 have HFX := zI hfx
 have hft := (fits_iff x).1 (HT.out.fit x (find_mem hfx).1)
 have HFT := zI hft
 have hxv : 0 ≤ x.ver ∧ x.ver ≤ 281474976710656 := by omega
 have hch := fun w' hv => rChildren_c (.slice ao l.length cap) l p w' hv (tr_few HT.out).2 (by omega)
 obtain ⟨n, hnn⟩ : ∃ n, n = l.length := ⟨_, rfl⟩
 rw [← hnn] at HVV hfd HF0 HRR hch hln ⊢
 have HFD := zI hfd
 have HCH := zI hch
 have HNN := zI hnn
 clear hfd hfx hnn hft hch
 by_cases hver : vv ≠ -1 ∧ vv ≠ x.ver
 ·rw [if_pos ⟨rfl, hver.1, hver.2⟩]
  have hvm := HVM.out
  have qv0 : (0 ≤ vv) = True := eq_true (by omega)
  have qv1 : (vv < 0) = False := eq_false (by omega)
  have qv2 : (vv == x.ver) = false := beq_eq_false_iff_ne.2 hver.2
  have qv3 : (vv != x.ver) = true := by simpa using hver.2
  have qv4 : (vv = x.ver) = False := eq_false hver.2
  clear hver hvm
  go_enter Tryz.func82, Tryz.ntmps82
  go_wp2_with fail
  refine (HRR.out _ HF0.out.now.2.2).mono ?_
  rintro e w1 ⟨rfl, hf⟩
  have K1 := zI (HF0.out.later hf)
  clear hf
  obtain ⟨o0, o1, o2, o3, o4, o5⟩ := box6 K1.out.now.1.op
  go_wp2_with fail
  refine (HMY.out _).mono ?_
  rintro e w2 ⟨rfl, hf⟩
  have K2 := zI (K1.out.later hf)
  clear hf o0 o1 o2 o3 o4 o5
  obtain ⟨o0, o1, o2, o3, o4, o5⟩ := box6 K2.out.now.1.op
  go_wp2_with fail
  refine (HFD.out _ K2.out.now.2.2).mono ?_
  rintro e w3 ⟨rfl, hf⟩
  have HW3 := zI (Nat.le_trans K2.out.now.1.sz hf.size)
  have hbx := heap_alloc_new w3 (.cells #[.string (B x.path), .string (B x.data), .int .i64 x.ver, .int .i64 x.turn, .int .i64 x.own] TN)
  have K3 := zI (Kp.and (Kp.row hbx) (K2.out.later (hf.alloc (.cells #[.string (B x.path), .string (B x.data), .int .i64 x.ver, .int .i64 x.turn, .int .i64 x.own] TN))))
  clear hf hbx o0 o1 o2 o3 o4 o5
  obtain ⟨x0, x1, x2, x3, x4⟩ := box5 K3.out.now.1
  obtain ⟨o0, o1, o2, o3, o4, o5⟩ := box6 K3.out.now.2.1.op
  have hbr := K3.out.now.2.1
  have hfw := K3.out.now.2.2.1
  obtain ⟨r0, r1, r2, r3, r4⟩ := hbr.r
  have z0 := hbr.fz 0; have z1 := hbr.fz 1; have z2 := hbr.fz 2; have z3 := hbr.fz 3; have z4 := hbr.fz 4
  have HE := zI (yI hbr.res hfw)
  clear hbr hfw
  go_wp2
  have hw9 := set5 HE.out.1 (.int .i64 63) (.string ⟨#[]⟩) (.string ⟨#[]⟩) (.int .i64 0) (.slice none 0 0)
  have hfz := fp5 (S := Non) HE.out.2 (b := w.heap.size + 1) (.inr (by omega)) (.int .i64 63) (.string ⟨#[]⟩) (.string ⟨#[]⟩) (.int .i64 0) (.slice none 0 0)
  have hfk := fp5k HE.out.1 (.int .i64 63) (.string ⟨#[]⟩) (.string ⟨#[]⟩) (.int .i64 0) (.slice none 0 0)
  generalize (((((World.setCell _ _ _).setCell _ _).setCell _ _).setCell _ _).setCell _ _) = wz at *
  obtain ⟨s0, s1, s2, s3, s4⟩ := b5 hw9
  exact bodyPost_ret (v := .tuple #[.slice ao n cap, .agg #[.int .i64 63, .string ⟨#[]⟩, .string ⟨#[]⟩, .int .i64 0, .slice none 0 0]]) (by simp [results, Tryz.results82, go_sem, s0, s1, s2, s3, s4]) rfl (res_bad (HVV.out.non hfz) hfz)
 rw [if_neg (by rintro ⟨_, a, b⟩; exact hver ⟨a, b⟩)]
 rw [hdo]
 by_cases hv1 : vv = -1
 ·subst hv1
  clear hver
  go_enter Tryz.func82, Tryz.ntmps82
  go_wp2_with fail
  refine (HRR.out _ HF0.out.now.2.2).mono ?_
  rintro e w1 ⟨rfl, hf⟩
  have K1 := zI (HF0.out.later hf)
  clear hf
  obtain ⟨o0, o1, o2, o3, o4, o5⟩ := box6 K1.out.now.1.op
  go_wp2_with fail
  refine (HMY.out _).mono ?_
  rintro e w2 ⟨rfl, hf⟩
  have K2 := zI (K1.out.later hf)
  clear hf o0 o1 o2 o3 o4 o5
  obtain ⟨o0, o1, o2, o3, o4, o5⟩ := box6 K2.out.now.1.op
  go_wp2_with fail
  refine (HFD.out _ K2.out.now.2.2).mono ?_
  rintro e w3 ⟨rfl, hf⟩
  have HW3 := zI (Nat.le_trans K2.out.now.1.sz hf.size)
  have hbx := heap_alloc_new w3 (.cells #[.string (B x.path), .string (B x.data), .int .i64 x.ver, .int .i64 x.turn, .int .i64 x.own] TN)
  have K3 := zI (Kp.and (Kp.row hbx) (K2.out.later (hf.alloc (.cells #[.string (B x.path), .string (B x.data), .int .i64 x.ver, .int .i64 x.turn, .int .i64 x.own] TN))))
  clear hf hbx o0 o1 o2 o3 o4 o5
  obtain ⟨x0, x1, x2, x3, x4⟩ := box5 K3.out.now.1
  obtain ⟨o0, o1, o2, o3, o4, o5⟩ := box6 K3.out.now.2.1.op
  go_wp2_with fail
  refine (HCH.out _ K3.out.now.2.2.2).mono ?_
  rintro e w4 ⟨v4, rfl, ho, hf⟩
  obtain ⟨a4, c4, rfl⟩ := ho.shape
  have K4 := zI (Kp.and (Kp.ns ho.ns) (K3.out.later hf))
  clear ho hf x0 x1 x2 x3 x4 o0 o1 o2 o3 o4 o5
  obtain ⟨x0, x1, x2, x3, x4⟩ := box5 K4.out.now.2.1
  obtain ⟨o0, o1, o2, o3, o4, o5⟩ := box6 K4.out.now.2.2.1.op
  have KD := zI (K4.out.later ((Fp.refl Non w4).drew))
  have hs := (box5 KD.out.now.2.1).2.2.1
  have HSD := zI hs
  clear hs
  go_wp2_with fail
  refine wp_region_held_drew (S := (fun w' => w'.cell? ⟨w3.heap.size, 2, none⟩ = some (.int .i64 x.ver))) (by kernel_rfl) ?_ (fun hH => ?_)
  ·exact HSD.out
  generalize World.drew w4 = wd at *
  have hbr := KD.out.now.2.2.1
  have hfw := KD.out.now.2.2.2.1
  obtain ⟨r0, r1, r2, r3, r4⟩ := hbr.r
  have z0 := hbr.fz 0; have z1 := hbr.fz 1; have z2 := hbr.fz 2; have z3 := hbr.fz 3; have z4 := hbr.fz 4
  have HE := zI (yI hbr.res hfw)
  clear hbr hfw
  refine tk 0 hH ?_
  refine tk 1 hH ?_
  refine tk 2 hH ?_
  refine tk 3 hH ?_
  refine tk 4 hH ?_
  have hw9 := set5 HE.out.1 (.int .i64 0) (.string ⟨#[]⟩) (.string ⟨#[]⟩) (.int .i64 x.ver) (.slice none 0 0)
  have hfz := fp5 (S := Non) HE.out.2 (b := w.heap.size + 1) (.inr (by omega)) (.int .i64 0) (.string ⟨#[]⟩) (.string ⟨#[]⟩) (.int .i64 x.ver) (.slice none 0 0)
  have hfk := fp5k HE.out.1 (.int .i64 0) (.string ⟨#[]⟩) (.string ⟨#[]⟩) (.int .i64 x.ver) (.slice none 0 0)
  have HS2 := zI (hfk.cell HSD.out (fun e => by have e : w3.heap.size = w.heap.size + 1 := e; have h := HW3.out; omega) : (fun w' => w'.cell? ⟨w3.heap.size, 2, none⟩ = some (.int .i64 x.ver)) (((((wd.setCell ⟨w.heap.size + 1, 0, none⟩ (.int .i64 0)).setCell ⟨w.heap.size + 1, 1, none⟩ (.string ⟨#[]⟩)).setCell ⟨w.heap.size + 1, 2, none⟩ (.string ⟨#[]⟩)).setCell ⟨w.heap.size + 1, 3, none⟩ (.int .i64 x.ver)).setCell ⟨w.heap.size + 1, 4, none⟩ (.slice none 0 0)))
  refine rY 5 fun K hK => ?_
  go_simp
  refine hK.out _ _ HS2.out (fun hH => ?_)
  clear hK K
  try simp only [zz]
  refine dn ?_
  generalize (((((World.setCell wd _ _).setCell _ _).setCell _ _).setCell _ _).setCell _ _) = wz at *
  go_wp2
  obtain ⟨s0, s1, s2, s3, s4⟩ := b5 hw9
  exact bodyPost_ret (v := .tuple #[.slice ao n cap, .agg #[.int .i64 0, .string ⟨#[]⟩, .string ⟨#[]⟩, .int .i64 x.ver, .slice none 0 0]]) (by simp [results, Tryz.results82, go_sem, s0, s1, s2, s3, s4]) rfl (res_ok (HVV.out.non hfz) hfz)
 have hv2 : vv = x.ver := by
  rcases Classical.em (vv = x.ver) with h | h
  ·exact h
  exact absurd ⟨hv1, h⟩ hver
 have qv0 : (0 ≤ vv) = True := eq_true (by omega)
 have qv1 : (vv < 0) = False := eq_false (by omega)
 have qv2 : (vv == x.ver) = true := beq_iff_eq.2 hv2
 have qv3 : (vv != x.ver) = false := by simp [hv2]
 have qv4 : (vv = x.ver) = True := eq_true hv2
 clear hver hv1 hv2
 go_enter Tryz.func82, Tryz.ntmps82
 go_wp2_with fail
 refine (HRR.out _ HF0.out.now.2.2).mono ?_
 rintro e w1 ⟨rfl, hf⟩
 have K1 := zI (HF0.out.later hf)
 clear hf
 obtain ⟨o0, o1, o2, o3, o4, o5⟩ := box6 K1.out.now.1.op
 go_wp2_with fail
 refine (HMY.out _).mono ?_
 rintro e w2 ⟨rfl, hf⟩
 have K2 := zI (K1.out.later hf)
 clear hf o0 o1 o2 o3 o4 o5
 obtain ⟨o0, o1, o2, o3, o4, o5⟩ := box6 K2.out.now.1.op
 go_wp2_with fail
 refine (HFD.out _ K2.out.now.2.2).mono ?_
 rintro e w3 ⟨rfl, hf⟩
 have HW3 := zI (Nat.le_trans K2.out.now.1.sz hf.size)
 have hbx := heap_alloc_new w3 (.cells #[.string (B x.path), .string (B x.data), .int .i64 x.ver, .int .i64 x.turn, .int .i64 x.own] TN)
 have K3 := zI (Kp.and (Kp.row hbx) (K2.out.later (hf.alloc (.cells #[.string (B x.path), .string (B x.data), .int .i64 x.ver, .int .i64 x.turn, .int .i64 x.own] TN))))
 clear hf hbx o0 o1 o2 o3 o4 o5
 obtain ⟨x0, x1, x2, x3, x4⟩ := box5 K3.out.now.1
 obtain ⟨o0, o1, o2, o3, o4, o5⟩ := box6 K3.out.now.2.1.op
 go_wp2_with fail
 refine (HCH.out _ K3.out.now.2.2.2).mono ?_
 rintro e w4 ⟨v4, rfl, ho, hf⟩
 obtain ⟨a4, c4, rfl⟩ := ho.shape
 have K4 := zI (Kp.and (Kp.ns ho.ns) (K3.out.later hf))
 clear ho hf x0 x1 x2 x3 x4 o0 o1 o2 o3 o4 o5
 obtain ⟨x0, x1, x2, x3, x4⟩ := box5 K4.out.now.2.1
 obtain ⟨o0, o1, o2, o3, o4, o5⟩ := box6 K4.out.now.2.2.1.op
 have KD := zI (K4.out.later ((Fp.refl Non w4).drew))
 have hs := (box5 KD.out.now.2.1).2.2.1
 have HSD := zI hs
 clear hs
 go_wp2_with fail
 refine wp_region_held_drew (S := (fun w' => w'.cell? ⟨w3.heap.size, 2, none⟩ = some (.int .i64 x.ver))) (by kernel_rfl) ?_ (fun hH => ?_)
 ·exact HSD.out
 generalize World.drew w4 = wd at *
 have hbr := KD.out.now.2.2.1
 have hfw := KD.out.now.2.2.2.1
 obtain ⟨r0, r1, r2, r3, r4⟩ := hbr.r
 have z0 := hbr.fz 0; have z1 := hbr.fz 1; have z2 := hbr.fz 2; have z3 := hbr.fz 3; have z4 := hbr.fz 4
 have HE := zI (yI hbr.res hfw)
 clear hbr hfw
 refine tk 0 hH ?_
 refine tk 1 hH ?_
 refine tk 2 hH ?_
 refine tk 3 hH ?_
 refine tk 4 hH ?_
 have hw9 := set5 HE.out.1 (.int .i64 0) (.string ⟨#[]⟩) (.string ⟨#[]⟩) (.int .i64 x.ver) (.slice none 0 0)
 have hfz := fp5 (S := Non) HE.out.2 (b := w.heap.size + 1) (.inr (by omega)) (.int .i64 0) (.string ⟨#[]⟩) (.string ⟨#[]⟩) (.int .i64 x.ver) (.slice none 0 0)
 have hfk := fp5k HE.out.1 (.int .i64 0) (.string ⟨#[]⟩) (.string ⟨#[]⟩) (.int .i64 x.ver) (.slice none 0 0)
 have HS2 := zI (hfk.cell HSD.out (fun e => by have e : w3.heap.size = w.heap.size + 1 := e; have h := HW3.out; omega) : (fun w' => w'.cell? ⟨w3.heap.size, 2, none⟩ = some (.int .i64 x.ver)) (((((wd.setCell ⟨w.heap.size + 1, 0, none⟩ (.int .i64 0)).setCell ⟨w.heap.size + 1, 1, none⟩ (.string ⟨#[]⟩)).setCell ⟨w.heap.size + 1, 2, none⟩ (.string ⟨#[]⟩)).setCell ⟨w.heap.size + 1, 3, none⟩ (.int .i64 x.ver)).setCell ⟨w.heap.size + 1, 4, none⟩ (.slice none 0 0)))
 refine rY 5 fun K hK => ?_
 go_simp
 refine hK.out _ _ HS2.out (fun hH => ?_)
 clear hK K
 try simp only [zz]
 refine dn ?_
 generalize (((((World.setCell wd _ _).setCell _ _).setCell _ _).setCell _ _).setCell _ _) = wz at *
 go_wp2
 obtain ⟨s0, s1, s2, s3, s4⟩ := b5 hw9
 exact bodyPost_ret (v := .tuple #[.slice ao n cap, .agg #[.int .i64 0, .string ⟨#[]⟩, .string ⟨#[]⟩, .int .i64 x.ver, .slice none 0 0]]) (by simp [results, Tryz.results82, go_sem, s0, s1, s2, s3, s4]) rfl (res_ok (HVV.out.non hfz) hfz)
set_option maxHeartbeats 16000000 in
theorem rApply_5 (v : Value) (l : List Nd) (p d : Bs) (vv ow : Int) (tt : Bool) (w : World) (hv : Ns w v l) (hT : Tr l) (hm : may ⟨5, p, d, vv, ow, tt⟩ = true) :
  Calls Tryz.prog 82 #[v, .agg #[.int .i64 5, .string (B p), .string (B d), .int .i64 vv, .int .i64 ow, .bool tt]] w (ApB w v (perform l ⟨5, p, d, vv, ow, tt⟩).1 (perform l ⟨5, p, d, vv, ow, tt⟩).2) := by
 obtain ⟨ao, cap, rfl⟩ := hv.shape
 have hpl : p.length ≤ 1000000 := may_len2 hm
 have hrr := fun w' hv => rRightN_g (.slice ao l.length cap) l w' hv (tr_few hT).2
 rw [right_true hT.tree] at hrr
 have hmy := fun w' => rMay_c ⟨5, p, d, vv, ow, tt⟩ w' hpl
 rw [hm] at hmy
 have hfd := fun w' hv => rFind_c (.slice ao l.length cap) l p w' hv (tr_few hT).1
 have hcl := parent_ok hm
 have hln := hT.most
 rw [perform_not1 (l := l) (o := ⟨5, p, d, vv, ow, tt⟩) (by simp)]
 simp only
 have hdo : ∀ x, doit l ⟨5, p, d, vv, ow, tt⟩ x = (l, ⟨0, [], x.data, x.ver, []⟩) := fun x => by unfold doit; simp
 have hb0 := Bx.made w 5 p d vv ow tt
 have hf0 : Fp Non w ((w.alloc (.cells #[.int .i64 5, .string (B p), .string (B d), .int .i64 vv, .int .i64 ow, .bool tt] TO_)).alloc (.cells #[.int .i64 0, .string ⟨#[]⟩, .string ⟨#[]⟩, .int .i64 0, .slice none 0 0] TR)) := (fp_alloc w _).then (fp_alloc _ _)
 have HF0 := zI (Kp.and (fun W' f => hb0.non f : Kp (Bx w 5 p d vv ow tt) ((w.alloc (.cells #[.int .i64 5, .string (B p), .string (B d), .int .i64 vv, .int .i64 ow, .bool tt] TO_)).alloc (.cells #[.int .i64 0, .string ⟨#[]⟩, .string ⟨#[]⟩, .int .i64 0, .slice none 0 0] TR))) (Kp.and (Kp.fp hf0) (Kp.ns (hv.non hf0))))
 have HRR := zI hrr
 have HMY := zI hmy
 have HT := zI hT
 have HM := zI hm
 have HVV := zI hv
 unfold opV strV at HMY
 simp only at HMY
 clear hrr hmy hf0 hb0 hv hT hm hpl
 cases hfx : find l p with
 | none =>
  rw [hfx] at hfd
  simp only [Option.getD_none, Option.isSome_none, ndV, strV, zeroNd] at hfd
  dsimp only
  obtain ⟨n, hnn⟩ : ∃ n, n = l.length := ⟨_, rfl⟩
  rw [← hnn] at HVV hfd HF0 HRR ⊢
  have HFD := zI hfd
  have HNN := zI hnn
  clear hfd hfx hnn
  go_enter Tryz.func82, Tryz.ntmps82
  go_wp2_with fail
  refine (HRR.out _ HF0.out.now.2.2).mono ?_
  rintro e w1 ⟨rfl, hf⟩
  have K1 := zI (HF0.out.later hf)
  clear hf
  obtain ⟨o0, o1, o2, o3, o4, o5⟩ := box6 K1.out.now.1.op
  go_wp2_with fail
  refine (HMY.out _).mono ?_
  rintro e w2 ⟨rfl, hf⟩
  have K2 := zI (K1.out.later hf)
  clear hf o0 o1 o2 o3 o4 o5
  obtain ⟨o0, o1, o2, o3, o4, o5⟩ := box6 K2.out.now.1.op
  go_wp2_with fail
  refine (HFD.out _ K2.out.now.2.2).mono ?_
  rintro e w3 ⟨rfl, hf⟩
  have HW3 := zI (Nat.le_trans K2.out.now.1.sz hf.size)
  have K3 := zI (K2.out.later (hf.alloc (.cells #[.string (B []), .string (B []), .int .i64 0, .int .i64 0, .int .i64 0] TN)))
  clear hf
  have hbr := K3.out.now.1
  have hfw := K3.out.now.2.1
  obtain ⟨r0, r1, r2, r3, r4⟩ := hbr.r
  have z0 := hbr.fz 0; have z1 := hbr.fz 1; have z2 := hbr.fz 2; have z3 := hbr.fz 3; have z4 := hbr.fz 4
  have HE := zI (yI hbr.res hfw)
  clear hbr hfw
  go_wp2
  have hw9 := set5 HE.out.1 (.int .i64 62) (.string ⟨#[]⟩) (.string ⟨#[]⟩) (.int .i64 0) (.slice none 0 0)
  have hfz := fp5 (S := Non) HE.out.2 (b := w.heap.size + 1) (.inr (by omega)) (.int .i64 62) (.string ⟨#[]⟩) (.string ⟨#[]⟩) (.int .i64 0) (.slice none 0 0)
  have hfk := fp5k HE.out.1 (.int .i64 62) (.string ⟨#[]⟩) (.string ⟨#[]⟩) (.int .i64 0) (.slice none 0 0)
  generalize (((((World.setCell _ _ _).setCell _ _).setCell _ _).setCell _ _).setCell _ _) = wz at *
  obtain ⟨s0, s1, s2, s3, s4⟩ := b5 hw9
  exact bodyPost_ret (v := .tuple #[.slice ao n cap, .agg #[.int .i64 62, .string ⟨#[]⟩, .string ⟨#[]⟩, .int .i64 0, .slice none 0 0]]) (by simp [results, Tryz.results82, go_sem, s0, s1, s2, s3, s4]) rfl (res_bad (HVV.out.non hfz) hfz)
 | some x => ?_
 rw [hfx] at hfd
 simp only [Option.getD_some, Option.isSome_some, ndV, strV] at hfd
 dsimp only
 have HFX := zI hfx
 have hft := (fits_iff x).1 (HT.out.fit x (find_mem hfx).1)
 have HFT := zI hft
 have hxv : 0 ≤ x.ver ∧ x.ver ≤ 281474976710656 := by omega
 have hch := fun w' hv => rChildren_c (.slice ao l.length cap) l p w' hv (tr_few HT.out).2 (by omega)
 obtain ⟨n, hnn⟩ : ∃ n, n = l.length := ⟨_, rfl⟩
 rw [← hnn] at HVV hfd HF0 HRR hch hln ⊢
 have HFD := zI hfd
 have HCH := zI hch
 have HNN := zI hnn
 clear hfd hfx hnn hft hch
 rw [if_neg (by simp [versioned]), hdo]
 go_enter Tryz.func82, Tryz.ntmps82
 go_wp2_with fail
 refine (HRR.out _ HF0.out.now.2.2).mono ?_
 rintro e w1 ⟨rfl, hf⟩
 have K1 := zI (HF0.out.later hf)
 clear hf
 obtain ⟨o0, o1, o2, o3, o4, o5⟩ := box6 K1.out.now.1.op
 go_wp2_with fail
 refine (HMY.out _).mono ?_
 rintro e w2 ⟨rfl, hf⟩
 have K2 := zI (K1.out.later hf)
 clear hf o0 o1 o2 o3 o4 o5
 obtain ⟨o0, o1, o2, o3, o4, o5⟩ := box6 K2.out.now.1.op
 go_wp2_with fail
 refine (HFD.out _ K2.out.now.2.2).mono ?_
 rintro e w3 ⟨rfl, hf⟩
 have HW3 := zI (Nat.le_trans K2.out.now.1.sz hf.size)
 have hbx := heap_alloc_new w3 (.cells #[.string (B x.path), .string (B x.data), .int .i64 x.ver, .int .i64 x.turn, .int .i64 x.own] TN)
 have K3 := zI (Kp.and (Kp.row hbx) (K2.out.later (hf.alloc (.cells #[.string (B x.path), .string (B x.data), .int .i64 x.ver, .int .i64 x.turn, .int .i64 x.own] TN))))
 clear hf hbx o0 o1 o2 o3 o4 o5
 obtain ⟨x0, x1, x2, x3, x4⟩ := box5 K3.out.now.1
 obtain ⟨o0, o1, o2, o3, o4, o5⟩ := box6 K3.out.now.2.1.op
 go_wp2_with fail
 refine (HCH.out _ K3.out.now.2.2.2).mono ?_
 rintro e w4 ⟨v4, rfl, ho, hf⟩
 obtain ⟨a4, c4, rfl⟩ := ho.shape
 have K4 := zI (Kp.and (Kp.ns ho.ns) (K3.out.later hf))
 clear ho hf x0 x1 x2 x3 x4 o0 o1 o2 o3 o4 o5
 obtain ⟨x0, x1, x2, x3, x4⟩ := box5 K4.out.now.2.1
 obtain ⟨o0, o1, o2, o3, o4, o5⟩ := box6 K4.out.now.2.2.1.op
 have KD := zI (K4.out.later ((Fp.refl Non w4).drew))
 have hs := yI (box5 KD.out.now.2.1).2.1 (box5 KD.out.now.2.1).2.2.1
 have HSD := zI hs
 clear hs
 go_wp2_with fail
 refine wp_region_held_drew (S := (fun w' => w'.cell? ⟨w3.heap.size, 1, none⟩ = some (.string (B x.data)) ∧ w'.cell? ⟨w3.heap.size, 2, none⟩ = some (.int .i64 x.ver))) (by kernel_rfl) ?_ (fun hH => ?_)
 ·exact HSD.out
 generalize World.drew w4 = wd at *
 have hbr := KD.out.now.2.2.1
 have hfw := KD.out.now.2.2.2.1
 obtain ⟨r0, r1, r2, r3, r4⟩ := hbr.r
 have z0 := hbr.fz 0; have z1 := hbr.fz 1; have z2 := hbr.fz 2; have z3 := hbr.fz 3; have z4 := hbr.fz 4
 have HE := zI (yI hbr.res hfw)
 clear hbr hfw
 refine tk 0 hH ?_
 refine tk 1 hH ?_
 refine tk 2 hH ?_
 refine tk 3 hH ?_
 refine tk 4 hH ?_
 refine tk 5 hH ?_
 refine tk 6 hH ?_
 have hw9 := set5 HE.out.1 (.int .i64 0) (.string ⟨#[]⟩) (.string (B x.data)) (.int .i64 x.ver) (.slice none 0 0)
 have hfz := fp5 (S := Non) HE.out.2 (b := w.heap.size + 1) (.inr (by omega)) (.int .i64 0) (.string ⟨#[]⟩) (.string (B x.data)) (.int .i64 x.ver) (.slice none 0 0)
 have hfk := fp5k HE.out.1 (.int .i64 0) (.string ⟨#[]⟩) (.string (B x.data)) (.int .i64 x.ver) (.slice none 0 0)
 have HS2 := zI (⟨hfk.cell HSD.out.1 (fun e => by have e : w3.heap.size = w.heap.size + 1 := e; have h := HW3.out; omega), hfk.cell HSD.out.2 (fun e => by have e : w3.heap.size = w.heap.size + 1 := e; have h := HW3.out; omega)⟩ : (fun w' => w'.cell? ⟨w3.heap.size, 1, none⟩ = some (.string (B x.data)) ∧ w'.cell? ⟨w3.heap.size, 2, none⟩ = some (.int .i64 x.ver)) (((((wd.setCell ⟨w.heap.size + 1, 0, none⟩ (.int .i64 0)).setCell ⟨w.heap.size + 1, 1, none⟩ (.string ⟨#[]⟩)).setCell ⟨w.heap.size + 1, 2, none⟩ (.string (B x.data))).setCell ⟨w.heap.size + 1, 3, none⟩ (.int .i64 x.ver)).setCell ⟨w.heap.size + 1, 4, none⟩ (.slice none 0 0)))
 refine rY 7 fun K hK => ?_
 go_simp
 refine hK.out _ _ HS2.out (fun hH => ?_)
 clear hK K
 try simp only [zz]
 refine dn ?_
 generalize (((((World.setCell wd _ _).setCell _ _).setCell _ _).setCell _ _).setCell _ _) = wz at *
 go_wp2
 obtain ⟨s0, s1, s2, s3, s4⟩ := b5 hw9
 exact bodyPost_ret (v := .tuple #[.slice ao n cap, .agg #[.int .i64 0, .string ⟨#[]⟩, .string (B x.data), .int .i64 x.ver, .slice none 0 0]]) (by simp [results, Tryz.results82, go_sem, s0, s1, s2, s3, s4]) rfl (res_ok (HVV.out.non hfz) hfz)
set_option maxHeartbeats 16000000 in
theorem rApply_2 (v : Value) (l : List Nd) (p d : Bs) (vv ow : Int) (tt : Bool) (w : World) (hv : Ns w v l) (hT : Tr l) (hm : may ⟨2, p, d, vv, ow, tt⟩ = true) :
  Calls Tryz.prog 82 #[v, .agg #[.int .i64 2, .string (B p), .string (B d), .int .i64 vv, .int .i64 ow, .bool tt]] w (ApB w v (perform l ⟨2, p, d, vv, ow, tt⟩).1 (perform l ⟨2, p, d, vv, ow, tt⟩).2) := by
 obtain ⟨ao, cap, rfl⟩ := hv.shape
 have hpl : p.length ≤ 1000000 := may_len2 hm
 have hrr := fun w' hv => rRightN_g (.slice ao l.length cap) l w' hv (tr_few hT).2
 rw [right_true hT.tree] at hrr
 have hmy := fun w' => rMay_c ⟨2, p, d, vv, ow, tt⟩ w' hpl
 rw [hm] at hmy
 have hfd := fun w' hv => rFind_c (.slice ao l.length cap) l p w' hv (tr_few hT).1
 have hcl := parent_ok hm
 have hln := hT.most
 rw [perform_not1 (l := l) (o := ⟨2, p, d, vv, ow, tt⟩) (by simp)]
 simp only
 have hdo : ∀ x, doit l ⟨2, p, d, vv, ow, tt⟩ x = (if kids l p = [] then (l.eraseIdx (place l p), ⟨0, [], [], 0, []⟩) else (l, .bad 64)) := fun x => by unfold doit; simp
 have HVM := zI (may_ver (.inl rfl) hm)
 have hb0 := Bx.made w 2 p d vv ow tt
 have hf0 : Fp Non w ((w.alloc (.cells #[.int .i64 2, .string (B p), .string (B d), .int .i64 vv, .int .i64 ow, .bool tt] TO_)).alloc (.cells #[.int .i64 0, .string ⟨#[]⟩, .string ⟨#[]⟩, .int .i64 0, .slice none 0 0] TR)) := (fp_alloc w _).then (fp_alloc _ _)
 have HF0 := zI (Kp.and (fun W' f => hb0.non f : Kp (Bx w 2 p d vv ow tt) ((w.alloc (.cells #[.int .i64 2, .string (B p), .string (B d), .int .i64 vv, .int .i64 ow, .bool tt] TO_)).alloc (.cells #[.int .i64 0, .string ⟨#[]⟩, .string ⟨#[]⟩, .int .i64 0, .slice none 0 0] TR))) (Kp.and (Kp.fp hf0) (Kp.ns (hv.non hf0))))
 have HRR := zI hrr
 have HMY := zI hmy
 have HT := zI hT
 have HM := zI hm
 have HVV := zI hv
 unfold opV strV at HMY
 simp only at HMY
 clear hrr hmy hf0 hb0 hv hT hm hpl
 cases hfx : find l p with
 | none =>
  rw [hfx] at hfd
  simp only [Option.getD_none, Option.isSome_none, ndV, strV, zeroNd] at hfd
  dsimp only
  obtain ⟨n, hnn⟩ : ∃ n, n = l.length := ⟨_, rfl⟩
  rw [← hnn] at HVV hfd HF0 HRR ⊢
  have HFD := zI hfd
  have HNN := zI hnn
  clear hfd hfx hnn
  go_enter Tryz.func82, Tryz.ntmps82
  go_wp2_with fail
  refine (HRR.out _ HF0.out.now.2.2).mono ?_
  rintro e w1 ⟨rfl, hf⟩
  have K1 := zI (HF0.out.later hf)
  clear hf
  obtain ⟨o0, o1, o2, o3, o4, o5⟩ := box6 K1.out.now.1.op
  go_wp2_with fail
  refine (HMY.out _).mono ?_
  rintro e w2 ⟨rfl, hf⟩
  have K2 := zI (K1.out.later hf)
  clear hf o0 o1 o2 o3 o4 o5
  obtain ⟨o0, o1, o2, o3, o4, o5⟩ := box6 K2.out.now.1.op
  go_wp2_with fail
  refine (HFD.out _ K2.out.now.2.2).mono ?_
  rintro e w3 ⟨rfl, hf⟩
  have HW3 := zI (Nat.le_trans K2.out.now.1.sz hf.size)
  have K3 := zI (K2.out.later (hf.alloc (.cells #[.string (B []), .string (B []), .int .i64 0, .int .i64 0, .int .i64 0] TN)))
  clear hf
  have hbr := K3.out.now.1
  have hfw := K3.out.now.2.1
  obtain ⟨r0, r1, r2, r3, r4⟩ := hbr.r
  have z0 := hbr.fz 0; have z1 := hbr.fz 1; have z2 := hbr.fz 2; have z3 := hbr.fz 3; have z4 := hbr.fz 4
  have HE := zI (yI hbr.res hfw)
  clear hbr hfw
  go_wp2
  have hw9 := set5 HE.out.1 (.int .i64 62) (.string ⟨#[]⟩) (.string ⟨#[]⟩) (.int .i64 0) (.slice none 0 0)
  have hfz := fp5 (S := Non) HE.out.2 (b := w.heap.size + 1) (.inr (by omega)) (.int .i64 62) (.string ⟨#[]⟩) (.string ⟨#[]⟩) (.int .i64 0) (.slice none 0 0)
  have hfk := fp5k HE.out.1 (.int .i64 62) (.string ⟨#[]⟩) (.string ⟨#[]⟩) (.int .i64 0) (.slice none 0 0)
  generalize (((((World.setCell _ _ _).setCell _ _).setCell _ _).setCell _ _).setCell _ _) = wz at *
  obtain ⟨s0, s1, s2, s3, s4⟩ := b5 hw9
  exact bodyPost_ret (v := .tuple #[.slice ao n cap, .agg #[.int .i64 62, .string ⟨#[]⟩, .string ⟨#[]⟩, .int .i64 0, .slice none 0 0]]) (by simp [results, Tryz.results82, go_sem, s0, s1, s2, s3, s4]) rfl (res_bad (HVV.out.non hfz) hfz)
 | some x => ?_
 rw [hfx] at hfd
 simp only [Option.getD_some, Option.isSome_some, ndV, strV] at hfd
 dsimp only
 have HFX := zI hfx
 have hft := (fits_iff x).1 (HT.out.fit x (find_mem hfx).1)
 have HFT := zI hft
 have hxv : 0 ≤ x.ver ∧ x.ver ≤ 281474976710656 := by omega
 have hch := fun w' hv => rChildren_c (.slice ao l.length cap) l p w' hv (tr_few HT.out).2 (by omega)
 obtain ⟨n, hnn⟩ : ∃ n, n = l.length := ⟨_, rfl⟩
 rw [← hnn] at HVV hfd HF0 HRR hch hln ⊢
 have HFD := zI hfd
 have HCH := zI hch
 have HNN := zI hnn
 clear hfd hfx hnn hft hch
 by_cases hver : vv ≠ -1 ∧ vv ≠ x.ver
 ·rw [if_pos ⟨rfl, hver.1, hver.2⟩]
  have hvm := HVM.out
  have qv0 : (0 ≤ vv) = True := eq_true (by omega)
  have qv1 : (vv < 0) = False := eq_false (by omega)
  have qv2 : (vv == x.ver) = false := beq_eq_false_iff_ne.2 hver.2
  have qv3 : (vv != x.ver) = true := by simpa using hver.2
  have qv4 : (vv = x.ver) = False := eq_false hver.2
  clear hver hvm
  go_enter Tryz.func82, Tryz.ntmps82
  go_wp2_with fail
  refine (HRR.out _ HF0.out.now.2.2).mono ?_
  rintro e w1 ⟨rfl, hf⟩
  have K1 := zI (HF0.out.later hf)
  clear hf
  obtain ⟨o0, o1, o2, o3, o4, o5⟩ := box6 K1.out.now.1.op
  go_wp2_with fail
  refine (HMY.out _).mono ?_
  rintro e w2 ⟨rfl, hf⟩
  have K2 := zI (K1.out.later hf)
  clear hf o0 o1 o2 o3 o4 o5
  obtain ⟨o0, o1, o2, o3, o4, o5⟩ := box6 K2.out.now.1.op
  go_wp2_with fail
  refine (HFD.out _ K2.out.now.2.2).mono ?_
  rintro e w3 ⟨rfl, hf⟩
  have HW3 := zI (Nat.le_trans K2.out.now.1.sz hf.size)
  have hbx := heap_alloc_new w3 (.cells #[.string (B x.path), .string (B x.data), .int .i64 x.ver, .int .i64 x.turn, .int .i64 x.own] TN)
  have K3 := zI (Kp.and (Kp.row hbx) (K2.out.later (hf.alloc (.cells #[.string (B x.path), .string (B x.data), .int .i64 x.ver, .int .i64 x.turn, .int .i64 x.own] TN))))
  clear hf hbx o0 o1 o2 o3 o4 o5
  obtain ⟨x0, x1, x2, x3, x4⟩ := box5 K3.out.now.1
  obtain ⟨o0, o1, o2, o3, o4, o5⟩ := box6 K3.out.now.2.1.op
  have hbr := K3.out.now.2.1
  have hfw := K3.out.now.2.2.1
  obtain ⟨r0, r1, r2, r3, r4⟩ := hbr.r
  have z0 := hbr.fz 0; have z1 := hbr.fz 1; have z2 := hbr.fz 2; have z3 := hbr.fz 3; have z4 := hbr.fz 4
  have HE := zI (yI hbr.res hfw)
  clear hbr hfw
  go_wp2
  have hw9 := set5 HE.out.1 (.int .i64 63) (.string ⟨#[]⟩) (.string ⟨#[]⟩) (.int .i64 0) (.slice none 0 0)
  have hfz := fp5 (S := Non) HE.out.2 (b := w.heap.size + 1) (.inr (by omega)) (.int .i64 63) (.string ⟨#[]⟩) (.string ⟨#[]⟩) (.int .i64 0) (.slice none 0 0)
  have hfk := fp5k HE.out.1 (.int .i64 63) (.string ⟨#[]⟩) (.string ⟨#[]⟩) (.int .i64 0) (.slice none 0 0)
  generalize (((((World.setCell _ _ _).setCell _ _).setCell _ _).setCell _ _).setCell _ _) = wz at *
  obtain ⟨s0, s1, s2, s3, s4⟩ := b5 hw9
  exact bodyPost_ret (v := .tuple #[.slice ao n cap, .agg #[.int .i64 63, .string ⟨#[]⟩, .string ⟨#[]⟩, .int .i64 0, .slice none 0 0]]) (by simp [results, Tryz.results82, go_sem, s0, s1, s2, s3, s4]) rfl (res_bad (HVV.out.non hfz) hfz)
 rw [if_neg (by rintro ⟨_, a, b⟩; exact hver ⟨a, b⟩)]
 rw [hdo]
 by_cases hv1 : vv = -1
 ·subst hv1
  clear hver
  by_cases hkd : kids l p = []
  ·rw [if_pos hkd]
   rw [hkd] at HCH
   have hwo := fun w' hv => rWithout_c (.slice ao l.length cap) l p w' hv (tr_few HT.out).2 (by have := HT.out.most; omega)
   rw [← HNN.out] at hwo
   have HWO := zI hwo
   clear hwo
   go_enter Tryz.func82, Tryz.ntmps82
   go_wp2_with fail
   refine (HRR.out _ HF0.out.now.2.2).mono ?_
   rintro e w1 ⟨rfl, hf⟩
   have K1 := zI (HF0.out.later hf)
   clear hf
   obtain ⟨o0, o1, o2, o3, o4, o5⟩ := box6 K1.out.now.1.op
   go_wp2_with fail
   refine (HMY.out _).mono ?_
   rintro e w2 ⟨rfl, hf⟩
   have K2 := zI (K1.out.later hf)
   clear hf o0 o1 o2 o3 o4 o5
   obtain ⟨o0, o1, o2, o3, o4, o5⟩ := box6 K2.out.now.1.op
   go_wp2_with fail
   refine (HFD.out _ K2.out.now.2.2).mono ?_
   rintro e w3 ⟨rfl, hf⟩
   have HW3 := zI (Nat.le_trans K2.out.now.1.sz hf.size)
   have hbx := heap_alloc_new w3 (.cells #[.string (B x.path), .string (B x.data), .int .i64 x.ver, .int .i64 x.turn, .int .i64 x.own] TN)
   have K3 := zI (Kp.and (Kp.row hbx) (K2.out.later (hf.alloc (.cells #[.string (B x.path), .string (B x.data), .int .i64 x.ver, .int .i64 x.turn, .int .i64 x.own] TN))))
   clear hf hbx o0 o1 o2 o3 o4 o5
   obtain ⟨x0, x1, x2, x3, x4⟩ := box5 K3.out.now.1
   obtain ⟨o0, o1, o2, o3, o4, o5⟩ := box6 K3.out.now.2.1.op
   go_wp2_with fail
   refine (HCH.out _ K3.out.now.2.2.2).mono ?_
   rintro e w4 ⟨v4, rfl, ho, hf⟩
   obtain ⟨a4, c4, rfl⟩ := ho.shape
   simp only [List.length_nil]
   have K4 := zI (Kp.and (Kp.ns ho.ns) (K3.out.later hf))
   clear ho hf x0 x1 x2 x3 x4 o0 o1 o2 o3 o4 o5
   obtain ⟨x0, x1, x2, x3, x4⟩ := box5 K4.out.now.2.1
   obtain ⟨o0, o1, o2, o3, o4, o5⟩ := box6 K4.out.now.2.2.1.op
   go_wp2_with fail
   refine (HWO.out _ K4.out.now.2.2.2.2).mono ?_
   rintro e w5 ⟨v5, rfl, ho, hf⟩
   have HO5 := zI (yI ho K4.out.now.2.2.1.sz)
   have K5 := zI (K4.out.later hf)
   clear ho hf x0 x1 x2 x3 x4 o0 o1 o2 o3 o4 o5
   have hbr := K5.out.now.2.2.1
   have hfw := K5.out.now.2.2.2.1
   obtain ⟨r0, r1, r2, r3, r4⟩ := hbr.r
   have z0 := hbr.fz 0; have z1 := hbr.fz 1; have z2 := hbr.fz 2; have z3 := hbr.fz 3; have z4 := hbr.fz 4
   have HE := zI (yI hbr.res hfw)
   clear hbr hfw
   go_wp2
   have hw9 := set5 HE.out.1 (.int .i64 0) (.string ⟨#[]⟩) (.string ⟨#[]⟩) (.int .i64 0) (.slice none 0 0)
   have hfz := fp5 (S := Non) HE.out.2 (b := w.heap.size + 1) (.inr (by omega)) (.int .i64 0) (.string ⟨#[]⟩) (.string ⟨#[]⟩) (.int .i64 0) (.slice none 0 0)
   have hfk := fp5k HE.out.1 (.int .i64 0) (.string ⟨#[]⟩) (.string ⟨#[]⟩) (.int .i64 0) (.slice none 0 0)
   generalize (((((World.setCell _ _ _).setCell _ _).setCell _ _).setCell _ _).setCell _ _) = wz at *
   obtain ⟨s0, s1, s2, s3, s4⟩ := b5 hw9
   exact bodyPost_ret (v := .tuple #[v5, .agg #[.int .i64 0, .string ⟨#[]⟩, .string ⟨#[]⟩, .int .i64 0, .slice none 0 0]]) (by simp [results, Tryz.results82, go_sem, s0, s1, s2, s3, s4]) rfl (⟨⟨v5, .slice none 0 0, rfl, (by rw [filter_erase HT.out.asc HFX.out]; exact HO5.out.1.ns.keep hfk (fun k hk e => by have h1 := (HO5.out.1.lt k hk).1; have h2 := HO5.out.2; omega)), Own.nil _ _, fun k hk => .inr (by have h1 := (HO5.out.1.lt k hk).1; have h2 := HO5.out.2; omega)⟩, hfz⟩)
  rw [if_neg hkd]
  obtain ⟨kn, hkn⟩ : ∃ kn, kn = (kids l p).length := ⟨_, rfl⟩
  have hk1 : kn ≠ 0 := by rw [hkn]; exact fun h => hkd (List.length_eq_zero_iff.1 h)
  have qk1 : ((0 : Int) < (kn : Int)) = True := eq_true (by omega)
  have qk2 : (0 < kn) = True := eq_true (by omega)
  have HKN := zI hkn
  clear hk1 hkn hkd
  go_enter Tryz.func82, Tryz.ntmps82
  go_wp2_with fail
  refine (HRR.out _ HF0.out.now.2.2).mono ?_
  rintro e w1 ⟨rfl, hf⟩
  have K1 := zI (HF0.out.later hf)
  clear hf
  obtain ⟨o0, o1, o2, o3, o4, o5⟩ := box6 K1.out.now.1.op
  go_wp2_with fail
  refine (HMY.out _).mono ?_
  rintro e w2 ⟨rfl, hf⟩
  have K2 := zI (K1.out.later hf)
  clear hf o0 o1 o2 o3 o4 o5
  obtain ⟨o0, o1, o2, o3, o4, o5⟩ := box6 K2.out.now.1.op
  go_wp2_with fail
  refine (HFD.out _ K2.out.now.2.2).mono ?_
  rintro e w3 ⟨rfl, hf⟩
  have HW3 := zI (Nat.le_trans K2.out.now.1.sz hf.size)
  have hbx := heap_alloc_new w3 (.cells #[.string (B x.path), .string (B x.data), .int .i64 x.ver, .int .i64 x.turn, .int .i64 x.own] TN)
  have K3 := zI (Kp.and (Kp.row hbx) (K2.out.later (hf.alloc (.cells #[.string (B x.path), .string (B x.data), .int .i64 x.ver, .int .i64 x.turn, .int .i64 x.own] TN))))
  clear hf hbx o0 o1 o2 o3 o4 o5
  obtain ⟨x0, x1, x2, x3, x4⟩ := box5 K3.out.now.1
  obtain ⟨o0, o1, o2, o3, o4, o5⟩ := box6 K3.out.now.2.1.op
  go_wp2_with fail
  refine (HCH.out _ K3.out.now.2.2.2).mono ?_
  rintro e w4 ⟨v4, rfl, ho, hf⟩
  obtain ⟨a4, c4, rfl⟩ := ho.shape
  rw [← HKN.out]
  have K4 := zI (Kp.and (Kp.ns ho.ns) (K3.out.later hf))
  clear ho hf x0 x1 x2 x3 x4 o0 o1 o2 o3 o4 o5
  obtain ⟨x0, x1, x2, x3, x4⟩ := box5 K4.out.now.2.1
  obtain ⟨o0, o1, o2, o3, o4, o5⟩ := box6 K4.out.now.2.2.1.op
  have hbr := K4.out.now.2.2.1
  have hfw := K4.out.now.2.2.2.1
  obtain ⟨r0, r1, r2, r3, r4⟩ := hbr.r
  have z0 := hbr.fz 0; have z1 := hbr.fz 1; have z2 := hbr.fz 2; have z3 := hbr.fz 3; have z4 := hbr.fz 4
  have HE := zI (yI hbr.res hfw)
  clear hbr hfw
  go_wp2
  have hw9 := set5 HE.out.1 (.int .i64 64) (.string ⟨#[]⟩) (.string ⟨#[]⟩) (.int .i64 0) (.slice none 0 0)
  have hfz := fp5 (S := Non) HE.out.2 (b := w.heap.size + 1) (.inr (by omega)) (.int .i64 64) (.string ⟨#[]⟩) (.string ⟨#[]⟩) (.int .i64 0) (.slice none 0 0)
  have hfk := fp5k HE.out.1 (.int .i64 64) (.string ⟨#[]⟩) (.string ⟨#[]⟩) (.int .i64 0) (.slice none 0 0)
  generalize (((((World.setCell _ _ _).setCell _ _).setCell _ _).setCell _ _).setCell _ _) = wz at *
  obtain ⟨s0, s1, s2, s3, s4⟩ := b5 hw9
  exact bodyPost_ret (v := .tuple #[.slice ao n cap, .agg #[.int .i64 64, .string ⟨#[]⟩, .string ⟨#[]⟩, .int .i64 0, .slice none 0 0]]) (by simp [results, Tryz.results82, go_sem, s0, s1, s2, s3, s4]) rfl (res_bad (HVV.out.non hfz) hfz)
 have hv2 : vv = x.ver := by
  rcases Classical.em (vv = x.ver) with h | h
  ·exact h
  exact absurd ⟨hv1, h⟩ hver
 have qv0 : (0 ≤ vv) = True := eq_true (by omega)
 have qv1 : (vv < 0) = False := eq_false (by omega)
 have qv2 : (vv == x.ver) = true := beq_iff_eq.2 hv2
 have qv3 : (vv != x.ver) = false := by simp [hv2]
 have qv4 : (vv = x.ver) = True := eq_true hv2
 clear hver hv1 hv2
 by_cases hkd : kids l p = []
 ·rw [if_pos hkd]
  rw [hkd] at HCH
  have hwo := fun w' hv => rWithout_c (.slice ao l.length cap) l p w' hv (tr_few HT.out).2 (by have := HT.out.most; omega)
  rw [← HNN.out] at hwo
  have HWO := zI hwo
  clear hwo
  go_enter Tryz.func82, Tryz.ntmps82
  go_wp2_with fail
  refine (HRR.out _ HF0.out.now.2.2).mono ?_
  rintro e w1 ⟨rfl, hf⟩
  have K1 := zI (HF0.out.later hf)
  clear hf
  obtain ⟨o0, o1, o2, o3, o4, o5⟩ := box6 K1.out.now.1.op
  go_wp2_with fail
  refine (HMY.out _).mono ?_
  rintro e w2 ⟨rfl, hf⟩
  have K2 := zI (K1.out.later hf)
  clear hf o0 o1 o2 o3 o4 o5
  obtain ⟨o0, o1, o2, o3, o4, o5⟩ := box6 K2.out.now.1.op
  go_wp2_with fail
  refine (HFD.out _ K2.out.now.2.2).mono ?_
  rintro e w3 ⟨rfl, hf⟩
  have HW3 := zI (Nat.le_trans K2.out.now.1.sz hf.size)
  have hbx := heap_alloc_new w3 (.cells #[.string (B x.path), .string (B x.data), .int .i64 x.ver, .int .i64 x.turn, .int .i64 x.own] TN)
  have K3 := zI (Kp.and (Kp.row hbx) (K2.out.later (hf.alloc (.cells #[.string (B x.path), .string (B x.data), .int .i64 x.ver, .int .i64 x.turn, .int .i64 x.own] TN))))
  clear hf hbx o0 o1 o2 o3 o4 o5
  obtain ⟨x0, x1, x2, x3, x4⟩ := box5 K3.out.now.1
  obtain ⟨o0, o1, o2, o3, o4, o5⟩ := box6 K3.out.now.2.1.op
  go_wp2_with fail
  refine (HCH.out _ K3.out.now.2.2.2).mono ?_
  rintro e w4 ⟨v4, rfl, ho, hf⟩
  obtain ⟨a4, c4, rfl⟩ := ho.shape
  simp only [List.length_nil]
  have K4 := zI (Kp.and (Kp.ns ho.ns) (K3.out.later hf))
  clear ho hf x0 x1 x2 x3 x4 o0 o1 o2 o3 o4 o5
  obtain ⟨x0, x1, x2, x3, x4⟩ := box5 K4.out.now.2.1
  obtain ⟨o0, o1, o2, o3, o4, o5⟩ := box6 K4.out.now.2.2.1.op
  go_wp2_with fail
  refine (HWO.out _ K4.out.now.2.2.2.2).mono ?_
  rintro e w5 ⟨v5, rfl, ho, hf⟩
  have HO5 := zI (yI ho K4.out.now.2.2.1.sz)
  have K5 := zI (K4.out.later hf)
  clear ho hf x0 x1 x2 x3 x4 o0 o1 o2 o3 o4 o5
  have hbr := K5.out.now.2.2.1
  have hfw := K5.out.now.2.2.2.1
  obtain ⟨r0, r1, r2, r3, r4⟩ := hbr.r
  have z0 := hbr.fz 0; have z1 := hbr.fz 1; have z2 := hbr.fz 2; have z3 := hbr.fz 3; have z4 := hbr.fz 4
  have HE := zI (yI hbr.res hfw)
  clear hbr hfw
  go_wp2
  have hw9 := set5 HE.out.1 (.int .i64 0) (.string ⟨#[]⟩) (.string ⟨#[]⟩) (.int .i64 0) (.slice none 0 0)
  have hfz := fp5 (S := Non) HE.out.2 (b := w.heap.size + 1) (.inr (by omega)) (.int .i64 0) (.string ⟨#[]⟩) (.string ⟨#[]⟩) (.int .i64 0) (.slice none 0 0)
  have hfk := fp5k HE.out.1 (.int .i64 0) (.string ⟨#[]⟩) (.string ⟨#[]⟩) (.int .i64 0) (.slice none 0 0)
  generalize (((((World.setCell _ _ _).setCell _ _).setCell _ _).setCell _ _).setCell _ _) = wz at *
  obtain ⟨s0, s1, s2, s3, s4⟩ := b5 hw9
  exact bodyPost_ret (v := .tuple #[v5, .agg #[.int .i64 0, .string ⟨#[]⟩, .string ⟨#[]⟩, .int .i64 0, .slice none 0 0]]) (by simp [results, Tryz.results82, go_sem, s0, s1, s2, s3, s4]) rfl (⟨⟨v5, .slice none 0 0, rfl, (by rw [filter_erase HT.out.asc HFX.out]; exact HO5.out.1.ns.keep hfk (fun k hk e => by have h1 := (HO5.out.1.lt k hk).1; have h2 := HO5.out.2; omega)), Own.nil _ _, fun k hk => .inr (by have h1 := (HO5.out.1.lt k hk).1; have h2 := HO5.out.2; omega)⟩, hfz⟩)
 rw [if_neg hkd]
 obtain ⟨kn, hkn⟩ : ∃ kn, kn = (kids l p).length := ⟨_, rfl⟩
 have hk1 : kn ≠ 0 := by rw [hkn]; exact fun h => hkd (List.length_eq_zero_iff.1 h)
 have qk1 : ((0 : Int) < (kn : Int)) = True := eq_true (by omega)
 have qk2 : (0 < kn) = True := eq_true (by omega)
 have HKN := zI hkn
 clear hk1 hkn hkd
 go_enter Tryz.func82, Tryz.ntmps82
 go_wp2_with fail
 refine (HRR.out _ HF0.out.now.2.2).mono ?_
 rintro e w1 ⟨rfl, hf⟩
 have K1 := zI (HF0.out.later hf)
 clear hf
 obtain ⟨o0, o1, o2, o3, o4, o5⟩ := box6 K1.out.now.1.op
 go_wp2_with fail
 refine (HMY.out _).mono ?_
 rintro e w2 ⟨rfl, hf⟩
 have K2 := zI (K1.out.later hf)
 clear hf o0 o1 o2 o3 o4 o5
 obtain ⟨o0, o1, o2, o3, o4, o5⟩ := box6 K2.out.now.1.op
 go_wp2_with fail
 refine (HFD.out _ K2.out.now.2.2).mono ?_
 rintro e w3 ⟨rfl, hf⟩
 have HW3 := zI (Nat.le_trans K2.out.now.1.sz hf.size)
 have hbx := heap_alloc_new w3 (.cells #[.string (B x.path), .string (B x.data), .int .i64 x.ver, .int .i64 x.turn, .int .i64 x.own] TN)
 have K3 := zI (Kp.and (Kp.row hbx) (K2.out.later (hf.alloc (.cells #[.string (B x.path), .string (B x.data), .int .i64 x.ver, .int .i64 x.turn, .int .i64 x.own] TN))))
 clear hf hbx o0 o1 o2 o3 o4 o5
 obtain ⟨x0, x1, x2, x3, x4⟩ := box5 K3.out.now.1
 obtain ⟨o0, o1, o2, o3, o4, o5⟩ := box6 K3.out.now.2.1.op
 go_wp2_with fail
 refine (HCH.out _ K3.out.now.2.2.2).mono ?_
 rintro e w4 ⟨v4, rfl, ho, hf⟩
 obtain ⟨a4, c4, rfl⟩ := ho.shape
 rw [← HKN.out]
 have K4 := zI (Kp.and (Kp.ns ho.ns) (K3.out.later hf))
 clear ho hf x0 x1 x2 x3 x4 o0 o1 o2 o3 o4 o5
 obtain ⟨x0, x1, x2, x3, x4⟩ := box5 K4.out.now.2.1
 obtain ⟨o0, o1, o2, o3, o4, o5⟩ := box6 K4.out.now.2.2.1.op
 have hbr := K4.out.now.2.2.1
 have hfw := K4.out.now.2.2.2.1
 obtain ⟨r0, r1, r2, r3, r4⟩ := hbr.r
 have z0 := hbr.fz 0; have z1 := hbr.fz 1; have z2 := hbr.fz 2; have z3 := hbr.fz 3; have z4 := hbr.fz 4
 have HE := zI (yI hbr.res hfw)
 clear hbr hfw
 go_wp2
 have hw9 := set5 HE.out.1 (.int .i64 64) (.string ⟨#[]⟩) (.string ⟨#[]⟩) (.int .i64 0) (.slice none 0 0)
 have hfz := fp5 (S := Non) HE.out.2 (b := w.heap.size + 1) (.inr (by omega)) (.int .i64 64) (.string ⟨#[]⟩) (.string ⟨#[]⟩) (.int .i64 0) (.slice none 0 0)
 have hfk := fp5k HE.out.1 (.int .i64 64) (.string ⟨#[]⟩) (.string ⟨#[]⟩) (.int .i64 0) (.slice none 0 0)
 generalize (((((World.setCell _ _ _).setCell _ _).setCell _ _).setCell _ _).setCell _ _) = wz at *
 obtain ⟨s0, s1, s2, s3, s4⟩ := b5 hw9
 exact bodyPost_ret (v := .tuple #[.slice ao n cap, .agg #[.int .i64 64, .string ⟨#[]⟩, .string ⟨#[]⟩, .int .i64 0, .slice none 0 0]]) (by simp [results, Tryz.results82, go_sem, s0, s1, s2, s3, s4]) rfl (res_bad (HVV.out.non hfz) hfz)
end Go.Proofs.YtphoglepiegeiaaGreatDoor
