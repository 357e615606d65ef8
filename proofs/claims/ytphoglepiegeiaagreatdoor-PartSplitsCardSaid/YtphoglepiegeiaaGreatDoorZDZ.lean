/- A text of this proof. -/
import Derived.Test.YtphoglepiegeiaaGreatDoorZDT
import Derived.Test.YtphoglepiegeiaaGreatDoorZDU
import Derived.Test.YtphoglepiegeiaaGreatDoorZDV
import Derived.Test.YtphoglepiegeiaaGreatDoorZDY
set_option linter.unusedSimpArgs false
set_option linter.unusedVariables false
namespace Go.Proofs.YtphoglepiegeiaaGreatDoor
set_option maxRecDepth 20000
open Go.RowKit Pm
structure RtA (l : List Sv) (w : World) (k : Nat) (wr : World) : Prop where
 right : ∀ x ∈ l.take k, StW x.s
 fp : Fp Non w wr
theorem ns_keep {w w' : World} {v : Value} {l : List Nd} (h : Ns w v l) {S : Nat → Prop} (f : Fp S w w') (hS : 0 < l.length → ∀ k, v.ownBlock = some k → ¬ S k) : Ns w' v l := by
 obtain ⟨ao, cap, rfl, h1, h2, h3⟩ := h.ex
 refine ⟨ao, cap, rfl, h1, h2, ?_⟩
 rcases h3 with h3 | ⟨g, o, rfl, hg, hc⟩
 ·exact .inl h3
 by_cases h0 : 0 < l.length
 ·exact .inr ⟨g, o, rfl, Nat.lt_of_lt_of_le hg f.size, fun i hi => (hc i hi).keep f (hS h0 g rfl)⟩
 exact .inl (List.eq_nil_of_length_eq_zero (by omega))
theorem ns_lt {w : World} {v : Value} {l : List Nd} (h : Ns w v l) (h0 : 0 < l.length) : ∀ k, v.ownBlock = some k → k < w.heap.size := by
 obtain ⟨g, o, cap, rfl, _, _, hg, _⟩ := h.at h0
 intro k hk
 have : g = k := by simpa [Value.ownBlock] using hk
 omega
structure StAt (g o jj : Nat) (s : St) (W : World) (an : Option Addr) (cn : Nat) (at_ : Option Addr) (ct : Nat) : Prop where
 c0 : W.cell? ⟨g, o + jj * 2, none⟩ = some (.slice an s.nodes.length cn)
 c1 : W.cell? ⟨g, o + jj * 2 + 1, none⟩ = some (.slice at_ s.turns.length ct)
 ns : Ns W (.slice an s.nodes.length cn) s.nodes
 ts : Ts W (.slice at_ s.turns.length ct) s.turns
theorem StAt.non {g o jj : Nat} {s : St} {W W' : World} {an : Option Addr} {cn : Nat} {at_ : Option Addr} {ct : Nat} (h : StAt g o jj s W an cn at_ ct) (f : Fp Non W W') : StAt g o jj s W' an cn at_ ct :=
 ⟨f.cell h.c0 id, f.cell h.c1 id, h.ns.non f, h.ts.non f⟩
theorem Stos.at2 {w : World} {g o n cap : Nat} {l : List Sv} (h : Stos w (.slice (some ⟨g, o, none⟩) n cap) l) {jj : Nat} (hj : jj < l.length) : ∃ an cn at_ ct, StAt g o jj l[jj].s w an cn at_ ct := by
 obtain ⟨g', o', c', e9, hcell⟩ := h.sg.at (by omega)
 injection e9 with e1 e2 e3
 injection e1 with e1
 injection e1 with e1 e4
 subst e1 e4
 have hel := hcell jj hj
 have hst := h.sto l[jj] (List.getElem_mem hj)
 obtain ⟨an, cn, hsh⟩ := hst.1.shape
 obtain ⟨at_, ct, hsh2⟩ := hst.2.shape
 have c0 := hel.get 0 _ rfl
 have c1 := hel.get 1 _ rfl
 rw [Nat.add_zero] at c0
 refine ⟨an, cn, at_, ct, by rw [c0, hsh], by rw [c1, hsh2], by rw [← hsh]; exact hst.1, by rw [← hsh2]; exact hst.2⟩
def nodL (l : List Sv) (j : Nat) : List Nd := (l.take j).flatMap (fun x => x.s.nodes)
def turL (l : List Sv) (j : Nat) : List Tu := (l.take j).flatMap (fun x => x.s.turns)
def allT (l : List Sv) : List Tu := l.flatMap (fun x => x.s.turns)
theorem nodL_succ {l : List Sv} {j : Nat} (hj : j < l.length) {s : St} (hs : l[j].s = s) : nodL l (j + 1) = nodL l j ++ s.nodes := by
 unfold nodL; rw [List.take_succ_eq_append_getElem hj, List.flatMap_append]; simp [hs]
theorem turL_succ {l : List Sv} {j : Nat} (hj : j < l.length) {s : St} (hs : l[j].s = s) : turL l (j + 1) = turL l j ++ s.turns := by
 unfold turL; rw [List.take_succ_eq_append_getElem hj, List.flatMap_append]; simp [hs]
theorem nodes_split {l : List Sv} {j : Nat} (hj : j < l.length) {s : St} (hs : l[j].s = s) {q : Nat} (hq : q < s.nodes.length) :
  l.flatMap (fun x => x.s.nodes) = (nodL l j ++ s.nodes.take q) ++ s.nodes[q] :: (s.nodes.drop (q + 1) ++ (l.drop (j + 1)).flatMap (fun x => x.s.nodes)) := by
 conv => lhs; rw [← List.take_append_drop (j + 1) l, List.flatMap_append]
 rw [show (l.take (j + 1)).flatMap (fun x => x.s.nodes) = nodL l j ++ s.nodes from nodL_succ hj hs]
 have e : s.nodes.take q ++ s.nodes[q] :: s.nodes.drop (q + 1) = s.nodes := by rw [← List.drop_eq_getElem_cons hq, List.take_append_drop]
 rw [show (nodL l j ++ s.nodes.take q) ++ s.nodes[q] :: (s.nodes.drop (q + 1) ++ (l.drop (j + 1)).flatMap (fun x => x.s.nodes)) = nodL l j ++ (s.nodes.take q ++ s.nodes[q] :: s.nodes.drop (q + 1)) ++ (l.drop (j + 1)).flatMap (fun x => x.s.nodes) by simp only [List.append_assoc, List.cons_append], e]
theorem turns_split {l : List Sv} {j : Nat} (hj : j < l.length) {s : St} (hs : l[j].s = s) {q : Nat} (hq : q < s.turns.length) :
  allT l = (turL l j ++ s.turns.take q) ++ s.turns[q] :: (s.turns.drop (q + 1) ++ (l.drop (j + 1)).flatMap (fun x => x.s.turns)) := by
 unfold allT
 conv => lhs; rw [← List.take_append_drop (j + 1) l, List.flatMap_append]
 rw [show (l.take (j + 1)).flatMap (fun x => x.s.turns) = turL l j ++ s.turns from turL_succ hj hs]
 have e : s.turns.take q ++ s.turns[q] :: s.turns.drop (q + 1) = s.turns := by rw [← List.drop_eq_getElem_cons hq, List.take_append_drop]
 rw [show (turL l j ++ s.turns.take q) ++ s.turns[q] :: (s.turns.drop (q + 1) ++ (l.drop (j + 1)).flatMap (fun x => x.s.turns)) = turL l j ++ (s.turns.take q ++ s.turns[q] :: s.turns.drop (q + 1)) ++ (l.drop (j + 1)).flatMap (fun x => x.s.turns) by simp only [List.append_assoc, List.cons_append], e]
theorem turns_few (l : List Sv) (h : ∀ x ∈ l, Sfew x.s) : (allT l).length ≤ 3900 * l.length := by
 unfold allT
 induction l with
 | nil => simp
 | cons a l ih =>
  rw [List.flatMap_cons, List.length_append, List.length_cons]
  have h1 := (h a (List.mem_cons_self ..)).turns
  have h2 := ih (fun x hx => h x (List.mem_cons_of_mem _ hx))
  omega
theorem turL_le (l : List Sv) (j : Nat) : (turL l j).length ≤ (allT l).length := by
 have : allT l = turL l j ++ (l.drop j).flatMap (fun x => x.s.turns) := by unfold allT turL; rw [← List.flatMap_append, List.take_append_drop]
 rw [this, List.length_append]; omega
structure RtB (l : List Sv) (w : World) (j : Nat) (va : Value) (c : Int) (wr : World) : Prop where
 ex : ∃ A, Gat (allT l) (nodL l j) A ∧ Ns wr va A
 cnt : c = (took (allT l) (nodL l j) : Int) - ((turL l j).length : Int)
 fp : Fp Non w wr
structure RtC (l : List Sv) (s : St) (w : World) (j q : Nat) (va : Value) (c : Int) (wr : World) : Prop where
 ex : ∃ A, Gat (allT l) (nodL l j ++ s.nodes.take q) A ∧ Ns wr va A
 cnt : c = (took (allT l) (nodL l j ++ s.nodes.take q) : Int) - ((turL l j).length : Int)
 fp : Fp Non w wr
structure RtD (Q : List Tu) (x : Nd) (bx : Nat) (c0 : Int) (wd : World) (c : Int) (wr : World) : Prop where
 ex : ∃ tv k, Cn Q x.path tv k ∧ c = c0 + (k : Int) ∧ wr.heap[bx]? = some (.cells #[.string (B x.path), .string (B x.data), .int .i64 x.ver, .int .i64 tv, .int .i64 x.own] TN (0, 0))
 fp : Fp (fun i => i = bx) wd wr
set_option maxHeartbeats 16000000 in
theorem rTree_c (v : Value) (l : List Sv) (w : World) (hv : Stos w v l) (hn : l.length ≤ 2) (hf : ∀ x ∈ l, Sfew x.s) :
  Calls Tryz.prog 28 #[v] w (TreR (l.map Sv.s) w) := by
 obtain ⟨ao, cap, rfl⟩ := hv.sg.shape
 obtain ⟨n, hnn⟩ : ∃ n, n = l.length := ⟨_, rfl⟩
 have hnb : n ≤ 2 := by omega
 have HX := Lib.hid (And.intro hnn (And.intro hv hf))
 rw [← hnn]
 have H0 : Hid (RtA l w 0 w) := ⟨(by rw [List.take_zero]; intro x hx; cases hx), Fp.refl _ _⟩
 clear hv hn hf hnn
 go_enter Tryz.func28, Tryz.ntmps28
 go_wp2_with fail
 go_loopw [6] (fun i wr => ∃ k : Nat, k ≤ n ∧ i = .int .i64 k ∧ Hid (RtA l w k wr)) (fun i _ => n - (RowKit.intOf i).toNat)
 case atStart => exact ⟨0, Nat.zero_le _, rfl, H0⟩
 clear H0
 obtain ⟨k, hk, rfl, hR⟩ := hrel
 rename_i wr _
 by_cases hlt : k < n
 ·have hkl : k < l.length := by rw [← HX.out.1]; exact hlt
  have HS := HX.out.2.1.non hR.out.fp
  obtain ⟨g, o, ct', e9, hcell⟩ := HS.sg.at (by omega)
  injection e9 with e1 e2 e3
  subst e1 e3
  clear e2
  have hel := hcell k hkl
  have hst := HS.sto l[k] (List.getElem_mem hkl)
  have hfw := HX.out.2.2 l[k] (List.getElem_mem hkl)
  have hno : ¬ StW l[k].s → ∀ y, ¬ TreeOf (l.map Sv.s) y := fun h y t => h (stW_of (t.right _ (List.mem_map.2 ⟨l[k], List.getElem_mem hkl, rfl⟩)))
  have hri : StW l[k].s → ∀ x ∈ l.take (k + 1), StW x.s := fun h x hx => by
   rw [List.take_succ_eq_append_getElem hkl, List.mem_append, List.mem_singleton] at hx
   rcases hx with hx | rfl
   ·exact hR.out.right x hx
   exact h
  obtain ⟨x, hx⟩ : ∃ x, l[k] = x := ⟨_, rfl⟩
  rw [hx] at hel hst hfw hno hri
  obtain ⟨xn, xt, xs⟩ := x
  simp only at hst hfw hno hri
  have c0 := hel.get 0 xn rfl
  have c1 := hel.get 1 xt rfl
  rw [Nat.add_zero] at c0
  obtain ⟨an, cn, hsh⟩ := hst.1.shape
  obtain ⟨at_, ct, hsh2⟩ := hst.2.shape
  subst hsh hsh2
  have hrc := fun W (f : Fp Non wr W) => rRightS_w (.agg #[.slice an xs.nodes.length cn, .slice at_ xs.turns.length ct]) xs W ⟨_, _, rfl, hst.1.non f, hst.2.non f⟩ hfw.sp (by have := hfw.nodes; omega) hfw.dirs (by have := hfw.turns; omega)
  have HRC := Lib.hid (And.intro hrc (And.intro hno hri))
  have q3 : ((k : Int) < (n : Int)) = True := eq_true (by omega)
  have q4 : (k < n) = True := eq_true hlt
  have HL := Lib.hid hlt
  obtain ⟨nn, hnn⟩ : ∃ nn, nn = xs.nodes.length := ⟨_, rfl⟩
  obtain ⟨tt, htt⟩ : ∃ tt, tt = xs.turns.length := ⟨_, rfl⟩
  rw [← hnn] at HRC c0
  rw [← htt] at HRC c1
  obtain ⟨b, hb⟩ : ∃ b : Bool, True := ⟨true, trivial⟩
  clear HS hcell hel hst hfw hno hri hx hrc hlt hkl hnn htt b hb
  go_wp2_with fail
  refine (HRC.out.1 _ (Fp.refl _ _)).mono ?_
  rintro e w1 ⟨⟨b, rfl, hb⟩, hf⟩
  have F := Lib.hid (hR.out.fp.then hf)
  cases b with
  | false =>
   have HNO := Lib.hid (HRC.out.2.1 (fun h => by have := hb.2 h; cases this))
   clear hf hb c0 c1
   go_wp2
   go_ret2
   exact ⟨⟨_, _, rfl, .inr ⟨rfl, rfl, HNO.out⟩⟩, F.out⟩
  | true => ?_
  have hM : Hid (RtA l w (k + 1) w1) := ⟨HRC.out.2.2 (hb.1 rfl), F.out⟩
  clear hf hb c0 c1
  have hj1 := HL.out
  go_wp2
  go_roundw
  case rel => exact ⟨k + 1, by omega, by go_num, hM⟩
  case measure => simp [RowKit.intOf]; omega
 have hke : k = n := by omega
 subst hke
 have q3 : ((k : Int) < (k : Int)) = False := eq_false (by omega)
 have htl : l.take k = l := by rw [HX.out.1, List.take_length]
 have hRR := hR.out.right
 rw [htl] at hRR
 have HRR := Lib.hid (And.intro hRR hR.out.fp)
 clear htl hlt hk hRR hR
 have hkk : k ≤ 2 := hnb
 have H0 : Hid (RtB l w 0 (.slice none 0 0) 0 wr) := ⟨⟨[], Gat.nil _, Ns.nil _⟩, by simp [took_nil, nodL, turL], HRR.out.2⟩
 go_wp2_with fail
 go_loopw [4, 5, 7] (fun va vn i wr => ∃ (j : Nat) (c : Int), j ≤ k ∧ i = .int .i64 j ∧ vn = .int .i64 c ∧ Hid (RtB l w j va c wr)) (fun _ _ i _ => k - (RowKit.intOf i).toNat)
 case atStart => exact ⟨0, 0, Nat.zero_le _, rfl, rfl, H0⟩
 clear H0
 obtain ⟨j, c, hj, rfl, rfl, hR⟩ := hrel
 rename World => wr2
 by_cases hlt : j < k
 ·have hjl : j < l.length := by rw [← HX.out.1]; exact hlt
  obtain ⟨g, o, ct', e9, _⟩ := HX.out.2.1.sg.at (by omega)
  injection e9 with e1 e2 e3
  subst e1 e3
  clear e2
  obtain ⟨an, cn, at_, ct, hst⟩ := HX.out.2.1.at2 hjl
  have hfw := HX.out.2.2 l[j] (List.getElem_mem hjl)
  obtain ⟨xs, hxs⟩ : ∃ s, l[j].s = s := ⟨_, rfl⟩
  rw [hxs] at hst hfw
  have HJ : Hid (∃ h : j < l.length, (l[j]'h).s = xs) := ⟨hjl, hxs⟩
  obtain ⟨nn, hnn⟩ : ∃ nn, nn = xs.nodes.length := ⟨_, rfl⟩
  obtain ⟨tt, htt⟩ : ∃ tt, tt = xs.turns.length := ⟨_, rfl⟩
  have HST := Lib.hid hst
  have HFW := Lib.hid (And.intro hfw (And.intro hnn htt))
  have hnb2 : nn ≤ 3900 := by rw [hnn]; exact hfw.nodes
  have H0 : Hid (RtC l xs w j 0 u4 c wr2) := ⟨by obtain ⟨A, h1, h2⟩ := hR.out.ex; exact ⟨A, by rw [List.take_zero, List.append_nil]; exact h1, h2⟩, by rw [List.take_zero, List.append_nil]; exact hR.out.cnt, hR.out.fp⟩
  have q3 : ((j : Int) < (k : Int)) = True := eq_true (by omega)
  have q4 : (j < k) = True := eq_true hlt
  have HL := Lib.hid hlt
  clear hst hfw hxs hjl hlt hnn htt hR hj
  go_wp2_with fail
  go_loopw [4, 5, 8] (fun va vn i wr => ∃ (q : Nat) (c : Int), q ≤ nn ∧ i = .int .i64 q ∧ vn = .int .i64 c ∧ Hid (RtC l xs w j q va c wr)) (fun _ _ i _ => nn - (RowKit.intOf i).toNat)
  case atStart => exact ⟨0, c, Nat.zero_le _, rfl, rfl, H0⟩
  clear H0
  obtain ⟨q, d, hq, rfl, rfl, hR⟩ := hrel
  rename World => wr3
  have hs3 := HST.out.non hR.out.fp
  have c0 := hs3.c0; have c1 := hs3.c1
  rw [← HFW.out.2.1] at c0
  rw [← HFW.out.2.2] at c1
  by_cases hlt : q < nn
  ·have hql : q < xs.nodes.length := by rw [← HFW.out.2.1]; exact hlt
   obtain ⟨gn, on, cap', e9, _, _, _, hcell⟩ := hs3.ns.at (by omega)
   injection e9 with e1 e2 e3
   subst e1 e3
   clear e2
   have hnd := hcell q hql
   obtain ⟨A, hga, hna⟩ := hR.out.ex
   have hcnt := hR.out.cnt
   have hfp3 := hR.out.fp
   have hsp := HFW.out.1.sp _ (List.getElem_mem hql)
   have htk : xs.nodes.take (q + 1) = xs.nodes.take q ++ [xs.nodes[q]] := List.take_succ_eq_append_getElem hql
   have hall : l.flatMap (fun x => x.s.nodes) = (nodL l j ++ xs.nodes.take q) ++ xs.nodes[q] :: (xs.nodes.drop (q + 1) ++ (l.drop (j + 1)).flatMap (fun x => x.s.nodes)) := (by obtain ⟨h1, h2⟩ := HJ.out; exact nodes_split h1 h2 hql)
   have hx0 : (xs.nodes[q]).turn = 0 := by
    obtain ⟨h1, h2⟩ := HJ.out; have := HRR.out.1 _ (List.getElem_mem h1)
    rw [h2] at this
    exact this.turn0 (List.getElem_mem hql)
   obtain ⟨x, hx⟩ : ∃ x, xs.nodes[q] = x := ⟨_, rfl⟩
   rw [hx] at hnd hsp htk hall hx0
   have hal : A.length ≤ 7800 := by
    have h1 := hga.len
    have h2 := few_all l (fun x hx => (HX.out.2.2 x hx).nodes)
    rw [h1]
    have h3 : (nodL l j ++ xs.nodes.take q).length ≤ (l.flatMap (fun x => x.s.nodes)).length := by rw [hall, List.length_append (bs := x :: _)]; omega
    have h4 := HX.out.1
    omega
   have hdup : ∀ y, find A x.path = some y → ∀ z, ¬ TreeOf (l.map Sv.s) z := fun y hy z => dup_tree (by rw [(flat_st l).1]; exact hall) (hga.some hy) z
   have hfd := fun W (hv : Ns W u4 A) => rFind_c u4 A x.path W hv (by omega)
   have HA := Lib.hid (And.intro hga (And.intro hna (And.intro hcnt (And.intro hfp3 (And.intro htk (And.intro hal hdup))))))
   obtain ⟨xp, xd, xv, xt, xo⟩ := x
   simp only at hx0
   subst hx0
   have d0 := hnd.c0; have d1 := hnd.c1; have d2 := hnd.c2; have d3 := hnd.c3; have d4 := hnd.c4
   unfold strV at d0 d1
   simp only at d0 d1 d2 d3 d4 hfd
   have f0 := fp_alloc wr3 (.cells #[.string (B xp), .string (B xd), .int .i64 xv, .int .i64 0, .int .i64 xo] TN)
   have r0 := heap_alloc_new wr3 (.cells #[.string (B xp), .string (B xd), .int .i64 xv, .int .i64 0, .int .i64 xo] TN)
   have HB := Lib.hid (And.intro f0 (And.intro (hna.non f0) r0))
   obtain ⟨zn, hzn⟩ : ∃ z, (find A xp).getD zeroNd = z := ⟨_, rfl⟩
   obtain ⟨bs, hbs⟩ : ∃ b, (find A xp).isSome = b := ⟨_, rfl⟩
   rw [hzn, hbs] at hfd
   have HBS := Lib.hid hbs
   obtain ⟨zp, zd, zv, zt, zo⟩ := zn
   unfold ndV strV at hfd
   simp only at hfd
   have HFD := Lib.hid (hfd _ (hna.non f0))
   have q5 : ((q : Int) < (nn : Int)) = True := eq_true (by omega)
   have q6 : (q < nn) = True := eq_true hlt
   have HQ : Hid (q < nn ∧ ∃ h : q < xs.nodes.length, xs.nodes[q]'h = ⟨xp, xd, xv, 0, xo⟩) := ⟨hlt, hql, hx⟩
   clear hs3 hcell hnd hga hna hcnt hfp3 hsp htk hall hx hal hdup hfd f0 r0 hzn hbs hlt hql hR hq
   go_upto_region 15 with (fail)
   clear d0 d1 d2 d3 d4 c0 c1
   obtain ⟨b0, b1, b2, b3, b4⟩ := box5 HB.out.2.2
   have HBL := Lib.hid (show wr3.heap.size < (wr3.alloc (.cells #[.string (B xp), .string (B xd), .int .i64 xv, .int .i64 0, .int .i64 xo] TN)).heap.size by simp)
   have HU4 := Lib.hid (fun (h0 : 0 < A.length) i hi => ns_lt HA.out.2.1 h0 i hi)
   have HW0 := Lib.hid (HA.out.2.2.2.1.size)
   generalize (World.alloc wr3 _) = w4 at *
   generalize wr3.heap.size = bx at *
   go_wp2_with fail
   refine HFD.out.mono ?_
   rintro e w5 ⟨rfl, hf⟩
   have HB5 := Lib.hid (And.intro (HB.out.1.then hf) (And.intro (HB.out.2.1.non hf) (hf.heap HB.out.2.2 id)))
   clear hf b0 b1 b2 b3 b4
   cases bs with
   | true =>
    have HNO : Hid (∀ z, ¬ TreeOf (l.map Sv.s) z) := by
     cases e : find A xp with
     | none => have := HBS.out; rw [e] at this; cases this
     | some y => exact HA.out.2.2.2.2.2.2 y e
    have F := Lib.hid (HA.out.2.2.2.1.then HB5.out.1)
    go_wp2
    go_ret2
    exact ⟨⟨_, _, rfl, .inr ⟨rfl, rfl, HNO.out⟩⟩, F.out.alloc _⟩
   | false => ?_
   have hnone : find A xp = none := by
    cases e : find A xp with
    | none => rfl
    | some y => have := HBS.out; rw [e] at this; cases this
   have HNN := Lib.hid hnone
   have HDB : Hid (-20000 ≤ d ∧ d ≤ 20000) := by
    have h1 := HA.out.2.2.1
    have h2 := took_le (allT l) (nodL l j ++ xs.nodes.take q)
    have h3 := turns_few l HX.out.2.2
    have h4 := turL_le l j
    have h5 := HX.out.1
    exact ⟨by omega, by omega⟩
   have f1 := fp_alloc w5 (.cells #[.string (B zp), .string (B zd), .int .i64 zv, .int .i64 zt, .int .i64 zo] TN)
   have HB6 := Lib.hid (And.intro (HB5.out.1.then f1) (And.intro (HB5.out.2.1.non f1) (f1.heap HB5.out.2.2 id)))
   clear hnone f1 HFD
   go_upto_region 18 with (fail)
   generalize (World.alloc w5 _) = w6 at *
   obtain ⟨b0, b1, b2, b3, b4⟩ := box5 HB6.out.2.2
   have z3 := frozen_at HB6.out.2.2 3
   have hr7 : (w6.setCell ⟨bx, 3, none⟩ (.int .i64 0)).heap[bx]? = some (.cells #[.string (B xp), .string (B xd), .int .i64 xv, .int .i64 0, .int .i64 xo] TN (0, 0)) := heap_setCell_same w6 bx 3 _ TN (.int .i64 0) HB6.out.2.2
   have f7 : Fp (fun i => i = bx) w6 (w6.setCell ⟨bx, 3, none⟩ (.int .i64 0)) := (Fp.refl (fun i => i = bx) w6).setCell (p := ⟨bx, 3, none⟩) (.inl rfl) _
   have H0 : Hid (RtD (turL l 0) ⟨xp, xd, xv, 0, xo⟩ bx d w6 d (w6.setCell ⟨bx, 3, none⟩ (.int .i64 0))) := ⟨⟨0, 0, Cn.nil _, by simp, hr7⟩, f7⟩
   have HFP : Hid (∀ W, Fp (fun i => i = bx) w6 W → Fp Non w W) := fun W f => (HA.out.2.2.2.1.then HB6.out.1).trans f (fun i hi => .inr (by have hi : i = bx := hi; have := HW0.out; omega))
   clear hr7 f7
   go_wp2_with fail
   clear b0 b1 b2 b3 b4 z3
   generalize (World.setCell w6 _ _) = w7 at *
   go_loopw [5, 12] (fun vn i wr => ∃ (jj : Nat) (c : Int), jj ≤ k ∧ i = .int .i64 jj ∧ vn = .int .i64 c ∧ Hid (RtD (turL l jj) ⟨xp, xd, xv, 0, xo⟩ bx d w6 c wr)) (fun _ i _ => k - (RowKit.intOf i).toNat)
   case atStart => exact ⟨0, d, Nat.zero_le _, rfl, rfl, H0⟩
   clear H0
   obtain ⟨jj, c2, hjj, rfl, rfl, hR⟩ := hrel
   rename World => wr4
   by_cases hlt : jj < k
   ·have hjl : jj < l.length := by rw [← HX.out.1]; exact hlt
    obtain ⟨an2, cn2, at2, ct2, hst2⟩ := HX.out.2.1.at2 hjl
    have hfw2 := HX.out.2.2 l[jj] (List.getElem_mem hjl)
    obtain ⟨ys, hys⟩ : ∃ s, l[jj].s = s := ⟨_, rfl⟩
    rw [hys] at hst2 hfw2
    have HJ2 : Hid (∃ h : jj < l.length, (l[jj]'h).s = ys) := ⟨hjl, hys⟩
    obtain ⟨mm, hmm⟩ : ∃ mm, mm = ys.turns.length := ⟨_, rfl⟩
    have hmb : mm ≤ 3900 := by rw [hmm]; exact hfw2.turns
    have HST2 := Lib.hid (And.intro hst2 hmm)
    have H0 : Hid (RtD (turL l jj ++ ys.turns.take 0) ⟨xp, xd, xv, 0, xo⟩ bx d w6 c2 wr4) := by rw [List.take_zero, List.append_nil]; exact hR
    have q7 : ((jj : Int) < (k : Int)) = True := eq_true (by omega)
    have q8 : (jj < k) = True := eq_true hlt
    have HL2 := Lib.hid hlt
    clear hjl hst2 hfw2 hys hmm hR hlt hjj
    go_wp2_with fail
    go_loopw [5, 13] (fun vn i wr => ∃ (m : Nat) (c : Int), m ≤ mm ∧ i = .int .i64 m ∧ vn = .int .i64 c ∧ Hid (RtD (turL l jj ++ ys.turns.take m) ⟨xp, xd, xv, 0, xo⟩ bx d w6 c wr)) (fun _ i _ => mm - (RowKit.intOf i).toNat)
    case atStart => exact ⟨0, c2, Nat.zero_le _, rfl, rfl, H0⟩
    clear H0
    obtain ⟨m, c3, hm, rfl, rfl, hR⟩ := hrel
    rename World => wr5
    have hs5 := HST2.out.1.non (HFP.out _ hR.out.fp)
    have c1 := hs5.c1
    rw [← HST2.out.2] at c1
    by_cases hlt : m < mm
    ·have hml : m < ys.turns.length := by rw [← HST2.out.2]; exact hlt
     have hts := hs5.ts
     obtain ⟨gt, ot, cap', e9, _, _, _, hcell⟩ := hts.at (by omega)
     injection e9 with e1 e2 e3
     subst e1 e3
     clear e2
     have htu := hcell m hml
     obtain ⟨tv, kc, hcn, hc, hrow⟩ := hR.out.ex
     have hfp5 := hR.out.fp
     have hsp2 : allT l = (turL l jj ++ ys.turns.take m) ++ ys.turns[m] :: (ys.turns.drop (m + 1) ++ (l.drop (jj + 1)).flatMap (fun x => x.s.turns)) := by
      obtain ⟨h1, h2⟩ := HJ2.out; exact turns_split h1 h2 hml
     have htk : turL l jj ++ ys.turns.take (m + 1) = (turL l jj ++ ys.turns.take m) ++ [ys.turns[m]] := by rw [List.take_succ_eq_append_getElem hml, List.append_assoc]
     have hnz : ∀ t ∈ turL l jj ++ ys.turns.take m, t.next ≠ 0 := fun t ht => by
      have h1 : t ∈ allT l := by rw [hsp2]; exact List.mem_append.2 (.inl ht)
      obtain ⟨s, hs, h2⟩ := List.mem_flatMap.1 h1
      exact (HRR.out.1 s hs).next h2
     have hno : ∀ c, Cn (turL l jj ++ ys.turns.take m) xp c kc → c ≠ 0 → (ys.turns[m]).dir = xp → ∀ z, ¬ TreeOf (l.map Sv.s) z := fun c h1 h2 h3 z h => by
      have h4 := h.uniqT
      rw [(flat_st l).2] at h4
      have h5 := h1.second (R := ys.turns.drop (m + 1) ++ (l.drop (jj + 1)).flatMap (fun x => x.s.turns)) h2 h3
      rw [← hsp2] at h5
      exact h5 h4
     obtain ⟨y, hy⟩ : ∃ y, ys.turns[m] = y := ⟨_, rfl⟩
     rw [hy] at htu htk hno
     obtain ⟨yd, yn⟩ := y
     have t0 := htu.c0; have t1 := htu.c1
     unfold strV at t0
     simp only at t0 t1 hno
     obtain ⟨b0, b1, b2, b3, b4⟩ := box5 hrow
     have z3 := frozen_at hrow 3
     have HC := Lib.hid (And.intro hcn (And.intro hc (And.intro hfp5 hrow)))
     have HTK := Lib.hid htk
     have HNZ := Lib.hid hnz
     have HNO := Lib.hid hno
     have q9 : ((m : Int) < (mm : Int)) = True := eq_true (by omega)
     have q10 : (m < mm) = True := eq_true hlt
     have HM := Lib.hid hlt
     clear hml hts hcell htu hcn hc hfp5 hsp2 htk hnz hno hy hrow hlt hs5 hR
     by_cases hyd : yd = xp
     ·subst hyd
      have q11 : (yd == yd) = true := beq_iff_eq.2 rfl
      by_cases htv : tv = 0
      ·subst htv
       obtain ⟨hk0, hcn2⟩ := HC.out.1.first HNZ.out (t := ⟨yd, yn⟩) rfl
       have hMM : Hid (∀ N, RtD (turL l jj ++ ys.turns.take (m + 1)) ⟨yd, xd, xv, 0, xo⟩ bx d w6 (wrap64 (c3 + 1)) ((wr5.drewN N).setCell ⟨bx, 3, none⟩ (.int .i64 yn))) := fun N => by
        have hr := heap_setCell_same (wr5.drewN N) bx 3 _ TN (.int .i64 yn) (((Fp.refl Non wr5).drewN N).heap HC.out.2.2.2 id)
        refine ⟨⟨yn, 1, by rw [HTK.out]; exact hcn2, ?_, hr⟩, (HC.out.2.2.1.then ((Fp.refl Non wr5).drewN N)).trans ((Fp.refl (fun i => i = bx) _).setCell (p := ⟨bx, 3, none⟩) (.inl rfl) _) (fun i hi => .inl hi)⟩
        have h1 := HC.out.2.1
        have h2 := HDB.out
        rw [hk0] at h1
        unfold wrap64
        omega
       clear hk0 hcn2
       have hj := HM.out
       go_wp2_with fail
       go_quiet (fail)
       go_wp2
       go_roundw
       case rel => exact ⟨m + 1, _, by omega, by go_num, rfl, hMM.out _⟩
       case measure => simp [RowKit.intOf]; omega
      have q12 : (tv != 0) = true := by simpa using htv
      have q13 : (tv == 0) = false := beq_eq_false_iff_ne.2 htv
      have q14 : (tv = 0) = False := eq_false htv
      have HNOO := Lib.hid (HNO.out tv HC.out.1 htv rfl)
      have F := Lib.hid (fun N => (HFP.out _ HC.out.2.2.1).then ((Fp.refl Non wr5).drewN N))
      clear htv
      go_wp2_with fail
      go_quiet (fail)
      go_wp2
      go_ret2
      exact ⟨⟨_, _, rfl, .inr ⟨rfl, rfl, HNOO.out⟩⟩, F.out _⟩
     have q11 : (yd == xp) = false := beq_eq_false_iff_ne.2 hyd
     have q12 : (yd = xp) = False := eq_false hyd
     have hMM : Hid (∀ N, RtD (turL l jj ++ ys.turns.take (m + 1)) ⟨xp, xd, xv, 0, xo⟩ bx d w6 c3 (wr5.drewN N)) := fun N =>
      ⟨⟨tv, kc, by rw [HTK.out]; exact HC.out.1.other hyd, HC.out.2.1, ((Fp.refl Non wr5).drewN N).heap HC.out.2.2.2 id⟩, HC.out.2.2.1.then ((Fp.refl Non wr5).drewN N)⟩
     clear hyd
     have hj := HM.out
     go_wp2_with fail
     go_quiet (fail)
     go_wp2
     go_roundw
     case rel => exact ⟨m + 1, c3, by omega, by go_num, rfl, hMM.out _⟩
     case measure => simp [RowKit.intOf]; omega
    have hme : m = mm := by omega
    subst hme
    have q9 : ((m : Int) < (m : Int)) = False := eq_false (by omega)
    have hM : Hid (RtD (turL l (jj + 1)) ⟨xp, xd, xv, 0, xo⟩ bx d w6 c3 wr5) := by
     obtain ⟨h1, h2⟩ := HJ2.out
     have h := hR.out
     rw [HST2.out.2, List.take_length] at h
     rw [turL_succ h1 h2]; exact h
    clear hlt hm hR hs5
    have hj1 := HL2.out
    go_wp2
    go_roundw
    case rel => exact ⟨jj + 1, c3, by omega, by go_num, rfl, hM⟩
    case measure => simp [RowKit.intOf]; omega
   have hje : jj = k := by omega
   have hje2 : turL l jj = allT l := by rw [hje, HX.out.1]; unfold turL allT; rw [List.take_length]
   obtain ⟨tv, kc, hcn, hc, hrow⟩ := hR.out.ex
   rw [hje2] at hcn
   have q7 : ((jj : Int) < (k : Int)) = False := eq_false (by omega)
   have q8 : (jj < k) = False := eq_false hlt
   have hpu := fun W (hv : Ns W u4 A) => rPut_c u4 A ⟨xp, xd, xv, tv, xo⟩ W hv (by have := HA.out.2.2.2.2.2.1; omega)
   have hna4 := ns_keep HB6.out.2.1 hR.out.fp (fun h0 i hi e => by have := HU4.out h0 i hi; have e : i = bx := e; omega)
   have HPU := Lib.hid (hpu _ hna4)
   have HF4 := Lib.hid (HFP.out _ hR.out.fp)
   have HCN := Lib.hid (And.intro hcn hc)
   obtain ⟨b0, b1, b2, b3, b4⟩ := box5 hrow
   clear hje hje2 hcn hc hrow hlt hjj hR hpu hna4
   go_wp2_with fail
   refine HPU.out.mono ?_
   rintro e w8 ⟨v8, rfl, hO, hf⟩
   have hM : Hid (RtC l xs w j (q + 1) v8 c2 w8) := by
    obtain ⟨hq1, hq2, hq3⟩ := HQ.out
    have htk : xs.nodes.take (q + 1) = xs.nodes.take q ++ [⟨xp, xd, xv, 0, xo⟩] := HA.out.2.2.2.2.1
    have ht : (⟨xp, xd, xv, tv, xo⟩ : Nd) = turned (allT l) ⟨xp, xd, xv, 0, xo⟩ := by unfold turned; rw [HCN.out.1.trn]
    have hl1 : (hits (allT l) xp).length = kc := HCN.out.1.len
    have hg := HA.out.1.snoc (x := ⟨xp, xd, xv, 0, xo⟩) HNN.out (by show (hits (allT l) xp).length ≤ 1; rw [hl1]; exact HCN.out.1.one)
    have hk := took_snoc (allT l) (nodL l j ++ xs.nodes.take q) ⟨xp, xd, xv, 0, xo⟩ (HA.out.1.none HNN.out)
    refine ⟨⟨_, by rw [htk, ← List.append_assoc]; exact hg, by rw [← ht]; exact hO.ns⟩, ?_, HF4.out.then hf⟩
    rw [htk, ← List.append_assoc, hk, HCN.out.2, HA.out.2.2.1]
    have : (hits (allT l) (⟨xp, xd, xv, 0, xo⟩ : Nd).path).length = kc := hl1
    rw [this]
    push_cast
    omega
   clear hO hf b0 b1 b2 b3 b4
   have hj1 := HQ.out.1
   go_wp2
   go_roundw
   case rel => exact ⟨q + 1, c2, by omega, by go_num, rfl, hM⟩
   case measure => simp [RowKit.intOf]; omega
  have hqe : q = nn := by omega
  subst hqe
  have q5 : ((q : Int) < (q : Int)) = False := eq_false (by omega)
  have hM : Hid (RtB l w (j + 1) u4 (wrap64 (d - (tt : Int))) wr3) := by
   obtain ⟨h1, h2⟩ := HJ.out
   obtain ⟨A, hg, hn⟩ := hR.out.ex
   have hc := hR.out.cnt
   rw [HFW.out.2.1, List.take_length] at hg hc
   refine ⟨⟨A, by rw [nodL_succ h1 h2]; exact hg, hn⟩, ?_, hR.out.fp⟩
   rw [nodL_succ h1 h2, turL_succ h1 h2, List.length_append, ← HFW.out.2.2]
   have h3 := took_le (allT l) (nodL l j ++ xs.nodes)
   have h4 := turns_few l HX.out.2.2
   have h5 := turL_le l j
   have h6 := HX.out.1
   have h7 : tt ≤ 3900 := by rw [HFW.out.2.2]; exact HFW.out.1.turns
   push_cast
   unfold wrap64
   omega
  clear hlt hq hR hs3
  have hj1 := HL.out
  go_wp2
  go_roundw
  case rel => exact ⟨j + 1, _, by omega, by go_num, rfl, hM⟩
  case measure => simp [RowKit.intOf]; omega
 have hje : j = k := by omega
 have q3 : ((j : Int) < (k : Int)) = False := eq_false (by omega)
 have q4 : (j < k) = False := eq_false hlt
 obtain ⟨A, hg, hn⟩ := hR.out.ex
 have hc := hR.out.cnt
 have e1 : nodL l j = (l.map Sv.s).flatMap St.nodes := by rw [hje, HX.out.1, (flat_st l).1]; unfold nodL; rw [List.take_length]
 have e2 : turL l j = (l.map Sv.s).flatMap St.turns := by rw [hje, HX.out.1, (flat_st l).2]; unfold turL; rw [List.take_length]
 have e3 : allT l = (l.map Sv.s).flatMap St.turns := (flat_st l).2.symm
 rw [e1, e3] at hg
 rw [e1, e2, e3] at hc
 have hw : ∀ s ∈ l.map Sv.s, StW s := fun s hs => by obtain ⟨x, hx, rfl⟩ := List.mem_map.1 hs; exact HRR.out.1 x hx
 have hspA : Sp A := fun x hx => by
  obtain ⟨y, hy, rfl⟩ := (hg.mem x).1 hx
  obtain ⟨s, hs, hy2⟩ := List.mem_flatMap.1 hy
  obtain ⟨z, hz, rfl⟩ := List.mem_map.1 hs
  exact (HX.out.2.2 z hz).sp y hy2
 have HG := Lib.hid (And.intro hg (And.intro hc (And.intro hw (And.intro hn hR.out.fp))))
 have hrr := fun W (f : Fp Non wr2 W) => rRightN_g u4 A W (hn.non f) hspA
 obtain ⟨b, hb⟩ : ∃ b, right A = b := ⟨_, rfl⟩
 rw [hb] at hrr
 have HRT := Lib.hid (And.intro hrr hb)
 clear hje hlt hj hg hn hc e1 e2 e3 hw hspA hrr hb hR
 by_cases hc0 : c = 0
 ·have y1 : (c != 0) = false := by simp [hc0]
  have y2 : (c == 0) = true := beq_iff_eq.2 hc0
  have y3 : (c = 0) = True := eq_true hc0
  have HC0 := Lib.hid hc0
  clear hc0
  go_wp2_with fail
  refine (HRT.out.1 _ (Fp.refl _ _)).mono ?_
  rintro e w9 ⟨rfl, hf⟩
  have F := Lib.hid (And.intro (HG.out.2.2.2.2.then hf) (HG.out.2.2.2.1.non hf))
  clear hf
  cases b with
  | true =>
   have HT := Lib.hid (tree_gat HG.out.2.2.1 HG.out.1 (by have h1 := HG.out.2.1; have h2 := HC0.out; omega) ((right_iff A).1 HRT.out.2).tr)
   go_wp2
   go_ret2
   exact ⟨⟨_, _, rfl, .inl ⟨rfl, A, F.out.2, HT.out⟩⟩, F.out.1⟩
  | false => ?_
  have HNO := Lib.hid (show ∀ y, ¬ TreeOf (l.map Sv.s) y from fun y t => by
   obtain ⟨_, e⟩ := gat_tree HG.out.1 t
   have h1 := right_true t.tree.tree
   rw [← e, HRT.out.2] at h1; cases h1)
  go_wp2
  go_ret2
  exact ⟨⟨_, _, rfl, .inr ⟨rfl, rfl, HNO.out⟩⟩, F.out.1⟩
 have y1 : (c != 0) = true := by simpa using hc0
 have y2 : (c == 0) = false := beq_eq_false_iff_ne.2 hc0
 have y3 : (c = 0) = False := eq_false hc0
 have HNO := Lib.hid (show ∀ y, ¬ TreeOf (l.map Sv.s) y from fun y t => by
  obtain ⟨e, _⟩ := gat_tree HG.out.1 t
  exact hc0 (by have h1 := HG.out.2.1; omega))
 clear hc0
 go_wp2
 go_ret2
 exact ⟨⟨_, _, rfl, .inr ⟨rfl, rfl, HNO.out⟩⟩, HG.out.2.2.2.2⟩
theorem ret_bool' {a b : Bool} (h : a = b) : Ending.returned (.bool a) = .returned (.bool b) := by rw [h]
set_option maxHeartbeats 8000000 in
theorem rMay_c (o : Opn) (w : World) (hl : o.path.length ≤ 1000000) :
  Calls Tryz.prog 53 #[opV o] w fun e w' => e = .returned (.bool (may o)) ∧ Fp Non w w' := by
 have hri := fun w => rRight_g o.path w (sz_of hl (by omega))
 obtain ⟨kk, p, d, vv, ow, tt⟩ := o
 obtain ⟨sp, hsp⟩ : ∃ b, (split p).isSome = b := ⟨_, rfl⟩
 simp only at hri
 rw [hsp] at hri
 have HR := Lib.hid hri
 have HSP := Lib.hid hsp
 have hf0 := fp_alloc w (.cells #[.int .i64 kk, .string (B p), .string (B d), .int .i64 vv, .int .i64 ow, .bool tt] TO_)
 have hb0 := heap_alloc_new w (.cells #[.int .i64 kk, .string (B p), .string (B d), .int .i64 vv, .int .i64 ow, .bool tt] TO_)
 have HF0 := Lib.hid (And.intro hf0 hb0)
 obtain ⟨m, hm⟩ : ∃ m, may ⟨kk, p, d, vv, ow, tt⟩ = m := ⟨_, rfl⟩
 have HM := Lib.hid hm
 rw [hm]
 unfold opV strV
 simp only
 clear hri hsp hf0 hb0 hm hl
 go_enter Tryz.func53, Tryz.ntmps53
 go_wp2_with fail
 all_goals
  refine (HR.out _).mono ?_
  rintro e w1 ⟨rfl, g1⟩
  have F1 := Lib.hid (HF0.out.1.then g1.fp)
  have hb1 := (g1.fp.heap HF0.out.2 id)
  obtain ⟨o0, o1, o2, o3, o4, o5⟩ := box6 hb1
  clear g1 hb1
 all_goals go_wp2
 all_goals
  go_ret
  refine ⟨ret_bool' ?_, F1.out⟩
  have hm := HM.out
  have hs := HSP.out
  rw [← hm]
  unfold may
  clear HR HF0 F1 o0 o1 o2 o3 o4 o5 hm HM HSP
  rw [hs]
  clear hs
  dsimp only
  rcases Classical.em (d.length ≤ 256 ∧ 0 ≤ ow ∧ ow ≤ 1099511627776) with hA | hA
  ·first
    | (exfalso; omega)
    | (rw [decide_eq_true hA]; clear hA; simp_all; done)
    | (rw [decide_eq_true hA]; clear hA; by_cases hz : vv = 0 <;> simp_all <;> done)
    | (rw [decide_eq_true hA]; clear hA; simp_all; intros; omega)
    | skip
  first
   | (exfalso; omega)
   | (rw [decide_eq_false hA]; simp; done)
   | (rw [decide_eq_false hA]; clear hA; simp_all; done)
   | skip
end Go.Proofs.YtphoglepiegeiaaGreatDoor
