/- A text of this proof. -/
import Derived.Test.YtphoglepiegeiaaGreatDoorZDD
import Derived.Test.YtphoglepiegeiaaGreatDoorZDU
set_option linter.unusedSimpArgs false
set_option linter.unusedVariables false
namespace Go.Proofs.YtphoglepiegeiaaGreatDoor
set_option maxRecDepth 20000
open Go.RowKit Pm
namespace Pm
def wo (l : List Nd) (p : Bs) : List Nd := l.filter (fun n => n.path != p)
theorem wo_take (l : List Nd) (p : Bs) (k : Nat) (hk : k < l.length) : wo (l.take (k + 1)) p = wo (l.take k) p ++ if (l[k].path != p) = true then [l[k]] else [] := by
 unfold wo
 rw [List.take_succ_eq_append_getElem hk, List.filter_append]
 congr 1
 rw [List.filter_cons, List.filter_nil]
def pstep (x : Nd) (s : List Nd × Bool) (a : Nd) : List Nd × Bool :=
 let s1 := if s.2 = false ∧ lt a.path x.path = false then (s.1 ++ [x], true) else s
 if a.path = x.path then s1 else (s1.1 ++ [a], s1.2)
theorem pstep_done (x : Nd) : ∀ (l acc : List Nd), l.foldl (pstep x) (acc, true) = (acc ++ l.filter (fun n => n.path != x.path), true)
 | [], acc => by simp
 | a :: l, acc => by
  rw [List.foldl_cons]
  by_cases h : a.path = x.path
  ·have e : pstep x (acc, true) a = (acc, true) := by unfold pstep; simp [h]
   rw [e, pstep_done x l acc, List.filter_cons, if_neg (by simp [h])]
  have e : pstep x (acc, true) a = (acc ++ [a], true) := by unfold pstep; simp [h]
  rw [e, pstep_done x l _, List.filter_cons, if_pos (by simpa using h)]; simp
theorem pstep_put (x : Nd) : ∀ (l acc : List Nd), (if (l.foldl (pstep x) (acc, false)).2 = true then (l.foldl (pstep x) (acc, false)).1 else (l.foldl (pstep x) (acc, false)).1 ++ [x]) = acc ++ put l x
 | [], acc => by simp [put]
 | a :: l, acc => by
  rw [List.foldl_cons, put]
  by_cases hb : lt a.path x.path = true
  ·have hne := lt_ne hb
   have e : pstep x (acc, false) a = (acc ++ [a], false) := by unfold pstep; simp [hb, hne]
   rw [e, pstep_put x l (acc ++ [a]), if_pos hb]; simp
  have hb2 : lt a.path x.path = false := by simpa using hb
  rw [if_neg hb]
  by_cases h : a.path = x.path
  ·have e : pstep x (acc, false) a = (acc ++ [x], true) := by unfold pstep; dsimp only; rw [if_pos h, if_pos ⟨rfl, hb2⟩]
   rw [e, pstep_done, if_pos rfl, List.filter_cons, if_neg (by simp [h])]; simp
  have e : pstep x (acc, false) a = (acc ++ [x] ++ [a], true) := by unfold pstep; dsimp only; rw [if_neg h, if_pos ⟨rfl, hb2⟩]
  rw [e, pstep_done, if_pos rfl, List.filter_cons, if_pos (by simpa using h)]; simp
theorem put_len (l : List Nd) (x : Nd) : (put l x).length ≤ l.length + 1 := by
 induction l with
 | nil => simp [put]
 | cons a l ih =>
  rw [put]; split
  ·simp; exact ih
  have := List.length_filter_le (fun n => n.path != x.path) (a :: l)
  simp only [List.length_cons] at this ⊢; omega
theorem fold_len (x : Nd) (l : List Nd) : (l.foldl (pstep x) ([], false)).1.length ≤ l.length + 1 := by
 have h := congrArg List.length (pstep_put x l [])
 rw [List.nil_append] at h
 have h2 := put_len l x
 split at h
 ·omega
 rw [List.length_append] at h; simp only [List.length_cons, List.length_nil] at h; omega
end Pm
set_option maxHeartbeats 8000000 in
theorem rWithout_c (v : Value) (l : List Nd) (p : Bs) (w : World) (hv : Ns w v l) (hs : Sp l) (hl : l.length ≤ 9000) :
  Calls Tryz.prog 113 #[v, .string (B p)] w fun e w' => ∃ v', e = .returned v' ∧ OwnN w.heap.size w' v' (wo l p) ∧ Fp Non w w' := by
 obtain ⟨ao, cap, rfl⟩ := hv.shape
 obtain ⟨n, hn⟩ : ∃ n, n = l.length := ⟨_, rfl⟩
 rw [← hn]
 have HX := Lib.hid (And.intro hn (And.intro hs hv))
 have hn6 : n ≤ 9000 := by omega
 have H0 : Hid (OwnN w.heap.size w (.slice none 0 0) (wo (l.take 0) p) ∧ Fp Non w w) := ⟨by rw [List.take_zero]; exact OwnN.nil _ _, Fp.refl _ _⟩
 clear hs hn hl hv
 go_enter Tryz.func113, Tryz.ntmps113
 go_wp2_with fail
 go_loopw [5, 6] (fun v i wr => ∃ k : Nat, k ≤ n ∧ i = .int .i64 k ∧ Hid (OwnN w.heap.size wr v (wo (l.take k) p) ∧ Fp Non w wr)) (fun _ i _ => n - (RowKit.intOf i).toNat)
 case atStart => exact ⟨0, Nat.zero_le _, rfl, H0⟩
 clear H0
 obtain ⟨k, hk, rfl, hR⟩ := hrel
 rename_i wr _
 by_cases hlt : k < n
 ·have hkl : k < l.length := by rw [← HX.out.1]; exact hlt
  obtain ⟨g, o, cap', e, _, _, _, hcell⟩ := HX.out.2.2.at (by omega)
  injection e with e1 e2 e3
  subst e1 e3
  clear e2
  have hnd := (hcell k hkl).keep hR.out.2 id
  have hstep := wo_take l p k hkl
  generalize l[k] = x at *
  have c0 := hnd.c0; have c1 := hnd.c1; have c2 := hnd.c2; have c3 := hnd.c3; have c4 := hnd.c4
  unfold strV at c0 c1
  have q3 : ((k : Int) < (n : Int)) = True := eq_true (by omega)
  have q4 : (k < n) = True := eq_true hlt
  have HB := Lib.hid (And.intro hstep hnd)
  have HL := Lib.hid hlt
  clear hnd hstep hkl hlt hcell
  by_cases hxp : x.path = p
  ·have q5 : (x.path == p) = true := beq_iff_eq.2 hxp
   have q6 : (x.path = p) = True := eq_true hxp
   have q7 : (x.path != p) = false := by simp [hxp]
   have hM : Hid (OwnN w.heap.size wr _ (wo (l.take (k + 1)) p) ∧ Fp Non w wr) := ⟨by rw [HB.out.1, q7]; simpa using hR.out.1, hR.out.2⟩
   have hj1 := HL.out
   clear hxp
   go_wp2
   go_roundw
   case rel => exact ⟨k + 1, by omega, by go_num, hM⟩
   case measure => simp [RowKit.intOf]; omega
  have q5 : (x.path == p) = false := beq_eq_false_iff_ne.2 hxp
  have q6 : (x.path = p) = False := eq_false hxp
  have q7 : (x.path != p) = true := by simpa using hxp
  have HQ := Lib.hid q7
  clear hxp
  obtain ⟨ks, hks⟩ : ∃ ks, ks = wo (l.take k) p := ⟨_, rfl⟩
  have hap := app_node wr w.heap.size _ ks x TL (by rw [hks]; exact hR.out.1) (by rw [hks]; exact Nat.le_trans (List.length_filter_le _ _) (by rw [List.length_take]; omega)) hR.out.2.size
  obtain ⟨vao, vcap, rfl⟩ := hR.out.1.shape
  rw [← hks] at hap
  have HKS := Lib.hid hks
  have HAP := Lib.hid hap
  rw [← hks]
  clear hap hks
  go_wp2_with (at_builtin; go_must (refine wpList_app rfl _ _ _ _ rfl _ _ rfl rfl _ HAP.out ?_))
  intro v4 w4 hR4
  have hM : Hid (OwnN w.heap.size w4 v4 (wo (l.take (k + 1)) p) ∧ Fp Non w w4) := ⟨by rw [HB.out.1, HQ.out]; have := hR4.own; rw [HKS.out] at this; simpa using this, hR.out.2.trans hR4.fp (fun k hk => .inr hk)⟩
  have hj1 := HL.out
  clear hR4
  go_wp2
  go_roundw
  case rel => exact ⟨k + 1, by omega, by go_num, hM⟩
  case measure => simp [RowKit.intOf]; omega
 have hke : k = n := by omega
 subst hke
 have q3 : ((k : Int) < (k : Int)) = False := eq_false (by omega)
 have hfin := hR.out.1
 rw [List.take_of_length_le (by rw [← HX.out.1]; exact Nat.le_refl _)] at hfin
 have HF := Lib.hid hfin
 clear hlt hk hfin
 go_wp2
 go_ret
 exact ⟨_, rfl, HF.out, hR.out.2⟩
theorem fold_take (x : Nd) (l : List Nd) (k : Nat) (hk : k < l.length) : (l.take (k + 1)).foldl (pstep x) ([], false) = pstep x ((l.take k).foldl (pstep x) ([], false)) l[k] := by
 rw [List.take_succ_eq_append_getElem hk, List.foldl_append]; rfl
theorem fold_len_take (x : Nd) (l : List Nd) (k : Nat) : ((l.take k).foldl (pstep x) ([], false)).1.length ≤ l.length + 1 := by
 have := fold_len x (l.take k)
 rw [List.length_take] at this; omega
theorem not_le2 {a b : Bs} (h : lt a b = true) : (Op.bytesLess b a || b == a) = false := by
 have h1 : Op.bytesLess b a = false := lt_asymm h
 have h2 : (b == a) = false := beq_eq_false_iff_ne.2 (lt_ne h).symm
 rw [h1, h2]; rfl
theorem le_of_not {a b : Bs} (h : lt a b = false) : (Op.bytesLess b a || b == a) = true := by
 rcases not_le_lt h with e | e
 ·subst e; simp
 have : Op.bytesLess b a = true := e
 rw [this]; rfl
theorem OwnN.low {lo lo' : Nat} {w : World} {v : Value} {l : List Nd} (h : OwnN lo w v l) (hl : lo' ≤ lo) : OwnN lo' w v l := by
 rcases h.2 with h0 | ⟨g, cap, cur, e, hb, rest⟩
 ·exact ⟨h.1, .inl h0⟩
 exact ⟨h.1, .inr ⟨g, cap, cur, e, Nat.le_trans hl hb, rest⟩⟩
set_option maxHeartbeats 8000000 in
theorem rPut_c (v : Value) (l : List Nd) (y : Nd) (w : World) (hv : Ns w v l) (hl : l.length ≤ 9000) :
  Calls Tryz.prog 62 #[v, .agg #[.string (B y.path), .string (B y.data), .int .i64 y.ver, .int .i64 y.turn, .int .i64 y.own]] w fun e w' => ∃ v', e = .returned v' ∧ OwnN w.heap.size w' v' (put l y) ∧ Fp Non w w' := by
 obtain ⟨ao, cap, rfl⟩ := hv.shape
 obtain ⟨n, hn⟩ : ∃ n, n = l.length := ⟨_, rfl⟩
 rw [← hn]
 have hf0 := fp_alloc w (.cells #[.string (B y.path), .string (B y.data), .int .i64 y.ver, .int .i64 y.turn, .int .i64 y.own] TN)
 have hb0 := heap_alloc_new w (.cells #[.string (B y.path), .string (B y.data), .int .i64 y.ver, .int .i64 y.turn, .int .i64 y.own] TN)
 have HX := Lib.hid (And.intro hn hv)
 have HB0 := Lib.hid (And.intro hf0 hb0)
 have hsz : (w.alloc (.cells #[.string (B y.path), .string (B y.data), .int .i64 y.ver, .int .i64 y.turn, .int .i64 y.own] TN)).heap.size = w.heap.size + 1 := by simp
 have HSZ := Lib.hid hsz
 clear hsz
 have hn6 : n ≤ 9000 := by omega
 have H0 : Hid (OwnN (w.heap.size + 1) (w.alloc (.cells #[.string (B y.path), .string (B y.data), .int .i64 y.ver, .int .i64 y.turn, .int .i64 y.own] TN)) (.slice none 0 0) ((l.take 0).foldl (pstep y) ([], false)).1 ∧ Fp Non (w.alloc (.cells #[.string (B y.path), .string (B y.data), .int .i64 y.ver, .int .i64 y.turn, .int .i64 y.own] TN)) (w.alloc (.cells #[.string (B y.path), .string (B y.data), .int .i64 y.ver, .int .i64 y.turn, .int .i64 y.own] TN))) := ⟨by rw [List.take_zero]; exact OwnN.nil _ _, Fp.refl _ _⟩
 clear hn hl hv hf0 hb0
 go_enter Tryz.func62, Tryz.ntmps62
 go_wp2_with fail
 go_loopw [5, 6, 7] (fun v dv i wr => ∃ k : Nat, k ≤ n ∧ i = .int .i64 k ∧ ∃ acc dn, dv = .bool dn ∧ Hid ((l.take k).foldl (pstep y) ([], false) = (acc, dn) ∧ OwnN (w.heap.size + 1) wr v acc ∧ Fp Non (w.alloc (.cells #[.string (B y.path), .string (B y.data), .int .i64 y.ver, .int .i64 y.turn, .int .i64 y.own] TN)) wr)) (fun _ _ i _ => n - (RowKit.intOf i).toNat)
 case atStart => exact ⟨0, Nat.zero_le _, rfl, [], false, rfl, rfl, H0.out.1, H0.out.2⟩
 clear H0
 obtain ⟨k, hk, rfl, acc, dn, rfl, hR⟩ := hrel
 rename_i wr _
 have hal : acc.length ≤ 9001 := by
  have := fold_len_take y l k
  rw [hR.out.1] at this
  have h2 := HX.out.1
  simp only at this; omega
 have HAL := Lib.hid hal
 have hby := hR.out.2.2.heap HB0.out.2 id
 have HBY := Lib.hid hby
 obtain ⟨vao, vcap, rfl⟩ := hR.out.2.1.shape
 by_cases hlt : k < n
 ·have hkl : k < l.length := by rw [← HX.out.1]; exact hlt
  have hns := HX.out.2.non (HB0.out.1.then hR.out.2.2)
  obtain ⟨g, o, cap', e, _, _, hgl, hcell⟩ := HX.out.2.at (by omega)
  injection e with e1 e2 e3
  subst e1 e3
  clear e2
  have hnd := (hcell k hkl).keep (HB0.out.1.then hR.out.2.2) id
  have hst := fold_take y l k hkl
  rw [hR.out.1] at hst
  have hgw : g < w.heap.size + 1 := Nat.lt_succ_of_lt hgl
  generalize l[k] = x at *
  have q3 : ((k : Int) < (n : Int)) = True := eq_true (by omega)
  have q4 : (k < n) = True := eq_true hlt
  have HST := Lib.hid hst
  have HND := Lib.hid hnd
  have HL := Lib.hid hlt
  have HG := Lib.hid hgw
  have hs6 : (wr.drew).cell? ⟨g, o + k * 5, none⟩ = some (.string (B x.path)) ∧ (wr.drew).cell? ⟨w.heap.size, 0, none⟩ = some (.string (B y.path)) :=
   ⟨(hnd.keep ((Fp.refl Non wr).drew) id).c0, (box5 ((Fp.refl Non wr).drew.heap hby id)).1⟩
  have HS6 := Lib.hid hs6
  clear hnd hcell hst hs6 hkl hlt hns hal hby hgl hgw
  cases dn with
  | true =>
   by_cases hxy : x.path = y.path
   ·have HM := Lib.hid (show pstep y (acc, true) x = (acc, true) by unfold pstep; simp [hxy])
    have qe1 : (x.path == y.path) = true := beq_iff_eq.2 hxy
    have qe2 : (x.path = y.path) = True := eq_true hxy
    have qe3 : (x.path != y.path) = false := by simp [hxy]
    clear hxy
    go_wp2_with fail
    refine wp_region_held_drew (S := (fun w' => w'.cell? ⟨g, o + k * 5, none⟩ = some (.string (B x.path)) ∧ w'.cell? ⟨w.heap.size, 0, none⟩ = some (.string (B y.path)))) (by kernel_rfl) ?_ (fun hH => ?_)
    ·exact HS6.out
    refine tk 0 hH ?_
    refine tk 1 hH ?_
    refine tk 2 hH ?_
    refine sk 3 hH ?_
    refine sk 4 hH ?_
    refine sk 5 hH ?_
    refine sk 6 hH ?_
    refine sk 7 hH ?_
    refine sk 8 hH ?_
    refine sk 9 hH ?_
    refine sk 10 hH ?_
    refine tk 11 hH ?_
    refine dn ?_
    have HO := Lib.hid (hR.out.2.1.non (Fp.refl Non wr).drew)
    have HFP := Lib.hid ((hR.out.2.2.then (Fp.refl Non wr).drew))
    have HXN := Lib.hid (HND.out.keep (Fp.refl Non wr).drew id)
    have HYB := Lib.hid ((Fp.refl Non wr).drew.heap HBY.out id)
    have hs9 : (wr.drew.drew).cell? ⟨g, o + k * 5, none⟩ = some (.string (B x.path)) ∧ (wr.drew.drew).cell? ⟨w.heap.size, 0, none⟩ = some (.string (B y.path)) :=
     ⟨(HXN.out.keep ((Fp.refl Non wr.drew).drew) id).c0, (box5 ((Fp.refl Non wr.drew).drew.heap HYB.out id)).1⟩
    have HS9 := Lib.hid hs9
    clear hs9
    go_wp2_with fail
    refine wp_region_held_drew (S := (fun w' => w'.cell? ⟨g, o + k * 5, none⟩ = some (.string (B x.path)) ∧ w'.cell? ⟨w.heap.size, 0, none⟩ = some (.string (B y.path)))) (by kernel_rfl) ?_ (fun hH => ?_)
    ·exact HS9.out
    refine tk 0 hH ?_
    refine tk 1 hH ?_
    refine tk 2 hH ?_
    refine tk 3 hH ?_
    refine tk 4 hH ?_
    refine tk 5 hH ?_
    refine tk 6 hH ?_
    refine tk 7 hH ?_
    refine dn ?_
    have hj := HL.out
    go_wp2
    go_roundw
    case rel => exact ⟨k + 1, by omega, by go_num, acc, true, rfl, HST.out.trans HM.out, HO.out.non (Fp.refl Non wr.drew).drew, HFP.out.then (Fp.refl Non wr.drew).drew⟩
    case measure => simp [RowKit.intOf]; omega
   have HM := Lib.hid (show pstep y (acc, true) x = (acc ++ [x], true) by unfold pstep; simp [hxy])
   have qe1 : (x.path == y.path) = false := beq_eq_false_iff_ne.2 hxy
   have qe2 : (x.path = y.path) = False := eq_false hxy
   have qe3 : (x.path != y.path) = true := by simpa using hxy
   clear hxy
   go_wp2_with fail
   refine wp_region_held_drew (S := (fun w' => w'.cell? ⟨g, o + k * 5, none⟩ = some (.string (B x.path)) ∧ w'.cell? ⟨w.heap.size, 0, none⟩ = some (.string (B y.path)))) (by kernel_rfl) ?_ (fun hH => ?_)
   ·exact HS6.out
   refine tk 0 hH ?_
   refine tk 1 hH ?_
   refine tk 2 hH ?_
   refine sk 3 hH ?_
   refine sk 4 hH ?_
   refine sk 5 hH ?_
   refine sk 6 hH ?_
   refine sk 7 hH ?_
   refine sk 8 hH ?_
   refine sk 9 hH ?_
   refine sk 10 hH ?_
   refine tk 11 hH ?_
   refine dn ?_
   have HO := Lib.hid (hR.out.2.1.non (Fp.refl Non wr).drew)
   have HFP := Lib.hid ((hR.out.2.2.then (Fp.refl Non wr).drew))
   have HXN := Lib.hid (HND.out.keep (Fp.refl Non wr).drew id)
   have HYB := Lib.hid ((Fp.refl Non wr).drew.heap HBY.out id)
   have hs9 : (wr.drew.drew).cell? ⟨g, o + k * 5, none⟩ = some (.string (B x.path)) ∧ (wr.drew.drew).cell? ⟨w.heap.size, 0, none⟩ = some (.string (B y.path)) :=
    ⟨(HXN.out.keep ((Fp.refl Non wr.drew).drew) id).c0, (box5 ((Fp.refl Non wr.drew).drew.heap HYB.out id)).1⟩
   have HS9 := Lib.hid hs9
   clear hs9
   go_wp2_with fail
   refine wp_region_held_drew (S := (fun w' => w'.cell? ⟨g, o + k * 5, none⟩ = some (.string (B x.path)) ∧ w'.cell? ⟨w.heap.size, 0, none⟩ = some (.string (B y.path)))) (by kernel_rfl) ?_ (fun hH => ?_)
   ·exact HS9.out
   refine tk 0 hH ?_
   refine tk 1 hH ?_
   refine tk 2 hH ?_
   refine tk 3 hH ?_
   refine tk 4 hH ?_
   refine tk 5 hH ?_
   refine tk 6 hH ?_
   refine tk 7 hH ?_
   refine dn ?_
   have hn9 := HXN.out.keep ((Fp.refl Non wr.drew).drew) id
   have c0 := hn9.c0; have c1 := hn9.c1; have c2 := hn9.c2; have c3 := hn9.c3; have c4 := hn9.c4
   unfold strV at c0 c1
   have hap := app_node wr.drew.drew (w.heap.size + 1) _ acc x TL (HO.out.non (Fp.refl Non wr.drew).drew) (by have := HAL.out; simp; omega) (by have := (HFP.out.then (Fp.refl Non wr.drew).drew).size; rw [HSZ.out] at this; exact this)
   have HAP := Lib.hid hap
   clear hap hn9
   go_wp2_with (at_builtin; go_must (refine wpList_app rfl _ _ _ _ rfl _ _ rfl rfl _ HAP.out ?_))
   intro v5 w5 hR5
   have HR5 := Lib.hid hR5
   clear hR5 c0 c1 c2 c3 c4
   have hj := HL.out
   go_wp2
   go_roundw
   case rel => exact ⟨k + 1, by omega, by go_num, acc ++ [x], true, rfl, HST.out.trans HM.out, (by have h5 := HR5.out.own; simpa using h5), (HFP.out.then (Fp.refl Non wr.drew).drew).trans HR5.out.fp (fun k hk => .inr (by rw [HSZ.out]; exact hk))⟩
   case measure => simp [RowKit.intOf]; omega
  | false => ?_
  by_cases hlo : lt x.path y.path = true
  ·have hxy := lt_ne hlo
   have HM := Lib.hid (show pstep y (acc, false) x = (acc ++ [x], false) by unfold pstep; simp [hxy, hlo])
   have ql1 : Op.bytesLess x.path y.path = true := hlo
   have ql2 : (Op.bytesLess y.path x.path || y.path == x.path) = false := not_le2 hlo
   clear hlo
   have qe1 : (x.path == y.path) = false := beq_eq_false_iff_ne.2 hxy
   have qe2 : (x.path = y.path) = False := eq_false hxy
   have qe3 : (x.path != y.path) = true := by simpa using hxy
   clear hxy
   go_wp2_with fail
   refine wp_region_held_drew (S := (fun w' => w'.cell? ⟨g, o + k * 5, none⟩ = some (.string (B x.path)) ∧ w'.cell? ⟨w.heap.size, 0, none⟩ = some (.string (B y.path)))) (by kernel_rfl) ?_ (fun hH => ?_)
   ·exact HS6.out
   refine tk 0 hH ?_
   refine tk 1 hH ?_
   refine tk 2 hH ?_
   refine tk 3 hH ?_
   refine tk 4 hH ?_
   refine tk 5 hH ?_
   refine tk 6 hH ?_
   refine tk 7 hH ?_
   refine tk 8 hH ?_
   refine tk 9 hH ?_
   refine tk 10 hH ?_
   refine tk 11 hH ?_
   refine dn ?_
   have HO := Lib.hid (hR.out.2.1.non (Fp.refl Non wr).drew)
   have HFP := Lib.hid ((hR.out.2.2.then (Fp.refl Non wr).drew))
   have HXN := Lib.hid (HND.out.keep (Fp.refl Non wr).drew id)
   have HYB := Lib.hid ((Fp.refl Non wr).drew.heap HBY.out id)
   have hs9 : (wr.drew.drew).cell? ⟨g, o + k * 5, none⟩ = some (.string (B x.path)) ∧ (wr.drew.drew).cell? ⟨w.heap.size, 0, none⟩ = some (.string (B y.path)) :=
    ⟨(HXN.out.keep ((Fp.refl Non wr.drew).drew) id).c0, (box5 ((Fp.refl Non wr.drew).drew.heap HYB.out id)).1⟩
   have HS9 := Lib.hid hs9
   clear hs9
   go_wp2_with fail
   refine wp_region_held_drew (S := (fun w' => w'.cell? ⟨g, o + k * 5, none⟩ = some (.string (B x.path)) ∧ w'.cell? ⟨w.heap.size, 0, none⟩ = some (.string (B y.path)))) (by kernel_rfl) ?_ (fun hH => ?_)
   ·exact HS9.out
   refine tk 0 hH ?_
   refine tk 1 hH ?_
   refine tk 2 hH ?_
   refine tk 3 hH ?_
   refine tk 4 hH ?_
   refine tk 5 hH ?_
   refine tk 6 hH ?_
   refine tk 7 hH ?_
   refine dn ?_
   have hn9 := HXN.out.keep ((Fp.refl Non wr.drew).drew) id
   have c0 := hn9.c0; have c1 := hn9.c1; have c2 := hn9.c2; have c3 := hn9.c3; have c4 := hn9.c4
   unfold strV at c0 c1
   have hap := app_node wr.drew.drew (w.heap.size + 1) _ acc x TL (HO.out.non (Fp.refl Non wr.drew).drew) (by have := HAL.out; simp; omega) (by have := (HFP.out.then (Fp.refl Non wr.drew).drew).size; rw [HSZ.out] at this; exact this)
   have HAP := Lib.hid hap
   clear hap hn9
   go_wp2_with (at_builtin; go_must (refine wpList_app rfl _ _ _ _ rfl _ _ rfl rfl _ HAP.out ?_))
   intro v5 w5 hR5
   have HR5 := Lib.hid hR5
   clear hR5 c0 c1 c2 c3 c4
   have hj := HL.out
   go_wp2
   go_roundw
   case rel => exact ⟨k + 1, by omega, by go_num, acc ++ [x], false, rfl, HST.out.trans HM.out, (by have h5 := HR5.out.own; simpa using h5), (HFP.out.then (Fp.refl Non wr.drew).drew).trans HR5.out.fp (fun k hk => .inr (by rw [HSZ.out]; exact hk))⟩
   case measure => simp [RowKit.intOf]; omega
  have hlo2 : lt x.path y.path = false := by simpa using hlo
  have ql1 : Op.bytesLess x.path y.path = false := hlo2
  have ql2 : (Op.bytesLess y.path x.path || y.path == x.path) = true := le_of_not hlo2
  by_cases hxy : x.path = y.path
  ·have HM := Lib.hid (show pstep y (acc, false) x = (acc ++ [y], true) by unfold pstep; dsimp only; rw [if_pos hxy, if_pos ⟨rfl, hlo2⟩])
   clear hlo hlo2
   have qe1 : (x.path == y.path) = true := beq_iff_eq.2 hxy
   have qe2 : (x.path = y.path) = True := eq_true hxy
   have qe3 : (x.path != y.path) = false := by simp [hxy]
   clear hxy
   go_wp2_with fail
   refine wp_region_held_drew (S := (fun w' => w'.cell? ⟨g, o + k * 5, none⟩ = some (.string (B x.path)) ∧ w'.cell? ⟨w.heap.size, 0, none⟩ = some (.string (B y.path)))) (by kernel_rfl) ?_ (fun hH => ?_)
   ·exact HS6.out
   refine tk 0 hH ?_
   refine tk 1 hH ?_
   refine tk 2 hH ?_
   refine tk 3 hH ?_
   refine tk 4 hH ?_
   refine tk 5 hH ?_
   refine tk 6 hH ?_
   refine tk 7 hH ?_
   refine tk 8 hH ?_
   refine tk 9 hH ?_
   refine tk 10 hH ?_
   refine tk 11 hH ?_
   refine dn ?_
   have HO := Lib.hid (hR.out.2.1.non (Fp.refl Non wr).drew)
   have HFP := Lib.hid ((hR.out.2.2.then (Fp.refl Non wr).drew))
   have HXN := Lib.hid (HND.out.keep (Fp.refl Non wr).drew id)
   have HYB := Lib.hid ((Fp.refl Non wr).drew.heap HBY.out id)
   obtain ⟨y0, y1, y2, y3, y4⟩ := box5 HYB.out
   have hap := app_node wr.drew (w.heap.size + 1) _ acc y TL HO.out (by have := HAL.out; omega) (by have := HFP.out.size; rw [HSZ.out] at this; exact this)
   have HAP := Lib.hid hap
   clear hap
   go_wp2_with (at_builtin; go_must (refine wpList_app rfl _ _ _ _ rfl _ _ rfl rfl _ HAP.out ?_))
   intro v4 w4 hR4
   obtain ⟨a4, c4', rfl⟩ := hR4.own.shape
   have HO4 := Lib.hid hR4.own
   have HFP4 := Lib.hid (HFP.out.trans hR4.fp (fun k hk => .inr (by rw [HSZ.out]; exact hk)))
   have HXN4 := Lib.hid (HXN.out.keep hR4.fp (Nat.not_le.2 HG.out))
   have HYB4 := Lib.hid (hR4.fp.heap HYB.out (Nat.not_le.2 (Nat.lt_succ_self _)))
   clear hR4 y0 y1 y2 y3 y4 HAP HO HFP HXN HYB
   have HO := HO4
   have HFP := HFP4
   have HXN := HXN4
   have HYB := HYB4
   have hs9 : (w4.drew).cell? ⟨g, o + k * 5, none⟩ = some (.string (B x.path)) ∧ (w4.drew).cell? ⟨w.heap.size, 0, none⟩ = some (.string (B y.path)) :=
    ⟨(HXN.out.keep ((Fp.refl Non w4).drew) id).c0, (box5 ((Fp.refl Non w4).drew.heap HYB.out id)).1⟩
   have HS9 := Lib.hid hs9
   clear hs9
   go_wp2_with fail
   refine wp_region_held_drew (S := (fun w' => w'.cell? ⟨g, o + k * 5, none⟩ = some (.string (B x.path)) ∧ w'.cell? ⟨w.heap.size, 0, none⟩ = some (.string (B y.path)))) (by kernel_rfl) ?_ (fun hH => ?_)
   ·exact HS9.out
   refine tk 0 hH ?_
   refine tk 1 hH ?_
   refine tk 2 hH ?_
   refine tk 3 hH ?_
   refine tk 4 hH ?_
   refine tk 5 hH ?_
   refine tk 6 hH ?_
   refine tk 7 hH ?_
   refine dn ?_
   have hj := HL.out
   go_wp2
   go_roundw
   case rel => exact ⟨k + 1, by omega, by go_num, (acc ++ [y]), true, rfl, HST.out.trans HM.out, HO.out.non (Fp.refl Non w4).drew, HFP.out.then (Fp.refl Non w4).drew⟩
   case measure => simp [RowKit.intOf]; omega
  have HM := Lib.hid (show pstep y (acc, false) x = (acc ++ [y] ++ [x], true) by unfold pstep; dsimp only; rw [if_neg hxy, if_pos ⟨rfl, hlo2⟩])
  clear hlo hlo2
  have qe1 : (x.path == y.path) = false := beq_eq_false_iff_ne.2 hxy
  have qe2 : (x.path = y.path) = False := eq_false hxy
  have qe3 : (x.path != y.path) = true := by simpa using hxy
  clear hxy
  go_wp2_with fail
  refine wp_region_held_drew (S := (fun w' => w'.cell? ⟨g, o + k * 5, none⟩ = some (.string (B x.path)) ∧ w'.cell? ⟨w.heap.size, 0, none⟩ = some (.string (B y.path)))) (by kernel_rfl) ?_ (fun hH => ?_)
  ·exact HS6.out
  refine tk 0 hH ?_
  refine tk 1 hH ?_
  refine tk 2 hH ?_
  refine tk 3 hH ?_
  refine tk 4 hH ?_
  refine tk 5 hH ?_
  refine tk 6 hH ?_
  refine tk 7 hH ?_
  refine tk 8 hH ?_
  refine tk 9 hH ?_
  refine tk 10 hH ?_
  refine tk 11 hH ?_
  refine dn ?_
  have HO := Lib.hid (hR.out.2.1.non (Fp.refl Non wr).drew)
  have HFP := Lib.hid ((hR.out.2.2.then (Fp.refl Non wr).drew))
  have HXN := Lib.hid (HND.out.keep (Fp.refl Non wr).drew id)
  have HYB := Lib.hid ((Fp.refl Non wr).drew.heap HBY.out id)
  obtain ⟨y0, y1, y2, y3, y4⟩ := box5 HYB.out
  have hap := app_node wr.drew (w.heap.size + 1) _ acc y TL HO.out (by have := HAL.out; omega) (by have := HFP.out.size; rw [HSZ.out] at this; exact this)
  have HAP := Lib.hid hap
  clear hap
  go_wp2_with (at_builtin; go_must (refine wpList_app rfl _ _ _ _ rfl _ _ rfl rfl _ HAP.out ?_))
  intro v4 w4 hR4
  obtain ⟨a4, c4', rfl⟩ := hR4.own.shape
  have HO4 := Lib.hid hR4.own
  have HFP4 := Lib.hid (HFP.out.trans hR4.fp (fun k hk => .inr (by rw [HSZ.out]; exact hk)))
  have HXN4 := Lib.hid (HXN.out.keep hR4.fp (Nat.not_le.2 HG.out))
  have HYB4 := Lib.hid (hR4.fp.heap HYB.out (Nat.not_le.2 (Nat.lt_succ_self _)))
  clear hR4 y0 y1 y2 y3 y4 HAP HO HFP HXN HYB
  have HO := HO4
  have HFP := HFP4
  have HXN := HXN4
  have HYB := HYB4
  have hs9 : (w4.drew).cell? ⟨g, o + k * 5, none⟩ = some (.string (B x.path)) ∧ (w4.drew).cell? ⟨w.heap.size, 0, none⟩ = some (.string (B y.path)) :=
   ⟨(HXN.out.keep ((Fp.refl Non w4).drew) id).c0, (box5 ((Fp.refl Non w4).drew.heap HYB.out id)).1⟩
  have HS9 := Lib.hid hs9
  clear hs9
  go_wp2_with fail
  refine wp_region_held_drew (S := (fun w' => w'.cell? ⟨g, o + k * 5, none⟩ = some (.string (B x.path)) ∧ w'.cell? ⟨w.heap.size, 0, none⟩ = some (.string (B y.path)))) (by kernel_rfl) ?_ (fun hH => ?_)
  ·exact HS9.out
  refine tk 0 hH ?_
  refine tk 1 hH ?_
  refine tk 2 hH ?_
  refine tk 3 hH ?_
  refine tk 4 hH ?_
  refine tk 5 hH ?_
  refine tk 6 hH ?_
  refine tk 7 hH ?_
  refine dn ?_
  have hn9 := HXN.out.keep ((Fp.refl Non w4).drew) id
  have c0 := hn9.c0; have c1 := hn9.c1; have c2 := hn9.c2; have c3 := hn9.c3; have c4 := hn9.c4
  unfold strV at c0 c1
  have hap := app_node w4.drew (w.heap.size + 1) _ (acc ++ [y]) x TL (HO.out.non (Fp.refl Non w4).drew) (by have := HAL.out; simp; omega) (by have := (HFP.out.then (Fp.refl Non w4).drew).size; rw [HSZ.out] at this; exact this)
  have HAP := Lib.hid hap
  clear hap hn9
  go_wp2_with (at_builtin; go_must (refine wpList_app rfl _ _ _ _ rfl _ _ rfl rfl _ HAP.out ?_))
  intro v5 w5 hR5
  have HR5 := Lib.hid hR5
  clear hR5 c0 c1 c2 c3 c4
  have hj := HL.out
  go_wp2
  go_roundw
  case rel => exact ⟨k + 1, by omega, by go_num, (acc ++ [y]) ++ [x], true, rfl, HST.out.trans HM.out, (by have h5 := HR5.out.own; simpa using h5), (HFP.out.then (Fp.refl Non w4).drew).trans HR5.out.fp (fun k hk => .inr (by rw [HSZ.out]; exact hk))⟩
  case measure => simp [RowKit.intOf]; omega
 have hke : k = n := by omega
 subst hke
 have q3 : ((k : Int) < (k : Int)) = False := eq_false (by omega)
 have hfin := hR.out.1
 rw [List.take_of_length_le (by rw [← HX.out.1]; exact Nat.le_refl _)] at hfin
 have hput := pstep_put y l []
 rw [hfin, List.nil_append] at hput
 have HPT := Lib.hid hput
 clear hlt hk hfin hput
 cases dn with
 | true =>
  go_wp2
  go_ret
  exact ⟨_, rfl, by have := HPT.out; simp only [if_true] at this; rw [← this]; exact hR.out.2.1.low (Nat.le_succ _), HB0.out.1.then hR.out.2.2⟩
 | false => ?_
 have hap := app_node wr (w.heap.size + 1) _ acc y TL hR.out.2.1 (by have := HAL.out; omega) (by have := hR.out.2.2.size; rw [HSZ.out] at this; exact this)
 have HAP := Lib.hid hap
 obtain ⟨s0, s1, s2, s3, s4⟩ := box5 hby
 clear hap hal hby
 go_wp2_with (at_builtin; go_must (refine wpList_app rfl _ _ _ _ rfl _ _ rfl rfl _ HAP.out ?_))
 intro v4 w4 hR4
 have HR4 := Lib.hid hR4
 clear hR4 s0 s1 s2 s3 s4
 go_wp2
 go_ret
 exact ⟨_, rfl, by have := HPT.out; simp only [Bool.false_eq_true, if_false] at this; rw [← this]; exact HR4.out.own.low (Nat.le_succ _), HB0.out.1.then (hR.out.2.2.trans HR4.out.fp (fun k hk => .inr (by rw [HSZ.out]; exact hk)))⟩
end Go.Proofs.YtphoglepiegeiaaGreatDoor
