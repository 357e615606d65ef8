/- A text of this proof. -/
import Derived.Test.YtphoglepiegeiaaGreatDoorZCC
import Derived.Test.YtphoglepiegeiaaGreatDoorZCH
import Derived.Test.YtphoglepiegeiaaGreatDoorZCK
import Derived.Test.YtphoglepiegeiaaGreatDoorZCX
set_option linter.unusedSimpArgs false
set_option linter.unusedVariables false
namespace Go.Proofs.YtphoglepiegeiaaGreatDoor
set_option maxRecDepth 20000
open Go.RowKit Pm
namespace Pm
def wo (l : List Nd) (p : Bs) : List Nd := l.filter (fun n => n.path != p)
theorem wo_take (l : List Nd) (p : Bs) (k : Nat) (hk : k < l.length) : wo (l.take (k + 1)) p = wo (l.take k) p ++ if (l[k].path != p) = true then [l[k]] else [] := by
 unfold wo
 rw [List.take_succ_eq_append_getElem hk, List.filter_append]
 congr 1
 rw [List.filter_cons, List.filter_nil]
def pstep (x : Nd) (s : List Nd × Bool) (a : Nd) : List Nd × Bool :=
 let s1 := if s.2 = false ∧ lt a.path x.path = false then (s.1 ++ [x], true) else s
 if a.path = x.path then s1 else (s1.1 ++ [a], s1.2)
theorem pstep_done (x : Nd) : ∀ (l acc : List Nd), l.foldl (pstep x) (acc, true) = (acc ++ l.filter (fun n => n.path != x.path), true)
 | [], acc => by simp
 | a :: l, acc => by
  rw [List.foldl_cons]
  by_cases h : a.path = x.path
  ·have e : pstep x (acc, true) a = (acc, true) := by unfold pstep; simp [h]
   rw [e, pstep_done x l acc, List.filter_cons, if_neg (by simp [h])]
  have e : pstep x (acc, true) a = (acc ++ [a], true) := by unfold pstep; simp [h]
  rw [e, pstep_done x l _, List.filter_cons, if_pos (by simpa using h)]; simp
theorem pstep_put (x : Nd) : ∀ (l acc : List Nd), (if (l.foldl (pstep x) (acc, false)).2 = true then (l.foldl (pstep x) (acc, false)).1 else (l.foldl (pstep x) (acc, false)).1 ++ [x]) = acc ++ put l x
 | [], acc => by simp [put]
 | a :: l, acc => by
  rw [List.foldl_cons, put]
  by_cases hb : lt a.path x.path = true
  ·have hne := lt_ne hb
   have e : pstep x (acc, false) a = (acc ++ [a], false) := by unfold pstep; simp [hb, hne]
   rw [e, pstep_put x l (acc ++ [a]), if_pos hb]; simp
  have hb2 : lt a.path x.path = false := by simpa using hb
  rw [if_neg hb]
  by_cases h : a.path = x.path
  ·have e : pstep x (acc, false) a = (acc ++ [x], true) := by unfold pstep; dsimp only; rw [if_pos h, if_pos ⟨rfl, hb2⟩]
   rw [e, pstep_done, if_pos rfl, List.filter_cons, if_neg (by simp [h])]; simp
  have e : pstep x (acc, false) a = (acc ++ [x] ++ [a], true) := by unfold pstep; dsimp only; rw [if_neg h, if_pos ⟨rfl, hb2⟩]
  rw [e, pstep_done, if_pos rfl, List.filter_cons, if_pos (by simpa using h)]; simp
theorem put_len (l : List Nd) (x : Nd) : (put l x).length ≤ l.length + 1 := by
 induction l with
 | nil => simp [put]
 | cons a l ih =>
  rw [put]; split
  ·simp; exact ih
  have := List.length_filter_le (fun n => n.path != x.path) (a :: l)
  simp only [List.length_cons] at this ⊢; omega
theorem fold_len (x : Nd) (l : List Nd) : (l.foldl (pstep x) ([], false)).1.length ≤ l.length + 1 := by
 have h := congrArg List.length (pstep_put x l [])
 rw [List.nil_append] at h
 have h2 := put_len l x
 split at h
 ·omega
 rw [List.length_append] at h; simp only [List.length_cons, List.length_nil] at h; omega
end Pm
set_option maxHeartbeats 8000000 in
theorem rWithout_c (v : Value) (l : List Nd) (p : Bs) (w : World) (hv : Ns w v l) (hs : Sp l) (hl : l.length ≤ 9000) :
  Calls Tryz.prog 113 #[v, .string (B p)] w fun e w' => ∃ v', e = .returned v' ∧ OwnN w.heap.size w' v' (wo l p) ∧ Fp Non w w' := by
 obtain ⟨ao, cap, rfl⟩ := hv.shape
 obtain ⟨n, hn⟩ : ∃ n, n = l.length := ⟨_, rfl⟩
 rw [← hn]
 have HX := zI (yI hn (yI hs hv))
 have hn6 : n ≤ 9000 := by omega
 have H0 : Hid (OwnN w.heap.size w (.slice none 0 0) (wo (l.take 0) p) ∧ Fp Non w w) := ⟨by rw [List.take_zero]; exact OwnN.nil _ _, Fp.refl _ _⟩
 clear hs hn hl hv
 go_enter Tryz.func113, Tryz.ntmps113
 go_wp2_with fail
 go_loopw [5, 6] (fun v i wr => ∃ k : Nat, k ≤ n ∧ i = .int .i64 k ∧ Hid (OwnN w.heap.size wr v (wo (l.take k) p) ∧ Fp Non w wr)) (fun _ i _ => n - (RowKit.intOf i).toNat)
 case atStart => exact ⟨0, Nat.zero_le _, rfl, H0⟩
 clear H0
 obtain ⟨k, hk, rfl, hR⟩ := hrel
 rename_i wr _
 by_cases hlt : k < n
 ·have hkl : k < l.length := by rw [← HX.out.1]; exact hlt
  obtain ⟨g, o, cap', e, _, _, _, hcell⟩ := HX.out.2.2.at (by omega)
  injection e with e1 e2 e3
  subst e1 e3
  clear e2
  have hnd := (hcell k hkl).keep hR.out.2 id
  have hstep := wo_take l p k hkl
  generalize l[k] = x at *
  have c0 := hnd.c0; have c1 := hnd.c1; have c2 := hnd.c2; have c3 := hnd.c3; have c4 := hnd.c4
  unfold strV at c0 c1
  have q3 : ((k : Int) < (n : Int)) = True := eq_true (by omega)
  have q4 : (k < n) = True := eq_true hlt
  have HB := zI (yI hstep hnd)
  have HL := zI hlt
  clear hnd hstep hkl hlt hcell
  by_cases hxp : x.path = p
  ·have q5 : (x.path == p) = true := beq_iff_eq.2 hxp
   have q6 : (x.path = p) = True := eq_true hxp
   have q7 : (x.path != p) = false := by simp [hxp]
   have hM : Hid (OwnN w.heap.size wr _ (wo (l.take (k + 1)) p) ∧ Fp Non w wr) := ⟨by rw [HB.out.1, q7]; simpa using hR.out.1, hR.out.2⟩
   have hj1 := HL.out
   clear hxp
   go_wp2
   go_roundw
   case rel => exact ⟨k + 1, by omega, by go_num, hM⟩
   case measure => simp [RowKit.intOf]; omega
  have q5 : (x.path == p) = false := beq_eq_false_iff_ne.2 hxp
  have q6 : (x.path = p) = False := eq_false hxp
  have q7 : (x.path != p) = true := by simpa using hxp
  have HQ := zI q7
  clear hxp
  obtain ⟨ks, hks⟩ : ∃ ks, ks = wo (l.take k) p := ⟨_, rfl⟩
  have hap := app_node wr w.heap.size _ ks x TL (by rw [hks]; exact hR.out.1) (by rw [hks]; exact Nat.le_trans (List.length_filter_le _ _) (by rw [List.length_take]; omega)) hR.out.2.size
  obtain ⟨vao, vcap, rfl⟩ := hR.out.1.shape
  rw [← hks] at hap
  have HKS := zI hks
  have HAP := zI hap
  rw [← hks]
  clear hap hks
  go_wp2_with (at_builtin; go_must (refine wpList_app rfl _ _ _ _ rfl _ _ rfl rfl _ HAP.out ?_))
  intro v4 w4 hR4
  have hM : Hid (OwnN w.heap.size w4 v4 (wo (l.take (k + 1)) p) ∧ Fp Non w w4) := ⟨by rw [HB.out.1, HQ.out]; have := hR4.own; rw [HKS.out] at this; simpa using this, hR.out.2.trans hR4.fp (fun k hk => .inr hk)⟩
  have hj1 := HL.out
  clear hR4
  go_wp2
  go_roundw
  case rel => exact ⟨k + 1, by omega, by go_num, hM⟩
  case measure => simp [RowKit.intOf]; omega
 have hke : k = n := by omega
 subst hke
 have q3 : ((k : Int) < (k : Int)) = False := eq_false (by omega)
 have hfin := hR.out.1
 rw [List.take_of_length_le (by rw [← HX.out.1]; exact Nat.le_refl _)] at hfin
 have HF := zI hfin
 clear hlt hk hfin
 go_wp2
 go_ret
 exact ⟨_, rfl, HF.out, hR.out.2⟩
theorem fold_take (x : Nd) (l : List Nd) (k : Nat) (hk : k < l.length) : (l.take (k + 1)).foldl (pstep x) ([], false) = pstep x ((l.take k).foldl (pstep x) ([], false)) l[k] := by
 rw [List.take_succ_eq_append_getElem hk, List.foldl_append]; rfl
theorem fold_len_take (x : Nd) (l : List Nd) (k : Nat) : ((l.take k).foldl (pstep x) ([], false)).1.length ≤ l.length + 1 := by
 have := fold_len x (l.take k)
 rw [List.length_take] at this; omega
theorem not_le2 {a b : Bs} (h : lt a b = true) : (Op.bytesLess b a || b == a) = false := by
 have h1 : Op.bytesLess b a = false := lt_asymm h
 have h2 : (b == a) = false := beq_eq_false_iff_ne.2 (lt_ne h).symm
 rw [h1, h2]; rfl
theorem le_of_not {a b : Bs} (h : lt a b = false) : (Op.bytesLess b a || b == a) = true := by
 rcases not_le_lt h with e | e
 ·subst e; simp
 have : Op.bytesLess b a = true := e
 rw [this]; rfl
theorem OwnN.low {lo lo' : Nat} {w : World} {v : Value} {l : List Nd} (h : OwnN lo w v l) (hl : lo' ≤ lo) : OwnN lo' w v l := by
 rcases h.2 with h0 | ⟨g, cap, cur, e, hb, rest⟩
 ·exact ⟨h.1, .inl h0⟩
 exact ⟨h.1, .inr ⟨g, cap, cur, e, Nat.le_trans hl hb, rest⟩⟩
set_option maxHeartbeats 8000000 in
theorem rPut_c (v : Value) (l : List Nd) (y : Nd) (w : World) (hv : Ns w v l) (hl : l.length ≤ 9000) :
  Calls Tryz.prog 62 #[v, .agg #[.string (B y.path), .string (B y.data), .int .i64 y.ver, .int .i64 y.turn, .int .i64 y.own]] w fun e w' => ∃ v', e = .returned v' ∧ OwnN w.heap.size w' v' (put l y) ∧ Fp Non w w' := by
 obtain ⟨ao, cap, rfl⟩ := hv.shape
 obtain ⟨n, hn⟩ : ∃ n, n = l.length := ⟨_, rfl⟩
 rw [← hn]
 have hf0 := fp_alloc w (.cells #[.string (B y.path), .string (B y.data), .int .i64 y.ver, .int .i64 y.turn, .int .i64 y.own] TN)
 have hb0 := heap_alloc_new w (.cells #[.string (B y.path), .string (B y.data), .int .i64 y.ver, .int .i64 y.turn, .int .i64 y.own] TN)
 have HX := zI (yI hn hv)
 have HB0 := zI (yI hf0 hb0)
 have hsz : (w.alloc (.cells #[.string (B y.path), .string (B y.data), .int .i64 y.ver, .int .i64 y.turn, .int .i64 y.own] TN)).heap.size = w.heap.size + 1 := by simp
 have HSZ := zI hsz
 clear hsz
 have hn6 : n ≤ 9000 := by omega
 have H0 : Hid (OwnN (w.heap.size + 1) (w.alloc (.cells #[.string (B y.path), .string (B y.data), .int .i64 y.ver, .int .i64 y.turn, .int .i64 y.own] TN)) (.slice none 0 0) ((l.take 0).foldl (pstep y) ([], false)).1 ∧ Fp Non (w.alloc (.cells #[.string (B y.path), .string (B y.data), .int .i64 y.ver, .int .i64 y.turn, .int .i64 y.own] TN)) (w.alloc (.cells #[.string (B y.path), .string (B y.data), .int .i64 y.ver, .int .i64 y.turn, .int .i64 y.own] TN))) := ⟨by rw [List.take_zero]; exact OwnN.nil _ _, Fp.refl _ _⟩
 clear hn hl hv hf0 hb0
 go_enter Tryz.func62, Tryz.ntmps62
 go_wp2_with fail
 go_loopw [5, 6, 7] (fun v dv i wr => ∃ k : Nat, k ≤ n ∧ i = .int .i64 k ∧ ∃ acc dn, dv = .bool dn ∧ Hid ((l.take k).foldl (pstep y) ([], false) = (acc, dn) ∧ OwnN (w.heap.size + 1) wr v acc ∧ Fp Non (w.alloc (.cells #[.string (B y.path), .string (B y.data), .int .i64 y.ver, .int .i64 y.turn, .int .i64 y.own] TN)) wr)) (fun _ _ i _ => n - (RowKit.intOf i).toNat)
 case atStart => exact ⟨0, Nat.zero_le _, rfl, [], false, rfl, rfl, H0.out.1, H0.out.2⟩
 clear H0
 obtain ⟨k, hk, rfl, acc, dn, rfl, hR⟩ := hrel
 rename_i wr _
 have hal : acc.length ≤ 9001 := by
  have := fold_len_take y l k
  rw [hR.out.1] at this
  have h2 := HX.out.1
  simp only at this; omega
 have HAL := zI hal
 have hby := hR.out.2.2.heap HB0.out.2 id
 have HBY := zI hby
 obtain ⟨vao, vcap, rfl⟩ := hR.out.2.1.shape
 by_cases hlt : k < n
 ·have hkl : k < l.length := by rw [← HX.out.1]; exact hlt
  have hns := HX.out.2.non (HB0.out.1.then hR.out.2.2)
  obtain ⟨g, o, cap', e, _, _, hgl, hcell⟩ := HX.out.2.at (by omega)
  injection e with e1 e2 e3
  subst e1 e3
  clear e2
  have hnd := (hcell k hkl).keep (HB0.out.1.then hR.out.2.2) id
  have hst := fold_take y l k hkl
  rw [hR.out.1] at hst
  have hgw : g < w.heap.size + 1 := Nat.lt_succ_of_lt hgl
  generalize l[k] = x at *
  have q3 : ((k : Int) < (n : Int)) = True := eq_true (by omega)
  have q4 : (k < n) = True := eq_true hlt
  have HST := zI hst
  have HND := zI hnd
  have HL := zI hlt
  have HG := zI hgw
  have hs6 : (wr.drew).cell? ⟨g, o + k * 5, none⟩ = some (.string (B x.path)) ∧ (wr.drew).cell? ⟨w.heap.size, 0, none⟩ = some (.string (B y.path)) :=
   ⟨(hnd.keep ((Fp.refl Non wr).drew) id).c0, (box5 ((Fp.refl Non wr).drew.heap hby id)).1⟩
  have HS6 := zI hs6
  clear hnd hcell hst hs6 hkl hlt hns hal hby hgl hgw
  cases dn with
  | true =>
   by_cases hxy : x.path = y.path
   ·have HM := zI (show pstep y (acc, true) x = (acc, true) by unfold pstep; simp [hxy])
    have qe1 : (x.path == y.path) = true := beq_iff_eq.2 hxy
    have qe2 : (x.path = y.path) = True := eq_true hxy
    have qe3 : (x.path != y.path) = false := by simp [hxy]
    clear hxy
    go_wp2_with fail
    refine wp_region_held_drew (S := (fun w' => w'.cell? ⟨g, o + k * 5, none⟩ = some (.string (B x.path)) ∧ w'.cell? ⟨w.heap.size, 0, none⟩ = some (.string (B y.path)))) (by kernel_rfl) ?_ (fun hH => ?_)
    ·exact HS6.out
    refine tk 0 hH ?_
    refine tk 1 hH ?_
    refine tk 2 hH ?_
    refine sk 3 hH ?_
    refine sk 4 hH ?_
    refine sk 5 hH ?_
    refine sk 6 hH ?_
    refine sk 7 hH ?_
    refine sk 8 hH ?_
    refine sk 9 hH ?_
    refine sk 10 hH ?_
    refine tk 11 hH ?_
    refine wpAnyH_done (by kernel_rfl) ?_ _
    have HO := zI (hR.out.2.1.non (Fp.refl Non wr).drew)
    have HFP := zI ((hR.out.2.2.then (Fp.refl Non wr).drew))
    have HXN := zI (HND.out.keep (Fp.refl Non wr).drew id)
    have HYB := zI ((Fp.refl Non wr).drew.heap HBY.out id)
    have hs9 : (wr.drew.drew).cell? ⟨g, o + k * 5, none⟩ = some (.string (B x.path)) ∧ (wr.drew.drew).cell? ⟨w.heap.size, 0, none⟩ = some (.string (B y.path)) :=
     ⟨(HXN.out.keep ((Fp.refl Non wr.drew).drew) id).c0, (box5 ((Fp.refl Non wr.drew).drew.heap HYB.out id)).1⟩
    have HS9 := zI hs9
    clear hs9
    go_wp2_with fail
    refine wp_region_held_drew (S := (fun w' => w'.cell? ⟨g, o + k * 5, none⟩ = some (.string (B x.path)) ∧ w'.cell? ⟨w.heap.size, 0, none⟩ = some (.string (B y.path)))) (by kernel_rfl) ?_ (fun hH => ?_)
    ·exact HS9.out
    refine tk 0 hH ?_
    refine tk 1 hH ?_
    refine tk 2 hH ?_
    refine tk 3 hH ?_
    refine tk 4 hH ?_
    refine tk 5 hH ?_
    refine tk 6 hH ?_
    refine tk 7 hH ?_
    refine wpAnyH_done (by kernel_rfl) ?_ _
    have hj := HL.out
    go_wp2
    go_roundw
    case rel => exact ⟨k + 1, by omega, by go_num, acc, true, rfl, HST.out.trans HM.out, HO.out.non (Fp.refl Non wr.drew).drew, HFP.out.then (Fp.refl Non wr.drew).drew⟩
    case measure => simp [RowKit.intOf]; omega
   have HM := zI (show pstep y (acc, true) x = (acc ++ [x], true) by unfold pstep; simp [hxy])
   have qe1 : (x.path == y.path) = false := beq_eq_false_iff_ne.2 hxy
   have qe2 : (x.path = y.path) = False := eq_false hxy
   have qe3 : (x.path != y.path) = true := by simpa using hxy
   clear hxy
   go_wp2_with fail
   refine wp_region_held_drew (S := (fun w' => w'.cell? ⟨g, o + k * 5, none⟩ = some (.string (B x.path)) ∧ w'.cell? ⟨w.heap.size, 0, none⟩ = some (.string (B y.path)))) (by kernel_rfl) ?_ (fun hH => ?_)
   ·exact HS6.out
   refine tk 0 hH ?_
   refine tk 1 hH ?_
   refine tk 2 hH ?_
   refine sk 3 hH ?_
   refine sk 4 hH ?_
   refine sk 5 hH ?_
   refine sk 6 hH ?_
   refine sk 7 hH ?_
   refine sk 8 hH ?_
   refine sk 9 hH ?_
   refine sk 10 hH ?_
   refine tk 11 hH ?_
   refine wpAnyH_done (by kernel_rfl) ?_ _
   have HO := zI (hR.out.2.1.non (Fp.refl Non wr).drew)
   have HFP := zI ((hR.out.2.2.then (Fp.refl Non wr).drew))
   have HXN := zI (HND.out.keep (Fp.refl Non wr).drew id)
   have HYB := zI ((Fp.refl Non wr).drew.heap HBY.out id)
   have hs9 : (wr.drew.drew).cell? ⟨g, o + k * 5, none⟩ = some (.string (B x.path)) ∧ (wr.drew.drew).cell? ⟨w.heap.size, 0, none⟩ = some (.string (B y.path)) :=
    ⟨(HXN.out.keep ((Fp.refl Non wr.drew).drew) id).c0, (box5 ((Fp.refl Non wr.drew).drew.heap HYB.out id)).1⟩
   have HS9 := zI hs9
   clear hs9
   go_wp2_with fail
   refine wp_region_held_drew (S := (fun w' => w'.cell? ⟨g, o + k * 5, none⟩ = some (.string (B x.path)) ∧ w'.cell? ⟨w.heap.size, 0, none⟩ = some (.string (B y.path)))) (by kernel_rfl) ?_ (fun hH => ?_)
   ·exact HS9.out
   refine tk 0 hH ?_
   refine tk 1 hH ?_
   refine tk 2 hH ?_
   refine tk 3 hH ?_
   refine tk 4 hH ?_
   refine tk 5 hH ?_
   refine tk 6 hH ?_
   refine tk 7 hH ?_
   refine wpAnyH_done (by kernel_rfl) ?_ _
   have hn9 := HXN.out.keep ((Fp.refl Non wr.drew).drew) id
   have c0 := hn9.c0; have c1 := hn9.c1; have c2 := hn9.c2; have c3 := hn9.c3; have c4 := hn9.c4
   unfold strV at c0 c1
   have hap := app_node wr.drew.drew (w.heap.size + 1) _ acc x TL (HO.out.non (Fp.refl Non wr.drew).drew) (by have := HAL.out; simp; omega) (by have := (HFP.out.then (Fp.refl Non wr.drew).drew).size; rw [HSZ.out] at this; exact this)
   have HAP := zI hap
   clear hap hn9
   go_wp2_with (at_builtin; go_must (refine wpList_app rfl _ _ _ _ rfl _ _ rfl rfl _ HAP.out ?_))
   intro v5 w5 hR5
   have HR5 := zI hR5
   clear hR5 c0 c1 c2 c3 c4
   have hj := HL.out
   go_wp2
   go_roundw
   case rel => exact ⟨k + 1, by omega, by go_num, acc ++ [x], true, rfl, HST.out.trans HM.out, (by have h5 := HR5.out.own; simpa using h5), (HFP.out.then (Fp.refl Non wr.drew).drew).trans HR5.out.fp (fun k hk => .inr (by rw [HSZ.out]; exact hk))⟩
   case measure => simp [RowKit.intOf]; omega
  | false => ?_
  by_cases hlo : lt x.path y.path = true
  ·have hxy := lt_ne hlo
   have HM := zI (show pstep y (acc, false) x = (acc ++ [x], false) by unfold pstep; simp [hxy, hlo])
   have ql1 : Op.bytesLess x.path y.path = true := hlo
   have ql2 : (Op.bytesLess y.path x.path || y.path == x.path) = false := not_le2 hlo
   clear hlo
   have qe1 : (x.path == y.path) = false := beq_eq_false_iff_ne.2 hxy
   have qe2 : (x.path = y.path) = False := eq_false hxy
   have qe3 : (x.path != y.path) = true := by simpa using hxy
   clear hxy
   go_wp2_with fail
   refine wp_region_held_drew (S := (fun w' => w'.cell? ⟨g, o + k * 5, none⟩ = some (.string (B x.path)) ∧ w'.cell? ⟨w.heap.size, 0, none⟩ = some (.string (B y.path)))) (by kernel_rfl) ?_ (fun hH => ?_)
   ·exact HS6.out
   refine tk 0 hH ?_
   refine tk 1 hH ?_
   refine tk 2 hH ?_
   refine tk 3 hH ?_
   refine tk 4 hH ?_
   refine tk 5 hH ?_
   refine tk 6 hH ?_
   refine tk 7 hH ?_
   refine tk 8 hH ?_
   refine tk 9 hH ?_
   refine tk 10 hH ?_
   refine tk 11 hH ?_
   refine wpAnyH_done (by kernel_rfl) ?_ _
   have HO := zI (hR.out.2.1.non (Fp.refl Non wr).drew)
   have HFP := zI ((hR.out.2.2.then (Fp.refl Non wr).drew))
   have HXN := zI (HND.out.keep (Fp.refl Non wr).drew id)
   have HYB := zI ((Fp.refl Non wr).drew.heap HBY.out id)
   have hs9 : (wr.drew.drew).cell? ⟨g, o + k * 5, none⟩ = some (.string (B x.path)) ∧ (wr.drew.drew).cell? ⟨w.heap.size, 0, none⟩ = some (.string (B y.path)) :=
    ⟨(HXN.out.keep ((Fp.refl Non wr.drew).drew) id).c0, (box5 ((Fp.refl Non wr.drew).drew.heap HYB.out id)).1⟩
   have HS9 := zI hs9
   clear hs9
   go_wp2_with fail
   refine wp_region_held_drew (S := (fun w' => w'.cell? ⟨g, o + k * 5, none⟩ = some (.string (B x.path)) ∧ w'.cell? ⟨w.heap.size, 0, none⟩ = some (.string (B y.path)))) (by kernel_rfl) ?_ (fun hH => ?_)
   ·exact HS9.out
   refine tk 0 hH ?_
   refine tk 1 hH ?_
   refine tk 2 hH ?_
   refine tk 3 hH ?_
   refine tk 4 hH ?_
   refine tk 5 hH ?_
   refine tk 6 hH ?_
   refine tk 7 hH ?_
   refine wpAnyH_done (by kernel_rfl) ?_ _
   have hn9 := HXN.out.keep ((Fp.refl Non wr.drew).drew) id
   have c0 := hn9.c0; have c1 := hn9.c1; have c2 := hn9.c2; have c3 := hn9.c3; have c4 := hn9.c4
   unfold strV at c0 c1
   have hap := app_node wr.drew.drew (w.heap.size + 1) _ acc x TL (HO.out.non (Fp.refl Non wr.drew).drew) (by have := HAL.out; simp; omega) (by have := (HFP.out.then (Fp.refl Non wr.drew).drew).size; rw [HSZ.out] at this; exact this)
   have HAP := zI hap
   clear hap hn9
   go_wp2_with (at_builtin; go_must (refine wpList_app rfl _ _ _ _ rfl _ _ rfl rfl _ HAP.out ?_))
   intro v5 w5 hR5
   have HR5 := zI hR5
   clear hR5 c0 c1 c2 c3 c4
   have hj := HL.out
   go_wp2
   go_roundw
   case rel => exact ⟨k + 1, by omega, by go_num, acc ++ [x], false, rfl, HST.out.trans HM.out, (by have h5 := HR5.out.own; simpa using h5), (HFP.out.then (Fp.refl Non wr.drew).drew).trans HR5.out.fp (fun k hk => .inr (by rw [HSZ.out]; exact hk))⟩
   case measure => simp [RowKit.intOf]; omega
  have hlo2 : lt x.path y.path = false := by simpa using hlo
  have ql1 : Op.bytesLess x.path y.path = false := hlo2
  have ql2 : (Op.bytesLess y.path x.path || y.path == x.path) = true := le_of_not hlo2
  by_cases hxy : x.path = y.path
  ·have HM := zI (show pstep y (acc, false) x = (acc ++ [y], true) by unfold pstep; dsimp only; rw [if_pos hxy, if_pos ⟨rfl, hlo2⟩])
   clear hlo hlo2
   have qe1 : (x.path == y.path) = true := beq_iff_eq.2 hxy
   have qe2 : (x.path = y.path) = True := eq_true hxy
   have qe3 : (x.path != y.path) = false := by simp [hxy]
   clear hxy
   go_wp2_with fail
   refine wp_region_held_drew (S := (fun w' => w'.cell? ⟨g, o + k * 5, none⟩ = some (.string (B x.path)) ∧ w'.cell? ⟨w.heap.size, 0, none⟩ = some (.string (B y.path)))) (by kernel_rfl) ?_ (fun hH => ?_)
   ·exact HS6.out
   refine tk 0 hH ?_
   refine tk 1 hH ?_
   refine tk 2 hH ?_
   refine tk 3 hH ?_
   refine tk 4 hH ?_
   refine tk 5 hH ?_
   refine tk 6 hH ?_
   refine tk 7 hH ?_
   refine tk 8 hH ?_
   refine tk 9 hH ?_
   refine tk 10 hH ?_
   refine tk 11 hH ?_
   refine wpAnyH_done (by kernel_rfl) ?_ _
   have HO := zI (hR.out.2.1.non (Fp.refl Non wr).drew)
   have HFP := zI ((hR.out.2.2.then (Fp.refl Non wr).drew))
   have HXN := zI (HND.out.keep (Fp.refl Non wr).drew id)
   have HYB := zI ((Fp.refl Non wr).drew.heap HBY.out id)
   obtain ⟨y0, y1, y2, y3, y4⟩ := box5 HYB.out
   have hap := app_node wr.drew (w.heap.size + 1) _ acc y TL HO.out (by have := HAL.out; omega) (by have := HFP.out.size; rw [HSZ.out] at this; exact this)
   have HAP := zI hap
   clear hap
   go_wp2_with (at_builtin; go_must (refine wpList_app rfl _ _ _ _ rfl _ _ rfl rfl _ HAP.out ?_))
   intro v4 w4 hR4
   obtain ⟨a4, c4', rfl⟩ := hR4.own.shape
   have HO4 := zI hR4.own
   have HFP4 := zI (HFP.out.trans hR4.fp (fun k hk => .inr (by rw [HSZ.out]; exact hk)))
   have HXN4 := zI (HXN.out.keep hR4.fp (Nat.not_le.2 HG.out))
   have HYB4 := zI (hR4.fp.heap HYB.out (Nat.not_le.2 (Nat.lt_succ_self _)))
   clear hR4 y0 y1 y2 y3 y4 HAP HO HFP HXN HYB
   have HO := HO4
   have HFP := HFP4
   have HXN := HXN4
   have HYB := HYB4
   have hs9 : (w4.drew).cell? ⟨g, o + k * 5, none⟩ = some (.string (B x.path)) ∧ (w4.drew).cell? ⟨w.heap.size, 0, none⟩ = some (.string (B y.path)) :=
    ⟨(HXN.out.keep ((Fp.refl Non w4).drew) id).c0, (box5 ((Fp.refl Non w4).drew.heap HYB.out id)).1⟩
   have HS9 := zI hs9
   clear hs9
   go_wp2_with fail
   refine wp_region_held_drew (S := (fun w' => w'.cell? ⟨g, o + k * 5, none⟩ = some (.string (B x.path)) ∧ w'.cell? ⟨w.heap.size, 0, none⟩ = some (.string (B y.path)))) (by kernel_rfl) ?_ (fun hH => ?_)
   ·exact HS9.out
   refine tk 0 hH ?_
   refine tk 1 hH ?_
   refine tk 2 hH ?_
   refine tk 3 hH ?_
   refine tk 4 hH ?_
   refine tk 5 hH ?_
   refine tk 6 hH ?_
   refine tk 7 hH ?_
   refine wpAnyH_done (by kernel_rfl) ?_ _
   have hj := HL.out
   go_wp2
   go_roundw
   case rel => exact ⟨k + 1, by omega, by go_num, (acc ++ [y]), true, rfl, HST.out.trans HM.out, HO.out.non (Fp.refl Non w4).drew, HFP.out.then (Fp.refl Non w4).drew⟩
   case measure => simp [RowKit.intOf]; omega
  have HM := zI (show pstep y (acc, false) x = (acc ++ [y] ++ [x], true) by unfold pstep; dsimp only; rw [if_neg hxy, if_pos ⟨rfl, hlo2⟩])
  clear hlo hlo2
  have qe1 : (x.path == y.path) = false := beq_eq_false_iff_ne.2 hxy
  have qe2 : (x.path = y.path) = False := eq_false hxy
  have qe3 : (x.path != y.path) = true := by simpa using hxy
  clear hxy
  go_wp2_with fail
  refine wp_region_held_drew (S := (fun w' => w'.cell? ⟨g, o + k * 5, none⟩ = some (.string (B x.path)) ∧ w'.cell? ⟨w.heap.size, 0, none⟩ = some (.string (B y.path)))) (by kernel_rfl) ?_ (fun hH => ?_)
  ·exact HS6.out
  refine tk 0 hH ?_
  refine tk 1 hH ?_
  refine tk 2 hH ?_
  refine tk 3 hH ?_
  refine tk 4 hH ?_
  refine tk 5 hH ?_
  refine tk 6 hH ?_
  refine tk 7 hH ?_
  refine tk 8 hH ?_
  refine tk 9 hH ?_
  refine tk 10 hH ?_
  refine tk 11 hH ?_
  refine wpAnyH_done (by kernel_rfl) ?_ _
  have HO := zI (hR.out.2.1.non (Fp.refl Non wr).drew)
  have HFP := zI ((hR.out.2.2.then (Fp.refl Non wr).drew))
  have HXN := zI (HND.out.keep (Fp.refl Non wr).drew id)
  have HYB := zI ((Fp.refl Non wr).drew.heap HBY.out id)
  obtain ⟨y0, y1, y2, y3, y4⟩ := box5 HYB.out
  have hap := app_node wr.drew (w.heap.size + 1) _ acc y TL HO.out (by have := HAL.out; omega) (by have := HFP.out.size; rw [HSZ.out] at this; exact this)
  have HAP := zI hap
  clear hap
  go_wp2_with (at_builtin; go_must (refine wpList_app rfl _ _ _ _ rfl _ _ rfl rfl _ HAP.out ?_))
  intro v4 w4 hR4
  obtain ⟨a4, c4', rfl⟩ := hR4.own.shape
  have HO4 := zI hR4.own
  have HFP4 := zI (HFP.out.trans hR4.fp (fun k hk => .inr (by rw [HSZ.out]; exact hk)))
  have HXN4 := zI (HXN.out.keep hR4.fp (Nat.not_le.2 HG.out))
  have HYB4 := zI (hR4.fp.heap HYB.out (Nat.not_le.2 (Nat.lt_succ_self _)))
  clear hR4 y0 y1 y2 y3 y4 HAP HO HFP HXN HYB
  have HO := HO4
  have HFP := HFP4
  have HXN := HXN4
  have HYB := HYB4
  have hs9 : (w4.drew).cell? ⟨g, o + k * 5, none⟩ = some (.string (B x.path)) ∧ (w4.drew).cell? ⟨w.heap.size, 0, none⟩ = some (.string (B y.path)) :=
   ⟨(HXN.out.keep ((Fp.refl Non w4).drew) id).c0, (box5 ((Fp.refl Non w4).drew.heap HYB.out id)).1⟩
  have HS9 := zI hs9
  clear hs9
  go_wp2_with fail
  refine wp_region_held_drew (S := (fun w' => w'.cell? ⟨g, o + k * 5, none⟩ = some (.string (B x.path)) ∧ w'.cell? ⟨w.heap.size, 0, none⟩ = some (.string (B y.path)))) (by kernel_rfl) ?_ (fun hH => ?_)
  ·exact HS9.out
  refine tk 0 hH ?_
  refine tk 1 hH ?_
  refine tk 2 hH ?_
  refine tk 3 hH ?_
  refine tk 4 hH ?_
  refine tk 5 hH ?_
  refine tk 6 hH ?_
  refine tk 7 hH ?_
  refine wpAnyH_done (by kernel_rfl) ?_ _
  have hn9 := HXN.out.keep ((Fp.refl Non w4).drew) id
  have c0 := hn9.c0; have c1 := hn9.c1; have c2 := hn9.c2; have c3 := hn9.c3; have c4 := hn9.c4
  unfold strV at c0 c1
  have hap := app_node w4.drew (w.heap.size + 1) _ (acc ++ [y]) x TL (HO.out.non (Fp.refl Non w4).drew) (by have := HAL.out; simp; omega) (by have := (HFP.out.then (Fp.refl Non w4).drew).size; rw [HSZ.out] at this; exact this)
  have HAP := zI hap
  clear hap hn9
  go_wp2_with (at_builtin; go_must (refine wpList_app rfl _ _ _ _ rfl _ _ rfl rfl _ HAP.out ?_))
  intro v5 w5 hR5
  have HR5 := zI hR5
  clear hR5 c0 c1 c2 c3 c4
  have hj := HL.out
  go_wp2
  go_roundw
  case rel => exact ⟨k + 1, by omega, by go_num, (acc ++ [y]) ++ [x], true, rfl, HST.out.trans HM.out, (by have h5 := HR5.out.own; simpa using h5), (HFP.out.then (Fp.refl Non w4).drew).trans HR5.out.fp (fun k hk => .inr (by rw [HSZ.out]; exact hk))⟩
  case measure => simp [RowKit.intOf]; omega
 have hke : k = n := by omega
 subst hke
 have q3 : ((k : Int) < (k : Int)) = False := eq_false (by omega)
 have hfin := hR.out.1
 rw [List.take_of_length_le (by rw [← HX.out.1]; exact Nat.le_refl _)] at hfin
 have hput := pstep_put y l []
 rw [hfin, List.nil_append] at hput
 have HPT := zI hput
 clear hlt hk hfin hput
 cases dn with
 | true =>
  go_wp2
  go_ret
  exact ⟨_, rfl, by have := HPT.out; simp only [if_true] at this; rw [← this]; exact hR.out.2.1.low (Nat.le_succ _), HB0.out.1.then hR.out.2.2⟩
 | false => ?_
 have hap := app_node wr (w.heap.size + 1) _ acc y TL hR.out.2.1 (by have := HAL.out; omega) (by have := hR.out.2.2.size; rw [HSZ.out] at this; exact this)
 have HAP := zI hap
 obtain ⟨s0, s1, s2, s3, s4⟩ := box5 hby
 clear hap hal hby
 go_wp2_with (at_builtin; go_must (refine wpList_app rfl _ _ _ _ rfl _ _ rfl rfl _ HAP.out ?_))
 intro v4 w4 hR4
 have HR4 := zI hR4
 clear hR4 s0 s1 s2 s3 s4
 go_wp2
 go_ret
 exact ⟨_, rfl, by have := HPT.out; simp only [Bool.false_eq_true, if_false] at this; rw [← this]; exact HR4.out.own.low (Nat.le_succ _), HB0.out.1.then (hR.out.2.2.trans HR4.out.fp (fun k hk => .inr (by rw [HSZ.out]; exact hk)))⟩
set_option maxHeartbeats 4000000 in
theorem rNamed_c (o : Opn) (u : Bs) (t : Int) (w : World) (hu : parent o.path = some u) (ht0 : 0 ≤ t) (ht1 : t ≤ 10000) :
  Calls Tryz.prog 98 #[opV o, .int .i64 t] w fun e w' => e = .returned (.tuple #[.string (B ((named o u t).getD [])), .bool (named o u t).isSome]) ∧ Fp Non w w' := by
 obtain ⟨_, _, _, hul, hll, hol, _⟩ := parent_some hu
 have hpa := fun w => rParent_g o.path w (sz_of hol (by omega))
 rw [hu] at hpa
 simp only [Option.getD_some, Option.isSome_some] at hpa
 have hla := fun w => rLast_g o.path w (sz_of hol (by omega))
 have hnu := fun w => rNumbered_g (last o.path) t w (by omega)
 have hjo := fun s w (hs : s.length ≤ 1000) => rJoin_g u s w (sz_of hul (by omega)) (sz_of hs (by omega))
 obtain ⟨kk, p, d, vv, ow, tt⟩ := o
 have hf0 := fp_alloc w (.cells #[.int .i64 kk, .string (B p), .string (B d), .int .i64 vv, .int .i64 ow, .bool tt] TO_)
 have hb0 := heap_alloc_new w (.cells #[.int .i64 kk, .string (B p), .string (B d), .int .i64 vv, .int .i64 ow, .bool tt] TO_)
 have HF0 := zI (yI hf0 hb0)
 unfold opV strV
 simp only at hpa hla hnu ⊢
 cases tt with
 | false =>
  have e1 : named ⟨kk, p, d, vv, ow, false⟩ u t = some p := by unfold named; simp
  rw [e1]
  clear hf0 hb0 hpa hla hnu hjo
  go_enter Tryz.func98, Tryz.ntmps98
  go_wp2
  go_ret2
  exact ⟨rfl, HF0.out.1⟩
 | true => ?_
 have e1 : named ⟨kk, p, d, vv, ow, true⟩ u t = (numbered (last p) t).bind (join u) := by unfold named; simp
 rw [e1]
 have HP := zI hpa
 have HLA := zI hla
 have HJ := zI hjo
 cases hn : numbered (last p) t with
 | none =>
  rw [hn] at hnu
  simp only [Option.getD_none, Option.isSome_none] at hnu
  have HN := zI hnu
  simp only [Option.bind_none, Option.getD_none, Option.isSome_none]
  clear hf0 hb0 hpa hla hnu hjo hn
  go_enter Tryz.func98, Tryz.ntmps98
  go_wp2_with fail
  refine (HP.out _).mono ?_
  rintro e w1 ⟨rfl, g1⟩
  have F1 := zI (HF0.out.1.then g1.fp)
  have hb1 := (g1.fp.heap HF0.out.2 id)
  obtain ⟨o0, o1, o2, o3, o4, o5⟩ := box6 hb1
  clear g1 hb1
  go_wp2_with fail
  refine (HLA.out _).mono ?_
  rintro e w2 ⟨rfl, g2⟩
  have F2 := zI (F1.out.then g2.fp)
  clear g2 o0 o1 o2 o3 o4 o5
  go_wp2_with fail
  refine (HN.out _).mono ?_
  rintro e w3 ⟨rfl, g3⟩
  have F3 := zI (F2.out.then g3.fp)
  clear g3
  go_wp2
  go_ret2
  exact ⟨rfl, F3.out⟩
 | some s => ?_
 rw [hn] at hnu
 simp only [Option.getD_some, Option.isSome_some] at hnu
 have HN := zI hnu
 have hsl : s.length ≤ 1000 := by
  unfold numbered at hn
  split at hn
  ·rename_i hc
   injection hn with hn
   have := (isPart_len hc.2.2).2
   rw [hn] at this; omega
  cases hn
 have HSL := zI hsl
 simp only [Option.bind_some]
 clear hf0 hb0 hpa hla hnu hjo hn hsl
 go_enter Tryz.func98, Tryz.ntmps98
 go_wp2_with fail
 refine (HP.out _).mono ?_
 rintro e w1 ⟨rfl, g1⟩
 have F1 := zI (HF0.out.1.then g1.fp)
 have hb1 := (g1.fp.heap HF0.out.2 id)
 obtain ⟨o0, o1, o2, o3, o4, o5⟩ := box6 hb1
 clear g1 hb1
 go_wp2_with fail
 refine (HLA.out _).mono ?_
 rintro e w2 ⟨rfl, g2⟩
 have F2 := zI (F1.out.then g2.fp)
 clear g2 o0 o1 o2 o3 o4 o5
 go_wp2_with fail
 refine (HN.out _).mono ?_
 rintro e w3 ⟨rfl, g3⟩
 have F3 := zI (F2.out.then g3.fp)
 clear g3
 go_wp2_with fail
 refine (HJ.out _ _ HSL.out).mono ?_
 rintro e w4 ⟨rfl, g4⟩
 have F4 := zI (F3.out.then g4.fp)
 clear g4
 go_wp2
 go_ret2
 exact ⟨rfl, F4.out⟩
theorem ret_bool' {a b : Bool} (h : a = b) : Ending.returned (.bool a) = .returned (.bool b) := by rw [h]
set_option maxHeartbeats 8000000 in
theorem rMay_c (o : Opn) (w : World) (hl : o.path.length ≤ 1000000) :
  Calls Tryz.prog 53 #[opV o] w fun e w' => e = .returned (.bool (may o)) ∧ Fp Non w w' := by
 have hri := fun w => rRight_g o.path w (sz_of hl (by omega))
 obtain ⟨kk, p, d, vv, ow, tt⟩ := o
 obtain ⟨sp, hsp⟩ : ∃ b, (split p).isSome = b := ⟨_, rfl⟩
 simp only at hri
 rw [hsp] at hri
 have HR := zI hri
 have HSP := zI hsp
 have hf0 := fp_alloc w (.cells #[.int .i64 kk, .string (B p), .string (B d), .int .i64 vv, .int .i64 ow, .bool tt] TO_)
 have hb0 := heap_alloc_new w (.cells #[.int .i64 kk, .string (B p), .string (B d), .int .i64 vv, .int .i64 ow, .bool tt] TO_)
 have HF0 := zI (yI hf0 hb0)
 obtain ⟨m, hm⟩ : ∃ m, may ⟨kk, p, d, vv, ow, tt⟩ = m := ⟨_, rfl⟩
 have HM := zI hm
 rw [hm]
 unfold opV strV
 simp only
 clear hri hsp hf0 hb0 hm hl
 go_enter Tryz.func53, Tryz.ntmps53
 go_wp2_with fail
 all_goals
  refine (HR.out _).mono ?_
  rintro e w1 ⟨rfl, g1⟩
  have F1 := zI (HF0.out.1.then g1.fp)
  have hb1 := (g1.fp.heap HF0.out.2 id)
  obtain ⟨o0, o1, o2, o3, o4, o5⟩ := box6 hb1
  clear g1 hb1
 all_goals go_wp2
 all_goals
  go_ret
  refine ⟨ret_bool' ?_, F1.out⟩
  have hm := HM.out
  have hs := HSP.out
  rw [← hm]
  unfold may
  clear HR HF0 F1 o0 o1 o2 o3 o4 o5 hm HM HSP
  rw [hs]
  clear hs
  dsimp only
  rcases Classical.em (d.length ≤ 256 ∧ 0 ≤ ow ∧ ow ≤ 1099511627776) with hA | hA
  ·first
    | (exfalso; omega)
    | (rw [decide_eq_true hA]; clear hA; simp_all; done)
    | (rw [decide_eq_true hA]; clear hA; by_cases hz : vv = 0 <;> simp_all <;> done)
    | (rw [decide_eq_true hA]; clear hA; simp_all; intros; omega)
    | skip
  first
   | (exfalso; omega)
   | (rw [decide_eq_false hA]; simp; done)
   | (rw [decide_eq_false hA]; clear hA; simp_all; done)
   | skip
namespace Pm
theorem put_up {l : List Nd} (h : Tr l) {u : Bs} {x : Nd} (hx : find l u = some x) (t : Int) : put l { x with turn := t } = l.set (place l u) { x with turn := t } := by
 obtain ⟨hk, e⟩ := find_at h.asc hx
 have hp := (find_mem hx).2
 have hk2 : place l x.path < l.length := by rw [hp]; exact hk
 have e2 : l[place l x.path]'hk2 = x := by simp only [hp]; exact e
 have := put_set h.asc { x with turn := t } hk2 (by rw [e2])
 rw [this]; simp only [hp]
theorem put_new {l : List Nd} (h : Tr l) {u q : Bs} {x : Nd} (hx : find l u = some x) (hq : find l q = none) (t : Int) (y : Nd) (hy : y.path = q) :
  put (l.set (place l u) { x with turn := t }) y = ins (l.set (place l u) { x with turn := t }) (place l q) y := by
 obtain ⟨hk, e⟩ := find_at h.asc hx
 have hp := (find_mem hx).2
 have hA := h.asc.set hk { x with turn := t } (by rw [e])
 have hf := find_set h.asc hk { x with turn := t } (by rw [e]) q
 rw [if_neg (by
  intro e2
  have e2 : q = x.path := e2
  rw [e2, hp, hx] at hq; cases hq)] at hf
 subst hy
 rw [put_ins hA y (by rw [hf]; exact hq), place_set hk _ (by rw [e])]
end Pm
theorem fp5k {w : World} {b : Nat} {T : TypeId} {a0 a1 a2 a3 a4 : Value} (h : w.heap[b]? = some (.cells #[a0, a1, a2, a3, a4] T (0, 0))) (v0 v1 v2 v3 v4 : Value) :
  Fp (fun k => k = b) w (((((w.setCell ⟨b, 0, none⟩ v0).setCell ⟨b, 1, none⟩ v1).setCell ⟨b, 2, none⟩ v2).setCell ⟨b, 3, none⟩ v3).setCell ⟨b, 4, none⟩ v4) :=
 fp5 (S := fun k => k = b) (Fp.refl _ w) (.inl rfl) v0 v1 v2 v3 v4
structure ApB (w : World) (v0 : Value) (l' : List Nd) (r : Res) (e : Ending) (w' : World) : Prop where
 ex : ∃ v' nv, e = .returned (.tuple #[v', .agg #[.int .i64 r.err, strV r.path, strV r.data, .int .i64 r.ver, nv]]) ∧ Ns w' v' l' ∧ Own w.heap.size w' nv r.names ∧ (∀ k, v'.ownBlock = some k → v0.ownBlock = some k ∨ w.heap.size ≤ k)
 fp : Fp Non w w'
theorem res_badB {w w' : World} {v : Value} {l : List Nd} {e : Int} (hn : Ns w' v l) (hf : Fp Non w w') : ApB w v l (.bad e) (.returned (.tuple #[v, .agg #[.int .i64 e, .string ⟨#[]⟩, .string ⟨#[]⟩, .int .i64 0, .slice none 0 0]])) w' :=
 ⟨⟨v, .slice none 0 0, rfl, hn, Own.nil _ _, fun _ h => .inl h⟩, hf⟩
theorem res_bad {w w' : World} {v : Value} {l : List Nd} {e : Int} (hn : Ns w' v l) (hf : Fp Non w w') : ApB w v l (.bad e) (.returned (.tuple #[v, .agg #[.int .i64 e, .string ⟨#[]⟩, .string ⟨#[]⟩, .int .i64 0, .slice none 0 0]])) w' :=
 ⟨⟨v, .slice none 0 0, rfl, hn, Own.nil _ _, fun _ h => .inl h⟩, hf⟩
theorem res_badN {w w' : World} {v : Value} {e : Int} (hf : Fp Non w w') : ApB w v [] (.bad e) (.returned (.tuple #[.slice none 0 0, .agg #[.int .i64 e, .string ⟨#[]⟩, .string ⟨#[]⟩, .int .i64 0, .slice none 0 0]])) w' :=
 ⟨⟨.slice none 0 0, .slice none 0 0, rfl, Ns.nil _, Own.nil _ _, fun _ h => by cases h⟩, hf⟩
set_option maxHeartbeats 16000000 in
theorem rCreate_c (v : Value) (l : List Nd) (o : Opn) (w : World) (hv : Ns w v l) (hT : Tr l) (hm : may o = true) (hk : o.kind = 1) :
  Calls Tryz.prog 112 #[v, opV o] w (ApB w v (create l o).1 (create l o).2) := by
 obtain ⟨ao, cap, rfl⟩ := hv.shape
 obtain ⟨u, hu⟩ := may_parent hm (.inl hk)
 obtain ⟨_, _, _, hul, _, hol, _⟩ := parent_some hu
 have hpa := fun w => rParent_g o.path w (sz_of hol (by omega))
 rw [hu] at hpa
 simp only [Option.getD_some, Option.isSome_some] at hpa
 have hnm := fun t w h0 h1 => rNamed_c o u t w hu h0 h1
 have hsp := (tr_few hT).2
 have hfd := fun q w' hv => rFind_c (.slice ao l.length cap) l q w' hv (tr_few hT).1
 have hcr : create l o = (match find l u with
  | none => (l, .bad 62)
  | some x => if x.own ≠ 0 then (l, .bad 65) else match named o u x.turn with
   | none => (l, .bad 66)
   | some p => if (find l p).isSome = true then (l, .bad 61) else if l.length = 512 then (l, .bad 2) else
     (ins (if o.turns = true then l.set (place l u) { x with turn := x.turn + 1 } else l) (place l p) ⟨p, o.data, 0, 0, o.own⟩, ⟨0, p, [], 0, []⟩)) := by
  unfold create; rw [hu]; rfl
 rw [hcr]
 have hmd := may_own hm
 obtain ⟨kk, p, d, vv, ow, tt⟩ := o
 have hb0 := Bx.made w kk p d vv ow tt
 have hf0 : Fp Non w ((w.alloc (.cells #[.int .i64 kk, .string (B p), .string (B d), .int .i64 vv, .int .i64 ow, .bool tt] TO_)).alloc (.cells #[.int .i64 0, .string ⟨#[]⟩, .string ⟨#[]⟩, .int .i64 0, .slice none 0 0] TR)) := (fp_alloc w _).then (fp_alloc _ _)
 have HF0 := zI (Kp.and (fun W' f => hb0.non f : Kp (Bx w kk p d vv ow tt) ((w.alloc (.cells #[.int .i64 kk, .string (B p), .string (B d), .int .i64 vv, .int .i64 ow, .bool tt] TO_)).alloc (.cells #[.int .i64 0, .string ⟨#[]⟩, .string ⟨#[]⟩, .int .i64 0, .slice none 0 0] TR))) (Kp.and (Kp.fp hf0) (Kp.ns (hv.non hf0))))
 have HVV := zI hv
 have HPA := zI hpa
 have HNM := zI hnm
 have HFD := zI hfd
 have HT := zI hT
 have HU := zI hu
 unfold opV strV at HNM ⊢
 simp only at HPA HNM ⊢
 clear hpa hnm hfd hf0 hb0 hv hcr hm hk hul hol hsp hT hu hmd
 cases hfu : find l u with
 | none =>
  have hf1 := HFD.out u
  rw [hfu] at hf1
  simp only [Option.getD_none, Option.isSome_none, ndV, strV, zeroNd] at hf1 ⊢
  obtain ⟨n, hnn⟩ : ∃ n, n = l.length := ⟨_, rfl⟩
  rw [← hnn] at HVV hf1 HF0 ⊢
  have HF1 := zI hf1
  clear hf1 HFD HNM hnn
  go_enter Tryz.func112, Tryz.ntmps112
  go_wp2_with fail
  refine (HPA.out _).mono ?_
  rintro e w1 ⟨rfl, g1⟩
  have K1 := zI (HF0.out.later g1.fp)
  clear g1
  go_wp2_with fail
  refine (HF1.out _ K1.out.now.2.2).mono ?_
  rintro e w2 ⟨rfl, hf⟩
  have K2 := zI (K1.out.later (hf.alloc (.cells #[.string (B []), .string (B []), .int .i64 0, .int .i64 0, .int .i64 0] TN)))
  clear hf
  have hbr := K2.out.now.1
  have hfw := K2.out.now.2.1
  obtain ⟨r0, r1, r2, r3, r4⟩ := hbr.r
  have z0 := hbr.fz 0; have z1 := hbr.fz 1; have z2 := hbr.fz 2; have z3 := hbr.fz 3; have z4 := hbr.fz 4
  have HE := zI (yI hbr.res hfw)
  clear hbr hfw
  go_wp2
  have hw9 := set5 HE.out.1 (.int .i64 62) (.string ⟨#[]⟩) (.string ⟨#[]⟩) (.int .i64 0) (.slice none 0 0)
  have hfz := fp5 (S := Non) HE.out.2 (b := w.heap.size + 1) (.inr (by omega)) (.int .i64 62) (.string ⟨#[]⟩) (.string ⟨#[]⟩) (.int .i64 0) (.slice none 0 0)
  have hfk := fp5k HE.out.1 (.int .i64 62) (.string ⟨#[]⟩) (.string ⟨#[]⟩) (.int .i64 0) (.slice none 0 0)
  generalize (((((World.setCell _ _ _).setCell _ _).setCell _ _).setCell _ _).setCell _ _) = wz at *
  obtain ⟨s0, s1, s2, s3, s4⟩ := b5 hw9
  exact bodyPost_ret (v := .tuple #[.slice ao n cap, .agg #[.int .i64 62, .string ⟨#[]⟩, .string ⟨#[]⟩, .int .i64 0, .slice none 0 0]]) (by simp [results, Tryz.results112, go_sem, s0, s1, s2, s3, s4]) rfl (res_badB (HVV.out.non hfz) hfz)
 | some x => ?_
 have hxm := find_mem hfu
 have hft := (fits_iff x).1 (HT.out.fit x hxm.1)
 have hf1 := HFD.out u
 rw [hfu] at hf1
 simp only [Option.getD_some, Option.isSome_some, ndV, strV] at hf1 ⊢
 have HF1 := zI hf1
 have HX := zI (yI hft hfu)
 have hxt : 0 ≤ x.turn ∧ x.turn ≤ 10000 := by omega
 clear hf1 hxm hft hfu
 by_cases h0 : x.own = 0
 ·rw [if_neg (by simpa using h0)]
  have q0 : (x.own == 0) = true := beq_iff_eq.2 h0
  have q1 : (x.own != 0) = false := by simp [h0]
  have q2 : (x.own = 0) = True := eq_true h0
  clear h0
  have hn1 := fun w => HNM.out x.turn w hxt.1 hxt.2
  cases hnm : named ⟨kk, p, d, vv, ow, tt⟩ u x.turn with
  | none =>
   rw [hnm] at hn1
   simp only [Option.getD_none, Option.isSome_none] at hn1 ⊢
   obtain ⟨n, hnn⟩ : ∃ n, n = l.length := ⟨_, rfl⟩
   rw [← hnn] at HVV HF1 HF0 ⊢
   have HN1 := zI hn1
   clear hn1 HFD HNM hnn
   go_enter Tryz.func112, Tryz.ntmps112
   go_wp2_with fail
   refine (HPA.out _).mono ?_
   rintro e w1 ⟨rfl, g1⟩
   have K1 := zI (HF0.out.later g1.fp)
   have HS01 := zI (show w.heap.size + 2 ≤ w1.heap.size from K1.out.now.1.sz)
   clear g1
   go_wp2_with fail
   refine (HF1.out _ K1.out.now.2.2).mono ?_
   rintro e w2 ⟨rfl, hf⟩
   have HS12 := zI hf.size
   have hbx := heap_alloc_new w2 (.cells #[.string (B x.path), .string (B x.data), .int .i64 x.ver, .int .i64 x.turn, .int .i64 x.own] TN)
   have K2 := zI (Kp.and (Kp.row hbx) (K1.out.later (hf.alloc (.cells #[.string (B x.path), .string (B x.data), .int .i64 x.ver, .int .i64 x.turn, .int .i64 x.own] TN))))
   clear hf hbx
   obtain ⟨y0, y1, y2, y3, y4⟩ := box5 K2.out.now.1
   obtain ⟨o0, o1, o2, o3, o4, o5⟩ := box6 K2.out.now.2.1.op
   go_wp2_with fail
   refine (HN1.out _).mono ?_
   rintro e w3 ⟨rfl, hf⟩
   have K4 := zI (K2.out.later hf)
   clear hf y0 y1 y2 y3 y4 o0 o1 o2 o3 o4 o5
   have hbr := K4.out.now.2.1
   have hfw := K4.out.now.2.2.1
   obtain ⟨r0, r1, r2, r3, r4⟩ := hbr.r
   have z0 := hbr.fz 0; have z1 := hbr.fz 1; have z2 := hbr.fz 2; have z3 := hbr.fz 3; have z4 := hbr.fz 4
   have HE := zI (yI hbr.res hfw)
   clear hbr hfw
   go_wp2
   have hw9 := set5 HE.out.1 (.int .i64 66) (.string ⟨#[]⟩) (.string ⟨#[]⟩) (.int .i64 0) (.slice none 0 0)
   have hfz := fp5 (S := Non) HE.out.2 (b := w.heap.size + 1) (.inr (by omega)) (.int .i64 66) (.string ⟨#[]⟩) (.string ⟨#[]⟩) (.int .i64 0) (.slice none 0 0)
   have hfk := fp5k HE.out.1 (.int .i64 66) (.string ⟨#[]⟩) (.string ⟨#[]⟩) (.int .i64 0) (.slice none 0 0)
   generalize (((((World.setCell _ _ _).setCell _ _).setCell _ _).setCell _ _).setCell _ _) = wz at *
   obtain ⟨s0, s1, s2, s3, s4⟩ := b5 hw9
   exact bodyPost_ret (v := .tuple #[.slice ao n cap, .agg #[.int .i64 66, .string ⟨#[]⟩, .string ⟨#[]⟩, .int .i64 0, .slice none 0 0]]) (by simp [results, Tryz.results112, go_sem, s0, s1, s2, s3, s4]) rfl (res_badB (HVV.out.non hfz) hfz)
  | some q => ?_
  rw [hnm] at hn1
  simp only [Option.getD_some, Option.isSome_some] at hn1 ⊢
  have hqp := named_parent HU.out hnm
  obtain ⟨_, _, _, _, _, hql, _⟩ := parent_some hqp
  have HN1 := zI hn1
  have hf2 := HFD.out q
  have HQ := zI (yI hqp hnm)
  clear hn1 HNM hnm hqp hql
  cases hfq : find l q with
  | some z =>
   rw [if_pos (by simp)]
   rw [hfq] at hf2
   simp only [Option.getD_some, Option.isSome_some, ndV, strV] at hf2 ⊢
   obtain ⟨n, hnn⟩ : ∃ n, n = l.length := ⟨_, rfl⟩
   rw [← hnn] at HVV hf2 HF1 HF0 ⊢
   have HF2 := zI hf2
   clear hf2 HFD hnn hfq
   go_enter Tryz.func112, Tryz.ntmps112
   go_wp2_with fail
   refine (HPA.out _).mono ?_
   rintro e w1 ⟨rfl, g1⟩
   have K1 := zI (HF0.out.later g1.fp)
   have HS01 := zI (show w.heap.size + 2 ≤ w1.heap.size from K1.out.now.1.sz)
   clear g1
   go_wp2_with fail
   refine (HF1.out _ K1.out.now.2.2).mono ?_
   rintro e w2 ⟨rfl, hf⟩
   have HS12 := zI hf.size
   have hbx := heap_alloc_new w2 (.cells #[.string (B x.path), .string (B x.data), .int .i64 x.ver, .int .i64 x.turn, .int .i64 x.own] TN)
   have K2 := zI (Kp.and (Kp.row hbx) (K1.out.later (hf.alloc (.cells #[.string (B x.path), .string (B x.data), .int .i64 x.ver, .int .i64 x.turn, .int .i64 x.own] TN))))
   clear hf hbx
   obtain ⟨y0, y1, y2, y3, y4⟩ := box5 K2.out.now.1
   obtain ⟨o0, o1, o2, o3, o4, o5⟩ := box6 K2.out.now.2.1.op
   go_wp2_with fail
   refine (HN1.out _).mono ?_
   rintro e w3 ⟨rfl, hf⟩
   have K4 := zI (K2.out.later hf)
   clear hf y0 y1 y2 y3 y4 o0 o1 o2 o3 o4 o5
   go_wp2_with fail
   refine (HF2.out _ K4.out.now.2.2.2).mono ?_
   rintro e w5 ⟨rfl, hf⟩
   have K5 := zI (K4.out.later (hf.alloc (.cells #[.string (B z.path), .string (B z.data), .int .i64 z.ver, .int .i64 z.turn, .int .i64 z.own] TN)))
   clear hf
   have hbr := K5.out.now.2.1
   have hfw := K5.out.now.2.2.1
   obtain ⟨r0, r1, r2, r3, r4⟩ := hbr.r
   have z0 := hbr.fz 0; have z1 := hbr.fz 1; have z2 := hbr.fz 2; have z3 := hbr.fz 3; have z4 := hbr.fz 4
   have HE := zI (yI hbr.res hfw)
   clear hbr hfw
   go_wp2
   have hw9 := set5 HE.out.1 (.int .i64 61) (.string ⟨#[]⟩) (.string ⟨#[]⟩) (.int .i64 0) (.slice none 0 0)
   have hfz := fp5 (S := Non) HE.out.2 (b := w.heap.size + 1) (.inr (by omega)) (.int .i64 61) (.string ⟨#[]⟩) (.string ⟨#[]⟩) (.int .i64 0) (.slice none 0 0)
   have hfk := fp5k HE.out.1 (.int .i64 61) (.string ⟨#[]⟩) (.string ⟨#[]⟩) (.int .i64 0) (.slice none 0 0)
   generalize (((((World.setCell _ _ _).setCell _ _).setCell _ _).setCell _ _).setCell _ _) = wz at *
   obtain ⟨s0, s1, s2, s3, s4⟩ := b5 hw9
   exact bodyPost_ret (v := .tuple #[.slice ao n cap, .agg #[.int .i64 61, .string ⟨#[]⟩, .string ⟨#[]⟩, .int .i64 0, .slice none 0 0]]) (by simp [results, Tryz.results112, go_sem, s0, s1, s2, s3, s4]) rfl (res_badB (HVV.out.non hfz) hfz)
  | none => ?_
  rw [if_neg (by simp)]
  rw [hfq] at hf2
  simp only [Option.getD_none, Option.isSome_none, ndV, strV, zeroNd] at hf2 ⊢
  have HF2 := zI hf2
  have HQN := zI hfq
  clear hf2 hfq
  by_cases hl : l.length = 512
  ·rw [if_pos hl]
   have p0 : ((512 : Int) ≤ (l.length : Int)) = True := eq_true (by omega)
   have p1 : (512 ≤ l.length) = True := eq_true (by omega)
   obtain ⟨n, hnn⟩ : ∃ n, n = l.length := ⟨_, rfl⟩
   rw [← hnn] at HVV HF2 HF1 HF0 p0 p1 ⊢
   clear HFD hnn hl
   go_enter Tryz.func112, Tryz.ntmps112
   go_wp2_with fail
   refine (HPA.out _).mono ?_
   rintro e w1 ⟨rfl, g1⟩
   have K1 := zI (HF0.out.later g1.fp)
   have HS01 := zI (show w.heap.size + 2 ≤ w1.heap.size from K1.out.now.1.sz)
   clear g1
   go_wp2_with fail
   refine (HF1.out _ K1.out.now.2.2).mono ?_
   rintro e w2 ⟨rfl, hf⟩
   have HS12 := zI hf.size
   have hbx := heap_alloc_new w2 (.cells #[.string (B x.path), .string (B x.data), .int .i64 x.ver, .int .i64 x.turn, .int .i64 x.own] TN)
   have K2 := zI (Kp.and (Kp.row hbx) (K1.out.later (hf.alloc (.cells #[.string (B x.path), .string (B x.data), .int .i64 x.ver, .int .i64 x.turn, .int .i64 x.own] TN))))
   clear hf hbx
   obtain ⟨y0, y1, y2, y3, y4⟩ := box5 K2.out.now.1
   obtain ⟨o0, o1, o2, o3, o4, o5⟩ := box6 K2.out.now.2.1.op
   go_wp2_with fail
   refine (HN1.out _).mono ?_
   rintro e w3 ⟨rfl, hf⟩
   have K4 := zI (K2.out.later hf)
   clear hf y0 y1 y2 y3 y4 o0 o1 o2 o3 o4 o5
   go_wp2_with fail
   refine (HF2.out _ K4.out.now.2.2.2).mono ?_
   rintro e w5 ⟨rfl, hf⟩
   have K5 := zI (K4.out.later (hf.alloc (.cells #[.string (B []), .string (B []), .int .i64 0, .int .i64 0, .int .i64 0] TN)))
   clear hf
   have hbr := K5.out.now.2.1
   have hfw := K5.out.now.2.2.1
   obtain ⟨r0, r1, r2, r3, r4⟩ := hbr.r
   have z0 := hbr.fz 0; have z1 := hbr.fz 1; have z2 := hbr.fz 2; have z3 := hbr.fz 3; have z4 := hbr.fz 4
   have HE := zI (yI hbr.res hfw)
   clear hbr hfw
   go_wp2
   have hw9 := set5 HE.out.1 (.int .i64 2) (.string ⟨#[]⟩) (.string ⟨#[]⟩) (.int .i64 0) (.slice none 0 0)
   have hfz := fp5 (S := Non) HE.out.2 (b := w.heap.size + 1) (.inr (by omega)) (.int .i64 2) (.string ⟨#[]⟩) (.string ⟨#[]⟩) (.int .i64 0) (.slice none 0 0)
   have hfk := fp5k HE.out.1 (.int .i64 2) (.string ⟨#[]⟩) (.string ⟨#[]⟩) (.int .i64 0) (.slice none 0 0)
   generalize (((((World.setCell _ _ _).setCell _ _).setCell _ _).setCell _ _).setCell _ _) = wz at *
   obtain ⟨s0, s1, s2, s3, s4⟩ := b5 hw9
   exact bodyPost_ret (v := .tuple #[.slice ao n cap, .agg #[.int .i64 2, .string ⟨#[]⟩, .string ⟨#[]⟩, .int .i64 0, .slice none 0 0]]) (by simp [results, Tryz.results112, go_sem, s0, s1, s2, s3, s4]) rfl (res_badB (HVV.out.non hfz) hfz)
  rw [if_neg hl]
  have hlm := HT.out.most
  have p0 : ((512 : Int) ≤ (l.length : Int)) = False := eq_false (by omega)
  have p1 : (512 ≤ l.length) = False := eq_false (by omega)
  cases tt with
  | false =>
   have hpt := rPut_c (.slice ao l.length cap) l ⟨q, d, 0, 0, ow⟩
   rw [put_ins HT.out.asc (⟨q, d, 0, 0, ow⟩ : Nd) HQN.out] at hpt
   simp only [Bool.false_eq_true, if_false] at hpt ⊢
   generalize hr : ins l (place l q) ⟨q, d, 0, 0, ow⟩ = R at *
   have hlb : l.length ≤ 9000 := by omega
   obtain ⟨n, hnn⟩ : ∃ n, n = l.length := ⟨_, rfl⟩
   have HPT := zI (fun w' h => hpt w' h hlb)
   rw [← hnn] at HVV HF2 HF1 HF0 p0 p1 HPT ⊢
   clear HFD hnn hl hlm hpt hlb
   go_enter Tryz.func112, Tryz.ntmps112
   go_wp2_with fail
   refine (HPA.out _).mono ?_
   rintro e w1 ⟨rfl, g1⟩
   have K1 := zI (HF0.out.later g1.fp)
   have HS01 := zI (show w.heap.size + 2 ≤ w1.heap.size from K1.out.now.1.sz)
   clear g1
   go_wp2_with fail
   refine (HF1.out _ K1.out.now.2.2).mono ?_
   rintro e w2 ⟨rfl, hf⟩
   have HS12 := zI hf.size
   have hbx := heap_alloc_new w2 (.cells #[.string (B x.path), .string (B x.data), .int .i64 x.ver, .int .i64 x.turn, .int .i64 x.own] TN)
   have K2 := zI (Kp.and (Kp.row hbx) (K1.out.later (hf.alloc (.cells #[.string (B x.path), .string (B x.data), .int .i64 x.ver, .int .i64 x.turn, .int .i64 x.own] TN))))
   clear hf hbx
   obtain ⟨y0, y1, y2, y3, y4⟩ := box5 K2.out.now.1
   obtain ⟨o0, o1, o2, o3, o4, o5⟩ := box6 K2.out.now.2.1.op
   go_wp2_with fail
   refine (HN1.out _).mono ?_
   rintro e w3 ⟨rfl, hf⟩
   have K4 := zI (K2.out.later hf)
   clear hf y0 y1 y2 y3 y4 o0 o1 o2 o3 o4 o5
   have HW2 := zI (show w.heap.size ≤ w2.heap.size by have h1 := HS01.out; have h2 := HS12.out; omega)
   have HW1 := zI (show w.heap.size + 2 ≤ w2.heap.size by have h1 := HS01.out; have h2 := HS12.out; omega)
   go_wp2_with fail
   refine (HF2.out _ K4.out.now.2.2.2).mono ?_
   rintro e w5 ⟨rfl, hf⟩
   have K5 := zI (K4.out.later (hf.alloc (.cells #[.string (B []), .string (B []), .int .i64 0, .int .i64 0, .int .i64 0] TN)))
   clear hf
   obtain ⟨o0, o1, o2, o3, o4, o5⟩ := box6 K5.out.now.2.1.op
   go_wp2_with fail
   refine (HPT.out _ K5.out.now.2.2.2).mono ?_
   rintro e w6 ⟨v6, rfl, ho, hf⟩
   have HO6 := zI (yI ho K5.out.now.2.1.sz)
   have K6 := zI (K5.out.later hf)
   clear ho hf o0 o1 o2 o3 o4 o5
   have hbr := K6.out.now.2.1
   have hfw := K6.out.now.2.2.1
   obtain ⟨r0, r1, r2, r3, r4⟩ := hbr.r
   have z0 := hbr.fz 0; have z1 := hbr.fz 1; have z2 := hbr.fz 2; have z3 := hbr.fz 3; have z4 := hbr.fz 4
   have HE := zI (yI hbr.res hfw)
   clear hbr hfw
   go_wp2
   have hw9 := set5 HE.out.1 (.int .i64 0) (.string (B q)) (.string ⟨#[]⟩) (.int .i64 0) (.slice none 0 0)
   have hfz := fp5 (S := Non) HE.out.2 (b := w.heap.size + 1) (.inr (by omega)) (.int .i64 0) (.string (B q)) (.string ⟨#[]⟩) (.int .i64 0) (.slice none 0 0)
   have hfk := fp5k HE.out.1 (.int .i64 0) (.string (B q)) (.string ⟨#[]⟩) (.int .i64 0) (.slice none 0 0)
   generalize (((((World.setCell _ _ _).setCell _ _).setCell _ _).setCell _ _).setCell _ _) = wz at *
   obtain ⟨s0, s1, s2, s3, s4⟩ := b5 hw9
   exact bodyPost_ret (v := .tuple #[v6, .agg #[.int .i64 0, .string (B q), .string ⟨#[]⟩, .int .i64 0, .slice none 0 0]]) (by simp [results, Tryz.results112, go_sem, s0, s1, s2, s3, s4]) rfl (⟨⟨v6, .slice none 0 0, rfl, HO6.out.1.ns.keep hfk (fun k hk e => by have h1 := (HO6.out.1.lt k hk).1; have h2 := HO6.out.2; omega), Own.nil _ _, fun k hk => .inr (by have h1 := (HO6.out.1.lt k hk).1; have h2 := HO6.out.2; omega)⟩, hfz⟩)
  | true => ?_
  have hpt := fun v' w' h1 h2 => rPut_c v' (l.set (place l u) { x with turn := x.turn + 1 }) ⟨q, d, 0, 0, ow⟩ w' h1 h2
  rw [put_new HT.out HX.out.2 HQN.out (x.turn + 1) ⟨q, d, 0, 0, ow⟩ rfl] at hpt
  have hpu := rPut_c (.slice ao l.length cap) l { x with turn := x.turn + 1 }
  rw [put_up HT.out HX.out.2 (x.turn + 1)] at hpu
  have hl2 : (l.set (place l u) { x with turn := x.turn + 1 }).length ≤ 9000 := by rw [List.length_set]; omega
  simp only [if_true] at hpt ⊢
  generalize hr : ins (l.set (place l u) { x with turn := x.turn + 1 }) (place l q) ⟨q, d, 0, 0, ow⟩ = R at *
  generalize hr2 : l.set (place l u) { x with turn := x.turn + 1 } = L2 at *
  have hlb : l.length ≤ 9000 := by omega
  obtain ⟨n, hnn⟩ : ∃ n, n = l.length := ⟨_, rfl⟩
  have HPU := zI (fun w' h => hpu w' h hlb)
  have HPT := zI (fun v' w' h1 => hpt v' w' h1 hl2)
  rw [← hnn] at HVV HF2 HF1 HF0 p0 p1 HPU ⊢
  clear HFD hnn hl hlm hpt hpu hlb hl2
  go_enter Tryz.func112, Tryz.ntmps112
  go_wp2_with fail
  refine (HPA.out _).mono ?_
  rintro e w1 ⟨rfl, g1⟩
  have K1 := zI (HF0.out.later g1.fp)
  have HS01 := zI (show w.heap.size + 2 ≤ w1.heap.size from K1.out.now.1.sz)
  clear g1
  go_wp2_with fail
  refine (HF1.out _ K1.out.now.2.2).mono ?_
  rintro e w2 ⟨rfl, hf⟩
  have HS12 := zI hf.size
  have hbx := heap_alloc_new w2 (.cells #[.string (B x.path), .string (B x.data), .int .i64 x.ver, .int .i64 x.turn, .int .i64 x.own] TN)
  have K2 := zI (Kp.and (Kp.row hbx) (K1.out.later (hf.alloc (.cells #[.string (B x.path), .string (B x.data), .int .i64 x.ver, .int .i64 x.turn, .int .i64 x.own] TN))))
  clear hf hbx
  obtain ⟨y0, y1, y2, y3, y4⟩ := box5 K2.out.now.1
  obtain ⟨o0, o1, o2, o3, o4, o5⟩ := box6 K2.out.now.2.1.op
  go_wp2_with fail
  refine (HN1.out _).mono ?_
  rintro e w3 ⟨rfl, hf⟩
  have K4 := zI (K2.out.later hf)
  clear hf y0 y1 y2 y3 y4 o0 o1 o2 o3 o4 o5
  have HW2 := zI (show w.heap.size ≤ w2.heap.size by have h1 := HS01.out; have h2 := HS12.out; omega)
  have HW1 := zI (show w.heap.size + 2 ≤ w2.heap.size by have h1 := HS01.out; have h2 := HS12.out; omega)
  go_wp2_with fail
  refine (HF2.out _ K4.out.now.2.2.2).mono ?_
  rintro e w5 ⟨rfl, hf⟩
  have K5 := zI (K4.out.later (hf.alloc (.cells #[.string (B []), .string (B []), .int .i64 0, .int .i64 0, .int .i64 0] TN)))
  clear hf
  obtain ⟨o0, o1, o2, o3, o4, o5⟩ := box6 K5.out.now.2.1.op
  obtain ⟨y0, y1, y2, y3, y4⟩ := box5 K5.out.now.1
  have fz := frozen_at K5.out.now.1
  have f3 := fz 3
  have hset := heap_setCell_same _ w2.heap.size 3 _ TN (.int .i64 (x.turn + 1)) K5.out.now.1
  have hlow : w.heap.size ≤ w2.heap.size := HW2.out
  have hfs : Fp (fun k => k = w2.heap.size) (w5.alloc (.cells #[.string (B []), .string (B []), .int .i64 0, .int .i64 0, .int .i64 0] TN)) ((w5.alloc (.cells #[.string (B []), .string (B []), .int .i64 0, .int .i64 0, .int .i64 0] TN)).setCell ⟨w2.heap.size, 3, none⟩ (.int .i64 (x.turn + 1))) := (Fp.refl (fun k => k = w2.heap.size) _).setCell (p := ⟨w2.heap.size, 3, none⟩) (.inl rfl) _
  have hfw := K5.out.now.2.2.1.setCell (p := ⟨w2.heap.size, 3, none⟩) (.inr hlow) (.int .i64 (x.turn + 1))
  have hns : Ns ((w5.alloc (.cells #[.string (B []), .string (B []), .int .i64 0, .int .i64 0, .int .i64 0] TN)).setCell ⟨w2.heap.size, 3, none⟩ (.int .i64 (x.turn + 1))) (.slice ao n cap) l := HVV.out.non hfw
  have hop := K5.out.now.2.1.keep hfs (fun k hk => .inr (by have := HW1.out; omega))
  obtain ⟨s0, s1, s2, s3, s4⟩ := box5 hset
  have K6 := zI (Kp.and (fun W' f => hop.non f : Kp (Bx w kk p d vv ow true) _) (Kp.and (Kp.fp hfw) (Kp.ns hns)))
  clear fz hset hlow hfs hfw hns hop
  go_wp2_with fail
  refine (HPU.out _ K6.out.now.2.2).mono ?_
  rintro e w6 ⟨v6, rfl, ho, hf⟩
  obtain ⟨a6, c6, rfl⟩ := ho.shape
  have K7 := zI (Kp.and (Kp.ns ho.ns) (K6.out.later hf))
  clear ho hf o0 o1 o2 o3 o4 o5 y0 y1 y2 y3 y4 s0 s1 s2 s3 s4
  obtain ⟨o0, o1, o2, o3, o4, o5⟩ := box6 K7.out.now.2.1.op
  go_wp2_with fail
  refine (HPT.out _ _ K7.out.now.1).mono ?_
  rintro e w7 ⟨v7, rfl, ho, hf⟩
  have HO7 := zI (yI ho K7.out.now.2.1.sz)
  have K8 := zI (K7.out.later hf)
  clear ho hf o0 o1 o2 o3 o4 o5
  have hbr := K8.out.now.2.1
  have hfw := K8.out.now.2.2.1
  obtain ⟨r0, r1, r2, r3, r4⟩ := hbr.r
  have z0 := hbr.fz 0; have z1 := hbr.fz 1; have z2 := hbr.fz 2; have z3 := hbr.fz 3; have z4 := hbr.fz 4
  have HE := zI (yI hbr.res hfw)
  clear hbr hfw
  go_wp2
  have hw9 := set5 HE.out.1 (.int .i64 0) (.string (B q)) (.string ⟨#[]⟩) (.int .i64 0) (.slice none 0 0)
  have hfz := fp5 (S := Non) HE.out.2 (b := w.heap.size + 1) (.inr (by omega)) (.int .i64 0) (.string (B q)) (.string ⟨#[]⟩) (.int .i64 0) (.slice none 0 0)
  have hfk := fp5k HE.out.1 (.int .i64 0) (.string (B q)) (.string ⟨#[]⟩) (.int .i64 0) (.slice none 0 0)
  generalize (((((World.setCell _ _ _).setCell _ _).setCell _ _).setCell _ _).setCell _ _) = wz at *
  obtain ⟨s0, s1, s2, s3, s4⟩ := b5 hw9
  exact bodyPost_ret (v := .tuple #[v7, .agg #[.int .i64 0, .string (B q), .string ⟨#[]⟩, .int .i64 0, .slice none 0 0]]) (by simp [results, Tryz.results112, go_sem, s0, s1, s2, s3, s4]) rfl (⟨⟨v7, .slice none 0 0, rfl, HO7.out.1.ns.keep hfk (fun k hk e => by have h1 := (HO7.out.1.lt k hk).1; have h2 := HO7.out.2; omega), Own.nil _ _, fun k hk => .inr (by have h1 := (HO7.out.1.lt k hk).1; have h2 := HO7.out.2; omega)⟩, hfz⟩)
 rw [if_pos h0]
 have q0 : (x.own == 0) = false := beq_eq_false_iff_ne.2 h0
 have q1 : (x.own != 0) = true := by simpa using h0
 have q2 : (x.own = 0) = False := eq_false h0
 obtain ⟨n, hnn⟩ : ∃ n, n = l.length := ⟨_, rfl⟩
 rw [← hnn] at HVV HF1 HF0 ⊢
 clear h0 HFD HNM hnn
 go_enter Tryz.func112, Tryz.ntmps112
 go_wp2_with fail
 refine (HPA.out _).mono ?_
 rintro e w1 ⟨rfl, g1⟩
 have K1 := zI (HF0.out.later g1.fp)
 clear g1
 go_wp2_with fail
 refine (HF1.out _ K1.out.now.2.2).mono ?_
 rintro e w2 ⟨rfl, hf⟩
 have K2 := zI (K1.out.later (hf.alloc (.cells #[.string (B x.path), .string (B x.data), .int .i64 x.ver, .int .i64 x.turn, .int .i64 x.own] TN)))
 clear hf
 obtain ⟨y0, y1, y2, y3, y4⟩ := (NdAt.box w2 x).five
 have hbr := K2.out.now.1
 have hfw := K2.out.now.2.1
 obtain ⟨r0, r1, r2, r3, r4⟩ := hbr.r
 have z0 := hbr.fz 0; have z1 := hbr.fz 1; have z2 := hbr.fz 2; have z3 := hbr.fz 3; have z4 := hbr.fz 4
 have HE := zI (yI hbr.res hfw)
 clear hbr hfw
 go_wp2
 have hw9 := set5 HE.out.1 (.int .i64 65) (.string ⟨#[]⟩) (.string ⟨#[]⟩) (.int .i64 0) (.slice none 0 0)
 have hfz := fp5 (S := Non) HE.out.2 (b := w.heap.size + 1) (.inr (by omega)) (.int .i64 65) (.string ⟨#[]⟩) (.string ⟨#[]⟩) (.int .i64 0) (.slice none 0 0)
 have hfk := fp5k HE.out.1 (.int .i64 65) (.string ⟨#[]⟩) (.string ⟨#[]⟩) (.int .i64 0) (.slice none 0 0)
 generalize (((((World.setCell _ _ _).setCell _ _).setCell _ _).setCell _ _).setCell _ _) = wz at *
 obtain ⟨s0, s1, s2, s3, s4⟩ := b5 hw9
 exact bodyPost_ret (v := .tuple #[.slice ao n cap, .agg #[.int .i64 65, .string ⟨#[]⟩, .string ⟨#[]⟩, .int .i64 0, .slice none 0 0]]) (by simp [results, Tryz.results112, go_sem, s0, s1, s2, s3, s4]) rfl (res_badB (HVV.out.non hfz) hfz)
end Go.Proofs.YtphoglepiegeiaaGreatDoor
