/- Texts of this proof, merged. -/
import Derived.Test.YthaepjeikicigaaGreatDoorZU
/- The document's without, Put. -/
namespace Go.Proofs.YthaepjeikicigaaGreatDoor
set_option linter.unusedSimpArgs false
set_option linter.unusedVariables false
set_option maxRecDepth 20000
set_option linter.unusedVariables false
set_option linter.unusedSimpArgs false
open Go.RowKit Pm
namespace Pm
def wo (l : List Nd) (p : Bs) : List Nd := l.filter (fun n => n.path != p)
theorem wo_take (l : List Nd) (p : Bs) (k : Nat) (hk : k < l.length) : wo (l.take (k + 1)) p = wo (l.take k) p ++ if (l[k].path != p) = true then [l[k]] else [] := by
  unfold wo
  rw [List.take_succ_eq_append_getElem hk, List.filter_append]
  congr 1
  rw [List.filter_cons, List.filter_nil]
/-- A step of the document's Put. -/
def pstep (x : Nd) (s : List Nd × Bool) (a : Nd) : List Nd × Bool :=
  let s1 := if s.2 = false ∧ lt a.path x.path = false then (s.1 ++ [x], true) else s
  if a.path = x.path then s1 else (s1.1 ++ [a], s1.2)
theorem pstep_done (x : Nd) : ∀ (l acc : List Nd), l.foldl (pstep x) (acc, true) = (acc ++ l.filter (fun n => n.path != x.path), true)
  | [], acc => by simp
  | a :: l, acc => by
    rw [List.foldl_cons]
    by_cases h : a.path = x.path
    · have e : pstep x (acc, true) a = (acc, true) := by unfold pstep; simp [h]
      rw [e, pstep_done x l acc, List.filter_cons, if_neg (by simp [h])]
    · have e : pstep x (acc, true) a = (acc ++ [a], true) := by unfold pstep; simp [h]
      rw [e, pstep_done x l _, List.filter_cons, if_pos (by simpa using h)]; simp
theorem pstep_put (x : Nd) : ∀ (l acc : List Nd), (if (l.foldl (pstep x) (acc, false)).2 = true then (l.foldl (pstep x) (acc, false)).1 else (l.foldl (pstep x) (acc, false)).1 ++ [x]) = acc ++ put l x
  | [], acc => by simp [put]
  | a :: l, acc => by
    rw [List.foldl_cons, put]
    by_cases hb : lt a.path x.path = true
    · have hne := lt_ne hb
      have e : pstep x (acc, false) a = (acc ++ [a], false) := by unfold pstep; simp [hb, hne]
      rw [e, pstep_put x l (acc ++ [a]), if_pos hb]; simp
    · have hb2 : lt a.path x.path = false := by simpa using hb
      rw [if_neg hb]
      by_cases h : a.path = x.path
      · have e : pstep x (acc, false) a = (acc ++ [x], true) := by unfold pstep; dsimp only; rw [if_pos h, if_pos ⟨rfl, hb2⟩]
        rw [e, pstep_done, if_pos rfl, List.filter_cons, if_neg (by simp [h])]; simp
      · have e : pstep x (acc, false) a = (acc ++ [x] ++ [a], true) := by unfold pstep; dsimp only; rw [if_neg h, if_pos ⟨rfl, hb2⟩]
        rw [e, pstep_done, if_pos rfl, List.filter_cons, if_pos (by simpa using h)]; simp
theorem put_len (l : List Nd) (x : Nd) : (put l x).length ≤ l.length + 1 := by
  induction l with
  | nil => simp [put]
  | cons a l ih =>
    rw [put]; split
    · simp; exact ih
    · have := List.length_filter_le (fun n => n.path != x.path) (a :: l)
      simp only [List.length_cons] at this ⊢; omega
theorem fold_len (x : Nd) (l : List Nd) : (l.foldl (pstep x) ([], false)).1.length ≤ l.length + 1 := by
  have h := congrArg List.length (pstep_put x l [])
  rw [List.nil_append] at h
  have h2 := put_len l x
  split at h
  · omega
  · rw [List.length_append] at h; simp only [List.length_cons, List.length_nil] at h; omega
end Pm
set_option maxHeartbeats 8000000 in
theorem rWithout_c (v : Value) (l : List Nd) (p : Bs) (w : World) (hv : Ns w v l) (hs : Sp l) (hl : l.length ≤ 2000) :
    Calls Tryz.prog 23 #[v, .string (B p)] w fun e w' => ∃ v', e = .returned v' ∧ OwnN w.heap.size w' v' (wo l p) ∧ Fp Non w w' := by
  obtain ⟨ao, cap, rfl⟩ := hv.shape
  obtain ⟨n, hn⟩ : ∃ n, n = l.length := ⟨_, rfl⟩
  rw [← hn]
  have HX := Lib.hid (And.intro hn (And.intro hs hv))
  have hn6 : n ≤ 2000 := by omega
  have H0 : Hid (OwnN w.heap.size w (.slice none 0 0) (wo (l.take 0) p) ∧ Fp Non w w) := ⟨by rw [List.take_zero]; exact OwnN.nil _ _, Fp.refl _ _⟩
  clear hs hn hl hv
  go_enter Tryz.func23, Tryz.ntmps23
  go_wp2_with fail
  go_loopw [5, 6] (fun v i wr => ∃ k : Nat, k ≤ n ∧ i = .int .i64 k ∧ Hid (OwnN w.heap.size wr v (wo (l.take k) p) ∧ Fp Non w wr)) (fun _ i _ => n - (RowKit.intOf i).toNat)
  case atStart => exact ⟨0, Nat.zero_le _, rfl, H0⟩
  case round =>
    clear H0
    obtain ⟨k, hk, rfl, hR⟩ := hrel
    rename_i wr _
    by_cases hlt : k < n
    · have hkl : k < l.length := by rw [← HX.out.1]; exact hlt
      obtain ⟨g, o, cap', e, _, _, _, hcell⟩ := HX.out.2.2.at (by omega)
      injection e with e1 e2 e3
      subst e1 e3
      clear e2
      have hnd := (hcell k hkl).keep hR.out.2 (fun h => h)
      have hstep := wo_take l p k hkl
      generalize l[k] = x at *
      have c0 := hnd.c0; have c1 := hnd.c1; have c2 := hnd.c2; have c3 := hnd.c3; have c4 := hnd.c4
      unfold strV at c0 c1
      have q3 : ((k : Int) < (n : Int)) = True := eq_true (by omega)
      have q4 : (k < n) = True := eq_true hlt
      have HB := Lib.hid (And.intro hstep hnd)
      have HL := Lib.hid hlt
      clear hnd hstep hkl hlt hcell
      by_cases hxp : x.path = p
      · have q5 : (x.path == p) = true := beq_iff_eq.2 hxp
        have q6 : (x.path = p) = True := eq_true hxp
        have q7 : (x.path != p) = false := by simp [hxp]
        have hM : Hid (OwnN w.heap.size wr _ (wo (l.take (k + 1)) p) ∧ Fp Non w wr) := ⟨by rw [HB.out.1, q7]; simpa using hR.out.1, hR.out.2⟩
        have hj1 := HL.out
        clear hxp
        go_wp2
        go_roundw
        case rel => exact ⟨k + 1, by omega, by go_num, hM⟩
        case measure => simp [RowKit.intOf]; omega
      · have q5 : (x.path == p) = false := beq_eq_false_iff_ne.2 hxp
        have q6 : (x.path = p) = False := eq_false hxp
        have q7 : (x.path != p) = true := by simpa using hxp
        have HQ := Lib.hid q7
        clear hxp
        obtain ⟨ks, hks⟩ : ∃ ks, ks = wo (l.take k) p := ⟨_, rfl⟩
        have hap := app_node wr w.heap.size _ ks x TL (by rw [hks]; exact hR.out.1) (by rw [hks]; exact Nat.le_trans (List.length_filter_le _ _) (by rw [List.length_take]; omega)) hR.out.2.size
        obtain ⟨vao, vcap, rfl⟩ := hR.out.1.shape
        rw [← hks] at hap
        have HKS := Lib.hid hks
        have HAP := Lib.hid hap
        rw [← hks]
        clear hap hks
        go_wp2_with (at_builtin; go_must (refine wpList_app rfl _ _ _ _ rfl _ _ rfl rfl _ HAP.out ?_))
        intro v4 w4 hR4
        have hM : Hid (OwnN w.heap.size w4 v4 (wo (l.take (k + 1)) p) ∧ Fp Non w w4) := ⟨by rw [HB.out.1, HQ.out]; have := hR4.own; rw [HKS.out] at this; simpa using this, hR.out.2.trans hR4.fp (fun k hk => .inr hk)⟩
        have hj1 := HL.out
        clear hR4
        go_wp2
        go_roundw
        case rel => exact ⟨k + 1, by omega, by go_num, hM⟩
        case measure => simp [RowKit.intOf]; omega
    · have hke : k = n := by omega
      subst hke
      have q3 : ((k : Int) < (k : Int)) = False := eq_false (by omega)
      have hfin := hR.out.1
      rw [List.take_of_length_le (by rw [← HX.out.1]; exact Nat.le_refl _)] at hfin
      have HF := Lib.hid hfin
      clear hlt hk hfin
      go_wp2
      go_ret
      exact ⟨_, rfl, HF.out, hR.out.2⟩
theorem fold_take (x : Nd) (l : List Nd) (k : Nat) (hk : k < l.length) : (l.take (k + 1)).foldl (pstep x) ([], false) = pstep x ((l.take k).foldl (pstep x) ([], false)) l[k] := by
  rw [List.take_succ_eq_append_getElem hk, List.foldl_append]; rfl
theorem fold_len_take (x : Nd) (l : List Nd) (k : Nat) : ((l.take k).foldl (pstep x) ([], false)).1.length ≤ l.length + 1 := by
  have := fold_len x (l.take k)
  rw [List.length_take] at this; omega
theorem not_le2 {a b : Bs} (h : lt a b = true) : (Op.bytesLess b a || b == a) = false := by
  have h1 : Op.bytesLess b a = false := lt_asymm h
  have h2 : (b == a) = false := beq_eq_false_iff_ne.2 (lt_ne h).symm
  rw [h1, h2]; rfl
theorem le_of_not {a b : Bs} (h : lt a b = false) : (Op.bytesLess b a || b == a) = true := by
  rcases not_le_lt h with e | e
  · subst e; simp
  · have : Op.bytesLess b a = true := e
    rw [this]; rfl
theorem OwnN.low {lo lo' : Nat} {w : World} {v : Value} {l : List Nd} (h : OwnN lo w v l) (hl : lo' ≤ lo) : OwnN lo' w v l := by
  rcases h.2 with h0 | ⟨g, cap, cur, e, hb, rest⟩
  · exact ⟨h.1, .inl h0⟩
  · exact ⟨h.1, .inr ⟨g, cap, cur, e, Nat.le_trans hl hb, rest⟩⟩
set_option maxHeartbeats 8000000 in
theorem rPut_c (v : Value) (l : List Nd) (y : Nd) (w : World) (hv : Ns w v l) (hl : l.length ≤ 2000) :
    Calls Tryz.prog 24 #[v, .agg #[.string (B y.path), .string (B y.data), .int .i64 y.ver, .int .i64 y.turn, .int .i64 y.own]] w fun e w' => ∃ v', e = .returned v' ∧ OwnN w.heap.size w' v' (put l y) ∧ Fp Non w w' := by
  obtain ⟨ao, cap, rfl⟩ := hv.shape
  obtain ⟨n, hn⟩ : ∃ n, n = l.length := ⟨_, rfl⟩
  rw [← hn]
  have hf0 := fp_alloc w (.cells #[.string (B y.path), .string (B y.data), .int .i64 y.ver, .int .i64 y.turn, .int .i64 y.own] TN)
  have hb0 := heap_alloc_new w (.cells #[.string (B y.path), .string (B y.data), .int .i64 y.ver, .int .i64 y.turn, .int .i64 y.own] TN)
  have HX := Lib.hid (And.intro hn hv)
  have HB0 := Lib.hid (And.intro hf0 hb0)
  have hsz : (w.alloc (.cells #[.string (B y.path), .string (B y.data), .int .i64 y.ver, .int .i64 y.turn, .int .i64 y.own] TN)).heap.size = w.heap.size + 1 := by simp
  have HSZ := Lib.hid hsz
  clear hsz
  have hn6 : n ≤ 2000 := by omega
  have H0 : Hid (OwnN (w.heap.size + 1) (w.alloc (.cells #[.string (B y.path), .string (B y.data), .int .i64 y.ver, .int .i64 y.turn, .int .i64 y.own] TN)) (.slice none 0 0) ((l.take 0).foldl (pstep y) ([], false)).1 ∧ Fp Non (w.alloc (.cells #[.string (B y.path), .string (B y.data), .int .i64 y.ver, .int .i64 y.turn, .int .i64 y.own] TN)) (w.alloc (.cells #[.string (B y.path), .string (B y.data), .int .i64 y.ver, .int .i64 y.turn, .int .i64 y.own] TN))) := ⟨by rw [List.take_zero]; exact OwnN.nil _ _, Fp.refl _ _⟩
  clear hn hl hv hf0 hb0
  go_enter Tryz.func24, Tryz.ntmps24
  go_wp2_with fail
  go_loopw [5, 6, 7] (fun v dv i wr => ∃ k : Nat, k ≤ n ∧ i = .int .i64 k ∧ ∃ acc dn, dv = .bool dn ∧ Hid ((l.take k).foldl (pstep y) ([], false) = (acc, dn) ∧ OwnN (w.heap.size + 1) wr v acc ∧ Fp Non (w.alloc (.cells #[.string (B y.path), .string (B y.data), .int .i64 y.ver, .int .i64 y.turn, .int .i64 y.own] TN)) wr)) (fun _ _ i _ => n - (RowKit.intOf i).toNat)
  case atStart => exact ⟨0, Nat.zero_le _, rfl, [], false, rfl, rfl, H0.out.1, H0.out.2⟩
  case round =>
    clear H0
    obtain ⟨k, hk, rfl, acc, dn, rfl, hR⟩ := hrel
    rename_i wr _
    have hal : acc.length ≤ 2001 := by
      have := fold_len_take y l k
      rw [hR.out.1] at this
      have h2 := HX.out.1
      simp only at this; omega
    have HAL := Lib.hid hal
    have hby := hR.out.2.2.heap HB0.out.2 (fun h => h)
    have HBY := Lib.hid hby
    obtain ⟨vao, vcap, rfl⟩ := hR.out.2.1.shape
    by_cases hlt : k < n
    · have hkl : k < l.length := by rw [← HX.out.1]; exact hlt
      have hns := HX.out.2.non (HB0.out.1.then hR.out.2.2)
      obtain ⟨g, o, cap', e, _, _, hgl, hcell⟩ := HX.out.2.at (by omega)
      injection e with e1 e2 e3
      subst e1 e3
      clear e2
      have hnd := (hcell k hkl).keep (HB0.out.1.then hR.out.2.2) (fun h => h)
      have hst := fold_take y l k hkl
      rw [hR.out.1] at hst
      have hgw : g < w.heap.size + 1 := Nat.lt_succ_of_lt hgl
      generalize l[k] = x at *
      have q3 : ((k : Int) < (n : Int)) = True := eq_true (by omega)
      have q4 : (k < n) = True := eq_true hlt
      have HST := Lib.hid hst
      have HND := Lib.hid hnd
      have HL := Lib.hid hlt
      have HG := Lib.hid hgw
      have hs6 : (wr.drew).cell? ⟨g, o + k * 5, none⟩ = some (.string (B x.path)) ∧ (wr.drew).cell? ⟨w.heap.size, 0, none⟩ = some (.string (B y.path)) :=
        ⟨(hnd.keep ((Fp.refl Non wr).drew) (fun h => h)).c0, (box5 ((Fp.refl Non wr).drew.heap hby (fun h => h))).1⟩
      have HS6 := Lib.hid hs6
      clear hnd hcell hst hs6 hkl hlt hns hal hby hgl hgw
      cases dn with
      | true =>
        by_cases hxy : x.path = y.path
        · have HM := Lib.hid (show pstep y (acc, true) x = (acc, true) by unfold pstep; simp [hxy])
          have qe1 : (x.path == y.path) = true := beq_iff_eq.2 hxy
          have qe2 : (x.path = y.path) = True := eq_true hxy
          have qe3 : (x.path != y.path) = false := by simp [hxy]
          clear hxy
          go_wp2_with fail
          refine wp_region_held_drew (S := (fun w' => w'.cell? ⟨g, o + k * 5, none⟩ = some (.string (B x.path)) ∧ w'.cell? ⟨w.heap.size, 0, none⟩ = some (.string (B y.path)))) (by kernel_rfl) ?_ (fun hHeld => ?_)
          · exact HS6.out
          refine wpAnyH_take (i := 0) (oi := ?oi101) (v := ?vi101) ?h101 (by kernel_rfl) (by kernel_rfl) (by kernel_rfl) ?q101 (Or.inl ⟨?w101, ?y101⟩) hHeld ?r101
          case h101 => simp only [zA, zB] <;> exact rfl
          case q101 => exact fun _ _ _ h => h
          case w101 => rfl
          case y101 =>
            intro w hSw
            (try dsimp only at hSw)
            obtain ⟨s0, s1⟩ := hSw
            go_simp
            try with_reducible rfl
          try simp only [zP, zN, zS, zT, zU]
          refine wpAnyH_take (i := 1) (oi := ?oi102) (v := ?vi102) ?h102 (by kernel_rfl) (by kernel_rfl) (by kernel_rfl) ?q102 (Or.inl ⟨?w102, ?y102⟩) hHeld ?r102
          case h102 => simp only [zA, zB, zC] <;> exact rfl
          case q102 => exact fun _ _ _ h => h
          case w102 => rfl
          case y102 =>
            intro w hSw
            (try dsimp only at hSw)
            obtain ⟨s0, s1⟩ := hSw
            go_simp
            try with_reducible rfl
          try simp only [zP, zN, zS, zT, zU]
          refine wpAnyH_take (i := 2) (oi := ?oi103) (v := ?vi103) ?h103 (by kernel_rfl) (by kernel_rfl) (by kernel_rfl) ?q103 (Or.inl ⟨?w103, ?y103⟩) hHeld ?r103
          case h103 => simp only [zA, zB, zC] <;> exact rfl
          case q103 => exact fun _ _ _ h => h
          case w103 => rfl
          case y103 =>
            intro w hSw
            (try dsimp only at hSw)
            obtain ⟨s0, s1⟩ := hSw
            go_simp
            try with_reducible rfl
          try simp only [zP, zN, zS, zT, zU]
          refine wpAnyH_take (i := 3) (oi := ?oi104) (v := undef) ?h104 (by kernel_rfl) (by kernel_rfl) (by kernel_rfl) ?q104 (Or.inr ⟨?w104, rfl⟩) hHeld ?r104
          case h104 => simp only [zA, zB, zC] <;> exact rfl
          case q104 => exact fun _ _ _ h => h
          case w104 => rfl
          try simp only [zP, zN, zS, zT, zU]
          refine wpAnyH_take (i := 4) (oi := ?oi105) (v := undef) ?h105 (by kernel_rfl) (by kernel_rfl) (by kernel_rfl) ?q105 (Or.inr ⟨?w105, rfl⟩) hHeld ?r105
          case h105 => simp only [zA, zB, zC] <;> exact rfl
          case q105 => exact fun _ _ _ h => h
          case w105 => rfl
          try simp only [zP, zN, zS, zT, zU]
          refine wpAnyH_take (i := 5) (oi := ?oi106) (v := undef) ?h106 (by kernel_rfl) (by kernel_rfl) (by kernel_rfl) ?q106 (Or.inr ⟨?w106, rfl⟩) hHeld ?r106
          case h106 => simp only [zA, zB, zC] <;> exact rfl
          case q106 => exact fun _ _ _ h => h
          case w106 => rfl
          try simp only [zP, zN, zS, zT, zU]
          refine wpAnyH_take (i := 6) (oi := ?oi107) (v := undef) ?h107 (by kernel_rfl) (by kernel_rfl) (by kernel_rfl) ?q107 (Or.inr ⟨?w107, rfl⟩) hHeld ?r107
          case h107 => simp only [zA, zB, zC] <;> exact rfl
          case q107 => exact fun _ _ _ h => h
          case w107 => rfl
          try simp only [zP, zN, zS, zT, zU]
          refine wpAnyH_take (i := 7) (oi := ?oi108) (v := undef) ?h108 (by kernel_rfl) (by kernel_rfl) (by kernel_rfl) ?q108 (Or.inr ⟨?w108, rfl⟩) hHeld ?r108
          case h108 => simp only [zA, zB, zC] <;> exact rfl
          case q108 => exact fun _ _ _ h => h
          case w108 => rfl
          try simp only [zP, zN, zS, zT, zU]
          refine wpAnyH_take (i := 8) (oi := ?oi109) (v := undef) ?h109 (by kernel_rfl) (by kernel_rfl) (by kernel_rfl) ?q109 (Or.inr ⟨?w109, rfl⟩) hHeld ?r109
          case h109 => simp only [zA, zB, zC] <;> exact rfl
          case q109 => exact fun _ _ _ h => h
          case w109 => rfl
          try simp only [zP, zN, zS, zT, zU]
          refine wpAnyH_take (i := 9) (oi := ?oi110) (v := undef) ?h110 (by kernel_rfl) (by kernel_rfl) (by kernel_rfl) ?q110 (Or.inr ⟨?w110, rfl⟩) hHeld ?r110
          case h110 => simp only [zA, zB, zC] <;> exact rfl
          case q110 => exact fun _ _ _ h => h
          case w110 => rfl
          try simp only [zP, zN, zS, zT, zU]
          refine wpAnyH_take (i := 10) (oi := ?oi111) (v := undef) ?h111 (by kernel_rfl) (by kernel_rfl) (by kernel_rfl) ?q111 (Or.inr ⟨?w111, rfl⟩) hHeld ?r111
          case h111 => simp only [zA, zB, zC] <;> exact rfl
          case q111 => exact fun _ _ _ h => h
          case w111 => rfl
          try simp only [zP, zN, zS, zT, zU]
          refine wpAnyH_take (i := 11) (oi := ?oi112) (v := ?vi112) ?h112 (by kernel_rfl) (by kernel_rfl) (by kernel_rfl) ?q112 (Or.inl ⟨?w112, ?y112⟩) hHeld ?r112
          case h112 => simp only [zA, zB, zC] <;> exact rfl
          case q112 => exact fun _ _ _ h => h
          case w112 => rfl
          case y112 =>
            intro w hSw
            (try dsimp only at hSw)
            obtain ⟨s0, s1⟩ := hSw
            go_simp
            try with_reducible rfl
          try simp only [zP, zN, zS, zT, zU]
          refine wpAnyH_done (by kernel_rfl) ?_ _
          have HO := Lib.hid (hR.out.2.1.non (Fp.refl Non wr).drew)
          have HFP := Lib.hid ((hR.out.2.2.then (Fp.refl Non wr).drew))
          have HXN := Lib.hid (HND.out.keep (Fp.refl Non wr).drew (fun h => h))
          have HYB := Lib.hid ((Fp.refl Non wr).drew.heap HBY.out (fun h => h))
          have hs9 : (wr.drew.drew).cell? ⟨g, o + k * 5, none⟩ = some (.string (B x.path)) ∧ (wr.drew.drew).cell? ⟨w.heap.size, 0, none⟩ = some (.string (B y.path)) :=
            ⟨(HXN.out.keep ((Fp.refl Non wr.drew).drew) (fun h => h)).c0, (box5 ((Fp.refl Non wr.drew).drew.heap HYB.out (fun h => h))).1⟩
          have HS9 := Lib.hid hs9
          clear hs9
          go_wp2_with fail
          refine wp_region_held_drew (S := (fun w' => w'.cell? ⟨g, o + k * 5, none⟩ = some (.string (B x.path)) ∧ w'.cell? ⟨w.heap.size, 0, none⟩ = some (.string (B y.path)))) (by kernel_rfl) ?_ (fun hHeld => ?_)
          · exact HS9.out
          refine wpAnyH_take (i := 0) (oi := ?oi113) (v := ?vi113) ?h113 (by kernel_rfl) (by kernel_rfl) (by kernel_rfl) ?q113 (Or.inl ⟨?w113, ?y113⟩) hHeld ?r113
          case h113 => simp only [zA, zB] <;> exact rfl
          case q113 => exact fun _ _ _ h => h
          case w113 => rfl
          case y113 =>
            intro w hSw
            (try dsimp only at hSw)
            obtain ⟨s0, s1⟩ := hSw
            go_simp
            try with_reducible rfl
          try simp only [zP, zN, zS, zT, zU]
          refine wpAnyH_take (i := 1) (oi := ?oi114) (v := ?vi114) ?h114 (by kernel_rfl) (by kernel_rfl) (by kernel_rfl) ?q114 (Or.inl ⟨?w114, ?y114⟩) hHeld ?r114
          case h114 => simp only [zA, zB, zC] <;> exact rfl
          case q114 => exact fun _ _ _ h => h
          case w114 => rfl
          case y114 =>
            intro w hSw
            (try dsimp only at hSw)
            obtain ⟨s0, s1⟩ := hSw
            go_simp
            try with_reducible rfl
          try simp only [zP, zN, zS, zT, zU]
          refine wpAnyH_take (i := 2) (oi := ?oi115) (v := ?vi115) ?h115 (by kernel_rfl) (by kernel_rfl) (by kernel_rfl) ?q115 (Or.inl ⟨?w115, ?y115⟩) hHeld ?r115
          case h115 => simp only [zA, zB, zC] <;> exact rfl
          case q115 => exact fun _ _ _ h => h
          case w115 => rfl
          case y115 =>
            intro w hSw
            (try dsimp only at hSw)
            obtain ⟨s0, s1⟩ := hSw
            go_simp
            try with_reducible rfl
          try simp only [zP, zN, zS, zT, zU]
          refine wpAnyH_take (i := 3) (oi := ?oi116) (v := ?vi116) ?h116 (by kernel_rfl) (by kernel_rfl) (by kernel_rfl) ?q116 (Or.inl ⟨?w116, ?y116⟩) hHeld ?r116
          case h116 => simp only [zA, zB, zC] <;> exact rfl
          case q116 => exact fun _ _ _ h => h
          case w116 => rfl
          case y116 =>
            intro w hSw
            (try dsimp only at hSw)
            obtain ⟨s0, s1⟩ := hSw
            go_simp
            try with_reducible rfl
          try simp only [zP, zN, zS, zT, zU]
          refine wpAnyH_take (i := 4) (oi := ?oi117) (v := ?vi117) ?h117 (by kernel_rfl) (by kernel_rfl) (by kernel_rfl) ?q117 (Or.inl ⟨?w117, ?y117⟩) hHeld ?r117
          case h117 => simp only [zA, zB, zC] <;> exact rfl
          case q117 => exact fun _ _ _ h => h
          case w117 => rfl
          case y117 =>
            intro w hSw
            (try dsimp only at hSw)
            obtain ⟨s0, s1⟩ := hSw
            go_simp
            try with_reducible rfl
          try simp only [zP, zN, zS, zT, zU]
          refine wpAnyH_take (i := 5) (oi := ?oi118) (v := ?vi118) ?h118 (by kernel_rfl) (by kernel_rfl) (by kernel_rfl) ?q118 (Or.inl ⟨?w118, ?y118⟩) hHeld ?r118
          case h118 => simp only [zA, zB, zC] <;> exact rfl
          case q118 => exact fun _ _ _ h => h
          case w118 => rfl
          case y118 =>
            intro w hSw
            (try dsimp only at hSw)
            obtain ⟨s0, s1⟩ := hSw
            go_simp
            try with_reducible rfl
          try simp only [zP, zN, zS, zT, zU]
          refine wpAnyH_take (i := 6) (oi := ?oi119) (v := ?vi119) ?h119 (by kernel_rfl) (by kernel_rfl) (by kernel_rfl) ?q119 (Or.inl ⟨?w119, ?y119⟩) hHeld ?r119
          case h119 => simp only [zA, zB, zC] <;> exact rfl
          case q119 => exact fun _ _ _ h => h
          case w119 => rfl
          case y119 =>
            intro w hSw
            (try dsimp only at hSw)
            obtain ⟨s0, s1⟩ := hSw
            go_simp
            try with_reducible rfl
          try simp only [zP, zN, zS, zT, zU]
          refine wpAnyH_take (i := 7) (oi := ?oi120) (v := ?vi120) ?h120 (by kernel_rfl) (by kernel_rfl) (by kernel_rfl) ?q120 (Or.inl ⟨?w120, ?y120⟩) hHeld ?r120
          case h120 => simp only [zA, zB, zC] <;> exact rfl
          case q120 => exact fun _ _ _ h => h
          case w120 => rfl
          case y120 =>
            intro w hSw
            (try dsimp only at hSw)
            obtain ⟨s0, s1⟩ := hSw
            go_simp
            try with_reducible rfl
          try simp only [zP, zN, zS, zT, zU]
          refine wpAnyH_done (by kernel_rfl) ?_ _
          have hj := HL.out
          go_wp2
          go_roundw
          case rel => exact ⟨k + 1, by omega, by go_num, acc, true, rfl, HST.out.trans HM.out, HO.out.non (Fp.refl Non wr.drew).drew, HFP.out.then (Fp.refl Non wr.drew).drew⟩
          case measure => simp [RowKit.intOf]; omega
        · have HM := Lib.hid (show pstep y (acc, true) x = (acc ++ [x], true) by unfold pstep; simp [hxy])
          have qe1 : (x.path == y.path) = false := beq_eq_false_iff_ne.2 hxy
          have qe2 : (x.path = y.path) = False := eq_false hxy
          have qe3 : (x.path != y.path) = true := by simpa using hxy
          clear hxy
          go_wp2_with fail
          refine wp_region_held_drew (S := (fun w' => w'.cell? ⟨g, o + k * 5, none⟩ = some (.string (B x.path)) ∧ w'.cell? ⟨w.heap.size, 0, none⟩ = some (.string (B y.path)))) (by kernel_rfl) ?_ (fun hHeld => ?_)
          · exact HS6.out
          refine wpAnyH_take (i := 0) (oi := ?oi121) (v := ?vi121) ?h121 (by kernel_rfl) (by kernel_rfl) (by kernel_rfl) ?q121 (Or.inl ⟨?w121, ?y121⟩) hHeld ?r121
          case h121 => simp only [zA, zB] <;> exact rfl
          case q121 => exact fun _ _ _ h => h
          case w121 => rfl
          case y121 =>
            intro w hSw
            (try dsimp only at hSw)
            obtain ⟨s0, s1⟩ := hSw
            go_simp
            try with_reducible rfl
          try simp only [zP, zN, zS, zT, zU]
          refine wpAnyH_take (i := 1) (oi := ?oi122) (v := ?vi122) ?h122 (by kernel_rfl) (by kernel_rfl) (by kernel_rfl) ?q122 (Or.inl ⟨?w122, ?y122⟩) hHeld ?r122
          case h122 => simp only [zA, zB, zC] <;> exact rfl
          case q122 => exact fun _ _ _ h => h
          case w122 => rfl
          case y122 =>
            intro w hSw
            (try dsimp only at hSw)
            obtain ⟨s0, s1⟩ := hSw
            go_simp
            try with_reducible rfl
          try simp only [zP, zN, zS, zT, zU]
          refine wpAnyH_take (i := 2) (oi := ?oi123) (v := ?vi123) ?h123 (by kernel_rfl) (by kernel_rfl) (by kernel_rfl) ?q123 (Or.inl ⟨?w123, ?y123⟩) hHeld ?r123
          case h123 => simp only [zA, zB, zC] <;> exact rfl
          case q123 => exact fun _ _ _ h => h
          case w123 => rfl
          case y123 =>
            intro w hSw
            (try dsimp only at hSw)
            obtain ⟨s0, s1⟩ := hSw
            go_simp
            try with_reducible rfl
          try simp only [zP, zN, zS, zT, zU]
          refine wpAnyH_take (i := 3) (oi := ?oi124) (v := undef) ?h124 (by kernel_rfl) (by kernel_rfl) (by kernel_rfl) ?q124 (Or.inr ⟨?w124, rfl⟩) hHeld ?r124
          case h124 => simp only [zA, zB, zC] <;> exact rfl
          case q124 => exact fun _ _ _ h => h
          case w124 => rfl
          try simp only [zP, zN, zS, zT, zU]
          refine wpAnyH_take (i := 4) (oi := ?oi125) (v := undef) ?h125 (by kernel_rfl) (by kernel_rfl) (by kernel_rfl) ?q125 (Or.inr ⟨?w125, rfl⟩) hHeld ?r125
          case h125 => simp only [zA, zB, zC] <;> exact rfl
          case q125 => exact fun _ _ _ h => h
          case w125 => rfl
          try simp only [zP, zN, zS, zT, zU]
          refine wpAnyH_take (i := 5) (oi := ?oi126) (v := undef) ?h126 (by kernel_rfl) (by kernel_rfl) (by kernel_rfl) ?q126 (Or.inr ⟨?w126, rfl⟩) hHeld ?r126
          case h126 => simp only [zA, zB, zC] <;> exact rfl
          case q126 => exact fun _ _ _ h => h
          case w126 => rfl
          try simp only [zP, zN, zS, zT, zU]
          refine wpAnyH_take (i := 6) (oi := ?oi127) (v := undef) ?h127 (by kernel_rfl) (by kernel_rfl) (by kernel_rfl) ?q127 (Or.inr ⟨?w127, rfl⟩) hHeld ?r127
          case h127 => simp only [zA, zB, zC] <;> exact rfl
          case q127 => exact fun _ _ _ h => h
          case w127 => rfl
          try simp only [zP, zN, zS, zT, zU]
          refine wpAnyH_take (i := 7) (oi := ?oi128) (v := undef) ?h128 (by kernel_rfl) (by kernel_rfl) (by kernel_rfl) ?q128 (Or.inr ⟨?w128, rfl⟩) hHeld ?r128
          case h128 => simp only [zA, zB, zC] <;> exact rfl
          case q128 => exact fun _ _ _ h => h
          case w128 => rfl
          try simp only [zP, zN, zS, zT, zU]
          refine wpAnyH_take (i := 8) (oi := ?oi129) (v := undef) ?h129 (by kernel_rfl) (by kernel_rfl) (by kernel_rfl) ?q129 (Or.inr ⟨?w129, rfl⟩) hHeld ?r129
          case h129 => simp only [zA, zB, zC] <;> exact rfl
          case q129 => exact fun _ _ _ h => h
          case w129 => rfl
          try simp only [zP, zN, zS, zT, zU]
          refine wpAnyH_take (i := 9) (oi := ?oi130) (v := undef) ?h130 (by kernel_rfl) (by kernel_rfl) (by kernel_rfl) ?q130 (Or.inr ⟨?w130, rfl⟩) hHeld ?r130
          case h130 => simp only [zA, zB, zC] <;> exact rfl
          case q130 => exact fun _ _ _ h => h
          case w130 => rfl
          try simp only [zP, zN, zS, zT, zU]
          refine wpAnyH_take (i := 10) (oi := ?oi131) (v := undef) ?h131 (by kernel_rfl) (by kernel_rfl) (by kernel_rfl) ?q131 (Or.inr ⟨?w131, rfl⟩) hHeld ?r131
          case h131 => simp only [zA, zB, zC] <;> exact rfl
          case q131 => exact fun _ _ _ h => h
          case w131 => rfl
          try simp only [zP, zN, zS, zT, zU]
          refine wpAnyH_take (i := 11) (oi := ?oi132) (v := ?vi132) ?h132 (by kernel_rfl) (by kernel_rfl) (by kernel_rfl) ?q132 (Or.inl ⟨?w132, ?y132⟩) hHeld ?r132
          case h132 => simp only [zA, zB, zC] <;> exact rfl
          case q132 => exact fun _ _ _ h => h
          case w132 => rfl
          case y132 =>
            intro w hSw
            (try dsimp only at hSw)
            obtain ⟨s0, s1⟩ := hSw
            go_simp
            try with_reducible rfl
          try simp only [zP, zN, zS, zT, zU]
          refine wpAnyH_done (by kernel_rfl) ?_ _
          have HO := Lib.hid (hR.out.2.1.non (Fp.refl Non wr).drew)
          have HFP := Lib.hid ((hR.out.2.2.then (Fp.refl Non wr).drew))
          have HXN := Lib.hid (HND.out.keep (Fp.refl Non wr).drew (fun h => h))
          have HYB := Lib.hid ((Fp.refl Non wr).drew.heap HBY.out (fun h => h))
          have hs9 : (wr.drew.drew).cell? ⟨g, o + k * 5, none⟩ = some (.string (B x.path)) ∧ (wr.drew.drew).cell? ⟨w.heap.size, 0, none⟩ = some (.string (B y.path)) :=
            ⟨(HXN.out.keep ((Fp.refl Non wr.drew).drew) (fun h => h)).c0, (box5 ((Fp.refl Non wr.drew).drew.heap HYB.out (fun h => h))).1⟩
          have HS9 := Lib.hid hs9
          clear hs9
          go_wp2_with fail
          refine wp_region_held_drew (S := (fun w' => w'.cell? ⟨g, o + k * 5, none⟩ = some (.string (B x.path)) ∧ w'.cell? ⟨w.heap.size, 0, none⟩ = some (.string (B y.path)))) (by kernel_rfl) ?_ (fun hHeld => ?_)
          · exact HS9.out
          refine wpAnyH_take (i := 0) (oi := ?oi133) (v := ?vi133) ?h133 (by kernel_rfl) (by kernel_rfl) (by kernel_rfl) ?q133 (Or.inl ⟨?w133, ?y133⟩) hHeld ?r133
          case h133 => simp only [zA, zB] <;> exact rfl
          case q133 => exact fun _ _ _ h => h
          case w133 => rfl
          case y133 =>
            intro w hSw
            (try dsimp only at hSw)
            obtain ⟨s0, s1⟩ := hSw
            go_simp
            try with_reducible rfl
          try simp only [zP, zN, zS, zT, zU]
          refine wpAnyH_take (i := 1) (oi := ?oi134) (v := ?vi134) ?h134 (by kernel_rfl) (by kernel_rfl) (by kernel_rfl) ?q134 (Or.inl ⟨?w134, ?y134⟩) hHeld ?r134
          case h134 => simp only [zA, zB, zC] <;> exact rfl
          case q134 => exact fun _ _ _ h => h
          case w134 => rfl
          case y134 =>
            intro w hSw
            (try dsimp only at hSw)
            obtain ⟨s0, s1⟩ := hSw
            go_simp
            try with_reducible rfl
          try simp only [zP, zN, zS, zT, zU]
          refine wpAnyH_take (i := 2) (oi := ?oi135) (v := ?vi135) ?h135 (by kernel_rfl) (by kernel_rfl) (by kernel_rfl) ?q135 (Or.inl ⟨?w135, ?y135⟩) hHeld ?r135
          case h135 => simp only [zA, zB, zC] <;> exact rfl
          case q135 => exact fun _ _ _ h => h
          case w135 => rfl
          case y135 =>
            intro w hSw
            (try dsimp only at hSw)
            obtain ⟨s0, s1⟩ := hSw
            go_simp
            try with_reducible rfl
          try simp only [zP, zN, zS, zT, zU]
          refine wpAnyH_take (i := 3) (oi := ?oi136) (v := ?vi136) ?h136 (by kernel_rfl) (by kernel_rfl) (by kernel_rfl) ?q136 (Or.inl ⟨?w136, ?y136⟩) hHeld ?r136
          case h136 => simp only [zA, zB, zC] <;> exact rfl
          case q136 => exact fun _ _ _ h => h
          case w136 => rfl
          case y136 =>
            intro w hSw
            (try dsimp only at hSw)
            obtain ⟨s0, s1⟩ := hSw
            go_simp
            try with_reducible rfl
          try simp only [zP, zN, zS, zT, zU]
          refine wpAnyH_take (i := 4) (oi := ?oi137) (v := ?vi137) ?h137 (by kernel_rfl) (by kernel_rfl) (by kernel_rfl) ?q137 (Or.inl ⟨?w137, ?y137⟩) hHeld ?r137
          case h137 => simp only [zA, zB, zC] <;> exact rfl
          case q137 => exact fun _ _ _ h => h
          case w137 => rfl
          case y137 =>
            intro w hSw
            (try dsimp only at hSw)
            obtain ⟨s0, s1⟩ := hSw
            go_simp
            try with_reducible rfl
          try simp only [zP, zN, zS, zT, zU]
          refine wpAnyH_take (i := 5) (oi := ?oi138) (v := ?vi138) ?h138 (by kernel_rfl) (by kernel_rfl) (by kernel_rfl) ?q138 (Or.inl ⟨?w138, ?y138⟩) hHeld ?r138
          case h138 => simp only [zA, zB, zC] <;> exact rfl
          case q138 => exact fun _ _ _ h => h
          case w138 => rfl
          case y138 =>
            intro w hSw
            (try dsimp only at hSw)
            obtain ⟨s0, s1⟩ := hSw
            go_simp
            try with_reducible rfl
          try simp only [zP, zN, zS, zT, zU]
          refine wpAnyH_take (i := 6) (oi := ?oi139) (v := ?vi139) ?h139 (by kernel_rfl) (by kernel_rfl) (by kernel_rfl) ?q139 (Or.inl ⟨?w139, ?y139⟩) hHeld ?r139
          case h139 => simp only [zA, zB, zC] <;> exact rfl
          case q139 => exact fun _ _ _ h => h
          case w139 => rfl
          case y139 =>
            intro w hSw
            (try dsimp only at hSw)
            obtain ⟨s0, s1⟩ := hSw
            go_simp
            try with_reducible rfl
          try simp only [zP, zN, zS, zT, zU]
          refine wpAnyH_take (i := 7) (oi := ?oi140) (v := ?vi140) ?h140 (by kernel_rfl) (by kernel_rfl) (by kernel_rfl) ?q140 (Or.inl ⟨?w140, ?y140⟩) hHeld ?r140
          case h140 => simp only [zA, zB, zC] <;> exact rfl
          case q140 => exact fun _ _ _ h => h
          case w140 => rfl
          case y140 =>
            intro w hSw
            (try dsimp only at hSw)
            obtain ⟨s0, s1⟩ := hSw
            go_simp
            try with_reducible rfl
          try simp only [zP, zN, zS, zT, zU]
          refine wpAnyH_done (by kernel_rfl) ?_ _
          have hn9 := HXN.out.keep ((Fp.refl Non wr.drew).drew) (fun h => h)
          have c0 := hn9.c0; have c1 := hn9.c1; have c2 := hn9.c2; have c3 := hn9.c3; have c4 := hn9.c4
          unfold strV at c0 c1
          have hap := app_node wr.drew.drew (w.heap.size + 1) _ acc x TL (HO.out.non (Fp.refl Non wr.drew).drew) (by have := HAL.out; simp; omega) (by have := (HFP.out.then (Fp.refl Non wr.drew).drew).size; rw [HSZ.out] at this; exact this)
          have HAP := Lib.hid hap
          clear hap hn9
          go_wp2_with (at_builtin; go_must (refine wpList_app rfl _ _ _ _ rfl _ _ rfl rfl _ HAP.out ?_))
          intro v5 w5 hR5
          have HR5 := Lib.hid hR5
          clear hR5 c0 c1 c2 c3 c4
          have hj := HL.out
          go_wp2
          go_roundw
          case rel => exact ⟨k + 1, by omega, by go_num, acc ++ [x], true, rfl, HST.out.trans HM.out, (by have h5 := HR5.out.own; simpa using h5), (HFP.out.then (Fp.refl Non wr.drew).drew).trans HR5.out.fp (fun k hk => .inr (by rw [HSZ.out]; exact hk))⟩
          case measure => simp [RowKit.intOf]; omega
      | false =>
        by_cases hlo : lt x.path y.path = true
        · have hxy := lt_ne hlo
          have HM := Lib.hid (show pstep y (acc, false) x = (acc ++ [x], false) by unfold pstep; simp [hxy, hlo])
          have ql1 : Op.bytesLess x.path y.path = true := hlo
          have ql2 : (Op.bytesLess y.path x.path || y.path == x.path) = false := not_le2 hlo
          clear hlo
          have qe1 : (x.path == y.path) = false := beq_eq_false_iff_ne.2 hxy
          have qe2 : (x.path = y.path) = False := eq_false hxy
          have qe3 : (x.path != y.path) = true := by simpa using hxy
          clear hxy
          go_wp2_with fail
          refine wp_region_held_drew (S := (fun w' => w'.cell? ⟨g, o + k * 5, none⟩ = some (.string (B x.path)) ∧ w'.cell? ⟨w.heap.size, 0, none⟩ = some (.string (B y.path)))) (by kernel_rfl) ?_ (fun hHeld => ?_)
          · exact HS6.out
          refine wpAnyH_take (i := 0) (oi := ?oi141) (v := ?vi141) ?h141 (by kernel_rfl) (by kernel_rfl) (by kernel_rfl) ?q141 (Or.inl ⟨?w141, ?y141⟩) hHeld ?r141
          case h141 => simp only [zA, zB] <;> exact rfl
          case q141 => exact fun _ _ _ h => h
          case w141 => rfl
          case y141 =>
            intro w hSw
            (try dsimp only at hSw)
            obtain ⟨s0, s1⟩ := hSw
            go_simp
            try with_reducible rfl
          try simp only [zP, zN, zS, zT, zU]
          refine wpAnyH_take (i := 1) (oi := ?oi142) (v := ?vi142) ?h142 (by kernel_rfl) (by kernel_rfl) (by kernel_rfl) ?q142 (Or.inl ⟨?w142, ?y142⟩) hHeld ?r142
          case h142 => simp only [zA, zB, zC] <;> exact rfl
          case q142 => exact fun _ _ _ h => h
          case w142 => rfl
          case y142 =>
            intro w hSw
            (try dsimp only at hSw)
            obtain ⟨s0, s1⟩ := hSw
            go_simp
            try with_reducible rfl
          try simp only [zP, zN, zS, zT, zU]
          refine wpAnyH_take (i := 2) (oi := ?oi143) (v := ?vi143) ?h143 (by kernel_rfl) (by kernel_rfl) (by kernel_rfl) ?q143 (Or.inl ⟨?w143, ?y143⟩) hHeld ?r143
          case h143 => simp only [zA, zB, zC] <;> exact rfl
          case q143 => exact fun _ _ _ h => h
          case w143 => rfl
          case y143 =>
            intro w hSw
            (try dsimp only at hSw)
            obtain ⟨s0, s1⟩ := hSw
            go_simp
            try with_reducible rfl
          try simp only [zP, zN, zS, zT, zU]
          refine wpAnyH_take (i := 3) (oi := ?oi144) (v := ?vi144) ?h144 (by kernel_rfl) (by kernel_rfl) (by kernel_rfl) ?q144 (Or.inl ⟨?w144, ?y144⟩) hHeld ?r144
          case h144 => simp only [zA, zB, zC] <;> exact rfl
          case q144 => exact fun _ _ _ h => h
          case w144 => rfl
          case y144 =>
            intro w hSw
            (try dsimp only at hSw)
            obtain ⟨s0, s1⟩ := hSw
            go_simp
            try with_reducible rfl
          try simp only [zP, zN, zS, zT, zU]
          refine wpAnyH_take (i := 4) (oi := ?oi145) (v := ?vi145) ?h145 (by kernel_rfl) (by kernel_rfl) (by kernel_rfl) ?q145 (Or.inl ⟨?w145, ?y145⟩) hHeld ?r145
          case h145 => simp only [zA, zB, zC] <;> exact rfl
          case q145 => exact fun _ _ _ h => h
          case w145 => rfl
          case y145 =>
            intro w hSw
            (try dsimp only at hSw)
            obtain ⟨s0, s1⟩ := hSw
            go_simp
            try with_reducible rfl
          try simp only [zP, zN, zS, zT, zU]
          refine wpAnyH_take (i := 5) (oi := ?oi146) (v := ?vi146) ?h146 (by kernel_rfl) (by kernel_rfl) (by kernel_rfl) ?q146 (Or.inl ⟨?w146, ?y146⟩) hHeld ?r146
          case h146 => simp only [zA, zB, zC] <;> exact rfl
          case q146 => exact fun _ _ _ h => h
          case w146 => rfl
          case y146 =>
            intro w hSw
            (try dsimp only at hSw)
            obtain ⟨s0, s1⟩ := hSw
            go_simp
            try with_reducible rfl
          try simp only [zP, zN, zS, zT, zU]
          refine wpAnyH_take (i := 6) (oi := ?oi147) (v := ?vi147) ?h147 (by kernel_rfl) (by kernel_rfl) (by kernel_rfl) ?q147 (Or.inl ⟨?w147, ?y147⟩) hHeld ?r147
          case h147 => simp only [zA, zB, zC] <;> exact rfl
          case q147 => exact fun _ _ _ h => h
          case w147 => rfl
          case y147 =>
            intro w hSw
            (try dsimp only at hSw)
            obtain ⟨s0, s1⟩ := hSw
            go_simp
            try with_reducible rfl
          try simp only [zP, zN, zS, zT, zU]
          refine wpAnyH_take (i := 7) (oi := ?oi148) (v := ?vi148) ?h148 (by kernel_rfl) (by kernel_rfl) (by kernel_rfl) ?q148 (Or.inl ⟨?w148, ?y148⟩) hHeld ?r148
          case h148 => simp only [zA, zB, zC] <;> exact rfl
          case q148 => exact fun _ _ _ h => h
          case w148 => rfl
          case y148 =>
            intro w hSw
            (try dsimp only at hSw)
            obtain ⟨s0, s1⟩ := hSw
            go_simp
            try with_reducible rfl
          try simp only [zP, zN, zS, zT, zU]
          refine wpAnyH_take (i := 8) (oi := ?oi149) (v := ?vi149) ?h149 (by kernel_rfl) (by kernel_rfl) (by kernel_rfl) ?q149 (Or.inl ⟨?w149, ?y149⟩) hHeld ?r149
          case h149 => simp only [zA, zB, zC] <;> exact rfl
          case q149 => exact fun _ _ _ h => h
          case w149 => rfl
          case y149 =>
            intro w hSw
            (try dsimp only at hSw)
            obtain ⟨s0, s1⟩ := hSw
            go_simp
            try with_reducible rfl
          try simp only [zP, zN, zS, zT, zU]
          refine wpAnyH_take (i := 9) (oi := ?oi150) (v := ?vi150) ?h150 (by kernel_rfl) (by kernel_rfl) (by kernel_rfl) ?q150 (Or.inl ⟨?w150, ?y150⟩) hHeld ?r150
          case h150 => simp only [zA, zB, zC] <;> exact rfl
          case q150 => exact fun _ _ _ h => h
          case w150 => rfl
          case y150 =>
            intro w hSw
            (try dsimp only at hSw)
            obtain ⟨s0, s1⟩ := hSw
            go_simp
            try with_reducible rfl
          try simp only [zP, zN, zS, zT, zU]
          refine wpAnyH_take (i := 10) (oi := ?oi151) (v := ?vi151) ?h151 (by kernel_rfl) (by kernel_rfl) (by kernel_rfl) ?q151 (Or.inl ⟨?w151, ?y151⟩) hHeld ?r151
          case h151 => simp only [zA, zB, zC] <;> exact rfl
          case q151 => exact fun _ _ _ h => h
          case w151 => rfl
          case y151 =>
            intro w hSw
            (try dsimp only at hSw)
            obtain ⟨s0, s1⟩ := hSw
            go_simp
            try with_reducible rfl
          try simp only [zP, zN, zS, zT, zU]
          refine wpAnyH_take (i := 11) (oi := ?oi152) (v := ?vi152) ?h152 (by kernel_rfl) (by kernel_rfl) (by kernel_rfl) ?q152 (Or.inl ⟨?w152, ?y152⟩) hHeld ?r152
          case h152 => simp only [zA, zB, zC] <;> exact rfl
          case q152 => exact fun _ _ _ h => h
          case w152 => rfl
          case y152 =>
            intro w hSw
            (try dsimp only at hSw)
            obtain ⟨s0, s1⟩ := hSw
            go_simp
            try with_reducible rfl
          try simp only [zP, zN, zS, zT, zU]
          refine wpAnyH_done (by kernel_rfl) ?_ _
          have HO := Lib.hid (hR.out.2.1.non (Fp.refl Non wr).drew)
          have HFP := Lib.hid ((hR.out.2.2.then (Fp.refl Non wr).drew))
          have HXN := Lib.hid (HND.out.keep (Fp.refl Non wr).drew (fun h => h))
          have HYB := Lib.hid ((Fp.refl Non wr).drew.heap HBY.out (fun h => h))
          have hs9 : (wr.drew.drew).cell? ⟨g, o + k * 5, none⟩ = some (.string (B x.path)) ∧ (wr.drew.drew).cell? ⟨w.heap.size, 0, none⟩ = some (.string (B y.path)) :=
            ⟨(HXN.out.keep ((Fp.refl Non wr.drew).drew) (fun h => h)).c0, (box5 ((Fp.refl Non wr.drew).drew.heap HYB.out (fun h => h))).1⟩
          have HS9 := Lib.hid hs9
          clear hs9
          go_wp2_with fail
          refine wp_region_held_drew (S := (fun w' => w'.cell? ⟨g, o + k * 5, none⟩ = some (.string (B x.path)) ∧ w'.cell? ⟨w.heap.size, 0, none⟩ = some (.string (B y.path)))) (by kernel_rfl) ?_ (fun hHeld => ?_)
          · exact HS9.out
          refine wpAnyH_take (i := 0) (oi := ?oi153) (v := ?vi153) ?h153 (by kernel_rfl) (by kernel_rfl) (by kernel_rfl) ?q153 (Or.inl ⟨?w153, ?y153⟩) hHeld ?r153
          case h153 => simp only [zA, zB] <;> exact rfl
          case q153 => exact fun _ _ _ h => h
          case w153 => rfl
          case y153 =>
            intro w hSw
            (try dsimp only at hSw)
            obtain ⟨s0, s1⟩ := hSw
            go_simp
            try with_reducible rfl
          try simp only [zP, zN, zS, zT, zU]
          refine wpAnyH_take (i := 1) (oi := ?oi154) (v := ?vi154) ?h154 (by kernel_rfl) (by kernel_rfl) (by kernel_rfl) ?q154 (Or.inl ⟨?w154, ?y154⟩) hHeld ?r154
          case h154 => simp only [zA, zB, zC] <;> exact rfl
          case q154 => exact fun _ _ _ h => h
          case w154 => rfl
          case y154 =>
            intro w hSw
            (try dsimp only at hSw)
            obtain ⟨s0, s1⟩ := hSw
            go_simp
            try with_reducible rfl
          try simp only [zP, zN, zS, zT, zU]
          refine wpAnyH_take (i := 2) (oi := ?oi155) (v := ?vi155) ?h155 (by kernel_rfl) (by kernel_rfl) (by kernel_rfl) ?q155 (Or.inl ⟨?w155, ?y155⟩) hHeld ?r155
          case h155 => simp only [zA, zB, zC] <;> exact rfl
          case q155 => exact fun _ _ _ h => h
          case w155 => rfl
          case y155 =>
            intro w hSw
            (try dsimp only at hSw)
            obtain ⟨s0, s1⟩ := hSw
            go_simp
            try with_reducible rfl
          try simp only [zP, zN, zS, zT, zU]
          refine wpAnyH_take (i := 3) (oi := ?oi156) (v := ?vi156) ?h156 (by kernel_rfl) (by kernel_rfl) (by kernel_rfl) ?q156 (Or.inl ⟨?w156, ?y156⟩) hHeld ?r156
          case h156 => simp only [zA, zB, zC] <;> exact rfl
          case q156 => exact fun _ _ _ h => h
          case w156 => rfl
          case y156 =>
            intro w hSw
            (try dsimp only at hSw)
            obtain ⟨s0, s1⟩ := hSw
            go_simp
            try with_reducible rfl
          try simp only [zP, zN, zS, zT, zU]
          refine wpAnyH_take (i := 4) (oi := ?oi157) (v := ?vi157) ?h157 (by kernel_rfl) (by kernel_rfl) (by kernel_rfl) ?q157 (Or.inl ⟨?w157, ?y157⟩) hHeld ?r157
          case h157 => simp only [zA, zB, zC] <;> exact rfl
          case q157 => exact fun _ _ _ h => h
          case w157 => rfl
          case y157 =>
            intro w hSw
            (try dsimp only at hSw)
            obtain ⟨s0, s1⟩ := hSw
            go_simp
            try with_reducible rfl
          try simp only [zP, zN, zS, zT, zU]
          refine wpAnyH_take (i := 5) (oi := ?oi158) (v := ?vi158) ?h158 (by kernel_rfl) (by kernel_rfl) (by kernel_rfl) ?q158 (Or.inl ⟨?w158, ?y158⟩) hHeld ?r158
          case h158 => simp only [zA, zB, zC] <;> exact rfl
          case q158 => exact fun _ _ _ h => h
          case w158 => rfl
          case y158 =>
            intro w hSw
            (try dsimp only at hSw)
            obtain ⟨s0, s1⟩ := hSw
            go_simp
            try with_reducible rfl
          try simp only [zP, zN, zS, zT, zU]
          refine wpAnyH_take (i := 6) (oi := ?oi159) (v := ?vi159) ?h159 (by kernel_rfl) (by kernel_rfl) (by kernel_rfl) ?q159 (Or.inl ⟨?w159, ?y159⟩) hHeld ?r159
          case h159 => simp only [zA, zB, zC] <;> exact rfl
          case q159 => exact fun _ _ _ h => h
          case w159 => rfl
          case y159 =>
            intro w hSw
            (try dsimp only at hSw)
            obtain ⟨s0, s1⟩ := hSw
            go_simp
            try with_reducible rfl
          try simp only [zP, zN, zS, zT, zU]
          refine wpAnyH_take (i := 7) (oi := ?oi160) (v := ?vi160) ?h160 (by kernel_rfl) (by kernel_rfl) (by kernel_rfl) ?q160 (Or.inl ⟨?w160, ?y160⟩) hHeld ?r160
          case h160 => simp only [zA, zB, zC] <;> exact rfl
          case q160 => exact fun _ _ _ h => h
          case w160 => rfl
          case y160 =>
            intro w hSw
            (try dsimp only at hSw)
            obtain ⟨s0, s1⟩ := hSw
            go_simp
            try with_reducible rfl
          try simp only [zP, zN, zS, zT, zU]
          refine wpAnyH_done (by kernel_rfl) ?_ _
          have hn9 := HXN.out.keep ((Fp.refl Non wr.drew).drew) (fun h => h)
          have c0 := hn9.c0; have c1 := hn9.c1; have c2 := hn9.c2; have c3 := hn9.c3; have c4 := hn9.c4
          unfold strV at c0 c1
          have hap := app_node wr.drew.drew (w.heap.size + 1) _ acc x TL (HO.out.non (Fp.refl Non wr.drew).drew) (by have := HAL.out; simp; omega) (by have := (HFP.out.then (Fp.refl Non wr.drew).drew).size; rw [HSZ.out] at this; exact this)
          have HAP := Lib.hid hap
          clear hap hn9
          go_wp2_with (at_builtin; go_must (refine wpList_app rfl _ _ _ _ rfl _ _ rfl rfl _ HAP.out ?_))
          intro v5 w5 hR5
          have HR5 := Lib.hid hR5
          clear hR5 c0 c1 c2 c3 c4
          have hj := HL.out
          go_wp2
          go_roundw
          case rel => exact ⟨k + 1, by omega, by go_num, acc ++ [x], false, rfl, HST.out.trans HM.out, (by have h5 := HR5.out.own; simpa using h5), (HFP.out.then (Fp.refl Non wr.drew).drew).trans HR5.out.fp (fun k hk => .inr (by rw [HSZ.out]; exact hk))⟩
          case measure => simp [RowKit.intOf]; omega
        · have hlo2 : lt x.path y.path = false := by simpa using hlo
          have ql1 : Op.bytesLess x.path y.path = false := hlo2
          have ql2 : (Op.bytesLess y.path x.path || y.path == x.path) = true := le_of_not hlo2
          by_cases hxy : x.path = y.path
          · have HM := Lib.hid (show pstep y (acc, false) x = (acc ++ [y], true) by unfold pstep; dsimp only; rw [if_pos hxy, if_pos ⟨rfl, hlo2⟩])
            clear hlo hlo2
            have qe1 : (x.path == y.path) = true := beq_iff_eq.2 hxy
            have qe2 : (x.path = y.path) = True := eq_true hxy
            have qe3 : (x.path != y.path) = false := by simp [hxy]
            clear hxy
            go_wp2_with fail
            refine wp_region_held_drew (S := (fun w' => w'.cell? ⟨g, o + k * 5, none⟩ = some (.string (B x.path)) ∧ w'.cell? ⟨w.heap.size, 0, none⟩ = some (.string (B y.path)))) (by kernel_rfl) ?_ (fun hHeld => ?_)
            · exact HS6.out
            refine wpAnyH_take (i := 0) (oi := ?oi161) (v := ?vi161) ?h161 (by kernel_rfl) (by kernel_rfl) (by kernel_rfl) ?q161 (Or.inl ⟨?w161, ?y161⟩) hHeld ?r161
            case h161 => simp only [zA, zB] <;> exact rfl
            case q161 => exact fun _ _ _ h => h
            case w161 => rfl
            case y161 =>
              intro w hSw
              (try dsimp only at hSw)
              obtain ⟨s0, s1⟩ := hSw
              go_simp
              try with_reducible rfl
            try simp only [zP, zN, zS, zT, zU]
            refine wpAnyH_take (i := 1) (oi := ?oi162) (v := ?vi162) ?h162 (by kernel_rfl) (by kernel_rfl) (by kernel_rfl) ?q162 (Or.inl ⟨?w162, ?y162⟩) hHeld ?r162
            case h162 => simp only [zA, zB, zC] <;> exact rfl
            case q162 => exact fun _ _ _ h => h
            case w162 => rfl
            case y162 =>
              intro w hSw
              (try dsimp only at hSw)
              obtain ⟨s0, s1⟩ := hSw
              go_simp
              try with_reducible rfl
            try simp only [zP, zN, zS, zT, zU]
            refine wpAnyH_take (i := 2) (oi := ?oi163) (v := ?vi163) ?h163 (by kernel_rfl) (by kernel_rfl) (by kernel_rfl) ?q163 (Or.inl ⟨?w163, ?y163⟩) hHeld ?r163
            case h163 => simp only [zA, zB, zC] <;> exact rfl
            case q163 => exact fun _ _ _ h => h
            case w163 => rfl
            case y163 =>
              intro w hSw
              (try dsimp only at hSw)
              obtain ⟨s0, s1⟩ := hSw
              go_simp
              try with_reducible rfl
            try simp only [zP, zN, zS, zT, zU]
            refine wpAnyH_take (i := 3) (oi := ?oi164) (v := ?vi164) ?h164 (by kernel_rfl) (by kernel_rfl) (by kernel_rfl) ?q164 (Or.inl ⟨?w164, ?y164⟩) hHeld ?r164
            case h164 => simp only [zA, zB, zC] <;> exact rfl
            case q164 => exact fun _ _ _ h => h
            case w164 => rfl
            case y164 =>
              intro w hSw
              (try dsimp only at hSw)
              obtain ⟨s0, s1⟩ := hSw
              go_simp
              try with_reducible rfl
            try simp only [zP, zN, zS, zT, zU]
            refine wpAnyH_take (i := 4) (oi := ?oi165) (v := ?vi165) ?h165 (by kernel_rfl) (by kernel_rfl) (by kernel_rfl) ?q165 (Or.inl ⟨?w165, ?y165⟩) hHeld ?r165
            case h165 => simp only [zA, zB, zC] <;> exact rfl
            case q165 => exact fun _ _ _ h => h
            case w165 => rfl
            case y165 =>
              intro w hSw
              (try dsimp only at hSw)
              obtain ⟨s0, s1⟩ := hSw
              go_simp
              try with_reducible rfl
            try simp only [zP, zN, zS, zT, zU]
            refine wpAnyH_take (i := 5) (oi := ?oi166) (v := ?vi166) ?h166 (by kernel_rfl) (by kernel_rfl) (by kernel_rfl) ?q166 (Or.inl ⟨?w166, ?y166⟩) hHeld ?r166
            case h166 => simp only [zA, zB, zC] <;> exact rfl
            case q166 => exact fun _ _ _ h => h
            case w166 => rfl
            case y166 =>
              intro w hSw
              (try dsimp only at hSw)
              obtain ⟨s0, s1⟩ := hSw
              go_simp
              try with_reducible rfl
            try simp only [zP, zN, zS, zT, zU]
            refine wpAnyH_take (i := 6) (oi := ?oi167) (v := ?vi167) ?h167 (by kernel_rfl) (by kernel_rfl) (by kernel_rfl) ?q167 (Or.inl ⟨?w167, ?y167⟩) hHeld ?r167
            case h167 => simp only [zA, zB, zC] <;> exact rfl
            case q167 => exact fun _ _ _ h => h
            case w167 => rfl
            case y167 =>
              intro w hSw
              (try dsimp only at hSw)
              obtain ⟨s0, s1⟩ := hSw
              go_simp
              try with_reducible rfl
            try simp only [zP, zN, zS, zT, zU]
            refine wpAnyH_take (i := 7) (oi := ?oi168) (v := ?vi168) ?h168 (by kernel_rfl) (by kernel_rfl) (by kernel_rfl) ?q168 (Or.inl ⟨?w168, ?y168⟩) hHeld ?r168
            case h168 => simp only [zA, zB, zC] <;> exact rfl
            case q168 => exact fun _ _ _ h => h
            case w168 => rfl
            case y168 =>
              intro w hSw
              (try dsimp only at hSw)
              obtain ⟨s0, s1⟩ := hSw
              go_simp
              try with_reducible rfl
            try simp only [zP, zN, zS, zT, zU]
            refine wpAnyH_take (i := 8) (oi := ?oi169) (v := ?vi169) ?h169 (by kernel_rfl) (by kernel_rfl) (by kernel_rfl) ?q169 (Or.inl ⟨?w169, ?y169⟩) hHeld ?r169
            case h169 => simp only [zA, zB, zC] <;> exact rfl
            case q169 => exact fun _ _ _ h => h
            case w169 => rfl
            case y169 =>
              intro w hSw
              (try dsimp only at hSw)
              obtain ⟨s0, s1⟩ := hSw
              go_simp
              try with_reducible rfl
            try simp only [zP, zN, zS, zT, zU]
            refine wpAnyH_take (i := 9) (oi := ?oi170) (v := ?vi170) ?h170 (by kernel_rfl) (by kernel_rfl) (by kernel_rfl) ?q170 (Or.inl ⟨?w170, ?y170⟩) hHeld ?r170
            case h170 => simp only [zA, zB, zC] <;> exact rfl
            case q170 => exact fun _ _ _ h => h
            case w170 => rfl
            case y170 =>
              intro w hSw
              (try dsimp only at hSw)
              obtain ⟨s0, s1⟩ := hSw
              go_simp
              try with_reducible rfl
            try simp only [zP, zN, zS, zT, zU]
            refine wpAnyH_take (i := 10) (oi := ?oi171) (v := ?vi171) ?h171 (by kernel_rfl) (by kernel_rfl) (by kernel_rfl) ?q171 (Or.inl ⟨?w171, ?y171⟩) hHeld ?r171
            case h171 => simp only [zA, zB, zC] <;> exact rfl
            case q171 => exact fun _ _ _ h => h
            case w171 => rfl
            case y171 =>
              intro w hSw
              (try dsimp only at hSw)
              obtain ⟨s0, s1⟩ := hSw
              go_simp
              try with_reducible rfl
            try simp only [zP, zN, zS, zT, zU]
            refine wpAnyH_take (i := 11) (oi := ?oi172) (v := ?vi172) ?h172 (by kernel_rfl) (by kernel_rfl) (by kernel_rfl) ?q172 (Or.inl ⟨?w172, ?y172⟩) hHeld ?r172
            case h172 => simp only [zA, zB, zC] <;> exact rfl
            case q172 => exact fun _ _ _ h => h
            case w172 => rfl
            case y172 =>
              intro w hSw
              (try dsimp only at hSw)
              obtain ⟨s0, s1⟩ := hSw
              go_simp
              try with_reducible rfl
            try simp only [zP, zN, zS, zT, zU]
            refine wpAnyH_done (by kernel_rfl) ?_ _
            have HO := Lib.hid (hR.out.2.1.non (Fp.refl Non wr).drew)
            have HFP := Lib.hid ((hR.out.2.2.then (Fp.refl Non wr).drew))
            have HXN := Lib.hid (HND.out.keep (Fp.refl Non wr).drew (fun h => h))
            have HYB := Lib.hid ((Fp.refl Non wr).drew.heap HBY.out (fun h => h))
            obtain ⟨y0, y1, y2, y3, y4⟩ := box5 HYB.out
            have hap := app_node wr.drew (w.heap.size + 1) _ acc y TL HO.out (by have := HAL.out; omega) (by have := HFP.out.size; rw [HSZ.out] at this; exact this)
            have HAP := Lib.hid hap
            clear hap
            go_wp2_with (at_builtin; go_must (refine wpList_app rfl _ _ _ _ rfl _ _ rfl rfl _ HAP.out ?_))
            intro v4 w4 hR4
            obtain ⟨a4, c4', rfl⟩ := hR4.own.shape
            have HO4 := Lib.hid hR4.own
            have HFP4 := Lib.hid (HFP.out.trans hR4.fp (fun k hk => .inr (by rw [HSZ.out]; exact hk)))
            have HXN4 := Lib.hid (HXN.out.keep hR4.fp (Nat.not_le.2 HG.out))
            have HYB4 := Lib.hid (hR4.fp.heap HYB.out (Nat.not_le.2 (Nat.lt_succ_self _)))
            clear hR4 y0 y1 y2 y3 y4 HAP HO HFP HXN HYB
            have HO := HO4
            have HFP := HFP4
            have HXN := HXN4
            have HYB := HYB4
            have hs9 : (w4.drew).cell? ⟨g, o + k * 5, none⟩ = some (.string (B x.path)) ∧ (w4.drew).cell? ⟨w.heap.size, 0, none⟩ = some (.string (B y.path)) :=
              ⟨(HXN.out.keep ((Fp.refl Non w4).drew) (fun h => h)).c0, (box5 ((Fp.refl Non w4).drew.heap HYB.out (fun h => h))).1⟩
            have HS9 := Lib.hid hs9
            clear hs9
            go_wp2_with fail
            refine wp_region_held_drew (S := (fun w' => w'.cell? ⟨g, o + k * 5, none⟩ = some (.string (B x.path)) ∧ w'.cell? ⟨w.heap.size, 0, none⟩ = some (.string (B y.path)))) (by kernel_rfl) ?_ (fun hHeld => ?_)
            · exact HS9.out
            refine wpAnyH_take (i := 0) (oi := ?oi173) (v := ?vi173) ?h173 (by kernel_rfl) (by kernel_rfl) (by kernel_rfl) ?q173 (Or.inl ⟨?w173, ?y173⟩) hHeld ?r173
            case h173 => simp only [zA, zB] <;> exact rfl
            case q173 => exact fun _ _ _ h => h
            case w173 => rfl
            case y173 =>
              intro w hSw
              (try dsimp only at hSw)
              obtain ⟨s0, s1⟩ := hSw
              go_simp
              try with_reducible rfl
            try simp only [zP, zN, zS, zT, zU]
            refine wpAnyH_take (i := 1) (oi := ?oi174) (v := ?vi174) ?h174 (by kernel_rfl) (by kernel_rfl) (by kernel_rfl) ?q174 (Or.inl ⟨?w174, ?y174⟩) hHeld ?r174
            case h174 => simp only [zA, zB, zC] <;> exact rfl
            case q174 => exact fun _ _ _ h => h
            case w174 => rfl
            case y174 =>
              intro w hSw
              (try dsimp only at hSw)
              obtain ⟨s0, s1⟩ := hSw
              go_simp
              try with_reducible rfl
            try simp only [zP, zN, zS, zT, zU]
            refine wpAnyH_take (i := 2) (oi := ?oi175) (v := ?vi175) ?h175 (by kernel_rfl) (by kernel_rfl) (by kernel_rfl) ?q175 (Or.inl ⟨?w175, ?y175⟩) hHeld ?r175
            case h175 => simp only [zA, zB, zC] <;> exact rfl
            case q175 => exact fun _ _ _ h => h
            case w175 => rfl
            case y175 =>
              intro w hSw
              (try dsimp only at hSw)
              obtain ⟨s0, s1⟩ := hSw
              go_simp
              try with_reducible rfl
            try simp only [zP, zN, zS, zT, zU]
            refine wpAnyH_take (i := 3) (oi := ?oi176) (v := ?vi176) ?h176 (by kernel_rfl) (by kernel_rfl) (by kernel_rfl) ?q176 (Or.inl ⟨?w176, ?y176⟩) hHeld ?r176
            case h176 => simp only [zA, zB, zC] <;> exact rfl
            case q176 => exact fun _ _ _ h => h
            case w176 => rfl
            case y176 =>
              intro w hSw
              (try dsimp only at hSw)
              obtain ⟨s0, s1⟩ := hSw
              go_simp
              try with_reducible rfl
            try simp only [zP, zN, zS, zT, zU]
            refine wpAnyH_take (i := 4) (oi := ?oi177) (v := ?vi177) ?h177 (by kernel_rfl) (by kernel_rfl) (by kernel_rfl) ?q177 (Or.inl ⟨?w177, ?y177⟩) hHeld ?r177
            case h177 => simp only [zA, zB, zC] <;> exact rfl
            case q177 => exact fun _ _ _ h => h
            case w177 => rfl
            case y177 =>
              intro w hSw
              (try dsimp only at hSw)
              obtain ⟨s0, s1⟩ := hSw
              go_simp
              try with_reducible rfl
            try simp only [zP, zN, zS, zT, zU]
            refine wpAnyH_take (i := 5) (oi := ?oi178) (v := ?vi178) ?h178 (by kernel_rfl) (by kernel_rfl) (by kernel_rfl) ?q178 (Or.inl ⟨?w178, ?y178⟩) hHeld ?r178
            case h178 => simp only [zA, zB, zC] <;> exact rfl
            case q178 => exact fun _ _ _ h => h
            case w178 => rfl
            case y178 =>
              intro w hSw
              (try dsimp only at hSw)
              obtain ⟨s0, s1⟩ := hSw
              go_simp
              try with_reducible rfl
            try simp only [zP, zN, zS, zT, zU]
            refine wpAnyH_take (i := 6) (oi := ?oi179) (v := ?vi179) ?h179 (by kernel_rfl) (by kernel_rfl) (by kernel_rfl) ?q179 (Or.inl ⟨?w179, ?y179⟩) hHeld ?r179
            case h179 => simp only [zA, zB, zC] <;> exact rfl
            case q179 => exact fun _ _ _ h => h
            case w179 => rfl
            case y179 =>
              intro w hSw
              (try dsimp only at hSw)
              obtain ⟨s0, s1⟩ := hSw
              go_simp
              try with_reducible rfl
            try simp only [zP, zN, zS, zT, zU]
            refine wpAnyH_take (i := 7) (oi := ?oi180) (v := ?vi180) ?h180 (by kernel_rfl) (by kernel_rfl) (by kernel_rfl) ?q180 (Or.inl ⟨?w180, ?y180⟩) hHeld ?r180
            case h180 => simp only [zA, zB, zC] <;> exact rfl
            case q180 => exact fun _ _ _ h => h
            case w180 => rfl
            case y180 =>
              intro w hSw
              (try dsimp only at hSw)
              obtain ⟨s0, s1⟩ := hSw
              go_simp
              try with_reducible rfl
            try simp only [zP, zN, zS, zT, zU]
            refine wpAnyH_done (by kernel_rfl) ?_ _
            have hj := HL.out
            go_wp2
            go_roundw
            case rel => exact ⟨k + 1, by omega, by go_num, (acc ++ [y]), true, rfl, HST.out.trans HM.out, HO.out.non (Fp.refl Non w4).drew, HFP.out.then (Fp.refl Non w4).drew⟩
            case measure => simp [RowKit.intOf]; omega
          · have HM := Lib.hid (show pstep y (acc, false) x = (acc ++ [y] ++ [x], true) by unfold pstep; dsimp only; rw [if_neg hxy, if_pos ⟨rfl, hlo2⟩])
            clear hlo hlo2
            have qe1 : (x.path == y.path) = false := beq_eq_false_iff_ne.2 hxy
            have qe2 : (x.path = y.path) = False := eq_false hxy
            have qe3 : (x.path != y.path) = true := by simpa using hxy
            clear hxy
            go_wp2_with fail
            refine wp_region_held_drew (S := (fun w' => w'.cell? ⟨g, o + k * 5, none⟩ = some (.string (B x.path)) ∧ w'.cell? ⟨w.heap.size, 0, none⟩ = some (.string (B y.path)))) (by kernel_rfl) ?_ (fun hHeld => ?_)
            · exact HS6.out
            refine wpAnyH_take (i := 0) (oi := ?oi181) (v := ?vi181) ?h181 (by kernel_rfl) (by kernel_rfl) (by kernel_rfl) ?q181 (Or.inl ⟨?w181, ?y181⟩) hHeld ?r181
            case h181 => simp only [zA, zB] <;> exact rfl
            case q181 => exact fun _ _ _ h => h
            case w181 => rfl
            case y181 =>
              intro w hSw
              (try dsimp only at hSw)
              obtain ⟨s0, s1⟩ := hSw
              go_simp
              try with_reducible rfl
            try simp only [zP, zN, zS, zT, zU]
            refine wpAnyH_take (i := 1) (oi := ?oi182) (v := ?vi182) ?h182 (by kernel_rfl) (by kernel_rfl) (by kernel_rfl) ?q182 (Or.inl ⟨?w182, ?y182⟩) hHeld ?r182
            case h182 => simp only [zA, zB, zC] <;> exact rfl
            case q182 => exact fun _ _ _ h => h
            case w182 => rfl
            case y182 =>
              intro w hSw
              (try dsimp only at hSw)
              obtain ⟨s0, s1⟩ := hSw
              go_simp
              try with_reducible rfl
            try simp only [zP, zN, zS, zT, zU]
            refine wpAnyH_take (i := 2) (oi := ?oi183) (v := ?vi183) ?h183 (by kernel_rfl) (by kernel_rfl) (by kernel_rfl) ?q183 (Or.inl ⟨?w183, ?y183⟩) hHeld ?r183
            case h183 => simp only [zA, zB, zC] <;> exact rfl
            case q183 => exact fun _ _ _ h => h
            case w183 => rfl
            case y183 =>
              intro w hSw
              (try dsimp only at hSw)
              obtain ⟨s0, s1⟩ := hSw
              go_simp
              try with_reducible rfl
            try simp only [zP, zN, zS, zT, zU]
            refine wpAnyH_take (i := 3) (oi := ?oi184) (v := ?vi184) ?h184 (by kernel_rfl) (by kernel_rfl) (by kernel_rfl) ?q184 (Or.inl ⟨?w184, ?y184⟩) hHeld ?r184
            case h184 => simp only [zA, zB, zC] <;> exact rfl
            case q184 => exact fun _ _ _ h => h
            case w184 => rfl
            case y184 =>
              intro w hSw
              (try dsimp only at hSw)
              obtain ⟨s0, s1⟩ := hSw
              go_simp
              try with_reducible rfl
            try simp only [zP, zN, zS, zT, zU]
            refine wpAnyH_take (i := 4) (oi := ?oi185) (v := ?vi185) ?h185 (by kernel_rfl) (by kernel_rfl) (by kernel_rfl) ?q185 (Or.inl ⟨?w185, ?y185⟩) hHeld ?r185
            case h185 => simp only [zA, zB, zC] <;> exact rfl
            case q185 => exact fun _ _ _ h => h
            case w185 => rfl
            case y185 =>
              intro w hSw
              (try dsimp only at hSw)
              obtain ⟨s0, s1⟩ := hSw
              go_simp
              try with_reducible rfl
            try simp only [zP, zN, zS, zT, zU]
            refine wpAnyH_take (i := 5) (oi := ?oi186) (v := ?vi186) ?h186 (by kernel_rfl) (by kernel_rfl) (by kernel_rfl) ?q186 (Or.inl ⟨?w186, ?y186⟩) hHeld ?r186
            case h186 => simp only [zA, zB, zC] <;> exact rfl
            case q186 => exact fun _ _ _ h => h
            case w186 => rfl
            case y186 =>
              intro w hSw
              (try dsimp only at hSw)
              obtain ⟨s0, s1⟩ := hSw
              go_simp
              try with_reducible rfl
            try simp only [zP, zN, zS, zT, zU]
            refine wpAnyH_take (i := 6) (oi := ?oi187) (v := ?vi187) ?h187 (by kernel_rfl) (by kernel_rfl) (by kernel_rfl) ?q187 (Or.inl ⟨?w187, ?y187⟩) hHeld ?r187
            case h187 => simp only [zA, zB, zC] <;> exact rfl
            case q187 => exact fun _ _ _ h => h
            case w187 => rfl
            case y187 =>
              intro w hSw
              (try dsimp only at hSw)
              obtain ⟨s0, s1⟩ := hSw
              go_simp
              try with_reducible rfl
            try simp only [zP, zN, zS, zT, zU]
            refine wpAnyH_take (i := 7) (oi := ?oi188) (v := ?vi188) ?h188 (by kernel_rfl) (by kernel_rfl) (by kernel_rfl) ?q188 (Or.inl ⟨?w188, ?y188⟩) hHeld ?r188
            case h188 => simp only [zA, zB, zC] <;> exact rfl
            case q188 => exact fun _ _ _ h => h
            case w188 => rfl
            case y188 =>
              intro w hSw
              (try dsimp only at hSw)
              obtain ⟨s0, s1⟩ := hSw
              go_simp
              try with_reducible rfl
            try simp only [zP, zN, zS, zT, zU]
            refine wpAnyH_take (i := 8) (oi := ?oi189) (v := ?vi189) ?h189 (by kernel_rfl) (by kernel_rfl) (by kernel_rfl) ?q189 (Or.inl ⟨?w189, ?y189⟩) hHeld ?r189
            case h189 => simp only [zA, zB, zC] <;> exact rfl
            case q189 => exact fun _ _ _ h => h
            case w189 => rfl
            case y189 =>
              intro w hSw
              (try dsimp only at hSw)
              obtain ⟨s0, s1⟩ := hSw
              go_simp
              try with_reducible rfl
            try simp only [zP, zN, zS, zT, zU]
            refine wpAnyH_take (i := 9) (oi := ?oi190) (v := ?vi190) ?h190 (by kernel_rfl) (by kernel_rfl) (by kernel_rfl) ?q190 (Or.inl ⟨?w190, ?y190⟩) hHeld ?r190
            case h190 => simp only [zA, zB, zC] <;> exact rfl
            case q190 => exact fun _ _ _ h => h
            case w190 => rfl
            case y190 =>
              intro w hSw
              (try dsimp only at hSw)
              obtain ⟨s0, s1⟩ := hSw
              go_simp
              try with_reducible rfl
            try simp only [zP, zN, zS, zT, zU]
            refine wpAnyH_take (i := 10) (oi := ?oi191) (v := ?vi191) ?h191 (by kernel_rfl) (by kernel_rfl) (by kernel_rfl) ?q191 (Or.inl ⟨?w191, ?y191⟩) hHeld ?r191
            case h191 => simp only [zA, zB, zC] <;> exact rfl
            case q191 => exact fun _ _ _ h => h
            case w191 => rfl
            case y191 =>
              intro w hSw
              (try dsimp only at hSw)
              obtain ⟨s0, s1⟩ := hSw
              go_simp
              try with_reducible rfl
            try simp only [zP, zN, zS, zT, zU]
            refine wpAnyH_take (i := 11) (oi := ?oi192) (v := ?vi192) ?h192 (by kernel_rfl) (by kernel_rfl) (by kernel_rfl) ?q192 (Or.inl ⟨?w192, ?y192⟩) hHeld ?r192
            case h192 => simp only [zA, zB, zC] <;> exact rfl
            case q192 => exact fun _ _ _ h => h
            case w192 => rfl
            case y192 =>
              intro w hSw
              (try dsimp only at hSw)
              obtain ⟨s0, s1⟩ := hSw
              go_simp
              try with_reducible rfl
            try simp only [zP, zN, zS, zT, zU]
            refine wpAnyH_done (by kernel_rfl) ?_ _
            have HO := Lib.hid (hR.out.2.1.non (Fp.refl Non wr).drew)
            have HFP := Lib.hid ((hR.out.2.2.then (Fp.refl Non wr).drew))
            have HXN := Lib.hid (HND.out.keep (Fp.refl Non wr).drew (fun h => h))
            have HYB := Lib.hid ((Fp.refl Non wr).drew.heap HBY.out (fun h => h))
            obtain ⟨y0, y1, y2, y3, y4⟩ := box5 HYB.out
            have hap := app_node wr.drew (w.heap.size + 1) _ acc y TL HO.out (by have := HAL.out; omega) (by have := HFP.out.size; rw [HSZ.out] at this; exact this)
            have HAP := Lib.hid hap
            clear hap
            go_wp2_with (at_builtin; go_must (refine wpList_app rfl _ _ _ _ rfl _ _ rfl rfl _ HAP.out ?_))
            intro v4 w4 hR4
            obtain ⟨a4, c4', rfl⟩ := hR4.own.shape
            have HO4 := Lib.hid hR4.own
            have HFP4 := Lib.hid (HFP.out.trans hR4.fp (fun k hk => .inr (by rw [HSZ.out]; exact hk)))
            have HXN4 := Lib.hid (HXN.out.keep hR4.fp (Nat.not_le.2 HG.out))
            have HYB4 := Lib.hid (hR4.fp.heap HYB.out (Nat.not_le.2 (Nat.lt_succ_self _)))
            clear hR4 y0 y1 y2 y3 y4 HAP HO HFP HXN HYB
            have HO := HO4
            have HFP := HFP4
            have HXN := HXN4
            have HYB := HYB4
            have hs9 : (w4.drew).cell? ⟨g, o + k * 5, none⟩ = some (.string (B x.path)) ∧ (w4.drew).cell? ⟨w.heap.size, 0, none⟩ = some (.string (B y.path)) :=
              ⟨(HXN.out.keep ((Fp.refl Non w4).drew) (fun h => h)).c0, (box5 ((Fp.refl Non w4).drew.heap HYB.out (fun h => h))).1⟩
            have HS9 := Lib.hid hs9
            clear hs9
            go_wp2_with fail
            refine wp_region_held_drew (S := (fun w' => w'.cell? ⟨g, o + k * 5, none⟩ = some (.string (B x.path)) ∧ w'.cell? ⟨w.heap.size, 0, none⟩ = some (.string (B y.path)))) (by kernel_rfl) ?_ (fun hHeld => ?_)
            · exact HS9.out
            refine wpAnyH_take (i := 0) (oi := ?oi193) (v := ?vi193) ?h193 (by kernel_rfl) (by kernel_rfl) (by kernel_rfl) ?q193 (Or.inl ⟨?w193, ?y193⟩) hHeld ?r193
            case h193 => simp only [zA, zB] <;> exact rfl
            case q193 => exact fun _ _ _ h => h
            case w193 => rfl
            case y193 =>
              intro w hSw
              (try dsimp only at hSw)
              obtain ⟨s0, s1⟩ := hSw
              go_simp
              try with_reducible rfl
            try simp only [zP, zN, zS, zT, zU]
            refine wpAnyH_take (i := 1) (oi := ?oi194) (v := ?vi194) ?h194 (by kernel_rfl) (by kernel_rfl) (by kernel_rfl) ?q194 (Or.inl ⟨?w194, ?y194⟩) hHeld ?r194
            case h194 => simp only [zA, zB, zC] <;> exact rfl
            case q194 => exact fun _ _ _ h => h
            case w194 => rfl
            case y194 =>
              intro w hSw
              (try dsimp only at hSw)
              obtain ⟨s0, s1⟩ := hSw
              go_simp
              try with_reducible rfl
            try simp only [zP, zN, zS, zT, zU]
            refine wpAnyH_take (i := 2) (oi := ?oi195) (v := ?vi195) ?h195 (by kernel_rfl) (by kernel_rfl) (by kernel_rfl) ?q195 (Or.inl ⟨?w195, ?y195⟩) hHeld ?r195
            case h195 => simp only [zA, zB, zC] <;> exact rfl
            case q195 => exact fun _ _ _ h => h
            case w195 => rfl
            case y195 =>
              intro w hSw
              (try dsimp only at hSw)
              obtain ⟨s0, s1⟩ := hSw
              go_simp
              try with_reducible rfl
            try simp only [zP, zN, zS, zT, zU]
            refine wpAnyH_take (i := 3) (oi := ?oi196) (v := ?vi196) ?h196 (by kernel_rfl) (by kernel_rfl) (by kernel_rfl) ?q196 (Or.inl ⟨?w196, ?y196⟩) hHeld ?r196
            case h196 => simp only [zA, zB, zC] <;> exact rfl
            case q196 => exact fun _ _ _ h => h
            case w196 => rfl
            case y196 =>
              intro w hSw
              (try dsimp only at hSw)
              obtain ⟨s0, s1⟩ := hSw
              go_simp
              try with_reducible rfl
            try simp only [zP, zN, zS, zT, zU]
            refine wpAnyH_take (i := 4) (oi := ?oi197) (v := ?vi197) ?h197 (by kernel_rfl) (by kernel_rfl) (by kernel_rfl) ?q197 (Or.inl ⟨?w197, ?y197⟩) hHeld ?r197
            case h197 => simp only [zA, zB, zC] <;> exact rfl
            case q197 => exact fun _ _ _ h => h
            case w197 => rfl
            case y197 =>
              intro w hSw
              (try dsimp only at hSw)
              obtain ⟨s0, s1⟩ := hSw
              go_simp
              try with_reducible rfl
            try simp only [zP, zN, zS, zT, zU]
            refine wpAnyH_take (i := 5) (oi := ?oi198) (v := ?vi198) ?h198 (by kernel_rfl) (by kernel_rfl) (by kernel_rfl) ?q198 (Or.inl ⟨?w198, ?y198⟩) hHeld ?r198
            case h198 => simp only [zA, zB, zC] <;> exact rfl
            case q198 => exact fun _ _ _ h => h
            case w198 => rfl
            case y198 =>
              intro w hSw
              (try dsimp only at hSw)
              obtain ⟨s0, s1⟩ := hSw
              go_simp
              try with_reducible rfl
            try simp only [zP, zN, zS, zT, zU]
            refine wpAnyH_take (i := 6) (oi := ?oi199) (v := ?vi199) ?h199 (by kernel_rfl) (by kernel_rfl) (by kernel_rfl) ?q199 (Or.inl ⟨?w199, ?y199⟩) hHeld ?r199
            case h199 => simp only [zA, zB, zC] <;> exact rfl
            case q199 => exact fun _ _ _ h => h
            case w199 => rfl
            case y199 =>
              intro w hSw
              (try dsimp only at hSw)
              obtain ⟨s0, s1⟩ := hSw
              go_simp
              try with_reducible rfl
            try simp only [zP, zN, zS, zT, zU]
            refine wpAnyH_take (i := 7) (oi := ?oi200) (v := ?vi200) ?h200 (by kernel_rfl) (by kernel_rfl) (by kernel_rfl) ?q200 (Or.inl ⟨?w200, ?y200⟩) hHeld ?r200
            case h200 => simp only [zA, zB, zC] <;> exact rfl
            case q200 => exact fun _ _ _ h => h
            case w200 => rfl
            case y200 =>
              intro w hSw
              (try dsimp only at hSw)
              obtain ⟨s0, s1⟩ := hSw
              go_simp
              try with_reducible rfl
            try simp only [zP, zN, zS, zT, zU]
            refine wpAnyH_done (by kernel_rfl) ?_ _
            have hn9 := HXN.out.keep ((Fp.refl Non w4).drew) (fun h => h)
            have c0 := hn9.c0; have c1 := hn9.c1; have c2 := hn9.c2; have c3 := hn9.c3; have c4 := hn9.c4
            unfold strV at c0 c1
            have hap := app_node w4.drew (w.heap.size + 1) _ (acc ++ [y]) x TL (HO.out.non (Fp.refl Non w4).drew) (by have := HAL.out; simp; omega) (by have := (HFP.out.then (Fp.refl Non w4).drew).size; rw [HSZ.out] at this; exact this)
            have HAP := Lib.hid hap
            clear hap hn9
            go_wp2_with (at_builtin; go_must (refine wpList_app rfl _ _ _ _ rfl _ _ rfl rfl _ HAP.out ?_))
            intro v5 w5 hR5
            have HR5 := Lib.hid hR5
            clear hR5 c0 c1 c2 c3 c4
            have hj := HL.out
            go_wp2
            go_roundw
            case rel => exact ⟨k + 1, by omega, by go_num, (acc ++ [y]) ++ [x], true, rfl, HST.out.trans HM.out, (by have h5 := HR5.out.own; simpa using h5), (HFP.out.then (Fp.refl Non w4).drew).trans HR5.out.fp (fun k hk => .inr (by rw [HSZ.out]; exact hk))⟩
            case measure => simp [RowKit.intOf]; omega
    · have hke : k = n := by omega
      subst hke
      have q3 : ((k : Int) < (k : Int)) = False := eq_false (by omega)
      have hfin := hR.out.1
      rw [List.take_of_length_le (by rw [← HX.out.1]; exact Nat.le_refl _)] at hfin
      have hput := pstep_put y l []
      rw [hfin, List.nil_append] at hput
      have HPT := Lib.hid hput
      clear hlt hk hfin hput
      cases dn with
      | true =>
        go_wp2
        go_ret
        exact ⟨_, rfl, by have := HPT.out; simp only [if_true] at this; rw [← this]; exact hR.out.2.1.low (Nat.le_succ _), HB0.out.1.then hR.out.2.2⟩
      | false =>
        have hap := app_node wr (w.heap.size + 1) _ acc y TL hR.out.2.1 (by have := HAL.out; omega) (by have := hR.out.2.2.size; rw [HSZ.out] at this; exact this)
        have HAP := Lib.hid hap
        obtain ⟨s0, s1, s2, s3, s4⟩ := box5 hby
        clear hap hal hby
        go_wp2_with (at_builtin; go_must (refine wpList_app rfl _ _ _ _ rfl _ _ rfl rfl _ HAP.out ?_))
        intro v4 w4 hR4
        have HR4 := Lib.hid hR4
        clear hR4 s0 s1 s2 s3 s4
        go_wp2
        go_ret
        exact ⟨_, rfl, by have := HPT.out; simp only [Bool.false_eq_true, if_false] at this; rw [← this]; exact HR4.out.own.low (Nat.le_succ _), HB0.out.1.then (hR.out.2.2.trans HR4.out.fp (fun k hk => .inr (by rw [HSZ.out]; exact hk)))⟩
end Go.Proofs.YthaepjeikicigaaGreatDoor
