/- A text of this proof. -/
import Derived.Test.YthaepjeikicigaaDoorQLs
import Derived.Test.YthaepjeikicigaaDoorQKi
/- NodesNames, walked. -/
namespace Go.Proofs.YthaepjeikicigaaDoor
set_option maxRecDepth 20000
set_option linter.unusedVariables false
set_option linter.unusedSimpArgs false
open Go.RowKit Pm

theorem not_ge {a b : Bs} (h : lt a b = true) : (Op.bytesLess b a || b == a) = false := by
  have h1 : Op.bytesLess b a = false := lt_asymm h
  have h2 : (b == a) = false := beq_eq_false_iff_ne.2 (lt_ne h).symm
  rw [h1, h2]; rfl
/-- List, on a tree. -/
inductive LsW (l : List Nd) (p : Bs) (w w' : World) (e : Ending) : Prop where
  | arg (ao : Option Addr) (c : Nat) (n : Option Addr) (c2 : Nat) (he : e = .returned (.tuple #[.slice ao 0 c, .agg #[.int .i64 1, .string ⟨#[]⟩, .string ⟨#[]⟩, .int .i64 0, .slice n 0 c2]])) (hm : split p = none)
  | none (ao : Option Addr) (c m : Nat) (n : Option Addr) (c2 : Nat) (he : e = .returned (.tuple #[.slice ao m c, .agg #[.int .i64 62, .string ⟨#[]⟩, .string ⟨#[]⟩, .int .i64 0, .slice n 0 c2]])) (hm : (find l p).isSome = false)
  | done (ao : Option Addr) (c m : Nat) (n : Option Addr) (c2 : Nat) (he : e = .returned (.tuple #[.slice ao m c, .agg #[.int .i64 0, .string ⟨#[]⟩, .string ⟨#[]⟩, .int .i64 0, .slice n (kids l p).length c2]])) (hm : (find l p).isSome = true)
      (ho : Own w.heap.size w' (.slice n (kids l p).length c2) ((kids l p).map (fun n => last n.path)))
theorem List_w (v : Value) (l : List Nd) (p : Bs) (w : World) (hv : Ns w v l) (hT : Tr l) (hp : p.length ≤ 1000000) (ht : Tab w) :
    Calls Tryd.prog 14 #[v, .agg #[.int .i64 6, .string (B p), .string ⟨#[]⟩, .int .i64 0, .int .i64 0, .bool false]] w fun e w' => LsW l p w w' e ∧ Fp Non w w' := by
  refine (Apply_c v l (listOp p) w hv (tr_few hT).2 hp ht).mono fun e w' h => ⟨?_, h.fp⟩
  obtain ⟨v', nv, rfl, h1, h2⟩ := h.ex
  obtain ⟨ao, c, rfl⟩ := h1.shape
  obtain ⟨n, c2, rfl⟩ := h2.shape
  rcases list_ways hT p with ⟨e, hs⟩ | ⟨e, hf⟩ | ⟨e, hf⟩
  · rw [e]; exact .arg ao c n c2 rfl hs
  · rw [e]; exact .none ao c _ n c2 rfl (by rw [hf]; rfl)
  · rw [e] at h2 ⊢
    have hl : ((kids l p).map (fun n => last n.path)).length = (kids l p).length := List.length_map ..
    refine .done ao c l.length n c2 ?_ hf ?_
    · show Ending.returned _ = _
      rw [← hl]; rfl
    · have h2 : Own w.heap.size w' (.slice n ((kids l p).map (fun n => last n.path)).length c2) ((kids l p).map (fun n => last n.path)) := h2
      rw [hl] at h2; exact h2

set_option maxHeartbeats 8000000 in
theorem NodesNames_c (v : Value) (l : List Nd) (p : Bs) (w : World) (hv : Ns w v l) (hn : l.length ≤ 140737488355328) (ht : Tab w) :
    Calls Tryd.prog 8 #[v, .string (B p)] w fun e w' => e = .returned (.bool true) ∧ Fp Non w w' := by
  obtain ⟨ao, cap, rfl⟩ := hv.shape
  have K0 := Lib.hid (Kp.and (Kp.fp (Fp.refl Non w)) (Kp.and (Kp.ns hv) (Kp.tab ht)))
  have HN := Lib.hid hn
  clear hv ht hn
  obtain ⟨n, hnn⟩ : ∃ n, n = l.length := ⟨_, rfl⟩
  have HX := Lib.hid hnn
  rw [← hnn]
  clear hnn
  go_enter Tryd.func8, Tryd.ntmps8
  go_wp2_with fail
  refine (head_c _ K0.out.now.2.2).mono ?_
  rintro e w1 ⟨rfl, hf⟩
  have K1 := Lib.hid (K0.out.later hf)
  clear hf K0
  have hgr := Great_c _ l w1 K1.out.now.2.1 HN.out
  rw [← HX.out] at hgr
  have HGR := Lib.hid hgr
  clear hgr
  go_wp2_with fail
  refine HGR.out.mono ?_
  rintro e w2 ⟨g, rfl, hg, hf⟩
  have K2 := Lib.hid (K1.out.later hf)
  have HG := Lib.hid hg
  clear hf hg K1 HGR HN
  cases g with
  | true =>
    have F2 := Lib.hid K2.out.now.1
    clear K2 HG
    go_wp2
    go_ret
    exact ⟨rfl, F2.out⟩
  | false =>
  by_cases hlong : 1000 < p.length
  · have qa : (1000 < p.length) = True := eq_true hlong
    have qb : ((1000 : Int) < (p.length : Int)) = True := eq_true (by omega)
    clear hlong
    have F2 := Lib.hid K2.out.now.1
    clear K2 HG
    go_wp2
    go_ret
    exact ⟨rfl, F2.out⟩
  have qa : (1000 < p.length) = False := eq_false hlong
  have qb : ((1000 : Int) < (p.length : Int)) = False := eq_false (by omega)
  have HLP := Lib.hid (show p.length ≤ 1000 by omega)
  clear hlong
  have hrr := rRightN_g _ l w2 K2.out.now.2.1 (few_sp (by have := HG.out (by first | rfl | trivial); rw [HX.out] at this; exact this))
  rw [← HX.out] at hrr
  obtain ⟨br, hbr⟩ : ∃ b, Pm.right l = b := ⟨_, rfl⟩
  rw [hbr] at hrr
  have HRR := Lib.hid hrr
  have HBR := Lib.hid hbr
  clear hrr hbr
  go_wp2_with fail
  refine HRR.out.mono ?_
  rintro e w4 ⟨rfl, hf⟩
  have K4 := Lib.hid (K2.out.later hf)
  clear hf K2 HRR
  cases br with
  | false =>
    have F2 := Lib.hid K4.out.now.1
    clear K4 HG HBR
    go_wp2
    go_ret
    exact ⟨rfl, F2.out⟩
  | true =>
  have HT := Lib.hid ((right_iff l).1 HBR.out).tr
  clear HBR HG
  have hap := List_w _ l p w4 K4.out.now.2.1 HT.out (by have := HLP.out; omega) K4.out.now.2.2
  rw [← HX.out] at hap
  have HAP := Lib.hid hap
  clear hap
  go_wp2_with fail
  refine HAP.out.mono ?_
  rintro e w5 ⟨hw, hf⟩
  have K5 := Lib.hid (K4.out.later hf)
  clear hf K4 HAP
  rcases hw with ⟨ao', c, na, c2, rfl, hm⟩ | ⟨ao', c, m, na, c2, rfl, hm⟩ | ⟨ao', c, m, na, c2, rfl, hm, ho⟩
  · have hbx := heap_alloc_new w5 (.cells #[.int .i64 1, .string ⟨#[]⟩, .string ⟨#[]⟩, .int .i64 0, .slice na 0 c2] TR)
    have K6 := Lib.hid (Kp.and (Kp.row hbx) (K5.out.later (fp_alloc w5 (.cells #[.int .i64 1, .string ⟨#[]⟩, .string ⟨#[]⟩, .int .i64 0, .slice na 0 c2] TR))))
    clear hbx K5
    have hfd := nFind_c _ l p _ K6.out.now.2.2.1 (tr_few HT.out).2 (tr_few HT.out).1
    have hpr := fun w => rRight_g p w (sz_of HLP.out (by omega))
    rw [← HX.out] at hfd
    rw [hm] at hpr
    obtain ⟨is, hi⟩ : ∃ b, (find l p).isSome = b := ⟨_, rfl⟩
    obtain ⟨x, hx⟩ : ∃ b, (find l p).getD zeroNd = b := ⟨_, rfl⟩
    rw [hi, hx] at hfd
    unfold ndV strV at hfd
    have HFD := Lib.hid hfd
    have HPR := Lib.hid hpr
    clear hfd hpr hi hx
    go_wp2_with fail
    refine HFD.out.mono ?_
    rintro e w6 ⟨rfl, hf⟩
    have K7 := Lib.hid (K6.out.later (hf.alloc (.cells #[.string (B x.path), .string (B x.data), .int .i64 x.ver, .int .i64 x.turn, .int .i64 x.own] TN)))
    clear hf K6
    obtain ⟨r0, r1, r2, r3, r4⟩ := box5 K7.out.now.1
    have F7 := Lib.hid K7.out.now.2.1
    cases is with
    | false =>
      go_wp2
      go_ret
      exact ⟨rfl, F7.out⟩
    | true =>
      go_wp2_with fail
      refine (HPR.out _).mono ?_
      rintro e w7 ⟨rfl, hg⟩
      have F8 := Lib.hid (F7.out.then hg.fp)
      clear hg
      go_wp2
      go_ret
      exact ⟨rfl, F8.out⟩
  · have hbx := heap_alloc_new w5 (.cells #[.int .i64 62, .string ⟨#[]⟩, .string ⟨#[]⟩, .int .i64 0, .slice na 0 c2] TR)
    have K6 := Lib.hid (Kp.and (Kp.row hbx) (K5.out.later (fp_alloc w5 (.cells #[.int .i64 62, .string ⟨#[]⟩, .string ⟨#[]⟩, .int .i64 0, .slice na 0 c2] TR))))
    clear hbx K5
    have hfd := nFind_c _ l p _ K6.out.now.2.2.1 (tr_few HT.out).2 (tr_few HT.out).1
    rw [← HX.out] at hfd
    obtain ⟨x, hx⟩ : ∃ b, (find l p).getD zeroNd = b := ⟨_, rfl⟩
    rw [hm, hx] at hfd
    unfold ndV strV at hfd
    have HFD := Lib.hid hfd
    clear hfd hx
    go_wp2_with fail
    refine HFD.out.mono ?_
    rintro e w6 ⟨rfl, hf⟩
    have K7 := Lib.hid (K6.out.later (hf.alloc (.cells #[.string (B x.path), .string (B x.data), .int .i64 x.ver, .int .i64 x.turn, .int .i64 x.own] TN)))
    clear hf K6
    obtain ⟨r0, r1, r2, r3, r4⟩ := box5 K7.out.now.1
    have F7 := Lib.hid K7.out.now.2.1
    go_wp2
    go_ret
    exact ⟨rfl, F7.out⟩
  · have hkr := kids_rise HT.out p
    have hkn := kids_names l p
    have hch := fun w hv => rChildren_c (.slice ao n cap) l p w hv (tr_few HT.out).2 (by have := HT.out.most; omega)
    have hbx := heap_alloc_new w5 (.cells #[.int .i64 0, .string ⟨#[]⟩, .string ⟨#[]⟩, .int .i64 0, .slice na (kids l p).length c2] TR)
    have K6 := Lib.hid (Kp.and (Kp.row hbx) (K5.out.later (fp_alloc w5 (.cells #[.int .i64 0, .string ⟨#[]⟩, .string ⟨#[]⟩, .int .i64 0, .slice na (kids l p).length c2] TR))))
    have hkb : (kids l p).length ≤ 512 := Nat.le_trans (List.length_filter_le _ _) HT.out.most
    have HO := Lib.hid (ho.grown' (fp_alloc w5 (.cells #[.int .i64 0, .string ⟨#[]⟩, .string ⟨#[]⟩, .int .i64 0, .slice na (kids l p).length c2] TR)))
    clear hbx K5 ho
    have hfd := nFind_c _ l p _ K6.out.now.2.2.1 (tr_few HT.out).2 (tr_few HT.out).1
    rw [← HX.out] at hfd
    obtain ⟨x, hx⟩ : ∃ b, (find l p).getD zeroNd = b := ⟨_, rfl⟩
    rw [hm, hx] at hfd
    unfold ndV strV at hfd
    have HFD := Lib.hid hfd
    have HKR := Lib.hid hkr
    have HKN := Lib.hid hkn
    have HCH := Lib.hid hch
    clear hfd hx hkr hkn hch
    obtain ⟨kn, hkk⟩ : ∃ kn, kn = (kids l p).length := ⟨_, rfl⟩
    rw [← hkk] at hkb HFD K6 HO
    rw [← hkk]
    have HKK := Lib.hid hkk
    clear hkk
    go_wp2_with fail
    refine HFD.out.mono ?_
    rintro e w6 ⟨rfl, hf⟩
    have K7 := Lib.hid (K6.out.later (hf.alloc (.cells #[.string (B x.path), .string (B x.data), .int .i64 x.ver, .int .i64 x.turn, .int .i64 x.own] TN)))
    have HO7 := Lib.hid (HO.out.grown' (hf.alloc (.cells #[.string (B x.path), .string (B x.data), .int .i64 x.ver, .int .i64 x.turn, .int .i64 x.own] TN)))
    clear hf K6 HO
    obtain ⟨r0, r1, r2, r3, r4⟩ := box5 K7.out.now.1
    go_wp2_with fail
    clear r0 r1 r2 r3 r4
    have H0 := Lib.hid (Fp.refl Non (w6.alloc (.cells #[.string (B x.path), .string (B x.data), .int .i64 x.ver, .int .i64 x.turn, .int .i64 x.own] TN)))
    go_loopw [10] (fun i wr => ∃ k : Nat, k ≤ kn ∧ i = .int .i64 k ∧ Hid (Fp Non (w6.alloc (.cells #[.string (B x.path), .string (B x.data), .int .i64 x.ver, .int .i64 x.turn, .int .i64 x.own] TN)) wr)) (fun i _ => kn - (RowKit.intOf i).toNat)
    case atStart => exact ⟨0, Nat.zero_le _, rfl, H0⟩
    case round =>
      clear H0
      obtain ⟨k, hk, rfl, hR⟩ := hrel
      rename_i wr _
      obtain ⟨r0, r1, r2, r3, r4⟩ := box5 (K7.out.later hR.out).now.1
      by_cases hlt : k < kn
      · have hkl : k < (kids l p).length := by rw [← HKK.out]; exact hlt
        obtain ⟨gN, hna, hcb⟩ := HO7.out.cells wr hR.out.gr k (by rw [List.length_map]; exact hkl)
        rw [List.getElem_map] at hcb
        subst hna
        have hca : 0 < k → wr.cell? ⟨gN, k - 1, none⟩ = some (.string (B (last ((kids l p)[k - 1]'(by omega)).path))) := fun h0 => by
          obtain ⟨g', e, h⟩ := HO7.out.cells wr hR.out.gr (k - 1) (by rw [List.length_map]; omega)
          injection e with e; injection e with e; subst e
          rw [List.getElem_map] at h; exact h
        have hri := fun (h0 : 0 < k) => HKR.out (k - 1) (by omega)
        obtain ⟨q, hj, hq, hql⟩ := HKN.out k hkl
        have hbl : (last (kids l p)[k].path).length ≤ 100 := by
          obtain ⟨_, hpp⟩ := mem_kids.1 (List.getElem_mem hkl)
          obtain ⟨_, _, _, _, h, _⟩ := parent_some hpp
          exact h
        have hjn := fun w => rJoin_g p (last (kids l p)[k].path) w (sz_of HLP.out (by omega)) (sz_of hbl (by omega))
        rw [hj] at hjn
        simp only [Option.getD_some, Option.isSome_some] at hjn
        obtain ⟨a, ha⟩ : ∃ a, 0 < k → a = last ((kids l p)[k - 1]'(by omega)).path := ⟨if h : 0 < k then last ((kids l p)[k - 1]'(by omega)).path else [], fun h => dif_pos h⟩
        have hri2 : 0 < k → lt a (last (kids l p)[k].path) = true := fun h0 => by
          have := hri h0
          rw [ha h0]
          simpa only [show k - 1 + 1 = k from by omega] using this
        have hca2 : 0 < k → wr.cell? ⟨gN, k - 1, none⟩ = some (.string (B a)) := fun h0 => by rw [ha h0]; exact hca h0
        clear hca hri ha
        generalize last (kids l p)[k].path = b at *
        have hfq : ∀ w', Ns w' (.slice ao n cap) l → _ := fun w' hv => nFind_c (.slice ao n cap) l q w' hv (tr_few HT.out).2 (tr_few HT.out).1
        rw [hq] at hfq
        obtain ⟨y, hy⟩ : ∃ y, (find l q).getD zeroNd = y := ⟨_, rfl⟩
        rw [hy] at hfq
        unfold ndV strV at hfq
        have HJN := Lib.hid hjn
        have HFQ := Lib.hid hfq
        have HCA := Lib.hid (And.intro hca2 (And.intro hcb hri2))
        have p3 : ((k : Int) < (kn : Int)) = True := eq_true (by omega)
        have p4 : (k < kn) = True := eq_true hlt
        have HL := Lib.hid hlt
        clear hjn hfq hca2 hri2 hj hq hql hy hbl hkl hlt hk
        go_wp2_with fail
        refine (HJN.out _).mono ?_
        rintro e w7 ⟨rfl, hg7⟩
        have F7 := Lib.hid (hR.out.then hg7.fp)
        have G7 := Lib.hid hg7.fp
        clear hg7 hcb r0 r1 r2 r3 r4
        go_wp2_with fail
        refine (HFQ.out _ (by have := (K7.out.later F7.out).now.2.2.1; rw [← HX.out] at this; exact this)).mono ?_
        rintro e w8 ⟨rfl, hf8⟩
        have hfy := ((Fp.refl Non w8).alloc (.cells #[.string (B y.path), .string (B y.data), .int .i64 y.ver, .int .i64 y.turn, .int .i64 y.own] TN)).drew
        have F8 := Lib.hid ((F7.out.then hf8).then hfy)
        have G8 := Lib.hid ((G7.out.then hf8).then hfy)
        clear hf8 hfy
        obtain ⟨r0, r1, r2, r3, r4⟩ := box5 (K7.out.later F8.out).now.1
        have hb8 := G8.out.cell HCA.out.2.1 (fun h => h)
        rcases Nat.eq_zero_or_pos k with h0 | h0
        · subst h0
          go_wp2_with fail
          refine wp_region_held_drew (S := (fun _ => True)) (by kernel_rfl) ?_ (fun hHeld => ?_)
          · trivial
          refine wpAnyH_take (i := 0) (oi := ?oi101) (v := ?vi101) ?h101 (by kernel_rfl) (by kernel_rfl) (by kernel_rfl) ?q101 (Or.inl ⟨?w101, ?y101⟩) hHeld ?r101
          case h101 => first | (simp only [List.getElem?_toArray, List.getElem?_cons_zero]; done) | (simp only [List.getElem?_toArray, List.getElem?_cons_zero]; exact rfl)
          case q101 => exact fun _ _ _ h => h
          case w101 => rfl
          case y101 =>
            intro w hSw
            (try dsimp only at hSw)
            skip
            go_simp
            try with_reducible rfl
          try simp only [Act.put, List.setIfInBounds_toArray, List.set_cons_zero, List.set_cons_succ]
          refine wpAnyH_take (i := 1) (oi := ?oi102) (v := ?vi102) ?h102 (by kernel_rfl) (by kernel_rfl) (by kernel_rfl) ?q102 (Or.inl ⟨?w102, ?y102⟩) hHeld ?r102
          case h102 => first | (simp only [List.getElem?_toArray, List.getElem?_cons_zero, List.getElem?_cons_succ]; done) | (simp only [List.getElem?_toArray, List.getElem?_cons_zero, List.getElem?_cons_succ]; exact rfl)
          case q102 => exact fun _ _ _ h => h
          case w102 => rfl
          case y102 =>
            intro w hSw
            (try dsimp only at hSw)
            skip
            go_simp
            try with_reducible rfl
          try simp only [Act.put, List.setIfInBounds_toArray, List.set_cons_zero, List.set_cons_succ]
          refine wpAnyH_take (i := 2) (oi := ?oi103) (v := ?vi103) ?h103 (by kernel_rfl) (by kernel_rfl) (by kernel_rfl) ?q103 (Or.inl ⟨?w103, ?y103⟩) hHeld ?r103
          case h103 => first | (simp only [List.getElem?_toArray, List.getElem?_cons_zero, List.getElem?_cons_succ]; done) | (simp only [List.getElem?_toArray, List.getElem?_cons_zero, List.getElem?_cons_succ]; exact rfl)
          case q103 => exact fun _ _ _ h => h
          case w103 => rfl
          case y103 =>
            intro w hSw
            (try dsimp only at hSw)
            skip
            go_simp
            try with_reducible rfl
          try simp only [Act.put, List.setIfInBounds_toArray, List.set_cons_zero, List.set_cons_succ]
          refine wpAnyH_take (i := 3) (oi := ?oi104) (v := ?vi104) ?h104 (by kernel_rfl) (by kernel_rfl) (by kernel_rfl) ?q104 (Or.inl ⟨?w104, ?y104⟩) hHeld ?r104
          case h104 => first | (simp only [List.getElem?_toArray, List.getElem?_cons_zero, List.getElem?_cons_succ]; done) | (simp only [List.getElem?_toArray, List.getElem?_cons_zero, List.getElem?_cons_succ]; exact rfl)
          case q104 => exact fun _ _ _ h => h
          case w104 => rfl
          case y104 =>
            intro w hSw
            (try dsimp only at hSw)
            skip
            go_simp
            try with_reducible rfl
          try simp only [Act.put, List.setIfInBounds_toArray, List.set_cons_zero, List.set_cons_succ]
          refine wpAnyH_take (i := 4) (oi := ?oi105) (v := ?vi105) ?h105 (by kernel_rfl) (by kernel_rfl) (by kernel_rfl) ?q105 (Or.inl ⟨?w105, ?y105⟩) hHeld ?r105
          case h105 => first | (simp only [List.getElem?_toArray, List.getElem?_cons_zero, List.getElem?_cons_succ]; done) | (simp only [List.getElem?_toArray, List.getElem?_cons_zero, List.getElem?_cons_succ]; exact rfl)
          case q105 => exact fun _ _ _ h => h
          case w105 => rfl
          case y105 =>
            intro w hSw
            (try dsimp only at hSw)
            skip
            go_simp
            try with_reducible rfl
          try simp only [Act.put, List.setIfInBounds_toArray, List.set_cons_zero, List.set_cons_succ]
          refine wpAnyH_take (i := 5) (oi := ?oi106) (v := ?vi106) ?h106 (by kernel_rfl) (by kernel_rfl) (by kernel_rfl) ?q106 (Or.inl ⟨?w106, ?y106⟩) hHeld ?r106
          case h106 => first | (simp only [List.getElem?_toArray, List.getElem?_cons_zero, List.getElem?_cons_succ]; done) | (simp only [List.getElem?_toArray, List.getElem?_cons_zero, List.getElem?_cons_succ]; exact rfl)
          case q106 => exact fun _ _ _ h => h
          case w106 => rfl
          case y106 =>
            intro w hSw
            (try dsimp only at hSw)
            skip
            go_simp
            try with_reducible rfl
          try simp only [Act.put, List.setIfInBounds_toArray, List.set_cons_zero, List.set_cons_succ]
          refine wpAnyH_take (i := 6) (oi := ?oi107) (v := ?vi107) ?h107 (by kernel_rfl) (by kernel_rfl) (by kernel_rfl) ?q107 (Or.inl ⟨?w107, ?y107⟩) hHeld ?r107
          case h107 => first | (simp only [List.getElem?_toArray, List.getElem?_cons_zero, List.getElem?_cons_succ]; done) | (simp only [List.getElem?_toArray, List.getElem?_cons_zero, List.getElem?_cons_succ]; exact rfl)
          case q107 => exact fun _ _ _ h => h
          case w107 => rfl
          case y107 =>
            intro w hSw
            (try dsimp only at hSw)
            skip
            go_simp
            try with_reducible rfl
          try simp only [Act.put, List.setIfInBounds_toArray, List.set_cons_zero, List.set_cons_succ]
          refine wpAnyH_take (i := 7) (oi := ?oi108) (v := ?vi108) ?h108 (by kernel_rfl) (by kernel_rfl) (by kernel_rfl) ?q108 (Or.inl ⟨?w108, ?y108⟩) hHeld ?r108
          case h108 => first | (simp only [List.getElem?_toArray, List.getElem?_cons_zero, List.getElem?_cons_succ]; done) | (simp only [List.getElem?_toArray, List.getElem?_cons_zero, List.getElem?_cons_succ]; exact rfl)
          case q108 => exact fun _ _ _ h => h
          case w108 => rfl
          case y108 =>
            intro w hSw
            (try dsimp only at hSw)
            skip
            go_simp
            try with_reducible rfl
          try simp only [Act.put, List.setIfInBounds_toArray, List.set_cons_zero, List.set_cons_succ]
          refine wpAnyH_take (i := 8) (oi := ?oi109) (v := ?vi109) ?h109 (by kernel_rfl) (by kernel_rfl) (by kernel_rfl) ?q109 (Or.inl ⟨?w109, ?y109⟩) hHeld ?r109
          case h109 => first | (simp only [List.getElem?_toArray, List.getElem?_cons_zero, List.getElem?_cons_succ]; done) | (simp only [List.getElem?_toArray, List.getElem?_cons_zero, List.getElem?_cons_succ]; exact rfl)
          case q109 => exact fun _ _ _ h => h
          case w109 => rfl
          case y109 =>
            intro w hSw
            (try dsimp only at hSw)
            skip
            go_simp
            try with_reducible rfl
          try simp only [Act.put, List.setIfInBounds_toArray, List.set_cons_zero, List.set_cons_succ]
          refine wpAnyH_take (i := 9) (oi := ?oi110) (v := ?vi110) ?h110 (by kernel_rfl) (by kernel_rfl) (by kernel_rfl) ?q110 (Or.inl ⟨?w110, ?y110⟩) hHeld ?r110
          case h110 => first | (simp only [List.getElem?_toArray, List.getElem?_cons_zero, List.getElem?_cons_succ]; done) | (simp only [List.getElem?_toArray, List.getElem?_cons_zero, List.getElem?_cons_succ]; exact rfl)
          case q110 => exact fun _ _ _ h => h
          case w110 => rfl
          case y110 =>
            intro w hSw
            (try dsimp only at hSw)
            skip
            go_simp
            try with_reducible rfl
          try simp only [Act.put, List.setIfInBounds_toArray, List.set_cons_zero, List.set_cons_succ]
          refine wpAnyH_take (i := 10) (oi := ?oi111) (v := undef) ?h111 (by kernel_rfl) (by kernel_rfl) (by kernel_rfl) ?q111 (Or.inr ⟨?w111, rfl⟩) hHeld ?r111
          case h111 => first | (simp only [List.getElem?_toArray, List.getElem?_cons_zero, List.getElem?_cons_succ]; done) | (simp only [List.getElem?_toArray, List.getElem?_cons_zero, List.getElem?_cons_succ]; exact rfl)
          case q111 => exact fun _ _ _ h => h
          case w111 => rfl
          try simp only [Act.put, List.setIfInBounds_toArray, List.set_cons_zero, List.set_cons_succ]
          refine wpAnyH_take (i := 11) (oi := ?oi112) (v := undef) ?h112 (by kernel_rfl) (by kernel_rfl) (by kernel_rfl) ?q112 (Or.inr ⟨?w112, rfl⟩) hHeld ?r112
          case h112 => first | (simp only [List.getElem?_toArray, List.getElem?_cons_zero, List.getElem?_cons_succ]; done) | (simp only [List.getElem?_toArray, List.getElem?_cons_zero, List.getElem?_cons_succ]; exact rfl)
          case q112 => exact fun _ _ _ h => h
          case w112 => rfl
          try simp only [Act.put, List.setIfInBounds_toArray, List.set_cons_zero, List.set_cons_succ]
          refine wpAnyH_take (i := 12) (oi := ?oi113) (v := undef) ?h113 (by kernel_rfl) (by kernel_rfl) (by kernel_rfl) ?q113 (Or.inr ⟨?w113, rfl⟩) hHeld ?r113
          case h113 => first | (simp only [List.getElem?_toArray, List.getElem?_cons_zero, List.getElem?_cons_succ]; done) | (simp only [List.getElem?_toArray, List.getElem?_cons_zero, List.getElem?_cons_succ]; exact rfl)
          case q113 => exact fun _ _ _ h => h
          case w113 => rfl
          try simp only [Act.put, List.setIfInBounds_toArray, List.set_cons_zero, List.set_cons_succ]
          refine wpAnyH_take (i := 13) (oi := ?oi114) (v := undef) ?h114 (by kernel_rfl) (by kernel_rfl) (by kernel_rfl) ?q114 (Or.inr ⟨?w114, rfl⟩) hHeld ?r114
          case h114 => first | (simp only [List.getElem?_toArray, List.getElem?_cons_zero, List.getElem?_cons_succ]; done) | (simp only [List.getElem?_toArray, List.getElem?_cons_zero, List.getElem?_cons_succ]; exact rfl)
          case q114 => exact fun _ _ _ h => h
          case w114 => rfl
          try simp only [Act.put, List.setIfInBounds_toArray, List.set_cons_zero, List.set_cons_succ]
          refine wpAnyH_take (i := 14) (oi := ?oi115) (v := undef) ?h115 (by kernel_rfl) (by kernel_rfl) (by kernel_rfl) ?q115 (Or.inr ⟨?w115, rfl⟩) hHeld ?r115
          case h115 => first | (simp only [List.getElem?_toArray, List.getElem?_cons_zero, List.getElem?_cons_succ]; done) | (simp only [List.getElem?_toArray, List.getElem?_cons_zero, List.getElem?_cons_succ]; exact rfl)
          case q115 => exact fun _ _ _ h => h
          case w115 => rfl
          try simp only [Act.put, List.setIfInBounds_toArray, List.set_cons_zero, List.set_cons_succ]
          refine wpAnyH_take (i := 15) (oi := ?oi116) (v := undef) ?h116 (by kernel_rfl) (by kernel_rfl) (by kernel_rfl) ?q116 (Or.inr ⟨?w116, rfl⟩) hHeld ?r116
          case h116 => first | (simp only [List.getElem?_toArray, List.getElem?_cons_zero, List.getElem?_cons_succ]; done) | (simp only [List.getElem?_toArray, List.getElem?_cons_zero, List.getElem?_cons_succ]; exact rfl)
          case q116 => exact fun _ _ _ h => h
          case w116 => rfl
          try simp only [Act.put, List.setIfInBounds_toArray, List.set_cons_zero, List.set_cons_succ]
          refine wpAnyH_take (i := 16) (oi := ?oi117) (v := undef) ?h117 (by kernel_rfl) (by kernel_rfl) (by kernel_rfl) ?q117 (Or.inr ⟨?w117, rfl⟩) hHeld ?r117
          case h117 => first | (simp only [List.getElem?_toArray, List.getElem?_cons_zero, List.getElem?_cons_succ]; done) | (simp only [List.getElem?_toArray, List.getElem?_cons_zero, List.getElem?_cons_succ]; exact rfl)
          case q117 => exact fun _ _ _ h => h
          case w117 => rfl
          try simp only [Act.put, List.setIfInBounds_toArray, List.set_cons_zero, List.set_cons_succ]
          refine wpAnyH_take (i := 17) (oi := ?oi118) (v := undef) ?h118 (by kernel_rfl) (by kernel_rfl) (by kernel_rfl) ?q118 (Or.inr ⟨?w118, rfl⟩) hHeld ?r118
          case h118 => first | (simp only [List.getElem?_toArray, List.getElem?_cons_zero, List.getElem?_cons_succ]; done) | (simp only [List.getElem?_toArray, List.getElem?_cons_zero, List.getElem?_cons_succ]; exact rfl)
          case q118 => exact fun _ _ _ h => h
          case w118 => rfl
          try simp only [Act.put, List.setIfInBounds_toArray, List.set_cons_zero, List.set_cons_succ]
          refine wpAnyH_take (i := 18) (oi := ?oi119) (v := undef) ?h119 (by kernel_rfl) (by kernel_rfl) (by kernel_rfl) ?q119 (Or.inr ⟨?w119, rfl⟩) hHeld ?r119
          case h119 => first | (simp only [List.getElem?_toArray, List.getElem?_cons_zero, List.getElem?_cons_succ]; done) | (simp only [List.getElem?_toArray, List.getElem?_cons_zero, List.getElem?_cons_succ]; exact rfl)
          case q119 => exact fun _ _ _ h => h
          case w119 => rfl
          try simp only [Act.put, List.setIfInBounds_toArray, List.set_cons_zero, List.set_cons_succ]
          refine wpAnyH_take (i := 19) (oi := ?oi120) (v := undef) ?h120 (by kernel_rfl) (by kernel_rfl) (by kernel_rfl) ?q120 (Or.inr ⟨?w120, rfl⟩) hHeld ?r120
          case h120 => first | (simp only [List.getElem?_toArray, List.getElem?_cons_zero, List.getElem?_cons_succ]; done) | (simp only [List.getElem?_toArray, List.getElem?_cons_zero, List.getElem?_cons_succ]; exact rfl)
          case q120 => exact fun _ _ _ h => h
          case w120 => rfl
          try simp only [Act.put, List.setIfInBounds_toArray, List.set_cons_zero, List.set_cons_succ]
          refine wpAnyH_take (i := 20) (oi := ?oi121) (v := undef) ?h121 (by kernel_rfl) (by kernel_rfl) (by kernel_rfl) ?q121 (Or.inr ⟨?w121, rfl⟩) hHeld ?r121
          case h121 => first | (simp only [List.getElem?_toArray, List.getElem?_cons_zero, List.getElem?_cons_succ]; done) | (simp only [List.getElem?_toArray, List.getElem?_cons_zero, List.getElem?_cons_succ]; exact rfl)
          case q121 => exact fun _ _ _ h => h
          case w121 => rfl
          try simp only [Act.put, List.setIfInBounds_toArray, List.set_cons_zero, List.set_cons_succ]
          refine wpAnyH_take (i := 21) (oi := ?oi122) (v := undef) ?h122 (by kernel_rfl) (by kernel_rfl) (by kernel_rfl) ?q122 (Or.inr ⟨?w122, rfl⟩) hHeld ?r122
          case h122 => first | (simp only [List.getElem?_toArray, List.getElem?_cons_zero, List.getElem?_cons_succ]; done) | (simp only [List.getElem?_toArray, List.getElem?_cons_zero, List.getElem?_cons_succ]; exact rfl)
          case q122 => exact fun _ _ _ h => h
          case w122 => rfl
          try simp only [Act.put, List.setIfInBounds_toArray, List.set_cons_zero, List.set_cons_succ]
          refine wpAnyH_take (i := 22) (oi := ?oi123) (v := ?vi123) ?h123 (by kernel_rfl) (by kernel_rfl) (by kernel_rfl) ?q123 (Or.inl ⟨?w123, ?y123⟩) hHeld ?r123
          case h123 => first | (simp only [List.getElem?_toArray, List.getElem?_cons_zero, List.getElem?_cons_succ]; done) | (simp only [List.getElem?_toArray, List.getElem?_cons_zero, List.getElem?_cons_succ]; exact rfl)
          case q123 => exact fun _ _ _ h => h
          case w123 => rfl
          case y123 =>
            intro w hSw
            (try dsimp only at hSw)
            skip
            go_simp
            try with_reducible rfl
          try simp only [Act.put, List.setIfInBounds_toArray, List.set_cons_zero, List.set_cons_succ]
          refine wpAnyH_take (i := 23) (oi := ?oi124) (v := ?vi124) ?h124 (by kernel_rfl) (by kernel_rfl) (by kernel_rfl) ?q124 (Or.inl ⟨?w124, ?y124⟩) hHeld ?r124
          case h124 => first | (simp only [List.getElem?_toArray, List.getElem?_cons_zero, List.getElem?_cons_succ]; done) | (simp only [List.getElem?_toArray, List.getElem?_cons_zero, List.getElem?_cons_succ]; exact rfl)
          case q124 => exact fun _ _ _ h => h
          case w124 => rfl
          case y124 =>
            intro w hSw
            (try dsimp only at hSw)
            skip
            go_simp
            try with_reducible rfl
          try simp only [Act.put, List.setIfInBounds_toArray, List.set_cons_zero, List.set_cons_succ]
          refine wpAnyH_done (by kernel_rfl) ?_ _
          go_wp2
          go_roundw
          case rel => exact ⟨0 + 1, by have := HL.out; omega, by go_num, F8.out⟩
          case measure => have := HL.out; simp [RowKit.intOf]; omega
        · have ha8 := G8.out.cell (HCA.out.1 h0) (fun h => h)
          have hge := not_ge (HCA.out.2.2 h0)
          have hge2 : Op.bytesLess a b = true := HCA.out.2.2 h0
          have hk5 : k ≤ 512 := by have := HL.out; omega
          have wk : IntKind.i64.wrap ((k : Int) - 1) = ((k - 1 : Nat) : Int) := by rw [IntKind.wrap_i64]; omega
          have qz : ((0 : Int) < (k : Int)) = True := eq_true (by omega)
          have qz2 : (0 < k) = True := eq_true h0
          have qn : (((k - 1 : Nat) : Int) < (kn : Int)) = True := eq_true (by have := HL.out; omega)
          have qn2 : (k - 1 < kn) = True := eq_true (by have := HL.out; omega)
          have HS := Lib.hid (And.intro r4 (And.intro ha8 hb8))
          clear h0 ha8 hb8 r0 r1 r2 r3 r4
          go_wp2_with fail
          refine wp_region_held_drew (S := (fun w' => w'.cell? ⟨w5.heap.size, 4, none⟩ = some (.slice (some ⟨gN, 0, none⟩) kn c2) ∧ w'.cell? ⟨gN, k - 1, none⟩ = some (.string (B a)) ∧ w'.cell? ⟨gN, k, none⟩ = some (.string (B b)))) (by kernel_rfl) ?_ (fun hHeld => ?_)
          · exact HS.out
          refine wpAnyH_take (i := 0) (oi := ?oi125) (v := ?vi125) ?h125 (by kernel_rfl) (by kernel_rfl) (by kernel_rfl) ?q125 (Or.inl ⟨?w125, ?y125⟩) hHeld ?r125
          case h125 => first | (simp only [List.getElem?_toArray, List.getElem?_cons_zero]; done) | (simp only [List.getElem?_toArray, List.getElem?_cons_zero]; exact rfl)
          case q125 => exact fun _ _ _ h => h
          case w125 => rfl
          case y125 =>
            intro w hSw
            (try dsimp only at hSw)
            obtain ⟨s0, s1, s2⟩ := hSw
            go_simp
            try with_reducible rfl
          try simp only [Act.put, List.setIfInBounds_toArray, List.set_cons_zero, List.set_cons_succ]
          refine wpAnyH_take (i := 1) (oi := ?oi126) (v := ?vi126) ?h126 (by kernel_rfl) (by kernel_rfl) (by kernel_rfl) ?q126 (Or.inl ⟨?w126, ?y126⟩) hHeld ?r126
          case h126 => first | (simp only [List.getElem?_toArray, List.getElem?_cons_zero, List.getElem?_cons_succ]; done) | (simp only [List.getElem?_toArray, List.getElem?_cons_zero, List.getElem?_cons_succ]; exact rfl)
          case q126 => exact fun _ _ _ h => h
          case w126 => rfl
          case y126 =>
            intro w hSw
            (try dsimp only at hSw)
            obtain ⟨s0, s1, s2⟩ := hSw
            go_simp
            try with_reducible rfl
          try simp only [Act.put, List.setIfInBounds_toArray, List.set_cons_zero, List.set_cons_succ]
          refine wpAnyH_take (i := 2) (oi := ?oi127) (v := ?vi127) ?h127 (by kernel_rfl) (by kernel_rfl) (by kernel_rfl) ?q127 (Or.inl ⟨?w127, ?y127⟩) hHeld ?r127
          case h127 => first | (simp only [List.getElem?_toArray, List.getElem?_cons_zero, List.getElem?_cons_succ]; done) | (simp only [List.getElem?_toArray, List.getElem?_cons_zero, List.getElem?_cons_succ]; exact rfl)
          case q127 => exact fun _ _ _ h => h
          case w127 => rfl
          case y127 =>
            intro w hSw
            (try dsimp only at hSw)
            obtain ⟨s0, s1, s2⟩ := hSw
            go_simp
            try with_reducible rfl
          try simp only [Act.put, List.setIfInBounds_toArray, List.set_cons_zero, List.set_cons_succ]
          refine wpAnyH_take (i := 3) (oi := ?oi128) (v := ?vi128) ?h128 (by kernel_rfl) (by kernel_rfl) (by kernel_rfl) ?q128 (Or.inl ⟨?w128, ?y128⟩) hHeld ?r128
          case h128 => first | (simp only [List.getElem?_toArray, List.getElem?_cons_zero, List.getElem?_cons_succ]; done) | (simp only [List.getElem?_toArray, List.getElem?_cons_zero, List.getElem?_cons_succ]; exact rfl)
          case q128 => exact fun _ _ _ h => h
          case w128 => rfl
          case y128 =>
            intro w hSw
            (try dsimp only at hSw)
            obtain ⟨s0, s1, s2⟩ := hSw
            go_simp
            try with_reducible rfl
          try simp only [Act.put, List.setIfInBounds_toArray, List.set_cons_zero, List.set_cons_succ]
          refine wpAnyH_take (i := 4) (oi := ?oi129) (v := ?vi129) ?h129 (by kernel_rfl) (by kernel_rfl) (by kernel_rfl) ?q129 (Or.inl ⟨?w129, ?y129⟩) hHeld ?r129
          case h129 => first | (simp only [List.getElem?_toArray, List.getElem?_cons_zero, List.getElem?_cons_succ]; done) | (simp only [List.getElem?_toArray, List.getElem?_cons_zero, List.getElem?_cons_succ]; exact rfl)
          case q129 => exact fun _ _ _ h => h
          case w129 => rfl
          case y129 =>
            intro w hSw
            (try dsimp only at hSw)
            obtain ⟨s0, s1, s2⟩ := hSw
            go_simp
            try with_reducible rfl
          try simp only [Act.put, List.setIfInBounds_toArray, List.set_cons_zero, List.set_cons_succ]
          refine wpAnyH_take (i := 5) (oi := ?oi130) (v := ?vi130) ?h130 (by kernel_rfl) (by kernel_rfl) (by kernel_rfl) ?q130 (Or.inl ⟨?w130, ?y130⟩) hHeld ?r130
          case h130 => first | (simp only [List.getElem?_toArray, List.getElem?_cons_zero, List.getElem?_cons_succ]; done) | (simp only [List.getElem?_toArray, List.getElem?_cons_zero, List.getElem?_cons_succ]; exact rfl)
          case q130 => exact fun _ _ _ h => h
          case w130 => rfl
          case y130 =>
            intro w hSw
            (try dsimp only at hSw)
            obtain ⟨s0, s1, s2⟩ := hSw
            go_simp
            try with_reducible rfl
          try simp only [Act.put, List.setIfInBounds_toArray, List.set_cons_zero, List.set_cons_succ]
          refine wpAnyH_take (i := 6) (oi := ?oi131) (v := ?vi131) ?h131 (by kernel_rfl) (by kernel_rfl) (by kernel_rfl) ?q131 (Or.inl ⟨?w131, ?y131⟩) hHeld ?r131
          case h131 => first | (simp only [List.getElem?_toArray, List.getElem?_cons_zero, List.getElem?_cons_succ]; done) | (simp only [List.getElem?_toArray, List.getElem?_cons_zero, List.getElem?_cons_succ]; exact rfl)
          case q131 => exact fun _ _ _ h => h
          case w131 => rfl
          case y131 =>
            intro w hSw
            (try dsimp only at hSw)
            obtain ⟨s0, s1, s2⟩ := hSw
            go_simp
            try with_reducible rfl
          try simp only [Act.put, List.setIfInBounds_toArray, List.set_cons_zero, List.set_cons_succ]
          refine wpAnyH_take (i := 7) (oi := ?oi132) (v := ?vi132) ?h132 (by kernel_rfl) (by kernel_rfl) (by kernel_rfl) ?q132 (Or.inl ⟨?w132, ?y132⟩) hHeld ?r132
          case h132 => first | (simp only [List.getElem?_toArray, List.getElem?_cons_zero, List.getElem?_cons_succ]; done) | (simp only [List.getElem?_toArray, List.getElem?_cons_zero, List.getElem?_cons_succ]; exact rfl)
          case q132 => exact fun _ _ _ h => h
          case w132 => rfl
          case y132 =>
            intro w hSw
            (try dsimp only at hSw)
            obtain ⟨s0, s1, s2⟩ := hSw
            go_simp
            try with_reducible rfl
          try simp only [Act.put, List.setIfInBounds_toArray, List.set_cons_zero, List.set_cons_succ]
          refine wpAnyH_take (i := 8) (oi := ?oi133) (v := ?vi133) ?h133 (by kernel_rfl) (by kernel_rfl) (by kernel_rfl) ?q133 (Or.inl ⟨?w133, ?y133⟩) hHeld ?r133
          case h133 => first | (simp only [List.getElem?_toArray, List.getElem?_cons_zero, List.getElem?_cons_succ]; done) | (simp only [List.getElem?_toArray, List.getElem?_cons_zero, List.getElem?_cons_succ]; exact rfl)
          case q133 => exact fun _ _ _ h => h
          case w133 => rfl
          case y133 =>
            intro w hSw
            (try dsimp only at hSw)
            obtain ⟨s0, s1, s2⟩ := hSw
            go_simp
            try with_reducible rfl
          try simp only [Act.put, List.setIfInBounds_toArray, List.set_cons_zero, List.set_cons_succ]
          refine wpAnyH_take (i := 9) (oi := ?oi134) (v := ?vi134) ?h134 (by kernel_rfl) (by kernel_rfl) (by kernel_rfl) ?q134 (Or.inl ⟨?w134, ?y134⟩) hHeld ?r134
          case h134 => first | (simp only [List.getElem?_toArray, List.getElem?_cons_zero, List.getElem?_cons_succ]; done) | (simp only [List.getElem?_toArray, List.getElem?_cons_zero, List.getElem?_cons_succ]; exact rfl)
          case q134 => exact fun _ _ _ h => h
          case w134 => rfl
          case y134 =>
            intro w hSw
            (try dsimp only at hSw)
            obtain ⟨s0, s1, s2⟩ := hSw
            go_simp
            try with_reducible rfl
          try simp only [Act.put, List.setIfInBounds_toArray, List.set_cons_zero, List.set_cons_succ]
          refine wpAnyH_take (i := 10) (oi := ?oi135) (v := ?vi135) ?h135 (by kernel_rfl) (by kernel_rfl) (by kernel_rfl) ?q135 (Or.inl ⟨?w135, ?y135⟩) hHeld ?r135
          case h135 => first | (simp only [List.getElem?_toArray, List.getElem?_cons_zero, List.getElem?_cons_succ]; done) | (simp only [List.getElem?_toArray, List.getElem?_cons_zero, List.getElem?_cons_succ]; exact rfl)
          case q135 => exact fun _ _ _ h => h
          case w135 => rfl
          case y135 =>
            intro w hSw
            (try dsimp only at hSw)
            obtain ⟨s0, s1, s2⟩ := hSw
            go_simp
            try with_reducible rfl
          try simp only [Act.put, List.setIfInBounds_toArray, List.set_cons_zero, List.set_cons_succ]
          refine wpAnyH_take (i := 11) (oi := ?oi136) (v := ?vi136) ?h136 (by kernel_rfl) (by kernel_rfl) (by kernel_rfl) ?q136 (Or.inl ⟨?w136, ?y136⟩) hHeld ?r136
          case h136 => first | (simp only [List.getElem?_toArray, List.getElem?_cons_zero, List.getElem?_cons_succ]; done) | (simp only [List.getElem?_toArray, List.getElem?_cons_zero, List.getElem?_cons_succ]; exact rfl)
          case q136 => exact fun _ _ _ h => h
          case w136 => rfl
          case y136 =>
            intro w hSw
            (try dsimp only at hSw)
            obtain ⟨s0, s1, s2⟩ := hSw
            go_simp
            try with_reducible rfl
          try simp only [Act.put, List.setIfInBounds_toArray, List.set_cons_zero, List.set_cons_succ]
          refine wpAnyH_take (i := 12) (oi := ?oi137) (v := ?vi137) ?h137 (by kernel_rfl) (by kernel_rfl) (by kernel_rfl) ?q137 (Or.inl ⟨?w137, ?y137⟩) hHeld ?r137
          case h137 => first | (simp only [List.getElem?_toArray, List.getElem?_cons_zero, List.getElem?_cons_succ]; done) | (simp only [List.getElem?_toArray, List.getElem?_cons_zero, List.getElem?_cons_succ]; exact rfl)
          case q137 => exact fun _ _ _ h => h
          case w137 => rfl
          case y137 =>
            intro w hSw
            (try dsimp only at hSw)
            obtain ⟨s0, s1, s2⟩ := hSw
            go_simp
            try with_reducible rfl
          try simp only [Act.put, List.setIfInBounds_toArray, List.set_cons_zero, List.set_cons_succ]
          refine wpAnyH_take (i := 13) (oi := ?oi138) (v := ?vi138) ?h138 (by kernel_rfl) (by kernel_rfl) (by kernel_rfl) ?q138 (Or.inl ⟨?w138, ?y138⟩) hHeld ?r138
          case h138 => first | (simp only [List.getElem?_toArray, List.getElem?_cons_zero, List.getElem?_cons_succ]; done) | (simp only [List.getElem?_toArray, List.getElem?_cons_zero, List.getElem?_cons_succ]; exact rfl)
          case q138 => exact fun _ _ _ h => h
          case w138 => rfl
          case y138 =>
            intro w hSw
            (try dsimp only at hSw)
            obtain ⟨s0, s1, s2⟩ := hSw
            go_simp
            try with_reducible rfl
          try simp only [Act.put, List.setIfInBounds_toArray, List.set_cons_zero, List.set_cons_succ]
          refine wpAnyH_take (i := 14) (oi := ?oi139) (v := ?vi139) ?h139 (by kernel_rfl) (by kernel_rfl) (by kernel_rfl) ?q139 (Or.inl ⟨?w139, ?y139⟩) hHeld ?r139
          case h139 => first | (simp only [List.getElem?_toArray, List.getElem?_cons_zero, List.getElem?_cons_succ]; done) | (simp only [List.getElem?_toArray, List.getElem?_cons_zero, List.getElem?_cons_succ]; exact rfl)
          case q139 => exact fun _ _ _ h => h
          case w139 => rfl
          case y139 =>
            intro w hSw
            (try dsimp only at hSw)
            obtain ⟨s0, s1, s2⟩ := hSw
            go_simp
            try with_reducible rfl
          try simp only [Act.put, List.setIfInBounds_toArray, List.set_cons_zero, List.set_cons_succ]
          refine wpAnyH_take (i := 15) (oi := ?oi140) (v := ?vi140) ?h140 (by kernel_rfl) (by kernel_rfl) (by kernel_rfl) ?q140 (Or.inl ⟨?w140, ?y140⟩) hHeld ?r140
          case h140 => first | (simp only [List.getElem?_toArray, List.getElem?_cons_zero, List.getElem?_cons_succ]; done) | (simp only [List.getElem?_toArray, List.getElem?_cons_zero, List.getElem?_cons_succ]; exact rfl)
          case q140 => exact fun _ _ _ h => h
          case w140 => rfl
          case y140 =>
            intro w hSw
            (try dsimp only at hSw)
            obtain ⟨s0, s1, s2⟩ := hSw
            go_simp
            try with_reducible rfl
          try simp only [Act.put, List.setIfInBounds_toArray, List.set_cons_zero, List.set_cons_succ]
          refine wpAnyH_take (i := 16) (oi := ?oi141) (v := ?vi141) ?h141 (by kernel_rfl) (by kernel_rfl) (by kernel_rfl) ?q141 (Or.inl ⟨?w141, ?y141⟩) hHeld ?r141
          case h141 => first | (simp only [List.getElem?_toArray, List.getElem?_cons_zero, List.getElem?_cons_succ]; done) | (simp only [List.getElem?_toArray, List.getElem?_cons_zero, List.getElem?_cons_succ]; exact rfl)
          case q141 => exact fun _ _ _ h => h
          case w141 => rfl
          case y141 =>
            intro w hSw
            (try dsimp only at hSw)
            obtain ⟨s0, s1, s2⟩ := hSw
            go_simp
            try with_reducible rfl
          try simp only [Act.put, List.setIfInBounds_toArray, List.set_cons_zero, List.set_cons_succ]
          refine wpAnyH_take (i := 17) (oi := ?oi142) (v := ?vi142) ?h142 (by kernel_rfl) (by kernel_rfl) (by kernel_rfl) ?q142 (Or.inl ⟨?w142, ?y142⟩) hHeld ?r142
          case h142 => first | (simp only [List.getElem?_toArray, List.getElem?_cons_zero, List.getElem?_cons_succ]; done) | (simp only [List.getElem?_toArray, List.getElem?_cons_zero, List.getElem?_cons_succ]; exact rfl)
          case q142 => exact fun _ _ _ h => h
          case w142 => rfl
          case y142 =>
            intro w hSw
            (try dsimp only at hSw)
            obtain ⟨s0, s1, s2⟩ := hSw
            go_simp
            try with_reducible rfl
          try simp only [Act.put, List.setIfInBounds_toArray, List.set_cons_zero, List.set_cons_succ]
          refine wpAnyH_take (i := 18) (oi := ?oi143) (v := ?vi143) ?h143 (by kernel_rfl) (by kernel_rfl) (by kernel_rfl) ?q143 (Or.inl ⟨?w143, ?y143⟩) hHeld ?r143
          case h143 => first | (simp only [List.getElem?_toArray, List.getElem?_cons_zero, List.getElem?_cons_succ]; done) | (simp only [List.getElem?_toArray, List.getElem?_cons_zero, List.getElem?_cons_succ]; exact rfl)
          case q143 => exact fun _ _ _ h => h
          case w143 => rfl
          case y143 =>
            intro w hSw
            (try dsimp only at hSw)
            obtain ⟨s0, s1, s2⟩ := hSw
            go_simp
            try with_reducible rfl
          try simp only [Act.put, List.setIfInBounds_toArray, List.set_cons_zero, List.set_cons_succ]
          refine wpAnyH_take (i := 19) (oi := ?oi144) (v := ?vi144) ?h144 (by kernel_rfl) (by kernel_rfl) (by kernel_rfl) ?q144 (Or.inl ⟨?w144, ?y144⟩) hHeld ?r144
          case h144 => first | (simp only [List.getElem?_toArray, List.getElem?_cons_zero, List.getElem?_cons_succ]; done) | (simp only [List.getElem?_toArray, List.getElem?_cons_zero, List.getElem?_cons_succ]; exact rfl)
          case q144 => exact fun _ _ _ h => h
          case w144 => rfl
          case y144 =>
            intro w hSw
            (try dsimp only at hSw)
            obtain ⟨s0, s1, s2⟩ := hSw
            go_simp
            try with_reducible rfl
          try simp only [Act.put, List.setIfInBounds_toArray, List.set_cons_zero, List.set_cons_succ]
          refine wpAnyH_take (i := 20) (oi := ?oi145) (v := ?vi145) ?h145 (by kernel_rfl) (by kernel_rfl) (by kernel_rfl) ?q145 (Or.inl ⟨?w145, ?y145⟩) hHeld ?r145
          case h145 => first | (simp only [List.getElem?_toArray, List.getElem?_cons_zero, List.getElem?_cons_succ]; done) | (simp only [List.getElem?_toArray, List.getElem?_cons_zero, List.getElem?_cons_succ]; exact rfl)
          case q145 => exact fun _ _ _ h => h
          case w145 => rfl
          case y145 =>
            intro w hSw
            (try dsimp only at hSw)
            obtain ⟨s0, s1, s2⟩ := hSw
            go_simp
            try with_reducible rfl
          try simp only [Act.put, List.setIfInBounds_toArray, List.set_cons_zero, List.set_cons_succ]
          refine wpAnyH_take (i := 21) (oi := ?oi146) (v := ?vi146) ?h146 (by kernel_rfl) (by kernel_rfl) (by kernel_rfl) ?q146 (Or.inl ⟨?w146, ?y146⟩) hHeld ?r146
          case h146 => first | (simp only [List.getElem?_toArray, List.getElem?_cons_zero, List.getElem?_cons_succ]; done) | (simp only [List.getElem?_toArray, List.getElem?_cons_zero, List.getElem?_cons_succ]; exact rfl)
          case q146 => exact fun _ _ _ h => h
          case w146 => rfl
          case y146 =>
            intro w hSw
            (try dsimp only at hSw)
            obtain ⟨s0, s1, s2⟩ := hSw
            go_simp
            try with_reducible rfl
          try simp only [Act.put, List.setIfInBounds_toArray, List.set_cons_zero, List.set_cons_succ]
          refine wpAnyH_take (i := 22) (oi := ?oi147) (v := ?vi147) ?h147 (by kernel_rfl) (by kernel_rfl) (by kernel_rfl) ?q147 (Or.inl ⟨?w147, ?y147⟩) hHeld ?r147
          case h147 => first | (simp only [List.getElem?_toArray, List.getElem?_cons_zero, List.getElem?_cons_succ]; done) | (simp only [List.getElem?_toArray, List.getElem?_cons_zero, List.getElem?_cons_succ]; exact rfl)
          case q147 => exact fun _ _ _ h => h
          case w147 => rfl
          case y147 =>
            intro w hSw
            (try dsimp only at hSw)
            obtain ⟨s0, s1, s2⟩ := hSw
            go_simp
            try with_reducible rfl
          try simp only [Act.put, List.setIfInBounds_toArray, List.set_cons_zero, List.set_cons_succ]
          refine wpAnyH_take (i := 23) (oi := ?oi148) (v := ?vi148) ?h148 (by kernel_rfl) (by kernel_rfl) (by kernel_rfl) ?q148 (Or.inl ⟨?w148, ?y148⟩) hHeld ?r148
          case h148 => first | (simp only [List.getElem?_toArray, List.getElem?_cons_zero, List.getElem?_cons_succ]; done) | (simp only [List.getElem?_toArray, List.getElem?_cons_zero, List.getElem?_cons_succ]; exact rfl)
          case q148 => exact fun _ _ _ h => h
          case w148 => rfl
          case y148 =>
            intro w hSw
            (try dsimp only at hSw)
            obtain ⟨s0, s1, s2⟩ := hSw
            go_simp
            try with_reducible rfl
          try simp only [Act.put, List.setIfInBounds_toArray, List.set_cons_zero, List.set_cons_succ]
          refine wpAnyH_done (by kernel_rfl) ?_ _
          go_wp2
          refine ⟨⟨k + 1, by have := HL.out; omega, by go_num, F8.out⟩, ?_⟩
          have := HL.out
          simp [RowKit.intOf]; omega
      · have hke : k = kn := by omega
        subst hke
        have p3 : ((k : Int) < (k : Int)) = False := eq_false (by omega)
        have hfd := (hR.out.drew)
        have HCC := Lib.hid (HCH.out wr.drew (by have := (K7.out.later hfd).now.2.2.1; rw [← HX.out] at this; exact this))
        have hr4 := (box5 (K7.out.later hfd).now.1).2.2.2.2
        have HWF := Lib.hid (And.intro (K7.out.later hfd).now.2.1 hr4)
        clear hlt hk hfd hr4 r0 r1 r2 r3
        go_wp2_with fail
        refine wp_region_held_drew (S := (fun w' => w'.cell? ⟨w5.heap.size, 4, none⟩ = some (.slice na k c2))) (by kernel_rfl) ?_ (fun hHeld => ?_)
        · exact HWF.out.2
        refine wpAnyH_take (i := 0) (oi := ?oi149) (v := ?vi149) ?h149 (by kernel_rfl) (by kernel_rfl) (by kernel_rfl) ?q149 (Or.inl ⟨?w149, ?y149⟩) hHeld ?r149
        case h149 => first | (simp only [List.getElem?_toArray, List.getElem?_cons_zero]; done) | (simp only [List.getElem?_toArray, List.getElem?_cons_zero]; exact rfl)
        case q149 => exact fun _ _ _ h => h
        case w149 => rfl
        case y149 =>
          intro w hSw
          (try dsimp only at hSw)
          have s0 := hSw
          go_simp
          try with_reducible rfl
        try simp only [Act.put, List.setIfInBounds_toArray, List.set_cons_zero, List.set_cons_succ]
        refine wpAnyH_take (i := 1) (oi := ?oi150) (v := ?vi150) ?h150 (by kernel_rfl) (by kernel_rfl) (by kernel_rfl) ?q150 (Or.inl ⟨?w150, ?y150⟩) hHeld ?r150
        case h150 => first | (simp only [List.getElem?_toArray, List.getElem?_cons_zero, List.getElem?_cons_succ]; done) | (simp only [List.getElem?_toArray, List.getElem?_cons_zero, List.getElem?_cons_succ]; exact rfl)
        case q150 => exact fun _ _ _ h => h
        case w150 => rfl
        case y150 =>
          intro w hSw
          (try dsimp only at hSw)
          have s0 := hSw
          go_simp
          try with_reducible rfl
        try simp only [Act.put, List.setIfInBounds_toArray, List.set_cons_zero, List.set_cons_succ]
        refine wpAnyH_take (i := 2) (oi := ?oi151) (v := ?vi151) ?h151 (by kernel_rfl) (by kernel_rfl) (by kernel_rfl) ?q151 (Or.inl ⟨?w151, ?y151⟩) hHeld ?r151
        case h151 => first | (simp only [List.getElem?_toArray, List.getElem?_cons_zero, List.getElem?_cons_succ]; done) | (simp only [List.getElem?_toArray, List.getElem?_cons_zero, List.getElem?_cons_succ]; exact rfl)
        case q151 => exact fun _ _ _ h => h
        case w151 => rfl
        case y151 =>
          intro w hSw
          (try dsimp only at hSw)
          have s0 := hSw
          go_simp
          try with_reducible rfl
        try simp only [Act.put, List.setIfInBounds_toArray, List.set_cons_zero, List.set_cons_succ]
        refine wpAnyH_take (i := 3) (oi := ?oi152) (v := ?vi152) ?h152 (by kernel_rfl) (by kernel_rfl) (by kernel_rfl) ?q152 (Or.inl ⟨?w152, ?y152⟩) hHeld ?r152
        case h152 => first | (simp only [List.getElem?_toArray, List.getElem?_cons_zero, List.getElem?_cons_succ]; done) | (simp only [List.getElem?_toArray, List.getElem?_cons_zero, List.getElem?_cons_succ]; exact rfl)
        case q152 => exact fun _ _ _ h => h
        case w152 => rfl
        case y152 =>
          intro w hSw
          (try dsimp only at hSw)
          have s0 := hSw
          go_simp
          try with_reducible rfl
        try simp only [Act.put, List.setIfInBounds_toArray, List.set_cons_zero, List.set_cons_succ]
        refine wpAnyH_take (i := 4) (oi := ?oi153) (v := ?vi153) ?h153 (by kernel_rfl) (by kernel_rfl) (by kernel_rfl) ?q153 (Or.inl ⟨?w153, ?y153⟩) hHeld ?r153
        case h153 => first | (simp only [List.getElem?_toArray, List.getElem?_cons_zero, List.getElem?_cons_succ]; done) | (simp only [List.getElem?_toArray, List.getElem?_cons_zero, List.getElem?_cons_succ]; exact rfl)
        case q153 => exact fun _ _ _ h => h
        case w153 => rfl
        case y153 =>
          intro w hSw
          (try dsimp only at hSw)
          have s0 := hSw
          go_simp
          try with_reducible rfl
        try simp only [Act.put, List.setIfInBounds_toArray, List.set_cons_zero, List.set_cons_succ]
        refine wpAnyH_take (i := 5) (oi := ?oi154) (v := ?vi154) ?h154 (by kernel_rfl) (by kernel_rfl) (by kernel_rfl) ?q154 (Or.inl ⟨?w154, ?y154⟩) hHeld ?r154
        case h154 => first | (simp only [List.getElem?_toArray, List.getElem?_cons_zero, List.getElem?_cons_succ]; done) | (simp only [List.getElem?_toArray, List.getElem?_cons_zero, List.getElem?_cons_succ]; exact rfl)
        case q154 => exact fun _ _ _ h => h
        case w154 => rfl
        case y154 =>
          intro w hSw
          (try dsimp only at hSw)
          have s0 := hSw
          go_simp
          try with_reducible rfl
        try simp only [Act.put, List.setIfInBounds_toArray, List.set_cons_zero, List.set_cons_succ]
        refine wpAnyH_take (i := 6) (oi := ?oi155) (v := ?vi155) ?h155 (by kernel_rfl) (by kernel_rfl) (by kernel_rfl) ?q155 (Or.inl ⟨?w155, ?y155⟩) hHeld ?r155
        case h155 => first | (simp only [List.getElem?_toArray, List.getElem?_cons_zero, List.getElem?_cons_succ]; done) | (simp only [List.getElem?_toArray, List.getElem?_cons_zero, List.getElem?_cons_succ]; exact rfl)
        case q155 => exact fun _ _ _ h => h
        case w155 => rfl
        case y155 =>
          intro w hSw
          (try dsimp only at hSw)
          have s0 := hSw
          go_simp
          try with_reducible rfl
        try simp only [Act.put, List.setIfInBounds_toArray, List.set_cons_zero, List.set_cons_succ]
        refine wpAnyH_take (i := 7) (oi := ?oi156) (v := ?vi156) ?h156 (by kernel_rfl) (by kernel_rfl) (by kernel_rfl) ?q156 (Or.inl ⟨?w156, ?y156⟩) hHeld ?r156
        case h156 => first | (simp only [List.getElem?_toArray, List.getElem?_cons_zero, List.getElem?_cons_succ]; done) | (simp only [List.getElem?_toArray, List.getElem?_cons_zero, List.getElem?_cons_succ]; exact rfl)
        case q156 => exact fun _ _ _ h => h
        case w156 => rfl
        case y156 =>
          intro w hSw
          (try dsimp only at hSw)
          have s0 := hSw
          go_simp
          try with_reducible rfl
        try simp only [Act.put, List.setIfInBounds_toArray, List.set_cons_zero, List.set_cons_succ]
        refine wpAnyH_take (i := 8) (oi := ?oi157) (v := ?vi157) ?h157 (by kernel_rfl) (by kernel_rfl) (by kernel_rfl) ?q157 (Or.inl ⟨?w157, ?y157⟩) hHeld ?r157
        case h157 => first | (simp only [List.getElem?_toArray, List.getElem?_cons_zero, List.getElem?_cons_succ]; done) | (simp only [List.getElem?_toArray, List.getElem?_cons_zero, List.getElem?_cons_succ]; exact rfl)
        case q157 => exact fun _ _ _ h => h
        case w157 => rfl
        case y157 =>
          intro w hSw
          (try dsimp only at hSw)
          have s0 := hSw
          go_simp
          try with_reducible rfl
        try simp only [Act.put, List.setIfInBounds_toArray, List.set_cons_zero, List.set_cons_succ]
        refine wpAnyH_take (i := 9) (oi := ?oi158) (v := ?vi158) ?h158 (by kernel_rfl) (by kernel_rfl) (by kernel_rfl) ?q158 (Or.inl ⟨?w158, ?y158⟩) hHeld ?r158
        case h158 => first | (simp only [List.getElem?_toArray, List.getElem?_cons_zero, List.getElem?_cons_succ]; done) | (simp only [List.getElem?_toArray, List.getElem?_cons_zero, List.getElem?_cons_succ]; exact rfl)
        case q158 => exact fun _ _ _ h => h
        case w158 => rfl
        case y158 =>
          intro w hSw
          (try dsimp only at hSw)
          have s0 := hSw
          go_simp
          try with_reducible rfl
        try simp only [Act.put, List.setIfInBounds_toArray, List.set_cons_zero, List.set_cons_succ]
        refine wpAnyH_ready (rs := [10]) (by kernel_rfl) (by simp) ?_
        refine AllReadyH.cons (o := ?ob159) ?hb159 (fun K hK => ?_) AllReadyH.nil
        case hb159 => first | (simp only [List.getElem?_toArray, List.getElem?_cons_zero, List.getElem?_cons_succ]; done) | (simp only [List.getElem?_toArray, List.getElem?_cons_zero, List.getElem?_cons_succ]; exact rfl)
        go_simp
        go_at_call 20
        refine HCC.out.mono ?_
        rintro e w8 ⟨v8, rfl, ho8, hf8⟩
        obtain ⟨ao8, c8, rfl⟩ := ho8.shape
        rw [← HKK.out]
        have F8 := Lib.hid (And.intro (HWF.out.1.then hf8) (hf8.cell HWF.out.2 (fun h => h)))
        clear ho8 hf8
        go_wp2_with fail
        refine hK.out _ _ F8.out.2 (fun hHeld => ?_)
        clear hK K
        try simp only [Act.put, List.setIfInBounds_toArray, List.set_cons_zero, List.set_cons_succ]
        refine wpAnyH_take (i := 11) (oi := ?oi160) (v := ?vi160) ?h160 (by kernel_rfl) (by kernel_rfl) (by kernel_rfl) ?q160 (Or.inl ⟨?w160, ?y160⟩) hHeld ?r160
        case h160 => first | (simp only [List.getElem?_toArray, List.getElem?_cons_zero, List.getElem?_cons_succ]; done) | (simp only [List.getElem?_toArray, List.getElem?_cons_zero, List.getElem?_cons_succ]; exact rfl)
        case q160 => exact fun _ _ _ h => h
        case w160 => rfl
        case y160 =>
          intro w hSw
          (try dsimp only at hSw)
          have s0 := hSw
          go_simp
          try with_reducible rfl
        try simp only [Act.put, List.setIfInBounds_toArray, List.set_cons_zero, List.set_cons_succ]
        refine wpAnyH_take (i := 12) (oi := ?oi161) (v := ?vi161) ?h161 (by kernel_rfl) (by kernel_rfl) (by kernel_rfl) ?q161 (Or.inl ⟨?w161, ?y161⟩) hHeld ?r161
        case h161 => first | (simp only [List.getElem?_toArray, List.getElem?_cons_zero, List.getElem?_cons_succ]; done) | (simp only [List.getElem?_toArray, List.getElem?_cons_zero, List.getElem?_cons_succ]; exact rfl)
        case q161 => exact fun _ _ _ h => h
        case w161 => rfl
        case y161 =>
          intro w hSw
          (try dsimp only at hSw)
          have s0 := hSw
          go_simp
          try with_reducible rfl
        try simp only [Act.put, List.setIfInBounds_toArray, List.set_cons_zero, List.set_cons_succ]
        refine wpAnyH_take (i := 13) (oi := ?oi162) (v := ?vi162) ?h162 (by kernel_rfl) (by kernel_rfl) (by kernel_rfl) ?q162 (Or.inl ⟨?w162, ?y162⟩) hHeld ?r162
        case h162 => first | (simp only [List.getElem?_toArray, List.getElem?_cons_zero, List.getElem?_cons_succ]; done) | (simp only [List.getElem?_toArray, List.getElem?_cons_zero, List.getElem?_cons_succ]; exact rfl)
        case q162 => exact fun _ _ _ h => h
        case w162 => rfl
        case y162 =>
          intro w hSw
          (try dsimp only at hSw)
          have s0 := hSw
          go_simp
          try with_reducible rfl
        try simp only [Act.put, List.setIfInBounds_toArray, List.set_cons_zero, List.set_cons_succ]
        refine wpAnyH_take (i := 14) (oi := ?oi163) (v := ?vi163) ?h163 (by kernel_rfl) (by kernel_rfl) (by kernel_rfl) ?q163 (Or.inl ⟨?w163, ?y163⟩) hHeld ?r163
        case h163 => first | (simp only [List.getElem?_toArray, List.getElem?_cons_zero, List.getElem?_cons_succ]; done) | (simp only [List.getElem?_toArray, List.getElem?_cons_zero, List.getElem?_cons_succ]; exact rfl)
        case q163 => exact fun _ _ _ h => h
        case w163 => rfl
        case y163 =>
          intro w hSw
          (try dsimp only at hSw)
          have s0 := hSw
          go_simp
          try with_reducible rfl
        try simp only [Act.put, List.setIfInBounds_toArray, List.set_cons_zero, List.set_cons_succ]
        refine wpAnyH_done (by kernel_rfl) ?_ _
        go_wp2
        go_ret
        exact ⟨rfl, F8.out.1⟩
end Go.Proofs.YthaepjeikicigaaDoor
