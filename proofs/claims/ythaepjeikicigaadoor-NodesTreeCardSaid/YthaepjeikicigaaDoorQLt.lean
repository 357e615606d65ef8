/- A text of this proof. -/
import Derived.Test.YthaepjeikicigaaDoorQLs
/- NodesTree, walked. -/
namespace Go.Proofs.YthaepjeikicigaaDoor
set_option maxRecDepth 20000
set_option linter.unusedVariables false
set_option linter.unusedSimpArgs false
open Go.RowKit Pm

/-- Apply on a tree: not valid, or run. -/
inductive TrW (l : List Nd) (o : Opn) (w' : World) (e : Ending) : Prop where
  | arg (ao : Option Addr) (c : Nat) (n : Option Addr) (c2 : Nat) (he : e = .returned (.tuple #[.slice ao 0 c, .agg #[.int .i64 1, .string ⟨#[]⟩, .string ⟨#[]⟩, .int .i64 0, .slice n 0 c2]]))
  | run (ao : Option Addr) (c : Nat) (k : Int) (rp rd : Bs) (rv : Int) (n : Option Addr) (m c2 : Nat) (he : e = .returned (.tuple #[.slice ao (perform l o).1.length c, .agg #[.int .i64 k, .string (B rp), .string (B rd), .int .i64 rv, .slice n m c2]])) (hm : may o = true) (h1 : k ≠ 1) (hl : Ns w' (.slice ao (perform l o).1.length c) (perform l o).1)
theorem Apply_t (v : Value) (l : List Nd) (o : Opn) (w : World) (hv : Ns w v l) (hT : Tr l) (hp : o.path.length ≤ 1000000) (ht : Tab w) :
    Calls Tryd.prog 14 #[v, opV o] w fun e w' => TrW l o w' e ∧ Fp Non w w' := by
  refine (Apply_c v l o w hv (tr_few hT).2 hp ht).mono fun e w' h => ⟨?_, h.fp⟩
  obtain ⟨v', nv, rfl, h1, h2⟩ := h.ex
  obtain ⟨ao, c, rfl⟩ := h1.shape
  obtain ⟨n, c2, rfl⟩ := h2.shape
  cases hm : may o with
  | false =>
    have e1 := apply_no (l := l) (o := o) (fun k => by rw [hm] at k; cases k.2)
    simp only [e1]
    exact .arg ao c n c2 rfl
  | true =>
    rw [apply_yes hT hm] at h1 ⊢
    exact .run ao c _ _ _ _ n _ c2 rfl hm (perform_err hT hm).1 h1

set_option maxHeartbeats 16000000 in
theorem NodesTree_c (v : Value) (l : List Nd) (o : Opn) (w : World) (hv : Ns w v l) (hn : l.length ≤ 140737488355328) (ht : Tab w) :
    Calls Tryd.prog 3 #[v, opV o] w fun e w' => e = .returned (.bool true) ∧ Fp Non w w' := by
  obtain ⟨ao, cap, rfl⟩ := hv.shape
  obtain ⟨kk, p, d, vv, ow, t⟩ := o
  unfold opV strV
  simp only
  have hbx := heap_alloc_new w (.cells #[.int .i64 kk, .string (B p), .string (B d), .int .i64 vv, .int .i64 ow, .bool t] TO_)
  have hf0 := fp_alloc w (.cells #[.int .i64 kk, .string (B p), .string (B d), .int .i64 vv, .int .i64 ow, .bool t] TO_)
  have K0 := Lib.hid (Kp.and (Kp.row hbx) (Kp.and (Kp.fp hf0) (Kp.and (Kp.ns (hv.non hf0)) (Kp.tab (ht.non hf0)))))
  have HN := Lib.hid hn
  clear hbx hf0 hv ht hn
  obtain ⟨n, hnn⟩ : ∃ n, n = l.length := ⟨_, rfl⟩
  have HX := Lib.hid hnn
  rw [← hnn]
  clear hnn
  go_enter Tryd.func3, Tryd.ntmps3
  go_wp2_with fail
  refine (head_c _ K0.out.now.2.2.2).mono ?_
  rintro e w1 ⟨rfl, hf⟩
  have K1 := Lib.hid (K0.out.later hf)
  clear hf K0
  obtain ⟨o0, o1, o2, o3, o4, o5⟩ := box6 K1.out.now.1
  have hgr := Great_c _ l w1 K1.out.now.2.2.1 HN.out
  rw [← HX.out] at hgr
  have HGR := Lib.hid hgr
  clear hgr
  go_wp2_with fail
  refine HGR.out.mono ?_
  rintro e w2 ⟨g, rfl, hg, hf⟩
  have K2 := Lib.hid (K1.out.later hf)
  have HG := Lib.hid hg
  clear hf hg K1 HGR o0 o1 o2 o3 o4 o5
  cases g with
  | true =>
    have F2 := Lib.hid K2.out.now.2.1
    clear K2 HG
    go_wp2
    go_ret
    exact ⟨rfl, F2.out⟩
  | false =>
  obtain ⟨o0, o1, o2, o3, o4, o5⟩ := box6 K2.out.now.1
  go_wp2_with fail
  refine (GreatOp_c ⟨kk, p, d, vv, ow, t⟩ w2).mono ?_
  rintro e w3 ⟨g, rfl, hg, hf⟩
  have K3 := Lib.hid (K2.out.later hf)
  have HO := Lib.hid hg
  clear hf hg K2 o0 o1 o2 o3 o4 o5
  cases g with
  | true =>
    have F2 := Lib.hid K3.out.now.2.1
    clear K3 HG HO
    go_wp2
    go_ret
    exact ⟨rfl, F2.out⟩
  | false =>
  have hrr := rRightN_g _ l w3 K3.out.now.2.2.1 (few_sp (by have := HG.out trivial; rw [HX.out] at this; exact this))
  rw [← HX.out] at hrr
  obtain ⟨br, hbr⟩ : ∃ b, right l = b := ⟨_, rfl⟩
  rw [hbr] at hrr
  have HRR := Lib.hid hrr
  have HBR := Lib.hid hbr
  clear hrr hbr
  go_wp2_with fail
  refine HRR.out.mono ?_
  rintro e w4 ⟨rfl, hf⟩
  have K4 := Lib.hid (K3.out.later hf)
  clear hf K3 HRR
  cases br with
  | false =>
    have F2 := Lib.hid K4.out.now.2.1
    clear K4 HG HO HBR
    go_wp2
    go_ret
    exact ⟨rfl, F2.out⟩
  | true =>
  have HT := Lib.hid ((right_iff l).1 HBR.out).tr
  have HPL := Lib.hid (show p.length ≤ 3000 from (HO.out (by first | rfl | trivial)).1)
  have hT := HT.out
  have hpos : 0 < l.length := hT.tree.pos
  obtain ⟨g, oo, cap', e, _, _, _, hcell⟩ := K4.out.now.2.2.1.at hpos
  injection e with e1 e2 e3
  subst e1 e3
  clear e2
  have hown : (w4.alloc (.cells #[] TN)).ownsRow w4.heap.size TN 5 (.slice (some ⟨w4.heap.size, 0, none⟩) 0 0) ([] : List Nd).length (rows []) := World.ownsRow_lit w4 #[] 0 (Nat.le_refl _) (by unfold maxLen; omega) rfl
  have hap := fun ty => app_nodes (w4.alloc (.cells #[] TN)) w4.heap.size _ [] l ty g oo l.length cap hown rfl (fun i hi => (hcell i hi).keep (fp_alloc w4 _) (fun h => h)) (by have := hT.most; simp; omega) (by simp) (by simpa using hpos)
  simp only [List.length_nil, Nat.zero_add, List.nil_append] at hap
  have hA2 : ∃ v' w', (Builtin.append_ #[TL, TL] TL #[.slice (some ⟨w4.heap.size, 0, none⟩) 0 0, .slice (some ⟨g, oo, none⟩) n cap]).run Tryd.prog (w4.alloc (.cells #[] TN)) = .ok v' w' ∧ NewN w4 n l v' w' := by
    obtain ⟨G, cap2, w2, hr, hrow, hlo, hg, _⟩ := hap TL
    rw [← HX.out] at hr
    exact ⟨_, w2, hr, ⟨G, cap2, rfl, hrow, hlo, ((Fp.refl Non w4).alloc _).grown hg (fun k hk => .inr (by simp [Value.ownBlock] at hk; omega))⟩⟩
  have HA2 := Lib.hid hA2
  have hnl : n ≤ 512 := by rw [HX.out]; exact hT.most
  have hnp : 0 < n := by rw [HX.out]; exact hpos
  clear hA2 hap hown hcell hT hpos
  go_wp2_with (at_builtin; go_must (refine wpList_app rfl _ _ _ _ rfl _ _ rfl rfl (NewN w4 n l) HA2.out ?_))
  intro u w5 hR
  obtain ⟨G, cap2, rfl, hrow, _, hf⟩ := hR.ex
  have K5 := Lib.hid (Kp.and (Kp.ns hrow.ns) (K4.out.later hf))
  clear hR hrow hf K4 HA2
  have hap := Apply_t (.slice (some ⟨G, 0, none⟩) n cap2) l ⟨kk, p, d, vv, ow, t⟩ w5 (by have := K5.out.now.1; rw [← HX.out] at this; exact this) HT.out (Nat.le_trans HPL.out (by omega)) K5.out.now.2.2.2.2
  have HAP := Lib.hid hap
  clear hap
  obtain ⟨o0, o1, o2, o3, o4, o5⟩ := box6 K5.out.now.2.1
  go_wp2_with fail
  refine HAP.out.mono ?_
  rintro e w6 ⟨hw, hf⟩
  have K6 := Lib.hid (K5.out.later hf)
  clear hf K5 HAP o0 o1 o2 o3 o4 o5
  have hsm := fun w' h1 h2 => rSameN_c (.slice (some ⟨G, 0, none⟩) n cap2) (.slice (some ⟨g, oo, none⟩) n cap) l l w' h1 h2 (tr_few HT.out).1 (tr_few HT.out).1
  rw [decide_eq_true rfl] at hsm
  have HSM := Lib.hid hsm
  clear hsm
  rcases hw with ⟨a1, c1, na, c2, rfl⟩ | ⟨a1, c1, k, rp, rd, rv, na, m2, c2, rfl, hm, h1, hl⟩
  · have hbx := heap_alloc_new w6 (.cells #[.int .i64 1, .string ⟨#[]⟩, .string ⟨#[]⟩, .int .i64 0, .slice na 0 c2] TR)
    have K7 := Lib.hid (Kp.and (Kp.row hbx) (K6.out.later (fp_alloc w6 (.cells #[.int .i64 1, .string ⟨#[]⟩, .string ⟨#[]⟩, .int .i64 0, .slice na 0 c2] TR))))
    clear hbx K6
    have HSN := Lib.hid (HSM.out _ (by have := K7.out.now.2.1; rw [← HX.out] at this; exact this) (by have := K7.out.now.2.2.2.2.1; rw [← HX.out] at this; exact this))
    go_wp2_with fail
    refine HSN.out.mono ?_
    rintro e w7 ⟨rfl, hf⟩
    have K8 := Lib.hid (K7.out.later hf)
    clear hf K7 HSN
    obtain ⟨r0, r1, r2, r3, r4⟩ := box5 K8.out.now.1
    have F8 := Lib.hid K8.out.now.2.2.2.1
    go_wp2
    go_ret
    exact ⟨rfl, F8.out⟩
  · have HST := Lib.hid (fun x (hx : x ∈ l) h1 h2 => perform_stays (o := ⟨kk, p, d, vv, ow, t⟩) HT.out hm hx h1 h2)
    have hTa := perform_tr HT.out hm
    have hbx := heap_alloc_new w6 (.cells #[.int .i64 k, .string (B rp), .string (B rd), .int .i64 rv, .slice na m2 c2] TR)
    have K7 := Lib.hid (Kp.and (Kp.row hbx) ((Kp.and (Kp.ns hl) K6.out).later (fp_alloc w6 (.cells #[.int .i64 k, .string (B rp), .string (B rd), .int .i64 rv, .slice na m2 c2] TR))))
    obtain ⟨a, haa⟩ : ∃ a, a = (perform l ⟨kk, p, d, vv, ow, t⟩).1 := ⟨_, rfl⟩
    rw [← haa] at HST hTa K7 ⊢
    have HTA := Lib.hid hTa
    obtain ⟨am, ham⟩ : ∃ am, am = a.length := ⟨_, rfl⟩
    rw [← ham] at K7 ⊢
    have HAM := Lib.hid ham
    have q0 : (k == 1) = false := beq_eq_false_iff_ne.2 h1
    have q1 : (k = 1) = False := eq_false h1
    clear hbx K6 hl hm hTa haa ham h1
    have HSN := Lib.hid (HSM.out _ (by have := K7.out.now.2.2.1; rw [← HX.out] at this; exact this) (by have := K7.out.now.2.2.2.2.2.1; rw [← HX.out] at this; exact this))
    go_wp2_with fail
    refine HSN.out.mono ?_
    rintro e w7 ⟨rfl, hf⟩
    have K8 := Lib.hid (K7.out.later hf)
    clear hf K7 HSN
    obtain ⟨r0, r1, r2, r3, r4⟩ := box5 K8.out.now.1
    have hra := rRightN_g (.slice a1 am c1) a w7 K8.out.now.2.1 (tr_few HTA.out).2
    rw [right_true HTA.out.tree] at hra
    have HRA := Lib.hid hra
    clear hra
    go_wp2_with fail
    refine HRA.out.mono ?_
    rintro e w8 ⟨rfl, hf⟩
    have K9 := Lib.hid (K8.out.later hf)
    clear hf K8 HRA r0 r1 r2 r3 r4
    obtain ⟨o0, o1, o2, o3, o4, o5⟩ := box6 K9.out.now.2.2.2.1
    have hpa := fun w => rParent_g p w (sz_of HPL.out (by omega))
    obtain ⟨u, hu⟩ : ∃ u, (parent p).getD [] = u := ⟨_, rfl⟩
    obtain ⟨is, hi⟩ : ∃ b, (parent p).isSome = b := ⟨_, rfl⟩
    rw [hu, hi] at hpa
    have HPA := Lib.hid hpa
    have HU := Lib.hid hu
    clear hpa hu hi
    go_wp2_with fail
    refine (HPA.out _).mono ?_
    rintro e w9 ⟨rfl, hg⟩
    have KA := Lib.hid (K9.out.later hg.fp)
    clear hg K9 HPA o0 o1 o2 o3 o4 o5
    go_wp2_with fail
    have H0 := Lib.hid (Fp.refl Non w9)
    have heq := eq_nds
    go_loopw [11] (fun i wr => ∃ k : Nat, k ≤ n ∧ i = .int .i64 k ∧ Hid (Fp Non w9 wr)) (fun i _ => n - (RowKit.intOf i).toNat)
    case atStart => exact ⟨0, Nat.zero_le _, rfl, H0⟩
    case round =>
      clear H0
      obtain ⟨k, hk, rfl, hR⟩ := hrel
      rename_i wr _
      have HK := Lib.hid (KA.out.later hR.out)
      by_cases hlt : k < n
      · have hkl : k < l.length := by rw [← HX.out]; exact hlt
        obtain ⟨g', oo', cap', e, _, _, _, hcell⟩ := HK.out.now.2.2.2.2.2.1.at (by omega)
        injection e with e1 e2 e3
        injection e1 with e1
        injection e1 with e4 e5
        subst e3 e4 e5
        clear e2
        have hnd := hcell k hkl
        have hxm : l[k] ∈ l := List.getElem_mem hkl
        generalize l[k] = x at *
        have hsp := (tr_few HT.out).2 x hxm
        have hin := fun w => rIn_g x.path p w (sz_of hsp (by omega)) (sz_of HPL.out (by omega))
        obtain ⟨bi, hbi⟩ : ∃ b, inB x.path p = b := ⟨_, rfl⟩
        rw [hbi] at hin
        have hst := HST.out x hxm
        rw [show inB x.path (⟨kk, p, d, vv, ow, t⟩ : Opn).path = bi from hbi, show (parent (⟨kk, p, d, vv, ow, t⟩ : Opn).path).getD [] = u from HU.out] at hst
        have hfa := fun w' hv => rFind_c (.slice a1 am c1) a x.path w' hv (tr_few HTA.out).1
        have HFA := Lib.hid hfa
        have HIN := Lib.hid hin
        have HST2 := Lib.hid hst
        have HND := Lib.hid hnd
        have HL := Lib.hid hlt
        have q3 : ((k : Int) < (n : Int)) = True := eq_true (by omega)
        have q4 : (k < n) = True := eq_true hlt
        have hs1 : (wr.drew).cell? ⟨g, oo + k * 5, none⟩ = some (.string (B x.path)) ∧ (wr.drew).cell? ⟨w.heap.size, 1, none⟩ = some (.string (B p)) :=
          ⟨(hnd.keep ((Fp.refl Non wr).drew) (fun h => h)).c0, (box6 (HK.out.later ((Fp.refl Non wr).drew)).now.2.2.2.1).2.1⟩
        have HS := Lib.hid hs1
        clear hin hst hnd hcell hsp hbi hkl hlt hxm hs1 hfa
        cases bi with
        | true =>
          go_wp2_with fail
          refine wp_region_held_drew (S := (fun w' => w'.cell? ⟨g, oo + k * 5, none⟩ = some (.string (B x.path)) ∧ w'.cell? ⟨w.heap.size, 1, none⟩ = some (.string (B p)))) (by kernel_rfl) ?_ (fun hHeld => ?_)
          · exact HS.out
          refine wpAnyH_take (i := 0) (oi := ?oi101) (v := ?vi101) ?h101 (by kernel_rfl) (by kernel_rfl) (by kernel_rfl) ?q101 (Or.inl ⟨?w101, ?y101⟩) hHeld ?r101
          case h101 => first | (simp only [List.getElem?_toArray, List.getElem?_cons_zero]; done) | (simp only [List.getElem?_toArray, List.getElem?_cons_zero]; exact rfl)
          case q101 => exact fun _ _ _ h => h
          case w101 => rfl
          case y101 =>
            intro w hSw
            (try dsimp only at hSw)
            obtain ⟨s0, s1⟩ := hSw
            go_simp
            try with_reducible rfl
          try simp only [Act.put, List.setIfInBounds_toArray, List.set_cons_zero, List.set_cons_succ]
          refine wpAnyH_take (i := 1) (oi := ?oi102) (v := ?vi102) ?h102 (by kernel_rfl) (by kernel_rfl) (by kernel_rfl) ?q102 (Or.inl ⟨?w102, ?y102⟩) hHeld ?r102
          case h102 => first | (simp only [List.getElem?_toArray, List.getElem?_cons_zero, List.getElem?_cons_succ]; done) | (simp only [List.getElem?_toArray, List.getElem?_cons_zero, List.getElem?_cons_succ]; exact rfl)
          case q102 => exact fun _ _ _ h => h
          case w102 => rfl
          case y102 =>
            intro w hSw
            (try dsimp only at hSw)
            obtain ⟨s0, s1⟩ := hSw
            go_simp
            try with_reducible rfl
          try simp only [Act.put, List.setIfInBounds_toArray, List.set_cons_zero, List.set_cons_succ]
          refine wpAnyH_take (i := 2) (oi := ?oi103) (v := ?vi103) ?h103 (by kernel_rfl) (by kernel_rfl) (by kernel_rfl) ?q103 (Or.inl ⟨?w103, ?y103⟩) hHeld ?r103
          case h103 => first | (simp only [List.getElem?_toArray, List.getElem?_cons_zero, List.getElem?_cons_succ]; done) | (simp only [List.getElem?_toArray, List.getElem?_cons_zero, List.getElem?_cons_succ]; exact rfl)
          case q103 => exact fun _ _ _ h => h
          case w103 => rfl
          case y103 =>
            intro w hSw
            (try dsimp only at hSw)
            obtain ⟨s0, s1⟩ := hSw
            go_simp
            try with_reducible rfl
          try simp only [Act.put, List.setIfInBounds_toArray, List.set_cons_zero, List.set_cons_succ]
          refine wpAnyH_take (i := 3) (oi := ?oi104) (v := ?vi104) ?h104 (by kernel_rfl) (by kernel_rfl) (by kernel_rfl) ?q104 (Or.inl ⟨?w104, ?y104⟩) hHeld ?r104
          case h104 => first | (simp only [List.getElem?_toArray, List.getElem?_cons_zero, List.getElem?_cons_succ]; done) | (simp only [List.getElem?_toArray, List.getElem?_cons_zero, List.getElem?_cons_succ]; exact rfl)
          case q104 => exact fun _ _ _ h => h
          case w104 => rfl
          case y104 =>
            intro w hSw
            (try dsimp only at hSw)
            obtain ⟨s0, s1⟩ := hSw
            go_simp
            try with_reducible rfl
          try simp only [Act.put, List.setIfInBounds_toArray, List.set_cons_zero, List.set_cons_succ]
          refine wpAnyH_take (i := 4) (oi := ?oi105) (v := ?vi105) ?h105 (by kernel_rfl) (by kernel_rfl) (by kernel_rfl) ?q105 (Or.inl ⟨?w105, ?y105⟩) hHeld ?r105
          case h105 => first | (simp only [List.getElem?_toArray, List.getElem?_cons_zero, List.getElem?_cons_succ]; done) | (simp only [List.getElem?_toArray, List.getElem?_cons_zero, List.getElem?_cons_succ]; exact rfl)
          case q105 => exact fun _ _ _ h => h
          case w105 => rfl
          case y105 =>
            intro w hSw
            (try dsimp only at hSw)
            obtain ⟨s0, s1⟩ := hSw
            go_simp
            try with_reducible rfl
          try simp only [Act.put, List.setIfInBounds_toArray, List.set_cons_zero, List.set_cons_succ]
          refine wpAnyH_take (i := 5) (oi := ?oi106) (v := ?vi106) ?h106 (by kernel_rfl) (by kernel_rfl) (by kernel_rfl) ?q106 (Or.inl ⟨?w106, ?y106⟩) hHeld ?r106
          case h106 => first | (simp only [List.getElem?_toArray, List.getElem?_cons_zero, List.getElem?_cons_succ]; done) | (simp only [List.getElem?_toArray, List.getElem?_cons_zero, List.getElem?_cons_succ]; exact rfl)
          case q106 => exact fun _ _ _ h => h
          case w106 => rfl
          case y106 =>
            intro w hSw
            (try dsimp only at hSw)
            obtain ⟨s0, s1⟩ := hSw
            go_simp
            try with_reducible rfl
          try simp only [Act.put, List.setIfInBounds_toArray, List.set_cons_zero, List.set_cons_succ]
          refine wpAnyH_take (i := 6) (oi := ?oi107) (v := ?vi107) ?h107 (by kernel_rfl) (by kernel_rfl) (by kernel_rfl) ?q107 (Or.inl ⟨?w107, ?y107⟩) hHeld ?r107
          case h107 => first | (simp only [List.getElem?_toArray, List.getElem?_cons_zero, List.getElem?_cons_succ]; done) | (simp only [List.getElem?_toArray, List.getElem?_cons_zero, List.getElem?_cons_succ]; exact rfl)
          case q107 => exact fun _ _ _ h => h
          case w107 => rfl
          case y107 =>
            intro w hSw
            (try dsimp only at hSw)
            obtain ⟨s0, s1⟩ := hSw
            go_simp
            try with_reducible rfl
          try simp only [Act.put, List.setIfInBounds_toArray, List.set_cons_zero, List.set_cons_succ]
          refine wpAnyH_ready (rs := [7]) (by kernel_rfl) (by simp) ?_
          refine AllReadyH.cons (o := ?ob108) ?hb108 (fun K hK => ?_) AllReadyH.nil
          case hb108 => first | (simp only [List.getElem?_toArray, List.getElem?_cons_zero, List.getElem?_cons_succ]; done) | (simp only [List.getElem?_toArray, List.getElem?_cons_zero, List.getElem?_cons_succ]; exact rfl)
          go_simp
          go_at_call 17
          refine (HIN.out _).mono ?_
          rintro e w10 ⟨rfl, hg⟩
          have F10 := Lib.hid ((Fp.refl Non wr).drew.then hg.fp)
          have HS2 := Lib.hid (show w10.cell? ⟨g, oo + k * 5, none⟩ = some (.string (B x.path)) ∧ w10.cell? ⟨w.heap.size, 1, none⟩ = some (.string (B p)) from ⟨hg.fp.cell HS.out.1 (fun h => h), hg.fp.cell HS.out.2 (fun h => h)⟩)
          clear hg
          go_wp2_with fail
          refine hK.out _ _ HS2.out (fun hHeld => ?_)
          clear hK K
          try simp only [Act.put, List.setIfInBounds_toArray, List.set_cons_zero, List.set_cons_succ]
          refine wpAnyH_take (i := 8) (oi := ?oi109) (v := ?vi109) ?h109 (by kernel_rfl) (by kernel_rfl) (by kernel_rfl) ?q109 (Or.inl ⟨?w109, ?y109⟩) hHeld ?r109
          case h109 => first | (simp only [List.getElem?_toArray, List.getElem?_cons_zero, List.getElem?_cons_succ]; done) | (simp only [List.getElem?_toArray, List.getElem?_cons_zero, List.getElem?_cons_succ]; exact rfl)
          case q109 => exact fun _ _ _ h => h
          case w109 => rfl
          case y109 =>
            intro w hSw
            (try dsimp only at hSw)
            obtain ⟨s0, s1⟩ := hSw
            go_simp
            try with_reducible rfl
          try simp only [Act.put, List.setIfInBounds_toArray, List.set_cons_zero, List.set_cons_succ]
          refine wpAnyH_take (i := 9) (oi := ?oi110) (v := undef) ?h110 (by kernel_rfl) (by kernel_rfl) (by kernel_rfl) ?q110 (Or.inr ⟨?w110, rfl⟩) hHeld ?r110
          case h110 => first | (simp only [List.getElem?_toArray, List.getElem?_cons_zero, List.getElem?_cons_succ]; done) | (simp only [List.getElem?_toArray, List.getElem?_cons_zero, List.getElem?_cons_succ]; exact rfl)
          case q110 => exact fun _ _ _ h => h
          case w110 => rfl
          try simp only [Act.put, List.setIfInBounds_toArray, List.set_cons_zero, List.set_cons_succ]
          refine wpAnyH_take (i := 10) (oi := ?oi111) (v := undef) ?h111 (by kernel_rfl) (by kernel_rfl) (by kernel_rfl) ?q111 (Or.inr ⟨?w111, rfl⟩) hHeld ?r111
          case h111 => first | (simp only [List.getElem?_toArray, List.getElem?_cons_zero, List.getElem?_cons_succ]; done) | (simp only [List.getElem?_toArray, List.getElem?_cons_zero, List.getElem?_cons_succ]; exact rfl)
          case q111 => exact fun _ _ _ h => h
          case w111 => rfl
          try simp only [Act.put, List.setIfInBounds_toArray, List.set_cons_zero, List.set_cons_succ]
          refine wpAnyH_take (i := 11) (oi := ?oi112) (v := undef) ?h112 (by kernel_rfl) (by kernel_rfl) (by kernel_rfl) ?q112 (Or.inr ⟨?w112, rfl⟩) hHeld ?r112
          case h112 => first | (simp only [List.getElem?_toArray, List.getElem?_cons_zero, List.getElem?_cons_succ]; done) | (simp only [List.getElem?_toArray, List.getElem?_cons_zero, List.getElem?_cons_succ]; exact rfl)
          case q112 => exact fun _ _ _ h => h
          case w112 => rfl
          try simp only [Act.put, List.setIfInBounds_toArray, List.set_cons_zero, List.set_cons_succ]
          refine wpAnyH_take (i := 12) (oi := ?oi113) (v := undef) ?h113 (by kernel_rfl) (by kernel_rfl) (by kernel_rfl) ?q113 (Or.inr ⟨?w113, rfl⟩) hHeld ?r113
          case h113 => first | (simp only [List.getElem?_toArray, List.getElem?_cons_zero, List.getElem?_cons_succ]; done) | (simp only [List.getElem?_toArray, List.getElem?_cons_zero, List.getElem?_cons_succ]; exact rfl)
          case q113 => exact fun _ _ _ h => h
          case w113 => rfl
          try simp only [Act.put, List.setIfInBounds_toArray, List.set_cons_zero, List.set_cons_succ]
          refine wpAnyH_take (i := 13) (oi := ?oi114) (v := undef) ?h114 (by kernel_rfl) (by kernel_rfl) (by kernel_rfl) ?q114 (Or.inr ⟨?w114, rfl⟩) hHeld ?r114
          case h114 => first | (simp only [List.getElem?_toArray, List.getElem?_cons_zero, List.getElem?_cons_succ]; done) | (simp only [List.getElem?_toArray, List.getElem?_cons_zero, List.getElem?_cons_succ]; exact rfl)
          case q114 => exact fun _ _ _ h => h
          case w114 => rfl
          try simp only [Act.put, List.setIfInBounds_toArray, List.set_cons_zero, List.set_cons_succ]
          refine wpAnyH_take (i := 14) (oi := ?oi115) (v := undef) ?h115 (by kernel_rfl) (by kernel_rfl) (by kernel_rfl) ?q115 (Or.inr ⟨?w115, rfl⟩) hHeld ?r115
          case h115 => first | (simp only [List.getElem?_toArray, List.getElem?_cons_zero, List.getElem?_cons_succ]; done) | (simp only [List.getElem?_toArray, List.getElem?_cons_zero, List.getElem?_cons_succ]; exact rfl)
          case q115 => exact fun _ _ _ h => h
          case w115 => rfl
          try simp only [Act.put, List.setIfInBounds_toArray, List.set_cons_zero, List.set_cons_succ]
          refine wpAnyH_take (i := 15) (oi := ?oi116) (v := undef) ?h116 (by kernel_rfl) (by kernel_rfl) (by kernel_rfl) ?q116 (Or.inr ⟨?w116, rfl⟩) hHeld ?r116
          case h116 => first | (simp only [List.getElem?_toArray, List.getElem?_cons_zero, List.getElem?_cons_succ]; done) | (simp only [List.getElem?_toArray, List.getElem?_cons_zero, List.getElem?_cons_succ]; exact rfl)
          case q116 => exact fun _ _ _ h => h
          case w116 => rfl
          try simp only [Act.put, List.setIfInBounds_toArray, List.set_cons_zero, List.set_cons_succ]
          refine wpAnyH_take (i := 16) (oi := ?oi117) (v := ?vi117) ?h117 (by kernel_rfl) (by kernel_rfl) (by kernel_rfl) ?q117 (Or.inl ⟨?w117, ?y117⟩) hHeld ?r117
          case h117 => first | (simp only [List.getElem?_toArray, List.getElem?_cons_zero, List.getElem?_cons_succ]; done) | (simp only [List.getElem?_toArray, List.getElem?_cons_zero, List.getElem?_cons_succ]; exact rfl)
          case q117 => exact fun _ _ _ h => h
          case w117 => rfl
          case y117 =>
            intro w hSw
            (try dsimp only at hSw)
            obtain ⟨s0, s1⟩ := hSw
            go_simp
            try with_reducible rfl
          try simp only [Act.put, List.setIfInBounds_toArray, List.set_cons_zero, List.set_cons_succ]
          refine wpAnyH_done (by kernel_rfl) ?_ _
          go_wp2
          have hj := HL.out
          go_roundw
          case rel => exact ⟨k + 1, by omega, by go_num, hR.out.then F10.out⟩
          case measure => simp [RowKit.intOf]; omega
        | false =>
          by_cases hxu : x.path = u
          · have qx1 : (x.path == u) = true := beq_iff_eq.2 hxu
            have qx2 : (x.path = u) = True := eq_true hxu
            clear hxu
            go_wp2_with fail
            refine wp_region_held_drew (S := (fun w' => w'.cell? ⟨g, oo + k * 5, none⟩ = some (.string (B x.path)) ∧ w'.cell? ⟨w.heap.size, 1, none⟩ = some (.string (B p)))) (by kernel_rfl) ?_ (fun hHeld => ?_)
            · exact HS.out
            refine wpAnyH_take (i := 0) (oi := ?oi118) (v := ?vi118) ?h118 (by kernel_rfl) (by kernel_rfl) (by kernel_rfl) ?q118 (Or.inl ⟨?w118, ?y118⟩) hHeld ?r118
            case h118 => first | (simp only [List.getElem?_toArray, List.getElem?_cons_zero]; done) | (simp only [List.getElem?_toArray, List.getElem?_cons_zero]; exact rfl)
            case q118 => exact fun _ _ _ h => h
            case w118 => rfl
            case y118 =>
              intro w hSw
              (try dsimp only at hSw)
              obtain ⟨s0, s1⟩ := hSw
              go_simp
              try with_reducible rfl
            try simp only [Act.put, List.setIfInBounds_toArray, List.set_cons_zero, List.set_cons_succ]
            refine wpAnyH_take (i := 1) (oi := ?oi119) (v := ?vi119) ?h119 (by kernel_rfl) (by kernel_rfl) (by kernel_rfl) ?q119 (Or.inl ⟨?w119, ?y119⟩) hHeld ?r119
            case h119 => first | (simp only [List.getElem?_toArray, List.getElem?_cons_zero, List.getElem?_cons_succ]; done) | (simp only [List.getElem?_toArray, List.getElem?_cons_zero, List.getElem?_cons_succ]; exact rfl)
            case q119 => exact fun _ _ _ h => h
            case w119 => rfl
            case y119 =>
              intro w hSw
              (try dsimp only at hSw)
              obtain ⟨s0, s1⟩ := hSw
              go_simp
              try with_reducible rfl
            try simp only [Act.put, List.setIfInBounds_toArray, List.set_cons_zero, List.set_cons_succ]
            refine wpAnyH_take (i := 2) (oi := ?oi120) (v := ?vi120) ?h120 (by kernel_rfl) (by kernel_rfl) (by kernel_rfl) ?q120 (Or.inl ⟨?w120, ?y120⟩) hHeld ?r120
            case h120 => first | (simp only [List.getElem?_toArray, List.getElem?_cons_zero, List.getElem?_cons_succ]; done) | (simp only [List.getElem?_toArray, List.getElem?_cons_zero, List.getElem?_cons_succ]; exact rfl)
            case q120 => exact fun _ _ _ h => h
            case w120 => rfl
            case y120 =>
              intro w hSw
              (try dsimp only at hSw)
              obtain ⟨s0, s1⟩ := hSw
              go_simp
              try with_reducible rfl
            try simp only [Act.put, List.setIfInBounds_toArray, List.set_cons_zero, List.set_cons_succ]
            refine wpAnyH_take (i := 3) (oi := ?oi121) (v := ?vi121) ?h121 (by kernel_rfl) (by kernel_rfl) (by kernel_rfl) ?q121 (Or.inl ⟨?w121, ?y121⟩) hHeld ?r121
            case h121 => first | (simp only [List.getElem?_toArray, List.getElem?_cons_zero, List.getElem?_cons_succ]; done) | (simp only [List.getElem?_toArray, List.getElem?_cons_zero, List.getElem?_cons_succ]; exact rfl)
            case q121 => exact fun _ _ _ h => h
            case w121 => rfl
            case y121 =>
              intro w hSw
              (try dsimp only at hSw)
              obtain ⟨s0, s1⟩ := hSw
              go_simp
              try with_reducible rfl
            try simp only [Act.put, List.setIfInBounds_toArray, List.set_cons_zero, List.set_cons_succ]
            refine wpAnyH_take (i := 4) (oi := ?oi122) (v := ?vi122) ?h122 (by kernel_rfl) (by kernel_rfl) (by kernel_rfl) ?q122 (Or.inl ⟨?w122, ?y122⟩) hHeld ?r122
            case h122 => first | (simp only [List.getElem?_toArray, List.getElem?_cons_zero, List.getElem?_cons_succ]; done) | (simp only [List.getElem?_toArray, List.getElem?_cons_zero, List.getElem?_cons_succ]; exact rfl)
            case q122 => exact fun _ _ _ h => h
            case w122 => rfl
            case y122 =>
              intro w hSw
              (try dsimp only at hSw)
              obtain ⟨s0, s1⟩ := hSw
              go_simp
              try with_reducible rfl
            try simp only [Act.put, List.setIfInBounds_toArray, List.set_cons_zero, List.set_cons_succ]
            refine wpAnyH_take (i := 5) (oi := ?oi123) (v := ?vi123) ?h123 (by kernel_rfl) (by kernel_rfl) (by kernel_rfl) ?q123 (Or.inl ⟨?w123, ?y123⟩) hHeld ?r123
            case h123 => first | (simp only [List.getElem?_toArray, List.getElem?_cons_zero, List.getElem?_cons_succ]; done) | (simp only [List.getElem?_toArray, List.getElem?_cons_zero, List.getElem?_cons_succ]; exact rfl)
            case q123 => exact fun _ _ _ h => h
            case w123 => rfl
            case y123 =>
              intro w hSw
              (try dsimp only at hSw)
              obtain ⟨s0, s1⟩ := hSw
              go_simp
              try with_reducible rfl
            try simp only [Act.put, List.setIfInBounds_toArray, List.set_cons_zero, List.set_cons_succ]
            refine wpAnyH_take (i := 6) (oi := ?oi124) (v := ?vi124) ?h124 (by kernel_rfl) (by kernel_rfl) (by kernel_rfl) ?q124 (Or.inl ⟨?w124, ?y124⟩) hHeld ?r124
            case h124 => first | (simp only [List.getElem?_toArray, List.getElem?_cons_zero, List.getElem?_cons_succ]; done) | (simp only [List.getElem?_toArray, List.getElem?_cons_zero, List.getElem?_cons_succ]; exact rfl)
            case q124 => exact fun _ _ _ h => h
            case w124 => rfl
            case y124 =>
              intro w hSw
              (try dsimp only at hSw)
              obtain ⟨s0, s1⟩ := hSw
              go_simp
              try with_reducible rfl
            try simp only [Act.put, List.setIfInBounds_toArray, List.set_cons_zero, List.set_cons_succ]
            refine wpAnyH_ready (rs := [7]) (by kernel_rfl) (by simp) ?_
            refine AllReadyH.cons (o := ?ob125) ?hb125 (fun K hK => ?_) AllReadyH.nil
            case hb125 => first | (simp only [List.getElem?_toArray, List.getElem?_cons_zero, List.getElem?_cons_succ]; done) | (simp only [List.getElem?_toArray, List.getElem?_cons_zero, List.getElem?_cons_succ]; exact rfl)
            go_simp
            go_at_call 17
            refine (HIN.out _).mono ?_
            rintro e w10 ⟨rfl, hg⟩
            have F10 := Lib.hid ((Fp.refl Non wr).drew.then hg.fp)
            have HS2 := Lib.hid (show w10.cell? ⟨g, oo + k * 5, none⟩ = some (.string (B x.path)) ∧ w10.cell? ⟨w.heap.size, 1, none⟩ = some (.string (B p)) from ⟨hg.fp.cell HS.out.1 (fun h => h), hg.fp.cell HS.out.2 (fun h => h)⟩)
            clear hg
            go_wp2_with fail
            refine hK.out _ _ HS2.out (fun hHeld => ?_)
            clear hK K
            try simp only [Act.put, List.setIfInBounds_toArray, List.set_cons_zero, List.set_cons_succ]
            refine wpAnyH_take (i := 8) (oi := ?oi126) (v := ?vi126) ?h126 (by kernel_rfl) (by kernel_rfl) (by kernel_rfl) ?q126 (Or.inl ⟨?w126, ?y126⟩) hHeld ?r126
            case h126 => first | (simp only [List.getElem?_toArray, List.getElem?_cons_zero, List.getElem?_cons_succ]; done) | (simp only [List.getElem?_toArray, List.getElem?_cons_zero, List.getElem?_cons_succ]; exact rfl)
            case q126 => exact fun _ _ _ h => h
            case w126 => rfl
            case y126 =>
              intro w hSw
              (try dsimp only at hSw)
              obtain ⟨s0, s1⟩ := hSw
              go_simp
              try with_reducible rfl
            try simp only [Act.put, List.setIfInBounds_toArray, List.set_cons_zero, List.set_cons_succ]
            refine wpAnyH_take (i := 9) (oi := ?oi127) (v := ?vi127) ?h127 (by kernel_rfl) (by kernel_rfl) (by kernel_rfl) ?q127 (Or.inl ⟨?w127, ?y127⟩) hHeld ?r127
            case h127 => first | (simp only [List.getElem?_toArray, List.getElem?_cons_zero, List.getElem?_cons_succ]; done) | (simp only [List.getElem?_toArray, List.getElem?_cons_zero, List.getElem?_cons_succ]; exact rfl)
            case q127 => exact fun _ _ _ h => h
            case w127 => rfl
            case y127 =>
              intro w hSw
              (try dsimp only at hSw)
              obtain ⟨s0, s1⟩ := hSw
              go_simp
              try with_reducible rfl
            try simp only [Act.put, List.setIfInBounds_toArray, List.set_cons_zero, List.set_cons_succ]
            refine wpAnyH_take (i := 10) (oi := ?oi128) (v := ?vi128) ?h128 (by kernel_rfl) (by kernel_rfl) (by kernel_rfl) ?q128 (Or.inl ⟨?w128, ?y128⟩) hHeld ?r128
            case h128 => first | (simp only [List.getElem?_toArray, List.getElem?_cons_zero, List.getElem?_cons_succ]; done) | (simp only [List.getElem?_toArray, List.getElem?_cons_zero, List.getElem?_cons_succ]; exact rfl)
            case q128 => exact fun _ _ _ h => h
            case w128 => rfl
            case y128 =>
              intro w hSw
              (try dsimp only at hSw)
              obtain ⟨s0, s1⟩ := hSw
              go_simp
              try with_reducible rfl
            try simp only [Act.put, List.setIfInBounds_toArray, List.set_cons_zero, List.set_cons_succ]
            refine wpAnyH_take (i := 11) (oi := ?oi129) (v := ?vi129) ?h129 (by kernel_rfl) (by kernel_rfl) (by kernel_rfl) ?q129 (Or.inl ⟨?w129, ?y129⟩) hHeld ?r129
            case h129 => first | (simp only [List.getElem?_toArray, List.getElem?_cons_zero, List.getElem?_cons_succ]; done) | (simp only [List.getElem?_toArray, List.getElem?_cons_zero, List.getElem?_cons_succ]; exact rfl)
            case q129 => exact fun _ _ _ h => h
            case w129 => rfl
            case y129 =>
              intro w hSw
              (try dsimp only at hSw)
              obtain ⟨s0, s1⟩ := hSw
              go_simp
              try with_reducible rfl
            try simp only [Act.put, List.setIfInBounds_toArray, List.set_cons_zero, List.set_cons_succ]
            refine wpAnyH_take (i := 12) (oi := ?oi130) (v := ?vi130) ?h130 (by kernel_rfl) (by kernel_rfl) (by kernel_rfl) ?q130 (Or.inl ⟨?w130, ?y130⟩) hHeld ?r130
            case h130 => first | (simp only [List.getElem?_toArray, List.getElem?_cons_zero, List.getElem?_cons_succ]; done) | (simp only [List.getElem?_toArray, List.getElem?_cons_zero, List.getElem?_cons_succ]; exact rfl)
            case q130 => exact fun _ _ _ h => h
            case w130 => rfl
            case y130 =>
              intro w hSw
              (try dsimp only at hSw)
              obtain ⟨s0, s1⟩ := hSw
              go_simp
              try with_reducible rfl
            try simp only [Act.put, List.setIfInBounds_toArray, List.set_cons_zero, List.set_cons_succ]
            refine wpAnyH_take (i := 13) (oi := ?oi131) (v := ?vi131) ?h131 (by kernel_rfl) (by kernel_rfl) (by kernel_rfl) ?q131 (Or.inl ⟨?w131, ?y131⟩) hHeld ?r131
            case h131 => first | (simp only [List.getElem?_toArray, List.getElem?_cons_zero, List.getElem?_cons_succ]; done) | (simp only [List.getElem?_toArray, List.getElem?_cons_zero, List.getElem?_cons_succ]; exact rfl)
            case q131 => exact fun _ _ _ h => h
            case w131 => rfl
            case y131 =>
              intro w hSw
              (try dsimp only at hSw)
              obtain ⟨s0, s1⟩ := hSw
              go_simp
              try with_reducible rfl
            try simp only [Act.put, List.setIfInBounds_toArray, List.set_cons_zero, List.set_cons_succ]
            refine wpAnyH_take (i := 14) (oi := ?oi132) (v := ?vi132) ?h132 (by kernel_rfl) (by kernel_rfl) (by kernel_rfl) ?q132 (Or.inl ⟨?w132, ?y132⟩) hHeld ?r132
            case h132 => first | (simp only [List.getElem?_toArray, List.getElem?_cons_zero, List.getElem?_cons_succ]; done) | (simp only [List.getElem?_toArray, List.getElem?_cons_zero, List.getElem?_cons_succ]; exact rfl)
            case q132 => exact fun _ _ _ h => h
            case w132 => rfl
            case y132 =>
              intro w hSw
              (try dsimp only at hSw)
              obtain ⟨s0, s1⟩ := hSw
              go_simp
              try with_reducible rfl
            try simp only [Act.put, List.setIfInBounds_toArray, List.set_cons_zero, List.set_cons_succ]
            refine wpAnyH_take (i := 15) (oi := ?oi133) (v := ?vi133) ?h133 (by kernel_rfl) (by kernel_rfl) (by kernel_rfl) ?q133 (Or.inl ⟨?w133, ?y133⟩) hHeld ?r133
            case h133 => first | (simp only [List.getElem?_toArray, List.getElem?_cons_zero, List.getElem?_cons_succ]; done) | (simp only [List.getElem?_toArray, List.getElem?_cons_zero, List.getElem?_cons_succ]; exact rfl)
            case q133 => exact fun _ _ _ h => h
            case w133 => rfl
            case y133 =>
              intro w hSw
              (try dsimp only at hSw)
              obtain ⟨s0, s1⟩ := hSw
              go_simp
              try with_reducible rfl
            try simp only [Act.put, List.setIfInBounds_toArray, List.set_cons_zero, List.set_cons_succ]
            refine wpAnyH_take (i := 16) (oi := ?oi134) (v := ?vi134) ?h134 (by kernel_rfl) (by kernel_rfl) (by kernel_rfl) ?q134 (Or.inl ⟨?w134, ?y134⟩) hHeld ?r134
            case h134 => first | (simp only [List.getElem?_toArray, List.getElem?_cons_zero, List.getElem?_cons_succ]; done) | (simp only [List.getElem?_toArray, List.getElem?_cons_zero, List.getElem?_cons_succ]; exact rfl)
            case q134 => exact fun _ _ _ h => h
            case w134 => rfl
            case y134 =>
              intro w hSw
              (try dsimp only at hSw)
              obtain ⟨s0, s1⟩ := hSw
              go_simp
              try with_reducible rfl
            try simp only [Act.put, List.setIfInBounds_toArray, List.set_cons_zero, List.set_cons_succ]
            refine wpAnyH_done (by kernel_rfl) ?_ _
            go_wp2
            have hj := HL.out
            go_roundw
            case rel => exact ⟨k + 1, by omega, by go_num, hR.out.then F10.out⟩
            case measure => simp [RowKit.intOf]; omega
          · have qx1 : (x.path == u) = false := beq_eq_false_iff_ne.2 hxu
            have qx2 : (x.path = u) = False := eq_false hxu
            have HF := Lib.hid (HST2.out rfl hxu)
            clear hxu
            go_wp2_with fail
            refine wp_region_held_drew (S := (fun w' => w'.cell? ⟨g, oo + k * 5, none⟩ = some (.string (B x.path)) ∧ w'.cell? ⟨w.heap.size, 1, none⟩ = some (.string (B p)))) (by kernel_rfl) ?_ (fun hHeld => ?_)
            · exact HS.out
            refine wpAnyH_take (i := 0) (oi := ?oi135) (v := ?vi135) ?h135 (by kernel_rfl) (by kernel_rfl) (by kernel_rfl) ?q135 (Or.inl ⟨?w135, ?y135⟩) hHeld ?r135
            case h135 => first | (simp only [List.getElem?_toArray, List.getElem?_cons_zero]; done) | (simp only [List.getElem?_toArray, List.getElem?_cons_zero]; exact rfl)
            case q135 => exact fun _ _ _ h => h
            case w135 => rfl
            case y135 =>
              intro w hSw
              (try dsimp only at hSw)
              obtain ⟨s0, s1⟩ := hSw
              go_simp
              try with_reducible rfl
            try simp only [Act.put, List.setIfInBounds_toArray, List.set_cons_zero, List.set_cons_succ]
            refine wpAnyH_take (i := 1) (oi := ?oi136) (v := ?vi136) ?h136 (by kernel_rfl) (by kernel_rfl) (by kernel_rfl) ?q136 (Or.inl ⟨?w136, ?y136⟩) hHeld ?r136
            case h136 => first | (simp only [List.getElem?_toArray, List.getElem?_cons_zero, List.getElem?_cons_succ]; done) | (simp only [List.getElem?_toArray, List.getElem?_cons_zero, List.getElem?_cons_succ]; exact rfl)
            case q136 => exact fun _ _ _ h => h
            case w136 => rfl
            case y136 =>
              intro w hSw
              (try dsimp only at hSw)
              obtain ⟨s0, s1⟩ := hSw
              go_simp
              try with_reducible rfl
            try simp only [Act.put, List.setIfInBounds_toArray, List.set_cons_zero, List.set_cons_succ]
            refine wpAnyH_take (i := 2) (oi := ?oi137) (v := ?vi137) ?h137 (by kernel_rfl) (by kernel_rfl) (by kernel_rfl) ?q137 (Or.inl ⟨?w137, ?y137⟩) hHeld ?r137
            case h137 => first | (simp only [List.getElem?_toArray, List.getElem?_cons_zero, List.getElem?_cons_succ]; done) | (simp only [List.getElem?_toArray, List.getElem?_cons_zero, List.getElem?_cons_succ]; exact rfl)
            case q137 => exact fun _ _ _ h => h
            case w137 => rfl
            case y137 =>
              intro w hSw
              (try dsimp only at hSw)
              obtain ⟨s0, s1⟩ := hSw
              go_simp
              try with_reducible rfl
            try simp only [Act.put, List.setIfInBounds_toArray, List.set_cons_zero, List.set_cons_succ]
            refine wpAnyH_take (i := 3) (oi := ?oi138) (v := ?vi138) ?h138 (by kernel_rfl) (by kernel_rfl) (by kernel_rfl) ?q138 (Or.inl ⟨?w138, ?y138⟩) hHeld ?r138
            case h138 => first | (simp only [List.getElem?_toArray, List.getElem?_cons_zero, List.getElem?_cons_succ]; done) | (simp only [List.getElem?_toArray, List.getElem?_cons_zero, List.getElem?_cons_succ]; exact rfl)
            case q138 => exact fun _ _ _ h => h
            case w138 => rfl
            case y138 =>
              intro w hSw
              (try dsimp only at hSw)
              obtain ⟨s0, s1⟩ := hSw
              go_simp
              try with_reducible rfl
            try simp only [Act.put, List.setIfInBounds_toArray, List.set_cons_zero, List.set_cons_succ]
            refine wpAnyH_take (i := 4) (oi := ?oi139) (v := ?vi139) ?h139 (by kernel_rfl) (by kernel_rfl) (by kernel_rfl) ?q139 (Or.inl ⟨?w139, ?y139⟩) hHeld ?r139
            case h139 => first | (simp only [List.getElem?_toArray, List.getElem?_cons_zero, List.getElem?_cons_succ]; done) | (simp only [List.getElem?_toArray, List.getElem?_cons_zero, List.getElem?_cons_succ]; exact rfl)
            case q139 => exact fun _ _ _ h => h
            case w139 => rfl
            case y139 =>
              intro w hSw
              (try dsimp only at hSw)
              obtain ⟨s0, s1⟩ := hSw
              go_simp
              try with_reducible rfl
            try simp only [Act.put, List.setIfInBounds_toArray, List.set_cons_zero, List.set_cons_succ]
            refine wpAnyH_take (i := 5) (oi := ?oi140) (v := ?vi140) ?h140 (by kernel_rfl) (by kernel_rfl) (by kernel_rfl) ?q140 (Or.inl ⟨?w140, ?y140⟩) hHeld ?r140
            case h140 => first | (simp only [List.getElem?_toArray, List.getElem?_cons_zero, List.getElem?_cons_succ]; done) | (simp only [List.getElem?_toArray, List.getElem?_cons_zero, List.getElem?_cons_succ]; exact rfl)
            case q140 => exact fun _ _ _ h => h
            case w140 => rfl
            case y140 =>
              intro w hSw
              (try dsimp only at hSw)
              obtain ⟨s0, s1⟩ := hSw
              go_simp
              try with_reducible rfl
            try simp only [Act.put, List.setIfInBounds_toArray, List.set_cons_zero, List.set_cons_succ]
            refine wpAnyH_take (i := 6) (oi := ?oi141) (v := ?vi141) ?h141 (by kernel_rfl) (by kernel_rfl) (by kernel_rfl) ?q141 (Or.inl ⟨?w141, ?y141⟩) hHeld ?r141
            case h141 => first | (simp only [List.getElem?_toArray, List.getElem?_cons_zero, List.getElem?_cons_succ]; done) | (simp only [List.getElem?_toArray, List.getElem?_cons_zero, List.getElem?_cons_succ]; exact rfl)
            case q141 => exact fun _ _ _ h => h
            case w141 => rfl
            case y141 =>
              intro w hSw
              (try dsimp only at hSw)
              obtain ⟨s0, s1⟩ := hSw
              go_simp
              try with_reducible rfl
            try simp only [Act.put, List.setIfInBounds_toArray, List.set_cons_zero, List.set_cons_succ]
            refine wpAnyH_ready (rs := [7]) (by kernel_rfl) (by simp) ?_
            refine AllReadyH.cons (o := ?ob142) ?hb142 (fun K hK => ?_) AllReadyH.nil
            case hb142 => first | (simp only [List.getElem?_toArray, List.getElem?_cons_zero, List.getElem?_cons_succ]; done) | (simp only [List.getElem?_toArray, List.getElem?_cons_zero, List.getElem?_cons_succ]; exact rfl)
            go_simp
            go_at_call 17
            refine (HIN.out _).mono ?_
            rintro e w10 ⟨rfl, hg⟩
            have F10 := Lib.hid ((Fp.refl Non wr).drew.then hg.fp)
            have HS2 := Lib.hid (show w10.cell? ⟨g, oo + k * 5, none⟩ = some (.string (B x.path)) ∧ w10.cell? ⟨w.heap.size, 1, none⟩ = some (.string (B p)) from ⟨hg.fp.cell HS.out.1 (fun h => h), hg.fp.cell HS.out.2 (fun h => h)⟩)
            clear hg
            go_wp2_with fail
            refine hK.out _ _ HS2.out (fun hHeld => ?_)
            clear hK K
            try simp only [Act.put, List.setIfInBounds_toArray, List.set_cons_zero, List.set_cons_succ]
            refine wpAnyH_take (i := 8) (oi := ?oi143) (v := ?vi143) ?h143 (by kernel_rfl) (by kernel_rfl) (by kernel_rfl) ?q143 (Or.inl ⟨?w143, ?y143⟩) hHeld ?r143
            case h143 => first | (simp only [List.getElem?_toArray, List.getElem?_cons_zero, List.getElem?_cons_succ]; done) | (simp only [List.getElem?_toArray, List.getElem?_cons_zero, List.getElem?_cons_succ]; exact rfl)
            case q143 => exact fun _ _ _ h => h
            case w143 => rfl
            case y143 =>
              intro w hSw
              (try dsimp only at hSw)
              obtain ⟨s0, s1⟩ := hSw
              go_simp
              try with_reducible rfl
            try simp only [Act.put, List.setIfInBounds_toArray, List.set_cons_zero, List.set_cons_succ]
            refine wpAnyH_take (i := 9) (oi := ?oi144) (v := ?vi144) ?h144 (by kernel_rfl) (by kernel_rfl) (by kernel_rfl) ?q144 (Or.inl ⟨?w144, ?y144⟩) hHeld ?r144
            case h144 => first | (simp only [List.getElem?_toArray, List.getElem?_cons_zero, List.getElem?_cons_succ]; done) | (simp only [List.getElem?_toArray, List.getElem?_cons_zero, List.getElem?_cons_succ]; exact rfl)
            case q144 => exact fun _ _ _ h => h
            case w144 => rfl
            case y144 =>
              intro w hSw
              (try dsimp only at hSw)
              obtain ⟨s0, s1⟩ := hSw
              go_simp
              try with_reducible rfl
            try simp only [Act.put, List.setIfInBounds_toArray, List.set_cons_zero, List.set_cons_succ]
            refine wpAnyH_take (i := 10) (oi := ?oi145) (v := ?vi145) ?h145 (by kernel_rfl) (by kernel_rfl) (by kernel_rfl) ?q145 (Or.inl ⟨?w145, ?y145⟩) hHeld ?r145
            case h145 => first | (simp only [List.getElem?_toArray, List.getElem?_cons_zero, List.getElem?_cons_succ]; done) | (simp only [List.getElem?_toArray, List.getElem?_cons_zero, List.getElem?_cons_succ]; exact rfl)
            case q145 => exact fun _ _ _ h => h
            case w145 => rfl
            case y145 =>
              intro w hSw
              (try dsimp only at hSw)
              obtain ⟨s0, s1⟩ := hSw
              go_simp
              try with_reducible rfl
            try simp only [Act.put, List.setIfInBounds_toArray, List.set_cons_zero, List.set_cons_succ]
            refine wpAnyH_take (i := 11) (oi := ?oi146) (v := ?vi146) ?h146 (by kernel_rfl) (by kernel_rfl) (by kernel_rfl) ?q146 (Or.inl ⟨?w146, ?y146⟩) hHeld ?r146
            case h146 => first | (simp only [List.getElem?_toArray, List.getElem?_cons_zero, List.getElem?_cons_succ]; done) | (simp only [List.getElem?_toArray, List.getElem?_cons_zero, List.getElem?_cons_succ]; exact rfl)
            case q146 => exact fun _ _ _ h => h
            case w146 => rfl
            case y146 =>
              intro w hSw
              (try dsimp only at hSw)
              obtain ⟨s0, s1⟩ := hSw
              go_simp
              try with_reducible rfl
            try simp only [Act.put, List.setIfInBounds_toArray, List.set_cons_zero, List.set_cons_succ]
            refine wpAnyH_take (i := 12) (oi := ?oi147) (v := ?vi147) ?h147 (by kernel_rfl) (by kernel_rfl) (by kernel_rfl) ?q147 (Or.inl ⟨?w147, ?y147⟩) hHeld ?r147
            case h147 => first | (simp only [List.getElem?_toArray, List.getElem?_cons_zero, List.getElem?_cons_succ]; done) | (simp only [List.getElem?_toArray, List.getElem?_cons_zero, List.getElem?_cons_succ]; exact rfl)
            case q147 => exact fun _ _ _ h => h
            case w147 => rfl
            case y147 =>
              intro w hSw
              (try dsimp only at hSw)
              obtain ⟨s0, s1⟩ := hSw
              go_simp
              try with_reducible rfl
            try simp only [Act.put, List.setIfInBounds_toArray, List.set_cons_zero, List.set_cons_succ]
            refine wpAnyH_take (i := 13) (oi := ?oi148) (v := ?vi148) ?h148 (by kernel_rfl) (by kernel_rfl) (by kernel_rfl) ?q148 (Or.inl ⟨?w148, ?y148⟩) hHeld ?r148
            case h148 => first | (simp only [List.getElem?_toArray, List.getElem?_cons_zero, List.getElem?_cons_succ]; done) | (simp only [List.getElem?_toArray, List.getElem?_cons_zero, List.getElem?_cons_succ]; exact rfl)
            case q148 => exact fun _ _ _ h => h
            case w148 => rfl
            case y148 =>
              intro w hSw
              (try dsimp only at hSw)
              obtain ⟨s0, s1⟩ := hSw
              go_simp
              try with_reducible rfl
            try simp only [Act.put, List.setIfInBounds_toArray, List.set_cons_zero, List.set_cons_succ]
            refine wpAnyH_take (i := 14) (oi := ?oi149) (v := ?vi149) ?h149 (by kernel_rfl) (by kernel_rfl) (by kernel_rfl) ?q149 (Or.inl ⟨?w149, ?y149⟩) hHeld ?r149
            case h149 => first | (simp only [List.getElem?_toArray, List.getElem?_cons_zero, List.getElem?_cons_succ]; done) | (simp only [List.getElem?_toArray, List.getElem?_cons_zero, List.getElem?_cons_succ]; exact rfl)
            case q149 => exact fun _ _ _ h => h
            case w149 => rfl
            case y149 =>
              intro w hSw
              (try dsimp only at hSw)
              obtain ⟨s0, s1⟩ := hSw
              go_simp
              try with_reducible rfl
            try simp only [Act.put, List.setIfInBounds_toArray, List.set_cons_zero, List.set_cons_succ]
            refine wpAnyH_take (i := 15) (oi := ?oi150) (v := ?vi150) ?h150 (by kernel_rfl) (by kernel_rfl) (by kernel_rfl) ?q150 (Or.inl ⟨?w150, ?y150⟩) hHeld ?r150
            case h150 => first | (simp only [List.getElem?_toArray, List.getElem?_cons_zero, List.getElem?_cons_succ]; done) | (simp only [List.getElem?_toArray, List.getElem?_cons_zero, List.getElem?_cons_succ]; exact rfl)
            case q150 => exact fun _ _ _ h => h
            case w150 => rfl
            case y150 =>
              intro w hSw
              (try dsimp only at hSw)
              obtain ⟨s0, s1⟩ := hSw
              go_simp
              try with_reducible rfl
            try simp only [Act.put, List.setIfInBounds_toArray, List.set_cons_zero, List.set_cons_succ]
            refine wpAnyH_take (i := 16) (oi := ?oi151) (v := ?vi151) ?h151 (by kernel_rfl) (by kernel_rfl) (by kernel_rfl) ?q151 (Or.inl ⟨?w151, ?y151⟩) hHeld ?r151
            case h151 => first | (simp only [List.getElem?_toArray, List.getElem?_cons_zero, List.getElem?_cons_succ]; done) | (simp only [List.getElem?_toArray, List.getElem?_cons_zero, List.getElem?_cons_succ]; exact rfl)
            case q151 => exact fun _ _ _ h => h
            case w151 => rfl
            case y151 =>
              intro w hSw
              (try dsimp only at hSw)
              obtain ⟨s0, s1⟩ := hSw
              go_simp
              try with_reducible rfl
            try simp only [Act.put, List.setIfInBounds_toArray, List.set_cons_zero, List.set_cons_succ]
            refine wpAnyH_done (by kernel_rfl) ?_ _
            have c0 := HS2.out.1
            have hfd := HFA.out w10 (HK.out.later F10.out).now.2.1
            rw [HF.out] at hfd
            simp only [Option.getD_some, Option.isSome_some, ndV, strV] at hfd
            have HFD := Lib.hid hfd
            clear hfd
            go_wp2_with fail
            refine HFD.out.mono ?_
            rintro e w11 ⟨rfl, hf⟩
            have hfs := F10.out.then (hf.alloc (.cells #[.string (B x.path), .string (B x.data), .int .i64 x.ver, .int .i64 x.turn, .int .i64 x.own] TN))
            obtain ⟨y0, y1, y2, y3, y4⟩ := (NdAt.box w11 x).five
            have hn9 := HND.out.keep hfs (fun h => h)
            have HFS := Lib.hid hfs
            clear hf hfs HFD c0
            have c0 := hn9.c0; have c1 := hn9.c1; have c2' := hn9.c2; have c3' := hn9.c3; have c4 := hn9.c4
            unfold strV at c0 c1
            clear hn9
            have q5 : decide (x = x) = true := decide_eq_true rfl
            go_wp2_with fail
            go_quiet (fail)
            go_wp2
            have hj := HL.out
            go_roundw
            case rel => exact ⟨k + 1, by omega, by go_num, (hR.out.then HFS.out).drewN _⟩
            case measure => simp [RowKit.intOf]; omega
      · have hke : k = n := by omega
        subst hke
        have q3 : ((k : Int) < (k : Int)) = False := eq_false (by omega)
        have F6 := Lib.hid HK.out.now.2.2.2.2.1
        clear hlt hk
        go_wp2
        go_ret
        exact ⟨rfl, F6.out⟩
end Go.Proofs.YthaepjeikicigaaDoor
