/- A text of this proof. -/
import Derived.Test.YthaepjeikicigaaDoorQLs
import Derived.Test.YthaepjeikicigaaDoorQKi
/- NodesSweeps, walked. -/
namespace Go.Proofs.YthaepjeikicigaaDoor
set_option maxRecDepth 20000
set_option linter.unusedVariables false
set_option linter.unusedSimpArgs false
open Go.RowKit Pm

/-- Sweep, on a tree. -/
inductive SwW (l : List Nd) (p : Bs) (ow : Int) (w' : World) (e : Ending) : Prop where
  | bad (ao : Option Addr) (c m : Nat) (k : Int) (n : Option Addr) (c2 : Nat) (he : e = .returned (.tuple #[.slice ao m c, .agg #[.int .i64 k, .string ⟨#[]⟩, .string ⟨#[]⟩, .int .i64 0, .slice n 0 c2]])) (h0 : k ≠ 0)
  | done (ao : Option Addr) (c : Nat) (n : Option Addr) (c2 : Nat) (he : e = .returned (.tuple #[.slice ao (l.filter (fun n => !swept (sweepOp p ow) n)).length c, .agg #[.int .i64 0, .string ⟨#[]⟩, .string ⟨#[]⟩, .int .i64 0, .slice n (l.filter (swept (sweepOp p ow))).length c2]]))
      (hm : may (sweepOp p ow) = true) (hf : ∃ x, find l p = some x) (ho : Ns w' (.slice ao (l.filter (fun n => !swept (sweepOp p ow) n)).length c) (l.filter (fun n => !swept (sweepOp p ow) n)))
theorem Sweep_w (v : Value) (l : List Nd) (p : Bs) (ow : Int) (w : World) (hv : Ns w v l) (hT : Tr l) (hp : p.length ≤ 1000000) (ht : Tab w) :
    Calls Tryd.prog 14 #[v, .agg #[.int .i64 7, .string (B p), .string ⟨#[]⟩, .int .i64 0, .int .i64 ow, .bool false]] w fun e w' => SwW l p ow w' e ∧ Fp Non w w' := by
  refine (Apply_c v l (sweepOp p ow) w hv (tr_few hT).2 hp ht).mono fun e w' h => ⟨?_, h.fp⟩
  obtain ⟨v', nv, rfl, h1, h2⟩ := h.ex
  obtain ⟨ao, c, rfl⟩ := h1.shape
  obtain ⟨n, c2, rfl⟩ := h2.shape
  cases hm : may (sweepOp p ow) with
  | false =>
    rw [apply_no (l := l) (fun k => by rw [hm] at k; cases k.2)]
    exact .bad ao c _ 1 n c2 rfl (by decide)
  | true =>
    rw [apply_yes hT hm] at h1 ⊢
    rcases sweep_ways l p ow with ⟨e, _⟩ | ⟨hf, e⟩
    · rw [e]; exact .bad ao c _ 62 n c2 rfl (by decide)
    · rw [e] at h1 ⊢
      refine .done ao c n c2 ?_ hm hf h1
      show Ending.returned (.tuple #[.slice ao (l.filter (fun n => !swept (sweepOp p ow) n)).length c, .agg #[.int .i64 0, .string (B []), .string (B []), .int .i64 0, .slice n ((l.filter (swept (sweepOp p ow))).map (fun n => last n.path)).length c2]]) = _
      rw [List.length_map]; rfl
theorem swept_iff {l : List Nd} {p : Bs} {ow : Int} (h : Tr l) (hm : may (sweepOp p ow) = true) {x : Nd} (hx : x ∈ l) {u : Bs} (hu : (parent x.path).getD [] = u) :
    (swept (sweepOp p ow) x = true ↔ u = p ∧ x.path ≠ [47] ∧ x.own = ow) ∧ (u = p → x.path ≠ [47]) := by
  have hp0 : p ≠ [] := by
    rintro rfl
    have := may_split hm
    exact absurd (show (split ([] : Bs)).isSome = true from this) (by decide)
  by_cases hr : x.path = [47]
  · have : u = [] := by rw [← hu, hr]; rfl
    subst this
    refine ⟨⟨fun hs => ?_, fun k => absurd hr k.2.1⟩, fun k => absurd k.symm hp0⟩
    unfold swept at hs; rw [hr] at hs
    simp only [Bool.and_eq_true, beq_iff_eq] at hs
    cases hs.2
  · obtain ⟨v, y, h1, _, _⟩ := lies_some (h.lie x hx hr)
    rw [h1] at hu; simp only [Option.getD_some] at hu; subst hu
    refine ⟨?_, fun _ => hr⟩
    unfold swept; rw [h1]
    simp only [Bool.and_eq_true, beq_iff_eq, Option.some.injEq]
    exact ⟨fun k => ⟨k.2, hr, k.1⟩, fun k => ⟨k.2.2, k.1⟩⟩
theorem count_take (l : List Nd) (q : Nd → Bool) (k : Nat) (hk : k < l.length) : ((l.take (k + 1)).filter q).length = ((l.take k).filter q).length + if q l[k] = true then 1 else 0 := by
  rw [List.take_succ_eq_append_getElem hk, List.filter_append, List.length_append, List.filter_cons, List.filter_nil]
  split <;> rfl

set_option maxHeartbeats 16000000 in
theorem NodesSweeps_c (v : Value) (l : List Nd) (p : Bs) (ow : Int) (w : World) (hv : Ns w v l) (hn : l.length ≤ 140737488355328) (ht : Tab w) :
    Calls Tryd.prog 7 #[v, .string (B p), .int .i64 ow] w fun e w' => e = .returned (.bool true) ∧ Fp Non w w' := by
  obtain ⟨ao, cap, rfl⟩ := hv.shape
  have K0 := Lib.hid (Kp.and (Kp.fp (Fp.refl Non w)) (Kp.and (Kp.ns hv) (Kp.tab ht)))
  have HN := Lib.hid hn
  clear hv ht hn
  obtain ⟨n, hnn⟩ : ∃ n, n = l.length := ⟨_, rfl⟩
  have HX := Lib.hid hnn
  rw [← hnn]
  clear hnn
  go_enter Tryd.func7, Tryd.ntmps7
  go_wp2_with fail
  refine (head_c _ K0.out.now.2.2).mono ?_
  rintro e w1 ⟨rfl, hf⟩
  have K1 := Lib.hid (K0.out.later hf)
  clear hf K0
  have hgr := Great_c _ l w1 K1.out.now.2.1 HN.out
  rw [← HX.out] at hgr
  have HGR := Lib.hid hgr
  clear hgr
  go_wp2_with fail
  refine HGR.out.mono ?_
  rintro e w2 ⟨g, rfl, hg, hf⟩
  have K2 := Lib.hid (K1.out.later hf)
  have HG := Lib.hid hg
  clear hf hg K1 HGR HN
  cases g with
  | true =>
    have F2 := Lib.hid K2.out.now.1
    clear K2 HG
    go_wp2
    go_ret
    exact ⟨rfl, F2.out⟩
  | false =>
  by_cases hlong : 1000 < p.length
  · have qa : (1000 < p.length) = True := eq_true hlong
    have qb : ((1000 : Int) < (p.length : Int)) = True := eq_true (by omega)
    clear hlong
    have F2 := Lib.hid K2.out.now.1
    clear K2 HG
    go_wp2
    go_ret
    exact ⟨rfl, F2.out⟩
  have qa : (1000 < p.length) = False := eq_false hlong
  have qb : ((1000 : Int) < (p.length : Int)) = False := eq_false (by omega)
  have HLP := Lib.hid (show p.length ≤ 1000 by omega)
  clear hlong
  have hrr := rRightN_g _ l w2 K2.out.now.2.1 (few_sp (by have := HG.out (by first | rfl | trivial); rw [HX.out] at this; exact this))
  rw [← HX.out] at hrr
  obtain ⟨br, hbr⟩ : ∃ b, Pm.right l = b := ⟨_, rfl⟩
  rw [hbr] at hrr
  have HRR := Lib.hid hrr
  have HBR := Lib.hid hbr
  clear hrr hbr
  go_wp2_with fail
  refine HRR.out.mono ?_
  rintro e w4 ⟨rfl, hf⟩
  have K4 := Lib.hid (K2.out.later hf)
  clear hf K2 HRR
  cases br with
  | false =>
    have F2 := Lib.hid K4.out.now.1
    clear K4 HG HBR
    go_wp2
    go_ret
    exact ⟨rfl, F2.out⟩
  | true =>
  have HT := Lib.hid ((right_iff l).1 HBR.out).tr
  clear HBR HG
  have hap := Sweep_w _ l p ow w4 K4.out.now.2.1 HT.out (by have := HLP.out; omega) K4.out.now.2.2
  rw [← HX.out] at hap
  have HAP := Lib.hid hap
  clear hap
  go_wp2_with fail
  refine HAP.out.mono ?_
  rintro e w5 ⟨hw, hf⟩
  have K5 := Lib.hid (K4.out.later hf)
  clear hf K4 HAP
  rcases hw with ⟨ao', c, m, k, na, c2, rfl, h0⟩ | ⟨ao', c, na, c2, rfl, hm, hf, ho⟩
  · have F5 := Lib.hid ((K5.out.later (fp_alloc w5 (.cells #[.int .i64 k, .string ⟨#[]⟩, .string ⟨#[]⟩, .int .i64 0, .slice na 0 c2] TR))).now.1)
    have q0 : (k == 0) = false := beq_eq_false_iff_ne.2 h0
    have q1 : (k != 0) = true := by simpa using h0
    have q2 : (k = 0) = False := eq_false h0
    clear K5 h0
    go_wp2
    go_ret
    exact ⟨rfl, F5.out⟩
  · have HM := Lib.hid hm
    have HF := Lib.hid hf
    have HSF : Hid (∀ x ∈ l, (find (l.filter (fun n => !swept (sweepOp p ow) n)) x.path).isSome = !swept (sweepOp p ow) x) := fun x hx => sweep_find HT.out p ow hx
    have HSW : Hid (∀ x ∈ l, ∀ u, (parent x.path).getD [] = u → (swept (sweepOp p ow) x = true ↔ u = p ∧ x.path ≠ [47] ∧ x.own = ow) ∧ (u = p → x.path ≠ [47])) := fun x hx u hu => swept_iff HT.out hm hx hu
    have HTW := Lib.hid (sweep_twice HT.out p ow hm hf.choose_spec)
    have hTa : Tr (l.filter (fun n => !swept (sweepOp p ow) n)) := by
      have := perform_tr HT.out hm
      rcases sweep_ways l p ow with ⟨_, e⟩ | ⟨_, e⟩
      · rw [hf.choose_spec] at e; cases e
      · rw [e] at this; exact this
    have HTA := Lib.hid hTa
    have how := may_sweep hm
    have HOW := Lib.hid how
    have hqb : (l.filter (swept (sweepOp p ow))).length ≤ 512 := Nat.le_trans (List.length_filter_le _ _) HT.out.most
    clear hm hf hTa how
    obtain ⟨a, haa⟩ : ∃ a, a = l.filter (fun n => !swept (sweepOp p ow) n) := ⟨_, rfl⟩
    rw [← haa] at HSF HTW HTA ho ⊢
    clear haa
    obtain ⟨sn, hsn⟩ : ∃ sn, sn = (l.filter (swept (sweepOp p ow))).length := ⟨_, rfl⟩
    rw [← hsn] at hqb ⊢
    have HSN := Lib.hid hsn
    clear hsn
    have hbx := heap_alloc_new w5 (.cells #[.int .i64 0, .string ⟨#[]⟩, .string ⟨#[]⟩, .int .i64 0, .slice na sn c2] TR)
    have K6 := Lib.hid (Kp.and (Kp.row hbx) ((Kp.and (Kp.ns ho) K5.out).later (fp_alloc w5 (.cells #[.int .i64 0, .string ⟨#[]⟩, .string ⟨#[]⟩, .int .i64 0, .slice na sn c2] TR))))
    have hnl : n ≤ 512 := by have := HT.out.most; have := HX.out; omega
    clear hbx K5 ho
    obtain ⟨am, ham⟩ : ∃ am, am = a.length := ⟨_, rfl⟩
    rw [← ham] at K6 ⊢
    have HAM := Lib.hid ham
    clear ham
    go_wp2_with fail
    have H0 := Lib.hid (And.intro (show 0 = ((l.take 0).filter (swept (sweepOp p ow))).length from rfl) (Fp.refl Non (w5.alloc (.cells #[.int .i64 0, .string ⟨#[]⟩, .string ⟨#[]⟩, .int .i64 0, .slice na sn c2] TR))))
    go_loopw [10, 11] (fun m i wr => ∃ k : Nat, k ≤ n ∧ i = .int .i64 k ∧ ∃ z : Nat, m = .int .i64 z ∧ z ≤ k ∧ Hid (z = ((l.take k).filter (swept (sweepOp p ow))).length ∧ Fp Non (w5.alloc (.cells #[.int .i64 0, .string ⟨#[]⟩, .string ⟨#[]⟩, .int .i64 0, .slice na sn c2] TR)) wr)) (fun _ i _ => n - (RowKit.intOf i).toNat)
    case atStart => exact ⟨0, Nat.zero_le _, rfl, 0, rfl, Nat.le_refl _, H0⟩
    case round =>
      clear H0
      obtain ⟨k, hk, rfl, z, rfl, hzk, hR⟩ := hrel
      rename_i wr _
      have HK6 := Lib.hid (K6.out.later hR.out.2)
      by_cases hlt : k < n
      · have hkl : k < l.length := by rw [← HX.out]; exact hlt
        obtain ⟨g, o, cap', e, _, _, _, hcell⟩ := HK6.out.now.2.2.2.1.at (by omega)
        injection e with e1 e2 e3
        subst e1 e3
        have hnd := hcell k hkl
        have hxm : l[k] ∈ l := List.getElem_mem hkl
        have hct := count_take l (swept (sweepOp p ow)) k hkl
        generalize l[k] = x at *
        have hsp := (tr_few HT.out).2 x hxm
        have hpa := fun w => rParent_g x.path w (sz_of hsp (by omega))
        obtain ⟨u, hu⟩ : ∃ u, (parent x.path).getD [] = u := ⟨_, rfl⟩
        obtain ⟨is, hi⟩ : ∃ b, (parent x.path).isSome = b := ⟨_, rfl⟩
        have hsw := HSW.out x hxm u hu
        rw [hu, hi] at hpa
        have hfa := fun w' hv => rFind_c (.slice ao' am c) a x.path w' hv (tr_few HTA.out).1
        rw [HSF.out x hxm] at hfa
        obtain ⟨y, hy⟩ : ∃ y, (find a x.path).getD zeroNd = y := ⟨_, rfl⟩
        rw [hy] at hfa
        unfold ndV strV at hfa
        have hch : x.own ≠ 0 → ∀ w', Ns w' (.slice (some ⟨g, o, none⟩) n cap) l → Calls Tryd.prog 20 #[.slice (some ⟨g, o, none⟩) n cap, .string (B x.path)] w' fun e w2 => (∃ a2 c2, e = .returned (.slice a2 0 c2)) ∧ Fp Non w' w2 := fun h0 w' hv => by
          refine (rChildren_c _ l x.path w' hv (tr_few HT.out).2 (by have := HT.out.most; omega)).mono fun e w2 h => ?_
          obtain ⟨v', he, ho, hf⟩ := h
          rw [kids_owned HT.out hxm h0] at ho
          obtain ⟨a2, c2, rfl⟩ := ho.shape
          exact ⟨⟨a2, c2, he⟩, hf⟩
        have HPA := Lib.hid hpa
        have HFA := Lib.hid hfa
        have HCH := Lib.hid hch
        have HND := Lib.hid hnd
        have HL := Lib.hid hlt
        have HCT := Lib.hid hct
        have c0 := hnd.c0; have c1 := hnd.c1; have c2' := hnd.c2; have c3 := hnd.c3; have c4 := hnd.c4
        unfold strV at c0 c1
        have q3 : ((k : Int) < (n : Int)) = True := eq_true (by omega)
        have q4 : (k < n) = True := eq_true hlt
        clear hpa hfa hch hnd hcell hsp hy hi hct hkl hlt
        by_cases hs : swept (sweepOp p ow) x = true
        · obtain ⟨hup, hpn, how⟩ := hsw.1.1 hs
          have HS := Lib.hid hs
          rw [hs] at HFA
          have hown : x.own ≠ 0 := by have := HOW.out; omega
          have ho1 : (x.own != 0) = true := by simpa using hown
          have ho2 : (x.own = 0) = False := eq_false hown
          have upa : (u == p) = true := beq_iff_eq.2 hup
          have upb : (u = p) = True := eq_true hup
          have upc : (u != p) = false := by simp [hup]
          have pna : (x.path == [47]) = false := beq_eq_false_iff_ne.2 hpn
          have pnb : (x.path = [47]) = False := eq_false hpn
          have pnc : (x.path != [47]) = true := by simp [hpn]
          have owa : (x.own == ow) = true := beq_iff_eq.2 how
          have owb : (x.own = ow) = True := eq_true how
          have owc : (x.own != ow) = false := by simp [how]
          clear hs hsw hup hpn how hu hxm
          go_wp2_with fail
          refine (HPA.out _).mono ?_
          rintro e w7 ⟨rfl, hg⟩
          have F7 := Lib.hid hg.fp
          have hn7 := HND.out.keep hg.fp (fun h => h)
          clear hg c0 c1 c2' c3 c4
          have c0 := hn7.c0; have c4 := hn7.c4
          unfold strV at c0
          clear hn7
          go_wp2_with fail
          refine (HFA.out _ (HK6.out.later F7.out).now.2.1).mono ?_
          rintro e w8 ⟨rfl, hf⟩
          have F8 := Lib.hid (F7.out.then (hf.alloc (.cells #[.string (B y.path), .string (B y.data), .int .i64 y.ver, .int .i64 y.turn, .int .i64 y.own] TN)))
          clear hf c0 c4
          have hn8 := HND.out.keep F8.out (fun h => h)
          have c0 := hn8.c0; have c4 := hn8.c4
          unfold strV at c0
          clear hn8
          have hz5 : z ≤ 512 := by omega
          have hk5 : k ≤ 512 := by omega
          go_wp2_with fail
          refine (HCH.out hown _ (by have := (HK6.out.later F8.out).now.2.2.2.1; rw [← HX.out] at this; exact this)).mono ?_
          rintro e w9 ⟨⟨a9, c9, rfl⟩, hf⟩
          have F9 := Lib.hid (F8.out.then hf)
          clear hf c0 c4
          go_wp2
          go_roundw
          case rel => exact ⟨k + 1, by have := HL.out; omega, by go_num, z + 1, by go_num, by omega, ⟨by rw [HCT.out, if_pos HS.out, hR.out.1], hR.out.2.then F9.out⟩⟩
          case measure => have := HL.out; simp [RowKit.intOf]; omega
        · have hs2 : swept (sweepOp p ow) x = false := by simpa using hs
          have HS := Lib.hid hs
          rw [hs2] at HFA
          by_cases hup : u = p
          · have hpn := hsw.2 hup
            have how : ¬ x.own = ow := fun e => hs (hsw.1.2 ⟨hup, hpn, e⟩)
            have upa : (u == p) = true := beq_iff_eq.2 hup
            have upb : (u = p) = True := eq_true hup
            have upc : (u != p) = false := by simp [hup]
            have pna : (x.path == [47]) = false := beq_eq_false_iff_ne.2 hpn
            have pnb : (x.path = [47]) = False := eq_false hpn
            have pnc : (x.path != [47]) = true := by simp [hpn]
            have owa : (x.own == ow) = false := beq_eq_false_iff_ne.2 how
            have owb : (x.own = ow) = False := eq_false how
            have owc : (x.own != ow) = true := by simp [how]
            clear hs hs2 hsw hup hpn how hu hxm
            by_cases hown : x.own = 0
            · have ho1 : (x.own != 0) = false := by simp [hown]
              have ho2 : (x.own = 0) = True := eq_true hown
              clear hown
              go_wp2_with fail
              refine (HPA.out _).mono ?_
              rintro e w7 ⟨rfl, hg⟩
              have F7 := Lib.hid hg.fp
              have hn7 := HND.out.keep hg.fp (fun h => h)
              clear hg c0 c1 c2' c3 c4
              have c0 := hn7.c0; have c4 := hn7.c4
              unfold strV at c0
              clear hn7
              go_wp2_with fail
              refine (HFA.out _ (HK6.out.later F7.out).now.2.1).mono ?_
              rintro e w8 ⟨rfl, hf⟩
              have F8 := Lib.hid (F7.out.then (hf.alloc (.cells #[.string (B y.path), .string (B y.data), .int .i64 y.ver, .int .i64 y.turn, .int .i64 y.own] TN)))
              clear hf c0 c4
              have hn8 := HND.out.keep F8.out (fun h => h)
              have c0 := hn8.c0; have c4 := hn8.c4
              unfold strV at c0
              clear hn8
              have hz5 : z ≤ 512 := by omega
              have hk5 : k ≤ 512 := by omega
              have F9 := F8
              go_wp2
              go_roundw
              case rel => exact ⟨k + 1, by have := HL.out; omega, by go_num, z, by go_num, by omega, ⟨by rw [HCT.out, if_neg HS.out, hR.out.1]; rfl, hR.out.2.then F9.out⟩⟩
              case measure => have := HL.out; simp [RowKit.intOf]; omega
            · have ho1 : (x.own != 0) = true := by simpa using hown
              have ho2 : (x.own = 0) = False := eq_false hown
              go_wp2_with fail
              refine (HPA.out _).mono ?_
              rintro e w7 ⟨rfl, hg⟩
              have F7 := Lib.hid hg.fp
              have hn7 := HND.out.keep hg.fp (fun h => h)
              clear hg c0 c1 c2' c3 c4
              have c0 := hn7.c0; have c4 := hn7.c4
              unfold strV at c0
              clear hn7
              go_wp2_with fail
              refine (HFA.out _ (HK6.out.later F7.out).now.2.1).mono ?_
              rintro e w8 ⟨rfl, hf⟩
              have F8 := Lib.hid (F7.out.then (hf.alloc (.cells #[.string (B y.path), .string (B y.data), .int .i64 y.ver, .int .i64 y.turn, .int .i64 y.own] TN)))
              clear hf c0 c4
              have hn8 := HND.out.keep F8.out (fun h => h)
              have c0 := hn8.c0; have c4 := hn8.c4
              unfold strV at c0
              clear hn8
              have hz5 : z ≤ 512 := by omega
              have hk5 : k ≤ 512 := by omega
              go_wp2_with fail
              refine (HCH.out hown _ (by have := (HK6.out.later F8.out).now.2.2.2.1; rw [← HX.out] at this; exact this)).mono ?_
              rintro e w9 ⟨⟨a9, c9, rfl⟩, hf⟩
              have F9 := Lib.hid (F8.out.then hf)
              clear hf c0 c4
              go_wp2
              go_roundw
              case rel => exact ⟨k + 1, by have := HL.out; omega, by go_num, z, by go_num, by omega, ⟨by rw [HCT.out, if_neg HS.out, hR.out.1]; rfl, hR.out.2.then F9.out⟩⟩
              case measure => have := HL.out; simp [RowKit.intOf]; omega
          · have upa : (u == p) = false := beq_eq_false_iff_ne.2 hup
            have upb : (u = p) = False := eq_false hup
            have upc : (u != p) = true := by simp [hup]
            clear hs hs2 hsw hup hu hxm
            by_cases hown : x.own = 0
            · have ho1 : (x.own != 0) = false := by simp [hown]
              have ho2 : (x.own = 0) = True := eq_true hown
              clear hown
              go_wp2_with fail
              refine (HPA.out _).mono ?_
              rintro e w7 ⟨rfl, hg⟩
              have F7 := Lib.hid hg.fp
              have hn7 := HND.out.keep hg.fp (fun h => h)
              clear hg c0 c1 c2' c3 c4
              have c0 := hn7.c0; have c4 := hn7.c4
              unfold strV at c0
              clear hn7
              go_wp2_with fail
              refine (HFA.out _ (HK6.out.later F7.out).now.2.1).mono ?_
              rintro e w8 ⟨rfl, hf⟩
              have F8 := Lib.hid (F7.out.then (hf.alloc (.cells #[.string (B y.path), .string (B y.data), .int .i64 y.ver, .int .i64 y.turn, .int .i64 y.own] TN)))
              clear hf c0 c4
              have hn8 := HND.out.keep F8.out (fun h => h)
              have c0 := hn8.c0; have c4 := hn8.c4
              unfold strV at c0
              clear hn8
              have hz5 : z ≤ 512 := by omega
              have hk5 : k ≤ 512 := by omega
              have F9 := F8
              go_wp2
              go_roundw
              case rel => exact ⟨k + 1, by have := HL.out; omega, by go_num, z, by go_num, by omega, ⟨by rw [HCT.out, if_neg HS.out, hR.out.1]; rfl, hR.out.2.then F9.out⟩⟩
              case measure => have := HL.out; simp [RowKit.intOf]; omega
            · have ho1 : (x.own != 0) = true := by simpa using hown
              have ho2 : (x.own = 0) = False := eq_false hown
              go_wp2_with fail
              refine (HPA.out _).mono ?_
              rintro e w7 ⟨rfl, hg⟩
              have F7 := Lib.hid hg.fp
              have hn7 := HND.out.keep hg.fp (fun h => h)
              clear hg c0 c1 c2' c3 c4
              have c0 := hn7.c0; have c4 := hn7.c4
              unfold strV at c0
              clear hn7
              go_wp2_with fail
              refine (HFA.out _ (HK6.out.later F7.out).now.2.1).mono ?_
              rintro e w8 ⟨rfl, hf⟩
              have F8 := Lib.hid (F7.out.then (hf.alloc (.cells #[.string (B y.path), .string (B y.data), .int .i64 y.ver, .int .i64 y.turn, .int .i64 y.own] TN)))
              clear hf c0 c4
              have hn8 := HND.out.keep F8.out (fun h => h)
              have c0 := hn8.c0; have c4 := hn8.c4
              unfold strV at c0
              clear hn8
              have hz5 : z ≤ 512 := by omega
              have hk5 : k ≤ 512 := by omega
              go_wp2_with fail
              refine (HCH.out hown _ (by have := (HK6.out.later F8.out).now.2.2.2.1; rw [← HX.out] at this; exact this)).mono ?_
              rintro e w9 ⟨⟨a9, c9, rfl⟩, hf⟩
              have F9 := Lib.hid (F8.out.then hf)
              clear hf c0 c4
              go_wp2
              go_roundw
              case rel => exact ⟨k + 1, by have := HL.out; omega, by go_num, z, by go_num, by omega, ⟨by rw [HCT.out, if_neg HS.out, hR.out.1]; rfl, hR.out.2.then F9.out⟩⟩
              case measure => have := HL.out; simp [RowKit.intOf]; omega
      · have hke : k = n := by omega
        subst hke
        have q3 : ((k : Int) < (k : Int)) = False := eq_false (by omega)
        have hz : z = sn := by rw [hR.out.1, HSN.out, HX.out, List.take_length]
        subst hz
        obtain ⟨a2, htw⟩ := HTW.out
        have hap : ∀ w', Ns w' (.slice ao' am c) a → Tab w' → Calls Tryd.prog 14 #[.slice ao' am c, .agg #[.int .i64 7, .string (B p), .string ⟨#[]⟩, .int .i64 0, .int .i64 ow, .bool false]] w' fun e w2 => (∃ v' an cn, e = .returned (.tuple #[v', .agg #[.int .i64 0, .string ⟨#[]⟩, .string ⟨#[]⟩, .int .i64 0, .slice an 0 cn]])) ∧ Fp Non w' w2 := fun w' hv ht =>
          (hd_ap htw (.slice ao' am c) w' hv (tr_few HTA.out).2 (show p.length ≤ 1000000 by have := HLP.out; omega) ht).mono fun e w2 ⟨⟨v', nv, h, _, h2⟩, hf⟩ => by
            obtain ⟨an, cn, rfl⟩ := h2.shape
            exact ⟨⟨v', an, cn, h⟩, hf⟩
        have HAP := Lib.hid (hap wr HK6.out.now.2.1 HK6.out.now.2.2.2.2)
        clear hlt hk hap
        go_wp2_with fail
        refine HAP.out.mono ?_
        rintro e w8 ⟨⟨v8, an, cn, rfl⟩, hf8⟩
        have HF8 := Lib.hid hf8
        clear hf8
        have hfb := (HF8.out.alloc (.cells #[.int .i64 0, .string ⟨#[]⟩, .string ⟨#[]⟩, .int .i64 0, .slice an 0 cn] TR))
        have hb8 := heap_alloc_new w8 (.cells #[.int .i64 0, .string ⟨#[]⟩, .string ⟨#[]⟩, .int .i64 0, .slice an 0 cn] TR)
        have HE := Lib.hid (And.intro (HK6.out.later hfb) hb8)
        clear hfb hb8
        obtain ⟨s0, s1, s2, s3, s4⟩ := box5 HE.out.2
        obtain ⟨r0, r1, r2, r3, r4⟩ := box5 HE.out.1.now.1
        have F9 := Lib.hid HE.out.1.now.2.2.1
        go_wp2
        go_ret
        exact ⟨rfl, F9.out⟩
end Go.Proofs.YthaepjeikicigaaDoor
