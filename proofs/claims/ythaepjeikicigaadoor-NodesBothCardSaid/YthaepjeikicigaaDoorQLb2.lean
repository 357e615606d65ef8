/- A text of this proof. -/
import Derived.Test.YthaepjeikicigaaDoorQLs
import Derived.Test.YthaepjeikicigaaDoorQKi
/- NodesBoth, walked. -/
namespace Go.Proofs.YthaepjeikicigaaDoor
set_option maxRecDepth 20000
set_option linter.unusedVariables false
set_option linter.unusedSimpArgs false
open Go.RowKit Pm

theorem set6 {w : World} {b : Nat} {T : TypeId} {a0 a1 a2 a3 a4 a5 : Value} (h : w.heap[b]? = some (.cells #[a0, a1, a2, a3, a4, a5] T (0, 0))) (v0 : Value) :
    (w.setCell ⟨b, 0, none⟩ v0).heap[b]? = some (.cells #[v0, a1, a2, a3, a4, a5] T (0, 0)) := heap_setCell_same w b 0 _ T v0 h
theorem ap_two {l a : List Nd} {o : Opn} {e : Int} {rd : Bs} {rv : Int} (hap : apply l o = (a, ⟨e, [], rd, rv, []⟩)) (v : Value) (w : World) (hv : Ns w v l) (hs : Sp l) (hp : o.path.length ≤ 1000000) (ht : Tab w) :
    Calls Tryd.prog 14 #[v, opV o] w fun e' w' => (∃ ao c an cn, e' = .returned (.tuple #[.slice ao a.length c, .agg #[.int .i64 e, .string ⟨#[]⟩, .string (B rd), .int .i64 rv, .slice an 0 cn]]) ∧ Ns w' (.slice ao a.length c) a) ∧ Fp Non w w' :=
  (hd_ap hap v w hv hs hp ht).mono fun e' w' ⟨⟨v', nv, h, h1, h2⟩, hf⟩ => by
    obtain ⟨an, cn, rfl⟩ := h2.shape
    obtain ⟨ao, c, rfl⟩ := h1.shape
    exact ⟨⟨ao, c, an, cn, h, h1⟩, hf⟩
theorem frozen_row {w : World} {b : Nat} {cs : Array Value} {T : TypeId} (h : w.heap[b]? = some (.cells cs T (0, 0))) (j : Nat) : w.frozen? ⟨b, j, none⟩ = false := by
  unfold World.frozen?; simp only [h]; simp
/-- Create, on any nodes. -/
inductive CrW (l : List Nd) (o : Opn) (w' : World) (e : Ending) : Prop where
  | bad (ao : Option Addr) (c m : Nat) (k : Int) (n : Option Addr) (c2 : Nat) (he : e = .returned (.tuple #[.slice ao m c, .agg #[.int .i64 k, .string ⟨#[]⟩, .string ⟨#[]⟩, .int .i64 0, .slice n 0 c2]])) (h0 : k ≠ 0)
  | done (ao : Option Addr) (c : Nat) (n : Option Addr) (c2 : Nat) (a : List Nd) (r : Res) (he : e = .returned (.tuple #[.slice ao a.length c, .agg #[.int .i64 0, .string (B r.path), .string ⟨#[]⟩, .int .i64 0, .slice n 0 c2]]))
      (hT : Tr l) (hm : may o = true) (hM : Made l o a r) (hl : Ns w' (.slice ao a.length c) a)
theorem Create_w (v : Value) (l : List Nd) (o : Opn) (w : World) (hv : Ns w v l) (hs : Sp l) (hk : o.kind = 1) (hp : o.path.length ≤ 1000000) (ht : Tab w) :
    Calls Tryd.prog 14 #[v, opV o] w fun e w' => CrW l o w' e ∧ Fp Non w w' := by
  refine (Apply_c v l o w hv hs hp ht).mono fun e w' h => ⟨?_, h.fp⟩
  obtain ⟨v', nv, rfl, h1, h2⟩ := h.ex
  obtain ⟨ao, c, rfl⟩ := h1.shape
  obtain ⟨n, c2, rfl⟩ := h2.shape
  by_cases hrm : right l = true ∧ may o = true
  · have hT := ((right_iff l).1 hrm.1).tr
    have hm := hrm.2
    rw [apply_yes hT hm] at h1 ⊢
    have e0 : perform l o = create l o := by unfold perform; rw [if_pos hk]
    rw [e0] at h1 ⊢
    rcases create_ways hm hk hT.most with ⟨e1, k, e2, k0, _⟩ | hM
    · rw [e2]; exact .bad ao c _ k n c2 rfl k0
    · have hM2 := hM
      obtain ⟨u, x, q, _, _, _, _, _, _, _, _, hr⟩ := hM2.ex
      refine .done ao c n c2 _ _ ?_ hT hm hM h1
      rw [hr]; rfl
  · rw [apply_no hrm]
    exact .bad ao c _ 1 n c2 rfl (by decide)

set_option maxHeartbeats 16000000 in
theorem NodesBoth_c (v : Value) (l : List Nd) (o : Opn) (w : World) (hv : Ns w v l) (hn : l.length ≤ 140737488355328) (ht : Tab w) :
    Calls Tryd.prog 5 #[v, opV o] w fun e w' => e = .returned (.bool true) ∧ Fp Non w w' := by
  obtain ⟨ao, cap, rfl⟩ := hv.shape
  obtain ⟨kk, p, d, vv, ow, t⟩ := o
  unfold opV strV
  simp only
  have hbx := heap_alloc_new w (.cells #[.int .i64 kk, .string (B p), .string (B d), .int .i64 vv, .int .i64 ow, .bool t] TO_)
  have hf0 := fp_alloc w (.cells #[.int .i64 kk, .string (B p), .string (B d), .int .i64 vv, .int .i64 ow, .bool t] TO_)
  have HB0 := Lib.hid hbx
  have K0 := Lib.hid (Kp.and (Kp.fp hf0) (Kp.and (Kp.ns (hv.non hf0)) (Kp.tab (ht.non hf0))))
  have HN := Lib.hid hn
  have HV := Lib.hid hv
  have HTB := Lib.hid ht
  clear hbx hf0 hv ht hn
  obtain ⟨n, hnn⟩ : ∃ n, n = l.length := ⟨_, rfl⟩
  have HX := Lib.hid hnn
  rw [← hnn]
  clear hnn
  go_enter Tryd.func5, Tryd.ntmps5
  go_wp2_with fail
  refine (head_c _ K0.out.now.2.2).mono ?_
  rintro e w1 ⟨rfl, hf⟩
  have K1 := Lib.hid (Kp.and (Kp.row (hf.heap HB0.out (fun h => h))) (K0.out.later hf))
  clear hf K0 HB0
  obtain ⟨o0, o1, o2, o3, o4, o5⟩ := box6 K1.out.now.1
  have hgr := Great_c _ l w1 K1.out.now.2.2.1 HN.out
  rw [← HX.out] at hgr
  have HGR := Lib.hid hgr
  clear hgr
  go_wp2_with fail
  refine HGR.out.mono ?_
  rintro e w2 ⟨g, rfl, hg, hf⟩
  have K2 := Lib.hid (K1.out.later hf)
  have HG := Lib.hid hg
  clear hf hg K1 HGR o0 o1 o2 o3 o4 o5
  cases g with
  | true =>
    have F2 := Lib.hid K2.out.now.2.1
    clear K2 HG
    go_wp2
    go_ret
    exact ⟨rfl, F2.out⟩
  | false =>
  obtain ⟨o0, o1, o2, o3, o4, o5⟩ := box6 K2.out.now.1
  go_wp2_with fail
  refine (GreatOp_c ⟨kk, p, d, vv, ow, t⟩ w2).mono ?_
  rintro e w3 ⟨g, rfl, hg, hf⟩
  have K3 := Lib.hid (K2.out.later hf)
  have HO := Lib.hid hg
  clear hf hg K2 o0 o1 o2 o3 o4 o5
  cases g with
  | true =>
    have F2 := Lib.hid K3.out.now.2.1
    clear K3 HG HO
    go_wp2
    go_ret
    exact ⟨rfl, F2.out⟩
  | false =>
  obtain ⟨o0, o1, o2, o3, o4, o5⟩ := box6 K3.out.now.1
  have fz : ∀ j, w3.frozen? ⟨w.heap.size, j, none⟩ = false := fun j => by simp [World.frozen?, K3.out.now.1]
  have f0 := fz 0
  clear fz
  have hrow := set6 K3.out.now.1 (.int .i64 1)
  have hfS := K3.out.now.2.1.setCell (p := ⟨w.heap.size, 0, none⟩) (.inr (Nat.le_refl _)) (.int .i64 1)
  have hcr := Create_w (.slice ao n cap) l ⟨1, p, d, vv, ow, t⟩ (w3.setCell ⟨w.heap.size, 0, none⟩ (.int .i64 1)) (by have := HV.out.non hfS; rw [← HX.out] at this; exact this) (few_sp (by have := HG.out (by first | rfl | trivial); rw [HX.out] at this; exact this)) rfl (Nat.le_trans (show p.length ≤ 3000 from (HO.out (by first | rfl | trivial)).1) (by omega)) (HTB.out.non hfS)
  have K4 := Lib.hid (Kp.and (Kp.row hrow) (Kp.and (Kp.fp hfS) (Kp.and (Kp.ns (HV.out.non hfS)) (Kp.tab (HTB.out.non hfS)))))
  have HCR := Lib.hid hcr
  clear hrow hfS hcr K3
  go_wp2_with fail
  refine HCR.out.mono ?_
  rintro e w4 ⟨hw, hf⟩
  have K5 := Lib.hid (K4.out.later hf)
  clear hf K4 HCR o0 o1 o2 o3 o4 o5 f0
  rcases hw with ⟨a1, c1, m1, k, na, c2, rfl, h0⟩ | ⟨a1, c1, na, c2, a, r, rfl, hT, hm, hM, hl⟩
  · have F5 := Lib.hid (K5.out.now.2.1.alloc (.cells #[.int .i64 k, .string ⟨#[]⟩, .string ⟨#[]⟩, .int .i64 0, .slice na 0 c2] TR))
    have q0 : (k == 0) = false := beq_eq_false_iff_ne.2 h0
    have q1 : (k != 0) = true := by simpa using h0
    have q2 : (k = 0) = False := eq_false h0
    clear h0
    go_wp2
    go_ret
    exact ⟨rfl, F5.out⟩
  · obtain ⟨u, x, b, hu, hx, hfa, hap, hfb, hb, hrl, _⟩ := both hT hm hM
    have HTa := Lib.hid (hM.tr hT hm)
    have HTu := Lib.hid (fun i hi hi' => turned_at hT (o := ⟨1, p, d, vv, ow, t⟩) hx i hi hi')
    rw [← hb] at HTu
    have HBL : Hid (b.length = l.length) := by rw [hb]; exact (turned_facts hT hx).2.2
    have HT := Lib.hid hT
    have HU := Lib.hid hu
    have HAP := Lib.hid hap
    obtain ⟨rp, hrp⟩ : ∃ rp, rp = r.path := ⟨_, rfl⟩
    rw [← hrp] at hfa hfb hrl HAP ⊢
    have HFA := Lib.hid hfa
    have HFB := Lib.hid hfb
    have HRL := Lib.hid hrl
    have hbx := heap_alloc_new w4 (.cells #[.int .i64 0, .string (B rp), .string ⟨#[]⟩, .int .i64 0, .slice na 0 c2] TR)
    have K6 := Lib.hid (Kp.and (Kp.row hbx) ((Kp.and (Kp.ns hl) K5.out).later (fp_alloc w4 (.cells #[.int .i64 0, .string (B rp), .string ⟨#[]⟩, .int .i64 0, .slice na 0 c2] TR))))
    obtain ⟨am, ham⟩ : ∃ am, am = a.length := ⟨_, rfl⟩
    rw [← ham] at K6 ⊢
    clear hbx hl K5 hM hu hx hfa hap hfb hb hrp hrl hT hm ham
    have hfd := fun w' hv => rFind_c (.slice a1 am c1) a rp w' hv (tr_few HTa.out).1
    rw [HFA.out] at hfd
    simp only [Option.getD_some, Option.isSome_some, ndV, strV] at hfd
    have HFD := Lib.hid (hfd _ K6.out.now.2.1)
    clear hfd
    obtain ⟨r0, r1, r2, r3, r4⟩ := box5 K6.out.now.1
    go_wp2_with fail
    refine HFD.out.mono ?_
    rintro e w5 ⟨rfl, hf⟩
    have hfx := hf.alloc (.cells #[.string (B rp), .string (B d), .int .i64 0, .int .i64 0, .int .i64 ow] TN)
    have hbx := heap_alloc_new w5 (.cells #[.string (B rp), .string (B d), .int .i64 0, .int .i64 0, .int .i64 ow] TN)
    have K7 := Lib.hid (Kp.and (Kp.row hbx) (K6.out.later hfx))
    clear hf hbx hfx K6 HFD r0 r1 r2 r3 r4
    have hss := K7.out.now.2.2.1
    have had := ap_two HAP.out (.slice a1 am c1) _ hss (tr_few HTa.out).2 (show rp.length ≤ 1000000 by have := HRL.out; omega) K7.out.now.2.2.2.2.2.2
    rw [HBL.out, ← HX.out] at had
    have HAD := Lib.hid had
    clear had hss
    obtain ⟨r0, r1, r2, r3, r4⟩ := box5 K7.out.now.2.1
    go_wp2_with fail
    refine HAD.out.mono ?_
    rintro e w6 ⟨⟨a2, c3, ns, ms, rfl, hlb⟩, hf⟩
    have hfx := hf.alloc (.cells #[.int .i64 0, .string ⟨#[]⟩, .string (B []), .int .i64 0, .slice ns 0 ms] TR)
    have hbx := heap_alloc_new w6 (.cells #[.int .i64 0, .string ⟨#[]⟩, .string (B []), .int .i64 0, .slice ns 0 ms] TR)
    have K8 := Lib.hid (Kp.and (Kp.row hbx) (Kp.and ((Kp.ns hlb).later (fp_alloc w6 (.cells #[.int .i64 0, .string ⟨#[]⟩, .string (B []), .int .i64 0, .slice ns 0 ms] TR))) (K7.out.later hfx)))
    clear hf hbx hfx K7 HAD hlb r0 r1 r2 r3 r4
    obtain ⟨r0, r1, r2, r3, r4⟩ := box5 K8.out.now.2.2.2.1
    have hfd := rFind_c (.slice a2 n c3) b rp _ K8.out.now.2.1 (by rw [HBL.out]; have := HT.out.most; omega)
    rw [HFB.out] at hfd
    simp only [Option.getD_none, Option.isSome_none, ndV, strV, zeroNd] at hfd
    have HFD := Lib.hid hfd
    clear hfd
    go_wp2_with fail
    refine HFD.out.mono ?_
    rintro e w7 ⟨rfl, hf⟩
    have K9 := Lib.hid (K8.out.later (hf.alloc (.cells #[.string (B []), .string (B []), .int .i64 0, .int .i64 0, .int .i64 0] TN)))
    clear hf K8 HFD r0 r1 r2 r3 r4
    obtain ⟨s0, s1, s2, s3, s4⟩ := box5 K9.out.now.1
    obtain ⟨x0, x1, x2, x3, x4⟩ := box5 K9.out.now.2.2.1
    obtain ⟨o0, o1, o2, o3, o4, o5⟩ := box6 K9.out.now.2.2.2.2.2.1
    have hpa := fun w => rParent_g p w (sz_of (show p.length ≤ 3000 from (HO.out (by first | rfl | trivial)).1) (by omega))
    rw [HU.out] at hpa
    simp only [Option.getD_some, Option.isSome_some] at hpa
    have HPA := Lib.hid hpa
    clear hpa
    go_wp2_with fail
    refine (HPA.out _).mono ?_
    rintro e w8 ⟨rfl, hg⟩
    have KA := Lib.hid (K9.out.later hg.fp)
    clear hg HPA K9 s0 s1 s2 s3 s4 x0 x1 x2 x3 x4 o0 o1 o2 o3 o4 o5
    go_wp2_with fail
    have H0 := Lib.hid (Fp.refl Non w8)
    have hn5 : n ≤ 512 := by rw [HX.out]; exact HT.out.most
    have heq := eq_nds
    go_loopw [16] (fun i wr => ∃ k : Nat, k ≤ n ∧ i = .int .i64 k ∧ Hid (Fp Non w8 wr)) (fun i _ => n - (RowKit.intOf i).toNat)
    case atStart => exact ⟨0, Nat.zero_le _, rfl, H0⟩
    case round =>
      clear H0
      obtain ⟨k, hk, rfl, hR⟩ := hrel
      rename_i wr _
      have HK := Lib.hid (KA.out.later hR.out)
      by_cases hlt : k < n
      · have hkl : k < l.length := by rw [← HX.out]; exact hlt
        have hkb : k < b.length := by rw [HBL.out]; exact hkl
        obtain ⟨g, o, cap', e, _, _, _, hcell⟩ := HK.out.now.2.2.2.2.2.2.2.1.at (by omega)
        injection e with e1 e2 e3
        subst e1 e3
        clear e2
        obtain ⟨g2, o2, cap2, e, _, _, _, hcell2⟩ := HK.out.now.2.1.at (by omega)
        injection e with e1 e2 e3
        subst e1 e3
        clear e2
        have hnd := hcell k hkl
        have hnd2 := hcell2 k hkb
        have hbe := HTu.out k hkl hkb
        have hxm : l[k] ∈ l := List.getElem_mem hkl
        generalize l[k] = x at *
        generalize b[k] = y at *
        have hft := (fits_iff x).1 (HT.out.fit x hxm)
        have hxt : 0 ≤ x.turn ∧ x.turn ≤ 10000 := by omega
        have HXT := Lib.hid hxt
        have HND := Lib.hid hnd
        have HL := Lib.hid hlt
        have d0 := hnd2.c0; have d1 := hnd2.c1; have d2 := hnd2.c2; have d3 := hnd2.c3; have d4 := hnd2.c4
        unfold strV at d0 d1
        have q3 : ((k : Int) < (n : Int)) = True := eq_true (by omega)
        have q4 : (k < n) = True := eq_true hlt
        have hfy := fp_alloc wr (.cells #[.string (B y.path), .string (B y.data), .int .i64 y.ver, .int .i64 y.turn, .int .i64 y.own] TN)
        have hby := heap_alloc_new wr (.cells #[.string (B y.path), .string (B y.data), .int .i64 y.ver, .int .i64 y.turn, .int .i64 y.own] TN)
        obtain ⟨o0, o1, o2', o3, o4, o5⟩ := box6 (HK.out.later hfy).now.2.2.2.2.2.1
        have HY := Lib.hid (And.intro hfy hby)
        clear hnd hnd2 hcell hcell2 hft hxt hxm hkl hkb hlt hfy hby
        by_cases htp : t = true ∧ x.path = u
        · rw [if_pos htp] at hbe
          obtain ⟨yp, yd, yv, yt, yo⟩ := y
          injection hbe with h1 h2 h3 h4 h5
          subst h1 h2 h3 h5
          dsimp only at d0 d1 d2 d3 d4 HY o0 o1 o2' o3 o4 o5
          obtain ⟨ht1, ht2⟩ := htp
          subst ht1
          have hp1 : (x.path == u) = true := beq_iff_eq.2 ht2
          have hp2 : (x.path = u) = True := eq_true ht2
          have wk : IntKind.i64.wrap (yt - 1) = x.turn := by rw [IntKind.wrap_i64]; have := HXT.out; omega
          clear h4 ht2
          have hby := HY.out.2
          have fz : ∀ j, (wr.alloc (.cells #[.string (B x.path), .string (B x.data), .int .i64 x.ver, .int .i64 yt, .int .i64 x.own] TN)).frozen? ⟨wr.heap.size, j, none⟩ = false := fun j => frozen_row hby j
          have f3 := fz 3
          have hfs := fp_alloc wr (.cells #[.string (B x.path), .string (B x.data), .int .i64 x.ver, .int .i64 x.turn, .int .i64 x.own] TN)
          obtain ⟨y0, y1, y2, y3, y4⟩ := (NdAt.box wr x).five
          have c0 := (HND.out.keep hfs (fun h => h)).c0; have c1 := (HND.out.keep hfs (fun h => h)).c1; have c2' := (HND.out.keep hfs (fun h => h)).c2; have c3' := (HND.out.keep hfs (fun h => h)).c3; have c4 := (HND.out.keep hfs (fun h => h)).c4
          unfold strV at c0 c1
          have HFS := Lib.hid hfs
          have q5 : decide (x = x) = true := decide_eq_true rfl
          clear hby fz hfs
          go_wp2_with fail
          go_quiet (fail)
          go_wp2
          have hj := HL.out
          go_roundw
          case rel => exact ⟨k + 1, by omega, by go_num, (hR.out.then HFS.out).drewN _⟩
          case measure => simp [RowKit.intOf]; omega
        · rw [if_neg htp] at hbe
          subst hbe
          have q5 : decide (y = y) = true := decide_eq_true rfl
          obtain ⟨y0, y1, y2, y3, y4⟩ := box5 HY.out.2
          have c0 := (HND.out.keep HY.out.1 (fun h => h)).c0; have c1 := (HND.out.keep HY.out.1 (fun h => h)).c1; have c2' := (HND.out.keep HY.out.1 (fun h => h)).c2; have c3' := (HND.out.keep HY.out.1 (fun h => h)).c3; have c4 := (HND.out.keep HY.out.1 (fun h => h)).c4
          unfold strV at c0 c1
          by_cases hpu : y.path = u
          · have htf : t = false := by
              cases t with
              | false => rfl
              | true => exact absurd ⟨rfl, hpu⟩ htp
            subst htf
            have hp1 : (y.path == u) = true := beq_iff_eq.2 hpu
            have hp2 : (y.path = u) = True := eq_true hpu
            clear htp hpu
            go_wp2_with fail
            go_quiet (fail)
            go_wp2
            have hj := HL.out
            go_roundw
            case rel => exact ⟨k + 1, by omega, by go_num, (hR.out.then HY.out.1).drewN _⟩
            case measure => simp [RowKit.intOf]; omega
          · have hp1 : (y.path == u) = false := beq_eq_false_iff_ne.2 hpu
            have hp2 : (y.path = u) = False := eq_false hpu
            clear htp hpu
            go_wp2_with fail
            go_quiet (fail)
            go_wp2
            have hj := HL.out
            go_roundw
            case rel => exact ⟨k + 1, by omega, by go_num, (hR.out.then HY.out.1).drewN _⟩
            case measure => simp [RowKit.intOf]; omega
      · have hke : k = n := by omega
        subst hke
        have q3 : ((k : Int) < (k : Int)) = False := eq_false (by omega)
        have F6 := Lib.hid HK.out.now.2.2.2.2.2.2.1
        clear hlt hk
        go_wp2
        go_ret
        exact ⟨rfl, F6.out⟩
end Go.Proofs.YthaepjeikicigaaDoor
