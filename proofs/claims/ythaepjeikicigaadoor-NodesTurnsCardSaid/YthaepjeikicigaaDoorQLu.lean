/- A text of this proof. -/
import Derived.Test.YthaepjeikicigaaDoorQLs
import Derived.Test.YthaepjeikicigaaDoorQIo
/- NodesTurns, walked. -/
namespace Go.Proofs.YthaepjeikicigaaDoor
set_option maxRecDepth 20000
set_option linter.unusedVariables false
set_option linter.unusedSimpArgs false
open Go.RowKit Pm

/-- A creation by turns, on any nodes. -/
inductive TuW (l : List Nd) (p la : Bs) (w' : World) (e : Ending) : Prop where
  | arg (ao : Option Addr) (c m : Nat) (n : Option Addr) (c2 : Nat) (he : e = .returned (.tuple #[.slice ao m c, .agg #[.int .i64 1, .string ⟨#[]⟩, .string ⟨#[]⟩, .int .i64 0, .slice n 0 c2]]))
  | vain (ao : Option Addr) (c : Nat) (k : Int) (n : Option Addr) (c2 : Nat) (he : e = .returned (.tuple #[.slice ao l.length c, .agg #[.int .i64 k, .string ⟨#[]⟩, .string ⟨#[]⟩, .int .i64 0, .slice n 0 c2]])) (h0 : k ≠ 0) (h1 : k ≠ 1) (hl : Ns w' (.slice ao l.length c) l) (hR : Rises l p la)
  | done (ao : Option Addr) (c : Nat) (n : Option Addr) (m c2 : Nat) (a : List Nd) (rp rd : Bs) (rv : Int) (he : e = .returned (.tuple #[.slice ao a.length c, .agg #[.int .i64 0, .string (B rp), .string (B rd), .int .i64 rv, .slice n m c2]])) (hl : Ns w' (.slice ao a.length c) a) (hR : Rises a p rp) (hlt : lt la rp = true)
theorem Turn_w (v : Value) (l : List Nd) (p la : Bs) (w : World) (hv : Ns w v l) (hs : Sp l) (hr : Tr l → Rises l p la) (hp : p.length ≤ 1000000) (ht : Tab w) :
    Calls Tryd.prog 14 #[v, .agg #[.int .i64 1, .string (B p), .string ⟨#[]⟩, .int .i64 0, .int .i64 0, .bool true]] w fun e w' => TuW l p la w' e ∧ Fp Non w w' := by
  refine (Apply_c v l (turnOp p) w hv hs hp ht).mono fun e w' h => ⟨?_, h.fp⟩
  obtain ⟨v', nv, rfl, h1, h2⟩ := h.ex
  obtain ⟨ao, c, rfl⟩ := h1.shape
  obtain ⟨n, c2, rfl⟩ := h2.shape
  by_cases hrm : right l = true ∧ may (turnOp p) = true
  · have hT := ((right_iff l).1 hrm.1).tr
    have hm := hrm.2
    rw [apply_yes hT hm] at h1 ⊢
    have hpe := perform_err hT hm
    by_cases h0 : (perform l (turnOp p)).2.err = 0
    · obtain ⟨k1, k2, _⟩ := (hr hT).made hm h0
      rw [h0]
      exact .done ao c n _ c2 _ _ _ _ rfl h1 k2 k1
    · obtain ⟨e1, e2⟩ := hpe.2 h0
      rw [e2] at hpe h0 ⊢
      rw [e1] at h1 ⊢
      exact .vain ao c _ n c2 rfl h0 hpe.1 h1 (hr hT)
  · rw [apply_no hrm]
    exact .arg ao c _ n c2 rfl
/-- What comes between. -/
inductive BeW (l : List Nd) (p la : Bs) (w' : World) (e : Ending) : Prop where
  | arg (ao : Option Addr) (c m : Nat) (n : Option Addr) (c2 : Nat) (he : e = .returned (.tuple #[.slice ao m c, .agg #[.int .i64 1, .string ⟨#[]⟩, .string ⟨#[]⟩, .int .i64 0, .slice n 0 c2]]))
  | run (ao : Option Addr) (c : Nat) (k : Int) (rp rd : Bs) (rv : Int) (n : Option Addr) (m c2 : Nat) (b : List Nd) (he : e = .returned (.tuple #[.slice ao b.length c, .agg #[.int .i64 k, .string (B rp), .string (B rd), .int .i64 rv, .slice n m c2]])) (h1 : k ≠ 1) (hl : Ns w' (.slice ao b.length c) b) (hR : Rises b p la)
theorem Between_w (v : Value) (l : List Nd) (p la : Bs) (o : Opn) (w : World) (hv : Ns w v l) (hr : Rises l p la) (hb : ∀ u, parent p = some u → inB u o.path = true → o.kind = 3 ∨ o.kind = 1) (hp : o.path.length ≤ 1000000) (ht : Tab w) :
    Calls Tryd.prog 14 #[v, opV o] w fun e w' => BeW l p la w' e ∧ Fp Non w w' := by
  refine (Apply_c v l o w hv (tr_few hr.tr).2 hp ht).mono fun e w' h => ⟨?_, h.fp⟩
  obtain ⟨v', nv, rfl, h1, h2⟩ := h.ex
  obtain ⟨ao, c, rfl⟩ := h1.shape
  obtain ⟨n, c2, rfl⟩ := h2.shape
  cases hm : may o with
  | false =>
    have e1 := apply_no (l := l) (o := o) (fun k => by rw [hm] at k; cases k.2)
    simp only [e1]
    exact .arg ao c _ n c2 rfl
  | true =>
    rw [apply_yes hr.tr hm] at h1 ⊢
    exact .run ao c _ _ _ _ n _ c2 _ rfl (perform_err hr.tr hm).1 h1 (hr.between hm hb)

theorem not_le {a b : Bs} (h : lt a b = true) : (Op.bytesLess b a || b == a) = false := by
  have h1 : Op.bytesLess b a = false := lt_asymm h
  have h2 : (b == a) = false := beq_eq_false_iff_ne.2 (lt_ne h).symm
  rw [h1, h2]; rfl
/-- Ahead of round k. -/
structure TuM (p : Bs) (w : World) (lv : Value) (la : Bs) (wr : World) : Prop where
  ex : ∃ lk, Ns wr lv lk ∧ Sp lk ∧ (Tr lk → Rises lk p la)
  fp : Fp Non w wr

set_option maxHeartbeats 16000000 in
theorem NodesTurns_c (v : Value) (l : List Nd) (p : Bs) (dv : Value) (dl : List Opn) (w : World) (hv : Ns w v l) (hn : l.length ≤ 140737488355328) (hdv : Ops w dv dl) (hd0 : True) (ht : Tab w) :
    Calls Tryd.prog 6 #[v, .string (B p), dv] w fun e w' => e = .returned (.bool true) ∧ Fp Non w w' := by
  obtain ⟨da, dc, rfl⟩ := hdv.shape
  have HD := Lib.hid hdv
  clear hdv hd0
  obtain ⟨dn, hdn⟩ : ∃ dn, dn = dl.length := ⟨_, rfl⟩
  have HDN := Lib.hid hdn
  rw [← hdn]
  clear hdn
  obtain ⟨ao, cap, rfl⟩ := hv.shape
  have K0 := Lib.hid (Kp.and (Kp.fp (Fp.refl Non w)) (Kp.and (Kp.ns hv) (Kp.tab ht)))
  have HN := Lib.hid hn
  clear hv ht hn
  obtain ⟨n, hnn⟩ : ∃ n, n = l.length := ⟨_, rfl⟩
  have HX := Lib.hid hnn
  rw [← hnn]
  clear hnn
  go_enter Tryd.func6, Tryd.ntmps6
  go_wp2_with fail
  refine (head_c _ K0.out.now.2.2).mono ?_
  rintro e w1 ⟨rfl, hf⟩
  have K1 := Lib.hid (K0.out.later hf)
  clear hf K0
  have hgr := Great_c _ l w1 K1.out.now.2.1 HN.out
  rw [← HX.out] at hgr
  have HGR := Lib.hid hgr
  clear hgr
  go_wp2_with fail
  refine HGR.out.mono ?_
  rintro e w2 ⟨g, rfl, hg, hf⟩
  have K2 := Lib.hid (K1.out.later hf)
  have HG := Lib.hid hg
  clear hf hg K1 HGR HN
  cases g with
  | true =>
    have F2 := Lib.hid K2.out.now.1
    clear K2 HG
    go_wp2
    go_ret
    exact ⟨rfl, F2.out⟩
  | false =>
  by_cases hlong : 1000 < p.length
  · have qa : (1000 < p.length) = True := eq_true hlong
    have qb : ((1000 : Int) < (p.length : Int)) = True := eq_true (by omega)
    clear hlong
    have F2 := Lib.hid K2.out.now.1
    clear K2 HG
    go_wp2
    go_ret
    exact ⟨rfl, F2.out⟩
  have qa : (1000 < p.length) = False := eq_false hlong
  have qb : ((1000 : Int) < (p.length : Int)) = False := eq_false (by omega)
  have HLP := Lib.hid (show p.length ≤ 1000 by omega)
  clear hlong
  by_cases hd4 : 40 < dn
  · have qc : (40 < dn) = True := eq_true hd4
    have qd : ((40 : Int) < (dn : Int)) = True := eq_true (by omega)
    clear hd4
    have F2 := Lib.hid K2.out.now.1
    clear K2 HG
    go_wp2
    go_ret
    exact ⟨rfl, F2.out⟩
  have qc : (40 < dn) = False := eq_false hd4
  have qd : ((40 : Int) < (dn : Int)) = False := eq_false (by omega)
  have hd5 : dn ≤ 40 := by omega
  clear hd4
  have hsp := few_sp (by have := HG.out (by first | rfl | trivial); rw [HX.out] at this; exact this)
  have hpa := fun w => rParent_g p w (sz_of HLP.out (by omega))
  obtain ⟨u, hu⟩ : ∃ u, (parent p).getD [] = u := ⟨_, rfl⟩
  obtain ⟨is, hi⟩ : ∃ b, (parent p).isSome = b := ⟨_, rfl⟩
  rw [hu, hi] at hpa
  have HPA := Lib.hid hpa
  have HU := Lib.hid hu
  have HSP := Lib.hid hsp
  clear hpa hu hi hsp HG
  go_wp2_with fail
  refine (HPA.out _).mono ?_
  rintro e w3 ⟨rfl, hg⟩
  have K3 := Lib.hid (K2.out.later hg.fp)
  clear hg K2 HPA
  go_wp2_with fail
  have hul : u.length ≤ 1000 := by
    rw [← HU.out]
    cases h : parent p with
    | none => simp
    | some v =>
      obtain ⟨_, _, _, h1, _⟩ := parent_some h
      simp only [Option.getD_some]; omega
  have HUL := Lib.hid hul
  clear hul
  have H0 : Hid (TuM p w3 (.slice ao n cap) [] w3) := ⟨⟨l, by have := K3.out.now.2.1; rw [← HX.out] at this; exact this, HSP.out, fun h => ⟨h, .inl rfl⟩⟩, Fp.refl _ _⟩
  go_loopw [0, 10, 11] (fun lv lav i wr => ∃ k : Nat, k ≤ dn + 1 ∧ i = .int .i64 k ∧ ∃ la, lav = .string (B la) ∧ Hid (TuM p w3 lv la wr)) (fun _ _ i _ => dn + 1 - (RowKit.intOf i).toNat)
  case atStart => exact ⟨0, Nat.zero_le _, rfl, [], rfl, H0⟩
  case round =>
    clear H0
    obtain ⟨k, hk, rfl, la, rfl, hR⟩ := hrel
    rename_i wr _
    have HK := Lib.hid (K3.out.later hR.out.fp)
    by_cases hle : k ≤ dn
    · have p3 : ((k : Int) ≤ (dn : Int)) = True := eq_true (by omega)
      have p4 : (k ≤ dn) = True := eq_true hle
      have p5 : ((dn : Int) < (k : Int)) = False := eq_false (by omega)
      obtain ⟨lk, hns, hsk, hrk⟩ := hR.out.ex
      have htu := Turn_w _ lk p la wr hns hsk hrk (by have := HLP.out; omega) HK.out.now.2.2
      have HTU := Lib.hid htu
      have HLE := Lib.hid hle
      clear hsk hrk htu hle
      obtain ⟨a0, c0, rfl⟩ := hns.shape
      clear hns
      go_wp2_with fail
      refine HTU.out.mono ?_
      rintro e w5 ⟨hw, hf⟩
      have K5 := Lib.hid (Kp.and (Kp.fp (hR.out.fp.then hf)) (HK.out.later hf))
      clear hf HTU
      rcases hw with ⟨a1, c1, m1, na, c2, rfl⟩ | ⟨a1, c1, e1, na, c2, rfl, h0, h1, hl, hri⟩ | ⟨a1, c1, na, m2, c2, L, rp, rd, rv, rfl, hl, hri, hlt2⟩
      · have F5 := Lib.hid ((K5.out.later (fp_alloc w5 (.cells #[.int .i64 1, .string ⟨#[]⟩, .string ⟨#[]⟩, .int .i64 0, .slice na 0 c2] TR))).now.2.1)
        clear K5
        go_wp2
        go_ret
        exact ⟨rfl, F5.out⟩
      · have qe0 : (e1 == 0) = false := beq_eq_false_iff_ne.2 h0
        have qe1 : (e1 == 1) = false := beq_eq_false_iff_ne.2 h1
        have qe2 : (e1 = 0) = False := eq_false h0
        have qe3 : (e1 = 1) = False := eq_false h1
        clear h0 h1
        have HRI := Lib.hid hri
        have K6 := Lib.hid (Kp.and ((Kp.ns hl).later (fp_alloc w5 (.cells #[.int .i64 e1, .string ⟨#[]⟩, .string ⟨#[]⟩, .int .i64 0, .slice na 0 c2] TR))) (K5.out.later (fp_alloc w5 (.cells #[.int .i64 e1, .string ⟨#[]⟩, .string ⟨#[]⟩, .int .i64 0, .slice na 0 c2] TR))))
        clear hri hl K5
        by_cases hlt : k < dn
        · have r3 : ((k : Int) < (dn : Int)) = True := eq_true (by omega)
          have r4 : (k < dn) = True := eq_true hlt
          have hkl : k < dl.length := by rw [← HDN.out]; exact hlt
          obtain ⟨g, o, cap', e, hcell⟩ := HD.out.at (by omega)
          injection e with e1' e2' e3'
          subst e1' e3'
          clear e2'
          have hop := (hcell k hkl)
          generalize dl[k] = x at *
          obtain ⟨xk, xp, xd, xv, xo, xt⟩ := x
          have HOP := Lib.hid hop
          clear hcell hkl hop hlt
          have hx := HOP.out.keep K6.out.now.2.2.1 (fun h => h)
          have x0 := hx.c0; have x1 := hx.c1; have x2 := hx.c2; have x3 := hx.c3; have x4 := hx.c4; have x5 := hx.c5
          unfold strV at x1 x2
          clear hx
          go_wp2_with fail
          refine (GreatOp_c ⟨xk, xp, xd, xv, xo, xt⟩ _).mono ?_
          rintro e w6 ⟨gg, rfl, hg, hf⟩
          have K7 := Lib.hid (K6.out.later hf)
          have HXG := Lib.hid hg
          clear hf hg K6 x0 x1 x2 x3 x4 x5
          cases gg with
          | true =>
            go_wp2
            go_roundw
            case rel => exact ⟨k + 1, by have := HLE.out; omega, by go_num, la, rfl, ⟨⟨lk, K7.out.now.1, (tr_few HRI.out.tr).2, fun _ => HRI.out⟩, K7.out.now.2.1⟩⟩
            case measure => have := HLE.out; simp [RowKit.intOf]; omega
          | false =>
            have HXL := Lib.hid (show xp.length ≤ 3000 from (HXG.out (by first | rfl | trivial)).1)
            have hx := HOP.out.keep K7.out.now.2.2.1 (fun h => h)
            have x0 := hx.c0; have x1 := hx.c1; have x2 := hx.c2; have x3 := hx.c3; have x4 := hx.c4; have x5 := hx.c5
            unfold strV at x1 x2
            have hin := fun w => rIn_g u xp w (sz_of HUL.out (by omega)) (sz_of HXL.out (by omega))
            obtain ⟨bi, hbi⟩ : ∃ b, inB u xp = b := ⟨_, rfl⟩
            rw [hbi] at hin
            have HIN := Lib.hid hin
            have HBI := Lib.hid hbi
            clear hx hin hbi
            go_wp2_with fail
            refine (HIN.out _).mono ?_
            rintro e w7 ⟨rfl, hg⟩
            have K8 := Lib.hid (K7.out.later hg.fp)
            clear hg K7 x0 x1 x2 x3 x4 x5
            have hx := HOP.out.keep K8.out.now.2.2.1 (fun h => h)
            have x0 := hx.c0; have x1 := hx.c1; have x2 := hx.c2; have x3 := hx.c3; have x4 := hx.c4; have x5 := hx.c5
            unfold strV at x1 x2
            clear hx
            cases bi with
            | false =>
              have hbt := fun w' h1 h2 => Between_w (.slice a1 lk.length c1) lk p la ⟨xk, xp, xd, xv, xo, xt⟩ w' h1 HRI.out (fun u' h1 h2 => by have := HU.out; rw [h1] at this; simp only [Option.getD_some] at this; subst this; rw [HBI.out] at h2; cases h2) (show xp.length ≤ 1000000 by have := HXL.out; omega) h2
              go_wp2_with fail
              refine (hbt _ K8.out.now.1 K8.out.now.2.2.2.2).mono ?_
              rintro e w8 ⟨hw, hf⟩
              have K9 := Lib.hid (K8.out.later hf)
              clear hf hbt x0 x1 x2 x3 x4 x5
              rcases hw with ⟨a3, c3, m3, n3, c4, rfl⟩ | ⟨a3, c3, e3, rp3, rd3, rv3, n3, m3, c4, b, rfl, h31, hlb, hrb⟩
              · have KA := Lib.hid (K9.out.later (fp_alloc w8 (.cells #[.int .i64 1, .string ⟨#[]⟩, .string ⟨#[]⟩, .int .i64 0, .slice n3 0 c4] TR)))
                clear K8 K9
                go_wp2
                go_roundw
                case rel => exact ⟨k + 1, by have := HLE.out; omega, by go_num, la, rfl, ⟨⟨lk, KA.out.now.1, (tr_few HRI.out.tr).2, fun _ => HRI.out⟩, KA.out.now.2.1⟩⟩
                case measure => have := HLE.out; simp [RowKit.intOf]; omega
              · have qf0 : (e3 == 1) = false := beq_eq_false_iff_ne.2 h31
                have qf1 : (e3 = 1) = False := eq_false h31
                have qf2 : (e3 != 1) = true := by simpa using h31
                have KA := Lib.hid (Kp.and ((Kp.ns hlb).later (fp_alloc w8 (.cells #[.int .i64 e3, .string (B rp3), .string (B rd3), .int .i64 rv3, .slice n3 m3 c4] TR))) (K9.out.later (fp_alloc w8 (.cells #[.int .i64 e3, .string (B rp3), .string (B rd3), .int .i64 rv3, .slice n3 m3 c4] TR))))
                have HRB := Lib.hid hrb
                clear K8 K9 h31 hlb hrb
                go_wp2
                go_roundw
                case rel => exact ⟨k + 1, by have := HLE.out; omega, by go_num, la, rfl, ⟨⟨b, KA.out.now.1, (tr_few HRB.out.tr).2, fun _ => HRB.out⟩, KA.out.now.2.2.1⟩⟩
                case measure => have := HLE.out; simp [RowKit.intOf]; omega
            | true =>
              by_cases h3 : xk = 3
              · subst h3
                have hbt := fun w' h1 h2 => Between_w (.slice a1 lk.length c1) lk p la ⟨3, xp, xd, xv, xo, xt⟩ w' h1 HRI.out (fun _ _ _ => .inl rfl) (show xp.length ≤ 1000000 by have := HXL.out; omega) h2
                go_wp2_with fail
                refine (hbt _ K8.out.now.1 K8.out.now.2.2.2.2).mono ?_
                rintro e w8 ⟨hw, hf⟩
                have K9 := Lib.hid (K8.out.later hf)
                clear hf hbt x0 x1 x2 x3 x4 x5
                rcases hw with ⟨a3, c3, m3, n3, c4, rfl⟩ | ⟨a3, c3, e3, rp3, rd3, rv3, n3, m3, c4, b, rfl, h31, hlb, hrb⟩
                · have KA := Lib.hid (K9.out.later (fp_alloc w8 (.cells #[.int .i64 1, .string ⟨#[]⟩, .string ⟨#[]⟩, .int .i64 0, .slice n3 0 c4] TR)))
                  clear K8 K9
                  go_wp2
                  go_roundw
                  case rel => exact ⟨k + 1, by have := HLE.out; omega, by go_num, la, rfl, ⟨⟨lk, KA.out.now.1, (tr_few HRI.out.tr).2, fun _ => HRI.out⟩, KA.out.now.2.1⟩⟩
                  case measure => have := HLE.out; simp [RowKit.intOf]; omega
                · have qf0 : (e3 == 1) = false := beq_eq_false_iff_ne.2 h31
                  have qf1 : (e3 = 1) = False := eq_false h31
                  have qf2 : (e3 != 1) = true := by simpa using h31
                  have KA := Lib.hid (Kp.and ((Kp.ns hlb).later (fp_alloc w8 (.cells #[.int .i64 e3, .string (B rp3), .string (B rd3), .int .i64 rv3, .slice n3 m3 c4] TR))) (K9.out.later (fp_alloc w8 (.cells #[.int .i64 e3, .string (B rp3), .string (B rd3), .int .i64 rv3, .slice n3 m3 c4] TR))))
                  have HRB := Lib.hid hrb
                  clear K8 K9 h31 hlb hrb
                  go_wp2
                  go_roundw
                  case rel => exact ⟨k + 1, by have := HLE.out; omega, by go_num, la, rfl, ⟨⟨b, KA.out.now.1, (tr_few HRB.out.tr).2, fun _ => HRB.out⟩, KA.out.now.2.2.1⟩⟩
                  case measure => have := HLE.out; simp [RowKit.intOf]; omega
              · by_cases h1 : xk = 1
                · subst h1
                  have hbt := fun w' h1 h2 => Between_w (.slice a1 lk.length c1) lk p la ⟨1, xp, xd, xv, xo, xt⟩ w' h1 HRI.out (fun _ _ _ => .inr rfl) (show xp.length ≤ 1000000 by have := HXL.out; omega) h2
                  go_wp2_with fail
                  refine (hbt _ K8.out.now.1 K8.out.now.2.2.2.2).mono ?_
                  rintro e w8 ⟨hw, hf⟩
                  have K9 := Lib.hid (K8.out.later hf)
                  clear hf hbt x0 x1 x2 x3 x4 x5
                  rcases hw with ⟨a3, c3, m3, n3, c4, rfl⟩ | ⟨a3, c3, e3, rp3, rd3, rv3, n3, m3, c4, b, rfl, h31, hlb, hrb⟩
                  · have KA := Lib.hid (K9.out.later (fp_alloc w8 (.cells #[.int .i64 1, .string ⟨#[]⟩, .string ⟨#[]⟩, .int .i64 0, .slice n3 0 c4] TR)))
                    clear K8 K9
                    go_wp2
                    go_roundw
                    case rel => exact ⟨k + 1, by have := HLE.out; omega, by go_num, la, rfl, ⟨⟨lk, KA.out.now.1, (tr_few HRI.out.tr).2, fun _ => HRI.out⟩, KA.out.now.2.1⟩⟩
                    case measure => have := HLE.out; simp [RowKit.intOf]; omega
                  · have qf0 : (e3 == 1) = false := beq_eq_false_iff_ne.2 h31
                    have qf1 : (e3 = 1) = False := eq_false h31
                    have qf2 : (e3 != 1) = true := by simpa using h31
                    have KA := Lib.hid (Kp.and ((Kp.ns hlb).later (fp_alloc w8 (.cells #[.int .i64 e3, .string (B rp3), .string (B rd3), .int .i64 rv3, .slice n3 m3 c4] TR))) (K9.out.later (fp_alloc w8 (.cells #[.int .i64 e3, .string (B rp3), .string (B rd3), .int .i64 rv3, .slice n3 m3 c4] TR))))
                    have HRB := Lib.hid hrb
                    clear K8 K9 h31 hlb hrb
                    go_wp2
                    go_roundw
                    case rel => exact ⟨k + 1, by have := HLE.out; omega, by go_num, la, rfl, ⟨⟨b, KA.out.now.1, (tr_few HRB.out.tr).2, fun _ => HRB.out⟩, KA.out.now.2.2.1⟩⟩
                    case measure => have := HLE.out; simp [RowKit.intOf]; omega
                · have z0 : (xk == 3) = false := beq_eq_false_iff_ne.2 h3
                  have z1 : (xk == 1) = false := beq_eq_false_iff_ne.2 h1
                  have z2 : (xk = 3) = False := eq_false h3
                  have z3 : (xk = 1) = False := eq_false h1
                  have z4 : (xk != 3) = true := by simpa using h3
                  have z5 : (xk != 1) = true := by simpa using h1
                  clear h3 h1
                  go_wp2
                  go_roundw
                  case rel => exact ⟨k + 1, by have := HLE.out; omega, by go_num, la, rfl, ⟨⟨lk, K8.out.now.1, (tr_few HRI.out.tr).2, fun _ => HRI.out⟩, K8.out.now.2.1⟩⟩
                  case measure => have := HLE.out; simp [RowKit.intOf]; omega
        · have r3 : ((k : Int) < (dn : Int)) = False := eq_false (by omega)
          have r4 : (k < dn) = False := eq_false hlt
          clear hlt
          go_wp2
          go_roundw
          case rel => exact ⟨k + 1, by have := HLE.out; omega, by go_num, la, rfl, ⟨⟨lk, K6.out.now.1, (tr_few HRI.out.tr).2, fun _ => HRI.out⟩, K6.out.now.2.1⟩⟩
          case measure => have := HLE.out; simp [RowKit.intOf]; omega
      · have hx1 : Op.bytesLess la rp = true := hlt2
        have hx2 : (Op.bytesLess rp la || rp == la) = false := not_le hlt2
        have hx3 : Op.bytesLess rp la = false := lt_asymm hlt2
        have hx4 : (rp == la) = false := beq_eq_false_iff_ne.2 (lt_ne hlt2).symm
        have hx5 : (rp = la) = False := eq_false (lt_ne hlt2).symm
        clear hlt2
        have HRI := Lib.hid hri
        have K6 := Lib.hid (Kp.and ((Kp.ns hl).later (fp_alloc w5 (.cells #[.int .i64 0, .string (B rp), .string (B rd), .int .i64 rv, .slice na m2 c2] TR))) (K5.out.later (fp_alloc w5 (.cells #[.int .i64 0, .string (B rp), .string (B rd), .int .i64 rv, .slice na m2 c2] TR))))
        clear hri hl K5
        by_cases hlt : k < dn
        · have r3 : ((k : Int) < (dn : Int)) = True := eq_true (by omega)
          have r4 : (k < dn) = True := eq_true hlt
          have hkl : k < dl.length := by rw [← HDN.out]; exact hlt
          obtain ⟨g, o, cap', e, hcell⟩ := HD.out.at (by omega)
          injection e with e1' e2' e3'
          subst e1' e3'
          clear e2'
          have hop := (hcell k hkl)
          generalize dl[k] = x at *
          obtain ⟨xk, xp, xd, xv, xo, xt⟩ := x
          have HOP := Lib.hid hop
          clear hcell hkl hop hlt
          have hx := HOP.out.keep K6.out.now.2.2.1 (fun h => h)
          have x0 := hx.c0; have x1 := hx.c1; have x2 := hx.c2; have x3 := hx.c3; have x4 := hx.c4; have x5 := hx.c5
          unfold strV at x1 x2
          clear hx
          go_wp2_with fail
          refine (GreatOp_c ⟨xk, xp, xd, xv, xo, xt⟩ _).mono ?_
          rintro e w6 ⟨gg, rfl, hg, hf⟩
          have K7 := Lib.hid (K6.out.later hf)
          have HXG := Lib.hid hg
          clear hf hg K6 x0 x1 x2 x3 x4 x5
          cases gg with
          | true =>
            go_wp2
            go_roundw
            case rel => exact ⟨k + 1, by have := HLE.out; omega, by go_num, rp, rfl, ⟨⟨L, K7.out.now.1, (tr_few HRI.out.tr).2, fun _ => HRI.out⟩, K7.out.now.2.1⟩⟩
            case measure => have := HLE.out; simp [RowKit.intOf]; omega
          | false =>
            have HXL := Lib.hid (show xp.length ≤ 3000 from (HXG.out (by first | rfl | trivial)).1)
            have hx := HOP.out.keep K7.out.now.2.2.1 (fun h => h)
            have x0 := hx.c0; have x1 := hx.c1; have x2 := hx.c2; have x3 := hx.c3; have x4 := hx.c4; have x5 := hx.c5
            unfold strV at x1 x2
            have hin := fun w => rIn_g u xp w (sz_of HUL.out (by omega)) (sz_of HXL.out (by omega))
            obtain ⟨bi, hbi⟩ : ∃ b, inB u xp = b := ⟨_, rfl⟩
            rw [hbi] at hin
            have HIN := Lib.hid hin
            have HBI := Lib.hid hbi
            clear hx hin hbi
            go_wp2_with fail
            refine (HIN.out _).mono ?_
            rintro e w7 ⟨rfl, hg⟩
            have K8 := Lib.hid (K7.out.later hg.fp)
            clear hg K7 x0 x1 x2 x3 x4 x5
            have hx := HOP.out.keep K8.out.now.2.2.1 (fun h => h)
            have x0 := hx.c0; have x1 := hx.c1; have x2 := hx.c2; have x3 := hx.c3; have x4 := hx.c4; have x5 := hx.c5
            unfold strV at x1 x2
            clear hx
            cases bi with
            | false =>
              have hbt := fun w' h1 h2 => Between_w (.slice a1 L.length c1) L p rp ⟨xk, xp, xd, xv, xo, xt⟩ w' h1 HRI.out (fun u' h1 h2 => by have := HU.out; rw [h1] at this; simp only [Option.getD_some] at this; subst this; rw [HBI.out] at h2; cases h2) (show xp.length ≤ 1000000 by have := HXL.out; omega) h2
              go_wp2_with fail
              refine (hbt _ K8.out.now.1 K8.out.now.2.2.2.2).mono ?_
              rintro e w8 ⟨hw, hf⟩
              have K9 := Lib.hid (K8.out.later hf)
              clear hf hbt x0 x1 x2 x3 x4 x5
              rcases hw with ⟨a3, c3, m3, n3, c4, rfl⟩ | ⟨a3, c3, e3, rp3, rd3, rv3, n3, m3, c4, b, rfl, h31, hlb, hrb⟩
              · have KA := Lib.hid (K9.out.later (fp_alloc w8 (.cells #[.int .i64 1, .string ⟨#[]⟩, .string ⟨#[]⟩, .int .i64 0, .slice n3 0 c4] TR)))
                clear K8 K9
                go_wp2
                go_roundw
                case rel => exact ⟨k + 1, by have := HLE.out; omega, by go_num, rp, rfl, ⟨⟨L, KA.out.now.1, (tr_few HRI.out.tr).2, fun _ => HRI.out⟩, KA.out.now.2.1⟩⟩
                case measure => have := HLE.out; simp [RowKit.intOf]; omega
              · have qf0 : (e3 == 1) = false := beq_eq_false_iff_ne.2 h31
                have qf1 : (e3 = 1) = False := eq_false h31
                have qf2 : (e3 != 1) = true := by simpa using h31
                have KA := Lib.hid (Kp.and ((Kp.ns hlb).later (fp_alloc w8 (.cells #[.int .i64 e3, .string (B rp3), .string (B rd3), .int .i64 rv3, .slice n3 m3 c4] TR))) (K9.out.later (fp_alloc w8 (.cells #[.int .i64 e3, .string (B rp3), .string (B rd3), .int .i64 rv3, .slice n3 m3 c4] TR))))
                have HRB := Lib.hid hrb
                clear K8 K9 h31 hlb hrb
                go_wp2
                go_roundw
                case rel => exact ⟨k + 1, by have := HLE.out; omega, by go_num, rp, rfl, ⟨⟨b, KA.out.now.1, (tr_few HRB.out.tr).2, fun _ => HRB.out⟩, KA.out.now.2.2.1⟩⟩
                case measure => have := HLE.out; simp [RowKit.intOf]; omega
            | true =>
              by_cases h3 : xk = 3
              · subst h3
                have hbt := fun w' h1 h2 => Between_w (.slice a1 L.length c1) L p rp ⟨3, xp, xd, xv, xo, xt⟩ w' h1 HRI.out (fun _ _ _ => .inl rfl) (show xp.length ≤ 1000000 by have := HXL.out; omega) h2
                go_wp2_with fail
                refine (hbt _ K8.out.now.1 K8.out.now.2.2.2.2).mono ?_
                rintro e w8 ⟨hw, hf⟩
                have K9 := Lib.hid (K8.out.later hf)
                clear hf hbt x0 x1 x2 x3 x4 x5
                rcases hw with ⟨a3, c3, m3, n3, c4, rfl⟩ | ⟨a3, c3, e3, rp3, rd3, rv3, n3, m3, c4, b, rfl, h31, hlb, hrb⟩
                · have KA := Lib.hid (K9.out.later (fp_alloc w8 (.cells #[.int .i64 1, .string ⟨#[]⟩, .string ⟨#[]⟩, .int .i64 0, .slice n3 0 c4] TR)))
                  clear K8 K9
                  go_wp2
                  go_roundw
                  case rel => exact ⟨k + 1, by have := HLE.out; omega, by go_num, rp, rfl, ⟨⟨L, KA.out.now.1, (tr_few HRI.out.tr).2, fun _ => HRI.out⟩, KA.out.now.2.1⟩⟩
                  case measure => have := HLE.out; simp [RowKit.intOf]; omega
                · have qf0 : (e3 == 1) = false := beq_eq_false_iff_ne.2 h31
                  have qf1 : (e3 = 1) = False := eq_false h31
                  have qf2 : (e3 != 1) = true := by simpa using h31
                  have KA := Lib.hid (Kp.and ((Kp.ns hlb).later (fp_alloc w8 (.cells #[.int .i64 e3, .string (B rp3), .string (B rd3), .int .i64 rv3, .slice n3 m3 c4] TR))) (K9.out.later (fp_alloc w8 (.cells #[.int .i64 e3, .string (B rp3), .string (B rd3), .int .i64 rv3, .slice n3 m3 c4] TR))))
                  have HRB := Lib.hid hrb
                  clear K8 K9 h31 hlb hrb
                  go_wp2
                  go_roundw
                  case rel => exact ⟨k + 1, by have := HLE.out; omega, by go_num, rp, rfl, ⟨⟨b, KA.out.now.1, (tr_few HRB.out.tr).2, fun _ => HRB.out⟩, KA.out.now.2.2.1⟩⟩
                  case measure => have := HLE.out; simp [RowKit.intOf]; omega
              · by_cases h1 : xk = 1
                · subst h1
                  have hbt := fun w' h1 h2 => Between_w (.slice a1 L.length c1) L p rp ⟨1, xp, xd, xv, xo, xt⟩ w' h1 HRI.out (fun _ _ _ => .inr rfl) (show xp.length ≤ 1000000 by have := HXL.out; omega) h2
                  go_wp2_with fail
                  refine (hbt _ K8.out.now.1 K8.out.now.2.2.2.2).mono ?_
                  rintro e w8 ⟨hw, hf⟩
                  have K9 := Lib.hid (K8.out.later hf)
                  clear hf hbt x0 x1 x2 x3 x4 x5
                  rcases hw with ⟨a3, c3, m3, n3, c4, rfl⟩ | ⟨a3, c3, e3, rp3, rd3, rv3, n3, m3, c4, b, rfl, h31, hlb, hrb⟩
                  · have KA := Lib.hid (K9.out.later (fp_alloc w8 (.cells #[.int .i64 1, .string ⟨#[]⟩, .string ⟨#[]⟩, .int .i64 0, .slice n3 0 c4] TR)))
                    clear K8 K9
                    go_wp2
                    go_roundw
                    case rel => exact ⟨k + 1, by have := HLE.out; omega, by go_num, rp, rfl, ⟨⟨L, KA.out.now.1, (tr_few HRI.out.tr).2, fun _ => HRI.out⟩, KA.out.now.2.1⟩⟩
                    case measure => have := HLE.out; simp [RowKit.intOf]; omega
                  · have qf0 : (e3 == 1) = false := beq_eq_false_iff_ne.2 h31
                    have qf1 : (e3 = 1) = False := eq_false h31
                    have qf2 : (e3 != 1) = true := by simpa using h31
                    have KA := Lib.hid (Kp.and ((Kp.ns hlb).later (fp_alloc w8 (.cells #[.int .i64 e3, .string (B rp3), .string (B rd3), .int .i64 rv3, .slice n3 m3 c4] TR))) (K9.out.later (fp_alloc w8 (.cells #[.int .i64 e3, .string (B rp3), .string (B rd3), .int .i64 rv3, .slice n3 m3 c4] TR))))
                    have HRB := Lib.hid hrb
                    clear K8 K9 h31 hlb hrb
                    go_wp2
                    go_roundw
                    case rel => exact ⟨k + 1, by have := HLE.out; omega, by go_num, rp, rfl, ⟨⟨b, KA.out.now.1, (tr_few HRB.out.tr).2, fun _ => HRB.out⟩, KA.out.now.2.2.1⟩⟩
                    case measure => have := HLE.out; simp [RowKit.intOf]; omega
                · have z0 : (xk == 3) = false := beq_eq_false_iff_ne.2 h3
                  have z1 : (xk == 1) = false := beq_eq_false_iff_ne.2 h1
                  have z2 : (xk = 3) = False := eq_false h3
                  have z3 : (xk = 1) = False := eq_false h1
                  have z4 : (xk != 3) = true := by simpa using h3
                  have z5 : (xk != 1) = true := by simpa using h1
                  clear h3 h1
                  go_wp2
                  go_roundw
                  case rel => exact ⟨k + 1, by have := HLE.out; omega, by go_num, rp, rfl, ⟨⟨L, K8.out.now.1, (tr_few HRI.out.tr).2, fun _ => HRI.out⟩, K8.out.now.2.1⟩⟩
                  case measure => have := HLE.out; simp [RowKit.intOf]; omega
        · have r3 : ((k : Int) < (dn : Int)) = False := eq_false (by omega)
          have r4 : (k < dn) = False := eq_false hlt
          clear hlt
          go_wp2
          go_roundw
          case rel => exact ⟨k + 1, by have := HLE.out; omega, by go_num, rp, rfl, ⟨⟨L, K6.out.now.1, (tr_few HRI.out.tr).2, fun _ => HRI.out⟩, K6.out.now.2.1⟩⟩
          case measure => have := HLE.out; simp [RowKit.intOf]; omega
    · have hke : k = dn + 1 := by omega
      subst hke
      have p3 : (((dn + 1 : Nat) : Int) ≤ (dn : Int)) = False := eq_false (by omega)
      have p4 : (dn + 1 ≤ dn) = False := eq_false (by omega)
      have p5 : ((dn : Int) < ((dn + 1 : Nat) : Int)) = True := eq_true (by omega)
      have F6 := Lib.hid HK.out.now.1
      clear hle hk
      go_wp2
      go_ret
      exact ⟨rfl, F6.out⟩
end Go.Proofs.YthaepjeikicigaaDoor
