/- A text of this proof. -/
import Derived.Test.YthaepjeikicigaaDoorQLs
import Derived.Test.YthaepjeikicigaaDoorQIo
/- NodesVersions, walked. -/
namespace Go.Proofs.YthaepjeikicigaaDoor
set_option maxRecDepth 20000
set_option linter.unusedVariables false
set_option linter.unusedSimpArgs false
open Go.RowKit Pm

theorem ap_one {l a : List Nd} {o : Opn} {e : Int} {rd : Bs} {rv : Int} (hap : apply l o = (a, ⟨e, [], rd, rv, []⟩)) (v : Value) (w : World) (hv : Ns w v l) (hs : Sp l) (hp : o.path.length ≤ 1000000) (ht : Tab w) :
    Calls Tryd.prog 14 #[v, opV o] w fun e' w' => (∃ ao c an cn, e' = .returned (.tuple #[.slice ao a.length c, .agg #[.int .i64 e, .string ⟨#[]⟩, .string (B rd), .int .i64 rv, .slice an 0 cn]]) ∧ Ns w' (.slice ao a.length c) a) ∧ Fp Non w w' :=
  (hd_ap hap v w hv hs hp ht).mono fun e' w' ⟨⟨v', nv, h, h1, h2⟩, hf⟩ => by
    obtain ⟨an, cn, rfl⟩ := h2.shape
    obtain ⟨ao, c, rfl⟩ := h1.shape
    exact ⟨⟨ao, c, an, cn, h, h1⟩, hf⟩

/-- Ahead of round k. -/
structure VrM (p : Bs) (n : Nat) (v0 : Int) (w : World) (k : Nat) (lv : Value) (wr : World) : Prop where
  ex : ∃ lk y, Ns wr lv lk ∧ Tr lk ∧ lk.length = n ∧ find lk p = some y ∧ y.ver = v0 + k
  fp : Fp Non w wr

set_option maxHeartbeats 16000000 in
theorem NodesVersions_c (v : Value) (l : List Nd) (p : Bs) (dv : Value) (dl : List Bs) (w : World) (hv : Ns w v l) (hn : l.length ≤ 140737488355328) (hdv : Tx w dv dl) (hd0 : True) (ht : Tab w) :
    Calls Tryd.prog 9 #[v, .string (B p), dv] w fun e w' => e = .returned (.bool true) ∧ Fp Non w w' := by
  obtain ⟨da, dc, rfl⟩ := hdv.shape
  have HD := Lib.hid hdv
  clear hdv hd0
  obtain ⟨dn, hdn⟩ : ∃ dn, dn = dl.length := ⟨_, rfl⟩
  have HDN := Lib.hid hdn
  rw [← hdn]
  clear hdn
  obtain ⟨ao, cap, rfl⟩ := hv.shape
  have K0 := Lib.hid (Kp.and (Kp.fp (Fp.refl Non w)) (Kp.and (Kp.ns hv) (Kp.tab ht)))
  have HN := Lib.hid hn
  clear hv ht hn
  obtain ⟨n, hnn⟩ : ∃ n, n = l.length := ⟨_, rfl⟩
  have HX := Lib.hid hnn
  rw [← hnn]
  clear hnn
  go_enter Tryd.func9, Tryd.ntmps9
  go_wp2_with fail
  refine (head_c _ K0.out.now.2.2).mono ?_
  rintro e w1 ⟨rfl, hf⟩
  have K1 := Lib.hid (K0.out.later hf)
  clear hf K0
  have hgr := Great_c _ l w1 K1.out.now.2.1 HN.out
  rw [← HX.out] at hgr
  have HGR := Lib.hid hgr
  clear hgr
  go_wp2_with fail
  refine HGR.out.mono ?_
  rintro e w2 ⟨g, rfl, hg, hf⟩
  have K2 := Lib.hid (K1.out.later hf)
  have HG := Lib.hid hg
  clear hf hg K1 HGR HN
  cases g with
  | true =>
    have F2 := Lib.hid K2.out.now.1
    clear K2 HG
    go_wp2
    go_ret
    exact ⟨rfl, F2.out⟩
  | false =>
  by_cases hlong : 1000 < p.length
  · have qa : (1000 < p.length) = True := eq_true hlong
    have qb : ((1000 : Int) < (p.length : Int)) = True := eq_true (by omega)
    clear hlong
    have F2 := Lib.hid K2.out.now.1
    clear K2 HG
    go_wp2
    go_ret
    exact ⟨rfl, F2.out⟩
  have qa : (1000 < p.length) = False := eq_false hlong
  have qb : ((1000 : Int) < (p.length : Int)) = False := eq_false (by omega)
  have HLP := Lib.hid (show p.length ≤ 1000 by omega)
  clear hlong
  by_cases hd4 : 40 < dn
  · have qc : (40 < dn) = True := eq_true hd4
    have qd : ((40 : Int) < (dn : Int)) = True := eq_true (by omega)
    clear hd4
    have F2 := Lib.hid K2.out.now.1
    clear K2 HG
    go_wp2
    go_ret
    exact ⟨rfl, F2.out⟩
  have qc : (40 < dn) = False := eq_false hd4
  have qd : ((40 : Int) < (dn : Int)) = False := eq_false (by omega)
  have hd5 : dn ≤ 40 := by omega
  clear hd4
  have hrr := rRightN_g _ l w2 K2.out.now.2.1 (few_sp (by have := HG.out (by first | rfl | trivial); rw [HX.out] at this; exact this))
  rw [← HX.out] at hrr
  obtain ⟨br, hbr⟩ : ∃ b, Pm.right l = b := ⟨_, rfl⟩
  rw [hbr] at hrr
  have HRR := Lib.hid hrr
  have HBR := Lib.hid hbr
  clear hrr hbr
  go_wp2_with fail
  refine HRR.out.mono ?_
  rintro e w4 ⟨rfl, hf⟩
  have K4 := Lib.hid (K2.out.later hf)
  clear hf K2 HRR
  cases br with
  | false =>
    have F2 := Lib.hid K4.out.now.1
    clear K4 HG HBR
    go_wp2
    go_ret
    exact ⟨rfl, F2.out⟩
  | true =>
  have HT := Lib.hid ((right_iff l).1 HBR.out).tr
  clear HBR HG
  have hfd := rFind_c _ l p w4 K4.out.now.2.1 (tr_few HT.out).1
  rw [← HX.out] at hfd
  cases hfp : find l p with
  | none =>
    rw [hfp] at hfd
    simp only [Option.getD_none, Option.isSome_none, ndV, strV, zeroNd] at hfd
    have HFD := Lib.hid hfd
    clear hfd
    go_wp2_with fail
    refine HFD.out.mono ?_
    rintro e w5 ⟨rfl, hf⟩
    have F5 := Lib.hid (K4.out.now.1.then (hf.alloc (.cells #[.string (B []), .string (B []), .int .i64 0, .int .i64 0, .int .i64 0] TN)))
    clear hf
    go_wp2
    go_ret
    exact ⟨rfl, F5.out⟩
  | some x =>
    rw [hfp] at hfd
    simp only [Option.getD_some, Option.isSome_some, ndV, strV] at hfd
    have HFD := Lib.hid hfd
    have HFP := Lib.hid hfp
    clear hfd hfp
    go_wp2_with fail
    refine HFD.out.mono ?_
    rintro e w5 ⟨rfl, hf⟩
    have K5 := Lib.hid (K4.out.later (hf.alloc (.cells #[.string (B x.path), .string (B x.data), .int .i64 x.ver, .int .i64 x.turn, .int .i64 x.own] TN)))
    clear hf K4
    by_cases hx1 : 1000 < x.ver
    · have qe : (1000 < x.ver) = True := eq_true hx1
      have F5 := Lib.hid K5.out.now.1
      clear hx1
      go_wp2
      go_ret
      exact ⟨rfl, F5.out⟩
    · have qe : (1000 < x.ver) = False := eq_false hx1
      have hx0 : 0 ≤ x.ver := ((fits_iff x).1 (HT.out.fit x (find_mem HFP.out).1)).2.1
      have HXV := Lib.hid (show 0 ≤ x.ver ∧ x.ver ≤ 1000 by omega)
      clear hx1 hx0
      have hr3 := (NdAt.box w5 x).c2
      go_wp2_with fail
      have hj0 : Hid (VrM p n x.ver (w5.alloc (.cells #[.string (B x.path), .string (B x.data), .int .i64 x.ver, .int .i64 x.turn, .int .i64 x.own] TN)) 0 (.slice ao n cap) (w5.alloc (.cells #[.string (B x.path), .string (B x.data), .int .i64 x.ver, .int .i64 x.turn, .int .i64 x.own] TN))) := ⟨⟨l, x, by have := K5.out.now.2.1; rw [← HX.out] at this; exact this, HT.out, HX.out.symm, HFP.out, by simp⟩, Fp.refl _ _⟩
      clear hr3
      have hd6 := HXV.out
      go_loopw [0, 10, 11] (fun lv vv i wr => ∃ k : Nat, k ≤ dn ∧ i = .int .i64 k ∧ vv = .int .i64 (x.ver + k) ∧ Hid (VrM p n x.ver (w5.alloc (.cells #[.string (B x.path), .string (B x.data), .int .i64 x.ver, .int .i64 x.turn, .int .i64 x.own] TN)) k lv wr)) (fun _ _ i _ => dn - (RowKit.intOf i).toNat)
      case atStart => exact ⟨0, Nat.zero_le _, rfl, by simp, hj0⟩
      case round =>
        clear hj0
        obtain ⟨k, hk, rfl, rfl, hR⟩ := hrel
        rename_i wr _
        by_cases hlt : k < dn
        · have hkl : k < dl.length := by rw [← HDN.out]; exact hlt
          obtain ⟨g, o, cap', e, hcell⟩ := (HD.out).at (by omega)
          injection e with e1 e2 e3
          subst e1 e3
          have hdc := ((K5.out.later hR.out.fp).now.1.cell (hcell k hkl) (fun h => h))
          generalize dl[k] = d at *
          have q3 : ((k : Int) < (dn : Int)) = True := eq_true (by omega)
          have q4 : (k < dn) = True := eq_true hlt
          obtain ⟨lk, y, hns, hTk, hln, hfy, hyv⟩ := hR.out.ex
          obtain ⟨a0, c0, e⟩ := hns.shape
          rw [hln] at e
          subst e
          obtain ⟨z, hz⟩ : ∃ z, z = x.ver + k := ⟨_, rfl⟩
          rw [← hz] at hyv ⊢
          have hz0 : 0 ≤ z ∧ z ≤ 1040 := by omega
          have HZ := Lib.hid hz
          by_cases hd2 : 256 < d.length
          · have qg : (256 < d.length) = True := eq_true hd2
            have qh : ((256 : Int) < (d.length : Int)) = True := eq_true (by omega)
            have F6 := Lib.hid (K5.out.later hR.out.fp).now.1
            clear hd2 hns hTk hln hfy hyv hz
            go_wp2
            go_ret
            exact ⟨rfl, F6.out⟩
          · have qg : (256 < d.length) = False := eq_false hd2
            have qh : ((256 : Int) < (d.length : Int)) = False := eq_false (by omega)
            obtain ⟨m, h1, h2, h3, h4, hTm, hfm, hlm⟩ := versions hTk hfy (by omega) (by omega) (show d.length ≤ 256 by omega)
            rw [hyv] at h1 h2 h3 h4 hfm
            have hpl : p.length ≤ 1000000 := by have := HLP.out; omega
            have A1 := Lib.hid (fun v w hv ht => ap_one h1 v w hv (tr_few hTk).2 hpl ht)
            have A2 := Lib.hid (fun v w hv ht => ap_one h2 v w hv (tr_few hTk).2 hpl ht)
            have A3 := Lib.hid (fun v w hv ht => ap_one h3 v w hv (tr_few hTk).2 hpl ht)
            have A4 := Lib.hid (fun v w hv ht => ap_one h4 v w hv (tr_few hTm).2 hpl ht)
            have HM : Hid (∀ w9 lv, Fp Non (w5.alloc (.cells #[.string (B x.path), .string (B x.data), .int .i64 x.ver, .int .i64 x.turn, .int .i64 x.own] TN)) w9 → Ns w9 lv m → VrM p n x.ver (w5.alloc (.cells #[.string (B x.path), .string (B x.data), .int .i64 x.ver, .int .i64 x.turn, .int .i64 x.own] TN)) (k + 1) lv w9) := fun w9 lv f hn9 =>
              ⟨⟨m, _, hn9, hTm, by rw [hlm, hln], hfm, by simp only; rw [HZ.out]; push_cast; omega⟩, f⟩
            have HLM := Lib.hid (show m.length = n by rw [hlm, hln])
            have HLN := Lib.hid hln
            have KA := Lib.hid (Kp.and (Kp.fp (Fp.refl Non wr)) (Kp.and (Kp.ns hns) (Kp.tab (K5.out.later hR.out.fp).now.2.2)))
            have HDC := Lib.hid hdc
            have HL := Lib.hid hlt
            clear hd2 hns hTk hfy hyv h1 h2 h3 h4 hTm hfm hlm hln hcell hkl hlt hpl hz
            go_wp2_with fail
            refine (A1.out _ _ KA.out.now.2.1 KA.out.now.2.2).mono ?_
            rintro e w6 ⟨⟨a1, c1, n1, m1, rfl, _⟩, hf⟩
            have hbx := heap_alloc_new w6 (.cells #[.int .i64 63, .string ⟨#[]⟩, .string (B []), .int .i64 0, .slice n1 0 m1] TR)
            have KB := Lib.hid (Kp.and (Kp.row hbx) (KA.out.later (hf.alloc (.cells #[.int .i64 63, .string ⟨#[]⟩, .string (B []), .int .i64 0, .slice n1 0 m1] TR))))
            clear hf hbx KA hdc
            have hdc := KB.out.now.2.1.cell HDC.out (fun h => h)
            go_wp2_with fail
            refine (A2.out _ _ KB.out.now.2.2.1 KB.out.now.2.2.2).mono ?_
            rintro e w7 ⟨⟨a2, c2, n2, m2, rfl, _⟩, hf⟩
            have hbx := heap_alloc_new w7 (.cells #[.int .i64 63, .string ⟨#[]⟩, .string (B []), .int .i64 0, .slice n2 0 m2] TR)
            have KC := Lib.hid (Kp.and (Kp.row hbx) (KB.out.later (hf.alloc (.cells #[.int .i64 63, .string ⟨#[]⟩, .string (B []), .int .i64 0, .slice n2 0 m2] TR))))
            clear hf hbx KB hdc
            have hdc := KC.out.now.2.2.1.cell HDC.out (fun h => h)
            go_wp2_with fail
            refine (A3.out _ _ KC.out.now.2.2.2.1 KC.out.now.2.2.2.2).mono ?_
            rintro e w8 ⟨⟨a3, c3, n3, m3, rfl, hm⟩, hf⟩
            rw [HLM.out] at hm ⊢
            have hbx := heap_alloc_new w8 (.cells #[.int .i64 0, .string ⟨#[]⟩, .string (B []), .int .i64 (z + 1), .slice n3 0 m3] TR)
            have KD := Lib.hid (Kp.and (Kp.row hbx) (Kp.and ((Kp.ns hm).later (fp_alloc w8 (.cells #[.int .i64 0, .string ⟨#[]⟩, .string (B []), .int .i64 (z + 1), .slice n3 0 m3] TR))) (KC.out.later (hf.alloc (.cells #[.int .i64 0, .string ⟨#[]⟩, .string (B []), .int .i64 (z + 1), .slice n3 0 m3] TR)))))
            clear hf hbx KC hdc hm
            go_wp2_with fail
            refine (A4.out _ _ KD.out.now.2.1 KD.out.now.2.2.2.2.2.2).mono ?_
            rintro e w9 ⟨⟨a4, c4, n4, m4, rfl, _⟩, hf⟩
            have hbx := heap_alloc_new w9 (.cells #[.int .i64 0, .string ⟨#[]⟩, .string (B d), .int .i64 (z + 1), .slice n4 0 m4] TR)
            have KE := Lib.hid (Kp.and (Kp.row hbx) (KD.out.later (hf.alloc (.cells #[.int .i64 0, .string ⟨#[]⟩, .string (B d), .int .i64 (z + 1), .slice n4 0 m4] TR))))
            have KF := Lib.hid (KE.out.later ((Fp.refl Non (w9.alloc (.cells #[.int .i64 0, .string ⟨#[]⟩, .string (B d), .int .i64 (z + 1), .slice n4 0 m4] TR))).drew))
            clear hf hbx KD KE
            obtain ⟨d0, _, d2, d3, _⟩ := box5 KF.out.now.1
            obtain ⟨c0', _, _, c3', _⟩ := box5 KF.out.now.2.1
            obtain ⟨b0, _, _, _, _⟩ := box5 KF.out.now.2.2.2.1
            obtain ⟨a0', _, _, _, _⟩ := box5 KF.out.now.2.2.2.2.1
            have hdc := KF.out.now.2.2.2.2.2.1.cell HDC.out (fun h => h)
            have HS := Lib.hid (And.intro a0' (And.intro b0 (And.intro c0' (And.intro c3' (And.intro d2 (And.intro d3 hdc))))))
            clear a0' b0 c0' c3' d0 d2 d3 hdc
            go_wp2_with fail
            refine wp_region_held_drew (S := (fun w' => w'.cell? ⟨w6.heap.size, 0, none⟩ = some (.int .i64 63) ∧ w'.cell? ⟨w7.heap.size, 0, none⟩ = some (.int .i64 63) ∧ w'.cell? ⟨w8.heap.size, 0, none⟩ = some (.int .i64 0) ∧ w'.cell? ⟨w8.heap.size, 3, none⟩ = some (.int .i64 (z + 1)) ∧ w'.cell? ⟨w9.heap.size, 2, none⟩ = some (.string (B d)) ∧ w'.cell? ⟨w9.heap.size, 3, none⟩ = some (.int .i64 (z + 1)) ∧ w'.cell? ⟨g, o + k, none⟩ = some (.string (B d)))) (by kernel_rfl) ?_ (fun hHeld => ?_)
            · exact HS.out
            refine wpAnyH_take (i := 0) (oi := ?oi101) (v := ?vi101) ?h101 (by kernel_rfl) (by kernel_rfl) (by kernel_rfl) ?q101 (Or.inl ⟨?w101, ?y101⟩) hHeld ?r101
            case h101 => first | (simp only [List.getElem?_toArray, List.getElem?_cons_zero]; done) | (simp only [List.getElem?_toArray, List.getElem?_cons_zero]; exact rfl)
            case q101 => exact fun _ _ _ h => h
            case w101 => rfl
            case y101 =>
              intro w hSw
              (try dsimp only at hSw)
              obtain ⟨s0, s1, s2, s3, s4, s5, s6⟩ := hSw
              go_simp
              try with_reducible rfl
            try simp only [Act.put, List.setIfInBounds_toArray, List.set_cons_zero, List.set_cons_succ]
            refine wpAnyH_take (i := 1) (oi := ?oi102) (v := ?vi102) ?h102 (by kernel_rfl) (by kernel_rfl) (by kernel_rfl) ?q102 (Or.inl ⟨?w102, ?y102⟩) hHeld ?r102
            case h102 => first | (simp only [List.getElem?_toArray, List.getElem?_cons_zero, List.getElem?_cons_succ]; done) | (simp only [List.getElem?_toArray, List.getElem?_cons_zero, List.getElem?_cons_succ]; exact rfl)
            case q102 => exact fun _ _ _ h => h
            case w102 => rfl
            case y102 =>
              intro w hSw
              (try dsimp only at hSw)
              obtain ⟨s0, s1, s2, s3, s4, s5, s6⟩ := hSw
              go_simp
              try with_reducible rfl
            try simp only [Act.put, List.setIfInBounds_toArray, List.set_cons_zero, List.set_cons_succ]
            refine wpAnyH_take (i := 2) (oi := ?oi103) (v := ?vi103) ?h103 (by kernel_rfl) (by kernel_rfl) (by kernel_rfl) ?q103 (Or.inl ⟨?w103, ?y103⟩) hHeld ?r103
            case h103 => first | (simp only [List.getElem?_toArray, List.getElem?_cons_zero, List.getElem?_cons_succ]; done) | (simp only [List.getElem?_toArray, List.getElem?_cons_zero, List.getElem?_cons_succ]; exact rfl)
            case q103 => exact fun _ _ _ h => h
            case w103 => rfl
            case y103 =>
              intro w hSw
              (try dsimp only at hSw)
              obtain ⟨s0, s1, s2, s3, s4, s5, s6⟩ := hSw
              go_simp
              try with_reducible rfl
            try simp only [Act.put, List.setIfInBounds_toArray, List.set_cons_zero, List.set_cons_succ]
            refine wpAnyH_take (i := 3) (oi := ?oi104) (v := ?vi104) ?h104 (by kernel_rfl) (by kernel_rfl) (by kernel_rfl) ?q104 (Or.inl ⟨?w104, ?y104⟩) hHeld ?r104
            case h104 => first | (simp only [List.getElem?_toArray, List.getElem?_cons_zero, List.getElem?_cons_succ]; done) | (simp only [List.getElem?_toArray, List.getElem?_cons_zero, List.getElem?_cons_succ]; exact rfl)
            case q104 => exact fun _ _ _ h => h
            case w104 => rfl
            case y104 =>
              intro w hSw
              (try dsimp only at hSw)
              obtain ⟨s0, s1, s2, s3, s4, s5, s6⟩ := hSw
              go_simp
              try with_reducible rfl
            try simp only [Act.put, List.setIfInBounds_toArray, List.set_cons_zero, List.set_cons_succ]
            refine wpAnyH_take (i := 4) (oi := ?oi105) (v := ?vi105) ?h105 (by kernel_rfl) (by kernel_rfl) (by kernel_rfl) ?q105 (Or.inl ⟨?w105, ?y105⟩) hHeld ?r105
            case h105 => first | (simp only [List.getElem?_toArray, List.getElem?_cons_zero, List.getElem?_cons_succ]; done) | (simp only [List.getElem?_toArray, List.getElem?_cons_zero, List.getElem?_cons_succ]; exact rfl)
            case q105 => exact fun _ _ _ h => h
            case w105 => rfl
            case y105 =>
              intro w hSw
              (try dsimp only at hSw)
              obtain ⟨s0, s1, s2, s3, s4, s5, s6⟩ := hSw
              go_simp
              try with_reducible rfl
            try simp only [Act.put, List.setIfInBounds_toArray, List.set_cons_zero, List.set_cons_succ]
            refine wpAnyH_take (i := 5) (oi := ?oi106) (v := ?vi106) ?h106 (by kernel_rfl) (by kernel_rfl) (by kernel_rfl) ?q106 (Or.inl ⟨?w106, ?y106⟩) hHeld ?r106
            case h106 => first | (simp only [List.getElem?_toArray, List.getElem?_cons_zero, List.getElem?_cons_succ]; done) | (simp only [List.getElem?_toArray, List.getElem?_cons_zero, List.getElem?_cons_succ]; exact rfl)
            case q106 => exact fun _ _ _ h => h
            case w106 => rfl
            case y106 =>
              intro w hSw
              (try dsimp only at hSw)
              obtain ⟨s0, s1, s2, s3, s4, s5, s6⟩ := hSw
              go_simp
              try with_reducible rfl
            try simp only [Act.put, List.setIfInBounds_toArray, List.set_cons_zero, List.set_cons_succ]
            refine wpAnyH_take (i := 6) (oi := ?oi107) (v := ?vi107) ?h107 (by kernel_rfl) (by kernel_rfl) (by kernel_rfl) ?q107 (Or.inl ⟨?w107, ?y107⟩) hHeld ?r107
            case h107 => first | (simp only [List.getElem?_toArray, List.getElem?_cons_zero, List.getElem?_cons_succ]; done) | (simp only [List.getElem?_toArray, List.getElem?_cons_zero, List.getElem?_cons_succ]; exact rfl)
            case q107 => exact fun _ _ _ h => h
            case w107 => rfl
            case y107 =>
              intro w hSw
              (try dsimp only at hSw)
              obtain ⟨s0, s1, s2, s3, s4, s5, s6⟩ := hSw
              go_simp
              try with_reducible rfl
            try simp only [Act.put, List.setIfInBounds_toArray, List.set_cons_zero, List.set_cons_succ]
            refine wpAnyH_take (i := 7) (oi := ?oi108) (v := ?vi108) ?h108 (by kernel_rfl) (by kernel_rfl) (by kernel_rfl) ?q108 (Or.inl ⟨?w108, ?y108⟩) hHeld ?r108
            case h108 => first | (simp only [List.getElem?_toArray, List.getElem?_cons_zero, List.getElem?_cons_succ]; done) | (simp only [List.getElem?_toArray, List.getElem?_cons_zero, List.getElem?_cons_succ]; exact rfl)
            case q108 => exact fun _ _ _ h => h
            case w108 => rfl
            case y108 =>
              intro w hSw
              (try dsimp only at hSw)
              obtain ⟨s0, s1, s2, s3, s4, s5, s6⟩ := hSw
              go_simp
              try with_reducible rfl
            try simp only [Act.put, List.setIfInBounds_toArray, List.set_cons_zero, List.set_cons_succ]
            refine wpAnyH_take (i := 8) (oi := ?oi109) (v := ?vi109) ?h109 (by kernel_rfl) (by kernel_rfl) (by kernel_rfl) ?q109 (Or.inl ⟨?w109, ?y109⟩) hHeld ?r109
            case h109 => first | (simp only [List.getElem?_toArray, List.getElem?_cons_zero, List.getElem?_cons_succ]; done) | (simp only [List.getElem?_toArray, List.getElem?_cons_zero, List.getElem?_cons_succ]; exact rfl)
            case q109 => exact fun _ _ _ h => h
            case w109 => rfl
            case y109 =>
              intro w hSw
              (try dsimp only at hSw)
              obtain ⟨s0, s1, s2, s3, s4, s5, s6⟩ := hSw
              go_simp
              try with_reducible rfl
            try simp only [Act.put, List.setIfInBounds_toArray, List.set_cons_zero, List.set_cons_succ]
            refine wpAnyH_take (i := 9) (oi := ?oi110) (v := ?vi110) ?h110 (by kernel_rfl) (by kernel_rfl) (by kernel_rfl) ?q110 (Or.inl ⟨?w110, ?y110⟩) hHeld ?r110
            case h110 => first | (simp only [List.getElem?_toArray, List.getElem?_cons_zero, List.getElem?_cons_succ]; done) | (simp only [List.getElem?_toArray, List.getElem?_cons_zero, List.getElem?_cons_succ]; exact rfl)
            case q110 => exact fun _ _ _ h => h
            case w110 => rfl
            case y110 =>
              intro w hSw
              (try dsimp only at hSw)
              obtain ⟨s0, s1, s2, s3, s4, s5, s6⟩ := hSw
              go_simp
              try with_reducible rfl
            try simp only [Act.put, List.setIfInBounds_toArray, List.set_cons_zero, List.set_cons_succ]
            refine wpAnyH_take (i := 10) (oi := ?oi111) (v := ?vi111) ?h111 (by kernel_rfl) (by kernel_rfl) (by kernel_rfl) ?q111 (Or.inl ⟨?w111, ?y111⟩) hHeld ?r111
            case h111 => first | (simp only [List.getElem?_toArray, List.getElem?_cons_zero, List.getElem?_cons_succ]; done) | (simp only [List.getElem?_toArray, List.getElem?_cons_zero, List.getElem?_cons_succ]; exact rfl)
            case q111 => exact fun _ _ _ h => h
            case w111 => rfl
            case y111 =>
              intro w hSw
              (try dsimp only at hSw)
              obtain ⟨s0, s1, s2, s3, s4, s5, s6⟩ := hSw
              go_simp
              try with_reducible rfl
            try simp only [Act.put, List.setIfInBounds_toArray, List.set_cons_zero, List.set_cons_succ]
            refine wpAnyH_take (i := 11) (oi := ?oi112) (v := ?vi112) ?h112 (by kernel_rfl) (by kernel_rfl) (by kernel_rfl) ?q112 (Or.inl ⟨?w112, ?y112⟩) hHeld ?r112
            case h112 => first | (simp only [List.getElem?_toArray, List.getElem?_cons_zero, List.getElem?_cons_succ]; done) | (simp only [List.getElem?_toArray, List.getElem?_cons_zero, List.getElem?_cons_succ]; exact rfl)
            case q112 => exact fun _ _ _ h => h
            case w112 => rfl
            case y112 =>
              intro w hSw
              (try dsimp only at hSw)
              obtain ⟨s0, s1, s2, s3, s4, s5, s6⟩ := hSw
              go_simp
              try with_reducible rfl
            try simp only [Act.put, List.setIfInBounds_toArray, List.set_cons_zero, List.set_cons_succ]
            refine wpAnyH_take (i := 12) (oi := ?oi113) (v := ?vi113) ?h113 (by kernel_rfl) (by kernel_rfl) (by kernel_rfl) ?q113 (Or.inl ⟨?w113, ?y113⟩) hHeld ?r113
            case h113 => first | (simp only [List.getElem?_toArray, List.getElem?_cons_zero, List.getElem?_cons_succ]; done) | (simp only [List.getElem?_toArray, List.getElem?_cons_zero, List.getElem?_cons_succ]; exact rfl)
            case q113 => exact fun _ _ _ h => h
            case w113 => rfl
            case y113 =>
              intro w hSw
              (try dsimp only at hSw)
              obtain ⟨s0, s1, s2, s3, s4, s5, s6⟩ := hSw
              go_simp
              try with_reducible rfl
            try simp only [Act.put, List.setIfInBounds_toArray, List.set_cons_zero, List.set_cons_succ]
            refine wpAnyH_take (i := 13) (oi := ?oi114) (v := ?vi114) ?h114 (by kernel_rfl) (by kernel_rfl) (by kernel_rfl) ?q114 (Or.inl ⟨?w114, ?y114⟩) hHeld ?r114
            case h114 => first | (simp only [List.getElem?_toArray, List.getElem?_cons_zero, List.getElem?_cons_succ]; done) | (simp only [List.getElem?_toArray, List.getElem?_cons_zero, List.getElem?_cons_succ]; exact rfl)
            case q114 => exact fun _ _ _ h => h
            case w114 => rfl
            case y114 =>
              intro w hSw
              (try dsimp only at hSw)
              obtain ⟨s0, s1, s2, s3, s4, s5, s6⟩ := hSw
              go_simp
              try with_reducible rfl
            try simp only [Act.put, List.setIfInBounds_toArray, List.set_cons_zero, List.set_cons_succ]
            refine wpAnyH_take (i := 14) (oi := ?oi115) (v := ?vi115) ?h115 (by kernel_rfl) (by kernel_rfl) (by kernel_rfl) ?q115 (Or.inl ⟨?w115, ?y115⟩) hHeld ?r115
            case h115 => first | (simp only [List.getElem?_toArray, List.getElem?_cons_zero, List.getElem?_cons_succ]; done) | (simp only [List.getElem?_toArray, List.getElem?_cons_zero, List.getElem?_cons_succ]; exact rfl)
            case q115 => exact fun _ _ _ h => h
            case w115 => rfl
            case y115 =>
              intro w hSw
              (try dsimp only at hSw)
              obtain ⟨s0, s1, s2, s3, s4, s5, s6⟩ := hSw
              go_simp
              try with_reducible rfl
            try simp only [Act.put, List.setIfInBounds_toArray, List.set_cons_zero, List.set_cons_succ]
            refine wpAnyH_take (i := 15) (oi := ?oi116) (v := ?vi116) ?h116 (by kernel_rfl) (by kernel_rfl) (by kernel_rfl) ?q116 (Or.inl ⟨?w116, ?y116⟩) hHeld ?r116
            case h116 => first | (simp only [List.getElem?_toArray, List.getElem?_cons_zero, List.getElem?_cons_succ]; done) | (simp only [List.getElem?_toArray, List.getElem?_cons_zero, List.getElem?_cons_succ]; exact rfl)
            case q116 => exact fun _ _ _ h => h
            case w116 => rfl
            case y116 =>
              intro w hSw
              (try dsimp only at hSw)
              obtain ⟨s0, s1, s2, s3, s4, s5, s6⟩ := hSw
              go_simp
              try with_reducible rfl
            try simp only [Act.put, List.setIfInBounds_toArray, List.set_cons_zero, List.set_cons_succ]
            refine wpAnyH_take (i := 16) (oi := ?oi117) (v := ?vi117) ?h117 (by kernel_rfl) (by kernel_rfl) (by kernel_rfl) ?q117 (Or.inl ⟨?w117, ?y117⟩) hHeld ?r117
            case h117 => first | (simp only [List.getElem?_toArray, List.getElem?_cons_zero, List.getElem?_cons_succ]; done) | (simp only [List.getElem?_toArray, List.getElem?_cons_zero, List.getElem?_cons_succ]; exact rfl)
            case q117 => exact fun _ _ _ h => h
            case w117 => rfl
            case y117 =>
              intro w hSw
              (try dsimp only at hSw)
              obtain ⟨s0, s1, s2, s3, s4, s5, s6⟩ := hSw
              go_simp
              try with_reducible rfl
            try simp only [Act.put, List.setIfInBounds_toArray, List.set_cons_zero, List.set_cons_succ]
            refine wpAnyH_take (i := 17) (oi := ?oi118) (v := ?vi118) ?h118 (by kernel_rfl) (by kernel_rfl) (by kernel_rfl) ?q118 (Or.inl ⟨?w118, ?y118⟩) hHeld ?r118
            case h118 => first | (simp only [List.getElem?_toArray, List.getElem?_cons_zero, List.getElem?_cons_succ]; done) | (simp only [List.getElem?_toArray, List.getElem?_cons_zero, List.getElem?_cons_succ]; exact rfl)
            case q118 => exact fun _ _ _ h => h
            case w118 => rfl
            case y118 =>
              intro w hSw
              (try dsimp only at hSw)
              obtain ⟨s0, s1, s2, s3, s4, s5, s6⟩ := hSw
              go_simp
              try with_reducible rfl
            try simp only [Act.put, List.setIfInBounds_toArray, List.set_cons_zero, List.set_cons_succ]
            refine wpAnyH_take (i := 18) (oi := ?oi119) (v := ?vi119) ?h119 (by kernel_rfl) (by kernel_rfl) (by kernel_rfl) ?q119 (Or.inl ⟨?w119, ?y119⟩) hHeld ?r119
            case h119 => first | (simp only [List.getElem?_toArray, List.getElem?_cons_zero, List.getElem?_cons_succ]; done) | (simp only [List.getElem?_toArray, List.getElem?_cons_zero, List.getElem?_cons_succ]; exact rfl)
            case q119 => exact fun _ _ _ h => h
            case w119 => rfl
            case y119 =>
              intro w hSw
              (try dsimp only at hSw)
              obtain ⟨s0, s1, s2, s3, s4, s5, s6⟩ := hSw
              go_simp
              try with_reducible rfl
            try simp only [Act.put, List.setIfInBounds_toArray, List.set_cons_zero, List.set_cons_succ]
            refine wpAnyH_take (i := 19) (oi := ?oi120) (v := ?vi120) ?h120 (by kernel_rfl) (by kernel_rfl) (by kernel_rfl) ?q120 (Or.inl ⟨?w120, ?y120⟩) hHeld ?r120
            case h120 => first | (simp only [List.getElem?_toArray, List.getElem?_cons_zero, List.getElem?_cons_succ]; done) | (simp only [List.getElem?_toArray, List.getElem?_cons_zero, List.getElem?_cons_succ]; exact rfl)
            case q120 => exact fun _ _ _ h => h
            case w120 => rfl
            case y120 =>
              intro w hSw
              (try dsimp only at hSw)
              obtain ⟨s0, s1, s2, s3, s4, s5, s6⟩ := hSw
              go_simp
              try with_reducible rfl
            try simp only [Act.put, List.setIfInBounds_toArray, List.set_cons_zero, List.set_cons_succ]
            refine wpAnyH_take (i := 20) (oi := ?oi121) (v := ?vi121) ?h121 (by kernel_rfl) (by kernel_rfl) (by kernel_rfl) ?q121 (Or.inl ⟨?w121, ?y121⟩) hHeld ?r121
            case h121 => first | (simp only [List.getElem?_toArray, List.getElem?_cons_zero, List.getElem?_cons_succ]; done) | (simp only [List.getElem?_toArray, List.getElem?_cons_zero, List.getElem?_cons_succ]; exact rfl)
            case q121 => exact fun _ _ _ h => h
            case w121 => rfl
            case y121 =>
              intro w hSw
              (try dsimp only at hSw)
              obtain ⟨s0, s1, s2, s3, s4, s5, s6⟩ := hSw
              go_simp
              try with_reducible rfl
            try simp only [Act.put, List.setIfInBounds_toArray, List.set_cons_zero, List.set_cons_succ]
            refine wpAnyH_take (i := 21) (oi := ?oi122) (v := ?vi122) ?h122 (by kernel_rfl) (by kernel_rfl) (by kernel_rfl) ?q122 (Or.inl ⟨?w122, ?y122⟩) hHeld ?r122
            case h122 => first | (simp only [List.getElem?_toArray, List.getElem?_cons_zero, List.getElem?_cons_succ]; done) | (simp only [List.getElem?_toArray, List.getElem?_cons_zero, List.getElem?_cons_succ]; exact rfl)
            case q122 => exact fun _ _ _ h => h
            case w122 => rfl
            case y122 =>
              intro w hSw
              (try dsimp only at hSw)
              obtain ⟨s0, s1, s2, s3, s4, s5, s6⟩ := hSw
              go_simp
              try with_reducible rfl
            try simp only [Act.put, List.setIfInBounds_toArray, List.set_cons_zero, List.set_cons_succ]
            refine wpAnyH_take (i := 22) (oi := ?oi123) (v := ?vi123) ?h123 (by kernel_rfl) (by kernel_rfl) (by kernel_rfl) ?q123 (Or.inl ⟨?w123, ?y123⟩) hHeld ?r123
            case h123 => first | (simp only [List.getElem?_toArray, List.getElem?_cons_zero, List.getElem?_cons_succ]; done) | (simp only [List.getElem?_toArray, List.getElem?_cons_zero, List.getElem?_cons_succ]; exact rfl)
            case q123 => exact fun _ _ _ h => h
            case w123 => rfl
            case y123 =>
              intro w hSw
              (try dsimp only at hSw)
              obtain ⟨s0, s1, s2, s3, s4, s5, s6⟩ := hSw
              go_simp
              try with_reducible rfl
            try simp only [Act.put, List.setIfInBounds_toArray, List.set_cons_zero, List.set_cons_succ]
            refine wpAnyH_take (i := 23) (oi := ?oi124) (v := ?vi124) ?h124 (by kernel_rfl) (by kernel_rfl) (by kernel_rfl) ?q124 (Or.inl ⟨?w124, ?y124⟩) hHeld ?r124
            case h124 => first | (simp only [List.getElem?_toArray, List.getElem?_cons_zero, List.getElem?_cons_succ]; done) | (simp only [List.getElem?_toArray, List.getElem?_cons_zero, List.getElem?_cons_succ]; exact rfl)
            case q124 => exact fun _ _ _ h => h
            case w124 => rfl
            case y124 =>
              intro w hSw
              (try dsimp only at hSw)
              obtain ⟨s0, s1, s2, s3, s4, s5, s6⟩ := hSw
              go_simp
              try with_reducible rfl
            try simp only [Act.put, List.setIfInBounds_toArray, List.set_cons_zero, List.set_cons_succ]
            refine wpAnyH_take (i := 24) (oi := ?oi125) (v := ?vi125) ?h125 (by kernel_rfl) (by kernel_rfl) (by kernel_rfl) ?q125 (Or.inl ⟨?w125, ?y125⟩) hHeld ?r125
            case h125 => first | (simp only [List.getElem?_toArray, List.getElem?_cons_zero, List.getElem?_cons_succ]; done) | (simp only [List.getElem?_toArray, List.getElem?_cons_zero, List.getElem?_cons_succ]; exact rfl)
            case q125 => exact fun _ _ _ h => h
            case w125 => rfl
            case y125 =>
              intro w hSw
              (try dsimp only at hSw)
              obtain ⟨s0, s1, s2, s3, s4, s5, s6⟩ := hSw
              go_simp
              try with_reducible rfl
            try simp only [Act.put, List.setIfInBounds_toArray, List.set_cons_zero, List.set_cons_succ]
            refine wpAnyH_take (i := 25) (oi := ?oi126) (v := ?vi126) ?h126 (by kernel_rfl) (by kernel_rfl) (by kernel_rfl) ?q126 (Or.inl ⟨?w126, ?y126⟩) hHeld ?r126
            case h126 => first | (simp only [List.getElem?_toArray, List.getElem?_cons_zero, List.getElem?_cons_succ]; done) | (simp only [List.getElem?_toArray, List.getElem?_cons_zero, List.getElem?_cons_succ]; exact rfl)
            case q126 => exact fun _ _ _ h => h
            case w126 => rfl
            case y126 =>
              intro w hSw
              (try dsimp only at hSw)
              obtain ⟨s0, s1, s2, s3, s4, s5, s6⟩ := hSw
              go_simp
              try with_reducible rfl
            try simp only [Act.put, List.setIfInBounds_toArray, List.set_cons_zero, List.set_cons_succ]
            refine wpAnyH_take (i := 26) (oi := ?oi127) (v := ?vi127) ?h127 (by kernel_rfl) (by kernel_rfl) (by kernel_rfl) ?q127 (Or.inl ⟨?w127, ?y127⟩) hHeld ?r127
            case h127 => first | (simp only [List.getElem?_toArray, List.getElem?_cons_zero, List.getElem?_cons_succ]; done) | (simp only [List.getElem?_toArray, List.getElem?_cons_zero, List.getElem?_cons_succ]; exact rfl)
            case q127 => exact fun _ _ _ h => h
            case w127 => rfl
            case y127 =>
              intro w hSw
              (try dsimp only at hSw)
              obtain ⟨s0, s1, s2, s3, s4, s5, s6⟩ := hSw
              go_simp
              try with_reducible rfl
            try simp only [Act.put, List.setIfInBounds_toArray, List.set_cons_zero, List.set_cons_succ]
            refine wpAnyH_take (i := 27) (oi := ?oi128) (v := ?vi128) ?h128 (by kernel_rfl) (by kernel_rfl) (by kernel_rfl) ?q128 (Or.inl ⟨?w128, ?y128⟩) hHeld ?r128
            case h128 => first | (simp only [List.getElem?_toArray, List.getElem?_cons_zero, List.getElem?_cons_succ]; done) | (simp only [List.getElem?_toArray, List.getElem?_cons_zero, List.getElem?_cons_succ]; exact rfl)
            case q128 => exact fun _ _ _ h => h
            case w128 => rfl
            case y128 =>
              intro w hSw
              (try dsimp only at hSw)
              obtain ⟨s0, s1, s2, s3, s4, s5, s6⟩ := hSw
              go_simp
              try with_reducible rfl
            try simp only [Act.put, List.setIfInBounds_toArray, List.set_cons_zero, List.set_cons_succ]
            refine wpAnyH_take (i := 28) (oi := ?oi129) (v := ?vi129) ?h129 (by kernel_rfl) (by kernel_rfl) (by kernel_rfl) ?q129 (Or.inl ⟨?w129, ?y129⟩) hHeld ?r129
            case h129 => first | (simp only [List.getElem?_toArray, List.getElem?_cons_zero, List.getElem?_cons_succ]; done) | (simp only [List.getElem?_toArray, List.getElem?_cons_zero, List.getElem?_cons_succ]; exact rfl)
            case q129 => exact fun _ _ _ h => h
            case w129 => rfl
            case y129 =>
              intro w hSw
              (try dsimp only at hSw)
              obtain ⟨s0, s1, s2, s3, s4, s5, s6⟩ := hSw
              go_simp
              try with_reducible rfl
            try simp only [Act.put, List.setIfInBounds_toArray, List.set_cons_zero, List.set_cons_succ]
            refine wpAnyH_take (i := 29) (oi := ?oi130) (v := ?vi130) ?h130 (by kernel_rfl) (by kernel_rfl) (by kernel_rfl) ?q130 (Or.inl ⟨?w130, ?y130⟩) hHeld ?r130
            case h130 => first | (simp only [List.getElem?_toArray, List.getElem?_cons_zero, List.getElem?_cons_succ]; done) | (simp only [List.getElem?_toArray, List.getElem?_cons_zero, List.getElem?_cons_succ]; exact rfl)
            case q130 => exact fun _ _ _ h => h
            case w130 => rfl
            case y130 =>
              intro w hSw
              (try dsimp only at hSw)
              obtain ⟨s0, s1, s2, s3, s4, s5, s6⟩ := hSw
              go_simp
              try with_reducible rfl
            try simp only [Act.put, List.setIfInBounds_toArray, List.set_cons_zero, List.set_cons_succ]
            refine wpAnyH_take (i := 30) (oi := ?oi131) (v := ?vi131) ?h131 (by kernel_rfl) (by kernel_rfl) (by kernel_rfl) ?q131 (Or.inl ⟨?w131, ?y131⟩) hHeld ?r131
            case h131 => first | (simp only [List.getElem?_toArray, List.getElem?_cons_zero, List.getElem?_cons_succ]; done) | (simp only [List.getElem?_toArray, List.getElem?_cons_zero, List.getElem?_cons_succ]; exact rfl)
            case q131 => exact fun _ _ _ h => h
            case w131 => rfl
            case y131 =>
              intro w hSw
              (try dsimp only at hSw)
              obtain ⟨s0, s1, s2, s3, s4, s5, s6⟩ := hSw
              go_simp
              try with_reducible rfl
            try simp only [Act.put, List.setIfInBounds_toArray, List.set_cons_zero, List.set_cons_succ]
            refine wpAnyH_take (i := 31) (oi := ?oi132) (v := ?vi132) ?h132 (by kernel_rfl) (by kernel_rfl) (by kernel_rfl) ?q132 (Or.inl ⟨?w132, ?y132⟩) hHeld ?r132
            case h132 => first | (simp only [List.getElem?_toArray, List.getElem?_cons_zero, List.getElem?_cons_succ]; done) | (simp only [List.getElem?_toArray, List.getElem?_cons_zero, List.getElem?_cons_succ]; exact rfl)
            case q132 => exact fun _ _ _ h => h
            case w132 => rfl
            case y132 =>
              intro w hSw
              (try dsimp only at hSw)
              obtain ⟨s0, s1, s2, s3, s4, s5, s6⟩ := hSw
              go_simp
              try with_reducible rfl
            try simp only [Act.put, List.setIfInBounds_toArray, List.set_cons_zero, List.set_cons_succ]
            refine wpAnyH_take (i := 32) (oi := ?oi133) (v := ?vi133) ?h133 (by kernel_rfl) (by kernel_rfl) (by kernel_rfl) ?q133 (Or.inl ⟨?w133, ?y133⟩) hHeld ?r133
            case h133 => first | (simp only [List.getElem?_toArray, List.getElem?_cons_zero, List.getElem?_cons_succ]; done) | (simp only [List.getElem?_toArray, List.getElem?_cons_zero, List.getElem?_cons_succ]; exact rfl)
            case q133 => exact fun _ _ _ h => h
            case w133 => rfl
            case y133 =>
              intro w hSw
              (try dsimp only at hSw)
              obtain ⟨s0, s1, s2, s3, s4, s5, s6⟩ := hSw
              go_simp
              try with_reducible rfl
            try simp only [Act.put, List.setIfInBounds_toArray, List.set_cons_zero, List.set_cons_succ]
            refine wpAnyH_take (i := 33) (oi := ?oi134) (v := ?vi134) ?h134 (by kernel_rfl) (by kernel_rfl) (by kernel_rfl) ?q134 (Or.inl ⟨?w134, ?y134⟩) hHeld ?r134
            case h134 => first | (simp only [List.getElem?_toArray, List.getElem?_cons_zero, List.getElem?_cons_succ]; done) | (simp only [List.getElem?_toArray, List.getElem?_cons_zero, List.getElem?_cons_succ]; exact rfl)
            case q134 => exact fun _ _ _ h => h
            case w134 => rfl
            case y134 =>
              intro w hSw
              (try dsimp only at hSw)
              obtain ⟨s0, s1, s2, s3, s4, s5, s6⟩ := hSw
              go_simp
              try with_reducible rfl
            try simp only [Act.put, List.setIfInBounds_toArray, List.set_cons_zero, List.set_cons_succ]
            refine wpAnyH_done (by kernel_rfl) ?_ _
            go_wp2
            go_roundw
            case rel => exact ⟨k + 1, by have := HL.out; omega, by go_num, congrArg (Value.int .i64) (by rw [HZ.out]; push_cast; omega), HM.out _ _ (hR.out.fp.then KF.out.now.2.2.2.2.2.1) KF.out.now.2.2.1⟩
            case measure => have := HL.out; simp [RowKit.intOf]; omega
        · have hke : k = dn := by omega
          subst hke
          have q3 : ((k : Int) < (k : Int)) = False := eq_false (by omega)
          have F6 := Lib.hid (K5.out.later hR.out.fp).now.1
          clear hlt hk
          go_wp2
          go_ret
          exact ⟨rfl, F6.out⟩
end Go.Proofs.YthaepjeikicigaaDoor
