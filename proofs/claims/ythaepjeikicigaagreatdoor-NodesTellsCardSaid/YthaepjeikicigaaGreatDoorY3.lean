/- Texts of this proof, merged. -/
import Derived.Test.YthaepjeikicigaaGreatDoorZY
/- The document's Apply, on: Sweep. -/
namespace Go.Proofs.YthaepjeikicigaaGreatDoor
set_option linter.unusedSimpArgs false
set_option linter.unusedVariables false
set_option maxRecDepth 20000
set_option linter.unusedVariables false
set_option linter.unusedSimpArgs false
open Go.RowKit Pm
/-- Behind an append of a name: what has changed. -/
structure AnR2 (lo : Nat) (v : Value) (w : World) (ps : List Bs) (v' : Value) (w' : World) : Prop where
  own : Own lo w' v' ps
  fp : Fp (fun k => v.ownBlock = some k) w w'
  blk : ∀ k, v'.ownBlock = some k → v.ownBlock = some k ∨ w.heap.size ≤ k
theorem app_name2 (w : World) (lo : Nat) (v : Value) (ps : List Bs) (x : Bs) (ty : TypeId) (ho : Own lo w v ps) (hn : ps.length ≤ 100000) (hlo : lo ≤ w.heap.size) :
    ∃ v' w', (Builtin.append_ #[TSs, TSs] ty #[v, .slice (some ⟨w.heap.size, 0, none⟩) 1 1]).run Tryz.prog (w.alloc (.cells #[.string (B x)] 9)) = .ok v' w' ∧ AnR2 lo v w (ps ++ [x]) v' w' := by
  obtain ⟨i0, hi, hz0, hz1, hz2⟩ := info_parts Tryz.infoS
  have hc : (w.alloc (.cells #[.string (B x)] 9)).cell? ⟨w.heap.size, 0, none⟩ = some (strV x) := by rw [cell_of_row _ _ _ _ _ _ (heap_alloc_new w _)]; rfl
  obtain ⟨v', w', hr, h4, h5, h7, h8⟩ := run_append_own_at (P := Tryz.prog) (w.alloc (.cells #[.string (B x)] 9)) lo TSs ty 9 i0 (.string ⟨#[]⟩) 1 16 Tryz.underlying29 hi hz0 hz1 hz2 rfl (by decide) v ps.length (ps.map strV) (ho.1.alloc _)
    ⟨w.heap.size, 0, none⟩ 1 1 [strV x] rfl (fun j u hu => by
      cases j with
      | zero => rw [Addr.add_lit, ← Option.some.inj hu]; exact hc
      | succ j => simp at hu) (one_c2 x) (by unfold maxLen; omega) (by omega) (by simp; omega)
  refine ⟨v', w', hr, ⟨⟨by simpa using h4, fun e => by simp at e⟩, ((Fp.refl (fun k => v.ownBlock = some k) w).alloc _).grown h5 (fun k hk => .inl hk), fun k hk => ?_⟩⟩
  rcases h8 with h8 | h8
  · left; rw [← h8]; exact hk
  · right
    rw [h8] at hk
    have := Option.some.inj hk
    simp at this; omega
theorem own_blk (a : Option Addr) (n c n2 c2 : Nat) : (Value.slice a n c).ownBlock = (Value.slice a n2 c2).ownBlock := by cases a <;> rfl
/-- Ahead of a round of a Sweep. -/
structure SwM (l ks : List Nd) (ow : Int) (w w4 : World) (j : Nat) (lv nv : Value) (wr : World) : Prop where
  own : Own w4.heap.size wr nv (((ks.take j).filter (fun c => c.own == ow)).map (fun n => last n.path))
  fp : Fp Non w4 wr
  ns : Ns wr lv (cur l (ks.take j) ow)
  blk : ∀ q, lv.ownBlock = some q → (q < w.heap.size ∨ w4.heap.size ≤ q) ∧ q < wr.heap.size ∧ nv.ownBlock ≠ some q
theorem Ns.blk {w : World} {v : Value} {l : List Nd} (h : Ns w v l) (h0 : 0 < l.length) (q : Nat) (hq : v.ownBlock = some q) : q < w.heap.size := by
  obtain ⟨g, o, cap, rfl, _, _, hg, _⟩ := h.at h0
  simp [Value.ownBlock] at hq
  subst hq; exact hg
set_option maxHeartbeats 16000000 in
theorem rApply_7 (v : Value) (l : List Nd) (p d : Bs) (vv ow : Int) (tt : Bool) (w : World) (hv : Ns w v l) (hT : Tr l) (hm : may ⟨7, p, d, vv, ow, tt⟩ = true) :
    Calls Tryz.prog 8 #[v, .agg #[.int .i64 7, .string (B p), .string (B d), .int .i64 vv, .int .i64 ow, .bool tt]] w (ApR w (perform l ⟨7, p, d, vv, ow, tt⟩).1 (perform l ⟨7, p, d, vv, ow, tt⟩).2) := by
  obtain ⟨ao, cap, rfl⟩ := hv.shape
  have hpl : p.length ≤ 1000000 := may_len2 hm
  have hrr := fun w' hv => rRightN_g (.slice ao l.length cap) l w' hv (tr_few hT).2
  rw [right_true hT.tree] at hrr
  have hmy := fun w' => rMay_c ⟨7, p, d, vv, ow, tt⟩ w' hpl
  rw [hm] at hmy
  have hfd := fun w' hv => rFind_c (.slice ao l.length cap) l p w' hv (tr_few hT).1
  have hcl := parent_ok hm
  have hln := hT.most
  rw [perform_not1 (l := l) (o := ⟨7, p, d, vv, ow, tt⟩) (by simp)]
  simp only
  have hdo : ∀ x, doit l ⟨7, p, d, vv, ow, tt⟩ x = (l.filter (fun n => !swept ⟨7, p, d, vv, ow, tt⟩ n), ⟨0, [], [], 0, (l.filter (swept ⟨7, p, d, vv, ow, tt⟩)).map (fun n => last n.path)⟩) := fun x => by unfold doit; simp
  have hb0 := Bx.made w 7 p d vv ow tt
  have hf0 : Fp Non w ((w.alloc (.cells #[.int .i64 7, .string (B p), .string (B d), .int .i64 vv, .int .i64 ow, .bool tt] TO_)).alloc (.cells #[.int .i64 0, .string ⟨#[]⟩, .string ⟨#[]⟩, .int .i64 0, .slice none 0 0] TR)) := (fp_alloc w _).then (fp_alloc _ _)
  have HF0 := Lib.hid (Kp.and (fun W' f => hb0.non f : Kp (Bx w 7 p d vv ow tt) ((w.alloc (.cells #[.int .i64 7, .string (B p), .string (B d), .int .i64 vv, .int .i64 ow, .bool tt] TO_)).alloc (.cells #[.int .i64 0, .string ⟨#[]⟩, .string ⟨#[]⟩, .int .i64 0, .slice none 0 0] TR))) (Kp.and (Kp.fp hf0) (Kp.ns (hv.non hf0))))
  have HRR := Lib.hid hrr
  have HMY := Lib.hid hmy
  have HT := Lib.hid hT
  have HM := Lib.hid hm
  have HVV := Lib.hid hv
  unfold opV strV at HMY
  simp only at HMY
  clear hrr hmy hf0 hb0 hv hT hm hpl
  cases hfx : find l p with
  | none =>
    rw [hfx] at hfd
    simp only [Option.getD_none, Option.isSome_none, ndV, strV, zeroNd] at hfd
    dsimp only
    obtain ⟨n, hnn⟩ : ∃ n, n = l.length := ⟨_, rfl⟩
    rw [← hnn] at HVV hfd HF0 HRR ⊢
    have HFD := Lib.hid hfd
    have HNN := Lib.hid hnn
    clear hfd hfx hnn
    go_enter Tryz.func8, Tryz.ntmps8
    go_wp2_with fail
    refine (HRR.out _ HF0.out.now.2.2).mono ?_
    rintro e w1 ⟨rfl, hf⟩
    have K1 := Lib.hid (HF0.out.later hf)
    clear hf
    obtain ⟨o0, o1, o2, o3, o4, o5⟩ := box6 K1.out.now.1.op
    go_wp2_with fail
    refine (HMY.out _).mono ?_
    rintro e w2 ⟨rfl, hf⟩
    have K2 := Lib.hid (K1.out.later hf)
    clear hf o0 o1 o2 o3 o4 o5
    obtain ⟨o0, o1, o2, o3, o4, o5⟩ := box6 K2.out.now.1.op
    go_wp2_with fail
    refine (HFD.out _ K2.out.now.2.2).mono ?_
    rintro e w3 ⟨rfl, hf⟩
    have HW3 := Lib.hid (Nat.le_trans K2.out.now.1.sz hf.size)
    have K3 := Lib.hid (K2.out.later (hf.alloc (.cells #[.string (B []), .string (B []), .int .i64 0, .int .i64 0, .int .i64 0] TN)))
    clear hf
    have hbr := K3.out.now.1
    have hfw := K3.out.now.2.1
    obtain ⟨r0, r1, r2, r3, r4⟩ := hbr.r
    have z0 := hbr.fz 0; have z1 := hbr.fz 1; have z2 := hbr.fz 2; have z3 := hbr.fz 3; have z4 := hbr.fz 4
    have HE := Lib.hid (And.intro hbr.res hfw)
    clear hbr hfw
    go_wp2
    have hw9 := set5 HE.out.1 (.int .i64 62) (.string ⟨#[]⟩) (.string ⟨#[]⟩) (.int .i64 0) (.slice none 0 0)
    have hfz := fp5 (S := Non) HE.out.2 (b := w.heap.size + 1) (.inr (by omega)) (.int .i64 62) (.string ⟨#[]⟩) (.string ⟨#[]⟩) (.int .i64 0) (.slice none 0 0)
    have hfk := fp5k HE.out.1 (.int .i64 62) (.string ⟨#[]⟩) (.string ⟨#[]⟩) (.int .i64 0) (.slice none 0 0)
    generalize (((((World.setCell _ _ _).setCell _ _).setCell _ _).setCell _ _).setCell _ _) = wz at *
    have s0 := cell_of_row _ (w.heap.size + 1) 0 _ _ _ hw9
    have s1 := cell_of_row _ (w.heap.size + 1) 1 _ _ _ hw9
    have s2 := cell_of_row _ (w.heap.size + 1) 2 _ _ _ hw9
    have s3 := cell_of_row _ (w.heap.size + 1) 3 _ _ _ hw9
    have s4 := cell_of_row _ (w.heap.size + 1) 4 _ _ _ hw9
    simp only [zA, zB, zC] at s0 s1 s2 s3 s4
    exact bodyPost_ret (v := .tuple #[.slice ao n cap, .agg #[.int .i64 62, .string ⟨#[]⟩, .string ⟨#[]⟩, .int .i64 0, .slice none 0 0]]) (by simp [results, Tryz.results8, go_sem, s0, s1, s2, s3, s4]) rfl (res_bad (HVV.out.non hfz) hfz)
  | some x =>
    rw [hfx] at hfd
    simp only [Option.getD_some, Option.isSome_some, ndV, strV] at hfd
    dsimp only
    have HFX := Lib.hid hfx
    have hft := (fits_iff x).1 (HT.out.fit x (find_mem hfx).1)
    have HFT := Lib.hid hft
    have hxv : 0 ≤ x.ver ∧ x.ver ≤ 281474976710656 := by omega
    have hch := fun w' hv => rChildren_c (.slice ao l.length cap) l p w' hv (tr_few HT.out).2 (by omega)
    obtain ⟨n, hnn⟩ : ∃ n, n = l.length := ⟨_, rfl⟩
    rw [← hnn] at HVV hfd HF0 HRR hch hln ⊢
    have HFD := Lib.hid hfd
    have HCH := Lib.hid hch
    have HNN := Lib.hid hnn
    clear hfd hfx hnn hft hch
    rw [if_neg (by simp [versioned]), hdo]
    go_enter Tryz.func8, Tryz.ntmps8
    go_wp2_with fail
    refine (HRR.out _ HF0.out.now.2.2).mono ?_
    rintro e w1 ⟨rfl, hf⟩
    have K1 := Lib.hid (HF0.out.later hf)
    clear hf
    obtain ⟨o0, o1, o2, o3, o4, o5⟩ := box6 K1.out.now.1.op
    go_wp2_with fail
    refine (HMY.out _).mono ?_
    rintro e w2 ⟨rfl, hf⟩
    have K2 := Lib.hid (K1.out.later hf)
    clear hf o0 o1 o2 o3 o4 o5
    obtain ⟨o0, o1, o2, o3, o4, o5⟩ := box6 K2.out.now.1.op
    go_wp2_with fail
    refine (HFD.out _ K2.out.now.2.2).mono ?_
    rintro e w3 ⟨rfl, hf⟩
    have HW3 := Lib.hid (Nat.le_trans K2.out.now.1.sz hf.size)
    have hbx := heap_alloc_new w3 (.cells #[.string (B x.path), .string (B x.data), .int .i64 x.ver, .int .i64 x.turn, .int .i64 x.own] TN)
    have K3 := Lib.hid (Kp.and (Kp.row hbx) (K2.out.later (hf.alloc (.cells #[.string (B x.path), .string (B x.data), .int .i64 x.ver, .int .i64 x.turn, .int .i64 x.own] TN))))
    clear hf hbx o0 o1 o2 o3 o4 o5
    obtain ⟨x0, x1, x2, x3, x4⟩ := box5 K3.out.now.1
    obtain ⟨o0, o1, o2, o3, o4, o5⟩ := box6 K3.out.now.2.1.op
    go_wp2_with fail
    refine (HCH.out _ K3.out.now.2.2.2).mono ?_
    rintro e w4 ⟨v4, rfl, ho, hf⟩
    obtain ⟨a4, c4, rfl⟩ := ho.shape
    have K4 := Lib.hid (Kp.and (Kp.ns ho.ns) (K3.out.later hf))
    clear ho hf x0 x1 x2 x3 x4 o0 o1 o2 o3 o4 o5
    obtain ⟨x0, x1, x2, x3, x4⟩ := box5 K4.out.now.2.1
    obtain ⟨o0, o1, o2, o3, o4, o5⟩ := box6 K4.out.now.2.2.1.op
    obtain ⟨ks, hks⟩ : ∃ ks, ks = kids l p := ⟨_, rfl⟩
    rw [← hks] at K4 ⊢
    have HKS := Lib.hid hks
    obtain ⟨kn, hkn⟩ : ∃ kn, kn = ks.length := ⟨_, rfl⟩
    rw [← hkn] at K4 ⊢
    have HKN := Lib.hid hkn
    have hkb : kn ≤ 512 := by rw [hkn, hks]; exact Nat.le_trans (List.length_filter_le _ _) HT.out.most
    have hsp : Sp ks := by rw [hks]; exact fun x hx => (tr_few HT.out).2 x (List.mem_filter.1 hx).1
    have HSP := Lib.hid hsp
    have HW4 := Lib.hid K4.out.now.2.2.1.sz
    clear hks hkn hsp x0 x1 x2 x3 x4
    have H0 : Hid (SwM l ks ow w w4 0 (.slice ao n cap) (.slice none 0 0) w4) := ⟨by rw [List.take_zero]; exact Own.nil _ _, Fp.refl _ _, by rw [List.take_zero, cur_nil]; exact K4.out.now.2.2.2.2, fun q hq => by
      have h1 := HVV.out.blk (HNN.out ▸ HT.out.tree.pos) q hq
      exact ⟨.inl h1, Nat.lt_of_lt_of_le h1 K4.out.now.2.2.2.1.size, fun e => by cases e⟩⟩
    go_wp2_with fail
    clear o0 o1 o2 o3 o4 o5
    go_loopw [0, 10, 11] (fun lv nv i wr => ∃ j : Nat, j ≤ kn ∧ i = .int .i64 j ∧ Hid (SwM l ks ow w w4 j lv nv wr)) (fun _ _ i _ => kn - (RowKit.intOf i).toNat)
    case atStart => exact ⟨0, Nat.zero_le _, rfl, H0⟩
    case round =>
      clear H0
      obtain ⟨j, hj, rfl, hR⟩ := hrel
      rename_i wr _
      have HK := Lib.hid (K4.out.later hR.out.fp)
      obtain ⟨o0, o1, o2, o3, o4, o5⟩ := box6 HK.out.now.2.2.1.op
      obtain ⟨nao, ncap, rfl⟩ := hR.out.own.shape
      obtain ⟨la, lcp, rfl⟩ := hR.out.ns.shape
      by_cases hlt : j < kn
      · have hkl : j < ks.length := by rw [← HKN.out]; exact hlt
        obtain ⟨g, o, cap', e, _, _, _, hcell⟩ := K4.out.now.1.at (by omega)
        injection e with e1 e2 e3
        subst e1 e3
        clear e2
        have hnd4 := hcell j hkl
        have hnd := hnd4.keep hR.out.fp (fun h => h)
        have hxs := HSP.out _ (List.getElem_mem hkl)
        have htk : ks.take (j + 1) = ks.take j ++ [ks[j]] := List.take_succ_eq_append_getElem hkl
        have hnl : (((ks.take j).filter (fun c => c.own == ow)).map (fun n => last n.path)).length ≤ 512 := by
          rw [List.length_map]
          exact Nat.le_trans (Nat.le_trans (List.length_filter_le _ _) (by rw [List.length_take]; omega)) hkb
        generalize ks[j] = x at *
        have hla := fun w => rLast_g x.path w (sz_of hxs (by omega))
        have HLA := Lib.hid hla
        have HND := Lib.hid hnd
        have HND4 := Lib.hid hnd4
        have HTK := Lib.hid htk
        have HNL := Lib.hid hnl
        have HL := Lib.hid hlt
        have q3 : ((j : Int) < (kn : Int)) = True := eq_true (by omega)
        have q4 : (j < kn) = True := eq_true hlt
        have c4' := hnd.c4
        clear hla hnd hnd4 htk hcell hxs hkl hlt
        have hsc : Sp (cur l (ks.take j) ow) := fun x hx => (tr_few HT.out).2 x (List.mem_filter.1 hx).1
        have hlc : (cur l (ks.take j) ow).length ≤ 2000 := Nat.le_trans (List.length_filter_le _ _) (by have := HT.out.most; omega)
        have hwo := fun w' hv => rWithout_c (.slice la (cur l (ks.take j) ow).length lcp) (cur l (ks.take j) ow) x.path w' hv hsc hlc
        have HR := hR
        obtain ⟨ps, hps⟩ : ∃ ps, ps = (((ks.take j).filter (fun c => c.own == ow)).map (fun n => last n.path)) := ⟨_, rfl⟩
        rw [← hps] at hnl HR hR ⊢
        have HPS := Lib.hid hps
        obtain ⟨cn, hcn⟩ : ∃ cn, cn = (cur l (ks.take j) ow).length := ⟨_, rfl⟩
        rw [← hcn] at hwo HR hR ⊢
        have HWO := Lib.hid hwo
        clear hsc hlc hwo hcn hps hnl
        have hs3 : (wr.drew).cell? ⟨g, o + j * 5 + 4, none⟩ = some (.int .i64 x.own) ∧ (wr.drew).cell? ⟨w.heap.size, 4, none⟩ = some (.int .i64 ow) :=
          ⟨(Fp.refl Non wr).drew.cell c4' (fun h => h), (Fp.refl Non wr).drew.cell o4 (fun h => h)⟩
        have HS3 := Lib.hid hs3
        have HD := Lib.hid ((Fp.refl Non wr).drew)
        clear hs3 c4'
        by_cases how : x.own = ow
        · have qo1 : (x.own == ow) = true := beq_iff_eq.2 how
          have qo2 : (x.own = ow) = True := eq_true how
          have HOW := Lib.hid how
          clear how
          go_wp2_with fail
          refine wp_region_held_drew (S := (fun w' => w'.cell? ⟨g, o + j * 5 + 4, none⟩ = some (.int .i64 x.own) ∧ w'.cell? ⟨w.heap.size, 4, none⟩ = some (.int .i64 ow))) (by kernel_rfl) ?_ (fun hHeld => ?_)
          · exact HS3.out
          refine wpAnyH_take (i := 0) (oi := ?oi137) (v := ?vi137) ?h137 (by kernel_rfl) (by kernel_rfl) (by kernel_rfl) ?q137 (Or.inl ⟨?w137, ?y137⟩) hHeld ?r137
          case h137 => simp only [zA, zB] <;> exact rfl
          case q137 => exact fun _ _ _ h => h
          case w137 => rfl
          case y137 =>
            intro w hSw
            (try dsimp only at hSw)
            obtain ⟨s0, s1⟩ := hSw
            go_simp
            try with_reducible rfl
          try simp only [zP, zN, zS, zT, zU]
          refine wpAnyH_take (i := 1) (oi := ?oi138) (v := ?vi138) ?h138 (by kernel_rfl) (by kernel_rfl) (by kernel_rfl) ?q138 (Or.inl ⟨?w138, ?y138⟩) hHeld ?r138
          case h138 => simp only [zA, zB, zC] <;> exact rfl
          case q138 => exact fun _ _ _ h => h
          case w138 => rfl
          case y138 =>
            intro w hSw
            (try dsimp only at hSw)
            obtain ⟨s0, s1⟩ := hSw
            go_simp
            try with_reducible rfl
          try simp only [zP, zN, zS, zT, zU]
          refine wpAnyH_take (i := 2) (oi := ?oi139) (v := ?vi139) ?h139 (by kernel_rfl) (by kernel_rfl) (by kernel_rfl) ?q139 (Or.inl ⟨?w139, ?y139⟩) hHeld ?r139
          case h139 => simp only [zA, zB, zC] <;> exact rfl
          case q139 => exact fun _ _ _ h => h
          case w139 => rfl
          case y139 =>
            intro w hSw
            (try dsimp only at hSw)
            obtain ⟨s0, s1⟩ := hSw
            go_simp
            try with_reducible rfl
          try simp only [zP, zN, zS, zT, zU]
          refine wpAnyH_take (i := 3) (oi := ?oi140) (v := ?vi140) ?h140 (by kernel_rfl) (by kernel_rfl) (by kernel_rfl) ?q140 (Or.inl ⟨?w140, ?y140⟩) hHeld ?r140
          case h140 => simp only [zA, zB, zC] <;> exact rfl
          case q140 => exact fun _ _ _ h => h
          case w140 => rfl
          case y140 =>
            intro w hSw
            (try dsimp only at hSw)
            obtain ⟨s0, s1⟩ := hSw
            go_simp
            try with_reducible rfl
          try simp only [zP, zN, zS, zT, zU]
          refine wpAnyH_take (i := 4) (oi := ?oi141) (v := ?vi141) ?h141 (by kernel_rfl) (by kernel_rfl) (by kernel_rfl) ?q141 (Or.inl ⟨?w141, ?y141⟩) hHeld ?r141
          case h141 => simp only [zA, zB, zC] <;> exact rfl
          case q141 => exact fun _ _ _ h => h
          case w141 => rfl
          case y141 =>
            intro w hSw
            (try dsimp only at hSw)
            obtain ⟨s0, s1⟩ := hSw
            go_simp
            try with_reducible rfl
          try simp only [zP, zN, zS, zT, zU]
          refine wpAnyH_take (i := 5) (oi := ?oi142) (v := ?vi142) ?h142 (by kernel_rfl) (by kernel_rfl) (by kernel_rfl) ?q142 (Or.inl ⟨?w142, ?y142⟩) hHeld ?r142
          case h142 => simp only [zA, zB, zC] <;> exact rfl
          case q142 => exact fun _ _ _ h => h
          case w142 => rfl
          case y142 =>
            intro w hSw
            (try dsimp only at hSw)
            obtain ⟨s0, s1⟩ := hSw
            go_simp
            try with_reducible rfl
          try simp only [zP, zN, zS, zT, zU]
          refine wpAnyH_take (i := 6) (oi := ?oi143) (v := ?vi143) ?h143 (by kernel_rfl) (by kernel_rfl) (by kernel_rfl) ?q143 (Or.inl ⟨?w143, ?y143⟩) hHeld ?r143
          case h143 => simp only [zA, zB, zC] <;> exact rfl
          case q143 => exact fun _ _ _ h => h
          case w143 => rfl
          case y143 =>
            intro w hSw
            (try dsimp only at hSw)
            obtain ⟨s0, s1⟩ := hSw
            go_simp
            try with_reducible rfl
          try simp only [zP, zN, zS, zT, zU]
          refine wpAnyH_take (i := 7) (oi := ?oi144) (v := ?vi144) ?h144 (by kernel_rfl) (by kernel_rfl) (by kernel_rfl) ?q144 (Or.inl ⟨?w144, ?y144⟩) hHeld ?r144
          case h144 => simp only [zA, zB, zC] <;> exact rfl
          case q144 => exact fun _ _ _ h => h
          case w144 => rfl
          case y144 =>
            intro w hSw
            (try dsimp only at hSw)
            obtain ⟨s0, s1⟩ := hSw
            go_simp
            try with_reducible rfl
          try simp only [zP, zN, zS, zT, zU]
          refine wpAnyH_done (by kernel_rfl) ?_ _
          clear o0 o1 o2 o3 o4 o5
          have c0 := (HND.out.keep HD.out (fun h => h)).c0
          unfold strV at c0
          go_wp2_with fail
          refine (HLA.out _).mono ?_
          rintro e w6 ⟨rfl, g6⟩
          have G6 := Lib.hid (HD.out.then g6.fp)
          have F6 := Lib.hid (hR.out.fp.then (HD.out.then g6.fp))
          have hown6 : Own w4.heap.size w6 (.slice nao ps.length ncap) ps := by
            have := hR.out.own.grown' G6.out
            rw [← HPS.out] at this; exact this
          have hap := app_name2 w6 w4.heap.size _ ps (last x.path) TSs hown6 (by have := HNL.out; rw [← HPS.out] at this; omega) F6.out.size
          have HAP := Lib.hid hap
          have HOB := Lib.hid (fun k hk => (hown6.1.lt k hk))
          clear g6 hown6 hap c0
          go_wp2_with (at_builtin; go_must (refine wpList_app rfl _ _ _ _ rfl _ _ rfl rfl _ HAP.out ?_))
          intro v7 w7 hR7
          have F7 := Lib.hid (F6.out.trans hR7.fp (fun k hk => .inr (HOB.out k hk).1))
          have hns7 := (HR.out.ns.non G6.out).keep hR7.fp (fun q hq e => (HR.out.blk q hq).2.2 e)
          have HO7 := Lib.hid hR7.own
          have c0 := (HND4.out.keep F7.out (fun h => h)).c0
          unfold strV at c0
          clear HAP
          go_wp2_with fail
          refine (HWO.out _ hns7).mono ?_
          rintro e w8 ⟨v8, rfl, ho8, hf8⟩
          have hM : Hid (SwM l ks ow w w4 (j + 1) v8 v7 w8) := by
            refine ⟨?_, F7.out.then hf8, ?_, fun q hq => ⟨.inr ?_, (ho8.lt q hq).2, fun e => ?_⟩⟩
            · rw [HTK.out, names_snoc, if_pos HOW.out, List.map_append, ← HPS.out]; exact HO7.out.grown' hf8
            · rw [HTK.out, cur_snoc, if_pos HOW.out]; exact ho8.ns
            · exact Nat.le_trans F7.out.size (ho8.lt q hq).1
            · have h1 := (HO7.out.1.lt q e).2; have h2 := (ho8.lt q hq).1; omega
          have hj1 := HL.out
          clear hns7 ho8 hf8 c0 hR7
          go_wp2
          go_roundw
          case rel => exact ⟨j + 1, by omega, by go_num, hM⟩
          case measure => simp [RowKit.intOf]; omega
        · have qo1 : (x.own == ow) = false := beq_eq_false_iff_ne.2 how
          have qo2 : (x.own = ow) = False := eq_false how
          have HOW := Lib.hid how
          clear how
          go_wp2_with fail
          refine wp_region_held_drew (S := (fun w' => w'.cell? ⟨g, o + j * 5 + 4, none⟩ = some (.int .i64 x.own) ∧ w'.cell? ⟨w.heap.size, 4, none⟩ = some (.int .i64 ow))) (by kernel_rfl) ?_ (fun hHeld => ?_)
          · exact HS3.out
          refine wpAnyH_take (i := 0) (oi := ?oi145) (v := ?vi145) ?h145 (by kernel_rfl) (by kernel_rfl) (by kernel_rfl) ?q145 (Or.inl ⟨?w145, ?y145⟩) hHeld ?r145
          case h145 => simp only [zA, zB] <;> exact rfl
          case q145 => exact fun _ _ _ h => h
          case w145 => rfl
          case y145 =>
            intro w hSw
            (try dsimp only at hSw)
            obtain ⟨s0, s1⟩ := hSw
            go_simp
            try with_reducible rfl
          try simp only [zP, zN, zS, zT, zU]
          refine wpAnyH_take (i := 1) (oi := ?oi146) (v := ?vi146) ?h146 (by kernel_rfl) (by kernel_rfl) (by kernel_rfl) ?q146 (Or.inl ⟨?w146, ?y146⟩) hHeld ?r146
          case h146 => simp only [zA, zB, zC] <;> exact rfl
          case q146 => exact fun _ _ _ h => h
          case w146 => rfl
          case y146 =>
            intro w hSw
            (try dsimp only at hSw)
            obtain ⟨s0, s1⟩ := hSw
            go_simp
            try with_reducible rfl
          try simp only [zP, zN, zS, zT, zU]
          refine wpAnyH_take (i := 2) (oi := ?oi147) (v := ?vi147) ?h147 (by kernel_rfl) (by kernel_rfl) (by kernel_rfl) ?q147 (Or.inl ⟨?w147, ?y147⟩) hHeld ?r147
          case h147 => simp only [zA, zB, zC] <;> exact rfl
          case q147 => exact fun _ _ _ h => h
          case w147 => rfl
          case y147 =>
            intro w hSw
            (try dsimp only at hSw)
            obtain ⟨s0, s1⟩ := hSw
            go_simp
            try with_reducible rfl
          try simp only [zP, zN, zS, zT, zU]
          refine wpAnyH_take (i := 3) (oi := ?oi148) (v := ?vi148) ?h148 (by kernel_rfl) (by kernel_rfl) (by kernel_rfl) ?q148 (Or.inl ⟨?w148, ?y148⟩) hHeld ?r148
          case h148 => simp only [zA, zB, zC] <;> exact rfl
          case q148 => exact fun _ _ _ h => h
          case w148 => rfl
          case y148 =>
            intro w hSw
            (try dsimp only at hSw)
            obtain ⟨s0, s1⟩ := hSw
            go_simp
            try with_reducible rfl
          try simp only [zP, zN, zS, zT, zU]
          refine wpAnyH_take (i := 4) (oi := ?oi149) (v := ?vi149) ?h149 (by kernel_rfl) (by kernel_rfl) (by kernel_rfl) ?q149 (Or.inl ⟨?w149, ?y149⟩) hHeld ?r149
          case h149 => simp only [zA, zB, zC] <;> exact rfl
          case q149 => exact fun _ _ _ h => h
          case w149 => rfl
          case y149 =>
            intro w hSw
            (try dsimp only at hSw)
            obtain ⟨s0, s1⟩ := hSw
            go_simp
            try with_reducible rfl
          try simp only [zP, zN, zS, zT, zU]
          refine wpAnyH_take (i := 5) (oi := ?oi150) (v := ?vi150) ?h150 (by kernel_rfl) (by kernel_rfl) (by kernel_rfl) ?q150 (Or.inl ⟨?w150, ?y150⟩) hHeld ?r150
          case h150 => simp only [zA, zB, zC] <;> exact rfl
          case q150 => exact fun _ _ _ h => h
          case w150 => rfl
          case y150 =>
            intro w hSw
            (try dsimp only at hSw)
            obtain ⟨s0, s1⟩ := hSw
            go_simp
            try with_reducible rfl
          try simp only [zP, zN, zS, zT, zU]
          refine wpAnyH_take (i := 6) (oi := ?oi151) (v := ?vi151) ?h151 (by kernel_rfl) (by kernel_rfl) (by kernel_rfl) ?q151 (Or.inl ⟨?w151, ?y151⟩) hHeld ?r151
          case h151 => simp only [zA, zB, zC] <;> exact rfl
          case q151 => exact fun _ _ _ h => h
          case w151 => rfl
          case y151 =>
            intro w hSw
            (try dsimp only at hSw)
            obtain ⟨s0, s1⟩ := hSw
            go_simp
            try with_reducible rfl
          try simp only [zP, zN, zS, zT, zU]
          refine wpAnyH_take (i := 7) (oi := ?oi152) (v := ?vi152) ?h152 (by kernel_rfl) (by kernel_rfl) (by kernel_rfl) ?q152 (Or.inl ⟨?w152, ?y152⟩) hHeld ?r152
          case h152 => simp only [zA, zB, zC] <;> exact rfl
          case q152 => exact fun _ _ _ h => h
          case w152 => rfl
          case y152 =>
            intro w hSw
            (try dsimp only at hSw)
            obtain ⟨s0, s1⟩ := hSw
            go_simp
            try with_reducible rfl
          try simp only [zP, zN, zS, zT, zU]
          refine wpAnyH_done (by kernel_rfl) ?_ _
          clear o0 o1 o2 o3 o4 o5
          have hM : Hid (SwM l ks ow w w4 (j + 1) (.slice la cn lcp) (.slice nao ps.length ncap) wr.drew) := by
            refine ⟨?_, hR.out.fp.then HD.out, ?_, fun q hq => ⟨(HR.out.blk q hq).1, Nat.lt_of_lt_of_le (HR.out.blk q hq).2.1 HD.out.size, (HR.out.blk q hq).2.2⟩⟩
            · rw [HTK.out, names_snoc, if_neg HOW.out, List.append_nil, ← HPS.out]; have := HR.out.own.grown' HD.out; rw [← HPS.out] at this; exact this
            · rw [HTK.out, cur_snoc, if_neg HOW.out]; exact HR.out.ns.non HD.out
          have hj1 := HL.out
          go_wp2
          go_roundw
          case rel => exact ⟨j + 1, by omega, by go_num, hM⟩
          case measure => simp [RowKit.intOf]; omega
      · have hke : j = kn := by omega
        subst hke
        have q3 : ((j : Int) < (j : Int)) = False := eq_false (by omega)
        have hown := hR.out.own
        have hns := hR.out.ns
        rw [List.take_of_length_le (by rw [← HKN.out]; exact Nat.le_refl _)] at hown hns ⊢
        have HR := hR
        obtain ⟨nl, hnl⟩ : ∃ nl, nl = ((ks.filter (fun c => c.own == ow)).map (fun n => last n.path)).length := ⟨_, rfl⟩
        obtain ⟨cn, hcn⟩ : ∃ cn, cn = (cur l ks ow).length := ⟨_, rfl⟩
        rw [← hnl] at hown ⊢
        rw [← hcn] at hns ⊢
        have HOW := Lib.hid hown
        have HNS := Lib.hid hns
        have HBK : Hid (∀ q, (Value.slice la 0 0).ownBlock = some q → q < w.heap.size ∨ w4.heap.size ≤ q) := fun q hq => (hR.out.blk q (by rw [own_blk _ _ _ 0 0]; exact hq)).1
        clear hlt hj hown hns hnl hcn o0 o1 o2 o3 o4 o5
        have hbr := HK.out.now.2.2.1
        have hfw := HK.out.now.2.2.2.1
        obtain ⟨r0, r1, r2, r3, r4⟩ := hbr.r
        have z0 := hbr.fz 0; have z1 := hbr.fz 1; have z2 := hbr.fz 2; have z3 := hbr.fz 3; have z4 := hbr.fz 4
        have HE := Lib.hid (And.intro hbr.res hfw)
        clear hbr hfw
        go_wp2
        have hw9 := set5 HE.out.1 (.int .i64 0) (.string ⟨#[]⟩) (.string ⟨#[]⟩) (.int .i64 0) (.slice nao nl ncap)
        have hfz := fp5 (S := Non) HE.out.2 (b := w.heap.size + 1) (.inr (by omega)) (.int .i64 0) (.string ⟨#[]⟩) (.string ⟨#[]⟩) (.int .i64 0) (.slice nao nl ncap)
        have hfk := fp5k HE.out.1 (.int .i64 0) (.string ⟨#[]⟩) (.string ⟨#[]⟩) (.int .i64 0) (.slice nao nl ncap)
        generalize (((((World.setCell _ _ _).setCell _ _).setCell _ _).setCell _ _).setCell _ _) = wz at *
        have s0 := cell_of_row _ (w.heap.size + 1) 0 _ _ _ hw9
        have s1 := cell_of_row _ (w.heap.size + 1) 1 _ _ _ hw9
        have s2 := cell_of_row _ (w.heap.size + 1) 2 _ _ _ hw9
        have s3 := cell_of_row _ (w.heap.size + 1) 3 _ _ _ hw9
        have s4 := cell_of_row _ (w.heap.size + 1) 4 _ _ _ hw9
        simp only [zA, zB, zC] at s0 s1 s2 s3 s4
        exact bodyPost_ret (v := .tuple #[.slice la cn lcp, .agg #[.int .i64 0, .string ⟨#[]⟩, .string ⟨#[]⟩, .int .i64 0, .slice nao nl ncap]]) (by simp [results, Tryz.results8, go_sem, s0, s1, s2, s3, s4]) rfl (⟨⟨.slice la cn lcp, .slice nao nl ncap, rfl, by (show Ns wz _ (l.filter (fun n => !swept ⟨7, p, d, vv, ow, tt⟩ n))); rw [← cur_fin HT.out.asc ⟨7, p, d, vv, ow, tt⟩]; have h := HNS.out; rw [HKS.out] at h; exact h.keep hfk (fun k hk e => by have e : k = w.heap.size + 1 := e; have h1 := HBK.out k (by rw [own_blk _ _ _ cn lcp]; exact hk); have h2 := HW4.out; omega), by (show Own w.heap.size wz _ ((l.filter (swept ⟨7, p, d, vv, ow, tt⟩)).map (fun n => last n.path))); rw [← names_fin, ← HKS.out]; exact Own.low ⟨hfk.owns HOW.out.1 (fun k hk e => by have e : k = w.heap.size + 1 := e; have h1 := (HOW.out.1.lt k hk).1; have h2 := HW4.out; omega), HOW.out.2⟩ (by have h2 := HW4.out; omega)⟩, hfz⟩)
end Go.Proofs.YthaepjeikicigaaGreatDoor
