/- Texts of this proof, merged. -/
import Derived.Test.YthaepjeikicigaaGreatDoorZX
/- The document's Apply. -/
namespace Go.Proofs.YthaepjeikicigaaGreatDoor
set_option linter.unusedSimpArgs false
set_option linter.unusedVariables false
set_option maxRecDepth 20000
set_option linter.unusedVariables false
set_option linter.unusedSimpArgs false
open Go.RowKit Pm
namespace Pm
/-- What a Sweep leaves, behind some of the children. -/
def cur (l ks : List Nd) (ow : Int) : List Nd := l.filter (fun n => !(ks.any (fun c => c.own == ow && c.path == n.path)))
theorem cur_nil (l : List Nd) (ow : Int) : cur l [] ow = l := by unfold cur; simp
theorem cur_snoc (l ks : List Nd) (c : Nd) (ow : Int) : cur l (ks ++ [c]) ow = if c.own = ow then wo (cur l ks ow) c.path else cur l ks ow := by
  unfold cur wo
  split
  · rename_i h
    rw [List.filter_filter]
    congr 1
    funext n
    simp only [List.any_append, List.any_cons, List.any_nil, Bool.or_false, h, beq_self_eq_true, Bool.true_and, Bool.not_or]
    rw [Bool.and_comm]
    congr 1
    by_cases e : c.path = n.path
    · simp [e]
    · have e2 : ¬ n.path = c.path := fun k => e k.symm
      have e3 : (c.path == n.path) = false := beq_eq_false_iff_ne.2 e
      have e4 : (n.path != c.path) = true := bne_iff_ne.2 e2
      rw [e3, e4]; rfl
  · rename_i h
    congr 1
    funext n
    simp [h]
theorem cur_fin {l : List Nd} (h : Asc l) (o : Opn) : cur l (kids l o.path) o.own = l.filter (fun n => !swept o n) := by
  unfold cur
  apply List.filter_congr
  intro n hn
  congr 1
  rw [Bool.eq_iff_iff, List.any_eq_true]
  unfold swept
  simp only [Bool.and_eq_true, beq_iff_eq]
  constructor
  · rintro ⟨c, hc, h1, h2⟩
    obtain ⟨hm, hp⟩ := mem_kids.1 hc
    have e1 := find_of h hm
    have e2 := find_of h hn
    rw [h2, e2] at e1
    obtain rfl := Option.some.inj e1
    exact ⟨h1, hp⟩
  · rintro ⟨h1, h2⟩
    exact ⟨n, mem_kids.2 ⟨hn, h2⟩, h1, rfl⟩
theorem names_fin (l : List Nd) (o : Opn) : (kids l o.path).filter (fun c => c.own == o.own) = l.filter (swept o) := by
  unfold kids; rw [List.filter_filter]; rfl
theorem names_snoc (ks : List Nd) (c : Nd) (ow : Int) : (ks ++ [c]).filter (fun c => c.own == ow) = ks.filter (fun c => c.own == ow) ++ if c.own = ow then [c] else [] := by
  rw [List.filter_append, List.filter_cons, List.filter_nil]
  by_cases h : c.own = ow <;> simp [h]
theorem perform_not1 {l : List Nd} {o : Opn} (h : o.kind ≠ 1) : perform l o = (match find l o.path with
    | none => (l, .bad 62)
    | some x => if versioned o.kind = true ∧ o.ver ≠ -1 ∧ o.ver ≠ x.ver then (l, .bad 63) else doit l o x) := by
  unfold perform; rw [if_neg h]; rfl
end Pm
theorem may_len2 {o : Opn} (hm : may o = true) : o.path.length ≤ 1000000 := by
  have := may_split hm
  obtain ⟨ps, hps⟩ := Option.isSome_iff_exists.1 this
  obtain ⟨hP, e⟩ := (split_iff _ _).1 hps
  have := joinP_len hP
  rw [e] at this
  exact Nat.le_trans this (by omega)
theorem parent_ok {o : Opn} (hm : may o = true) : True := trivial
theorem may_ver {k : Int} {p d : Bs} {vv ow : Int} {tt : Bool} (hk : k = 2 ∨ k = 3 ∨ k = 4) (hm : may ⟨k, p, d, vv, ow, tt⟩ = true) : -1 ≤ vv := by
  unfold may at hm
  simp only [Bool.and_eq_true] at hm
  have := hm.2
  rcases hk with rfl | rfl | rfl <;> simp at this <;> omega
theorem res_ok {w w' : World} {v : Value} {l : List Nd} {rp rd : Bs} {rv : Int} (hn : Ns w' v l) (hf : Fp Non w w') : ApR w l ⟨0, rp, rd, rv, []⟩ (.returned (.tuple #[v, .agg #[.int .i64 0, .string (B rp), .string (B rd), .int .i64 rv, .slice none 0 0]])) w' :=
  ⟨⟨v, .slice none 0 0, rfl, hn, Own.nil _ _⟩, hf⟩
set_option maxHeartbeats 16000000 in
theorem rApply_4 (v : Value) (l : List Nd) (p d : Bs) (vv ow : Int) (tt : Bool) (w : World) (hv : Ns w v l) (hT : Tr l) (hm : may ⟨4, p, d, vv, ow, tt⟩ = true) :
    Calls Tryz.prog 8 #[v, .agg #[.int .i64 4, .string (B p), .string (B d), .int .i64 vv, .int .i64 ow, .bool tt]] w (ApR w (perform l ⟨4, p, d, vv, ow, tt⟩).1 (perform l ⟨4, p, d, vv, ow, tt⟩).2) := by
  obtain ⟨ao, cap, rfl⟩ := hv.shape
  have hpl : p.length ≤ 1000000 := may_len2 hm
  have hrr := fun w' hv => rRightN_g (.slice ao l.length cap) l w' hv (tr_few hT).2
  rw [right_true hT.tree] at hrr
  have hmy := fun w' => rMay_c ⟨4, p, d, vv, ow, tt⟩ w' hpl
  rw [hm] at hmy
  have hfd := fun w' hv => rFind_c (.slice ao l.length cap) l p w' hv (tr_few hT).1
  have hcl := parent_ok hm
  have hln := hT.most
  rw [perform_not1 (l := l) (o := ⟨4, p, d, vv, ow, tt⟩) (by simp)]
  simp only
  have hdo : ∀ x, doit l ⟨4, p, d, vv, ow, tt⟩ x = (l, ⟨0, [], [], x.ver, []⟩) := fun x => by unfold doit; simp
  have HVM := Lib.hid (may_ver (.inr (.inr rfl)) hm)
  have hb0 := Bx.made w 4 p d vv ow tt
  have hf0 : Fp Non w ((w.alloc (.cells #[.int .i64 4, .string (B p), .string (B d), .int .i64 vv, .int .i64 ow, .bool tt] TO_)).alloc (.cells #[.int .i64 0, .string ⟨#[]⟩, .string ⟨#[]⟩, .int .i64 0, .slice none 0 0] TR)) := (fp_alloc w _).then (fp_alloc _ _)
  have HF0 := Lib.hid (Kp.and (fun W' f => hb0.non f : Kp (Bx w 4 p d vv ow tt) ((w.alloc (.cells #[.int .i64 4, .string (B p), .string (B d), .int .i64 vv, .int .i64 ow, .bool tt] TO_)).alloc (.cells #[.int .i64 0, .string ⟨#[]⟩, .string ⟨#[]⟩, .int .i64 0, .slice none 0 0] TR))) (Kp.and (Kp.fp hf0) (Kp.ns (hv.non hf0))))
  have HRR := Lib.hid hrr
  have HMY := Lib.hid hmy
  have HT := Lib.hid hT
  have HM := Lib.hid hm
  have HVV := Lib.hid hv
  unfold opV strV at HMY
  simp only at HMY
  clear hrr hmy hf0 hb0 hv hT hm hpl
  cases hfx : find l p with
  | none =>
    rw [hfx] at hfd
    simp only [Option.getD_none, Option.isSome_none, ndV, strV, zeroNd] at hfd
    dsimp only
    obtain ⟨n, hnn⟩ : ∃ n, n = l.length := ⟨_, rfl⟩
    rw [← hnn] at HVV hfd HF0 HRR ⊢
    have HFD := Lib.hid hfd
    have HNN := Lib.hid hnn
    clear hfd hfx hnn
    go_enter Tryz.func8, Tryz.ntmps8
    go_wp2_with fail
    refine (HRR.out _ HF0.out.now.2.2).mono ?_
    rintro e w1 ⟨rfl, hf⟩
    have K1 := Lib.hid (HF0.out.later hf)
    clear hf
    obtain ⟨o0, o1, o2, o3, o4, o5⟩ := box6 K1.out.now.1.op
    go_wp2_with fail
    refine (HMY.out _).mono ?_
    rintro e w2 ⟨rfl, hf⟩
    have K2 := Lib.hid (K1.out.later hf)
    clear hf o0 o1 o2 o3 o4 o5
    obtain ⟨o0, o1, o2, o3, o4, o5⟩ := box6 K2.out.now.1.op
    go_wp2_with fail
    refine (HFD.out _ K2.out.now.2.2).mono ?_
    rintro e w3 ⟨rfl, hf⟩
    have HW3 := Lib.hid (Nat.le_trans K2.out.now.1.sz hf.size)
    have K3 := Lib.hid (K2.out.later (hf.alloc (.cells #[.string (B []), .string (B []), .int .i64 0, .int .i64 0, .int .i64 0] TN)))
    clear hf
    have hbr := K3.out.now.1
    have hfw := K3.out.now.2.1
    obtain ⟨r0, r1, r2, r3, r4⟩ := hbr.r
    have z0 := hbr.fz 0; have z1 := hbr.fz 1; have z2 := hbr.fz 2; have z3 := hbr.fz 3; have z4 := hbr.fz 4
    have HE := Lib.hid (And.intro hbr.res hfw)
    clear hbr hfw
    go_wp2
    have hw9 := set5 HE.out.1 (.int .i64 62) (.string ⟨#[]⟩) (.string ⟨#[]⟩) (.int .i64 0) (.slice none 0 0)
    have hfz := fp5 (S := Non) HE.out.2 (b := w.heap.size + 1) (.inr (by omega)) (.int .i64 62) (.string ⟨#[]⟩) (.string ⟨#[]⟩) (.int .i64 0) (.slice none 0 0)
    have hfk := fp5k HE.out.1 (.int .i64 62) (.string ⟨#[]⟩) (.string ⟨#[]⟩) (.int .i64 0) (.slice none 0 0)
    generalize (((((World.setCell _ _ _).setCell _ _).setCell _ _).setCell _ _).setCell _ _) = wz at *
    have s0 := cell_of_row _ (w.heap.size + 1) 0 _ _ _ hw9
    have s1 := cell_of_row _ (w.heap.size + 1) 1 _ _ _ hw9
    have s2 := cell_of_row _ (w.heap.size + 1) 2 _ _ _ hw9
    have s3 := cell_of_row _ (w.heap.size + 1) 3 _ _ _ hw9
    have s4 := cell_of_row _ (w.heap.size + 1) 4 _ _ _ hw9
    simp only [zA, zB, zC] at s0 s1 s2 s3 s4
    exact bodyPost_ret (v := .tuple #[.slice ao n cap, .agg #[.int .i64 62, .string ⟨#[]⟩, .string ⟨#[]⟩, .int .i64 0, .slice none 0 0]]) (by simp [results, Tryz.results8, go_sem, s0, s1, s2, s3, s4]) rfl (res_bad (HVV.out.non hfz) hfz)
  | some x =>
    rw [hfx] at hfd
    simp only [Option.getD_some, Option.isSome_some, ndV, strV] at hfd
    dsimp only
    have HFX := Lib.hid hfx
    have hft := (fits_iff x).1 (HT.out.fit x (find_mem hfx).1)
    have HFT := Lib.hid hft
    have hxv : 0 ≤ x.ver ∧ x.ver ≤ 281474976710656 := by omega
    have hch := fun w' hv => rChildren_c (.slice ao l.length cap) l p w' hv (tr_few HT.out).2 (by omega)
    obtain ⟨n, hnn⟩ : ∃ n, n = l.length := ⟨_, rfl⟩
    rw [← hnn] at HVV hfd HF0 HRR hch hln ⊢
    have HFD := Lib.hid hfd
    have HCH := Lib.hid hch
    have HNN := Lib.hid hnn
    clear hfd hfx hnn hft hch
    by_cases hver : vv ≠ -1 ∧ vv ≠ x.ver
    · rw [if_pos ⟨rfl, hver.1, hver.2⟩]
      have hvm := HVM.out
      have qv0 : (0 ≤ vv) = True := eq_true (by omega)
      have qv1 : (vv < 0) = False := eq_false (by omega)
      have qv2 : (vv == x.ver) = false := beq_eq_false_iff_ne.2 hver.2
      have qv3 : (vv != x.ver) = true := by simpa using hver.2
      have qv4 : (vv = x.ver) = False := eq_false hver.2
      clear hver hvm
      go_enter Tryz.func8, Tryz.ntmps8
      go_wp2_with fail
      refine (HRR.out _ HF0.out.now.2.2).mono ?_
      rintro e w1 ⟨rfl, hf⟩
      have K1 := Lib.hid (HF0.out.later hf)
      clear hf
      obtain ⟨o0, o1, o2, o3, o4, o5⟩ := box6 K1.out.now.1.op
      go_wp2_with fail
      refine (HMY.out _).mono ?_
      rintro e w2 ⟨rfl, hf⟩
      have K2 := Lib.hid (K1.out.later hf)
      clear hf o0 o1 o2 o3 o4 o5
      obtain ⟨o0, o1, o2, o3, o4, o5⟩ := box6 K2.out.now.1.op
      go_wp2_with fail
      refine (HFD.out _ K2.out.now.2.2).mono ?_
      rintro e w3 ⟨rfl, hf⟩
      have HW3 := Lib.hid (Nat.le_trans K2.out.now.1.sz hf.size)
      have hbx := heap_alloc_new w3 (.cells #[.string (B x.path), .string (B x.data), .int .i64 x.ver, .int .i64 x.turn, .int .i64 x.own] TN)
      have K3 := Lib.hid (Kp.and (Kp.row hbx) (K2.out.later (hf.alloc (.cells #[.string (B x.path), .string (B x.data), .int .i64 x.ver, .int .i64 x.turn, .int .i64 x.own] TN))))
      clear hf hbx o0 o1 o2 o3 o4 o5
      obtain ⟨x0, x1, x2, x3, x4⟩ := box5 K3.out.now.1
      obtain ⟨o0, o1, o2, o3, o4, o5⟩ := box6 K3.out.now.2.1.op
      have hbr := K3.out.now.2.1
      have hfw := K3.out.now.2.2.1
      obtain ⟨r0, r1, r2, r3, r4⟩ := hbr.r
      have z0 := hbr.fz 0; have z1 := hbr.fz 1; have z2 := hbr.fz 2; have z3 := hbr.fz 3; have z4 := hbr.fz 4
      have HE := Lib.hid (And.intro hbr.res hfw)
      clear hbr hfw
      go_wp2
      have hw9 := set5 HE.out.1 (.int .i64 63) (.string ⟨#[]⟩) (.string ⟨#[]⟩) (.int .i64 0) (.slice none 0 0)
      have hfz := fp5 (S := Non) HE.out.2 (b := w.heap.size + 1) (.inr (by omega)) (.int .i64 63) (.string ⟨#[]⟩) (.string ⟨#[]⟩) (.int .i64 0) (.slice none 0 0)
      have hfk := fp5k HE.out.1 (.int .i64 63) (.string ⟨#[]⟩) (.string ⟨#[]⟩) (.int .i64 0) (.slice none 0 0)
      generalize (((((World.setCell _ _ _).setCell _ _).setCell _ _).setCell _ _).setCell _ _) = wz at *
      have s0 := cell_of_row _ (w.heap.size + 1) 0 _ _ _ hw9
      have s1 := cell_of_row _ (w.heap.size + 1) 1 _ _ _ hw9
      have s2 := cell_of_row _ (w.heap.size + 1) 2 _ _ _ hw9
      have s3 := cell_of_row _ (w.heap.size + 1) 3 _ _ _ hw9
      have s4 := cell_of_row _ (w.heap.size + 1) 4 _ _ _ hw9
      simp only [zA, zB, zC] at s0 s1 s2 s3 s4
      exact bodyPost_ret (v := .tuple #[.slice ao n cap, .agg #[.int .i64 63, .string ⟨#[]⟩, .string ⟨#[]⟩, .int .i64 0, .slice none 0 0]]) (by simp [results, Tryz.results8, go_sem, s0, s1, s2, s3, s4]) rfl (res_bad (HVV.out.non hfz) hfz)
    · rw [if_neg (by rintro ⟨_, a, b⟩; exact hver ⟨a, b⟩)]
      rw [hdo]
      by_cases hv1 : vv = -1
      · subst hv1
        clear hver
        go_enter Tryz.func8, Tryz.ntmps8
        go_wp2_with fail
        refine (HRR.out _ HF0.out.now.2.2).mono ?_
        rintro e w1 ⟨rfl, hf⟩
        have K1 := Lib.hid (HF0.out.later hf)
        clear hf
        obtain ⟨o0, o1, o2, o3, o4, o5⟩ := box6 K1.out.now.1.op
        go_wp2_with fail
        refine (HMY.out _).mono ?_
        rintro e w2 ⟨rfl, hf⟩
        have K2 := Lib.hid (K1.out.later hf)
        clear hf o0 o1 o2 o3 o4 o5
        obtain ⟨o0, o1, o2, o3, o4, o5⟩ := box6 K2.out.now.1.op
        go_wp2_with fail
        refine (HFD.out _ K2.out.now.2.2).mono ?_
        rintro e w3 ⟨rfl, hf⟩
        have HW3 := Lib.hid (Nat.le_trans K2.out.now.1.sz hf.size)
        have hbx := heap_alloc_new w3 (.cells #[.string (B x.path), .string (B x.data), .int .i64 x.ver, .int .i64 x.turn, .int .i64 x.own] TN)
        have K3 := Lib.hid (Kp.and (Kp.row hbx) (K2.out.later (hf.alloc (.cells #[.string (B x.path), .string (B x.data), .int .i64 x.ver, .int .i64 x.turn, .int .i64 x.own] TN))))
        clear hf hbx o0 o1 o2 o3 o4 o5
        obtain ⟨x0, x1, x2, x3, x4⟩ := box5 K3.out.now.1
        obtain ⟨o0, o1, o2, o3, o4, o5⟩ := box6 K3.out.now.2.1.op
        go_wp2_with fail
        refine (HCH.out _ K3.out.now.2.2.2).mono ?_
        rintro e w4 ⟨v4, rfl, ho, hf⟩
        obtain ⟨a4, c4, rfl⟩ := ho.shape
        have K4 := Lib.hid (Kp.and (Kp.ns ho.ns) (K3.out.later hf))
        clear ho hf x0 x1 x2 x3 x4 o0 o1 o2 o3 o4 o5
        obtain ⟨x0, x1, x2, x3, x4⟩ := box5 K4.out.now.2.1
        obtain ⟨o0, o1, o2, o3, o4, o5⟩ := box6 K4.out.now.2.2.1.op
        have KD := Lib.hid (K4.out.later ((Fp.refl Non w4).drew))
        have hs := (box5 KD.out.now.2.1).2.2.1
        have HSD := Lib.hid hs
        clear hs
        go_wp2_with fail
        refine wp_region_held_drew (S := (fun w' => w'.cell? ⟨w3.heap.size, 2, none⟩ = some (.int .i64 x.ver))) (by kernel_rfl) ?_ (fun hHeld => ?_)
        · exact HSD.out
        generalize World.drew w4 = wd at *
        have hbr := KD.out.now.2.2.1
        have hfw := KD.out.now.2.2.2.1
        obtain ⟨r0, r1, r2, r3, r4⟩ := hbr.r
        have z0 := hbr.fz 0; have z1 := hbr.fz 1; have z2 := hbr.fz 2; have z3 := hbr.fz 3; have z4 := hbr.fz 4
        have HE := Lib.hid (And.intro hbr.res hfw)
        clear hbr hfw
        refine wpAnyH_take (i := 0) (oi := ?oi101) (v := ?vi101) ?h101 (by kernel_rfl) (by kernel_rfl) (by kernel_rfl) ?q101 (Or.inl ⟨?w101, ?y101⟩) hHeld ?r101
        case h101 => simp only [zA, zB] <;> exact rfl
        case q101 => exact fun _ _ _ h => h
        case w101 => rfl
        case y101 =>
          intro w hSw
          (try dsimp only at hSw)
          have s0 := hSw
          go_simp
          try with_reducible rfl
        try simp only [zP, zN, zS, zT, zU]
        refine wpAnyH_take (i := 1) (oi := ?oi102) (v := ?vi102) ?h102 (by kernel_rfl) (by kernel_rfl) (by kernel_rfl) ?q102 (Or.inl ⟨?w102, ?y102⟩) hHeld ?r102
        case h102 => simp only [zA, zB, zC] <;> exact rfl
        case q102 => exact fun _ _ _ h => h
        case w102 => rfl
        case y102 =>
          intro w hSw
          (try dsimp only at hSw)
          have s0 := hSw
          go_simp
          try with_reducible rfl
        try simp only [zP, zN, zS, zT, zU]
        refine wpAnyH_take (i := 2) (oi := ?oi103) (v := ?vi103) ?h103 (by kernel_rfl) (by kernel_rfl) (by kernel_rfl) ?q103 (Or.inl ⟨?w103, ?y103⟩) hHeld ?r103
        case h103 => simp only [zA, zB, zC] <;> exact rfl
        case q103 => exact fun _ _ _ h => h
        case w103 => rfl
        case y103 =>
          intro w hSw
          (try dsimp only at hSw)
          have s0 := hSw
          go_simp
          try with_reducible rfl
        try simp only [zP, zN, zS, zT, zU]
        refine wpAnyH_take (i := 3) (oi := ?oi104) (v := ?vi104) ?h104 (by kernel_rfl) (by kernel_rfl) (by kernel_rfl) ?q104 (Or.inl ⟨?w104, ?y104⟩) hHeld ?r104
        case h104 => simp only [zA, zB, zC] <;> exact rfl
        case q104 => exact fun _ _ _ h => h
        case w104 => rfl
        case y104 =>
          intro w hSw
          (try dsimp only at hSw)
          have s0 := hSw
          go_simp
          try with_reducible rfl
        try simp only [zP, zN, zS, zT, zU]
        refine wpAnyH_take (i := 4) (oi := ?oi105) (v := ?vi105) ?h105 (by kernel_rfl) (by kernel_rfl) (by kernel_rfl) ?q105 (Or.inl ⟨?w105, ?y105⟩) hHeld ?r105
        case h105 => simp only [zA, zB, zC] <;> exact rfl
        case q105 => exact fun _ _ _ h => h
        case w105 => rfl
        case y105 =>
          intro w hSw
          (try dsimp only at hSw)
          have s0 := hSw
          go_simp
          try with_reducible rfl
        try simp only [zP, zN, zS, zT, zU]
        have hw9 := set5 HE.out.1 (.int .i64 0) (.string ⟨#[]⟩) (.string ⟨#[]⟩) (.int .i64 x.ver) (.slice none 0 0)
        have hfz := fp5 (S := Non) HE.out.2 (b := w.heap.size + 1) (.inr (by omega)) (.int .i64 0) (.string ⟨#[]⟩) (.string ⟨#[]⟩) (.int .i64 x.ver) (.slice none 0 0)
        have hfk := fp5k HE.out.1 (.int .i64 0) (.string ⟨#[]⟩) (.string ⟨#[]⟩) (.int .i64 x.ver) (.slice none 0 0)
        have HS2 := Lib.hid (hfk.cell HSD.out (fun e => by have e : w3.heap.size = w.heap.size + 1 := e; have h := HW3.out; omega) : (fun w' => w'.cell? ⟨w3.heap.size, 2, none⟩ = some (.int .i64 x.ver)) (((((wd.setCell ⟨w.heap.size + 1, 0, none⟩ (.int .i64 0)).setCell ⟨w.heap.size + 1, 1, none⟩ (.string ⟨#[]⟩)).setCell ⟨w.heap.size + 1, 2, none⟩ (.string ⟨#[]⟩)).setCell ⟨w.heap.size + 1, 3, none⟩ (.int .i64 x.ver)).setCell ⟨w.heap.size + 1, 4, none⟩ (.slice none 0 0)))
        refine wpAnyH_ready (rs := [5]) (by kernel_rfl) (by simp) ?_
        refine AllReadyH.cons (o := ?ob106) ?hb106 (fun K hK => ?_) AllReadyH.nil
        case hb106 => simp only [zA, zB, zC] <;> exact rfl
        go_simp
        refine hK.out _ _ HS2.out (fun hHeld => ?_)
        clear hK K
        try simp only [zP, zN, zS, zT, zU]
        refine wpAnyH_done (by kernel_rfl) ?_ _
        generalize (((((World.setCell wd _ _).setCell _ _).setCell _ _).setCell _ _).setCell _ _) = wz at *
        go_wp2
        have s0 := cell_of_row _ (w.heap.size + 1) 0 _ _ _ hw9
        have s1 := cell_of_row _ (w.heap.size + 1) 1 _ _ _ hw9
        have s2 := cell_of_row _ (w.heap.size + 1) 2 _ _ _ hw9
        have s3 := cell_of_row _ (w.heap.size + 1) 3 _ _ _ hw9
        have s4 := cell_of_row _ (w.heap.size + 1) 4 _ _ _ hw9
        simp only [zA, zB, zC] at s0 s1 s2 s3 s4
        exact bodyPost_ret (v := .tuple #[.slice ao n cap, .agg #[.int .i64 0, .string ⟨#[]⟩, .string ⟨#[]⟩, .int .i64 x.ver, .slice none 0 0]]) (by simp [results, Tryz.results8, go_sem, s0, s1, s2, s3, s4]) rfl (res_ok (HVV.out.non hfz) hfz)
      · have hv2 : vv = x.ver := by
          rcases Classical.em (vv = x.ver) with h | h
          · exact h
          · exact absurd ⟨hv1, h⟩ hver
        have qv0 : (0 ≤ vv) = True := eq_true (by omega)
        have qv1 : (vv < 0) = False := eq_false (by omega)
        have qv2 : (vv == x.ver) = true := beq_iff_eq.2 hv2
        have qv3 : (vv != x.ver) = false := by simp [hv2]
        have qv4 : (vv = x.ver) = True := eq_true hv2
        clear hver hv1 hv2
        go_enter Tryz.func8, Tryz.ntmps8
        go_wp2_with fail
        refine (HRR.out _ HF0.out.now.2.2).mono ?_
        rintro e w1 ⟨rfl, hf⟩
        have K1 := Lib.hid (HF0.out.later hf)
        clear hf
        obtain ⟨o0, o1, o2, o3, o4, o5⟩ := box6 K1.out.now.1.op
        go_wp2_with fail
        refine (HMY.out _).mono ?_
        rintro e w2 ⟨rfl, hf⟩
        have K2 := Lib.hid (K1.out.later hf)
        clear hf o0 o1 o2 o3 o4 o5
        obtain ⟨o0, o1, o2, o3, o4, o5⟩ := box6 K2.out.now.1.op
        go_wp2_with fail
        refine (HFD.out _ K2.out.now.2.2).mono ?_
        rintro e w3 ⟨rfl, hf⟩
        have HW3 := Lib.hid (Nat.le_trans K2.out.now.1.sz hf.size)
        have hbx := heap_alloc_new w3 (.cells #[.string (B x.path), .string (B x.data), .int .i64 x.ver, .int .i64 x.turn, .int .i64 x.own] TN)
        have K3 := Lib.hid (Kp.and (Kp.row hbx) (K2.out.later (hf.alloc (.cells #[.string (B x.path), .string (B x.data), .int .i64 x.ver, .int .i64 x.turn, .int .i64 x.own] TN))))
        clear hf hbx o0 o1 o2 o3 o4 o5
        obtain ⟨x0, x1, x2, x3, x4⟩ := box5 K3.out.now.1
        obtain ⟨o0, o1, o2, o3, o4, o5⟩ := box6 K3.out.now.2.1.op
        go_wp2_with fail
        refine (HCH.out _ K3.out.now.2.2.2).mono ?_
        rintro e w4 ⟨v4, rfl, ho, hf⟩
        obtain ⟨a4, c4, rfl⟩ := ho.shape
        have K4 := Lib.hid (Kp.and (Kp.ns ho.ns) (K3.out.later hf))
        clear ho hf x0 x1 x2 x3 x4 o0 o1 o2 o3 o4 o5
        obtain ⟨x0, x1, x2, x3, x4⟩ := box5 K4.out.now.2.1
        obtain ⟨o0, o1, o2, o3, o4, o5⟩ := box6 K4.out.now.2.2.1.op
        have KD := Lib.hid (K4.out.later ((Fp.refl Non w4).drew))
        have hs := (box5 KD.out.now.2.1).2.2.1
        have HSD := Lib.hid hs
        clear hs
        go_wp2_with fail
        refine wp_region_held_drew (S := (fun w' => w'.cell? ⟨w3.heap.size, 2, none⟩ = some (.int .i64 x.ver))) (by kernel_rfl) ?_ (fun hHeld => ?_)
        · exact HSD.out
        generalize World.drew w4 = wd at *
        have hbr := KD.out.now.2.2.1
        have hfw := KD.out.now.2.2.2.1
        obtain ⟨r0, r1, r2, r3, r4⟩ := hbr.r
        have z0 := hbr.fz 0; have z1 := hbr.fz 1; have z2 := hbr.fz 2; have z3 := hbr.fz 3; have z4 := hbr.fz 4
        have HE := Lib.hid (And.intro hbr.res hfw)
        clear hbr hfw
        refine wpAnyH_take (i := 0) (oi := ?oi107) (v := ?vi107) ?h107 (by kernel_rfl) (by kernel_rfl) (by kernel_rfl) ?q107 (Or.inl ⟨?w107, ?y107⟩) hHeld ?r107
        case h107 => simp only [zA, zB] <;> exact rfl
        case q107 => exact fun _ _ _ h => h
        case w107 => rfl
        case y107 =>
          intro w hSw
          (try dsimp only at hSw)
          have s0 := hSw
          go_simp
          try with_reducible rfl
        try simp only [zP, zN, zS, zT, zU]
        refine wpAnyH_take (i := 1) (oi := ?oi108) (v := ?vi108) ?h108 (by kernel_rfl) (by kernel_rfl) (by kernel_rfl) ?q108 (Or.inl ⟨?w108, ?y108⟩) hHeld ?r108
        case h108 => simp only [zA, zB, zC] <;> exact rfl
        case q108 => exact fun _ _ _ h => h
        case w108 => rfl
        case y108 =>
          intro w hSw
          (try dsimp only at hSw)
          have s0 := hSw
          go_simp
          try with_reducible rfl
        try simp only [zP, zN, zS, zT, zU]
        refine wpAnyH_take (i := 2) (oi := ?oi109) (v := ?vi109) ?h109 (by kernel_rfl) (by kernel_rfl) (by kernel_rfl) ?q109 (Or.inl ⟨?w109, ?y109⟩) hHeld ?r109
        case h109 => simp only [zA, zB, zC] <;> exact rfl
        case q109 => exact fun _ _ _ h => h
        case w109 => rfl
        case y109 =>
          intro w hSw
          (try dsimp only at hSw)
          have s0 := hSw
          go_simp
          try with_reducible rfl
        try simp only [zP, zN, zS, zT, zU]
        refine wpAnyH_take (i := 3) (oi := ?oi110) (v := ?vi110) ?h110 (by kernel_rfl) (by kernel_rfl) (by kernel_rfl) ?q110 (Or.inl ⟨?w110, ?y110⟩) hHeld ?r110
        case h110 => simp only [zA, zB, zC] <;> exact rfl
        case q110 => exact fun _ _ _ h => h
        case w110 => rfl
        case y110 =>
          intro w hSw
          (try dsimp only at hSw)
          have s0 := hSw
          go_simp
          try with_reducible rfl
        try simp only [zP, zN, zS, zT, zU]
        refine wpAnyH_take (i := 4) (oi := ?oi111) (v := ?vi111) ?h111 (by kernel_rfl) (by kernel_rfl) (by kernel_rfl) ?q111 (Or.inl ⟨?w111, ?y111⟩) hHeld ?r111
        case h111 => simp only [zA, zB, zC] <;> exact rfl
        case q111 => exact fun _ _ _ h => h
        case w111 => rfl
        case y111 =>
          intro w hSw
          (try dsimp only at hSw)
          have s0 := hSw
          go_simp
          try with_reducible rfl
        try simp only [zP, zN, zS, zT, zU]
        have hw9 := set5 HE.out.1 (.int .i64 0) (.string ⟨#[]⟩) (.string ⟨#[]⟩) (.int .i64 x.ver) (.slice none 0 0)
        have hfz := fp5 (S := Non) HE.out.2 (b := w.heap.size + 1) (.inr (by omega)) (.int .i64 0) (.string ⟨#[]⟩) (.string ⟨#[]⟩) (.int .i64 x.ver) (.slice none 0 0)
        have hfk := fp5k HE.out.1 (.int .i64 0) (.string ⟨#[]⟩) (.string ⟨#[]⟩) (.int .i64 x.ver) (.slice none 0 0)
        have HS2 := Lib.hid (hfk.cell HSD.out (fun e => by have e : w3.heap.size = w.heap.size + 1 := e; have h := HW3.out; omega) : (fun w' => w'.cell? ⟨w3.heap.size, 2, none⟩ = some (.int .i64 x.ver)) (((((wd.setCell ⟨w.heap.size + 1, 0, none⟩ (.int .i64 0)).setCell ⟨w.heap.size + 1, 1, none⟩ (.string ⟨#[]⟩)).setCell ⟨w.heap.size + 1, 2, none⟩ (.string ⟨#[]⟩)).setCell ⟨w.heap.size + 1, 3, none⟩ (.int .i64 x.ver)).setCell ⟨w.heap.size + 1, 4, none⟩ (.slice none 0 0)))
        refine wpAnyH_ready (rs := [5]) (by kernel_rfl) (by simp) ?_
        refine AllReadyH.cons (o := ?ob112) ?hb112 (fun K hK => ?_) AllReadyH.nil
        case hb112 => simp only [zA, zB, zC] <;> exact rfl
        go_simp
        refine hK.out _ _ HS2.out (fun hHeld => ?_)
        clear hK K
        try simp only [zP, zN, zS, zT, zU]
        refine wpAnyH_done (by kernel_rfl) ?_ _
        generalize (((((World.setCell wd _ _).setCell _ _).setCell _ _).setCell _ _).setCell _ _) = wz at *
        go_wp2
        have s0 := cell_of_row _ (w.heap.size + 1) 0 _ _ _ hw9
        have s1 := cell_of_row _ (w.heap.size + 1) 1 _ _ _ hw9
        have s2 := cell_of_row _ (w.heap.size + 1) 2 _ _ _ hw9
        have s3 := cell_of_row _ (w.heap.size + 1) 3 _ _ _ hw9
        have s4 := cell_of_row _ (w.heap.size + 1) 4 _ _ _ hw9
        simp only [zA, zB, zC] at s0 s1 s2 s3 s4
        exact bodyPost_ret (v := .tuple #[.slice ao n cap, .agg #[.int .i64 0, .string ⟨#[]⟩, .string ⟨#[]⟩, .int .i64 x.ver, .slice none 0 0]]) (by simp [results, Tryz.results8, go_sem, s0, s1, s2, s3, s4]) rfl (res_ok (HVV.out.non hfz) hfz)
set_option maxHeartbeats 16000000 in
theorem rApply_5 (v : Value) (l : List Nd) (p d : Bs) (vv ow : Int) (tt : Bool) (w : World) (hv : Ns w v l) (hT : Tr l) (hm : may ⟨5, p, d, vv, ow, tt⟩ = true) :
    Calls Tryz.prog 8 #[v, .agg #[.int .i64 5, .string (B p), .string (B d), .int .i64 vv, .int .i64 ow, .bool tt]] w (ApR w (perform l ⟨5, p, d, vv, ow, tt⟩).1 (perform l ⟨5, p, d, vv, ow, tt⟩).2) := by
  obtain ⟨ao, cap, rfl⟩ := hv.shape
  have hpl : p.length ≤ 1000000 := may_len2 hm
  have hrr := fun w' hv => rRightN_g (.slice ao l.length cap) l w' hv (tr_few hT).2
  rw [right_true hT.tree] at hrr
  have hmy := fun w' => rMay_c ⟨5, p, d, vv, ow, tt⟩ w' hpl
  rw [hm] at hmy
  have hfd := fun w' hv => rFind_c (.slice ao l.length cap) l p w' hv (tr_few hT).1
  have hcl := parent_ok hm
  have hln := hT.most
  rw [perform_not1 (l := l) (o := ⟨5, p, d, vv, ow, tt⟩) (by simp)]
  simp only
  have hdo : ∀ x, doit l ⟨5, p, d, vv, ow, tt⟩ x = (l, ⟨0, [], x.data, x.ver, []⟩) := fun x => by unfold doit; simp
  have hb0 := Bx.made w 5 p d vv ow tt
  have hf0 : Fp Non w ((w.alloc (.cells #[.int .i64 5, .string (B p), .string (B d), .int .i64 vv, .int .i64 ow, .bool tt] TO_)).alloc (.cells #[.int .i64 0, .string ⟨#[]⟩, .string ⟨#[]⟩, .int .i64 0, .slice none 0 0] TR)) := (fp_alloc w _).then (fp_alloc _ _)
  have HF0 := Lib.hid (Kp.and (fun W' f => hb0.non f : Kp (Bx w 5 p d vv ow tt) ((w.alloc (.cells #[.int .i64 5, .string (B p), .string (B d), .int .i64 vv, .int .i64 ow, .bool tt] TO_)).alloc (.cells #[.int .i64 0, .string ⟨#[]⟩, .string ⟨#[]⟩, .int .i64 0, .slice none 0 0] TR))) (Kp.and (Kp.fp hf0) (Kp.ns (hv.non hf0))))
  have HRR := Lib.hid hrr
  have HMY := Lib.hid hmy
  have HT := Lib.hid hT
  have HM := Lib.hid hm
  have HVV := Lib.hid hv
  unfold opV strV at HMY
  simp only at HMY
  clear hrr hmy hf0 hb0 hv hT hm hpl
  cases hfx : find l p with
  | none =>
    rw [hfx] at hfd
    simp only [Option.getD_none, Option.isSome_none, ndV, strV, zeroNd] at hfd
    dsimp only
    obtain ⟨n, hnn⟩ : ∃ n, n = l.length := ⟨_, rfl⟩
    rw [← hnn] at HVV hfd HF0 HRR ⊢
    have HFD := Lib.hid hfd
    have HNN := Lib.hid hnn
    clear hfd hfx hnn
    go_enter Tryz.func8, Tryz.ntmps8
    go_wp2_with fail
    refine (HRR.out _ HF0.out.now.2.2).mono ?_
    rintro e w1 ⟨rfl, hf⟩
    have K1 := Lib.hid (HF0.out.later hf)
    clear hf
    obtain ⟨o0, o1, o2, o3, o4, o5⟩ := box6 K1.out.now.1.op
    go_wp2_with fail
    refine (HMY.out _).mono ?_
    rintro e w2 ⟨rfl, hf⟩
    have K2 := Lib.hid (K1.out.later hf)
    clear hf o0 o1 o2 o3 o4 o5
    obtain ⟨o0, o1, o2, o3, o4, o5⟩ := box6 K2.out.now.1.op
    go_wp2_with fail
    refine (HFD.out _ K2.out.now.2.2).mono ?_
    rintro e w3 ⟨rfl, hf⟩
    have HW3 := Lib.hid (Nat.le_trans K2.out.now.1.sz hf.size)
    have K3 := Lib.hid (K2.out.later (hf.alloc (.cells #[.string (B []), .string (B []), .int .i64 0, .int .i64 0, .int .i64 0] TN)))
    clear hf
    have hbr := K3.out.now.1
    have hfw := K3.out.now.2.1
    obtain ⟨r0, r1, r2, r3, r4⟩ := hbr.r
    have z0 := hbr.fz 0; have z1 := hbr.fz 1; have z2 := hbr.fz 2; have z3 := hbr.fz 3; have z4 := hbr.fz 4
    have HE := Lib.hid (And.intro hbr.res hfw)
    clear hbr hfw
    go_wp2
    have hw9 := set5 HE.out.1 (.int .i64 62) (.string ⟨#[]⟩) (.string ⟨#[]⟩) (.int .i64 0) (.slice none 0 0)
    have hfz := fp5 (S := Non) HE.out.2 (b := w.heap.size + 1) (.inr (by omega)) (.int .i64 62) (.string ⟨#[]⟩) (.string ⟨#[]⟩) (.int .i64 0) (.slice none 0 0)
    have hfk := fp5k HE.out.1 (.int .i64 62) (.string ⟨#[]⟩) (.string ⟨#[]⟩) (.int .i64 0) (.slice none 0 0)
    generalize (((((World.setCell _ _ _).setCell _ _).setCell _ _).setCell _ _).setCell _ _) = wz at *
    have s0 := cell_of_row _ (w.heap.size + 1) 0 _ _ _ hw9
    have s1 := cell_of_row _ (w.heap.size + 1) 1 _ _ _ hw9
    have s2 := cell_of_row _ (w.heap.size + 1) 2 _ _ _ hw9
    have s3 := cell_of_row _ (w.heap.size + 1) 3 _ _ _ hw9
    have s4 := cell_of_row _ (w.heap.size + 1) 4 _ _ _ hw9
    simp only [zA, zB, zC] at s0 s1 s2 s3 s4
    exact bodyPost_ret (v := .tuple #[.slice ao n cap, .agg #[.int .i64 62, .string ⟨#[]⟩, .string ⟨#[]⟩, .int .i64 0, .slice none 0 0]]) (by simp [results, Tryz.results8, go_sem, s0, s1, s2, s3, s4]) rfl (res_bad (HVV.out.non hfz) hfz)
  | some x =>
    rw [hfx] at hfd
    simp only [Option.getD_some, Option.isSome_some, ndV, strV] at hfd
    dsimp only
    have HFX := Lib.hid hfx
    have hft := (fits_iff x).1 (HT.out.fit x (find_mem hfx).1)
    have HFT := Lib.hid hft
    have hxv : 0 ≤ x.ver ∧ x.ver ≤ 281474976710656 := by omega
    have hch := fun w' hv => rChildren_c (.slice ao l.length cap) l p w' hv (tr_few HT.out).2 (by omega)
    obtain ⟨n, hnn⟩ : ∃ n, n = l.length := ⟨_, rfl⟩
    rw [← hnn] at HVV hfd HF0 HRR hch hln ⊢
    have HFD := Lib.hid hfd
    have HCH := Lib.hid hch
    have HNN := Lib.hid hnn
    clear hfd hfx hnn hft hch
    rw [if_neg (by simp [versioned]), hdo]
    go_enter Tryz.func8, Tryz.ntmps8
    go_wp2_with fail
    refine (HRR.out _ HF0.out.now.2.2).mono ?_
    rintro e w1 ⟨rfl, hf⟩
    have K1 := Lib.hid (HF0.out.later hf)
    clear hf
    obtain ⟨o0, o1, o2, o3, o4, o5⟩ := box6 K1.out.now.1.op
    go_wp2_with fail
    refine (HMY.out _).mono ?_
    rintro e w2 ⟨rfl, hf⟩
    have K2 := Lib.hid (K1.out.later hf)
    clear hf o0 o1 o2 o3 o4 o5
    obtain ⟨o0, o1, o2, o3, o4, o5⟩ := box6 K2.out.now.1.op
    go_wp2_with fail
    refine (HFD.out _ K2.out.now.2.2).mono ?_
    rintro e w3 ⟨rfl, hf⟩
    have HW3 := Lib.hid (Nat.le_trans K2.out.now.1.sz hf.size)
    have hbx := heap_alloc_new w3 (.cells #[.string (B x.path), .string (B x.data), .int .i64 x.ver, .int .i64 x.turn, .int .i64 x.own] TN)
    have K3 := Lib.hid (Kp.and (Kp.row hbx) (K2.out.later (hf.alloc (.cells #[.string (B x.path), .string (B x.data), .int .i64 x.ver, .int .i64 x.turn, .int .i64 x.own] TN))))
    clear hf hbx o0 o1 o2 o3 o4 o5
    obtain ⟨x0, x1, x2, x3, x4⟩ := box5 K3.out.now.1
    obtain ⟨o0, o1, o2, o3, o4, o5⟩ := box6 K3.out.now.2.1.op
    go_wp2_with fail
    refine (HCH.out _ K3.out.now.2.2.2).mono ?_
    rintro e w4 ⟨v4, rfl, ho, hf⟩
    obtain ⟨a4, c4, rfl⟩ := ho.shape
    have K4 := Lib.hid (Kp.and (Kp.ns ho.ns) (K3.out.later hf))
    clear ho hf x0 x1 x2 x3 x4 o0 o1 o2 o3 o4 o5
    obtain ⟨x0, x1, x2, x3, x4⟩ := box5 K4.out.now.2.1
    obtain ⟨o0, o1, o2, o3, o4, o5⟩ := box6 K4.out.now.2.2.1.op
    have KD := Lib.hid (K4.out.later ((Fp.refl Non w4).drew))
    have hs := And.intro (box5 KD.out.now.2.1).2.1 (box5 KD.out.now.2.1).2.2.1
    have HSD := Lib.hid hs
    clear hs
    go_wp2_with fail
    refine wp_region_held_drew (S := (fun w' => w'.cell? ⟨w3.heap.size, 1, none⟩ = some (.string (B x.data)) ∧ w'.cell? ⟨w3.heap.size, 2, none⟩ = some (.int .i64 x.ver))) (by kernel_rfl) ?_ (fun hHeld => ?_)
    · exact HSD.out
    generalize World.drew w4 = wd at *
    have hbr := KD.out.now.2.2.1
    have hfw := KD.out.now.2.2.2.1
    obtain ⟨r0, r1, r2, r3, r4⟩ := hbr.r
    have z0 := hbr.fz 0; have z1 := hbr.fz 1; have z2 := hbr.fz 2; have z3 := hbr.fz 3; have z4 := hbr.fz 4
    have HE := Lib.hid (And.intro hbr.res hfw)
    clear hbr hfw
    refine wpAnyH_take (i := 0) (oi := ?oi113) (v := ?vi113) ?h113 (by kernel_rfl) (by kernel_rfl) (by kernel_rfl) ?q113 (Or.inl ⟨?w113, ?y113⟩) hHeld ?r113
    case h113 => simp only [zA, zB] <;> exact rfl
    case q113 => exact fun _ _ _ h => h
    case w113 => rfl
    case y113 =>
      intro w hSw
      (try dsimp only at hSw)
      obtain ⟨s0, s1⟩ := hSw
      go_simp
      try with_reducible rfl
    try simp only [zP, zN, zS, zT, zU]
    refine wpAnyH_take (i := 1) (oi := ?oi114) (v := ?vi114) ?h114 (by kernel_rfl) (by kernel_rfl) (by kernel_rfl) ?q114 (Or.inl ⟨?w114, ?y114⟩) hHeld ?r114
    case h114 => simp only [zA, zB, zC] <;> exact rfl
    case q114 => exact fun _ _ _ h => h
    case w114 => rfl
    case y114 =>
      intro w hSw
      (try dsimp only at hSw)
      obtain ⟨s0, s1⟩ := hSw
      go_simp
      try with_reducible rfl
    try simp only [zP, zN, zS, zT, zU]
    refine wpAnyH_take (i := 2) (oi := ?oi115) (v := ?vi115) ?h115 (by kernel_rfl) (by kernel_rfl) (by kernel_rfl) ?q115 (Or.inl ⟨?w115, ?y115⟩) hHeld ?r115
    case h115 => simp only [zA, zB, zC] <;> exact rfl
    case q115 => exact fun _ _ _ h => h
    case w115 => rfl
    case y115 =>
      intro w hSw
      (try dsimp only at hSw)
      obtain ⟨s0, s1⟩ := hSw
      go_simp
      try with_reducible rfl
    try simp only [zP, zN, zS, zT, zU]
    refine wpAnyH_take (i := 3) (oi := ?oi116) (v := ?vi116) ?h116 (by kernel_rfl) (by kernel_rfl) (by kernel_rfl) ?q116 (Or.inl ⟨?w116, ?y116⟩) hHeld ?r116
    case h116 => simp only [zA, zB, zC] <;> exact rfl
    case q116 => exact fun _ _ _ h => h
    case w116 => rfl
    case y116 =>
      intro w hSw
      (try dsimp only at hSw)
      obtain ⟨s0, s1⟩ := hSw
      go_simp
      try with_reducible rfl
    try simp only [zP, zN, zS, zT, zU]
    refine wpAnyH_take (i := 4) (oi := ?oi117) (v := ?vi117) ?h117 (by kernel_rfl) (by kernel_rfl) (by kernel_rfl) ?q117 (Or.inl ⟨?w117, ?y117⟩) hHeld ?r117
    case h117 => simp only [zA, zB, zC] <;> exact rfl
    case q117 => exact fun _ _ _ h => h
    case w117 => rfl
    case y117 =>
      intro w hSw
      (try dsimp only at hSw)
      obtain ⟨s0, s1⟩ := hSw
      go_simp
      try with_reducible rfl
    try simp only [zP, zN, zS, zT, zU]
    refine wpAnyH_take (i := 5) (oi := ?oi118) (v := ?vi118) ?h118 (by kernel_rfl) (by kernel_rfl) (by kernel_rfl) ?q118 (Or.inl ⟨?w118, ?y118⟩) hHeld ?r118
    case h118 => simp only [zA, zB, zC] <;> exact rfl
    case q118 => exact fun _ _ _ h => h
    case w118 => rfl
    case y118 =>
      intro w hSw
      (try dsimp only at hSw)
      obtain ⟨s0, s1⟩ := hSw
      go_simp
      try with_reducible rfl
    try simp only [zP, zN, zS, zT, zU]
    refine wpAnyH_take (i := 6) (oi := ?oi119) (v := ?vi119) ?h119 (by kernel_rfl) (by kernel_rfl) (by kernel_rfl) ?q119 (Or.inl ⟨?w119, ?y119⟩) hHeld ?r119
    case h119 => simp only [zA, zB, zC] <;> exact rfl
    case q119 => exact fun _ _ _ h => h
    case w119 => rfl
    case y119 =>
      intro w hSw
      (try dsimp only at hSw)
      obtain ⟨s0, s1⟩ := hSw
      go_simp
      try with_reducible rfl
    try simp only [zP, zN, zS, zT, zU]
    have hw9 := set5 HE.out.1 (.int .i64 0) (.string ⟨#[]⟩) (.string (B x.data)) (.int .i64 x.ver) (.slice none 0 0)
    have hfz := fp5 (S := Non) HE.out.2 (b := w.heap.size + 1) (.inr (by omega)) (.int .i64 0) (.string ⟨#[]⟩) (.string (B x.data)) (.int .i64 x.ver) (.slice none 0 0)
    have hfk := fp5k HE.out.1 (.int .i64 0) (.string ⟨#[]⟩) (.string (B x.data)) (.int .i64 x.ver) (.slice none 0 0)
    have HS2 := Lib.hid (⟨hfk.cell HSD.out.1 (fun e => by have e : w3.heap.size = w.heap.size + 1 := e; have h := HW3.out; omega), hfk.cell HSD.out.2 (fun e => by have e : w3.heap.size = w.heap.size + 1 := e; have h := HW3.out; omega)⟩ : (fun w' => w'.cell? ⟨w3.heap.size, 1, none⟩ = some (.string (B x.data)) ∧ w'.cell? ⟨w3.heap.size, 2, none⟩ = some (.int .i64 x.ver)) (((((wd.setCell ⟨w.heap.size + 1, 0, none⟩ (.int .i64 0)).setCell ⟨w.heap.size + 1, 1, none⟩ (.string ⟨#[]⟩)).setCell ⟨w.heap.size + 1, 2, none⟩ (.string (B x.data))).setCell ⟨w.heap.size + 1, 3, none⟩ (.int .i64 x.ver)).setCell ⟨w.heap.size + 1, 4, none⟩ (.slice none 0 0)))
    refine wpAnyH_ready (rs := [7]) (by kernel_rfl) (by simp) ?_
    refine AllReadyH.cons (o := ?ob120) ?hb120 (fun K hK => ?_) AllReadyH.nil
    case hb120 => simp only [zA, zB, zC] <;> exact rfl
    go_simp
    refine hK.out _ _ HS2.out (fun hHeld => ?_)
    clear hK K
    try simp only [zP, zN, zS, zT, zU]
    refine wpAnyH_done (by kernel_rfl) ?_ _
    generalize (((((World.setCell wd _ _).setCell _ _).setCell _ _).setCell _ _).setCell _ _) = wz at *
    go_wp2
    have s0 := cell_of_row _ (w.heap.size + 1) 0 _ _ _ hw9
    have s1 := cell_of_row _ (w.heap.size + 1) 1 _ _ _ hw9
    have s2 := cell_of_row _ (w.heap.size + 1) 2 _ _ _ hw9
    have s3 := cell_of_row _ (w.heap.size + 1) 3 _ _ _ hw9
    have s4 := cell_of_row _ (w.heap.size + 1) 4 _ _ _ hw9
    simp only [zA, zB, zC] at s0 s1 s2 s3 s4
    exact bodyPost_ret (v := .tuple #[.slice ao n cap, .agg #[.int .i64 0, .string ⟨#[]⟩, .string (B x.data), .int .i64 x.ver, .slice none 0 0]]) (by simp [results, Tryz.results8, go_sem, s0, s1, s2, s3, s4]) rfl (res_ok (HVV.out.non hfz) hfz)
end Go.Proofs.YthaepjeikicigaaGreatDoor
