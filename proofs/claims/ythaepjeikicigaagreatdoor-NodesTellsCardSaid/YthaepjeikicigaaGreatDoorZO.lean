/- Texts of this proof, merged. -/
import Derived.Test.YthaepjeikicigaaGreatDoorZM
import Derived.Test.YthaepjeikicigaaGreatDoorZN
import Derived.Test.YthaepjeikicigaaGreatDoorZF
/- Apply. -/
namespace Go.Proofs.YthaepjeikicigaaGreatDoor
set_option linter.unusedSimpArgs false
set_option linter.unusedVariables false
set_option maxRecDepth 20000
set_option linter.unusedVariables false
set_option linter.unusedSimpArgs false
open Go.RowKit Pm
theorem may_len {o : Opn} (hm : may o = true) : o.path.length ≤ 1000000 := by
  have := may_split hm
  obtain ⟨ps, hps⟩ := Option.isSome_iff_exists.1 this
  obtain ⟨hP, e⟩ := (split_iff _ _).1 hps
  have := joinP_len hP
  rw [e] at this
  exact Nat.le_trans this (by omega)
theorem zero_row (w : World) : (w.alloc (.cells #[.int .i64 0, .string ⟨#[]⟩, .string ⟨#[]⟩, .int .i64 0, .slice none 0 0] TR)).heap[w.heap.size]? = some (.cells #[.int .i64 0, .string ⟨#[]⟩, .string ⟨#[]⟩, .int .i64 0, .slice none 0 0] TR (0, 0)) := heap_alloc_new w _
set_option maxHeartbeats 8000000 in
theorem Apply_go (v : Value) (l : List Nd) (kk : Int) (p d : Bs) (vv ow : Int) (t : Bool) (w : World) (hv : Ns w v l) (hs : Sp l) (hr : right l = true) (hm : may ⟨kk, p, d, vv, ow, t⟩ = true) (ht : Tab w) :
    Calls Tryz.prog 7 #[v, opV ⟨kk, p, d, vv, ow, t⟩] w (ApR w (perform l ⟨kk, p, d, vv, ow, t⟩).1 (perform l ⟨kk, p, d, vv, ow, t⟩).2) := by
  have htr := (right_iff l).1 hr
  have hpl := may_len hm
  have hrc := fun w1 (f : Fp Non w w1) => nRight_c v l w1 (hv.non f) hs
  rw [hr] at hrc
  have hmc := fun w1 => May_c ⟨kk, p, d, vv, ow, t⟩ w1 hpl
  rw [hm] at hmc
  have hcl := fun w1 (f : Fp Non w w1) => Clone_c v l w1 (hv.non f) htr.pos (by have := htr.most; omega)
  have hpk := fun lo b G cap g2 g3 g4 g5 g6 g7 => pick_fn lo b G cap l ⟨kk, p, d, vv, ow, t⟩ g2 g3 g4 g5 g6 g7 hm
  have herr := perform_err htr.tr hm
  obtain ⟨ao, cap, rfl⟩ := hv.shape
  obtain ⟨cr, hcr⟩ : ∃ cr, perform l ⟨kk, p, d, vv, ow, t⟩ = cr := ⟨_, rfl⟩
  rw [hcr] at herr ⊢
  obtain ⟨l', ⟨re, rp, rd, rv, rn⟩⟩ := cr
  simp only at herr ⊢
  obtain ⟨n, hn⟩ : ∃ n, n = l.length := ⟨_, rfl⟩
  rw [← hn] at hrc hv hcl ⊢
  unfold opV strV at hmc ⊢
  simp only at hmc ⊢
  have hbx := Bx.made w kk p d vv ow t
  have hf0 : Fp Non w ((w.alloc (.cells #[.int .i64 kk, .string (B p), .string (B d), .int .i64 vv, .int .i64 ow, .bool t] TO_)).alloc (.cells #[.int .i64 0, .string ⟨#[]⟩, .string ⟨#[]⟩, .int .i64 0, .slice none 0 0] TR)) := ((Fp.refl Non w).alloc _).alloc _
  have HX := Lib.hid (And.intro hbx (And.intro hf0 (And.intro hn (And.intro hs (And.intro htr (And.intro hm ht))))))
  have HA := Lib.hid (And.intro hrc (And.intro hmc hcl))
  have HV := Lib.hid (And.intro hv (And.intro hcr (And.intro hpk herr.2)))
  clear hbx hf0 hn hs htr hm ht hrc hmc hcl hv hcr hpl hr hpk herr
  go_enter Tryz.func7, Tryz.ntmps7
  generalize hW0 : ((w.alloc (.cells #[.int .i64 kk, .string (B p), .string (B d), .int .i64 vv, .int .i64 ow, .bool t] TO_)).alloc (.cells #[.int .i64 0, .string ⟨#[]⟩, .string ⟨#[]⟩, .int .i64 0, .slice none 0 0] TR)) = W0 at *
  go_wp2_with fail
  clear hW0
  refine (HA.out.1 _ HX.out.2.1).mono ?_
  rintro e w1 ⟨rfl, hf1⟩
  have F1 := Lib.hid (And.intro (HX.out.2.1.then hf1) hf1)
  obtain ⟨o0, o1, o2, o3, o4, o5⟩ := box6 (hf1.heap HX.out.1.op (fun h => h))
  clear hf1
  go_wp2_with fail
  refine (HA.out.2.1 _).mono ?_
  rintro e w2 ⟨rfl, hf2⟩
  have F2 := Lib.hid (And.intro (F1.out.1.then hf2) (F1.out.2.then hf2))
  clear hf2 F1 o0 o1 o2 o3 o4 o5
  go_wp2_with fail
  refine (HA.out.2.2 _ F2.out.1).mono ?_
  rintro e w3 ⟨G, c3, rfl, hrow, hG, hf3⟩
  have F3 := Lib.hid (And.intro (F2.out.1.then hf3) (And.intro (F2.out.2.then hf3) (And.intro hrow (Nat.le_trans F2.out.1.size hG))))
  have HG2 := Lib.hid (show w.heap.size + 2 ≤ G from Nat.le_trans HX.out.1.sz (Nat.le_trans F2.out.2.size hG))
  clear hf3 hrow hG F2
  go_wp2_with fail
  have hf4 : Fp Non w3 (w3.alloc (.cells #[.slice (some ⟨G, 0, none⟩) n c3] TT)) := (Fp.refl Non w3).alloc _
  have hb4 : (w3.alloc (.cells #[.slice (some ⟨G, 0, none⟩) n c3] TT)).heap[w3.heap.size]? = some (.cells #[.slice (some ⟨G, 0, none⟩) n c3] TT (0, 0)) := heap_alloc_new w3 _
  rw [HX.out.2.2.1] at hb4
  have hIn : InW w.heap.size w3.heap.size G c3 l (w3.alloc (.cells #[.slice (some ⟨G, 0, none⟩) n c3] TT)) :=
    ⟨⟨by rw [← HX.out.2.2.1] at hb4 ⊢; exact hb4, F3.out.1.size, F3.out.2.2.2, fun e => by have := F3.out.2.2.1.lt; omega, F3.out.2.2.1.keep hf4 (fun h => h)⟩, HX.out.2.2.2.2.1, HX.out.2.2.2.1, (F3.out.1.then hf4).size, HX.out.2.2.2.2.2.2.non (F3.out.1.then hf4)⟩
  have I4 := Lib.hid (And.intro hIn (And.intro (F3.out.1.then hf4) (F3.out.2.1.then hf4)))
  have HWB := Lib.hid (And.intro (show w.heap.size + 2 ≤ w3.heap.size from Nat.le_trans HX.out.1.sz F3.out.2.1.size) HG2.out)
  clear hf4 hb4 hIn F3
  generalize (w3.alloc (.cells #[.slice (some ⟨G, 0, none⟩) n c3] TT)) = w4 at *
  generalize w3.heap.size = b at *
  refine wp_region_held_drew (S := (fun w' => w'.cell? ⟨w.heap.size, 0, none⟩ = some (.int .i64 kk) ∧ w'.cell? ⟨w.heap.size, 1, none⟩ = some (.string (B p)) ∧ w'.cell? ⟨w.heap.size, 2, none⟩ = some (.string (B d)) ∧ w'.cell? ⟨w.heap.size, 3, none⟩ = some (.int .i64 vv) ∧ w'.cell? ⟨w.heap.size, 4, none⟩ = some (.int .i64 ow) ∧ w'.cell? ⟨w.heap.size, 5, none⟩ = some (.bool t))) (by kernel_rfl) ?_ (fun hHeld => ?_)
  · exact box6 (I4.out.2.2.drew.heap HX.out.1.op (fun h => h))
  have J0 := Lib.hid (And.intro (I4.out.1.non (Fp.refl Non w4).drew) (And.intro I4.out.2.1.drew I4.out.2.2.drew))
  clear I4
  generalize w4.drew = u0 at *
  refine wpAnyH_take (i := 1) (oi := ?oi152) (v := ?vi152) ?h152 (by kernel_rfl) (by kernel_rfl) (by kernel_rfl) ?q152 (Or.inl ⟨?w152, ?y152⟩) hHeld ?r152
  case h152 => simp only [zA, zB, zC] <;> exact rfl
  case q152 => exact fun _ _ _ h => h
  case w152 => rfl
  case y152 =>
    intro w hSw
    (try dsimp only at hSw)
    obtain ⟨o0, o1, o2, o3, o4, o5⟩ := hSw
    go_simp
    try with_reducible rfl
  try simp only [zP, zN, zS, zT, zU]
  refine wpAnyH_take (i := 2) (oi := ?oi153) (v := ?vi153) ?h153 (by kernel_rfl) (by kernel_rfl) (by kernel_rfl) ?q153 (Or.inl ⟨?w153, ?y153⟩) hHeld ?r153
  case h153 => simp only [zA, zB, zC] <;> exact rfl
  case q153 => exact fun _ _ _ h => h
  case w153 => rfl
  case y153 =>
    intro w hSw
    (try dsimp only at hSw)
    obtain ⟨o0, o1, o2, o3, o4, o5⟩ := hSw
    go_simp
    try with_reducible rfl
  try simp only [zP, zN, zS, zT, zU]
  refine wpAnyH_take (i := 4) (oi := ?oi154) (v := ?vi154) ?h154 (by kernel_rfl) (by kernel_rfl) (by kernel_rfl) ?q154 (Or.inl ⟨?w154, ?y154⟩) hHeld ?r154
  case h154 => simp only [zA, zB, zC] <;> exact rfl
  case q154 => exact fun _ _ _ h => h
  case w154 => rfl
  case y154 =>
    intro w hSw
    (try dsimp only at hSw)
    obtain ⟨o0, o1, o2, o3, o4, o5⟩ := hSw
    go_simp
    try with_reducible rfl
  try simp only [zP, zN, zS, zT, zU]
  refine wpAnyH_take (i := 5) (oi := ?oi155) (v := ?vi155) ?h155 (by kernel_rfl) (by kernel_rfl) (by kernel_rfl) ?q155 (Or.inl ⟨?w155, ?y155⟩) hHeld ?r155
  case h155 => simp only [zA, zB, zC] <;> exact rfl
  case q155 => exact fun _ _ _ h => h
  case w155 => rfl
  case y155 =>
    intro w hSw
    (try dsimp only at hSw)
    obtain ⟨o0, o1, o2, o3, o4, o5⟩ := hSw
    go_simp
    try with_reducible rfl
  try simp only [zP, zN, zS, zT, zU]
  refine wpAnyH_ready (rs := [0, 7]) (by kernel_rfl) (by simp) ?_
  refine AllReadyH.cons (o := ?obA156) ?hbA156 (fun K hK => ?wA156) (AllReadyH.cons (o := ?obB156) ?hbB156 (fun K hK => ?wB156) AllReadyH.nil)
  case hbA156 => simp only [zA, zB, zC] <;> exact rfl
  case hbB156 => simp only [zA, zB, zC] <;> exact rfl
  case wA156 =>
    go_simp
    go_at_call 20
    refine (effects_c _).mono ?_
    rintro e u1 hE
    obtain ⟨g2, g3, g4, g5, g6, g7, rfl, hM⟩ := hE.ex
    obtain ⟨fk, fc, hPk⟩ := HV.out.2.2.1 w.heap.size b G c3 g2 g3 g4 g5 g6 g7
    have hfe := hE.fp
    have J1 := Lib.hid (And.intro (J0.out.1.non hfe) (And.intro (J0.out.2.1.then hfe) (J0.out.2.2.then hfe)))
    have HM := Lib.hid hM
    have HPk := Lib.hid hPk
    have hix := hPk.ix
    have hen := hPk.en
    have HS := Lib.hid (box6 (J1.out.2.2.heap HX.out.1.op (fun h => h)))
    clear hE hM hPk hfe J0
    go_wp2_with fail
    refine hK.out _ _ HS.out (fun hHeld => ?_)
    clear hK K
    try simp only [zP, zN, zS, zT, zU]
    clear HS
    refine wpAnyH_take (i := 3) (oi := ?oi109) (v := ?vi109) ?h109 (by kernel_rfl) (by kernel_rfl) (by kernel_rfl) ?q109 (Or.inl ⟨?w109, ?y109⟩) hHeld ?r109
    case h109 => simp only [zA, zB, zC] <;> exact rfl
    case q109 => exact fun _ _ _ h => h
    case w109 => rfl
    case y109 =>
      intro w hSw
      (try dsimp only at hSw)
      obtain ⟨o0, o1, o2, o3, o4, o5⟩ := hSw
      go_simp
      try with_reducible rfl
    try simp only [zP, zN, zS, zT, zU]
    refine wpAnyH_ready (rs := [6, 7]) (by kernel_rfl) (by simp) ?_
    refine AllReadyH.cons (o := ?obA136) ?hbA136 (fun K hK => ?wA136) (AllReadyH.cons (o := ?obB136) ?hbB136 (fun K hK => ?wB136) AllReadyH.nil)
    case hbA136 => simp only [zA, zB, zC] <;> exact rfl
    case hbB136 => simp only [zA, zB, zC] <;> exact rfl
    case wA136 =>
      go_simp
      have hcall := HPk.out.call u1 J1.out.1 HM.out
      rw [HV.out.2.1] at hcall
      have HC6 := Lib.hid hcall
      clear hcall
      rw [hen _ _]
      go_wp2_with fail
      refine HC6.out.mono ?_
      intro e u2 hM
      obtain ⟨nv, G', cap', rfl, ho, htn, hg⟩ := hM.ex
      simp only at ho htn
      have hlow : ∀ k, ownT b G k → w.heap.size + 2 ≤ k := fun k hk => by
        rcases hk with hk | hk
        · rw [hk]; exact HWB.out.1
        · rw [hk]; exact HWB.out.2
      have hg2 : w.heap.size + 2 ≤ G' := by
        rcases hg with e | e
        · rw [e]; exact HWB.out.2
        · have h1 : u1.heap.size ≤ G' := e
          have h2 := J1.out.2.2.size; have h3 := HX.out.1.sz; omega
      have hfn : Fp Non w u2 := J1.out.2.1.trans hM.fp (fun k hk => .inr (by have := hlow k hk; omega))
      have hbn : Bx w kk p d vv ow t u2 := (HX.out.1.non J1.out.2.2).keep hM.fp (fun k hk => .inr (hlow k hk))
      have ho2 : Own w.heap.size u2 nv rn := ho.low J1.out.2.1.size
      have HRN := Lib.hid (show nv.ownBlock = some (w.heap.size + 1) → False from fun e => by
        have h1 := (ho.1.lt _ e).1; have h2 := J1.out.2.2.size; have h3 := HX.out.1.sz; omega)
      have HGL := Lib.hid hg2
      obtain ⟨vao, vcap, hvs⟩ := ho2.shape
      subst hvs
      have HN := Lib.hid (And.intro htn (And.intro ho2 (And.intro hfn hbn)))
      have HS := Lib.hid (box6 hbn.op)
      clear hM ho htn hlow hg hg2 hfn hbn ho2 HC6 HM HPk hix hen J1
      unfold strV
      go_wp2_with fail
      refine hK.out _ _ HS.out (fun hHeld => ?_)
      clear hK K
      try simp only [zP, zN, zS, zT, zU]
      clear HS
      refine wpAnyH_ready (rs := [7]) (by kernel_rfl) (by simp) ?_
      refine AllReadyH.cons (o := ?ob110) ?hb110 (fun K hK => ?_) AllReadyH.nil
      case hb110 => simp only [zA, zB, zC] <;> exact rfl
      go_simp
      have hz := zero_row u2
      have hfz : Fp Non u2 (u2.alloc (.cells #[.int .i64 0, .string ⟨#[]⟩, .string ⟨#[]⟩, .int .i64 0, .slice none 0 0] TR)) := (Fp.refl Non u2).alloc _
      have HQ := Lib.hid (And.intro hz (And.intro (show b ≠ u2.heap.size by have := HN.out.1.lt; omega) (And.intro (show G' ≠ u2.heap.size by have := HN.out.1.row.lt; omega) (And.intro (show (Value.slice vao rn.length vcap).ownBlock = some u2.heap.size → False from fun e => by have := (HN.out.2.1.1.lt _ e).2; omega) (show w.heap.size + 2 ≤ u2.heap.size from HN.out.2.2.2.sz)))))
      have HN := Lib.hid (And.intro (HN.out.1.non hfz) (And.intro (HN.out.2.1.grown' hfz) (And.intro (HN.out.2.2.1.then hfz) (HN.out.2.2.2.non hfz))))
      have HS := Lib.hid (box6 HN.out.2.2.2.op)
      clear hz hfz
      refine hK.out _ _ HS.out (fun hHeld => ?_)
      clear hK K HS
      try simp only [zP, zN, zS, zT, zU]
      generalize (u2.alloc (.cells #[.int .i64 0, .string ⟨#[]⟩, .string ⟨#[]⟩, .int .i64 0, .slice none 0 0] TR)) = u3 at *
      generalize u2.heap.size = q at *
      have k0 := cell_of_row _ q 0 _ _ _ HQ.out.1
      have k1 := cell_of_row _ q 1 _ _ _ HQ.out.1
      have k2 := cell_of_row _ q 2 _ _ _ HQ.out.1
      have k3 := cell_of_row _ q 3 _ _ _ HQ.out.1
      have k4 := cell_of_row _ q 4 _ _ _ HQ.out.1
      simp only [zA, zB, zC] at k0 k1 k2 k3 k4
      have zz : ∀ j, u3.frozen? ⟨q, j, none⟩ = false := fun j => by have := HQ.out.1; simp [World.frozen?, this]
      have z0 := zz 0; have z1 := zz 1; have z2 := zz 2; have z3 := zz 3; have z4 := zz 4
      clear zz
      refine wpAnyH_ready (rs := [8]) (by kernel_rfl) (by simp) ?_
      refine AllReadyH.cons (o := ?ob111) ?hb111 (fun K hK => ?_) AllReadyH.nil
      case hb111 => simp only [zA, zB, zC] <;> exact rfl
      go_simp
      have hw8 := set5 HQ.out.1 (.int .i64 re) (.string (B rp)) (.string (B rd)) (.int .i64 rv) (.slice vao rn.length vcap)
      have hf8 : Fp (fun k => k = q) u3 (((((u3.setCell ⟨q, 0, none⟩ (.int .i64 re)).setCell ⟨q, 1, none⟩ (.string (B rp))).setCell ⟨q, 2, none⟩ (.string (B rd))).setCell ⟨q, 3, none⟩ (.int .i64 rv)).setCell ⟨q, 4, none⟩ (.slice vao rn.length vcap)) := fp5 (S := fun k => k = q) (Fp.refl _ u3) (b := q) (.inl rfl) (.int .i64 re) (.string (B rp)) (.string (B rd)) (.int .i64 rv) (.slice vao rn.length vcap)
      have hfw8 := fp5 (S := Non) HN.out.2.2.1 (b := q) (.inr (by have := HQ.out.2.2.2.2; omega)) (.int .i64 re) (.string (B rp)) (.string (B rd)) (.int .i64 rv) (.slice vao rn.length vcap)
      have hb8 := HN.out.2.2.2.keep hf8 (fun k hk => .inr (by rw [hk]; exact HQ.out.2.2.2.2))
      have ho8 := own5 HN.out.2.1 (b := q) HQ.out.2.2.2.1 (.int .i64 re) (.string (B rp)) (.string (B rd)) (.int .i64 rv) (.slice vao rn.length vcap)
      have ht8 := HN.out.1.keep hf8 (fun e => HQ.out.2.1 e) (fun e => HQ.out.2.2.1 e)
      have HS := Lib.hid (box6 hb8.op)
      have H8 := Lib.hid (And.intro hw8 (And.intro hfw8 (And.intro hb8 (And.intro ho8 ht8))))
      have HQ2 := Lib.hid HQ.out.2
      clear hw8 hf8 hfw8 hb8 ho8 ht8 k0 k1 k2 k3 k4 z0 z1 z2 z3 z4 HN HQ
      refine hK.out _ _ HS.out (fun hHeld => ?_)
      clear hK K HS hHeld
      try simp only [zP, zN, zS, zT, zU]
      refine wpAnyH_done (by kernel_rfl) ?_ _
      generalize (((((World.setCell u3 _ _).setCell _ _).setCell _ _).setCell _ _).setCell _ _) = w9 at *
      have k0 := cell_of_row _ q 0 _ _ _ H8.out.1
      have k1 := cell_of_row _ q 1 _ _ _ H8.out.1
      have k2 := cell_of_row _ q 2 _ _ _ H8.out.1
      have k3 := cell_of_row _ q 3 _ _ _ H8.out.1
      have k4 := cell_of_row _ q 4 _ _ _ H8.out.1
      simp only [zA, zB, zC] at k0 k1 k2 k3 k4
      have cb := H8.out.2.2.2.2.c0
      obtain ⟨n', hn'⟩ : ∃ n', n' = l'.length := ⟨_, rfl⟩
      rw [← hn'] at cb
      have HN9 := Lib.hid hn'
      clear hn'
      obtain ⟨r0, r1, r2, r3, r4⟩ := H8.out.2.2.1.r
      have z0 := H8.out.2.2.1.fz 0; have z1 := H8.out.2.2.1.fz 1; have z2 := H8.out.2.2.1.fz 2; have z3 := H8.out.2.2.1.fz 3; have z4 := H8.out.2.2.1.fz 4
      have HNR := Lib.hid (show (Value.slice vao rn.length vcap).ownBlock = some (w.heap.size + 1) → False from fun e => HRN.out e)
      have HNR2 := Lib.hid (And.intro (show q = w.heap.size + 1 → False from fun e => by have := HQ2.out.2.2.2; omega) (show G' = w.heap.size + 1 → False from fun e => by have := HGL.out; omega))
      have HNB := Lib.hid (show b = w.heap.size + 1 → False from fun e => by have := HWB.out.1; omega)
      by_cases hre : re = 0
      · have q3 : (re == 0) = true := beq_iff_eq.2 hre
        have q4 : (re = 0) = True := eq_true hre
        have q7 : (re != 0) = false := by rw [bne, q3]; rfl
        have HE := Lib.hid hre
        clear hre
        go_wp2_with fail
        refine wp_region_held_drew (S := (fun w' => w'.cell? ⟨q, 0, none⟩ = some (.int .i64 re) ∧ w'.cell? ⟨q, 1, none⟩ = some (.string (B rp)) ∧ w'.cell? ⟨q, 2, none⟩ = some (.string (B rd)) ∧ w'.cell? ⟨q, 3, none⟩ = some (.int .i64 rv) ∧ w'.cell? ⟨q, 4, none⟩ = some (.slice vao rn.length vcap) ∧ w'.cell? ⟨b, 0, none⟩ = some (.slice (some ⟨G', 0, none⟩) n' cap'))) (by kernel_rfl) ?_ (fun hHeld => ?_)
        · exact ⟨(Fp.refl Non w9).drew.cell k0 (fun h => h), (Fp.refl Non w9).drew.cell k1 (fun h => h), (Fp.refl Non w9).drew.cell k2 (fun h => h), (Fp.refl Non w9).drew.cell k3 (fun h => h), (Fp.refl Non w9).drew.cell k4 (fun h => h), (Fp.refl Non w9).drew.cell cb (fun h => h)⟩
        have HK9 := Lib.hid (And.intro ((Fp.refl Non w9).drew.cell k0 (fun h => h)) (And.intro ((Fp.refl Non w9).drew.cell k1 (fun h => h)) (And.intro ((Fp.refl Non w9).drew.cell k2 (fun h => h)) (And.intro ((Fp.refl Non w9).drew.cell k3 (fun h => h)) (And.intro ((Fp.refl Non w9).drew.cell k4 (fun h => h)) ((Fp.refl Non w9).drew.cell cb (fun h => h)))))))
        have hr9 := H8.out.2.2.1.non (Fp.refl Non w9).drew
        have H9 := Lib.hid (And.intro H8.out.2.1.drew (And.intro (H8.out.2.2.2.1.grown' (Fp.refl Non w9).drew) (And.intro (H8.out.2.2.2.2.non (Fp.refl Non w9).drew) hr9)))
        clear r0 r1 r2 r3 r4 z0 z1 z2 z3 z4
        obtain ⟨r0, r1, r2, r3, r4⟩ := (hr9).r
        have z0 := (hr9).fz 0; have z1 := (hr9).fz 1; have z2 := (hr9).fz 2; have z3 := (hr9).fz 3; have z4 := (hr9).fz 4
        clear hr9 H8 k0 k1 k2 k3 k4 cb
        generalize w9.drew = wz at *
        refine wpAnyH_take (i := 0) (oi := ?oi112) (v := ?vi112) ?h112 (by kernel_rfl) (by kernel_rfl) (by kernel_rfl) ?q112 (Or.inl ⟨?w112, ?y112⟩) hHeld ?r112
        case h112 => simp only [zA, zB] <;> exact rfl
        case q112 => exact fun _ _ _ h => h
        case w112 => rfl
        case y112 =>
          intro w hSw
          (try dsimp only at hSw)
          obtain ⟨k0, k1, k2, k3, k4, cb⟩ := hSw
          go_simp
          try with_reducible rfl
        try simp only [zP, zN, zS, zT, zU]
        refine wpAnyH_take (i := 1) (oi := ?oi113) (v := ?vi113) ?h113 (by kernel_rfl) (by kernel_rfl) (by kernel_rfl) ?q113 (Or.inl ⟨?w113, ?y113⟩) hHeld ?r113
        case h113 => simp only [zA, zB, zC] <;> exact rfl
        case q113 => exact fun _ _ _ h => h
        case w113 => rfl
        case y113 =>
          intro w hSw
          (try dsimp only at hSw)
          obtain ⟨k0, k1, k2, k3, k4, cb⟩ := hSw
          go_simp
          try with_reducible rfl
        try simp only [zP, zN, zS, zT, zU]
        refine wpAnyH_take (i := 2) (oi := ?oi114) (v := ?vi114) ?h114 (by kernel_rfl) (by kernel_rfl) (by kernel_rfl) ?q114 (Or.inl ⟨?w114, ?y114⟩) hHeld ?r114
        case h114 => simp only [zA, zB, zC] <;> exact rfl
        case q114 => exact fun _ _ _ h => h
        case w114 => rfl
        case y114 =>
          intro w hSw
          (try dsimp only at hSw)
          obtain ⟨k0, k1, k2, k3, k4, cb⟩ := hSw
          go_simp
          try with_reducible rfl
        try simp only [zP, zN, zS, zT, zU]
        refine wpAnyH_take (i := 3) (oi := ?oi115) (v := ?vi115) ?h115 (by kernel_rfl) (by kernel_rfl) (by kernel_rfl) ?q115 (Or.inl ⟨?w115, ?y115⟩) hHeld ?r115
        case h115 => simp only [zA, zB, zC] <;> exact rfl
        case q115 => exact fun _ _ _ h => h
        case w115 => rfl
        case y115 =>
          intro w hSw
          (try dsimp only at hSw)
          obtain ⟨k0, k1, k2, k3, k4, cb⟩ := hSw
          go_simp
          try with_reducible rfl
        try simp only [zP, zN, zS, zT, zU]
        refine wpAnyH_take (i := 4) (oi := ?oi116) (v := ?vi116) ?h116 (by kernel_rfl) (by kernel_rfl) (by kernel_rfl) ?q116 (Or.inl ⟨?w116, ?y116⟩) hHeld ?r116
        case h116 => simp only [zA, zB, zC] <;> exact rfl
        case q116 => exact fun _ _ _ h => h
        case w116 => rfl
        case y116 =>
          intro w hSw
          (try dsimp only at hSw)
          obtain ⟨k0, k1, k2, k3, k4, cb⟩ := hSw
          go_simp
          try with_reducible rfl
        try simp only [zP, zN, zS, zT, zU]
        refine wpAnyH_take (i := 5) (oi := ?oi117) (v := ?vi117) ?h117 (by kernel_rfl) (by kernel_rfl) (by kernel_rfl) ?q117 (Or.inl ⟨?w117, ?y117⟩) hHeld ?r117
        case h117 => simp only [zA, zB, zC] <;> exact rfl
        case q117 => exact fun _ _ _ h => h
        case w117 => rfl
        case y117 =>
          intro w hSw
          (try dsimp only at hSw)
          obtain ⟨k0, k1, k2, k3, k4, cb⟩ := hSw
          go_simp
          try with_reducible rfl
        try simp only [zP, zN, zS, zT, zU]
        refine wpAnyH_ready (rs := [6]) (by kernel_rfl) (by simp) ?_
        refine AllReadyH.cons (o := ?ob118) ?hb118 (fun K hK => ?_) AllReadyH.nil
        case hb118 => simp only [zA, zB, zC] <;> exact rfl
        go_simp
        have hw10 := set5 H9.out.2.2.2.res (.int .i64 re) (.string (B rp)) (.string (B rd)) (.int .i64 rv) (.slice vao rn.length vcap)
        have hf10 := fp5 (S := Non) H9.out.1 (b := w.heap.size + 1) (.inr (by omega)) (.int .i64 re) (.string (B rp)) (.string (B rd)) (.int .i64 rv) (.slice vao rn.length vcap)
        have hk10 := fp5 (S := fun k => k = w.heap.size + 1) (Fp.refl _ wz) (b := w.heap.size + 1) (.inl rfl) (.int .i64 re) (.string (B rp)) (.string (B rd)) (.int .i64 rv) (.slice vao rn.length vcap)
        have hnb : (Value.slice vao rn.length vcap).ownBlock = some (w.heap.size + 1) → False := HNR.out
        have ho10 := own5 H9.out.2.1 (b := w.heap.size + 1) hnb (.int .i64 re) (.string (B rp)) (.string (B rd)) (.int .i64 rv) (.slice vao rn.length vcap)
        have hns : Ns (((((wz.setCell ⟨w.heap.size + 1, 0, none⟩ (.int .i64 re)).setCell ⟨w.heap.size + 1, 1, none⟩ (.string (B rp))).setCell ⟨w.heap.size + 1, 2, none⟩ (.string (B rd))).setCell ⟨w.heap.size + 1, 3, none⟩ (.int .i64 rv)).setCell ⟨w.heap.size + 1, 4, none⟩ (.slice vao rn.length vcap)) (.slice (some ⟨G', 0, none⟩) n' cap') l' := by
          have h1 := (H9.out.2.2.1.row.keep hk10 (fun e => HNR2.out.2 e)).ns
          rw [← HN9.out] at h1; exact h1
        have HS := Lib.hid (And.intro (hk10.cell HK9.out.1 (fun e => HNR2.out.1 e)) (And.intro (hk10.cell HK9.out.2.1 (fun e => HNR2.out.1 e)) (And.intro (hk10.cell HK9.out.2.2.1 (fun e => HNR2.out.1 e)) (And.intro (hk10.cell HK9.out.2.2.2.1 (fun e => HNR2.out.1 e)) (And.intro (hk10.cell HK9.out.2.2.2.2.1 (fun e => HNR2.out.1 e)) ((hk10.cell HK9.out.2.2.2.2.2 (fun e => HNB.out e))))))))
        have H10 := Lib.hid (And.intro hf10 (And.intro ho10 hns))
        have HW10 := Lib.hid hw10
        clear hw10 hf10 hk10 hnb ho10 hns r0 r1 r2 r3 r4 z0 z1 z2 z3 z4
        refine hK.out _ _ HS.out (fun hHeld => ?_)
        clear hK K HS hHeld
        try simp only [zP, zN, zS, zT, zU]
        refine wpAnyH_done (by kernel_rfl) ?_ _
        generalize (((((World.setCell wz _ _).setCell _ _).setCell _ _).setCell _ _).setCell _ _) = wy at *
        have s0 := cell_of_row _ (w.heap.size + 1) 0 _ _ _ HW10.out
        have s1 := cell_of_row _ (w.heap.size + 1) 1 _ _ _ HW10.out
        have s2 := cell_of_row _ (w.heap.size + 1) 2 _ _ _ HW10.out
        have s3 := cell_of_row _ (w.heap.size + 1) 3 _ _ _ HW10.out
        have s4 := cell_of_row _ (w.heap.size + 1) 4 _ _ _ HW10.out
        simp only [zA, zB, zC] at s0 s1 s2 s3 s4
        go_wp2
        exact bodyPost_ret (v := .tuple #[.slice (some ⟨G', 0, none⟩) n' cap', .agg #[.int .i64 re, .string (B rp), .string (B rd), .int .i64 rv, .slice vao rn.length vcap]]) (by simp [results, Tryz.results7, go_sem, s0, s1, s2, s3, s4]) rfl ⟨⟨_, _, rfl, H10.out.2.2, H10.out.2.1⟩, H10.out.1⟩
      · have q3 : (re == 0) = false := beq_eq_false_iff_ne.2 hre
        have q4 : (re = 0) = False := eq_false hre
        have q7 : (re != 0) = true := by rw [bne, q3]; rfl
        have HE := Lib.hid (HV.out.2.2.2 hre).1
        clear hre
        go_wp2_with fail
        refine wp_region_held_drew (S := (fun w' => w'.cell? ⟨q, 0, none⟩ = some (.int .i64 re) ∧ w'.cell? ⟨q, 1, none⟩ = some (.string (B rp)) ∧ w'.cell? ⟨q, 2, none⟩ = some (.string (B rd)) ∧ w'.cell? ⟨q, 3, none⟩ = some (.int .i64 rv) ∧ w'.cell? ⟨q, 4, none⟩ = some (.slice vao rn.length vcap))) (by kernel_rfl) ?_ (fun hHeld => ?_)
        · exact ⟨(Fp.refl Non w9).drew.cell k0 (fun h => h), (Fp.refl Non w9).drew.cell k1 (fun h => h), (Fp.refl Non w9).drew.cell k2 (fun h => h), (Fp.refl Non w9).drew.cell k3 (fun h => h), (Fp.refl Non w9).drew.cell k4 (fun h => h)⟩
        have HK9 := Lib.hid (And.intro ((Fp.refl Non w9).drew.cell k0 (fun h => h)) (And.intro ((Fp.refl Non w9).drew.cell k1 (fun h => h)) (And.intro ((Fp.refl Non w9).drew.cell k2 (fun h => h)) (And.intro ((Fp.refl Non w9).drew.cell k3 (fun h => h)) ((Fp.refl Non w9).drew.cell k4 (fun h => h))))))
        have hr9 := H8.out.2.2.1.non (Fp.refl Non w9).drew
        have H9 := Lib.hid (And.intro H8.out.2.1.drew (And.intro (H8.out.2.2.2.1.grown' (Fp.refl Non w9).drew) (And.intro (H8.out.2.2.2.2.non (Fp.refl Non w9).drew) hr9)))
        clear r0 r1 r2 r3 r4 z0 z1 z2 z3 z4
        obtain ⟨r0, r1, r2, r3, r4⟩ := (hr9).r
        have z0 := (hr9).fz 0; have z1 := (hr9).fz 1; have z2 := (hr9).fz 2; have z3 := (hr9).fz 3; have z4 := (hr9).fz 4
        clear hr9 H8 k0 k1 k2 k3 k4 cb
        generalize w9.drew = wz at *
        refine wpAnyH_take (i := 0) (oi := ?oi119) (v := ?vi119) ?h119 (by kernel_rfl) (by kernel_rfl) (by kernel_rfl) ?q119 (Or.inl ⟨?w119, ?y119⟩) hHeld ?r119
        case h119 => simp only [zA, zB] <;> exact rfl
        case q119 => exact fun _ _ _ h => h
        case w119 => rfl
        case y119 =>
          intro w hSw
          (try dsimp only at hSw)
          obtain ⟨k0, k1, k2, k3, k4⟩ := hSw
          go_simp
          try with_reducible rfl
        try simp only [zP, zN, zS, zT, zU]
        refine wpAnyH_take (i := 1) (oi := ?oi120) (v := ?vi120) ?h120 (by kernel_rfl) (by kernel_rfl) (by kernel_rfl) ?q120 (Or.inl ⟨?w120, ?y120⟩) hHeld ?r120
        case h120 => simp only [zA, zB, zC] <;> exact rfl
        case q120 => exact fun _ _ _ h => h
        case w120 => rfl
        case y120 =>
          intro w hSw
          (try dsimp only at hSw)
          obtain ⟨k0, k1, k2, k3, k4⟩ := hSw
          go_simp
          try with_reducible rfl
        try simp only [zP, zN, zS, zT, zU]
        refine wpAnyH_take (i := 2) (oi := ?oi121) (v := ?vi121) ?h121 (by kernel_rfl) (by kernel_rfl) (by kernel_rfl) ?q121 (Or.inl ⟨?w121, ?y121⟩) hHeld ?r121
        case h121 => simp only [zA, zB, zC] <;> exact rfl
        case q121 => exact fun _ _ _ h => h
        case w121 => rfl
        case y121 =>
          intro w hSw
          (try dsimp only at hSw)
          obtain ⟨k0, k1, k2, k3, k4⟩ := hSw
          go_simp
          try with_reducible rfl
        try simp only [zP, zN, zS, zT, zU]
        refine wpAnyH_ready (rs := [3]) (by kernel_rfl) (by simp) ?_
        refine AllReadyH.cons (o := ?ob122) ?hb122 (fun K hK => ?_) AllReadyH.nil
        case hb122 => simp only [zA, zB, zC] <;> exact rfl
        go_simp
        have hw10 := set5 H9.out.2.2.2.res (.int .i64 re) (.string (B rp)) (.string (B rd)) (.int .i64 rv) (.slice vao rn.length vcap)
        have hf10 := fp5 (S := Non) H9.out.1 (b := w.heap.size + 1) (.inr (by omega)) (.int .i64 re) (.string (B rp)) (.string (B rd)) (.int .i64 rv) (.slice vao rn.length vcap)
        have hk10 := fp5 (S := fun k => k = w.heap.size + 1) (Fp.refl _ wz) (b := w.heap.size + 1) (.inl rfl) (.int .i64 re) (.string (B rp)) (.string (B rd)) (.int .i64 rv) (.slice vao rn.length vcap)
        have hnb : (Value.slice vao rn.length vcap).ownBlock = some (w.heap.size + 1) → False := HNR.out
        have ho10 := own5 H9.out.2.1 (b := w.heap.size + 1) hnb (.int .i64 re) (.string (B rp)) (.string (B rd)) (.int .i64 rv) (.slice vao rn.length vcap)
        have hns : Ns (((((wz.setCell ⟨w.heap.size + 1, 0, none⟩ (.int .i64 re)).setCell ⟨w.heap.size + 1, 1, none⟩ (.string (B rp))).setCell ⟨w.heap.size + 1, 2, none⟩ (.string (B rd))).setCell ⟨w.heap.size + 1, 3, none⟩ (.int .i64 rv)).setCell ⟨w.heap.size + 1, 4, none⟩ (.slice vao rn.length vcap)) (.slice ao n cap) l' := by rw [HE.out]; exact HV.out.1.non hf10
        have HS := Lib.hid (And.intro (hk10.cell HK9.out.1 (fun e => HNR2.out.1 e)) (And.intro (hk10.cell HK9.out.2.1 (fun e => HNR2.out.1 e)) (And.intro (hk10.cell HK9.out.2.2.1 (fun e => HNR2.out.1 e)) (And.intro (hk10.cell HK9.out.2.2.2.1 (fun e => HNR2.out.1 e)) ((hk10.cell HK9.out.2.2.2.2 (fun e => HNR2.out.1 e)))))))
        have H10 := Lib.hid (And.intro hf10 (And.intro ho10 hns))
        have HW10 := Lib.hid hw10
        clear hw10 hf10 hk10 hnb ho10 hns r0 r1 r2 r3 r4 z0 z1 z2 z3 z4
        refine hK.out _ _ HS.out (fun hHeld => ?_)
        clear hK K HS hHeld
        try simp only [zP, zN, zS, zT, zU]
        refine wpAnyH_done (by kernel_rfl) ?_ _
        generalize (((((World.setCell wz _ _).setCell _ _).setCell _ _).setCell _ _).setCell _ _) = wy at *
        have s0 := cell_of_row _ (w.heap.size + 1) 0 _ _ _ HW10.out
        have s1 := cell_of_row _ (w.heap.size + 1) 1 _ _ _ HW10.out
        have s2 := cell_of_row _ (w.heap.size + 1) 2 _ _ _ HW10.out
        have s3 := cell_of_row _ (w.heap.size + 1) 3 _ _ _ HW10.out
        have s4 := cell_of_row _ (w.heap.size + 1) 4 _ _ _ HW10.out
        simp only [zA, zB, zC] at s0 s1 s2 s3 s4
        go_wp2
        exact bodyPost_ret (v := .tuple #[.slice ao n cap, .agg #[.int .i64 re, .string (B rp), .string (B rd), .int .i64 rv, .slice vao rn.length vcap]]) (by simp [results, Tryz.results7, go_sem, s0, s1, s2, s3, s4]) rfl ⟨⟨_, _, rfl, H10.out.2.2, H10.out.2.1⟩, H10.out.1⟩
    case wB136 =>
      go_simp
      have hz := zero_row u1
      have hfz : Fp Non u1 (u1.alloc (.cells #[.int .i64 0, .string ⟨#[]⟩, .string ⟨#[]⟩, .int .i64 0, .slice none 0 0] TR)) := (Fp.refl Non u1).alloc _
      have J2 := Lib.hid (And.intro (J1.out.1.non hfz) (And.intro (J1.out.2.1.then hfz) (J1.out.2.2.then hfz)))
      have HM := Lib.hid (HM.out.non hfz)
      have HZ := Lib.hid (And.intro hz (And.intro (show b < u1.heap.size from J1.out.1.tn.lt) (And.intro (show G < u1.heap.size from J1.out.1.tn.row.lt) (show u1.heap.size < (u1.alloc (.cells #[.int .i64 0, .string ⟨#[]⟩, .string ⟨#[]⟩, .int .i64 0, .slice none 0 0] TR)).heap.size by simp))))
      have HS := Lib.hid (box6 (J2.out.2.2.heap HX.out.1.op (fun h => h)))
      clear hz hfz J1
      refine hK.out _ _ HS.out (fun hHeld => ?_)
      clear hK K HS
      try simp only [zP, zN, zS, zT, zU]
      generalize (u1.alloc (.cells #[.int .i64 0, .string ⟨#[]⟩, .string ⟨#[]⟩, .int .i64 0, .slice none 0 0] TR)) = u2 at *
      generalize u1.heap.size = q at *
      refine wpAnyH_ready (rs := [6]) (by kernel_rfl) (by simp) ?_
      refine AllReadyH.cons (o := ?ob123) ?hb123 (fun K hK => ?_) AllReadyH.nil
      case hb123 => simp only [zA, zB, zC] <;> exact rfl
      go_simp
      have hcall := HPk.out.call u2 J2.out.1 HM.out
      rw [HV.out.2.1] at hcall
      have HC6 := Lib.hid hcall
      clear hcall
      rw [hen _ _]
      go_wp2_with fail
      refine HC6.out.mono ?_
      intro e u3 hM
      obtain ⟨nv, G', cap', rfl, ho, htn, hg⟩ := hM.ex
      simp only at ho htn
      have hlow : ∀ k, ownT b G k → w.heap.size + 2 ≤ k := fun k hk => by
        rcases hk with hk | hk
        · rw [hk]; exact HWB.out.1
        · rw [hk]; exact HWB.out.2
      have hg2 : w.heap.size + 2 ≤ G' := by
        rcases hg with e | e
        · rw [e]; exact HWB.out.2
        · have h1 : u2.heap.size ≤ G' := e
          have h2 := J2.out.2.2.size; have h3 := HX.out.1.sz; omega
      have hfn : Fp Non w u3 := J2.out.2.1.trans hM.fp (fun k hk => .inr (by have := hlow k hk; omega))
      have hbn : Bx w kk p d vv ow t u3 := (HX.out.1.non J2.out.2.2).keep hM.fp (fun k hk => .inr (hlow k hk))
      have ho2 : Own w.heap.size u3 nv rn := ho.low J2.out.2.1.size
      have hqz := hM.fp.heap HZ.out.1 (fun e => by
        rcases e with e | e
        · have := HZ.out.2.1; omega
        · have := HZ.out.2.2.1; omega)
      have hql : q < u2.heap.size := HZ.out.2.2.2
      have hnq := fun e => (ho.1.lt q e).1
      have hQ := And.intro hqz (And.intro (show b ≠ q by have := HZ.out.2.1; omega) (And.intro (show G' ≠ q by
        rcases hg with e | e
        · have := HZ.out.2.2.1; omega
        · have h1 : u2.heap.size ≤ G' := e
          omega) (And.intro (show nv.ownBlock = some q → False from fun e => by have := hnq e; omega) (show w.heap.size + 2 ≤ q by have := HZ.out.2.1; have := HWB.out.1; omega))))
      have HQ := Lib.hid hQ
      clear hqz hql hnq hQ HZ
      have HRN := Lib.hid (show nv.ownBlock = some (w.heap.size + 1) → False from fun e => by
        have h1 := (ho.1.lt _ e).1; have h2 := J2.out.2.2.size; have h3 := HX.out.1.sz; omega)
      have HGL := Lib.hid hg2
      obtain ⟨vao, vcap, hvs⟩ := ho2.shape
      subst hvs
      have HN := Lib.hid (And.intro htn (And.intro ho2 (And.intro hfn hbn)))
      have HS := Lib.hid (box6 hbn.op)
      clear hM ho htn hlow hg hg2 hfn hbn ho2 HC6 HM HPk hix hen J2
      unfold strV
      go_wp2_with fail
      refine hK.out _ _ HS.out (fun hHeld => ?_)
      clear hK K
      try simp only [zP, zN, zS, zT, zU]
      clear HS
      have k0 := cell_of_row _ q 0 _ _ _ HQ.out.1
      have k1 := cell_of_row _ q 1 _ _ _ HQ.out.1
      have k2 := cell_of_row _ q 2 _ _ _ HQ.out.1
      have k3 := cell_of_row _ q 3 _ _ _ HQ.out.1
      have k4 := cell_of_row _ q 4 _ _ _ HQ.out.1
      simp only [zA, zB, zC] at k0 k1 k2 k3 k4
      have zz : ∀ j, u3.frozen? ⟨q, j, none⟩ = false := fun j => by have := HQ.out.1; simp [World.frozen?, this]
      have z0 := zz 0; have z1 := zz 1; have z2 := zz 2; have z3 := zz 3; have z4 := zz 4
      clear zz
      refine wpAnyH_ready (rs := [8]) (by kernel_rfl) (by simp) ?_
      refine AllReadyH.cons (o := ?ob124) ?hb124 (fun K hK => ?_) AllReadyH.nil
      case hb124 => simp only [zA, zB, zC] <;> exact rfl
      go_simp
      have hw8 := set5 HQ.out.1 (.int .i64 re) (.string (B rp)) (.string (B rd)) (.int .i64 rv) (.slice vao rn.length vcap)
      have hf8 : Fp (fun k => k = q) u3 (((((u3.setCell ⟨q, 0, none⟩ (.int .i64 re)).setCell ⟨q, 1, none⟩ (.string (B rp))).setCell ⟨q, 2, none⟩ (.string (B rd))).setCell ⟨q, 3, none⟩ (.int .i64 rv)).setCell ⟨q, 4, none⟩ (.slice vao rn.length vcap)) := fp5 (S := fun k => k = q) (Fp.refl _ u3) (b := q) (.inl rfl) (.int .i64 re) (.string (B rp)) (.string (B rd)) (.int .i64 rv) (.slice vao rn.length vcap)
      have hfw8 := fp5 (S := Non) HN.out.2.2.1 (b := q) (.inr (by have := HQ.out.2.2.2.2; omega)) (.int .i64 re) (.string (B rp)) (.string (B rd)) (.int .i64 rv) (.slice vao rn.length vcap)
      have hb8 := HN.out.2.2.2.keep hf8 (fun k hk => .inr (by rw [hk]; exact HQ.out.2.2.2.2))
      have ho8 := own5 HN.out.2.1 (b := q) HQ.out.2.2.2.1 (.int .i64 re) (.string (B rp)) (.string (B rd)) (.int .i64 rv) (.slice vao rn.length vcap)
      have ht8 := HN.out.1.keep hf8 (fun e => HQ.out.2.1 e) (fun e => HQ.out.2.2.1 e)
      have HS := Lib.hid (box6 hb8.op)
      have H8 := Lib.hid (And.intro hw8 (And.intro hfw8 (And.intro hb8 (And.intro ho8 ht8))))
      have HQ2 := Lib.hid HQ.out.2
      clear hw8 hf8 hfw8 hb8 ho8 ht8 k0 k1 k2 k3 k4 z0 z1 z2 z3 z4 HN HQ
      refine hK.out _ _ HS.out (fun hHeld => ?_)
      clear hK K HS hHeld
      try simp only [zP, zN, zS, zT, zU]
      refine wpAnyH_done (by kernel_rfl) ?_ _
      generalize (((((World.setCell u3 _ _).setCell _ _).setCell _ _).setCell _ _).setCell _ _) = w9 at *
      have k0 := cell_of_row _ q 0 _ _ _ H8.out.1
      have k1 := cell_of_row _ q 1 _ _ _ H8.out.1
      have k2 := cell_of_row _ q 2 _ _ _ H8.out.1
      have k3 := cell_of_row _ q 3 _ _ _ H8.out.1
      have k4 := cell_of_row _ q 4 _ _ _ H8.out.1
      simp only [zA, zB, zC] at k0 k1 k2 k3 k4
      have cb := H8.out.2.2.2.2.c0
      obtain ⟨n', hn'⟩ : ∃ n', n' = l'.length := ⟨_, rfl⟩
      rw [← hn'] at cb
      have HN9 := Lib.hid hn'
      clear hn'
      obtain ⟨r0, r1, r2, r3, r4⟩ := H8.out.2.2.1.r
      have z0 := H8.out.2.2.1.fz 0; have z1 := H8.out.2.2.1.fz 1; have z2 := H8.out.2.2.1.fz 2; have z3 := H8.out.2.2.1.fz 3; have z4 := H8.out.2.2.1.fz 4
      have HNR := Lib.hid (show (Value.slice vao rn.length vcap).ownBlock = some (w.heap.size + 1) → False from fun e => HRN.out e)
      have HNR2 := Lib.hid (And.intro (show q = w.heap.size + 1 → False from fun e => by have := HQ2.out.2.2.2; omega) (show G' = w.heap.size + 1 → False from fun e => by have := HGL.out; omega))
      have HNB := Lib.hid (show b = w.heap.size + 1 → False from fun e => by have := HWB.out.1; omega)
      by_cases hre : re = 0
      · have q3 : (re == 0) = true := beq_iff_eq.2 hre
        have q4 : (re = 0) = True := eq_true hre
        have q7 : (re != 0) = false := by rw [bne, q3]; rfl
        have HE := Lib.hid hre
        clear hre
        go_wp2_with fail
        refine wp_region_held_drew (S := (fun w' => w'.cell? ⟨q, 0, none⟩ = some (.int .i64 re) ∧ w'.cell? ⟨q, 1, none⟩ = some (.string (B rp)) ∧ w'.cell? ⟨q, 2, none⟩ = some (.string (B rd)) ∧ w'.cell? ⟨q, 3, none⟩ = some (.int .i64 rv) ∧ w'.cell? ⟨q, 4, none⟩ = some (.slice vao rn.length vcap) ∧ w'.cell? ⟨b, 0, none⟩ = some (.slice (some ⟨G', 0, none⟩) n' cap'))) (by kernel_rfl) ?_ (fun hHeld => ?_)
        · exact ⟨(Fp.refl Non w9).drew.cell k0 (fun h => h), (Fp.refl Non w9).drew.cell k1 (fun h => h), (Fp.refl Non w9).drew.cell k2 (fun h => h), (Fp.refl Non w9).drew.cell k3 (fun h => h), (Fp.refl Non w9).drew.cell k4 (fun h => h), (Fp.refl Non w9).drew.cell cb (fun h => h)⟩
        have HK9 := Lib.hid (And.intro ((Fp.refl Non w9).drew.cell k0 (fun h => h)) (And.intro ((Fp.refl Non w9).drew.cell k1 (fun h => h)) (And.intro ((Fp.refl Non w9).drew.cell k2 (fun h => h)) (And.intro ((Fp.refl Non w9).drew.cell k3 (fun h => h)) (And.intro ((Fp.refl Non w9).drew.cell k4 (fun h => h)) ((Fp.refl Non w9).drew.cell cb (fun h => h)))))))
        have hr9 := H8.out.2.2.1.non (Fp.refl Non w9).drew
        have H9 := Lib.hid (And.intro H8.out.2.1.drew (And.intro (H8.out.2.2.2.1.grown' (Fp.refl Non w9).drew) (And.intro (H8.out.2.2.2.2.non (Fp.refl Non w9).drew) hr9)))
        clear r0 r1 r2 r3 r4 z0 z1 z2 z3 z4
        obtain ⟨r0, r1, r2, r3, r4⟩ := (hr9).r
        have z0 := (hr9).fz 0; have z1 := (hr9).fz 1; have z2 := (hr9).fz 2; have z3 := (hr9).fz 3; have z4 := (hr9).fz 4
        clear hr9 H8 k0 k1 k2 k3 k4 cb
        generalize w9.drew = wz at *
        refine wpAnyH_take (i := 0) (oi := ?oi125) (v := ?vi125) ?h125 (by kernel_rfl) (by kernel_rfl) (by kernel_rfl) ?q125 (Or.inl ⟨?w125, ?y125⟩) hHeld ?r125
        case h125 => simp only [zA, zB] <;> exact rfl
        case q125 => exact fun _ _ _ h => h
        case w125 => rfl
        case y125 =>
          intro w hSw
          (try dsimp only at hSw)
          obtain ⟨k0, k1, k2, k3, k4, cb⟩ := hSw
          go_simp
          try with_reducible rfl
        try simp only [zP, zN, zS, zT, zU]
        refine wpAnyH_take (i := 1) (oi := ?oi126) (v := ?vi126) ?h126 (by kernel_rfl) (by kernel_rfl) (by kernel_rfl) ?q126 (Or.inl ⟨?w126, ?y126⟩) hHeld ?r126
        case h126 => simp only [zA, zB, zC] <;> exact rfl
        case q126 => exact fun _ _ _ h => h
        case w126 => rfl
        case y126 =>
          intro w hSw
          (try dsimp only at hSw)
          obtain ⟨k0, k1, k2, k3, k4, cb⟩ := hSw
          go_simp
          try with_reducible rfl
        try simp only [zP, zN, zS, zT, zU]
        refine wpAnyH_take (i := 2) (oi := ?oi127) (v := ?vi127) ?h127 (by kernel_rfl) (by kernel_rfl) (by kernel_rfl) ?q127 (Or.inl ⟨?w127, ?y127⟩) hHeld ?r127
        case h127 => simp only [zA, zB, zC] <;> exact rfl
        case q127 => exact fun _ _ _ h => h
        case w127 => rfl
        case y127 =>
          intro w hSw
          (try dsimp only at hSw)
          obtain ⟨k0, k1, k2, k3, k4, cb⟩ := hSw
          go_simp
          try with_reducible rfl
        try simp only [zP, zN, zS, zT, zU]
        refine wpAnyH_take (i := 3) (oi := ?oi128) (v := ?vi128) ?h128 (by kernel_rfl) (by kernel_rfl) (by kernel_rfl) ?q128 (Or.inl ⟨?w128, ?y128⟩) hHeld ?r128
        case h128 => simp only [zA, zB, zC] <;> exact rfl
        case q128 => exact fun _ _ _ h => h
        case w128 => rfl
        case y128 =>
          intro w hSw
          (try dsimp only at hSw)
          obtain ⟨k0, k1, k2, k3, k4, cb⟩ := hSw
          go_simp
          try with_reducible rfl
        try simp only [zP, zN, zS, zT, zU]
        refine wpAnyH_take (i := 4) (oi := ?oi129) (v := ?vi129) ?h129 (by kernel_rfl) (by kernel_rfl) (by kernel_rfl) ?q129 (Or.inl ⟨?w129, ?y129⟩) hHeld ?r129
        case h129 => simp only [zA, zB, zC] <;> exact rfl
        case q129 => exact fun _ _ _ h => h
        case w129 => rfl
        case y129 =>
          intro w hSw
          (try dsimp only at hSw)
          obtain ⟨k0, k1, k2, k3, k4, cb⟩ := hSw
          go_simp
          try with_reducible rfl
        try simp only [zP, zN, zS, zT, zU]
        refine wpAnyH_take (i := 5) (oi := ?oi130) (v := ?vi130) ?h130 (by kernel_rfl) (by kernel_rfl) (by kernel_rfl) ?q130 (Or.inl ⟨?w130, ?y130⟩) hHeld ?r130
        case h130 => simp only [zA, zB, zC] <;> exact rfl
        case q130 => exact fun _ _ _ h => h
        case w130 => rfl
        case y130 =>
          intro w hSw
          (try dsimp only at hSw)
          obtain ⟨k0, k1, k2, k3, k4, cb⟩ := hSw
          go_simp
          try with_reducible rfl
        try simp only [zP, zN, zS, zT, zU]
        refine wpAnyH_ready (rs := [6]) (by kernel_rfl) (by simp) ?_
        refine AllReadyH.cons (o := ?ob131) ?hb131 (fun K hK => ?_) AllReadyH.nil
        case hb131 => simp only [zA, zB, zC] <;> exact rfl
        go_simp
        have hw10 := set5 H9.out.2.2.2.res (.int .i64 re) (.string (B rp)) (.string (B rd)) (.int .i64 rv) (.slice vao rn.length vcap)
        have hf10 := fp5 (S := Non) H9.out.1 (b := w.heap.size + 1) (.inr (by omega)) (.int .i64 re) (.string (B rp)) (.string (B rd)) (.int .i64 rv) (.slice vao rn.length vcap)
        have hk10 := fp5 (S := fun k => k = w.heap.size + 1) (Fp.refl _ wz) (b := w.heap.size + 1) (.inl rfl) (.int .i64 re) (.string (B rp)) (.string (B rd)) (.int .i64 rv) (.slice vao rn.length vcap)
        have hnb : (Value.slice vao rn.length vcap).ownBlock = some (w.heap.size + 1) → False := HNR.out
        have ho10 := own5 H9.out.2.1 (b := w.heap.size + 1) hnb (.int .i64 re) (.string (B rp)) (.string (B rd)) (.int .i64 rv) (.slice vao rn.length vcap)
        have hns : Ns (((((wz.setCell ⟨w.heap.size + 1, 0, none⟩ (.int .i64 re)).setCell ⟨w.heap.size + 1, 1, none⟩ (.string (B rp))).setCell ⟨w.heap.size + 1, 2, none⟩ (.string (B rd))).setCell ⟨w.heap.size + 1, 3, none⟩ (.int .i64 rv)).setCell ⟨w.heap.size + 1, 4, none⟩ (.slice vao rn.length vcap)) (.slice (some ⟨G', 0, none⟩) n' cap') l' := by
          have h1 := (H9.out.2.2.1.row.keep hk10 (fun e => HNR2.out.2 e)).ns
          rw [← HN9.out] at h1; exact h1
        have HS := Lib.hid (And.intro (hk10.cell HK9.out.1 (fun e => HNR2.out.1 e)) (And.intro (hk10.cell HK9.out.2.1 (fun e => HNR2.out.1 e)) (And.intro (hk10.cell HK9.out.2.2.1 (fun e => HNR2.out.1 e)) (And.intro (hk10.cell HK9.out.2.2.2.1 (fun e => HNR2.out.1 e)) (And.intro (hk10.cell HK9.out.2.2.2.2.1 (fun e => HNR2.out.1 e)) ((hk10.cell HK9.out.2.2.2.2.2 (fun e => HNB.out e))))))))
        have H10 := Lib.hid (And.intro hf10 (And.intro ho10 hns))
        have HW10 := Lib.hid hw10
        clear hw10 hf10 hk10 hnb ho10 hns r0 r1 r2 r3 r4 z0 z1 z2 z3 z4
        refine hK.out _ _ HS.out (fun hHeld => ?_)
        clear hK K HS hHeld
        try simp only [zP, zN, zS, zT, zU]
        refine wpAnyH_done (by kernel_rfl) ?_ _
        generalize (((((World.setCell wz _ _).setCell _ _).setCell _ _).setCell _ _).setCell _ _) = wy at *
        have s0 := cell_of_row _ (w.heap.size + 1) 0 _ _ _ HW10.out
        have s1 := cell_of_row _ (w.heap.size + 1) 1 _ _ _ HW10.out
        have s2 := cell_of_row _ (w.heap.size + 1) 2 _ _ _ HW10.out
        have s3 := cell_of_row _ (w.heap.size + 1) 3 _ _ _ HW10.out
        have s4 := cell_of_row _ (w.heap.size + 1) 4 _ _ _ HW10.out
        simp only [zA, zB, zC] at s0 s1 s2 s3 s4
        go_wp2
        exact bodyPost_ret (v := .tuple #[.slice (some ⟨G', 0, none⟩) n' cap', .agg #[.int .i64 re, .string (B rp), .string (B rd), .int .i64 rv, .slice vao rn.length vcap]]) (by simp [results, Tryz.results7, go_sem, s0, s1, s2, s3, s4]) rfl ⟨⟨_, _, rfl, H10.out.2.2, H10.out.2.1⟩, H10.out.1⟩
      · have q3 : (re == 0) = false := beq_eq_false_iff_ne.2 hre
        have q4 : (re = 0) = False := eq_false hre
        have q7 : (re != 0) = true := by rw [bne, q3]; rfl
        have HE := Lib.hid (HV.out.2.2.2 hre).1
        clear hre
        go_wp2_with fail
        refine wp_region_held_drew (S := (fun w' => w'.cell? ⟨q, 0, none⟩ = some (.int .i64 re) ∧ w'.cell? ⟨q, 1, none⟩ = some (.string (B rp)) ∧ w'.cell? ⟨q, 2, none⟩ = some (.string (B rd)) ∧ w'.cell? ⟨q, 3, none⟩ = some (.int .i64 rv) ∧ w'.cell? ⟨q, 4, none⟩ = some (.slice vao rn.length vcap))) (by kernel_rfl) ?_ (fun hHeld => ?_)
        · exact ⟨(Fp.refl Non w9).drew.cell k0 (fun h => h), (Fp.refl Non w9).drew.cell k1 (fun h => h), (Fp.refl Non w9).drew.cell k2 (fun h => h), (Fp.refl Non w9).drew.cell k3 (fun h => h), (Fp.refl Non w9).drew.cell k4 (fun h => h)⟩
        have HK9 := Lib.hid (And.intro ((Fp.refl Non w9).drew.cell k0 (fun h => h)) (And.intro ((Fp.refl Non w9).drew.cell k1 (fun h => h)) (And.intro ((Fp.refl Non w9).drew.cell k2 (fun h => h)) (And.intro ((Fp.refl Non w9).drew.cell k3 (fun h => h)) ((Fp.refl Non w9).drew.cell k4 (fun h => h))))))
        have hr9 := H8.out.2.2.1.non (Fp.refl Non w9).drew
        have H9 := Lib.hid (And.intro H8.out.2.1.drew (And.intro (H8.out.2.2.2.1.grown' (Fp.refl Non w9).drew) (And.intro (H8.out.2.2.2.2.non (Fp.refl Non w9).drew) hr9)))
        clear r0 r1 r2 r3 r4 z0 z1 z2 z3 z4
        obtain ⟨r0, r1, r2, r3, r4⟩ := (hr9).r
        have z0 := (hr9).fz 0; have z1 := (hr9).fz 1; have z2 := (hr9).fz 2; have z3 := (hr9).fz 3; have z4 := (hr9).fz 4
        clear hr9 H8 k0 k1 k2 k3 k4 cb
        generalize w9.drew = wz at *
        refine wpAnyH_take (i := 0) (oi := ?oi132) (v := ?vi132) ?h132 (by kernel_rfl) (by kernel_rfl) (by kernel_rfl) ?q132 (Or.inl ⟨?w132, ?y132⟩) hHeld ?r132
        case h132 => simp only [zA, zB] <;> exact rfl
        case q132 => exact fun _ _ _ h => h
        case w132 => rfl
        case y132 =>
          intro w hSw
          (try dsimp only at hSw)
          obtain ⟨k0, k1, k2, k3, k4⟩ := hSw
          go_simp
          try with_reducible rfl
        try simp only [zP, zN, zS, zT, zU]
        refine wpAnyH_take (i := 1) (oi := ?oi133) (v := ?vi133) ?h133 (by kernel_rfl) (by kernel_rfl) (by kernel_rfl) ?q133 (Or.inl ⟨?w133, ?y133⟩) hHeld ?r133
        case h133 => simp only [zA, zB, zC] <;> exact rfl
        case q133 => exact fun _ _ _ h => h
        case w133 => rfl
        case y133 =>
          intro w hSw
          (try dsimp only at hSw)
          obtain ⟨k0, k1, k2, k3, k4⟩ := hSw
          go_simp
          try with_reducible rfl
        try simp only [zP, zN, zS, zT, zU]
        refine wpAnyH_take (i := 2) (oi := ?oi134) (v := ?vi134) ?h134 (by kernel_rfl) (by kernel_rfl) (by kernel_rfl) ?q134 (Or.inl ⟨?w134, ?y134⟩) hHeld ?r134
        case h134 => simp only [zA, zB, zC] <;> exact rfl
        case q134 => exact fun _ _ _ h => h
        case w134 => rfl
        case y134 =>
          intro w hSw
          (try dsimp only at hSw)
          obtain ⟨k0, k1, k2, k3, k4⟩ := hSw
          go_simp
          try with_reducible rfl
        try simp only [zP, zN, zS, zT, zU]
        refine wpAnyH_ready (rs := [3]) (by kernel_rfl) (by simp) ?_
        refine AllReadyH.cons (o := ?ob135) ?hb135 (fun K hK => ?_) AllReadyH.nil
        case hb135 => simp only [zA, zB, zC] <;> exact rfl
        go_simp
        have hw10 := set5 H9.out.2.2.2.res (.int .i64 re) (.string (B rp)) (.string (B rd)) (.int .i64 rv) (.slice vao rn.length vcap)
        have hf10 := fp5 (S := Non) H9.out.1 (b := w.heap.size + 1) (.inr (by omega)) (.int .i64 re) (.string (B rp)) (.string (B rd)) (.int .i64 rv) (.slice vao rn.length vcap)
        have hk10 := fp5 (S := fun k => k = w.heap.size + 1) (Fp.refl _ wz) (b := w.heap.size + 1) (.inl rfl) (.int .i64 re) (.string (B rp)) (.string (B rd)) (.int .i64 rv) (.slice vao rn.length vcap)
        have hnb : (Value.slice vao rn.length vcap).ownBlock = some (w.heap.size + 1) → False := HNR.out
        have ho10 := own5 H9.out.2.1 (b := w.heap.size + 1) hnb (.int .i64 re) (.string (B rp)) (.string (B rd)) (.int .i64 rv) (.slice vao rn.length vcap)
        have hns : Ns (((((wz.setCell ⟨w.heap.size + 1, 0, none⟩ (.int .i64 re)).setCell ⟨w.heap.size + 1, 1, none⟩ (.string (B rp))).setCell ⟨w.heap.size + 1, 2, none⟩ (.string (B rd))).setCell ⟨w.heap.size + 1, 3, none⟩ (.int .i64 rv)).setCell ⟨w.heap.size + 1, 4, none⟩ (.slice vao rn.length vcap)) (.slice ao n cap) l' := by rw [HE.out]; exact HV.out.1.non hf10
        have HS := Lib.hid (And.intro (hk10.cell HK9.out.1 (fun e => HNR2.out.1 e)) (And.intro (hk10.cell HK9.out.2.1 (fun e => HNR2.out.1 e)) (And.intro (hk10.cell HK9.out.2.2.1 (fun e => HNR2.out.1 e)) (And.intro (hk10.cell HK9.out.2.2.2.1 (fun e => HNR2.out.1 e)) ((hk10.cell HK9.out.2.2.2.2 (fun e => HNR2.out.1 e)))))))
        have H10 := Lib.hid (And.intro hf10 (And.intro ho10 hns))
        have HW10 := Lib.hid hw10
        clear hw10 hf10 hk10 hnb ho10 hns r0 r1 r2 r3 r4 z0 z1 z2 z3 z4
        refine hK.out _ _ HS.out (fun hHeld => ?_)
        clear hK K HS hHeld
        try simp only [zP, zN, zS, zT, zU]
        refine wpAnyH_done (by kernel_rfl) ?_ _
        generalize (((((World.setCell wz _ _).setCell _ _).setCell _ _).setCell _ _).setCell _ _) = wy at *
        have s0 := cell_of_row _ (w.heap.size + 1) 0 _ _ _ HW10.out
        have s1 := cell_of_row _ (w.heap.size + 1) 1 _ _ _ HW10.out
        have s2 := cell_of_row _ (w.heap.size + 1) 2 _ _ _ HW10.out
        have s3 := cell_of_row _ (w.heap.size + 1) 3 _ _ _ HW10.out
        have s4 := cell_of_row _ (w.heap.size + 1) 4 _ _ _ HW10.out
        simp only [zA, zB, zC] at s0 s1 s2 s3 s4
        go_wp2
        exact bodyPost_ret (v := .tuple #[.slice ao n cap, .agg #[.int .i64 re, .string (B rp), .string (B rd), .int .i64 rv, .slice vao rn.length vcap]]) (by simp [results, Tryz.results7, go_sem, s0, s1, s2, s3, s4]) rfl ⟨⟨_, _, rfl, H10.out.2.2, H10.out.2.1⟩, H10.out.1⟩
  case wB156 =>
    go_simp
    have hz := zero_row u0
    have hfz : Fp Non u0 (u0.alloc (.cells #[.int .i64 0, .string ⟨#[]⟩, .string ⟨#[]⟩, .int .i64 0, .slice none 0 0] TR)) := (Fp.refl Non u0).alloc _
    have J1 := Lib.hid (And.intro (J0.out.1.non hfz) (And.intro (J0.out.2.1.then hfz) (J0.out.2.2.then hfz)))
    have HZ := Lib.hid (And.intro hz (And.intro (show b < u0.heap.size from J0.out.1.tn.lt) (And.intro (show G < u0.heap.size from J0.out.1.tn.row.lt) (show u0.heap.size < (u0.alloc (.cells #[.int .i64 0, .string ⟨#[]⟩, .string ⟨#[]⟩, .int .i64 0, .slice none 0 0] TR)).heap.size by simp))))
    have HS := Lib.hid (box6 (J1.out.2.2.heap HX.out.1.op (fun h => h)))
    clear hz hfz J0
    refine hK.out _ _ HS.out (fun hHeld => ?_)
    clear hK K HS
    try simp only [zP, zN, zS, zT, zU]
    generalize (u0.alloc (.cells #[.int .i64 0, .string ⟨#[]⟩, .string ⟨#[]⟩, .int .i64 0, .slice none 0 0] TR)) = u1 at *
    generalize u0.heap.size = q at *
    refine wpAnyH_ready (rs := [0]) (by kernel_rfl) (by simp) ?_
    refine AllReadyH.cons (o := ?ob137) ?hb137 (fun K hK => ?_) AllReadyH.nil
    case hb137 => simp only [zA, zB, zC] <;> exact rfl
    go_simp
    go_at_call 20
    refine (effects_c _).mono ?_
    rintro e u2 hE
    obtain ⟨g2, g3, g4, g5, g6, g7, rfl, hM⟩ := hE.ex
    obtain ⟨fk, fc, hPk⟩ := HV.out.2.2.1 w.heap.size b G c3 g2 g3 g4 g5 g6 g7
    have hfe := hE.fp
    have J2 := Lib.hid (And.intro (J1.out.1.non hfe) (And.intro (J1.out.2.1.then hfe) (J1.out.2.2.then hfe)))
    have HM := Lib.hid hM
    have HPk := Lib.hid hPk
    have hix := hPk.ix
    have hen := hPk.en
    have HS := Lib.hid (box6 (J2.out.2.2.heap HX.out.1.op (fun h => h)))
    have HZ := Lib.hid (And.intro (hfe.heap HZ.out.1 (fun h => h)) (And.intro HZ.out.2.1 (And.intro HZ.out.2.2.1 (Nat.lt_of_lt_of_le HZ.out.2.2.2 hfe.size))))
    clear hE hM hPk hfe J1
    go_wp2_with fail
    refine hK.out _ _ HS.out (fun hHeld => ?_)
    clear hK K
    try simp only [zP, zN, zS, zT, zU]
    clear HS
    refine wpAnyH_take (i := 3) (oi := ?oi138) (v := ?vi138) ?h138 (by kernel_rfl) (by kernel_rfl) (by kernel_rfl) ?q138 (Or.inl ⟨?w138, ?y138⟩) hHeld ?r138
    case h138 => simp only [zA, zB, zC] <;> exact rfl
    case q138 => exact fun _ _ _ h => h
    case w138 => rfl
    case y138 =>
      intro w hSw
      (try dsimp only at hSw)
      obtain ⟨o0, o1, o2, o3, o4, o5⟩ := hSw
      go_simp
      try with_reducible rfl
    try simp only [zP, zN, zS, zT, zU]
    refine wpAnyH_ready (rs := [6]) (by kernel_rfl) (by simp) ?_
    refine AllReadyH.cons (o := ?ob139) ?hb139 (fun K hK => ?_) AllReadyH.nil
    case hb139 => simp only [zA, zB, zC] <;> exact rfl
    go_simp
    have hcall := HPk.out.call u2 J2.out.1 HM.out
    rw [HV.out.2.1] at hcall
    have HC6 := Lib.hid hcall
    clear hcall
    rw [hen _ _]
    go_wp2_with fail
    refine HC6.out.mono ?_
    intro e u3 hM
    obtain ⟨nv, G', cap', rfl, ho, htn, hg⟩ := hM.ex
    simp only at ho htn
    have hlow : ∀ k, ownT b G k → w.heap.size + 2 ≤ k := fun k hk => by
      rcases hk with hk | hk
      · rw [hk]; exact HWB.out.1
      · rw [hk]; exact HWB.out.2
    have hg2 : w.heap.size + 2 ≤ G' := by
      rcases hg with e | e
      · rw [e]; exact HWB.out.2
      · have h1 : u2.heap.size ≤ G' := e
        have h2 := J2.out.2.2.size; have h3 := HX.out.1.sz; omega
    have hfn : Fp Non w u3 := J2.out.2.1.trans hM.fp (fun k hk => .inr (by have := hlow k hk; omega))
    have hbn : Bx w kk p d vv ow t u3 := (HX.out.1.non J2.out.2.2).keep hM.fp (fun k hk => .inr (hlow k hk))
    have ho2 : Own w.heap.size u3 nv rn := ho.low J2.out.2.1.size
    have hqz := hM.fp.heap HZ.out.1 (fun e => by
      rcases e with e | e
      · have := HZ.out.2.1; omega
      · have := HZ.out.2.2.1; omega)
    have hql : q < u2.heap.size := HZ.out.2.2.2
    have hnq := fun e => (ho.1.lt q e).1
    have hQ := And.intro hqz (And.intro (show b ≠ q by have := HZ.out.2.1; omega) (And.intro (show G' ≠ q by
      rcases hg with e | e
      · have := HZ.out.2.2.1; omega
      · have h1 : u2.heap.size ≤ G' := e
        omega) (And.intro (show nv.ownBlock = some q → False from fun e => by have := hnq e; omega) (show w.heap.size + 2 ≤ q by have := HZ.out.2.1; have := HWB.out.1; omega))))
    have HQ := Lib.hid hQ
    clear hqz hql hnq hQ HZ
    have HRN := Lib.hid (show nv.ownBlock = some (w.heap.size + 1) → False from fun e => by
      have h1 := (ho.1.lt _ e).1; have h2 := J2.out.2.2.size; have h3 := HX.out.1.sz; omega)
    have HGL := Lib.hid hg2
    obtain ⟨vao, vcap, hvs⟩ := ho2.shape
    subst hvs
    have HN := Lib.hid (And.intro htn (And.intro ho2 (And.intro hfn hbn)))
    have HS := Lib.hid (box6 hbn.op)
    clear hM ho htn hlow hg hg2 hfn hbn ho2 HC6 HM HPk hix hen J2
    unfold strV
    go_wp2_with fail
    refine hK.out _ _ HS.out (fun hHeld => ?_)
    clear hK K
    try simp only [zP, zN, zS, zT, zU]
    clear HS
    have k0 := cell_of_row _ q 0 _ _ _ HQ.out.1
    have k1 := cell_of_row _ q 1 _ _ _ HQ.out.1
    have k2 := cell_of_row _ q 2 _ _ _ HQ.out.1
    have k3 := cell_of_row _ q 3 _ _ _ HQ.out.1
    have k4 := cell_of_row _ q 4 _ _ _ HQ.out.1
    simp only [zA, zB, zC] at k0 k1 k2 k3 k4
    have zz : ∀ j, u3.frozen? ⟨q, j, none⟩ = false := fun j => by have := HQ.out.1; simp [World.frozen?, this]
    have z0 := zz 0; have z1 := zz 1; have z2 := zz 2; have z3 := zz 3; have z4 := zz 4
    clear zz
    refine wpAnyH_ready (rs := [8]) (by kernel_rfl) (by simp) ?_
    refine AllReadyH.cons (o := ?ob140) ?hb140 (fun K hK => ?_) AllReadyH.nil
    case hb140 => simp only [zA, zB, zC] <;> exact rfl
    go_simp
    have hw8 := set5 HQ.out.1 (.int .i64 re) (.string (B rp)) (.string (B rd)) (.int .i64 rv) (.slice vao rn.length vcap)
    have hf8 : Fp (fun k => k = q) u3 (((((u3.setCell ⟨q, 0, none⟩ (.int .i64 re)).setCell ⟨q, 1, none⟩ (.string (B rp))).setCell ⟨q, 2, none⟩ (.string (B rd))).setCell ⟨q, 3, none⟩ (.int .i64 rv)).setCell ⟨q, 4, none⟩ (.slice vao rn.length vcap)) := fp5 (S := fun k => k = q) (Fp.refl _ u3) (b := q) (.inl rfl) (.int .i64 re) (.string (B rp)) (.string (B rd)) (.int .i64 rv) (.slice vao rn.length vcap)
    have hfw8 := fp5 (S := Non) HN.out.2.2.1 (b := q) (.inr (by have := HQ.out.2.2.2.2; omega)) (.int .i64 re) (.string (B rp)) (.string (B rd)) (.int .i64 rv) (.slice vao rn.length vcap)
    have hb8 := HN.out.2.2.2.keep hf8 (fun k hk => .inr (by rw [hk]; exact HQ.out.2.2.2.2))
    have ho8 := own5 HN.out.2.1 (b := q) HQ.out.2.2.2.1 (.int .i64 re) (.string (B rp)) (.string (B rd)) (.int .i64 rv) (.slice vao rn.length vcap)
    have ht8 := HN.out.1.keep hf8 (fun e => HQ.out.2.1 e) (fun e => HQ.out.2.2.1 e)
    have HS := Lib.hid (box6 hb8.op)
    have H8 := Lib.hid (And.intro hw8 (And.intro hfw8 (And.intro hb8 (And.intro ho8 ht8))))
    have HQ2 := Lib.hid HQ.out.2
    clear hw8 hf8 hfw8 hb8 ho8 ht8 k0 k1 k2 k3 k4 z0 z1 z2 z3 z4 HN HQ
    refine hK.out _ _ HS.out (fun hHeld => ?_)
    clear hK K HS hHeld
    try simp only [zP, zN, zS, zT, zU]
    refine wpAnyH_done (by kernel_rfl) ?_ _
    generalize (((((World.setCell u3 _ _).setCell _ _).setCell _ _).setCell _ _).setCell _ _) = w9 at *
    have k0 := cell_of_row _ q 0 _ _ _ H8.out.1
    have k1 := cell_of_row _ q 1 _ _ _ H8.out.1
    have k2 := cell_of_row _ q 2 _ _ _ H8.out.1
    have k3 := cell_of_row _ q 3 _ _ _ H8.out.1
    have k4 := cell_of_row _ q 4 _ _ _ H8.out.1
    simp only [zA, zB, zC] at k0 k1 k2 k3 k4
    have cb := H8.out.2.2.2.2.c0
    obtain ⟨n', hn'⟩ : ∃ n', n' = l'.length := ⟨_, rfl⟩
    rw [← hn'] at cb
    have HN9 := Lib.hid hn'
    clear hn'
    obtain ⟨r0, r1, r2, r3, r4⟩ := H8.out.2.2.1.r
    have z0 := H8.out.2.2.1.fz 0; have z1 := H8.out.2.2.1.fz 1; have z2 := H8.out.2.2.1.fz 2; have z3 := H8.out.2.2.1.fz 3; have z4 := H8.out.2.2.1.fz 4
    have HNR := Lib.hid (show (Value.slice vao rn.length vcap).ownBlock = some (w.heap.size + 1) → False from fun e => HRN.out e)
    have HNR2 := Lib.hid (And.intro (show q = w.heap.size + 1 → False from fun e => by have := HQ2.out.2.2.2; omega) (show G' = w.heap.size + 1 → False from fun e => by have := HGL.out; omega))
    have HNB := Lib.hid (show b = w.heap.size + 1 → False from fun e => by have := HWB.out.1; omega)
    by_cases hre : re = 0
    · have q3 : (re == 0) = true := beq_iff_eq.2 hre
      have q4 : (re = 0) = True := eq_true hre
      have q7 : (re != 0) = false := by rw [bne, q3]; rfl
      have HE := Lib.hid hre
      clear hre
      go_wp2_with fail
      refine wp_region_held_drew (S := (fun w' => w'.cell? ⟨q, 0, none⟩ = some (.int .i64 re) ∧ w'.cell? ⟨q, 1, none⟩ = some (.string (B rp)) ∧ w'.cell? ⟨q, 2, none⟩ = some (.string (B rd)) ∧ w'.cell? ⟨q, 3, none⟩ = some (.int .i64 rv) ∧ w'.cell? ⟨q, 4, none⟩ = some (.slice vao rn.length vcap) ∧ w'.cell? ⟨b, 0, none⟩ = some (.slice (some ⟨G', 0, none⟩) n' cap'))) (by kernel_rfl) ?_ (fun hHeld => ?_)
      · exact ⟨(Fp.refl Non w9).drew.cell k0 (fun h => h), (Fp.refl Non w9).drew.cell k1 (fun h => h), (Fp.refl Non w9).drew.cell k2 (fun h => h), (Fp.refl Non w9).drew.cell k3 (fun h => h), (Fp.refl Non w9).drew.cell k4 (fun h => h), (Fp.refl Non w9).drew.cell cb (fun h => h)⟩
      have HK9 := Lib.hid (And.intro ((Fp.refl Non w9).drew.cell k0 (fun h => h)) (And.intro ((Fp.refl Non w9).drew.cell k1 (fun h => h)) (And.intro ((Fp.refl Non w9).drew.cell k2 (fun h => h)) (And.intro ((Fp.refl Non w9).drew.cell k3 (fun h => h)) (And.intro ((Fp.refl Non w9).drew.cell k4 (fun h => h)) ((Fp.refl Non w9).drew.cell cb (fun h => h)))))))
      have hr9 := H8.out.2.2.1.non (Fp.refl Non w9).drew
      have H9 := Lib.hid (And.intro H8.out.2.1.drew (And.intro (H8.out.2.2.2.1.grown' (Fp.refl Non w9).drew) (And.intro (H8.out.2.2.2.2.non (Fp.refl Non w9).drew) hr9)))
      clear r0 r1 r2 r3 r4 z0 z1 z2 z3 z4
      obtain ⟨r0, r1, r2, r3, r4⟩ := (hr9).r
      have z0 := (hr9).fz 0; have z1 := (hr9).fz 1; have z2 := (hr9).fz 2; have z3 := (hr9).fz 3; have z4 := (hr9).fz 4
      clear hr9 H8 k0 k1 k2 k3 k4 cb
      generalize w9.drew = wz at *
      refine wpAnyH_take (i := 0) (oi := ?oi141) (v := ?vi141) ?h141 (by kernel_rfl) (by kernel_rfl) (by kernel_rfl) ?q141 (Or.inl ⟨?w141, ?y141⟩) hHeld ?r141
      case h141 => simp only [zA, zB] <;> exact rfl
      case q141 => exact fun _ _ _ h => h
      case w141 => rfl
      case y141 =>
        intro w hSw
        (try dsimp only at hSw)
        obtain ⟨k0, k1, k2, k3, k4, cb⟩ := hSw
        go_simp
        try with_reducible rfl
      try simp only [zP, zN, zS, zT, zU]
      refine wpAnyH_take (i := 1) (oi := ?oi142) (v := ?vi142) ?h142 (by kernel_rfl) (by kernel_rfl) (by kernel_rfl) ?q142 (Or.inl ⟨?w142, ?y142⟩) hHeld ?r142
      case h142 => simp only [zA, zB, zC] <;> exact rfl
      case q142 => exact fun _ _ _ h => h
      case w142 => rfl
      case y142 =>
        intro w hSw
        (try dsimp only at hSw)
        obtain ⟨k0, k1, k2, k3, k4, cb⟩ := hSw
        go_simp
        try with_reducible rfl
      try simp only [zP, zN, zS, zT, zU]
      refine wpAnyH_take (i := 2) (oi := ?oi143) (v := ?vi143) ?h143 (by kernel_rfl) (by kernel_rfl) (by kernel_rfl) ?q143 (Or.inl ⟨?w143, ?y143⟩) hHeld ?r143
      case h143 => simp only [zA, zB, zC] <;> exact rfl
      case q143 => exact fun _ _ _ h => h
      case w143 => rfl
      case y143 =>
        intro w hSw
        (try dsimp only at hSw)
        obtain ⟨k0, k1, k2, k3, k4, cb⟩ := hSw
        go_simp
        try with_reducible rfl
      try simp only [zP, zN, zS, zT, zU]
      refine wpAnyH_take (i := 3) (oi := ?oi144) (v := ?vi144) ?h144 (by kernel_rfl) (by kernel_rfl) (by kernel_rfl) ?q144 (Or.inl ⟨?w144, ?y144⟩) hHeld ?r144
      case h144 => simp only [zA, zB, zC] <;> exact rfl
      case q144 => exact fun _ _ _ h => h
      case w144 => rfl
      case y144 =>
        intro w hSw
        (try dsimp only at hSw)
        obtain ⟨k0, k1, k2, k3, k4, cb⟩ := hSw
        go_simp
        try with_reducible rfl
      try simp only [zP, zN, zS, zT, zU]
      refine wpAnyH_take (i := 4) (oi := ?oi145) (v := ?vi145) ?h145 (by kernel_rfl) (by kernel_rfl) (by kernel_rfl) ?q145 (Or.inl ⟨?w145, ?y145⟩) hHeld ?r145
      case h145 => simp only [zA, zB, zC] <;> exact rfl
      case q145 => exact fun _ _ _ h => h
      case w145 => rfl
      case y145 =>
        intro w hSw
        (try dsimp only at hSw)
        obtain ⟨k0, k1, k2, k3, k4, cb⟩ := hSw
        go_simp
        try with_reducible rfl
      try simp only [zP, zN, zS, zT, zU]
      refine wpAnyH_take (i := 5) (oi := ?oi146) (v := ?vi146) ?h146 (by kernel_rfl) (by kernel_rfl) (by kernel_rfl) ?q146 (Or.inl ⟨?w146, ?y146⟩) hHeld ?r146
      case h146 => simp only [zA, zB, zC] <;> exact rfl
      case q146 => exact fun _ _ _ h => h
      case w146 => rfl
      case y146 =>
        intro w hSw
        (try dsimp only at hSw)
        obtain ⟨k0, k1, k2, k3, k4, cb⟩ := hSw
        go_simp
        try with_reducible rfl
      try simp only [zP, zN, zS, zT, zU]
      refine wpAnyH_ready (rs := [6]) (by kernel_rfl) (by simp) ?_
      refine AllReadyH.cons (o := ?ob147) ?hb147 (fun K hK => ?_) AllReadyH.nil
      case hb147 => simp only [zA, zB, zC] <;> exact rfl
      go_simp
      have hw10 := set5 H9.out.2.2.2.res (.int .i64 re) (.string (B rp)) (.string (B rd)) (.int .i64 rv) (.slice vao rn.length vcap)
      have hf10 := fp5 (S := Non) H9.out.1 (b := w.heap.size + 1) (.inr (by omega)) (.int .i64 re) (.string (B rp)) (.string (B rd)) (.int .i64 rv) (.slice vao rn.length vcap)
      have hk10 := fp5 (S := fun k => k = w.heap.size + 1) (Fp.refl _ wz) (b := w.heap.size + 1) (.inl rfl) (.int .i64 re) (.string (B rp)) (.string (B rd)) (.int .i64 rv) (.slice vao rn.length vcap)
      have hnb : (Value.slice vao rn.length vcap).ownBlock = some (w.heap.size + 1) → False := HNR.out
      have ho10 := own5 H9.out.2.1 (b := w.heap.size + 1) hnb (.int .i64 re) (.string (B rp)) (.string (B rd)) (.int .i64 rv) (.slice vao rn.length vcap)
      have hns : Ns (((((wz.setCell ⟨w.heap.size + 1, 0, none⟩ (.int .i64 re)).setCell ⟨w.heap.size + 1, 1, none⟩ (.string (B rp))).setCell ⟨w.heap.size + 1, 2, none⟩ (.string (B rd))).setCell ⟨w.heap.size + 1, 3, none⟩ (.int .i64 rv)).setCell ⟨w.heap.size + 1, 4, none⟩ (.slice vao rn.length vcap)) (.slice (some ⟨G', 0, none⟩) n' cap') l' := by
        have h1 := (H9.out.2.2.1.row.keep hk10 (fun e => HNR2.out.2 e)).ns
        rw [← HN9.out] at h1; exact h1
      have HS := Lib.hid (And.intro (hk10.cell HK9.out.1 (fun e => HNR2.out.1 e)) (And.intro (hk10.cell HK9.out.2.1 (fun e => HNR2.out.1 e)) (And.intro (hk10.cell HK9.out.2.2.1 (fun e => HNR2.out.1 e)) (And.intro (hk10.cell HK9.out.2.2.2.1 (fun e => HNR2.out.1 e)) (And.intro (hk10.cell HK9.out.2.2.2.2.1 (fun e => HNR2.out.1 e)) ((hk10.cell HK9.out.2.2.2.2.2 (fun e => HNB.out e))))))))
      have H10 := Lib.hid (And.intro hf10 (And.intro ho10 hns))
      have HW10 := Lib.hid hw10
      clear hw10 hf10 hk10 hnb ho10 hns r0 r1 r2 r3 r4 z0 z1 z2 z3 z4
      refine hK.out _ _ HS.out (fun hHeld => ?_)
      clear hK K HS hHeld
      try simp only [zP, zN, zS, zT, zU]
      refine wpAnyH_done (by kernel_rfl) ?_ _
      generalize (((((World.setCell wz _ _).setCell _ _).setCell _ _).setCell _ _).setCell _ _) = wy at *
      have s0 := cell_of_row _ (w.heap.size + 1) 0 _ _ _ HW10.out
      have s1 := cell_of_row _ (w.heap.size + 1) 1 _ _ _ HW10.out
      have s2 := cell_of_row _ (w.heap.size + 1) 2 _ _ _ HW10.out
      have s3 := cell_of_row _ (w.heap.size + 1) 3 _ _ _ HW10.out
      have s4 := cell_of_row _ (w.heap.size + 1) 4 _ _ _ HW10.out
      simp only [zA, zB, zC] at s0 s1 s2 s3 s4
      go_wp2
      exact bodyPost_ret (v := .tuple #[.slice (some ⟨G', 0, none⟩) n' cap', .agg #[.int .i64 re, .string (B rp), .string (B rd), .int .i64 rv, .slice vao rn.length vcap]]) (by simp [results, Tryz.results7, go_sem, s0, s1, s2, s3, s4]) rfl ⟨⟨_, _, rfl, H10.out.2.2, H10.out.2.1⟩, H10.out.1⟩
    · have q3 : (re == 0) = false := beq_eq_false_iff_ne.2 hre
      have q4 : (re = 0) = False := eq_false hre
      have q7 : (re != 0) = true := by rw [bne, q3]; rfl
      have HE := Lib.hid (HV.out.2.2.2 hre).1
      clear hre
      go_wp2_with fail
      refine wp_region_held_drew (S := (fun w' => w'.cell? ⟨q, 0, none⟩ = some (.int .i64 re) ∧ w'.cell? ⟨q, 1, none⟩ = some (.string (B rp)) ∧ w'.cell? ⟨q, 2, none⟩ = some (.string (B rd)) ∧ w'.cell? ⟨q, 3, none⟩ = some (.int .i64 rv) ∧ w'.cell? ⟨q, 4, none⟩ = some (.slice vao rn.length vcap))) (by kernel_rfl) ?_ (fun hHeld => ?_)
      · exact ⟨(Fp.refl Non w9).drew.cell k0 (fun h => h), (Fp.refl Non w9).drew.cell k1 (fun h => h), (Fp.refl Non w9).drew.cell k2 (fun h => h), (Fp.refl Non w9).drew.cell k3 (fun h => h), (Fp.refl Non w9).drew.cell k4 (fun h => h)⟩
      have HK9 := Lib.hid (And.intro ((Fp.refl Non w9).drew.cell k0 (fun h => h)) (And.intro ((Fp.refl Non w9).drew.cell k1 (fun h => h)) (And.intro ((Fp.refl Non w9).drew.cell k2 (fun h => h)) (And.intro ((Fp.refl Non w9).drew.cell k3 (fun h => h)) ((Fp.refl Non w9).drew.cell k4 (fun h => h))))))
      have hr9 := H8.out.2.2.1.non (Fp.refl Non w9).drew
      have H9 := Lib.hid (And.intro H8.out.2.1.drew (And.intro (H8.out.2.2.2.1.grown' (Fp.refl Non w9).drew) (And.intro (H8.out.2.2.2.2.non (Fp.refl Non w9).drew) hr9)))
      clear r0 r1 r2 r3 r4 z0 z1 z2 z3 z4
      obtain ⟨r0, r1, r2, r3, r4⟩ := (hr9).r
      have z0 := (hr9).fz 0; have z1 := (hr9).fz 1; have z2 := (hr9).fz 2; have z3 := (hr9).fz 3; have z4 := (hr9).fz 4
      clear hr9 H8 k0 k1 k2 k3 k4 cb
      generalize w9.drew = wz at *
      refine wpAnyH_take (i := 0) (oi := ?oi148) (v := ?vi148) ?h148 (by kernel_rfl) (by kernel_rfl) (by kernel_rfl) ?q148 (Or.inl ⟨?w148, ?y148⟩) hHeld ?r148
      case h148 => simp only [zA, zB] <;> exact rfl
      case q148 => exact fun _ _ _ h => h
      case w148 => rfl
      case y148 =>
        intro w hSw
        (try dsimp only at hSw)
        obtain ⟨k0, k1, k2, k3, k4⟩ := hSw
        go_simp
        try with_reducible rfl
      try simp only [zP, zN, zS, zT, zU]
      refine wpAnyH_take (i := 1) (oi := ?oi149) (v := ?vi149) ?h149 (by kernel_rfl) (by kernel_rfl) (by kernel_rfl) ?q149 (Or.inl ⟨?w149, ?y149⟩) hHeld ?r149
      case h149 => simp only [zA, zB, zC] <;> exact rfl
      case q149 => exact fun _ _ _ h => h
      case w149 => rfl
      case y149 =>
        intro w hSw
        (try dsimp only at hSw)
        obtain ⟨k0, k1, k2, k3, k4⟩ := hSw
        go_simp
        try with_reducible rfl
      try simp only [zP, zN, zS, zT, zU]
      refine wpAnyH_take (i := 2) (oi := ?oi150) (v := ?vi150) ?h150 (by kernel_rfl) (by kernel_rfl) (by kernel_rfl) ?q150 (Or.inl ⟨?w150, ?y150⟩) hHeld ?r150
      case h150 => simp only [zA, zB, zC] <;> exact rfl
      case q150 => exact fun _ _ _ h => h
      case w150 => rfl
      case y150 =>
        intro w hSw
        (try dsimp only at hSw)
        obtain ⟨k0, k1, k2, k3, k4⟩ := hSw
        go_simp
        try with_reducible rfl
      try simp only [zP, zN, zS, zT, zU]
      refine wpAnyH_ready (rs := [3]) (by kernel_rfl) (by simp) ?_
      refine AllReadyH.cons (o := ?ob151) ?hb151 (fun K hK => ?_) AllReadyH.nil
      case hb151 => simp only [zA, zB, zC] <;> exact rfl
      go_simp
      have hw10 := set5 H9.out.2.2.2.res (.int .i64 re) (.string (B rp)) (.string (B rd)) (.int .i64 rv) (.slice vao rn.length vcap)
      have hf10 := fp5 (S := Non) H9.out.1 (b := w.heap.size + 1) (.inr (by omega)) (.int .i64 re) (.string (B rp)) (.string (B rd)) (.int .i64 rv) (.slice vao rn.length vcap)
      have hk10 := fp5 (S := fun k => k = w.heap.size + 1) (Fp.refl _ wz) (b := w.heap.size + 1) (.inl rfl) (.int .i64 re) (.string (B rp)) (.string (B rd)) (.int .i64 rv) (.slice vao rn.length vcap)
      have hnb : (Value.slice vao rn.length vcap).ownBlock = some (w.heap.size + 1) → False := HNR.out
      have ho10 := own5 H9.out.2.1 (b := w.heap.size + 1) hnb (.int .i64 re) (.string (B rp)) (.string (B rd)) (.int .i64 rv) (.slice vao rn.length vcap)
      have hns : Ns (((((wz.setCell ⟨w.heap.size + 1, 0, none⟩ (.int .i64 re)).setCell ⟨w.heap.size + 1, 1, none⟩ (.string (B rp))).setCell ⟨w.heap.size + 1, 2, none⟩ (.string (B rd))).setCell ⟨w.heap.size + 1, 3, none⟩ (.int .i64 rv)).setCell ⟨w.heap.size + 1, 4, none⟩ (.slice vao rn.length vcap)) (.slice ao n cap) l' := by rw [HE.out]; exact HV.out.1.non hf10
      have HS := Lib.hid (And.intro (hk10.cell HK9.out.1 (fun e => HNR2.out.1 e)) (And.intro (hk10.cell HK9.out.2.1 (fun e => HNR2.out.1 e)) (And.intro (hk10.cell HK9.out.2.2.1 (fun e => HNR2.out.1 e)) (And.intro (hk10.cell HK9.out.2.2.2.1 (fun e => HNR2.out.1 e)) ((hk10.cell HK9.out.2.2.2.2 (fun e => HNR2.out.1 e)))))))
      have H10 := Lib.hid (And.intro hf10 (And.intro ho10 hns))
      have HW10 := Lib.hid hw10
      clear hw10 hf10 hk10 hnb ho10 hns r0 r1 r2 r3 r4 z0 z1 z2 z3 z4
      refine hK.out _ _ HS.out (fun hHeld => ?_)
      clear hK K HS hHeld
      try simp only [zP, zN, zS, zT, zU]
      refine wpAnyH_done (by kernel_rfl) ?_ _
      generalize (((((World.setCell wz _ _).setCell _ _).setCell _ _).setCell _ _).setCell _ _) = wy at *
      have s0 := cell_of_row _ (w.heap.size + 1) 0 _ _ _ HW10.out
      have s1 := cell_of_row _ (w.heap.size + 1) 1 _ _ _ HW10.out
      have s2 := cell_of_row _ (w.heap.size + 1) 2 _ _ _ HW10.out
      have s3 := cell_of_row _ (w.heap.size + 1) 3 _ _ _ HW10.out
      have s4 := cell_of_row _ (w.heap.size + 1) 4 _ _ _ HW10.out
      simp only [zA, zB, zC] at s0 s1 s2 s3 s4
      go_wp2
      exact bodyPost_ret (v := .tuple #[.slice ao n cap, .agg #[.int .i64 re, .string (B rp), .string (B rd), .int .i64 rv, .slice vao rn.length vcap]]) (by simp [results, Tryz.results7, go_sem, s0, s1, s2, s3, s4]) rfl ⟨⟨_, _, rfl, H10.out.2.2, H10.out.2.1⟩, H10.out.1⟩
end Go.Proofs.YthaepjeikicigaaGreatDoor
