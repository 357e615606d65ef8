/- Texts of this proof, merged. -/
import Derived.Test.YthaepjeikicigaaGreatDoorZK
/- What an operation on a node that is there does: existing. -/
namespace Go.Proofs.YthaepjeikicigaaGreatDoor
set_option linter.unusedSimpArgs false
set_option linter.unusedVariables false
set_option maxRecDepth 20000
set_option linter.unusedVariables false
set_option linter.unusedSimpArgs false
open Go.RowKit Pm
set_option maxHeartbeats 1000000 in
theorem existing_c (f : Fn) (w : World) :
    Calls Tryz.prog 37 #[.func f #[] #[]] w fun e w' => e = .returned (.func (.func 52) #[] #[.pointer (some ⟨w.heap.size, 0, none⟩)]) ∧ ∃ T, w' = w.alloc (.cells #[.func f #[] #[]] T) := by
  go_enter Tryz.func37, Tryz.ntmps37
  go_wp2
  go_ret
  exact ⟨rfl, _, rfl⟩
theorem MeR.back {lo b G : Nat} {l' : List Nd} {r : Res} {w w1 w2 : World} {e : Ending} (h : MeR lo b G l' r w1 e w2) (f : Fp Non w w1) : MeR lo b G l' r w e w2 := by
  obtain ⟨nv, G', cap', he, ho, ht, hg⟩ := h.ex
  refine ⟨⟨nv, G', cap', he, ho.low f.size, ht, ?_⟩, (f.any (S := ownT b G)).same h.fp⟩
  rcases hg with e | e
  · exact .inl e
  · exact .inr (Nat.le_trans f.size e)
/-- What an operation of a kind does to the node that is there. -/
def Does (lo b G cap : Nat) (l : List Nd) (o : Opn) (w : World) (fk : Nat) : Prop :=
  ∀ x w', find l o.path = some x → Fp Non w w' → Calls Tryz.prog fk #[.pointer (some ⟨b, 0, none⟩), .int .i64 (place l o.path : Nat), opV o] w' (MeR lo b G (doit l o x).1 (doit l o x).2 w')
set_option maxHeartbeats 8000000 in
theorem existing_2 {lo b G cap : Nat} {l : List Nd} {w : World} (h : Tn lo b G cap l w) (hs : Sp l) (hl : l.length ≤ 512) (hlo : lo ≤ w.heap.size) (ha : Asc l) (p d : Bs) (v ow : Int) (t : Bool) (g : Nat) (fk : Nat) (hg : w.cell? ⟨g, 0, none⟩ = some (.func (.func fk) #[] #[])) (hen : Enters Tryz.prog fk)
    (hdo : Does lo b G cap l ⟨2, p, d, v, ow, t⟩ w fk) :
    Calls Tryz.prog 52 #[.pointer (some ⟨b, 0, none⟩), opV ⟨2, p, d, v, ow, t⟩, .pointer (some ⟨g, 0, none⟩)] w (MeR lo b G (perform l ⟨2, p, d, v, ow, t⟩).1 (perform l ⟨2, p, d, v, ow, t⟩).2 w) := by
  have hcr : perform l ⟨2, p, d, v, ow, t⟩ = (match find l p with
      | none => (l, .bad 62)
      | some x => if True ∧ v ≠ -1 ∧ v ≠ x.ver then (l, .bad 63) else doit l ⟨2, p, d, v, ow, t⟩ x) := by
    unfold perform; simp [versioned]
    try (cases find l p <;> rfl)
  obtain ⟨cr, hcr2⟩ : ∃ cr, perform l ⟨2, p, d, v, ow, t⟩ = cr := ⟨_, rfl⟩
  rw [hcr2] at hcr ⊢
  obtain ⟨l', r'⟩ := cr
  simp only
  unfold opV strV
  have hbx := Bx.made w 2 p d v ow t
  have hf0 : Fp Non w ((w.alloc (.cells #[.int .i64 2, .string (B p), .string (B d), .int .i64 v, .int .i64 ow, .bool t] TO_)).alloc (.cells #[.int .i64 0, .string ⟨#[]⟩, .string ⟨#[]⟩, .int .i64 0, .slice none 0 0] TR)) := ((Fp.refl Non w).alloc _).alloc _
  have op1 : (((w.alloc (.cells #[.int .i64 2, .string (B p), .string (B d), .int .i64 v, .int .i64 ow, .bool t] TO_)).alloc (.cells #[.int .i64 0, .string ⟨#[]⟩, .string ⟨#[]⟩, .int .i64 0, .slice none 0 0] TR))).cell? ⟨w.heap.size, 1, none⟩ = some (.string (B p)) := by rw [cell_of_row _ _ _ _ _ _ hbx.op]; rfl
  have hpc := place_c (h.non hf0) p ha (by omega)
  have HPC := Lib.hid hpc
  obtain ⟨n, hn⟩ : ∃ n, n = l.length := ⟨_, rfl⟩
  have HX := Lib.hid (And.intro h (And.intro hbx (And.intro hf0 (And.intro hn (And.intro hs (And.intro hl hlo))))))
  have HA := Lib.hid (And.intro ha (And.intro hg (And.intro hdo hcr)))
  clear hpc h hbx hf0 hn hs hl hlo ha hg hdo hcr hcr2
  go_enter Tryz.func52, Tryz.ntmps52
  generalize hW0 : ((w.alloc (.cells #[.int .i64 2, .string (B p), .string (B d), .int .i64 v, .int .i64 ow, .bool t] TO_)).alloc (.cells #[.int .i64 0, .string ⟨#[]⟩, .string ⟨#[]⟩, .int .i64 0, .slice none 0 0] TR)) = W0 at *
  go_wp2_with fail
  clear hW0
  refine HPC.out.mono ?_
  rintro e w2 ⟨rfl, hf2⟩
  have F2 := Lib.hid (And.intro (HX.out.2.2.1.then hf2) hf2)
  clear hf2 HPC op1
  cases hfu : find l p with
  | none =>
    have hcr := HA.out.2.2.2
    rw [hfu] at hcr
    have HC := Lib.hid (show l' = l ∧ r' = .bad 62 from by injection hcr with a b; exact ⟨a, b⟩)
    clear hcr hfu
    have hb2 := HX.out.2.1.non F2.out.2
    obtain ⟨r0, r1, r2, r3, r4⟩ := (hb2).r
    have z0 := (hb2).fz 0; have z1 := (hb2).fz 1; have z2 := (hb2).fz 2; have z3 := (hb2).fz 3; have z4 := (hb2).fz 4
    clear hb2
    go_wp2_with fail
    refine (refused_c 62 _).mono ?_
    rintro e w2 ⟨rfl, hf2⟩
    have hb2 := HX.out.2.1.non (F2.out.2.then hf2)
    have hfw := F2.out.1.then hf2
    clear r0 r1 r2 r3 r4 z0 z1 z2 z3 z4
    obtain ⟨r0, r1, r2, r3, r4⟩ := (hb2).r
    have z0 := (hb2).fz 0; have z1 := (hb2).fz 1; have z2 := (hb2).fz 2; have z3 := (hb2).fz 3; have z4 := (hb2).fz 4
    have HE := Lib.hid (And.intro hb2.res hfw)
    unfold badV
    clear hf2 hb2 hfw
    generalize w2 = W2 at *
    go_wp2
    have hw9 := set5 HE.out.1 (.int .i64 62) (.string ⟨#[]⟩) (.string ⟨#[]⟩) (.int .i64 0) (.slice none 0 0)
    have hf9 := fp5 (S := Non) HE.out.2 (b := w.heap.size + 1) (.inr (by omega)) (.int .i64 62) (.string ⟨#[]⟩) (.string ⟨#[]⟩) (.int .i64 0) (.slice none 0 0)
    generalize (((((World.setCell W2 _ _).setCell _ _).setCell _ _).setCell _ _).setCell _ _) = w9 at *
    have s0 := cell_of_row _ (w.heap.size + 1) 0 _ _ _ hw9
    have s1 := cell_of_row _ (w.heap.size + 1) 1 _ _ _ hw9
    have s2 := cell_of_row _ (w.heap.size + 1) 2 _ _ _ hw9
    have s3 := cell_of_row _ (w.heap.size + 1) 3 _ _ _ hw9
    have s4 := cell_of_row _ (w.heap.size + 1) 4 _ _ _ hw9
    simp only [zA, zB, zC] at s0 s1 s2 s3 s4
    exact bodyPost_ret (v := .agg #[.int .i64 62, .string ⟨#[]⟩, .string ⟨#[]⟩, .int .i64 0, .slice none 0 0]) (by simp [results, Tryz.results52, go_sem, s0, s1, s2, s3, s4]) rfl (by rw [HC.out.1, HC.out.2]; exact MeR.still HX.out.1 (r := .bad 62) (nv := .slice none 0 0) hf9 (Own.nil _ _))
  | some x =>
    obtain ⟨hat, hx⟩ := find_at HA.out.1 hfu
    have hT2 := HX.out.1.non F2.out.1
    have hnd := hT2.row.nd (place l p) hat
    rw [hx] at hnd
    have hcr := HA.out.2.2.2
    rw [hfu] at hcr
    simp only at hcr
    have HDO := Lib.hid (fun w' f => HA.out.2.2.1 x w' hfu f)
    obtain ⟨at_, hatE⟩ : ∃ at_, place l p = at_ := ⟨_, rfl⟩
    simp only [hatE] at hnd HDO ⊢
    rw [hatE] at hat
    have cb := hT2.c0
    rw [← HX.out.2.2.2.1] at cb
    have q1 : (at_ < n) = True := eq_true (by rw [HX.out.2.2.2.1]; exact hat)
    have q2 : ((at_ : Int) < (n : Int)) = True := eq_true (by rw [HX.out.2.2.2.1]; omega)
    have hbW := F2.out.2.heap HX.out.2.1.op (fun h => h)
    obtain ⟨o0, o1, o2, o3, o4, o5⟩ := box6 hbW
    have c2 := hnd.c2
    simp only [Nat.zero_add] at c2
    obtain ⟨xp, xd, xv, xt, xo⟩ := x
    simp only at c2 hcr
    have HHC := Lib.hid hcr
    have fat := fields_at2
    have fbt : bits BinOp.and IntKind.i64 5 4 = 4 := by kernel_rfl
    clear hT2 hnd hcr hat hfu hx hatE hbW o1 o2 o4 o5
    by_cases hv1 : v = -1
    · have q3 : (v == -1) = true := beq_iff_eq.2 hv1
      have q4 : (v = -1) = True := eq_true hv1
      have q7 : (v != -1) = false := by rw [bne, q3]; rfl
      have HC : Hid ((l', r') = doit l ⟨2, p, d, v, ow, t⟩ ⟨xp, xd, xv, xt, xo⟩) := by have hcr := HHC.out; rw [if_neg (fun k => k.2.1 hv1)] at hcr; exact hcr
      clear HHC hv1
      go_wp2_with fail
      refine wp_region_held_drew (S := (fun w' => w'.cell? ⟨w.heap.size, 0, none⟩ = some (.int .i64 2) ∧ w'.cell? ⟨w.heap.size, 3, none⟩ = some (.int .i64 v) ∧ w'.cell? ⟨b, 0, none⟩ = some (.slice (some ⟨G, 0, none⟩) n cap) ∧ w'.cell? ⟨G, at_ * 5 + 2, none⟩ = some (.int .i64 xv))) (by kernel_rfl) ?_ (fun hHeld => ?_)
      · exact ⟨(Fp.refl Non _).drew.cell o0 (fun h => h), (Fp.refl Non _).drew.cell o3 (fun h => h), (Fp.refl Non _).drew.cell cb (fun h => h), (Fp.refl Non _).drew.cell c2 (fun h => h)⟩
      have HSD := Lib.hid (fun w9 (hf : Fp Non w2.drew w9) => And.intro (hf.cell ((Fp.refl Non w2).drew.cell o0 (fun h => h)) (fun h => h)) (And.intro (hf.cell ((Fp.refl Non w2).drew.cell o3 (fun h => h)) (fun h => h)) (And.intro (hf.cell ((Fp.refl Non w2).drew.cell cb (fun h => h)) (fun h => h)) (hf.cell ((Fp.refl Non w2).drew.cell c2 (fun h => h)) (fun h => h)))))
      have F3 := Lib.hid (And.intro F2.out.1.drew F2.out.2.drew)
      clear o0 o3 cb c2
      generalize w2.drew = w3 at *
      refine wpAnyH_take (i := 1) (oi := ?oi109) (v := ?vi109) ?h109 (by kernel_rfl) (by kernel_rfl) (by kernel_rfl) ?q109 (Or.inl ⟨?w109, ?y109⟩) hHeld ?r109
      case h109 => simp only [zA, zB, zC] <;> exact rfl
      case q109 => exact fun _ _ _ h => h
      case w109 => rfl
      case y109 =>
        intro w hSw
        (try dsimp only at hSw)
        obtain ⟨o0, o3, cb, c2⟩ := hSw
        go_simp
        try with_reducible rfl
      try simp only [zP, zN, zS, zT, zU]
      refine wpAnyH_take (i := 2) (oi := ?oi110) (v := ?vi110) ?h110 (by kernel_rfl) (by kernel_rfl) (by kernel_rfl) ?q110 (Or.inl ⟨?w110, ?y110⟩) hHeld ?r110
      case h110 => simp only [zA, zB, zC] <;> exact rfl
      case q110 => exact fun _ _ _ h => h
      case w110 => rfl
      case y110 =>
        intro w hSw
        (try dsimp only at hSw)
        obtain ⟨o0, o3, cb, c2⟩ := hSw
        go_simp
        try with_reducible rfl
      try simp only [zP, zN, zS, zT, zU]
      refine wpAnyH_ready (rs := [0]) (by kernel_rfl) (by simp) ?_
      refine AllReadyH.cons (o := ?ob111) ?hb111 (fun K hK => ?_) AllReadyH.nil
      case hb111 => simp only [zA, zB, zC] <;> exact rfl
      go_simp
      go_at_call 32
      refine (fields_c _).mono ?_
      rintro e w4 ⟨rfl, hf4⟩
      have HS4 := Lib.hid (HSD.out w4 hf4)
      have F4 := Lib.hid (And.intro (F3.out.1.then hf4) (F3.out.2.then hf4))
      clear hf4 HSD F3
      go_wp2_with fail
      refine hK.out _ _ HS4.out (fun hHeld => ?_)
      clear hK K
      try simp only [zP, zN, zS, zT, zU]
      refine wpAnyH_take (i := 3) (oi := ?oi112) (v := ?vi112) ?h112 (by kernel_rfl) (by kernel_rfl) (by kernel_rfl) ?q112 (Or.inl ⟨?w112, ?y112⟩) hHeld ?r112
      case h112 => simp only [zA, zB, zC] <;> exact rfl
      case q112 => exact fun _ _ _ h => h
      case w112 => rfl
      case y112 =>
        intro w hSw
        (try dsimp only at hSw)
        obtain ⟨o0, o3, cb, c2⟩ := hSw
        go_simp
        try with_reducible rfl
      try simp only [zP, zN, zS, zT, zU]
      refine wpAnyH_take (i := 4) (oi := ?oi113) (v := ?vi113) ?h113 (by kernel_rfl) (by kernel_rfl) (by kernel_rfl) ?q113 (Or.inl ⟨?w113, ?y113⟩) hHeld ?r113
      case h113 => simp only [zA, zB, zC] <;> exact rfl
      case q113 => exact fun _ _ _ h => h
      case w113 => rfl
      case y113 =>
        intro w hSw
        (try dsimp only at hSw)
        obtain ⟨o0, o3, cb, c2⟩ := hSw
        go_simp
        try with_reducible rfl
      try simp only [zP, zN, zS, zT, zU]
      refine wpAnyH_take (i := 5) (oi := ?oi114) (v := ?vi114) ?h114 (by kernel_rfl) (by kernel_rfl) (by kernel_rfl) ?q114 (Or.inl ⟨?w114, ?y114⟩) hHeld ?r114
      case h114 => simp only [zA, zB, zC] <;> exact rfl
      case q114 => exact fun _ _ _ h => h
      case w114 => rfl
      case y114 =>
        intro w hSw
        (try dsimp only at hSw)
        obtain ⟨o0, o3, cb, c2⟩ := hSw
        go_simp
        try with_reducible rfl
      try simp only [zP, zN, zS, zT, zU]
      refine wpAnyH_take (i := 6) (oi := ?oi115) (v := ?vi115) ?h115 (by kernel_rfl) (by kernel_rfl) (by kernel_rfl) ?q115 (Or.inl ⟨?w115, ?y115⟩) hHeld ?r115
      case h115 => simp only [zA, zB, zC] <;> exact rfl
      case q115 => exact fun _ _ _ h => h
      case w115 => rfl
      case y115 =>
        intro w hSw
        (try dsimp only at hSw)
        obtain ⟨o0, o3, cb, c2⟩ := hSw
        go_simp
        try with_reducible rfl
      try simp only [zP, zN, zS, zT, zU]
      refine wpAnyH_take (i := 7) (oi := ?oi116) (v := ?vi116) ?h116 (by kernel_rfl) (by kernel_rfl) (by kernel_rfl) ?q116 (Or.inl ⟨?w116, ?y116⟩) hHeld ?r116
      case h116 => simp only [zA, zB, zC] <;> exact rfl
      case q116 => exact fun _ _ _ h => h
      case w116 => rfl
      case y116 =>
        intro w hSw
        (try dsimp only at hSw)
        obtain ⟨o0, o3, cb, c2⟩ := hSw
        go_simp
        try with_reducible rfl
      try simp only [zP, zN, zS, zT, zU]
      refine wpAnyH_take (i := 8) (oi := ?oi117) (v := ?vi117) ?h117 (by kernel_rfl) (by kernel_rfl) (by kernel_rfl) ?q117 (Or.inl ⟨?w117, ?y117⟩) hHeld ?r117
      case h117 => simp only [zA, zB, zC] <;> exact rfl
      case q117 => exact fun _ _ _ h => h
      case w117 => rfl
      case y117 =>
        intro w hSw
        (try dsimp only at hSw)
        obtain ⟨o0, o3, cb, c2⟩ := hSw
        go_simp
        try with_reducible rfl
      try simp only [zP, zN, zS, zT, zU]
      refine wpAnyH_take (i := 9) (oi := ?oi118) (v := ?vi118) ?h118 (by kernel_rfl) (by kernel_rfl) (by kernel_rfl) ?q118 (Or.inl ⟨?w118, ?y118⟩) hHeld ?r118
      case h118 => simp only [zA, zB, zC] <;> exact rfl
      case q118 => exact fun _ _ _ h => h
      case w118 => rfl
      case y118 =>
        intro w hSw
        (try dsimp only at hSw)
        obtain ⟨o0, o3, cb, c2⟩ := hSw
        go_simp
        try with_reducible rfl
      try simp only [zP, zN, zS, zT, zU]
      refine wpAnyH_take (i := 10) (oi := ?oi119) (v := ?vi119) ?h119 (by kernel_rfl) (by kernel_rfl) (by kernel_rfl) ?q119 (Or.inl ⟨?w119, ?y119⟩) hHeld ?r119
      case h119 => simp only [zA, zB, zC] <;> exact rfl
      case q119 => exact fun _ _ _ h => h
      case w119 => rfl
      case y119 =>
        intro w hSw
        (try dsimp only at hSw)
        obtain ⟨o0, o3, cb, c2⟩ := hSw
        go_simp
        try with_reducible rfl
      try simp only [zP, zN, zS, zT, zU]
      refine wpAnyH_take (i := 11) (oi := ?oi120) (v := ?vi120) ?h120 (by kernel_rfl) (by kernel_rfl) (by kernel_rfl) ?q120 (Or.inl ⟨?w120, ?y120⟩) hHeld ?r120
      case h120 => simp only [zA, zB, zC] <;> exact rfl
      case q120 => exact fun _ _ _ h => h
      case w120 => rfl
      case y120 =>
        intro w hSw
        (try dsimp only at hSw)
        obtain ⟨o0, o3, cb, c2⟩ := hSw
        go_simp
        try with_reducible rfl
      try simp only [zP, zN, zS, zT, zU]
      refine wpAnyH_take (i := 12) (oi := ?oi121) (v := undef) ?h121 (by kernel_rfl) (by kernel_rfl) (by kernel_rfl) ?q121 (Or.inr ⟨?w121, rfl⟩) hHeld ?r121
      case h121 => simp only [zA, zB, zC] <;> exact rfl
      case q121 => exact fun _ _ _ h => h
      case w121 => rfl
      try simp only [zP, zN, zS, zT, zU]
      refine wpAnyH_take (i := 13) (oi := ?oi122) (v := undef) ?h122 (by kernel_rfl) (by kernel_rfl) (by kernel_rfl) ?q122 (Or.inr ⟨?w122, rfl⟩) hHeld ?r122
      case h122 => simp only [zA, zB, zC] <;> exact rfl
      case q122 => exact fun _ _ _ h => h
      case w122 => rfl
      try simp only [zP, zN, zS, zT, zU]
      refine wpAnyH_take (i := 14) (oi := ?oi123) (v := undef) ?h123 (by kernel_rfl) (by kernel_rfl) (by kernel_rfl) ?q123 (Or.inr ⟨?w123, rfl⟩) hHeld ?r123
      case h123 => simp only [zA, zB, zC] <;> exact rfl
      case q123 => exact fun _ _ _ h => h
      case w123 => rfl
      try simp only [zP, zN, zS, zT, zU]
      refine wpAnyH_take (i := 15) (oi := ?oi124) (v := undef) ?h124 (by kernel_rfl) (by kernel_rfl) (by kernel_rfl) ?q124 (Or.inr ⟨?w124, rfl⟩) hHeld ?r124
      case h124 => simp only [zA, zB, zC] <;> exact rfl
      case q124 => exact fun _ _ _ h => h
      case w124 => rfl
      try simp only [zP, zN, zS, zT, zU]
      refine wpAnyH_take (i := 16) (oi := ?oi125) (v := undef) ?h125 (by kernel_rfl) (by kernel_rfl) (by kernel_rfl) ?q125 (Or.inr ⟨?w125, rfl⟩) hHeld ?r125
      case h125 => simp only [zA, zB, zC] <;> exact rfl
      case q125 => exact fun _ _ _ h => h
      case w125 => rfl
      try simp only [zP, zN, zS, zT, zU]
      refine wpAnyH_take (i := 17) (oi := ?oi126) (v := undef) ?h126 (by kernel_rfl) (by kernel_rfl) (by kernel_rfl) ?q126 (Or.inr ⟨?w126, rfl⟩) hHeld ?r126
      case h126 => simp only [zA, zB, zC] <;> exact rfl
      case q126 => exact fun _ _ _ h => h
      case w126 => rfl
      try simp only [zP, zN, zS, zT, zU]
      refine wpAnyH_take (i := 18) (oi := ?oi127) (v := undef) ?h127 (by kernel_rfl) (by kernel_rfl) (by kernel_rfl) ?q127 (Or.inr ⟨?w127, rfl⟩) hHeld ?r127
      case h127 => simp only [zA, zB, zC] <;> exact rfl
      case q127 => exact fun _ _ _ h => h
      case w127 => rfl
      try simp only [zP, zN, zS, zT, zU]
      refine wpAnyH_take (i := 19) (oi := ?oi128) (v := undef) ?h128 (by kernel_rfl) (by kernel_rfl) (by kernel_rfl) ?q128 (Or.inr ⟨?w128, rfl⟩) hHeld ?r128
      case h128 => simp only [zA, zB, zC] <;> exact rfl
      case q128 => exact fun _ _ _ h => h
      case w128 => rfl
      try simp only [zP, zN, zS, zT, zU]
      refine wpAnyH_take (i := 20) (oi := ?oi129) (v := undef) ?h129 (by kernel_rfl) (by kernel_rfl) (by kernel_rfl) ?q129 (Or.inr ⟨?w129, rfl⟩) hHeld ?r129
      case h129 => simp only [zA, zB, zC] <;> exact rfl
      case q129 => exact fun _ _ _ h => h
      case w129 => rfl
      try simp only [zP, zN, zS, zT, zU]
      refine wpAnyH_take (i := 21) (oi := ?oi130) (v := undef) ?h130 (by kernel_rfl) (by kernel_rfl) (by kernel_rfl) ?q130 (Or.inr ⟨?w130, rfl⟩) hHeld ?r130
      case h130 => simp only [zA, zB, zC] <;> exact rfl
      case q130 => exact fun _ _ _ h => h
      case w130 => rfl
      try simp only [zP, zN, zS, zT, zU]
      refine wpAnyH_take (i := 22) (oi := ?oi131) (v := undef) ?h131 (by kernel_rfl) (by kernel_rfl) (by kernel_rfl) ?q131 (Or.inr ⟨?w131, rfl⟩) hHeld ?r131
      case h131 => simp only [zA, zB, zC] <;> exact rfl
      case q131 => exact fun _ _ _ h => h
      case w131 => rfl
      try simp only [zP, zN, zS, zT, zU]
      refine wpAnyH_take (i := 23) (oi := ?oi132) (v := ?vi132) ?h132 (by kernel_rfl) (by kernel_rfl) (by kernel_rfl) ?q132 (Or.inl ⟨?w132, ?y132⟩) hHeld ?r132
      case h132 => simp only [zA, zB, zC] <;> exact rfl
      case q132 => exact fun _ _ _ h => h
      case w132 => rfl
      case y132 =>
        intro w hSw
        (try dsimp only at hSw)
        obtain ⟨o0, o3, cb, c2⟩ := hSw
        go_simp
        try with_reducible rfl
      try simp only [zP, zN, zS, zT, zU]
      refine wpAnyH_done (by kernel_rfl) ?_ _
      clear hHeld
      have gc := F4.out.1.cell HA.out.2.1 (fun h => h)
      obtain ⟨o0, o1, o2, o3, o4, o5⟩ := box6 (F4.out.2.heap HX.out.2.1.op (fun h => h))
      obtain ⟨re, rp, rd, rv, rn⟩ := r'
      have hdo := HDO.out _ F4.out.1
      rw [← HC.out] at hdo
      have HDC := Lib.hid hdo
      clear hdo HDO HC HS4 F2
      go_wp2_with fail
      rw [hen _ _]
      go_wp2_with fail
      refine HDC.out.mono ?_
      intro e w5 hM
      obtain ⟨nv, G', cap', rfl, ho, ht, hg⟩ := hM.ex
      have hfw := hM.fp
      have hnG : ∀ k, ownT b G k → k < w.heap.size := fun k hk => by
        rcases hk with hk | hk
        · rw [hk]; exact HX.out.1.lt
        · rw [hk]; exact HX.out.1.row.lt
      have hb5 := (HX.out.2.1.non F4.out.2).keep hfw (fun k hk => .inl (hnG k hk))
      have h4s : w.heap.size + 2 ≤ w4.heap.size := Nat.le_trans HX.out.2.1.sz F4.out.2.size
      have hf5 : Fp (ownT b G) w w5 := (F4.out.1.any (S := ownT b G)).same hfw
      have hnv := fun k e => (ho.1.lt k e).1
      have HNV := Lib.hid (show nv.ownBlock = some (w.heap.size + 1) → False from fun e => by have := hnv _ e; omega)
      have HGN := Lib.hid (And.intro (show b ≠ w.heap.size + 1 by have := hnG b (.inl rfl); omega) (show G' ≠ w.heap.size + 1 by
        rcases hg with e | e
        · have := hnG G (.inr rfl); omega
        · have : w4.heap.size ≤ G' := e; omega))
      have HG2 := Lib.hid (show G' = G ∨ w.heap.size ≤ G' by
        rcases hg with e | e
        · exact .inl e
        · exact .inr (by have : w4.heap.size ≤ G' := e; omega))
      have ho2 : Own w.heap.size w5 nv rn := ho.low F4.out.1.size
      obtain ⟨vao, vcap, hvs⟩ := ho2.shape
      have HE := Lib.hid (And.intro hb5.res (And.intro hf5 (And.intro ht ho2)))
      unfold strV
      obtain ⟨r0, r1, r2, r3, r4⟩ := (hb5).r
      have z0 := (hb5).fz 0; have z1 := (hb5).fz 1; have z2 := (hb5).fz 2; have z3 := (hb5).fz 3; have z4 := (hb5).fz 4
      clear hM hfw hnG hb5 h4s hf5 hnv hg ho ht ho2 HDC gc o0 o1 o2 o3 o4 o5
      subst hvs
      generalize w5 = W5 at *
      go_wp2
      have hT9 := HE.out.2.2.1.keep (fp5 (S := fun k => k = w.heap.size + 1) (Fp.refl _ W5) (b := w.heap.size + 1) (.inl rfl) (.int .i64 re) (.string (B rp)) (.string (B rd)) (.int .i64 rv) (.slice vao rn.length vcap)) (fun e => HGN.out.1 e) (fun e => HGN.out.2 e)
      have HO9 := own5 HE.out.2.2.2 (b := w.heap.size + 1) (fun e => HNV.out e) (.int .i64 re) (.string (B rp)) (.string (B rd)) (.int .i64 rv) (.slice vao rn.length vcap)
      have hw9 := set5 HE.out.1 (.int .i64 re) (.string (B rp)) (.string (B rd)) (.int .i64 rv) (.slice vao rn.length vcap)
      have hf9 := fp5 (S := ownT b G) HE.out.2.1 (b := w.heap.size + 1) (.inr (by omega)) (.int .i64 re) (.string (B rp)) (.string (B rd)) (.int .i64 rv) (.slice vao rn.length vcap)
      generalize (((((World.setCell W5 _ _).setCell _ _).setCell _ _).setCell _ _).setCell _ _) = w9 at *
      have s0 := cell_of_row _ (w.heap.size + 1) 0 _ _ _ hw9
      have s1 := cell_of_row _ (w.heap.size + 1) 1 _ _ _ hw9
      have s2 := cell_of_row _ (w.heap.size + 1) 2 _ _ _ hw9
      have s3 := cell_of_row _ (w.heap.size + 1) 3 _ _ _ hw9
      have s4 := cell_of_row _ (w.heap.size + 1) 4 _ _ _ hw9
      simp only [zA, zB, zC] at s0 s1 s2 s3 s4
      exact bodyPost_ret (v := .agg #[.int .i64 re, .string (B rp), .string (B rd), .int .i64 rv, .slice vao rn.length vcap]) (by simp [results, Tryz.results52, go_sem, s0, s1, s2, s3, s4]) rfl (MeR.of (r := ⟨re, rp, rd, rv, rn⟩) (nv := .slice vao rn.length vcap) hT9 HG2.out hf9 HO9)
    · have q3 : (v == -1) = false := beq_eq_false_iff_ne.2 hv1
      have q4 : (v = -1) = False := eq_false hv1
      have q7 : (v != -1) = true := by rw [bne, q3]; rfl
      by_cases hv2 : v = xv
      · have q5 : (v == xv) = true := beq_iff_eq.2 hv2
        have q6 : (v = xv) = True := eq_true hv2
        have q8 : (v != xv) = false := by rw [bne, q5]; rfl
        have HC : Hid ((l', r') = doit l ⟨2, p, d, v, ow, t⟩ ⟨xp, xd, xv, xt, xo⟩) := by have hcr := HHC.out; rw [if_neg (fun k => k.2.2 hv2)] at hcr; exact hcr
        clear HHC hv1 hv2
        go_wp2_with fail
        refine wp_region_held_drew (S := (fun w' => w'.cell? ⟨w.heap.size, 0, none⟩ = some (.int .i64 2) ∧ w'.cell? ⟨w.heap.size, 3, none⟩ = some (.int .i64 v) ∧ w'.cell? ⟨b, 0, none⟩ = some (.slice (some ⟨G, 0, none⟩) n cap) ∧ w'.cell? ⟨G, at_ * 5 + 2, none⟩ = some (.int .i64 xv))) (by kernel_rfl) ?_ (fun hHeld => ?_)
        · exact ⟨(Fp.refl Non _).drew.cell o0 (fun h => h), (Fp.refl Non _).drew.cell o3 (fun h => h), (Fp.refl Non _).drew.cell cb (fun h => h), (Fp.refl Non _).drew.cell c2 (fun h => h)⟩
        have HSD := Lib.hid (fun w9 (hf : Fp Non w2.drew w9) => And.intro (hf.cell ((Fp.refl Non w2).drew.cell o0 (fun h => h)) (fun h => h)) (And.intro (hf.cell ((Fp.refl Non w2).drew.cell o3 (fun h => h)) (fun h => h)) (And.intro (hf.cell ((Fp.refl Non w2).drew.cell cb (fun h => h)) (fun h => h)) (hf.cell ((Fp.refl Non w2).drew.cell c2 (fun h => h)) (fun h => h)))))
        have F3 := Lib.hid (And.intro F2.out.1.drew F2.out.2.drew)
        clear o0 o3 cb c2
        generalize w2.drew = w3 at *
        refine wpAnyH_take (i := 1) (oi := ?oi133) (v := ?vi133) ?h133 (by kernel_rfl) (by kernel_rfl) (by kernel_rfl) ?q133 (Or.inl ⟨?w133, ?y133⟩) hHeld ?r133
        case h133 => simp only [zA, zB, zC] <;> exact rfl
        case q133 => exact fun _ _ _ h => h
        case w133 => rfl
        case y133 =>
          intro w hSw
          (try dsimp only at hSw)
          obtain ⟨o0, o3, cb, c2⟩ := hSw
          go_simp
          try with_reducible rfl
        try simp only [zP, zN, zS, zT, zU]
        refine wpAnyH_take (i := 2) (oi := ?oi134) (v := ?vi134) ?h134 (by kernel_rfl) (by kernel_rfl) (by kernel_rfl) ?q134 (Or.inl ⟨?w134, ?y134⟩) hHeld ?r134
        case h134 => simp only [zA, zB, zC] <;> exact rfl
        case q134 => exact fun _ _ _ h => h
        case w134 => rfl
        case y134 =>
          intro w hSw
          (try dsimp only at hSw)
          obtain ⟨o0, o3, cb, c2⟩ := hSw
          go_simp
          try with_reducible rfl
        try simp only [zP, zN, zS, zT, zU]
        refine wpAnyH_ready (rs := [0]) (by kernel_rfl) (by simp) ?_
        refine AllReadyH.cons (o := ?ob135) ?hb135 (fun K hK => ?_) AllReadyH.nil
        case hb135 => simp only [zA, zB, zC] <;> exact rfl
        go_simp
        go_at_call 32
        refine (fields_c _).mono ?_
        rintro e w4 ⟨rfl, hf4⟩
        have HS4 := Lib.hid (HSD.out w4 hf4)
        have F4 := Lib.hid (And.intro (F3.out.1.then hf4) (F3.out.2.then hf4))
        clear hf4 HSD F3
        go_wp2_with fail
        refine hK.out _ _ HS4.out (fun hHeld => ?_)
        clear hK K
        try simp only [zP, zN, zS, zT, zU]
        refine wpAnyH_take (i := 3) (oi := ?oi136) (v := ?vi136) ?h136 (by kernel_rfl) (by kernel_rfl) (by kernel_rfl) ?q136 (Or.inl ⟨?w136, ?y136⟩) hHeld ?r136
        case h136 => simp only [zA, zB, zC] <;> exact rfl
        case q136 => exact fun _ _ _ h => h
        case w136 => rfl
        case y136 =>
          intro w hSw
          (try dsimp only at hSw)
          obtain ⟨o0, o3, cb, c2⟩ := hSw
          go_simp
          try with_reducible rfl
        try simp only [zP, zN, zS, zT, zU]
        refine wpAnyH_take (i := 4) (oi := ?oi137) (v := ?vi137) ?h137 (by kernel_rfl) (by kernel_rfl) (by kernel_rfl) ?q137 (Or.inl ⟨?w137, ?y137⟩) hHeld ?r137
        case h137 => simp only [zA, zB, zC] <;> exact rfl
        case q137 => exact fun _ _ _ h => h
        case w137 => rfl
        case y137 =>
          intro w hSw
          (try dsimp only at hSw)
          obtain ⟨o0, o3, cb, c2⟩ := hSw
          go_simp
          try with_reducible rfl
        try simp only [zP, zN, zS, zT, zU]
        refine wpAnyH_take (i := 5) (oi := ?oi138) (v := ?vi138) ?h138 (by kernel_rfl) (by kernel_rfl) (by kernel_rfl) ?q138 (Or.inl ⟨?w138, ?y138⟩) hHeld ?r138
        case h138 => simp only [zA, zB, zC] <;> exact rfl
        case q138 => exact fun _ _ _ h => h
        case w138 => rfl
        case y138 =>
          intro w hSw
          (try dsimp only at hSw)
          obtain ⟨o0, o3, cb, c2⟩ := hSw
          go_simp
          try with_reducible rfl
        try simp only [zP, zN, zS, zT, zU]
        refine wpAnyH_take (i := 6) (oi := ?oi139) (v := ?vi139) ?h139 (by kernel_rfl) (by kernel_rfl) (by kernel_rfl) ?q139 (Or.inl ⟨?w139, ?y139⟩) hHeld ?r139
        case h139 => simp only [zA, zB, zC] <;> exact rfl
        case q139 => exact fun _ _ _ h => h
        case w139 => rfl
        case y139 =>
          intro w hSw
          (try dsimp only at hSw)
          obtain ⟨o0, o3, cb, c2⟩ := hSw
          go_simp
          try with_reducible rfl
        try simp only [zP, zN, zS, zT, zU]
        refine wpAnyH_take (i := 7) (oi := ?oi140) (v := ?vi140) ?h140 (by kernel_rfl) (by kernel_rfl) (by kernel_rfl) ?q140 (Or.inl ⟨?w140, ?y140⟩) hHeld ?r140
        case h140 => simp only [zA, zB, zC] <;> exact rfl
        case q140 => exact fun _ _ _ h => h
        case w140 => rfl
        case y140 =>
          intro w hSw
          (try dsimp only at hSw)
          obtain ⟨o0, o3, cb, c2⟩ := hSw
          go_simp
          try with_reducible rfl
        try simp only [zP, zN, zS, zT, zU]
        refine wpAnyH_take (i := 8) (oi := ?oi141) (v := ?vi141) ?h141 (by kernel_rfl) (by kernel_rfl) (by kernel_rfl) ?q141 (Or.inl ⟨?w141, ?y141⟩) hHeld ?r141
        case h141 => simp only [zA, zB, zC] <;> exact rfl
        case q141 => exact fun _ _ _ h => h
        case w141 => rfl
        case y141 =>
          intro w hSw
          (try dsimp only at hSw)
          obtain ⟨o0, o3, cb, c2⟩ := hSw
          go_simp
          try with_reducible rfl
        try simp only [zP, zN, zS, zT, zU]
        refine wpAnyH_take (i := 9) (oi := ?oi142) (v := ?vi142) ?h142 (by kernel_rfl) (by kernel_rfl) (by kernel_rfl) ?q142 (Or.inl ⟨?w142, ?y142⟩) hHeld ?r142
        case h142 => simp only [zA, zB, zC] <;> exact rfl
        case q142 => exact fun _ _ _ h => h
        case w142 => rfl
        case y142 =>
          intro w hSw
          (try dsimp only at hSw)
          obtain ⟨o0, o3, cb, c2⟩ := hSw
          go_simp
          try with_reducible rfl
        try simp only [zP, zN, zS, zT, zU]
        refine wpAnyH_take (i := 10) (oi := ?oi143) (v := ?vi143) ?h143 (by kernel_rfl) (by kernel_rfl) (by kernel_rfl) ?q143 (Or.inl ⟨?w143, ?y143⟩) hHeld ?r143
        case h143 => simp only [zA, zB, zC] <;> exact rfl
        case q143 => exact fun _ _ _ h => h
        case w143 => rfl
        case y143 =>
          intro w hSw
          (try dsimp only at hSw)
          obtain ⟨o0, o3, cb, c2⟩ := hSw
          go_simp
          try with_reducible rfl
        try simp only [zP, zN, zS, zT, zU]
        refine wpAnyH_take (i := 11) (oi := ?oi144) (v := ?vi144) ?h144 (by kernel_rfl) (by kernel_rfl) (by kernel_rfl) ?q144 (Or.inl ⟨?w144, ?y144⟩) hHeld ?r144
        case h144 => simp only [zA, zB, zC] <;> exact rfl
        case q144 => exact fun _ _ _ h => h
        case w144 => rfl
        case y144 =>
          intro w hSw
          (try dsimp only at hSw)
          obtain ⟨o0, o3, cb, c2⟩ := hSw
          go_simp
          try with_reducible rfl
        try simp only [zP, zN, zS, zT, zU]
        refine wpAnyH_take (i := 12) (oi := ?oi145) (v := ?vi145) ?h145 (by kernel_rfl) (by kernel_rfl) (by kernel_rfl) ?q145 (Or.inl ⟨?w145, ?y145⟩) hHeld ?r145
        case h145 => simp only [zA, zB, zC] <;> exact rfl
        case q145 => exact fun _ _ _ h => h
        case w145 => rfl
        case y145 =>
          intro w hSw
          (try dsimp only at hSw)
          obtain ⟨o0, o3, cb, c2⟩ := hSw
          go_simp
          try with_reducible rfl
        try simp only [zP, zN, zS, zT, zU]
        refine wpAnyH_take (i := 13) (oi := ?oi146) (v := ?vi146) ?h146 (by kernel_rfl) (by kernel_rfl) (by kernel_rfl) ?q146 (Or.inl ⟨?w146, ?y146⟩) hHeld ?r146
        case h146 => simp only [zA, zB, zC] <;> exact rfl
        case q146 => exact fun _ _ _ h => h
        case w146 => rfl
        case y146 =>
          intro w hSw
          (try dsimp only at hSw)
          obtain ⟨o0, o3, cb, c2⟩ := hSw
          go_simp
          try with_reducible rfl
        try simp only [zP, zN, zS, zT, zU]
        refine wpAnyH_take (i := 14) (oi := ?oi147) (v := ?vi147) ?h147 (by kernel_rfl) (by kernel_rfl) (by kernel_rfl) ?q147 (Or.inl ⟨?w147, ?y147⟩) hHeld ?r147
        case h147 => simp only [zA, zB, zC] <;> exact rfl
        case q147 => exact fun _ _ _ h => h
        case w147 => rfl
        case y147 =>
          intro w hSw
          (try dsimp only at hSw)
          obtain ⟨o0, o3, cb, c2⟩ := hSw
          go_simp
          try with_reducible rfl
        try simp only [zP, zN, zS, zT, zU]
        refine wpAnyH_take (i := 15) (oi := ?oi148) (v := ?vi148) ?h148 (by kernel_rfl) (by kernel_rfl) (by kernel_rfl) ?q148 (Or.inl ⟨?w148, ?y148⟩) hHeld ?r148
        case h148 => simp only [zA, zB, zC] <;> exact rfl
        case q148 => exact fun _ _ _ h => h
        case w148 => rfl
        case y148 =>
          intro w hSw
          (try dsimp only at hSw)
          obtain ⟨o0, o3, cb, c2⟩ := hSw
          go_simp
          try with_reducible rfl
        try simp only [zP, zN, zS, zT, zU]
        refine wpAnyH_take (i := 16) (oi := ?oi149) (v := ?vi149) ?h149 (by kernel_rfl) (by kernel_rfl) (by kernel_rfl) ?q149 (Or.inl ⟨?w149, ?y149⟩) hHeld ?r149
        case h149 => simp only [zA, zB, zC] <;> exact rfl
        case q149 => exact fun _ _ _ h => h
        case w149 => rfl
        case y149 =>
          intro w hSw
          (try dsimp only at hSw)
          obtain ⟨o0, o3, cb, c2⟩ := hSw
          go_simp
          try with_reducible rfl
        try simp only [zP, zN, zS, zT, zU]
        refine wpAnyH_take (i := 17) (oi := ?oi150) (v := ?vi150) ?h150 (by kernel_rfl) (by kernel_rfl) (by kernel_rfl) ?q150 (Or.inl ⟨?w150, ?y150⟩) hHeld ?r150
        case h150 => simp only [zA, zB, zC] <;> exact rfl
        case q150 => exact fun _ _ _ h => h
        case w150 => rfl
        case y150 =>
          intro w hSw
          (try dsimp only at hSw)
          obtain ⟨o0, o3, cb, c2⟩ := hSw
          go_simp
          try with_reducible rfl
        try simp only [zP, zN, zS, zT, zU]
        refine wpAnyH_take (i := 18) (oi := ?oi151) (v := ?vi151) ?h151 (by kernel_rfl) (by kernel_rfl) (by kernel_rfl) ?q151 (Or.inl ⟨?w151, ?y151⟩) hHeld ?r151
        case h151 => simp only [zA, zB, zC] <;> exact rfl
        case q151 => exact fun _ _ _ h => h
        case w151 => rfl
        case y151 =>
          intro w hSw
          (try dsimp only at hSw)
          obtain ⟨o0, o3, cb, c2⟩ := hSw
          go_simp
          try with_reducible rfl
        try simp only [zP, zN, zS, zT, zU]
        refine wpAnyH_take (i := 19) (oi := ?oi152) (v := ?vi152) ?h152 (by kernel_rfl) (by kernel_rfl) (by kernel_rfl) ?q152 (Or.inl ⟨?w152, ?y152⟩) hHeld ?r152
        case h152 => simp only [zA, zB, zC] <;> exact rfl
        case q152 => exact fun _ _ _ h => h
        case w152 => rfl
        case y152 =>
          intro w hSw
          (try dsimp only at hSw)
          obtain ⟨o0, o3, cb, c2⟩ := hSw
          go_simp
          try with_reducible rfl
        try simp only [zP, zN, zS, zT, zU]
        refine wpAnyH_take (i := 20) (oi := ?oi153) (v := ?vi153) ?h153 (by kernel_rfl) (by kernel_rfl) (by kernel_rfl) ?q153 (Or.inl ⟨?w153, ?y153⟩) hHeld ?r153
        case h153 => simp only [zA, zB, zC] <;> exact rfl
        case q153 => exact fun _ _ _ h => h
        case w153 => rfl
        case y153 =>
          intro w hSw
          (try dsimp only at hSw)
          obtain ⟨o0, o3, cb, c2⟩ := hSw
          go_simp
          try with_reducible rfl
        try simp only [zP, zN, zS, zT, zU]
        refine wpAnyH_take (i := 21) (oi := ?oi154) (v := ?vi154) ?h154 (by kernel_rfl) (by kernel_rfl) (by kernel_rfl) ?q154 (Or.inl ⟨?w154, ?y154⟩) hHeld ?r154
        case h154 => simp only [zA, zB, zC] <;> exact rfl
        case q154 => exact fun _ _ _ h => h
        case w154 => rfl
        case y154 =>
          intro w hSw
          (try dsimp only at hSw)
          obtain ⟨o0, o3, cb, c2⟩ := hSw
          go_simp
          try with_reducible rfl
        try simp only [zP, zN, zS, zT, zU]
        refine wpAnyH_take (i := 22) (oi := ?oi155) (v := ?vi155) ?h155 (by kernel_rfl) (by kernel_rfl) (by kernel_rfl) ?q155 (Or.inl ⟨?w155, ?y155⟩) hHeld ?r155
        case h155 => simp only [zA, zB, zC] <;> exact rfl
        case q155 => exact fun _ _ _ h => h
        case w155 => rfl
        case y155 =>
          intro w hSw
          (try dsimp only at hSw)
          obtain ⟨o0, o3, cb, c2⟩ := hSw
          go_simp
          try with_reducible rfl
        try simp only [zP, zN, zS, zT, zU]
        refine wpAnyH_take (i := 23) (oi := ?oi156) (v := ?vi156) ?h156 (by kernel_rfl) (by kernel_rfl) (by kernel_rfl) ?q156 (Or.inl ⟨?w156, ?y156⟩) hHeld ?r156
        case h156 => simp only [zA, zB, zC] <;> exact rfl
        case q156 => exact fun _ _ _ h => h
        case w156 => rfl
        case y156 =>
          intro w hSw
          (try dsimp only at hSw)
          obtain ⟨o0, o3, cb, c2⟩ := hSw
          go_simp
          try with_reducible rfl
        try simp only [zP, zN, zS, zT, zU]
        refine wpAnyH_done (by kernel_rfl) ?_ _
        clear hHeld
        have gc := F4.out.1.cell HA.out.2.1 (fun h => h)
        obtain ⟨o0, o1, o2, o3, o4, o5⟩ := box6 (F4.out.2.heap HX.out.2.1.op (fun h => h))
        obtain ⟨re, rp, rd, rv, rn⟩ := r'
        have hdo := HDO.out _ F4.out.1
        rw [← HC.out] at hdo
        have HDC := Lib.hid hdo
        clear hdo HDO HC HS4 F2
        go_wp2_with fail
        rw [hen _ _]
        go_wp2_with fail
        refine HDC.out.mono ?_
        intro e w5 hM
        obtain ⟨nv, G', cap', rfl, ho, ht, hg⟩ := hM.ex
        have hfw := hM.fp
        have hnG : ∀ k, ownT b G k → k < w.heap.size := fun k hk => by
          rcases hk with hk | hk
          · rw [hk]; exact HX.out.1.lt
          · rw [hk]; exact HX.out.1.row.lt
        have hb5 := (HX.out.2.1.non F4.out.2).keep hfw (fun k hk => .inl (hnG k hk))
        have h4s : w.heap.size + 2 ≤ w4.heap.size := Nat.le_trans HX.out.2.1.sz F4.out.2.size
        have hf5 : Fp (ownT b G) w w5 := (F4.out.1.any (S := ownT b G)).same hfw
        have hnv := fun k e => (ho.1.lt k e).1
        have HNV := Lib.hid (show nv.ownBlock = some (w.heap.size + 1) → False from fun e => by have := hnv _ e; omega)
        have HGN := Lib.hid (And.intro (show b ≠ w.heap.size + 1 by have := hnG b (.inl rfl); omega) (show G' ≠ w.heap.size + 1 by
          rcases hg with e | e
          · have := hnG G (.inr rfl); omega
          · have : w4.heap.size ≤ G' := e; omega))
        have HG2 := Lib.hid (show G' = G ∨ w.heap.size ≤ G' by
          rcases hg with e | e
          · exact .inl e
          · exact .inr (by have : w4.heap.size ≤ G' := e; omega))
        have ho2 : Own w.heap.size w5 nv rn := ho.low F4.out.1.size
        obtain ⟨vao, vcap, hvs⟩ := ho2.shape
        have HE := Lib.hid (And.intro hb5.res (And.intro hf5 (And.intro ht ho2)))
        unfold strV
        obtain ⟨r0, r1, r2, r3, r4⟩ := (hb5).r
        have z0 := (hb5).fz 0; have z1 := (hb5).fz 1; have z2 := (hb5).fz 2; have z3 := (hb5).fz 3; have z4 := (hb5).fz 4
        clear hM hfw hnG hb5 h4s hf5 hnv hg ho ht ho2 HDC gc o0 o1 o2 o3 o4 o5
        subst hvs
        generalize w5 = W5 at *
        go_wp2
        have hT9 := HE.out.2.2.1.keep (fp5 (S := fun k => k = w.heap.size + 1) (Fp.refl _ W5) (b := w.heap.size + 1) (.inl rfl) (.int .i64 re) (.string (B rp)) (.string (B rd)) (.int .i64 rv) (.slice vao rn.length vcap)) (fun e => HGN.out.1 e) (fun e => HGN.out.2 e)
        have HO9 := own5 HE.out.2.2.2 (b := w.heap.size + 1) (fun e => HNV.out e) (.int .i64 re) (.string (B rp)) (.string (B rd)) (.int .i64 rv) (.slice vao rn.length vcap)
        have hw9 := set5 HE.out.1 (.int .i64 re) (.string (B rp)) (.string (B rd)) (.int .i64 rv) (.slice vao rn.length vcap)
        have hf9 := fp5 (S := ownT b G) HE.out.2.1 (b := w.heap.size + 1) (.inr (by omega)) (.int .i64 re) (.string (B rp)) (.string (B rd)) (.int .i64 rv) (.slice vao rn.length vcap)
        generalize (((((World.setCell W5 _ _).setCell _ _).setCell _ _).setCell _ _).setCell _ _) = w9 at *
        have s0 := cell_of_row _ (w.heap.size + 1) 0 _ _ _ hw9
        have s1 := cell_of_row _ (w.heap.size + 1) 1 _ _ _ hw9
        have s2 := cell_of_row _ (w.heap.size + 1) 2 _ _ _ hw9
        have s3 := cell_of_row _ (w.heap.size + 1) 3 _ _ _ hw9
        have s4 := cell_of_row _ (w.heap.size + 1) 4 _ _ _ hw9
        simp only [zA, zB, zC] at s0 s1 s2 s3 s4
        exact bodyPost_ret (v := .agg #[.int .i64 re, .string (B rp), .string (B rd), .int .i64 rv, .slice vao rn.length vcap]) (by simp [results, Tryz.results52, go_sem, s0, s1, s2, s3, s4]) rfl (MeR.of (r := ⟨re, rp, rd, rv, rn⟩) (nv := .slice vao rn.length vcap) hT9 HG2.out hf9 HO9)
      · have q5 : (v == xv) = false := beq_eq_false_iff_ne.2 hv2
        have q6 : (v = xv) = False := eq_false hv2
        have q8 : (v != xv) = true := by rw [bne, q5]; rfl
        have HC := Lib.hid (show l' = l ∧ r' = .bad 63 from by have hcr := HHC.out; rw [if_pos ⟨trivial, hv1, hv2⟩] at hcr; injection hcr with a b; exact ⟨a, b⟩)
        clear HHC hv1 hv2
        go_wp2_with fail
        refine wp_region_held_drew (S := (fun w' => w'.cell? ⟨w.heap.size, 0, none⟩ = some (.int .i64 2) ∧ w'.cell? ⟨w.heap.size, 3, none⟩ = some (.int .i64 v) ∧ w'.cell? ⟨b, 0, none⟩ = some (.slice (some ⟨G, 0, none⟩) n cap) ∧ w'.cell? ⟨G, at_ * 5 + 2, none⟩ = some (.int .i64 xv))) (by kernel_rfl) ?_ (fun hHeld => ?_)
        · exact ⟨(Fp.refl Non _).drew.cell o0 (fun h => h), (Fp.refl Non _).drew.cell o3 (fun h => h), (Fp.refl Non _).drew.cell cb (fun h => h), (Fp.refl Non _).drew.cell c2 (fun h => h)⟩
        have HSD := Lib.hid (fun w9 (hf : Fp Non w2.drew w9) => And.intro (hf.cell ((Fp.refl Non w2).drew.cell o0 (fun h => h)) (fun h => h)) (And.intro (hf.cell ((Fp.refl Non w2).drew.cell o3 (fun h => h)) (fun h => h)) (And.intro (hf.cell ((Fp.refl Non w2).drew.cell cb (fun h => h)) (fun h => h)) (hf.cell ((Fp.refl Non w2).drew.cell c2 (fun h => h)) (fun h => h)))))
        have F3 := Lib.hid (And.intro F2.out.1.drew F2.out.2.drew)
        clear o0 o3 cb c2
        generalize w2.drew = w3 at *
        refine wpAnyH_take (i := 1) (oi := ?oi157) (v := ?vi157) ?h157 (by kernel_rfl) (by kernel_rfl) (by kernel_rfl) ?q157 (Or.inl ⟨?w157, ?y157⟩) hHeld ?r157
        case h157 => simp only [zA, zB, zC] <;> exact rfl
        case q157 => exact fun _ _ _ h => h
        case w157 => rfl
        case y157 =>
          intro w hSw
          (try dsimp only at hSw)
          obtain ⟨o0, o3, cb, c2⟩ := hSw
          go_simp
          try with_reducible rfl
        try simp only [zP, zN, zS, zT, zU]
        refine wpAnyH_take (i := 2) (oi := ?oi158) (v := ?vi158) ?h158 (by kernel_rfl) (by kernel_rfl) (by kernel_rfl) ?q158 (Or.inl ⟨?w158, ?y158⟩) hHeld ?r158
        case h158 => simp only [zA, zB, zC] <;> exact rfl
        case q158 => exact fun _ _ _ h => h
        case w158 => rfl
        case y158 =>
          intro w hSw
          (try dsimp only at hSw)
          obtain ⟨o0, o3, cb, c2⟩ := hSw
          go_simp
          try with_reducible rfl
        try simp only [zP, zN, zS, zT, zU]
        refine wpAnyH_ready (rs := [0]) (by kernel_rfl) (by simp) ?_
        refine AllReadyH.cons (o := ?ob159) ?hb159 (fun K hK => ?_) AllReadyH.nil
        case hb159 => simp only [zA, zB, zC] <;> exact rfl
        go_simp
        go_at_call 32
        refine (fields_c _).mono ?_
        rintro e w4 ⟨rfl, hf4⟩
        have HS4 := Lib.hid (HSD.out w4 hf4)
        have F4 := Lib.hid (And.intro (F3.out.1.then hf4) (F3.out.2.then hf4))
        clear hf4 HSD F3
        go_wp2_with fail
        refine hK.out _ _ HS4.out (fun hHeld => ?_)
        clear hK K
        try simp only [zP, zN, zS, zT, zU]
        refine wpAnyH_take (i := 3) (oi := ?oi160) (v := ?vi160) ?h160 (by kernel_rfl) (by kernel_rfl) (by kernel_rfl) ?q160 (Or.inl ⟨?w160, ?y160⟩) hHeld ?r160
        case h160 => simp only [zA, zB, zC] <;> exact rfl
        case q160 => exact fun _ _ _ h => h
        case w160 => rfl
        case y160 =>
          intro w hSw
          (try dsimp only at hSw)
          obtain ⟨o0, o3, cb, c2⟩ := hSw
          go_simp
          try with_reducible rfl
        try simp only [zP, zN, zS, zT, zU]
        refine wpAnyH_take (i := 4) (oi := ?oi161) (v := ?vi161) ?h161 (by kernel_rfl) (by kernel_rfl) (by kernel_rfl) ?q161 (Or.inl ⟨?w161, ?y161⟩) hHeld ?r161
        case h161 => simp only [zA, zB, zC] <;> exact rfl
        case q161 => exact fun _ _ _ h => h
        case w161 => rfl
        case y161 =>
          intro w hSw
          (try dsimp only at hSw)
          obtain ⟨o0, o3, cb, c2⟩ := hSw
          go_simp
          try with_reducible rfl
        try simp only [zP, zN, zS, zT, zU]
        refine wpAnyH_take (i := 5) (oi := ?oi162) (v := ?vi162) ?h162 (by kernel_rfl) (by kernel_rfl) (by kernel_rfl) ?q162 (Or.inl ⟨?w162, ?y162⟩) hHeld ?r162
        case h162 => simp only [zA, zB, zC] <;> exact rfl
        case q162 => exact fun _ _ _ h => h
        case w162 => rfl
        case y162 =>
          intro w hSw
          (try dsimp only at hSw)
          obtain ⟨o0, o3, cb, c2⟩ := hSw
          go_simp
          try with_reducible rfl
        try simp only [zP, zN, zS, zT, zU]
        refine wpAnyH_take (i := 6) (oi := ?oi163) (v := ?vi163) ?h163 (by kernel_rfl) (by kernel_rfl) (by kernel_rfl) ?q163 (Or.inl ⟨?w163, ?y163⟩) hHeld ?r163
        case h163 => simp only [zA, zB, zC] <;> exact rfl
        case q163 => exact fun _ _ _ h => h
        case w163 => rfl
        case y163 =>
          intro w hSw
          (try dsimp only at hSw)
          obtain ⟨o0, o3, cb, c2⟩ := hSw
          go_simp
          try with_reducible rfl
        try simp only [zP, zN, zS, zT, zU]
        refine wpAnyH_take (i := 7) (oi := ?oi164) (v := ?vi164) ?h164 (by kernel_rfl) (by kernel_rfl) (by kernel_rfl) ?q164 (Or.inl ⟨?w164, ?y164⟩) hHeld ?r164
        case h164 => simp only [zA, zB, zC] <;> exact rfl
        case q164 => exact fun _ _ _ h => h
        case w164 => rfl
        case y164 =>
          intro w hSw
          (try dsimp only at hSw)
          obtain ⟨o0, o3, cb, c2⟩ := hSw
          go_simp
          try with_reducible rfl
        try simp only [zP, zN, zS, zT, zU]
        refine wpAnyH_take (i := 8) (oi := ?oi165) (v := ?vi165) ?h165 (by kernel_rfl) (by kernel_rfl) (by kernel_rfl) ?q165 (Or.inl ⟨?w165, ?y165⟩) hHeld ?r165
        case h165 => simp only [zA, zB, zC] <;> exact rfl
        case q165 => exact fun _ _ _ h => h
        case w165 => rfl
        case y165 =>
          intro w hSw
          (try dsimp only at hSw)
          obtain ⟨o0, o3, cb, c2⟩ := hSw
          go_simp
          try with_reducible rfl
        try simp only [zP, zN, zS, zT, zU]
        refine wpAnyH_take (i := 9) (oi := ?oi166) (v := ?vi166) ?h166 (by kernel_rfl) (by kernel_rfl) (by kernel_rfl) ?q166 (Or.inl ⟨?w166, ?y166⟩) hHeld ?r166
        case h166 => simp only [zA, zB, zC] <;> exact rfl
        case q166 => exact fun _ _ _ h => h
        case w166 => rfl
        case y166 =>
          intro w hSw
          (try dsimp only at hSw)
          obtain ⟨o0, o3, cb, c2⟩ := hSw
          go_simp
          try with_reducible rfl
        try simp only [zP, zN, zS, zT, zU]
        refine wpAnyH_take (i := 10) (oi := ?oi167) (v := ?vi167) ?h167 (by kernel_rfl) (by kernel_rfl) (by kernel_rfl) ?q167 (Or.inl ⟨?w167, ?y167⟩) hHeld ?r167
        case h167 => simp only [zA, zB, zC] <;> exact rfl
        case q167 => exact fun _ _ _ h => h
        case w167 => rfl
        case y167 =>
          intro w hSw
          (try dsimp only at hSw)
          obtain ⟨o0, o3, cb, c2⟩ := hSw
          go_simp
          try with_reducible rfl
        try simp only [zP, zN, zS, zT, zU]
        refine wpAnyH_take (i := 11) (oi := ?oi168) (v := ?vi168) ?h168 (by kernel_rfl) (by kernel_rfl) (by kernel_rfl) ?q168 (Or.inl ⟨?w168, ?y168⟩) hHeld ?r168
        case h168 => simp only [zA, zB, zC] <;> exact rfl
        case q168 => exact fun _ _ _ h => h
        case w168 => rfl
        case y168 =>
          intro w hSw
          (try dsimp only at hSw)
          obtain ⟨o0, o3, cb, c2⟩ := hSw
          go_simp
          try with_reducible rfl
        try simp only [zP, zN, zS, zT, zU]
        refine wpAnyH_take (i := 12) (oi := ?oi169) (v := ?vi169) ?h169 (by kernel_rfl) (by kernel_rfl) (by kernel_rfl) ?q169 (Or.inl ⟨?w169, ?y169⟩) hHeld ?r169
        case h169 => simp only [zA, zB, zC] <;> exact rfl
        case q169 => exact fun _ _ _ h => h
        case w169 => rfl
        case y169 =>
          intro w hSw
          (try dsimp only at hSw)
          obtain ⟨o0, o3, cb, c2⟩ := hSw
          go_simp
          try with_reducible rfl
        try simp only [zP, zN, zS, zT, zU]
        refine wpAnyH_take (i := 13) (oi := ?oi170) (v := ?vi170) ?h170 (by kernel_rfl) (by kernel_rfl) (by kernel_rfl) ?q170 (Or.inl ⟨?w170, ?y170⟩) hHeld ?r170
        case h170 => simp only [zA, zB, zC] <;> exact rfl
        case q170 => exact fun _ _ _ h => h
        case w170 => rfl
        case y170 =>
          intro w hSw
          (try dsimp only at hSw)
          obtain ⟨o0, o3, cb, c2⟩ := hSw
          go_simp
          try with_reducible rfl
        try simp only [zP, zN, zS, zT, zU]
        refine wpAnyH_take (i := 14) (oi := ?oi171) (v := ?vi171) ?h171 (by kernel_rfl) (by kernel_rfl) (by kernel_rfl) ?q171 (Or.inl ⟨?w171, ?y171⟩) hHeld ?r171
        case h171 => simp only [zA, zB, zC] <;> exact rfl
        case q171 => exact fun _ _ _ h => h
        case w171 => rfl
        case y171 =>
          intro w hSw
          (try dsimp only at hSw)
          obtain ⟨o0, o3, cb, c2⟩ := hSw
          go_simp
          try with_reducible rfl
        try simp only [zP, zN, zS, zT, zU]
        refine wpAnyH_take (i := 15) (oi := ?oi172) (v := ?vi172) ?h172 (by kernel_rfl) (by kernel_rfl) (by kernel_rfl) ?q172 (Or.inl ⟨?w172, ?y172⟩) hHeld ?r172
        case h172 => simp only [zA, zB, zC] <;> exact rfl
        case q172 => exact fun _ _ _ h => h
        case w172 => rfl
        case y172 =>
          intro w hSw
          (try dsimp only at hSw)
          obtain ⟨o0, o3, cb, c2⟩ := hSw
          go_simp
          try with_reducible rfl
        try simp only [zP, zN, zS, zT, zU]
        refine wpAnyH_take (i := 16) (oi := ?oi173) (v := ?vi173) ?h173 (by kernel_rfl) (by kernel_rfl) (by kernel_rfl) ?q173 (Or.inl ⟨?w173, ?y173⟩) hHeld ?r173
        case h173 => simp only [zA, zB, zC] <;> exact rfl
        case q173 => exact fun _ _ _ h => h
        case w173 => rfl
        case y173 =>
          intro w hSw
          (try dsimp only at hSw)
          obtain ⟨o0, o3, cb, c2⟩ := hSw
          go_simp
          try with_reducible rfl
        try simp only [zP, zN, zS, zT, zU]
        refine wpAnyH_take (i := 17) (oi := ?oi174) (v := ?vi174) ?h174 (by kernel_rfl) (by kernel_rfl) (by kernel_rfl) ?q174 (Or.inl ⟨?w174, ?y174⟩) hHeld ?r174
        case h174 => simp only [zA, zB, zC] <;> exact rfl
        case q174 => exact fun _ _ _ h => h
        case w174 => rfl
        case y174 =>
          intro w hSw
          (try dsimp only at hSw)
          obtain ⟨o0, o3, cb, c2⟩ := hSw
          go_simp
          try with_reducible rfl
        try simp only [zP, zN, zS, zT, zU]
        refine wpAnyH_take (i := 18) (oi := ?oi175) (v := ?vi175) ?h175 (by kernel_rfl) (by kernel_rfl) (by kernel_rfl) ?q175 (Or.inl ⟨?w175, ?y175⟩) hHeld ?r175
        case h175 => simp only [zA, zB, zC] <;> exact rfl
        case q175 => exact fun _ _ _ h => h
        case w175 => rfl
        case y175 =>
          intro w hSw
          (try dsimp only at hSw)
          obtain ⟨o0, o3, cb, c2⟩ := hSw
          go_simp
          try with_reducible rfl
        try simp only [zP, zN, zS, zT, zU]
        refine wpAnyH_take (i := 19) (oi := ?oi176) (v := ?vi176) ?h176 (by kernel_rfl) (by kernel_rfl) (by kernel_rfl) ?q176 (Or.inl ⟨?w176, ?y176⟩) hHeld ?r176
        case h176 => simp only [zA, zB, zC] <;> exact rfl
        case q176 => exact fun _ _ _ h => h
        case w176 => rfl
        case y176 =>
          intro w hSw
          (try dsimp only at hSw)
          obtain ⟨o0, o3, cb, c2⟩ := hSw
          go_simp
          try with_reducible rfl
        try simp only [zP, zN, zS, zT, zU]
        refine wpAnyH_take (i := 20) (oi := ?oi177) (v := ?vi177) ?h177 (by kernel_rfl) (by kernel_rfl) (by kernel_rfl) ?q177 (Or.inl ⟨?w177, ?y177⟩) hHeld ?r177
        case h177 => simp only [zA, zB, zC] <;> exact rfl
        case q177 => exact fun _ _ _ h => h
        case w177 => rfl
        case y177 =>
          intro w hSw
          (try dsimp only at hSw)
          obtain ⟨o0, o3, cb, c2⟩ := hSw
          go_simp
          try with_reducible rfl
        try simp only [zP, zN, zS, zT, zU]
        refine wpAnyH_take (i := 21) (oi := ?oi178) (v := ?vi178) ?h178 (by kernel_rfl) (by kernel_rfl) (by kernel_rfl) ?q178 (Or.inl ⟨?w178, ?y178⟩) hHeld ?r178
        case h178 => simp only [zA, zB, zC] <;> exact rfl
        case q178 => exact fun _ _ _ h => h
        case w178 => rfl
        case y178 =>
          intro w hSw
          (try dsimp only at hSw)
          obtain ⟨o0, o3, cb, c2⟩ := hSw
          go_simp
          try with_reducible rfl
        try simp only [zP, zN, zS, zT, zU]
        refine wpAnyH_take (i := 22) (oi := ?oi179) (v := ?vi179) ?h179 (by kernel_rfl) (by kernel_rfl) (by kernel_rfl) ?q179 (Or.inl ⟨?w179, ?y179⟩) hHeld ?r179
        case h179 => simp only [zA, zB, zC] <;> exact rfl
        case q179 => exact fun _ _ _ h => h
        case w179 => rfl
        case y179 =>
          intro w hSw
          (try dsimp only at hSw)
          obtain ⟨o0, o3, cb, c2⟩ := hSw
          go_simp
          try with_reducible rfl
        try simp only [zP, zN, zS, zT, zU]
        refine wpAnyH_take (i := 23) (oi := ?oi180) (v := ?vi180) ?h180 (by kernel_rfl) (by kernel_rfl) (by kernel_rfl) ?q180 (Or.inl ⟨?w180, ?y180⟩) hHeld ?r180
        case h180 => simp only [zA, zB, zC] <;> exact rfl
        case q180 => exact fun _ _ _ h => h
        case w180 => rfl
        case y180 =>
          intro w hSw
          (try dsimp only at hSw)
          obtain ⟨o0, o3, cb, c2⟩ := hSw
          go_simp
          try with_reducible rfl
        try simp only [zP, zN, zS, zT, zU]
        refine wpAnyH_done (by kernel_rfl) ?_ _
        have hb2 := HX.out.2.1.non F4.out.2
        obtain ⟨r0, r1, r2, r3, r4⟩ := (hb2).r
        have z0 := (hb2).fz 0; have z1 := (hb2).fz 1; have z2 := (hb2).fz 2; have z3 := (hb2).fz 3; have z4 := (hb2).fz 4
        clear hb2
        go_wp2_with fail
        refine (refused_c 63 _).mono ?_
        rintro e w2 ⟨rfl, hf2⟩
        have hb2 := HX.out.2.1.non (F4.out.2.then hf2)
        have hfw := F4.out.1.then hf2
        clear r0 r1 r2 r3 r4 z0 z1 z2 z3 z4
        obtain ⟨r0, r1, r2, r3, r4⟩ := (hb2).r
        have z0 := (hb2).fz 0; have z1 := (hb2).fz 1; have z2 := (hb2).fz 2; have z3 := (hb2).fz 3; have z4 := (hb2).fz 4
        have HE := Lib.hid (And.intro hb2.res hfw)
        unfold badV
        clear hf2 hb2 hfw
        generalize w2 = W2 at *
        go_wp2
        have hw9 := set5 HE.out.1 (.int .i64 63) (.string ⟨#[]⟩) (.string ⟨#[]⟩) (.int .i64 0) (.slice none 0 0)
        have hf9 := fp5 (S := Non) HE.out.2 (b := w.heap.size + 1) (.inr (by omega)) (.int .i64 63) (.string ⟨#[]⟩) (.string ⟨#[]⟩) (.int .i64 0) (.slice none 0 0)
        generalize (((((World.setCell W2 _ _).setCell _ _).setCell _ _).setCell _ _).setCell _ _) = w9 at *
        have s0 := cell_of_row _ (w.heap.size + 1) 0 _ _ _ hw9
        have s1 := cell_of_row _ (w.heap.size + 1) 1 _ _ _ hw9
        have s2 := cell_of_row _ (w.heap.size + 1) 2 _ _ _ hw9
        have s3 := cell_of_row _ (w.heap.size + 1) 3 _ _ _ hw9
        have s4 := cell_of_row _ (w.heap.size + 1) 4 _ _ _ hw9
        simp only [zA, zB, zC] at s0 s1 s2 s3 s4
        exact bodyPost_ret (v := .agg #[.int .i64 63, .string ⟨#[]⟩, .string ⟨#[]⟩, .int .i64 0, .slice none 0 0]) (by simp [results, Tryz.results52, go_sem, s0, s1, s2, s3, s4]) rfl (by rw [HC.out.1, HC.out.2]; exact MeR.still HX.out.1 (r := .bad 63) (nv := .slice none 0 0) hf9 (Own.nil _ _))
set_option maxHeartbeats 8000000 in
theorem existing_3 {lo b G cap : Nat} {l : List Nd} {w : World} (h : Tn lo b G cap l w) (hs : Sp l) (hl : l.length ≤ 512) (hlo : lo ≤ w.heap.size) (ha : Asc l) (p d : Bs) (v ow : Int) (t : Bool) (g : Nat) (fk : Nat) (hg : w.cell? ⟨g, 0, none⟩ = some (.func (.func fk) #[] #[])) (hen : Enters Tryz.prog fk)
    (hdo : Does lo b G cap l ⟨3, p, d, v, ow, t⟩ w fk) :
    Calls Tryz.prog 52 #[.pointer (some ⟨b, 0, none⟩), opV ⟨3, p, d, v, ow, t⟩, .pointer (some ⟨g, 0, none⟩)] w (MeR lo b G (perform l ⟨3, p, d, v, ow, t⟩).1 (perform l ⟨3, p, d, v, ow, t⟩).2 w) := by
  have hcr : perform l ⟨3, p, d, v, ow, t⟩ = (match find l p with
      | none => (l, .bad 62)
      | some x => if True ∧ v ≠ -1 ∧ v ≠ x.ver then (l, .bad 63) else doit l ⟨3, p, d, v, ow, t⟩ x) := by
    unfold perform; simp [versioned]
    try (cases find l p <;> rfl)
  obtain ⟨cr, hcr2⟩ : ∃ cr, perform l ⟨3, p, d, v, ow, t⟩ = cr := ⟨_, rfl⟩
  rw [hcr2] at hcr ⊢
  obtain ⟨l', r'⟩ := cr
  simp only
  unfold opV strV
  have hbx := Bx.made w 3 p d v ow t
  have hf0 : Fp Non w ((w.alloc (.cells #[.int .i64 3, .string (B p), .string (B d), .int .i64 v, .int .i64 ow, .bool t] TO_)).alloc (.cells #[.int .i64 0, .string ⟨#[]⟩, .string ⟨#[]⟩, .int .i64 0, .slice none 0 0] TR)) := ((Fp.refl Non w).alloc _).alloc _
  have op1 : (((w.alloc (.cells #[.int .i64 3, .string (B p), .string (B d), .int .i64 v, .int .i64 ow, .bool t] TO_)).alloc (.cells #[.int .i64 0, .string ⟨#[]⟩, .string ⟨#[]⟩, .int .i64 0, .slice none 0 0] TR))).cell? ⟨w.heap.size, 1, none⟩ = some (.string (B p)) := by rw [cell_of_row _ _ _ _ _ _ hbx.op]; rfl
  have hpc := place_c (h.non hf0) p ha (by omega)
  have HPC := Lib.hid hpc
  obtain ⟨n, hn⟩ : ∃ n, n = l.length := ⟨_, rfl⟩
  have HX := Lib.hid (And.intro h (And.intro hbx (And.intro hf0 (And.intro hn (And.intro hs (And.intro hl hlo))))))
  have HA := Lib.hid (And.intro ha (And.intro hg (And.intro hdo hcr)))
  clear hpc h hbx hf0 hn hs hl hlo ha hg hdo hcr hcr2
  go_enter Tryz.func52, Tryz.ntmps52
  generalize hW0 : ((w.alloc (.cells #[.int .i64 3, .string (B p), .string (B d), .int .i64 v, .int .i64 ow, .bool t] TO_)).alloc (.cells #[.int .i64 0, .string ⟨#[]⟩, .string ⟨#[]⟩, .int .i64 0, .slice none 0 0] TR)) = W0 at *
  go_wp2_with fail
  clear hW0
  refine HPC.out.mono ?_
  rintro e w2 ⟨rfl, hf2⟩
  have F2 := Lib.hid (And.intro (HX.out.2.2.1.then hf2) hf2)
  clear hf2 HPC op1
  cases hfu : find l p with
  | none =>
    have hcr := HA.out.2.2.2
    rw [hfu] at hcr
    have HC := Lib.hid (show l' = l ∧ r' = .bad 62 from by injection hcr with a b; exact ⟨a, b⟩)
    clear hcr hfu
    have hb2 := HX.out.2.1.non F2.out.2
    obtain ⟨r0, r1, r2, r3, r4⟩ := (hb2).r
    have z0 := (hb2).fz 0; have z1 := (hb2).fz 1; have z2 := (hb2).fz 2; have z3 := (hb2).fz 3; have z4 := (hb2).fz 4
    clear hb2
    go_wp2_with fail
    refine (refused_c 62 _).mono ?_
    rintro e w2 ⟨rfl, hf2⟩
    have hb2 := HX.out.2.1.non (F2.out.2.then hf2)
    have hfw := F2.out.1.then hf2
    clear r0 r1 r2 r3 r4 z0 z1 z2 z3 z4
    obtain ⟨r0, r1, r2, r3, r4⟩ := (hb2).r
    have z0 := (hb2).fz 0; have z1 := (hb2).fz 1; have z2 := (hb2).fz 2; have z3 := (hb2).fz 3; have z4 := (hb2).fz 4
    have HE := Lib.hid (And.intro hb2.res hfw)
    unfold badV
    clear hf2 hb2 hfw
    generalize w2 = W2 at *
    go_wp2
    have hw9 := set5 HE.out.1 (.int .i64 62) (.string ⟨#[]⟩) (.string ⟨#[]⟩) (.int .i64 0) (.slice none 0 0)
    have hf9 := fp5 (S := Non) HE.out.2 (b := w.heap.size + 1) (.inr (by omega)) (.int .i64 62) (.string ⟨#[]⟩) (.string ⟨#[]⟩) (.int .i64 0) (.slice none 0 0)
    generalize (((((World.setCell W2 _ _).setCell _ _).setCell _ _).setCell _ _).setCell _ _) = w9 at *
    have s0 := cell_of_row _ (w.heap.size + 1) 0 _ _ _ hw9
    have s1 := cell_of_row _ (w.heap.size + 1) 1 _ _ _ hw9
    have s2 := cell_of_row _ (w.heap.size + 1) 2 _ _ _ hw9
    have s3 := cell_of_row _ (w.heap.size + 1) 3 _ _ _ hw9
    have s4 := cell_of_row _ (w.heap.size + 1) 4 _ _ _ hw9
    simp only [zA, zB, zC] at s0 s1 s2 s3 s4
    exact bodyPost_ret (v := .agg #[.int .i64 62, .string ⟨#[]⟩, .string ⟨#[]⟩, .int .i64 0, .slice none 0 0]) (by simp [results, Tryz.results52, go_sem, s0, s1, s2, s3, s4]) rfl (by rw [HC.out.1, HC.out.2]; exact MeR.still HX.out.1 (r := .bad 62) (nv := .slice none 0 0) hf9 (Own.nil _ _))
  | some x =>
    obtain ⟨hat, hx⟩ := find_at HA.out.1 hfu
    have hT2 := HX.out.1.non F2.out.1
    have hnd := hT2.row.nd (place l p) hat
    rw [hx] at hnd
    have hcr := HA.out.2.2.2
    rw [hfu] at hcr
    simp only at hcr
    have HDO := Lib.hid (fun w' f => HA.out.2.2.1 x w' hfu f)
    obtain ⟨at_, hatE⟩ : ∃ at_, place l p = at_ := ⟨_, rfl⟩
    simp only [hatE] at hnd HDO ⊢
    rw [hatE] at hat
    have cb := hT2.c0
    rw [← HX.out.2.2.2.1] at cb
    have q1 : (at_ < n) = True := eq_true (by rw [HX.out.2.2.2.1]; exact hat)
    have q2 : ((at_ : Int) < (n : Int)) = True := eq_true (by rw [HX.out.2.2.2.1]; omega)
    have hbW := F2.out.2.heap HX.out.2.1.op (fun h => h)
    obtain ⟨o0, o1, o2, o3, o4, o5⟩ := box6 hbW
    have c2 := hnd.c2
    simp only [Nat.zero_add] at c2
    obtain ⟨xp, xd, xv, xt, xo⟩ := x
    simp only at c2 hcr
    have HHC := Lib.hid hcr
    have fat := fields_at3
    have fbt : bits BinOp.and IntKind.i64 6 4 = 4 := by kernel_rfl
    clear hT2 hnd hcr hat hfu hx hatE hbW o1 o2 o4 o5
    by_cases hv1 : v = -1
    · have q3 : (v == -1) = true := beq_iff_eq.2 hv1
      have q4 : (v = -1) = True := eq_true hv1
      have q7 : (v != -1) = false := by rw [bne, q3]; rfl
      have HC : Hid ((l', r') = doit l ⟨3, p, d, v, ow, t⟩ ⟨xp, xd, xv, xt, xo⟩) := by have hcr := HHC.out; rw [if_neg (fun k => k.2.1 hv1)] at hcr; exact hcr
      clear HHC hv1
      go_wp2_with fail
      refine wp_region_held_drew (S := (fun w' => w'.cell? ⟨w.heap.size, 0, none⟩ = some (.int .i64 3) ∧ w'.cell? ⟨w.heap.size, 3, none⟩ = some (.int .i64 v) ∧ w'.cell? ⟨b, 0, none⟩ = some (.slice (some ⟨G, 0, none⟩) n cap) ∧ w'.cell? ⟨G, at_ * 5 + 2, none⟩ = some (.int .i64 xv))) (by kernel_rfl) ?_ (fun hHeld => ?_)
      · exact ⟨(Fp.refl Non _).drew.cell o0 (fun h => h), (Fp.refl Non _).drew.cell o3 (fun h => h), (Fp.refl Non _).drew.cell cb (fun h => h), (Fp.refl Non _).drew.cell c2 (fun h => h)⟩
      have HSD := Lib.hid (fun w9 (hf : Fp Non w2.drew w9) => And.intro (hf.cell ((Fp.refl Non w2).drew.cell o0 (fun h => h)) (fun h => h)) (And.intro (hf.cell ((Fp.refl Non w2).drew.cell o3 (fun h => h)) (fun h => h)) (And.intro (hf.cell ((Fp.refl Non w2).drew.cell cb (fun h => h)) (fun h => h)) (hf.cell ((Fp.refl Non w2).drew.cell c2 (fun h => h)) (fun h => h)))))
      have F3 := Lib.hid (And.intro F2.out.1.drew F2.out.2.drew)
      clear o0 o3 cb c2
      generalize w2.drew = w3 at *
      refine wpAnyH_take (i := 1) (oi := ?oi181) (v := ?vi181) ?h181 (by kernel_rfl) (by kernel_rfl) (by kernel_rfl) ?q181 (Or.inl ⟨?w181, ?y181⟩) hHeld ?r181
      case h181 => simp only [zA, zB, zC] <;> exact rfl
      case q181 => exact fun _ _ _ h => h
      case w181 => rfl
      case y181 =>
        intro w hSw
        (try dsimp only at hSw)
        obtain ⟨o0, o3, cb, c2⟩ := hSw
        go_simp
        try with_reducible rfl
      try simp only [zP, zN, zS, zT, zU]
      refine wpAnyH_take (i := 2) (oi := ?oi182) (v := ?vi182) ?h182 (by kernel_rfl) (by kernel_rfl) (by kernel_rfl) ?q182 (Or.inl ⟨?w182, ?y182⟩) hHeld ?r182
      case h182 => simp only [zA, zB, zC] <;> exact rfl
      case q182 => exact fun _ _ _ h => h
      case w182 => rfl
      case y182 =>
        intro w hSw
        (try dsimp only at hSw)
        obtain ⟨o0, o3, cb, c2⟩ := hSw
        go_simp
        try with_reducible rfl
      try simp only [zP, zN, zS, zT, zU]
      refine wpAnyH_ready (rs := [0]) (by kernel_rfl) (by simp) ?_
      refine AllReadyH.cons (o := ?ob183) ?hb183 (fun K hK => ?_) AllReadyH.nil
      case hb183 => simp only [zA, zB, zC] <;> exact rfl
      go_simp
      go_at_call 32
      refine (fields_c _).mono ?_
      rintro e w4 ⟨rfl, hf4⟩
      have HS4 := Lib.hid (HSD.out w4 hf4)
      have F4 := Lib.hid (And.intro (F3.out.1.then hf4) (F3.out.2.then hf4))
      clear hf4 HSD F3
      go_wp2_with fail
      refine hK.out _ _ HS4.out (fun hHeld => ?_)
      clear hK K
      try simp only [zP, zN, zS, zT, zU]
      refine wpAnyH_take (i := 3) (oi := ?oi184) (v := ?vi184) ?h184 (by kernel_rfl) (by kernel_rfl) (by kernel_rfl) ?q184 (Or.inl ⟨?w184, ?y184⟩) hHeld ?r184
      case h184 => simp only [zA, zB, zC] <;> exact rfl
      case q184 => exact fun _ _ _ h => h
      case w184 => rfl
      case y184 =>
        intro w hSw
        (try dsimp only at hSw)
        obtain ⟨o0, o3, cb, c2⟩ := hSw
        go_simp
        try with_reducible rfl
      try simp only [zP, zN, zS, zT, zU]
      refine wpAnyH_take (i := 4) (oi := ?oi185) (v := ?vi185) ?h185 (by kernel_rfl) (by kernel_rfl) (by kernel_rfl) ?q185 (Or.inl ⟨?w185, ?y185⟩) hHeld ?r185
      case h185 => simp only [zA, zB, zC] <;> exact rfl
      case q185 => exact fun _ _ _ h => h
      case w185 => rfl
      case y185 =>
        intro w hSw
        (try dsimp only at hSw)
        obtain ⟨o0, o3, cb, c2⟩ := hSw
        go_simp
        try with_reducible rfl
      try simp only [zP, zN, zS, zT, zU]
      refine wpAnyH_take (i := 5) (oi := ?oi186) (v := ?vi186) ?h186 (by kernel_rfl) (by kernel_rfl) (by kernel_rfl) ?q186 (Or.inl ⟨?w186, ?y186⟩) hHeld ?r186
      case h186 => simp only [zA, zB, zC] <;> exact rfl
      case q186 => exact fun _ _ _ h => h
      case w186 => rfl
      case y186 =>
        intro w hSw
        (try dsimp only at hSw)
        obtain ⟨o0, o3, cb, c2⟩ := hSw
        go_simp
        try with_reducible rfl
      try simp only [zP, zN, zS, zT, zU]
      refine wpAnyH_take (i := 6) (oi := ?oi187) (v := ?vi187) ?h187 (by kernel_rfl) (by kernel_rfl) (by kernel_rfl) ?q187 (Or.inl ⟨?w187, ?y187⟩) hHeld ?r187
      case h187 => simp only [zA, zB, zC] <;> exact rfl
      case q187 => exact fun _ _ _ h => h
      case w187 => rfl
      case y187 =>
        intro w hSw
        (try dsimp only at hSw)
        obtain ⟨o0, o3, cb, c2⟩ := hSw
        go_simp
        try with_reducible rfl
      try simp only [zP, zN, zS, zT, zU]
      refine wpAnyH_take (i := 7) (oi := ?oi188) (v := ?vi188) ?h188 (by kernel_rfl) (by kernel_rfl) (by kernel_rfl) ?q188 (Or.inl ⟨?w188, ?y188⟩) hHeld ?r188
      case h188 => simp only [zA, zB, zC] <;> exact rfl
      case q188 => exact fun _ _ _ h => h
      case w188 => rfl
      case y188 =>
        intro w hSw
        (try dsimp only at hSw)
        obtain ⟨o0, o3, cb, c2⟩ := hSw
        go_simp
        try with_reducible rfl
      try simp only [zP, zN, zS, zT, zU]
      refine wpAnyH_take (i := 8) (oi := ?oi189) (v := ?vi189) ?h189 (by kernel_rfl) (by kernel_rfl) (by kernel_rfl) ?q189 (Or.inl ⟨?w189, ?y189⟩) hHeld ?r189
      case h189 => simp only [zA, zB, zC] <;> exact rfl
      case q189 => exact fun _ _ _ h => h
      case w189 => rfl
      case y189 =>
        intro w hSw
        (try dsimp only at hSw)
        obtain ⟨o0, o3, cb, c2⟩ := hSw
        go_simp
        try with_reducible rfl
      try simp only [zP, zN, zS, zT, zU]
      refine wpAnyH_take (i := 9) (oi := ?oi190) (v := ?vi190) ?h190 (by kernel_rfl) (by kernel_rfl) (by kernel_rfl) ?q190 (Or.inl ⟨?w190, ?y190⟩) hHeld ?r190
      case h190 => simp only [zA, zB, zC] <;> exact rfl
      case q190 => exact fun _ _ _ h => h
      case w190 => rfl
      case y190 =>
        intro w hSw
        (try dsimp only at hSw)
        obtain ⟨o0, o3, cb, c2⟩ := hSw
        go_simp
        try with_reducible rfl
      try simp only [zP, zN, zS, zT, zU]
      refine wpAnyH_take (i := 10) (oi := ?oi191) (v := ?vi191) ?h191 (by kernel_rfl) (by kernel_rfl) (by kernel_rfl) ?q191 (Or.inl ⟨?w191, ?y191⟩) hHeld ?r191
      case h191 => simp only [zA, zB, zC] <;> exact rfl
      case q191 => exact fun _ _ _ h => h
      case w191 => rfl
      case y191 =>
        intro w hSw
        (try dsimp only at hSw)
        obtain ⟨o0, o3, cb, c2⟩ := hSw
        go_simp
        try with_reducible rfl
      try simp only [zP, zN, zS, zT, zU]
      refine wpAnyH_take (i := 11) (oi := ?oi192) (v := ?vi192) ?h192 (by kernel_rfl) (by kernel_rfl) (by kernel_rfl) ?q192 (Or.inl ⟨?w192, ?y192⟩) hHeld ?r192
      case h192 => simp only [zA, zB, zC] <;> exact rfl
      case q192 => exact fun _ _ _ h => h
      case w192 => rfl
      case y192 =>
        intro w hSw
        (try dsimp only at hSw)
        obtain ⟨o0, o3, cb, c2⟩ := hSw
        go_simp
        try with_reducible rfl
      try simp only [zP, zN, zS, zT, zU]
      refine wpAnyH_take (i := 12) (oi := ?oi193) (v := undef) ?h193 (by kernel_rfl) (by kernel_rfl) (by kernel_rfl) ?q193 (Or.inr ⟨?w193, rfl⟩) hHeld ?r193
      case h193 => simp only [zA, zB, zC] <;> exact rfl
      case q193 => exact fun _ _ _ h => h
      case w193 => rfl
      try simp only [zP, zN, zS, zT, zU]
      refine wpAnyH_take (i := 13) (oi := ?oi194) (v := undef) ?h194 (by kernel_rfl) (by kernel_rfl) (by kernel_rfl) ?q194 (Or.inr ⟨?w194, rfl⟩) hHeld ?r194
      case h194 => simp only [zA, zB, zC] <;> exact rfl
      case q194 => exact fun _ _ _ h => h
      case w194 => rfl
      try simp only [zP, zN, zS, zT, zU]
      refine wpAnyH_take (i := 14) (oi := ?oi195) (v := undef) ?h195 (by kernel_rfl) (by kernel_rfl) (by kernel_rfl) ?q195 (Or.inr ⟨?w195, rfl⟩) hHeld ?r195
      case h195 => simp only [zA, zB, zC] <;> exact rfl
      case q195 => exact fun _ _ _ h => h
      case w195 => rfl
      try simp only [zP, zN, zS, zT, zU]
      refine wpAnyH_take (i := 15) (oi := ?oi196) (v := undef) ?h196 (by kernel_rfl) (by kernel_rfl) (by kernel_rfl) ?q196 (Or.inr ⟨?w196, rfl⟩) hHeld ?r196
      case h196 => simp only [zA, zB, zC] <;> exact rfl
      case q196 => exact fun _ _ _ h => h
      case w196 => rfl
      try simp only [zP, zN, zS, zT, zU]
      refine wpAnyH_take (i := 16) (oi := ?oi197) (v := undef) ?h197 (by kernel_rfl) (by kernel_rfl) (by kernel_rfl) ?q197 (Or.inr ⟨?w197, rfl⟩) hHeld ?r197
      case h197 => simp only [zA, zB, zC] <;> exact rfl
      case q197 => exact fun _ _ _ h => h
      case w197 => rfl
      try simp only [zP, zN, zS, zT, zU]
      refine wpAnyH_take (i := 17) (oi := ?oi198) (v := undef) ?h198 (by kernel_rfl) (by kernel_rfl) (by kernel_rfl) ?q198 (Or.inr ⟨?w198, rfl⟩) hHeld ?r198
      case h198 => simp only [zA, zB, zC] <;> exact rfl
      case q198 => exact fun _ _ _ h => h
      case w198 => rfl
      try simp only [zP, zN, zS, zT, zU]
      refine wpAnyH_take (i := 18) (oi := ?oi199) (v := undef) ?h199 (by kernel_rfl) (by kernel_rfl) (by kernel_rfl) ?q199 (Or.inr ⟨?w199, rfl⟩) hHeld ?r199
      case h199 => simp only [zA, zB, zC] <;> exact rfl
      case q199 => exact fun _ _ _ h => h
      case w199 => rfl
      try simp only [zP, zN, zS, zT, zU]
      refine wpAnyH_take (i := 19) (oi := ?oi200) (v := undef) ?h200 (by kernel_rfl) (by kernel_rfl) (by kernel_rfl) ?q200 (Or.inr ⟨?w200, rfl⟩) hHeld ?r200
      case h200 => simp only [zA, zB, zC] <;> exact rfl
      case q200 => exact fun _ _ _ h => h
      case w200 => rfl
      try simp only [zP, zN, zS, zT, zU]
      refine wpAnyH_take (i := 20) (oi := ?oi201) (v := undef) ?h201 (by kernel_rfl) (by kernel_rfl) (by kernel_rfl) ?q201 (Or.inr ⟨?w201, rfl⟩) hHeld ?r201
      case h201 => simp only [zA, zB, zC] <;> exact rfl
      case q201 => exact fun _ _ _ h => h
      case w201 => rfl
      try simp only [zP, zN, zS, zT, zU]
      refine wpAnyH_take (i := 21) (oi := ?oi202) (v := undef) ?h202 (by kernel_rfl) (by kernel_rfl) (by kernel_rfl) ?q202 (Or.inr ⟨?w202, rfl⟩) hHeld ?r202
      case h202 => simp only [zA, zB, zC] <;> exact rfl
      case q202 => exact fun _ _ _ h => h
      case w202 => rfl
      try simp only [zP, zN, zS, zT, zU]
      refine wpAnyH_take (i := 22) (oi := ?oi203) (v := undef) ?h203 (by kernel_rfl) (by kernel_rfl) (by kernel_rfl) ?q203 (Or.inr ⟨?w203, rfl⟩) hHeld ?r203
      case h203 => simp only [zA, zB, zC] <;> exact rfl
      case q203 => exact fun _ _ _ h => h
      case w203 => rfl
      try simp only [zP, zN, zS, zT, zU]
      refine wpAnyH_take (i := 23) (oi := ?oi204) (v := ?vi204) ?h204 (by kernel_rfl) (by kernel_rfl) (by kernel_rfl) ?q204 (Or.inl ⟨?w204, ?y204⟩) hHeld ?r204
      case h204 => simp only [zA, zB, zC] <;> exact rfl
      case q204 => exact fun _ _ _ h => h
      case w204 => rfl
      case y204 =>
        intro w hSw
        (try dsimp only at hSw)
        obtain ⟨o0, o3, cb, c2⟩ := hSw
        go_simp
        try with_reducible rfl
      try simp only [zP, zN, zS, zT, zU]
      refine wpAnyH_done (by kernel_rfl) ?_ _
      clear hHeld
      have gc := F4.out.1.cell HA.out.2.1 (fun h => h)
      obtain ⟨o0, o1, o2, o3, o4, o5⟩ := box6 (F4.out.2.heap HX.out.2.1.op (fun h => h))
      obtain ⟨re, rp, rd, rv, rn⟩ := r'
      have hdo := HDO.out _ F4.out.1
      rw [← HC.out] at hdo
      have HDC := Lib.hid hdo
      clear hdo HDO HC HS4 F2
      go_wp2_with fail
      rw [hen _ _]
      go_wp2_with fail
      refine HDC.out.mono ?_
      intro e w5 hM
      obtain ⟨nv, G', cap', rfl, ho, ht, hg⟩ := hM.ex
      have hfw := hM.fp
      have hnG : ∀ k, ownT b G k → k < w.heap.size := fun k hk => by
        rcases hk with hk | hk
        · rw [hk]; exact HX.out.1.lt
        · rw [hk]; exact HX.out.1.row.lt
      have hb5 := (HX.out.2.1.non F4.out.2).keep hfw (fun k hk => .inl (hnG k hk))
      have h4s : w.heap.size + 2 ≤ w4.heap.size := Nat.le_trans HX.out.2.1.sz F4.out.2.size
      have hf5 : Fp (ownT b G) w w5 := (F4.out.1.any (S := ownT b G)).same hfw
      have hnv := fun k e => (ho.1.lt k e).1
      have HNV := Lib.hid (show nv.ownBlock = some (w.heap.size + 1) → False from fun e => by have := hnv _ e; omega)
      have HGN := Lib.hid (And.intro (show b ≠ w.heap.size + 1 by have := hnG b (.inl rfl); omega) (show G' ≠ w.heap.size + 1 by
        rcases hg with e | e
        · have := hnG G (.inr rfl); omega
        · have : w4.heap.size ≤ G' := e; omega))
      have HG2 := Lib.hid (show G' = G ∨ w.heap.size ≤ G' by
        rcases hg with e | e
        · exact .inl e
        · exact .inr (by have : w4.heap.size ≤ G' := e; omega))
      have ho2 : Own w.heap.size w5 nv rn := ho.low F4.out.1.size
      obtain ⟨vao, vcap, hvs⟩ := ho2.shape
      have HE := Lib.hid (And.intro hb5.res (And.intro hf5 (And.intro ht ho2)))
      unfold strV
      obtain ⟨r0, r1, r2, r3, r4⟩ := (hb5).r
      have z0 := (hb5).fz 0; have z1 := (hb5).fz 1; have z2 := (hb5).fz 2; have z3 := (hb5).fz 3; have z4 := (hb5).fz 4
      clear hM hfw hnG hb5 h4s hf5 hnv hg ho ht ho2 HDC gc o0 o1 o2 o3 o4 o5
      subst hvs
      generalize w5 = W5 at *
      go_wp2
      have hT9 := HE.out.2.2.1.keep (fp5 (S := fun k => k = w.heap.size + 1) (Fp.refl _ W5) (b := w.heap.size + 1) (.inl rfl) (.int .i64 re) (.string (B rp)) (.string (B rd)) (.int .i64 rv) (.slice vao rn.length vcap)) (fun e => HGN.out.1 e) (fun e => HGN.out.2 e)
      have HO9 := own5 HE.out.2.2.2 (b := w.heap.size + 1) (fun e => HNV.out e) (.int .i64 re) (.string (B rp)) (.string (B rd)) (.int .i64 rv) (.slice vao rn.length vcap)
      have hw9 := set5 HE.out.1 (.int .i64 re) (.string (B rp)) (.string (B rd)) (.int .i64 rv) (.slice vao rn.length vcap)
      have hf9 := fp5 (S := ownT b G) HE.out.2.1 (b := w.heap.size + 1) (.inr (by omega)) (.int .i64 re) (.string (B rp)) (.string (B rd)) (.int .i64 rv) (.slice vao rn.length vcap)
      generalize (((((World.setCell W5 _ _).setCell _ _).setCell _ _).setCell _ _).setCell _ _) = w9 at *
      have s0 := cell_of_row _ (w.heap.size + 1) 0 _ _ _ hw9
      have s1 := cell_of_row _ (w.heap.size + 1) 1 _ _ _ hw9
      have s2 := cell_of_row _ (w.heap.size + 1) 2 _ _ _ hw9
      have s3 := cell_of_row _ (w.heap.size + 1) 3 _ _ _ hw9
      have s4 := cell_of_row _ (w.heap.size + 1) 4 _ _ _ hw9
      simp only [zA, zB, zC] at s0 s1 s2 s3 s4
      exact bodyPost_ret (v := .agg #[.int .i64 re, .string (B rp), .string (B rd), .int .i64 rv, .slice vao rn.length vcap]) (by simp [results, Tryz.results52, go_sem, s0, s1, s2, s3, s4]) rfl (MeR.of (r := ⟨re, rp, rd, rv, rn⟩) (nv := .slice vao rn.length vcap) hT9 HG2.out hf9 HO9)
    · have q3 : (v == -1) = false := beq_eq_false_iff_ne.2 hv1
      have q4 : (v = -1) = False := eq_false hv1
      have q7 : (v != -1) = true := by rw [bne, q3]; rfl
      by_cases hv2 : v = xv
      · have q5 : (v == xv) = true := beq_iff_eq.2 hv2
        have q6 : (v = xv) = True := eq_true hv2
        have q8 : (v != xv) = false := by rw [bne, q5]; rfl
        have HC : Hid ((l', r') = doit l ⟨3, p, d, v, ow, t⟩ ⟨xp, xd, xv, xt, xo⟩) := by have hcr := HHC.out; rw [if_neg (fun k => k.2.2 hv2)] at hcr; exact hcr
        clear HHC hv1 hv2
        go_wp2_with fail
        refine wp_region_held_drew (S := (fun w' => w'.cell? ⟨w.heap.size, 0, none⟩ = some (.int .i64 3) ∧ w'.cell? ⟨w.heap.size, 3, none⟩ = some (.int .i64 v) ∧ w'.cell? ⟨b, 0, none⟩ = some (.slice (some ⟨G, 0, none⟩) n cap) ∧ w'.cell? ⟨G, at_ * 5 + 2, none⟩ = some (.int .i64 xv))) (by kernel_rfl) ?_ (fun hHeld => ?_)
        · exact ⟨(Fp.refl Non _).drew.cell o0 (fun h => h), (Fp.refl Non _).drew.cell o3 (fun h => h), (Fp.refl Non _).drew.cell cb (fun h => h), (Fp.refl Non _).drew.cell c2 (fun h => h)⟩
        have HSD := Lib.hid (fun w9 (hf : Fp Non w2.drew w9) => And.intro (hf.cell ((Fp.refl Non w2).drew.cell o0 (fun h => h)) (fun h => h)) (And.intro (hf.cell ((Fp.refl Non w2).drew.cell o3 (fun h => h)) (fun h => h)) (And.intro (hf.cell ((Fp.refl Non w2).drew.cell cb (fun h => h)) (fun h => h)) (hf.cell ((Fp.refl Non w2).drew.cell c2 (fun h => h)) (fun h => h)))))
        have F3 := Lib.hid (And.intro F2.out.1.drew F2.out.2.drew)
        clear o0 o3 cb c2
        generalize w2.drew = w3 at *
        refine wpAnyH_take (i := 1) (oi := ?oi205) (v := ?vi205) ?h205 (by kernel_rfl) (by kernel_rfl) (by kernel_rfl) ?q205 (Or.inl ⟨?w205, ?y205⟩) hHeld ?r205
        case h205 => simp only [zA, zB, zC] <;> exact rfl
        case q205 => exact fun _ _ _ h => h
        case w205 => rfl
        case y205 =>
          intro w hSw
          (try dsimp only at hSw)
          obtain ⟨o0, o3, cb, c2⟩ := hSw
          go_simp
          try with_reducible rfl
        try simp only [zP, zN, zS, zT, zU]
        refine wpAnyH_take (i := 2) (oi := ?oi206) (v := ?vi206) ?h206 (by kernel_rfl) (by kernel_rfl) (by kernel_rfl) ?q206 (Or.inl ⟨?w206, ?y206⟩) hHeld ?r206
        case h206 => simp only [zA, zB, zC] <;> exact rfl
        case q206 => exact fun _ _ _ h => h
        case w206 => rfl
        case y206 =>
          intro w hSw
          (try dsimp only at hSw)
          obtain ⟨o0, o3, cb, c2⟩ := hSw
          go_simp
          try with_reducible rfl
        try simp only [zP, zN, zS, zT, zU]
        refine wpAnyH_ready (rs := [0]) (by kernel_rfl) (by simp) ?_
        refine AllReadyH.cons (o := ?ob207) ?hb207 (fun K hK => ?_) AllReadyH.nil
        case hb207 => simp only [zA, zB, zC] <;> exact rfl
        go_simp
        go_at_call 32
        refine (fields_c _).mono ?_
        rintro e w4 ⟨rfl, hf4⟩
        have HS4 := Lib.hid (HSD.out w4 hf4)
        have F4 := Lib.hid (And.intro (F3.out.1.then hf4) (F3.out.2.then hf4))
        clear hf4 HSD F3
        go_wp2_with fail
        refine hK.out _ _ HS4.out (fun hHeld => ?_)
        clear hK K
        try simp only [zP, zN, zS, zT, zU]
        refine wpAnyH_take (i := 3) (oi := ?oi208) (v := ?vi208) ?h208 (by kernel_rfl) (by kernel_rfl) (by kernel_rfl) ?q208 (Or.inl ⟨?w208, ?y208⟩) hHeld ?r208
        case h208 => simp only [zA, zB, zC] <;> exact rfl
        case q208 => exact fun _ _ _ h => h
        case w208 => rfl
        case y208 =>
          intro w hSw
          (try dsimp only at hSw)
          obtain ⟨o0, o3, cb, c2⟩ := hSw
          go_simp
          try with_reducible rfl
        try simp only [zP, zN, zS, zT, zU]
        refine wpAnyH_take (i := 4) (oi := ?oi209) (v := ?vi209) ?h209 (by kernel_rfl) (by kernel_rfl) (by kernel_rfl) ?q209 (Or.inl ⟨?w209, ?y209⟩) hHeld ?r209
        case h209 => simp only [zA, zB, zC] <;> exact rfl
        case q209 => exact fun _ _ _ h => h
        case w209 => rfl
        case y209 =>
          intro w hSw
          (try dsimp only at hSw)
          obtain ⟨o0, o3, cb, c2⟩ := hSw
          go_simp
          try with_reducible rfl
        try simp only [zP, zN, zS, zT, zU]
        refine wpAnyH_take (i := 5) (oi := ?oi210) (v := ?vi210) ?h210 (by kernel_rfl) (by kernel_rfl) (by kernel_rfl) ?q210 (Or.inl ⟨?w210, ?y210⟩) hHeld ?r210
        case h210 => simp only [zA, zB, zC] <;> exact rfl
        case q210 => exact fun _ _ _ h => h
        case w210 => rfl
        case y210 =>
          intro w hSw
          (try dsimp only at hSw)
          obtain ⟨o0, o3, cb, c2⟩ := hSw
          go_simp
          try with_reducible rfl
        try simp only [zP, zN, zS, zT, zU]
        refine wpAnyH_take (i := 6) (oi := ?oi211) (v := ?vi211) ?h211 (by kernel_rfl) (by kernel_rfl) (by kernel_rfl) ?q211 (Or.inl ⟨?w211, ?y211⟩) hHeld ?r211
        case h211 => simp only [zA, zB, zC] <;> exact rfl
        case q211 => exact fun _ _ _ h => h
        case w211 => rfl
        case y211 =>
          intro w hSw
          (try dsimp only at hSw)
          obtain ⟨o0, o3, cb, c2⟩ := hSw
          go_simp
          try with_reducible rfl
        try simp only [zP, zN, zS, zT, zU]
        refine wpAnyH_take (i := 7) (oi := ?oi212) (v := ?vi212) ?h212 (by kernel_rfl) (by kernel_rfl) (by kernel_rfl) ?q212 (Or.inl ⟨?w212, ?y212⟩) hHeld ?r212
        case h212 => simp only [zA, zB, zC] <;> exact rfl
        case q212 => exact fun _ _ _ h => h
        case w212 => rfl
        case y212 =>
          intro w hSw
          (try dsimp only at hSw)
          obtain ⟨o0, o3, cb, c2⟩ := hSw
          go_simp
          try with_reducible rfl
        try simp only [zP, zN, zS, zT, zU]
        refine wpAnyH_take (i := 8) (oi := ?oi213) (v := ?vi213) ?h213 (by kernel_rfl) (by kernel_rfl) (by kernel_rfl) ?q213 (Or.inl ⟨?w213, ?y213⟩) hHeld ?r213
        case h213 => simp only [zA, zB, zC] <;> exact rfl
        case q213 => exact fun _ _ _ h => h
        case w213 => rfl
        case y213 =>
          intro w hSw
          (try dsimp only at hSw)
          obtain ⟨o0, o3, cb, c2⟩ := hSw
          go_simp
          try with_reducible rfl
        try simp only [zP, zN, zS, zT, zU]
        refine wpAnyH_take (i := 9) (oi := ?oi214) (v := ?vi214) ?h214 (by kernel_rfl) (by kernel_rfl) (by kernel_rfl) ?q214 (Or.inl ⟨?w214, ?y214⟩) hHeld ?r214
        case h214 => simp only [zA, zB, zC] <;> exact rfl
        case q214 => exact fun _ _ _ h => h
        case w214 => rfl
        case y214 =>
          intro w hSw
          (try dsimp only at hSw)
          obtain ⟨o0, o3, cb, c2⟩ := hSw
          go_simp
          try with_reducible rfl
        try simp only [zP, zN, zS, zT, zU]
        refine wpAnyH_take (i := 10) (oi := ?oi215) (v := ?vi215) ?h215 (by kernel_rfl) (by kernel_rfl) (by kernel_rfl) ?q215 (Or.inl ⟨?w215, ?y215⟩) hHeld ?r215
        case h215 => simp only [zA, zB, zC] <;> exact rfl
        case q215 => exact fun _ _ _ h => h
        case w215 => rfl
        case y215 =>
          intro w hSw
          (try dsimp only at hSw)
          obtain ⟨o0, o3, cb, c2⟩ := hSw
          go_simp
          try with_reducible rfl
        try simp only [zP, zN, zS, zT, zU]
        refine wpAnyH_take (i := 11) (oi := ?oi216) (v := ?vi216) ?h216 (by kernel_rfl) (by kernel_rfl) (by kernel_rfl) ?q216 (Or.inl ⟨?w216, ?y216⟩) hHeld ?r216
        case h216 => simp only [zA, zB, zC] <;> exact rfl
        case q216 => exact fun _ _ _ h => h
        case w216 => rfl
        case y216 =>
          intro w hSw
          (try dsimp only at hSw)
          obtain ⟨o0, o3, cb, c2⟩ := hSw
          go_simp
          try with_reducible rfl
        try simp only [zP, zN, zS, zT, zU]
        refine wpAnyH_take (i := 12) (oi := ?oi217) (v := ?vi217) ?h217 (by kernel_rfl) (by kernel_rfl) (by kernel_rfl) ?q217 (Or.inl ⟨?w217, ?y217⟩) hHeld ?r217
        case h217 => simp only [zA, zB, zC] <;> exact rfl
        case q217 => exact fun _ _ _ h => h
        case w217 => rfl
        case y217 =>
          intro w hSw
          (try dsimp only at hSw)
          obtain ⟨o0, o3, cb, c2⟩ := hSw
          go_simp
          try with_reducible rfl
        try simp only [zP, zN, zS, zT, zU]
        refine wpAnyH_take (i := 13) (oi := ?oi218) (v := ?vi218) ?h218 (by kernel_rfl) (by kernel_rfl) (by kernel_rfl) ?q218 (Or.inl ⟨?w218, ?y218⟩) hHeld ?r218
        case h218 => simp only [zA, zB, zC] <;> exact rfl
        case q218 => exact fun _ _ _ h => h
        case w218 => rfl
        case y218 =>
          intro w hSw
          (try dsimp only at hSw)
          obtain ⟨o0, o3, cb, c2⟩ := hSw
          go_simp
          try with_reducible rfl
        try simp only [zP, zN, zS, zT, zU]
        refine wpAnyH_take (i := 14) (oi := ?oi219) (v := ?vi219) ?h219 (by kernel_rfl) (by kernel_rfl) (by kernel_rfl) ?q219 (Or.inl ⟨?w219, ?y219⟩) hHeld ?r219
        case h219 => simp only [zA, zB, zC] <;> exact rfl
        case q219 => exact fun _ _ _ h => h
        case w219 => rfl
        case y219 =>
          intro w hSw
          (try dsimp only at hSw)
          obtain ⟨o0, o3, cb, c2⟩ := hSw
          go_simp
          try with_reducible rfl
        try simp only [zP, zN, zS, zT, zU]
        refine wpAnyH_take (i := 15) (oi := ?oi220) (v := ?vi220) ?h220 (by kernel_rfl) (by kernel_rfl) (by kernel_rfl) ?q220 (Or.inl ⟨?w220, ?y220⟩) hHeld ?r220
        case h220 => simp only [zA, zB, zC] <;> exact rfl
        case q220 => exact fun _ _ _ h => h
        case w220 => rfl
        case y220 =>
          intro w hSw
          (try dsimp only at hSw)
          obtain ⟨o0, o3, cb, c2⟩ := hSw
          go_simp
          try with_reducible rfl
        try simp only [zP, zN, zS, zT, zU]
        refine wpAnyH_take (i := 16) (oi := ?oi221) (v := ?vi221) ?h221 (by kernel_rfl) (by kernel_rfl) (by kernel_rfl) ?q221 (Or.inl ⟨?w221, ?y221⟩) hHeld ?r221
        case h221 => simp only [zA, zB, zC] <;> exact rfl
        case q221 => exact fun _ _ _ h => h
        case w221 => rfl
        case y221 =>
          intro w hSw
          (try dsimp only at hSw)
          obtain ⟨o0, o3, cb, c2⟩ := hSw
          go_simp
          try with_reducible rfl
        try simp only [zP, zN, zS, zT, zU]
        refine wpAnyH_take (i := 17) (oi := ?oi222) (v := ?vi222) ?h222 (by kernel_rfl) (by kernel_rfl) (by kernel_rfl) ?q222 (Or.inl ⟨?w222, ?y222⟩) hHeld ?r222
        case h222 => simp only [zA, zB, zC] <;> exact rfl
        case q222 => exact fun _ _ _ h => h
        case w222 => rfl
        case y222 =>
          intro w hSw
          (try dsimp only at hSw)
          obtain ⟨o0, o3, cb, c2⟩ := hSw
          go_simp
          try with_reducible rfl
        try simp only [zP, zN, zS, zT, zU]
        refine wpAnyH_take (i := 18) (oi := ?oi223) (v := ?vi223) ?h223 (by kernel_rfl) (by kernel_rfl) (by kernel_rfl) ?q223 (Or.inl ⟨?w223, ?y223⟩) hHeld ?r223
        case h223 => simp only [zA, zB, zC] <;> exact rfl
        case q223 => exact fun _ _ _ h => h
        case w223 => rfl
        case y223 =>
          intro w hSw
          (try dsimp only at hSw)
          obtain ⟨o0, o3, cb, c2⟩ := hSw
          go_simp
          try with_reducible rfl
        try simp only [zP, zN, zS, zT, zU]
        refine wpAnyH_take (i := 19) (oi := ?oi224) (v := ?vi224) ?h224 (by kernel_rfl) (by kernel_rfl) (by kernel_rfl) ?q224 (Or.inl ⟨?w224, ?y224⟩) hHeld ?r224
        case h224 => simp only [zA, zB, zC] <;> exact rfl
        case q224 => exact fun _ _ _ h => h
        case w224 => rfl
        case y224 =>
          intro w hSw
          (try dsimp only at hSw)
          obtain ⟨o0, o3, cb, c2⟩ := hSw
          go_simp
          try with_reducible rfl
        try simp only [zP, zN, zS, zT, zU]
        refine wpAnyH_take (i := 20) (oi := ?oi225) (v := ?vi225) ?h225 (by kernel_rfl) (by kernel_rfl) (by kernel_rfl) ?q225 (Or.inl ⟨?w225, ?y225⟩) hHeld ?r225
        case h225 => simp only [zA, zB, zC] <;> exact rfl
        case q225 => exact fun _ _ _ h => h
        case w225 => rfl
        case y225 =>
          intro w hSw
          (try dsimp only at hSw)
          obtain ⟨o0, o3, cb, c2⟩ := hSw
          go_simp
          try with_reducible rfl
        try simp only [zP, zN, zS, zT, zU]
        refine wpAnyH_take (i := 21) (oi := ?oi226) (v := ?vi226) ?h226 (by kernel_rfl) (by kernel_rfl) (by kernel_rfl) ?q226 (Or.inl ⟨?w226, ?y226⟩) hHeld ?r226
        case h226 => simp only [zA, zB, zC] <;> exact rfl
        case q226 => exact fun _ _ _ h => h
        case w226 => rfl
        case y226 =>
          intro w hSw
          (try dsimp only at hSw)
          obtain ⟨o0, o3, cb, c2⟩ := hSw
          go_simp
          try with_reducible rfl
        try simp only [zP, zN, zS, zT, zU]
        refine wpAnyH_take (i := 22) (oi := ?oi227) (v := ?vi227) ?h227 (by kernel_rfl) (by kernel_rfl) (by kernel_rfl) ?q227 (Or.inl ⟨?w227, ?y227⟩) hHeld ?r227
        case h227 => simp only [zA, zB, zC] <;> exact rfl
        case q227 => exact fun _ _ _ h => h
        case w227 => rfl
        case y227 =>
          intro w hSw
          (try dsimp only at hSw)
          obtain ⟨o0, o3, cb, c2⟩ := hSw
          go_simp
          try with_reducible rfl
        try simp only [zP, zN, zS, zT, zU]
        refine wpAnyH_take (i := 23) (oi := ?oi228) (v := ?vi228) ?h228 (by kernel_rfl) (by kernel_rfl) (by kernel_rfl) ?q228 (Or.inl ⟨?w228, ?y228⟩) hHeld ?r228
        case h228 => simp only [zA, zB, zC] <;> exact rfl
        case q228 => exact fun _ _ _ h => h
        case w228 => rfl
        case y228 =>
          intro w hSw
          (try dsimp only at hSw)
          obtain ⟨o0, o3, cb, c2⟩ := hSw
          go_simp
          try with_reducible rfl
        try simp only [zP, zN, zS, zT, zU]
        refine wpAnyH_done (by kernel_rfl) ?_ _
        clear hHeld
        have gc := F4.out.1.cell HA.out.2.1 (fun h => h)
        obtain ⟨o0, o1, o2, o3, o4, o5⟩ := box6 (F4.out.2.heap HX.out.2.1.op (fun h => h))
        obtain ⟨re, rp, rd, rv, rn⟩ := r'
        have hdo := HDO.out _ F4.out.1
        rw [← HC.out] at hdo
        have HDC := Lib.hid hdo
        clear hdo HDO HC HS4 F2
        go_wp2_with fail
        rw [hen _ _]
        go_wp2_with fail
        refine HDC.out.mono ?_
        intro e w5 hM
        obtain ⟨nv, G', cap', rfl, ho, ht, hg⟩ := hM.ex
        have hfw := hM.fp
        have hnG : ∀ k, ownT b G k → k < w.heap.size := fun k hk => by
          rcases hk with hk | hk
          · rw [hk]; exact HX.out.1.lt
          · rw [hk]; exact HX.out.1.row.lt
        have hb5 := (HX.out.2.1.non F4.out.2).keep hfw (fun k hk => .inl (hnG k hk))
        have h4s : w.heap.size + 2 ≤ w4.heap.size := Nat.le_trans HX.out.2.1.sz F4.out.2.size
        have hf5 : Fp (ownT b G) w w5 := (F4.out.1.any (S := ownT b G)).same hfw
        have hnv := fun k e => (ho.1.lt k e).1
        have HNV := Lib.hid (show nv.ownBlock = some (w.heap.size + 1) → False from fun e => by have := hnv _ e; omega)
        have HGN := Lib.hid (And.intro (show b ≠ w.heap.size + 1 by have := hnG b (.inl rfl); omega) (show G' ≠ w.heap.size + 1 by
          rcases hg with e | e
          · have := hnG G (.inr rfl); omega
          · have : w4.heap.size ≤ G' := e; omega))
        have HG2 := Lib.hid (show G' = G ∨ w.heap.size ≤ G' by
          rcases hg with e | e
          · exact .inl e
          · exact .inr (by have : w4.heap.size ≤ G' := e; omega))
        have ho2 : Own w.heap.size w5 nv rn := ho.low F4.out.1.size
        obtain ⟨vao, vcap, hvs⟩ := ho2.shape
        have HE := Lib.hid (And.intro hb5.res (And.intro hf5 (And.intro ht ho2)))
        unfold strV
        obtain ⟨r0, r1, r2, r3, r4⟩ := (hb5).r
        have z0 := (hb5).fz 0; have z1 := (hb5).fz 1; have z2 := (hb5).fz 2; have z3 := (hb5).fz 3; have z4 := (hb5).fz 4
        clear hM hfw hnG hb5 h4s hf5 hnv hg ho ht ho2 HDC gc o0 o1 o2 o3 o4 o5
        subst hvs
        generalize w5 = W5 at *
        go_wp2
        have hT9 := HE.out.2.2.1.keep (fp5 (S := fun k => k = w.heap.size + 1) (Fp.refl _ W5) (b := w.heap.size + 1) (.inl rfl) (.int .i64 re) (.string (B rp)) (.string (B rd)) (.int .i64 rv) (.slice vao rn.length vcap)) (fun e => HGN.out.1 e) (fun e => HGN.out.2 e)
        have HO9 := own5 HE.out.2.2.2 (b := w.heap.size + 1) (fun e => HNV.out e) (.int .i64 re) (.string (B rp)) (.string (B rd)) (.int .i64 rv) (.slice vao rn.length vcap)
        have hw9 := set5 HE.out.1 (.int .i64 re) (.string (B rp)) (.string (B rd)) (.int .i64 rv) (.slice vao rn.length vcap)
        have hf9 := fp5 (S := ownT b G) HE.out.2.1 (b := w.heap.size + 1) (.inr (by omega)) (.int .i64 re) (.string (B rp)) (.string (B rd)) (.int .i64 rv) (.slice vao rn.length vcap)
        generalize (((((World.setCell W5 _ _).setCell _ _).setCell _ _).setCell _ _).setCell _ _) = w9 at *
        have s0 := cell_of_row _ (w.heap.size + 1) 0 _ _ _ hw9
        have s1 := cell_of_row _ (w.heap.size + 1) 1 _ _ _ hw9
        have s2 := cell_of_row _ (w.heap.size + 1) 2 _ _ _ hw9
        have s3 := cell_of_row _ (w.heap.size + 1) 3 _ _ _ hw9
        have s4 := cell_of_row _ (w.heap.size + 1) 4 _ _ _ hw9
        simp only [zA, zB, zC] at s0 s1 s2 s3 s4
        exact bodyPost_ret (v := .agg #[.int .i64 re, .string (B rp), .string (B rd), .int .i64 rv, .slice vao rn.length vcap]) (by simp [results, Tryz.results52, go_sem, s0, s1, s2, s3, s4]) rfl (MeR.of (r := ⟨re, rp, rd, rv, rn⟩) (nv := .slice vao rn.length vcap) hT9 HG2.out hf9 HO9)
      · have q5 : (v == xv) = false := beq_eq_false_iff_ne.2 hv2
        have q6 : (v = xv) = False := eq_false hv2
        have q8 : (v != xv) = true := by rw [bne, q5]; rfl
        have HC := Lib.hid (show l' = l ∧ r' = .bad 63 from by have hcr := HHC.out; rw [if_pos ⟨trivial, hv1, hv2⟩] at hcr; injection hcr with a b; exact ⟨a, b⟩)
        clear HHC hv1 hv2
        go_wp2_with fail
        refine wp_region_held_drew (S := (fun w' => w'.cell? ⟨w.heap.size, 0, none⟩ = some (.int .i64 3) ∧ w'.cell? ⟨w.heap.size, 3, none⟩ = some (.int .i64 v) ∧ w'.cell? ⟨b, 0, none⟩ = some (.slice (some ⟨G, 0, none⟩) n cap) ∧ w'.cell? ⟨G, at_ * 5 + 2, none⟩ = some (.int .i64 xv))) (by kernel_rfl) ?_ (fun hHeld => ?_)
        · exact ⟨(Fp.refl Non _).drew.cell o0 (fun h => h), (Fp.refl Non _).drew.cell o3 (fun h => h), (Fp.refl Non _).drew.cell cb (fun h => h), (Fp.refl Non _).drew.cell c2 (fun h => h)⟩
        have HSD := Lib.hid (fun w9 (hf : Fp Non w2.drew w9) => And.intro (hf.cell ((Fp.refl Non w2).drew.cell o0 (fun h => h)) (fun h => h)) (And.intro (hf.cell ((Fp.refl Non w2).drew.cell o3 (fun h => h)) (fun h => h)) (And.intro (hf.cell ((Fp.refl Non w2).drew.cell cb (fun h => h)) (fun h => h)) (hf.cell ((Fp.refl Non w2).drew.cell c2 (fun h => h)) (fun h => h)))))
        have F3 := Lib.hid (And.intro F2.out.1.drew F2.out.2.drew)
        clear o0 o3 cb c2
        generalize w2.drew = w3 at *
        refine wpAnyH_take (i := 1) (oi := ?oi229) (v := ?vi229) ?h229 (by kernel_rfl) (by kernel_rfl) (by kernel_rfl) ?q229 (Or.inl ⟨?w229, ?y229⟩) hHeld ?r229
        case h229 => simp only [zA, zB, zC] <;> exact rfl
        case q229 => exact fun _ _ _ h => h
        case w229 => rfl
        case y229 =>
          intro w hSw
          (try dsimp only at hSw)
          obtain ⟨o0, o3, cb, c2⟩ := hSw
          go_simp
          try with_reducible rfl
        try simp only [zP, zN, zS, zT, zU]
        refine wpAnyH_take (i := 2) (oi := ?oi230) (v := ?vi230) ?h230 (by kernel_rfl) (by kernel_rfl) (by kernel_rfl) ?q230 (Or.inl ⟨?w230, ?y230⟩) hHeld ?r230
        case h230 => simp only [zA, zB, zC] <;> exact rfl
        case q230 => exact fun _ _ _ h => h
        case w230 => rfl
        case y230 =>
          intro w hSw
          (try dsimp only at hSw)
          obtain ⟨o0, o3, cb, c2⟩ := hSw
          go_simp
          try with_reducible rfl
        try simp only [zP, zN, zS, zT, zU]
        refine wpAnyH_ready (rs := [0]) (by kernel_rfl) (by simp) ?_
        refine AllReadyH.cons (o := ?ob231) ?hb231 (fun K hK => ?_) AllReadyH.nil
        case hb231 => simp only [zA, zB, zC] <;> exact rfl
        go_simp
        go_at_call 32
        refine (fields_c _).mono ?_
        rintro e w4 ⟨rfl, hf4⟩
        have HS4 := Lib.hid (HSD.out w4 hf4)
        have F4 := Lib.hid (And.intro (F3.out.1.then hf4) (F3.out.2.then hf4))
        clear hf4 HSD F3
        go_wp2_with fail
        refine hK.out _ _ HS4.out (fun hHeld => ?_)
        clear hK K
        try simp only [zP, zN, zS, zT, zU]
        refine wpAnyH_take (i := 3) (oi := ?oi232) (v := ?vi232) ?h232 (by kernel_rfl) (by kernel_rfl) (by kernel_rfl) ?q232 (Or.inl ⟨?w232, ?y232⟩) hHeld ?r232
        case h232 => simp only [zA, zB, zC] <;> exact rfl
        case q232 => exact fun _ _ _ h => h
        case w232 => rfl
        case y232 =>
          intro w hSw
          (try dsimp only at hSw)
          obtain ⟨o0, o3, cb, c2⟩ := hSw
          go_simp
          try with_reducible rfl
        try simp only [zP, zN, zS, zT, zU]
        refine wpAnyH_take (i := 4) (oi := ?oi233) (v := ?vi233) ?h233 (by kernel_rfl) (by kernel_rfl) (by kernel_rfl) ?q233 (Or.inl ⟨?w233, ?y233⟩) hHeld ?r233
        case h233 => simp only [zA, zB, zC] <;> exact rfl
        case q233 => exact fun _ _ _ h => h
        case w233 => rfl
        case y233 =>
          intro w hSw
          (try dsimp only at hSw)
          obtain ⟨o0, o3, cb, c2⟩ := hSw
          go_simp
          try with_reducible rfl
        try simp only [zP, zN, zS, zT, zU]
        refine wpAnyH_take (i := 5) (oi := ?oi234) (v := ?vi234) ?h234 (by kernel_rfl) (by kernel_rfl) (by kernel_rfl) ?q234 (Or.inl ⟨?w234, ?y234⟩) hHeld ?r234
        case h234 => simp only [zA, zB, zC] <;> exact rfl
        case q234 => exact fun _ _ _ h => h
        case w234 => rfl
        case y234 =>
          intro w hSw
          (try dsimp only at hSw)
          obtain ⟨o0, o3, cb, c2⟩ := hSw
          go_simp
          try with_reducible rfl
        try simp only [zP, zN, zS, zT, zU]
        refine wpAnyH_take (i := 6) (oi := ?oi235) (v := ?vi235) ?h235 (by kernel_rfl) (by kernel_rfl) (by kernel_rfl) ?q235 (Or.inl ⟨?w235, ?y235⟩) hHeld ?r235
        case h235 => simp only [zA, zB, zC] <;> exact rfl
        case q235 => exact fun _ _ _ h => h
        case w235 => rfl
        case y235 =>
          intro w hSw
          (try dsimp only at hSw)
          obtain ⟨o0, o3, cb, c2⟩ := hSw
          go_simp
          try with_reducible rfl
        try simp only [zP, zN, zS, zT, zU]
        refine wpAnyH_take (i := 7) (oi := ?oi236) (v := ?vi236) ?h236 (by kernel_rfl) (by kernel_rfl) (by kernel_rfl) ?q236 (Or.inl ⟨?w236, ?y236⟩) hHeld ?r236
        case h236 => simp only [zA, zB, zC] <;> exact rfl
        case q236 => exact fun _ _ _ h => h
        case w236 => rfl
        case y236 =>
          intro w hSw
          (try dsimp only at hSw)
          obtain ⟨o0, o3, cb, c2⟩ := hSw
          go_simp
          try with_reducible rfl
        try simp only [zP, zN, zS, zT, zU]
        refine wpAnyH_take (i := 8) (oi := ?oi237) (v := ?vi237) ?h237 (by kernel_rfl) (by kernel_rfl) (by kernel_rfl) ?q237 (Or.inl ⟨?w237, ?y237⟩) hHeld ?r237
        case h237 => simp only [zA, zB, zC] <;> exact rfl
        case q237 => exact fun _ _ _ h => h
        case w237 => rfl
        case y237 =>
          intro w hSw
          (try dsimp only at hSw)
          obtain ⟨o0, o3, cb, c2⟩ := hSw
          go_simp
          try with_reducible rfl
        try simp only [zP, zN, zS, zT, zU]
        refine wpAnyH_take (i := 9) (oi := ?oi238) (v := ?vi238) ?h238 (by kernel_rfl) (by kernel_rfl) (by kernel_rfl) ?q238 (Or.inl ⟨?w238, ?y238⟩) hHeld ?r238
        case h238 => simp only [zA, zB, zC] <;> exact rfl
        case q238 => exact fun _ _ _ h => h
        case w238 => rfl
        case y238 =>
          intro w hSw
          (try dsimp only at hSw)
          obtain ⟨o0, o3, cb, c2⟩ := hSw
          go_simp
          try with_reducible rfl
        try simp only [zP, zN, zS, zT, zU]
        refine wpAnyH_take (i := 10) (oi := ?oi239) (v := ?vi239) ?h239 (by kernel_rfl) (by kernel_rfl) (by kernel_rfl) ?q239 (Or.inl ⟨?w239, ?y239⟩) hHeld ?r239
        case h239 => simp only [zA, zB, zC] <;> exact rfl
        case q239 => exact fun _ _ _ h => h
        case w239 => rfl
        case y239 =>
          intro w hSw
          (try dsimp only at hSw)
          obtain ⟨o0, o3, cb, c2⟩ := hSw
          go_simp
          try with_reducible rfl
        try simp only [zP, zN, zS, zT, zU]
        refine wpAnyH_take (i := 11) (oi := ?oi240) (v := ?vi240) ?h240 (by kernel_rfl) (by kernel_rfl) (by kernel_rfl) ?q240 (Or.inl ⟨?w240, ?y240⟩) hHeld ?r240
        case h240 => simp only [zA, zB, zC] <;> exact rfl
        case q240 => exact fun _ _ _ h => h
        case w240 => rfl
        case y240 =>
          intro w hSw
          (try dsimp only at hSw)
          obtain ⟨o0, o3, cb, c2⟩ := hSw
          go_simp
          try with_reducible rfl
        try simp only [zP, zN, zS, zT, zU]
        refine wpAnyH_take (i := 12) (oi := ?oi241) (v := ?vi241) ?h241 (by kernel_rfl) (by kernel_rfl) (by kernel_rfl) ?q241 (Or.inl ⟨?w241, ?y241⟩) hHeld ?r241
        case h241 => simp only [zA, zB, zC] <;> exact rfl
        case q241 => exact fun _ _ _ h => h
        case w241 => rfl
        case y241 =>
          intro w hSw
          (try dsimp only at hSw)
          obtain ⟨o0, o3, cb, c2⟩ := hSw
          go_simp
          try with_reducible rfl
        try simp only [zP, zN, zS, zT, zU]
        refine wpAnyH_take (i := 13) (oi := ?oi242) (v := ?vi242) ?h242 (by kernel_rfl) (by kernel_rfl) (by kernel_rfl) ?q242 (Or.inl ⟨?w242, ?y242⟩) hHeld ?r242
        case h242 => simp only [zA, zB, zC] <;> exact rfl
        case q242 => exact fun _ _ _ h => h
        case w242 => rfl
        case y242 =>
          intro w hSw
          (try dsimp only at hSw)
          obtain ⟨o0, o3, cb, c2⟩ := hSw
          go_simp
          try with_reducible rfl
        try simp only [zP, zN, zS, zT, zU]
        refine wpAnyH_take (i := 14) (oi := ?oi243) (v := ?vi243) ?h243 (by kernel_rfl) (by kernel_rfl) (by kernel_rfl) ?q243 (Or.inl ⟨?w243, ?y243⟩) hHeld ?r243
        case h243 => simp only [zA, zB, zC] <;> exact rfl
        case q243 => exact fun _ _ _ h => h
        case w243 => rfl
        case y243 =>
          intro w hSw
          (try dsimp only at hSw)
          obtain ⟨o0, o3, cb, c2⟩ := hSw
          go_simp
          try with_reducible rfl
        try simp only [zP, zN, zS, zT, zU]
        refine wpAnyH_take (i := 15) (oi := ?oi244) (v := ?vi244) ?h244 (by kernel_rfl) (by kernel_rfl) (by kernel_rfl) ?q244 (Or.inl ⟨?w244, ?y244⟩) hHeld ?r244
        case h244 => simp only [zA, zB, zC] <;> exact rfl
        case q244 => exact fun _ _ _ h => h
        case w244 => rfl
        case y244 =>
          intro w hSw
          (try dsimp only at hSw)
          obtain ⟨o0, o3, cb, c2⟩ := hSw
          go_simp
          try with_reducible rfl
        try simp only [zP, zN, zS, zT, zU]
        refine wpAnyH_take (i := 16) (oi := ?oi245) (v := ?vi245) ?h245 (by kernel_rfl) (by kernel_rfl) (by kernel_rfl) ?q245 (Or.inl ⟨?w245, ?y245⟩) hHeld ?r245
        case h245 => simp only [zA, zB, zC] <;> exact rfl
        case q245 => exact fun _ _ _ h => h
        case w245 => rfl
        case y245 =>
          intro w hSw
          (try dsimp only at hSw)
          obtain ⟨o0, o3, cb, c2⟩ := hSw
          go_simp
          try with_reducible rfl
        try simp only [zP, zN, zS, zT, zU]
        refine wpAnyH_take (i := 17) (oi := ?oi246) (v := ?vi246) ?h246 (by kernel_rfl) (by kernel_rfl) (by kernel_rfl) ?q246 (Or.inl ⟨?w246, ?y246⟩) hHeld ?r246
        case h246 => simp only [zA, zB, zC] <;> exact rfl
        case q246 => exact fun _ _ _ h => h
        case w246 => rfl
        case y246 =>
          intro w hSw
          (try dsimp only at hSw)
          obtain ⟨o0, o3, cb, c2⟩ := hSw
          go_simp
          try with_reducible rfl
        try simp only [zP, zN, zS, zT, zU]
        refine wpAnyH_take (i := 18) (oi := ?oi247) (v := ?vi247) ?h247 (by kernel_rfl) (by kernel_rfl) (by kernel_rfl) ?q247 (Or.inl ⟨?w247, ?y247⟩) hHeld ?r247
        case h247 => simp only [zA, zB, zC] <;> exact rfl
        case q247 => exact fun _ _ _ h => h
        case w247 => rfl
        case y247 =>
          intro w hSw
          (try dsimp only at hSw)
          obtain ⟨o0, o3, cb, c2⟩ := hSw
          go_simp
          try with_reducible rfl
        try simp only [zP, zN, zS, zT, zU]
        refine wpAnyH_take (i := 19) (oi := ?oi248) (v := ?vi248) ?h248 (by kernel_rfl) (by kernel_rfl) (by kernel_rfl) ?q248 (Or.inl ⟨?w248, ?y248⟩) hHeld ?r248
        case h248 => simp only [zA, zB, zC] <;> exact rfl
        case q248 => exact fun _ _ _ h => h
        case w248 => rfl
        case y248 =>
          intro w hSw
          (try dsimp only at hSw)
          obtain ⟨o0, o3, cb, c2⟩ := hSw
          go_simp
          try with_reducible rfl
        try simp only [zP, zN, zS, zT, zU]
        refine wpAnyH_take (i := 20) (oi := ?oi249) (v := ?vi249) ?h249 (by kernel_rfl) (by kernel_rfl) (by kernel_rfl) ?q249 (Or.inl ⟨?w249, ?y249⟩) hHeld ?r249
        case h249 => simp only [zA, zB, zC] <;> exact rfl
        case q249 => exact fun _ _ _ h => h
        case w249 => rfl
        case y249 =>
          intro w hSw
          (try dsimp only at hSw)
          obtain ⟨o0, o3, cb, c2⟩ := hSw
          go_simp
          try with_reducible rfl
        try simp only [zP, zN, zS, zT, zU]
        refine wpAnyH_take (i := 21) (oi := ?oi250) (v := ?vi250) ?h250 (by kernel_rfl) (by kernel_rfl) (by kernel_rfl) ?q250 (Or.inl ⟨?w250, ?y250⟩) hHeld ?r250
        case h250 => simp only [zA, zB, zC] <;> exact rfl
        case q250 => exact fun _ _ _ h => h
        case w250 => rfl
        case y250 =>
          intro w hSw
          (try dsimp only at hSw)
          obtain ⟨o0, o3, cb, c2⟩ := hSw
          go_simp
          try with_reducible rfl
        try simp only [zP, zN, zS, zT, zU]
        refine wpAnyH_take (i := 22) (oi := ?oi251) (v := ?vi251) ?h251 (by kernel_rfl) (by kernel_rfl) (by kernel_rfl) ?q251 (Or.inl ⟨?w251, ?y251⟩) hHeld ?r251
        case h251 => simp only [zA, zB, zC] <;> exact rfl
        case q251 => exact fun _ _ _ h => h
        case w251 => rfl
        case y251 =>
          intro w hSw
          (try dsimp only at hSw)
          obtain ⟨o0, o3, cb, c2⟩ := hSw
          go_simp
          try with_reducible rfl
        try simp only [zP, zN, zS, zT, zU]
        refine wpAnyH_take (i := 23) (oi := ?oi252) (v := ?vi252) ?h252 (by kernel_rfl) (by kernel_rfl) (by kernel_rfl) ?q252 (Or.inl ⟨?w252, ?y252⟩) hHeld ?r252
        case h252 => simp only [zA, zB, zC] <;> exact rfl
        case q252 => exact fun _ _ _ h => h
        case w252 => rfl
        case y252 =>
          intro w hSw
          (try dsimp only at hSw)
          obtain ⟨o0, o3, cb, c2⟩ := hSw
          go_simp
          try with_reducible rfl
        try simp only [zP, zN, zS, zT, zU]
        refine wpAnyH_done (by kernel_rfl) ?_ _
        have hb2 := HX.out.2.1.non F4.out.2
        obtain ⟨r0, r1, r2, r3, r4⟩ := (hb2).r
        have z0 := (hb2).fz 0; have z1 := (hb2).fz 1; have z2 := (hb2).fz 2; have z3 := (hb2).fz 3; have z4 := (hb2).fz 4
        clear hb2
        go_wp2_with fail
        refine (refused_c 63 _).mono ?_
        rintro e w2 ⟨rfl, hf2⟩
        have hb2 := HX.out.2.1.non (F4.out.2.then hf2)
        have hfw := F4.out.1.then hf2
        clear r0 r1 r2 r3 r4 z0 z1 z2 z3 z4
        obtain ⟨r0, r1, r2, r3, r4⟩ := (hb2).r
        have z0 := (hb2).fz 0; have z1 := (hb2).fz 1; have z2 := (hb2).fz 2; have z3 := (hb2).fz 3; have z4 := (hb2).fz 4
        have HE := Lib.hid (And.intro hb2.res hfw)
        unfold badV
        clear hf2 hb2 hfw
        generalize w2 = W2 at *
        go_wp2
        have hw9 := set5 HE.out.1 (.int .i64 63) (.string ⟨#[]⟩) (.string ⟨#[]⟩) (.int .i64 0) (.slice none 0 0)
        have hf9 := fp5 (S := Non) HE.out.2 (b := w.heap.size + 1) (.inr (by omega)) (.int .i64 63) (.string ⟨#[]⟩) (.string ⟨#[]⟩) (.int .i64 0) (.slice none 0 0)
        generalize (((((World.setCell W2 _ _).setCell _ _).setCell _ _).setCell _ _).setCell _ _) = w9 at *
        have s0 := cell_of_row _ (w.heap.size + 1) 0 _ _ _ hw9
        have s1 := cell_of_row _ (w.heap.size + 1) 1 _ _ _ hw9
        have s2 := cell_of_row _ (w.heap.size + 1) 2 _ _ _ hw9
        have s3 := cell_of_row _ (w.heap.size + 1) 3 _ _ _ hw9
        have s4 := cell_of_row _ (w.heap.size + 1) 4 _ _ _ hw9
        simp only [zA, zB, zC] at s0 s1 s2 s3 s4
        exact bodyPost_ret (v := .agg #[.int .i64 63, .string ⟨#[]⟩, .string ⟨#[]⟩, .int .i64 0, .slice none 0 0]) (by simp [results, Tryz.results52, go_sem, s0, s1, s2, s3, s4]) rfl (by rw [HC.out.1, HC.out.2]; exact MeR.still HX.out.1 (r := .bad 63) (nv := .slice none 0 0) hf9 (Own.nil _ _))
set_option maxHeartbeats 8000000 in
theorem existing_4 {lo b G cap : Nat} {l : List Nd} {w : World} (h : Tn lo b G cap l w) (hs : Sp l) (hl : l.length ≤ 512) (hlo : lo ≤ w.heap.size) (ha : Asc l) (p d : Bs) (v ow : Int) (t : Bool) (g : Nat) (fk : Nat) (hg : w.cell? ⟨g, 0, none⟩ = some (.func (.func fk) #[] #[])) (hen : Enters Tryz.prog fk)
    (hdo : Does lo b G cap l ⟨4, p, d, v, ow, t⟩ w fk) :
    Calls Tryz.prog 52 #[.pointer (some ⟨b, 0, none⟩), opV ⟨4, p, d, v, ow, t⟩, .pointer (some ⟨g, 0, none⟩)] w (MeR lo b G (perform l ⟨4, p, d, v, ow, t⟩).1 (perform l ⟨4, p, d, v, ow, t⟩).2 w) := by
  have hcr : perform l ⟨4, p, d, v, ow, t⟩ = (match find l p with
      | none => (l, .bad 62)
      | some x => if True ∧ v ≠ -1 ∧ v ≠ x.ver then (l, .bad 63) else doit l ⟨4, p, d, v, ow, t⟩ x) := by
    unfold perform; simp [versioned]
    try (cases find l p <;> rfl)
  obtain ⟨cr, hcr2⟩ : ∃ cr, perform l ⟨4, p, d, v, ow, t⟩ = cr := ⟨_, rfl⟩
  rw [hcr2] at hcr ⊢
  obtain ⟨l', r'⟩ := cr
  simp only
  unfold opV strV
  have hbx := Bx.made w 4 p d v ow t
  have hf0 : Fp Non w ((w.alloc (.cells #[.int .i64 4, .string (B p), .string (B d), .int .i64 v, .int .i64 ow, .bool t] TO_)).alloc (.cells #[.int .i64 0, .string ⟨#[]⟩, .string ⟨#[]⟩, .int .i64 0, .slice none 0 0] TR)) := ((Fp.refl Non w).alloc _).alloc _
  have op1 : (((w.alloc (.cells #[.int .i64 4, .string (B p), .string (B d), .int .i64 v, .int .i64 ow, .bool t] TO_)).alloc (.cells #[.int .i64 0, .string ⟨#[]⟩, .string ⟨#[]⟩, .int .i64 0, .slice none 0 0] TR))).cell? ⟨w.heap.size, 1, none⟩ = some (.string (B p)) := by rw [cell_of_row _ _ _ _ _ _ hbx.op]; rfl
  have hpc := place_c (h.non hf0) p ha (by omega)
  have HPC := Lib.hid hpc
  obtain ⟨n, hn⟩ : ∃ n, n = l.length := ⟨_, rfl⟩
  have HX := Lib.hid (And.intro h (And.intro hbx (And.intro hf0 (And.intro hn (And.intro hs (And.intro hl hlo))))))
  have HA := Lib.hid (And.intro ha (And.intro hg (And.intro hdo hcr)))
  clear hpc h hbx hf0 hn hs hl hlo ha hg hdo hcr hcr2
  go_enter Tryz.func52, Tryz.ntmps52
  generalize hW0 : ((w.alloc (.cells #[.int .i64 4, .string (B p), .string (B d), .int .i64 v, .int .i64 ow, .bool t] TO_)).alloc (.cells #[.int .i64 0, .string ⟨#[]⟩, .string ⟨#[]⟩, .int .i64 0, .slice none 0 0] TR)) = W0 at *
  go_wp2_with fail
  clear hW0
  refine HPC.out.mono ?_
  rintro e w2 ⟨rfl, hf2⟩
  have F2 := Lib.hid (And.intro (HX.out.2.2.1.then hf2) hf2)
  clear hf2 HPC op1
  cases hfu : find l p with
  | none =>
    have hcr := HA.out.2.2.2
    rw [hfu] at hcr
    have HC := Lib.hid (show l' = l ∧ r' = .bad 62 from by injection hcr with a b; exact ⟨a, b⟩)
    clear hcr hfu
    have hb2 := HX.out.2.1.non F2.out.2
    obtain ⟨r0, r1, r2, r3, r4⟩ := (hb2).r
    have z0 := (hb2).fz 0; have z1 := (hb2).fz 1; have z2 := (hb2).fz 2; have z3 := (hb2).fz 3; have z4 := (hb2).fz 4
    clear hb2
    go_wp2_with fail
    refine (refused_c 62 _).mono ?_
    rintro e w2 ⟨rfl, hf2⟩
    have hb2 := HX.out.2.1.non (F2.out.2.then hf2)
    have hfw := F2.out.1.then hf2
    clear r0 r1 r2 r3 r4 z0 z1 z2 z3 z4
    obtain ⟨r0, r1, r2, r3, r4⟩ := (hb2).r
    have z0 := (hb2).fz 0; have z1 := (hb2).fz 1; have z2 := (hb2).fz 2; have z3 := (hb2).fz 3; have z4 := (hb2).fz 4
    have HE := Lib.hid (And.intro hb2.res hfw)
    unfold badV
    clear hf2 hb2 hfw
    generalize w2 = W2 at *
    go_wp2
    have hw9 := set5 HE.out.1 (.int .i64 62) (.string ⟨#[]⟩) (.string ⟨#[]⟩) (.int .i64 0) (.slice none 0 0)
    have hf9 := fp5 (S := Non) HE.out.2 (b := w.heap.size + 1) (.inr (by omega)) (.int .i64 62) (.string ⟨#[]⟩) (.string ⟨#[]⟩) (.int .i64 0) (.slice none 0 0)
    generalize (((((World.setCell W2 _ _).setCell _ _).setCell _ _).setCell _ _).setCell _ _) = w9 at *
    have s0 := cell_of_row _ (w.heap.size + 1) 0 _ _ _ hw9
    have s1 := cell_of_row _ (w.heap.size + 1) 1 _ _ _ hw9
    have s2 := cell_of_row _ (w.heap.size + 1) 2 _ _ _ hw9
    have s3 := cell_of_row _ (w.heap.size + 1) 3 _ _ _ hw9
    have s4 := cell_of_row _ (w.heap.size + 1) 4 _ _ _ hw9
    simp only [zA, zB, zC] at s0 s1 s2 s3 s4
    exact bodyPost_ret (v := .agg #[.int .i64 62, .string ⟨#[]⟩, .string ⟨#[]⟩, .int .i64 0, .slice none 0 0]) (by simp [results, Tryz.results52, go_sem, s0, s1, s2, s3, s4]) rfl (by rw [HC.out.1, HC.out.2]; exact MeR.still HX.out.1 (r := .bad 62) (nv := .slice none 0 0) hf9 (Own.nil _ _))
  | some x =>
    obtain ⟨hat, hx⟩ := find_at HA.out.1 hfu
    have hT2 := HX.out.1.non F2.out.1
    have hnd := hT2.row.nd (place l p) hat
    rw [hx] at hnd
    have hcr := HA.out.2.2.2
    rw [hfu] at hcr
    simp only at hcr
    have HDO := Lib.hid (fun w' f => HA.out.2.2.1 x w' hfu f)
    obtain ⟨at_, hatE⟩ : ∃ at_, place l p = at_ := ⟨_, rfl⟩
    simp only [hatE] at hnd HDO ⊢
    rw [hatE] at hat
    have cb := hT2.c0
    rw [← HX.out.2.2.2.1] at cb
    have q1 : (at_ < n) = True := eq_true (by rw [HX.out.2.2.2.1]; exact hat)
    have q2 : ((at_ : Int) < (n : Int)) = True := eq_true (by rw [HX.out.2.2.2.1]; omega)
    have hbW := F2.out.2.heap HX.out.2.1.op (fun h => h)
    obtain ⟨o0, o1, o2, o3, o4, o5⟩ := box6 hbW
    have c2 := hnd.c2
    simp only [Nat.zero_add] at c2
    obtain ⟨xp, xd, xv, xt, xo⟩ := x
    simp only at c2 hcr
    have HHC := Lib.hid hcr
    have fat := fields_at4
    have fbt : bits BinOp.and IntKind.i64 4 4 = 4 := by kernel_rfl
    clear hT2 hnd hcr hat hfu hx hatE hbW o1 o2 o4 o5
    by_cases hv1 : v = -1
    · have q3 : (v == -1) = true := beq_iff_eq.2 hv1
      have q4 : (v = -1) = True := eq_true hv1
      have q7 : (v != -1) = false := by rw [bne, q3]; rfl
      have HC : Hid ((l', r') = doit l ⟨4, p, d, v, ow, t⟩ ⟨xp, xd, xv, xt, xo⟩) := by have hcr := HHC.out; rw [if_neg (fun k => k.2.1 hv1)] at hcr; exact hcr
      clear HHC hv1
      go_wp2_with fail
      refine wp_region_held_drew (S := (fun w' => w'.cell? ⟨w.heap.size, 0, none⟩ = some (.int .i64 4) ∧ w'.cell? ⟨w.heap.size, 3, none⟩ = some (.int .i64 v) ∧ w'.cell? ⟨b, 0, none⟩ = some (.slice (some ⟨G, 0, none⟩) n cap) ∧ w'.cell? ⟨G, at_ * 5 + 2, none⟩ = some (.int .i64 xv))) (by kernel_rfl) ?_ (fun hHeld => ?_)
      · exact ⟨(Fp.refl Non _).drew.cell o0 (fun h => h), (Fp.refl Non _).drew.cell o3 (fun h => h), (Fp.refl Non _).drew.cell cb (fun h => h), (Fp.refl Non _).drew.cell c2 (fun h => h)⟩
      have HSD := Lib.hid (fun w9 (hf : Fp Non w2.drew w9) => And.intro (hf.cell ((Fp.refl Non w2).drew.cell o0 (fun h => h)) (fun h => h)) (And.intro (hf.cell ((Fp.refl Non w2).drew.cell o3 (fun h => h)) (fun h => h)) (And.intro (hf.cell ((Fp.refl Non w2).drew.cell cb (fun h => h)) (fun h => h)) (hf.cell ((Fp.refl Non w2).drew.cell c2 (fun h => h)) (fun h => h)))))
      have F3 := Lib.hid (And.intro F2.out.1.drew F2.out.2.drew)
      clear o0 o3 cb c2
      generalize w2.drew = w3 at *
      refine wpAnyH_take (i := 1) (oi := ?oi253) (v := ?vi253) ?h253 (by kernel_rfl) (by kernel_rfl) (by kernel_rfl) ?q253 (Or.inl ⟨?w253, ?y253⟩) hHeld ?r253
      case h253 => simp only [zA, zB, zC] <;> exact rfl
      case q253 => exact fun _ _ _ h => h
      case w253 => rfl
      case y253 =>
        intro w hSw
        (try dsimp only at hSw)
        obtain ⟨o0, o3, cb, c2⟩ := hSw
        go_simp
        try with_reducible rfl
      try simp only [zP, zN, zS, zT, zU]
      refine wpAnyH_take (i := 2) (oi := ?oi254) (v := ?vi254) ?h254 (by kernel_rfl) (by kernel_rfl) (by kernel_rfl) ?q254 (Or.inl ⟨?w254, ?y254⟩) hHeld ?r254
      case h254 => simp only [zA, zB, zC] <;> exact rfl
      case q254 => exact fun _ _ _ h => h
      case w254 => rfl
      case y254 =>
        intro w hSw
        (try dsimp only at hSw)
        obtain ⟨o0, o3, cb, c2⟩ := hSw
        go_simp
        try with_reducible rfl
      try simp only [zP, zN, zS, zT, zU]
      refine wpAnyH_ready (rs := [0]) (by kernel_rfl) (by simp) ?_
      refine AllReadyH.cons (o := ?ob255) ?hb255 (fun K hK => ?_) AllReadyH.nil
      case hb255 => simp only [zA, zB, zC] <;> exact rfl
      go_simp
      go_at_call 32
      refine (fields_c _).mono ?_
      rintro e w4 ⟨rfl, hf4⟩
      have HS4 := Lib.hid (HSD.out w4 hf4)
      have F4 := Lib.hid (And.intro (F3.out.1.then hf4) (F3.out.2.then hf4))
      clear hf4 HSD F3
      go_wp2_with fail
      refine hK.out _ _ HS4.out (fun hHeld => ?_)
      clear hK K
      try simp only [zP, zN, zS, zT, zU]
      refine wpAnyH_take (i := 3) (oi := ?oi256) (v := ?vi256) ?h256 (by kernel_rfl) (by kernel_rfl) (by kernel_rfl) ?q256 (Or.inl ⟨?w256, ?y256⟩) hHeld ?r256
      case h256 => simp only [zA, zB, zC] <;> exact rfl
      case q256 => exact fun _ _ _ h => h
      case w256 => rfl
      case y256 =>
        intro w hSw
        (try dsimp only at hSw)
        obtain ⟨o0, o3, cb, c2⟩ := hSw
        go_simp
        try with_reducible rfl
      try simp only [zP, zN, zS, zT, zU]
      refine wpAnyH_take (i := 4) (oi := ?oi257) (v := ?vi257) ?h257 (by kernel_rfl) (by kernel_rfl) (by kernel_rfl) ?q257 (Or.inl ⟨?w257, ?y257⟩) hHeld ?r257
      case h257 => simp only [zA, zB, zC] <;> exact rfl
      case q257 => exact fun _ _ _ h => h
      case w257 => rfl
      case y257 =>
        intro w hSw
        (try dsimp only at hSw)
        obtain ⟨o0, o3, cb, c2⟩ := hSw
        go_simp
        try with_reducible rfl
      try simp only [zP, zN, zS, zT, zU]
      refine wpAnyH_take (i := 5) (oi := ?oi258) (v := ?vi258) ?h258 (by kernel_rfl) (by kernel_rfl) (by kernel_rfl) ?q258 (Or.inl ⟨?w258, ?y258⟩) hHeld ?r258
      case h258 => simp only [zA, zB, zC] <;> exact rfl
      case q258 => exact fun _ _ _ h => h
      case w258 => rfl
      case y258 =>
        intro w hSw
        (try dsimp only at hSw)
        obtain ⟨o0, o3, cb, c2⟩ := hSw
        go_simp
        try with_reducible rfl
      try simp only [zP, zN, zS, zT, zU]
      refine wpAnyH_take (i := 6) (oi := ?oi259) (v := ?vi259) ?h259 (by kernel_rfl) (by kernel_rfl) (by kernel_rfl) ?q259 (Or.inl ⟨?w259, ?y259⟩) hHeld ?r259
      case h259 => simp only [zA, zB, zC] <;> exact rfl
      case q259 => exact fun _ _ _ h => h
      case w259 => rfl
      case y259 =>
        intro w hSw
        (try dsimp only at hSw)
        obtain ⟨o0, o3, cb, c2⟩ := hSw
        go_simp
        try with_reducible rfl
      try simp only [zP, zN, zS, zT, zU]
      refine wpAnyH_take (i := 7) (oi := ?oi260) (v := ?vi260) ?h260 (by kernel_rfl) (by kernel_rfl) (by kernel_rfl) ?q260 (Or.inl ⟨?w260, ?y260⟩) hHeld ?r260
      case h260 => simp only [zA, zB, zC] <;> exact rfl
      case q260 => exact fun _ _ _ h => h
      case w260 => rfl
      case y260 =>
        intro w hSw
        (try dsimp only at hSw)
        obtain ⟨o0, o3, cb, c2⟩ := hSw
        go_simp
        try with_reducible rfl
      try simp only [zP, zN, zS, zT, zU]
      refine wpAnyH_take (i := 8) (oi := ?oi261) (v := ?vi261) ?h261 (by kernel_rfl) (by kernel_rfl) (by kernel_rfl) ?q261 (Or.inl ⟨?w261, ?y261⟩) hHeld ?r261
      case h261 => simp only [zA, zB, zC] <;> exact rfl
      case q261 => exact fun _ _ _ h => h
      case w261 => rfl
      case y261 =>
        intro w hSw
        (try dsimp only at hSw)
        obtain ⟨o0, o3, cb, c2⟩ := hSw
        go_simp
        try with_reducible rfl
      try simp only [zP, zN, zS, zT, zU]
      refine wpAnyH_take (i := 9) (oi := ?oi262) (v := ?vi262) ?h262 (by kernel_rfl) (by kernel_rfl) (by kernel_rfl) ?q262 (Or.inl ⟨?w262, ?y262⟩) hHeld ?r262
      case h262 => simp only [zA, zB, zC] <;> exact rfl
      case q262 => exact fun _ _ _ h => h
      case w262 => rfl
      case y262 =>
        intro w hSw
        (try dsimp only at hSw)
        obtain ⟨o0, o3, cb, c2⟩ := hSw
        go_simp
        try with_reducible rfl
      try simp only [zP, zN, zS, zT, zU]
      refine wpAnyH_take (i := 10) (oi := ?oi263) (v := ?vi263) ?h263 (by kernel_rfl) (by kernel_rfl) (by kernel_rfl) ?q263 (Or.inl ⟨?w263, ?y263⟩) hHeld ?r263
      case h263 => simp only [zA, zB, zC] <;> exact rfl
      case q263 => exact fun _ _ _ h => h
      case w263 => rfl
      case y263 =>
        intro w hSw
        (try dsimp only at hSw)
        obtain ⟨o0, o3, cb, c2⟩ := hSw
        go_simp
        try with_reducible rfl
      try simp only [zP, zN, zS, zT, zU]
      refine wpAnyH_take (i := 11) (oi := ?oi264) (v := ?vi264) ?h264 (by kernel_rfl) (by kernel_rfl) (by kernel_rfl) ?q264 (Or.inl ⟨?w264, ?y264⟩) hHeld ?r264
      case h264 => simp only [zA, zB, zC] <;> exact rfl
      case q264 => exact fun _ _ _ h => h
      case w264 => rfl
      case y264 =>
        intro w hSw
        (try dsimp only at hSw)
        obtain ⟨o0, o3, cb, c2⟩ := hSw
        go_simp
        try with_reducible rfl
      try simp only [zP, zN, zS, zT, zU]
      refine wpAnyH_take (i := 12) (oi := ?oi265) (v := undef) ?h265 (by kernel_rfl) (by kernel_rfl) (by kernel_rfl) ?q265 (Or.inr ⟨?w265, rfl⟩) hHeld ?r265
      case h265 => simp only [zA, zB, zC] <;> exact rfl
      case q265 => exact fun _ _ _ h => h
      case w265 => rfl
      try simp only [zP, zN, zS, zT, zU]
      refine wpAnyH_take (i := 13) (oi := ?oi266) (v := undef) ?h266 (by kernel_rfl) (by kernel_rfl) (by kernel_rfl) ?q266 (Or.inr ⟨?w266, rfl⟩) hHeld ?r266
      case h266 => simp only [zA, zB, zC] <;> exact rfl
      case q266 => exact fun _ _ _ h => h
      case w266 => rfl
      try simp only [zP, zN, zS, zT, zU]
      refine wpAnyH_take (i := 14) (oi := ?oi267) (v := undef) ?h267 (by kernel_rfl) (by kernel_rfl) (by kernel_rfl) ?q267 (Or.inr ⟨?w267, rfl⟩) hHeld ?r267
      case h267 => simp only [zA, zB, zC] <;> exact rfl
      case q267 => exact fun _ _ _ h => h
      case w267 => rfl
      try simp only [zP, zN, zS, zT, zU]
      refine wpAnyH_take (i := 15) (oi := ?oi268) (v := undef) ?h268 (by kernel_rfl) (by kernel_rfl) (by kernel_rfl) ?q268 (Or.inr ⟨?w268, rfl⟩) hHeld ?r268
      case h268 => simp only [zA, zB, zC] <;> exact rfl
      case q268 => exact fun _ _ _ h => h
      case w268 => rfl
      try simp only [zP, zN, zS, zT, zU]
      refine wpAnyH_take (i := 16) (oi := ?oi269) (v := undef) ?h269 (by kernel_rfl) (by kernel_rfl) (by kernel_rfl) ?q269 (Or.inr ⟨?w269, rfl⟩) hHeld ?r269
      case h269 => simp only [zA, zB, zC] <;> exact rfl
      case q269 => exact fun _ _ _ h => h
      case w269 => rfl
      try simp only [zP, zN, zS, zT, zU]
      refine wpAnyH_take (i := 17) (oi := ?oi270) (v := undef) ?h270 (by kernel_rfl) (by kernel_rfl) (by kernel_rfl) ?q270 (Or.inr ⟨?w270, rfl⟩) hHeld ?r270
      case h270 => simp only [zA, zB, zC] <;> exact rfl
      case q270 => exact fun _ _ _ h => h
      case w270 => rfl
      try simp only [zP, zN, zS, zT, zU]
      refine wpAnyH_take (i := 18) (oi := ?oi271) (v := undef) ?h271 (by kernel_rfl) (by kernel_rfl) (by kernel_rfl) ?q271 (Or.inr ⟨?w271, rfl⟩) hHeld ?r271
      case h271 => simp only [zA, zB, zC] <;> exact rfl
      case q271 => exact fun _ _ _ h => h
      case w271 => rfl
      try simp only [zP, zN, zS, zT, zU]
      refine wpAnyH_take (i := 19) (oi := ?oi272) (v := undef) ?h272 (by kernel_rfl) (by kernel_rfl) (by kernel_rfl) ?q272 (Or.inr ⟨?w272, rfl⟩) hHeld ?r272
      case h272 => simp only [zA, zB, zC] <;> exact rfl
      case q272 => exact fun _ _ _ h => h
      case w272 => rfl
      try simp only [zP, zN, zS, zT, zU]
      refine wpAnyH_take (i := 20) (oi := ?oi273) (v := undef) ?h273 (by kernel_rfl) (by kernel_rfl) (by kernel_rfl) ?q273 (Or.inr ⟨?w273, rfl⟩) hHeld ?r273
      case h273 => simp only [zA, zB, zC] <;> exact rfl
      case q273 => exact fun _ _ _ h => h
      case w273 => rfl
      try simp only [zP, zN, zS, zT, zU]
      refine wpAnyH_take (i := 21) (oi := ?oi274) (v := undef) ?h274 (by kernel_rfl) (by kernel_rfl) (by kernel_rfl) ?q274 (Or.inr ⟨?w274, rfl⟩) hHeld ?r274
      case h274 => simp only [zA, zB, zC] <;> exact rfl
      case q274 => exact fun _ _ _ h => h
      case w274 => rfl
      try simp only [zP, zN, zS, zT, zU]
      refine wpAnyH_take (i := 22) (oi := ?oi275) (v := undef) ?h275 (by kernel_rfl) (by kernel_rfl) (by kernel_rfl) ?q275 (Or.inr ⟨?w275, rfl⟩) hHeld ?r275
      case h275 => simp only [zA, zB, zC] <;> exact rfl
      case q275 => exact fun _ _ _ h => h
      case w275 => rfl
      try simp only [zP, zN, zS, zT, zU]
      refine wpAnyH_take (i := 23) (oi := ?oi276) (v := ?vi276) ?h276 (by kernel_rfl) (by kernel_rfl) (by kernel_rfl) ?q276 (Or.inl ⟨?w276, ?y276⟩) hHeld ?r276
      case h276 => simp only [zA, zB, zC] <;> exact rfl
      case q276 => exact fun _ _ _ h => h
      case w276 => rfl
      case y276 =>
        intro w hSw
        (try dsimp only at hSw)
        obtain ⟨o0, o3, cb, c2⟩ := hSw
        go_simp
        try with_reducible rfl
      try simp only [zP, zN, zS, zT, zU]
      refine wpAnyH_done (by kernel_rfl) ?_ _
      clear hHeld
      have gc := F4.out.1.cell HA.out.2.1 (fun h => h)
      obtain ⟨o0, o1, o2, o3, o4, o5⟩ := box6 (F4.out.2.heap HX.out.2.1.op (fun h => h))
      obtain ⟨re, rp, rd, rv, rn⟩ := r'
      have hdo := HDO.out _ F4.out.1
      rw [← HC.out] at hdo
      have HDC := Lib.hid hdo
      clear hdo HDO HC HS4 F2
      go_wp2_with fail
      rw [hen _ _]
      go_wp2_with fail
      refine HDC.out.mono ?_
      intro e w5 hM
      obtain ⟨nv, G', cap', rfl, ho, ht, hg⟩ := hM.ex
      have hfw := hM.fp
      have hnG : ∀ k, ownT b G k → k < w.heap.size := fun k hk => by
        rcases hk with hk | hk
        · rw [hk]; exact HX.out.1.lt
        · rw [hk]; exact HX.out.1.row.lt
      have hb5 := (HX.out.2.1.non F4.out.2).keep hfw (fun k hk => .inl (hnG k hk))
      have h4s : w.heap.size + 2 ≤ w4.heap.size := Nat.le_trans HX.out.2.1.sz F4.out.2.size
      have hf5 : Fp (ownT b G) w w5 := (F4.out.1.any (S := ownT b G)).same hfw
      have hnv := fun k e => (ho.1.lt k e).1
      have HNV := Lib.hid (show nv.ownBlock = some (w.heap.size + 1) → False from fun e => by have := hnv _ e; omega)
      have HGN := Lib.hid (And.intro (show b ≠ w.heap.size + 1 by have := hnG b (.inl rfl); omega) (show G' ≠ w.heap.size + 1 by
        rcases hg with e | e
        · have := hnG G (.inr rfl); omega
        · have : w4.heap.size ≤ G' := e; omega))
      have HG2 := Lib.hid (show G' = G ∨ w.heap.size ≤ G' by
        rcases hg with e | e
        · exact .inl e
        · exact .inr (by have : w4.heap.size ≤ G' := e; omega))
      have ho2 : Own w.heap.size w5 nv rn := ho.low F4.out.1.size
      obtain ⟨vao, vcap, hvs⟩ := ho2.shape
      have HE := Lib.hid (And.intro hb5.res (And.intro hf5 (And.intro ht ho2)))
      unfold strV
      obtain ⟨r0, r1, r2, r3, r4⟩ := (hb5).r
      have z0 := (hb5).fz 0; have z1 := (hb5).fz 1; have z2 := (hb5).fz 2; have z3 := (hb5).fz 3; have z4 := (hb5).fz 4
      clear hM hfw hnG hb5 h4s hf5 hnv hg ho ht ho2 HDC gc o0 o1 o2 o3 o4 o5
      subst hvs
      generalize w5 = W5 at *
      go_wp2
      have hT9 := HE.out.2.2.1.keep (fp5 (S := fun k => k = w.heap.size + 1) (Fp.refl _ W5) (b := w.heap.size + 1) (.inl rfl) (.int .i64 re) (.string (B rp)) (.string (B rd)) (.int .i64 rv) (.slice vao rn.length vcap)) (fun e => HGN.out.1 e) (fun e => HGN.out.2 e)
      have HO9 := own5 HE.out.2.2.2 (b := w.heap.size + 1) (fun e => HNV.out e) (.int .i64 re) (.string (B rp)) (.string (B rd)) (.int .i64 rv) (.slice vao rn.length vcap)
      have hw9 := set5 HE.out.1 (.int .i64 re) (.string (B rp)) (.string (B rd)) (.int .i64 rv) (.slice vao rn.length vcap)
      have hf9 := fp5 (S := ownT b G) HE.out.2.1 (b := w.heap.size + 1) (.inr (by omega)) (.int .i64 re) (.string (B rp)) (.string (B rd)) (.int .i64 rv) (.slice vao rn.length vcap)
      generalize (((((World.setCell W5 _ _).setCell _ _).setCell _ _).setCell _ _).setCell _ _) = w9 at *
      have s0 := cell_of_row _ (w.heap.size + 1) 0 _ _ _ hw9
      have s1 := cell_of_row _ (w.heap.size + 1) 1 _ _ _ hw9
      have s2 := cell_of_row _ (w.heap.size + 1) 2 _ _ _ hw9
      have s3 := cell_of_row _ (w.heap.size + 1) 3 _ _ _ hw9
      have s4 := cell_of_row _ (w.heap.size + 1) 4 _ _ _ hw9
      simp only [zA, zB, zC] at s0 s1 s2 s3 s4
      exact bodyPost_ret (v := .agg #[.int .i64 re, .string (B rp), .string (B rd), .int .i64 rv, .slice vao rn.length vcap]) (by simp [results, Tryz.results52, go_sem, s0, s1, s2, s3, s4]) rfl (MeR.of (r := ⟨re, rp, rd, rv, rn⟩) (nv := .slice vao rn.length vcap) hT9 HG2.out hf9 HO9)
    · have q3 : (v == -1) = false := beq_eq_false_iff_ne.2 hv1
      have q4 : (v = -1) = False := eq_false hv1
      have q7 : (v != -1) = true := by rw [bne, q3]; rfl
      by_cases hv2 : v = xv
      · have q5 : (v == xv) = true := beq_iff_eq.2 hv2
        have q6 : (v = xv) = True := eq_true hv2
        have q8 : (v != xv) = false := by rw [bne, q5]; rfl
        have HC : Hid ((l', r') = doit l ⟨4, p, d, v, ow, t⟩ ⟨xp, xd, xv, xt, xo⟩) := by have hcr := HHC.out; rw [if_neg (fun k => k.2.2 hv2)] at hcr; exact hcr
        clear HHC hv1 hv2
        go_wp2_with fail
        refine wp_region_held_drew (S := (fun w' => w'.cell? ⟨w.heap.size, 0, none⟩ = some (.int .i64 4) ∧ w'.cell? ⟨w.heap.size, 3, none⟩ = some (.int .i64 v) ∧ w'.cell? ⟨b, 0, none⟩ = some (.slice (some ⟨G, 0, none⟩) n cap) ∧ w'.cell? ⟨G, at_ * 5 + 2, none⟩ = some (.int .i64 xv))) (by kernel_rfl) ?_ (fun hHeld => ?_)
        · exact ⟨(Fp.refl Non _).drew.cell o0 (fun h => h), (Fp.refl Non _).drew.cell o3 (fun h => h), (Fp.refl Non _).drew.cell cb (fun h => h), (Fp.refl Non _).drew.cell c2 (fun h => h)⟩
        have HSD := Lib.hid (fun w9 (hf : Fp Non w2.drew w9) => And.intro (hf.cell ((Fp.refl Non w2).drew.cell o0 (fun h => h)) (fun h => h)) (And.intro (hf.cell ((Fp.refl Non w2).drew.cell o3 (fun h => h)) (fun h => h)) (And.intro (hf.cell ((Fp.refl Non w2).drew.cell cb (fun h => h)) (fun h => h)) (hf.cell ((Fp.refl Non w2).drew.cell c2 (fun h => h)) (fun h => h)))))
        have F3 := Lib.hid (And.intro F2.out.1.drew F2.out.2.drew)
        clear o0 o3 cb c2
        generalize w2.drew = w3 at *
        refine wpAnyH_take (i := 1) (oi := ?oi277) (v := ?vi277) ?h277 (by kernel_rfl) (by kernel_rfl) (by kernel_rfl) ?q277 (Or.inl ⟨?w277, ?y277⟩) hHeld ?r277
        case h277 => simp only [zA, zB, zC] <;> exact rfl
        case q277 => exact fun _ _ _ h => h
        case w277 => rfl
        case y277 =>
          intro w hSw
          (try dsimp only at hSw)
          obtain ⟨o0, o3, cb, c2⟩ := hSw
          go_simp
          try with_reducible rfl
        try simp only [zP, zN, zS, zT, zU]
        refine wpAnyH_take (i := 2) (oi := ?oi278) (v := ?vi278) ?h278 (by kernel_rfl) (by kernel_rfl) (by kernel_rfl) ?q278 (Or.inl ⟨?w278, ?y278⟩) hHeld ?r278
        case h278 => simp only [zA, zB, zC] <;> exact rfl
        case q278 => exact fun _ _ _ h => h
        case w278 => rfl
        case y278 =>
          intro w hSw
          (try dsimp only at hSw)
          obtain ⟨o0, o3, cb, c2⟩ := hSw
          go_simp
          try with_reducible rfl
        try simp only [zP, zN, zS, zT, zU]
        refine wpAnyH_ready (rs := [0]) (by kernel_rfl) (by simp) ?_
        refine AllReadyH.cons (o := ?ob279) ?hb279 (fun K hK => ?_) AllReadyH.nil
        case hb279 => simp only [zA, zB, zC] <;> exact rfl
        go_simp
        go_at_call 32
        refine (fields_c _).mono ?_
        rintro e w4 ⟨rfl, hf4⟩
        have HS4 := Lib.hid (HSD.out w4 hf4)
        have F4 := Lib.hid (And.intro (F3.out.1.then hf4) (F3.out.2.then hf4))
        clear hf4 HSD F3
        go_wp2_with fail
        refine hK.out _ _ HS4.out (fun hHeld => ?_)
        clear hK K
        try simp only [zP, zN, zS, zT, zU]
        refine wpAnyH_take (i := 3) (oi := ?oi280) (v := ?vi280) ?h280 (by kernel_rfl) (by kernel_rfl) (by kernel_rfl) ?q280 (Or.inl ⟨?w280, ?y280⟩) hHeld ?r280
        case h280 => simp only [zA, zB, zC] <;> exact rfl
        case q280 => exact fun _ _ _ h => h
        case w280 => rfl
        case y280 =>
          intro w hSw
          (try dsimp only at hSw)
          obtain ⟨o0, o3, cb, c2⟩ := hSw
          go_simp
          try with_reducible rfl
        try simp only [zP, zN, zS, zT, zU]
        refine wpAnyH_take (i := 4) (oi := ?oi281) (v := ?vi281) ?h281 (by kernel_rfl) (by kernel_rfl) (by kernel_rfl) ?q281 (Or.inl ⟨?w281, ?y281⟩) hHeld ?r281
        case h281 => simp only [zA, zB, zC] <;> exact rfl
        case q281 => exact fun _ _ _ h => h
        case w281 => rfl
        case y281 =>
          intro w hSw
          (try dsimp only at hSw)
          obtain ⟨o0, o3, cb, c2⟩ := hSw
          go_simp
          try with_reducible rfl
        try simp only [zP, zN, zS, zT, zU]
        refine wpAnyH_take (i := 5) (oi := ?oi282) (v := ?vi282) ?h282 (by kernel_rfl) (by kernel_rfl) (by kernel_rfl) ?q282 (Or.inl ⟨?w282, ?y282⟩) hHeld ?r282
        case h282 => simp only [zA, zB, zC] <;> exact rfl
        case q282 => exact fun _ _ _ h => h
        case w282 => rfl
        case y282 =>
          intro w hSw
          (try dsimp only at hSw)
          obtain ⟨o0, o3, cb, c2⟩ := hSw
          go_simp
          try with_reducible rfl
        try simp only [zP, zN, zS, zT, zU]
        refine wpAnyH_take (i := 6) (oi := ?oi283) (v := ?vi283) ?h283 (by kernel_rfl) (by kernel_rfl) (by kernel_rfl) ?q283 (Or.inl ⟨?w283, ?y283⟩) hHeld ?r283
        case h283 => simp only [zA, zB, zC] <;> exact rfl
        case q283 => exact fun _ _ _ h => h
        case w283 => rfl
        case y283 =>
          intro w hSw
          (try dsimp only at hSw)
          obtain ⟨o0, o3, cb, c2⟩ := hSw
          go_simp
          try with_reducible rfl
        try simp only [zP, zN, zS, zT, zU]
        refine wpAnyH_take (i := 7) (oi := ?oi284) (v := ?vi284) ?h284 (by kernel_rfl) (by kernel_rfl) (by kernel_rfl) ?q284 (Or.inl ⟨?w284, ?y284⟩) hHeld ?r284
        case h284 => simp only [zA, zB, zC] <;> exact rfl
        case q284 => exact fun _ _ _ h => h
        case w284 => rfl
        case y284 =>
          intro w hSw
          (try dsimp only at hSw)
          obtain ⟨o0, o3, cb, c2⟩ := hSw
          go_simp
          try with_reducible rfl
        try simp only [zP, zN, zS, zT, zU]
        refine wpAnyH_take (i := 8) (oi := ?oi285) (v := ?vi285) ?h285 (by kernel_rfl) (by kernel_rfl) (by kernel_rfl) ?q285 (Or.inl ⟨?w285, ?y285⟩) hHeld ?r285
        case h285 => simp only [zA, zB, zC] <;> exact rfl
        case q285 => exact fun _ _ _ h => h
        case w285 => rfl
        case y285 =>
          intro w hSw
          (try dsimp only at hSw)
          obtain ⟨o0, o3, cb, c2⟩ := hSw
          go_simp
          try with_reducible rfl
        try simp only [zP, zN, zS, zT, zU]
        refine wpAnyH_take (i := 9) (oi := ?oi286) (v := ?vi286) ?h286 (by kernel_rfl) (by kernel_rfl) (by kernel_rfl) ?q286 (Or.inl ⟨?w286, ?y286⟩) hHeld ?r286
        case h286 => simp only [zA, zB, zC] <;> exact rfl
        case q286 => exact fun _ _ _ h => h
        case w286 => rfl
        case y286 =>
          intro w hSw
          (try dsimp only at hSw)
          obtain ⟨o0, o3, cb, c2⟩ := hSw
          go_simp
          try with_reducible rfl
        try simp only [zP, zN, zS, zT, zU]
        refine wpAnyH_take (i := 10) (oi := ?oi287) (v := ?vi287) ?h287 (by kernel_rfl) (by kernel_rfl) (by kernel_rfl) ?q287 (Or.inl ⟨?w287, ?y287⟩) hHeld ?r287
        case h287 => simp only [zA, zB, zC] <;> exact rfl
        case q287 => exact fun _ _ _ h => h
        case w287 => rfl
        case y287 =>
          intro w hSw
          (try dsimp only at hSw)
          obtain ⟨o0, o3, cb, c2⟩ := hSw
          go_simp
          try with_reducible rfl
        try simp only [zP, zN, zS, zT, zU]
        refine wpAnyH_take (i := 11) (oi := ?oi288) (v := ?vi288) ?h288 (by kernel_rfl) (by kernel_rfl) (by kernel_rfl) ?q288 (Or.inl ⟨?w288, ?y288⟩) hHeld ?r288
        case h288 => simp only [zA, zB, zC] <;> exact rfl
        case q288 => exact fun _ _ _ h => h
        case w288 => rfl
        case y288 =>
          intro w hSw
          (try dsimp only at hSw)
          obtain ⟨o0, o3, cb, c2⟩ := hSw
          go_simp
          try with_reducible rfl
        try simp only [zP, zN, zS, zT, zU]
        refine wpAnyH_take (i := 12) (oi := ?oi289) (v := ?vi289) ?h289 (by kernel_rfl) (by kernel_rfl) (by kernel_rfl) ?q289 (Or.inl ⟨?w289, ?y289⟩) hHeld ?r289
        case h289 => simp only [zA, zB, zC] <;> exact rfl
        case q289 => exact fun _ _ _ h => h
        case w289 => rfl
        case y289 =>
          intro w hSw
          (try dsimp only at hSw)
          obtain ⟨o0, o3, cb, c2⟩ := hSw
          go_simp
          try with_reducible rfl
        try simp only [zP, zN, zS, zT, zU]
        refine wpAnyH_take (i := 13) (oi := ?oi290) (v := ?vi290) ?h290 (by kernel_rfl) (by kernel_rfl) (by kernel_rfl) ?q290 (Or.inl ⟨?w290, ?y290⟩) hHeld ?r290
        case h290 => simp only [zA, zB, zC] <;> exact rfl
        case q290 => exact fun _ _ _ h => h
        case w290 => rfl
        case y290 =>
          intro w hSw
          (try dsimp only at hSw)
          obtain ⟨o0, o3, cb, c2⟩ := hSw
          go_simp
          try with_reducible rfl
        try simp only [zP, zN, zS, zT, zU]
        refine wpAnyH_take (i := 14) (oi := ?oi291) (v := ?vi291) ?h291 (by kernel_rfl) (by kernel_rfl) (by kernel_rfl) ?q291 (Or.inl ⟨?w291, ?y291⟩) hHeld ?r291
        case h291 => simp only [zA, zB, zC] <;> exact rfl
        case q291 => exact fun _ _ _ h => h
        case w291 => rfl
        case y291 =>
          intro w hSw
          (try dsimp only at hSw)
          obtain ⟨o0, o3, cb, c2⟩ := hSw
          go_simp
          try with_reducible rfl
        try simp only [zP, zN, zS, zT, zU]
        refine wpAnyH_take (i := 15) (oi := ?oi292) (v := ?vi292) ?h292 (by kernel_rfl) (by kernel_rfl) (by kernel_rfl) ?q292 (Or.inl ⟨?w292, ?y292⟩) hHeld ?r292
        case h292 => simp only [zA, zB, zC] <;> exact rfl
        case q292 => exact fun _ _ _ h => h
        case w292 => rfl
        case y292 =>
          intro w hSw
          (try dsimp only at hSw)
          obtain ⟨o0, o3, cb, c2⟩ := hSw
          go_simp
          try with_reducible rfl
        try simp only [zP, zN, zS, zT, zU]
        refine wpAnyH_take (i := 16) (oi := ?oi293) (v := ?vi293) ?h293 (by kernel_rfl) (by kernel_rfl) (by kernel_rfl) ?q293 (Or.inl ⟨?w293, ?y293⟩) hHeld ?r293
        case h293 => simp only [zA, zB, zC] <;> exact rfl
        case q293 => exact fun _ _ _ h => h
        case w293 => rfl
        case y293 =>
          intro w hSw
          (try dsimp only at hSw)
          obtain ⟨o0, o3, cb, c2⟩ := hSw
          go_simp
          try with_reducible rfl
        try simp only [zP, zN, zS, zT, zU]
        refine wpAnyH_take (i := 17) (oi := ?oi294) (v := ?vi294) ?h294 (by kernel_rfl) (by kernel_rfl) (by kernel_rfl) ?q294 (Or.inl ⟨?w294, ?y294⟩) hHeld ?r294
        case h294 => simp only [zA, zB, zC] <;> exact rfl
        case q294 => exact fun _ _ _ h => h
        case w294 => rfl
        case y294 =>
          intro w hSw
          (try dsimp only at hSw)
          obtain ⟨o0, o3, cb, c2⟩ := hSw
          go_simp
          try with_reducible rfl
        try simp only [zP, zN, zS, zT, zU]
        refine wpAnyH_take (i := 18) (oi := ?oi295) (v := ?vi295) ?h295 (by kernel_rfl) (by kernel_rfl) (by kernel_rfl) ?q295 (Or.inl ⟨?w295, ?y295⟩) hHeld ?r295
        case h295 => simp only [zA, zB, zC] <;> exact rfl
        case q295 => exact fun _ _ _ h => h
        case w295 => rfl
        case y295 =>
          intro w hSw
          (try dsimp only at hSw)
          obtain ⟨o0, o3, cb, c2⟩ := hSw
          go_simp
          try with_reducible rfl
        try simp only [zP, zN, zS, zT, zU]
        refine wpAnyH_take (i := 19) (oi := ?oi296) (v := ?vi296) ?h296 (by kernel_rfl) (by kernel_rfl) (by kernel_rfl) ?q296 (Or.inl ⟨?w296, ?y296⟩) hHeld ?r296
        case h296 => simp only [zA, zB, zC] <;> exact rfl
        case q296 => exact fun _ _ _ h => h
        case w296 => rfl
        case y296 =>
          intro w hSw
          (try dsimp only at hSw)
          obtain ⟨o0, o3, cb, c2⟩ := hSw
          go_simp
          try with_reducible rfl
        try simp only [zP, zN, zS, zT, zU]
        refine wpAnyH_take (i := 20) (oi := ?oi297) (v := ?vi297) ?h297 (by kernel_rfl) (by kernel_rfl) (by kernel_rfl) ?q297 (Or.inl ⟨?w297, ?y297⟩) hHeld ?r297
        case h297 => simp only [zA, zB, zC] <;> exact rfl
        case q297 => exact fun _ _ _ h => h
        case w297 => rfl
        case y297 =>
          intro w hSw
          (try dsimp only at hSw)
          obtain ⟨o0, o3, cb, c2⟩ := hSw
          go_simp
          try with_reducible rfl
        try simp only [zP, zN, zS, zT, zU]
        refine wpAnyH_take (i := 21) (oi := ?oi298) (v := ?vi298) ?h298 (by kernel_rfl) (by kernel_rfl) (by kernel_rfl) ?q298 (Or.inl ⟨?w298, ?y298⟩) hHeld ?r298
        case h298 => simp only [zA, zB, zC] <;> exact rfl
        case q298 => exact fun _ _ _ h => h
        case w298 => rfl
        case y298 =>
          intro w hSw
          (try dsimp only at hSw)
          obtain ⟨o0, o3, cb, c2⟩ := hSw
          go_simp
          try with_reducible rfl
        try simp only [zP, zN, zS, zT, zU]
        refine wpAnyH_take (i := 22) (oi := ?oi299) (v := ?vi299) ?h299 (by kernel_rfl) (by kernel_rfl) (by kernel_rfl) ?q299 (Or.inl ⟨?w299, ?y299⟩) hHeld ?r299
        case h299 => simp only [zA, zB, zC] <;> exact rfl
        case q299 => exact fun _ _ _ h => h
        case w299 => rfl
        case y299 =>
          intro w hSw
          (try dsimp only at hSw)
          obtain ⟨o0, o3, cb, c2⟩ := hSw
          go_simp
          try with_reducible rfl
        try simp only [zP, zN, zS, zT, zU]
        refine wpAnyH_take (i := 23) (oi := ?oi300) (v := ?vi300) ?h300 (by kernel_rfl) (by kernel_rfl) (by kernel_rfl) ?q300 (Or.inl ⟨?w300, ?y300⟩) hHeld ?r300
        case h300 => simp only [zA, zB, zC] <;> exact rfl
        case q300 => exact fun _ _ _ h => h
        case w300 => rfl
        case y300 =>
          intro w hSw
          (try dsimp only at hSw)
          obtain ⟨o0, o3, cb, c2⟩ := hSw
          go_simp
          try with_reducible rfl
        try simp only [zP, zN, zS, zT, zU]
        refine wpAnyH_done (by kernel_rfl) ?_ _
        clear hHeld
        have gc := F4.out.1.cell HA.out.2.1 (fun h => h)
        obtain ⟨o0, o1, o2, o3, o4, o5⟩ := box6 (F4.out.2.heap HX.out.2.1.op (fun h => h))
        obtain ⟨re, rp, rd, rv, rn⟩ := r'
        have hdo := HDO.out _ F4.out.1
        rw [← HC.out] at hdo
        have HDC := Lib.hid hdo
        clear hdo HDO HC HS4 F2
        go_wp2_with fail
        rw [hen _ _]
        go_wp2_with fail
        refine HDC.out.mono ?_
        intro e w5 hM
        obtain ⟨nv, G', cap', rfl, ho, ht, hg⟩ := hM.ex
        have hfw := hM.fp
        have hnG : ∀ k, ownT b G k → k < w.heap.size := fun k hk => by
          rcases hk with hk | hk
          · rw [hk]; exact HX.out.1.lt
          · rw [hk]; exact HX.out.1.row.lt
        have hb5 := (HX.out.2.1.non F4.out.2).keep hfw (fun k hk => .inl (hnG k hk))
        have h4s : w.heap.size + 2 ≤ w4.heap.size := Nat.le_trans HX.out.2.1.sz F4.out.2.size
        have hf5 : Fp (ownT b G) w w5 := (F4.out.1.any (S := ownT b G)).same hfw
        have hnv := fun k e => (ho.1.lt k e).1
        have HNV := Lib.hid (show nv.ownBlock = some (w.heap.size + 1) → False from fun e => by have := hnv _ e; omega)
        have HGN := Lib.hid (And.intro (show b ≠ w.heap.size + 1 by have := hnG b (.inl rfl); omega) (show G' ≠ w.heap.size + 1 by
          rcases hg with e | e
          · have := hnG G (.inr rfl); omega
          · have : w4.heap.size ≤ G' := e; omega))
        have HG2 := Lib.hid (show G' = G ∨ w.heap.size ≤ G' by
          rcases hg with e | e
          · exact .inl e
          · exact .inr (by have : w4.heap.size ≤ G' := e; omega))
        have ho2 : Own w.heap.size w5 nv rn := ho.low F4.out.1.size
        obtain ⟨vao, vcap, hvs⟩ := ho2.shape
        have HE := Lib.hid (And.intro hb5.res (And.intro hf5 (And.intro ht ho2)))
        unfold strV
        obtain ⟨r0, r1, r2, r3, r4⟩ := (hb5).r
        have z0 := (hb5).fz 0; have z1 := (hb5).fz 1; have z2 := (hb5).fz 2; have z3 := (hb5).fz 3; have z4 := (hb5).fz 4
        clear hM hfw hnG hb5 h4s hf5 hnv hg ho ht ho2 HDC gc o0 o1 o2 o3 o4 o5
        subst hvs
        generalize w5 = W5 at *
        go_wp2
        have hT9 := HE.out.2.2.1.keep (fp5 (S := fun k => k = w.heap.size + 1) (Fp.refl _ W5) (b := w.heap.size + 1) (.inl rfl) (.int .i64 re) (.string (B rp)) (.string (B rd)) (.int .i64 rv) (.slice vao rn.length vcap)) (fun e => HGN.out.1 e) (fun e => HGN.out.2 e)
        have HO9 := own5 HE.out.2.2.2 (b := w.heap.size + 1) (fun e => HNV.out e) (.int .i64 re) (.string (B rp)) (.string (B rd)) (.int .i64 rv) (.slice vao rn.length vcap)
        have hw9 := set5 HE.out.1 (.int .i64 re) (.string (B rp)) (.string (B rd)) (.int .i64 rv) (.slice vao rn.length vcap)
        have hf9 := fp5 (S := ownT b G) HE.out.2.1 (b := w.heap.size + 1) (.inr (by omega)) (.int .i64 re) (.string (B rp)) (.string (B rd)) (.int .i64 rv) (.slice vao rn.length vcap)
        generalize (((((World.setCell W5 _ _).setCell _ _).setCell _ _).setCell _ _).setCell _ _) = w9 at *
        have s0 := cell_of_row _ (w.heap.size + 1) 0 _ _ _ hw9
        have s1 := cell_of_row _ (w.heap.size + 1) 1 _ _ _ hw9
        have s2 := cell_of_row _ (w.heap.size + 1) 2 _ _ _ hw9
        have s3 := cell_of_row _ (w.heap.size + 1) 3 _ _ _ hw9
        have s4 := cell_of_row _ (w.heap.size + 1) 4 _ _ _ hw9
        simp only [zA, zB, zC] at s0 s1 s2 s3 s4
        exact bodyPost_ret (v := .agg #[.int .i64 re, .string (B rp), .string (B rd), .int .i64 rv, .slice vao rn.length vcap]) (by simp [results, Tryz.results52, go_sem, s0, s1, s2, s3, s4]) rfl (MeR.of (r := ⟨re, rp, rd, rv, rn⟩) (nv := .slice vao rn.length vcap) hT9 HG2.out hf9 HO9)
      · have q5 : (v == xv) = false := beq_eq_false_iff_ne.2 hv2
        have q6 : (v = xv) = False := eq_false hv2
        have q8 : (v != xv) = true := by rw [bne, q5]; rfl
        have HC := Lib.hid (show l' = l ∧ r' = .bad 63 from by have hcr := HHC.out; rw [if_pos ⟨trivial, hv1, hv2⟩] at hcr; injection hcr with a b; exact ⟨a, b⟩)
        clear HHC hv1 hv2
        go_wp2_with fail
        refine wp_region_held_drew (S := (fun w' => w'.cell? ⟨w.heap.size, 0, none⟩ = some (.int .i64 4) ∧ w'.cell? ⟨w.heap.size, 3, none⟩ = some (.int .i64 v) ∧ w'.cell? ⟨b, 0, none⟩ = some (.slice (some ⟨G, 0, none⟩) n cap) ∧ w'.cell? ⟨G, at_ * 5 + 2, none⟩ = some (.int .i64 xv))) (by kernel_rfl) ?_ (fun hHeld => ?_)
        · exact ⟨(Fp.refl Non _).drew.cell o0 (fun h => h), (Fp.refl Non _).drew.cell o3 (fun h => h), (Fp.refl Non _).drew.cell cb (fun h => h), (Fp.refl Non _).drew.cell c2 (fun h => h)⟩
        have HSD := Lib.hid (fun w9 (hf : Fp Non w2.drew w9) => And.intro (hf.cell ((Fp.refl Non w2).drew.cell o0 (fun h => h)) (fun h => h)) (And.intro (hf.cell ((Fp.refl Non w2).drew.cell o3 (fun h => h)) (fun h => h)) (And.intro (hf.cell ((Fp.refl Non w2).drew.cell cb (fun h => h)) (fun h => h)) (hf.cell ((Fp.refl Non w2).drew.cell c2 (fun h => h)) (fun h => h)))))
        have F3 := Lib.hid (And.intro F2.out.1.drew F2.out.2.drew)
        clear o0 o3 cb c2
        generalize w2.drew = w3 at *
        refine wpAnyH_take (i := 1) (oi := ?oi301) (v := ?vi301) ?h301 (by kernel_rfl) (by kernel_rfl) (by kernel_rfl) ?q301 (Or.inl ⟨?w301, ?y301⟩) hHeld ?r301
        case h301 => simp only [zA, zB, zC] <;> exact rfl
        case q301 => exact fun _ _ _ h => h
        case w301 => rfl
        case y301 =>
          intro w hSw
          (try dsimp only at hSw)
          obtain ⟨o0, o3, cb, c2⟩ := hSw
          go_simp
          try with_reducible rfl
        try simp only [zP, zN, zS, zT, zU]
        refine wpAnyH_take (i := 2) (oi := ?oi302) (v := ?vi302) ?h302 (by kernel_rfl) (by kernel_rfl) (by kernel_rfl) ?q302 (Or.inl ⟨?w302, ?y302⟩) hHeld ?r302
        case h302 => simp only [zA, zB, zC] <;> exact rfl
        case q302 => exact fun _ _ _ h => h
        case w302 => rfl
        case y302 =>
          intro w hSw
          (try dsimp only at hSw)
          obtain ⟨o0, o3, cb, c2⟩ := hSw
          go_simp
          try with_reducible rfl
        try simp only [zP, zN, zS, zT, zU]
        refine wpAnyH_ready (rs := [0]) (by kernel_rfl) (by simp) ?_
        refine AllReadyH.cons (o := ?ob303) ?hb303 (fun K hK => ?_) AllReadyH.nil
        case hb303 => simp only [zA, zB, zC] <;> exact rfl
        go_simp
        go_at_call 32
        refine (fields_c _).mono ?_
        rintro e w4 ⟨rfl, hf4⟩
        have HS4 := Lib.hid (HSD.out w4 hf4)
        have F4 := Lib.hid (And.intro (F3.out.1.then hf4) (F3.out.2.then hf4))
        clear hf4 HSD F3
        go_wp2_with fail
        refine hK.out _ _ HS4.out (fun hHeld => ?_)
        clear hK K
        try simp only [zP, zN, zS, zT, zU]
        refine wpAnyH_take (i := 3) (oi := ?oi304) (v := ?vi304) ?h304 (by kernel_rfl) (by kernel_rfl) (by kernel_rfl) ?q304 (Or.inl ⟨?w304, ?y304⟩) hHeld ?r304
        case h304 => simp only [zA, zB, zC] <;> exact rfl
        case q304 => exact fun _ _ _ h => h
        case w304 => rfl
        case y304 =>
          intro w hSw
          (try dsimp only at hSw)
          obtain ⟨o0, o3, cb, c2⟩ := hSw
          go_simp
          try with_reducible rfl
        try simp only [zP, zN, zS, zT, zU]
        refine wpAnyH_take (i := 4) (oi := ?oi305) (v := ?vi305) ?h305 (by kernel_rfl) (by kernel_rfl) (by kernel_rfl) ?q305 (Or.inl ⟨?w305, ?y305⟩) hHeld ?r305
        case h305 => simp only [zA, zB, zC] <;> exact rfl
        case q305 => exact fun _ _ _ h => h
        case w305 => rfl
        case y305 =>
          intro w hSw
          (try dsimp only at hSw)
          obtain ⟨o0, o3, cb, c2⟩ := hSw
          go_simp
          try with_reducible rfl
        try simp only [zP, zN, zS, zT, zU]
        refine wpAnyH_take (i := 5) (oi := ?oi306) (v := ?vi306) ?h306 (by kernel_rfl) (by kernel_rfl) (by kernel_rfl) ?q306 (Or.inl ⟨?w306, ?y306⟩) hHeld ?r306
        case h306 => simp only [zA, zB, zC] <;> exact rfl
        case q306 => exact fun _ _ _ h => h
        case w306 => rfl
        case y306 =>
          intro w hSw
          (try dsimp only at hSw)
          obtain ⟨o0, o3, cb, c2⟩ := hSw
          go_simp
          try with_reducible rfl
        try simp only [zP, zN, zS, zT, zU]
        refine wpAnyH_take (i := 6) (oi := ?oi307) (v := ?vi307) ?h307 (by kernel_rfl) (by kernel_rfl) (by kernel_rfl) ?q307 (Or.inl ⟨?w307, ?y307⟩) hHeld ?r307
        case h307 => simp only [zA, zB, zC] <;> exact rfl
        case q307 => exact fun _ _ _ h => h
        case w307 => rfl
        case y307 =>
          intro w hSw
          (try dsimp only at hSw)
          obtain ⟨o0, o3, cb, c2⟩ := hSw
          go_simp
          try with_reducible rfl
        try simp only [zP, zN, zS, zT, zU]
        refine wpAnyH_take (i := 7) (oi := ?oi308) (v := ?vi308) ?h308 (by kernel_rfl) (by kernel_rfl) (by kernel_rfl) ?q308 (Or.inl ⟨?w308, ?y308⟩) hHeld ?r308
        case h308 => simp only [zA, zB, zC] <;> exact rfl
        case q308 => exact fun _ _ _ h => h
        case w308 => rfl
        case y308 =>
          intro w hSw
          (try dsimp only at hSw)
          obtain ⟨o0, o3, cb, c2⟩ := hSw
          go_simp
          try with_reducible rfl
        try simp only [zP, zN, zS, zT, zU]
        refine wpAnyH_take (i := 8) (oi := ?oi309) (v := ?vi309) ?h309 (by kernel_rfl) (by kernel_rfl) (by kernel_rfl) ?q309 (Or.inl ⟨?w309, ?y309⟩) hHeld ?r309
        case h309 => simp only [zA, zB, zC] <;> exact rfl
        case q309 => exact fun _ _ _ h => h
        case w309 => rfl
        case y309 =>
          intro w hSw
          (try dsimp only at hSw)
          obtain ⟨o0, o3, cb, c2⟩ := hSw
          go_simp
          try with_reducible rfl
        try simp only [zP, zN, zS, zT, zU]
        refine wpAnyH_take (i := 9) (oi := ?oi310) (v := ?vi310) ?h310 (by kernel_rfl) (by kernel_rfl) (by kernel_rfl) ?q310 (Or.inl ⟨?w310, ?y310⟩) hHeld ?r310
        case h310 => simp only [zA, zB, zC] <;> exact rfl
        case q310 => exact fun _ _ _ h => h
        case w310 => rfl
        case y310 =>
          intro w hSw
          (try dsimp only at hSw)
          obtain ⟨o0, o3, cb, c2⟩ := hSw
          go_simp
          try with_reducible rfl
        try simp only [zP, zN, zS, zT, zU]
        refine wpAnyH_take (i := 10) (oi := ?oi311) (v := ?vi311) ?h311 (by kernel_rfl) (by kernel_rfl) (by kernel_rfl) ?q311 (Or.inl ⟨?w311, ?y311⟩) hHeld ?r311
        case h311 => simp only [zA, zB, zC] <;> exact rfl
        case q311 => exact fun _ _ _ h => h
        case w311 => rfl
        case y311 =>
          intro w hSw
          (try dsimp only at hSw)
          obtain ⟨o0, o3, cb, c2⟩ := hSw
          go_simp
          try with_reducible rfl
        try simp only [zP, zN, zS, zT, zU]
        refine wpAnyH_take (i := 11) (oi := ?oi312) (v := ?vi312) ?h312 (by kernel_rfl) (by kernel_rfl) (by kernel_rfl) ?q312 (Or.inl ⟨?w312, ?y312⟩) hHeld ?r312
        case h312 => simp only [zA, zB, zC] <;> exact rfl
        case q312 => exact fun _ _ _ h => h
        case w312 => rfl
        case y312 =>
          intro w hSw
          (try dsimp only at hSw)
          obtain ⟨o0, o3, cb, c2⟩ := hSw
          go_simp
          try with_reducible rfl
        try simp only [zP, zN, zS, zT, zU]
        refine wpAnyH_take (i := 12) (oi := ?oi313) (v := ?vi313) ?h313 (by kernel_rfl) (by kernel_rfl) (by kernel_rfl) ?q313 (Or.inl ⟨?w313, ?y313⟩) hHeld ?r313
        case h313 => simp only [zA, zB, zC] <;> exact rfl
        case q313 => exact fun _ _ _ h => h
        case w313 => rfl
        case y313 =>
          intro w hSw
          (try dsimp only at hSw)
          obtain ⟨o0, o3, cb, c2⟩ := hSw
          go_simp
          try with_reducible rfl
        try simp only [zP, zN, zS, zT, zU]
        refine wpAnyH_take (i := 13) (oi := ?oi314) (v := ?vi314) ?h314 (by kernel_rfl) (by kernel_rfl) (by kernel_rfl) ?q314 (Or.inl ⟨?w314, ?y314⟩) hHeld ?r314
        case h314 => simp only [zA, zB, zC] <;> exact rfl
        case q314 => exact fun _ _ _ h => h
        case w314 => rfl
        case y314 =>
          intro w hSw
          (try dsimp only at hSw)
          obtain ⟨o0, o3, cb, c2⟩ := hSw
          go_simp
          try with_reducible rfl
        try simp only [zP, zN, zS, zT, zU]
        refine wpAnyH_take (i := 14) (oi := ?oi315) (v := ?vi315) ?h315 (by kernel_rfl) (by kernel_rfl) (by kernel_rfl) ?q315 (Or.inl ⟨?w315, ?y315⟩) hHeld ?r315
        case h315 => simp only [zA, zB, zC] <;> exact rfl
        case q315 => exact fun _ _ _ h => h
        case w315 => rfl
        case y315 =>
          intro w hSw
          (try dsimp only at hSw)
          obtain ⟨o0, o3, cb, c2⟩ := hSw
          go_simp
          try with_reducible rfl
        try simp only [zP, zN, zS, zT, zU]
        refine wpAnyH_take (i := 15) (oi := ?oi316) (v := ?vi316) ?h316 (by kernel_rfl) (by kernel_rfl) (by kernel_rfl) ?q316 (Or.inl ⟨?w316, ?y316⟩) hHeld ?r316
        case h316 => simp only [zA, zB, zC] <;> exact rfl
        case q316 => exact fun _ _ _ h => h
        case w316 => rfl
        case y316 =>
          intro w hSw
          (try dsimp only at hSw)
          obtain ⟨o0, o3, cb, c2⟩ := hSw
          go_simp
          try with_reducible rfl
        try simp only [zP, zN, zS, zT, zU]
        refine wpAnyH_take (i := 16) (oi := ?oi317) (v := ?vi317) ?h317 (by kernel_rfl) (by kernel_rfl) (by kernel_rfl) ?q317 (Or.inl ⟨?w317, ?y317⟩) hHeld ?r317
        case h317 => simp only [zA, zB, zC] <;> exact rfl
        case q317 => exact fun _ _ _ h => h
        case w317 => rfl
        case y317 =>
          intro w hSw
          (try dsimp only at hSw)
          obtain ⟨o0, o3, cb, c2⟩ := hSw
          go_simp
          try with_reducible rfl
        try simp only [zP, zN, zS, zT, zU]
        refine wpAnyH_take (i := 17) (oi := ?oi318) (v := ?vi318) ?h318 (by kernel_rfl) (by kernel_rfl) (by kernel_rfl) ?q318 (Or.inl ⟨?w318, ?y318⟩) hHeld ?r318
        case h318 => simp only [zA, zB, zC] <;> exact rfl
        case q318 => exact fun _ _ _ h => h
        case w318 => rfl
        case y318 =>
          intro w hSw
          (try dsimp only at hSw)
          obtain ⟨o0, o3, cb, c2⟩ := hSw
          go_simp
          try with_reducible rfl
        try simp only [zP, zN, zS, zT, zU]
        refine wpAnyH_take (i := 18) (oi := ?oi319) (v := ?vi319) ?h319 (by kernel_rfl) (by kernel_rfl) (by kernel_rfl) ?q319 (Or.inl ⟨?w319, ?y319⟩) hHeld ?r319
        case h319 => simp only [zA, zB, zC] <;> exact rfl
        case q319 => exact fun _ _ _ h => h
        case w319 => rfl
        case y319 =>
          intro w hSw
          (try dsimp only at hSw)
          obtain ⟨o0, o3, cb, c2⟩ := hSw
          go_simp
          try with_reducible rfl
        try simp only [zP, zN, zS, zT, zU]
        refine wpAnyH_take (i := 19) (oi := ?oi320) (v := ?vi320) ?h320 (by kernel_rfl) (by kernel_rfl) (by kernel_rfl) ?q320 (Or.inl ⟨?w320, ?y320⟩) hHeld ?r320
        case h320 => simp only [zA, zB, zC] <;> exact rfl
        case q320 => exact fun _ _ _ h => h
        case w320 => rfl
        case y320 =>
          intro w hSw
          (try dsimp only at hSw)
          obtain ⟨o0, o3, cb, c2⟩ := hSw
          go_simp
          try with_reducible rfl
        try simp only [zP, zN, zS, zT, zU]
        refine wpAnyH_take (i := 20) (oi := ?oi321) (v := ?vi321) ?h321 (by kernel_rfl) (by kernel_rfl) (by kernel_rfl) ?q321 (Or.inl ⟨?w321, ?y321⟩) hHeld ?r321
        case h321 => simp only [zA, zB, zC] <;> exact rfl
        case q321 => exact fun _ _ _ h => h
        case w321 => rfl
        case y321 =>
          intro w hSw
          (try dsimp only at hSw)
          obtain ⟨o0, o3, cb, c2⟩ := hSw
          go_simp
          try with_reducible rfl
        try simp only [zP, zN, zS, zT, zU]
        refine wpAnyH_take (i := 21) (oi := ?oi322) (v := ?vi322) ?h322 (by kernel_rfl) (by kernel_rfl) (by kernel_rfl) ?q322 (Or.inl ⟨?w322, ?y322⟩) hHeld ?r322
        case h322 => simp only [zA, zB, zC] <;> exact rfl
        case q322 => exact fun _ _ _ h => h
        case w322 => rfl
        case y322 =>
          intro w hSw
          (try dsimp only at hSw)
          obtain ⟨o0, o3, cb, c2⟩ := hSw
          go_simp
          try with_reducible rfl
        try simp only [zP, zN, zS, zT, zU]
        refine wpAnyH_take (i := 22) (oi := ?oi323) (v := ?vi323) ?h323 (by kernel_rfl) (by kernel_rfl) (by kernel_rfl) ?q323 (Or.inl ⟨?w323, ?y323⟩) hHeld ?r323
        case h323 => simp only [zA, zB, zC] <;> exact rfl
        case q323 => exact fun _ _ _ h => h
        case w323 => rfl
        case y323 =>
          intro w hSw
          (try dsimp only at hSw)
          obtain ⟨o0, o3, cb, c2⟩ := hSw
          go_simp
          try with_reducible rfl
        try simp only [zP, zN, zS, zT, zU]
        refine wpAnyH_take (i := 23) (oi := ?oi324) (v := ?vi324) ?h324 (by kernel_rfl) (by kernel_rfl) (by kernel_rfl) ?q324 (Or.inl ⟨?w324, ?y324⟩) hHeld ?r324
        case h324 => simp only [zA, zB, zC] <;> exact rfl
        case q324 => exact fun _ _ _ h => h
        case w324 => rfl
        case y324 =>
          intro w hSw
          (try dsimp only at hSw)
          obtain ⟨o0, o3, cb, c2⟩ := hSw
          go_simp
          try with_reducible rfl
        try simp only [zP, zN, zS, zT, zU]
        refine wpAnyH_done (by kernel_rfl) ?_ _
        have hb2 := HX.out.2.1.non F4.out.2
        obtain ⟨r0, r1, r2, r3, r4⟩ := (hb2).r
        have z0 := (hb2).fz 0; have z1 := (hb2).fz 1; have z2 := (hb2).fz 2; have z3 := (hb2).fz 3; have z4 := (hb2).fz 4
        clear hb2
        go_wp2_with fail
        refine (refused_c 63 _).mono ?_
        rintro e w2 ⟨rfl, hf2⟩
        have hb2 := HX.out.2.1.non (F4.out.2.then hf2)
        have hfw := F4.out.1.then hf2
        clear r0 r1 r2 r3 r4 z0 z1 z2 z3 z4
        obtain ⟨r0, r1, r2, r3, r4⟩ := (hb2).r
        have z0 := (hb2).fz 0; have z1 := (hb2).fz 1; have z2 := (hb2).fz 2; have z3 := (hb2).fz 3; have z4 := (hb2).fz 4
        have HE := Lib.hid (And.intro hb2.res hfw)
        unfold badV
        clear hf2 hb2 hfw
        generalize w2 = W2 at *
        go_wp2
        have hw9 := set5 HE.out.1 (.int .i64 63) (.string ⟨#[]⟩) (.string ⟨#[]⟩) (.int .i64 0) (.slice none 0 0)
        have hf9 := fp5 (S := Non) HE.out.2 (b := w.heap.size + 1) (.inr (by omega)) (.int .i64 63) (.string ⟨#[]⟩) (.string ⟨#[]⟩) (.int .i64 0) (.slice none 0 0)
        generalize (((((World.setCell W2 _ _).setCell _ _).setCell _ _).setCell _ _).setCell _ _) = w9 at *
        have s0 := cell_of_row _ (w.heap.size + 1) 0 _ _ _ hw9
        have s1 := cell_of_row _ (w.heap.size + 1) 1 _ _ _ hw9
        have s2 := cell_of_row _ (w.heap.size + 1) 2 _ _ _ hw9
        have s3 := cell_of_row _ (w.heap.size + 1) 3 _ _ _ hw9
        have s4 := cell_of_row _ (w.heap.size + 1) 4 _ _ _ hw9
        simp only [zA, zB, zC] at s0 s1 s2 s3 s4
        exact bodyPost_ret (v := .agg #[.int .i64 63, .string ⟨#[]⟩, .string ⟨#[]⟩, .int .i64 0, .slice none 0 0]) (by simp [results, Tryz.results52, go_sem, s0, s1, s2, s3, s4]) rfl (by rw [HC.out.1, HC.out.2]; exact MeR.still HX.out.1 (r := .bad 63) (nv := .slice none 0 0) hf9 (Own.nil _ _))
set_option maxHeartbeats 8000000 in
theorem existing_5 {lo b G cap : Nat} {l : List Nd} {w : World} (h : Tn lo b G cap l w) (hs : Sp l) (hl : l.length ≤ 512) (hlo : lo ≤ w.heap.size) (ha : Asc l) (p d : Bs) (v ow : Int) (t : Bool) (g : Nat) (fk : Nat) (hg : w.cell? ⟨g, 0, none⟩ = some (.func (.func fk) #[] #[])) (hen : Enters Tryz.prog fk)
    (hdo : Does lo b G cap l ⟨5, p, d, v, ow, t⟩ w fk) :
    Calls Tryz.prog 52 #[.pointer (some ⟨b, 0, none⟩), opV ⟨5, p, d, v, ow, t⟩, .pointer (some ⟨g, 0, none⟩)] w (MeR lo b G (perform l ⟨5, p, d, v, ow, t⟩).1 (perform l ⟨5, p, d, v, ow, t⟩).2 w) := by
  have hcr : perform l ⟨5, p, d, v, ow, t⟩ = (match find l p with
      | none => (l, .bad 62)
      | some x => if False ∧ v ≠ -1 ∧ v ≠ x.ver then (l, .bad 63) else doit l ⟨5, p, d, v, ow, t⟩ x) := by
    unfold perform; simp [versioned]
    try (cases find l p <;> rfl)
  obtain ⟨cr, hcr2⟩ : ∃ cr, perform l ⟨5, p, d, v, ow, t⟩ = cr := ⟨_, rfl⟩
  rw [hcr2] at hcr ⊢
  obtain ⟨l', r'⟩ := cr
  simp only
  unfold opV strV
  have hbx := Bx.made w 5 p d v ow t
  have hf0 : Fp Non w ((w.alloc (.cells #[.int .i64 5, .string (B p), .string (B d), .int .i64 v, .int .i64 ow, .bool t] TO_)).alloc (.cells #[.int .i64 0, .string ⟨#[]⟩, .string ⟨#[]⟩, .int .i64 0, .slice none 0 0] TR)) := ((Fp.refl Non w).alloc _).alloc _
  have op1 : (((w.alloc (.cells #[.int .i64 5, .string (B p), .string (B d), .int .i64 v, .int .i64 ow, .bool t] TO_)).alloc (.cells #[.int .i64 0, .string ⟨#[]⟩, .string ⟨#[]⟩, .int .i64 0, .slice none 0 0] TR))).cell? ⟨w.heap.size, 1, none⟩ = some (.string (B p)) := by rw [cell_of_row _ _ _ _ _ _ hbx.op]; rfl
  have hpc := place_c (h.non hf0) p ha (by omega)
  have HPC := Lib.hid hpc
  obtain ⟨n, hn⟩ : ∃ n, n = l.length := ⟨_, rfl⟩
  have HX := Lib.hid (And.intro h (And.intro hbx (And.intro hf0 (And.intro hn (And.intro hs (And.intro hl hlo))))))
  have HA := Lib.hid (And.intro ha (And.intro hg (And.intro hdo hcr)))
  clear hpc h hbx hf0 hn hs hl hlo ha hg hdo hcr hcr2
  go_enter Tryz.func52, Tryz.ntmps52
  generalize hW0 : ((w.alloc (.cells #[.int .i64 5, .string (B p), .string (B d), .int .i64 v, .int .i64 ow, .bool t] TO_)).alloc (.cells #[.int .i64 0, .string ⟨#[]⟩, .string ⟨#[]⟩, .int .i64 0, .slice none 0 0] TR)) = W0 at *
  go_wp2_with fail
  clear hW0
  refine HPC.out.mono ?_
  rintro e w2 ⟨rfl, hf2⟩
  have F2 := Lib.hid (And.intro (HX.out.2.2.1.then hf2) hf2)
  clear hf2 HPC op1
  cases hfu : find l p with
  | none =>
    have hcr := HA.out.2.2.2
    rw [hfu] at hcr
    have HC := Lib.hid (show l' = l ∧ r' = .bad 62 from by injection hcr with a b; exact ⟨a, b⟩)
    clear hcr hfu
    have hb2 := HX.out.2.1.non F2.out.2
    obtain ⟨r0, r1, r2, r3, r4⟩ := (hb2).r
    have z0 := (hb2).fz 0; have z1 := (hb2).fz 1; have z2 := (hb2).fz 2; have z3 := (hb2).fz 3; have z4 := (hb2).fz 4
    clear hb2
    go_wp2_with fail
    refine (refused_c 62 _).mono ?_
    rintro e w2 ⟨rfl, hf2⟩
    have hb2 := HX.out.2.1.non (F2.out.2.then hf2)
    have hfw := F2.out.1.then hf2
    clear r0 r1 r2 r3 r4 z0 z1 z2 z3 z4
    obtain ⟨r0, r1, r2, r3, r4⟩ := (hb2).r
    have z0 := (hb2).fz 0; have z1 := (hb2).fz 1; have z2 := (hb2).fz 2; have z3 := (hb2).fz 3; have z4 := (hb2).fz 4
    have HE := Lib.hid (And.intro hb2.res hfw)
    unfold badV
    clear hf2 hb2 hfw
    generalize w2 = W2 at *
    go_wp2
    have hw9 := set5 HE.out.1 (.int .i64 62) (.string ⟨#[]⟩) (.string ⟨#[]⟩) (.int .i64 0) (.slice none 0 0)
    have hf9 := fp5 (S := Non) HE.out.2 (b := w.heap.size + 1) (.inr (by omega)) (.int .i64 62) (.string ⟨#[]⟩) (.string ⟨#[]⟩) (.int .i64 0) (.slice none 0 0)
    generalize (((((World.setCell W2 _ _).setCell _ _).setCell _ _).setCell _ _).setCell _ _) = w9 at *
    have s0 := cell_of_row _ (w.heap.size + 1) 0 _ _ _ hw9
    have s1 := cell_of_row _ (w.heap.size + 1) 1 _ _ _ hw9
    have s2 := cell_of_row _ (w.heap.size + 1) 2 _ _ _ hw9
    have s3 := cell_of_row _ (w.heap.size + 1) 3 _ _ _ hw9
    have s4 := cell_of_row _ (w.heap.size + 1) 4 _ _ _ hw9
    simp only [zA, zB, zC] at s0 s1 s2 s3 s4
    exact bodyPost_ret (v := .agg #[.int .i64 62, .string ⟨#[]⟩, .string ⟨#[]⟩, .int .i64 0, .slice none 0 0]) (by simp [results, Tryz.results52, go_sem, s0, s1, s2, s3, s4]) rfl (by rw [HC.out.1, HC.out.2]; exact MeR.still HX.out.1 (r := .bad 62) (nv := .slice none 0 0) hf9 (Own.nil _ _))
  | some x =>
    obtain ⟨hat, hx⟩ := find_at HA.out.1 hfu
    have hT2 := HX.out.1.non F2.out.1
    have hnd := hT2.row.nd (place l p) hat
    rw [hx] at hnd
    have hcr := HA.out.2.2.2
    rw [hfu] at hcr
    simp only at hcr
    have HDO := Lib.hid (fun w' f => HA.out.2.2.1 x w' hfu f)
    obtain ⟨at_, hatE⟩ : ∃ at_, place l p = at_ := ⟨_, rfl⟩
    simp only [hatE] at hnd HDO ⊢
    rw [hatE] at hat
    have cb := hT2.c0
    rw [← HX.out.2.2.2.1] at cb
    have q1 : (at_ < n) = True := eq_true (by rw [HX.out.2.2.2.1]; exact hat)
    have q2 : ((at_ : Int) < (n : Int)) = True := eq_true (by rw [HX.out.2.2.2.1]; omega)
    have hbW := F2.out.2.heap HX.out.2.1.op (fun h => h)
    obtain ⟨o0, o1, o2, o3, o4, o5⟩ := box6 hbW
    have c2 := hnd.c2
    simp only [Nat.zero_add] at c2
    obtain ⟨xp, xd, xv, xt, xo⟩ := x
    simp only at c2 hcr
    have HHC := Lib.hid hcr
    have fat := fields_at5
    have fbt : bits BinOp.and IntKind.i64 0 4 = 0 := by kernel_rfl
    clear hT2 hnd hcr hat hfu hx hatE hbW o1 o2 o4 o5
    have HC : Hid ((l', r') = doit l ⟨5, p, d, v, ow, t⟩ ⟨xp, xd, xv, xt, xo⟩) := by have hcr := HHC.out; rw [if_neg (fun k => k.1)] at hcr; exact hcr
    clear HHC
    go_wp2_with fail
    refine wp_region_held_drew (S := (fun w' => w'.cell? ⟨w.heap.size, 0, none⟩ = some (.int .i64 5) ∧ w'.cell? ⟨w.heap.size, 3, none⟩ = some (.int .i64 v) ∧ w'.cell? ⟨b, 0, none⟩ = some (.slice (some ⟨G, 0, none⟩) n cap) ∧ w'.cell? ⟨G, at_ * 5 + 2, none⟩ = some (.int .i64 xv))) (by kernel_rfl) ?_ (fun hHeld => ?_)
    · exact ⟨(Fp.refl Non _).drew.cell o0 (fun h => h), (Fp.refl Non _).drew.cell o3 (fun h => h), (Fp.refl Non _).drew.cell cb (fun h => h), (Fp.refl Non _).drew.cell c2 (fun h => h)⟩
    have HSD := Lib.hid (fun w9 (hf : Fp Non w2.drew w9) => And.intro (hf.cell ((Fp.refl Non w2).drew.cell o0 (fun h => h)) (fun h => h)) (And.intro (hf.cell ((Fp.refl Non w2).drew.cell o3 (fun h => h)) (fun h => h)) (And.intro (hf.cell ((Fp.refl Non w2).drew.cell cb (fun h => h)) (fun h => h)) (hf.cell ((Fp.refl Non w2).drew.cell c2 (fun h => h)) (fun h => h)))))
    have F3 := Lib.hid (And.intro F2.out.1.drew F2.out.2.drew)
    clear o0 o3 cb c2
    generalize w2.drew = w3 at *
    refine wpAnyH_take (i := 1) (oi := ?oi325) (v := ?vi325) ?h325 (by kernel_rfl) (by kernel_rfl) (by kernel_rfl) ?q325 (Or.inl ⟨?w325, ?y325⟩) hHeld ?r325
    case h325 => simp only [zA, zB, zC] <;> exact rfl
    case q325 => exact fun _ _ _ h => h
    case w325 => rfl
    case y325 =>
      intro w hSw
      (try dsimp only at hSw)
      obtain ⟨o0, o3, cb, c2⟩ := hSw
      go_simp
      try with_reducible rfl
    try simp only [zP, zN, zS, zT, zU]
    refine wpAnyH_take (i := 2) (oi := ?oi326) (v := ?vi326) ?h326 (by kernel_rfl) (by kernel_rfl) (by kernel_rfl) ?q326 (Or.inl ⟨?w326, ?y326⟩) hHeld ?r326
    case h326 => simp only [zA, zB, zC] <;> exact rfl
    case q326 => exact fun _ _ _ h => h
    case w326 => rfl
    case y326 =>
      intro w hSw
      (try dsimp only at hSw)
      obtain ⟨o0, o3, cb, c2⟩ := hSw
      go_simp
      try with_reducible rfl
    try simp only [zP, zN, zS, zT, zU]
    refine wpAnyH_ready (rs := [0]) (by kernel_rfl) (by simp) ?_
    refine AllReadyH.cons (o := ?ob327) ?hb327 (fun K hK => ?_) AllReadyH.nil
    case hb327 => simp only [zA, zB, zC] <;> exact rfl
    go_simp
    go_at_call 32
    refine (fields_c _).mono ?_
    rintro e w4 ⟨rfl, hf4⟩
    have HS4 := Lib.hid (HSD.out w4 hf4)
    have F4 := Lib.hid (And.intro (F3.out.1.then hf4) (F3.out.2.then hf4))
    clear hf4 HSD F3
    go_wp2_with fail
    refine hK.out _ _ HS4.out (fun hHeld => ?_)
    clear hK K
    try simp only [zP, zN, zS, zT, zU]
    refine wpAnyH_take (i := 3) (oi := ?oi328) (v := ?vi328) ?h328 (by kernel_rfl) (by kernel_rfl) (by kernel_rfl) ?q328 (Or.inl ⟨?w328, ?y328⟩) hHeld ?r328
    case h328 => simp only [zA, zB, zC] <;> exact rfl
    case q328 => exact fun _ _ _ h => h
    case w328 => rfl
    case y328 =>
      intro w hSw
      (try dsimp only at hSw)
      obtain ⟨o0, o3, cb, c2⟩ := hSw
      go_simp
      try with_reducible rfl
    try simp only [zP, zN, zS, zT, zU]
    refine wpAnyH_take (i := 4) (oi := ?oi329) (v := ?vi329) ?h329 (by kernel_rfl) (by kernel_rfl) (by kernel_rfl) ?q329 (Or.inl ⟨?w329, ?y329⟩) hHeld ?r329
    case h329 => simp only [zA, zB, zC] <;> exact rfl
    case q329 => exact fun _ _ _ h => h
    case w329 => rfl
    case y329 =>
      intro w hSw
      (try dsimp only at hSw)
      obtain ⟨o0, o3, cb, c2⟩ := hSw
      go_simp
      try with_reducible rfl
    try simp only [zP, zN, zS, zT, zU]
    refine wpAnyH_take (i := 5) (oi := ?oi330) (v := ?vi330) ?h330 (by kernel_rfl) (by kernel_rfl) (by kernel_rfl) ?q330 (Or.inl ⟨?w330, ?y330⟩) hHeld ?r330
    case h330 => simp only [zA, zB, zC] <;> exact rfl
    case q330 => exact fun _ _ _ h => h
    case w330 => rfl
    case y330 =>
      intro w hSw
      (try dsimp only at hSw)
      obtain ⟨o0, o3, cb, c2⟩ := hSw
      go_simp
      try with_reducible rfl
    try simp only [zP, zN, zS, zT, zU]
    refine wpAnyH_take (i := 6) (oi := ?oi331) (v := ?vi331) ?h331 (by kernel_rfl) (by kernel_rfl) (by kernel_rfl) ?q331 (Or.inl ⟨?w331, ?y331⟩) hHeld ?r331
    case h331 => simp only [zA, zB, zC] <;> exact rfl
    case q331 => exact fun _ _ _ h => h
    case w331 => rfl
    case y331 =>
      intro w hSw
      (try dsimp only at hSw)
      obtain ⟨o0, o3, cb, c2⟩ := hSw
      go_simp
      try with_reducible rfl
    try simp only [zP, zN, zS, zT, zU]
    refine wpAnyH_take (i := 7) (oi := ?oi332) (v := undef) ?h332 (by kernel_rfl) (by kernel_rfl) (by kernel_rfl) ?q332 (Or.inr ⟨?w332, rfl⟩) hHeld ?r332
    case h332 => simp only [zA, zB, zC] <;> exact rfl
    case q332 => exact fun _ _ _ h => h
    case w332 => rfl
    try simp only [zP, zN, zS, zT, zU]
    refine wpAnyH_take (i := 8) (oi := ?oi333) (v := undef) ?h333 (by kernel_rfl) (by kernel_rfl) (by kernel_rfl) ?q333 (Or.inr ⟨?w333, rfl⟩) hHeld ?r333
    case h333 => simp only [zA, zB, zC] <;> exact rfl
    case q333 => exact fun _ _ _ h => h
    case w333 => rfl
    try simp only [zP, zN, zS, zT, zU]
    refine wpAnyH_take (i := 9) (oi := ?oi334) (v := undef) ?h334 (by kernel_rfl) (by kernel_rfl) (by kernel_rfl) ?q334 (Or.inr ⟨?w334, rfl⟩) hHeld ?r334
    case h334 => simp only [zA, zB, zC] <;> exact rfl
    case q334 => exact fun _ _ _ h => h
    case w334 => rfl
    try simp only [zP, zN, zS, zT, zU]
    refine wpAnyH_take (i := 10) (oi := ?oi335) (v := ?vi335) ?h335 (by kernel_rfl) (by kernel_rfl) (by kernel_rfl) ?q335 (Or.inl ⟨?w335, ?y335⟩) hHeld ?r335
    case h335 => simp only [zA, zB, zC] <;> exact rfl
    case q335 => exact fun _ _ _ h => h
    case w335 => rfl
    case y335 =>
      intro w hSw
      (try dsimp only at hSw)
      obtain ⟨o0, o3, cb, c2⟩ := hSw
      go_simp
      try with_reducible rfl
    try simp only [zP, zN, zS, zT, zU]
    refine wpAnyH_take (i := 11) (oi := ?oi336) (v := ?vi336) ?h336 (by kernel_rfl) (by kernel_rfl) (by kernel_rfl) ?q336 (Or.inl ⟨?w336, ?y336⟩) hHeld ?r336
    case h336 => simp only [zA, zB, zC] <;> exact rfl
    case q336 => exact fun _ _ _ h => h
    case w336 => rfl
    case y336 =>
      intro w hSw
      (try dsimp only at hSw)
      obtain ⟨o0, o3, cb, c2⟩ := hSw
      go_simp
      try with_reducible rfl
    try simp only [zP, zN, zS, zT, zU]
    refine wpAnyH_take (i := 12) (oi := ?oi337) (v := undef) ?h337 (by kernel_rfl) (by kernel_rfl) (by kernel_rfl) ?q337 (Or.inr ⟨?w337, rfl⟩) hHeld ?r337
    case h337 => simp only [zA, zB, zC] <;> exact rfl
    case q337 => exact fun _ _ _ h => h
    case w337 => rfl
    try simp only [zP, zN, zS, zT, zU]
    refine wpAnyH_take (i := 13) (oi := ?oi338) (v := undef) ?h338 (by kernel_rfl) (by kernel_rfl) (by kernel_rfl) ?q338 (Or.inr ⟨?w338, rfl⟩) hHeld ?r338
    case h338 => simp only [zA, zB, zC] <;> exact rfl
    case q338 => exact fun _ _ _ h => h
    case w338 => rfl
    try simp only [zP, zN, zS, zT, zU]
    refine wpAnyH_take (i := 14) (oi := ?oi339) (v := undef) ?h339 (by kernel_rfl) (by kernel_rfl) (by kernel_rfl) ?q339 (Or.inr ⟨?w339, rfl⟩) hHeld ?r339
    case h339 => simp only [zA, zB, zC] <;> exact rfl
    case q339 => exact fun _ _ _ h => h
    case w339 => rfl
    try simp only [zP, zN, zS, zT, zU]
    refine wpAnyH_take (i := 15) (oi := ?oi340) (v := undef) ?h340 (by kernel_rfl) (by kernel_rfl) (by kernel_rfl) ?q340 (Or.inr ⟨?w340, rfl⟩) hHeld ?r340
    case h340 => simp only [zA, zB, zC] <;> exact rfl
    case q340 => exact fun _ _ _ h => h
    case w340 => rfl
    try simp only [zP, zN, zS, zT, zU]
    refine wpAnyH_take (i := 16) (oi := ?oi341) (v := undef) ?h341 (by kernel_rfl) (by kernel_rfl) (by kernel_rfl) ?q341 (Or.inr ⟨?w341, rfl⟩) hHeld ?r341
    case h341 => simp only [zA, zB, zC] <;> exact rfl
    case q341 => exact fun _ _ _ h => h
    case w341 => rfl
    try simp only [zP, zN, zS, zT, zU]
    refine wpAnyH_take (i := 17) (oi := ?oi342) (v := undef) ?h342 (by kernel_rfl) (by kernel_rfl) (by kernel_rfl) ?q342 (Or.inr ⟨?w342, rfl⟩) hHeld ?r342
    case h342 => simp only [zA, zB, zC] <;> exact rfl
    case q342 => exact fun _ _ _ h => h
    case w342 => rfl
    try simp only [zP, zN, zS, zT, zU]
    refine wpAnyH_take (i := 18) (oi := ?oi343) (v := undef) ?h343 (by kernel_rfl) (by kernel_rfl) (by kernel_rfl) ?q343 (Or.inr ⟨?w343, rfl⟩) hHeld ?r343
    case h343 => simp only [zA, zB, zC] <;> exact rfl
    case q343 => exact fun _ _ _ h => h
    case w343 => rfl
    try simp only [zP, zN, zS, zT, zU]
    refine wpAnyH_take (i := 19) (oi := ?oi344) (v := undef) ?h344 (by kernel_rfl) (by kernel_rfl) (by kernel_rfl) ?q344 (Or.inr ⟨?w344, rfl⟩) hHeld ?r344
    case h344 => simp only [zA, zB, zC] <;> exact rfl
    case q344 => exact fun _ _ _ h => h
    case w344 => rfl
    try simp only [zP, zN, zS, zT, zU]
    refine wpAnyH_take (i := 20) (oi := ?oi345) (v := undef) ?h345 (by kernel_rfl) (by kernel_rfl) (by kernel_rfl) ?q345 (Or.inr ⟨?w345, rfl⟩) hHeld ?r345
    case h345 => simp only [zA, zB, zC] <;> exact rfl
    case q345 => exact fun _ _ _ h => h
    case w345 => rfl
    try simp only [zP, zN, zS, zT, zU]
    refine wpAnyH_take (i := 21) (oi := ?oi346) (v := undef) ?h346 (by kernel_rfl) (by kernel_rfl) (by kernel_rfl) ?q346 (Or.inr ⟨?w346, rfl⟩) hHeld ?r346
    case h346 => simp only [zA, zB, zC] <;> exact rfl
    case q346 => exact fun _ _ _ h => h
    case w346 => rfl
    try simp only [zP, zN, zS, zT, zU]
    refine wpAnyH_take (i := 22) (oi := ?oi347) (v := undef) ?h347 (by kernel_rfl) (by kernel_rfl) (by kernel_rfl) ?q347 (Or.inr ⟨?w347, rfl⟩) hHeld ?r347
    case h347 => simp only [zA, zB, zC] <;> exact rfl
    case q347 => exact fun _ _ _ h => h
    case w347 => rfl
    try simp only [zP, zN, zS, zT, zU]
    refine wpAnyH_take (i := 23) (oi := ?oi348) (v := ?vi348) ?h348 (by kernel_rfl) (by kernel_rfl) (by kernel_rfl) ?q348 (Or.inl ⟨?w348, ?y348⟩) hHeld ?r348
    case h348 => simp only [zA, zB, zC] <;> exact rfl
    case q348 => exact fun _ _ _ h => h
    case w348 => rfl
    case y348 =>
      intro w hSw
      (try dsimp only at hSw)
      obtain ⟨o0, o3, cb, c2⟩ := hSw
      go_simp
      try with_reducible rfl
    try simp only [zP, zN, zS, zT, zU]
    refine wpAnyH_done (by kernel_rfl) ?_ _
    clear hHeld
    have gc := F4.out.1.cell HA.out.2.1 (fun h => h)
    obtain ⟨o0, o1, o2, o3, o4, o5⟩ := box6 (F4.out.2.heap HX.out.2.1.op (fun h => h))
    obtain ⟨re, rp, rd, rv, rn⟩ := r'
    have hdo := HDO.out _ F4.out.1
    rw [← HC.out] at hdo
    have HDC := Lib.hid hdo
    clear hdo HDO HC HS4 F2
    go_wp2_with fail
    rw [hen _ _]
    go_wp2_with fail
    refine HDC.out.mono ?_
    intro e w5 hM
    obtain ⟨nv, G', cap', rfl, ho, ht, hg⟩ := hM.ex
    have hfw := hM.fp
    have hnG : ∀ k, ownT b G k → k < w.heap.size := fun k hk => by
      rcases hk with hk | hk
      · rw [hk]; exact HX.out.1.lt
      · rw [hk]; exact HX.out.1.row.lt
    have hb5 := (HX.out.2.1.non F4.out.2).keep hfw (fun k hk => .inl (hnG k hk))
    have h4s : w.heap.size + 2 ≤ w4.heap.size := Nat.le_trans HX.out.2.1.sz F4.out.2.size
    have hf5 : Fp (ownT b G) w w5 := (F4.out.1.any (S := ownT b G)).same hfw
    have hnv := fun k e => (ho.1.lt k e).1
    have HNV := Lib.hid (show nv.ownBlock = some (w.heap.size + 1) → False from fun e => by have := hnv _ e; omega)
    have HGN := Lib.hid (And.intro (show b ≠ w.heap.size + 1 by have := hnG b (.inl rfl); omega) (show G' ≠ w.heap.size + 1 by
      rcases hg with e | e
      · have := hnG G (.inr rfl); omega
      · have : w4.heap.size ≤ G' := e; omega))
    have HG2 := Lib.hid (show G' = G ∨ w.heap.size ≤ G' by
      rcases hg with e | e
      · exact .inl e
      · exact .inr (by have : w4.heap.size ≤ G' := e; omega))
    have ho2 : Own w.heap.size w5 nv rn := ho.low F4.out.1.size
    obtain ⟨vao, vcap, hvs⟩ := ho2.shape
    have HE := Lib.hid (And.intro hb5.res (And.intro hf5 (And.intro ht ho2)))
    unfold strV
    obtain ⟨r0, r1, r2, r3, r4⟩ := (hb5).r
    have z0 := (hb5).fz 0; have z1 := (hb5).fz 1; have z2 := (hb5).fz 2; have z3 := (hb5).fz 3; have z4 := (hb5).fz 4
    clear hM hfw hnG hb5 h4s hf5 hnv hg ho ht ho2 HDC gc o0 o1 o2 o3 o4 o5
    subst hvs
    generalize w5 = W5 at *
    go_wp2
    have hT9 := HE.out.2.2.1.keep (fp5 (S := fun k => k = w.heap.size + 1) (Fp.refl _ W5) (b := w.heap.size + 1) (.inl rfl) (.int .i64 re) (.string (B rp)) (.string (B rd)) (.int .i64 rv) (.slice vao rn.length vcap)) (fun e => HGN.out.1 e) (fun e => HGN.out.2 e)
    have HO9 := own5 HE.out.2.2.2 (b := w.heap.size + 1) (fun e => HNV.out e) (.int .i64 re) (.string (B rp)) (.string (B rd)) (.int .i64 rv) (.slice vao rn.length vcap)
    have hw9 := set5 HE.out.1 (.int .i64 re) (.string (B rp)) (.string (B rd)) (.int .i64 rv) (.slice vao rn.length vcap)
    have hf9 := fp5 (S := ownT b G) HE.out.2.1 (b := w.heap.size + 1) (.inr (by omega)) (.int .i64 re) (.string (B rp)) (.string (B rd)) (.int .i64 rv) (.slice vao rn.length vcap)
    generalize (((((World.setCell W5 _ _).setCell _ _).setCell _ _).setCell _ _).setCell _ _) = w9 at *
    have s0 := cell_of_row _ (w.heap.size + 1) 0 _ _ _ hw9
    have s1 := cell_of_row _ (w.heap.size + 1) 1 _ _ _ hw9
    have s2 := cell_of_row _ (w.heap.size + 1) 2 _ _ _ hw9
    have s3 := cell_of_row _ (w.heap.size + 1) 3 _ _ _ hw9
    have s4 := cell_of_row _ (w.heap.size + 1) 4 _ _ _ hw9
    simp only [zA, zB, zC] at s0 s1 s2 s3 s4
    exact bodyPost_ret (v := .agg #[.int .i64 re, .string (B rp), .string (B rd), .int .i64 rv, .slice vao rn.length vcap]) (by simp [results, Tryz.results52, go_sem, s0, s1, s2, s3, s4]) rfl (MeR.of (r := ⟨re, rp, rd, rv, rn⟩) (nv := .slice vao rn.length vcap) hT9 HG2.out hf9 HO9)
set_option maxHeartbeats 8000000 in
theorem existing_6 {lo b G cap : Nat} {l : List Nd} {w : World} (h : Tn lo b G cap l w) (hs : Sp l) (hl : l.length ≤ 512) (hlo : lo ≤ w.heap.size) (ha : Asc l) (p d : Bs) (v ow : Int) (t : Bool) (g : Nat) (fk : Nat) (hg : w.cell? ⟨g, 0, none⟩ = some (.func (.func fk) #[] #[])) (hen : Enters Tryz.prog fk)
    (hdo : Does lo b G cap l ⟨6, p, d, v, ow, t⟩ w fk) :
    Calls Tryz.prog 52 #[.pointer (some ⟨b, 0, none⟩), opV ⟨6, p, d, v, ow, t⟩, .pointer (some ⟨g, 0, none⟩)] w (MeR lo b G (perform l ⟨6, p, d, v, ow, t⟩).1 (perform l ⟨6, p, d, v, ow, t⟩).2 w) := by
  have hcr : perform l ⟨6, p, d, v, ow, t⟩ = (match find l p with
      | none => (l, .bad 62)
      | some x => if False ∧ v ≠ -1 ∧ v ≠ x.ver then (l, .bad 63) else doit l ⟨6, p, d, v, ow, t⟩ x) := by
    unfold perform; simp [versioned]
    try (cases find l p <;> rfl)
  obtain ⟨cr, hcr2⟩ : ∃ cr, perform l ⟨6, p, d, v, ow, t⟩ = cr := ⟨_, rfl⟩
  rw [hcr2] at hcr ⊢
  obtain ⟨l', r'⟩ := cr
  simp only
  unfold opV strV
  have hbx := Bx.made w 6 p d v ow t
  have hf0 : Fp Non w ((w.alloc (.cells #[.int .i64 6, .string (B p), .string (B d), .int .i64 v, .int .i64 ow, .bool t] TO_)).alloc (.cells #[.int .i64 0, .string ⟨#[]⟩, .string ⟨#[]⟩, .int .i64 0, .slice none 0 0] TR)) := ((Fp.refl Non w).alloc _).alloc _
  have op1 : (((w.alloc (.cells #[.int .i64 6, .string (B p), .string (B d), .int .i64 v, .int .i64 ow, .bool t] TO_)).alloc (.cells #[.int .i64 0, .string ⟨#[]⟩, .string ⟨#[]⟩, .int .i64 0, .slice none 0 0] TR))).cell? ⟨w.heap.size, 1, none⟩ = some (.string (B p)) := by rw [cell_of_row _ _ _ _ _ _ hbx.op]; rfl
  have hpc := place_c (h.non hf0) p ha (by omega)
  have HPC := Lib.hid hpc
  obtain ⟨n, hn⟩ : ∃ n, n = l.length := ⟨_, rfl⟩
  have HX := Lib.hid (And.intro h (And.intro hbx (And.intro hf0 (And.intro hn (And.intro hs (And.intro hl hlo))))))
  have HA := Lib.hid (And.intro ha (And.intro hg (And.intro hdo hcr)))
  clear hpc h hbx hf0 hn hs hl hlo ha hg hdo hcr hcr2
  go_enter Tryz.func52, Tryz.ntmps52
  generalize hW0 : ((w.alloc (.cells #[.int .i64 6, .string (B p), .string (B d), .int .i64 v, .int .i64 ow, .bool t] TO_)).alloc (.cells #[.int .i64 0, .string ⟨#[]⟩, .string ⟨#[]⟩, .int .i64 0, .slice none 0 0] TR)) = W0 at *
  go_wp2_with fail
  clear hW0
  refine HPC.out.mono ?_
  rintro e w2 ⟨rfl, hf2⟩
  have F2 := Lib.hid (And.intro (HX.out.2.2.1.then hf2) hf2)
  clear hf2 HPC op1
  cases hfu : find l p with
  | none =>
    have hcr := HA.out.2.2.2
    rw [hfu] at hcr
    have HC := Lib.hid (show l' = l ∧ r' = .bad 62 from by injection hcr with a b; exact ⟨a, b⟩)
    clear hcr hfu
    have hb2 := HX.out.2.1.non F2.out.2
    obtain ⟨r0, r1, r2, r3, r4⟩ := (hb2).r
    have z0 := (hb2).fz 0; have z1 := (hb2).fz 1; have z2 := (hb2).fz 2; have z3 := (hb2).fz 3; have z4 := (hb2).fz 4
    clear hb2
    go_wp2_with fail
    refine (refused_c 62 _).mono ?_
    rintro e w2 ⟨rfl, hf2⟩
    have hb2 := HX.out.2.1.non (F2.out.2.then hf2)
    have hfw := F2.out.1.then hf2
    clear r0 r1 r2 r3 r4 z0 z1 z2 z3 z4
    obtain ⟨r0, r1, r2, r3, r4⟩ := (hb2).r
    have z0 := (hb2).fz 0; have z1 := (hb2).fz 1; have z2 := (hb2).fz 2; have z3 := (hb2).fz 3; have z4 := (hb2).fz 4
    have HE := Lib.hid (And.intro hb2.res hfw)
    unfold badV
    clear hf2 hb2 hfw
    generalize w2 = W2 at *
    go_wp2
    have hw9 := set5 HE.out.1 (.int .i64 62) (.string ⟨#[]⟩) (.string ⟨#[]⟩) (.int .i64 0) (.slice none 0 0)
    have hf9 := fp5 (S := Non) HE.out.2 (b := w.heap.size + 1) (.inr (by omega)) (.int .i64 62) (.string ⟨#[]⟩) (.string ⟨#[]⟩) (.int .i64 0) (.slice none 0 0)
    generalize (((((World.setCell W2 _ _).setCell _ _).setCell _ _).setCell _ _).setCell _ _) = w9 at *
    have s0 := cell_of_row _ (w.heap.size + 1) 0 _ _ _ hw9
    have s1 := cell_of_row _ (w.heap.size + 1) 1 _ _ _ hw9
    have s2 := cell_of_row _ (w.heap.size + 1) 2 _ _ _ hw9
    have s3 := cell_of_row _ (w.heap.size + 1) 3 _ _ _ hw9
    have s4 := cell_of_row _ (w.heap.size + 1) 4 _ _ _ hw9
    simp only [zA, zB, zC] at s0 s1 s2 s3 s4
    exact bodyPost_ret (v := .agg #[.int .i64 62, .string ⟨#[]⟩, .string ⟨#[]⟩, .int .i64 0, .slice none 0 0]) (by simp [results, Tryz.results52, go_sem, s0, s1, s2, s3, s4]) rfl (by rw [HC.out.1, HC.out.2]; exact MeR.still HX.out.1 (r := .bad 62) (nv := .slice none 0 0) hf9 (Own.nil _ _))
  | some x =>
    obtain ⟨hat, hx⟩ := find_at HA.out.1 hfu
    have hT2 := HX.out.1.non F2.out.1
    have hnd := hT2.row.nd (place l p) hat
    rw [hx] at hnd
    have hcr := HA.out.2.2.2
    rw [hfu] at hcr
    simp only at hcr
    have HDO := Lib.hid (fun w' f => HA.out.2.2.1 x w' hfu f)
    obtain ⟨at_, hatE⟩ : ∃ at_, place l p = at_ := ⟨_, rfl⟩
    simp only [hatE] at hnd HDO ⊢
    rw [hatE] at hat
    have cb := hT2.c0
    rw [← HX.out.2.2.2.1] at cb
    have q1 : (at_ < n) = True := eq_true (by rw [HX.out.2.2.2.1]; exact hat)
    have q2 : ((at_ : Int) < (n : Int)) = True := eq_true (by rw [HX.out.2.2.2.1]; omega)
    have hbW := F2.out.2.heap HX.out.2.1.op (fun h => h)
    obtain ⟨o0, o1, o2, o3, o4, o5⟩ := box6 hbW
    have c2 := hnd.c2
    simp only [Nat.zero_add] at c2
    obtain ⟨xp, xd, xv, xt, xo⟩ := x
    simp only at c2 hcr
    have HHC := Lib.hid hcr
    have fat := fields_at6
    have fbt : bits BinOp.and IntKind.i64 0 4 = 0 := by kernel_rfl
    clear hT2 hnd hcr hat hfu hx hatE hbW o1 o2 o4 o5
    have HC : Hid ((l', r') = doit l ⟨6, p, d, v, ow, t⟩ ⟨xp, xd, xv, xt, xo⟩) := by have hcr := HHC.out; rw [if_neg (fun k => k.1)] at hcr; exact hcr
    clear HHC
    go_wp2_with fail
    refine wp_region_held_drew (S := (fun w' => w'.cell? ⟨w.heap.size, 0, none⟩ = some (.int .i64 6) ∧ w'.cell? ⟨w.heap.size, 3, none⟩ = some (.int .i64 v) ∧ w'.cell? ⟨b, 0, none⟩ = some (.slice (some ⟨G, 0, none⟩) n cap) ∧ w'.cell? ⟨G, at_ * 5 + 2, none⟩ = some (.int .i64 xv))) (by kernel_rfl) ?_ (fun hHeld => ?_)
    · exact ⟨(Fp.refl Non _).drew.cell o0 (fun h => h), (Fp.refl Non _).drew.cell o3 (fun h => h), (Fp.refl Non _).drew.cell cb (fun h => h), (Fp.refl Non _).drew.cell c2 (fun h => h)⟩
    have HSD := Lib.hid (fun w9 (hf : Fp Non w2.drew w9) => And.intro (hf.cell ((Fp.refl Non w2).drew.cell o0 (fun h => h)) (fun h => h)) (And.intro (hf.cell ((Fp.refl Non w2).drew.cell o3 (fun h => h)) (fun h => h)) (And.intro (hf.cell ((Fp.refl Non w2).drew.cell cb (fun h => h)) (fun h => h)) (hf.cell ((Fp.refl Non w2).drew.cell c2 (fun h => h)) (fun h => h)))))
    have F3 := Lib.hid (And.intro F2.out.1.drew F2.out.2.drew)
    clear o0 o3 cb c2
    generalize w2.drew = w3 at *
    refine wpAnyH_take (i := 1) (oi := ?oi349) (v := ?vi349) ?h349 (by kernel_rfl) (by kernel_rfl) (by kernel_rfl) ?q349 (Or.inl ⟨?w349, ?y349⟩) hHeld ?r349
    case h349 => simp only [zA, zB, zC] <;> exact rfl
    case q349 => exact fun _ _ _ h => h
    case w349 => rfl
    case y349 =>
      intro w hSw
      (try dsimp only at hSw)
      obtain ⟨o0, o3, cb, c2⟩ := hSw
      go_simp
      try with_reducible rfl
    try simp only [zP, zN, zS, zT, zU]
    refine wpAnyH_take (i := 2) (oi := ?oi350) (v := ?vi350) ?h350 (by kernel_rfl) (by kernel_rfl) (by kernel_rfl) ?q350 (Or.inl ⟨?w350, ?y350⟩) hHeld ?r350
    case h350 => simp only [zA, zB, zC] <;> exact rfl
    case q350 => exact fun _ _ _ h => h
    case w350 => rfl
    case y350 =>
      intro w hSw
      (try dsimp only at hSw)
      obtain ⟨o0, o3, cb, c2⟩ := hSw
      go_simp
      try with_reducible rfl
    try simp only [zP, zN, zS, zT, zU]
    refine wpAnyH_ready (rs := [0]) (by kernel_rfl) (by simp) ?_
    refine AllReadyH.cons (o := ?ob351) ?hb351 (fun K hK => ?_) AllReadyH.nil
    case hb351 => simp only [zA, zB, zC] <;> exact rfl
    go_simp
    go_at_call 32
    refine (fields_c _).mono ?_
    rintro e w4 ⟨rfl, hf4⟩
    have HS4 := Lib.hid (HSD.out w4 hf4)
    have F4 := Lib.hid (And.intro (F3.out.1.then hf4) (F3.out.2.then hf4))
    clear hf4 HSD F3
    go_wp2_with fail
    refine hK.out _ _ HS4.out (fun hHeld => ?_)
    clear hK K
    try simp only [zP, zN, zS, zT, zU]
    refine wpAnyH_take (i := 3) (oi := ?oi352) (v := ?vi352) ?h352 (by kernel_rfl) (by kernel_rfl) (by kernel_rfl) ?q352 (Or.inl ⟨?w352, ?y352⟩) hHeld ?r352
    case h352 => simp only [zA, zB, zC] <;> exact rfl
    case q352 => exact fun _ _ _ h => h
    case w352 => rfl
    case y352 =>
      intro w hSw
      (try dsimp only at hSw)
      obtain ⟨o0, o3, cb, c2⟩ := hSw
      go_simp
      try with_reducible rfl
    try simp only [zP, zN, zS, zT, zU]
    refine wpAnyH_take (i := 4) (oi := ?oi353) (v := ?vi353) ?h353 (by kernel_rfl) (by kernel_rfl) (by kernel_rfl) ?q353 (Or.inl ⟨?w353, ?y353⟩) hHeld ?r353
    case h353 => simp only [zA, zB, zC] <;> exact rfl
    case q353 => exact fun _ _ _ h => h
    case w353 => rfl
    case y353 =>
      intro w hSw
      (try dsimp only at hSw)
      obtain ⟨o0, o3, cb, c2⟩ := hSw
      go_simp
      try with_reducible rfl
    try simp only [zP, zN, zS, zT, zU]
    refine wpAnyH_take (i := 5) (oi := ?oi354) (v := ?vi354) ?h354 (by kernel_rfl) (by kernel_rfl) (by kernel_rfl) ?q354 (Or.inl ⟨?w354, ?y354⟩) hHeld ?r354
    case h354 => simp only [zA, zB, zC] <;> exact rfl
    case q354 => exact fun _ _ _ h => h
    case w354 => rfl
    case y354 =>
      intro w hSw
      (try dsimp only at hSw)
      obtain ⟨o0, o3, cb, c2⟩ := hSw
      go_simp
      try with_reducible rfl
    try simp only [zP, zN, zS, zT, zU]
    refine wpAnyH_take (i := 6) (oi := ?oi355) (v := ?vi355) ?h355 (by kernel_rfl) (by kernel_rfl) (by kernel_rfl) ?q355 (Or.inl ⟨?w355, ?y355⟩) hHeld ?r355
    case h355 => simp only [zA, zB, zC] <;> exact rfl
    case q355 => exact fun _ _ _ h => h
    case w355 => rfl
    case y355 =>
      intro w hSw
      (try dsimp only at hSw)
      obtain ⟨o0, o3, cb, c2⟩ := hSw
      go_simp
      try with_reducible rfl
    try simp only [zP, zN, zS, zT, zU]
    refine wpAnyH_take (i := 7) (oi := ?oi356) (v := undef) ?h356 (by kernel_rfl) (by kernel_rfl) (by kernel_rfl) ?q356 (Or.inr ⟨?w356, rfl⟩) hHeld ?r356
    case h356 => simp only [zA, zB, zC] <;> exact rfl
    case q356 => exact fun _ _ _ h => h
    case w356 => rfl
    try simp only [zP, zN, zS, zT, zU]
    refine wpAnyH_take (i := 8) (oi := ?oi357) (v := undef) ?h357 (by kernel_rfl) (by kernel_rfl) (by kernel_rfl) ?q357 (Or.inr ⟨?w357, rfl⟩) hHeld ?r357
    case h357 => simp only [zA, zB, zC] <;> exact rfl
    case q357 => exact fun _ _ _ h => h
    case w357 => rfl
    try simp only [zP, zN, zS, zT, zU]
    refine wpAnyH_take (i := 9) (oi := ?oi358) (v := undef) ?h358 (by kernel_rfl) (by kernel_rfl) (by kernel_rfl) ?q358 (Or.inr ⟨?w358, rfl⟩) hHeld ?r358
    case h358 => simp only [zA, zB, zC] <;> exact rfl
    case q358 => exact fun _ _ _ h => h
    case w358 => rfl
    try simp only [zP, zN, zS, zT, zU]
    refine wpAnyH_take (i := 10) (oi := ?oi359) (v := ?vi359) ?h359 (by kernel_rfl) (by kernel_rfl) (by kernel_rfl) ?q359 (Or.inl ⟨?w359, ?y359⟩) hHeld ?r359
    case h359 => simp only [zA, zB, zC] <;> exact rfl
    case q359 => exact fun _ _ _ h => h
    case w359 => rfl
    case y359 =>
      intro w hSw
      (try dsimp only at hSw)
      obtain ⟨o0, o3, cb, c2⟩ := hSw
      go_simp
      try with_reducible rfl
    try simp only [zP, zN, zS, zT, zU]
    refine wpAnyH_take (i := 11) (oi := ?oi360) (v := ?vi360) ?h360 (by kernel_rfl) (by kernel_rfl) (by kernel_rfl) ?q360 (Or.inl ⟨?w360, ?y360⟩) hHeld ?r360
    case h360 => simp only [zA, zB, zC] <;> exact rfl
    case q360 => exact fun _ _ _ h => h
    case w360 => rfl
    case y360 =>
      intro w hSw
      (try dsimp only at hSw)
      obtain ⟨o0, o3, cb, c2⟩ := hSw
      go_simp
      try with_reducible rfl
    try simp only [zP, zN, zS, zT, zU]
    refine wpAnyH_take (i := 12) (oi := ?oi361) (v := undef) ?h361 (by kernel_rfl) (by kernel_rfl) (by kernel_rfl) ?q361 (Or.inr ⟨?w361, rfl⟩) hHeld ?r361
    case h361 => simp only [zA, zB, zC] <;> exact rfl
    case q361 => exact fun _ _ _ h => h
    case w361 => rfl
    try simp only [zP, zN, zS, zT, zU]
    refine wpAnyH_take (i := 13) (oi := ?oi362) (v := undef) ?h362 (by kernel_rfl) (by kernel_rfl) (by kernel_rfl) ?q362 (Or.inr ⟨?w362, rfl⟩) hHeld ?r362
    case h362 => simp only [zA, zB, zC] <;> exact rfl
    case q362 => exact fun _ _ _ h => h
    case w362 => rfl
    try simp only [zP, zN, zS, zT, zU]
    refine wpAnyH_take (i := 14) (oi := ?oi363) (v := undef) ?h363 (by kernel_rfl) (by kernel_rfl) (by kernel_rfl) ?q363 (Or.inr ⟨?w363, rfl⟩) hHeld ?r363
    case h363 => simp only [zA, zB, zC] <;> exact rfl
    case q363 => exact fun _ _ _ h => h
    case w363 => rfl
    try simp only [zP, zN, zS, zT, zU]
    refine wpAnyH_take (i := 15) (oi := ?oi364) (v := undef) ?h364 (by kernel_rfl) (by kernel_rfl) (by kernel_rfl) ?q364 (Or.inr ⟨?w364, rfl⟩) hHeld ?r364
    case h364 => simp only [zA, zB, zC] <;> exact rfl
    case q364 => exact fun _ _ _ h => h
    case w364 => rfl
    try simp only [zP, zN, zS, zT, zU]
    refine wpAnyH_take (i := 16) (oi := ?oi365) (v := undef) ?h365 (by kernel_rfl) (by kernel_rfl) (by kernel_rfl) ?q365 (Or.inr ⟨?w365, rfl⟩) hHeld ?r365
    case h365 => simp only [zA, zB, zC] <;> exact rfl
    case q365 => exact fun _ _ _ h => h
    case w365 => rfl
    try simp only [zP, zN, zS, zT, zU]
    refine wpAnyH_take (i := 17) (oi := ?oi366) (v := undef) ?h366 (by kernel_rfl) (by kernel_rfl) (by kernel_rfl) ?q366 (Or.inr ⟨?w366, rfl⟩) hHeld ?r366
    case h366 => simp only [zA, zB, zC] <;> exact rfl
    case q366 => exact fun _ _ _ h => h
    case w366 => rfl
    try simp only [zP, zN, zS, zT, zU]
    refine wpAnyH_take (i := 18) (oi := ?oi367) (v := undef) ?h367 (by kernel_rfl) (by kernel_rfl) (by kernel_rfl) ?q367 (Or.inr ⟨?w367, rfl⟩) hHeld ?r367
    case h367 => simp only [zA, zB, zC] <;> exact rfl
    case q367 => exact fun _ _ _ h => h
    case w367 => rfl
    try simp only [zP, zN, zS, zT, zU]
    refine wpAnyH_take (i := 19) (oi := ?oi368) (v := undef) ?h368 (by kernel_rfl) (by kernel_rfl) (by kernel_rfl) ?q368 (Or.inr ⟨?w368, rfl⟩) hHeld ?r368
    case h368 => simp only [zA, zB, zC] <;> exact rfl
    case q368 => exact fun _ _ _ h => h
    case w368 => rfl
    try simp only [zP, zN, zS, zT, zU]
    refine wpAnyH_take (i := 20) (oi := ?oi369) (v := undef) ?h369 (by kernel_rfl) (by kernel_rfl) (by kernel_rfl) ?q369 (Or.inr ⟨?w369, rfl⟩) hHeld ?r369
    case h369 => simp only [zA, zB, zC] <;> exact rfl
    case q369 => exact fun _ _ _ h => h
    case w369 => rfl
    try simp only [zP, zN, zS, zT, zU]
    refine wpAnyH_take (i := 21) (oi := ?oi370) (v := undef) ?h370 (by kernel_rfl) (by kernel_rfl) (by kernel_rfl) ?q370 (Or.inr ⟨?w370, rfl⟩) hHeld ?r370
    case h370 => simp only [zA, zB, zC] <;> exact rfl
    case q370 => exact fun _ _ _ h => h
    case w370 => rfl
    try simp only [zP, zN, zS, zT, zU]
    refine wpAnyH_take (i := 22) (oi := ?oi371) (v := undef) ?h371 (by kernel_rfl) (by kernel_rfl) (by kernel_rfl) ?q371 (Or.inr ⟨?w371, rfl⟩) hHeld ?r371
    case h371 => simp only [zA, zB, zC] <;> exact rfl
    case q371 => exact fun _ _ _ h => h
    case w371 => rfl
    try simp only [zP, zN, zS, zT, zU]
    refine wpAnyH_take (i := 23) (oi := ?oi372) (v := ?vi372) ?h372 (by kernel_rfl) (by kernel_rfl) (by kernel_rfl) ?q372 (Or.inl ⟨?w372, ?y372⟩) hHeld ?r372
    case h372 => simp only [zA, zB, zC] <;> exact rfl
    case q372 => exact fun _ _ _ h => h
    case w372 => rfl
    case y372 =>
      intro w hSw
      (try dsimp only at hSw)
      obtain ⟨o0, o3, cb, c2⟩ := hSw
      go_simp
      try with_reducible rfl
    try simp only [zP, zN, zS, zT, zU]
    refine wpAnyH_done (by kernel_rfl) ?_ _
    clear hHeld
    have gc := F4.out.1.cell HA.out.2.1 (fun h => h)
    obtain ⟨o0, o1, o2, o3, o4, o5⟩ := box6 (F4.out.2.heap HX.out.2.1.op (fun h => h))
    obtain ⟨re, rp, rd, rv, rn⟩ := r'
    have hdo := HDO.out _ F4.out.1
    rw [← HC.out] at hdo
    have HDC := Lib.hid hdo
    clear hdo HDO HC HS4 F2
    go_wp2_with fail
    rw [hen _ _]
    go_wp2_with fail
    refine HDC.out.mono ?_
    intro e w5 hM
    obtain ⟨nv, G', cap', rfl, ho, ht, hg⟩ := hM.ex
    have hfw := hM.fp
    have hnG : ∀ k, ownT b G k → k < w.heap.size := fun k hk => by
      rcases hk with hk | hk
      · rw [hk]; exact HX.out.1.lt
      · rw [hk]; exact HX.out.1.row.lt
    have hb5 := (HX.out.2.1.non F4.out.2).keep hfw (fun k hk => .inl (hnG k hk))
    have h4s : w.heap.size + 2 ≤ w4.heap.size := Nat.le_trans HX.out.2.1.sz F4.out.2.size
    have hf5 : Fp (ownT b G) w w5 := (F4.out.1.any (S := ownT b G)).same hfw
    have hnv := fun k e => (ho.1.lt k e).1
    have HNV := Lib.hid (show nv.ownBlock = some (w.heap.size + 1) → False from fun e => by have := hnv _ e; omega)
    have HGN := Lib.hid (And.intro (show b ≠ w.heap.size + 1 by have := hnG b (.inl rfl); omega) (show G' ≠ w.heap.size + 1 by
      rcases hg with e | e
      · have := hnG G (.inr rfl); omega
      · have : w4.heap.size ≤ G' := e; omega))
    have HG2 := Lib.hid (show G' = G ∨ w.heap.size ≤ G' by
      rcases hg with e | e
      · exact .inl e
      · exact .inr (by have : w4.heap.size ≤ G' := e; omega))
    have ho2 : Own w.heap.size w5 nv rn := ho.low F4.out.1.size
    obtain ⟨vao, vcap, hvs⟩ := ho2.shape
    have HE := Lib.hid (And.intro hb5.res (And.intro hf5 (And.intro ht ho2)))
    unfold strV
    obtain ⟨r0, r1, r2, r3, r4⟩ := (hb5).r
    have z0 := (hb5).fz 0; have z1 := (hb5).fz 1; have z2 := (hb5).fz 2; have z3 := (hb5).fz 3; have z4 := (hb5).fz 4
    clear hM hfw hnG hb5 h4s hf5 hnv hg ho ht ho2 HDC gc o0 o1 o2 o3 o4 o5
    subst hvs
    generalize w5 = W5 at *
    go_wp2
    have hT9 := HE.out.2.2.1.keep (fp5 (S := fun k => k = w.heap.size + 1) (Fp.refl _ W5) (b := w.heap.size + 1) (.inl rfl) (.int .i64 re) (.string (B rp)) (.string (B rd)) (.int .i64 rv) (.slice vao rn.length vcap)) (fun e => HGN.out.1 e) (fun e => HGN.out.2 e)
    have HO9 := own5 HE.out.2.2.2 (b := w.heap.size + 1) (fun e => HNV.out e) (.int .i64 re) (.string (B rp)) (.string (B rd)) (.int .i64 rv) (.slice vao rn.length vcap)
    have hw9 := set5 HE.out.1 (.int .i64 re) (.string (B rp)) (.string (B rd)) (.int .i64 rv) (.slice vao rn.length vcap)
    have hf9 := fp5 (S := ownT b G) HE.out.2.1 (b := w.heap.size + 1) (.inr (by omega)) (.int .i64 re) (.string (B rp)) (.string (B rd)) (.int .i64 rv) (.slice vao rn.length vcap)
    generalize (((((World.setCell W5 _ _).setCell _ _).setCell _ _).setCell _ _).setCell _ _) = w9 at *
    have s0 := cell_of_row _ (w.heap.size + 1) 0 _ _ _ hw9
    have s1 := cell_of_row _ (w.heap.size + 1) 1 _ _ _ hw9
    have s2 := cell_of_row _ (w.heap.size + 1) 2 _ _ _ hw9
    have s3 := cell_of_row _ (w.heap.size + 1) 3 _ _ _ hw9
    have s4 := cell_of_row _ (w.heap.size + 1) 4 _ _ _ hw9
    simp only [zA, zB, zC] at s0 s1 s2 s3 s4
    exact bodyPost_ret (v := .agg #[.int .i64 re, .string (B rp), .string (B rd), .int .i64 rv, .slice vao rn.length vcap]) (by simp [results, Tryz.results52, go_sem, s0, s1, s2, s3, s4]) rfl (MeR.of (r := ⟨re, rp, rd, rv, rn⟩) (nv := .slice vao rn.length vcap) hT9 HG2.out hf9 HO9)
set_option maxHeartbeats 8000000 in
theorem existing_7 {lo b G cap : Nat} {l : List Nd} {w : World} (h : Tn lo b G cap l w) (hs : Sp l) (hl : l.length ≤ 512) (hlo : lo ≤ w.heap.size) (ha : Asc l) (p d : Bs) (v ow : Int) (t : Bool) (g : Nat) (fk : Nat) (hg : w.cell? ⟨g, 0, none⟩ = some (.func (.func fk) #[] #[])) (hen : Enters Tryz.prog fk)
    (hdo : Does lo b G cap l ⟨7, p, d, v, ow, t⟩ w fk) :
    Calls Tryz.prog 52 #[.pointer (some ⟨b, 0, none⟩), opV ⟨7, p, d, v, ow, t⟩, .pointer (some ⟨g, 0, none⟩)] w (MeR lo b G (perform l ⟨7, p, d, v, ow, t⟩).1 (perform l ⟨7, p, d, v, ow, t⟩).2 w) := by
  have hcr : perform l ⟨7, p, d, v, ow, t⟩ = (match find l p with
      | none => (l, .bad 62)
      | some x => if False ∧ v ≠ -1 ∧ v ≠ x.ver then (l, .bad 63) else doit l ⟨7, p, d, v, ow, t⟩ x) := by
    unfold perform; simp [versioned]
    try (cases find l p <;> rfl)
  obtain ⟨cr, hcr2⟩ : ∃ cr, perform l ⟨7, p, d, v, ow, t⟩ = cr := ⟨_, rfl⟩
  rw [hcr2] at hcr ⊢
  obtain ⟨l', r'⟩ := cr
  simp only
  unfold opV strV
  have hbx := Bx.made w 7 p d v ow t
  have hf0 : Fp Non w ((w.alloc (.cells #[.int .i64 7, .string (B p), .string (B d), .int .i64 v, .int .i64 ow, .bool t] TO_)).alloc (.cells #[.int .i64 0, .string ⟨#[]⟩, .string ⟨#[]⟩, .int .i64 0, .slice none 0 0] TR)) := ((Fp.refl Non w).alloc _).alloc _
  have op1 : (((w.alloc (.cells #[.int .i64 7, .string (B p), .string (B d), .int .i64 v, .int .i64 ow, .bool t] TO_)).alloc (.cells #[.int .i64 0, .string ⟨#[]⟩, .string ⟨#[]⟩, .int .i64 0, .slice none 0 0] TR))).cell? ⟨w.heap.size, 1, none⟩ = some (.string (B p)) := by rw [cell_of_row _ _ _ _ _ _ hbx.op]; rfl
  have hpc := place_c (h.non hf0) p ha (by omega)
  have HPC := Lib.hid hpc
  obtain ⟨n, hn⟩ : ∃ n, n = l.length := ⟨_, rfl⟩
  have HX := Lib.hid (And.intro h (And.intro hbx (And.intro hf0 (And.intro hn (And.intro hs (And.intro hl hlo))))))
  have HA := Lib.hid (And.intro ha (And.intro hg (And.intro hdo hcr)))
  clear hpc h hbx hf0 hn hs hl hlo ha hg hdo hcr hcr2
  go_enter Tryz.func52, Tryz.ntmps52
  generalize hW0 : ((w.alloc (.cells #[.int .i64 7, .string (B p), .string (B d), .int .i64 v, .int .i64 ow, .bool t] TO_)).alloc (.cells #[.int .i64 0, .string ⟨#[]⟩, .string ⟨#[]⟩, .int .i64 0, .slice none 0 0] TR)) = W0 at *
  go_wp2_with fail
  clear hW0
  refine HPC.out.mono ?_
  rintro e w2 ⟨rfl, hf2⟩
  have F2 := Lib.hid (And.intro (HX.out.2.2.1.then hf2) hf2)
  clear hf2 HPC op1
  cases hfu : find l p with
  | none =>
    have hcr := HA.out.2.2.2
    rw [hfu] at hcr
    have HC := Lib.hid (show l' = l ∧ r' = .bad 62 from by injection hcr with a b; exact ⟨a, b⟩)
    clear hcr hfu
    have hb2 := HX.out.2.1.non F2.out.2
    obtain ⟨r0, r1, r2, r3, r4⟩ := (hb2).r
    have z0 := (hb2).fz 0; have z1 := (hb2).fz 1; have z2 := (hb2).fz 2; have z3 := (hb2).fz 3; have z4 := (hb2).fz 4
    clear hb2
    go_wp2_with fail
    refine (refused_c 62 _).mono ?_
    rintro e w2 ⟨rfl, hf2⟩
    have hb2 := HX.out.2.1.non (F2.out.2.then hf2)
    have hfw := F2.out.1.then hf2
    clear r0 r1 r2 r3 r4 z0 z1 z2 z3 z4
    obtain ⟨r0, r1, r2, r3, r4⟩ := (hb2).r
    have z0 := (hb2).fz 0; have z1 := (hb2).fz 1; have z2 := (hb2).fz 2; have z3 := (hb2).fz 3; have z4 := (hb2).fz 4
    have HE := Lib.hid (And.intro hb2.res hfw)
    unfold badV
    clear hf2 hb2 hfw
    generalize w2 = W2 at *
    go_wp2
    have hw9 := set5 HE.out.1 (.int .i64 62) (.string ⟨#[]⟩) (.string ⟨#[]⟩) (.int .i64 0) (.slice none 0 0)
    have hf9 := fp5 (S := Non) HE.out.2 (b := w.heap.size + 1) (.inr (by omega)) (.int .i64 62) (.string ⟨#[]⟩) (.string ⟨#[]⟩) (.int .i64 0) (.slice none 0 0)
    generalize (((((World.setCell W2 _ _).setCell _ _).setCell _ _).setCell _ _).setCell _ _) = w9 at *
    have s0 := cell_of_row _ (w.heap.size + 1) 0 _ _ _ hw9
    have s1 := cell_of_row _ (w.heap.size + 1) 1 _ _ _ hw9
    have s2 := cell_of_row _ (w.heap.size + 1) 2 _ _ _ hw9
    have s3 := cell_of_row _ (w.heap.size + 1) 3 _ _ _ hw9
    have s4 := cell_of_row _ (w.heap.size + 1) 4 _ _ _ hw9
    simp only [zA, zB, zC] at s0 s1 s2 s3 s4
    exact bodyPost_ret (v := .agg #[.int .i64 62, .string ⟨#[]⟩, .string ⟨#[]⟩, .int .i64 0, .slice none 0 0]) (by simp [results, Tryz.results52, go_sem, s0, s1, s2, s3, s4]) rfl (by rw [HC.out.1, HC.out.2]; exact MeR.still HX.out.1 (r := .bad 62) (nv := .slice none 0 0) hf9 (Own.nil _ _))
  | some x =>
    obtain ⟨hat, hx⟩ := find_at HA.out.1 hfu
    have hT2 := HX.out.1.non F2.out.1
    have hnd := hT2.row.nd (place l p) hat
    rw [hx] at hnd
    have hcr := HA.out.2.2.2
    rw [hfu] at hcr
    simp only at hcr
    have HDO := Lib.hid (fun w' f => HA.out.2.2.1 x w' hfu f)
    obtain ⟨at_, hatE⟩ : ∃ at_, place l p = at_ := ⟨_, rfl⟩
    simp only [hatE] at hnd HDO ⊢
    rw [hatE] at hat
    have cb := hT2.c0
    rw [← HX.out.2.2.2.1] at cb
    have q1 : (at_ < n) = True := eq_true (by rw [HX.out.2.2.2.1]; exact hat)
    have q2 : ((at_ : Int) < (n : Int)) = True := eq_true (by rw [HX.out.2.2.2.1]; omega)
    have hbW := F2.out.2.heap HX.out.2.1.op (fun h => h)
    obtain ⟨o0, o1, o2, o3, o4, o5⟩ := box6 hbW
    have c2 := hnd.c2
    simp only [Nat.zero_add] at c2
    obtain ⟨xp, xd, xv, xt, xo⟩ := x
    simp only at c2 hcr
    have HHC := Lib.hid hcr
    have fat := fields_at7
    have fbt : bits BinOp.and IntKind.i64 24 4 = 0 := by kernel_rfl
    clear hT2 hnd hcr hat hfu hx hatE hbW o1 o2 o4 o5
    have HC : Hid ((l', r') = doit l ⟨7, p, d, v, ow, t⟩ ⟨xp, xd, xv, xt, xo⟩) := by have hcr := HHC.out; rw [if_neg (fun k => k.1)] at hcr; exact hcr
    clear HHC
    go_wp2_with fail
    refine wp_region_held_drew (S := (fun w' => w'.cell? ⟨w.heap.size, 0, none⟩ = some (.int .i64 7) ∧ w'.cell? ⟨w.heap.size, 3, none⟩ = some (.int .i64 v) ∧ w'.cell? ⟨b, 0, none⟩ = some (.slice (some ⟨G, 0, none⟩) n cap) ∧ w'.cell? ⟨G, at_ * 5 + 2, none⟩ = some (.int .i64 xv))) (by kernel_rfl) ?_ (fun hHeld => ?_)
    · exact ⟨(Fp.refl Non _).drew.cell o0 (fun h => h), (Fp.refl Non _).drew.cell o3 (fun h => h), (Fp.refl Non _).drew.cell cb (fun h => h), (Fp.refl Non _).drew.cell c2 (fun h => h)⟩
    have HSD := Lib.hid (fun w9 (hf : Fp Non w2.drew w9) => And.intro (hf.cell ((Fp.refl Non w2).drew.cell o0 (fun h => h)) (fun h => h)) (And.intro (hf.cell ((Fp.refl Non w2).drew.cell o3 (fun h => h)) (fun h => h)) (And.intro (hf.cell ((Fp.refl Non w2).drew.cell cb (fun h => h)) (fun h => h)) (hf.cell ((Fp.refl Non w2).drew.cell c2 (fun h => h)) (fun h => h)))))
    have F3 := Lib.hid (And.intro F2.out.1.drew F2.out.2.drew)
    clear o0 o3 cb c2
    generalize w2.drew = w3 at *
    refine wpAnyH_take (i := 1) (oi := ?oi373) (v := ?vi373) ?h373 (by kernel_rfl) (by kernel_rfl) (by kernel_rfl) ?q373 (Or.inl ⟨?w373, ?y373⟩) hHeld ?r373
    case h373 => simp only [zA, zB, zC] <;> exact rfl
    case q373 => exact fun _ _ _ h => h
    case w373 => rfl
    case y373 =>
      intro w hSw
      (try dsimp only at hSw)
      obtain ⟨o0, o3, cb, c2⟩ := hSw
      go_simp
      try with_reducible rfl
    try simp only [zP, zN, zS, zT, zU]
    refine wpAnyH_take (i := 2) (oi := ?oi374) (v := ?vi374) ?h374 (by kernel_rfl) (by kernel_rfl) (by kernel_rfl) ?q374 (Or.inl ⟨?w374, ?y374⟩) hHeld ?r374
    case h374 => simp only [zA, zB, zC] <;> exact rfl
    case q374 => exact fun _ _ _ h => h
    case w374 => rfl
    case y374 =>
      intro w hSw
      (try dsimp only at hSw)
      obtain ⟨o0, o3, cb, c2⟩ := hSw
      go_simp
      try with_reducible rfl
    try simp only [zP, zN, zS, zT, zU]
    refine wpAnyH_ready (rs := [0]) (by kernel_rfl) (by simp) ?_
    refine AllReadyH.cons (o := ?ob375) ?hb375 (fun K hK => ?_) AllReadyH.nil
    case hb375 => simp only [zA, zB, zC] <;> exact rfl
    go_simp
    go_at_call 32
    refine (fields_c _).mono ?_
    rintro e w4 ⟨rfl, hf4⟩
    have HS4 := Lib.hid (HSD.out w4 hf4)
    have F4 := Lib.hid (And.intro (F3.out.1.then hf4) (F3.out.2.then hf4))
    clear hf4 HSD F3
    go_wp2_with fail
    refine hK.out _ _ HS4.out (fun hHeld => ?_)
    clear hK K
    try simp only [zP, zN, zS, zT, zU]
    refine wpAnyH_take (i := 3) (oi := ?oi376) (v := ?vi376) ?h376 (by kernel_rfl) (by kernel_rfl) (by kernel_rfl) ?q376 (Or.inl ⟨?w376, ?y376⟩) hHeld ?r376
    case h376 => simp only [zA, zB, zC] <;> exact rfl
    case q376 => exact fun _ _ _ h => h
    case w376 => rfl
    case y376 =>
      intro w hSw
      (try dsimp only at hSw)
      obtain ⟨o0, o3, cb, c2⟩ := hSw
      go_simp
      try with_reducible rfl
    try simp only [zP, zN, zS, zT, zU]
    refine wpAnyH_take (i := 4) (oi := ?oi377) (v := ?vi377) ?h377 (by kernel_rfl) (by kernel_rfl) (by kernel_rfl) ?q377 (Or.inl ⟨?w377, ?y377⟩) hHeld ?r377
    case h377 => simp only [zA, zB, zC] <;> exact rfl
    case q377 => exact fun _ _ _ h => h
    case w377 => rfl
    case y377 =>
      intro w hSw
      (try dsimp only at hSw)
      obtain ⟨o0, o3, cb, c2⟩ := hSw
      go_simp
      try with_reducible rfl
    try simp only [zP, zN, zS, zT, zU]
    refine wpAnyH_take (i := 5) (oi := ?oi378) (v := ?vi378) ?h378 (by kernel_rfl) (by kernel_rfl) (by kernel_rfl) ?q378 (Or.inl ⟨?w378, ?y378⟩) hHeld ?r378
    case h378 => simp only [zA, zB, zC] <;> exact rfl
    case q378 => exact fun _ _ _ h => h
    case w378 => rfl
    case y378 =>
      intro w hSw
      (try dsimp only at hSw)
      obtain ⟨o0, o3, cb, c2⟩ := hSw
      go_simp
      try with_reducible rfl
    try simp only [zP, zN, zS, zT, zU]
    refine wpAnyH_take (i := 6) (oi := ?oi379) (v := ?vi379) ?h379 (by kernel_rfl) (by kernel_rfl) (by kernel_rfl) ?q379 (Or.inl ⟨?w379, ?y379⟩) hHeld ?r379
    case h379 => simp only [zA, zB, zC] <;> exact rfl
    case q379 => exact fun _ _ _ h => h
    case w379 => rfl
    case y379 =>
      intro w hSw
      (try dsimp only at hSw)
      obtain ⟨o0, o3, cb, c2⟩ := hSw
      go_simp
      try with_reducible rfl
    try simp only [zP, zN, zS, zT, zU]
    refine wpAnyH_take (i := 7) (oi := ?oi380) (v := undef) ?h380 (by kernel_rfl) (by kernel_rfl) (by kernel_rfl) ?q380 (Or.inr ⟨?w380, rfl⟩) hHeld ?r380
    case h380 => simp only [zA, zB, zC] <;> exact rfl
    case q380 => exact fun _ _ _ h => h
    case w380 => rfl
    try simp only [zP, zN, zS, zT, zU]
    refine wpAnyH_take (i := 8) (oi := ?oi381) (v := undef) ?h381 (by kernel_rfl) (by kernel_rfl) (by kernel_rfl) ?q381 (Or.inr ⟨?w381, rfl⟩) hHeld ?r381
    case h381 => simp only [zA, zB, zC] <;> exact rfl
    case q381 => exact fun _ _ _ h => h
    case w381 => rfl
    try simp only [zP, zN, zS, zT, zU]
    refine wpAnyH_take (i := 9) (oi := ?oi382) (v := undef) ?h382 (by kernel_rfl) (by kernel_rfl) (by kernel_rfl) ?q382 (Or.inr ⟨?w382, rfl⟩) hHeld ?r382
    case h382 => simp only [zA, zB, zC] <;> exact rfl
    case q382 => exact fun _ _ _ h => h
    case w382 => rfl
    try simp only [zP, zN, zS, zT, zU]
    refine wpAnyH_take (i := 10) (oi := ?oi383) (v := ?vi383) ?h383 (by kernel_rfl) (by kernel_rfl) (by kernel_rfl) ?q383 (Or.inl ⟨?w383, ?y383⟩) hHeld ?r383
    case h383 => simp only [zA, zB, zC] <;> exact rfl
    case q383 => exact fun _ _ _ h => h
    case w383 => rfl
    case y383 =>
      intro w hSw
      (try dsimp only at hSw)
      obtain ⟨o0, o3, cb, c2⟩ := hSw
      go_simp
      try with_reducible rfl
    try simp only [zP, zN, zS, zT, zU]
    refine wpAnyH_take (i := 11) (oi := ?oi384) (v := ?vi384) ?h384 (by kernel_rfl) (by kernel_rfl) (by kernel_rfl) ?q384 (Or.inl ⟨?w384, ?y384⟩) hHeld ?r384
    case h384 => simp only [zA, zB, zC] <;> exact rfl
    case q384 => exact fun _ _ _ h => h
    case w384 => rfl
    case y384 =>
      intro w hSw
      (try dsimp only at hSw)
      obtain ⟨o0, o3, cb, c2⟩ := hSw
      go_simp
      try with_reducible rfl
    try simp only [zP, zN, zS, zT, zU]
    refine wpAnyH_take (i := 12) (oi := ?oi385) (v := undef) ?h385 (by kernel_rfl) (by kernel_rfl) (by kernel_rfl) ?q385 (Or.inr ⟨?w385, rfl⟩) hHeld ?r385
    case h385 => simp only [zA, zB, zC] <;> exact rfl
    case q385 => exact fun _ _ _ h => h
    case w385 => rfl
    try simp only [zP, zN, zS, zT, zU]
    refine wpAnyH_take (i := 13) (oi := ?oi386) (v := undef) ?h386 (by kernel_rfl) (by kernel_rfl) (by kernel_rfl) ?q386 (Or.inr ⟨?w386, rfl⟩) hHeld ?r386
    case h386 => simp only [zA, zB, zC] <;> exact rfl
    case q386 => exact fun _ _ _ h => h
    case w386 => rfl
    try simp only [zP, zN, zS, zT, zU]
    refine wpAnyH_take (i := 14) (oi := ?oi387) (v := undef) ?h387 (by kernel_rfl) (by kernel_rfl) (by kernel_rfl) ?q387 (Or.inr ⟨?w387, rfl⟩) hHeld ?r387
    case h387 => simp only [zA, zB, zC] <;> exact rfl
    case q387 => exact fun _ _ _ h => h
    case w387 => rfl
    try simp only [zP, zN, zS, zT, zU]
    refine wpAnyH_take (i := 15) (oi := ?oi388) (v := undef) ?h388 (by kernel_rfl) (by kernel_rfl) (by kernel_rfl) ?q388 (Or.inr ⟨?w388, rfl⟩) hHeld ?r388
    case h388 => simp only [zA, zB, zC] <;> exact rfl
    case q388 => exact fun _ _ _ h => h
    case w388 => rfl
    try simp only [zP, zN, zS, zT, zU]
    refine wpAnyH_take (i := 16) (oi := ?oi389) (v := undef) ?h389 (by kernel_rfl) (by kernel_rfl) (by kernel_rfl) ?q389 (Or.inr ⟨?w389, rfl⟩) hHeld ?r389
    case h389 => simp only [zA, zB, zC] <;> exact rfl
    case q389 => exact fun _ _ _ h => h
    case w389 => rfl
    try simp only [zP, zN, zS, zT, zU]
    refine wpAnyH_take (i := 17) (oi := ?oi390) (v := undef) ?h390 (by kernel_rfl) (by kernel_rfl) (by kernel_rfl) ?q390 (Or.inr ⟨?w390, rfl⟩) hHeld ?r390
    case h390 => simp only [zA, zB, zC] <;> exact rfl
    case q390 => exact fun _ _ _ h => h
    case w390 => rfl
    try simp only [zP, zN, zS, zT, zU]
    refine wpAnyH_take (i := 18) (oi := ?oi391) (v := undef) ?h391 (by kernel_rfl) (by kernel_rfl) (by kernel_rfl) ?q391 (Or.inr ⟨?w391, rfl⟩) hHeld ?r391
    case h391 => simp only [zA, zB, zC] <;> exact rfl
    case q391 => exact fun _ _ _ h => h
    case w391 => rfl
    try simp only [zP, zN, zS, zT, zU]
    refine wpAnyH_take (i := 19) (oi := ?oi392) (v := undef) ?h392 (by kernel_rfl) (by kernel_rfl) (by kernel_rfl) ?q392 (Or.inr ⟨?w392, rfl⟩) hHeld ?r392
    case h392 => simp only [zA, zB, zC] <;> exact rfl
    case q392 => exact fun _ _ _ h => h
    case w392 => rfl
    try simp only [zP, zN, zS, zT, zU]
    refine wpAnyH_take (i := 20) (oi := ?oi393) (v := undef) ?h393 (by kernel_rfl) (by kernel_rfl) (by kernel_rfl) ?q393 (Or.inr ⟨?w393, rfl⟩) hHeld ?r393
    case h393 => simp only [zA, zB, zC] <;> exact rfl
    case q393 => exact fun _ _ _ h => h
    case w393 => rfl
    try simp only [zP, zN, zS, zT, zU]
    refine wpAnyH_take (i := 21) (oi := ?oi394) (v := undef) ?h394 (by kernel_rfl) (by kernel_rfl) (by kernel_rfl) ?q394 (Or.inr ⟨?w394, rfl⟩) hHeld ?r394
    case h394 => simp only [zA, zB, zC] <;> exact rfl
    case q394 => exact fun _ _ _ h => h
    case w394 => rfl
    try simp only [zP, zN, zS, zT, zU]
    refine wpAnyH_take (i := 22) (oi := ?oi395) (v := undef) ?h395 (by kernel_rfl) (by kernel_rfl) (by kernel_rfl) ?q395 (Or.inr ⟨?w395, rfl⟩) hHeld ?r395
    case h395 => simp only [zA, zB, zC] <;> exact rfl
    case q395 => exact fun _ _ _ h => h
    case w395 => rfl
    try simp only [zP, zN, zS, zT, zU]
    refine wpAnyH_take (i := 23) (oi := ?oi396) (v := ?vi396) ?h396 (by kernel_rfl) (by kernel_rfl) (by kernel_rfl) ?q396 (Or.inl ⟨?w396, ?y396⟩) hHeld ?r396
    case h396 => simp only [zA, zB, zC] <;> exact rfl
    case q396 => exact fun _ _ _ h => h
    case w396 => rfl
    case y396 =>
      intro w hSw
      (try dsimp only at hSw)
      obtain ⟨o0, o3, cb, c2⟩ := hSw
      go_simp
      try with_reducible rfl
    try simp only [zP, zN, zS, zT, zU]
    refine wpAnyH_done (by kernel_rfl) ?_ _
    clear hHeld
    have gc := F4.out.1.cell HA.out.2.1 (fun h => h)
    obtain ⟨o0, o1, o2, o3, o4, o5⟩ := box6 (F4.out.2.heap HX.out.2.1.op (fun h => h))
    obtain ⟨re, rp, rd, rv, rn⟩ := r'
    have hdo := HDO.out _ F4.out.1
    rw [← HC.out] at hdo
    have HDC := Lib.hid hdo
    clear hdo HDO HC HS4 F2
    go_wp2_with fail
    rw [hen _ _]
    go_wp2_with fail
    refine HDC.out.mono ?_
    intro e w5 hM
    obtain ⟨nv, G', cap', rfl, ho, ht, hg⟩ := hM.ex
    have hfw := hM.fp
    have hnG : ∀ k, ownT b G k → k < w.heap.size := fun k hk => by
      rcases hk with hk | hk
      · rw [hk]; exact HX.out.1.lt
      · rw [hk]; exact HX.out.1.row.lt
    have hb5 := (HX.out.2.1.non F4.out.2).keep hfw (fun k hk => .inl (hnG k hk))
    have h4s : w.heap.size + 2 ≤ w4.heap.size := Nat.le_trans HX.out.2.1.sz F4.out.2.size
    have hf5 : Fp (ownT b G) w w5 := (F4.out.1.any (S := ownT b G)).same hfw
    have hnv := fun k e => (ho.1.lt k e).1
    have HNV := Lib.hid (show nv.ownBlock = some (w.heap.size + 1) → False from fun e => by have := hnv _ e; omega)
    have HGN := Lib.hid (And.intro (show b ≠ w.heap.size + 1 by have := hnG b (.inl rfl); omega) (show G' ≠ w.heap.size + 1 by
      rcases hg with e | e
      · have := hnG G (.inr rfl); omega
      · have : w4.heap.size ≤ G' := e; omega))
    have HG2 := Lib.hid (show G' = G ∨ w.heap.size ≤ G' by
      rcases hg with e | e
      · exact .inl e
      · exact .inr (by have : w4.heap.size ≤ G' := e; omega))
    have ho2 : Own w.heap.size w5 nv rn := ho.low F4.out.1.size
    obtain ⟨vao, vcap, hvs⟩ := ho2.shape
    have HE := Lib.hid (And.intro hb5.res (And.intro hf5 (And.intro ht ho2)))
    unfold strV
    obtain ⟨r0, r1, r2, r3, r4⟩ := (hb5).r
    have z0 := (hb5).fz 0; have z1 := (hb5).fz 1; have z2 := (hb5).fz 2; have z3 := (hb5).fz 3; have z4 := (hb5).fz 4
    clear hM hfw hnG hb5 h4s hf5 hnv hg ho ht ho2 HDC gc o0 o1 o2 o3 o4 o5
    subst hvs
    generalize w5 = W5 at *
    go_wp2
    have hT9 := HE.out.2.2.1.keep (fp5 (S := fun k => k = w.heap.size + 1) (Fp.refl _ W5) (b := w.heap.size + 1) (.inl rfl) (.int .i64 re) (.string (B rp)) (.string (B rd)) (.int .i64 rv) (.slice vao rn.length vcap)) (fun e => HGN.out.1 e) (fun e => HGN.out.2 e)
    have HO9 := own5 HE.out.2.2.2 (b := w.heap.size + 1) (fun e => HNV.out e) (.int .i64 re) (.string (B rp)) (.string (B rd)) (.int .i64 rv) (.slice vao rn.length vcap)
    have hw9 := set5 HE.out.1 (.int .i64 re) (.string (B rp)) (.string (B rd)) (.int .i64 rv) (.slice vao rn.length vcap)
    have hf9 := fp5 (S := ownT b G) HE.out.2.1 (b := w.heap.size + 1) (.inr (by omega)) (.int .i64 re) (.string (B rp)) (.string (B rd)) (.int .i64 rv) (.slice vao rn.length vcap)
    generalize (((((World.setCell W5 _ _).setCell _ _).setCell _ _).setCell _ _).setCell _ _) = w9 at *
    have s0 := cell_of_row _ (w.heap.size + 1) 0 _ _ _ hw9
    have s1 := cell_of_row _ (w.heap.size + 1) 1 _ _ _ hw9
    have s2 := cell_of_row _ (w.heap.size + 1) 2 _ _ _ hw9
    have s3 := cell_of_row _ (w.heap.size + 1) 3 _ _ _ hw9
    have s4 := cell_of_row _ (w.heap.size + 1) 4 _ _ _ hw9
    simp only [zA, zB, zC] at s0 s1 s2 s3 s4
    exact bodyPost_ret (v := .agg #[.int .i64 re, .string (B rp), .string (B rd), .int .i64 rv, .slice vao rn.length vcap]) (by simp [results, Tryz.results52, go_sem, s0, s1, s2, s3, s4]) rfl (MeR.of (r := ⟨re, rp, rd, rv, rn⟩) (nv := .slice vao rn.length vcap) hT9 HG2.out hf9 HO9)
end Go.Proofs.YthaepjeikicigaaGreatDoor
