/- Texts of this proof, merged. -/
import Derived.Test.YthaepjeikicigaaGreatDoorZQ
import Derived.Test.YthaepjeikicigaaGreatDoorZC
/- The document's Right. -/
namespace Go.Proofs.YthaepjeikicigaaGreatDoor
set_option linter.unusedSimpArgs false
set_option linter.unusedVariables false
set_option maxRecDepth 20000
set_option linter.unusedVariables false
set_option linter.unusedSimpArgs false
open Go.RowKit Pm
/-- Ahead of round k of the document's Right. -/
structure RrM (l : List Nd) (w : World) (k : Nat) (wr : World) : Prop where
  fp : Fp Non w wr
  fit : ∀ j (h : j < l.length), j < k → fitsB l[j] = true
  up : ∀ j (h : j + 1 < l.length), j + 1 < k → lt l[j].path l[j+1].path = true
  lie : ∀ j (h : j < l.length), j < k → 0 < j → lies l l[j] = true
theorem lies_tell {l : List Nd} {x y : Nd} {p : Bs} {is th : Bool} (hp : (parent x.path).getD [] = p) (hi : (parent x.path).isSome = is) (hth : (find l p).isSome = th) (hy : (find l p).getD zeroNd = y) : lies l x = (is && th && (y.own == 0)) := by
  unfold lies
  cases h : parent x.path with
  | none => rw [h] at hi; subst hi; rfl
  | some u =>
    rw [h] at hp hi
    simp only [Option.getD_some, Option.isSome_some] at hp hi
    subst hp hi
    simp only [free]
    cases h2 : find l u with
    | none => rw [h2] at hth; subst hth; rfl
    | some v =>
      rw [h2] at hth hy
      simp only [Option.getD_some, Option.isSome_some] at hth hy
      subst hth hy; simp
theorem not_up {a z : Bs} (h : (Op.bytesLess a z || a == z) = true) : lt z a = false := by
  simp only [Bool.or_eq_true, beq_iff_eq] at h
  rcases h with h | rfl
  · exact lt_asymm h
  · exact lt_irrefl _
theorem is_up {a z : Bs} (h : (Op.bytesLess a z || a == z) = false) : lt z a = true := by
  simp only [Bool.or_eq_false_iff, beq_eq_false_iff_ne] at h
  exact lt_of h.1 h.2
theorem RrM.first {l : List Nd} {w wr w9 : World} (h : RrM l w 0 wr) (hk : 0 < l.length) (hf : fitsB l[0] = true) (f : Fp Non w w9) : RrM l w 1 w9 :=
  ⟨f, fun j hj hjk => by obtain rfl : j = 0 := by omega
                         exact hf, fun j _ h => by omega, fun j _ h1 h2 => by omega⟩
theorem RrM.next {l : List Nd} {w wr w9 : World} {k : Nat} (h : RrM l w k wr) (h0 : 0 < k) (hk : k < l.length) (hf : fitsB l[k] = true) (hu : lt l[k - 1].path l[k].path = true) (hl : lies l l[k] = true) (f : Fp Non w w9) : RrM l w (k + 1) w9 := by
  refine ⟨f, fun j hj hjk => ?_, fun j hj hjk => ?_, fun j hj hjk hp => ?_⟩
  · rcases Nat.lt_or_eq_of_le (show j ≤ k by omega) with e | e
    · exact h.fit j hj e
    · subst e; exact hf
  · rcases Nat.lt_or_eq_of_le (show j + 1 ≤ k by omega) with e | e
    · exact h.up j hj e
    · subst e; exact hu
  · rcases Nat.lt_or_eq_of_le (show j ≤ k by omega) with e | e
    · exact h.lie j hj e hp
    · subst e; exact hl
theorem RrM.tree {l : List Nd} {w wr : World} {k : Nat} (h : RrM l w k wr) (hk : k = l.length) (h0 : 0 < l.length) (h5 : l.length ≤ 512) (hr : (l[0]'h0).path = [47]) (ho : (l[0]'h0).own = 0) : Tree l :=
  ⟨h0, h5, hr, ho, fun i hi => h.fit i hi (by omega), fun i hi => h.up i hi (by omega), fun i hi hp => h.lie i hi (by omega) hp⟩
set_option maxHeartbeats 6000000 in
theorem rRight_c (v : Value) (l : List Nd) (w : World) (hv : Ns w v l) (hs : Sp l) (hn : l.length ≤ 1000000) (h0 : 0 < l.length) (h5 : l.length ≤ 512) (hr : (l[0]'h0).path = [47]) (ho : (l[0]'h0).own = 0) :
    Calls Tryz.prog 12 #[v] w fun e w' => e = .returned (.bool (right l)) ∧ Fp Non w w' := by
  have HN5 := Lib.hid (show l.length ≤ 512 from h5)
  have hTR := fun (k : Nat) (wr : World) (h : RrM l w k wr) (hk : k = l.length) => h.tree hk h0 h5 hr ho
  have HTR := Lib.hid hTR
  clear hTR
  obtain ⟨ao, cap, rfl⟩ := hv.shape
  obtain ⟨n, hnn⟩ : ∃ n, n = l.length := ⟨_, rfl⟩
  obtain ⟨g, o, cap', e, _, _, _, hcell⟩ := hv.at (by omega)
  injection e with e1 e2 e3
  subst e1 e3
  have hnd := hcell 0 h0
  generalize l[0] = x at *
  obtain ⟨xp, xd, xv, xt, xo⟩ := x
  simp only at hr ho
  subst hr ho
  have c0 := hnd.c0; have c4 := hnd.c4
  unfold strV at c0
  simp only [Nat.zero_mul, Nat.add_zero] at c0 c4
  have HX := Lib.hid (And.intro hnn (And.intro hv (And.intro hs hcell)))
  rw [← hnn]
  have q1 : ((n : Int) == 0) = false := beq_eq_false_iff_ne.2 (by omega)
  have q2 : ((512 : Int) < (n : Int)) = False := eq_false (by omega)
  have q3 : (512 < n) = False := eq_false (by omega)
  have q4 : (0 < n) = True := eq_true (by omega)
  have q5 : ((0 : Int) < (n : Int)) = True := eq_true (by omega)
  have hnb : n ≤ 1000000 := by omega
  clear hv hs hn h5 hcell hnd h0 hnn
  go_enter Tryz.func12, Tryz.ntmps12
  go_wp2_with fail
  go_loopw [3] (fun i wr => ∃ k : Nat, k ≤ n ∧ i = .int .i64 k ∧ Hid (RrM l w k wr)) (fun i _ => n - (RowKit.intOf i).toNat)
  case atStart => exact ⟨0, Nat.zero_le _, rfl, ⟨Fp.refl _ _, fun j _ h => absurd h (Nat.not_lt_zero j), fun j _ h => absurd h (Nat.not_lt_zero _), fun j _ h => absurd h (Nat.not_lt_zero j)⟩⟩
  case round =>
    clear c0 c4
    obtain ⟨k, hk, rfl, hR⟩ := hrel
    rename_i wr _
    by_cases hlt : k < n
    · have hkl : k < l.length := by rw [← HX.out.1]; exact hlt
      have hnd := (HX.out.2.2.2 k hkl).keep hR.out.fp (fun h => h)
      have p3 : ((k : Int) < (n : Int)) = True := eq_true (by omega)
      have p4 : (k < n) = True := eq_true hlt
      have hfn : fitsB l[k] ≠ true → ¬ Tree l := fun h t => h (t.fit k hkl)
      obtain ⟨x, hx⟩ : ∃ x, l[k] = x := ⟨_, rfl⟩
      rw [hx] at hnd hfn
      have HFN := Lib.hid hfn
      have HK := Lib.hid (And.intro hlt (⟨hkl, hx⟩ : ∃ h : k < l.length, l[k] = x))
      have c0 := hnd.c0; have c1 := hnd.c1; have c2 := hnd.c2; have c3 := hnd.c3; have c4 := hnd.c4
      unfold strV at c0 c1
      have HF := Lib.hid (hR.out.fp.alloc (.cells #[.string (B x.path), .string (B x.data), .int .i64 x.ver, .int .i64 x.turn, .int .i64 x.own] TN))
      clear hnd hfn hkl hx hlt
      by_cases h0 : 256 < x.data.length
      · have HNO := Lib.hid (HFN.out (fun h => by have := (fits_iff x).1 h; omega))
        have qa0 : (256 < x.data.length) = True := eq_true (by omega)
        have qa0b : ((256 : Int) < (x.data.length : Int)) = True := eq_true (by omega)
        clear h0
        go_wp2
        go_ret
        exact ⟨by rw [right_false HNO.out]; rfl, HF.out⟩
      · have qa0 : (256 < x.data.length) = False := eq_false (by omega)
        have qa0b : ((256 : Int) < (x.data.length : Int)) = False := eq_false (by omega)
        by_cases h1 : x.ver < 0
        · have HNO := Lib.hid (HFN.out (fun h => by have := (fits_iff x).1 h; omega))
          have qa1 : (x.ver < 0) = True := eq_true (by omega)
          clear h1
          go_wp2
          go_ret
          exact ⟨by rw [right_false HNO.out]; rfl, HF.out⟩
        · have qa1 : (x.ver < 0) = False := eq_false (by omega)
          by_cases h2 : 281474976710656 < x.ver
          · have HNO := Lib.hid (HFN.out (fun h => by have := (fits_iff x).1 h; omega))
            have qa2 : (281474976710656 < x.ver) = True := eq_true (by omega)
            clear h2
            go_wp2
            go_ret
            exact ⟨by rw [right_false HNO.out]; rfl, HF.out⟩
          · have qa2 : (281474976710656 < x.ver) = False := eq_false (by omega)
            by_cases h3 : x.turn < 0
            · have HNO := Lib.hid (HFN.out (fun h => by have := (fits_iff x).1 h; omega))
              have qa3 : (x.turn < 0) = True := eq_true (by omega)
              clear h3
              go_wp2
              go_ret
              exact ⟨by rw [right_false HNO.out]; rfl, HF.out⟩
            · have qa3 : (x.turn < 0) = False := eq_false (by omega)
              by_cases h4 : 10000 < x.turn
              · have HNO := Lib.hid (HFN.out (fun h => by have := (fits_iff x).1 h; omega))
                have qa4 : (10000 < x.turn) = True := eq_true (by omega)
                clear h4
                go_wp2
                go_ret
                exact ⟨by rw [right_false HNO.out]; rfl, HF.out⟩
              · have qa4 : (10000 < x.turn) = False := eq_false (by omega)
                by_cases h5 : x.own < 0
                · have HNO := Lib.hid (HFN.out (fun h => by have := (fits_iff x).1 h; omega))
                  have qa5 : (x.own < 0) = True := eq_true (by omega)
                  clear h5
                  go_wp2
                  go_ret
                  exact ⟨by rw [right_false HNO.out]; rfl, HF.out⟩
                · have qa5 : (x.own < 0) = False := eq_false (by omega)
                  by_cases h6 : 1099511627776 < x.own
                  · have HNO := Lib.hid (HFN.out (fun h => by have := (fits_iff x).1 h; omega))
                    have qa6 : (1099511627776 < x.own) = True := eq_true (by omega)
                    clear h6
                    go_wp2
                    go_ret
                    exact ⟨by rw [right_false HNO.out]; rfl, HF.out⟩
                  · have qa6 : (1099511627776 < x.own) = False := eq_false (by omega)
                    by_cases h7 : x.own ≠ 0 ∧ x.turn ≠ 0
                    · have HNO := Lib.hid (HFN.out (fun h => by have := (fits_iff x).1 h; omega))
                      have qa7 : (x.own != 0) = true := by simpa using h7.1
                      have qb7 : (x.turn != 0) = true := by simpa using h7.2
                      have qc7 : (x.own = 0) = False := eq_false h7.1
                      have qd7 : (x.turn = 0) = False := eq_false h7.2
                      clear h0 h1 h2 h3 h4 h5 h6 h7
                      go_wp2
                      go_ret
                      exact ⟨by rw [right_false HNO.out]; rfl, HF.out⟩
                    · have hfit : fitsB x = true := (fits_iff x).2 (by omega)
                      have HFIT := Lib.hid hfit
                      have hor : x.own = 0 ∨ (x.own ≠ 0 ∧ x.turn = 0) := by omega
                      clear hfit h0 h1 h2 h3 h4 h5 h6 h7
                      by_cases hk0 : k = 0
                      · subst hk0
                        have HM : Hid (∀ w9, Fp Non w w9 → RrM l w 1 w9) := fun w9 f => by
                          obtain ⟨hkl, hx⟩ := HK.out.2
                          exact hR.out.first hkl (by rw [hx]; exact HFIT.out) f
                        have hj := HK.out.1
                        simp only [Nat.zero_mul, Nat.add_zero] at c0 c1 c2 c3 c4
                        rcases hor with h | ⟨h, h'⟩
                        · have qa7 : (x.own != 0) = false := by simp [h]
                          have qb7 : (x.own = 0) = True := eq_true h
                          clear h
                          go_wp2
                          go_roundw
                          case rel => exact ⟨1, by omega, by go_num, HM.out _ HF.out⟩
                          case measure => simp [RowKit.intOf]; omega
                        · have qa7 : (x.own != 0) = true := by simpa using h
                          have qb7 : (x.own = 0) = False := eq_false h
                          have qc7 : (x.turn != 0) = false := by simp [h']
                          have qd7 : (x.turn = 0) = True := eq_true h'
                          clear h h'
                          go_wp2
                          go_roundw
                          case rel => exact ⟨1, by omega, by go_num, HM.out _ HF.out⟩
                          case measure => simp [RowKit.intOf]; omega
                      · have hkb : k ≤ 512 := by have h1 := HK.out.1; have h2 := HN5.out; have h3 := HX.out.1; omega
                        have p5 : ((k : Int) == 0) = false := beq_eq_false_iff_ne.2 (by omega)
                        have p6 : ((k : Int) = 0) = False := eq_false (by omega)
                        have hspx : x.path.length ≤ 1000000 := by
                          obtain ⟨hkl, hx⟩ := HK.out.2
                          rw [← hx]; exact HX.out.2.2.1 _ (List.getElem_mem _)
                        have hpa := fun w => rParent_g x.path w (sz_of hspx (by omega))
                        obtain ⟨p, hp⟩ : ∃ p, (parent x.path).getD [] = p := ⟨_, rfl⟩
                        obtain ⟨is, hi⟩ : ∃ b, (parent x.path).isSome = b := ⟨_, rfl⟩
                        obtain ⟨th, hth⟩ : ∃ b, (find l p).isSome = b := ⟨_, rfl⟩
                        obtain ⟨y, hy⟩ : ∃ y, (find l p).getD zeroNd = y := ⟨_, rfl⟩
                        have HLT := Lib.hid (lies_tell (x := x) hp hi hth hy)
                        rw [hp, hi] at hpa
                        have hfd : ∀ w2, Fp Non w w2 → Calls Tryz.prog 10 #[.slice (some ⟨g, o, none⟩) n cap, .string (B p)] w2 fun e w' => e = .returned (.tuple #[.agg #[.string (B y.path), .string (B y.data), .int .i64 y.ver, .int .i64 y.turn, .int .i64 y.own], .bool th]) ∧ Fp Non w2 w' := fun w2 f => by
                          have := rFind_c _ l p w2 (HX.out.2.1.non f) (by have h2 := HN5.out; omega)
                          rw [← HX.out.1, hy, hth] at this
                          exact this
                        obtain ⟨z, hz⟩ : ∃ z, z = (l[k-1]'(by have h1 := HK.out.1; have h2 := HX.out.1; omega)).path := ⟨_, rfl⟩
                        have HPZ : Hid (w.cell? ⟨g, o + (k - 1) * 5, none⟩ = some (.string (B z))) := by
                          have := (HX.out.2.2.2 (k - 1) (by have h1 := HK.out.1; have h2 := HX.out.1; omega)).c0
                          rw [← hz] at this; exact this
                        have HNL : Hid (lies l x = false → ¬ Tree l) := fun h t => by
                          obtain ⟨hkl, hx⟩ := HK.out.2
                          have := t.lie k hkl (by omega)
                          rw [hx, h] at this; cases this
                        have HNU : Hid ((Op.bytesLess x.path z || x.path == z) = true → ¬ Tree l) := fun h t => by
                          obtain ⟨hkl, hx⟩ := HK.out.2
                          have h1 := (t.chk k hkl).2 (by omega)
                          have h1 := h1.1 (by omega)
                          rw [hx, ← hz] at h1
                          exact absurd h1 (by rw [not_up h]; simp)
                        have HNX : Hid (lt z x.path = true → lies l x = true → ∀ w9, Fp Non w w9 → RrM l w (k + 1) w9) := fun h1 h2 w9 f => by
                          obtain ⟨hkl, hx⟩ := HK.out.2
                          exact hR.out.next (by omega) hkl (by rw [hx]; exact HFIT.out) (by rw [← hz, hx]; exact h1) (by rw [hx]; exact h2) f
                        have HPA := Lib.hid hpa
                        have HFD := Lib.hid hfd
                        have wk : IntKind.i64.wrap ((k : Int) - 1) = ((k - 1 : Nat) : Int) := by rw [IntKind.wrap_i64]; omega
                        have qz : ((0 : Int) < (k : Int)) = True := eq_true (by omega)
                        have qz2 : (0 < k) = True := eq_true (by omega)
                        have qn : (((k - 1 : Nat) : Int) < (n : Int)) = True := eq_true (by have h1 := HK.out.1; omega)
                        have qn2 : (k - 1 < n) = True := eq_true (by have h1 := HK.out.1; omega)
                        clear hpa hfd hspx hk0 hp hi hth hy hz
                        rcases hor with h | ⟨h, h'⟩
                        · have qa7 : (x.own != 0) = false := by simp [h]
                          have qb7 : (x.own = 0) = True := eq_true h
                          clear h
                          by_cases hge : (Op.bytesLess x.path z || x.path == z) = true
                          · have HNO := Lib.hid (HNU.out hge)
                            have hge2 := not_up hge
                            clear hge
                            go_wp2_with fail
                            refine (HPA.out _).mono ?_
                            rintro e w2 ⟨rfl, hg2⟩
                            have F2 := Lib.hid (HF.out.then (Gr.fp hg2))
                            have B2 := Lib.hid ((NdAt.box wr x).keep (Gr.fp hg2) (fun h => h))
                            clear hg2
                            obtain ⟨b0, b1, b2, b3, b4⟩ := B2.out.five
                            go_wp2_with fail
                            refine (HFD.out w2 F2.out).mono ?_
                            rintro e w3 ⟨rfl, hf3⟩
                            have HF3 := Lib.hid (((F2.out.then hf3).alloc (.cells #[.string (B y.path), .string (B y.data), .int .i64 y.ver, .int .i64 y.turn, .int .i64 y.own] TN)).drew)
                            have hs3 : (w3.alloc (.cells #[.string (B y.path), .string (B y.data), .int .i64 y.ver, .int .i64 y.turn, .int .i64 y.own] TN)).drew.cell? ⟨g, o + (k - 1) * 5, none⟩ = some (.string (B z)) ∧ (w3.alloc (.cells #[.string (B y.path), .string (B y.data), .int .i64 y.ver, .int .i64 y.turn, .int .i64 y.own] TN)).drew.cell? ⟨wr.heap.size, 0, none⟩ = some (.string (B x.path)) ∧ (w3.alloc (.cells #[.string (B y.path), .string (B y.data), .int .i64 y.ver, .int .i64 y.turn, .int .i64 y.own] TN)).drew.cell? ⟨w3.heap.size, 4, none⟩ = some (.int .i64 y.own) :=
                              ⟨HF3.out.cell HPZ.out (fun h => h), ((hf3.alloc (.cells #[.string (B y.path), .string (B y.data), .int .i64 y.ver, .int .i64 y.turn, .int .i64 y.own] TN)).drew).cell B2.out.c0 (fun h => h), ((Fp.refl Non _).drew).cell (NdAt.box w3 y).c4 (fun h => h)⟩
                            have HS3 := Lib.hid hs3
                            clear hs3 hf3 b0 b1 b2 b3 b4
                            go_wp2_with fail
                            refine wp_region_held_drew (S := (fun w' => w'.cell? ⟨g, o + (k - 1) * 5, none⟩ = some (.string (B z)) ∧ w'.cell? ⟨wr.heap.size, 0, none⟩ = some (.string (B x.path)) ∧ w'.cell? ⟨w3.heap.size, 4, none⟩ = some (.int .i64 y.own))) (by kernel_rfl) ?_ (fun hHeld => ?_)
                            · exact HS3.out
                            refine wpAnyH_take (i := 0) (oi := ?oi101) (v := ?vi101) ?h101 (by kernel_rfl) (by kernel_rfl) (by kernel_rfl) ?q101 (Or.inl ⟨?w101, ?y101⟩) hHeld ?r101
                            case h101 => simp only [zA, zB] <;> exact rfl
                            case q101 => exact fun _ _ _ h => h
                            case w101 => rfl
                            case y101 =>
                              intro w hSw
                              (try dsimp only at hSw)
                              obtain ⟨s0, s1, s2⟩ := hSw
                              go_simp
                              try with_reducible rfl
                            try simp only [zP, zN, zS, zT, zU]
                            refine wpAnyH_take (i := 1) (oi := ?oi102) (v := ?vi102) ?h102 (by kernel_rfl) (by kernel_rfl) (by kernel_rfl) ?q102 (Or.inl ⟨?w102, ?y102⟩) hHeld ?r102
                            case h102 => simp only [zA, zB, zC] <;> exact rfl
                            case q102 => exact fun _ _ _ h => h
                            case w102 => rfl
                            case y102 =>
                              intro w hSw
                              (try dsimp only at hSw)
                              obtain ⟨s0, s1, s2⟩ := hSw
                              go_simp
                              try with_reducible rfl
                            try simp only [zP, zN, zS, zT, zU]
                            refine wpAnyH_take (i := 2) (oi := ?oi103) (v := ?vi103) ?h103 (by kernel_rfl) (by kernel_rfl) (by kernel_rfl) ?q103 (Or.inl ⟨?w103, ?y103⟩) hHeld ?r103
                            case h103 => simp only [zA, zB, zC] <;> exact rfl
                            case q103 => exact fun _ _ _ h => h
                            case w103 => rfl
                            case y103 =>
                              intro w hSw
                              (try dsimp only at hSw)
                              obtain ⟨s0, s1, s2⟩ := hSw
                              go_simp
                              try with_reducible rfl
                            try simp only [zP, zN, zS, zT, zU]
                            refine wpAnyH_take (i := 3) (oi := ?oi104) (v := ?vi104) ?h104 (by kernel_rfl) (by kernel_rfl) (by kernel_rfl) ?q104 (Or.inl ⟨?w104, ?y104⟩) hHeld ?r104
                            case h104 => simp only [zA, zB, zC] <;> exact rfl
                            case q104 => exact fun _ _ _ h => h
                            case w104 => rfl
                            case y104 =>
                              intro w hSw
                              (try dsimp only at hSw)
                              obtain ⟨s0, s1, s2⟩ := hSw
                              go_simp
                              try with_reducible rfl
                            try simp only [zP, zN, zS, zT, zU]
                            refine wpAnyH_take (i := 4) (oi := ?oi105) (v := ?vi105) ?h105 (by kernel_rfl) (by kernel_rfl) (by kernel_rfl) ?q105 (Or.inl ⟨?w105, ?y105⟩) hHeld ?r105
                            case h105 => simp only [zA, zB, zC] <;> exact rfl
                            case q105 => exact fun _ _ _ h => h
                            case w105 => rfl
                            case y105 =>
                              intro w hSw
                              (try dsimp only at hSw)
                              obtain ⟨s0, s1, s2⟩ := hSw
                              go_simp
                              try with_reducible rfl
                            try simp only [zP, zN, zS, zT, zU]
                            refine wpAnyH_take (i := 5) (oi := ?oi106) (v := ?vi106) ?h106 (by kernel_rfl) (by kernel_rfl) (by kernel_rfl) ?q106 (Or.inl ⟨?w106, ?y106⟩) hHeld ?r106
                            case h106 => simp only [zA, zB, zC] <;> exact rfl
                            case q106 => exact fun _ _ _ h => h
                            case w106 => rfl
                            case y106 =>
                              intro w hSw
                              (try dsimp only at hSw)
                              obtain ⟨s0, s1, s2⟩ := hSw
                              go_simp
                              try with_reducible rfl
                            try simp only [zP, zN, zS, zT, zU]
                            refine wpAnyH_take (i := 6) (oi := ?oi107) (v := ?vi107) ?h107 (by kernel_rfl) (by kernel_rfl) (by kernel_rfl) ?q107 (Or.inl ⟨?w107, ?y107⟩) hHeld ?r107
                            case h107 => simp only [zA, zB, zC] <;> exact rfl
                            case q107 => exact fun _ _ _ h => h
                            case w107 => rfl
                            case y107 =>
                              intro w hSw
                              (try dsimp only at hSw)
                              obtain ⟨s0, s1, s2⟩ := hSw
                              go_simp
                              try with_reducible rfl
                            try simp only [zP, zN, zS, zT, zU]
                            refine wpAnyH_take (i := 7) (oi := ?oi108) (v := ?vi108) ?h108 (by kernel_rfl) (by kernel_rfl) (by kernel_rfl) ?q108 (Or.inl ⟨?w108, ?y108⟩) hHeld ?r108
                            case h108 => simp only [zA, zB, zC] <;> exact rfl
                            case q108 => exact fun _ _ _ h => h
                            case w108 => rfl
                            case y108 =>
                              intro w hSw
                              (try dsimp only at hSw)
                              obtain ⟨s0, s1, s2⟩ := hSw
                              go_simp
                              try with_reducible rfl
                            try simp only [zP, zN, zS, zT, zU]
                            refine wpAnyH_take (i := 8) (oi := ?oi109) (v := ?vi109) ?h109 (by kernel_rfl) (by kernel_rfl) (by kernel_rfl) ?q109 (Or.inl ⟨?w109, ?y109⟩) hHeld ?r109
                            case h109 => simp only [zA, zB, zC] <;> exact rfl
                            case q109 => exact fun _ _ _ h => h
                            case w109 => rfl
                            case y109 =>
                              intro w hSw
                              (try dsimp only at hSw)
                              obtain ⟨s0, s1, s2⟩ := hSw
                              go_simp
                              try with_reducible rfl
                            try simp only [zP, zN, zS, zT, zU]
                            refine wpAnyH_take (i := 9) (oi := ?oi110) (v := ?vi110) ?h110 (by kernel_rfl) (by kernel_rfl) (by kernel_rfl) ?q110 (Or.inl ⟨?w110, ?y110⟩) hHeld ?r110
                            case h110 => simp only [zA, zB, zC] <;> exact rfl
                            case q110 => exact fun _ _ _ h => h
                            case w110 => rfl
                            case y110 =>
                              intro w hSw
                              (try dsimp only at hSw)
                              obtain ⟨s0, s1, s2⟩ := hSw
                              go_simp
                              try with_reducible rfl
                            try simp only [zP, zN, zS, zT, zU]
                            refine wpAnyH_take (i := 10) (oi := ?oi111) (v := undef) ?h111 (by kernel_rfl) (by kernel_rfl) (by kernel_rfl) ?q111 (Or.inr ⟨?w111, rfl⟩) hHeld ?r111
                            case h111 => simp only [zA, zB, zC] <;> exact rfl
                            case q111 => exact fun _ _ _ h => h
                            case w111 => rfl
                            try simp only [zP, zN, zS, zT, zU]
                            refine wpAnyH_take (i := 11) (oi := ?oi112) (v := undef) ?h112 (by kernel_rfl) (by kernel_rfl) (by kernel_rfl) ?q112 (Or.inr ⟨?w112, rfl⟩) hHeld ?r112
                            case h112 => simp only [zA, zB, zC] <;> exact rfl
                            case q112 => exact fun _ _ _ h => h
                            case w112 => rfl
                            try simp only [zP, zN, zS, zT, zU]
                            refine wpAnyH_take (i := 12) (oi := ?oi113) (v := ?vi113) ?h113 (by kernel_rfl) (by kernel_rfl) (by kernel_rfl) ?q113 (Or.inl ⟨?w113, ?y113⟩) hHeld ?r113
                            case h113 => simp only [zA, zB, zC] <;> exact rfl
                            case q113 => exact fun _ _ _ h => h
                            case w113 => rfl
                            case y113 =>
                              intro w hSw
                              (try dsimp only at hSw)
                              obtain ⟨s0, s1, s2⟩ := hSw
                              go_simp
                              try with_reducible rfl
                            try simp only [zP, zN, zS, zT, zU]
                            refine wpAnyH_take (i := 13) (oi := ?oi114) (v := ?vi114) ?h114 (by kernel_rfl) (by kernel_rfl) (by kernel_rfl) ?q114 (Or.inl ⟨?w114, ?y114⟩) hHeld ?r114
                            case h114 => simp only [zA, zB, zC] <;> exact rfl
                            case q114 => exact fun _ _ _ h => h
                            case w114 => rfl
                            case y114 =>
                              intro w hSw
                              (try dsimp only at hSw)
                              obtain ⟨s0, s1, s2⟩ := hSw
                              go_simp
                              try with_reducible rfl
                            try simp only [zP, zN, zS, zT, zU]
                            refine wpAnyH_take (i := 14) (oi := ?oi115) (v := undef) ?h115 (by kernel_rfl) (by kernel_rfl) (by kernel_rfl) ?q115 (Or.inr ⟨?w115, rfl⟩) hHeld ?r115
                            case h115 => simp only [zA, zB, zC] <;> exact rfl
                            case q115 => exact fun _ _ _ h => h
                            case w115 => rfl
                            try simp only [zP, zN, zS, zT, zU]
                            refine wpAnyH_take (i := 15) (oi := ?oi116) (v := undef) ?h116 (by kernel_rfl) (by kernel_rfl) (by kernel_rfl) ?q116 (Or.inr ⟨?w116, rfl⟩) hHeld ?r116
                            case h116 => simp only [zA, zB, zC] <;> exact rfl
                            case q116 => exact fun _ _ _ h => h
                            case w116 => rfl
                            try simp only [zP, zN, zS, zT, zU]
                            refine wpAnyH_take (i := 16) (oi := ?oi117) (v := ?vi117) ?h117 (by kernel_rfl) (by kernel_rfl) (by kernel_rfl) ?q117 (Or.inl ⟨?w117, ?y117⟩) hHeld ?r117
                            case h117 => simp only [zA, zB, zC] <;> exact rfl
                            case q117 => exact fun _ _ _ h => h
                            case w117 => rfl
                            case y117 =>
                              intro w hSw
                              (try dsimp only at hSw)
                              obtain ⟨s0, s1, s2⟩ := hSw
                              go_simp
                              try with_reducible rfl
                            try simp only [zP, zN, zS, zT, zU]
                            refine wpAnyH_take (i := 17) (oi := ?oi118) (v := ?vi118) ?h118 (by kernel_rfl) (by kernel_rfl) (by kernel_rfl) ?q118 (Or.inl ⟨?w118, ?y118⟩) hHeld ?r118
                            case h118 => simp only [zA, zB, zC] <;> exact rfl
                            case q118 => exact fun _ _ _ h => h
                            case w118 => rfl
                            case y118 =>
                              intro w hSw
                              (try dsimp only at hSw)
                              obtain ⟨s0, s1, s2⟩ := hSw
                              go_simp
                              try with_reducible rfl
                            try simp only [zP, zN, zS, zT, zU]
                            refine wpAnyH_take (i := 18) (oi := ?oi119) (v := undef) ?h119 (by kernel_rfl) (by kernel_rfl) (by kernel_rfl) ?q119 (Or.inr ⟨?w119, rfl⟩) hHeld ?r119
                            case h119 => simp only [zA, zB, zC] <;> exact rfl
                            case q119 => exact fun _ _ _ h => h
                            case w119 => rfl
                            try simp only [zP, zN, zS, zT, zU]
                            refine wpAnyH_take (i := 19) (oi := ?oi120) (v := undef) ?h120 (by kernel_rfl) (by kernel_rfl) (by kernel_rfl) ?q120 (Or.inr ⟨?w120, rfl⟩) hHeld ?r120
                            case h120 => simp only [zA, zB, zC] <;> exact rfl
                            case q120 => exact fun _ _ _ h => h
                            case w120 => rfl
                            try simp only [zP, zN, zS, zT, zU]
                            refine wpAnyH_take (i := 20) (oi := ?oi121) (v := undef) ?h121 (by kernel_rfl) (by kernel_rfl) (by kernel_rfl) ?q121 (Or.inr ⟨?w121, rfl⟩) hHeld ?r121
                            case h121 => simp only [zA, zB, zC] <;> exact rfl
                            case q121 => exact fun _ _ _ h => h
                            case w121 => rfl
                            try simp only [zP, zN, zS, zT, zU]
                            refine wpAnyH_take (i := 21) (oi := ?oi122) (v := ?vi122) ?h122 (by kernel_rfl) (by kernel_rfl) (by kernel_rfl) ?q122 (Or.inl ⟨?w122, ?y122⟩) hHeld ?r122
                            case h122 => simp only [zA, zB, zC] <;> exact rfl
                            case q122 => exact fun _ _ _ h => h
                            case w122 => rfl
                            case y122 =>
                              intro w hSw
                              (try dsimp only at hSw)
                              obtain ⟨s0, s1, s2⟩ := hSw
                              go_simp
                              try with_reducible rfl
                            try simp only [zP, zN, zS, zT, zU]
                            refine wpAnyH_done (by kernel_rfl) ?_ _
                            go_wp2
                            go_ret
                            exact ⟨by rw [right_false HNO.out]; rfl, HF3.out⟩
                          · have hge1 : (Op.bytesLess x.path z || x.path == z) = false := by simpa using hge
                            have hge2 := is_up hge1
                            have HGE := Lib.hid hge2
                            clear hge
                            cases is with
                            | false =>
                              have HNO := Lib.hid (HNL.out (by rw [HLT.out]; rfl))
                              go_wp2_with fail
                              refine (HPA.out _).mono ?_
                              rintro e w2 ⟨rfl, hg2⟩
                              have F2 := Lib.hid (HF.out.then (Gr.fp hg2))
                              have B2 := Lib.hid ((NdAt.box wr x).keep (Gr.fp hg2) (fun h => h))
                              clear hg2
                              obtain ⟨b0, b1, b2, b3, b4⟩ := B2.out.five
                              go_wp2_with fail
                              refine (HFD.out w2 F2.out).mono ?_
                              rintro e w3 ⟨rfl, hf3⟩
                              have HF3 := Lib.hid (((F2.out.then hf3).alloc (.cells #[.string (B y.path), .string (B y.data), .int .i64 y.ver, .int .i64 y.turn, .int .i64 y.own] TN)).drew)
                              have hs3 : (w3.alloc (.cells #[.string (B y.path), .string (B y.data), .int .i64 y.ver, .int .i64 y.turn, .int .i64 y.own] TN)).drew.cell? ⟨g, o + (k - 1) * 5, none⟩ = some (.string (B z)) ∧ (w3.alloc (.cells #[.string (B y.path), .string (B y.data), .int .i64 y.ver, .int .i64 y.turn, .int .i64 y.own] TN)).drew.cell? ⟨wr.heap.size, 0, none⟩ = some (.string (B x.path)) ∧ (w3.alloc (.cells #[.string (B y.path), .string (B y.data), .int .i64 y.ver, .int .i64 y.turn, .int .i64 y.own] TN)).drew.cell? ⟨w3.heap.size, 4, none⟩ = some (.int .i64 y.own) :=
                                ⟨HF3.out.cell HPZ.out (fun h => h), ((hf3.alloc (.cells #[.string (B y.path), .string (B y.data), .int .i64 y.ver, .int .i64 y.turn, .int .i64 y.own] TN)).drew).cell B2.out.c0 (fun h => h), ((Fp.refl Non _).drew).cell (NdAt.box w3 y).c4 (fun h => h)⟩
                              have HS3 := Lib.hid hs3
                              clear hs3 hf3 b0 b1 b2 b3 b4
                              go_wp2_with fail
                              refine wp_region_held_drew (S := (fun w' => w'.cell? ⟨g, o + (k - 1) * 5, none⟩ = some (.string (B z)) ∧ w'.cell? ⟨wr.heap.size, 0, none⟩ = some (.string (B x.path)) ∧ w'.cell? ⟨w3.heap.size, 4, none⟩ = some (.int .i64 y.own))) (by kernel_rfl) ?_ (fun hHeld => ?_)
                              · exact HS3.out
                              refine wpAnyH_take (i := 0) (oi := ?oi123) (v := ?vi123) ?h123 (by kernel_rfl) (by kernel_rfl) (by kernel_rfl) ?q123 (Or.inl ⟨?w123, ?y123⟩) hHeld ?r123
                              case h123 => simp only [zA, zB] <;> exact rfl
                              case q123 => exact fun _ _ _ h => h
                              case w123 => rfl
                              case y123 =>
                                intro w hSw
                                (try dsimp only at hSw)
                                obtain ⟨s0, s1, s2⟩ := hSw
                                go_simp
                                try with_reducible rfl
                              try simp only [zP, zN, zS, zT, zU]
                              refine wpAnyH_take (i := 1) (oi := ?oi124) (v := ?vi124) ?h124 (by kernel_rfl) (by kernel_rfl) (by kernel_rfl) ?q124 (Or.inl ⟨?w124, ?y124⟩) hHeld ?r124
                              case h124 => simp only [zA, zB, zC] <;> exact rfl
                              case q124 => exact fun _ _ _ h => h
                              case w124 => rfl
                              case y124 =>
                                intro w hSw
                                (try dsimp only at hSw)
                                obtain ⟨s0, s1, s2⟩ := hSw
                                go_simp
                                try with_reducible rfl
                              try simp only [zP, zN, zS, zT, zU]
                              refine wpAnyH_take (i := 2) (oi := ?oi125) (v := ?vi125) ?h125 (by kernel_rfl) (by kernel_rfl) (by kernel_rfl) ?q125 (Or.inl ⟨?w125, ?y125⟩) hHeld ?r125
                              case h125 => simp only [zA, zB, zC] <;> exact rfl
                              case q125 => exact fun _ _ _ h => h
                              case w125 => rfl
                              case y125 =>
                                intro w hSw
                                (try dsimp only at hSw)
                                obtain ⟨s0, s1, s2⟩ := hSw
                                go_simp
                                try with_reducible rfl
                              try simp only [zP, zN, zS, zT, zU]
                              refine wpAnyH_take (i := 3) (oi := ?oi126) (v := ?vi126) ?h126 (by kernel_rfl) (by kernel_rfl) (by kernel_rfl) ?q126 (Or.inl ⟨?w126, ?y126⟩) hHeld ?r126
                              case h126 => simp only [zA, zB, zC] <;> exact rfl
                              case q126 => exact fun _ _ _ h => h
                              case w126 => rfl
                              case y126 =>
                                intro w hSw
                                (try dsimp only at hSw)
                                obtain ⟨s0, s1, s2⟩ := hSw
                                go_simp
                                try with_reducible rfl
                              try simp only [zP, zN, zS, zT, zU]
                              refine wpAnyH_take (i := 4) (oi := ?oi127) (v := ?vi127) ?h127 (by kernel_rfl) (by kernel_rfl) (by kernel_rfl) ?q127 (Or.inl ⟨?w127, ?y127⟩) hHeld ?r127
                              case h127 => simp only [zA, zB, zC] <;> exact rfl
                              case q127 => exact fun _ _ _ h => h
                              case w127 => rfl
                              case y127 =>
                                intro w hSw
                                (try dsimp only at hSw)
                                obtain ⟨s0, s1, s2⟩ := hSw
                                go_simp
                                try with_reducible rfl
                              try simp only [zP, zN, zS, zT, zU]
                              refine wpAnyH_take (i := 5) (oi := ?oi128) (v := ?vi128) ?h128 (by kernel_rfl) (by kernel_rfl) (by kernel_rfl) ?q128 (Or.inl ⟨?w128, ?y128⟩) hHeld ?r128
                              case h128 => simp only [zA, zB, zC] <;> exact rfl
                              case q128 => exact fun _ _ _ h => h
                              case w128 => rfl
                              case y128 =>
                                intro w hSw
                                (try dsimp only at hSw)
                                obtain ⟨s0, s1, s2⟩ := hSw
                                go_simp
                                try with_reducible rfl
                              try simp only [zP, zN, zS, zT, zU]
                              refine wpAnyH_take (i := 6) (oi := ?oi129) (v := ?vi129) ?h129 (by kernel_rfl) (by kernel_rfl) (by kernel_rfl) ?q129 (Or.inl ⟨?w129, ?y129⟩) hHeld ?r129
                              case h129 => simp only [zA, zB, zC] <;> exact rfl
                              case q129 => exact fun _ _ _ h => h
                              case w129 => rfl
                              case y129 =>
                                intro w hSw
                                (try dsimp only at hSw)
                                obtain ⟨s0, s1, s2⟩ := hSw
                                go_simp
                                try with_reducible rfl
                              try simp only [zP, zN, zS, zT, zU]
                              refine wpAnyH_take (i := 7) (oi := ?oi130) (v := ?vi130) ?h130 (by kernel_rfl) (by kernel_rfl) (by kernel_rfl) ?q130 (Or.inl ⟨?w130, ?y130⟩) hHeld ?r130
                              case h130 => simp only [zA, zB, zC] <;> exact rfl
                              case q130 => exact fun _ _ _ h => h
                              case w130 => rfl
                              case y130 =>
                                intro w hSw
                                (try dsimp only at hSw)
                                obtain ⟨s0, s1, s2⟩ := hSw
                                go_simp
                                try with_reducible rfl
                              try simp only [zP, zN, zS, zT, zU]
                              refine wpAnyH_take (i := 8) (oi := ?oi131) (v := ?vi131) ?h131 (by kernel_rfl) (by kernel_rfl) (by kernel_rfl) ?q131 (Or.inl ⟨?w131, ?y131⟩) hHeld ?r131
                              case h131 => simp only [zA, zB, zC] <;> exact rfl
                              case q131 => exact fun _ _ _ h => h
                              case w131 => rfl
                              case y131 =>
                                intro w hSw
                                (try dsimp only at hSw)
                                obtain ⟨s0, s1, s2⟩ := hSw
                                go_simp
                                try with_reducible rfl
                              try simp only [zP, zN, zS, zT, zU]
                              refine wpAnyH_take (i := 9) (oi := ?oi132) (v := ?vi132) ?h132 (by kernel_rfl) (by kernel_rfl) (by kernel_rfl) ?q132 (Or.inl ⟨?w132, ?y132⟩) hHeld ?r132
                              case h132 => simp only [zA, zB, zC] <;> exact rfl
                              case q132 => exact fun _ _ _ h => h
                              case w132 => rfl
                              case y132 =>
                                intro w hSw
                                (try dsimp only at hSw)
                                obtain ⟨s0, s1, s2⟩ := hSw
                                go_simp
                                try with_reducible rfl
                              try simp only [zP, zN, zS, zT, zU]
                              refine wpAnyH_take (i := 10) (oi := ?oi133) (v := ?vi133) ?h133 (by kernel_rfl) (by kernel_rfl) (by kernel_rfl) ?q133 (Or.inl ⟨?w133, ?y133⟩) hHeld ?r133
                              case h133 => simp only [zA, zB, zC] <;> exact rfl
                              case q133 => exact fun _ _ _ h => h
                              case w133 => rfl
                              case y133 =>
                                intro w hSw
                                (try dsimp only at hSw)
                                obtain ⟨s0, s1, s2⟩ := hSw
                                go_simp
                                try with_reducible rfl
                              try simp only [zP, zN, zS, zT, zU]
                              refine wpAnyH_take (i := 11) (oi := ?oi134) (v := ?vi134) ?h134 (by kernel_rfl) (by kernel_rfl) (by kernel_rfl) ?q134 (Or.inl ⟨?w134, ?y134⟩) hHeld ?r134
                              case h134 => simp only [zA, zB, zC] <;> exact rfl
                              case q134 => exact fun _ _ _ h => h
                              case w134 => rfl
                              case y134 =>
                                intro w hSw
                                (try dsimp only at hSw)
                                obtain ⟨s0, s1, s2⟩ := hSw
                                go_simp
                                try with_reducible rfl
                              try simp only [zP, zN, zS, zT, zU]
                              refine wpAnyH_take (i := 12) (oi := ?oi135) (v := ?vi135) ?h135 (by kernel_rfl) (by kernel_rfl) (by kernel_rfl) ?q135 (Or.inl ⟨?w135, ?y135⟩) hHeld ?r135
                              case h135 => simp only [zA, zB, zC] <;> exact rfl
                              case q135 => exact fun _ _ _ h => h
                              case w135 => rfl
                              case y135 =>
                                intro w hSw
                                (try dsimp only at hSw)
                                obtain ⟨s0, s1, s2⟩ := hSw
                                go_simp
                                try with_reducible rfl
                              try simp only [zP, zN, zS, zT, zU]
                              refine wpAnyH_take (i := 13) (oi := ?oi136) (v := ?vi136) ?h136 (by kernel_rfl) (by kernel_rfl) (by kernel_rfl) ?q136 (Or.inl ⟨?w136, ?y136⟩) hHeld ?r136
                              case h136 => simp only [zA, zB, zC] <;> exact rfl
                              case q136 => exact fun _ _ _ h => h
                              case w136 => rfl
                              case y136 =>
                                intro w hSw
                                (try dsimp only at hSw)
                                obtain ⟨s0, s1, s2⟩ := hSw
                                go_simp
                                try with_reducible rfl
                              try simp only [zP, zN, zS, zT, zU]
                              refine wpAnyH_take (i := 14) (oi := ?oi137) (v := undef) ?h137 (by kernel_rfl) (by kernel_rfl) (by kernel_rfl) ?q137 (Or.inr ⟨?w137, rfl⟩) hHeld ?r137
                              case h137 => simp only [zA, zB, zC] <;> exact rfl
                              case q137 => exact fun _ _ _ h => h
                              case w137 => rfl
                              try simp only [zP, zN, zS, zT, zU]
                              refine wpAnyH_take (i := 15) (oi := ?oi138) (v := undef) ?h138 (by kernel_rfl) (by kernel_rfl) (by kernel_rfl) ?q138 (Or.inr ⟨?w138, rfl⟩) hHeld ?r138
                              case h138 => simp only [zA, zB, zC] <;> exact rfl
                              case q138 => exact fun _ _ _ h => h
                              case w138 => rfl
                              try simp only [zP, zN, zS, zT, zU]
                              refine wpAnyH_take (i := 16) (oi := ?oi139) (v := ?vi139) ?h139 (by kernel_rfl) (by kernel_rfl) (by kernel_rfl) ?q139 (Or.inl ⟨?w139, ?y139⟩) hHeld ?r139
                              case h139 => simp only [zA, zB, zC] <;> exact rfl
                              case q139 => exact fun _ _ _ h => h
                              case w139 => rfl
                              case y139 =>
                                intro w hSw
                                (try dsimp only at hSw)
                                obtain ⟨s0, s1, s2⟩ := hSw
                                go_simp
                                try with_reducible rfl
                              try simp only [zP, zN, zS, zT, zU]
                              refine wpAnyH_take (i := 17) (oi := ?oi140) (v := ?vi140) ?h140 (by kernel_rfl) (by kernel_rfl) (by kernel_rfl) ?q140 (Or.inl ⟨?w140, ?y140⟩) hHeld ?r140
                              case h140 => simp only [zA, zB, zC] <;> exact rfl
                              case q140 => exact fun _ _ _ h => h
                              case w140 => rfl
                              case y140 =>
                                intro w hSw
                                (try dsimp only at hSw)
                                obtain ⟨s0, s1, s2⟩ := hSw
                                go_simp
                                try with_reducible rfl
                              try simp only [zP, zN, zS, zT, zU]
                              refine wpAnyH_take (i := 18) (oi := ?oi141) (v := undef) ?h141 (by kernel_rfl) (by kernel_rfl) (by kernel_rfl) ?q141 (Or.inr ⟨?w141, rfl⟩) hHeld ?r141
                              case h141 => simp only [zA, zB, zC] <;> exact rfl
                              case q141 => exact fun _ _ _ h => h
                              case w141 => rfl
                              try simp only [zP, zN, zS, zT, zU]
                              refine wpAnyH_take (i := 19) (oi := ?oi142) (v := undef) ?h142 (by kernel_rfl) (by kernel_rfl) (by kernel_rfl) ?q142 (Or.inr ⟨?w142, rfl⟩) hHeld ?r142
                              case h142 => simp only [zA, zB, zC] <;> exact rfl
                              case q142 => exact fun _ _ _ h => h
                              case w142 => rfl
                              try simp only [zP, zN, zS, zT, zU]
                              refine wpAnyH_take (i := 20) (oi := ?oi143) (v := undef) ?h143 (by kernel_rfl) (by kernel_rfl) (by kernel_rfl) ?q143 (Or.inr ⟨?w143, rfl⟩) hHeld ?r143
                              case h143 => simp only [zA, zB, zC] <;> exact rfl
                              case q143 => exact fun _ _ _ h => h
                              case w143 => rfl
                              try simp only [zP, zN, zS, zT, zU]
                              refine wpAnyH_take (i := 21) (oi := ?oi144) (v := ?vi144) ?h144 (by kernel_rfl) (by kernel_rfl) (by kernel_rfl) ?q144 (Or.inl ⟨?w144, ?y144⟩) hHeld ?r144
                              case h144 => simp only [zA, zB, zC] <;> exact rfl
                              case q144 => exact fun _ _ _ h => h
                              case w144 => rfl
                              case y144 =>
                                intro w hSw
                                (try dsimp only at hSw)
                                obtain ⟨s0, s1, s2⟩ := hSw
                                go_simp
                                try with_reducible rfl
                              try simp only [zP, zN, zS, zT, zU]
                              refine wpAnyH_done (by kernel_rfl) ?_ _
                              go_wp2
                              go_ret
                              exact ⟨by rw [right_false HNO.out]; rfl, HF3.out⟩
                            | true =>
                              cases th with
                              | false =>
                                have HNO := Lib.hid (HNL.out (by rw [HLT.out]; rfl))
                                go_wp2_with fail
                                refine (HPA.out _).mono ?_
                                rintro e w2 ⟨rfl, hg2⟩
                                have F2 := Lib.hid (HF.out.then (Gr.fp hg2))
                                have B2 := Lib.hid ((NdAt.box wr x).keep (Gr.fp hg2) (fun h => h))
                                clear hg2
                                obtain ⟨b0, b1, b2, b3, b4⟩ := B2.out.five
                                go_wp2_with fail
                                refine (HFD.out w2 F2.out).mono ?_
                                rintro e w3 ⟨rfl, hf3⟩
                                have HF3 := Lib.hid (((F2.out.then hf3).alloc (.cells #[.string (B y.path), .string (B y.data), .int .i64 y.ver, .int .i64 y.turn, .int .i64 y.own] TN)).drew)
                                have hs3 : (w3.alloc (.cells #[.string (B y.path), .string (B y.data), .int .i64 y.ver, .int .i64 y.turn, .int .i64 y.own] TN)).drew.cell? ⟨g, o + (k - 1) * 5, none⟩ = some (.string (B z)) ∧ (w3.alloc (.cells #[.string (B y.path), .string (B y.data), .int .i64 y.ver, .int .i64 y.turn, .int .i64 y.own] TN)).drew.cell? ⟨wr.heap.size, 0, none⟩ = some (.string (B x.path)) ∧ (w3.alloc (.cells #[.string (B y.path), .string (B y.data), .int .i64 y.ver, .int .i64 y.turn, .int .i64 y.own] TN)).drew.cell? ⟨w3.heap.size, 4, none⟩ = some (.int .i64 y.own) :=
                                  ⟨HF3.out.cell HPZ.out (fun h => h), ((hf3.alloc (.cells #[.string (B y.path), .string (B y.data), .int .i64 y.ver, .int .i64 y.turn, .int .i64 y.own] TN)).drew).cell B2.out.c0 (fun h => h), ((Fp.refl Non _).drew).cell (NdAt.box w3 y).c4 (fun h => h)⟩
                                have HS3 := Lib.hid hs3
                                clear hs3 hf3 b0 b1 b2 b3 b4
                                go_wp2_with fail
                                refine wp_region_held_drew (S := (fun w' => w'.cell? ⟨g, o + (k - 1) * 5, none⟩ = some (.string (B z)) ∧ w'.cell? ⟨wr.heap.size, 0, none⟩ = some (.string (B x.path)) ∧ w'.cell? ⟨w3.heap.size, 4, none⟩ = some (.int .i64 y.own))) (by kernel_rfl) ?_ (fun hHeld => ?_)
                                · exact HS3.out
                                refine wpAnyH_take (i := 0) (oi := ?oi145) (v := ?vi145) ?h145 (by kernel_rfl) (by kernel_rfl) (by kernel_rfl) ?q145 (Or.inl ⟨?w145, ?y145⟩) hHeld ?r145
                                case h145 => simp only [zA, zB] <;> exact rfl
                                case q145 => exact fun _ _ _ h => h
                                case w145 => rfl
                                case y145 =>
                                  intro w hSw
                                  (try dsimp only at hSw)
                                  obtain ⟨s0, s1, s2⟩ := hSw
                                  go_simp
                                  try with_reducible rfl
                                try simp only [zP, zN, zS, zT, zU]
                                refine wpAnyH_take (i := 1) (oi := ?oi146) (v := ?vi146) ?h146 (by kernel_rfl) (by kernel_rfl) (by kernel_rfl) ?q146 (Or.inl ⟨?w146, ?y146⟩) hHeld ?r146
                                case h146 => simp only [zA, zB, zC] <;> exact rfl
                                case q146 => exact fun _ _ _ h => h
                                case w146 => rfl
                                case y146 =>
                                  intro w hSw
                                  (try dsimp only at hSw)
                                  obtain ⟨s0, s1, s2⟩ := hSw
                                  go_simp
                                  try with_reducible rfl
                                try simp only [zP, zN, zS, zT, zU]
                                refine wpAnyH_take (i := 2) (oi := ?oi147) (v := ?vi147) ?h147 (by kernel_rfl) (by kernel_rfl) (by kernel_rfl) ?q147 (Or.inl ⟨?w147, ?y147⟩) hHeld ?r147
                                case h147 => simp only [zA, zB, zC] <;> exact rfl
                                case q147 => exact fun _ _ _ h => h
                                case w147 => rfl
                                case y147 =>
                                  intro w hSw
                                  (try dsimp only at hSw)
                                  obtain ⟨s0, s1, s2⟩ := hSw
                                  go_simp
                                  try with_reducible rfl
                                try simp only [zP, zN, zS, zT, zU]
                                refine wpAnyH_take (i := 3) (oi := ?oi148) (v := ?vi148) ?h148 (by kernel_rfl) (by kernel_rfl) (by kernel_rfl) ?q148 (Or.inl ⟨?w148, ?y148⟩) hHeld ?r148
                                case h148 => simp only [zA, zB, zC] <;> exact rfl
                                case q148 => exact fun _ _ _ h => h
                                case w148 => rfl
                                case y148 =>
                                  intro w hSw
                                  (try dsimp only at hSw)
                                  obtain ⟨s0, s1, s2⟩ := hSw
                                  go_simp
                                  try with_reducible rfl
                                try simp only [zP, zN, zS, zT, zU]
                                refine wpAnyH_take (i := 4) (oi := ?oi149) (v := ?vi149) ?h149 (by kernel_rfl) (by kernel_rfl) (by kernel_rfl) ?q149 (Or.inl ⟨?w149, ?y149⟩) hHeld ?r149
                                case h149 => simp only [zA, zB, zC] <;> exact rfl
                                case q149 => exact fun _ _ _ h => h
                                case w149 => rfl
                                case y149 =>
                                  intro w hSw
                                  (try dsimp only at hSw)
                                  obtain ⟨s0, s1, s2⟩ := hSw
                                  go_simp
                                  try with_reducible rfl
                                try simp only [zP, zN, zS, zT, zU]
                                refine wpAnyH_take (i := 5) (oi := ?oi150) (v := ?vi150) ?h150 (by kernel_rfl) (by kernel_rfl) (by kernel_rfl) ?q150 (Or.inl ⟨?w150, ?y150⟩) hHeld ?r150
                                case h150 => simp only [zA, zB, zC] <;> exact rfl
                                case q150 => exact fun _ _ _ h => h
                                case w150 => rfl
                                case y150 =>
                                  intro w hSw
                                  (try dsimp only at hSw)
                                  obtain ⟨s0, s1, s2⟩ := hSw
                                  go_simp
                                  try with_reducible rfl
                                try simp only [zP, zN, zS, zT, zU]
                                refine wpAnyH_take (i := 6) (oi := ?oi151) (v := ?vi151) ?h151 (by kernel_rfl) (by kernel_rfl) (by kernel_rfl) ?q151 (Or.inl ⟨?w151, ?y151⟩) hHeld ?r151
                                case h151 => simp only [zA, zB, zC] <;> exact rfl
                                case q151 => exact fun _ _ _ h => h
                                case w151 => rfl
                                case y151 =>
                                  intro w hSw
                                  (try dsimp only at hSw)
                                  obtain ⟨s0, s1, s2⟩ := hSw
                                  go_simp
                                  try with_reducible rfl
                                try simp only [zP, zN, zS, zT, zU]
                                refine wpAnyH_take (i := 7) (oi := ?oi152) (v := ?vi152) ?h152 (by kernel_rfl) (by kernel_rfl) (by kernel_rfl) ?q152 (Or.inl ⟨?w152, ?y152⟩) hHeld ?r152
                                case h152 => simp only [zA, zB, zC] <;> exact rfl
                                case q152 => exact fun _ _ _ h => h
                                case w152 => rfl
                                case y152 =>
                                  intro w hSw
                                  (try dsimp only at hSw)
                                  obtain ⟨s0, s1, s2⟩ := hSw
                                  go_simp
                                  try with_reducible rfl
                                try simp only [zP, zN, zS, zT, zU]
                                refine wpAnyH_take (i := 8) (oi := ?oi153) (v := ?vi153) ?h153 (by kernel_rfl) (by kernel_rfl) (by kernel_rfl) ?q153 (Or.inl ⟨?w153, ?y153⟩) hHeld ?r153
                                case h153 => simp only [zA, zB, zC] <;> exact rfl
                                case q153 => exact fun _ _ _ h => h
                                case w153 => rfl
                                case y153 =>
                                  intro w hSw
                                  (try dsimp only at hSw)
                                  obtain ⟨s0, s1, s2⟩ := hSw
                                  go_simp
                                  try with_reducible rfl
                                try simp only [zP, zN, zS, zT, zU]
                                refine wpAnyH_take (i := 9) (oi := ?oi154) (v := ?vi154) ?h154 (by kernel_rfl) (by kernel_rfl) (by kernel_rfl) ?q154 (Or.inl ⟨?w154, ?y154⟩) hHeld ?r154
                                case h154 => simp only [zA, zB, zC] <;> exact rfl
                                case q154 => exact fun _ _ _ h => h
                                case w154 => rfl
                                case y154 =>
                                  intro w hSw
                                  (try dsimp only at hSw)
                                  obtain ⟨s0, s1, s2⟩ := hSw
                                  go_simp
                                  try with_reducible rfl
                                try simp only [zP, zN, zS, zT, zU]
                                refine wpAnyH_take (i := 10) (oi := ?oi155) (v := ?vi155) ?h155 (by kernel_rfl) (by kernel_rfl) (by kernel_rfl) ?q155 (Or.inl ⟨?w155, ?y155⟩) hHeld ?r155
                                case h155 => simp only [zA, zB, zC] <;> exact rfl
                                case q155 => exact fun _ _ _ h => h
                                case w155 => rfl
                                case y155 =>
                                  intro w hSw
                                  (try dsimp only at hSw)
                                  obtain ⟨s0, s1, s2⟩ := hSw
                                  go_simp
                                  try with_reducible rfl
                                try simp only [zP, zN, zS, zT, zU]
                                refine wpAnyH_take (i := 11) (oi := ?oi156) (v := ?vi156) ?h156 (by kernel_rfl) (by kernel_rfl) (by kernel_rfl) ?q156 (Or.inl ⟨?w156, ?y156⟩) hHeld ?r156
                                case h156 => simp only [zA, zB, zC] <;> exact rfl
                                case q156 => exact fun _ _ _ h => h
                                case w156 => rfl
                                case y156 =>
                                  intro w hSw
                                  (try dsimp only at hSw)
                                  obtain ⟨s0, s1, s2⟩ := hSw
                                  go_simp
                                  try with_reducible rfl
                                try simp only [zP, zN, zS, zT, zU]
                                refine wpAnyH_take (i := 12) (oi := ?oi157) (v := ?vi157) ?h157 (by kernel_rfl) (by kernel_rfl) (by kernel_rfl) ?q157 (Or.inl ⟨?w157, ?y157⟩) hHeld ?r157
                                case h157 => simp only [zA, zB, zC] <;> exact rfl
                                case q157 => exact fun _ _ _ h => h
                                case w157 => rfl
                                case y157 =>
                                  intro w hSw
                                  (try dsimp only at hSw)
                                  obtain ⟨s0, s1, s2⟩ := hSw
                                  go_simp
                                  try with_reducible rfl
                                try simp only [zP, zN, zS, zT, zU]
                                refine wpAnyH_take (i := 13) (oi := ?oi158) (v := ?vi158) ?h158 (by kernel_rfl) (by kernel_rfl) (by kernel_rfl) ?q158 (Or.inl ⟨?w158, ?y158⟩) hHeld ?r158
                                case h158 => simp only [zA, zB, zC] <;> exact rfl
                                case q158 => exact fun _ _ _ h => h
                                case w158 => rfl
                                case y158 =>
                                  intro w hSw
                                  (try dsimp only at hSw)
                                  obtain ⟨s0, s1, s2⟩ := hSw
                                  go_simp
                                  try with_reducible rfl
                                try simp only [zP, zN, zS, zT, zU]
                                refine wpAnyH_take (i := 14) (oi := ?oi159) (v := ?vi159) ?h159 (by kernel_rfl) (by kernel_rfl) (by kernel_rfl) ?q159 (Or.inl ⟨?w159, ?y159⟩) hHeld ?r159
                                case h159 => simp only [zA, zB, zC] <;> exact rfl
                                case q159 => exact fun _ _ _ h => h
                                case w159 => rfl
                                case y159 =>
                                  intro w hSw
                                  (try dsimp only at hSw)
                                  obtain ⟨s0, s1, s2⟩ := hSw
                                  go_simp
                                  try with_reducible rfl
                                try simp only [zP, zN, zS, zT, zU]
                                refine wpAnyH_take (i := 15) (oi := ?oi160) (v := ?vi160) ?h160 (by kernel_rfl) (by kernel_rfl) (by kernel_rfl) ?q160 (Or.inl ⟨?w160, ?y160⟩) hHeld ?r160
                                case h160 => simp only [zA, zB, zC] <;> exact rfl
                                case q160 => exact fun _ _ _ h => h
                                case w160 => rfl
                                case y160 =>
                                  intro w hSw
                                  (try dsimp only at hSw)
                                  obtain ⟨s0, s1, s2⟩ := hSw
                                  go_simp
                                  try with_reducible rfl
                                try simp only [zP, zN, zS, zT, zU]
                                refine wpAnyH_take (i := 16) (oi := ?oi161) (v := ?vi161) ?h161 (by kernel_rfl) (by kernel_rfl) (by kernel_rfl) ?q161 (Or.inl ⟨?w161, ?y161⟩) hHeld ?r161
                                case h161 => simp only [zA, zB, zC] <;> exact rfl
                                case q161 => exact fun _ _ _ h => h
                                case w161 => rfl
                                case y161 =>
                                  intro w hSw
                                  (try dsimp only at hSw)
                                  obtain ⟨s0, s1, s2⟩ := hSw
                                  go_simp
                                  try with_reducible rfl
                                try simp only [zP, zN, zS, zT, zU]
                                refine wpAnyH_take (i := 17) (oi := ?oi162) (v := ?vi162) ?h162 (by kernel_rfl) (by kernel_rfl) (by kernel_rfl) ?q162 (Or.inl ⟨?w162, ?y162⟩) hHeld ?r162
                                case h162 => simp only [zA, zB, zC] <;> exact rfl
                                case q162 => exact fun _ _ _ h => h
                                case w162 => rfl
                                case y162 =>
                                  intro w hSw
                                  (try dsimp only at hSw)
                                  obtain ⟨s0, s1, s2⟩ := hSw
                                  go_simp
                                  try with_reducible rfl
                                try simp only [zP, zN, zS, zT, zU]
                                refine wpAnyH_take (i := 18) (oi := ?oi163) (v := undef) ?h163 (by kernel_rfl) (by kernel_rfl) (by kernel_rfl) ?q163 (Or.inr ⟨?w163, rfl⟩) hHeld ?r163
                                case h163 => simp only [zA, zB, zC] <;> exact rfl
                                case q163 => exact fun _ _ _ h => h
                                case w163 => rfl
                                try simp only [zP, zN, zS, zT, zU]
                                refine wpAnyH_take (i := 19) (oi := ?oi164) (v := undef) ?h164 (by kernel_rfl) (by kernel_rfl) (by kernel_rfl) ?q164 (Or.inr ⟨?w164, rfl⟩) hHeld ?r164
                                case h164 => simp only [zA, zB, zC] <;> exact rfl
                                case q164 => exact fun _ _ _ h => h
                                case w164 => rfl
                                try simp only [zP, zN, zS, zT, zU]
                                refine wpAnyH_take (i := 20) (oi := ?oi165) (v := undef) ?h165 (by kernel_rfl) (by kernel_rfl) (by kernel_rfl) ?q165 (Or.inr ⟨?w165, rfl⟩) hHeld ?r165
                                case h165 => simp only [zA, zB, zC] <;> exact rfl
                                case q165 => exact fun _ _ _ h => h
                                case w165 => rfl
                                try simp only [zP, zN, zS, zT, zU]
                                refine wpAnyH_take (i := 21) (oi := ?oi166) (v := ?vi166) ?h166 (by kernel_rfl) (by kernel_rfl) (by kernel_rfl) ?q166 (Or.inl ⟨?w166, ?y166⟩) hHeld ?r166
                                case h166 => simp only [zA, zB, zC] <;> exact rfl
                                case q166 => exact fun _ _ _ h => h
                                case w166 => rfl
                                case y166 =>
                                  intro w hSw
                                  (try dsimp only at hSw)
                                  obtain ⟨s0, s1, s2⟩ := hSw
                                  go_simp
                                  try with_reducible rfl
                                try simp only [zP, zN, zS, zT, zU]
                                refine wpAnyH_done (by kernel_rfl) ?_ _
                                go_wp2
                                go_ret
                                exact ⟨by rw [right_false HNO.out]; rfl, HF3.out⟩
                              | true =>
                                by_cases hyo : y.own = 0
                                · have HNEXT := Lib.hid (HNX.out HGE.out (by rw [HLT.out]; simp [hyo]))
                                  have qy : (y.own != 0) = false := by simp [hyo]
                                  have qy2 : (y.own = 0) = True := eq_true hyo
                                  clear hyo
                                  go_wp2_with fail
                                  refine (HPA.out _).mono ?_
                                  rintro e w2 ⟨rfl, hg2⟩
                                  have F2 := Lib.hid (HF.out.then (Gr.fp hg2))
                                  have B2 := Lib.hid ((NdAt.box wr x).keep (Gr.fp hg2) (fun h => h))
                                  clear hg2
                                  obtain ⟨b0, b1, b2, b3, b4⟩ := B2.out.five
                                  go_wp2_with fail
                                  refine (HFD.out w2 F2.out).mono ?_
                                  rintro e w3 ⟨rfl, hf3⟩
                                  have HF3 := Lib.hid (((F2.out.then hf3).alloc (.cells #[.string (B y.path), .string (B y.data), .int .i64 y.ver, .int .i64 y.turn, .int .i64 y.own] TN)).drew)
                                  have hs3 : (w3.alloc (.cells #[.string (B y.path), .string (B y.data), .int .i64 y.ver, .int .i64 y.turn, .int .i64 y.own] TN)).drew.cell? ⟨g, o + (k - 1) * 5, none⟩ = some (.string (B z)) ∧ (w3.alloc (.cells #[.string (B y.path), .string (B y.data), .int .i64 y.ver, .int .i64 y.turn, .int .i64 y.own] TN)).drew.cell? ⟨wr.heap.size, 0, none⟩ = some (.string (B x.path)) ∧ (w3.alloc (.cells #[.string (B y.path), .string (B y.data), .int .i64 y.ver, .int .i64 y.turn, .int .i64 y.own] TN)).drew.cell? ⟨w3.heap.size, 4, none⟩ = some (.int .i64 y.own) :=
                                    ⟨HF3.out.cell HPZ.out (fun h => h), ((hf3.alloc (.cells #[.string (B y.path), .string (B y.data), .int .i64 y.ver, .int .i64 y.turn, .int .i64 y.own] TN)).drew).cell B2.out.c0 (fun h => h), ((Fp.refl Non _).drew).cell (NdAt.box w3 y).c4 (fun h => h)⟩
                                  have HS3 := Lib.hid hs3
                                  clear hs3 hf3 b0 b1 b2 b3 b4
                                  go_wp2_with fail
                                  refine wp_region_held_drew (S := (fun w' => w'.cell? ⟨g, o + (k - 1) * 5, none⟩ = some (.string (B z)) ∧ w'.cell? ⟨wr.heap.size, 0, none⟩ = some (.string (B x.path)) ∧ w'.cell? ⟨w3.heap.size, 4, none⟩ = some (.int .i64 y.own))) (by kernel_rfl) ?_ (fun hHeld => ?_)
                                  · exact HS3.out
                                  refine wpAnyH_take (i := 0) (oi := ?oi189) (v := ?vi189) ?h189 (by kernel_rfl) (by kernel_rfl) (by kernel_rfl) ?q189 (Or.inl ⟨?w189, ?y189⟩) hHeld ?r189
                                  case h189 => simp only [zA, zB] <;> exact rfl
                                  case q189 => exact fun _ _ _ h => h
                                  case w189 => rfl
                                  case y189 =>
                                    intro w hSw
                                    (try dsimp only at hSw)
                                    obtain ⟨s0, s1, s2⟩ := hSw
                                    go_simp
                                    try with_reducible rfl
                                  try simp only [zP, zN, zS, zT, zU]
                                  refine wpAnyH_take (i := 1) (oi := ?oi190) (v := ?vi190) ?h190 (by kernel_rfl) (by kernel_rfl) (by kernel_rfl) ?q190 (Or.inl ⟨?w190, ?y190⟩) hHeld ?r190
                                  case h190 => simp only [zA, zB, zC] <;> exact rfl
                                  case q190 => exact fun _ _ _ h => h
                                  case w190 => rfl
                                  case y190 =>
                                    intro w hSw
                                    (try dsimp only at hSw)
                                    obtain ⟨s0, s1, s2⟩ := hSw
                                    go_simp
                                    try with_reducible rfl
                                  try simp only [zP, zN, zS, zT, zU]
                                  refine wpAnyH_take (i := 2) (oi := ?oi191) (v := ?vi191) ?h191 (by kernel_rfl) (by kernel_rfl) (by kernel_rfl) ?q191 (Or.inl ⟨?w191, ?y191⟩) hHeld ?r191
                                  case h191 => simp only [zA, zB, zC] <;> exact rfl
                                  case q191 => exact fun _ _ _ h => h
                                  case w191 => rfl
                                  case y191 =>
                                    intro w hSw
                                    (try dsimp only at hSw)
                                    obtain ⟨s0, s1, s2⟩ := hSw
                                    go_simp
                                    try with_reducible rfl
                                  try simp only [zP, zN, zS, zT, zU]
                                  refine wpAnyH_take (i := 3) (oi := ?oi192) (v := ?vi192) ?h192 (by kernel_rfl) (by kernel_rfl) (by kernel_rfl) ?q192 (Or.inl ⟨?w192, ?y192⟩) hHeld ?r192
                                  case h192 => simp only [zA, zB, zC] <;> exact rfl
                                  case q192 => exact fun _ _ _ h => h
                                  case w192 => rfl
                                  case y192 =>
                                    intro w hSw
                                    (try dsimp only at hSw)
                                    obtain ⟨s0, s1, s2⟩ := hSw
                                    go_simp
                                    try with_reducible rfl
                                  try simp only [zP, zN, zS, zT, zU]
                                  refine wpAnyH_take (i := 4) (oi := ?oi193) (v := ?vi193) ?h193 (by kernel_rfl) (by kernel_rfl) (by kernel_rfl) ?q193 (Or.inl ⟨?w193, ?y193⟩) hHeld ?r193
                                  case h193 => simp only [zA, zB, zC] <;> exact rfl
                                  case q193 => exact fun _ _ _ h => h
                                  case w193 => rfl
                                  case y193 =>
                                    intro w hSw
                                    (try dsimp only at hSw)
                                    obtain ⟨s0, s1, s2⟩ := hSw
                                    go_simp
                                    try with_reducible rfl
                                  try simp only [zP, zN, zS, zT, zU]
                                  refine wpAnyH_take (i := 5) (oi := ?oi194) (v := ?vi194) ?h194 (by kernel_rfl) (by kernel_rfl) (by kernel_rfl) ?q194 (Or.inl ⟨?w194, ?y194⟩) hHeld ?r194
                                  case h194 => simp only [zA, zB, zC] <;> exact rfl
                                  case q194 => exact fun _ _ _ h => h
                                  case w194 => rfl
                                  case y194 =>
                                    intro w hSw
                                    (try dsimp only at hSw)
                                    obtain ⟨s0, s1, s2⟩ := hSw
                                    go_simp
                                    try with_reducible rfl
                                  try simp only [zP, zN, zS, zT, zU]
                                  refine wpAnyH_take (i := 6) (oi := ?oi195) (v := ?vi195) ?h195 (by kernel_rfl) (by kernel_rfl) (by kernel_rfl) ?q195 (Or.inl ⟨?w195, ?y195⟩) hHeld ?r195
                                  case h195 => simp only [zA, zB, zC] <;> exact rfl
                                  case q195 => exact fun _ _ _ h => h
                                  case w195 => rfl
                                  case y195 =>
                                    intro w hSw
                                    (try dsimp only at hSw)
                                    obtain ⟨s0, s1, s2⟩ := hSw
                                    go_simp
                                    try with_reducible rfl
                                  try simp only [zP, zN, zS, zT, zU]
                                  refine wpAnyH_take (i := 7) (oi := ?oi196) (v := ?vi196) ?h196 (by kernel_rfl) (by kernel_rfl) (by kernel_rfl) ?q196 (Or.inl ⟨?w196, ?y196⟩) hHeld ?r196
                                  case h196 => simp only [zA, zB, zC] <;> exact rfl
                                  case q196 => exact fun _ _ _ h => h
                                  case w196 => rfl
                                  case y196 =>
                                    intro w hSw
                                    (try dsimp only at hSw)
                                    obtain ⟨s0, s1, s2⟩ := hSw
                                    go_simp
                                    try with_reducible rfl
                                  try simp only [zP, zN, zS, zT, zU]
                                  refine wpAnyH_take (i := 8) (oi := ?oi197) (v := ?vi197) ?h197 (by kernel_rfl) (by kernel_rfl) (by kernel_rfl) ?q197 (Or.inl ⟨?w197, ?y197⟩) hHeld ?r197
                                  case h197 => simp only [zA, zB, zC] <;> exact rfl
                                  case q197 => exact fun _ _ _ h => h
                                  case w197 => rfl
                                  case y197 =>
                                    intro w hSw
                                    (try dsimp only at hSw)
                                    obtain ⟨s0, s1, s2⟩ := hSw
                                    go_simp
                                    try with_reducible rfl
                                  try simp only [zP, zN, zS, zT, zU]
                                  refine wpAnyH_take (i := 9) (oi := ?oi198) (v := ?vi198) ?h198 (by kernel_rfl) (by kernel_rfl) (by kernel_rfl) ?q198 (Or.inl ⟨?w198, ?y198⟩) hHeld ?r198
                                  case h198 => simp only [zA, zB, zC] <;> exact rfl
                                  case q198 => exact fun _ _ _ h => h
                                  case w198 => rfl
                                  case y198 =>
                                    intro w hSw
                                    (try dsimp only at hSw)
                                    obtain ⟨s0, s1, s2⟩ := hSw
                                    go_simp
                                    try with_reducible rfl
                                  try simp only [zP, zN, zS, zT, zU]
                                  refine wpAnyH_take (i := 10) (oi := ?oi199) (v := ?vi199) ?h199 (by kernel_rfl) (by kernel_rfl) (by kernel_rfl) ?q199 (Or.inl ⟨?w199, ?y199⟩) hHeld ?r199
                                  case h199 => simp only [zA, zB, zC] <;> exact rfl
                                  case q199 => exact fun _ _ _ h => h
                                  case w199 => rfl
                                  case y199 =>
                                    intro w hSw
                                    (try dsimp only at hSw)
                                    obtain ⟨s0, s1, s2⟩ := hSw
                                    go_simp
                                    try with_reducible rfl
                                  try simp only [zP, zN, zS, zT, zU]
                                  refine wpAnyH_take (i := 11) (oi := ?oi200) (v := ?vi200) ?h200 (by kernel_rfl) (by kernel_rfl) (by kernel_rfl) ?q200 (Or.inl ⟨?w200, ?y200⟩) hHeld ?r200
                                  case h200 => simp only [zA, zB, zC] <;> exact rfl
                                  case q200 => exact fun _ _ _ h => h
                                  case w200 => rfl
                                  case y200 =>
                                    intro w hSw
                                    (try dsimp only at hSw)
                                    obtain ⟨s0, s1, s2⟩ := hSw
                                    go_simp
                                    try with_reducible rfl
                                  try simp only [zP, zN, zS, zT, zU]
                                  refine wpAnyH_take (i := 12) (oi := ?oi201) (v := ?vi201) ?h201 (by kernel_rfl) (by kernel_rfl) (by kernel_rfl) ?q201 (Or.inl ⟨?w201, ?y201⟩) hHeld ?r201
                                  case h201 => simp only [zA, zB, zC] <;> exact rfl
                                  case q201 => exact fun _ _ _ h => h
                                  case w201 => rfl
                                  case y201 =>
                                    intro w hSw
                                    (try dsimp only at hSw)
                                    obtain ⟨s0, s1, s2⟩ := hSw
                                    go_simp
                                    try with_reducible rfl
                                  try simp only [zP, zN, zS, zT, zU]
                                  refine wpAnyH_take (i := 13) (oi := ?oi202) (v := ?vi202) ?h202 (by kernel_rfl) (by kernel_rfl) (by kernel_rfl) ?q202 (Or.inl ⟨?w202, ?y202⟩) hHeld ?r202
                                  case h202 => simp only [zA, zB, zC] <;> exact rfl
                                  case q202 => exact fun _ _ _ h => h
                                  case w202 => rfl
                                  case y202 =>
                                    intro w hSw
                                    (try dsimp only at hSw)
                                    obtain ⟨s0, s1, s2⟩ := hSw
                                    go_simp
                                    try with_reducible rfl
                                  try simp only [zP, zN, zS, zT, zU]
                                  refine wpAnyH_take (i := 14) (oi := ?oi203) (v := ?vi203) ?h203 (by kernel_rfl) (by kernel_rfl) (by kernel_rfl) ?q203 (Or.inl ⟨?w203, ?y203⟩) hHeld ?r203
                                  case h203 => simp only [zA, zB, zC] <;> exact rfl
                                  case q203 => exact fun _ _ _ h => h
                                  case w203 => rfl
                                  case y203 =>
                                    intro w hSw
                                    (try dsimp only at hSw)
                                    obtain ⟨s0, s1, s2⟩ := hSw
                                    go_simp
                                    try with_reducible rfl
                                  try simp only [zP, zN, zS, zT, zU]
                                  refine wpAnyH_take (i := 15) (oi := ?oi204) (v := ?vi204) ?h204 (by kernel_rfl) (by kernel_rfl) (by kernel_rfl) ?q204 (Or.inl ⟨?w204, ?y204⟩) hHeld ?r204
                                  case h204 => simp only [zA, zB, zC] <;> exact rfl
                                  case q204 => exact fun _ _ _ h => h
                                  case w204 => rfl
                                  case y204 =>
                                    intro w hSw
                                    (try dsimp only at hSw)
                                    obtain ⟨s0, s1, s2⟩ := hSw
                                    go_simp
                                    try with_reducible rfl
                                  try simp only [zP, zN, zS, zT, zU]
                                  refine wpAnyH_take (i := 16) (oi := ?oi205) (v := ?vi205) ?h205 (by kernel_rfl) (by kernel_rfl) (by kernel_rfl) ?q205 (Or.inl ⟨?w205, ?y205⟩) hHeld ?r205
                                  case h205 => simp only [zA, zB, zC] <;> exact rfl
                                  case q205 => exact fun _ _ _ h => h
                                  case w205 => rfl
                                  case y205 =>
                                    intro w hSw
                                    (try dsimp only at hSw)
                                    obtain ⟨s0, s1, s2⟩ := hSw
                                    go_simp
                                    try with_reducible rfl
                                  try simp only [zP, zN, zS, zT, zU]
                                  refine wpAnyH_take (i := 17) (oi := ?oi206) (v := ?vi206) ?h206 (by kernel_rfl) (by kernel_rfl) (by kernel_rfl) ?q206 (Or.inl ⟨?w206, ?y206⟩) hHeld ?r206
                                  case h206 => simp only [zA, zB, zC] <;> exact rfl
                                  case q206 => exact fun _ _ _ h => h
                                  case w206 => rfl
                                  case y206 =>
                                    intro w hSw
                                    (try dsimp only at hSw)
                                    obtain ⟨s0, s1, s2⟩ := hSw
                                    go_simp
                                    try with_reducible rfl
                                  try simp only [zP, zN, zS, zT, zU]
                                  refine wpAnyH_take (i := 18) (oi := ?oi207) (v := ?vi207) ?h207 (by kernel_rfl) (by kernel_rfl) (by kernel_rfl) ?q207 (Or.inl ⟨?w207, ?y207⟩) hHeld ?r207
                                  case h207 => simp only [zA, zB, zC] <;> exact rfl
                                  case q207 => exact fun _ _ _ h => h
                                  case w207 => rfl
                                  case y207 =>
                                    intro w hSw
                                    (try dsimp only at hSw)
                                    obtain ⟨s0, s1, s2⟩ := hSw
                                    go_simp
                                    try with_reducible rfl
                                  try simp only [zP, zN, zS, zT, zU]
                                  refine wpAnyH_take (i := 19) (oi := ?oi208) (v := ?vi208) ?h208 (by kernel_rfl) (by kernel_rfl) (by kernel_rfl) ?q208 (Or.inl ⟨?w208, ?y208⟩) hHeld ?r208
                                  case h208 => simp only [zA, zB, zC] <;> exact rfl
                                  case q208 => exact fun _ _ _ h => h
                                  case w208 => rfl
                                  case y208 =>
                                    intro w hSw
                                    (try dsimp only at hSw)
                                    obtain ⟨s0, s1, s2⟩ := hSw
                                    go_simp
                                    try with_reducible rfl
                                  try simp only [zP, zN, zS, zT, zU]
                                  refine wpAnyH_take (i := 20) (oi := ?oi209) (v := ?vi209) ?h209 (by kernel_rfl) (by kernel_rfl) (by kernel_rfl) ?q209 (Or.inl ⟨?w209, ?y209⟩) hHeld ?r209
                                  case h209 => simp only [zA, zB, zC] <;> exact rfl
                                  case q209 => exact fun _ _ _ h => h
                                  case w209 => rfl
                                  case y209 =>
                                    intro w hSw
                                    (try dsimp only at hSw)
                                    obtain ⟨s0, s1, s2⟩ := hSw
                                    go_simp
                                    try with_reducible rfl
                                  try simp only [zP, zN, zS, zT, zU]
                                  refine wpAnyH_take (i := 21) (oi := ?oi210) (v := ?vi210) ?h210 (by kernel_rfl) (by kernel_rfl) (by kernel_rfl) ?q210 (Or.inl ⟨?w210, ?y210⟩) hHeld ?r210
                                  case h210 => simp only [zA, zB, zC] <;> exact rfl
                                  case q210 => exact fun _ _ _ h => h
                                  case w210 => rfl
                                  case y210 =>
                                    intro w hSw
                                    (try dsimp only at hSw)
                                    obtain ⟨s0, s1, s2⟩ := hSw
                                    go_simp
                                    try with_reducible rfl
                                  try simp only [zP, zN, zS, zT, zU]
                                  refine wpAnyH_done (by kernel_rfl) ?_ _
                                  go_wp2
                                  go_roundw
                                  case rel => exact ⟨k + 1, by have := HK.out.1; omega, by go_num, HNEXT.out _ HF3.out⟩
                                  case measure => have := HK.out.1; simp [RowKit.intOf]; omega
                                · have HNO := Lib.hid (HNL.out (by rw [HLT.out]; simp [hyo]))
                                  have qy : (y.own != 0) = true := by simpa using hyo
                                  have qy2 : (y.own = 0) = False := eq_false hyo
                                  clear hyo
                                  go_wp2_with fail
                                  refine (HPA.out _).mono ?_
                                  rintro e w2 ⟨rfl, hg2⟩
                                  have F2 := Lib.hid (HF.out.then (Gr.fp hg2))
                                  have B2 := Lib.hid ((NdAt.box wr x).keep (Gr.fp hg2) (fun h => h))
                                  clear hg2
                                  obtain ⟨b0, b1, b2, b3, b4⟩ := B2.out.five
                                  go_wp2_with fail
                                  refine (HFD.out w2 F2.out).mono ?_
                                  rintro e w3 ⟨rfl, hf3⟩
                                  have HF3 := Lib.hid (((F2.out.then hf3).alloc (.cells #[.string (B y.path), .string (B y.data), .int .i64 y.ver, .int .i64 y.turn, .int .i64 y.own] TN)).drew)
                                  have hs3 : (w3.alloc (.cells #[.string (B y.path), .string (B y.data), .int .i64 y.ver, .int .i64 y.turn, .int .i64 y.own] TN)).drew.cell? ⟨g, o + (k - 1) * 5, none⟩ = some (.string (B z)) ∧ (w3.alloc (.cells #[.string (B y.path), .string (B y.data), .int .i64 y.ver, .int .i64 y.turn, .int .i64 y.own] TN)).drew.cell? ⟨wr.heap.size, 0, none⟩ = some (.string (B x.path)) ∧ (w3.alloc (.cells #[.string (B y.path), .string (B y.data), .int .i64 y.ver, .int .i64 y.turn, .int .i64 y.own] TN)).drew.cell? ⟨w3.heap.size, 4, none⟩ = some (.int .i64 y.own) :=
                                    ⟨HF3.out.cell HPZ.out (fun h => h), ((hf3.alloc (.cells #[.string (B y.path), .string (B y.data), .int .i64 y.ver, .int .i64 y.turn, .int .i64 y.own] TN)).drew).cell B2.out.c0 (fun h => h), ((Fp.refl Non _).drew).cell (NdAt.box w3 y).c4 (fun h => h)⟩
                                  have HS3 := Lib.hid hs3
                                  clear hs3 hf3 b0 b1 b2 b3 b4
                                  go_wp2_with fail
                                  refine wp_region_held_drew (S := (fun w' => w'.cell? ⟨g, o + (k - 1) * 5, none⟩ = some (.string (B z)) ∧ w'.cell? ⟨wr.heap.size, 0, none⟩ = some (.string (B x.path)) ∧ w'.cell? ⟨w3.heap.size, 4, none⟩ = some (.int .i64 y.own))) (by kernel_rfl) ?_ (fun hHeld => ?_)
                                  · exact HS3.out
                                  refine wpAnyH_take (i := 0) (oi := ?oi167) (v := ?vi167) ?h167 (by kernel_rfl) (by kernel_rfl) (by kernel_rfl) ?q167 (Or.inl ⟨?w167, ?y167⟩) hHeld ?r167
                                  case h167 => simp only [zA, zB] <;> exact rfl
                                  case q167 => exact fun _ _ _ h => h
                                  case w167 => rfl
                                  case y167 =>
                                    intro w hSw
                                    (try dsimp only at hSw)
                                    obtain ⟨s0, s1, s2⟩ := hSw
                                    go_simp
                                    try with_reducible rfl
                                  try simp only [zP, zN, zS, zT, zU]
                                  refine wpAnyH_take (i := 1) (oi := ?oi168) (v := ?vi168) ?h168 (by kernel_rfl) (by kernel_rfl) (by kernel_rfl) ?q168 (Or.inl ⟨?w168, ?y168⟩) hHeld ?r168
                                  case h168 => simp only [zA, zB, zC] <;> exact rfl
                                  case q168 => exact fun _ _ _ h => h
                                  case w168 => rfl
                                  case y168 =>
                                    intro w hSw
                                    (try dsimp only at hSw)
                                    obtain ⟨s0, s1, s2⟩ := hSw
                                    go_simp
                                    try with_reducible rfl
                                  try simp only [zP, zN, zS, zT, zU]
                                  refine wpAnyH_take (i := 2) (oi := ?oi169) (v := ?vi169) ?h169 (by kernel_rfl) (by kernel_rfl) (by kernel_rfl) ?q169 (Or.inl ⟨?w169, ?y169⟩) hHeld ?r169
                                  case h169 => simp only [zA, zB, zC] <;> exact rfl
                                  case q169 => exact fun _ _ _ h => h
                                  case w169 => rfl
                                  case y169 =>
                                    intro w hSw
                                    (try dsimp only at hSw)
                                    obtain ⟨s0, s1, s2⟩ := hSw
                                    go_simp
                                    try with_reducible rfl
                                  try simp only [zP, zN, zS, zT, zU]
                                  refine wpAnyH_take (i := 3) (oi := ?oi170) (v := ?vi170) ?h170 (by kernel_rfl) (by kernel_rfl) (by kernel_rfl) ?q170 (Or.inl ⟨?w170, ?y170⟩) hHeld ?r170
                                  case h170 => simp only [zA, zB, zC] <;> exact rfl
                                  case q170 => exact fun _ _ _ h => h
                                  case w170 => rfl
                                  case y170 =>
                                    intro w hSw
                                    (try dsimp only at hSw)
                                    obtain ⟨s0, s1, s2⟩ := hSw
                                    go_simp
                                    try with_reducible rfl
                                  try simp only [zP, zN, zS, zT, zU]
                                  refine wpAnyH_take (i := 4) (oi := ?oi171) (v := ?vi171) ?h171 (by kernel_rfl) (by kernel_rfl) (by kernel_rfl) ?q171 (Or.inl ⟨?w171, ?y171⟩) hHeld ?r171
                                  case h171 => simp only [zA, zB, zC] <;> exact rfl
                                  case q171 => exact fun _ _ _ h => h
                                  case w171 => rfl
                                  case y171 =>
                                    intro w hSw
                                    (try dsimp only at hSw)
                                    obtain ⟨s0, s1, s2⟩ := hSw
                                    go_simp
                                    try with_reducible rfl
                                  try simp only [zP, zN, zS, zT, zU]
                                  refine wpAnyH_take (i := 5) (oi := ?oi172) (v := ?vi172) ?h172 (by kernel_rfl) (by kernel_rfl) (by kernel_rfl) ?q172 (Or.inl ⟨?w172, ?y172⟩) hHeld ?r172
                                  case h172 => simp only [zA, zB, zC] <;> exact rfl
                                  case q172 => exact fun _ _ _ h => h
                                  case w172 => rfl
                                  case y172 =>
                                    intro w hSw
                                    (try dsimp only at hSw)
                                    obtain ⟨s0, s1, s2⟩ := hSw
                                    go_simp
                                    try with_reducible rfl
                                  try simp only [zP, zN, zS, zT, zU]
                                  refine wpAnyH_take (i := 6) (oi := ?oi173) (v := ?vi173) ?h173 (by kernel_rfl) (by kernel_rfl) (by kernel_rfl) ?q173 (Or.inl ⟨?w173, ?y173⟩) hHeld ?r173
                                  case h173 => simp only [zA, zB, zC] <;> exact rfl
                                  case q173 => exact fun _ _ _ h => h
                                  case w173 => rfl
                                  case y173 =>
                                    intro w hSw
                                    (try dsimp only at hSw)
                                    obtain ⟨s0, s1, s2⟩ := hSw
                                    go_simp
                                    try with_reducible rfl
                                  try simp only [zP, zN, zS, zT, zU]
                                  refine wpAnyH_take (i := 7) (oi := ?oi174) (v := ?vi174) ?h174 (by kernel_rfl) (by kernel_rfl) (by kernel_rfl) ?q174 (Or.inl ⟨?w174, ?y174⟩) hHeld ?r174
                                  case h174 => simp only [zA, zB, zC] <;> exact rfl
                                  case q174 => exact fun _ _ _ h => h
                                  case w174 => rfl
                                  case y174 =>
                                    intro w hSw
                                    (try dsimp only at hSw)
                                    obtain ⟨s0, s1, s2⟩ := hSw
                                    go_simp
                                    try with_reducible rfl
                                  try simp only [zP, zN, zS, zT, zU]
                                  refine wpAnyH_take (i := 8) (oi := ?oi175) (v := ?vi175) ?h175 (by kernel_rfl) (by kernel_rfl) (by kernel_rfl) ?q175 (Or.inl ⟨?w175, ?y175⟩) hHeld ?r175
                                  case h175 => simp only [zA, zB, zC] <;> exact rfl
                                  case q175 => exact fun _ _ _ h => h
                                  case w175 => rfl
                                  case y175 =>
                                    intro w hSw
                                    (try dsimp only at hSw)
                                    obtain ⟨s0, s1, s2⟩ := hSw
                                    go_simp
                                    try with_reducible rfl
                                  try simp only [zP, zN, zS, zT, zU]
                                  refine wpAnyH_take (i := 9) (oi := ?oi176) (v := ?vi176) ?h176 (by kernel_rfl) (by kernel_rfl) (by kernel_rfl) ?q176 (Or.inl ⟨?w176, ?y176⟩) hHeld ?r176
                                  case h176 => simp only [zA, zB, zC] <;> exact rfl
                                  case q176 => exact fun _ _ _ h => h
                                  case w176 => rfl
                                  case y176 =>
                                    intro w hSw
                                    (try dsimp only at hSw)
                                    obtain ⟨s0, s1, s2⟩ := hSw
                                    go_simp
                                    try with_reducible rfl
                                  try simp only [zP, zN, zS, zT, zU]
                                  refine wpAnyH_take (i := 10) (oi := ?oi177) (v := ?vi177) ?h177 (by kernel_rfl) (by kernel_rfl) (by kernel_rfl) ?q177 (Or.inl ⟨?w177, ?y177⟩) hHeld ?r177
                                  case h177 => simp only [zA, zB, zC] <;> exact rfl
                                  case q177 => exact fun _ _ _ h => h
                                  case w177 => rfl
                                  case y177 =>
                                    intro w hSw
                                    (try dsimp only at hSw)
                                    obtain ⟨s0, s1, s2⟩ := hSw
                                    go_simp
                                    try with_reducible rfl
                                  try simp only [zP, zN, zS, zT, zU]
                                  refine wpAnyH_take (i := 11) (oi := ?oi178) (v := ?vi178) ?h178 (by kernel_rfl) (by kernel_rfl) (by kernel_rfl) ?q178 (Or.inl ⟨?w178, ?y178⟩) hHeld ?r178
                                  case h178 => simp only [zA, zB, zC] <;> exact rfl
                                  case q178 => exact fun _ _ _ h => h
                                  case w178 => rfl
                                  case y178 =>
                                    intro w hSw
                                    (try dsimp only at hSw)
                                    obtain ⟨s0, s1, s2⟩ := hSw
                                    go_simp
                                    try with_reducible rfl
                                  try simp only [zP, zN, zS, zT, zU]
                                  refine wpAnyH_take (i := 12) (oi := ?oi179) (v := ?vi179) ?h179 (by kernel_rfl) (by kernel_rfl) (by kernel_rfl) ?q179 (Or.inl ⟨?w179, ?y179⟩) hHeld ?r179
                                  case h179 => simp only [zA, zB, zC] <;> exact rfl
                                  case q179 => exact fun _ _ _ h => h
                                  case w179 => rfl
                                  case y179 =>
                                    intro w hSw
                                    (try dsimp only at hSw)
                                    obtain ⟨s0, s1, s2⟩ := hSw
                                    go_simp
                                    try with_reducible rfl
                                  try simp only [zP, zN, zS, zT, zU]
                                  refine wpAnyH_take (i := 13) (oi := ?oi180) (v := ?vi180) ?h180 (by kernel_rfl) (by kernel_rfl) (by kernel_rfl) ?q180 (Or.inl ⟨?w180, ?y180⟩) hHeld ?r180
                                  case h180 => simp only [zA, zB, zC] <;> exact rfl
                                  case q180 => exact fun _ _ _ h => h
                                  case w180 => rfl
                                  case y180 =>
                                    intro w hSw
                                    (try dsimp only at hSw)
                                    obtain ⟨s0, s1, s2⟩ := hSw
                                    go_simp
                                    try with_reducible rfl
                                  try simp only [zP, zN, zS, zT, zU]
                                  refine wpAnyH_take (i := 14) (oi := ?oi181) (v := ?vi181) ?h181 (by kernel_rfl) (by kernel_rfl) (by kernel_rfl) ?q181 (Or.inl ⟨?w181, ?y181⟩) hHeld ?r181
                                  case h181 => simp only [zA, zB, zC] <;> exact rfl
                                  case q181 => exact fun _ _ _ h => h
                                  case w181 => rfl
                                  case y181 =>
                                    intro w hSw
                                    (try dsimp only at hSw)
                                    obtain ⟨s0, s1, s2⟩ := hSw
                                    go_simp
                                    try with_reducible rfl
                                  try simp only [zP, zN, zS, zT, zU]
                                  refine wpAnyH_take (i := 15) (oi := ?oi182) (v := ?vi182) ?h182 (by kernel_rfl) (by kernel_rfl) (by kernel_rfl) ?q182 (Or.inl ⟨?w182, ?y182⟩) hHeld ?r182
                                  case h182 => simp only [zA, zB, zC] <;> exact rfl
                                  case q182 => exact fun _ _ _ h => h
                                  case w182 => rfl
                                  case y182 =>
                                    intro w hSw
                                    (try dsimp only at hSw)
                                    obtain ⟨s0, s1, s2⟩ := hSw
                                    go_simp
                                    try with_reducible rfl
                                  try simp only [zP, zN, zS, zT, zU]
                                  refine wpAnyH_take (i := 16) (oi := ?oi183) (v := ?vi183) ?h183 (by kernel_rfl) (by kernel_rfl) (by kernel_rfl) ?q183 (Or.inl ⟨?w183, ?y183⟩) hHeld ?r183
                                  case h183 => simp only [zA, zB, zC] <;> exact rfl
                                  case q183 => exact fun _ _ _ h => h
                                  case w183 => rfl
                                  case y183 =>
                                    intro w hSw
                                    (try dsimp only at hSw)
                                    obtain ⟨s0, s1, s2⟩ := hSw
                                    go_simp
                                    try with_reducible rfl
                                  try simp only [zP, zN, zS, zT, zU]
                                  refine wpAnyH_take (i := 17) (oi := ?oi184) (v := ?vi184) ?h184 (by kernel_rfl) (by kernel_rfl) (by kernel_rfl) ?q184 (Or.inl ⟨?w184, ?y184⟩) hHeld ?r184
                                  case h184 => simp only [zA, zB, zC] <;> exact rfl
                                  case q184 => exact fun _ _ _ h => h
                                  case w184 => rfl
                                  case y184 =>
                                    intro w hSw
                                    (try dsimp only at hSw)
                                    obtain ⟨s0, s1, s2⟩ := hSw
                                    go_simp
                                    try with_reducible rfl
                                  try simp only [zP, zN, zS, zT, zU]
                                  refine wpAnyH_take (i := 18) (oi := ?oi185) (v := ?vi185) ?h185 (by kernel_rfl) (by kernel_rfl) (by kernel_rfl) ?q185 (Or.inl ⟨?w185, ?y185⟩) hHeld ?r185
                                  case h185 => simp only [zA, zB, zC] <;> exact rfl
                                  case q185 => exact fun _ _ _ h => h
                                  case w185 => rfl
                                  case y185 =>
                                    intro w hSw
                                    (try dsimp only at hSw)
                                    obtain ⟨s0, s1, s2⟩ := hSw
                                    go_simp
                                    try with_reducible rfl
                                  try simp only [zP, zN, zS, zT, zU]
                                  refine wpAnyH_take (i := 19) (oi := ?oi186) (v := ?vi186) ?h186 (by kernel_rfl) (by kernel_rfl) (by kernel_rfl) ?q186 (Or.inl ⟨?w186, ?y186⟩) hHeld ?r186
                                  case h186 => simp only [zA, zB, zC] <;> exact rfl
                                  case q186 => exact fun _ _ _ h => h
                                  case w186 => rfl
                                  case y186 =>
                                    intro w hSw
                                    (try dsimp only at hSw)
                                    obtain ⟨s0, s1, s2⟩ := hSw
                                    go_simp
                                    try with_reducible rfl
                                  try simp only [zP, zN, zS, zT, zU]
                                  refine wpAnyH_take (i := 20) (oi := ?oi187) (v := ?vi187) ?h187 (by kernel_rfl) (by kernel_rfl) (by kernel_rfl) ?q187 (Or.inl ⟨?w187, ?y187⟩) hHeld ?r187
                                  case h187 => simp only [zA, zB, zC] <;> exact rfl
                                  case q187 => exact fun _ _ _ h => h
                                  case w187 => rfl
                                  case y187 =>
                                    intro w hSw
                                    (try dsimp only at hSw)
                                    obtain ⟨s0, s1, s2⟩ := hSw
                                    go_simp
                                    try with_reducible rfl
                                  try simp only [zP, zN, zS, zT, zU]
                                  refine wpAnyH_take (i := 21) (oi := ?oi188) (v := ?vi188) ?h188 (by kernel_rfl) (by kernel_rfl) (by kernel_rfl) ?q188 (Or.inl ⟨?w188, ?y188⟩) hHeld ?r188
                                  case h188 => simp only [zA, zB, zC] <;> exact rfl
                                  case q188 => exact fun _ _ _ h => h
                                  case w188 => rfl
                                  case y188 =>
                                    intro w hSw
                                    (try dsimp only at hSw)
                                    obtain ⟨s0, s1, s2⟩ := hSw
                                    go_simp
                                    try with_reducible rfl
                                  try simp only [zP, zN, zS, zT, zU]
                                  refine wpAnyH_done (by kernel_rfl) ?_ _
                                  go_wp2
                                  go_ret
                                  exact ⟨by rw [right_false HNO.out]; rfl, HF3.out⟩
                        · have qa7 : (x.own != 0) = true := by simpa using h
                          have qb7 : (x.own = 0) = False := eq_false h
                          have qc7 : (x.turn != 0) = false := by simp [h']
                          have qd7 : (x.turn = 0) = True := eq_true h'
                          clear h h'
                          by_cases hge : (Op.bytesLess x.path z || x.path == z) = true
                          · have HNO := Lib.hid (HNU.out hge)
                            have hge2 := not_up hge
                            clear hge
                            go_wp2_with fail
                            refine (HPA.out _).mono ?_
                            rintro e w2 ⟨rfl, hg2⟩
                            have F2 := Lib.hid (HF.out.then (Gr.fp hg2))
                            have B2 := Lib.hid ((NdAt.box wr x).keep (Gr.fp hg2) (fun h => h))
                            clear hg2
                            obtain ⟨b0, b1, b2, b3, b4⟩ := B2.out.five
                            go_wp2_with fail
                            refine (HFD.out w2 F2.out).mono ?_
                            rintro e w3 ⟨rfl, hf3⟩
                            have HF3 := Lib.hid (((F2.out.then hf3).alloc (.cells #[.string (B y.path), .string (B y.data), .int .i64 y.ver, .int .i64 y.turn, .int .i64 y.own] TN)).drew)
                            have hs3 : (w3.alloc (.cells #[.string (B y.path), .string (B y.data), .int .i64 y.ver, .int .i64 y.turn, .int .i64 y.own] TN)).drew.cell? ⟨g, o + (k - 1) * 5, none⟩ = some (.string (B z)) ∧ (w3.alloc (.cells #[.string (B y.path), .string (B y.data), .int .i64 y.ver, .int .i64 y.turn, .int .i64 y.own] TN)).drew.cell? ⟨wr.heap.size, 0, none⟩ = some (.string (B x.path)) ∧ (w3.alloc (.cells #[.string (B y.path), .string (B y.data), .int .i64 y.ver, .int .i64 y.turn, .int .i64 y.own] TN)).drew.cell? ⟨w3.heap.size, 4, none⟩ = some (.int .i64 y.own) :=
                              ⟨HF3.out.cell HPZ.out (fun h => h), ((hf3.alloc (.cells #[.string (B y.path), .string (B y.data), .int .i64 y.ver, .int .i64 y.turn, .int .i64 y.own] TN)).drew).cell B2.out.c0 (fun h => h), ((Fp.refl Non _).drew).cell (NdAt.box w3 y).c4 (fun h => h)⟩
                            have HS3 := Lib.hid hs3
                            clear hs3 hf3 b0 b1 b2 b3 b4
                            go_wp2_with fail
                            refine wp_region_held_drew (S := (fun w' => w'.cell? ⟨g, o + (k - 1) * 5, none⟩ = some (.string (B z)) ∧ w'.cell? ⟨wr.heap.size, 0, none⟩ = some (.string (B x.path)) ∧ w'.cell? ⟨w3.heap.size, 4, none⟩ = some (.int .i64 y.own))) (by kernel_rfl) ?_ (fun hHeld => ?_)
                            · exact HS3.out
                            refine wpAnyH_take (i := 0) (oi := ?oi211) (v := ?vi211) ?h211 (by kernel_rfl) (by kernel_rfl) (by kernel_rfl) ?q211 (Or.inl ⟨?w211, ?y211⟩) hHeld ?r211
                            case h211 => simp only [zA, zB] <;> exact rfl
                            case q211 => exact fun _ _ _ h => h
                            case w211 => rfl
                            case y211 =>
                              intro w hSw
                              (try dsimp only at hSw)
                              obtain ⟨s0, s1, s2⟩ := hSw
                              go_simp
                              try with_reducible rfl
                            try simp only [zP, zN, zS, zT, zU]
                            refine wpAnyH_take (i := 1) (oi := ?oi212) (v := ?vi212) ?h212 (by kernel_rfl) (by kernel_rfl) (by kernel_rfl) ?q212 (Or.inl ⟨?w212, ?y212⟩) hHeld ?r212
                            case h212 => simp only [zA, zB, zC] <;> exact rfl
                            case q212 => exact fun _ _ _ h => h
                            case w212 => rfl
                            case y212 =>
                              intro w hSw
                              (try dsimp only at hSw)
                              obtain ⟨s0, s1, s2⟩ := hSw
                              go_simp
                              try with_reducible rfl
                            try simp only [zP, zN, zS, zT, zU]
                            refine wpAnyH_take (i := 2) (oi := ?oi213) (v := ?vi213) ?h213 (by kernel_rfl) (by kernel_rfl) (by kernel_rfl) ?q213 (Or.inl ⟨?w213, ?y213⟩) hHeld ?r213
                            case h213 => simp only [zA, zB, zC] <;> exact rfl
                            case q213 => exact fun _ _ _ h => h
                            case w213 => rfl
                            case y213 =>
                              intro w hSw
                              (try dsimp only at hSw)
                              obtain ⟨s0, s1, s2⟩ := hSw
                              go_simp
                              try with_reducible rfl
                            try simp only [zP, zN, zS, zT, zU]
                            refine wpAnyH_take (i := 3) (oi := ?oi214) (v := ?vi214) ?h214 (by kernel_rfl) (by kernel_rfl) (by kernel_rfl) ?q214 (Or.inl ⟨?w214, ?y214⟩) hHeld ?r214
                            case h214 => simp only [zA, zB, zC] <;> exact rfl
                            case q214 => exact fun _ _ _ h => h
                            case w214 => rfl
                            case y214 =>
                              intro w hSw
                              (try dsimp only at hSw)
                              obtain ⟨s0, s1, s2⟩ := hSw
                              go_simp
                              try with_reducible rfl
                            try simp only [zP, zN, zS, zT, zU]
                            refine wpAnyH_take (i := 4) (oi := ?oi215) (v := ?vi215) ?h215 (by kernel_rfl) (by kernel_rfl) (by kernel_rfl) ?q215 (Or.inl ⟨?w215, ?y215⟩) hHeld ?r215
                            case h215 => simp only [zA, zB, zC] <;> exact rfl
                            case q215 => exact fun _ _ _ h => h
                            case w215 => rfl
                            case y215 =>
                              intro w hSw
                              (try dsimp only at hSw)
                              obtain ⟨s0, s1, s2⟩ := hSw
                              go_simp
                              try with_reducible rfl
                            try simp only [zP, zN, zS, zT, zU]
                            refine wpAnyH_take (i := 5) (oi := ?oi216) (v := ?vi216) ?h216 (by kernel_rfl) (by kernel_rfl) (by kernel_rfl) ?q216 (Or.inl ⟨?w216, ?y216⟩) hHeld ?r216
                            case h216 => simp only [zA, zB, zC] <;> exact rfl
                            case q216 => exact fun _ _ _ h => h
                            case w216 => rfl
                            case y216 =>
                              intro w hSw
                              (try dsimp only at hSw)
                              obtain ⟨s0, s1, s2⟩ := hSw
                              go_simp
                              try with_reducible rfl
                            try simp only [zP, zN, zS, zT, zU]
                            refine wpAnyH_take (i := 6) (oi := ?oi217) (v := ?vi217) ?h217 (by kernel_rfl) (by kernel_rfl) (by kernel_rfl) ?q217 (Or.inl ⟨?w217, ?y217⟩) hHeld ?r217
                            case h217 => simp only [zA, zB, zC] <;> exact rfl
                            case q217 => exact fun _ _ _ h => h
                            case w217 => rfl
                            case y217 =>
                              intro w hSw
                              (try dsimp only at hSw)
                              obtain ⟨s0, s1, s2⟩ := hSw
                              go_simp
                              try with_reducible rfl
                            try simp only [zP, zN, zS, zT, zU]
                            refine wpAnyH_take (i := 7) (oi := ?oi218) (v := ?vi218) ?h218 (by kernel_rfl) (by kernel_rfl) (by kernel_rfl) ?q218 (Or.inl ⟨?w218, ?y218⟩) hHeld ?r218
                            case h218 => simp only [zA, zB, zC] <;> exact rfl
                            case q218 => exact fun _ _ _ h => h
                            case w218 => rfl
                            case y218 =>
                              intro w hSw
                              (try dsimp only at hSw)
                              obtain ⟨s0, s1, s2⟩ := hSw
                              go_simp
                              try with_reducible rfl
                            try simp only [zP, zN, zS, zT, zU]
                            refine wpAnyH_take (i := 8) (oi := ?oi219) (v := ?vi219) ?h219 (by kernel_rfl) (by kernel_rfl) (by kernel_rfl) ?q219 (Or.inl ⟨?w219, ?y219⟩) hHeld ?r219
                            case h219 => simp only [zA, zB, zC] <;> exact rfl
                            case q219 => exact fun _ _ _ h => h
                            case w219 => rfl
                            case y219 =>
                              intro w hSw
                              (try dsimp only at hSw)
                              obtain ⟨s0, s1, s2⟩ := hSw
                              go_simp
                              try with_reducible rfl
                            try simp only [zP, zN, zS, zT, zU]
                            refine wpAnyH_take (i := 9) (oi := ?oi220) (v := ?vi220) ?h220 (by kernel_rfl) (by kernel_rfl) (by kernel_rfl) ?q220 (Or.inl ⟨?w220, ?y220⟩) hHeld ?r220
                            case h220 => simp only [zA, zB, zC] <;> exact rfl
                            case q220 => exact fun _ _ _ h => h
                            case w220 => rfl
                            case y220 =>
                              intro w hSw
                              (try dsimp only at hSw)
                              obtain ⟨s0, s1, s2⟩ := hSw
                              go_simp
                              try with_reducible rfl
                            try simp only [zP, zN, zS, zT, zU]
                            refine wpAnyH_take (i := 10) (oi := ?oi221) (v := undef) ?h221 (by kernel_rfl) (by kernel_rfl) (by kernel_rfl) ?q221 (Or.inr ⟨?w221, rfl⟩) hHeld ?r221
                            case h221 => simp only [zA, zB, zC] <;> exact rfl
                            case q221 => exact fun _ _ _ h => h
                            case w221 => rfl
                            try simp only [zP, zN, zS, zT, zU]
                            refine wpAnyH_take (i := 11) (oi := ?oi222) (v := undef) ?h222 (by kernel_rfl) (by kernel_rfl) (by kernel_rfl) ?q222 (Or.inr ⟨?w222, rfl⟩) hHeld ?r222
                            case h222 => simp only [zA, zB, zC] <;> exact rfl
                            case q222 => exact fun _ _ _ h => h
                            case w222 => rfl
                            try simp only [zP, zN, zS, zT, zU]
                            refine wpAnyH_take (i := 12) (oi := ?oi223) (v := ?vi223) ?h223 (by kernel_rfl) (by kernel_rfl) (by kernel_rfl) ?q223 (Or.inl ⟨?w223, ?y223⟩) hHeld ?r223
                            case h223 => simp only [zA, zB, zC] <;> exact rfl
                            case q223 => exact fun _ _ _ h => h
                            case w223 => rfl
                            case y223 =>
                              intro w hSw
                              (try dsimp only at hSw)
                              obtain ⟨s0, s1, s2⟩ := hSw
                              go_simp
                              try with_reducible rfl
                            try simp only [zP, zN, zS, zT, zU]
                            refine wpAnyH_take (i := 13) (oi := ?oi224) (v := ?vi224) ?h224 (by kernel_rfl) (by kernel_rfl) (by kernel_rfl) ?q224 (Or.inl ⟨?w224, ?y224⟩) hHeld ?r224
                            case h224 => simp only [zA, zB, zC] <;> exact rfl
                            case q224 => exact fun _ _ _ h => h
                            case w224 => rfl
                            case y224 =>
                              intro w hSw
                              (try dsimp only at hSw)
                              obtain ⟨s0, s1, s2⟩ := hSw
                              go_simp
                              try with_reducible rfl
                            try simp only [zP, zN, zS, zT, zU]
                            refine wpAnyH_take (i := 14) (oi := ?oi225) (v := undef) ?h225 (by kernel_rfl) (by kernel_rfl) (by kernel_rfl) ?q225 (Or.inr ⟨?w225, rfl⟩) hHeld ?r225
                            case h225 => simp only [zA, zB, zC] <;> exact rfl
                            case q225 => exact fun _ _ _ h => h
                            case w225 => rfl
                            try simp only [zP, zN, zS, zT, zU]
                            refine wpAnyH_take (i := 15) (oi := ?oi226) (v := undef) ?h226 (by kernel_rfl) (by kernel_rfl) (by kernel_rfl) ?q226 (Or.inr ⟨?w226, rfl⟩) hHeld ?r226
                            case h226 => simp only [zA, zB, zC] <;> exact rfl
                            case q226 => exact fun _ _ _ h => h
                            case w226 => rfl
                            try simp only [zP, zN, zS, zT, zU]
                            refine wpAnyH_take (i := 16) (oi := ?oi227) (v := ?vi227) ?h227 (by kernel_rfl) (by kernel_rfl) (by kernel_rfl) ?q227 (Or.inl ⟨?w227, ?y227⟩) hHeld ?r227
                            case h227 => simp only [zA, zB, zC] <;> exact rfl
                            case q227 => exact fun _ _ _ h => h
                            case w227 => rfl
                            case y227 =>
                              intro w hSw
                              (try dsimp only at hSw)
                              obtain ⟨s0, s1, s2⟩ := hSw
                              go_simp
                              try with_reducible rfl
                            try simp only [zP, zN, zS, zT, zU]
                            refine wpAnyH_take (i := 17) (oi := ?oi228) (v := ?vi228) ?h228 (by kernel_rfl) (by kernel_rfl) (by kernel_rfl) ?q228 (Or.inl ⟨?w228, ?y228⟩) hHeld ?r228
                            case h228 => simp only [zA, zB, zC] <;> exact rfl
                            case q228 => exact fun _ _ _ h => h
                            case w228 => rfl
                            case y228 =>
                              intro w hSw
                              (try dsimp only at hSw)
                              obtain ⟨s0, s1, s2⟩ := hSw
                              go_simp
                              try with_reducible rfl
                            try simp only [zP, zN, zS, zT, zU]
                            refine wpAnyH_take (i := 18) (oi := ?oi229) (v := undef) ?h229 (by kernel_rfl) (by kernel_rfl) (by kernel_rfl) ?q229 (Or.inr ⟨?w229, rfl⟩) hHeld ?r229
                            case h229 => simp only [zA, zB, zC] <;> exact rfl
                            case q229 => exact fun _ _ _ h => h
                            case w229 => rfl
                            try simp only [zP, zN, zS, zT, zU]
                            refine wpAnyH_take (i := 19) (oi := ?oi230) (v := undef) ?h230 (by kernel_rfl) (by kernel_rfl) (by kernel_rfl) ?q230 (Or.inr ⟨?w230, rfl⟩) hHeld ?r230
                            case h230 => simp only [zA, zB, zC] <;> exact rfl
                            case q230 => exact fun _ _ _ h => h
                            case w230 => rfl
                            try simp only [zP, zN, zS, zT, zU]
                            refine wpAnyH_take (i := 20) (oi := ?oi231) (v := undef) ?h231 (by kernel_rfl) (by kernel_rfl) (by kernel_rfl) ?q231 (Or.inr ⟨?w231, rfl⟩) hHeld ?r231
                            case h231 => simp only [zA, zB, zC] <;> exact rfl
                            case q231 => exact fun _ _ _ h => h
                            case w231 => rfl
                            try simp only [zP, zN, zS, zT, zU]
                            refine wpAnyH_take (i := 21) (oi := ?oi232) (v := ?vi232) ?h232 (by kernel_rfl) (by kernel_rfl) (by kernel_rfl) ?q232 (Or.inl ⟨?w232, ?y232⟩) hHeld ?r232
                            case h232 => simp only [zA, zB, zC] <;> exact rfl
                            case q232 => exact fun _ _ _ h => h
                            case w232 => rfl
                            case y232 =>
                              intro w hSw
                              (try dsimp only at hSw)
                              obtain ⟨s0, s1, s2⟩ := hSw
                              go_simp
                              try with_reducible rfl
                            try simp only [zP, zN, zS, zT, zU]
                            refine wpAnyH_done (by kernel_rfl) ?_ _
                            go_wp2
                            go_ret
                            exact ⟨by rw [right_false HNO.out]; rfl, HF3.out⟩
                          · have hge1 : (Op.bytesLess x.path z || x.path == z) = false := by simpa using hge
                            have hge2 := is_up hge1
                            have HGE := Lib.hid hge2
                            clear hge
                            cases is with
                            | false =>
                              have HNO := Lib.hid (HNL.out (by rw [HLT.out]; rfl))
                              go_wp2_with fail
                              refine (HPA.out _).mono ?_
                              rintro e w2 ⟨rfl, hg2⟩
                              have F2 := Lib.hid (HF.out.then (Gr.fp hg2))
                              have B2 := Lib.hid ((NdAt.box wr x).keep (Gr.fp hg2) (fun h => h))
                              clear hg2
                              obtain ⟨b0, b1, b2, b3, b4⟩ := B2.out.five
                              go_wp2_with fail
                              refine (HFD.out w2 F2.out).mono ?_
                              rintro e w3 ⟨rfl, hf3⟩
                              have HF3 := Lib.hid (((F2.out.then hf3).alloc (.cells #[.string (B y.path), .string (B y.data), .int .i64 y.ver, .int .i64 y.turn, .int .i64 y.own] TN)).drew)
                              have hs3 : (w3.alloc (.cells #[.string (B y.path), .string (B y.data), .int .i64 y.ver, .int .i64 y.turn, .int .i64 y.own] TN)).drew.cell? ⟨g, o + (k - 1) * 5, none⟩ = some (.string (B z)) ∧ (w3.alloc (.cells #[.string (B y.path), .string (B y.data), .int .i64 y.ver, .int .i64 y.turn, .int .i64 y.own] TN)).drew.cell? ⟨wr.heap.size, 0, none⟩ = some (.string (B x.path)) ∧ (w3.alloc (.cells #[.string (B y.path), .string (B y.data), .int .i64 y.ver, .int .i64 y.turn, .int .i64 y.own] TN)).drew.cell? ⟨w3.heap.size, 4, none⟩ = some (.int .i64 y.own) :=
                                ⟨HF3.out.cell HPZ.out (fun h => h), ((hf3.alloc (.cells #[.string (B y.path), .string (B y.data), .int .i64 y.ver, .int .i64 y.turn, .int .i64 y.own] TN)).drew).cell B2.out.c0 (fun h => h), ((Fp.refl Non _).drew).cell (NdAt.box w3 y).c4 (fun h => h)⟩
                              have HS3 := Lib.hid hs3
                              clear hs3 hf3 b0 b1 b2 b3 b4
                              go_wp2_with fail
                              refine wp_region_held_drew (S := (fun w' => w'.cell? ⟨g, o + (k - 1) * 5, none⟩ = some (.string (B z)) ∧ w'.cell? ⟨wr.heap.size, 0, none⟩ = some (.string (B x.path)) ∧ w'.cell? ⟨w3.heap.size, 4, none⟩ = some (.int .i64 y.own))) (by kernel_rfl) ?_ (fun hHeld => ?_)
                              · exact HS3.out
                              refine wpAnyH_take (i := 0) (oi := ?oi233) (v := ?vi233) ?h233 (by kernel_rfl) (by kernel_rfl) (by kernel_rfl) ?q233 (Or.inl ⟨?w233, ?y233⟩) hHeld ?r233
                              case h233 => simp only [zA, zB] <;> exact rfl
                              case q233 => exact fun _ _ _ h => h
                              case w233 => rfl
                              case y233 =>
                                intro w hSw
                                (try dsimp only at hSw)
                                obtain ⟨s0, s1, s2⟩ := hSw
                                go_simp
                                try with_reducible rfl
                              try simp only [zP, zN, zS, zT, zU]
                              refine wpAnyH_take (i := 1) (oi := ?oi234) (v := ?vi234) ?h234 (by kernel_rfl) (by kernel_rfl) (by kernel_rfl) ?q234 (Or.inl ⟨?w234, ?y234⟩) hHeld ?r234
                              case h234 => simp only [zA, zB, zC] <;> exact rfl
                              case q234 => exact fun _ _ _ h => h
                              case w234 => rfl
                              case y234 =>
                                intro w hSw
                                (try dsimp only at hSw)
                                obtain ⟨s0, s1, s2⟩ := hSw
                                go_simp
                                try with_reducible rfl
                              try simp only [zP, zN, zS, zT, zU]
                              refine wpAnyH_take (i := 2) (oi := ?oi235) (v := ?vi235) ?h235 (by kernel_rfl) (by kernel_rfl) (by kernel_rfl) ?q235 (Or.inl ⟨?w235, ?y235⟩) hHeld ?r235
                              case h235 => simp only [zA, zB, zC] <;> exact rfl
                              case q235 => exact fun _ _ _ h => h
                              case w235 => rfl
                              case y235 =>
                                intro w hSw
                                (try dsimp only at hSw)
                                obtain ⟨s0, s1, s2⟩ := hSw
                                go_simp
                                try with_reducible rfl
                              try simp only [zP, zN, zS, zT, zU]
                              refine wpAnyH_take (i := 3) (oi := ?oi236) (v := ?vi236) ?h236 (by kernel_rfl) (by kernel_rfl) (by kernel_rfl) ?q236 (Or.inl ⟨?w236, ?y236⟩) hHeld ?r236
                              case h236 => simp only [zA, zB, zC] <;> exact rfl
                              case q236 => exact fun _ _ _ h => h
                              case w236 => rfl
                              case y236 =>
                                intro w hSw
                                (try dsimp only at hSw)
                                obtain ⟨s0, s1, s2⟩ := hSw
                                go_simp
                                try with_reducible rfl
                              try simp only [zP, zN, zS, zT, zU]
                              refine wpAnyH_take (i := 4) (oi := ?oi237) (v := ?vi237) ?h237 (by kernel_rfl) (by kernel_rfl) (by kernel_rfl) ?q237 (Or.inl ⟨?w237, ?y237⟩) hHeld ?r237
                              case h237 => simp only [zA, zB, zC] <;> exact rfl
                              case q237 => exact fun _ _ _ h => h
                              case w237 => rfl
                              case y237 =>
                                intro w hSw
                                (try dsimp only at hSw)
                                obtain ⟨s0, s1, s2⟩ := hSw
                                go_simp
                                try with_reducible rfl
                              try simp only [zP, zN, zS, zT, zU]
                              refine wpAnyH_take (i := 5) (oi := ?oi238) (v := ?vi238) ?h238 (by kernel_rfl) (by kernel_rfl) (by kernel_rfl) ?q238 (Or.inl ⟨?w238, ?y238⟩) hHeld ?r238
                              case h238 => simp only [zA, zB, zC] <;> exact rfl
                              case q238 => exact fun _ _ _ h => h
                              case w238 => rfl
                              case y238 =>
                                intro w hSw
                                (try dsimp only at hSw)
                                obtain ⟨s0, s1, s2⟩ := hSw
                                go_simp
                                try with_reducible rfl
                              try simp only [zP, zN, zS, zT, zU]
                              refine wpAnyH_take (i := 6) (oi := ?oi239) (v := ?vi239) ?h239 (by kernel_rfl) (by kernel_rfl) (by kernel_rfl) ?q239 (Or.inl ⟨?w239, ?y239⟩) hHeld ?r239
                              case h239 => simp only [zA, zB, zC] <;> exact rfl
                              case q239 => exact fun _ _ _ h => h
                              case w239 => rfl
                              case y239 =>
                                intro w hSw
                                (try dsimp only at hSw)
                                obtain ⟨s0, s1, s2⟩ := hSw
                                go_simp
                                try with_reducible rfl
                              try simp only [zP, zN, zS, zT, zU]
                              refine wpAnyH_take (i := 7) (oi := ?oi240) (v := ?vi240) ?h240 (by kernel_rfl) (by kernel_rfl) (by kernel_rfl) ?q240 (Or.inl ⟨?w240, ?y240⟩) hHeld ?r240
                              case h240 => simp only [zA, zB, zC] <;> exact rfl
                              case q240 => exact fun _ _ _ h => h
                              case w240 => rfl
                              case y240 =>
                                intro w hSw
                                (try dsimp only at hSw)
                                obtain ⟨s0, s1, s2⟩ := hSw
                                go_simp
                                try with_reducible rfl
                              try simp only [zP, zN, zS, zT, zU]
                              refine wpAnyH_take (i := 8) (oi := ?oi241) (v := ?vi241) ?h241 (by kernel_rfl) (by kernel_rfl) (by kernel_rfl) ?q241 (Or.inl ⟨?w241, ?y241⟩) hHeld ?r241
                              case h241 => simp only [zA, zB, zC] <;> exact rfl
                              case q241 => exact fun _ _ _ h => h
                              case w241 => rfl
                              case y241 =>
                                intro w hSw
                                (try dsimp only at hSw)
                                obtain ⟨s0, s1, s2⟩ := hSw
                                go_simp
                                try with_reducible rfl
                              try simp only [zP, zN, zS, zT, zU]
                              refine wpAnyH_take (i := 9) (oi := ?oi242) (v := ?vi242) ?h242 (by kernel_rfl) (by kernel_rfl) (by kernel_rfl) ?q242 (Or.inl ⟨?w242, ?y242⟩) hHeld ?r242
                              case h242 => simp only [zA, zB, zC] <;> exact rfl
                              case q242 => exact fun _ _ _ h => h
                              case w242 => rfl
                              case y242 =>
                                intro w hSw
                                (try dsimp only at hSw)
                                obtain ⟨s0, s1, s2⟩ := hSw
                                go_simp
                                try with_reducible rfl
                              try simp only [zP, zN, zS, zT, zU]
                              refine wpAnyH_take (i := 10) (oi := ?oi243) (v := ?vi243) ?h243 (by kernel_rfl) (by kernel_rfl) (by kernel_rfl) ?q243 (Or.inl ⟨?w243, ?y243⟩) hHeld ?r243
                              case h243 => simp only [zA, zB, zC] <;> exact rfl
                              case q243 => exact fun _ _ _ h => h
                              case w243 => rfl
                              case y243 =>
                                intro w hSw
                                (try dsimp only at hSw)
                                obtain ⟨s0, s1, s2⟩ := hSw
                                go_simp
                                try with_reducible rfl
                              try simp only [zP, zN, zS, zT, zU]
                              refine wpAnyH_take (i := 11) (oi := ?oi244) (v := ?vi244) ?h244 (by kernel_rfl) (by kernel_rfl) (by kernel_rfl) ?q244 (Or.inl ⟨?w244, ?y244⟩) hHeld ?r244
                              case h244 => simp only [zA, zB, zC] <;> exact rfl
                              case q244 => exact fun _ _ _ h => h
                              case w244 => rfl
                              case y244 =>
                                intro w hSw
                                (try dsimp only at hSw)
                                obtain ⟨s0, s1, s2⟩ := hSw
                                go_simp
                                try with_reducible rfl
                              try simp only [zP, zN, zS, zT, zU]
                              refine wpAnyH_take (i := 12) (oi := ?oi245) (v := ?vi245) ?h245 (by kernel_rfl) (by kernel_rfl) (by kernel_rfl) ?q245 (Or.inl ⟨?w245, ?y245⟩) hHeld ?r245
                              case h245 => simp only [zA, zB, zC] <;> exact rfl
                              case q245 => exact fun _ _ _ h => h
                              case w245 => rfl
                              case y245 =>
                                intro w hSw
                                (try dsimp only at hSw)
                                obtain ⟨s0, s1, s2⟩ := hSw
                                go_simp
                                try with_reducible rfl
                              try simp only [zP, zN, zS, zT, zU]
                              refine wpAnyH_take (i := 13) (oi := ?oi246) (v := ?vi246) ?h246 (by kernel_rfl) (by kernel_rfl) (by kernel_rfl) ?q246 (Or.inl ⟨?w246, ?y246⟩) hHeld ?r246
                              case h246 => simp only [zA, zB, zC] <;> exact rfl
                              case q246 => exact fun _ _ _ h => h
                              case w246 => rfl
                              case y246 =>
                                intro w hSw
                                (try dsimp only at hSw)
                                obtain ⟨s0, s1, s2⟩ := hSw
                                go_simp
                                try with_reducible rfl
                              try simp only [zP, zN, zS, zT, zU]
                              refine wpAnyH_take (i := 14) (oi := ?oi247) (v := undef) ?h247 (by kernel_rfl) (by kernel_rfl) (by kernel_rfl) ?q247 (Or.inr ⟨?w247, rfl⟩) hHeld ?r247
                              case h247 => simp only [zA, zB, zC] <;> exact rfl
                              case q247 => exact fun _ _ _ h => h
                              case w247 => rfl
                              try simp only [zP, zN, zS, zT, zU]
                              refine wpAnyH_take (i := 15) (oi := ?oi248) (v := undef) ?h248 (by kernel_rfl) (by kernel_rfl) (by kernel_rfl) ?q248 (Or.inr ⟨?w248, rfl⟩) hHeld ?r248
                              case h248 => simp only [zA, zB, zC] <;> exact rfl
                              case q248 => exact fun _ _ _ h => h
                              case w248 => rfl
                              try simp only [zP, zN, zS, zT, zU]
                              refine wpAnyH_take (i := 16) (oi := ?oi249) (v := ?vi249) ?h249 (by kernel_rfl) (by kernel_rfl) (by kernel_rfl) ?q249 (Or.inl ⟨?w249, ?y249⟩) hHeld ?r249
                              case h249 => simp only [zA, zB, zC] <;> exact rfl
                              case q249 => exact fun _ _ _ h => h
                              case w249 => rfl
                              case y249 =>
                                intro w hSw
                                (try dsimp only at hSw)
                                obtain ⟨s0, s1, s2⟩ := hSw
                                go_simp
                                try with_reducible rfl
                              try simp only [zP, zN, zS, zT, zU]
                              refine wpAnyH_take (i := 17) (oi := ?oi250) (v := ?vi250) ?h250 (by kernel_rfl) (by kernel_rfl) (by kernel_rfl) ?q250 (Or.inl ⟨?w250, ?y250⟩) hHeld ?r250
                              case h250 => simp only [zA, zB, zC] <;> exact rfl
                              case q250 => exact fun _ _ _ h => h
                              case w250 => rfl
                              case y250 =>
                                intro w hSw
                                (try dsimp only at hSw)
                                obtain ⟨s0, s1, s2⟩ := hSw
                                go_simp
                                try with_reducible rfl
                              try simp only [zP, zN, zS, zT, zU]
                              refine wpAnyH_take (i := 18) (oi := ?oi251) (v := undef) ?h251 (by kernel_rfl) (by kernel_rfl) (by kernel_rfl) ?q251 (Or.inr ⟨?w251, rfl⟩) hHeld ?r251
                              case h251 => simp only [zA, zB, zC] <;> exact rfl
                              case q251 => exact fun _ _ _ h => h
                              case w251 => rfl
                              try simp only [zP, zN, zS, zT, zU]
                              refine wpAnyH_take (i := 19) (oi := ?oi252) (v := undef) ?h252 (by kernel_rfl) (by kernel_rfl) (by kernel_rfl) ?q252 (Or.inr ⟨?w252, rfl⟩) hHeld ?r252
                              case h252 => simp only [zA, zB, zC] <;> exact rfl
                              case q252 => exact fun _ _ _ h => h
                              case w252 => rfl
                              try simp only [zP, zN, zS, zT, zU]
                              refine wpAnyH_take (i := 20) (oi := ?oi253) (v := undef) ?h253 (by kernel_rfl) (by kernel_rfl) (by kernel_rfl) ?q253 (Or.inr ⟨?w253, rfl⟩) hHeld ?r253
                              case h253 => simp only [zA, zB, zC] <;> exact rfl
                              case q253 => exact fun _ _ _ h => h
                              case w253 => rfl
                              try simp only [zP, zN, zS, zT, zU]
                              refine wpAnyH_take (i := 21) (oi := ?oi254) (v := ?vi254) ?h254 (by kernel_rfl) (by kernel_rfl) (by kernel_rfl) ?q254 (Or.inl ⟨?w254, ?y254⟩) hHeld ?r254
                              case h254 => simp only [zA, zB, zC] <;> exact rfl
                              case q254 => exact fun _ _ _ h => h
                              case w254 => rfl
                              case y254 =>
                                intro w hSw
                                (try dsimp only at hSw)
                                obtain ⟨s0, s1, s2⟩ := hSw
                                go_simp
                                try with_reducible rfl
                              try simp only [zP, zN, zS, zT, zU]
                              refine wpAnyH_done (by kernel_rfl) ?_ _
                              go_wp2
                              go_ret
                              exact ⟨by rw [right_false HNO.out]; rfl, HF3.out⟩
                            | true =>
                              cases th with
                              | false =>
                                have HNO := Lib.hid (HNL.out (by rw [HLT.out]; rfl))
                                go_wp2_with fail
                                refine (HPA.out _).mono ?_
                                rintro e w2 ⟨rfl, hg2⟩
                                have F2 := Lib.hid (HF.out.then (Gr.fp hg2))
                                have B2 := Lib.hid ((NdAt.box wr x).keep (Gr.fp hg2) (fun h => h))
                                clear hg2
                                obtain ⟨b0, b1, b2, b3, b4⟩ := B2.out.five
                                go_wp2_with fail
                                refine (HFD.out w2 F2.out).mono ?_
                                rintro e w3 ⟨rfl, hf3⟩
                                have HF3 := Lib.hid (((F2.out.then hf3).alloc (.cells #[.string (B y.path), .string (B y.data), .int .i64 y.ver, .int .i64 y.turn, .int .i64 y.own] TN)).drew)
                                have hs3 : (w3.alloc (.cells #[.string (B y.path), .string (B y.data), .int .i64 y.ver, .int .i64 y.turn, .int .i64 y.own] TN)).drew.cell? ⟨g, o + (k - 1) * 5, none⟩ = some (.string (B z)) ∧ (w3.alloc (.cells #[.string (B y.path), .string (B y.data), .int .i64 y.ver, .int .i64 y.turn, .int .i64 y.own] TN)).drew.cell? ⟨wr.heap.size, 0, none⟩ = some (.string (B x.path)) ∧ (w3.alloc (.cells #[.string (B y.path), .string (B y.data), .int .i64 y.ver, .int .i64 y.turn, .int .i64 y.own] TN)).drew.cell? ⟨w3.heap.size, 4, none⟩ = some (.int .i64 y.own) :=
                                  ⟨HF3.out.cell HPZ.out (fun h => h), ((hf3.alloc (.cells #[.string (B y.path), .string (B y.data), .int .i64 y.ver, .int .i64 y.turn, .int .i64 y.own] TN)).drew).cell B2.out.c0 (fun h => h), ((Fp.refl Non _).drew).cell (NdAt.box w3 y).c4 (fun h => h)⟩
                                have HS3 := Lib.hid hs3
                                clear hs3 hf3 b0 b1 b2 b3 b4
                                go_wp2_with fail
                                refine wp_region_held_drew (S := (fun w' => w'.cell? ⟨g, o + (k - 1) * 5, none⟩ = some (.string (B z)) ∧ w'.cell? ⟨wr.heap.size, 0, none⟩ = some (.string (B x.path)) ∧ w'.cell? ⟨w3.heap.size, 4, none⟩ = some (.int .i64 y.own))) (by kernel_rfl) ?_ (fun hHeld => ?_)
                                · exact HS3.out
                                refine wpAnyH_take (i := 0) (oi := ?oi255) (v := ?vi255) ?h255 (by kernel_rfl) (by kernel_rfl) (by kernel_rfl) ?q255 (Or.inl ⟨?w255, ?y255⟩) hHeld ?r255
                                case h255 => simp only [zA, zB] <;> exact rfl
                                case q255 => exact fun _ _ _ h => h
                                case w255 => rfl
                                case y255 =>
                                  intro w hSw
                                  (try dsimp only at hSw)
                                  obtain ⟨s0, s1, s2⟩ := hSw
                                  go_simp
                                  try with_reducible rfl
                                try simp only [zP, zN, zS, zT, zU]
                                refine wpAnyH_take (i := 1) (oi := ?oi256) (v := ?vi256) ?h256 (by kernel_rfl) (by kernel_rfl) (by kernel_rfl) ?q256 (Or.inl ⟨?w256, ?y256⟩) hHeld ?r256
                                case h256 => simp only [zA, zB, zC] <;> exact rfl
                                case q256 => exact fun _ _ _ h => h
                                case w256 => rfl
                                case y256 =>
                                  intro w hSw
                                  (try dsimp only at hSw)
                                  obtain ⟨s0, s1, s2⟩ := hSw
                                  go_simp
                                  try with_reducible rfl
                                try simp only [zP, zN, zS, zT, zU]
                                refine wpAnyH_take (i := 2) (oi := ?oi257) (v := ?vi257) ?h257 (by kernel_rfl) (by kernel_rfl) (by kernel_rfl) ?q257 (Or.inl ⟨?w257, ?y257⟩) hHeld ?r257
                                case h257 => simp only [zA, zB, zC] <;> exact rfl
                                case q257 => exact fun _ _ _ h => h
                                case w257 => rfl
                                case y257 =>
                                  intro w hSw
                                  (try dsimp only at hSw)
                                  obtain ⟨s0, s1, s2⟩ := hSw
                                  go_simp
                                  try with_reducible rfl
                                try simp only [zP, zN, zS, zT, zU]
                                refine wpAnyH_take (i := 3) (oi := ?oi258) (v := ?vi258) ?h258 (by kernel_rfl) (by kernel_rfl) (by kernel_rfl) ?q258 (Or.inl ⟨?w258, ?y258⟩) hHeld ?r258
                                case h258 => simp only [zA, zB, zC] <;> exact rfl
                                case q258 => exact fun _ _ _ h => h
                                case w258 => rfl
                                case y258 =>
                                  intro w hSw
                                  (try dsimp only at hSw)
                                  obtain ⟨s0, s1, s2⟩ := hSw
                                  go_simp
                                  try with_reducible rfl
                                try simp only [zP, zN, zS, zT, zU]
                                refine wpAnyH_take (i := 4) (oi := ?oi259) (v := ?vi259) ?h259 (by kernel_rfl) (by kernel_rfl) (by kernel_rfl) ?q259 (Or.inl ⟨?w259, ?y259⟩) hHeld ?r259
                                case h259 => simp only [zA, zB, zC] <;> exact rfl
                                case q259 => exact fun _ _ _ h => h
                                case w259 => rfl
                                case y259 =>
                                  intro w hSw
                                  (try dsimp only at hSw)
                                  obtain ⟨s0, s1, s2⟩ := hSw
                                  go_simp
                                  try with_reducible rfl
                                try simp only [zP, zN, zS, zT, zU]
                                refine wpAnyH_take (i := 5) (oi := ?oi260) (v := ?vi260) ?h260 (by kernel_rfl) (by kernel_rfl) (by kernel_rfl) ?q260 (Or.inl ⟨?w260, ?y260⟩) hHeld ?r260
                                case h260 => simp only [zA, zB, zC] <;> exact rfl
                                case q260 => exact fun _ _ _ h => h
                                case w260 => rfl
                                case y260 =>
                                  intro w hSw
                                  (try dsimp only at hSw)
                                  obtain ⟨s0, s1, s2⟩ := hSw
                                  go_simp
                                  try with_reducible rfl
                                try simp only [zP, zN, zS, zT, zU]
                                refine wpAnyH_take (i := 6) (oi := ?oi261) (v := ?vi261) ?h261 (by kernel_rfl) (by kernel_rfl) (by kernel_rfl) ?q261 (Or.inl ⟨?w261, ?y261⟩) hHeld ?r261
                                case h261 => simp only [zA, zB, zC] <;> exact rfl
                                case q261 => exact fun _ _ _ h => h
                                case w261 => rfl
                                case y261 =>
                                  intro w hSw
                                  (try dsimp only at hSw)
                                  obtain ⟨s0, s1, s2⟩ := hSw
                                  go_simp
                                  try with_reducible rfl
                                try simp only [zP, zN, zS, zT, zU]
                                refine wpAnyH_take (i := 7) (oi := ?oi262) (v := ?vi262) ?h262 (by kernel_rfl) (by kernel_rfl) (by kernel_rfl) ?q262 (Or.inl ⟨?w262, ?y262⟩) hHeld ?r262
                                case h262 => simp only [zA, zB, zC] <;> exact rfl
                                case q262 => exact fun _ _ _ h => h
                                case w262 => rfl
                                case y262 =>
                                  intro w hSw
                                  (try dsimp only at hSw)
                                  obtain ⟨s0, s1, s2⟩ := hSw
                                  go_simp
                                  try with_reducible rfl
                                try simp only [zP, zN, zS, zT, zU]
                                refine wpAnyH_take (i := 8) (oi := ?oi263) (v := ?vi263) ?h263 (by kernel_rfl) (by kernel_rfl) (by kernel_rfl) ?q263 (Or.inl ⟨?w263, ?y263⟩) hHeld ?r263
                                case h263 => simp only [zA, zB, zC] <;> exact rfl
                                case q263 => exact fun _ _ _ h => h
                                case w263 => rfl
                                case y263 =>
                                  intro w hSw
                                  (try dsimp only at hSw)
                                  obtain ⟨s0, s1, s2⟩ := hSw
                                  go_simp
                                  try with_reducible rfl
                                try simp only [zP, zN, zS, zT, zU]
                                refine wpAnyH_take (i := 9) (oi := ?oi264) (v := ?vi264) ?h264 (by kernel_rfl) (by kernel_rfl) (by kernel_rfl) ?q264 (Or.inl ⟨?w264, ?y264⟩) hHeld ?r264
                                case h264 => simp only [zA, zB, zC] <;> exact rfl
                                case q264 => exact fun _ _ _ h => h
                                case w264 => rfl
                                case y264 =>
                                  intro w hSw
                                  (try dsimp only at hSw)
                                  obtain ⟨s0, s1, s2⟩ := hSw
                                  go_simp
                                  try with_reducible rfl
                                try simp only [zP, zN, zS, zT, zU]
                                refine wpAnyH_take (i := 10) (oi := ?oi265) (v := ?vi265) ?h265 (by kernel_rfl) (by kernel_rfl) (by kernel_rfl) ?q265 (Or.inl ⟨?w265, ?y265⟩) hHeld ?r265
                                case h265 => simp only [zA, zB, zC] <;> exact rfl
                                case q265 => exact fun _ _ _ h => h
                                case w265 => rfl
                                case y265 =>
                                  intro w hSw
                                  (try dsimp only at hSw)
                                  obtain ⟨s0, s1, s2⟩ := hSw
                                  go_simp
                                  try with_reducible rfl
                                try simp only [zP, zN, zS, zT, zU]
                                refine wpAnyH_take (i := 11) (oi := ?oi266) (v := ?vi266) ?h266 (by kernel_rfl) (by kernel_rfl) (by kernel_rfl) ?q266 (Or.inl ⟨?w266, ?y266⟩) hHeld ?r266
                                case h266 => simp only [zA, zB, zC] <;> exact rfl
                                case q266 => exact fun _ _ _ h => h
                                case w266 => rfl
                                case y266 =>
                                  intro w hSw
                                  (try dsimp only at hSw)
                                  obtain ⟨s0, s1, s2⟩ := hSw
                                  go_simp
                                  try with_reducible rfl
                                try simp only [zP, zN, zS, zT, zU]
                                refine wpAnyH_take (i := 12) (oi := ?oi267) (v := ?vi267) ?h267 (by kernel_rfl) (by kernel_rfl) (by kernel_rfl) ?q267 (Or.inl ⟨?w267, ?y267⟩) hHeld ?r267
                                case h267 => simp only [zA, zB, zC] <;> exact rfl
                                case q267 => exact fun _ _ _ h => h
                                case w267 => rfl
                                case y267 =>
                                  intro w hSw
                                  (try dsimp only at hSw)
                                  obtain ⟨s0, s1, s2⟩ := hSw
                                  go_simp
                                  try with_reducible rfl
                                try simp only [zP, zN, zS, zT, zU]
                                refine wpAnyH_take (i := 13) (oi := ?oi268) (v := ?vi268) ?h268 (by kernel_rfl) (by kernel_rfl) (by kernel_rfl) ?q268 (Or.inl ⟨?w268, ?y268⟩) hHeld ?r268
                                case h268 => simp only [zA, zB, zC] <;> exact rfl
                                case q268 => exact fun _ _ _ h => h
                                case w268 => rfl
                                case y268 =>
                                  intro w hSw
                                  (try dsimp only at hSw)
                                  obtain ⟨s0, s1, s2⟩ := hSw
                                  go_simp
                                  try with_reducible rfl
                                try simp only [zP, zN, zS, zT, zU]
                                refine wpAnyH_take (i := 14) (oi := ?oi269) (v := ?vi269) ?h269 (by kernel_rfl) (by kernel_rfl) (by kernel_rfl) ?q269 (Or.inl ⟨?w269, ?y269⟩) hHeld ?r269
                                case h269 => simp only [zA, zB, zC] <;> exact rfl
                                case q269 => exact fun _ _ _ h => h
                                case w269 => rfl
                                case y269 =>
                                  intro w hSw
                                  (try dsimp only at hSw)
                                  obtain ⟨s0, s1, s2⟩ := hSw
                                  go_simp
                                  try with_reducible rfl
                                try simp only [zP, zN, zS, zT, zU]
                                refine wpAnyH_take (i := 15) (oi := ?oi270) (v := ?vi270) ?h270 (by kernel_rfl) (by kernel_rfl) (by kernel_rfl) ?q270 (Or.inl ⟨?w270, ?y270⟩) hHeld ?r270
                                case h270 => simp only [zA, zB, zC] <;> exact rfl
                                case q270 => exact fun _ _ _ h => h
                                case w270 => rfl
                                case y270 =>
                                  intro w hSw
                                  (try dsimp only at hSw)
                                  obtain ⟨s0, s1, s2⟩ := hSw
                                  go_simp
                                  try with_reducible rfl
                                try simp only [zP, zN, zS, zT, zU]
                                refine wpAnyH_take (i := 16) (oi := ?oi271) (v := ?vi271) ?h271 (by kernel_rfl) (by kernel_rfl) (by kernel_rfl) ?q271 (Or.inl ⟨?w271, ?y271⟩) hHeld ?r271
                                case h271 => simp only [zA, zB, zC] <;> exact rfl
                                case q271 => exact fun _ _ _ h => h
                                case w271 => rfl
                                case y271 =>
                                  intro w hSw
                                  (try dsimp only at hSw)
                                  obtain ⟨s0, s1, s2⟩ := hSw
                                  go_simp
                                  try with_reducible rfl
                                try simp only [zP, zN, zS, zT, zU]
                                refine wpAnyH_take (i := 17) (oi := ?oi272) (v := ?vi272) ?h272 (by kernel_rfl) (by kernel_rfl) (by kernel_rfl) ?q272 (Or.inl ⟨?w272, ?y272⟩) hHeld ?r272
                                case h272 => simp only [zA, zB, zC] <;> exact rfl
                                case q272 => exact fun _ _ _ h => h
                                case w272 => rfl
                                case y272 =>
                                  intro w hSw
                                  (try dsimp only at hSw)
                                  obtain ⟨s0, s1, s2⟩ := hSw
                                  go_simp
                                  try with_reducible rfl
                                try simp only [zP, zN, zS, zT, zU]
                                refine wpAnyH_take (i := 18) (oi := ?oi273) (v := undef) ?h273 (by kernel_rfl) (by kernel_rfl) (by kernel_rfl) ?q273 (Or.inr ⟨?w273, rfl⟩) hHeld ?r273
                                case h273 => simp only [zA, zB, zC] <;> exact rfl
                                case q273 => exact fun _ _ _ h => h
                                case w273 => rfl
                                try simp only [zP, zN, zS, zT, zU]
                                refine wpAnyH_take (i := 19) (oi := ?oi274) (v := undef) ?h274 (by kernel_rfl) (by kernel_rfl) (by kernel_rfl) ?q274 (Or.inr ⟨?w274, rfl⟩) hHeld ?r274
                                case h274 => simp only [zA, zB, zC] <;> exact rfl
                                case q274 => exact fun _ _ _ h => h
                                case w274 => rfl
                                try simp only [zP, zN, zS, zT, zU]
                                refine wpAnyH_take (i := 20) (oi := ?oi275) (v := undef) ?h275 (by kernel_rfl) (by kernel_rfl) (by kernel_rfl) ?q275 (Or.inr ⟨?w275, rfl⟩) hHeld ?r275
                                case h275 => simp only [zA, zB, zC] <;> exact rfl
                                case q275 => exact fun _ _ _ h => h
                                case w275 => rfl
                                try simp only [zP, zN, zS, zT, zU]
                                refine wpAnyH_take (i := 21) (oi := ?oi276) (v := ?vi276) ?h276 (by kernel_rfl) (by kernel_rfl) (by kernel_rfl) ?q276 (Or.inl ⟨?w276, ?y276⟩) hHeld ?r276
                                case h276 => simp only [zA, zB, zC] <;> exact rfl
                                case q276 => exact fun _ _ _ h => h
                                case w276 => rfl
                                case y276 =>
                                  intro w hSw
                                  (try dsimp only at hSw)
                                  obtain ⟨s0, s1, s2⟩ := hSw
                                  go_simp
                                  try with_reducible rfl
                                try simp only [zP, zN, zS, zT, zU]
                                refine wpAnyH_done (by kernel_rfl) ?_ _
                                go_wp2
                                go_ret
                                exact ⟨by rw [right_false HNO.out]; rfl, HF3.out⟩
                              | true =>
                                by_cases hyo : y.own = 0
                                · have HNEXT := Lib.hid (HNX.out HGE.out (by rw [HLT.out]; simp [hyo]))
                                  have qy : (y.own != 0) = false := by simp [hyo]
                                  have qy2 : (y.own = 0) = True := eq_true hyo
                                  clear hyo
                                  go_wp2_with fail
                                  refine (HPA.out _).mono ?_
                                  rintro e w2 ⟨rfl, hg2⟩
                                  have F2 := Lib.hid (HF.out.then (Gr.fp hg2))
                                  have B2 := Lib.hid ((NdAt.box wr x).keep (Gr.fp hg2) (fun h => h))
                                  clear hg2
                                  obtain ⟨b0, b1, b2, b3, b4⟩ := B2.out.five
                                  go_wp2_with fail
                                  refine (HFD.out w2 F2.out).mono ?_
                                  rintro e w3 ⟨rfl, hf3⟩
                                  have HF3 := Lib.hid (((F2.out.then hf3).alloc (.cells #[.string (B y.path), .string (B y.data), .int .i64 y.ver, .int .i64 y.turn, .int .i64 y.own] TN)).drew)
                                  have hs3 : (w3.alloc (.cells #[.string (B y.path), .string (B y.data), .int .i64 y.ver, .int .i64 y.turn, .int .i64 y.own] TN)).drew.cell? ⟨g, o + (k - 1) * 5, none⟩ = some (.string (B z)) ∧ (w3.alloc (.cells #[.string (B y.path), .string (B y.data), .int .i64 y.ver, .int .i64 y.turn, .int .i64 y.own] TN)).drew.cell? ⟨wr.heap.size, 0, none⟩ = some (.string (B x.path)) ∧ (w3.alloc (.cells #[.string (B y.path), .string (B y.data), .int .i64 y.ver, .int .i64 y.turn, .int .i64 y.own] TN)).drew.cell? ⟨w3.heap.size, 4, none⟩ = some (.int .i64 y.own) :=
                                    ⟨HF3.out.cell HPZ.out (fun h => h), ((hf3.alloc (.cells #[.string (B y.path), .string (B y.data), .int .i64 y.ver, .int .i64 y.turn, .int .i64 y.own] TN)).drew).cell B2.out.c0 (fun h => h), ((Fp.refl Non _).drew).cell (NdAt.box w3 y).c4 (fun h => h)⟩
                                  have HS3 := Lib.hid hs3
                                  clear hs3 hf3 b0 b1 b2 b3 b4
                                  go_wp2_with fail
                                  refine wp_region_held_drew (S := (fun w' => w'.cell? ⟨g, o + (k - 1) * 5, none⟩ = some (.string (B z)) ∧ w'.cell? ⟨wr.heap.size, 0, none⟩ = some (.string (B x.path)) ∧ w'.cell? ⟨w3.heap.size, 4, none⟩ = some (.int .i64 y.own))) (by kernel_rfl) ?_ (fun hHeld => ?_)
                                  · exact HS3.out
                                  refine wpAnyH_take (i := 0) (oi := ?oi299) (v := ?vi299) ?h299 (by kernel_rfl) (by kernel_rfl) (by kernel_rfl) ?q299 (Or.inl ⟨?w299, ?y299⟩) hHeld ?r299
                                  case h299 => simp only [zA, zB] <;> exact rfl
                                  case q299 => exact fun _ _ _ h => h
                                  case w299 => rfl
                                  case y299 =>
                                    intro w hSw
                                    (try dsimp only at hSw)
                                    obtain ⟨s0, s1, s2⟩ := hSw
                                    go_simp
                                    try with_reducible rfl
                                  try simp only [zP, zN, zS, zT, zU]
                                  refine wpAnyH_take (i := 1) (oi := ?oi300) (v := ?vi300) ?h300 (by kernel_rfl) (by kernel_rfl) (by kernel_rfl) ?q300 (Or.inl ⟨?w300, ?y300⟩) hHeld ?r300
                                  case h300 => simp only [zA, zB, zC] <;> exact rfl
                                  case q300 => exact fun _ _ _ h => h
                                  case w300 => rfl
                                  case y300 =>
                                    intro w hSw
                                    (try dsimp only at hSw)
                                    obtain ⟨s0, s1, s2⟩ := hSw
                                    go_simp
                                    try with_reducible rfl
                                  try simp only [zP, zN, zS, zT, zU]
                                  refine wpAnyH_take (i := 2) (oi := ?oi301) (v := ?vi301) ?h301 (by kernel_rfl) (by kernel_rfl) (by kernel_rfl) ?q301 (Or.inl ⟨?w301, ?y301⟩) hHeld ?r301
                                  case h301 => simp only [zA, zB, zC] <;> exact rfl
                                  case q301 => exact fun _ _ _ h => h
                                  case w301 => rfl
                                  case y301 =>
                                    intro w hSw
                                    (try dsimp only at hSw)
                                    obtain ⟨s0, s1, s2⟩ := hSw
                                    go_simp
                                    try with_reducible rfl
                                  try simp only [zP, zN, zS, zT, zU]
                                  refine wpAnyH_take (i := 3) (oi := ?oi302) (v := ?vi302) ?h302 (by kernel_rfl) (by kernel_rfl) (by kernel_rfl) ?q302 (Or.inl ⟨?w302, ?y302⟩) hHeld ?r302
                                  case h302 => simp only [zA, zB, zC] <;> exact rfl
                                  case q302 => exact fun _ _ _ h => h
                                  case w302 => rfl
                                  case y302 =>
                                    intro w hSw
                                    (try dsimp only at hSw)
                                    obtain ⟨s0, s1, s2⟩ := hSw
                                    go_simp
                                    try with_reducible rfl
                                  try simp only [zP, zN, zS, zT, zU]
                                  refine wpAnyH_take (i := 4) (oi := ?oi303) (v := ?vi303) ?h303 (by kernel_rfl) (by kernel_rfl) (by kernel_rfl) ?q303 (Or.inl ⟨?w303, ?y303⟩) hHeld ?r303
                                  case h303 => simp only [zA, zB, zC] <;> exact rfl
                                  case q303 => exact fun _ _ _ h => h
                                  case w303 => rfl
                                  case y303 =>
                                    intro w hSw
                                    (try dsimp only at hSw)
                                    obtain ⟨s0, s1, s2⟩ := hSw
                                    go_simp
                                    try with_reducible rfl
                                  try simp only [zP, zN, zS, zT, zU]
                                  refine wpAnyH_take (i := 5) (oi := ?oi304) (v := ?vi304) ?h304 (by kernel_rfl) (by kernel_rfl) (by kernel_rfl) ?q304 (Or.inl ⟨?w304, ?y304⟩) hHeld ?r304
                                  case h304 => simp only [zA, zB, zC] <;> exact rfl
                                  case q304 => exact fun _ _ _ h => h
                                  case w304 => rfl
                                  case y304 =>
                                    intro w hSw
                                    (try dsimp only at hSw)
                                    obtain ⟨s0, s1, s2⟩ := hSw
                                    go_simp
                                    try with_reducible rfl
                                  try simp only [zP, zN, zS, zT, zU]
                                  refine wpAnyH_take (i := 6) (oi := ?oi305) (v := ?vi305) ?h305 (by kernel_rfl) (by kernel_rfl) (by kernel_rfl) ?q305 (Or.inl ⟨?w305, ?y305⟩) hHeld ?r305
                                  case h305 => simp only [zA, zB, zC] <;> exact rfl
                                  case q305 => exact fun _ _ _ h => h
                                  case w305 => rfl
                                  case y305 =>
                                    intro w hSw
                                    (try dsimp only at hSw)
                                    obtain ⟨s0, s1, s2⟩ := hSw
                                    go_simp
                                    try with_reducible rfl
                                  try simp only [zP, zN, zS, zT, zU]
                                  refine wpAnyH_take (i := 7) (oi := ?oi306) (v := ?vi306) ?h306 (by kernel_rfl) (by kernel_rfl) (by kernel_rfl) ?q306 (Or.inl ⟨?w306, ?y306⟩) hHeld ?r306
                                  case h306 => simp only [zA, zB, zC] <;> exact rfl
                                  case q306 => exact fun _ _ _ h => h
                                  case w306 => rfl
                                  case y306 =>
                                    intro w hSw
                                    (try dsimp only at hSw)
                                    obtain ⟨s0, s1, s2⟩ := hSw
                                    go_simp
                                    try with_reducible rfl
                                  try simp only [zP, zN, zS, zT, zU]
                                  refine wpAnyH_take (i := 8) (oi := ?oi307) (v := ?vi307) ?h307 (by kernel_rfl) (by kernel_rfl) (by kernel_rfl) ?q307 (Or.inl ⟨?w307, ?y307⟩) hHeld ?r307
                                  case h307 => simp only [zA, zB, zC] <;> exact rfl
                                  case q307 => exact fun _ _ _ h => h
                                  case w307 => rfl
                                  case y307 =>
                                    intro w hSw
                                    (try dsimp only at hSw)
                                    obtain ⟨s0, s1, s2⟩ := hSw
                                    go_simp
                                    try with_reducible rfl
                                  try simp only [zP, zN, zS, zT, zU]
                                  refine wpAnyH_take (i := 9) (oi := ?oi308) (v := ?vi308) ?h308 (by kernel_rfl) (by kernel_rfl) (by kernel_rfl) ?q308 (Or.inl ⟨?w308, ?y308⟩) hHeld ?r308
                                  case h308 => simp only [zA, zB, zC] <;> exact rfl
                                  case q308 => exact fun _ _ _ h => h
                                  case w308 => rfl
                                  case y308 =>
                                    intro w hSw
                                    (try dsimp only at hSw)
                                    obtain ⟨s0, s1, s2⟩ := hSw
                                    go_simp
                                    try with_reducible rfl
                                  try simp only [zP, zN, zS, zT, zU]
                                  refine wpAnyH_take (i := 10) (oi := ?oi309) (v := ?vi309) ?h309 (by kernel_rfl) (by kernel_rfl) (by kernel_rfl) ?q309 (Or.inl ⟨?w309, ?y309⟩) hHeld ?r309
                                  case h309 => simp only [zA, zB, zC] <;> exact rfl
                                  case q309 => exact fun _ _ _ h => h
                                  case w309 => rfl
                                  case y309 =>
                                    intro w hSw
                                    (try dsimp only at hSw)
                                    obtain ⟨s0, s1, s2⟩ := hSw
                                    go_simp
                                    try with_reducible rfl
                                  try simp only [zP, zN, zS, zT, zU]
                                  refine wpAnyH_take (i := 11) (oi := ?oi310) (v := ?vi310) ?h310 (by kernel_rfl) (by kernel_rfl) (by kernel_rfl) ?q310 (Or.inl ⟨?w310, ?y310⟩) hHeld ?r310
                                  case h310 => simp only [zA, zB, zC] <;> exact rfl
                                  case q310 => exact fun _ _ _ h => h
                                  case w310 => rfl
                                  case y310 =>
                                    intro w hSw
                                    (try dsimp only at hSw)
                                    obtain ⟨s0, s1, s2⟩ := hSw
                                    go_simp
                                    try with_reducible rfl
                                  try simp only [zP, zN, zS, zT, zU]
                                  refine wpAnyH_take (i := 12) (oi := ?oi311) (v := ?vi311) ?h311 (by kernel_rfl) (by kernel_rfl) (by kernel_rfl) ?q311 (Or.inl ⟨?w311, ?y311⟩) hHeld ?r311
                                  case h311 => simp only [zA, zB, zC] <;> exact rfl
                                  case q311 => exact fun _ _ _ h => h
                                  case w311 => rfl
                                  case y311 =>
                                    intro w hSw
                                    (try dsimp only at hSw)
                                    obtain ⟨s0, s1, s2⟩ := hSw
                                    go_simp
                                    try with_reducible rfl
                                  try simp only [zP, zN, zS, zT, zU]
                                  refine wpAnyH_take (i := 13) (oi := ?oi312) (v := ?vi312) ?h312 (by kernel_rfl) (by kernel_rfl) (by kernel_rfl) ?q312 (Or.inl ⟨?w312, ?y312⟩) hHeld ?r312
                                  case h312 => simp only [zA, zB, zC] <;> exact rfl
                                  case q312 => exact fun _ _ _ h => h
                                  case w312 => rfl
                                  case y312 =>
                                    intro w hSw
                                    (try dsimp only at hSw)
                                    obtain ⟨s0, s1, s2⟩ := hSw
                                    go_simp
                                    try with_reducible rfl
                                  try simp only [zP, zN, zS, zT, zU]
                                  refine wpAnyH_take (i := 14) (oi := ?oi313) (v := ?vi313) ?h313 (by kernel_rfl) (by kernel_rfl) (by kernel_rfl) ?q313 (Or.inl ⟨?w313, ?y313⟩) hHeld ?r313
                                  case h313 => simp only [zA, zB, zC] <;> exact rfl
                                  case q313 => exact fun _ _ _ h => h
                                  case w313 => rfl
                                  case y313 =>
                                    intro w hSw
                                    (try dsimp only at hSw)
                                    obtain ⟨s0, s1, s2⟩ := hSw
                                    go_simp
                                    try with_reducible rfl
                                  try simp only [zP, zN, zS, zT, zU]
                                  refine wpAnyH_take (i := 15) (oi := ?oi314) (v := ?vi314) ?h314 (by kernel_rfl) (by kernel_rfl) (by kernel_rfl) ?q314 (Or.inl ⟨?w314, ?y314⟩) hHeld ?r314
                                  case h314 => simp only [zA, zB, zC] <;> exact rfl
                                  case q314 => exact fun _ _ _ h => h
                                  case w314 => rfl
                                  case y314 =>
                                    intro w hSw
                                    (try dsimp only at hSw)
                                    obtain ⟨s0, s1, s2⟩ := hSw
                                    go_simp
                                    try with_reducible rfl
                                  try simp only [zP, zN, zS, zT, zU]
                                  refine wpAnyH_take (i := 16) (oi := ?oi315) (v := ?vi315) ?h315 (by kernel_rfl) (by kernel_rfl) (by kernel_rfl) ?q315 (Or.inl ⟨?w315, ?y315⟩) hHeld ?r315
                                  case h315 => simp only [zA, zB, zC] <;> exact rfl
                                  case q315 => exact fun _ _ _ h => h
                                  case w315 => rfl
                                  case y315 =>
                                    intro w hSw
                                    (try dsimp only at hSw)
                                    obtain ⟨s0, s1, s2⟩ := hSw
                                    go_simp
                                    try with_reducible rfl
                                  try simp only [zP, zN, zS, zT, zU]
                                  refine wpAnyH_take (i := 17) (oi := ?oi316) (v := ?vi316) ?h316 (by kernel_rfl) (by kernel_rfl) (by kernel_rfl) ?q316 (Or.inl ⟨?w316, ?y316⟩) hHeld ?r316
                                  case h316 => simp only [zA, zB, zC] <;> exact rfl
                                  case q316 => exact fun _ _ _ h => h
                                  case w316 => rfl
                                  case y316 =>
                                    intro w hSw
                                    (try dsimp only at hSw)
                                    obtain ⟨s0, s1, s2⟩ := hSw
                                    go_simp
                                    try with_reducible rfl
                                  try simp only [zP, zN, zS, zT, zU]
                                  refine wpAnyH_take (i := 18) (oi := ?oi317) (v := ?vi317) ?h317 (by kernel_rfl) (by kernel_rfl) (by kernel_rfl) ?q317 (Or.inl ⟨?w317, ?y317⟩) hHeld ?r317
                                  case h317 => simp only [zA, zB, zC] <;> exact rfl
                                  case q317 => exact fun _ _ _ h => h
                                  case w317 => rfl
                                  case y317 =>
                                    intro w hSw
                                    (try dsimp only at hSw)
                                    obtain ⟨s0, s1, s2⟩ := hSw
                                    go_simp
                                    try with_reducible rfl
                                  try simp only [zP, zN, zS, zT, zU]
                                  refine wpAnyH_take (i := 19) (oi := ?oi318) (v := ?vi318) ?h318 (by kernel_rfl) (by kernel_rfl) (by kernel_rfl) ?q318 (Or.inl ⟨?w318, ?y318⟩) hHeld ?r318
                                  case h318 => simp only [zA, zB, zC] <;> exact rfl
                                  case q318 => exact fun _ _ _ h => h
                                  case w318 => rfl
                                  case y318 =>
                                    intro w hSw
                                    (try dsimp only at hSw)
                                    obtain ⟨s0, s1, s2⟩ := hSw
                                    go_simp
                                    try with_reducible rfl
                                  try simp only [zP, zN, zS, zT, zU]
                                  refine wpAnyH_take (i := 20) (oi := ?oi319) (v := ?vi319) ?h319 (by kernel_rfl) (by kernel_rfl) (by kernel_rfl) ?q319 (Or.inl ⟨?w319, ?y319⟩) hHeld ?r319
                                  case h319 => simp only [zA, zB, zC] <;> exact rfl
                                  case q319 => exact fun _ _ _ h => h
                                  case w319 => rfl
                                  case y319 =>
                                    intro w hSw
                                    (try dsimp only at hSw)
                                    obtain ⟨s0, s1, s2⟩ := hSw
                                    go_simp
                                    try with_reducible rfl
                                  try simp only [zP, zN, zS, zT, zU]
                                  refine wpAnyH_take (i := 21) (oi := ?oi320) (v := ?vi320) ?h320 (by kernel_rfl) (by kernel_rfl) (by kernel_rfl) ?q320 (Or.inl ⟨?w320, ?y320⟩) hHeld ?r320
                                  case h320 => simp only [zA, zB, zC] <;> exact rfl
                                  case q320 => exact fun _ _ _ h => h
                                  case w320 => rfl
                                  case y320 =>
                                    intro w hSw
                                    (try dsimp only at hSw)
                                    obtain ⟨s0, s1, s2⟩ := hSw
                                    go_simp
                                    try with_reducible rfl
                                  try simp only [zP, zN, zS, zT, zU]
                                  refine wpAnyH_done (by kernel_rfl) ?_ _
                                  go_wp2
                                  go_roundw
                                  case rel => exact ⟨k + 1, by have := HK.out.1; omega, by go_num, HNEXT.out _ HF3.out⟩
                                  case measure => have := HK.out.1; simp [RowKit.intOf]; omega
                                · have HNO := Lib.hid (HNL.out (by rw [HLT.out]; simp [hyo]))
                                  have qy : (y.own != 0) = true := by simpa using hyo
                                  have qy2 : (y.own = 0) = False := eq_false hyo
                                  clear hyo
                                  go_wp2_with fail
                                  refine (HPA.out _).mono ?_
                                  rintro e w2 ⟨rfl, hg2⟩
                                  have F2 := Lib.hid (HF.out.then (Gr.fp hg2))
                                  have B2 := Lib.hid ((NdAt.box wr x).keep (Gr.fp hg2) (fun h => h))
                                  clear hg2
                                  obtain ⟨b0, b1, b2, b3, b4⟩ := B2.out.five
                                  go_wp2_with fail
                                  refine (HFD.out w2 F2.out).mono ?_
                                  rintro e w3 ⟨rfl, hf3⟩
                                  have HF3 := Lib.hid (((F2.out.then hf3).alloc (.cells #[.string (B y.path), .string (B y.data), .int .i64 y.ver, .int .i64 y.turn, .int .i64 y.own] TN)).drew)
                                  have hs3 : (w3.alloc (.cells #[.string (B y.path), .string (B y.data), .int .i64 y.ver, .int .i64 y.turn, .int .i64 y.own] TN)).drew.cell? ⟨g, o + (k - 1) * 5, none⟩ = some (.string (B z)) ∧ (w3.alloc (.cells #[.string (B y.path), .string (B y.data), .int .i64 y.ver, .int .i64 y.turn, .int .i64 y.own] TN)).drew.cell? ⟨wr.heap.size, 0, none⟩ = some (.string (B x.path)) ∧ (w3.alloc (.cells #[.string (B y.path), .string (B y.data), .int .i64 y.ver, .int .i64 y.turn, .int .i64 y.own] TN)).drew.cell? ⟨w3.heap.size, 4, none⟩ = some (.int .i64 y.own) :=
                                    ⟨HF3.out.cell HPZ.out (fun h => h), ((hf3.alloc (.cells #[.string (B y.path), .string (B y.data), .int .i64 y.ver, .int .i64 y.turn, .int .i64 y.own] TN)).drew).cell B2.out.c0 (fun h => h), ((Fp.refl Non _).drew).cell (NdAt.box w3 y).c4 (fun h => h)⟩
                                  have HS3 := Lib.hid hs3
                                  clear hs3 hf3 b0 b1 b2 b3 b4
                                  go_wp2_with fail
                                  refine wp_region_held_drew (S := (fun w' => w'.cell? ⟨g, o + (k - 1) * 5, none⟩ = some (.string (B z)) ∧ w'.cell? ⟨wr.heap.size, 0, none⟩ = some (.string (B x.path)) ∧ w'.cell? ⟨w3.heap.size, 4, none⟩ = some (.int .i64 y.own))) (by kernel_rfl) ?_ (fun hHeld => ?_)
                                  · exact HS3.out
                                  refine wpAnyH_take (i := 0) (oi := ?oi277) (v := ?vi277) ?h277 (by kernel_rfl) (by kernel_rfl) (by kernel_rfl) ?q277 (Or.inl ⟨?w277, ?y277⟩) hHeld ?r277
                                  case h277 => simp only [zA, zB] <;> exact rfl
                                  case q277 => exact fun _ _ _ h => h
                                  case w277 => rfl
                                  case y277 =>
                                    intro w hSw
                                    (try dsimp only at hSw)
                                    obtain ⟨s0, s1, s2⟩ := hSw
                                    go_simp
                                    try with_reducible rfl
                                  try simp only [zP, zN, zS, zT, zU]
                                  refine wpAnyH_take (i := 1) (oi := ?oi278) (v := ?vi278) ?h278 (by kernel_rfl) (by kernel_rfl) (by kernel_rfl) ?q278 (Or.inl ⟨?w278, ?y278⟩) hHeld ?r278
                                  case h278 => simp only [zA, zB, zC] <;> exact rfl
                                  case q278 => exact fun _ _ _ h => h
                                  case w278 => rfl
                                  case y278 =>
                                    intro w hSw
                                    (try dsimp only at hSw)
                                    obtain ⟨s0, s1, s2⟩ := hSw
                                    go_simp
                                    try with_reducible rfl
                                  try simp only [zP, zN, zS, zT, zU]
                                  refine wpAnyH_take (i := 2) (oi := ?oi279) (v := ?vi279) ?h279 (by kernel_rfl) (by kernel_rfl) (by kernel_rfl) ?q279 (Or.inl ⟨?w279, ?y279⟩) hHeld ?r279
                                  case h279 => simp only [zA, zB, zC] <;> exact rfl
                                  case q279 => exact fun _ _ _ h => h
                                  case w279 => rfl
                                  case y279 =>
                                    intro w hSw
                                    (try dsimp only at hSw)
                                    obtain ⟨s0, s1, s2⟩ := hSw
                                    go_simp
                                    try with_reducible rfl
                                  try simp only [zP, zN, zS, zT, zU]
                                  refine wpAnyH_take (i := 3) (oi := ?oi280) (v := ?vi280) ?h280 (by kernel_rfl) (by kernel_rfl) (by kernel_rfl) ?q280 (Or.inl ⟨?w280, ?y280⟩) hHeld ?r280
                                  case h280 => simp only [zA, zB, zC] <;> exact rfl
                                  case q280 => exact fun _ _ _ h => h
                                  case w280 => rfl
                                  case y280 =>
                                    intro w hSw
                                    (try dsimp only at hSw)
                                    obtain ⟨s0, s1, s2⟩ := hSw
                                    go_simp
                                    try with_reducible rfl
                                  try simp only [zP, zN, zS, zT, zU]
                                  refine wpAnyH_take (i := 4) (oi := ?oi281) (v := ?vi281) ?h281 (by kernel_rfl) (by kernel_rfl) (by kernel_rfl) ?q281 (Or.inl ⟨?w281, ?y281⟩) hHeld ?r281
                                  case h281 => simp only [zA, zB, zC] <;> exact rfl
                                  case q281 => exact fun _ _ _ h => h
                                  case w281 => rfl
                                  case y281 =>
                                    intro w hSw
                                    (try dsimp only at hSw)
                                    obtain ⟨s0, s1, s2⟩ := hSw
                                    go_simp
                                    try with_reducible rfl
                                  try simp only [zP, zN, zS, zT, zU]
                                  refine wpAnyH_take (i := 5) (oi := ?oi282) (v := ?vi282) ?h282 (by kernel_rfl) (by kernel_rfl) (by kernel_rfl) ?q282 (Or.inl ⟨?w282, ?y282⟩) hHeld ?r282
                                  case h282 => simp only [zA, zB, zC] <;> exact rfl
                                  case q282 => exact fun _ _ _ h => h
                                  case w282 => rfl
                                  case y282 =>
                                    intro w hSw
                                    (try dsimp only at hSw)
                                    obtain ⟨s0, s1, s2⟩ := hSw
                                    go_simp
                                    try with_reducible rfl
                                  try simp only [zP, zN, zS, zT, zU]
                                  refine wpAnyH_take (i := 6) (oi := ?oi283) (v := ?vi283) ?h283 (by kernel_rfl) (by kernel_rfl) (by kernel_rfl) ?q283 (Or.inl ⟨?w283, ?y283⟩) hHeld ?r283
                                  case h283 => simp only [zA, zB, zC] <;> exact rfl
                                  case q283 => exact fun _ _ _ h => h
                                  case w283 => rfl
                                  case y283 =>
                                    intro w hSw
                                    (try dsimp only at hSw)
                                    obtain ⟨s0, s1, s2⟩ := hSw
                                    go_simp
                                    try with_reducible rfl
                                  try simp only [zP, zN, zS, zT, zU]
                                  refine wpAnyH_take (i := 7) (oi := ?oi284) (v := ?vi284) ?h284 (by kernel_rfl) (by kernel_rfl) (by kernel_rfl) ?q284 (Or.inl ⟨?w284, ?y284⟩) hHeld ?r284
                                  case h284 => simp only [zA, zB, zC] <;> exact rfl
                                  case q284 => exact fun _ _ _ h => h
                                  case w284 => rfl
                                  case y284 =>
                                    intro w hSw
                                    (try dsimp only at hSw)
                                    obtain ⟨s0, s1, s2⟩ := hSw
                                    go_simp
                                    try with_reducible rfl
                                  try simp only [zP, zN, zS, zT, zU]
                                  refine wpAnyH_take (i := 8) (oi := ?oi285) (v := ?vi285) ?h285 (by kernel_rfl) (by kernel_rfl) (by kernel_rfl) ?q285 (Or.inl ⟨?w285, ?y285⟩) hHeld ?r285
                                  case h285 => simp only [zA, zB, zC] <;> exact rfl
                                  case q285 => exact fun _ _ _ h => h
                                  case w285 => rfl
                                  case y285 =>
                                    intro w hSw
                                    (try dsimp only at hSw)
                                    obtain ⟨s0, s1, s2⟩ := hSw
                                    go_simp
                                    try with_reducible rfl
                                  try simp only [zP, zN, zS, zT, zU]
                                  refine wpAnyH_take (i := 9) (oi := ?oi286) (v := ?vi286) ?h286 (by kernel_rfl) (by kernel_rfl) (by kernel_rfl) ?q286 (Or.inl ⟨?w286, ?y286⟩) hHeld ?r286
                                  case h286 => simp only [zA, zB, zC] <;> exact rfl
                                  case q286 => exact fun _ _ _ h => h
                                  case w286 => rfl
                                  case y286 =>
                                    intro w hSw
                                    (try dsimp only at hSw)
                                    obtain ⟨s0, s1, s2⟩ := hSw
                                    go_simp
                                    try with_reducible rfl
                                  try simp only [zP, zN, zS, zT, zU]
                                  refine wpAnyH_take (i := 10) (oi := ?oi287) (v := ?vi287) ?h287 (by kernel_rfl) (by kernel_rfl) (by kernel_rfl) ?q287 (Or.inl ⟨?w287, ?y287⟩) hHeld ?r287
                                  case h287 => simp only [zA, zB, zC] <;> exact rfl
                                  case q287 => exact fun _ _ _ h => h
                                  case w287 => rfl
                                  case y287 =>
                                    intro w hSw
                                    (try dsimp only at hSw)
                                    obtain ⟨s0, s1, s2⟩ := hSw
                                    go_simp
                                    try with_reducible rfl
                                  try simp only [zP, zN, zS, zT, zU]
                                  refine wpAnyH_take (i := 11) (oi := ?oi288) (v := ?vi288) ?h288 (by kernel_rfl) (by kernel_rfl) (by kernel_rfl) ?q288 (Or.inl ⟨?w288, ?y288⟩) hHeld ?r288
                                  case h288 => simp only [zA, zB, zC] <;> exact rfl
                                  case q288 => exact fun _ _ _ h => h
                                  case w288 => rfl
                                  case y288 =>
                                    intro w hSw
                                    (try dsimp only at hSw)
                                    obtain ⟨s0, s1, s2⟩ := hSw
                                    go_simp
                                    try with_reducible rfl
                                  try simp only [zP, zN, zS, zT, zU]
                                  refine wpAnyH_take (i := 12) (oi := ?oi289) (v := ?vi289) ?h289 (by kernel_rfl) (by kernel_rfl) (by kernel_rfl) ?q289 (Or.inl ⟨?w289, ?y289⟩) hHeld ?r289
                                  case h289 => simp only [zA, zB, zC] <;> exact rfl
                                  case q289 => exact fun _ _ _ h => h
                                  case w289 => rfl
                                  case y289 =>
                                    intro w hSw
                                    (try dsimp only at hSw)
                                    obtain ⟨s0, s1, s2⟩ := hSw
                                    go_simp
                                    try with_reducible rfl
                                  try simp only [zP, zN, zS, zT, zU]
                                  refine wpAnyH_take (i := 13) (oi := ?oi290) (v := ?vi290) ?h290 (by kernel_rfl) (by kernel_rfl) (by kernel_rfl) ?q290 (Or.inl ⟨?w290, ?y290⟩) hHeld ?r290
                                  case h290 => simp only [zA, zB, zC] <;> exact rfl
                                  case q290 => exact fun _ _ _ h => h
                                  case w290 => rfl
                                  case y290 =>
                                    intro w hSw
                                    (try dsimp only at hSw)
                                    obtain ⟨s0, s1, s2⟩ := hSw
                                    go_simp
                                    try with_reducible rfl
                                  try simp only [zP, zN, zS, zT, zU]
                                  refine wpAnyH_take (i := 14) (oi := ?oi291) (v := ?vi291) ?h291 (by kernel_rfl) (by kernel_rfl) (by kernel_rfl) ?q291 (Or.inl ⟨?w291, ?y291⟩) hHeld ?r291
                                  case h291 => simp only [zA, zB, zC] <;> exact rfl
                                  case q291 => exact fun _ _ _ h => h
                                  case w291 => rfl
                                  case y291 =>
                                    intro w hSw
                                    (try dsimp only at hSw)
                                    obtain ⟨s0, s1, s2⟩ := hSw
                                    go_simp
                                    try with_reducible rfl
                                  try simp only [zP, zN, zS, zT, zU]
                                  refine wpAnyH_take (i := 15) (oi := ?oi292) (v := ?vi292) ?h292 (by kernel_rfl) (by kernel_rfl) (by kernel_rfl) ?q292 (Or.inl ⟨?w292, ?y292⟩) hHeld ?r292
                                  case h292 => simp only [zA, zB, zC] <;> exact rfl
                                  case q292 => exact fun _ _ _ h => h
                                  case w292 => rfl
                                  case y292 =>
                                    intro w hSw
                                    (try dsimp only at hSw)
                                    obtain ⟨s0, s1, s2⟩ := hSw
                                    go_simp
                                    try with_reducible rfl
                                  try simp only [zP, zN, zS, zT, zU]
                                  refine wpAnyH_take (i := 16) (oi := ?oi293) (v := ?vi293) ?h293 (by kernel_rfl) (by kernel_rfl) (by kernel_rfl) ?q293 (Or.inl ⟨?w293, ?y293⟩) hHeld ?r293
                                  case h293 => simp only [zA, zB, zC] <;> exact rfl
                                  case q293 => exact fun _ _ _ h => h
                                  case w293 => rfl
                                  case y293 =>
                                    intro w hSw
                                    (try dsimp only at hSw)
                                    obtain ⟨s0, s1, s2⟩ := hSw
                                    go_simp
                                    try with_reducible rfl
                                  try simp only [zP, zN, zS, zT, zU]
                                  refine wpAnyH_take (i := 17) (oi := ?oi294) (v := ?vi294) ?h294 (by kernel_rfl) (by kernel_rfl) (by kernel_rfl) ?q294 (Or.inl ⟨?w294, ?y294⟩) hHeld ?r294
                                  case h294 => simp only [zA, zB, zC] <;> exact rfl
                                  case q294 => exact fun _ _ _ h => h
                                  case w294 => rfl
                                  case y294 =>
                                    intro w hSw
                                    (try dsimp only at hSw)
                                    obtain ⟨s0, s1, s2⟩ := hSw
                                    go_simp
                                    try with_reducible rfl
                                  try simp only [zP, zN, zS, zT, zU]
                                  refine wpAnyH_take (i := 18) (oi := ?oi295) (v := ?vi295) ?h295 (by kernel_rfl) (by kernel_rfl) (by kernel_rfl) ?q295 (Or.inl ⟨?w295, ?y295⟩) hHeld ?r295
                                  case h295 => simp only [zA, zB, zC] <;> exact rfl
                                  case q295 => exact fun _ _ _ h => h
                                  case w295 => rfl
                                  case y295 =>
                                    intro w hSw
                                    (try dsimp only at hSw)
                                    obtain ⟨s0, s1, s2⟩ := hSw
                                    go_simp
                                    try with_reducible rfl
                                  try simp only [zP, zN, zS, zT, zU]
                                  refine wpAnyH_take (i := 19) (oi := ?oi296) (v := ?vi296) ?h296 (by kernel_rfl) (by kernel_rfl) (by kernel_rfl) ?q296 (Or.inl ⟨?w296, ?y296⟩) hHeld ?r296
                                  case h296 => simp only [zA, zB, zC] <;> exact rfl
                                  case q296 => exact fun _ _ _ h => h
                                  case w296 => rfl
                                  case y296 =>
                                    intro w hSw
                                    (try dsimp only at hSw)
                                    obtain ⟨s0, s1, s2⟩ := hSw
                                    go_simp
                                    try with_reducible rfl
                                  try simp only [zP, zN, zS, zT, zU]
                                  refine wpAnyH_take (i := 20) (oi := ?oi297) (v := ?vi297) ?h297 (by kernel_rfl) (by kernel_rfl) (by kernel_rfl) ?q297 (Or.inl ⟨?w297, ?y297⟩) hHeld ?r297
                                  case h297 => simp only [zA, zB, zC] <;> exact rfl
                                  case q297 => exact fun _ _ _ h => h
                                  case w297 => rfl
                                  case y297 =>
                                    intro w hSw
                                    (try dsimp only at hSw)
                                    obtain ⟨s0, s1, s2⟩ := hSw
                                    go_simp
                                    try with_reducible rfl
                                  try simp only [zP, zN, zS, zT, zU]
                                  refine wpAnyH_take (i := 21) (oi := ?oi298) (v := ?vi298) ?h298 (by kernel_rfl) (by kernel_rfl) (by kernel_rfl) ?q298 (Or.inl ⟨?w298, ?y298⟩) hHeld ?r298
                                  case h298 => simp only [zA, zB, zC] <;> exact rfl
                                  case q298 => exact fun _ _ _ h => h
                                  case w298 => rfl
                                  case y298 =>
                                    intro w hSw
                                    (try dsimp only at hSw)
                                    obtain ⟨s0, s1, s2⟩ := hSw
                                    go_simp
                                    try with_reducible rfl
                                  try simp only [zP, zN, zS, zT, zU]
                                  refine wpAnyH_done (by kernel_rfl) ?_ _
                                  go_wp2
                                  go_ret
                                  exact ⟨by rw [right_false HNO.out]; rfl, HF3.out⟩
    · have hke : k = n := by omega
      subst hke
      have p3 : ((k : Int) < (k : Int)) = False := eq_false (by omega)
      have hT : Tree l := HTR.out _ _ hR.out HX.out.1
      have HT := Lib.hid hT
      clear hlt hk hT
      go_wp2
      go_ret
      exact ⟨by rw [right_true HT.out]; rfl, hR.out.fp⟩
end Go.Proofs.YthaepjeikicigaaGreatDoor
