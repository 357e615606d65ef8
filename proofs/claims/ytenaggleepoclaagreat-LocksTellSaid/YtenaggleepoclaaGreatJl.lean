/- The live question of layer 10: its answer is true; great (gen_jl.py) -/
import Derived.Test.YtenaggleepoclaaGreatJk
import Derived.Test.YtenaggleepoclaaGreatJo
namespace Go.Proofs.YtenaggleepoclaaGreat
set_option maxRecDepth 20000
set_option linter.unusedVariables false
set_option linter.unusedSimpArgs false
open Go.RowKit Pm


theorem TkR.sh {l : List Hl} {t a : Int} {ds : List Bs} {w w' : World} {e : Ending} (h : TkR l t a ds w e w') : ∃ x c y d, e = .returned (.tuple #[.slice x (takeH l t a ds).1.length c, .slice y (takeH l t a ds).2.1.length d, .bool (takeH l t a ds).2.2]) ∧ NsH w' (.slice x (takeH l t a ds).1.length c) (takeH l t a ds).1 ∧ Nm w' (.slice y (takeH l t a ds).2.1.length d) (takeH l t a ds).2.1 := by
  obtain ⟨v', vn, rfl, h1, h2⟩ := h.ex
  obtain ⟨x, c, rfl⟩ := h1.shape
  obtain ⟨y, d, rfl⟩ := h2.shape
  exact ⟨x, c, y, d, rfl, h1, h2⟩
/-- Texts as they lie in a row. -/
theorem tx_row {W : World} {b : Nat} {cs : List Value} (l : List Bs) (h : W.heap[b]? = some (.cells cs.toArray TS (0, 0))) (e : cs = rowsG txC l) (n : Nat) (hn : n = l.length) : Tx W (.slice (some ⟨b, 0, none⟩) n n) l := by
  subst hn
  refine ⟨some ⟨b, 0, none⟩, l.length, rfl, .inr ⟨b, 0, rfl, fun i hi => ⟨fun j v hv => ?_⟩⟩⟩
  have hj : j < 1 := by have := (List.getElem?_eq_some_iff.1 hv).1; simpa [txC] using this
  rw [cell_of_row W b _ _ TS (0, 0) h, Nat.zero_add, List.getElem?_toArray, e, rowsG_get txC_len l i j hi hj]
  exact hv
theorem pc_row {W : World} {b : Nat} {cs : List Value} (l : List Pc) (h : W.heap[b]? = some (.cells cs.toArray 47 (0, 0))) (e : cs = rowsG pcC l) (n : Nat) (hn : n = l.length) : Sg pcC 8 W (.slice (some ⟨b, 0, none⟩) n n) l := by
  subst hn
  refine ⟨some ⟨b, 0, none⟩, l.length, rfl, .inr ⟨b, 0, rfl, fun i hi => ⟨fun j v hv => ?_⟩⟩⟩
  have hj : j < 8 := by have := (List.getElem?_eq_some_iff.1 hv).1; simpa [pcC] using this
  rw [cell_of_row W b _ _ _ (0, 0) h, Nat.zero_add, List.getElem?_toArray, e, rowsG_get pcC_len l i j hi hj]
  exact hv
theorem Kp.nsH {W : World} {v : Value} {l : List Hl} (h : NsH W v l) : Kp (fun W' => NsH W' v l) W := fun W' f => h.non f
theorem Kp.nm {W : World} {v : Value} {l : List Int} (h : Nm W v l) : Kp (fun W' => Nm W' v l) W := fun W' f => h.non f
theorem Kp.tx {W : World} {v : Value} {l : List Bs} (h : Tx W v l) : Kp (fun W' => Tx W' v l) W := fun W' f => h.non f
def hdA : List Hl := [⟨[47, 97], 5, 9⟩, ⟨[47, 98], 5, 9⟩]
theorem hd_1 : takeH [] 5 9 [[47, 97], [47, 98]] = (hdA, [], true) := by decide
theorem hd_2 : takeH hdA 3 2 [[47, 98], [47, 99]] = (hdA, [5], false) := by decide
theorem hd_3 : takeH hdA 7 12 [[47, 98]] = (hdA, [], false) := by decide
theorem hd_4 : freeH hdA 5 = [] := by decide
theorem hd_5 : heldH hdA [47, 98] = some ⟨[47, 98], 5, 9⟩ := by decide
theorem hd_6 : ordB [[47, 122], [47], [47, 122]] = [[47], [47, 122]] := by decide
theorem hd_7 : rightH hdA = true := by decide
theorem hd_sp : HSp hdA := fun x hx => by
  rcases List.mem_cons.1 hx with rfl | hx
  · simp
  · rcases List.mem_cons.1 hx with rfl | hx
    · simp
    · cases hx
def hdP : List Pc := [⟨0, 0, [47, 122], [], [], 0, 0, false⟩, ⟨0, 0, [47], [], [], 0, 0, false⟩, ⟨0, 0, [47, 122], [], [], 0, 0, false⟩]

set_option maxHeartbeats 8000000 in
theorem head_c (w : World) : Calls Tryz.prog 8 #[] w fun e w' => e = .returned (.bool true) ∧ Fp Non w w' := by
  have s1 : SSp [[47, 97], [47, 98]] := fun x hx => by simp at hx; rcases hx with rfl | rfl <;> simp
  have s2 : SSp [[47, 98], [47, 99]] := fun x hx => by simp at hx; rcases hx with rfl | rfl <;> simp
  have s3 : SSp [[47, 98]] := fun x hx => by simp at hx; subst hx; simp
  have h1 := fun v W (hd : Tx W v [[47, 97], [47, 98]]) => Take_c (.slice none 0 0) v [] 5 9 _ W (NsH.nil W) (fun x hx => by cases hx) hd s1 (by simp) (by simp)
  have h2 := fun u v W (hu : NsH W u hdA) (hd : Tx W v [[47, 98], [47, 99]]) => Take_c u v hdA 3 2 _ W hu hd_sp hd s2 (by decide) (by simp)
  have h3 := fun u v W (hu : NsH W u hdA) (hd : Tx W v [[47, 98]]) => Take_c u v hdA 7 12 _ W hu hd_sp hd s3 (by decide) (by simp)
  have h4 := fun u W (hu : NsH W u hdA) => Free_c u hdA 5 W hu hd_sp (by decide)
  have h5 := fun u W (hu : NsH W u hdA) => Held_c u hdA [47, 98] W hu hd_sp (by decide)
  have h6 := fun v W (hd : Sg pcC 8 W v hdP) => Dirs_c v hdP W hd (by decide)
  have h7 := fun u W (hu : NsH W u hdA) => RightH_c u hdA W hu hd_sp (by decide)
  rw [hd_4] at h4
  rw [hd_5] at h5
  rw [show hdP.map Pc.dir = [[47, 122], [47], [47, 122]] from rfl, hd_6] at h6
  rw [hd_7] at h7
  have H1 := Lib.hid h1
  have H2 := Lib.hid h2
  have H3 := Lib.hid h3
  have H4 := Lib.hid h4
  have H5 := Lib.hid h5
  have H6 := Lib.hid h6
  have H7 := Lib.hid h7
  clear h1 h2 h3 h4 h5 h6 h7 s1 s2 s3
  go_enter Tryz.func8, Tryz.ntmps8
  go_wp2_with fail
  refine (H1.out _ _ (tx_row [[47, 97], [47, 98]] (heap_alloc_new w _) rfl 2 rfl)).mono ?_
  rintro e w1 hR
  obtain ⟨a1, c1, b1, d1, rfl, n1, m1⟩ := hR.sh
  rw [hd_1] at n1 m1 ⊢
  have K1 := Lib.hid (Kp.and (Kp.nsH n1) (Kp.fp ((fp_alloc w _).then hR.fp)))
  clear hR n1 m1
  simp only [show hdA.length = 2 from rfl, List.length_nil] at K1 ⊢
  go_wp2_with fail
  refine (H2.out _ _ _ (K1.out.later (fp_alloc w1 _)).now.1 (tx_row [[47, 98], [47, 99]] (heap_alloc_new w1 _) rfl 2 rfl)).mono ?_
  rintro e w2 hR
  obtain ⟨a2, c2, b2, d2, rfl, n2, m2⟩ := hR.sh
  rw [hd_2] at n2 m2 ⊢
  simp only [show hdA.length = 2 from rfl, List.length_cons, List.length_nil] at n2 m2 ⊢
  have K2 := Lib.hid (Kp.and (Kp.nm m2) (K1.out.later ((fp_alloc w1 _).then hR.fp)))
  clear hR n2 m2
  go_wp2_with fail
  refine (H3.out _ _ _ (K2.out.later (fp_alloc w2 _)).now.2.1 (tx_row [[47, 98]] (heap_alloc_new w2 _) rfl 1 rfl)).mono ?_
  rintro e w3 hR
  obtain ⟨a3, c3, b3, d3, rfl, n3, m3⟩ := hR.sh
  rw [hd_3] at n3 m3 ⊢
  simp only [show hdA.length = 2 from rfl, List.length_cons, List.length_nil] at n3 m3 ⊢
  have K3 := Lib.hid (K2.out.later ((fp_alloc w2 _).then hR.fp))
  clear hR n3 m3
  go_wp2_with fail
  refine (H4.out _ _ K3.out.now.2.1).mono ?_
  rintro e w4 ⟨v4, rfl, h4⟩
  obtain ⟨a4, c4, rfl⟩ := h4.own.ns.shape
  have K4 := Lib.hid (K3.out.later h4.fp)
  clear h4
  simp only [List.length_nil]
  go_wp2_with fail
  refine (H5.out _ _ K4.out.now.2.1).mono ?_
  rintro e w5 ⟨rfl, hf⟩
  have K5 := Lib.hid (K4.out.later hf)
  clear hf
  go_wp2_with fail
  refine (H6.out _ _ (pc_row hdP (heap_alloc_new w5 _) rfl 3 rfl)).mono ?_
  rintro e w6 ⟨v6, rfl, h6⟩
  have ht6 := OwG.sg txC_len h6.own
  obtain ⟨g6, o6, c6, rfl, hc6⟩ := Sg.txs ht6 (by decide)
  have K6 := Lib.hid (Kp.and (Kp.tx ht6) (K5.out.later ((fp_alloc w5 _).then h6.fp)))
  have t0 := hc6 0 (by decide)
  obtain ⟨g2, o2, cc2, e2, hcm⟩ := K6.out.now.2.1.at (by decide)
  injection e2 with e21 e22 e23
  subst e21 e23
  have u0 := (hcm 0 (by decide)).get 0 _ rfl
  have HR := Lib.hid (H7.out _ _ K6.out.now.2.2.1)
  clear h6 ht6 hc6 hcm
  rw [Nat.add_zero, List.getElem_cons_zero] at t0
  simp only [Nat.zero_mul, Nat.add_zero, List.getElem_cons_zero] at u0
  simp only [B] at t0
  rw [show List.length [[(47 : UInt8)], [47, 122]] = 2 from rfl]
  go_wp2_with fail
  refine HR.out.mono ?_
  rintro e w7 ⟨rfl, hf⟩
  have F := Lib.hid (K6.out.now.2.2.2.then hf)
  clear hf
  go_wp2
  go_ret
  exact ⟨rfl, F.out⟩

/-- Not too much. -/
structure Few (l : List Hl) (ds : List Bs) : Prop where
  nl : l.length ≤ 200
  nd : ds.length ≤ 200
  lp : ∀ x ∈ l, x.d.length ≤ 3000
  dp : ∀ x ∈ ds, x.length ≤ 3000
theorem Few.hs {l : List Hl} {ds : List Bs} (h : Few l ds) : HSp l := fun x hx => by have := h.lp x hx; omega
theorem Few.ss {l : List Hl} {ds : List Bs} (h : Few l ds) : SSp ds := fun x hx => by have := h.dp x hx; omega
structure GrA (l : List Hl) (w : World) (k : Nat) (N : Int) (wr : World) : Prop where
  fp : Fp Non w wr
  eq : ∀ j (h : j < l.length), j < k → min (l[j].d.length : Int) 3000 ≤ N
structure GrB (l : List Bs) (w : World) (k : Nat) (N : Int) (wr : World) : Prop where
  fp : Fp Non w wr
  eq : ∀ j (h : j < l.length), j < k → min (l[j].length : Int) 3000 ≤ N
theorem min3 (a : Nat) : (0 : Int) ≤ min (a : Int) 3000 ∧ min (a : Int) 3000 ≤ 3000 := by omega
theorem GrA.next {l : List Hl} {w wr wr' : World} {k : Nat} {N : Int} (h : GrA l w k N wr) (f : Fp Non wr wr') (h0 : 0 ≤ N) (hk : k < l.length) : GrA l w (k + 1) (N + min (l[k].d.length : Int) 3000) wr' := by
  have m1 := min3 l[k].d.length
  refine ⟨h.fp.then f, fun j hj hjk => ?_⟩
  rcases Nat.lt_or_eq_of_le (show j ≤ k by omega) with e | e
  · have := h.eq j hj e; omega
  · subst e; omega
theorem GrB.next {l : List Bs} {w wr wr' : World} {k : Nat} {N : Int} (h : GrB l w k N wr) (f : Fp Non wr wr') (h0 : 0 ≤ N) (hk : k < l.length) : GrB l w (k + 1) (N + min (l[k].length : Int) 3000) wr' := by
  have m1 := min3 l[k].length
  refine ⟨h.fp.then f, fun j hj hjk => ?_⟩
  rcases Nat.lt_or_eq_of_le (show j ≤ k by omega) with e | e
  · have := h.eq j hj e; omega
  · subst e; omega

set_option maxHeartbeats 8000000 in
theorem great_c (v vd : Value) (l : List Hl) (ds : List Bs) (w : World) (hv : NsH w v l) (hd : Tx w vd ds) (hn : l.length ≤ 140737488355328) (hm : ds.length ≤ 140737488355328) :
    Calls Tryz.prog 9 #[v, vd] w fun e w' => ∃ g : Bool, e = .returned (.bool g) ∧ (g = false → Few l ds) ∧ Fp Non w w' := by
  obtain ⟨ao, cap, rfl⟩ := hv.shape
  obtain ⟨ad, cd, rfl⟩ := hd.shape
  obtain ⟨n, hnn⟩ : ∃ n, n = l.length := ⟨_, rfl⟩
  obtain ⟨m, hmm⟩ : ∃ m, m = ds.length := ⟨_, rfl⟩
  rw [← hnn] at hn ⊢
  rw [← hmm] at hm hd ⊢
  have HX := Lib.hid (And.intro hnn (And.intro hmm (And.intro hv hd)))
  clear hv hd hnn hmm
  have q0 : IntKind.i64.wrap ((n : Int) + (m : Int)) = (n : Int) + (m : Int) := by rw [IntKind.wrap_i64]; omega
  go_enter Tryz.func9, Tryz.ntmps9
  go_wp2_with fail
  go_loopw [5, 6] (fun x i wr => ∃ k : Nat, k ≤ n ∧ i = .int .i64 k ∧ ∃ N : Int, x = .int .i64 N ∧ ((n : Int) + (m : Int) ≤ N) ∧ (N ≤ 562949953421312) ∧ Hid (GrA l w k N wr)) (fun _ i _ => n - (RowKit.intOf i).toNat)
  case atStart => exact ⟨0, Nat.zero_le _, rfl, (n : Int) + (m : Int), rfl, Int.le_refl _, by omega, ⟨Fp.refl _ _, fun j _ h => absurd h (Nat.not_lt_zero j)⟩⟩
  case round =>
    obtain ⟨k, hk, rfl, N, rfl, hN, hNN, hR⟩ := hrel
    rename_i wr _
    by_cases hlt : k < n ∧ N < 3000
    · obtain ⟨hlt, hN3⟩ := hlt
      have hkl : k < l.length := by rw [← HX.out.1]; exact hlt
      have q3 : ((k : Int) < (n : Int)) = True := eq_true (by omega)
      have q4 : (k < n) = True := eq_true hlt
      have q5 : (N < 3000) = True := eq_true hN3
      obtain ⟨g, o, cap', e, _, _, _, hcell⟩ := HX.out.2.2.1.at (by omega)
      rw [← HX.out.1] at e
      injection e with e1 e2 e3
      subst e1 e3
      have hnd := (hcell k hkl).keep hR.out.fp (fun h => h)
      have hnx := fun wr' f => hR.out.next (wr' := wr') f (by omega) hkl
      have HNX := Lib.hid hnx
      have HL := Lib.hid (And.intro hlt (And.intro hN3 hN))
      have hb3 := min3 l[k].d.length
      have hnb : n < 3000 := by omega
      have hN0 : 0 ≤ N := by omega
      clear hnx hlt hcell hN3 hN
      obtain ⟨x, hx⟩ : ∃ x, x = l[k] := ⟨_, rfl⟩
      simp only [← hx] at hnd HNX hb3
      clear hx hkl
      obtain ⟨xd, xt, xa⟩ := x
      have c0 := hnd.c0
      unfold strV at c0
      simp only at c0 HNX hb3
      have HB3 := Lib.hid hb3
      clear hnd hb3
      go_wp2_with fail
      try go_quiet (fail)
      go_wp2_with fail
      have hb := HB3.out
      have hj := HL.out
      refine ⟨⟨k + 1, by omega, by go_num, _, rfl, by omega, by omega, HNX.out _ (by first | exact Fp.refl _ _ | exact (Fp.refl _ _).drew | exact (Fp.refl _ _).drewN _)⟩, ?_⟩
      simp [RowKit.intOf]; omega
    · have hR1 := hR
      have HK := Lib.hid (And.intro hk hlt)
      have q3 : (decide ((k : Int) < (n : Int)) && decide (N < 3000)) = false := by
        by_cases h1 : k < n
        · have : ¬ N < 3000 := fun h => hlt ⟨h1, h⟩
          simp [this]
        · have : ¬ ((k : Int) < (n : Int)) := by omega
          simp [this]
      by_cases hk3 : k < n
      · have hN3 : ¬ N < 3000 := fun h => hlt ⟨hk3, h⟩
        have q4 : ((k : Int) < (n : Int)) = True := eq_true (by omega)
        have q5 : (k < n) = True := eq_true hk3
        have q6 : (N < 3000) = False := eq_false hN3
        clear hk3 hN3 hlt hk q3
        go_wp2_with fail
        go_loopw [5, 7] (fun x i wr => ∃ j : Nat, j ≤ m ∧ i = .int .i64 j ∧ ∃ M : Int, x = .int .i64 M ∧ (N ≤ M) ∧ (M ≤ 1125899906842624) ∧ Hid (GrB ds w j M wr)) (fun _ i _ => m - (RowKit.intOf i).toNat)
        case atStart => exact ⟨0, Nat.zero_le _, rfl, N, rfl, Int.le_refl _, by omega, ⟨hR.out.fp, fun j _ h => absurd h (Nat.not_lt_zero j)⟩⟩
        case round =>
          obtain ⟨j, hj, rfl, M, rfl, hM, hMM, hS⟩ := hrel
          rename World => wr2
          by_cases hlt2 : j < m ∧ M < 3000
          · obtain ⟨hlt, hM3⟩ := hlt2
            have hjl : j < ds.length := by rw [← HX.out.2.1]; exact hlt
            have p3 : ((j : Int) < (m : Int)) = True := eq_true (by omega)
            have p4 : (j < m) = True := eq_true hlt
            have p5 : (M < 3000) = True := eq_true hM3
            obtain ⟨g, o, cap', e, hcell⟩ := HX.out.2.2.2.txs (by omega)
            rw [← HX.out.2.1] at e
            injection e with e1 e2 e3
            subst e1 e3
            have c0 := hS.out.fp.cell (hcell j hjl) (fun h => h)
            have hnx := fun wr' f => hS.out.next (wr' := wr') f (by omega) hjl
            have HNX := Lib.hid hnx
            have HL := Lib.hid (And.intro hlt (And.intro hM3 hM))
            have hb3 := min3 ds[j].length
            have hM0 : 0 ≤ M := by omega
            have hmb : m < 3000 := by omega
            clear hnx hlt hcell hM3
            obtain ⟨x, hx⟩ : ∃ x, x = ds[j] := ⟨_, rfl⟩
            simp only [← hx] at c0 HNX hb3
            clear hx hjl
            have HB3 := Lib.hid hb3
            clear hb3
            go_wp2_with fail
            try go_quiet (fail)
            go_wp2_with fail
            have hb := HB3.out
            have hj2 := HL.out
            go_roundw
            case rel => exact ⟨j + 1, by omega, by go_num, _, rfl, by omega, by omega, HNX.out _ (by first | exact Fp.refl _ _ | exact (Fp.refl _ _).drew | exact (Fp.refl _ _).drewN _)⟩
            case measure => simp [RowKit.intOf]; omega
          · have HE := Lib.hid (And.intro hlt2 (And.intro hj hM))
            have hfin : M < 3000 → n ≤ 200 → m ≤ 200 → Few l ds := fun h1 h2 h3 => by
              have hk' : k = n := by
                have := HK.out
                rcases Nat.lt_or_eq_of_le this.1 with h | h
                · exact absurd ⟨h, by omega⟩ this.2
                · exact h
              have hj' : j = m := by
                rcases Nat.lt_or_eq_of_le hj with h | h
                · exact absurd ⟨h, h1⟩ hlt2
                · exact h
              refine ⟨by rw [← HX.out.1]; exact h2, by rw [← HX.out.2.1]; exact h3, fun x hx => ?_, fun x hx => ?_⟩
              · obtain ⟨i, hi, rfl⟩ := List.getElem_of_mem hx
                have := hR.out.eq i hi (by rw [hk', HX.out.1]; exact hi)
                omega
              · obtain ⟨i, hi, rfl⟩ := List.getElem_of_mem hx
                have := hS.out.eq i hi (by rw [hj', HX.out.2.1]; exact hi)
                omega
            have HFIN := Lib.hid hfin
            clear hfin
            have hend : ∀ b1 b2 b3 : Prop, True := fun _ _ _ => trivial
            by_cases hj3 : j < m
            · have hM3 : ¬ M < 3000 := fun h => hlt2 ⟨hj3, h⟩
              have p3 : ((j : Int) < (m : Int)) = True := eq_true (by omega)
              have p4 : (j < m) = True := eq_true hj3
              have p5 : (M < 3000) = False := eq_false hM3
              have p6 : ((3000 : Int) ≤ M) = True := eq_true (by omega)
              clear hj3 hM3 hlt2 hend
              go_wp2
              go_ret
              exact ⟨true, rfl, fun h => by simp at h, hS.out.fp⟩
            · have p3 : ((j : Int) < (m : Int)) = False := eq_false (by omega)
              have p4 : (j < m) = False := eq_false hj3
              clear hj3 hlt2 hend
              by_cases hM3 : M < 3000
              · have p5 : (M < 3000) = True := eq_true hM3
                have p6 : ((3000 : Int) ≤ M) = False := eq_false (by omega)
                by_cases h2 : 200 < n
                · have p7 : ((200 : Int) < (n : Int)) = True := eq_true (by omega)
                  have p8 : (200 < n) = True := eq_true h2
                  clear h2 hM3
                  go_wp2
                  go_ret
                  exact ⟨true, rfl, fun h => by simp at h, hS.out.fp⟩
                · have p7 : ((200 : Int) < (n : Int)) = False := eq_false (by omega)
                  have p8 : (200 < n) = False := eq_false h2
                  by_cases h3 : 200 < m
                  · have p9 : ((200 : Int) < (m : Int)) = True := eq_true (by omega)
                    have p10 : (200 < m) = True := eq_true h3
                    clear h3 h2 hM3
                    go_wp2
                    go_ret
                    exact ⟨true, rfl, fun h => by simp at h, hS.out.fp⟩
                  · have p9 : ((200 : Int) < (m : Int)) = False := eq_false (by omega)
                    have p10 : (200 < m) = False := eq_false h3
                    have HFW := Lib.hid (HFIN.out hM3 (by omega) (by omega))
                    clear h3 h2 hM3
                    go_wp2
                    go_ret
                    exact ⟨false, rfl, fun _ => HFW.out, hS.out.fp⟩
              · have p5 : (M < 3000) = False := eq_false hM3
                have p6 : ((3000 : Int) ≤ M) = True := eq_true (by omega)
                clear hM3
                go_wp2
                go_ret
                exact ⟨true, rfl, fun h => by simp at h, hS.out.fp⟩
      · have q4 : ((k : Int) < (n : Int)) = False := eq_false (by omega)
        have q5 : (k < n) = False := eq_false hk3
        clear hk3 hlt hk q3
        go_wp2_with fail
        go_loopw [5, 7] (fun x i wr => ∃ j : Nat, j ≤ m ∧ i = .int .i64 j ∧ ∃ M : Int, x = .int .i64 M ∧ (N ≤ M) ∧ (M ≤ 1125899906842624) ∧ Hid (GrB ds w j M wr)) (fun _ i _ => m - (RowKit.intOf i).toNat)
        case atStart => exact ⟨0, Nat.zero_le _, rfl, N, rfl, Int.le_refl _, by omega, ⟨hR.out.fp, fun j _ h => absurd h (Nat.not_lt_zero j)⟩⟩
        case round =>
          obtain ⟨j, hj, rfl, M, rfl, hM, hMM, hS⟩ := hrel
          rename World => wr2
          by_cases hlt2 : j < m ∧ M < 3000
          · obtain ⟨hlt, hM3⟩ := hlt2
            have hjl : j < ds.length := by rw [← HX.out.2.1]; exact hlt
            have p3 : ((j : Int) < (m : Int)) = True := eq_true (by omega)
            have p4 : (j < m) = True := eq_true hlt
            have p5 : (M < 3000) = True := eq_true hM3
            obtain ⟨g, o, cap', e, hcell⟩ := HX.out.2.2.2.txs (by omega)
            rw [← HX.out.2.1] at e
            injection e with e1 e2 e3
            subst e1 e3
            have c0 := hS.out.fp.cell (hcell j hjl) (fun h => h)
            have hnx := fun wr' f => hS.out.next (wr' := wr') f (by omega) hjl
            have HNX := Lib.hid hnx
            have HL := Lib.hid (And.intro hlt (And.intro hM3 hM))
            have hb3 := min3 ds[j].length
            have hM0 : 0 ≤ M := by omega
            have hmb : m < 3000 := by omega
            clear hnx hlt hcell hM3
            obtain ⟨x, hx⟩ : ∃ x, x = ds[j] := ⟨_, rfl⟩
            simp only [← hx] at c0 HNX hb3
            clear hx hjl
            have HB3 := Lib.hid hb3
            clear hb3
            go_wp2_with fail
            try go_quiet (fail)
            go_wp2_with fail
            have hb := HB3.out
            have hj2 := HL.out
            go_roundw
            case rel => exact ⟨j + 1, by omega, by go_num, _, rfl, by omega, by omega, HNX.out _ (by first | exact Fp.refl _ _ | exact (Fp.refl _ _).drew | exact (Fp.refl _ _).drewN _)⟩
            case measure => simp [RowKit.intOf]; omega
          · have HE := Lib.hid (And.intro hlt2 (And.intro hj hM))
            have hfin : M < 3000 → n ≤ 200 → m ≤ 200 → Few l ds := fun h1 h2 h3 => by
              have hk' : k = n := by
                have := HK.out
                rcases Nat.lt_or_eq_of_le this.1 with h | h
                · exact absurd ⟨h, by omega⟩ this.2
                · exact h
              have hj' : j = m := by
                rcases Nat.lt_or_eq_of_le hj with h | h
                · exact absurd ⟨h, h1⟩ hlt2
                · exact h
              refine ⟨by rw [← HX.out.1]; exact h2, by rw [← HX.out.2.1]; exact h3, fun x hx => ?_, fun x hx => ?_⟩
              · obtain ⟨i, hi, rfl⟩ := List.getElem_of_mem hx
                have := hR.out.eq i hi (by rw [hk', HX.out.1]; exact hi)
                omega
              · obtain ⟨i, hi, rfl⟩ := List.getElem_of_mem hx
                have := hS.out.eq i hi (by rw [hj', HX.out.2.1]; exact hi)
                omega
            have HFIN := Lib.hid hfin
            clear hfin
            have hend : ∀ b1 b2 b3 : Prop, True := fun _ _ _ => trivial
            by_cases hj3 : j < m
            · have hM3 : ¬ M < 3000 := fun h => hlt2 ⟨hj3, h⟩
              have p3 : ((j : Int) < (m : Int)) = True := eq_true (by omega)
              have p4 : (j < m) = True := eq_true hj3
              have p5 : (M < 3000) = False := eq_false hM3
              have p6 : ((3000 : Int) ≤ M) = True := eq_true (by omega)
              clear hj3 hM3 hlt2 hend
              go_wp2
              go_ret
              exact ⟨true, rfl, fun h => by simp at h, hS.out.fp⟩
            · have p3 : ((j : Int) < (m : Int)) = False := eq_false (by omega)
              have p4 : (j < m) = False := eq_false hj3
              clear hj3 hlt2 hend
              by_cases hM3 : M < 3000
              · have p5 : (M < 3000) = True := eq_true hM3
                have p6 : ((3000 : Int) ≤ M) = False := eq_false (by omega)
                by_cases h2 : 200 < n
                · have p7 : ((200 : Int) < (n : Int)) = True := eq_true (by omega)
                  have p8 : (200 < n) = True := eq_true h2
                  clear h2 hM3
                  go_wp2
                  go_ret
                  exact ⟨true, rfl, fun h => by simp at h, hS.out.fp⟩
                · have p7 : ((200 : Int) < (n : Int)) = False := eq_false (by omega)
                  have p8 : (200 < n) = False := eq_false h2
                  by_cases h3 : 200 < m
                  · have p9 : ((200 : Int) < (m : Int)) = True := eq_true (by omega)
                    have p10 : (200 < m) = True := eq_true h3
                    clear h3 h2 hM3
                    go_wp2
                    go_ret
                    exact ⟨true, rfl, fun h => by simp at h, hS.out.fp⟩
                  · have p9 : ((200 : Int) < (m : Int)) = False := eq_false (by omega)
                    have p10 : (200 < m) = False := eq_false h3
                    have HFW := Lib.hid (HFIN.out hM3 (by omega) (by omega))
                    clear h3 h2 hM3
                    go_wp2
                    go_ret
                    exact ⟨false, rfl, fun _ => HFW.out, hS.out.fp⟩
              · have p5 : (M < 3000) = False := eq_false hM3
                have p6 : ((3000 : Int) ≤ M) = True := eq_true (by omega)
                clear hM3
                go_wp2
                go_ret
                exact ⟨true, rfl, fun h => by simp at h, hS.out.fp⟩
end Go.Proofs.YtenaggleepoclaaGreat
