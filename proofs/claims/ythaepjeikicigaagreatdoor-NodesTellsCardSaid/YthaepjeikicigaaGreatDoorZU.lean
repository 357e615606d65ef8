/- Texts of this proof, merged. -/
import Derived.Test.YthaepjeikicigaaGreatDoorZS
import Derived.Test.YthaepjeikicigaaGreatDoorZG
import Derived.Test.YthaepjeikicigaaGreatDoorZQ
/- The document's Children. -/
namespace Go.Proofs.YthaepjeikicigaaGreatDoor
set_option linter.unusedSimpArgs false
set_option linter.unusedVariables false
set_option maxRecDepth 20000
set_option linter.unusedVariables false
set_option linter.unusedSimpArgs false
open Go.RowKit Pm
/-- Own nodes. -/
def OwnN (lo : Nat) (w : World) (v : Value) (l : List Nd) : Prop := w.ownsRow lo TN 5 v l.length (rows l)
theorem OwnN.nil (lo : Nat) (w : World) : OwnN lo w (.slice none 0 0) [] := World.ownsRow_nil _ _ _ _
theorem OwnN.non {lo : Nat} {w w' : World} {v : Value} {l : List Nd} (h : OwnN lo w v l) (f : Fp Non w w') : OwnN lo w' v l := f.owns h (fun _ _ h => h)
theorem OwnN.ns {lo : Nat} {w : World} {v : Value} {l : List Nd} (h : OwnN lo w v l) : Ns w v l := by
  have h' := h
  rcases h.2 with ⟨e, h0⟩ | ⟨g, cap, cur, e, hb, hg, h1, h2, h3, h4⟩
  · subst e
    obtain rfl : l = [] := by simpa using h0
    exact Ns.nil w
  · subst e
    exact (Nr.of_owns h' rfl).1.ns
theorem OwnN.shape {lo : Nat} {w : World} {v : Value} {l : List Nd} (h : OwnN lo w v l) : ∃ ao cap, v = .slice ao l.length cap := h.ns.shape
/-- Behind an append of a node. -/
structure AnN (lo : Nat) (w : World) (l : List Nd) (v' : Value) (w' : World) : Prop where
  own : OwnN lo w' v' l
  fp : Fp (fun k => lo ≤ k) w w'
theorem app_node (w : World) (lo : Nat) (v : Value) (l : List Nd) (x : Nd) (ty : TypeId) (ho : OwnN lo w v l) (hn : l.length ≤ 10000) (hlo : lo ≤ w.heap.size) :
    ∃ v' w', (Builtin.append_ #[TL, TL] ty #[v, .slice (some ⟨w.heap.size, 0, none⟩) 1 1]).run Tryz.prog (w.alloc (.cells #[.string (B x.path), .string (B x.data), .int .i64 x.ver, .int .i64 x.turn, .int .i64 x.own] TN)) = .ok v' w' ∧ AnN lo w (l ++ [x]) v' w' := by
  obtain ⟨G, cap, w', hr, hrow, hG, hg, _⟩ := app_nodes (w.alloc (.cells #[.string (B x.path), .string (B x.data), .int .i64 x.ver, .int .i64 x.turn, .int .i64 x.own] TN)) lo v l [x] ty w.heap.size 0 1 1 (ho.non ((Fp.refl Non w).alloc _)) rfl
    (fun i hi => by
      obtain rfl : i = 0 := by simp at hi; omega
      exact NdAt.box w x) (by simp; omega) (by simp; omega) (by simp)
  refine ⟨_, w', hr, ⟨?_, ?_⟩⟩
  · have := hrow.owns hG
    rw [List.length_append] at this
    unfold OwnN; rw [List.length_append]; exact this
  · refine ((Fp.refl (fun k => lo ≤ k) w).alloc _).grown hg (fun k hk => .inl ?_)
    exact (ho.lt k hk).1
theorem kids_take (l : List Nd) (p : Bs) (k : Nat) (hk : k < l.length) : kids (l.take (k + 1)) p = kids (l.take k) p ++ if (parent l[k].path == some p) = true then [l[k]] else [] := by
  unfold kids
  rw [List.take_succ_eq_append_getElem hk, List.filter_append]
  congr 1
  rw [List.filter_cons, List.filter_nil]
set_option maxHeartbeats 8000000 in
theorem rChildren_c (v : Value) (l : List Nd) (p : Bs) (w : World) (hv : Ns w v l) (hs : Sp l) (hl : l.length ≤ 2000) :
    Calls Tryz.prog 22 #[v, .string (B p)] w fun e w' => ∃ v', e = .returned v' ∧ OwnN w.heap.size w' v' (kids l p) ∧ Fp Non w w' := by
  obtain ⟨ao, cap, rfl⟩ := hv.shape
  obtain ⟨n, hn⟩ : ∃ n, n = l.length := ⟨_, rfl⟩
  rw [← hn]
  have HX := Lib.hid (And.intro hn (And.intro hs hv))
  have hn6 : n ≤ 2000 := by omega
  have H0 : Hid (OwnN w.heap.size w (.slice none 0 0) (kids (l.take 0) p) ∧ Fp Non w w) := ⟨by rw [List.take_zero]; exact OwnN.nil _ _, Fp.refl _ _⟩
  clear hs hn hl hv
  go_enter Tryz.func22, Tryz.ntmps22
  go_wp2_with fail
  go_loopw [5, 6] (fun v i wr => ∃ k : Nat, k ≤ n ∧ i = .int .i64 k ∧ Hid (OwnN w.heap.size wr v (kids (l.take k) p) ∧ Fp Non w wr)) (fun _ i _ => n - (RowKit.intOf i).toNat)
  case atStart => exact ⟨0, Nat.zero_le _, rfl, H0⟩
  case round =>
    clear H0
    obtain ⟨k, hk, rfl, hR⟩ := hrel
    rename_i wr _
    by_cases hlt : k < n
    · have hkl : k < l.length := by rw [← HX.out.1]; exact hlt
      obtain ⟨g, o, cap', e, _, _, _, hcell⟩ := HX.out.2.2.at (by omega)
      injection e with e1 e2 e3
      subst e1 e3
      have hnd := (hcell k hkl).keep hR.out.2 (fun h => h)
      have hstep := kids_take l p k hkl
      have hsp := HX.out.2.1 _ (List.getElem_mem hkl)
      generalize l[k] = x at *
      have hpa := fun w => rParent_g x.path w (sz_of hsp (by omega))
      obtain ⟨u, hu⟩ : ∃ u, (parent x.path).getD [] = u := ⟨_, rfl⟩
      obtain ⟨is, hi⟩ : ∃ b, (parent x.path).isSome = b := ⟨_, rfl⟩
      have hpp : (parent x.path == some p) = (is && (u == p)) := by
        cases h : parent x.path with
        | none => rw [h] at hi; subst hi; rfl
        | some u' => rw [h] at hi hu; simp only [Option.getD_some, Option.isSome_some] at hi hu; subst hi hu; simp
      rw [hu, hi] at hpa
      rw [hpp] at hstep
      have c0 := hnd.c0; have c1 := hnd.c1; have c2 := hnd.c2; have c3 := hnd.c3; have c4 := hnd.c4
      unfold strV at c0 c1
      have q3 : ((k : Int) < (n : Int)) = True := eq_true (by omega)
      have q4 : (k < n) = True := eq_true hlt
      have HPA := Lib.hid hpa
      have HB := Lib.hid (And.intro hstep hnd)
      have HL := Lib.hid hlt
      clear hnd hstep hkl hlt hsp hpa hu hi hpp hcell
      go_wp2_with fail
      refine (HPA.out _).mono ?_
      rintro e w2 ⟨rfl, g2⟩
      have HF2 := Lib.hid (And.intro (hR.out.2.then g2.fp) g2.fp)
      have HO2 := Lib.hid (hR.out.1.non g2.fp)
      have hn2 := HB.out.2.keep g2.fp (fun h => h)
      clear g2 c0 c1 c2 c3 c4
      cases is with
      | false =>
        have hM : Hid (OwnN w.heap.size w2 _ (kids (l.take (k + 1)) p) ∧ Fp Non w w2) := ⟨by rw [HB.out.1]; simpa using HO2.out, HF2.out.1⟩
        have hj1 := HL.out
        clear hn2 HO2 HF2
        go_wp2
        go_roundw
        case rel => exact ⟨k + 1, by omega, by go_num, hM⟩
        case measure => simp [RowKit.intOf]; omega
      | true =>
        by_cases hup : u = p
        · have q5 : (u == p) = true := beq_iff_eq.2 hup
          have q6 : (u = p) = True := eq_true hup
          have HUP := Lib.hid hup
          clear hup
          have c0 := hn2.c0; have c1 := hn2.c1; have c2 := hn2.c2; have c3 := hn2.c3; have c4 := hn2.c4
          unfold strV at c0 c1
          clear hn2
          obtain ⟨ks, hks⟩ : ∃ ks, ks = kids (l.take k) p := ⟨_, rfl⟩
          have hap := app_node w2 w.heap.size _ ks x TL (by rw [hks]; exact HO2.out) (by rw [hks]; exact Nat.le_trans (List.length_filter_le _ _) (by rw [List.length_take]; omega)) HF2.out.1.size
          obtain ⟨vao, vcap, rfl⟩ := HO2.out.shape
          rw [← hks] at hap
          have HKS := Lib.hid hks
          have HAP := Lib.hid hap
          rw [← hks]
          clear hap hks
          go_wp2_with (at_builtin; go_must (refine wpList_app rfl _ _ _ _ rfl _ _ rfl rfl _ HAP.out ?_))
          intro v4 w4 hR4
          have hM : Hid (OwnN w.heap.size w4 v4 (kids (l.take (k + 1)) p) ∧ Fp Non w w4) := ⟨by rw [HB.out.1, q5]; have := hR4.own; rw [HKS.out] at this; simpa using this, HF2.out.1.trans hR4.fp (fun k hk => .inr hk)⟩
          have hj1 := HL.out
          clear hR4
          go_wp2
          go_roundw
          case rel => exact ⟨k + 1, by omega, by go_num, hM⟩
          case measure => simp [RowKit.intOf]; omega
        · have q5 : (u == p) = false := beq_eq_false_iff_ne.2 hup
          have q6 : (u = p) = False := eq_false hup
          have hM : Hid (OwnN w.heap.size w2 _ (kids (l.take (k + 1)) p) ∧ Fp Non w w2) := ⟨by rw [HB.out.1, q5]; simpa using HO2.out, HF2.out.1⟩
          have hj1 := HL.out
          clear hup hn2 HO2 HF2
          go_wp2
          go_roundw
          case rel => exact ⟨k + 1, by omega, by go_num, hM⟩
          case measure => simp [RowKit.intOf]; omega
    · have hke : k = n := by omega
      subst hke
      have q3 : ((k : Int) < (k : Int)) = False := eq_false (by omega)
      have hfin := hR.out.1
      rw [List.take_of_length_le (by rw [← HX.out.1]; exact Nat.le_refl _)] at hfin
      have HF := Lib.hid hfin
      clear hlt hk hfin
      go_wp2
      go_ret
      exact ⟨_, rfl, HF.out, hR.out.2⟩
end Go.Proofs.YthaepjeikicigaaGreatDoor
