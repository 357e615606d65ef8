/- The document's Free, Held, Dirs; GreatPieces -/
import Derived.Test.YtenaggleepoclaaGreatKb
namespace Go.Proofs.YtenaggleepoclaaGreat
set_option maxRecDepth 20000
set_option linter.unusedVariables false
set_option linter.unusedSimpArgs false
open Go.RowKit Pm

theorem freeH_take (l : List Hl) (t : Int) (k : Nat) (h : k < l.length) : freeH (l.take (k + 1)) t = freeH (l.take k) t ++ (if l[k].t ≠ t then [l[k]] else []) := by
  unfold freeH
  rw [List.take_succ_eq_append_getElem h, List.filter_append]
  congr 1
  by_cases c : l[k].t ≠ t
  · rw [if_pos c, List.filter_cons_of_pos (by rw [decide_eq_true_eq]; exact c)]; rfl
  · rw [if_neg c, List.filter_cons_of_neg (by rw [decide_eq_true_eq]; exact c)]; rfl
set_option maxHeartbeats 4000000 in
theorem rFree_c (v : Value) (l : List Hl) (t : Int) (w : World) (hv : NsH w v l) (hn : l.length ≤ 90000) :
    Calls Tryz.prog 20 #[v, .int .i64 t] w fun e w' => ∃ v', e = .returned v' ∧ HlR w (freeH l t) v' w' := by
  obtain ⟨ao, cap, rfl⟩ := hv.shape
  obtain ⟨n, hnn⟩ : ∃ n, n = l.length := ⟨_, rfl⟩
  have HX := Lib.hid (And.intro hnn hv)
  rw [← hnn]
  have hnb : n ≤ 90000 := by omega
  have H0 : Hid (OwH w.heap.size w (.slice none 0 0) (freeH (l.take 0) t) ∧ Fp Non w w) := ⟨OwH.nil _ _, Fp.refl _ _⟩
  clear hv hn hnn
  go_enter Tryz.func20, Tryz.ntmps20
  go_wp2_with fail
  go_loopw [5, 6] (fun d i wr => ∃ k : Nat, k ≤ n ∧ i = .int .i64 k ∧ Hid (OwH w.heap.size wr d (freeH (l.take k) t) ∧ Fp Non w wr)) (fun _ i _ => n - (RowKit.intOf i).toNat)
  case atStart => exact ⟨0, Nat.zero_le _, rfl, H0⟩
  case round =>
    clear H0
    obtain ⟨k, hk, rfl, hR⟩ := hrel
    rename_i wr _
    by_cases hlt : k < n
    · have hkl : k < l.length := by rw [← HX.out.1]; exact hlt
      obtain ⟨g, o, cap', e, _, _, _, hcell⟩ := HX.out.2.at (by omega)
      injection e with e1 e2 e3
      subst e1 e3
      clear e2
      have hnd := (hcell k hkl).keep hR.out.2 (fun h => h)
      have hst := freeH_take l t k hkl
      have hwl : (freeH (l.take k) t).length ≤ k := Nat.le_trans (List.length_filter_le _ _) (by rw [List.length_take]; omega)
      obtain ⟨x, hx⟩ : ∃ x, x = l[k] := ⟨_, rfl⟩
      rw [← hx] at hnd hst
      clear hx hcell
      obtain ⟨xd, xt, xa⟩ := x
      have c0 := hnd.c0; have c1 := hnd.c1; have c2 := hnd.c2
      unfold strV at c0
      simp only at c0 c1 c2 hst
      have q3 : ((k : Int) < (n : Int)) = True := eq_true (by omega)
      have q4 : (k < n) = True := eq_true hlt
      have hlb := hR.out.1.low
      have HB := Lib.hid (And.intro hlt (And.intro hst (And.intro hwl hlb)))
      clear hnd hkl hst hlt hwl hlb
      by_cases hne : xt = t
      · have q5 : (xt != t) = false := by simp [hne]
        have q6 : (xt == t) = true := beq_iff_eq.2 hne
        have hM : Hid (OwH w.heap.size wr u5 (freeH (l.take (k + 1)) t) ∧ Fp Non w wr) := ⟨by rw [HB.out.2.1, if_neg (fun h => h hne), List.append_nil]; exact hR.out.1, hR.out.2⟩
        have hkn := HB.out.1
        clear hne
        go_wp2
        go_roundw
        case rel => exact ⟨k + 1, by omega, by go_num, hM⟩
        case measure => simp [RowKit.intOf]; omega
      · have q5 : (xt != t) = true := by simp [hne]
        have q6 : (xt == t) = false := beq_eq_false_iff_ne.2 hne
        have hap := app_oneH wr w.heap.size u5 _ ⟨xd, xt, xa⟩ TLH hR.out.1 (by have := HB.out.2.2.1; omega) hR.out.2.size
        rw [show (⟨xd, xt, xa⟩ : Hl).d = xd from rfl, show (⟨xd, xt, xa⟩ : Hl).t = xt from rfl, show (⟨xd, xt, xa⟩ : Hl).a = xa from rfl] at hap
        unfold strV at hap
        have HA := Lib.hid hap
        have HN := Lib.hid hne
        clear hap hne
        go_wp2_with (at_builtin; go_must (refine wpList_app rfl _ _ _ _ rfl _ _ rfl rfl _ HA.out ?_))
        intro v' w' hA
        have hM : Hid (OwH w.heap.size w' v' (freeH (l.take (k + 1)) t) ∧ Fp Non w w') := ⟨by rw [HB.out.2.1, if_pos HN.out]; exact hA.own, hR.out.2.trans hA.fp (fun j hj => .inr (HB.out.2.2.2 j hj))⟩
        have hkn := HB.out.1
        clear hA HA
        go_wp2
        go_roundw
        case rel => exact ⟨k + 1, by omega, by go_num, hM⟩
        case measure => simp [RowKit.intOf]; omega
    · have hke : k = n := by omega
      subst hke
      have q3 : ((k : Int) < (k : Int)) = False := eq_false (by omega)
      have hO := hR.out
      rw [HX.out.1, List.take_length] at hO
      have HR : Hid (HlR w (freeH l t) u5 wr) := ⟨hO.1, hO.2⟩
      clear hlt hk hO
      go_wp2
      go_ret
      exact ⟨_, rfl, HR.out⟩

theorem held_at {l : List Hl} {p : Bs} {k : Nat} (hk : k < l.length) (h : ∀ x ∈ l.take k, x.d ≠ p) (e : l[k].d = p) : heldH l p = some l[k] := by
  unfold heldH
  rw [List.find?_eq_some_iff_getElem]
  refine ⟨by simpa using e, k, hk, rfl, fun j hj => ?_⟩
  have := h l[j] (List.mem_iff_getElem.2 ⟨j, by rw [List.length_take]; omega, by rw [List.getElem_take]⟩)
  simpa using this
set_option maxHeartbeats 4000000 in
theorem rHeld_c (v : Value) (l : List Hl) (p : Bs) (w : World) (hv : NsH w v l) (hn : l.length ≤ 90000) :
    Calls Tryz.prog 14 #[v, .string (B p)] w fun e w' => e = .returned (.tuple #[.int .i64 (((heldH l p).map Hl.t).getD 0), .bool (heldH l p).isSome]) ∧ Fp Non w w' := by
  obtain ⟨ao, cap, rfl⟩ := hv.shape
  obtain ⟨n, hnn⟩ : ∃ n, n = l.length := ⟨_, rfl⟩
  have HX := Lib.hid (And.intro hnn hv)
  rw [← hnn]
  have hnb : n ≤ 90000 := by omega
  clear hv hn hnn
  go_enter Tryz.func14, Tryz.ntmps14
  go_wp2_with fail
  go_loopw [6] (fun i wr => ∃ k : Nat, k ≤ n ∧ i = .int .i64 k ∧ Hid (Fp Non w wr ∧ ∀ x ∈ l.take k, x.d ≠ p)) (fun i _ => n - (RowKit.intOf i).toNat)
  case atStart => exact ⟨0, Nat.zero_le _, rfl, Fp.refl _ _, fun x hx => by simp at hx⟩
  case round =>
    obtain ⟨k, hk, rfl, hR⟩ := hrel
    rename_i wr _
    by_cases hlt : k < n
    · have hkl : k < l.length := by rw [← HX.out.1]; exact hlt
      obtain ⟨g, o, cap', e, _, _, _, hcell⟩ := HX.out.2.at (by omega)
      injection e with e1 e2 e3
      subst e1 e3
      clear e2
      have hnd := (hcell k hkl).keep hR.out.1 (fun h => h)
      have hat := fun e => held_at hkl hR.out.2 e
      have htk : l.take (k + 1) = l.take k ++ [l[k]] := List.take_succ_eq_append_getElem hkl
      obtain ⟨x, hx⟩ : ∃ x, x = l[k] := ⟨_, rfl⟩
      rw [← hx] at hnd hat htk
      clear hx hcell
      obtain ⟨xd, xt, xa⟩ := x
      have c0 := hnd.c0; have c1 := hnd.c1
      unfold strV at c0
      simp only at c0 c1 hat
      have q3 : ((k : Int) < (n : Int)) = True := eq_true (by omega)
      have q4 : (k < n) = True := eq_true hlt
      have HB := Lib.hid (And.intro hlt htk)
      clear hnd hkl hlt htk
      by_cases hne : xd = p
      · have q6 : (xd == p) = true := beq_iff_eq.2 hne
        have HH := Lib.hid (hat hne)
        clear hne hat
        go_wp2
        go_ret2
        exact ⟨by rw [HH.out]; rfl, hR.out.1⟩
      · have q6 : (xd == p) = false := beq_eq_false_iff_ne.2 hne
        have hM : Hid (Fp Non w wr ∧ ∀ x ∈ l.take (k + 1), x.d ≠ p) := ⟨hR.out.1, fun x hx => by
          rw [HB.out.2] at hx
          rcases List.mem_append.1 hx with hx | hx
          · exact hR.out.2 x hx
          · rw [List.mem_singleton] at hx; subst hx; exact hne⟩
        have hkn := HB.out.1
        clear hne hat
        go_wp2
        go_roundw
        case rel => exact ⟨k + 1, by omega, by go_num, hM⟩
        case measure => simp [RowKit.intOf]; omega
    · have hke : k = n := by omega
      subst hke
      have q3 : ((k : Int) < (k : Int)) = False := eq_false (by omega)
      have hh : heldH l p = none := by
        have := hR.out.2
        rw [HX.out.1, List.take_length] at this
        unfold heldH
        rw [List.find?_eq_none]
        intro x hx; simpa using this x hx
      have HH := Lib.hid hh
      clear hlt hk hh
      go_wp2
      go_ret2
      exact ⟨by rw [HH.out]; rfl, hR.out.1⟩

set_option maxHeartbeats 4000000 in
theorem rDirs_c (v : Value) (p : List Pc) (w : World) (hv : Sg pcC 8 w v p) (hn : p.length ≤ 30000) :
    Calls Tryz.prog 23 #[v] w fun e w' => ∃ a c, e = .returned (.slice a (ordB (p.map Pc.dir)).length c) ∧ Tx w' (.slice a (ordB (p.map Pc.dir)).length c) (ordB (p.map Pc.dir)) ∧ Fp Non w w' := by
  obtain ⟨ao, cap, rfl⟩ := hv.shape
  obtain ⟨n, hnn⟩ : ∃ n, n = p.length := ⟨_, rfl⟩
  have HX := Lib.hid (And.intro hnn hv)
  rw [← hnn]
  have hnb : n ≤ 30000 := by omega
  clear hv hn hnn
  go_enter Tryz.func23, Tryz.ntmps23
  go_wp2_with fail
  go_loopw [3, 4] (fun d i wr => ∃ k : Nat, k ≤ n ∧ i = .int .i64 k ∧ ∃ a m c, d = .slice a m c ∧ Hid (m = (ordB ((p.map Pc.dir).take k)).length ∧ Tx wr (.slice a m c) (ordB ((p.map Pc.dir).take k)) ∧ Fp Non w wr)) (fun _ i _ => n - (RowKit.intOf i).toNat)
  case atStart => exact ⟨0, Nat.zero_le _, rfl, none, 0, 0, rfl, rfl, Sg.nil _, Fp.refl _ _⟩
  case round =>
    obtain ⟨k, hk, rfl, a, m, c, rfl, hR⟩ := hrel
    rename_i wr _
    by_cases hlt : k < n
    · have hkl : k < p.length := by rw [← HX.out.1]; exact hlt
      obtain ⟨g, o, cap', e, hcell⟩ := HX.out.2.at (by omega)
      injection e with e1 e2 e3
      subst e1 e3
      have hnd := ((hcell k hkl).keep hR.out.2.2 (fun h => h)).pc
      have hst : ordB ((p.map Pc.dir).take (k + 1)) = insB (ordB ((p.map Pc.dir).take k)) p[k].dir := by
        rw [take_map_succ p k hkl]; unfold ordB; rw [List.foldl_append]; rfl
      obtain ⟨x, hx⟩ : ∃ x, x = p[k] := ⟨_, rfl⟩
      rw [← hx] at hnd hst
      clear hx hcell
      obtain ⟨x0, x1, x2, x3, x4, x5, x6, x7⟩ := x
      have c2 := hnd.c2
      simp only at c2 hst
      have hlen : (ordB ((p.map Pc.dir).take k)).length ≤ 30000 := Nat.le_trans (ord_len _) (by rw [List.length_take]; omega)
      have hwi := with_r _ _ x2 wr hR.out.2.1 (ordB_up _) (by omega)
      rw [← hst] at hwi
      have HW := Lib.hid hwi
      have q3 : ((k : Int) < (n : Int)) = True := eq_true (by omega)
      have q4 : (k < n) = True := eq_true hlt
      have HL := Lib.hid hlt
      have HF := Lib.hid hR.out.2.2
      clear hnd hlt hkl hst hlen hwi hR
      go_wp2_with fail
      refine HW.out.mono ?_
      rintro e w1 ⟨v1, rfl, h1⟩
      have ht := OwG.sg txC_len h1.own
      obtain ⟨a1, c1, rfl⟩ := ht.shape
      obtain ⟨m1, hm1⟩ : ∃ m1, m1 = (ordB ((p.map Pc.dir).take (k + 1))).length := ⟨_, rfl⟩
      have hM : Hid (m1 = (ordB ((p.map Pc.dir).take (k + 1))).length ∧ Tx w1 (.slice a1 m1 c1) (ordB ((p.map Pc.dir).take (k + 1))) ∧ Fp Non w w1) := ⟨hm1, by rw [hm1]; exact ht, HF.out.then h1.fp⟩
      rw [← hm1]
      have hkn := HL.out
      clear h1 ht hm1
      go_wp2
      go_roundw
      case rel => exact ⟨k + 1, by omega, by go_num, a1, m1, c1, rfl, hM⟩
      case measure => simp [RowKit.intOf]; omega
    · have hke : k = n := by omega
      subst hke
      have q3 : ((k : Int) < (k : Int)) = False := eq_false (by omega)
      have hO := hR.out
      have e : (p.map Pc.dir).take k = p.map Pc.dir := List.take_of_length_le (by rw [List.length_map, ← HX.out.1]; exact Nat.le_refl _)
      rw [e] at hO
      obtain ⟨h1, h2, h3⟩ := hO
      have HO := Lib.hid (And.intro h2 h3)
      subst h1
      clear hlt hk h2 h3 hR e
      go_wp2
      go_ret
      exact ⟨_, _, rfl, HO.out⟩

/-- Some truth value. -/
structure BoolR (w : World) (e : Ending) (w' : World) : Prop where
  ex : ∃ b : Bool, e = .returned (.bool b)
  fp : Fp Non w w'
set_option maxHeartbeats 2000000 in
theorem GreatPart_c (k : Int) (d p s : Bs) (v o : Int) (tn : Bool) (w : World) :
    Calls Tryz.prog 24 #[.agg #[.int .i64 k, .string (B d), .string (B p), .string (B s), .int .i64 v, .int .i64 o, .bool tn]] w (BoolR w) := by
  have hf := fp_alloc w (.cells #[.int .i64 k, .string (B d), .string (B p), .string (B s), .int .i64 v, .int .i64 o, .bool tn] 45)
  have HF := Lib.hid hf
  clear hf
  go_enter Tryz.func24, Tryz.ntmps24
  go_wp2
  all_goals
    go_ret
    exact ⟨⟨_, rfl⟩, HF.out⟩
set_option maxHeartbeats 4000000 in
theorem GreatPieces_c (v : Value) (p : List Pc) (w : World) (hv : Sg pcC 8 w v p) :
    Calls Tryz.prog 10 #[v] w fun e w' => ∃ g : Bool, e = .returned (.bool g) ∧ (g = false → p.length ≤ 60) ∧ Fp Non w w' := by
  obtain ⟨ao, cap, rfl⟩ := hv.shape
  obtain ⟨n, hnn⟩ : ∃ n, n = p.length := ⟨_, rfl⟩
  have HX := Lib.hid (And.intro hnn hv)
  rw [← hnn]
  clear hv hnn
  go_enter Tryz.func10, Tryz.ntmps10
  by_cases h60 : n ≤ 60
  · have t1 : ((60 : Int) < (n : Int)) = False := eq_false (by omega)
    have t2 : (60 < n) = False := eq_false (by omega)
    go_wp2_with fail
    go_loopw [3] (fun i wr => ∃ k : Nat, k ≤ n ∧ i = .int .i64 k ∧ Hid (Fp Non w wr)) (fun i _ => n - (RowKit.intOf i).toNat)
    case atStart => exact ⟨0, Nat.zero_le _, rfl, Fp.refl _ _⟩
    case round =>
      obtain ⟨k, hk, rfl, hR⟩ := hrel
      rename_i wr _
      by_cases hlt : k < n
      · have hkl : k < p.length := by rw [← HX.out.1]; exact hlt
        obtain ⟨g, o, cap', e, hcell⟩ := HX.out.2.at (by omega)
        injection e with e1 e2 e3
        subst e1 e3
        have hnd := ((hcell k hkl).keep hR.out (fun h => h)).pc
        obtain ⟨x, hx⟩ : ∃ x, x = p[k] := ⟨_, rfl⟩
        rw [← hx] at hnd
        clear hx hcell
        obtain ⟨x0, x1, x2, x3, x4, x5, x6, x7⟩ := x
        have c1 := hnd.c1; have c2 := hnd.c2; have c3 := hnd.c3; have c4 := hnd.c4; have c5 := hnd.c5; have c6 := hnd.c6; have c7 := hnd.c7
        simp only at c1 c2 c3 c4 c5 c6 c7
        have q3 : ((k : Int) < (n : Int)) = True := eq_true (by omega)
        have q4 : (k < n) = True := eq_true hlt
        have HL := Lib.hid (And.intro hlt h60)
        clear hnd hlt hkl
        go_wp2_with fail
        refine (GreatPart_c _ _ _ _ _ _ _ _).mono ?_
        rintro e w1 ⟨⟨b, rfl⟩, hf⟩
        have HF := Lib.hid (hR.out.then hf)
        clear hf
        cases b with
        | true =>
          go_wp2
          go_ret
          exact ⟨true, rfl, fun h => Bool.noConfusion h, HF.out⟩
        | false =>
          have hkn := HL.out.1
          go_wp2
          go_roundw
          case rel => exact ⟨k + 1, by omega, by go_num, HF⟩
          case measure => simp [RowKit.intOf]; omega
      · have hke : k = n := by omega
        subst hke
        have q3 : ((k : Int) < (k : Int)) = False := eq_false (by omega)
        have H6 := Lib.hid h60
        clear hlt hk h60
        go_wp2
        go_ret
        exact ⟨false, rfl, fun _ => by first | exact H6.out | (rw [← HX.out.1]; exact H6.out), hR.out⟩
  · have t1 : ((60 : Int) < (n : Int)) = True := eq_true (by omega)
    have t2 : (60 < n) = True := eq_true (by omega)
    clear h60
    go_wp2
    go_ret
    exact ⟨true, rfl, fun h => Bool.noConfusion h, Fp.refl _ _⟩
end Go.Proofs.YtenaggleepoclaaGreat
