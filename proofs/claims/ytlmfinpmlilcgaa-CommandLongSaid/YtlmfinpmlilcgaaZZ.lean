/- Texts of this proof, merged. -/
import Derived.Test.YtlmfinpmlilcgaaZY
set_option linter.unusedVariables false
set_option linter.unusedSimpArgs false
/- Lists are written: putList at pieces, nodes, turns. (gen_gi.py) -/
namespace Go.Proofs.Ytlmfinpmlilcgaa
set_option maxRecDepth 20000
set_option linter.unusedVariables false
set_option linter.unusedSimpArgs false
open Go.RowKit Pm

theorem pnum (n : Nat) (h : n ≤ 100000) : num (n : Int) := ⟨by omega, by omega⟩

set_option maxHeartbeats 8000000 in
theorem putPe_w (P : Nat → Prop) (b : Nat) (l : Bs) (v : Value) (ps : List Pe) (w : World) (h : Ww P b l w) (hv : ∀ W, Fp (fun k => ¬ P k) w W → Sg peC 8 W v ps) (ho : ∀ x ∈ ps, okPe x) (hl : l.length + (encS encPe ps).length ≤ 20000000) (hnl : ps.length ≤ 100000) :
    Calls Try.prog 32 #[.pointer (some ⟨b, 0, none⟩), v, .func (.func 33) #[.pointer (some ⟨b, 0, none⟩)] #[]] w fun e w' => e = .returned (.tuple #[]) ∧ WwS P b (l ++ encS encPe ps) w w' := by
  obtain ⟨ao, cap, rfl⟩ := (hv w (Fp.refl _ _)).shape
  obtain ⟨n, hnn⟩ : ∃ n, n = ps.length := ⟨_, rfl⟩
  have hN := Num_w P b l (ps.length : Int) w h (pnum _ hnl) (by omega)
  have HX := Lib.hid (And.intro hnn (And.intro hv (And.intro ho (And.intro hl hnl))))
  have hnb : n ≤ 100000 := by omega
  rw [← hnn] at hN
  have HN := Lib.hid hN
  rw [← hnn]
  clear h hv hl hnl hnn hN ho
  go_enter Try.func32, Try.ntmps32
  go_wp2_with fail
  refine HN.out.mono ?_
  rintro e w1 ⟨rfl, hw⟩
  have H0 : Hid (WwS P b (l ++ encI n ++ encF encPe (ps.take 0)) w w1) := by
    have e : l ++ encI n ++ encF encPe (ps.take 0) = l ++ encI n := by simp [encF]
    rw [e]; exact hw
  clear hw HN
  go_wp2_with fail
  go_loopw [16] (fun i wr => ∃ k : Nat, k ≤ n ∧ i = .int .i64 k ∧ Hid (WwS P b (l ++ encI n ++ encF encPe (ps.take k)) w wr)) (fun i _ => n - (RowKit.intOf i).toNat)
  case atStart => exact ⟨0, Nat.zero_le _, rfl, H0⟩
  case round =>
    clear H0
    obtain ⟨k, hk, rfl, hR⟩ := hrel
    by_cases hlt : k < n
    · have hkl : k < ps.length := by rw [← HX.out.1]; exact hlt
      obtain ⟨g, o, cap', e, hcell⟩ := (HX.out.2.1 wr hR.out.fp).at (by omega)
      injection e with e1 e2 e3
      subst e1 e3
      obtain ⟨c0, c1, c2, c3, c4, c5, c6, c7⟩ := pe_cells (hcell k hkl)
      have hx := HX.out.2.2.1 _ (List.getElem_mem hkl)
      have hsz : (l ++ encI n ++ encF encPe (ps.take k)).length + (encPe ps[k]).length ≤ 20000000 := by
        have h1 := HX.out.2.2.2.1
        have h2 : (encS encPe ps).length = (encI n).length + (encF encPe ps).length := by
          rw [show encS encPe ps = encI n ++ encF encPe ps from by rw [HX.out.1]; rfl, List.length_append]
        have h3 : encF encPe ps = encF encPe (ps.take (k + 1)) ++ encF encPe (ps.drop (k + 1)) := by rw [← encF_app, List.take_append_drop]
        rw [h3, encF_take encPe ps k hkl, List.length_append, List.length_append] at h2
        simp only [List.length_append]; omega
      have hc := fun o => piece_w P b (l ++ encI n ++ encF encPe (ps.take k)) ps[k] (wr.alloc o) ((hR.out.is.alloc o).sub (fun _ h => .inl h)) hx hsz
      rw [List.append_assoc, ← encF_take encPe ps k hkl] at hc
      generalize ps[k] = x at *
      obtain ⟨x0, ⟨x1, x2, x3, x4, x5, x6, x7⟩⟩ := x
      simp only at hc c0 c1 c2 c3 c4 c5 c6 c7
      have q3 : ((k : Int) < (n : Int)) = True := eq_true (by omega)
      have q4 : (k < n) = True := eq_true hlt
      have HC := Lib.hid hc
      have HL := Lib.hid hlt
      clear hcell hkl hlt hc hx hsz
      go_wp2_with fail
      refine (HC.out _).mono ?_
      rintro e w2 ⟨rfl, hw⟩
      have HW := Lib.hid (hR.out.trans (WwS.first (fp_alloc _ _) hw))
      have hkn := HL.out
      clear hw
      go_wp2
      go_roundw
      case rel => exact ⟨k + 1, by omega, by go_num, HW⟩
      case measure => simp [RowKit.intOf]; omega
    · have hke : k = n := by omega
      subst hke
      have q3 : ((k : Int) < (k : Int)) = False := eq_false (by omega)
      have HT : Hid (WwS P b (l ++ encS encPe ps) w wr) := by
        have := hR.out; rw [HX.out.1, List.take_length, List.append_assoc] at this; exact this
      clear hlt hk
      go_wp2
      go_end0
      exact ⟨rfl, HT.out⟩

set_option maxHeartbeats 8000000 in
theorem putNd_w (P : Nat → Prop) (b : Nat) (l : Bs) (v : Value) (ps : List Nd) (w : World) (h : Ww P b l w) (hv : ∀ W, Fp (fun k => ¬ P k) w W → Ns W v ps) (ho : ∀ x ∈ ps, okNd x) (hl : l.length + (encS encNd ps).length ≤ 20000000) (hnl : ps.length ≤ 100000) :
    Calls Try.prog 35 #[.pointer (some ⟨b, 0, none⟩), v, .func (.func 36) #[.pointer (some ⟨b, 0, none⟩)] #[]] w fun e w' => e = .returned (.tuple #[]) ∧ WwS P b (l ++ encS encNd ps) w w' := by
  obtain ⟨ao, cap, rfl⟩ := (hv w (Fp.refl _ _)).shape
  obtain ⟨n, hnn⟩ : ∃ n, n = ps.length := ⟨_, rfl⟩
  have hN := Num_w P b l (ps.length : Int) w h (pnum _ hnl) (by omega)
  have HX := Lib.hid (And.intro hnn (And.intro hv (And.intro ho (And.intro hl hnl))))
  have hnb : n ≤ 100000 := by omega
  rw [← hnn] at hN
  have HN := Lib.hid hN
  rw [← hnn]
  clear h hv hl hnl hnn hN ho
  go_enter Try.func35, Try.ntmps35
  go_wp2_with fail
  refine HN.out.mono ?_
  rintro e w1 ⟨rfl, hw⟩
  have H0 : Hid (WwS P b (l ++ encI n ++ encF encNd (ps.take 0)) w w1) := by
    have e : l ++ encI n ++ encF encNd (ps.take 0) = l ++ encI n := by simp [encF]
    rw [e]; exact hw
  clear hw HN
  go_wp2_with fail
  go_loopw [16] (fun i wr => ∃ k : Nat, k ≤ n ∧ i = .int .i64 k ∧ Hid (WwS P b (l ++ encI n ++ encF encNd (ps.take k)) w wr)) (fun i _ => n - (RowKit.intOf i).toNat)
  case atStart => exact ⟨0, Nat.zero_le _, rfl, H0⟩
  case round =>
    clear H0
    obtain ⟨k, hk, rfl, hR⟩ := hrel
    by_cases hlt : k < n
    · have hkl : k < ps.length := by rw [← HX.out.1]; exact hlt
      obtain ⟨g, o, cap', e, _, _, _, hcell⟩ := (HX.out.2.1 wr hR.out.fp).at (by omega)
      injection e with e1 e2 e3
      subst e1 e3
      have hnd := hcell k hkl
      have c0 := hnd.c0; have c1 := hnd.c1; have c2 := hnd.c2; have c3 := hnd.c3; have c4 := hnd.c4
      unfold strV at c0 c1
      clear hnd
      have hx := HX.out.2.2.1 _ (List.getElem_mem hkl)
      have hsz : (l ++ encI n ++ encF encNd (ps.take k)).length + (encNd ps[k]).length ≤ 20000000 := by
        have h1 := HX.out.2.2.2.1
        have h2 : (encS encNd ps).length = (encI n).length + (encF encNd ps).length := by
          rw [show encS encNd ps = encI n ++ encF encNd ps from by rw [HX.out.1]; rfl, List.length_append]
        have h3 : encF encNd ps = encF encNd (ps.take (k + 1)) ++ encF encNd (ps.drop (k + 1)) := by rw [← encF_app, List.take_append_drop]
        rw [h3, encF_take encNd ps k hkl, List.length_append, List.length_append] at h2
        simp only [List.length_append]; omega
      have hc := fun o => node_w P b (l ++ encI n ++ encF encNd (ps.take k)) ps[k] (wr.alloc o) ((hR.out.is.alloc o).sub (fun _ h => .inl h)) hx hsz
      rw [List.append_assoc, ← encF_take encNd ps k hkl] at hc
      generalize ps[k] = x at *
      obtain ⟨x0, x1, x2, x3, x4⟩ := x
      simp only at hc c0 c1 c2 c3 c4
      have q3 : ((k : Int) < (n : Int)) = True := eq_true (by omega)
      have q4 : (k < n) = True := eq_true hlt
      have HC := Lib.hid hc
      have HL := Lib.hid hlt
      clear hcell hkl hlt hc hx hsz
      go_wp2_with fail
      refine (HC.out _).mono ?_
      rintro e w2 ⟨rfl, hw⟩
      have HW := Lib.hid (hR.out.trans (WwS.first (fp_alloc _ _) hw))
      have hkn := HL.out
      clear hw
      go_wp2
      go_roundw
      case rel => exact ⟨k + 1, by omega, by go_num, HW⟩
      case measure => simp [RowKit.intOf]; omega
    · have hke : k = n := by omega
      subst hke
      have q3 : ((k : Int) < (k : Int)) = False := eq_false (by omega)
      have HT : Hid (WwS P b (l ++ encS encNd ps) w wr) := by
        have := hR.out; rw [HX.out.1, List.take_length, List.append_assoc] at this; exact this
      clear hlt hk
      go_wp2
      go_end0
      exact ⟨rfl, HT.out⟩

set_option maxHeartbeats 8000000 in
theorem putTu_w (P : Nat → Prop) (b : Nat) (l : Bs) (v : Value) (ps : List Tu) (w : World) (h : Ww P b l w) (hv : ∀ W, Fp (fun k => ¬ P k) w W → Ts W v ps) (ho : ∀ x ∈ ps, okTu x) (hl : l.length + (encS encTu ps).length ≤ 20000000) (hnl : ps.length ≤ 100000) :
    Calls Try.prog 37 #[.pointer (some ⟨b, 0, none⟩), v, .func (.func 38) #[.pointer (some ⟨b, 0, none⟩)] #[]] w fun e w' => e = .returned (.tuple #[]) ∧ WwS P b (l ++ encS encTu ps) w w' := by
  obtain ⟨ao, cap, rfl⟩ := (hv w (Fp.refl _ _)).shape
  obtain ⟨n, hnn⟩ : ∃ n, n = ps.length := ⟨_, rfl⟩
  have hN := Num_w P b l (ps.length : Int) w h (pnum _ hnl) (by omega)
  have HX := Lib.hid (And.intro hnn (And.intro hv (And.intro ho (And.intro hl hnl))))
  have hnb : n ≤ 100000 := by omega
  rw [← hnn] at hN
  have HN := Lib.hid hN
  rw [← hnn]
  clear h hv hl hnl hnn hN ho
  go_enter Try.func37, Try.ntmps37
  go_wp2_with fail
  refine HN.out.mono ?_
  rintro e w1 ⟨rfl, hw⟩
  have H0 : Hid (WwS P b (l ++ encI n ++ encF encTu (ps.take 0)) w w1) := by
    have e : l ++ encI n ++ encF encTu (ps.take 0) = l ++ encI n := by simp [encF]
    rw [e]; exact hw
  clear hw HN
  go_wp2_with fail
  go_loopw [16] (fun i wr => ∃ k : Nat, k ≤ n ∧ i = .int .i64 k ∧ Hid (WwS P b (l ++ encI n ++ encF encTu (ps.take k)) w wr)) (fun i _ => n - (RowKit.intOf i).toNat)
  case atStart => exact ⟨0, Nat.zero_le _, rfl, H0⟩
  case round =>
    clear H0
    obtain ⟨k, hk, rfl, hR⟩ := hrel
    by_cases hlt : k < n
    · have hkl : k < ps.length := by rw [← HX.out.1]; exact hlt
      obtain ⟨g, o, cap', e, _, _, _, hcell⟩ := (HX.out.2.1 wr hR.out.fp).at (by omega)
      injection e with e1 e2 e3
      subst e1 e3
      have hnd := hcell k hkl
      have c0 := hnd.c0; have c1 := hnd.c1
      unfold strV at c0
      clear hnd
      have hx := HX.out.2.2.1 _ (List.getElem_mem hkl)
      have hsz : (l ++ encI n ++ encF encTu (ps.take k)).length + (encTu ps[k]).length ≤ 20000000 := by
        have h1 := HX.out.2.2.2.1
        have h2 : (encS encTu ps).length = (encI n).length + (encF encTu ps).length := by
          rw [show encS encTu ps = encI n ++ encF encTu ps from by rw [HX.out.1]; rfl, List.length_append]
        have h3 : encF encTu ps = encF encTu (ps.take (k + 1)) ++ encF encTu (ps.drop (k + 1)) := by rw [← encF_app, List.take_append_drop]
        rw [h3, encF_take encTu ps k hkl, List.length_append, List.length_append] at h2
        simp only [List.length_append]; omega
      have hc := fun o => turn_w P b (l ++ encI n ++ encF encTu (ps.take k)) ps[k] (wr.alloc o) ((hR.out.is.alloc o).sub (fun _ h => .inl h)) hx hsz
      rw [List.append_assoc, ← encF_take encTu ps k hkl] at hc
      generalize ps[k] = x at *
      obtain ⟨x0, x1⟩ := x
      simp only at hc c0 c1
      have q3 : ((k : Int) < (n : Int)) = True := eq_true (by omega)
      have q4 : (k < n) = True := eq_true hlt
      have HC := Lib.hid hc
      have HL := Lib.hid hlt
      clear hcell hkl hlt hc hx hsz
      go_wp2_with fail
      refine (HC.out _).mono ?_
      rintro e w2 ⟨rfl, hw⟩
      have HW := Lib.hid (hR.out.trans (WwS.first (fp_alloc _ _) hw))
      have hkn := HL.out
      clear hw
      go_wp2
      go_roundw
      case rel => exact ⟨k + 1, by omega, by go_num, HW⟩
      case measure => simp [RowKit.intOf]; omega
    · have hke : k = n := by omega
      subst hke
      have q3 : ((k : Int) < (k : Int)) = False := eq_false (by omega)
      have HT : Hid (WwS P b (l ++ encS encTu ps) w wr) := by
        have := hR.out; rw [HX.out.1, List.take_length, List.append_assoc] at this; exact this
      clear hlt hk
      go_wp2
      go_end0
      exact ⟨rfl, HT.out⟩
end Go.Proofs.Ytlmfinpmlilcgaa

