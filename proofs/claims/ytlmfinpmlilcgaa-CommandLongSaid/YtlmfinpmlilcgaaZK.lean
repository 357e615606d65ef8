/- Texts of this proof, merged. -/
import Derived.Test.YtlmfinpmlilcgaaZJ
set_option linter.unusedVariables false
set_option linter.unusedSimpArgs false
/- Pieces, stores, what is kept elsewhere: may they be? -/
namespace Go.Proofs.Ytlmfinpmlilcgaa
set_option maxRecDepth 20000
set_option linter.unusedVariables false
set_option linter.unusedSimpArgs false
open Go.RowKit Pm

/-- The Op ahead. -/
def lst (l : List Pe) (k : Nat) : Int := if h : 0 < k ∧ k - 1 < l.length then (l[k - 1]'h.2).op else 0
def ChkPe (l : List Pe) (k : Nat) (h : k < l.length) : Prop := lst l k ≤ l[k].op ∧ l[k].op < 8 ∧ mayP l[k].p = true ∧ l[k].p.ver ≠ 281474976710656
theorem lst_succ (l : List Pe) (k : Nat) (h : k < l.length) : lst l (k + 1) = l[k].op := by
  unfold lst; rw [dif_pos ⟨by omega, by simpa using h⟩]; simp
theorem arePs_iff (l : List Pe) : arePs l ↔ l.length ≤ 16 ∧ ∀ k (h : k < l.length), ChkPe l k h := by
  constructor
  · intro h
    refine ⟨h.1, fun k hk => ?_⟩
    obtain ⟨h1, h2, h3, h4, h5⟩ := h.2 k hk
    refine ⟨?_, h2, h3, h4⟩
    unfold lst; split
    · rename_i h6; exact h5 h6.1 h6.2
    · exact h1
  · intro h
    have h0 : ∀ k (hk : k < l.length), 0 ≤ l[k].op := by
      intro k
      induction k with
      | zero => intro hk; have := (h.2 0 hk).1; unfold lst at this; rw [dif_neg (by omega)] at this; exact this
      | succ k ih => intro hk; have := (h.2 (k + 1) hk).1; rw [lst_succ l k (by omega)] at this; have := ih (by omega); omega
    refine ⟨h.1, fun k hk => ?_⟩
    obtain ⟨h1, h2, h3, h4⟩ := h.2 k hk
    refine ⟨h0 k hk, h2, h3, h4, fun g1 g2 => ?_⟩
    unfold lst at h1; rw [dif_pos ⟨g1, g2⟩] at h1; exact h1
open Classical in
noncomputable def psB (l : List Pe) : Bool := decide (arePs l)
theorem psB_true {l : List Pe} (h : arePs l) : psB l = true := by unfold psB; simp [h]
theorem psB_false {l : List Pe} (h : ¬ arePs l) : psB l = false := by unfold psB; simp [h]
theorem psB_iff (l : List Pe) : psB l = true ↔ arePs l := by unfold psB; simp
open Classical in
noncomputable def stB (s : St) : Bool := decide (isSt s)
theorem stB_true {l : St} (h : isSt l) : stB l = true := by unfold stB; simp [h]
theorem stB_false {l : St} (h : ¬ isSt l) : stB l = false := by unfold stB; simp [h]
theorem stB_iff (l : St) : stB l = true ↔ isSt l := by unfold stB; simp
open Classical in
noncomputable def goB (p : Bs) (l : List Bs) : Bool := decide (areGo p l)
theorem goB_true {p : Bs} {l : List Bs} (h : areGo p l) : goB p l = true := by unfold goB; simp [h]
theorem goB_false {p : Bs} {l : List Bs} (h : ¬ areGo p l) : goB p l = false := by unfold goB; simp [h]
theorem goB_iff (p : Bs) (l : List Bs) : goB p l = true ↔ areGo p l := by unfold goB; simp

theorem boxP8 {w : World} {b : Nat} {T : TypeId} {c0 c1 c2 c3 c4 c5 c6 c7 : Value} (h : w.heap[b]? = some (.cells #[c0, c1, c2, c3, c4, c5, c6, c7] T (0, 0))) :
    w.cell? ⟨b, 0, none⟩ = some c0 ∧ w.cell? ⟨b, 1, none⟩ = some c1 ∧ w.cell? ⟨b, 2, none⟩ = some c2 ∧ w.cell? ⟨b, 3, none⟩ = some c3 ∧ w.cell? ⟨b, 4, none⟩ = some c4 ∧ w.cell? ⟨b, 5, none⟩ = some c5 ∧ w.cell? ⟨b, 6, none⟩ = some c6 ∧ w.cell? ⟨b, 7, none⟩ = some c7 :=
  ⟨by rw [cell_of_row _ _ _ _ _ _ h]; rfl, by rw [cell_of_row _ _ _ _ _ _ h]; rfl, by rw [cell_of_row _ _ _ _ _ _ h]; rfl, by rw [cell_of_row _ _ _ _ _ _ h]; rfl, by rw [cell_of_row _ _ _ _ _ _ h]; rfl, by rw [cell_of_row _ _ _ _ _ _ h]; rfl, by rw [cell_of_row _ _ _ _ _ _ h]; rfl, by rw [cell_of_row _ _ _ _ _ _ h]; rfl⟩
theorem pe_cells {w : World} {g o : Nat} {x : Pe} (h : ElAt peC w g o x) :
    w.cell? ⟨g, o, none⟩ = some (.int .i64 x.op) ∧ w.cell? ⟨g, o + 1, none⟩ = some (.int .i64 x.p.kind) ∧ w.cell? ⟨g, o + 2, none⟩ = some (.string (B x.p.dir)) ∧ w.cell? ⟨g, o + 3, none⟩ = some (.string (B x.p.path)) ∧ w.cell? ⟨g, o + 4, none⟩ = some (.string (B x.p.data)) ∧
    w.cell? ⟨g, o + 5, none⟩ = some (.int .i64 x.p.ver) ∧ w.cell? ⟨g, o + 6, none⟩ = some (.int .i64 x.p.own) ∧ w.cell? ⟨g, o + 7, none⟩ = some (.bool x.p.turns) :=
  ⟨h.get 0 _ rfl, h.get 1 _ rfl, h.get 2 _ rfl, h.get 3 _ rfl, h.get 4 _ rfl, h.get 5 _ rfl, h.get 6 _ rfl, h.get 7 _ rfl⟩

set_option maxHeartbeats 8000000 in
theorem arePs_c (v : Value) (l : List Pe) (w : World) (hv : Sg peC 8 w v l) (hs : ∀ x ∈ l, x.p.path.length ≤ 1000000) :
    Calls Try.prog 19 #[v] w fun e w' => e = .returned (.bool (psB l)) ∧ Fp Non w w' := by
  obtain ⟨ao, cap, rfl⟩ := hv.shape
  obtain ⟨n, hnn⟩ : ∃ n, n = l.length := ⟨_, rfl⟩
  obtain ⟨r, hr⟩ : ∃ r, psB l = r := ⟨_, rfl⟩
  by_cases h16 : 16 < n
  · have t0 : ((16 : Int) < (n : Int)) = True := eq_true (by omega)
    have t1 : (16 < n) = True := eq_true h16
    have HN := Lib.hid (show r = false from by rw [← hr]; exact psB_false (fun h => by have := h.1; omega))
    rw [hr, ← hnn]
    clear hv hnn hr h16 hs
    go_enter Try.func19, Try.ntmps19
    go_wp2
    go_ret
    exact ⟨by rw [HN.out]; rfl, Fp.refl _ _⟩
  have t0 : ((16 : Int) < (n : Int)) = False := eq_false (by omega)
  have t1 : (16 < n) = False := eq_false h16
  have hall : (∀ k (h : k < l.length), ChkPe l k h) → r = true := fun h => by
    rw [← hr]; exact psB_true ((arePs_iff l).2 ⟨by omega, h⟩)
  have hnone : ∀ k (h : k < l.length), ¬ ChkPe l k h → r = false := fun k h hn => by
    rw [← hr]; exact psB_false (fun c => hn (((arePs_iff l).1 c).2 k h))
  have HX := Lib.hid (And.intro hnn (And.intro hv (And.intro hall (And.intro hnone hs))))
  have hnb : n ≤ 16 := by omega
  rw [hr, ← hnn]
  clear hv hnn hr hall hnone h16 hs
  go_enter Try.func19, Try.ntmps19
  go_wp2_with fail
  go_loopw [3, 11] (fun m i wr => ∃ k : Nat, k ≤ n ∧ i = .int .i64 k ∧ m = .int .i64 (lst l k) ∧ Hid (Fp Non w wr ∧ ∀ j (h : j < l.length), j < k → ChkPe l j h)) (fun _ i _ => n - (RowKit.intOf i).toNat)
  case atStart => exact ⟨0, Nat.zero_le _, rfl, by simp [lst], Fp.refl _ _, fun j _ h => absurd h (Nat.not_lt_zero j)⟩
  case round =>
    obtain ⟨k, hk, rfl, rfl, hR⟩ := hrel
    rename_i wr _
    by_cases hlt : k < n
    · have hkl : k < l.length := by rw [← HX.out.1]; exact hlt
      obtain ⟨g, o, cap', e, hcell⟩ := HX.out.2.1.at (by omega)
      injection e with e1 e2 e3
      subst e1 e3
      obtain ⟨c0, c1, c2, c3, c4, c5, c6, c7⟩ := pe_cells ((hcell k hkl).keep hR.out.1 (fun h => h))
      have hstep : ChkPe l k hkl → ∀ j (h : j < l.length), j < k + 1 → ChkPe l j h := fun h j hj hjk => by
        rcases Nat.lt_or_eq_of_le (show j ≤ k by omega) with e | e
        · exact hR.out.2 j hj e
        · subst e; exact h
      have hno := HX.out.2.2.2.1 k hkl
      have hsu := lst_succ l k hkl
      have hxp := HX.out.2.2.2.2 _ (List.getElem_mem hkl)
      unfold ChkPe at hno
      unfold ChkPe at hstep
      generalize lst l k = m at *
      generalize l[k] = x at *
      obtain ⟨op, x⟩ := x
      have hmc := fun w => mayP_c x w hxp
      obtain ⟨mp, hmp⟩ : ∃ b, mayP x = b := ⟨_, rfl⟩
      simp only at hno hstep c0 c1 c2 c3 c4 c5 c6 c7 hsu
      rw [hmp] at hno hstep
      simp only [hmp] at hmc
      unfold ptV strV at hmc
      obtain ⟨kd, d, p, da, vr, ow, tn⟩ := x
      simp only at hno hstep hmc c0 c1 c2 c3 c4 c5 c6 c7
      have q3 : ((k : Int) < (n : Int)) = True := eq_true (by omega)
      have q4 : (k < n) = True := eq_true hlt
      have HL := Lib.hid (And.intro hlt (And.intro hstep (And.intro hno hsu)))
      have HF := Lib.hid (hR.out.1.then (fp_alloc wr (.cells #[.int .i64 op, .int .i64 kd, .string (B d), .string (B p), .string (B da), .int .i64 vr, .int .i64 ow, .bool tn] 48)))
      have HM := Lib.hid hmc
      clear hcell hkl hlt hstep hno hxp hmp hmc hsu
      by_cases h1 : op < m
      · have s1 : (op < m) = True := eq_true h1
        have HN := Lib.hid (HL.out.2.2.1 (fun h => by have := h.1; omega))
        clear h1
        go_wp2
        go_ret
        exact ⟨by rw [HN.out]; rfl, HF.out⟩
      have s1 : (op < m) = False := eq_false h1
      by_cases h2 : 8 ≤ op
      · have s2 : (8 ≤ op) = True := eq_true h2
        have HN := Lib.hid (HL.out.2.2.1 (fun h => by have := h.2.1; omega))
        clear h1 h2
        go_wp2
        go_ret
        exact ⟨by rw [HN.out]; rfl, HF.out⟩
      have s2 : (8 ≤ op) = False := eq_false h2
      have HO := Lib.hid (And.intro (Int.not_lt.1 h1) (Int.not_le.1 h2))
      clear h1 h2
      cases mp with
      | false =>
        have HN := Lib.hid (HL.out.2.2.1 (fun h => by have := h.2.2.1; exact Bool.noConfusion this))
        go_wp2_with fail
        refine (HM.out _).mono ?_
        rintro e w1 ⟨rfl, hf⟩
        have HF1 := Lib.hid (HF.out.then hf)
        clear hf
        go_wp2
        go_ret
        exact ⟨by rw [HN.out]; rfl, HF1.out⟩
      | true =>
        by_cases h3 : vr = 281474976710656
        · subst h3
          have HN := Lib.hid (HL.out.2.2.1 (fun h => h.2.2.2 rfl))
          have hb := heap_alloc_new wr (.cells #[.int .i64 op, .int .i64 kd, .string (B d), .string (B p), .string (B da), .int .i64 281474976710656, .int .i64 ow, .bool tn] 48)
          have HB := Lib.hid hb
          clear hb
          go_wp2_with fail
          refine (HM.out _).mono ?_
          rintro e w1 ⟨rfl, hf⟩
          have d5 := (boxP8 (hf.heap HB.out (fun h => h))).2.2.2.2.2.1
          have HF1 := Lib.hid (HF.out.then hf)
          clear hf
          go_wp2
          go_ret
          exact ⟨by rw [HN.out]; rfl, HF1.out⟩
        · have s3 : (vr == 281474976710656) = false := beq_eq_false_iff_ne.2 h3
          have s4 : (vr = 281474976710656) = False := eq_false h3
          have HN := Lib.hid (HL.out.2.1 ⟨HO.out.1, HO.out.2, rfl, h3⟩)
          have hb := heap_alloc_new wr (.cells #[.int .i64 op, .int .i64 kd, .string (B d), .string (B p), .string (B da), .int .i64 vr, .int .i64 ow, .bool tn] 48)
          have HB := Lib.hid hb
          have hkn := HL.out.1
          clear hb h3
          go_wp2_with fail
          refine (HM.out _).mono ?_
          rintro e w1 ⟨rfl, hf⟩
          have hb1 := boxP8 (hf.heap HB.out (fun h => h))
          have d5 := hb1.2.2.2.2.2.1
          have d0 := hb1.1
          have HF1 := Lib.hid (HF.out.then hf)
          clear hf hb1
          go_wp2
          go_roundw
          case rel => exact ⟨k + 1, by omega, by go_num, by rw [HL.out.2.2.2], HF1.out, HN.out⟩
          case measure => simp [RowKit.intOf]; omega
    · have hke : k = n := by omega
      subst hke
      have q3 : ((k : Int) < (k : Int)) = False := eq_false (by omega)
      have HT := Lib.hid (HX.out.2.2.1 (fun j h => hR.out.2 j h (by rw [HX.out.1]; exact h)))
      clear hlt hk
      go_wp2
      go_ret
      exact ⟨by rw [HT.out]; rfl, hR.out.1⟩

set_option maxHeartbeats 4000000 in
theorem isSt_c (v : Value) (s : St) (w : World) (hv : Sto w v s) (hs : Sp s.nodes) (hn : s.nodes.length ≤ 1000000) (hst : ∀ t ∈ s.turns, t.dir.length ≤ 1000000) (hmm : s.turns.length ≤ 1000000) :
    Calls Try.prog 20 #[v] w fun e w' => e = .returned (.bool (stB s)) ∧ Fp Non w w' := by
  obtain ⟨vn, vt, rfl, h1, h2⟩ := hv.ex
  obtain ⟨ao, cap, rfl⟩ := h1.shape
  obtain ⟨at', capt, rfl⟩ := h2.shape
  obtain ⟨n, hnn⟩ : ∃ n, n = s.nodes.length := ⟨_, rfl⟩
  obtain ⟨m, hm⟩ : ∃ m, m = s.turns.length := ⟨_, rfl⟩
  have HF := Lib.hid (fp_alloc w (.cells #[.slice ao s.nodes.length cap, .slice at' s.turns.length capt] 26))
  have hb := heap_alloc_new w (.cells #[.slice ao s.nodes.length cap, .slice at' s.turns.length capt] 26)
  have hrc := rightP_c _ s (w.alloc (.cells #[.slice ao s.nodes.length cap, .slice at' s.turns.length capt] 26)) (hv.non HF.out) hs hn hst hmm
  rw [← hnn, ← hm] at HF hb hrc
  rw [← hnn, ← hm]
  have HRC := Lib.hid hrc
  by_cases h5 : n ≤ 512
  · have t0 : ((n : Int) ≤ 512) = True := eq_true (by omega)
    have t1 : (n ≤ 512) = True := eq_true h5
    by_cases h6 : m ≤ 512
    · have t2 : ((m : Int) ≤ 512) = True := eq_true (by omega)
      have t3 : (m ≤ 512) = True := eq_true h6
      obtain ⟨r, hr⟩ : ∃ r, rightS s = r := ⟨_, rfl⟩
      have he : stB s = r := by
        cases r with
        | true => exact stB_true ⟨by omega, by omega, (rightS_iff s).1 hr⟩
        | false => exact stB_false (fun h => by rw [rightS_true h.2.2] at hr; exact Bool.noConfusion hr)
      rw [he]
      rw [hr] at HRC
      clear h1 h2 hv hnn hm hs hn hst hmm hb hrc h5 h6 hr he
      go_enter Try.func20, Try.ntmps20
      go_wp2_with fail
      refine HRC.out.mono ?_
      rintro e w1 ⟨rfl, hf⟩
      have HF1 := Lib.hid (HF.out.then hf)
      clear hf
      cases r <;> (go_wp2; go_ret; exact ⟨rfl, HF1.out⟩)
    · have t2 : ((m : Int) ≤ 512) = False := eq_false (by omega)
      have t3 : (m ≤ 512) = False := eq_false h6
      rw [stB_false (fun h => h6 (by have := h.2.1; omega))]
      clear h1 h2 hv hnn hm hs hn hst hmm hb hrc h5 h6 HRC
      go_enter Try.func20, Try.ntmps20
      go_wp2
      go_ret
      exact ⟨rfl, HF.out⟩
  · have t0 : ((n : Int) ≤ 512) = False := eq_false (by omega)
    have t1 : (n ≤ 512) = False := eq_false h5
    rw [stB_false (fun h => h5 (by have := h.1; omega))]
    clear h1 h2 hv hnn hm hs hn hst hmm hb hrc h5 HRC
    go_enter Try.func20, Try.ntmps20
    go_wp2
    go_ret
    exact ⟨rfl, HF.out⟩
end Go.Proofs.Ytlmfinpmlilcgaa

