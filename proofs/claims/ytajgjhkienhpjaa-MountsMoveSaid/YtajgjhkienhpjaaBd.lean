/- mounts.may, Of, refusal (gen_bd.py) -/
import Derived.Test.YtajgjhkienhpjaaBw
namespace Go.Proofs.Ytajgjhkienhpjaa
set_option maxRecDepth 20000
set_option linter.unusedVariables false
set_option linter.unusedSimpArgs false
open Go.RowKit Pm


/-- What is asked of mounts that are handed in. -/
structure SzM (l : List Mt) : Prop where
  n : l.length ≤ 1000000
  p : ∀ x ∈ l, x.d.length ≤ 1000000
theorem pick_yes {l : List Mt} (h : RtM l) {p : Bs} (hp : okP p = true) : ∃ k, ∃ hk : k < l.length, bk l p l.length = some k ∧ ofR l p = some k ∧ pick l p = some l[k] := by
  obtain ⟨ps, hs⟩ := Option.isSome_iff_exists.1 hp
  have hne : pick l p ≠ none := by
    rw [pick_filter h]
    obtain ⟨x, r, rfl, hx⟩ := h.root
    rw [List.filter_cons, hx, if_pos (in_root hs)]
    intro hn
    rw [List.getLast?_eq_none_iff] at hn
    cases hn
  cases ho : ofR l p with
  | none => exact absurd (pick_none ho) hne
  | some k =>
    have hb := ho
    unfold ofR at hb
    rw [if_pos ((right_iff l).2 h)] at hb
    exact ⟨k, ofR_lt ho, hb, rfl, pick_at ho⟩

set_option maxHeartbeats 1000000 in
theorem may_c (v : Value) (l : List Mt) (p : Bs) (to : Int) (w : World) (hv : NsM w v l) (hs : SzM l) (hp : p.length ≤ 1000000) :
    Calls Try.prog 23 #[v, .string (B p), .int .i64 to] w fun e w' => e = .returned (.bool (mayM l p to)) ∧ Fp Non w w' := by
  have h1 := RightM_c v l w hv hs.p (by have := hs.n; omega)
  have h2 := fun w => Right_g p w (sz_of hp (by omega))
  have h3 := fun w => isGroup_c to w
  obtain ⟨ao, cap, rfl⟩ := hv.shape
  have e : mayM l p to = (rightM l && (split p).isSome && okG to) := rfl
  rw [e]
  generalize rightM l = b1 at *
  generalize (split p).isSome = b2 at *
  generalize okG to = b3 at *
  generalize l.length = n at *
  have H1 := Lib.hid h1
  have H2 := Lib.hid h2
  have H3 := Lib.hid h3
  clear h1 h2 h3 hv hs hp e
  go_enter Try.func23, Try.ntmps23
  go_wp2_with fail
  refine H1.out.mono ?_
  rintro e w1 ⟨rfl, hf⟩
  have HF := Lib.hid hf
  clear hf
  cases b1 with
  | false =>
    go_wp2
    go_ret
    exact ⟨rfl, HF.out⟩
  | true =>
  go_wp2_with fail
  refine (H2.out _).mono ?_
  rintro e w2 ⟨rfl, hf⟩
  have HG := Lib.hid (HF.out.then hf.fp)
  clear hf
  cases b2 with
  | false =>
    go_wp2
    go_ret
    exact ⟨rfl, HG.out⟩
  | true =>
  go_wp2_with fail
  refine (H3.out _).mono ?_
  rintro e w3 ⟨rfl, rfl⟩
  go_wp2
  go_ret
  exact ⟨ret_bool (by cases b3 <;> rfl), HG.out⟩

set_option maxHeartbeats 1000000 in
theorem OfM_c (v : Value) (l : List Mt) (d : Bs) (w : World) (hv : NsM w v l) (hs : SzM l) (hd : d.length ≤ 1000000) :
    Calls Try.prog 15 #[v, .string (B d)] w fun e w' => e = .returned (.int .i64 (idx (ofR l d))) ∧ Fp Non w w' := by
  have h1 := RightM_c v l w hv hs.p (by have := hs.n; omega)
  have h2 := fun W (f : Fp Non w W) => mountOf_c v l d W (hv.non f) hs.n hs.p hd
  obtain ⟨ao, cap, rfl⟩ := hv.shape
  have e : ofR l d = if rightM l = true then bk l d l.length else none := rfl
  rw [e]
  generalize bk l d l.length = z at *
  generalize rightM l = b at *
  generalize l.length = n at *
  have H1 := Lib.hid h1
  have H2 := Lib.hid h2
  clear h1 h2 hv hs hd e
  go_enter Try.func15, Try.ntmps15
  go_wp2_with fail
  refine H1.out.mono ?_
  rintro e w1 ⟨rfl, hf⟩
  have HF := Lib.hid hf
  clear hf
  cases b with
  | false =>
    go_wp2
    go_ret
    exact ⟨rfl, HF.out⟩
  | true =>
    go_wp2_with fail
    refine (H2.out _ HF.out).mono ?_
    rintro e w2 ⟨rfl, hf⟩
    have HG := Lib.hid (HF.out.then hf)
    clear hf
    go_wp2
    go_ret
    exact ⟨rfl, HG.out⟩

theorem rfs_at {l : List Mt} {p : Bs} {to : Int} {y : Mt} (h : pick l p = some y) : rfs l p to = if nearM l p = true then 131 else if y.g = to then 61 else if (getM l p).isNone = true ∧ l.length = 32 ∨ y.e = mxN then 2 else 0 := by
  unfold rfs; rw [h]
set_option maxHeartbeats 4000000 in
theorem refusal_c (v : Value) (l : List Mt) (p : Bs) (to : Int) (w : World) (hv : NsM w v l) (hs : SzM l) (hp : p.length ≤ 1000000) (hr : RtM l) (hok : okP p = true) :
    Calls Try.prog 26 #[v, .string (B p), .int .i64 to] w fun e w' => e = .returned (.int .i64 (rfs l p to)) ∧ Fp Non w w' := by
  obtain ⟨k, hk, hbk, _, hpick⟩ := pick_yes hr hok
  have h1 := fun W (f : Fp Non w W) => mountOf_c v l p W (hv.non f) hs.n hs.p hp
  have h2 := fun W (f : Fp Non w W) => exact_c v l p W (hv.non f) hs.p hs.n
  have h3 := fun W g (f : Fp Non w W) (hg : W.cell? ⟨g, 0, none⟩ = some (.string (B p))) => ContainsM_c v _ l _ W (hv.non f) hs.p (refusal_pd hp hg) hs.n
  have hre := rfs_at (to := to) hpick
  obtain ⟨r, hrr⟩ : ∃ r, rfs l p to = r := ⟨_, rfl⟩
  rw [hrr] at hre ⊢
  have hnear : nearM l p = l.any (nrM p) := rfl
  rw [hnear] at hre
  obtain ⟨nb, hnb⟩ : ∃ b, l.any (nrM p) = b := ⟨_, rfl⟩
  rw [hnb] at hre
  obtain ⟨g, o, cap, rfl, _, _, _, hcell⟩ := hv.at (by omega)
  have hnd := hcell k hk
  rw [hbk] at h1
  have hlen := hr.len
  obtain ⟨y, hy⟩ : ∃ y, y = l[k] := ⟨_, rfl⟩
  rw [← hy] at hnd hre
  obtain ⟨n, hn⟩ : ∃ n, n = l.length := ⟨_, rfl⟩
  rw [← hn] at h1 h2 h3 hre hk hlen ⊢
  obtain ⟨ex, hex⟩ : ∃ x, exM l p = x := ⟨_, rfl⟩
  have hgx : (getM l p).isNone = ex.isNone := by
    rw [← hex]
    cases e : exM l p with
    | none => rw [exM_no e]; rfl
    | some i => rw [exM_at e]; rfl
  rw [hex] at h2
  rw [hgx] at hre
  have hb := heap_alloc_new w (.cells #[.string (B p)] 9)
  have H1 := Lib.hid h1
  have H2 := Lib.hid h2
  have H3 := Lib.hid (fun W g' f hg => (h3 W g' f hg).mono (fun e w' h => (show e = .returned (.bool nb) ∧ Fp Non W w' from by rw [← hnb]; exact h)))
  have HR := Lib.hid hre
  have HN := Lib.hid hnd
  have HB := Lib.hid (And.intro (fp_alloc w (.cells #[.string (B p)] 9)) (show (w.alloc (.cells #[.string (B p)] 9)).cell? ⟨w.heap.size, 0, none⟩ = some (.string (B p)) from by rw [cell_of_row _ _ _ _ _ _ hb]; rfl))
  have cp := HB.out.2
  have q1 : ((k : Int) < (n : Int)) = True := eq_true (by omega)
  have q2 : (k < n) = True := eq_true hk
  have hkb : k ≤ 32 := by omega
  have hx0 : ∀ j : Nat, (((j : Int) == -1) = false) ∧ (((j : Int) = -1) = False) := fun j => ⟨beq_eq_false_iff_ne.2 (by omega), eq_false (by omega)⟩
  have HX := Lib.hid hx0
  clear h1 h2 h3 hre hnear hnb hcell hnd hbk hpick hr hok hv hs hp hy hgx hex hn hrr hk hb hx0
  go_enter Try.func26, Try.ntmps26
  go_wp2_with fail
  refine (H1.out _ HB.out.1).mono ?_
  rintro e w1 ⟨rfl, hf⟩
  have f1 := HB.out.1.then hf
  have hnd := HN.out.keep f1 (fun h => h)
  have c0 := hnd.c0; have c1 := hnd.c1; have c2 := hnd.c2; have c3 := hnd.c3
  unfold strV at c0
  have cp := hf.cell HB.out.2 (fun h => h)
  have hbx := BxM.new w1 y
  have hfa := fp_alloc w1 (.cells #[.string (B y.d), .int .i64 y.g, .int .i64 y.e, .int .i64 y.t] TM)
  have K1 := Lib.hid (And.intro (f1.then hfa) (And.intro (hfa.cell cp (fun h => h)) hbx))
  have cq := K1.out.2.1
  simp only [idx]
  clear hf f1 hnd hbx hfa HB
  go_wp2_with fail
  refine (H2.out _ K1.out.1).mono ?_
  rintro e w2 ⟨rfl, hf⟩
  have K2 := Lib.hid (And.intro (K1.out.1.then hf) (And.intro (hf.cell K1.out.2.1 (fun h => h)) (K1.out.2.2.non hf)))
  clear hf K1 c0 c1 c2 c3 cp cq
  have cq := K2.out.2.1
  cases ex with
  | none =>
    simp only [idx]
    by_cases h32 : n = 32
    · have q3 : ((n : Int) == 32) = true := by rw [beq_iff_eq]; omega
      have q4 : ((n : Int) = 32) = True := eq_true (by omega)
      have HNN := Lib.hid h32
      clear h32
      go_wp2_with fail
      refine (H3.out _ w.heap.size K2.out.1 K2.out.2.1).mono ?_
      rintro e w3 ⟨rfl, hf⟩
      have K3 := Lib.hid (And.intro (K2.out.1.then hf) (K2.out.2.2.non hf).at)
      clear hf
      cases nb with
      | true =>
        have HE := Lib.hid (show r = 131 from by rw [HR.out, if_pos rfl])
        go_wp2
        go_ret
        exact ⟨ret_int HE.out.symm, K3.out.1⟩
      | false =>
      have c1 := K3.out.2.2.1; have c2 := K3.out.2.2.2.1
      by_cases hg : y.g = to
      · have HE := Lib.hid (show r = 61 from by rw [HR.out, if_neg (by decide), if_pos hg])
        have q7 : (y.g == to) = true := beq_iff_eq.2 hg
        have q8 : (y.g = to) = True := eq_true hg
        clear hg
        go_wp2
        go_ret
        exact ⟨ret_int HE.out.symm, K3.out.1⟩
      have q7 : (y.g == to) = false := beq_eq_false_iff_ne.2 hg
      have q8 : (y.g = to) = False := eq_false hg
      have HG := Lib.hid hg
      clear hg
      have HE := Lib.hid (show r = 2 from by rw [HR.out, if_neg (by decide), if_neg HG.out, if_pos (.inl ⟨rfl, HNN.out⟩)])
      go_wp2
      go_ret
      exact ⟨ret_int HE.out.symm, K3.out.1⟩
    · have q3 : ((n : Int) == 32) = false := beq_eq_false_iff_ne.2 (by omega)
      have q4 : ((n : Int) = 32) = False := eq_false (by omega)
      have HNN := Lib.hid (show ¬ ((none : Option Nat).isNone = true ∧ n = 32) from fun h => h32 h.2)
      clear h32
      go_wp2_with fail
      refine (H3.out _ w.heap.size K2.out.1 K2.out.2.1).mono ?_
      rintro e w3 ⟨rfl, hf⟩
      have K3 := Lib.hid (And.intro (K2.out.1.then hf) (K2.out.2.2.non hf).at)
      clear hf
      cases nb with
      | true =>
        have HE := Lib.hid (show r = 131 from by rw [HR.out, if_pos rfl])
        go_wp2
        go_ret
        exact ⟨ret_int HE.out.symm, K3.out.1⟩
      | false =>
      have c1 := K3.out.2.2.1; have c2 := K3.out.2.2.2.1
      by_cases hg : y.g = to
      · have HE := Lib.hid (show r = 61 from by rw [HR.out, if_neg (by decide), if_pos hg])
        have q7 : (y.g == to) = true := beq_iff_eq.2 hg
        have q8 : (y.g = to) = True := eq_true hg
        clear hg
        go_wp2
        go_ret
        exact ⟨ret_int HE.out.symm, K3.out.1⟩
      have q7 : (y.g == to) = false := beq_eq_false_iff_ne.2 hg
      have q8 : (y.g = to) = False := eq_false hg
      have HG := Lib.hid hg
      clear hg
      by_cases he : y.e = 281474976710656
      · have q9 : (y.e == 281474976710656) = true := beq_iff_eq.2 he
        have q10 : (y.e = 281474976710656) = True := eq_true he
        have HE := Lib.hid (show r = 2 from by rw [HR.out, if_neg (by decide), if_neg HG.out, if_pos (.inr he)])
        clear he
        go_wp2
        go_ret
        exact ⟨ret_int HE.out.symm, K3.out.1⟩
      · have q9 : (y.e == 281474976710656) = false := beq_eq_false_iff_ne.2 he
        have q10 : (y.e = 281474976710656) = False := eq_false he
        have HE := Lib.hid (show r = 0 from by rw [HR.out, if_neg (by decide), if_neg HG.out, if_neg (fun h => h.elim (fun h => HNN.out h) he)])
        clear he
        go_wp2
        go_ret
        exact ⟨ret_int HE.out.symm, K3.out.1⟩
  | some j =>
    simp only [idx]
    have q5 := (HX.out j).1
    have q6 := (HX.out j).2
    have HNN := Lib.hid (show ¬ ((some j : Option Nat).isNone = true ∧ n = 32) from fun h => by cases h.1)
    go_wp2_with fail
    refine (H3.out _ w.heap.size K2.out.1 K2.out.2.1).mono ?_
    rintro e w3 ⟨rfl, hf⟩
    have K3 := Lib.hid (And.intro (K2.out.1.then hf) (K2.out.2.2.non hf).at)
    clear hf
    cases nb with
    | true =>
      have HE := Lib.hid (show r = 131 from by rw [HR.out, if_pos rfl])
      go_wp2
      go_ret
      exact ⟨ret_int HE.out.symm, K3.out.1⟩
    | false =>
    have c1 := K3.out.2.2.1; have c2 := K3.out.2.2.2.1
    by_cases hg : y.g = to
    · have HE := Lib.hid (show r = 61 from by rw [HR.out, if_neg (by decide), if_pos hg])
      have q7 : (y.g == to) = true := beq_iff_eq.2 hg
      have q8 : (y.g = to) = True := eq_true hg
      clear hg
      go_wp2
      go_ret
      exact ⟨ret_int HE.out.symm, K3.out.1⟩
    have q7 : (y.g == to) = false := beq_eq_false_iff_ne.2 hg
    have q8 : (y.g = to) = False := eq_false hg
    have HG := Lib.hid hg
    clear hg
    by_cases he : y.e = 281474976710656
    · have q9 : (y.e == 281474976710656) = true := beq_iff_eq.2 he
      have q10 : (y.e = 281474976710656) = True := eq_true he
      have HE := Lib.hid (show r = 2 from by rw [HR.out, if_neg (by decide), if_neg HG.out, if_pos (.inr he)])
      clear he
      go_wp2
      go_ret
      exact ⟨ret_int HE.out.symm, K3.out.1⟩
    · have q9 : (y.e == 281474976710656) = false := beq_eq_false_iff_ne.2 he
      have q10 : (y.e = 281474976710656) = False := eq_false he
      have HE := Lib.hid (show r = 0 from by rw [HR.out, if_neg (by decide), if_neg HG.out, if_neg (fun h => h.elim (fun h => HNN.out h) he)])
      clear he
      go_wp2
      go_ret
      exact ⟨ret_int HE.out.symm, K3.out.1⟩

end Go.Proofs.Ytajgjhkienhpjaa
