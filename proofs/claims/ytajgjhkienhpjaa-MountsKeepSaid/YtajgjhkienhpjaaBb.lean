/- mounts.isGroup, moving, fits, exact, and the closures (gen_bb.py) -/
import Derived.Test.YtajgjhkienhpjaaBf
import Derived.Test.YtajgjhkienhpjaaBi
import Derived.Test.YtajgjhkienhpjaaPb
namespace Go.Proofs.Ytajgjhkienhpjaa
set_option maxRecDepth 20000
set_option linter.unusedVariables false
set_option linter.unusedSimpArgs false
open Go.RowKit Pm


set_option maxHeartbeats 400000 in
theorem isGroup_c (n : Int) (w : World) : Calls Try.prog 32 #[.int .i64 n] w fun e w' => e = .returned (.bool (okG n)) ∧ w' = w := by
  by_cases h0 : 0 ≤ n
  · have q1 : ((0 : Int) ≤ n) = True := eq_true h0
    by_cases h1 : n < 4
    · have q2 : (n < 4) = True := eq_true h1
      have e : okG n = true := decide_eq_true ⟨h0, h1⟩
      rw [e]
      clear h0 h1 e
      go_enter Try.func32, Try.ntmps32
      go_wp2
      go_ret
      exact ⟨rfl, rfl⟩
    · have q2 : (n < 4) = False := eq_false h1
      have e : okG n = false := decide_eq_false (fun h => h1 h.2)
      rw [e]
      clear h0 h1 e
      go_enter Try.func32, Try.ntmps32
      go_wp2
      go_ret
      exact ⟨rfl, rfl⟩
  · have q1 : ((0 : Int) ≤ n) = False := eq_false h0
    have e : okG n = false := decide_eq_false (fun h => h0 h.1)
    rw [e]
    clear h0 e
    go_enter Try.func32, Try.ntmps32
    go_wp2
    go_ret
    exact ⟨rfl, rfl⟩
set_option maxHeartbeats 400000 in
theorem moving_c (x : Mt) (w : World) : Calls Try.prog 25 #[mtV x] w fun e w' => e = .returned (.bool (mvM x)) ∧ Fp Non w w' := by
  obtain ⟨d, g, ep, t⟩ := x
  unfold mtV strV
  have hf : ∀ o, Fp Non w (w.alloc o) := fun o => (Fp.refl Non w).alloc o
  have HF := Lib.hid hf
  clear hf
  simp only
  by_cases h : t = g
  · have q1 : (t == g) = true := by rw [h]; exact beq_self_eq_true g
    have q2 : (t = g) = True := eq_true h
    have e : mvM ⟨d, g, ep, t⟩ = false := decide_eq_false (fun k => k h)
    rw [e]
    have q3 : (t != g) = false := by simp [bne, q1]
    clear h e
    go_enter Try.func25, Try.ntmps25
    go_wp2
    go_ret
    exact ⟨rfl, HF.out _⟩
  · have q1 : (t == g) = false := beq_eq_false_iff_ne.2 h
    have q2 : (t = g) = False := eq_false h
    have e : mvM ⟨d, g, ep, t⟩ = true := decide_eq_true h
    rw [e]
    have q3 : (t != g) = true := by simp [bne, q1]
    clear h e
    go_enter Try.func25, Try.ntmps25
    go_wp2
    go_ret
    exact ⟨rfl, HF.out _⟩
set_option maxHeartbeats 2000000 in
theorem fits_c (x : Mt) (w : World) (hp : x.d.length ≤ 1000000) : Calls Try.prog 30 #[mtV x] w fun e w' => e = .returned (.bool (okM x)) ∧ Fp Non w w' := by
  obtain ⟨p, g, ep, t⟩ := x
  have h3 := fun w => Right_g p w (sz_of hp (by omega))
  have e : okM ⟨p, g, ep, t⟩ = ((split p).isSome && okG g && okG t && okE ep) := rfl
  rw [e]
  have hF := BxM.new w ⟨p, g, ep, t⟩
  have HF := Lib.hid (And.intro (fp_alloc w (.cells #[.string (B p), .int .i64 g, .int .i64 ep, .int .i64 t] TM)) hF)
  unfold mtV strV
  generalize (split p).isSome = b3 at *
  have hg1 := fun w => isGroup_c g w
  have hg2 := fun w => isGroup_c t w
  generalize okG g = b1 at *
  generalize okG t = b2 at *
  have H3 := Lib.hid h3
  have HG1 := Lib.hid hg1
  have HG2 := Lib.hid hg2
  clear h3 hp e hF hg1 hg2
  simp only
  go_enter Try.func30, Try.ntmps30
  go_wp2_with fail
  refine (H3.out _).mono ?_
  rintro e w1 ⟨rfl, hg⟩
  have HG := Lib.hid (And.intro (HF.out.1.then hg.fp) (HF.out.2.non hg.fp))
  clear hg
  cases b3 with
  | false =>
    go_wp2
    go_ret
    exact ⟨rfl, HG.out.1⟩
  | true =>
    have hc := HG.out.2.at
    have c1 := hc.2.1; have c2 := hc.2.2.1; have c3 := hc.2.2.2
    clear hc
    simp only at c1 c2 c3
    go_wp2_with fail
    refine (HG1.out _).mono ?_
    rintro e w2 ⟨rfl, rfl⟩
    cases b1 with
    | false =>
      go_wp2
      go_ret
      exact ⟨rfl, HG.out.1⟩
    | true =>
      go_wp2_with fail
      refine (HG2.out _).mono ?_
      rintro e w2 ⟨rfl, rfl⟩
      cases b2 with
      | false =>
        go_wp2
        go_ret
        exact ⟨rfl, HG.out.1⟩
      | true =>
        go_wp2
        all_goals
          go_ret
          refine ⟨ret_bool ?_, HG.out.1⟩
          unfold okE mxN
          rw [Bool.eq_iff_iff]
          simp
          omega

/-! ### The closures -/
set_option maxHeartbeats 400000 in
theorem exact1_c (x : Mt) (g : Nat) (p : Bs) (w : World) (hg : w.cell? ⟨g, 0, none⟩ = some (.string (B p))) :
    Calls Try.prog 34 #[mtV x, .pointer (some ⟨g, 0, none⟩)] w fun e w' => e = .returned (.bool (decide (x.d = p))) ∧ Fp Non w w' := by
  obtain ⟨d, xg, ep, t⟩ := x
  unfold mtV strV
  have hk := fun o => (fp_alloc w o).cell hg (fun h => h)
  have HF := Lib.hid (fun o => fp_alloc w o)
  have HK := Lib.hid hk
  clear hk
  have hg' := HK.out (.cells #[.string (B d), .int .i64 xg, .int .i64 ep, .int .i64 t] TM)
  simp only
  by_cases h : d = p
  · have q1 : (d == p) = true := by rw [h]; exact beq_self_eq_true p
    have e : decide (d = p) = true := decide_eq_true h
    rw [e]
    clear h e hg
    go_enter Try.func34, Try.ntmps34
    go_wp2
    go_ret
    exact ⟨rfl, HF.out _⟩
  · have q1 : (d == p) = false := beq_eq_false_iff_ne.2 h
    have e : decide (d = p) = false := decide_eq_false h
    rw [e]
    clear h e hg
    go_enter Try.func34, Try.ntmps34
    go_wp2
    go_ret
    exact ⟨rfl, HF.out _⟩
/-- Is the mount's prefix no lesser one? -/
def geqB (a b : Bs) : Bool := !lt a b
set_option maxHeartbeats 400000 in
theorem with1_c (x : Mt) (g : Nat) (y : Mt) (w : World) (hg : w.cell? ⟨g, 0, none⟩ = some (.string (B y.d))) :
    Calls Try.prog 40 #[mtV x, .pointer (some ⟨g, 0, none⟩)] w fun e w' => e = .returned (.bool (geqB x.d y.d)) ∧ Fp Non w w' := by
  obtain ⟨d, xg, ep, t⟩ := x
  obtain ⟨p, yg, yep, yt⟩ := y
  unfold mtV strV
  simp only at hg ⊢
  have hk := fun o => (fp_alloc w o).cell hg (fun h => h)
  have HF := Lib.hid (fun o => fp_alloc w o)
  have HK := Lib.hid hk
  clear hk
  have hg' := HK.out (.cells #[.string (B d), .int .i64 xg, .int .i64 ep, .int .i64 t] TM)
  cases h : lt d p with
  | true =>
    have q1 : Op.bytesLess d p = true := h
    have q2 : Op.bytesLess p d = false := lt_asymm h
    have q3 : (d == p) = false := beq_eq_false_iff_ne.2 (lt_ne h)
    have q4 : (p == d) = false := beq_eq_false_iff_ne.2 (lt_ne h).symm
    have e : geqB d p = false := by unfold geqB; rw [h]; rfl
    rw [e]
    clear h e hg
    go_enter Try.func40, Try.ntmps40
    go_wp2
    go_ret
    exact ⟨rfl, HF.out _⟩
  | false =>
    have q1 : Op.bytesLess d p = false := h
    have e : geqB d p = true := by unfold geqB; rw [h]; rfl
    rw [e]
    by_cases hd : d = p
    · have q3 : (d == p) = true := by rw [hd]; exact beq_self_eq_true p
      have q4 : (p == d) = true := by rw [hd]; exact beq_self_eq_true p
      clear h e hg hd
      go_enter Try.func40, Try.ntmps40
      go_wp2
      go_ret
      exact ⟨rfl, HF.out _⟩
    · have q2 : Op.bytesLess p d = true := lt_of h hd
      clear h e hg hd
      go_enter Try.func40, Try.ntmps40
      go_wp2
      go_ret
      exact ⟨rfl, HF.out _⟩
/-- Does it move near p? -/
def nrM (p : Bs) (m : Mt) : Bool := mvM m && (inB m.d p || inB p m.d)
set_option maxHeartbeats 1000000 in
theorem refusal1_c (x : Mt) (g : Nat) (p : Bs) (w : World) (hx : x.d.length ≤ 1000000) (hp : p.length ≤ 1000000) (hg : w.cell? ⟨g, 0, none⟩ = some (.string (B p))) :
    Calls Try.prog 35 #[mtV x, .pointer (some ⟨g, 0, none⟩)] w fun e w' => e = .returned (.bool (nrM p x)) ∧ Fp Non w w' := by
  obtain ⟨d, xg, ep, t⟩ := x
  simp only at hx
  have h1 := fun w => moving_c ⟨d, xg, ep, t⟩ w
  have h2 := fun w => In_c d p w (by omega) (by omega)
  have h3 := fun w => In_c p d w (by omega) (by omega)
  have e : nrM p ⟨d, xg, ep, t⟩ = (mvM ⟨d, xg, ep, t⟩ && (inB d p || inB p d)) := rfl
  rw [e]
  have hb := BxM.new w ⟨d, xg, ep, t⟩
  have HB := Lib.hid (And.intro (fp_alloc w (.cells #[.string (B d), .int .i64 xg, .int .i64 ep, .int .i64 t] TM)) (And.intro hb ((fp_alloc w (.cells #[.string (B d), .int .i64 xg, .int .i64 ep, .int .i64 t] TM)).cell hg (fun h => h))))
  unfold mtV strV at h1 ⊢
  simp only at h1 ⊢
  generalize mvM ⟨d, xg, ep, t⟩ = b1 at *
  generalize inB d p = b2 at *
  generalize inB p d = b3 at *
  have H1 := Lib.hid h1
  have H2 := Lib.hid h2
  have H3 := Lib.hid h3
  have hc := HB.out.2.1.at
  have c0 := hc.1; have c1 := hc.2.1; have c2 := hc.2.2.1; have c3 := hc.2.2.2
  have cg := HB.out.2.2
  simp only at c0 c1 c2 c3
  clear h1 h2 h3 hx hp hg e hb hc
  go_enter Try.func35, Try.ntmps35
  go_wp2_with fail
  refine (H1.out _).mono ?_
  rintro e w1 ⟨rfl, hf⟩
  have HC := Lib.hid (And.intro (HB.out.1.then hf) (And.intro (HB.out.2.1.non hf) (hf.cell HB.out.2.2 (fun h => h))))
  clear hf c0 c1 c2 c3 cg
  cases b1 with
  | false =>
    go_wp2
    go_ret
    exact ⟨rfl, HC.out.1⟩
  | true =>
  have c0 := HC.out.2.1.at.1
  have cg := HC.out.2.2
  simp only at c0
  go_wp2_with fail
  refine (H2.out _).mono ?_
  rintro e w2 ⟨rfl, hf⟩
  have HD := Lib.hid (And.intro (HC.out.1.then (Fp.of_below hf)) (And.intro (HC.out.2.1.non (Fp.of_below hf)) ((Fp.of_below hf).cell HC.out.2.2 (fun h => h))))
  clear hf c0 cg
  cases b2 with
  | true =>
    go_wp2
    go_ret
    exact ⟨rfl, HD.out.1⟩
  | false =>
  have c0 := HD.out.2.1.at.1
  have cg := HD.out.2.2
  simp only at c0
  go_wp2_with fail
  refine (H3.out _).mono ?_
  rintro e w3 ⟨rfl, hf⟩
  have HE := Lib.hid (HD.out.1.then (Fp.of_below hf))
  clear hf c0 cg
  go_wp2
  go_ret
  exact ⟨ret_bool (by cases b3 <;> rfl), HE.out⟩

theorem exact_pd {w : World} {g : Nat} {p : Bs} (hg : w.cell? ⟨g, 0, none⟩ = some (.string (B p))) : PdM Non w (.func (.func 34) #[] #[.pointer (some ⟨g, 0, none⟩)]) (fun m => decide (m.d = p)) :=
  ⟨_, _, _, rfl, enters_of Try.func34 (by kernel_rfl) rfl, fun x w1 _ hf => exact1_c x g p w1 (hf.cell hg (fun h => h))⟩
theorem with_pd {w : World} {g : Nat} {y : Mt} (hg : w.cell? ⟨g, 0, none⟩ = some (.string (B y.d))) : PdM Non w (.func (.func 40) #[] #[.pointer (some ⟨g, 0, none⟩)]) (fun m => geqB m.d y.d) :=
  ⟨_, _, _, rfl, enters_of Try.func40 (by kernel_rfl) rfl, fun x w1 _ hf => with1_c x g y w1 (hf.cell hg (fun h => h))⟩
theorem refusal_pd {w : World} {g : Nat} {p : Bs} (hp : p.length ≤ 1000000) (hg : w.cell? ⟨g, 0, none⟩ = some (.string (B p))) : PdM Non w (.func (.func 35) #[] #[.pointer (some ⟨g, 0, none⟩)]) (nrM p) :=
  ⟨_, _, _, rfl, enters_of Try.func35 (by kernel_rfl) rfl, fun x w1 hx hf => refusal1_c x g p w1 hx hp (hf.cell hg (fun h => h))⟩

set_option maxHeartbeats 1000000 in
theorem exact_c (v : Value) (l : List Mt) (p : Bs) (w : World) (hv : NsM w v l) (hs : MSp l) (hn : l.length ≤ 1000000) :
    Calls Try.prog 24 #[v, .string (B p)] w fun e w' => e = .returned (.int .i64 (idx (exM l p))) ∧ Fp Non w w' := by
  have f1 := fp_alloc w (.cells #[.string (B p)] 9)
  have hbx := heap_alloc_new w (.cells #[.string (B p)] 9)
  have hpd := exact_pd (w := w.alloc (.cells #[.string (B p)] 9)) (g := w.heap.size) (p := p) (by rw [cell_of_row _ _ _ _ _ _ hbx]; rfl)
  have hi := IndexM_c v _ l _ _ (hv.non f1) hs hpd hn
  obtain ⟨ao, cap, rfl⟩ := hv.shape
  generalize l.length = n at *
  have HI := Lib.hid hi
  have HF := Lib.hid f1
  clear hi hpd hbx f1 hv hs hn
  go_enter Try.func24, Try.ntmps24
  go_wp2_with fail
  refine HI.out.mono ?_
  rintro e w1 ⟨⟨z, rfl, hz⟩, hf⟩
  have HZ := Lib.hid (And.intro (findM_eq hz) (HF.out.then hf))
  clear hz hf
  go_wp2
  go_ret
  exact ⟨ret_int HZ.out.1, HZ.out.2⟩

end Go.Proofs.Ytajgjhkienhpjaa
