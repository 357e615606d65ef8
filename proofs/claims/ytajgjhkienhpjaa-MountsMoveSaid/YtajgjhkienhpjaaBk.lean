/- mounts.Flip (gen_bk.py) -/
import Derived.Test.YtajgjhkienhpjaaBe
namespace Go.Proofs.Ytajgjhkienhpjaa
set_option maxRecDepth 20000
set_option linter.unusedVariables false
set_option linter.unusedSimpArgs false
open Go.RowKit Pm


/-- What Flip answers. -/
structure FlR (w : World) (b : Fl) (e : Ending) (w' : World) : Prop where
  ex : ∃ v', e = .returned (.tuple #[v', .int .i64 b.e]) ∧ NsM w' v' b.l
  fp : Fp Non w w'
theorem BxM.set12 {W : World} {b : Nat} {z : Mt} (h : BxM W b z) (g e : Int) :
    BxM ((W.setCell ⟨b, 1, none⟩ (.int .i64 g)).setCell ⟨b, 2, none⟩ (.int .i64 e)) b ⟨z.d, g, e, z.t⟩ := by
  unfold BxM at h ⊢
  have h1 := heap_setCell_same W b 1 _ TM (.int .i64 g) h
  have h4 := heap_setCell_same _ b 2 _ TM (.int .i64 e) h1
  rw [h4]; simp
theorem flp_no {l : List Mt} {p : Bs} {ep to : Int} (h : mayM l p to = false) : flp l p ep to = ⟨[], 1⟩ := by unfold flp; rw [if_neg (by rw [h]; exact Bool.false_ne_true)]
theorem flp_none {l : List Mt} {p : Bs} {ep to : Int} (h : mayM l p to = true) (hg : getM l p = none) : flp l p ep to = ⟨l, 133⟩ := by unfold flp; rw [if_pos h, hg]
theorem flp_some {l : List Mt} {p : Bs} {ep to : Int} {y : Mt} (h : mayM l p to = true) (hg : getM l p = some y) : flp l p ep to = if y.t = to then (if mvM y = true ∧ y.e = ep ∧ ep < mxN then ⟨putM l ⟨p, to, ep + 1, to⟩, 0⟩ else if mvM y = false ∧ y.e = ep + 1 then ⟨l, 0⟩ else ⟨l, 133⟩) else ⟨l, 133⟩ := by unfold flp; rw [if_pos h, hg]

set_option maxHeartbeats 8000000 in
theorem Flip_c (v : Value) (l : List Mt) (p : Bs) (ep to : Int) (w : World) (hv : NsM w v l) (hs : SzM l) (hp : p.length ≤ 1000000) (hep : -9223372036854775808 ≤ ep ∧ ep ≤ 9223372036854775807) :
    Calls Try.prog 13 #[v, .string (B p), .int .i64 ep, .int .i64 to] w fun e w' => FlR w (flp l p ep to) e w' := by
  have hmy := fun W (f : Fp Non w W) => may_c v l p to W (hv.non f) hs hp
  have hex := fun W (f : Fp Non w W) => exact_c v l p W (hv.non f) hs.p hs.n
  have hrt : mayM l p to = true → RtM l := fun h => by
    unfold mayM at h; simp only [Bool.and_eq_true] at h; exact (right_iff l).1 h.1.1
  have hwi := fun W x (f : Fp Non w W) (h : RtM l) (hx : x.d = p) => with_c v l x W (hv.non f) h.up h.pos h.len hs.p (by rw [hx]; exact hp)
  have hnsw := fun W (f : Fp Non w W) => hv.non f
  obtain ⟨r, hr⟩ : ∃ r, flp l p ep to = r := ⟨_, rfl⟩
  have hno := flp_no (l := l) (p := p) (ep := ep) (to := to)
  have hnn := flp_none (l := l) (p := p) (ep := ep) (to := to)
  have hss := fun y => flp_some (l := l) (p := p) (ep := ep) (to := to) (y := y)
  rw [hr] at hno hnn ⊢
  simp only [hr] at hss
  obtain ⟨my, hmm⟩ : ∃ b, mayM l p to = b := ⟨_, rfl⟩
  rw [hmm] at hmy hno hnn hrt
  simp only [hmm] at hss
  obtain ⟨n, hn⟩ : ∃ n, n = l.length := ⟨_, rfl⟩
  obtain ⟨ao, cap, rfl⟩ := hv.shape
  have HAT := Lib.hid (fun k (hk : k < l.length) => (show ∃ g o, ao = some ⟨g, o, none⟩ ∧ NdAtM w g (o + k * 4) l[k] from by
    obtain ⟨g, o, cap', e, _, _, _, hcell⟩ := hv.at (by omega)
    injection e with e1 _ _
    exact ⟨g, o, e1, hcell k hk⟩))
  have hnb : n ≤ 1000000 := by have := hs.n; omega
  rw [← hn] at hmy hex hwi hnsw ⊢
  have HN := Lib.hid (And.intro hn hnsw)
  have HMY := Lib.hid hmy
  have HEX := Lib.hid hex
  have HWI := Lib.hid hwi
  have HNO := Lib.hid hno
  have HNN := Lib.hid hnn
  have HSS := Lib.hid hss
  have HRT := Lib.hid hrt
  have HEP := Lib.hid hep
  clear hmy hex hwi hno hnn hss hnsw hv hs hp hr hn hmm hrt
  go_enter Try.func13, Try.ntmps13
  go_wp2_with fail
  refine (HMY.out _ (Fp.refl _ _)).mono ?_
  rintro e w1 ⟨rfl, hf⟩
  have K1 := Lib.hid hf
  clear hf
  cases my with
  | false =>
    have HE := Lib.hid (HNO.out (by first | rfl | trivial))
    clear hep
    go_wp2
    go_ret2
    rw [HE.out]
    exact ⟨⟨_, rfl, NsM.nil _⟩, K1.out⟩
  | true =>
  have hrt := HRT.out (by first | rfl | trivial)
  go_wp2_with fail
  refine (HEX.out _ K1.out).mono ?_
  rintro e w2 ⟨rfl, hf⟩
  have K2 := Lib.hid (K1.out.then hf)
  clear hf
  cases hex : exM l p with
  | none =>
    have HE := Lib.hid (HNN.out (by first | rfl | trivial) (exM_no hex))
    simp only [idx]
    clear hex hrt hep
    go_wp2
    go_ret2
    rw [HE.out]
    exact ⟨⟨_, rfl, HN.out.2 _ K2.out⟩, K2.out⟩
  | some j =>
  obtain ⟨hj, hjd⟩ := exM_some hex
  have hss := HSS.out _ (by first | rfl | trivial) (exM_at hex)
  obtain ⟨g, o, hao, hxk⟩ := HAT.out j hj
  subst hao
  obtain ⟨y, hy⟩ : ∃ y, y = l[j] := ⟨_, rfl⟩
  have hye : 0 ≤ y.e ∧ y.e ≤ 281474976710656 := by
    have h1 := hrt.ok y (by rw [hy]; exact List.getElem_mem hj)
    unfold okM okE mxN at h1
    simp only [Bool.and_eq_true, decide_eq_true_eq] at h1
    exact h1.2
  rw [← hy] at hss hxk hjd
  have hwx := fun W t' (f : Fp Non w W) => HWI.out W ⟨y.d, to, ep + 1, t'⟩ f hrt hjd
  unfold mtV strV at hwx
  simp only at hwx
  have HWX := Lib.hid hwx
  have HJ := Lib.hid hxk
  have HS := Lib.hid hss
  have HD := Lib.hid hjd
  have hjn : j < n := by rw [HN.out.1]; exact hj
  have q3 : ((j : Int) < (n : Int)) = True := eq_true (by omega)
  have q4 : (j < n) = True := eq_true hjn
  have hjb : j ≤ 1000000 := by omega
  have q5 : ((j : Int) == -1) = false := beq_eq_false_iff_ne.2 (by omega)
  have q6 : ((j : Int) = -1) = False := eq_false (by omega)
  have hnd := HJ.out.keep K2.out (fun h => h)
  have c0 := hnd.c0; have c1 := hnd.c1; have c2 := hnd.c2; have c3 := hnd.c3
  unfold strV at c0
  have hmv := fun W => moving_c y W
  unfold mtV strV at hmv
  obtain ⟨mv, hmvv⟩ : ∃ b, mvM y = b := ⟨_, rfl⟩
  rw [hmvv] at hmv
  have HMV := Lib.hid hmv
  have HMVV := Lib.hid hmvv
  have hwr : (y.e == IntKind.i64.wrap (ep + 1)) = decide (y.e = ep + 1) := by
    have hw : (ep ≤ 9223372036854775806 ∧ IntKind.i64.wrap (ep + 1) = ep + 1) ∨ (ep = 9223372036854775807 ∧ IntKind.i64.wrap (ep + 1) = ep + 1 - 18446744073709551616) := by rw [IntKind.wrap_i64]; omega
    rw [Bool.eq_iff_iff, beq_iff_eq, decide_eq_true_eq]
    constructor
    · intro h; rcases hw with h1 | h1 <;> omega
    · intro h; rcases hw with h1 | h1 <;> omega
  have hwp : ep < 281474976710656 → y.e = ep → IntKind.i64.wrap (ep + 1) = ep + 1 := fun h1 h2 => by rw [IntKind.wrap_i64]; omega
  have HWR := Lib.hid (And.intro hwr hwp)
  simp only [idx]
  clear hss hxk hjn hnd hmv hmvv hy hj hex hjd hwx hrt HNO HNN HSS HRT HWI HEX HMY hwr hwp hye hep
  by_cases ht : ¬ y.t = to
  · have q8 : (y.t == to) = false := beq_eq_false_iff_ne.2 ht
    have q9 : (y.t = to) = False := eq_false ht
    have q10 : (y.t != to) = true := by simp [bne, q8]
    have HE := Lib.hid (show r = ⟨l, 133⟩ from by rw [HS.out, if_neg ht])
    clear ht
    go_wp2
    go_ret2
    rw [HE.out]
    exact ⟨⟨_, rfl, HN.out.2 _ K2.out⟩, K2.out⟩
  have ht := Decidable.not_not.1 ht
  have q8 : (y.t == to) = true := beq_iff_eq.2 ht
  have q9 : (y.t = to) = True := eq_true ht
  have q10 : (y.t != to) = false := by simp [bne, q8]
  have HT := Lib.hid ht
  have HBX := Lib.hid (And.intro (BxM.new w2 y) (K2.out.then (fp_alloc w2 (.cells #[.string (B y.d), .int .i64 y.g, .int .i64 y.e, .int .i64 y.t] TM))))
  clear ht
  go_wp2_with fail
  refine (HMV.out _).mono ?_
  rintro e w3 ⟨rfl, hf⟩
  have K3 := Lib.hid (And.intro (HBX.out.2.then hf) (HBX.out.1.non hf))
  clear hf HBX c0 c1 c2 c3
  have cc := K3.out.2.at
  have c0 := cc.1; have c1 := cc.2.1; have c2 := cc.2.2.1; have c3 := cc.2.2.2
  clear cc
  cases mv with
  | false =>
    go_wp2_with fail
    refine (HMV.out _).mono ?_
    rintro e w4 ⟨rfl, hf⟩
    have K4 := Lib.hid (And.intro (K3.out.1.then hf) (K3.out.2.non hf))
    clear hf c0 c1 c2 c3
    have cc := K4.out.2.at
    have c2 := cc.2.2.1
    clear cc
    cases hde : decide (y.e = ep + 1) with
    | true =>
      have q11 := HWR.out.1
      rw [hde] at q11
      rw [show IntKind.i64.wrap (ep + 1) = wrap64 (ep + 1) from by rw [IntKind.wrap_i64]; unfold wrap64; rfl] at q11
      have HE := Lib.hid (show r = ⟨l, 0⟩ from by rw [HS.out, if_pos HT.out, if_neg (fun h => by rw [HMVV.out] at h; cases h.1), if_pos ⟨HMVV.out, of_decide_eq_true hde⟩])
      clear hde
      go_wp2
      go_ret2
      rw [HE.out]
      exact ⟨⟨_, rfl, HN.out.2 _ K4.out.1⟩, K4.out.1⟩
    | false =>
      have q11 := HWR.out.1
      rw [hde] at q11
      rw [show IntKind.i64.wrap (ep + 1) = wrap64 (ep + 1) from by rw [IntKind.wrap_i64]; unfold wrap64; rfl] at q11
      have HE := Lib.hid (show r = ⟨l, 133⟩ from by rw [HS.out, if_pos HT.out, if_neg (fun h => by rw [HMVV.out] at h; cases h.1), if_neg (fun h => of_decide_eq_false hde h.2)])
      clear hde
      go_wp2
      go_ret2
      rw [HE.out]
      exact ⟨⟨_, rfl, HN.out.2 _ K4.out.1⟩, K4.out.1⟩
  | true =>
    by_cases he : y.e = ep
    · have q12 : (y.e == ep) = true := beq_iff_eq.2 he
      have q13 : (y.e = ep) = True := eq_true he
      by_cases hm : ep < 281474976710656
      · have q14 : (ep < 281474976710656) = True := eq_true hm
        have hwp := HWR.out.2 hm he
        have HE := Lib.hid (show r = ⟨putM l ⟨p, to, ep + 1, to⟩, 0⟩ from by rw [HS.out, if_pos HT.out, if_pos ⟨HMVV.out, he, hm⟩])
        have HB5 := Lib.hid ((K3.out.2.set12 to (ep + 1)))
        have HF5 := Lib.hid ((K3.out.1.setCell (p := ⟨w2.heap.size, 1, none⟩) (.inr K2.out.size) (.int .i64 to)).setCell (p := ⟨w2.heap.size, 2, none⟩) (.inr K2.out.size) (.int .i64 (ep + 1)))
        have f1 := K3.out.2.fz 1; have f2 := K3.out.2.fz 2
        clear he hm
        go_wp2_with fail
        refine (HWX.out _ _ HF5.out).mono ?_
        intro e w6 hM
        obtain ⟨v6, rfl, hN6, _⟩ := hM.ex
        have HZ := Lib.hid (And.intro hN6 (HF5.out.then hM.fp))
        clear hM hN6
        go_wp2
        go_ret2
        rw [HE.out]
        refine ⟨⟨_, rfl, ?_⟩, HZ.out.2⟩
        have h1 := HZ.out.1
        rw [HD.out, HT.out] at h1
        exact h1
      · have q14 : (ep < 281474976710656) = False := eq_false hm
        have HE := Lib.hid (show r = ⟨l, 133⟩ from by rw [HS.out, if_pos HT.out, if_neg (fun h => hm h.2.2), if_neg (fun h => by rw [HMVV.out] at h; cases h.1)])
        clear he hm
        go_wp2_with fail
        refine (HMV.out _).mono ?_
        rintro e w4 ⟨rfl, hf⟩
        have K4 := Lib.hid (And.intro (K3.out.1.then hf) (K3.out.2.non hf))
        clear hf c0 c1 c2 c3
        go_wp2
        go_ret2
        rw [HE.out]
        exact ⟨⟨_, rfl, HN.out.2 _ K4.out.1⟩, K4.out.1⟩
    · have q12 : (y.e == ep) = false := beq_eq_false_iff_ne.2 he
      have q13 : (y.e = ep) = False := eq_false he
      have HE := Lib.hid (show r = ⟨l, 133⟩ from by rw [HS.out, if_pos HT.out, if_neg (fun h => he h.2.1), if_neg (fun h => by rw [HMVV.out] at h; cases h.1)])
      clear he
      go_wp2_with fail
      refine (HMV.out _).mono ?_
      rintro e w4 ⟨rfl, hf⟩
      have K4 := Lib.hid (And.intro (K3.out.1.then hf) (K3.out.2.non hf))
      clear hf c0 c1 c2 c3
      go_wp2
      go_ret2
      rw [HE.out]
      exact ⟨⟨_, rfl, HN.out.2 _ K4.out.1⟩, K4.out.1⟩

end Go.Proofs.Ytajgjhkienhpjaa
