/- OwnedEpochs: what was frozen is not Mine, nor can be frozen once more; it is Mine again just with a greater epoch; dropped it is Gone (gen_ua.py) -/
import Derived.Test.YtcjpgenlhphapaaOx
namespace Go.Proofs.Ytcjpgenlhphapaa
set_option maxRecDepth 20000
set_option linter.unusedVariables false
set_option linter.unusedSimpArgs false
open Go.RowKit Pm


set_option maxHeartbeats 8000000 in
theorem lawOwnedEpochs_c (v : Value) (l : List Hl) (p : Bs) (ep : Int) (w : World) (hv : NsH w v l) (hn : l.length ≤ 140737488355328) (hep : -9223372036854775808 ≤ ep ∧ ep ≤ 9223372036854775807) :
    Calls Try.prog 6 #[v, .string (B p), .int .i64 ep] w fun e w' => e = .returned (.bool true) ∧ Fp Non w w' := by
  have hgr := fun W (f : Fp Non w W) => Great_c v l W (hv.non f) hn
  have hfr := fun W (f : Fp Non w W) (h : Few l) (hp : p.length ≤ 1000000) => Freeze_c v l p W (hv.non f) h.szs hp
  obtain ⟨ao, cap, rfl⟩ := hv.shape
  generalize l.length = n at *
  have HG := Lib.hid hgr
  have HFR := Lib.hid hfr
  clear hgr hfr hv
  go_enter Try.func6, Try.ntmps6
  go_wp2_with fail
  refine (head_c _).mono ?_
  rintro e w1 ⟨rfl, hf1⟩
  have F1 := Lib.hid hf1
  clear hf1
  go_wp2_with fail
  refine (HG.out _ F1.out).mono ?_
  rintro e w2 ⟨gr, rfl, hg, hf2⟩
  have F2 := Lib.hid (F1.out.then hf2)
  clear hf2 F1
  cases gr with
  | true =>
    clear hg
    go_wp2
    go_ret
    exact ⟨rfl, F2.out⟩
  | false =>
  have FEW := Lib.hid (hg rfl)
  clear hg
  by_cases hp : 1000 < p.length
  · have q1 : ((1000 : Int) < (p.length : Int)) = True := eq_true (by omega)
    have q2 : (1000 < p.length) = True := eq_true hp
    clear hp
    go_wp2
    go_ret
    exact ⟨rfl, F2.out⟩
  have q1 : ((1000 : Int) < (p.length : Int)) = False := eq_false (by omega)
  have q2 : (1000 < p.length) = False := eq_false hp
  have hpb : p.length ≤ 1000000 := by omega
  have HPB := Lib.hid hpb
  clear hp hpb
  go_wp2_with fail
  refine (HFR.out _ F2.out FEW.out HPB.out).mono ?_
  intro e w3 hR
  obtain ⟨va, rfl, na⟩ := hR.ex
  have F3 := Lib.hid (F2.out.then hR.fp)
  clear hR F2 HFR HG
  cases hfz : frz l p with
  | none =>
    rw [hfz] at na
    obtain ⟨aa, ca, rfl⟩ := na.shape
    simp only [Option.getD_none, List.length_nil, Option.isSome_none]
    clear na hfz
    go_wp2
    go_ret
    exact ⟨rfl, F3.out⟩
  | some m =>
  rw [hfz] at na
  simp only [Option.getD_some, Option.isSome_some] at na ⊢
  obtain ⟨own, hE⟩ := ep_facts hfz
  obtain ⟨k, hk, hof, hmk⟩ := hE.pos
  obtain ⟨g, o, ca, rfl, _, _, _, hcell⟩ := na.at (by omega)
  have hnd := fun W (f : Fp Non w3 W) => (hcell k hk).keep f (fun h => h)
  rw [hmk] at hnd
  have h1 := fun W (f : Fp Non w3 W) => OfH_c _ m p W (na.non f) hE.rt.szs HPB.out
  have h2 := fun W (f : Fp Non w3 W) => Freeze_c _ m p W (na.non f) hE.rt.szs HPB.out
  have h3 := fun W (f : Fp Non w3 W) => Install_c _ m p ep W (na.non f) hE.rt.szs HPB.out
  have h4 := fun W (f : Fp Non w3 W) => Drop_c _ m p own W (na.non f) hE.rt.szs HPB.out
  have h5 := fun W (f : Fp Non w3 W) => Drop_c _ m p (own + 1) W (na.non f) hE.rt.szs HPB.out
  have h6 := fun v W (h : NsH W v (putH m ⟨p, own, 3⟩)) => StateH_c v _ p W h hE.gone.1.szs HPB.out
  have h7 := fun v W (hy : own < ep) (hz : ep ≤ mxN) (h : NsH W v (putH m ⟨p, ep, 1⟩)) => StateH_c v _ p W h (hE.yes ep hy hz).2.1.szs HPB.out
  rw [hof] at h1
  rw [hE.no] at h2
  rw [hE.out] at h4
  rw [hE.wrong] at h5
  rw [hE.gone.2] at h6
  have hbd := hE.bd
  have hkm : k < m.length := hk
  have hml := hE.rt.len
  obtain ⟨mn, hmn⟩ : ∃ q, q = m.length := ⟨_, rfl⟩
  rw [← hmn] at h1 h2 h3 h4 h5 hkm hml ⊢
  have H1 := Lib.hid h1
  have H2 := Lib.hid h2
  have H3 := Lib.hid h3
  have H4 := Lib.hid h4
  have H5 := Lib.hid h5
  have H6 := Lib.hid h6
  have H7 := Lib.hid h7
  have HND := Lib.hid hnd
  have HE := Lib.hid (And.intro hE.yes hE.not)
  have q3 : ((k : Int) < 0) = False := eq_false (by omega)
  have q4 : ((mn : Int) ≤ (k : Int)) = False := eq_false (by omega)
  have q5 : (mn ≤ k) = False := eq_false (by omega)
  have q6 : ((k : Int) < (mn : Int)) = True := eq_true (by omega)
  have q7 : (k < mn) = True := eq_true hkm
  unfold mxN at hbd
  have q8 : IntKind.i64.wrap (own + 1) = own + 1 := by rw [IntKind.wrap_i64]; omega
  have hkb : k ≤ 32 := by omega
  clear h1 h2 h3 h4 h5 h6 h7 hnd hE hk hof hmk hcell na hfz hmn FEW hkm
  go_wp2_with fail
  refine (H1.out _ (Fp.refl _ _)).mono ?_
  rintro e w4 ⟨rfl, hf⟩
  have F4 := Lib.hid (And.intro hf (F3.out.then hf))
  have hnd := HND.out _ hf
  have c0 := hnd.c0; have c1 := hnd.c1; have c2 := hnd.c2
  unfold strV at c0
  simp only at c0 c1 c2
  clear hf hnd
  simp only [idx]
  go_wp2_with fail
  refine (H2.out _ F4.out.1).mono ?_
  intro e w5 hR
  obtain ⟨vb, rfl, nb⟩ := hR.ex
  have F5 := Lib.hid (And.intro (F4.out.1.then hR.fp) (F4.out.2.then hR.fp))
  clear hR nb c0 c1 c2
  simp only [Option.isSome_none]
  go_wp2_with fail
  refine (H3.out _ F5.out.1).mono ?_
  intro e w6 hR
  obtain ⟨vc, rfl, nc⟩ := hR.ex
  have F6 := Lib.hid (And.intro (F5.out.1.then hR.fp) (F5.out.2.then hR.fp))
  have NC := Lib.hid nc
  clear hR nc
  go_wp2_with fail
  refine (H4.out _ F6.out.1).mono ?_
  intro e w7 hR
  obtain ⟨vd, rfl, nd⟩ := hR.ex
  have F7 := Lib.hid (And.intro (F6.out.1.then hR.fp) (F6.out.2.then hR.fp))
  have ND := Lib.hid nd
  simp only [Option.getD_some, Option.isSome_some] at ND ⊢
  have K7 := Lib.hid (And.intro (Kp.nsH ND.out) (Kp.fp F7.out.2))
  have G67 := Lib.hid hR.fp
  clear hR nd
  go_wp2_with fail
  refine (H5.out _ F7.out.1).mono ?_
  intro e w8 hR
  obtain ⟨ve, rfl, ne⟩ := hR.ex
  have F8 := Lib.hid (K7.out.2 _ hR.fp)
  have N8 := Lib.hid (K7.out.1 _ hR.fp)
  have G68 := Lib.hid (G67.out.then hR.fp)
  clear hR ne
  simp only [Option.isSome_none]
  by_cases hy : own < ep ∧ ep ≤ mxN
  · have hi := (HE.out.1 ep hy.1 hy.2).1
    have HY := Lib.hid hy
    obtain ⟨hy1, hy2⟩ := hy
    unfold mxN at hy2
    have q9 : (own < ep) = True := eq_true hy1
    have q10 : (ep ≤ 281474976710656) = True := eq_true hy2
    have NC8 := Lib.hid (NC.out.non G68.out)
    rw [hi] at NC8 ⊢
    simp only [Option.getD_some, Option.isSome_some] at NC8 ⊢
    clear hi hy1 hy2
    go_wp2_with fail
    refine (H6.out _ _ N8.out).mono ?_
    rintro e w9 ⟨rfl, hf⟩
    have HF := Lib.hid (F8.out.then hf)
    have NC9 := Lib.hid (NC8.out.non hf)
    have H7' := Lib.hid (H7.out _ w9 HY.out.1 HY.out.2 NC9.out)
    rw [(HE.out.1 ep HY.out.1 HY.out.2).2.2] at H7'
    clear hf
    go_wp2_with fail
    refine H7'.out.mono ?_
    rintro e w10 ⟨rfl, hf⟩
    have HZ := Lib.hid (HF.out.then hf)
    clear hf
    go_wp2
    go_ret
    exact ⟨rfl, HZ.out⟩
  · have hi := HE.out.2 ep hy
    rw [hi]
    simp only [Option.isSome_none]
    have q9 : (decide (own < ep) && decide (ep ≤ 281474976710656)) = false := by
      cases e : (decide (own < ep) && decide (ep ≤ 281474976710656)) with
      | false => rfl
      | true => simp only [Bool.and_eq_true, decide_eq_true_eq] at e; exact absurd e hy
    by_cases hy1 : own < ep
    · have hy2 : ¬ ep ≤ 281474976710656 := fun h => hy ⟨hy1, h⟩
      have q10 : (own < ep) = True := eq_true hy1
      have q11 : (ep ≤ 281474976710656) = False := eq_false hy2
      clear hy hy1 hy2 hi q9
      go_wp2_with fail
      refine (H6.out _ _ N8.out).mono ?_
      rintro e w9 ⟨rfl, hf⟩
      have HF := Lib.hid (F8.out.then hf)
      clear hf
      go_wp2
      go_ret
      exact ⟨rfl, HF.out⟩
    · have q10 : (own < ep) = False := eq_false hy1
      clear hy hy1 hi q9
      go_wp2_with fail
      refine (H6.out _ _ N8.out).mono ?_
      rintro e w9 ⟨rfl, hf⟩
      have HF := Lib.hid (F8.out.then hf)
      clear hf
      go_wp2
      go_ret
      exact ⟨rfl, HF.out⟩
end Go.Proofs.Ytcjpgenlhphapaa
