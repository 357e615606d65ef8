/- MetaStill (gen_e3.py) -/
import Derived.Test.YtdfnfkknbjageaaZT
set_option linter.unusedVariables false
set_option linter.unusedSimpArgs false
namespace Go.Proofs.Ytdfnfkknbjageaa
set_option maxRecDepth 20000
set_option linter.unusedVariables false
set_option linter.unusedSimpArgs false
open Go.RowKit Pm


/-- What a command leaves. -/
structure DoW (l : List Mt) (c : Cd) (d : List Mt × Int × List Mt) : Prop where
  rt : RtM d.1
  err : d.2.1 ≠ 0 → d.1 = l
  route : c.kind = 13 → d.1 = l ∧ (d.2.1 = 0 → d.2.2 = l)
theorem flp_rt {l : List Mt} {p : Bs} {ep tt : Int} (hr : RtM l) (h : (flp l p ep tt).e = 0) : RtM (flp l p ep tt).l := by
  by_cases hd : okP [47] = true
  · obtain ⟨k, y, hp⟩ := pkM hr hd
    exact (keep_flip h hd hp).rt
  · exact absurd (by decide) hd
theorem doW {l : List Mt} (hr : RtM l) (c : Cd) : DoW l c (doM l c) := by
  unfold doM
  by_cases h1 : rightC c = true
  · rw [if_pos h1]
    by_cases h11 : c.kind = 11
    · rw [if_pos h11]
      by_cases h0 : (bgn l c.pre c.to).e = 0
      · rw [bgM_yes h0]
        exact ⟨(beg (bgW l c.pre c.to) h0).rt, fun h => absurd rfl h, fun h => by omega⟩
      · rw [bgM_no h0]
        exact ⟨hr, fun _ => rfl, fun h => by omega⟩
    · rw [if_neg h11]
      by_cases h12 : c.kind = 12
      · rw [if_pos h12]
        unfold flM
        by_cases h0 : (flp l c.pre c.ep c.to).e = 0
        · rw [if_pos h0]
          exact ⟨flp_rt hr h0, fun h => absurd rfl h, fun h => by omega⟩
        · rw [if_neg h0]
          exact ⟨hr, fun _ => rfl, fun h => by omega⟩
      · rw [if_neg h12]
        by_cases h13 : c.kind = 13
        · rw [if_pos h13]
          exact ⟨hr, fun _ => rfl, fun _ => ⟨rfl, fun _ => rfl⟩⟩
        · rw [if_neg h13]
          exact ⟨hr, fun _ => rfl, fun h => absurd h h13⟩
  · rw [if_neg h1]
    exact ⟨hr, fun _ => rfl, fun _ => ⟨rfl, fun h => by simp at h⟩⟩
/-- What is so behind a command. -/
structure O4 (w : World) (q b : Nat) (er : Int) (l l' ms : List Mt) (v vw vn : Value) (V : World) : Prop where
  fp : Fp Non w V
  bx : V.heap[b]? = some (.cells (anL er v) TAN (0, 0))
  ns : NsM V v ms
  nw : NsM V vw l
  nn : NsM V vn l'
  me : MeW V q l'
theorem O4.non {w V V' : World} {q b : Nat} {er : Int} {l l' ms : List Mt} {v vw vn : Value} (h : O4 w q b er l l' ms v vw vn V) (f : Fp Non V V') : O4 w q b er l l' ms v vw vn V' :=
  ⟨h.fp.then f, f.heap h.bx (fun h => h), h.ns.non f, h.nw.non f, h.nn.non f, h.me.non f⟩
structure S4 (w : World) (q : Nat) (wr : World) : Prop where
  ex : ∃ l, RtM l ∧ MeW wr q l
  fp : Fp Non w wr
theorem szs_len {l : List Mt} (h : RtM l) : l.length ≤ 32 := h.len

set_option maxHeartbeats 16000000 in
theorem MetaStill_c (v vc : Value) (l : List Mt) (cs : List Cd) (w : World) (hv : NsM w v l) (hs : SzM l) (hc : CdsW w vc cs) (hcn : cs.length ≤ 140737488355328 ∧ ∀ c ∈ cs, Fw c ∧ Ln c) :
    Calls Try.prog 3 #[v, vc] w fun e w' => e = .returned (.bool true) ∧ Fp Non w w' := by
  have hnew := fun W (f : Fp Non w W) => NewM_c v l W (hv.non f) hs
  have hg := fun W (f : Fp Non w W) (h : CdsW W vc cs) => greatM_c v vc l cs W (hv.non f) hs.n h hcn.1 (fun c h => (hcn.2 c h).2)
  have hcs := fun W (f : Fp Non w W) => (show CdsW W vc cs from by
    obtain ⟨ao, cap, e, h⟩ := hc.ex
    refine ⟨ao, cap, e, ?_⟩
    rcases h with h | ⟨g, o, e2, hi⟩
    · exact .inl h
    · refine .inr ⟨g, o, e2, fun i h => ?_⟩
      obtain ⟨vp, vn, vt, vg, h1, h2, h3⟩ := hi i h
      exact ⟨vp, vn, vt, vg, h1.keep f (fun h => h), h2.non f, h3⟩)
  obtain ⟨ao, cap, rfl⟩ := hv.shape
  obtain ⟨co, cc, rfl⟩ := hc.shape
  obtain ⟨n, hn⟩ : ∃ n, n = l.length := ⟨_, rfl⟩
  obtain ⟨z, hz⟩ : ∃ n, n = cs.length := ⟨_, rfl⟩
  rw [← hn] at hnew hg ⊢
  rw [← hz] at hg hcs ⊢
  have HNEW := Lib.hid hnew
  have HG := Lib.hid (fun W (f : Fp Non w W) => hg W f (hcs W f))
  have HC := Lib.hid (And.intro hz (And.intro hcs hcn.2))
  have hzb : z ≤ 140737488355328 := by rw [hz]; exact hcn.1
  clear hnew hg hv hs hn hc hcs hz hcn
  go_enter Try.func3, Try.ntmps3
  go_wp2_with fail
  refine (headM_c _).mono ?_
  rintro e w1 ⟨rfl, hf1⟩
  have F1 := Lib.hid hf1
  clear hf1
  go_wp2_with fail
  refine (HNEW.out _ F1.out).mono ?_
  intro e w2 hR
  have F2 := Lib.hid (F1.out.then hR.fp)
  rcases hR.way with ⟨hr, rfl⟩ | ⟨hr, q, rfl, hM, hq⟩
  · clear hR hr
    go_wp2
    go_ret
    exact ⟨rfl, F2.out⟩
  have HRT := Lib.hid ((right_ifft l).1 hr)
  have HM := Lib.hid hM
  have HQ := Lib.hid (show w.heap.size ≤ q from Nat.le_trans F1.out.size hq)
  clear hR hr hM hq F1
  go_wp2_with fail
  refine (HG.out _ F2.out).mono ?_
  rintro e w3 ⟨⟨g, rfl⟩, hf⟩
  have F3 := Lib.hid (F2.out.then hf)
  have HM := Lib.hid (HM.out.non hf)
  clear hf F2
  cases g with
  | true =>
    go_wp2
    go_ret
    exact ⟨rfl, F3.out⟩
  | false =>
  have S3 := Lib.hid (show S4 w q w3 from ⟨⟨l, HRT.out, HM.out⟩, F3.out⟩)
  clear F3 HM HRT HNEW HG
  go_wp2_with fail
  go_loopw [7] (fun i wr => ∃ j : Nat, j ≤ z ∧ i = .int .i64 j ∧ Hid (S4 w q wr)) (fun i _ => z - (RowKit.intOf i).toNat)
  case atStart => exact ⟨0, Nat.zero_le _, rfl, S3⟩
  case round =>
    clear S3
    obtain ⟨j, hj, rfl, hI⟩ := hrel
    rename World => wr
    by_cases hlt : j < z
    · have hjl : j < cs.length := by rw [← HC.out.1]; exact hlt
      have q30 : ((j : Int) < (z : Int)) = True := eq_true (by omega)
      have q31 : (j < z) = True := eq_true hlt
      obtain ⟨lc, hrt, hme⟩ := hI.out.ex
      have HRT := Lib.hid hrt
      have HL := Lib.hid (And.intro hlt hj)
      have hfw := HC.out.2.2 _ (List.getElem_mem hjl)
      have hcell := fun W (f : Fp Non w W) => (show ∃ g o vp vn vt vg, co = some ⟨g, o, none⟩ ∧ CdAt W g (o + j * 16) cs[j] vp vn vt vg ∧ CdW W (.agg (cdL cs[j] vp vn vt vg)) cs[j] ∧ Slc vp vn vt vg from by
        obtain ⟨g, o, cap', e, hc⟩ := (HC.out.2.1 W f).at (by omega)
        rw [← HC.out.1] at e
        injection e with e1 e2 e3
        obtain ⟨vp, vn, vt, vg, h1, h2, h3⟩ := hc j hjl
        exact ⟨g, o, vp, vn, vt, vg, e1, h1, h2, h3⟩)
      obtain ⟨c, hcc⟩ : ∃ c, c = cs[j] := ⟨_, rfl⟩
      rw [← hcc] at hfw hcell
      obtain ⟨g, o, vp, vn, vt, vg, rfl, hat, hcd, hsl⟩ := hcell wr hI.out.fp
      obtain ⟨a1, n1, c1, rfl⟩ := hsl.p
      obtain ⟨a2, n2, c2, rfl⟩ := hsl.n
      obtain ⟨a3, n3, c3, rfl⟩ := hsl.t
      obtain ⟨a4, n4, c4, rfl⟩ := hsl.g
      have hkw := fun W (f : Fp Non w W) => (show W.cell? ⟨g, o + j * 16, none⟩ = some (.int .i64 c.kind) from by
        obtain ⟨g', o', _, _, _, _, e, h1, _, _⟩ := hcell W f
        injection e with e
        injection e with e1 e2 e3
        subst e1 e2
        have := h1.get 0 _ rfl
        simp only [Nat.add_zero] at this
        exact this)
      have HKN := Lib.hid hkw
      have HAT := Lib.hid (And.intro hat (And.intro hcd (And.intro hsl hfw.1)))
      have HMB := Lib.hid (szs_len hrt)
      clear hcell hcc hat hcd hsl hfw hjl hlt hj hkw hrt
      have HME := Lib.hid hme
      clear hme
      go_wp2_with fail
      refine (Mounts_c q lc _ HME.out (by have := HMB.out; omega)).mono ?_
      rintro e w5 ⟨vw, rfl, hO⟩
      obtain ⟨aw, cw, hvw⟩ := hO.own.ns.shape
      obtain ⟨nw, hnw⟩ : ∃ n, n = lc.length := ⟨_, rfl⟩
      rw [← hnw] at hvw
      subst hvw
      have I5 := Lib.hid (And.intro (hI.out.fp.then hO.fp) (And.intro hO.own.ns (HME.out.non hO.fp)))
      have hat := HAT.out.1.keep hO.fp (fun h => h)
      have hdo := Do_c q lc c (.slice a1 n1 c1) (.slice a2 n2 c2) (.slice a3 n3 c3) (.slice a4 n4 c4) w5 I5.out.2.2 HRT.out (HAT.out.2.1.non hO.fp) HAT.out.2.2.2 HAT.out.2.2.1
      have hdw := doW HRT.out c
      obtain ⟨d, hd⟩ : ∃ d, doM lc c = d := ⟨_, rfl⟩
      rw [hd] at hdo hdw
      obtain ⟨l', er, ms⟩ := d
      simp only at hdo
      have k0 := hat.get 0 _ rfl
      have k1 := hat.get 1 _ rfl
      have k2 := hat.get 2 _ rfl
      have k3 := hat.get 3 _ rfl
      have k4 := hat.get 4 _ rfl
      have k5 := hat.get 5 _ rfl
      have k6 := hat.get 6 _ rfl
      have k7 := hat.get 7 _ rfl
      have k8 := hat.get 8 _ rfl
      have k9 := hat.get 9 _ rfl
      have k10 := hat.get 10 _ rfl
      have k11 := hat.get 11 _ rfl
      have k12 := hat.get 12 _ rfl
      have k13 := hat.get 13 _ rfl
      have k14 := hat.get 14 _ rfl
      have k15 := hat.get 15 _ rfl
      simp only [Nat.add_zero] at k0
      have HDO := Lib.hid hdo
      have HD := Lib.hid hdw
      clear hO hat hdo hdw hd hnw
      go_wp2_with fail
      clear k0 k1 k2 k3 k4 k5 k6 k7 k8 k9 k10 k11 k12 k13 k14 k15
      refine HDO.out.mono ?_
      intro e w6 hR
      obtain ⟨v6, rfl, hN⟩ := hR.ex
      obtain ⟨n6, hn6⟩ : ∃ n, n = ms.length := ⟨_, rfl⟩
      obtain ⟨a6, c6, rfl⟩ : ∃ a c, v6 = Value.slice a n6 c := by obtain ⟨a, c, e⟩ := hN.shape; rw [hn6]; exact ⟨a, c, e⟩
      have I6 := Lib.hid (And.intro (((KQ.fp I5.out.1 HQ.out).later hR.fp).now) (And.intro hN (And.intro (I5.out.2.2.off I5.out.2.1 hR.fp) hR.me)))
      clear hR hN hn6 HDO I5
      have fa := fp_alloc w6 (.cells (anL er (.slice a6 n6 c6)) TAN)
      have hrow := heap_alloc_new w6 (.cells (anL er (.slice a6 n6 c6)) TAN)
      have I7 := Lib.hid (And.intro (I6.out.1.then fa) (And.intro hrow (And.intro (I6.out.2.1.non fa) (And.intro (I6.out.2.2.1.non fa) (I6.out.2.2.2.non fa)))))
      clear fa hrow I6
      go_wp2_with (refine wpList_stC rfl TAN _ _ rfl _ _ rfl rfl (stn_any stAN _ rfl rfl (anL_one ⟨_, _, _, rfl⟩)) ?_)
      obtain ⟨b, hb⟩ : ∃ b, b = w6.heap.size := ⟨_, rfl⟩
      rw [← hb] at I7 ⊢
      clear hb
      generalize (World.alloc w6 (.cells (anL er (.slice a6 n6 c6)) TAN)) = w7 at *
      refine (Mounts_c q l' _ I7.out.2.2.2.2 (by have := szs_len (l := l') HD.out.rt; omega)).mono ?_
      rintro e w8 ⟨vn, rfl, hO⟩
      obtain ⟨an, cn, hvn⟩ := hO.own.ns.shape
      obtain ⟨nn, hnn⟩ : ∃ n, n = l'.length := ⟨_, rfl⟩
      rw [← hnn] at hvn
      subst hvn
      have I8 := Lib.hid (show O4 w q b er lc l' ms (.slice a6 n6 c6) (.slice aw nw cw) (.slice an nn cn) w8 from ⟨I7.out.1.then hO.fp, hO.fp.heap I7.out.2.1 (fun h => h), I7.out.2.2.1.non hO.fp, I7.out.2.2.2.1.non hO.fp, hO.own.ns, I7.out.2.2.2.2.non hO.fp⟩)
      have hri := rRightM_c _ l' w8 hO.own.ns HD.out.rt.szs.p HD.out.rt.szs.n
      rw [(right_ifft l').2 HD.out.rt] at hri
      obtain ⟨nn', hnn'⟩ : ∃ n, n = l'.length := ⟨_, rfl⟩
      have HRI := Lib.hid hri
      clear hO hri hnn hnn' I7
      go_wp2_with fail
      refine HRI.out.mono ?_
      rintro e w9 ⟨rfl, hf⟩
      have I9 := Lib.hid (I8.out.non hf)
      clear hf I8 HRI
      have x0 := (boxA I9.out.bx).1
      rcases Decidable.em (er ≠ 0) with h0 | h0
      · have r1 : (er == 0) = false := beq_eq_false_iff_ne.2 h0
        have r2 : (er = 0) = False := eq_false h0
        have r3 : (er != 0) = true := by simp [bne, r1]
        have he : l' = lc := HD.out.err h0
        have NW := Lib.hid (show NsM w9 (.slice aw nw cw) l' from by rw [he]; exact I9.out.nw)
        clear h0 he
        have hsm := rSameM_c _ _ l' l' _ NW.out I9.out.nn (by have := szs_len (l := l') HD.out.rt; omega) (by have := szs_len (l := l') HD.out.rt; omega)
        rw [decide_eq_true rfl] at hsm
        have HSM := Lib.hid hsm
        clear hsm
        go_wp2_with fail
        refine HSM.out.mono ?_
        rintro e wA ⟨rfl, hf⟩
        have IA := Lib.hid (I9.out.non hf)
        clear hf HSM x0
        have x0 := (boxA IA.out.bx).1
        have HE := Lib.hid (show S4 w q _ from ⟨⟨l', HD.out.rt, IA.out.me⟩, IA.out.fp⟩)
        have hj := HL.out
        go_wp2
        go_roundw
        case rel => exact ⟨j + 1, by omega, by go_num, HE⟩
        case measure => simp [RowKit.intOf]; omega
      rw [Decidable.not_not] at h0
      have r1 : (er == 0) = true := beq_iff_eq.2 h0
      have r2 : (er = 0) = True := eq_true h0
      have r3 : (er != 0) = false := by simp [bne, r1]
      have kn : w9.cell? ⟨g, o + j * 16, none⟩ = some (.int .i64 c.kind) := HKN.out w9 I9.out.fp
      by_cases h13 : c.kind = 13
      · have s1 : (c.kind == 13) = true := beq_iff_eq.2 h13
        have s2 : (c.kind = 13) = True := eq_true h13
        have he : l' = lc := (HD.out.route h13).1
        have hm : ms = l' := by rw [he]; exact (HD.out.route h13).2 h0
        have NW := Lib.hid (show NsM w9 (.slice aw nw cw) l' from by rw [he]; exact I9.out.nw)
        have NM := Lib.hid hm
        clear h0 he h13 hm
        have hsm := rSameM_c _ _ l' l' _ NW.out I9.out.nn (by have := szs_len (l := l') HD.out.rt; omega) (by have := szs_len (l := l') HD.out.rt; omega)
        rw [decide_eq_true rfl] at hsm
        have HSM := Lib.hid hsm
        clear hsm
        go_wp2_with fail
        refine HSM.out.mono ?_
        rintro e wA ⟨rfl, hf⟩
        have IA := Lib.hid (I9.out.non hf)
        clear hf HSM x0 kn
        have x0 := (boxA IA.out.bx).1
        have x8 := (boxA IA.out.bx).2.2.2.2.2.2.2.2.1
        have kn : wA.cell? ⟨g, o + j * 16, none⟩ = some (.int .i64 c.kind) := HKN.out wA IA.out.fp
        have NM2 := Lib.hid (show NsM wA (.slice a6 n6 c6) l' from by rw [← NM.out]; exact IA.out.ns)
        have hsm := rSameM_c _ _ l' l' _ NM2.out IA.out.nn (by have := szs_len (l := l') HD.out.rt; omega) (by have := szs_len (l := l') HD.out.rt; omega)
        rw [decide_eq_true rfl] at hsm
        have HSM := Lib.hid hsm
        clear hsm
        go_wp2_with fail
        refine HSM.out.mono ?_
        rintro e wB ⟨rfl, hf⟩
        have IB := Lib.hid (IA.out.non hf)
        clear hf HSM x0 kn x8
        have HE := Lib.hid (show S4 w q _ from ⟨⟨l', HD.out.rt, IB.out.me⟩, IB.out.fp⟩)
        have hj := HL.out
        go_wp2
        go_roundw
        case rel => exact ⟨j + 1, by omega, by go_num, HE⟩
        case measure => simp [RowKit.intOf]; omega
      · have s1 : (c.kind == 13) = false := beq_eq_false_iff_ne.2 h13
        have s2 : (c.kind = 13) = False := eq_false h13
        have HE := Lib.hid (show S4 w q _ from ⟨⟨l', HD.out.rt, I9.out.me⟩, I9.out.fp⟩)
        have hj := HL.out
        clear h0 h13
        go_wp2
        go_roundw
        case rel => exact ⟨j + 1, by omega, by go_num, HE⟩
        case measure => simp [RowKit.intOf]; omega
    · have hje : j = z := by omega
      subst hje
      have q30 : ((j : Int) < (j : Int)) = False := eq_false (by omega)
      clear hlt hj
      go_wp2
      go_ret
      exact ⟨rfl, hI.out.fp⟩
end Go.Proofs.Ytdfnfkknbjageaa
