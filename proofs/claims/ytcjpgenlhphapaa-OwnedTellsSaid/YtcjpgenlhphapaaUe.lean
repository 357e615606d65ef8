/- OwnedTells: whether any ranges are right, the range and state of any directory, and what Freeze, Install and Drop make, are the document's (gen_ue.py) -/
import Derived.Test.YtcjpgenlhphapaaOx
import Derived.Test.YtcjpgenlhphapaaKd
namespace Go.Proofs.Ytcjpgenlhphapaa
set_option maxRecDepth 20000
set_option linter.unusedVariables false
set_option linter.unusedSimpArgs false
open Go.RowKit Pm


theorem withR_len {l : List Hl} (h : RtH l) (x : Hl) : ((withR l x).getD []).length ≤ 1000000 := by
  unfold withR
  split
  · have := h.len
    simp only [Option.getD_some]
    rw [len_put h.up]; split <;> omega
  · simp
theorem frz_len (l : List Hl) (p : Bs) : ((frz l p).getD []).length ≤ 1000000 := by
  unfold frz
  cases hp : pick l p with
  | none => simp
  | some y =>
    simp only
    split
    · exact withR_len (pick_ok hp).1 _
    · simp
theorem inst_len (l : List Hl) (p : Bs) (e : Int) : ((inst l p e).getD []).length ≤ 1000000 := by
  unfold inst
  split
  · rename_i h; exact withR_len ((right_iff l).1 h.1) _
  · simp
theorem drp_len (l : List Hl) (p : Bs) (e : Int) : ((drp l p e).getD []).length ≤ 1000000 := by
  unfold drp
  split
  · rename_i h; exact withR_len ((right_iff l).1 h.1) _
  · simp

set_option maxHeartbeats 16000000 in
theorem lawOwnedTells_c (v : Value) (l : List Hl) (p : Bs) (ep : Int) (w : World) (hv : NsH w v l) (hn : l.length ≤ 140737488355328) (hep : -9223372036854775808 ≤ ep ∧ ep ≤ 9223372036854775807) :
    Calls Try.prog 3 #[v, .string (B p), .int .i64 ep] w fun e w' => e = .returned (.bool true) ∧ Fp Non w w' := by
  have hgr := fun W (f : Fp Non w W) => Great_c v l W (hv.non f) hn
  have a1 := fun W (f : Fp Non w W) (h : Few l) (hp : p.length ≤ 1000000) => Freeze_c v l p W (hv.non f) h.szs hp
  have a2 := fun W (f : Fp Non w W) (h : Few l) (hp : p.length ≤ 1000000) => rFreeze_c v l p W (hv.non f) h.szs hp
  have a3 := fun W (f : Fp Non w W) (h : Few l) (hp : p.length ≤ 1000000) => Install_c v l p ep W (hv.non f) h.szs hp
  have a4 := fun W (f : Fp Non w W) (h : Few l) (hp : p.length ≤ 1000000) => rInstall_c v l p ep W (hv.non f) h.szs hp
  have a5 := fun W (f : Fp Non w W) (h : Few l) (hp : p.length ≤ 1000000) => Drop_c v l p ep W (hv.non f) h.szs hp
  have a6 := fun W (f : Fp Non w W) (h : Few l) (hp : p.length ≤ 1000000) => rDrop_c v l p ep W (hv.non f) h.szs
  have b1 := fun W (f : Fp Non w W) (h : Few l) => RightH_c v l W (hv.non f) h.szs.p h.szs.n
  have b2 := fun W (f : Fp Non w W) (h : Few l) => rRightH_c v l W (hv.non f) h.szs.p h.szs.n
  have b3 := fun W (f : Fp Non w W) (h : Few l) (hp : p.length ≤ 1000000) => OfH_c v l p W (hv.non f) h.szs hp
  have b4 := fun W (f : Fp Non w W) (h : Few l) (hp : p.length ≤ 1000000) => rOf_c v l p W (hv.non f) h.szs hp
  have b5 := fun W (f : Fp Non w W) (h : Few l) (hp : p.length ≤ 1000000) => StateH_c v l p W (hv.non f) h.szs hp
  have b6 := fun W (f : Fp Non w W) (h : Few l) (hp : p.length ≤ 1000000) => rState_c v l p W (hv.non f) h.szs hp
  obtain ⟨ao, cap, rfl⟩ := hv.shape
  have l1 := frz_len l p
  have l2 := inst_len l p ep
  have l3 := drp_len l p ep
  generalize frz l p = of1 at *
  generalize inst l p ep = oi1 at *
  generalize drp l p ep = od1 at *
  generalize l.length = n at *
  have HG := Lib.hid hgr
  have HA := Lib.hid (And.intro a1 (And.intro a2 (And.intro a3 (And.intro a4 (And.intro a5 a6)))))
  have HB := Lib.hid (And.intro b1 (And.intro b2 (And.intro b3 (And.intro b4 (And.intro b5 b6)))))
  have HL := Lib.hid (And.intro l1 (And.intro l2 l3))
  clear hgr a1 a2 a3 a4 a5 a6 b1 b2 b3 b4 b5 b6 hv l1 l2 l3
  go_enter Try.func3, Try.ntmps3
  go_wp2_with fail
  refine (head_c _).mono ?_
  rintro e w1 ⟨rfl, hf1⟩
  have F1 := Lib.hid hf1
  clear hf1
  go_wp2_with fail
  refine (HG.out _ F1.out).mono ?_
  rintro e w2 ⟨gr, rfl, hg, hf2⟩
  have F2 := Lib.hid (F1.out.then hf2)
  clear hf2 F1
  cases gr with
  | true =>
    clear hg
    go_wp2
    go_ret
    exact ⟨rfl, F2.out⟩
  | false =>
  have FEW := Lib.hid (hg rfl)
  clear hg
  by_cases hp : 3000 < p.length
  · have q1 : ((3000 : Int) < (p.length : Int)) = True := eq_true (by omega)
    have q2 : (3000 < p.length) = True := eq_true hp
    clear hp
    go_wp2
    go_ret
    exact ⟨rfl, F2.out⟩
  have q1 : ((3000 : Int) < (p.length : Int)) = False := eq_false (by omega)
  have q2 : (3000 < p.length) = False := eq_false hp
  have hpb : p.length ≤ 1000000 := by omega
  have HPB := Lib.hid hpb
  clear hp hpb
  go_wp2_with fail
  refine (HA.out.1 _ F2.out FEW.out HPB.out).mono ?_
  intro e wf1 hR
  obtain ⟨vf1, rfl, nf1⟩ := hR.ex
  have Kf1 := Lib.hid (Kp.and (Kp.nsH nf1) (Kp.fp (F2.out.then hR.fp)))
  clear hR nf1
  go_wp2_with fail
  refine (HA.out.2.1 _ Kf1.out.now.2 FEW.out HPB.out).mono ?_
  intro e wf2 hR
  obtain ⟨vf2, rfl, nf2⟩ := hR.ex
  have Kf2 := Lib.hid (Kp.and (Kp.nsH nf2) (Kf1.out.later hR.fp))
  clear hR nf2
  go_wp2_with fail
  refine (HA.out.2.2.1 _ Kf2.out.now.2.2 FEW.out HPB.out).mono ?_
  intro e wi1 hR
  obtain ⟨vi1, rfl, ni1⟩ := hR.ex
  have Ki1 := Lib.hid (Kp.and (Kp.nsH ni1) (Kf2.out.later hR.fp))
  clear hR ni1
  go_wp2_with fail
  refine (HA.out.2.2.2.1 _ Ki1.out.now.2.2.2 FEW.out HPB.out).mono ?_
  intro e wi2 hR
  obtain ⟨vi2, rfl, ni2⟩ := hR.ex
  have Ki2 := Lib.hid (Kp.and (Kp.nsH ni2) (Ki1.out.later hR.fp))
  clear hR ni2
  go_wp2_with fail
  refine (HA.out.2.2.2.2.1 _ Ki2.out.now.2.2.2.2 FEW.out HPB.out).mono ?_
  intro e wd1 hR
  obtain ⟨vd1, rfl, nd1⟩ := hR.ex
  have Kd1 := Lib.hid (Kp.and (Kp.nsH nd1) (Ki2.out.later hR.fp))
  clear hR nd1
  go_wp2_with fail
  refine (HA.out.2.2.2.2.2 _ Kd1.out.now.2.2.2.2.2 FEW.out HPB.out).mono ?_
  intro e wd2 hR
  obtain ⟨vd2, rfl, nd2⟩ := hR.ex
  have Kd2 := Lib.hid (Kp.and (Kp.nsH nd2) (Kd1.out.later hR.fp))
  clear hR nd2
  have hb0 : ∀ b : Bool, (b == b) = true := fun b => by cases b <;> rfl
  go_wp2_with fail
  refine (HB.out.1 _ Kd2.out.now.2.2.2.2.2.2 FEW.out).mono ?_
  rintro e wb0 ⟨rfl, hf⟩
  have Kb0 := Lib.hid (Kd2.out.later hf)
  clear hf
  go_wp2_with fail
  refine (HB.out.2.1 _ Kb0.out.now.2.2.2.2.2.2 FEW.out).mono ?_
  rintro e wb1 ⟨rfl, hf⟩
  have Kb1 := Lib.hid (Kb0.out.later hf)
  clear hf
  go_wp2_with fail
  refine (HB.out.2.2.1 _ Kb1.out.now.2.2.2.2.2.2 FEW.out HPB.out).mono ?_
  rintro e wb2 ⟨rfl, hf⟩
  have Kb2 := Lib.hid (Kb1.out.later hf)
  clear hf
  go_wp2_with fail
  refine (HB.out.2.2.2.1 _ Kb2.out.now.2.2.2.2.2.2 FEW.out HPB.out).mono ?_
  rintro e wb3 ⟨rfl, hf⟩
  have Kb3 := Lib.hid (Kb2.out.later hf)
  clear hf
  go_wp2_with fail
  refine (HB.out.2.2.2.2.1 _ Kb3.out.now.2.2.2.2.2.2 FEW.out HPB.out).mono ?_
  rintro e wb4 ⟨rfl, hf⟩
  have Kb4 := Lib.hid (Kb3.out.later hf)
  clear hf
  go_wp2_with fail
  refine (HB.out.2.2.2.2.2 _ Kb4.out.now.2.2.2.2.2.2 FEW.out HPB.out).mono ?_
  rintro e wb5 ⟨rfl, hf⟩
  have Kb5 := Lib.hid (Kb4.out.later hf)
  clear hf
  go_wp2_with fail
  refine (rSameH_c vf1 vf2 _ _ _ Kb5.out.now.2.2.2.2.2.1 Kb5.out.now.2.2.2.2.1 HL.out.1 HL.out.1).mono ?_
  rintro e ws0 ⟨rfl, hf⟩
  have Ks0 := Lib.hid (Kb5.out.later hf)
  clear hf
  simp only [decide_true]
  go_wp2_with fail
  refine (rSameH_c vi1 vi2 _ _ _ Ks0.out.now.2.2.2.1 Ks0.out.now.2.2.1 HL.out.2.1 HL.out.2.1).mono ?_
  rintro e ws1 ⟨rfl, hf⟩
  have Ks1 := Lib.hid (Ks0.out.later hf)
  clear hf
  simp only [decide_true]
  go_wp2_with fail
  refine (rSameH_c vd1 vd2 _ _ _ Ks1.out.now.2.1 Ks1.out.now.1 HL.out.2.2 HL.out.2.2).mono ?_
  rintro e ws2 ⟨rfl, hf⟩
  have Ks2 := Lib.hid (Ks1.out.later hf)
  clear hf
  simp only [decide_true]
  go_wp2
  go_ret
  exact ⟨rfl, Ks2.out.now.2.2.2.2.2.2⟩
end Go.Proofs.Ytcjpgenlhphapaa
