/- Texts of this proof, merged. -/
import Derived.Test.YtdfnfkknbjageaaZL
set_option linter.unusedVariables false
set_option linter.unusedSimpArgs false
/- Do (gen_d5.py) -/
namespace Go.Proofs.Ytdfnfkknbjageaa
set_option maxRecDepth 20000
set_option linter.unusedVariables false
set_option linter.unusedSimpArgs false
open Go.RowKit Pm


attribute [local irreducible] wpStill

/-- What Do makes of a committee. -/
noncomputable def doM (l : List Mt) (c : Cd) : List Mt × Int × List Mt :=
  if rightC c = true then (if c.kind = 11 then bgM l c.pre c.to else if c.kind = 12 then ((flM l c.pre c.ep c.to).1, (flM l c.pre c.ep c.to).2, []) else if c.kind = 13 then (l, 0, l) else (l, 1, [])) else (l, 1, [])
theorem DoR.eq {q : Nat} {l ms l' ms' : List Mt} {er er' : Int} {w : World} {e : Ending} {w' : World} (h : DoR q l er ms w e w') (h1 : l = l') (h2 : er = er') (h3 : ms = ms') : DoR q l' er' ms' w e w' := by subst h1 h2 h3; exact h
set_option maxHeartbeats 16000000 in
theorem Do_c (q : Nat) (l : List Mt) (c : Cd) (vp vn vt vg : Value) (w : World) (hm : MeW w q l) (hr : RtM l) (hcd : CdW w (.agg (cdL c vp vn vt vg)) c) (hfw : Fw c) (hsl : Slc vp vn vt vg) :
    Calls Try.prog 11 #[.pointer (some ⟨q, 0, none⟩), .agg (cdL c vp vn vt vg)] w (DoR q (doM l c).1 (doM l c).2.1 (doM l c).2.2 w) := by
  obtain ⟨hF, hf⟩ := Fr.made w c vp vn vt vg
  obtain ⟨W2, hW2⟩ : ∃ W2, W2 = (w.alloc (.cells (cdL c vp vn vt vg) TCD)).alloc (.cells zAN TAN) := ⟨_, rfl⟩
  rw [← hW2] at hF hf
  have hcr := cRight_c (.agg (cdL c vp vn vt vg)) c W2 (hcd.non hf) hfw
  have hbg := fun W (f : Fp Non w W) => begin_c q l c vp vn vt vg W (hm.non f) hr hsl hfw.pre
  have hfl := fun W (f : Fp Non w W) (h : CdR c) => flip_c q l c vp vn vt vg W (hm.non f) hr hsl hfw.pre (by have := (areNum6.1 h.nums).2.2.2.1; exact this)
  have hmo := fun W (f : Fp Non w W) => Mounts_c q l W (hm.non f) (by have := hr.len; omega)
  obtain ⟨d, hd⟩ : ∃ d, doM l c = d := ⟨_, rfl⟩
  have hno : rightC c = false → d = (l, 1, []) := fun h => by rw [← hd]; unfold doM; rw [if_neg (by rw [h]; exact Bool.false_ne_true)]
  have hk1 : rightC c = true → c.kind = 11 → d = bgM l c.pre c.to := fun h k => by rw [← hd]; unfold doM; rw [if_pos h, if_pos k]
  have hk2 : rightC c = true → c.kind = 12 → d = ((flM l c.pre c.ep c.to).1, (flM l c.pre c.ep c.to).2, []) := fun h k => by rw [← hd]; unfold doM; rw [if_pos h, if_neg (by omega), if_pos k]
  have hk3 : rightC c = true → c.kind = 13 → d = (l, 0, l) := fun h k => by rw [← hd]; unfold doM; rw [if_pos h, if_neg (by omega), if_neg (by omega), if_pos k]
  have hk4 : rightC c = true → c.kind ≠ 11 → c.kind ≠ 12 → c.kind ≠ 13 → d = (l, 1, []) := fun h a b e => by rw [← hd]; unfold doM; rw [if_pos h, if_neg a, if_neg b, if_neg e]
  rw [hd]
  have hri : rightC c = true → CdR c := fun h => Classical.byContradiction fun n => by rw [rightC_false n] at h; cases h
  have HP := Lib.hid (And.intro hm.lt (And.intro hsl hri))
  have HD := Lib.hid (And.intro hno (And.intro hk1 (And.intro hk2 (And.intro hk3 hk4))))
  have HM := Lib.hid hm
  have HC := Lib.hid hcr
  have HB := Lib.hid hbg
  have HFL := Lib.hid hfl
  have HMO := Lib.hid hmo
  have F0 := Lib.hid (And.intro hF hf)
  have k0 : W2.cell? ⟨w.heap.size, 0, none⟩ = some (.int .i64 c.kind) := cbj F0.out.1.cb 0 rfl
  have k1 : W2.cell? ⟨w.heap.size, 1, none⟩ = some (.int .i64 c.id) := cbj F0.out.1.cb 1 rfl
  have k2 : W2.cell? ⟨w.heap.size, 2, none⟩ = some (.int .i64 c.txn) := cbj F0.out.1.cb 2 rfl
  have k3 : W2.cell? ⟨w.heap.size, 3, none⟩ = some (.int .i64 c.age) := cbj F0.out.1.cb 3 rfl
  have k4 : W2.cell? ⟨w.heap.size, 4, none⟩ = some (.bool c.yes) := cbj F0.out.1.cb 4 rfl
  have k5 : W2.cell? ⟨w.heap.size, 5, none⟩ = some (vp) := cbj F0.out.1.cb 5 rfl
  have k6 : W2.cell? ⟨w.heap.size, 6, none⟩ = some (.string (B c.pre)) := cbj F0.out.1.cb 6 rfl
  have k7 : W2.cell? ⟨w.heap.size, 7, none⟩ = some (.int .i64 c.ep) := cbj F0.out.1.cb 7 rfl
  have k8 : W2.cell? ⟨w.heap.size, 8, none⟩ = some (.int .i64 c.to) := cbj F0.out.1.cb 8 rfl
  have k9 : W2.cell? ⟨w.heap.size, 9, none⟩ = some (vn) := cbj F0.out.1.cb 9 rfl
  have k10 : W2.cell? ⟨w.heap.size, 10, none⟩ = some (vt) := cbj F0.out.1.cb 10 rfl
  have k11 : W2.cell? ⟨w.heap.size, 11, none⟩ = some (vg) := cbj F0.out.1.cb 11 rfl
  have k12 : W2.cell? ⟨w.heap.size, 12, none⟩ = some (.int .i64 c.ws) := cbj F0.out.1.cb 12 rfl
  have k13 : W2.cell? ⟨w.heap.size, 13, none⟩ = some (.int .i64 c.wn) := cbj F0.out.1.cb 13 rfl
  have k14 : W2.cell? ⟨w.heap.size, 14, none⟩ = some (.string (B c.wp)) := cbj F0.out.1.cb 14 rfl
  have k15 : W2.cell? ⟨w.heap.size, 15, none⟩ = some (.bool c.deep) := cbj F0.out.1.cb 15 rfl
  rw [hW2] at k0 k1 k2 k3 k4 k5 k6 k7 k8 k9 k10 k11 k12 k13 k14 k15
  clear hm hr hcd hfw hsl hcr hbg hfl hmo hno hk1 hk2 hk3 hk4 hd hri hF hf
  go_enter Try.func11, Try.ntmps11
  go_wp2_with fail
  rw [← hW2] at *
  clear hW2
  refine HC.out.mono ?_
  rintro e w1 ⟨rfl, hf⟩
  have F1 := Lib.hid (F0.out.1.non hf)
  have P1 := Lib.hid (F0.out.2.then hf)
  have ME := Lib.hid (HM.out.non P1.out)
  have FQ := Lib.hid (show Fp (fun k => k = q) w w1 from P1.out.any)
  clear k0 k1 k2 k3 k4 k5 k6 k7 k8 k9 k10 k11 k12 k13 k14 k15
  clear hf HC F0
  cases hrt : rightC c with
  | false =>
    have HY := Lib.hid (HD.out.1 hrt)
    clear hrt
    go_wp2_with fail
    refine (refusedM_c 1 _).mono ?_
    rintro e w9 ⟨rfl, f9⟩
    have F9 := Lib.hid (F1.out.non f9)
    have Q9 := Lib.hid (FQ.out.same f9.any)
    have M9 := Lib.hid (ME.out.non f9)
    clear f9
    go_wp2_with (refine wpList_stC rfl TAN _ _ rfl _ _ rfl rfl (st_any stAN (cs := anL 1 (.slice none 0 0)) F9.out.rs rfl rfl (anL_one ⟨none, 0, 0, rfl⟩)) ?_)
    obtain ⟨z0, z1, z2, z3, z4, z5, z6, z7, z8, z9⟩ := boxA (setRow_same (cs := anL 1 (.slice none 0 0)) F9.out.rs)
    have HE := Lib.hid (DoR.fin (er := 1) Q9.out F9.out.rs zAN_dull (Nat.le_succ _) HP.out.1 M9.out (NsM.nil _))
    generalize World.setRow w9 (w.heap.size + 1) (anL 1 (.slice none 0 0)) = wz at *
    go_wp2
    refine bodyPost_ret (v := .agg (anL 1 (.slice none 0 0))) (by simp [results, Try.results11, go_sem, z0, z1, z2, z3, z4, z5, z6, z7, z8, z9]) rfl ?_
    rw [HY.out]
    exact HE.out
  | true =>
    have HR := Lib.hid hrt
    clear hrt
    have k0 : w1.cell? ⟨w.heap.size, 0, none⟩ = some (.int .i64 c.kind) := cbj F1.out.cb 0 rfl
    have k1 : w1.cell? ⟨w.heap.size, 1, none⟩ = some (.int .i64 c.id) := cbj F1.out.cb 1 rfl
    have k2 : w1.cell? ⟨w.heap.size, 2, none⟩ = some (.int .i64 c.txn) := cbj F1.out.cb 2 rfl
    have k3 : w1.cell? ⟨w.heap.size, 3, none⟩ = some (.int .i64 c.age) := cbj F1.out.cb 3 rfl
    have k4 : w1.cell? ⟨w.heap.size, 4, none⟩ = some (.bool c.yes) := cbj F1.out.cb 4 rfl
    have k5 : w1.cell? ⟨w.heap.size, 5, none⟩ = some (vp) := cbj F1.out.cb 5 rfl
    have k6 : w1.cell? ⟨w.heap.size, 6, none⟩ = some (.string (B c.pre)) := cbj F1.out.cb 6 rfl
    have k7 : w1.cell? ⟨w.heap.size, 7, none⟩ = some (.int .i64 c.ep) := cbj F1.out.cb 7 rfl
    have k8 : w1.cell? ⟨w.heap.size, 8, none⟩ = some (.int .i64 c.to) := cbj F1.out.cb 8 rfl
    have k9 : w1.cell? ⟨w.heap.size, 9, none⟩ = some (vn) := cbj F1.out.cb 9 rfl
    have k10 : w1.cell? ⟨w.heap.size, 10, none⟩ = some (vt) := cbj F1.out.cb 10 rfl
    have k11 : w1.cell? ⟨w.heap.size, 11, none⟩ = some (vg) := cbj F1.out.cb 11 rfl
    have k12 : w1.cell? ⟨w.heap.size, 12, none⟩ = some (.int .i64 c.ws) := cbj F1.out.cb 12 rfl
    have k13 : w1.cell? ⟨w.heap.size, 13, none⟩ = some (.int .i64 c.wn) := cbj F1.out.cb 13 rfl
    have k14 : w1.cell? ⟨w.heap.size, 14, none⟩ = some (.string (B c.wp)) := cbj F1.out.cb 14 rfl
    have k15 : w1.cell? ⟨w.heap.size, 15, none⟩ = some (.bool c.deep) := cbj F1.out.cb 15 rfl
    by_cases h11 : c.kind = 11
    · have q1 : (c.kind == 11) = true := beq_iff_eq.2 h11
      have q2 : (c.kind = 11) = True := eq_true h11
      have HY := Lib.hid (HD.out.2.1 HR.out h11)
      clear h11
      go_wp2_with fail
      refine (HB.out _ P1.out).mono ?_
      intro e w2 hR
      obtain ⟨v2, rfl, hN⟩ := hR.ex
      have N2 := Lib.hid hN
      have hql := HP.out.1
      have F2 := Lib.hid (F1.out.keep hR.fp (fun k hk e => by have e : k = q := e; omega))
      have Q2 := Lib.hid (FQ.out.same hR.fp)
      have M2 := Lib.hid hR.me
      obtain ⟨a2, n2, c2, rfl⟩ : ∃ a n c, v2 = Value.slice a n c := by obtain ⟨a, c, e⟩ := hN.shape; exact ⟨a, _, c, e⟩
      clear hR hN hql
      clear k0 k1 k2 k3 k4 k5 k6 k7 k8 k9 k10 k11 k12 k13 k14 k15
      obtain ⟨er, her⟩ : ∃ e, e = (bgM l c.pre c.to).2.1 := ⟨_, rfl⟩
      rw [← her]
      have HER := Lib.hid her
      clear her
      go_wp2_with (refine wpList_stC rfl TAN _ _ rfl _ _ rfl rfl (st_any stAN (cs := anL er (.slice a2 n2 c2)) F2.out.rs rfl rfl (anL_one ⟨_, _, _, rfl⟩)) ?_)
      obtain ⟨z0, z1, z2, z3, z4, z5, z6, z7, z8, z9⟩ := boxA (setRow_same (cs := anL er (.slice a2 n2 c2)) F2.out.rs)
      have HE := Lib.hid (DoR.fin (er := er) Q2.out F2.out.rs zAN_dull (Nat.le_succ _) HP.out.1 M2.out N2.out)
      generalize World.setRow w2 (w.heap.size + 1) (anL er (.slice a2 n2 c2)) = wz at *
      go_wp2
      refine bodyPost_ret (v := .agg (anL er (.slice a2 n2 c2))) (by simp [results, Try.results11, go_sem, z0, z1, z2, z3, z4, z5, z6, z7, z8, z9]) rfl ?_
      rw [HY.out]
      exact HE.out.eq rfl HER.out rfl
    have q1 : (c.kind == 11) = false := beq_eq_false_iff_ne.2 h11
    have q2 : (c.kind = 11) = False := eq_false h11
    by_cases h12 : c.kind = 12
    · have q3 : (c.kind == 12) = true := beq_iff_eq.2 h12
      have q4 : (c.kind = 12) = True := eq_true h12
      have HY := Lib.hid (HD.out.2.2.1 HR.out h12)
      clear h11 h12
      go_wp2_with fail
      refine (HFL.out _ P1.out (HP.out.2.2 HR.out)).mono ?_
      intro e w2 hR
      obtain ⟨v2, rfl, hN⟩ := hR.ex
      have N2 := Lib.hid hN
      have hql := HP.out.1
      have F2 := Lib.hid (F1.out.keep hR.fp (fun k hk e => by have e : k = q := e; omega))
      have Q2 := Lib.hid (FQ.out.same hR.fp)
      have M2 := Lib.hid hR.me
      obtain ⟨a2, n2, c2, rfl⟩ : ∃ a n c, v2 = Value.slice a n c := by obtain ⟨a, c, e⟩ := hN.shape; exact ⟨a, _, c, e⟩
      clear hR hN hql
      clear k0 k1 k2 k3 k4 k5 k6 k7 k8 k9 k10 k11 k12 k13 k14 k15
      obtain ⟨er, her⟩ : ∃ e, e = (flM l c.pre c.ep c.to).2 := ⟨_, rfl⟩
      rw [← her]
      have HER := Lib.hid her
      clear her
      go_wp2_with (refine wpList_stC rfl TAN _ _ rfl _ _ rfl rfl (st_any stAN (cs := anL er (.slice a2 n2 c2)) F2.out.rs rfl rfl (anL_one ⟨_, _, _, rfl⟩)) ?_)
      obtain ⟨z0, z1, z2, z3, z4, z5, z6, z7, z8, z9⟩ := boxA (setRow_same (cs := anL er (.slice a2 n2 c2)) F2.out.rs)
      have HE := Lib.hid (DoR.fin (er := er) Q2.out F2.out.rs zAN_dull (Nat.le_succ _) HP.out.1 M2.out N2.out)
      generalize World.setRow w2 (w.heap.size + 1) (anL er (.slice a2 n2 c2)) = wz at *
      go_wp2
      refine bodyPost_ret (v := .agg (anL er (.slice a2 n2 c2))) (by simp [results, Try.results11, go_sem, z0, z1, z2, z3, z4, z5, z6, z7, z8, z9]) rfl ?_
      rw [HY.out]
      exact HE.out.eq rfl HER.out rfl
    have q3 : (c.kind == 12) = false := beq_eq_false_iff_ne.2 h12
    have q4 : (c.kind = 12) = False := eq_false h12
    by_cases h13 : c.kind = 13
    · have q5 : (c.kind == 13) = true := beq_iff_eq.2 h13
      have q6 : (c.kind = 13) = True := eq_true h13
      have HY := Lib.hid (HD.out.2.2.2.1 HR.out h13)
      clear h11 h12 h13
      go_wp2_with fail
      refine (HMO.out _ P1.out).mono ?_
      rintro e w2 ⟨v2, rfl, hO⟩
      have N2 := Lib.hid hO.own.ns
      have F2 := Lib.hid (F1.out.non hO.fp)
      have Q2 := Lib.hid (FQ.out.same hO.fp.any)
      have M2 := Lib.hid (ME.out.non hO.fp)
      obtain ⟨a2, n2, c2, rfl⟩ : ∃ a n c, v2 = Value.slice a n c := by obtain ⟨a, c, e⟩ := hO.own.ns.shape; exact ⟨a, _, c, e⟩
      clear hO
      clear k0 k1 k2 k3 k4 k5 k6 k7 k8 k9 k10 k11 k12 k13 k14 k15
      go_wp2_with (refine wpList_stC rfl TAN _ _ rfl _ _ rfl rfl (st_any stAN (cs := anL 0 (.slice a2 n2 c2)) F2.out.rs rfl rfl (anL_one ⟨_, _, _, rfl⟩)) ?_)
      obtain ⟨z0, z1, z2, z3, z4, z5, z6, z7, z8, z9⟩ := boxA (setRow_same (cs := anL 0 (.slice a2 n2 c2)) F2.out.rs)
      have HE := Lib.hid (DoR.fin (er := 0) Q2.out F2.out.rs zAN_dull (Nat.le_succ _) HP.out.1 M2.out N2.out)
      generalize World.setRow w2 (w.heap.size + 1) (anL 0 (.slice a2 n2 c2)) = wz at *
      go_wp2
      refine bodyPost_ret (v := .agg (anL 0 (.slice a2 n2 c2))) (by simp [results, Try.results11, go_sem, z0, z1, z2, z3, z4, z5, z6, z7, z8, z9]) rfl ?_
      rw [HY.out]
      exact HE.out
    · have q5 : (c.kind == 13) = false := beq_eq_false_iff_ne.2 h13
      have q6 : (c.kind = 13) = False := eq_false h13
      have HY := Lib.hid (HD.out.2.2.2.2 HR.out h11 h12 h13)
      clear h11 h12 h13
      go_wp2_with fail
      refine (refusedM_c 1 _).mono ?_
      rintro e w9 ⟨rfl, f9⟩
      have F9 := Lib.hid (F1.out.non f9)
      have Q9 := Lib.hid (FQ.out.same f9.any)
      have M9 := Lib.hid (ME.out.non f9)
      clear f9
      go_wp2_with (refine wpList_stC rfl TAN _ _ rfl _ _ rfl rfl (st_any stAN (cs := anL 1 (.slice none 0 0)) F9.out.rs rfl rfl (anL_one ⟨none, 0, 0, rfl⟩)) ?_)
      obtain ⟨z0, z1, z2, z3, z4, z5, z6, z7, z8, z9⟩ := boxA (setRow_same (cs := anL 1 (.slice none 0 0)) F9.out.rs)
      have HE := Lib.hid (DoR.fin (er := 1) Q9.out F9.out.rs zAN_dull (Nat.le_succ _) HP.out.1 M9.out (NsM.nil _))
      generalize World.setRow w9 (w.heap.size + 1) (anL 1 (.slice none 0 0)) = wz at *
      go_wp2
      refine bodyPost_ret (v := .agg (anL 1 (.slice none 0 0))) (by simp [results, Try.results11, go_sem, z0, z1, z2, z3, z4, z5, z6, z7, z8, z9]) rfl ?_
      rw [HY.out]
      exact HE.out
end Go.Proofs.Ytdfnfkknbjageaa

