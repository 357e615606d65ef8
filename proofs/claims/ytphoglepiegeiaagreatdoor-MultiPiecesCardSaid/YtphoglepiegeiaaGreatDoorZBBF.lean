/- A text of this proof. -/
import Derived.Test.YtphoglepiegeiaaGreatDoorZBBB
import Derived.Test.YtphoglepiegeiaaGreatDoorZBBD
import Derived.Test.YtphoglepiegeiaaGreatDoorZBBE
import Derived.Test.YtphoglepiegeiaaGreatDoorZBD
import Derived.Test.YtphoglepiegeiaaGreatDoorZBK
import Derived.Test.YtphoglepiegeiaaGreatDoorZBO
import Derived.Test.YtphoglepiegeiaaGreatDoorZBZ
set_option linter.unusedSimpArgs false
set_option linter.unusedVariables false
namespace Go.Proofs.YtphoglepiegeiaaGreatDoor
set_option maxRecDepth 20000
open Go.RowKit Pm
theorem ret_bool' {a b : Bool} (h : a = b) : Ending.returned (.bool a) = .returned (.bool b) := by rw [h]
set_option maxHeartbeats 8000000 in
theorem rMay_c (o : Opn) (w : World) (hl : o.path.length ≤ 1000000) :
  Calls Tryz.prog 53 #[opV o] w fun e w' => e = .returned (.bool (may o)) ∧ Fp Non w w' := by
 have hri := fun w => rRight_g o.path w (sz_of hl (by omega))
 obtain ⟨kk, p, d, vv, ow, tt⟩ := o
 obtain ⟨sp, hsp⟩ : ∃ b, (split p).isSome = b := ⟨_, rfl⟩
 simp only at hri
 rw [hsp] at hri
 have HR := Lib.hid hri
 have HSP := Lib.hid hsp
 have hf0 := fp_alloc w (.cells #[.int .i64 kk, .string (B p), .string (B d), .int .i64 vv, .int .i64 ow, .bool tt] TO_)
 have hb0 := heap_alloc_new w (.cells #[.int .i64 kk, .string (B p), .string (B d), .int .i64 vv, .int .i64 ow, .bool tt] TO_)
 have HF0 := Lib.hid (And.intro hf0 hb0)
 obtain ⟨m, hm⟩ : ∃ m, may ⟨kk, p, d, vv, ow, tt⟩ = m := ⟨_, rfl⟩
 have HM := Lib.hid hm
 rw [hm]
 unfold opV strV
 simp only
 clear hri hsp hf0 hb0 hm hl
 go_enter Tryz.func53, Tryz.ntmps53
 go_wp2_with fail
 all_goals
  refine (HR.out _).mono ?_
  rintro e w1 ⟨rfl, g1⟩
  have F1 := Lib.hid (HF0.out.1.then g1.fp)
  have hb1 := (g1.fp.heap HF0.out.2 id)
  obtain ⟨o0, o1, o2, o3, o4, o5⟩ := box6 hb1
  clear g1 hb1
 all_goals go_wp2
 all_goals
  go_ret
  refine ⟨ret_bool' ?_, F1.out⟩
  have hm := HM.out
  have hs := HSP.out
  rw [← hm]
  unfold may
  clear HR HF0 F1 o0 o1 o2 o3 o4 o5 hm HM HSP
  rw [hs]
  clear hs
  dsimp only
  rcases Classical.em (d.length ≤ 256 ∧ 0 ≤ ow ∧ ow ≤ 1099511627776) with hA | hA
  ·first
    | (exfalso; omega)
    | (rw [decide_eq_true hA]; clear hA; simp_all; done)
    | (rw [decide_eq_true hA]; clear hA; by_cases hz : vv = 0 <;> simp_all <;> done)
    | (rw [decide_eq_true hA]; clear hA; simp_all; intros; omega)
    | skip
  first
   | (exfalso; omega)
   | (rw [decide_eq_false hA]; simp; done)
   | (rw [decide_eq_false hA]; clear hA; simp_all; done)
   | skip
namespace Pm
end Pm
theorem fp5k {w : World} {b : Nat} {T : TypeId} {a0 a1 a2 a3 a4 : Value} (h : w.heap[b]? = some (.cells #[a0, a1, a2, a3, a4] T (0, 0))) (v0 v1 v2 v3 v4 : Value) :
  Fp (fun k => k = b) w (((((w.setCell ⟨b, 0, none⟩ v0).setCell ⟨b, 1, none⟩ v1).setCell ⟨b, 2, none⟩ v2).setCell ⟨b, 3, none⟩ v3).setCell ⟨b, 4, none⟩ v4) :=
 fp5 (S := fun k => k = b) (Fp.refl _ w) (.inl rfl) v0 v1 v2 v3 v4
structure ApB (w : World) (v0 : Value) (l' : List Nd) (r : Res) (e : Ending) (w' : World) : Prop where
 ex : ∃ v' nv, e = .returned (.tuple #[v', .agg #[.int .i64 r.err, strV r.path, strV r.data, .int .i64 r.ver, nv]]) ∧ Ns w' v' l' ∧ Own w.heap.size w' nv r.names ∧ (∀ k, v'.ownBlock = some k → v0.ownBlock = some k ∨ w.heap.size ≤ k)
 fp : Fp Non w w'
theorem ApB.apR {w : World} {v0 : Value} {l' : List Nd} {r : Res} {e : Ending} {w' : World} (h : ApB w v0 l' r e w') : ApR w l' r e w' := by
 obtain ⟨v', nv, h1, h2, h3, _⟩ := h.ex
 exact ⟨⟨v', nv, h1, h2, h3⟩, h.fp⟩
theorem Pm.applyP_ok {s : St} {x : Pt} (h : (applyP s x).2.err = 0) : StR s ∧ mayP x = true ∧ applyP s x = doP s x := by
 by_cases h2 : rightS s = true ∧ mayP x = true
 ·exact ⟨(rightS_iff s).1 h2.1, h2.2, applyP_yes ((rightS_iff s).1 h2.1) h2.2⟩
 rw [applyP_no h2] at h; exact absurd h (by decide)
theorem Pm.doP_len (s : St) (x : Pt) : (doP s x).1.nodes.length ≤ s.nodes.length + 1 ∧ (doP s x).1.turns.length ≤ s.turns.length + 1 := by
 have fl : ∀ q : Nd → Bool, (s.nodes.filter q).length ≤ s.nodes.length := fun q => List.length_filter_le _ _
 have st := fun p n => setT_len s.turns p n
 unfold doP
 split
 ·unfold putS
  split
  ·exact ⟨by simp only; omega, by simp only; omega⟩
  split
  ·exact ⟨by simp only; omega, by simp only; omega⟩
  refine ⟨by simp only [ins_length]; omega, ?_⟩
  simp only
  split
  ·have := st x.dir (turnOf s.turns x.dir + 1); omega
  omega
 split
 ·split
  ·exact ⟨by simp only; omega, by have := st x.path 0; simp only; omega⟩
  exact ⟨by simp only; omega, by simp only; omega⟩
 split
 ·exact ⟨by simp only; omega, by simp only; omega⟩
 split
 ·exact ⟨by have := fl (fun n => !cleared x n); simp only; omega, by simp only; omega⟩
 split
 ·exact ⟨by simp only; omega, by simp only; omega⟩
 have el : ∀ k, (s.nodes.eraseIdx k).length ≤ s.nodes.length := fun k => by rw [List.length_eraseIdx]; split <;> omega
 repeat' split
 all_goals first
  | exact ⟨by simp only; omega, by simp only; omega⟩
  | exact ⟨by simp only [List.length_set]; omega, by simp only; omega⟩
  | exact ⟨by have := el (place s.nodes x.path); simp only; omega, by simp only; omega⟩
theorem Pm.Runs.fews {s : St} {ps : List Pt} {k : Nat} {now : St} {rs : List Res} (h : Runs s ps k now rs) (hs : StR s) : StR now ∧ now.nodes.length ≤ s.nodes.length + k ∧ now.turns.length ≤ s.turns.length + k := by
 induction h with
 | zero => exact ⟨hs, Nat.le_refl _, Nat.le_refl _⟩
 | @succ k now x rs r h hk ha h0 ih =>
  have h0' : (applyP now ps[k]).2.err = 0 := by rw [ha]; exact h0
  obtain ⟨g1, g2, g3⟩ := applyP_ok h0'
  have hx : x = (doP now ps[k]).1 := by rw [← g3, ha]
  have := doP_len now ps[k]
  refine ⟨by rw [hx]; exact g1.doP g2, ?_, ?_⟩
  ·rw [hx]; omega
  rw [hx]; omega
theorem Kp.ow {W : World} {lo : Nat} {v : Value} {l : List Nd} (h : Ow lo W v l) : Kp (fun W' => Ow lo W' v l) W := fun W' f => h.non f
theorem Kp.owT {W : World} {lo : Nat} {v : Value} {l : List Tu} (h : OwT lo W v l) : Kp (fun W' => OwT lo W' v l) W := fun W' f => h.non f
section
variable {u0 u : World} {vN vT : Value} {lN : List Nd} {lT : List Tu} {b : Nat} {x : Bool}
theorem Bst.cloneN (h : Bst u0 (.slice none 0 0) [] vT lT b x u) {l : List Nd} {v : Value} {u' : World} (hR : OwR u l v u') : Bst u0 v l vT lT b x u' := by
 have k := h.non hR.fp
 exact ⟨k.f, Ow.lower hR.own h.f.size, k.t, k.x⟩
theorem Bst.cloneT (h : Bst u0 vN lN (.slice none 0 0) [] b x u) {l : List Tu} {v : Value} {u' : World} (hR : OwTR u l v u') : Bst u0 vN lN v l b x u' := by
 have k := h.non hR.fp
 exact ⟨k.f, k.n, OwT.lower hR.own h.f.size, k.x⟩
theorem Bst.put2 (h : Bst u0 vN lN vT lT b true u) : Fp Non u0 ((u.setCell ⟨b, 0, none⟩ vN).setCell ⟨b, 1, none⟩ vT) ∧ ((u.setCell ⟨b, 0, none⟩ vN).setCell ⟨b, 1, none⟩ vT).heap[b]? = some (.cells #[vN, vT] TST (0, 0)) ∧ Ow u0.heap.size ((u.setCell ⟨b, 0, none⟩ vN).setCell ⟨b, 1, none⟩ vT) vN lN ∧ OwT u0.heap.size ((u.setCell ⟨b, 0, none⟩ vN).setCell ⟨b, 1, none⟩ vT) vT lT := by
 obtain ⟨h1, h2⟩ := h.x rfl
 have hfa : Fp (fun j => j = b) u ((u.setCell ⟨b, 0, none⟩ vN).setCell ⟨b, 1, none⟩ vT) := ((Fp.refl (fun j => j = b) u).setCell (p := ⟨b, 0, none⟩) (.inl rfl) _).setCell (p := ⟨b, 1, none⟩) (.inl rfl) _
 refine ⟨h.f.trans hfa (fun j hj => .inr (by have hj : j = b := hj; omega)), two_set h2 vN vT, h.n.keep hfa (fun j hj e => ?_), h.t.keep hfa (fun j hj e => ?_)⟩
 ·obtain ⟨_, k1⟩ := h.n.type hj
  have e : j = b := e
  exact typ_ne k1 h2 (by decide) e
 obtain ⟨_, k1⟩ := h.t.type hj
 have e : j = b := e
 exact typ_ne k1 h2 (by decide) e
end
abbrev Pcs (w : World) (v : Value) (l : List (Nat × Pt)) : Prop := Sg pcC 8 w v l
structure MAlR (s : St) (v : Value) (ps : List Pt) (w : World) (e : Ending) (w' : World) : Prop where
 way : (∃ now rs v' rv, Runs s ps ps.length now rs ∧ e = .returned (.tuple #[v', rv, .int .i64 0, .int .i64 0]) ∧ Sto w' v' now ∧ Rrs w' rv rs) ∨
  (∃ i now rs, Runs s ps i now rs ∧ ∃ h : i < ps.length, (applyP now ps[i]).2.err ≠ 0 ∧ e = .returned (.tuple #[v, .slice none 0 0, .int .i64 (applyP now ps[i]).2.err, .int .i64 i]))
 fp : Fp Non w w'
theorem DoR.both {w : World} {s' : St} {r : Res} {e : Ending} {w' : World} (h : DoR w s' r e w') : ∃ vn vt nv, e = .returned (.tuple #[.agg #[vn, vt], .agg #[.int .i64 r.err, strV r.path, strV r.data, .int .i64 r.ver, nv]]) ∧ Sto w' (.agg #[vn, vt]) s' ∧ Own w.heap.size w' nv r.names ∧ (r.err = 0 → Ow w.heap.size w' vn s'.nodes ∧ OwT w.heap.size w' vt s'.turns) := by
 obtain ⟨v', nv, rfl, hs, ho⟩ := h.ex
 obtain ⟨vn, vt, rfl, h1, h2⟩ := hs.ex
 refine ⟨vn, vt, nv, rfl, ⟨vn, vt, rfl, h1, h2⟩, ho, fun h0 => ?_⟩
 obtain ⟨a, b, x, e, k1, k2⟩ := h.mine h0
 injection e with e
 injection e with e
 injection e with e
 injection e with e _
 injection e with e
 injection e with e
 injection e with e1 e
 injection e with e2 _
 subst e1 e2
 exact ⟨k1, k2⟩
theorem Ors.keepT {lo : Nat} {w w' : World} {v : Value} {rs : List Res} (h : Ors lo w v rs) {b : Nat} {cs : Array Value} {T : TypeId} (hb : w.heap[b]? = some (.cells cs T (0, 0))) (h1 : TR ≠ T) (h2 : 9 ≠ T) (f : Fp (fun j => j = b) w w') : Ors lo w' v rs := by
 obtain ⟨L, k1, k2, k3⟩ := h.ex
 refine ⟨L, k1, f.owns k2 (fun j hj e => ?_), fun x hx => ⟨f.owns (k3 x hx).1 (fun j hj e => ?_), (k3 x hx).2⟩⟩
 ·obtain ⟨_, t1⟩ := k2.type hj
  have e : j = b := e
  subst e
  exact type_ne t1 hb h1
 obtain ⟨_, t1⟩ := (k3 x hx).type hj
 have e : j = b := e
 subst e
 exact type_ne t1 hb h2
theorem Own.keepT {lo : Nat} {w w' : World} {v : Value} {ps : List Bs} (h : Own lo w v ps) {b : Nat} {cs : Array Value} {T : TypeId} (hb : w.heap[b]? = some (.cells cs T (0, 0))) (h2 : 9 ≠ T) (f : Fp (fun j => j = b) w w') : Own lo w' v ps := by
 refine ⟨f.owns h.1 (fun j hj e => ?_), h.2⟩
 obtain ⟨_, t1⟩ := h.type hj
 have e : j = b := e
 subst e
 exact type_ne t1 hb h2
theorem Ow.keepT {lo : Nat} {w w' : World} {v : Value} {l : List Nd} (h : Ow lo w v l) {b : Nat} {cs : Array Value} {T : TypeId} (hb : w.heap[b]? = some (.cells cs T (0, 0))) (h2 : TN ≠ T) (f : Fp (fun j => j = b) w w') : Ow lo w' v l :=
 h.keep f (fun j hj e => by
  obtain ⟨_, t1⟩ := h.type hj
  have e : j = b := e
  exact typ_ne t1 hb h2 e)
theorem OwT.keepT {lo : Nat} {w w' : World} {v : Value} {l : List Tu} (h : OwT lo w v l) {b : Nat} {cs : Array Value} {T : TypeId} (hb : w.heap[b]? = some (.cells cs T (0, 0))) (h2 : TU ≠ T) (f : Fp (fun j => j = b) w w') : OwT lo w' v l :=
 h.keep f (fun j hj e => by
  obtain ⟨_, t1⟩ := h.type hj
  have e : j = b := e
  exact typ_ne t1 hb h2 e)
abbrev Two (b : Nat) (vn vt : Value) (u : World) : World := (u.setCell ⟨b, 0, none⟩ vn).setCell ⟨b, 1, none⟩ vt
abbrev Five (b : Nat) (a0 a1 a2 a3 a4 : Value) (u : World) : World := ((((u.setCell ⟨b, 0, none⟩ a0).setCell ⟨b, 1, none⟩ a1).setCell ⟨b, 2, none⟩ a2).setCell ⟨b, 3, none⟩ a3).setCell ⟨b, 4, none⟩ a4
theorem two_f (b : Nat) (vn vt : Value) (u : World) : Fp (fun j => j = b) u (Two b vn vt u) := ((Fp.refl (fun j => j = b) u).setCell (p := ⟨b, 0, none⟩) (.inl rfl) _).setCell (p := ⟨b, 1, none⟩) (.inl rfl) _
structure AlL (s : St) (ps : List Pt) (w : World) (c0 : Array Value) (b8 b10 k : Nat) (vr : Value) (wr : World) : Prop where
 ex : ∃ now rs vn vt, Runs s ps k now rs ∧ wr.heap[b8]? = some (.cells #[vn, vt] TST (0, 0)) ∧ Ow w.heap.size wr vn now.nodes ∧ OwT w.heap.size wr vt now.turns ∧ Ors w.heap.size wr vr rs
 rb : ∃ a0 a1 a2 a3 a4, wr.heap[b10]? = some (.cells #[a0, a1, a2, a3, a4] TR (0, 0))
 fp : Fp Non w wr
 sb : wr.heap[w.heap.size]? = some (.cells c0 TST (0, 0))
 zb : wr.heap[w.heap.size + 1]? = some (.cells #[.slice none 0 0, .slice none 0 0] TST (0, 0))
 ne : ∀ j, vr.ownBlock = some j → j ≠ b10
structure AlM (w : World) (c0 : Array Value) (b8 b10 : Nat) (vr : Value) (rs : List Res) (x : St) (r : Res) (vn vt nv : Value) (w6 : World) : Prop where
 r8 : w6.heap[b8]? = some (.cells #[vn, vt] TST (0, 0))
 r10 : w6.heap[b10]? = some (.cells #[.int .i64 r.err, strV r.path, strV r.data, .int .i64 r.ver, nv] TR (0, 0))
 fp : Fp Non w w6
 sb : w6.heap[w.heap.size]? = some (.cells c0 TST (0, 0))
 zb : w6.heap[w.heap.size + 1]? = some (.cells #[.slice none 0 0, .slice none 0 0] TST (0, 0))
 ors : Ors w.heap.size w6 vr rs
 ne : ∀ j, vr.ownBlock = some j → j ≠ b10
 own : Own w.heap.size w6 nv r.names
 mine : r.err = 0 → Ow w.heap.size w6 vn x.nodes ∧ OwT w.heap.size w6 vt x.turns
theorem AlM.of {w wd w5 : World} {c0 : Array Value} {b8 b10 : Nat} {vr : Value} {rs : List Res} {x : St} {r : Res} {vn vt nv o0 o1 a0 a1 a2 a3 a4 : Value}
  (h8 : wd.heap[b8]? = some (.cells #[o0, o1] TST (0, 0))) (h10 : wd.heap[b10]? = some (.cells #[a0, a1, a2, a3, a4] TR (0, 0))) (hF : Fp Non w wd) (sb : wd.heap[w.heap.size]? = some (.cells c0 TST (0, 0))) (zb : wd.heap[w.heap.size + 1]? = some (.cells #[.slice none 0 0, .slice none 0 0] TST (0, 0)))
  (ho : Ors w.heap.size wd vr rs) (hne : ∀ j, vr.ownBlock = some j → j ≠ b10) (l8 : w.heap.size + 1 < b8) (l10 : w.heap.size + 1 < b10) (f5 : Fp Non wd w5) (hno : Own wd.heap.size w5 nv r.names) (hm : r.err = 0 → Ow wd.heap.size w5 vn x.nodes ∧ OwT wd.heap.size w5 vt x.turns) :
  AlM w c0 b8 b10 vr rs x r vn vt nv (Five b10 (.int .i64 r.err) (strV r.path) (strV r.data) (.int .i64 r.ver) nv (Two b8 vn vt w5)) := by
 have e : b8 ≠ b10 := typ_ne h8 h10 (by decide)
 have k8 := f5.heap h8 id
 have k10 := f5.heap h10 id
 have g1 := two_f b8 vn vt w5
 have y8 := two_set k8 vn vt
 have y10 := g1.heap k10 (fun h => e h.symm)
 have g2 := fp5k y10 (.int .i64 r.err) (strV r.path) (strV r.data) (.int .i64 r.ver) nv
 have hF5 := hF.then f5
 have q1 := hF5.trans g1 (fun j hj => .inr (by have hj : j = b8 := hj; omega))
 have k0 := g1.heap (f5.heap sb id) (fun h => by have h : w.heap.size = b8 := h; omega)
 have k1 := g1.heap (f5.heap zb id) (fun h => by have h : w.heap.size + 1 = b8 := h; omega)
 refine ⟨g2.heap y8 e, set5 y10 _ _ _ _ _, q1.trans g2 (fun j hj => .inr (by have hj : j = b10 := hj; omega)), g2.heap k0 (fun h => by have h : w.heap.size = b10 := h; omega), g2.heap k1 (fun h => by have h : w.heap.size + 1 = b10 := h; omega), ((ho.non f5).keepT k8 (by decide) (by decide) g1).keep y10 hne g2, hne, ((hno.low hF.size).keepT k8 (by decide) g1).keepT y10 (by decide) g2, fun h0 => ⟨?_, ?_⟩⟩
 ·exact (((hm h0).1.lower hF.size).keepT k8 (by decide) g1).keepT y10 (by decide) g2
 exact (((hm h0).2.lower hF.size).keepT k8 (by decide) g1).keepT y10 (by decide) g2
theorem AlL.next {s : St} {ps : List Pt} {k : Nat} {w w6 w7 : World} {c0 : Array Value} {b8 b10 : Nat} {vr v7 : Value} {rs : List Res} {x : St} {r : Res} {vn vt nv : Value} (h : AlM w c0 b8 b10 vr rs x r vn vt nv w6) (h0 : r.err = 0) (hrun : Runs s ps (k + 1) x (rs ++ [r])) {o : Obj} (hc : ChG w.heap.size (w6.alloc o) vr (rs ++ [r]) v7 w7) : AlL s ps w c0 b8 b10 (k + 1) v7 w7 := by
 have fa := fp_alloc w6 o
 have ty : ∀ j, vr.ownBlock = some j → ∃ cs, (w6.alloc o).heap[j]? = some (.cells cs TR (0, 0)) := fun j hj => (h.ors.non fa).type hj
 have nt : ∀ {i : Nat} {cs : Array Value}, (w6.alloc o).heap[i]? = some (.cells cs TST (0, 0)) → ¬ vr.ownBlock = some i := fun hi e => by
  obtain ⟨_, k1⟩ := ty _ e
  exact typ_ne k1 hi (by decide) rfl
 have a8 := fa.heap h.r8 id
 have a10 := fa.heap h.r10 id
 have a_s := fa.heap h.sb id
 have az := fa.heap h.zb id
 obtain ⟨m1, m2⟩ := h.mine h0
 refine ⟨⟨x, _, vn, vt, hrun, hc.fp.heap a8 (nt a8), (m1.non fa).keep hc.fp (fun j hj e => ?_), (m2.non fa).keep hc.fp (fun j hj e => ?_), hc.own⟩, ⟨_, _, _, _, _, hc.fp.heap a10 (fun e => h.ne _ e rfl)⟩, (h.fp.then fa).trans hc.fp (fun j hj => .inr (h.ors.lt j hj).1), hc.fp.heap a_s (nt a_s), hc.fp.heap az (nt az), fun j hj e => ?_⟩
 ·obtain ⟨_, k1⟩ := ty j e
  obtain ⟨_, k2⟩ := (m1.non fa).type hj
  exact typ_ne k1 k2 (by decide) rfl
 ·obtain ⟨_, k1⟩ := ty j e
  obtain ⟨_, k2⟩ := (m2.non fa).type hj
  exact typ_ne k1 k2 (by decide) rfl
 rcases hc.new j hj with h1 | h1
 ·exact h.ne j h1 e
 have h2 := (Array.getElem?_eq_some_iff.1 h.r10).1
 have h3 := fa.size
 omega
attribute [local irreducible] wpStill
set_option maxHeartbeats 40000000 in
theorem mAll_c (v lv : Value) (s : St) (l : List (Nat × Pt)) (w : World) (hv : Sto w v s) (hs : StR s) (hn : s.nodes.length + l.length ≤ 3900) (hm : s.turns.length + l.length ≤ 3900) (hl : Pcs w lv l) (hp : ∀ q ∈ l, q.2.path.length ≤ 1000000) (ht : Tab w) :
  Calls Tryz.prog 49 #[v, lv] w (MAlR s v (l.map Prod.snd) w) := by
 obtain ⟨vn, vt, rfl, h1, h2⟩ := hv.ex
 have hcn := fun W (f : Fp Non w W) => Clone_own vn s.nodes W (h1.non f) (by omega)
 have hct := fun W (f : Fp Non w W) => CloneT_own vt s.turns W (h2.non f) (by omega)
 obtain ⟨an, cn, rfl⟩ := h1.shape
 obtain ⟨at_, ct, rfl⟩ := h2.shape
 obtain ⟨al, cl, rfl⟩ := hl.shape
 obtain ⟨n, hnn⟩ : ∃ n, n = s.nodes.length := ⟨_, rfl⟩
 obtain ⟨m, hmm⟩ : ∃ m, m = s.turns.length := ⟨_, rfl⟩
 obtain ⟨z, hz⟩ : ∃ z, z = l.length := ⟨_, rfl⟩
 rw [← hnn] at hcn hv h1 ⊢
 rw [← hmm] at hct hv h2 ⊢
 rw [← hz] at hl ⊢
 have HNL := Lib.hid hnn
 have HML := Lib.hid hmm
 have HZ := Lib.hid hz
 have HCN0 := Lib.hid hcn
 have HCT0 := Lib.hid hct
 have HV := Lib.hid (And.intro hv (And.intro hs (And.intro hl (And.intro hp (And.intro ht (And.intro (show s.nodes.length + l.length ≤ 3900 by omega) (show s.turns.length + l.length ≤ 3900 by omega)))))))
 have f0 := fp_alloc w (.cells #[.slice an n cn, .slice at_ m ct] TST)
 have f1 := fp_alloc (w.alloc (.cells #[.slice an n cn, .slice at_ m ct] TST)) (.cells #[.slice none 0 0, .slice none 0 0] TST)
 have r0 := f1.heap (heap_alloc_new w (.cells #[.slice an n cn, .slice at_ m ct] TST)) id
 have r1 := heap_alloc_new (w.alloc (.cells #[.slice an n cn, .slice at_ m ct] TST)) (.cells #[.slice none 0 0, .slice none 0 0] TST)
 rw [show (w.alloc (.cells #[.slice an n cn, .slice at_ m ct] TST)).heap.size = w.heap.size + 1 from by simp] at r1
 have K0 := Lib.hid (Kp.and (Kp.fp (f0.then f1)) (Kp.and (Kp.row r0) (Kp.row r1)))
 clear hcn hct hv h1 h2 hs hn hm hl hp ht hnn hmm hz f0 f1 r0 r1
 go_enter Tryz.func49, Tryz.ntmps49
 go_wp2_with fail
 generalize ((w.alloc (.cells #[.slice an n cn, .slice at_ m ct] TST)).alloc (.cells #[.slice none 0 0, .slice none 0 0] TST)) = w0 at *
 refine wp_scope_jumps 0 (fun a' w' => ∃ (i : Nat) (b10 : Nat) (er : Int) (c1 c2 c3 c4 : Value) (u3 u5 u6 u7 u8 u11 u12 u13 u14 u15 u16 u17 u18 u19 u20 u21 u22 u23 u24 u25 u26 u27 u28 u29 u30 u31 u32 u33 u34 u35 u36 u37 u38 u39 u40 u41 u42 u43 u44 u45 u46 u47 : Value), a' = { tmps := #[.agg #[.slice an n cn, .slice at_ m ct], .slice al z cl, .pointer (some ⟨w.heap.size, 0, none⟩), u3, .pointer (some ⟨w.heap.size + 1, 0, none⟩), u5, u6, u7, u8, .int .i64 i, .pointer (some ⟨b10, 0, none⟩), u11, u12, u13, u14, u15, u16, u17, u18, u19, u20, u21, u22, u23, u24, u25, u26, u27, u28, u29, u30, u31, u32, u33, u34, u35, u36, u37, u38, u39, u40, u41, u42, u43, u44, u45, u46, u47], defers := [] } ∧ Hid ((∃ now rs, Runs s (l.map Prod.snd) i now rs ∧ ∃ h : i < (l.map Prod.snd).length, (applyP now (l.map Prod.snd)[i]).2.err = er ∧ er ≠ 0) ∧ Fp Non w w' ∧ w'.heap[w.heap.size]? = some (.cells #[.slice an n cn, .slice at_ m ct] TST (0, 0)) ∧ w'.heap[w.heap.size + 1]? = some (.cells #[.slice none 0 0, .slice none 0 0] TST (0, 0)) ∧ w'.heap[b10]? = some (.cells #[.int .i64 er, c1, c2, c3, c4] TR (0, 0)))) (fun _ _ => 0) rfl ?_ ?_
 rotate_left
 ·rintro a' w' ⟨i, b10, er, c1, c2, c3, c4, u3, u5, u6, u7, u8, u11, u12, u13, u14, u15, u16, u17, u18, u19, u20, u21, u22, u23, u24, u25, u26, u27, u28, u29, u30, u31, u32, u33, u34, u35, u36, u37, u38, u39, u40, u41, u42, u43, u44, u45, u46, u47, rfl, HJ⟩
  obtain ⟨s0, s1⟩ := boxP2 HJ.out.2.2.1
  obtain ⟨d0, d1⟩ := boxP2 HJ.out.2.2.2.1
  obtain ⟨r0, r1, r2, r3, r4⟩ := box5 HJ.out.2.2.2.2
  have z0 := frozen_at HJ.out.2.2.2.1 0; have z1 := frozen_at HJ.out.2.2.2.1 1
  have hset := two_set HJ.out.2.2.2.1 (.slice an n cn) (.slice at_ m ct)
  have hfs := two_f (w.heap.size + 1) (.slice an n cn) (.slice at_ m ct) w'
  have HJS := Lib.hid (And.intro ((Fp.refl Non _).drew.heap hset id) ((HJ.out.2.1.trans hfs (fun j hj => .inr (by have hj : j = w.heap.size + 1 := hj; omega))).then (Fp.refl Non _).drew))
  have rs := hfs.heap HJ.out.2.2.2.2 (fun e => typ_ne HJ.out.2.2.2.2 HJ.out.2.2.2.1 (by decide) e)
  obtain ⟨rs0, _, _, _, _⟩ := box5 rs
  clear hset hfs rs
  go_wp2_with fail
  go_region
  all_goals
   clear rs0 d0 d1 z0 z1 r0 r1 r2 r3 r4 s0 s1
   generalize ((World.setCell w' _ _).setCell _ _).drew = wz at *
   obtain ⟨t0, t1⟩ := boxP2 HJS.out.1
   go_wp2_with fail
   simp only [Exit.jump]
   refine bodyPost_ret (v := .tuple #[.agg #[.slice an n cn, .slice at_ m ct], .slice none 0 0, .int .i64 er, .int .i64 i]) (by simp [results, Tryz.results49, go_sem, t0, t1]) rfl ?_
   obtain ⟨now, rs, h1, h2, h3, h4⟩ := HJ.out.1
   exact ⟨.inr ⟨i, now, rs, h1, h2, by rw [h3]; exact h4, by rw [h3]⟩, HJS.out.2⟩
 go_upto_region 1 with (fail)
 go_cut [8, 9] from 12 to 19 (fun x8 x9 wc => ∃ b6 an6 cn6 at6 ct6, x8 = .pointer (some ⟨b6, 0, none⟩) ∧ x9 = .int .i64 0 ∧ Hid (w0.heap.size ≤ b6 ∧ Kp (fun W => (Fp Non w W ∧ W.heap[w.heap.size]? = some (.cells #[.slice an n cn, .slice at_ m ct] TST (0, 0)) ∧ W.heap[w.heap.size + 1]? = some (.cells #[.slice none 0 0, .slice none 0 0] TST (0, 0))) ∧ W.heap[b6]? = some (.cells #[.slice an6 n cn6, .slice at6 m ct6] TST (0, 0)) ∧ Ow w0.heap.size W (.slice an6 n cn6) s.nodes ∧ OwT w0.heap.size W (.slice at6 m ct6) s.turns) wc))
 case first =>
  have KK0 := Lib.hid (K0.out.later (Fp.refl Non w0).drew)
  have Hq := Lib.hid (fun W (f : Fp Non w0.drew W) => boxP2 (KK0.out.later f).now.2.1)
  have HCN := Lib.hid (fun W (f : Fp Non w0.drew W) => HCN0.out W (KK0.out.now.1.then f))
  have HCT := Lib.hid (fun W (f : Fp Non w0.drew W) => HCT0.out W (KK0.out.now.1.then f))
  have ST0 := Lib.hid (Bst.start w0.drew)
  go_wp2_with fail
  refine wp_region_held_drew (S := (fun w' => w'.cell? ⟨w.heap.size, 0, none⟩ = some (.slice an n cn) ∧ w'.cell? ⟨w.heap.size, 1, none⟩ = some (.slice at_ m ct))) (by kernel_rfl) ?_ (fun hH => ?_)
  ·exact Hq.out _ (Fp.refl _ _)
  have HSZ : Hid (w0.heap.size = w0.drew.heap.size) := rfl
  generalize w0.drew = u0 at *
  refine tk 0 hH ?_
  refine tk 1 hH ?_
  refine tk 3 hH ?_
  refine tk 4 hH ?_
  refine wpAnyH_ready (rs := [2, 7]) (by kernel_rfl) (by simp) ?_
  refine (AllReadyH.cons (o := ?_) (by simp only [zA, zB, zC] <;> exact rfl) (fun K hK => ?_) (AllReadyH.cons (o := ?_) (by simp only [zA, zB, zC] <;> exact rfl) (fun K hK => ?_) AllReadyH.nil))
  ·go_simp
   go_at_call 55
   refine (HCN.out u0 ST0.out.f).mono ?_
   rintro e u1 ⟨v1, rfl, hR⟩
   have ST1 := Lib.hid (ST0.out.cloneN hR)
   obtain ⟨a1, c1, hsh⟩ := ST1.out.n.ns.shape
   rw [← HNL.out] at hsh
   subst hsh
   clear hR
   go_wp2_with fail
   refine hK.out _ _ (Hq.out _ ST1.out.f) (fun hH => ?_)
   clear hK K
   try simp only [zz]
   refine wpAnyH_ready (rs := [5, 7]) (by kernel_rfl) (by simp) ?_
   refine (AllReadyH.cons (o := ?_) (by simp only [zA, zB, zC] <;> exact rfl) (fun K hK => ?_) (AllReadyH.cons (o := ?_) (by simp only [zA, zB, zC] <;> exact rfl) (fun K hK => ?_) AllReadyH.nil))
   ·go_simp
    go_at_call 56
    refine (HCT.out u1 ST1.out.f).mono ?_
    rintro e u2 ⟨v2, rfl, hR⟩
    have ST2 := Lib.hid (ST1.out.cloneT hR)
    obtain ⟨a2, c2, hsh⟩ := ST2.out.t.ns.shape
    rw [← HML.out] at hsh
    subst hsh
    clear hR
    go_wp2_with fail
    refine hK.out _ _ (Hq.out _ ST2.out.f) (fun hH => ?_)
    clear hK K
    try simp only [zz]
    refine tk 6 hH ?_
    refine rY 7 fun K hK => ?_
    go_simp
    have ST3 := Lib.hid ST2.out.box
    refine hK.out _ _ (Hq.out _ ST3.out.f) (fun hH => ?_)
    clear hK K
    try simp only [zz]
    obtain ⟨b6, hb6⟩ : ∃ q, u2.heap.size = q := ⟨_, rfl⟩
    rw [hb6] at ST3 ⊢
    clear hb6
    generalize (u2.alloc (.cells #[.slice none 0 0, .slice none 0 0] TST)) = u3 at *
    obtain ⟨y0, y1⟩ := boxP2 (ST3.out.x rfl).2
    have z0 := frozen_at (ST3.out.x rfl).2 0; have z1 := frozen_at (ST3.out.x rfl).2 1
    have HPT := Lib.hid ST3.out.put2
    refine rY 8 fun K hK => ?_
    go_simp
    refine hK.out _ _ (Hq.out _ HPT.out.1) (fun hH => ?_)
    clear hK K y0 y1 z0 z1
    try simp only [zz]
    refine rY 9 fun K hK => ?_
    go_simp
    refine hK.out _ _ (Hq.out _ HPT.out.1) (fun hH => ?_)
    clear hK K
    try simp only [zz]
    refine dn ?_
    go_wp2_with fail
    go_meet
    case rel => exact ⟨b6, _, _, _, _, rfl, rfl, by rw [HSZ.out]; exact (ST3.out.x rfl).1, KK0.out.later HPT.out.1 |>.and (Kp.and (Kp.row HPT.out.2.1) (Kp.and (Kp.ow (by rw [HSZ.out]; exact HPT.out.2.2.1)) (Kp.owT (by rw [HSZ.out]; exact HPT.out.2.2.2))))⟩
   go_simp
   have ST4 := Lib.hid ST1.out.box
   refine hK.out _ _ (Hq.out _ ST4.out.f) (fun hH => ?_)
   clear hK K
   try simp only [zz]
   obtain ⟨b6, hb6⟩ : ∃ q, u1.heap.size = q := ⟨_, rfl⟩
   rw [hb6] at ST4 ⊢
   clear hb6
   generalize (u1.alloc (.cells #[.slice none 0 0, .slice none 0 0] TST)) = u4 at *
   refine rY 5 fun K hK => ?_
   go_simp
   go_at_call 56
   refine (HCT.out u4 ST4.out.f).mono ?_
   rintro e u5 ⟨v5, rfl, hR⟩
   have ST5 := Lib.hid (ST4.out.cloneT hR)
   obtain ⟨a5, c5, hsh⟩ := ST5.out.t.ns.shape
   rw [← HML.out] at hsh
   subst hsh
   clear hR
   go_wp2_with fail
   refine hK.out _ _ (Hq.out _ ST5.out.f) (fun hH => ?_)
   clear hK K
   try simp only [zz]
   refine tk 6 hH ?_
   obtain ⟨y0, y1⟩ := boxP2 (ST5.out.x rfl).2
   have z0 := frozen_at (ST5.out.x rfl).2 0; have z1 := frozen_at (ST5.out.x rfl).2 1
   have HPT := Lib.hid ST5.out.put2
   refine rY 8 fun K hK => ?_
   go_simp
   refine hK.out _ _ (Hq.out _ HPT.out.1) (fun hH => ?_)
   clear hK K y0 y1 z0 z1
   try simp only [zz]
   refine rY 9 fun K hK => ?_
   go_simp
   refine hK.out _ _ (Hq.out _ HPT.out.1) (fun hH => ?_)
   clear hK K
   try simp only [zz]
   refine dn ?_
   go_wp2_with fail
   go_meet
   case rel => exact ⟨b6, _, _, _, _, rfl, rfl, by rw [HSZ.out]; exact (ST5.out.x rfl).1, KK0.out.later HPT.out.1 |>.and (Kp.and (Kp.row HPT.out.2.1) (Kp.and (Kp.ow (by rw [HSZ.out]; exact HPT.out.2.2.1)) (Kp.owT (by rw [HSZ.out]; exact HPT.out.2.2.2))))⟩
  go_simp
  have ST6 := Lib.hid ST0.out.box
  refine hK.out _ _ (Hq.out _ ST6.out.f) (fun hH => ?_)
  clear hK K
  try simp only [zz]
  obtain ⟨b6, hb6⟩ : ∃ q, u0.heap.size = q := ⟨_, rfl⟩
  rw [hb6] at ST6 ⊢
  clear hb6
  generalize (u0.alloc (.cells #[.slice none 0 0, .slice none 0 0] TST)) = u6 at *
  refine rY 2 fun K hK => ?_
  go_simp
  go_at_call 55
  refine (HCN.out u6 ST6.out.f).mono ?_
  rintro e u7 ⟨v7, rfl, hR⟩
  have ST7 := Lib.hid (ST6.out.cloneN hR)
  obtain ⟨a7, c7, hsh⟩ := ST7.out.n.ns.shape
  rw [← HNL.out] at hsh
  subst hsh
  clear hR
  go_wp2_with fail
  refine hK.out _ _ (Hq.out _ ST7.out.f) (fun hH => ?_)
  clear hK K
  try simp only [zz]
  refine rY 5 fun K hK => ?_
  go_simp
  go_at_call 56
  refine (HCT.out u7 ST7.out.f).mono ?_
  rintro e u8 ⟨v8, rfl, hR⟩
  have ST8 := Lib.hid (ST7.out.cloneT hR)
  obtain ⟨a8, c8, hsh⟩ := ST8.out.t.ns.shape
  rw [← HML.out] at hsh
  subst hsh
  clear hR
  go_wp2_with fail
  refine hK.out _ _ (Hq.out _ ST8.out.f) (fun hH => ?_)
  clear hK K
  try simp only [zz]
  refine tk 6 hH ?_
  obtain ⟨y0, y1⟩ := boxP2 (ST8.out.x rfl).2
  have z0 := frozen_at (ST8.out.x rfl).2 0; have z1 := frozen_at (ST8.out.x rfl).2 1
  have HPT := Lib.hid ST8.out.put2
  refine rY 8 fun K hK => ?_
  go_simp
  refine hK.out _ _ (Hq.out _ HPT.out.1) (fun hH => ?_)
  clear hK K y0 y1 z0 z1
  try simp only [zz]
  refine rY 9 fun K hK => ?_
  go_simp
  refine hK.out _ _ (Hq.out _ HPT.out.1) (fun hH => ?_)
  clear hK K
  try simp only [zz]
  refine dn ?_
  go_wp2_with fail
  go_meet
  case rel => exact ⟨b6, _, _, _, _, rfl, rfl, by rw [HSZ.out]; exact (ST8.out.x rfl).1, KK0.out.later HPT.out.1 |>.and (Kp.and (Kp.row HPT.out.2.1) (Kp.and (Kp.ow (by rw [HSZ.out]; exact HPT.out.2.2.1)) (Kp.owT (by rw [HSZ.out]; exact HPT.out.2.2.2))))⟩
 obtain ⟨b6, an6, cn6, at6, ct6, rfl, rfl, HC⟩ := hcut
 have hlow : w.heap.size + 1 < w0.heap.size := (Array.getElem?_eq_some_iff.1 K0.out.now.2.2).1
 have fb := fp_alloc wc (.cells #[.int .i64 0, .string ⟨#[]⟩, .string ⟨#[]⟩, .int .i64 0, .slice none 0 0] TR)
 have rb := heap_alloc_new wc (.cells #[.int .i64 0, .string ⟨#[]⟩, .string ⟨#[]⟩, .int .i64 0, .slice none 0 0] TR)
 have hcs : b6 < wc.heap.size := (Array.getElem?_eq_some_iff.1 HC.out.2.now.2.1).1
 have hl8 : w.heap.size + 1 < b6 := Nat.lt_of_lt_of_le hlow HC.out.1
 have HLOW : Hid (w.heap.size + 1 < b6 ∧ w.heap.size + 1 < wc.heap.size) := ⟨hl8, Nat.lt_trans hl8 hcs⟩
 have hk := (HC.out.2.later fb).now
 have H0 : Hid (AlL s (l.map Prod.snd) w #[.slice an n cn, .slice at_ m ct] b6 wc.heap.size 0 (.slice none 0 0) (wc.alloc (.cells #[.int .i64 0, .string ⟨#[]⟩, .string ⟨#[]⟩, .int .i64 0, .slice none 0 0] TR))) :=
  ⟨⟨s, [], _, _, .zero, hk.2.1, hk.2.2.1.lower (Nat.le_of_lt (Nat.lt_of_succ_lt hlow)), hk.2.2.2.lower (Nat.le_of_lt (Nat.lt_of_succ_lt hlow)), Ors.nil _ _⟩, ⟨_, _, _, _, _, rb⟩, hk.1.1, hk.1.2.1, hk.1.2.2, fun j hj => by simp [Value.ownBlock] at hj⟩
 have hzb : z ≤ 3900 := by rw [HZ.out]; have := HV.out.2.2.2.2.2.1; omega
 clear K0 HCN0 HCT0 hlow fb rb hcs hl8 hk HC
 go_wp2_with fail
 generalize wc.heap.size = b10 at *
 generalize (World.alloc wc _) = w3 at *
 go_loopw [11, 21] (fun vr i wr => ∃ k : Nat, k ≤ z ∧ i = .int .i64 k ∧ Hid (AlL s (l.map Prod.snd) w #[.slice an n cn, .slice at_ m ct] b6 b10 k vr wr)) (fun _ i _ => z - (RowKit.intOf i).toNat)
 case atStart => exact ⟨0, Nat.zero_le _, rfl, H0⟩
 clear H0
 obtain ⟨k, hk, rfl, hR⟩ := hrel
 rename_i wr _
 obtain ⟨now, rs, vn8, vt8, hrun, hb8, hon, hot, hors⟩ := hR.out.ex
 obtain ⟨x0, x1, x2, x3, x4, hbx⟩ := hR.out.rb
 obtain ⟨an8, cn8, rfl⟩ := hon.ns.shape
 obtain ⟨at8, ct8, rfl⟩ := hot.ns.shape
 obtain ⟨ar, cr, rfl⟩ := hors.shape
 obtain ⟨n8, hn8⟩ : ∃ q, q = now.nodes.length := ⟨_, rfl⟩
 obtain ⟨m8, hm8⟩ : ∃ q, q = now.turns.length := ⟨_, rfl⟩
 obtain ⟨nr, hnr⟩ : ∃ q, q = rs.length := ⟨_, rfl⟩
 rw [← hn8] at hb8 hon
 rw [← hm8] at hb8 hot
 rw [← hnr] at hors hR ⊢
 by_cases hlt : k < z
 ·have hkl : k < l.length := by rw [← HZ.out]; exact hlt
  have hkp : k < (l.map Prod.snd).length := by rw [List.length_map]; exact hkl
  obtain ⟨g, og, cap', e9, hcell⟩ := (HV.out.2.2.1.non hR.out.fp).at (by rw [← HZ.out]; omega)
  injection e9 with e1 e2 e3
  subst e1 e3
  clear e2
  have hel := hcell k hkl
  have hpl := HV.out.2.2.2.1 _ (List.getElem_mem hkl)
  have hfew := hrun.fews HV.out.2.1
  have hlk : (l.map Prod.snd)[k] = l[k].2 := List.getElem_map ..
  obtain ⟨q, hq⟩ : ∃ q, l[k] = q := ⟨_, rfl⟩
  rw [hq] at hel hpl hlk
  obtain ⟨qi, yk, yd, yp, ya, yv, yo, yt⟩ := q
  have d1 := hel.get 1 _ rfl
  have d2 := hel.get 2 _ rfl
  have d3 := hel.get 3 _ rfl
  have d4 := hel.get 4 _ rfl
  have d5 := hel.get 5 _ rfl
  have d6 := hel.get 6 _ rfl
  have d7 := hel.get 7 _ rfl
  unfold strV at d2 d3 d4
  simp only at d1 d2 d3 d4 d5 d6 d7 hpl hlk
  have hdo := fun W (f : Fp Non wr W) => Do_c (.agg #[.slice an8 n8 cn8, .slice at8 m8 ct8]) now ⟨yk, yd, yp, ya, yv, yo, yt⟩ W ⟨_, _, rfl, hon.ns.non f, hot.ns.non f⟩ (StR.few hfew.1).2 (StR.few hfew.1).1 (by have := HV.out.2.2.2.2.2.1; omega) (by have := HV.out.2.2.2.2.2.2; omega) hpl (HV.out.2.2.2.2.1.non (hR.out.fp.then f))
  have hsucc : ∀ x r, applyP now ⟨yk, yd, yp, ya, yv, yo, yt⟩ = (x, r) → r.err = 0 → Runs s (l.map Prod.snd) (k + 1) x (rs ++ [r]) := fun x r h h0 => .succ hrun hkp (by rw [hlk]; exact h) h0
  have hfail : ∀ er, (applyP now ⟨yk, yd, yp, ya, yv, yo, yt⟩).2.err = er → er ≠ 0 → ∃ now rs, Runs s (l.map Prod.snd) k now rs ∧ ∃ h : k < (l.map Prod.snd).length, (applyP now (l.map Prod.snd)[k]).2.err = er ∧ er ≠ 0 := fun er h h0 => ⟨now, rs, hrun, hkp, by rw [hlk]; exact h, h0⟩
  have hrl : rs.length ≤ 4000 := by have := hrun.len; have := HV.out.2.2.2.2.2.1; omega
  have hgl : g < w.heap.size := by
   obtain ⟨g2, og2, cap2, e9, hc2⟩ := HV.out.2.2.1.at (by rw [← HZ.out]; omega)
   injection e9 with e1 e2 e3
   injection e1 with e1
   injection e1 with e1 _ _
   subst e1
   have h0 := (hc2 k hkl).get 0 _ rfl
   exact World.block_lt_of_cell? w _ h0
  obtain ⟨nx, hnx⟩ : ∃ nx, (applyP now ⟨yk, yd, yp, ya, yv, yo, yt⟩).1 = nx := ⟨_, rfl⟩
  obtain ⟨rq, hrq⟩ : ∃ rq, (applyP now ⟨yk, yd, yp, ya, yv, yo, yt⟩).2 = rq := ⟨_, rfl⟩
  have hs1 := hsucc nx rq (Prod.ext hnx hrq)
  have hs2 := hfail rq.err (by rw [hrq])
  rw [hnx, hrq] at hdo
  have HDO := Lib.hid hdo
  have HS := Lib.hid (And.intro hs1 (And.intro hs2 (And.intro hrl hgl)))
  have HF := Lib.hid (And.intro hR.out.fp (And.intro hR.out.sb (And.intro hR.out.zb (And.intro hb8 (And.intro hbx (And.intro hors hR.out.ne))))))
  have HL := Lib.hid hlt
  have HX := Lib.hid (show Fp Non wr wr from Fp.refl _ _)
  have q3 : ((k : Int) < (z : Int)) = True := eq_true (by omega)
  have q4 : (k < z) = True := eq_true hlt
  have HD7 := Lib.hid (And.intro d1 (And.intro d2 (And.intro d3 (And.intro d4 (And.intro d5 (And.intro d6 d7))))))
  obtain ⟨y0, y1⟩ := boxP2 hb8
  clear hcell hel hpl hfew hlk hq hdo hsucc hfail hrl hgl hnx hrq hs1 hs2 hb8 hbx hors hon hot hrun hlt hkl hkp hR hn8 hm8 hnr d1 d2 d3 d4 d5 d6 d7
  clear HX
  have Hq := Lib.hid (fun (W : World) (T : Nat → Prop) (f : Fp T wr W) (hT : ¬ T g) => And.intro (f.cell HD7.out.1 hT) (And.intro (f.cell HD7.out.2.1 hT) (And.intro (f.cell HD7.out.2.2.1 hT) (And.intro (f.cell HD7.out.2.2.2.1 hT) (And.intro (f.cell HD7.out.2.2.2.2.1 hT) (And.intro (f.cell HD7.out.2.2.2.2.2.1 hT) (f.cell HD7.out.2.2.2.2.2.2 hT)))))))
  go_upto_region 7 with (fail)
  have HWD := Lib.hid (Fp.refl Non wr).drew
  refine wp_region_held_drew (S := (fun w' => w'.cell? ⟨g, og + k * 8 + 1, none⟩ = some (.int .i64 yk) ∧ w'.cell? ⟨g, og + k * 8 + 2, none⟩ = some (.string (B yd)) ∧ w'.cell? ⟨g, og + k * 8 + 3, none⟩ = some (.string (B yp)) ∧ w'.cell? ⟨g, og + k * 8 + 4, none⟩ = some (.string (B ya)) ∧ w'.cell? ⟨g, og + k * 8 + 5, none⟩ = some (.int .i64 yv) ∧ w'.cell? ⟨g, og + k * 8 + 6, none⟩ = some (.int .i64 yo) ∧ w'.cell? ⟨g, og + k * 8 + 7, none⟩ = some (.bool yt))) (by kernel_rfl) ?_ (fun hH => ?_)
  ·exact Hq.out _ _ HWD.out id
  clear y0 y1
  have HB8 := Lib.hid (HWD.out.heap HF.out.2.2.2.1 id)
  obtain ⟨y0, y1⟩ := boxP2 HB8.out
  generalize wr.drew = wd at *
  refine tk 1 hH ?_
  refine tk 2 hH ?_
  refine tk 3 hH ?_
  refine tk 4 hH ?_
  refine tk 5 hH ?_
  refine rY 0 fun K hK => ?_
  go_simp
  refine hK.out _ _ (Hq.out _ _ HWD.out id) (fun hH => ?_)
  clear hK K y0 y1
  try simp only [zz]
  refine rY 6 fun K hK => ?_
  go_simp
  go_at_call 17
  refine (HDO.out _ HWD.out).mono ?_
  rintro e w5 hD
  obtain ⟨vn9, vt9, nv, rfl, hsd, hno, hmine⟩ := hD.both
  have HF5 := Lib.hid hD.fp
  have HM := Lib.hid (AlM.of (HWD.out.heap HF.out.2.2.2.1 id) (HWD.out.heap HF.out.2.2.2.2.1 id) (HF.out.1.then HWD.out) (HWD.out.heap HF.out.2.1 id) (HWD.out.heap HF.out.2.2.1 id) (HF.out.2.2.2.2.2.1.non HWD.out) HF.out.2.2.2.2.2.2 HLOW.out.1 HLOW.out.2 hD.fp hno hmine)
  have HB8 := Lib.hid (hD.fp.heap (HWD.out.heap HF.out.2.2.2.1 id) id)
  have HB10 := Lib.hid (hD.fp.heap (HWD.out.heap HF.out.2.2.2.2.1 id) id)
  obtain ⟨vn', vt', e9, h1, h2⟩ := hsd.ex
  injection e9 with e9
  injection e9 with e9
  injection e9 with e1 e9
  injection e9 with e2 _
  subst e1 e2
  obtain ⟨an9, cn9, rfl⟩ := h1.shape
  obtain ⟨at9, ct9, rfl⟩ := h2.shape
  obtain ⟨na9, nc9, rfl⟩ := hno.shape
  clear hD hsd hno hmine h1 h2
  unfold strV at HM ⊢
  go_wp2_with fail
  refine hK.out _ _ (Hq.out _ _ (HWD.out.then HF5.out) id) (fun hH => ?_)
  clear hK K
  try simp only [zz]
  refine tk 7 hH ?_
  refine tk 8 hH ?_
  refine tk 9 hH ?_
  have hga : g ≠ b6 ∧ g ≠ b10 := by have := HS.out.2.2.2; have := HLOW.out; exact ⟨by omega, by omega⟩
  have hf8 := two_f b6 (.slice an9 nx.nodes.length cn9) (.slice at9 nx.turns.length ct9) w5
  have HS8 := Lib.hid (Hq.out _ (fun j => j = b6) ((HWD.out.then HF5.out).then_any hf8) hga.1)
  have y10 := hf8.heap HB10.out (fun e => typ_ne HB8.out HB10.out (by decide) e.symm)
  have HY10 := Lib.hid y10
  have HS9 := Lib.hid (Hq.out _ (fun j => j = b6 ∨ j = b10) ((((HWD.out.then HF5.out).then_any hf8).mono (fun _ h => .inl h)).same ((fp5k y10 (.int .i64 rq.err) (.string (B rq.path)) (.string (B rq.data)) (.int .i64 rq.ver) (.slice na9 rq.names.length nc9)).mono (fun _ h => .inr h))) (fun h => h.elim hga.1 hga.2))
  obtain ⟨y0, y1⟩ := boxP2 HB8.out
  have z0 := frozen_at HB8.out 0; have z1 := frozen_at HB8.out 1
  clear y10 hf8 hga
  refine rY 10 fun K hK => ?_
  go_simp
  refine hK.out _ _ HS8.out (fun hH => ?_)
  clear hK K y0 y1 z0 z1
  try simp only [zz]
  obtain ⟨r0, r1, r2, r3, r4⟩ := box5 HY10.out
  have z0 := frozen_at HY10.out 0; have z1 := frozen_at HY10.out 1; have z2 := frozen_at HY10.out 2; have z3 := frozen_at HY10.out 3; have z4 := frozen_at HY10.out 4
  refine rY 11 fun K hK => ?_
  go_simp
  refine hK.out _ _ HS9.out (fun hH => ?_)
  clear hK K r0 r1 r2 r3 r4 z0 z1 z2 z3 z4 hH
  try simp only [zz]
  refine dn ?_
  clear HY10 HS8 HS9 HB8 HB10
  go_upto_region 8 with (fail)
  unfold Five Two at HM
  generalize (((((((World.setCell w5 _ _).setCell _ _).setCell _ _).setCell _ _).setCell _ _).setCell _ _).setCell _ _) = w6 at *
  obtain ⟨re, rp, rd, rv, rn⟩ := rq
  simp only at HM HS ⊢
  obtain ⟨b0, b1, b2, b3, b4⟩ := box5 HM.out.r10
  unfold strV at b1 b2
  simp only at b0 b1 b2 b3 b4
  by_cases hre : re = 0
  ·have e1 : (re != 0) = false := by simp [hre]
   have e2 : (re == 0) = true := beq_iff_eq.2 hre
   have e3 : (re = 0) = True := eq_true hre
   have HRE := Lib.hid hre
   have hap9 := app_res w6 w.heap.size (.slice ar nr cr) rs ⟨re, rp, rd, rv, rn⟩ na9 nc9 TRL HM.out.ors (by have := HS.out.2.2.1; omega) HM.out.fp.size HM.out.own
   unfold strV at hap9
   simp only at hap9
   have HAP9 := Lib.hid hap9
   clear hap9 hre
   go_wp2_with (at_builtin; go_must (refine wpList_app rfl _ _ _ _ rfl _ _ rfl rfl _ HAP9.out ?_))
   intro v7 w7 hc
   have hM : Hid (AlL s (l.map Prod.snd) w #[.slice an n cn, .slice at_ m ct] b6 b10 (k + 1) v7 w7) := AlL.next HM.out HRE.out (HS.out.1 HRE.out) hc
   clear hc b0 b1 b2 b3 b4
   have hj1 := HL.out
   go_wp2
   go_roundw
   case rel => exact ⟨k + 1, by have := HL.out; omega, by have := HL.out; go_num, hM⟩
   case measure => have := HL.out; simp [RowKit.intOf]; omega
  have e1 : (re != 0) = true := by simpa using hre
  have e2 : (re == 0) = false := beq_eq_false_iff_ne.2 hre
  have e3 : (re = 0) = False := eq_false hre
  have HEX := Lib.hid (HS.out.2.1 hre)
  clear hre
  go_wp2_with fail
  go_step3
  exact ⟨rfl, k, b10, re, _, _, _, _, _, _, _, _, _, _, _, _, _, _, _, _, _, _, _, _, _, _, _, _, _, _, _, _, _, _, _, _, _, _, _, _, _, _, _, _, _, _, _, _, _, _, rfl, HEX.out, HM.out.fp, HM.out.sb, HM.out.zb, HM.out.r10⟩
 have hke : k = z := by omega
 subst hke
 have q3 : ((k : Int) < (k : Int)) = False := eq_false (by omega)
 have hrun' : Runs s (l.map Prod.snd) (l.map Prod.snd).length now rs := by rw [List.length_map, ← HZ.out]; exact hrun
 have hfs := two_f (w.heap.size + 1) (.slice an8 n8 cn8) (.slice at8 m8 ct8) wr
 have hset := two_set hR.out.zb (.slice an8 n8 cn8) (.slice at8 m8 ct8)
 have H6 := Lib.hid (And.intro hrun' (And.intro hset (And.intro (hR.out.fp.trans hfs (fun j hj => .inr (by have hj : j = w.heap.size + 1 := hj; omega))) (And.intro (hon.keepT hR.out.zb (by decide) hfs) (And.intro (hot.keepT hR.out.zb (by decide) hfs) (hors.keepT hR.out.zb (by decide) (by decide) hfs))))))
 obtain ⟨d0, d1⟩ := boxP2 hR.out.zb
 obtain ⟨y0, y1⟩ := boxP2 hb8
 have z0 := frozen_at hR.out.zb 0; have z1 := frozen_at hR.out.zb 1
 clear hset hfs hrun hrun' hon hot hors hb8 hbx hlt hk hR hn8 hm8 hnr
 go_wp2_with fail
 clear d0 d1 z0 z1 y0 y1
 unfold Two at H6
 generalize ((World.setCell wr _ _).setCell _ _) = wz at *
 obtain ⟨t0, t1⟩ := boxP2 H6.out.2.1
 simp only [Exit.jump]
 refine bodyPost_ret (v := .tuple #[.agg #[.slice an8 n8 cn8, .slice at8 m8 ct8], .slice ar nr cr, .int .i64 0, .int .i64 0]) (by simp [results, Tryz.results49, go_sem, t0, t1]) rfl ?_
 exact ⟨.inl ⟨now, rs, _, _, H6.out.1, rfl, ⟨_, _, rfl, H6.out.2.2.2.1.ns, H6.out.2.2.2.2.1.ns⟩, H6.out.2.2.2.2.2.rrs⟩, H6.out.2.2.1⟩
end Go.Proofs.YtphoglepiegeiaaGreatDoor
