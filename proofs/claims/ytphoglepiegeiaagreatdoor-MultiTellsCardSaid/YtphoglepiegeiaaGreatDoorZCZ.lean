/- A text of this proof. -/
import Derived.Test.YtphoglepiegeiaaGreatDoorZCE
import Derived.Test.YtphoglepiegeiaaGreatDoorZCF
import Derived.Test.YtphoglepiegeiaaGreatDoorZCL
import Derived.Test.YtphoglepiegeiaaGreatDoorZCT
import Derived.Test.YtphoglepiegeiaaGreatDoorZCV
import Derived.Test.YtphoglepiegeiaaGreatDoorZCW
import Derived.Test.YtphoglepiegeiaaGreatDoorZCY
set_option linter.unusedSimpArgs false
set_option linter.unusedVariables false
namespace Go.Proofs.YtphoglepiegeiaaGreatDoor
set_option maxRecDepth 20000
open Go.RowKit Pm
theorem Pm.applyP_ok {s : St} {x : Pt} (h : (applyP s x).2.err = 0) : StR s ∧ mayP x = true ∧ applyP s x = doP s x := by
 by_cases h2 : rightS s = true ∧ mayP x = true
 ·exact ⟨(rightS_iff s).1 h2.1, h2.2, applyP_yes ((rightS_iff s).1 h2.1) h2.2⟩
 rw [applyP_no h2] at h; exact absurd h (by decide)
theorem Pm.doP_len (s : St) (x : Pt) : (doP s x).1.nodes.length ≤ s.nodes.length + 1 ∧ (doP s x).1.turns.length ≤ s.turns.length + 1 := by
 have fl : ∀ q : Nd → Bool, (s.nodes.filter q).length ≤ s.nodes.length := fun q => List.length_filter_le _ _
 have st := fun p n => setT_len s.turns p n
 unfold doP
 split
 ·unfold putS
  split
  ·exact ⟨by simp only; omega, by simp only; omega⟩
  split
  ·exact ⟨by simp only; omega, by simp only; omega⟩
  refine ⟨by simp only [ins_length]; omega, ?_⟩
  simp only
  split
  ·have := st x.dir (turnOf s.turns x.dir + 1); omega
  omega
 split
 ·split
  ·exact ⟨by simp only; omega, by have := st x.path 0; simp only; omega⟩
  exact ⟨by simp only; omega, by simp only; omega⟩
 split
 ·exact ⟨by simp only; omega, by simp only; omega⟩
 split
 ·exact ⟨by have := fl (fun n => !cleared x n); simp only; omega, by simp only; omega⟩
 split
 ·exact ⟨by simp only; omega, by simp only; omega⟩
 have el : ∀ k, (s.nodes.eraseIdx k).length ≤ s.nodes.length := fun k => by rw [List.length_eraseIdx]; split <;> omega
 repeat' split
 all_goals first
  | exact ⟨by simp only; omega, by simp only; omega⟩
  | exact ⟨by simp only [List.length_set]; omega, by simp only; omega⟩
  | exact ⟨by have := el (place s.nodes x.path); simp only; omega, by simp only; omega⟩
theorem Pm.Runs.fews {s : St} {ps : List Pt} {k : Nat} {now : St} {rs : List Res} (h : Runs s ps k now rs) (hs : StR s) : StR now ∧ now.nodes.length ≤ s.nodes.length + k ∧ now.turns.length ≤ s.turns.length + k := by
 induction h with
 | zero => exact ⟨hs, Nat.le_refl _, Nat.le_refl _⟩
 | @succ k now x rs r h hk ha h0 ih =>
  have h0' : (applyP now ps[k]).2.err = 0 := by rw [ha]; exact h0
  obtain ⟨g1, g2, g3⟩ := applyP_ok h0'
  have hx : x = (doP now ps[k]).1 := by rw [← g3, ha]
  have := doP_len now ps[k]
  refine ⟨by rw [hx]; exact g1.doP g2, ?_, ?_⟩
  ·rw [hx]; omega
  rw [hx]; omega
theorem Kp.ow {W : World} {lo : Nat} {v : Value} {l : List Nd} (h : Ow lo W v l) : Kp (fun W' => Ow lo W' v l) W := fun W' f => h.non f
theorem Kp.owT {W : World} {lo : Nat} {v : Value} {l : List Tu} (h : OwT lo W v l) : Kp (fun W' => OwT lo W' v l) W := fun W' f => h.non f
section
variable {u0 u : World} {vN vT : Value} {lN : List Nd} {lT : List Tu} {b : Nat} {x : Bool}
theorem Bst.cloneN (h : Bst u0 (.slice none 0 0) [] vT lT b x u) {l : List Nd} {v : Value} {u' : World} (hR : OwR u l v u') : Bst u0 v l vT lT b x u' := by
 have k := h.non hR.fp
 exact ⟨k.f, Ow.lower hR.own h.f.size, k.t, k.x⟩
theorem Bst.cloneT (h : Bst u0 vN lN (.slice none 0 0) [] b x u) {l : List Tu} {v : Value} {u' : World} (hR : OwTR u l v u') : Bst u0 vN lN v l b x u' := by
 have k := h.non hR.fp
 exact ⟨k.f, k.n, OwT.lower hR.own h.f.size, k.x⟩
theorem Bst.put2 (h : Bst u0 vN lN vT lT b true u) : Fp Non u0 ((u.setCell ⟨b, 0, none⟩ vN).setCell ⟨b, 1, none⟩ vT) ∧ ((u.setCell ⟨b, 0, none⟩ vN).setCell ⟨b, 1, none⟩ vT).heap[b]? = some (.cells #[vN, vT] TST (0, 0)) ∧ Ow u0.heap.size ((u.setCell ⟨b, 0, none⟩ vN).setCell ⟨b, 1, none⟩ vT) vN lN ∧ OwT u0.heap.size ((u.setCell ⟨b, 0, none⟩ vN).setCell ⟨b, 1, none⟩ vT) vT lT := by
 obtain ⟨h1, h2⟩ := h.x rfl
 have hfa : Fp (fun j => j = b) u ((u.setCell ⟨b, 0, none⟩ vN).setCell ⟨b, 1, none⟩ vT) := ((Fp.refl (fun j => j = b) u).setCell (p := ⟨b, 0, none⟩) (.inl rfl) _).setCell (p := ⟨b, 1, none⟩) (.inl rfl) _
 refine ⟨h.f.trans hfa (fun j hj => .inr (by have hj : j = b := hj; omega)), two_set h2 vN vT, h.n.keep hfa (fun j hj e => ?_), h.t.keep hfa (fun j hj e => ?_)⟩
 ·obtain ⟨_, k1⟩ := h.n.type hj
  have e : j = b := e
  exact typ_ne k1 h2 (by decide) e
 obtain ⟨_, k1⟩ := h.t.type hj
 have e : j = b := e
 exact typ_ne k1 h2 (by decide) e
end
abbrev Pcs (w : World) (v : Value) (l : List (Nat × Pt)) : Prop := Sg pcC 8 w v l
structure MAlR (s : St) (v : Value) (ps : List Pt) (w : World) (e : Ending) (w' : World) : Prop where
 way : (∃ now rs v' rv, Runs s ps ps.length now rs ∧ e = .returned (.tuple #[v', rv, .int .i64 0, .int .i64 0]) ∧ Sto w' v' now ∧ Rrs w' rv rs) ∨
  (∃ i now rs, Runs s ps i now rs ∧ ∃ h : i < ps.length, (applyP now ps[i]).2.err ≠ 0 ∧ e = .returned (.tuple #[v, .slice none 0 0, .int .i64 (applyP now ps[i]).2.err, .int .i64 i]))
 fp : Fp Non w w'
theorem DoR.both {w : World} {s' : St} {r : Res} {e : Ending} {w' : World} (h : DoR w s' r e w') : ∃ vn vt nv, e = .returned (.tuple #[.agg #[vn, vt], .agg #[.int .i64 r.err, strV r.path, strV r.data, .int .i64 r.ver, nv]]) ∧ Sto w' (.agg #[vn, vt]) s' ∧ Own w.heap.size w' nv r.names ∧ (r.err = 0 → Ow w.heap.size w' vn s'.nodes ∧ OwT w.heap.size w' vt s'.turns) := by
 obtain ⟨v', nv, rfl, hs, ho⟩ := h.ex
 obtain ⟨vn, vt, rfl, h1, h2⟩ := hs.ex
 refine ⟨vn, vt, nv, rfl, ⟨vn, vt, rfl, h1, h2⟩, ho, fun h0 => ?_⟩
 obtain ⟨a, b, x, e, k1, k2⟩ := h.mine h0
 injection e with e
 injection e with e
 injection e with e
 injection e with e _
 injection e with e
 injection e with e
 injection e with e1 e
 injection e with e2 _
 subst e1 e2
 exact ⟨k1, k2⟩
theorem Ors.keepT {lo : Nat} {w w' : World} {v : Value} {rs : List Res} (h : Ors lo w v rs) {b : Nat} {cs : Array Value} {T : TypeId} (hb : w.heap[b]? = some (.cells cs T (0, 0))) (h1 : TR ≠ T) (h2 : 9 ≠ T) (f : Fp (fun j => j = b) w w') : Ors lo w' v rs := by
 obtain ⟨L, k1, k2, k3⟩ := h.ex
 refine ⟨L, k1, f.owns k2 (fun j hj e => ?_), fun x hx => ⟨f.owns (k3 x hx).1 (fun j hj e => ?_), (k3 x hx).2⟩⟩
 ·obtain ⟨_, t1⟩ := k2.type hj
  have e : j = b := e
  subst e
  exact type_ne t1 hb h1
 obtain ⟨_, t1⟩ := (k3 x hx).type hj
 have e : j = b := e
 subst e
 exact type_ne t1 hb h2
theorem Own.keepT {lo : Nat} {w w' : World} {v : Value} {ps : List Bs} (h : Own lo w v ps) {b : Nat} {cs : Array Value} {T : TypeId} (hb : w.heap[b]? = some (.cells cs T (0, 0))) (h2 : 9 ≠ T) (f : Fp (fun j => j = b) w w') : Own lo w' v ps := by
 refine ⟨f.owns h.1 (fun j hj e => ?_), h.2⟩
 obtain ⟨_, t1⟩ := h.type hj
 have e : j = b := e
 subst e
 exact type_ne t1 hb h2
theorem Ow.keepT {lo : Nat} {w w' : World} {v : Value} {l : List Nd} (h : Ow lo w v l) {b : Nat} {cs : Array Value} {T : TypeId} (hb : w.heap[b]? = some (.cells cs T (0, 0))) (h2 : TN ≠ T) (f : Fp (fun j => j = b) w w') : Ow lo w' v l :=
 h.keep f (fun j hj e => by
  obtain ⟨_, t1⟩ := h.type hj
  have e : j = b := e
  exact typ_ne t1 hb h2 e)
theorem OwT.keepT {lo : Nat} {w w' : World} {v : Value} {l : List Tu} (h : OwT lo w v l) {b : Nat} {cs : Array Value} {T : TypeId} (hb : w.heap[b]? = some (.cells cs T (0, 0))) (h2 : TU ≠ T) (f : Fp (fun j => j = b) w w') : OwT lo w' v l :=
 h.keep f (fun j hj e => by
  obtain ⟨_, t1⟩ := h.type hj
  have e : j = b := e
  exact typ_ne t1 hb h2 e)
abbrev Two (b : Nat) (vn vt : Value) (u : World) : World := (u.setCell ⟨b, 0, none⟩ vn).setCell ⟨b, 1, none⟩ vt
abbrev Five (b : Nat) (a0 a1 a2 a3 a4 : Value) (u : World) : World := ((((u.setCell ⟨b, 0, none⟩ a0).setCell ⟨b, 1, none⟩ a1).setCell ⟨b, 2, none⟩ a2).setCell ⟨b, 3, none⟩ a3).setCell ⟨b, 4, none⟩ a4
theorem two_f (b : Nat) (vn vt : Value) (u : World) : Fp (fun j => j = b) u (Two b vn vt u) := ((Fp.refl (fun j => j = b) u).setCell (p := ⟨b, 0, none⟩) (.inl rfl) _).setCell (p := ⟨b, 1, none⟩) (.inl rfl) _
structure AlL (s : St) (ps : List Pt) (w : World) (c0 : Array Value) (b8 b10 k : Nat) (vr : Value) (wr : World) : Prop where
 ex : ∃ now rs vn vt, Runs s ps k now rs ∧ wr.heap[b8]? = some (.cells #[vn, vt] TST (0, 0)) ∧ Ow w.heap.size wr vn now.nodes ∧ OwT w.heap.size wr vt now.turns ∧ Ors w.heap.size wr vr rs
 rb : ∃ a0 a1 a2 a3 a4, wr.heap[b10]? = some (.cells #[a0, a1, a2, a3, a4] TR (0, 0))
 fp : Fp Non w wr
 sb : wr.heap[w.heap.size]? = some (.cells c0 TST (0, 0))
 zb : wr.heap[w.heap.size + 1]? = some (.cells #[.slice none 0 0, .slice none 0 0] TST (0, 0))
 ne : ∀ j, vr.ownBlock = some j → j ≠ b10
structure AlM (w : World) (c0 : Array Value) (b8 b10 : Nat) (vr : Value) (rs : List Res) (x : St) (r : Res) (vn vt nv : Value) (w6 : World) : Prop where
 r8 : w6.heap[b8]? = some (.cells #[vn, vt] TST (0, 0))
 r10 : w6.heap[b10]? = some (.cells #[.int .i64 r.err, strV r.path, strV r.data, .int .i64 r.ver, nv] TR (0, 0))
 fp : Fp Non w w6
 sb : w6.heap[w.heap.size]? = some (.cells c0 TST (0, 0))
 zb : w6.heap[w.heap.size + 1]? = some (.cells #[.slice none 0 0, .slice none 0 0] TST (0, 0))
 ors : Ors w.heap.size w6 vr rs
 ne : ∀ j, vr.ownBlock = some j → j ≠ b10
 own : Own w.heap.size w6 nv r.names
 mine : r.err = 0 → Ow w.heap.size w6 vn x.nodes ∧ OwT w.heap.size w6 vt x.turns
theorem AlM.of {w wd w5 : World} {c0 : Array Value} {b8 b10 : Nat} {vr : Value} {rs : List Res} {x : St} {r : Res} {vn vt nv o0 o1 a0 a1 a2 a3 a4 : Value}
  (h8 : wd.heap[b8]? = some (.cells #[o0, o1] TST (0, 0))) (h10 : wd.heap[b10]? = some (.cells #[a0, a1, a2, a3, a4] TR (0, 0))) (hF : Fp Non w wd) (sb : wd.heap[w.heap.size]? = some (.cells c0 TST (0, 0))) (zb : wd.heap[w.heap.size + 1]? = some (.cells #[.slice none 0 0, .slice none 0 0] TST (0, 0)))
  (ho : Ors w.heap.size wd vr rs) (hne : ∀ j, vr.ownBlock = some j → j ≠ b10) (l8 : w.heap.size + 1 < b8) (l10 : w.heap.size + 1 < b10) (f5 : Fp Non wd w5) (hno : Own wd.heap.size w5 nv r.names) (hm : r.err = 0 → Ow wd.heap.size w5 vn x.nodes ∧ OwT wd.heap.size w5 vt x.turns) :
  AlM w c0 b8 b10 vr rs x r vn vt nv (Five b10 (.int .i64 r.err) (strV r.path) (strV r.data) (.int .i64 r.ver) nv (Two b8 vn vt w5)) := by
 have e : b8 ≠ b10 := typ_ne h8 h10 (by decide)
 have k8 := f5.heap h8 id
 have k10 := f5.heap h10 id
 have g1 := two_f b8 vn vt w5
 have y8 := two_set k8 vn vt
 have y10 := g1.heap k10 (fun h => e h.symm)
 have g2 := fp5k y10 (.int .i64 r.err) (strV r.path) (strV r.data) (.int .i64 r.ver) nv
 have hF5 := hF.then f5
 have q1 := hF5.trans g1 (fun j hj => .inr (by have hj : j = b8 := hj; omega))
 have k0 := g1.heap (f5.heap sb id) (fun h => by have h : w.heap.size = b8 := h; omega)
 have k1 := g1.heap (f5.heap zb id) (fun h => by have h : w.heap.size + 1 = b8 := h; omega)
 refine ⟨g2.heap y8 e, set5 y10 _ _ _ _ _, q1.trans g2 (fun j hj => .inr (by have hj : j = b10 := hj; omega)), g2.heap k0 (fun h => by have h : w.heap.size = b10 := h; omega), g2.heap k1 (fun h => by have h : w.heap.size + 1 = b10 := h; omega), ((ho.non f5).keepT k8 (by decide) (by decide) g1).keep y10 hne g2, hne, ((hno.low hF.size).keepT k8 (by decide) g1).keepT y10 (by decide) g2, fun h0 => ⟨?_, ?_⟩⟩
 ·exact (((hm h0).1.lower hF.size).keepT k8 (by decide) g1).keepT y10 (by decide) g2
 exact (((hm h0).2.lower hF.size).keepT k8 (by decide) g1).keepT y10 (by decide) g2
theorem AlL.next {s : St} {ps : List Pt} {k : Nat} {w w6 w7 : World} {c0 : Array Value} {b8 b10 : Nat} {vr v7 : Value} {rs : List Res} {x : St} {r : Res} {vn vt nv : Value} (h : AlM w c0 b8 b10 vr rs x r vn vt nv w6) (h0 : r.err = 0) (hrun : Runs s ps (k + 1) x (rs ++ [r])) {o : Obj} (hc : ChG w.heap.size (w6.alloc o) vr (rs ++ [r]) v7 w7) : AlL s ps w c0 b8 b10 (k + 1) v7 w7 := by
 have fa := fp_alloc w6 o
 have ty : ∀ j, vr.ownBlock = some j → ∃ cs, (w6.alloc o).heap[j]? = some (.cells cs TR (0, 0)) := fun j hj => (h.ors.non fa).type hj
 have nt : ∀ {i : Nat} {cs : Array Value}, (w6.alloc o).heap[i]? = some (.cells cs TST (0, 0)) → ¬ vr.ownBlock = some i := fun hi e => by
  obtain ⟨_, k1⟩ := ty _ e
  exact typ_ne k1 hi (by decide) rfl
 have a8 := fa.heap h.r8 id
 have a10 := fa.heap h.r10 id
 have a_s := fa.heap h.sb id
 have az := fa.heap h.zb id
 obtain ⟨m1, m2⟩ := h.mine h0
 refine ⟨⟨x, _, vn, vt, hrun, hc.fp.heap a8 (nt a8), (m1.non fa).keep hc.fp (fun j hj e => ?_), (m2.non fa).keep hc.fp (fun j hj e => ?_), hc.own⟩, ⟨_, _, _, _, _, hc.fp.heap a10 (fun e => h.ne _ e rfl)⟩, (h.fp.then fa).trans hc.fp (fun j hj => .inr (h.ors.lt j hj).1), hc.fp.heap a_s (nt a_s), hc.fp.heap az (nt az), fun j hj e => ?_⟩
 ·obtain ⟨_, k1⟩ := ty j e
  obtain ⟨_, k2⟩ := (m1.non fa).type hj
  exact typ_ne k1 k2 (by decide) rfl
 ·obtain ⟨_, k1⟩ := ty j e
  obtain ⟨_, k2⟩ := (m2.non fa).type hj
  exact typ_ne k1 k2 (by decide) rfl
 rcases hc.new j hj with h1 | h1
 ·exact h.ne j h1 e
 have h2 := (Array.getElem?_eq_some_iff.1 h.r10).1
 have h3 := fa.size
 omega
attribute [local irreducible] wpStill
set_option maxHeartbeats 40000000 in
theorem mAll_c (v lv : Value) (s : St) (l : List (Nat × Pt)) (w : World) (hv : Sto w v s) (hs : StR s) (hn : s.nodes.length + l.length ≤ 3900) (hm : s.turns.length + l.length ≤ 3900) (hl : Pcs w lv l) (hp : ∀ q ∈ l, q.2.path.length ≤ 1000000) (ht : Tab w) :
  Calls Tryz.prog 49 #[v, lv] w (MAlR s v (l.map Prod.snd) w) := by
 obtain ⟨vn, vt, rfl, h1, h2⟩ := hv.ex
 have hcn := fun W (f : Fp Non w W) => Clone_own vn s.nodes W (h1.non f) (by omega)
 have hct := fun W (f : Fp Non w W) => CloneT_own vt s.turns W (h2.non f) (by omega)
 obtain ⟨an, cn, rfl⟩ := h1.shape
 obtain ⟨at_, ct, rfl⟩ := h2.shape
 obtain ⟨al, cl, rfl⟩ := hl.shape
 obtain ⟨n, hnn⟩ : ∃ n, n = s.nodes.length := ⟨_, rfl⟩
 obtain ⟨m, hmm⟩ : ∃ m, m = s.turns.length := ⟨_, rfl⟩
 obtain ⟨z, hz⟩ : ∃ z, z = l.length := ⟨_, rfl⟩
 rw [← hnn] at hcn hv h1 ⊢
 rw [← hmm] at hct hv h2 ⊢
 rw [← hz] at hl ⊢
 have HNL := zI hnn
 have HML := zI hmm
 have HZ := zI hz
 have HCN0 := zI hcn
 have HCT0 := zI hct
 have HV := zI (yI hv (yI hs (yI hl (yI hp (yI ht (yI (show s.nodes.length + l.length ≤ 3900 by omega) (show s.turns.length + l.length ≤ 3900 by omega)))))))
 have f0 := fp_alloc w (.cells #[.slice an n cn, .slice at_ m ct] TST)
 have f1 := fp_alloc (w.alloc (.cells #[.slice an n cn, .slice at_ m ct] TST)) (.cells #[.slice none 0 0, .slice none 0 0] TST)
 have r0 := f1.heap (heap_alloc_new w (.cells #[.slice an n cn, .slice at_ m ct] TST)) id
 have r1 := heap_alloc_new (w.alloc (.cells #[.slice an n cn, .slice at_ m ct] TST)) (.cells #[.slice none 0 0, .slice none 0 0] TST)
 rw [show (w.alloc (.cells #[.slice an n cn, .slice at_ m ct] TST)).heap.size = w.heap.size + 1 from by simp] at r1
 have K0 := zI (Kp.and (Kp.fp (f0.then f1)) (Kp.and (Kp.row r0) (Kp.row r1)))
 clear hcn hct hv h1 h2 hs hn hm hl hp ht hnn hmm hz f0 f1 r0 r1
 go_enter Tryz.func49, Tryz.ntmps49
 go_wp2_with fail
 generalize ((w.alloc (.cells #[.slice an n cn, .slice at_ m ct] TST)).alloc (.cells #[.slice none 0 0, .slice none 0 0] TST)) = w0 at *
 refine wp_scope_jumps 0 (fun a' w' => ∃ (i : Nat) (b10 : Nat) (er : Int) (c1 c2 c3 c4 : Value) (u3 u5 u6 u7 u8 u11 u12 u13 u14 u15 u16 u17 u18 u19 u20 u21 u22 u23 u24 u25 u26 u27 u28 u29 u30 u31 u32 u33 u34 u35 u36 u37 u38 u39 u40 u41 u42 u43 u44 u45 u46 u47 : Value), a' = { tmps := #[.agg #[.slice an n cn, .slice at_ m ct], .slice al z cl, .pointer (some ⟨w.heap.size, 0, none⟩), u3, .pointer (some ⟨w.heap.size + 1, 0, none⟩), u5, u6, u7, u8, .int .i64 i, .pointer (some ⟨b10, 0, none⟩), u11, u12, u13, u14, u15, u16, u17, u18, u19, u20, u21, u22, u23, u24, u25, u26, u27, u28, u29, u30, u31, u32, u33, u34, u35, u36, u37, u38, u39, u40, u41, u42, u43, u44, u45, u46, u47], defers := [] } ∧ Hid ((∃ now rs, Runs s (l.map Prod.snd) i now rs ∧ ∃ h : i < (l.map Prod.snd).length, (applyP now (l.map Prod.snd)[i]).2.err = er ∧ er ≠ 0) ∧ Fp Non w w' ∧ w'.heap[w.heap.size]? = some (.cells #[.slice an n cn, .slice at_ m ct] TST (0, 0)) ∧ w'.heap[w.heap.size + 1]? = some (.cells #[.slice none 0 0, .slice none 0 0] TST (0, 0)) ∧ w'.heap[b10]? = some (.cells #[.int .i64 er, c1, c2, c3, c4] TR (0, 0)))) (fun _ _ => 0) rfl ?_ ?_
 rotate_left
 ·rintro a' w' ⟨i, b10, er, c1, c2, c3, c4, u3, u5, u6, u7, u8, u11, u12, u13, u14, u15, u16, u17, u18, u19, u20, u21, u22, u23, u24, u25, u26, u27, u28, u29, u30, u31, u32, u33, u34, u35, u36, u37, u38, u39, u40, u41, u42, u43, u44, u45, u46, u47, rfl, HJ⟩
  obtain ⟨s0, s1⟩ := boxP2 HJ.out.2.2.1
  obtain ⟨d0, d1⟩ := boxP2 HJ.out.2.2.2.1
  obtain ⟨r0, r1, r2, r3, r4⟩ := box5 HJ.out.2.2.2.2
  have z0 := frozen_at HJ.out.2.2.2.1 0; have z1 := frozen_at HJ.out.2.2.2.1 1
  have hset := two_set HJ.out.2.2.2.1 (.slice an n cn) (.slice at_ m ct)
  have hfs := two_f (w.heap.size + 1) (.slice an n cn) (.slice at_ m ct) w'
  have HJS := zI (yI ((Fp.refl Non _).drew.heap hset id) ((HJ.out.2.1.trans hfs (fun j hj => .inr (by have hj : j = w.heap.size + 1 := hj; omega))).then (Fp.refl Non _).drew))
  have rs := hfs.heap HJ.out.2.2.2.2 (fun e => typ_ne HJ.out.2.2.2.2 HJ.out.2.2.2.1 (by decide) e)
  obtain ⟨rs0, _, _, _, _⟩ := box5 rs
  clear hset hfs rs
  go_wp2_with fail
  go_region
  all_goals
   clear rs0 d0 d1 z0 z1 r0 r1 r2 r3 r4 s0 s1
   generalize ((World.setCell w' _ _).setCell _ _).drew = wz at *
   obtain ⟨t0, t1⟩ := boxP2 HJS.out.1
   go_wp2_with fail
   simp only [Exit.jump]
   refine bodyPost_ret (v := .tuple #[.agg #[.slice an n cn, .slice at_ m ct], .slice none 0 0, .int .i64 er, .int .i64 i]) (by simp [results, Tryz.results49, go_sem, t0, t1]) rfl ?_
   obtain ⟨now, rs, h1, h2, h3, h4⟩ := HJ.out.1
   exact ⟨.inr ⟨i, now, rs, h1, h2, by rw [h3]; exact h4, by rw [h3]⟩, HJS.out.2⟩
 go_upto_region 1 with (fail)
 go_cut [8, 9] from 12 to 19 (fun x8 x9 wc => ∃ b6 an6 cn6 at6 ct6, x8 = .pointer (some ⟨b6, 0, none⟩) ∧ x9 = .int .i64 0 ∧ Hid (w0.heap.size ≤ b6 ∧ Kp (fun W => (Fp Non w W ∧ W.heap[w.heap.size]? = some (.cells #[.slice an n cn, .slice at_ m ct] TST (0, 0)) ∧ W.heap[w.heap.size + 1]? = some (.cells #[.slice none 0 0, .slice none 0 0] TST (0, 0))) ∧ W.heap[b6]? = some (.cells #[.slice an6 n cn6, .slice at6 m ct6] TST (0, 0)) ∧ Ow w0.heap.size W (.slice an6 n cn6) s.nodes ∧ OwT w0.heap.size W (.slice at6 m ct6) s.turns) wc))
 case first =>
  have KK0 := zI (K0.out.later (Fp.refl Non w0).drew)
  have Hq := zI (fun W (f : Fp Non w0.drew W) => boxP2 (KK0.out.later f).now.2.1)
  have HCN := zI (fun W (f : Fp Non w0.drew W) => HCN0.out W (KK0.out.now.1.then f))
  have HCT := zI (fun W (f : Fp Non w0.drew W) => HCT0.out W (KK0.out.now.1.then f))
  have ST0 := zI (Bst.start w0.drew)
  go_wp2_with fail
  refine wp_region_held_drew (S := (fun w' => w'.cell? ⟨w.heap.size, 0, none⟩ = some (.slice an n cn) ∧ w'.cell? ⟨w.heap.size, 1, none⟩ = some (.slice at_ m ct))) (by kernel_rfl) ?_ (fun hH => ?_)
  ·exact Hq.out _ (Fp.refl _ _)
  have HSZ : Hid (w0.heap.size = w0.drew.heap.size) := rfl
  generalize w0.drew = u0 at *
  refine tk 0 hH ?_
  refine tk 1 hH ?_
  refine tk 3 hH ?_
  refine tk 4 hH ?_
  refine wpAnyH_ready (rs := [2, 7]) (by kernel_rfl) (by simp) ?_
  refine (AllReadyH.cons (o := ?_) (by simp only [zA, zB, zC] <;> exact rfl) (fun K hK => ?_) (AllReadyH.cons (o := ?_) (by simp only [zA, zB, zC] <;> exact rfl) (fun K hK => ?_) AllReadyH.nil))
  ·go_simp
   go_at_call 55
   refine (HCN.out u0 ST0.out.f).mono ?_
   rintro e u1 ⟨v1, rfl, hR⟩
   have ST1 := zI (ST0.out.cloneN hR)
   obtain ⟨a1, c1, hsh⟩ := ST1.out.n.ns.shape
   rw [← HNL.out] at hsh
   subst hsh
   clear hR
   go_wp2_with fail
   refine hK.out _ _ (Hq.out _ ST1.out.f) (fun hH => ?_)
   clear hK K
   try simp only [zz]
   refine wpAnyH_ready (rs := [5, 7]) (by kernel_rfl) (by simp) ?_
   refine (AllReadyH.cons (o := ?_) (by simp only [zA, zB, zC] <;> exact rfl) (fun K hK => ?_) (AllReadyH.cons (o := ?_) (by simp only [zA, zB, zC] <;> exact rfl) (fun K hK => ?_) AllReadyH.nil))
   ·go_simp
    go_at_call 56
    refine (HCT.out u1 ST1.out.f).mono ?_
    rintro e u2 ⟨v2, rfl, hR⟩
    have ST2 := zI (ST1.out.cloneT hR)
    obtain ⟨a2, c2, hsh⟩ := ST2.out.t.ns.shape
    rw [← HML.out] at hsh
    subst hsh
    clear hR
    go_wp2_with fail
    refine hK.out _ _ (Hq.out _ ST2.out.f) (fun hH => ?_)
    clear hK K
    try simp only [zz]
    refine tk 6 hH ?_
    refine rY 7 fun K hK => ?_
    go_simp
    have ST3 := zI ST2.out.box
    refine hK.out _ _ (Hq.out _ ST3.out.f) (fun hH => ?_)
    clear hK K
    try simp only [zz]
    obtain ⟨b6, hb6⟩ : ∃ q, u2.heap.size = q := ⟨_, rfl⟩
    rw [hb6] at ST3 ⊢
    clear hb6
    generalize (u2.alloc (.cells #[.slice none 0 0, .slice none 0 0] TST)) = u3 at *
    obtain ⟨y0, y1⟩ := boxP2 (ST3.out.x rfl).2
    have z0 := frozen_at (ST3.out.x rfl).2 0; have z1 := frozen_at (ST3.out.x rfl).2 1
    have HPT := zI ST3.out.put2
    refine rY 8 fun K hK => ?_
    go_simp
    refine hK.out _ _ (Hq.out _ HPT.out.1) (fun hH => ?_)
    clear hK K y0 y1 z0 z1
    try simp only [zz]
    refine rY 9 fun K hK => ?_
    go_simp
    refine hK.out _ _ (Hq.out _ HPT.out.1) (fun hH => ?_)
    clear hK K
    try simp only [zz]
    refine dn ?_
    go_wp2_with fail
    go_meet
    case rel => exact ⟨b6, _, _, _, _, rfl, rfl, by rw [HSZ.out]; exact (ST3.out.x rfl).1, KK0.out.later HPT.out.1 |>.and (Kp.and (Kp.row HPT.out.2.1) (Kp.and (Kp.ow (by rw [HSZ.out]; exact HPT.out.2.2.1)) (Kp.owT (by rw [HSZ.out]; exact HPT.out.2.2.2))))⟩
   go_simp
   have ST4 := zI ST1.out.box
   refine hK.out _ _ (Hq.out _ ST4.out.f) (fun hH => ?_)
   clear hK K
   try simp only [zz]
   obtain ⟨b6, hb6⟩ : ∃ q, u1.heap.size = q := ⟨_, rfl⟩
   rw [hb6] at ST4 ⊢
   clear hb6
   generalize (u1.alloc (.cells #[.slice none 0 0, .slice none 0 0] TST)) = u4 at *
   refine rY 5 fun K hK => ?_
   go_simp
   go_at_call 56
   refine (HCT.out u4 ST4.out.f).mono ?_
   rintro e u5 ⟨v5, rfl, hR⟩
   have ST5 := zI (ST4.out.cloneT hR)
   obtain ⟨a5, c5, hsh⟩ := ST5.out.t.ns.shape
   rw [← HML.out] at hsh
   subst hsh
   clear hR
   go_wp2_with fail
   refine hK.out _ _ (Hq.out _ ST5.out.f) (fun hH => ?_)
   clear hK K
   try simp only [zz]
   refine tk 6 hH ?_
   obtain ⟨y0, y1⟩ := boxP2 (ST5.out.x rfl).2
   have z0 := frozen_at (ST5.out.x rfl).2 0; have z1 := frozen_at (ST5.out.x rfl).2 1
   have HPT := zI ST5.out.put2
   refine rY 8 fun K hK => ?_
   go_simp
   refine hK.out _ _ (Hq.out _ HPT.out.1) (fun hH => ?_)
   clear hK K y0 y1 z0 z1
   try simp only [zz]
   refine rY 9 fun K hK => ?_
   go_simp
   refine hK.out _ _ (Hq.out _ HPT.out.1) (fun hH => ?_)
   clear hK K
   try simp only [zz]
   refine dn ?_
   go_wp2_with fail
   go_meet
   case rel => exact ⟨b6, _, _, _, _, rfl, rfl, by rw [HSZ.out]; exact (ST5.out.x rfl).1, KK0.out.later HPT.out.1 |>.and (Kp.and (Kp.row HPT.out.2.1) (Kp.and (Kp.ow (by rw [HSZ.out]; exact HPT.out.2.2.1)) (Kp.owT (by rw [HSZ.out]; exact HPT.out.2.2.2))))⟩
  go_simp
  have ST6 := zI ST0.out.box
  refine hK.out _ _ (Hq.out _ ST6.out.f) (fun hH => ?_)
  clear hK K
  try simp only [zz]
  obtain ⟨b6, hb6⟩ : ∃ q, u0.heap.size = q := ⟨_, rfl⟩
  rw [hb6] at ST6 ⊢
  clear hb6
  generalize (u0.alloc (.cells #[.slice none 0 0, .slice none 0 0] TST)) = u6 at *
  refine rY 2 fun K hK => ?_
  go_simp
  go_at_call 55
  refine (HCN.out u6 ST6.out.f).mono ?_
  rintro e u7 ⟨v7, rfl, hR⟩
  have ST7 := zI (ST6.out.cloneN hR)
  obtain ⟨a7, c7, hsh⟩ := ST7.out.n.ns.shape
  rw [← HNL.out] at hsh
  subst hsh
  clear hR
  go_wp2_with fail
  refine hK.out _ _ (Hq.out _ ST7.out.f) (fun hH => ?_)
  clear hK K
  try simp only [zz]
  refine rY 5 fun K hK => ?_
  go_simp
  go_at_call 56
  refine (HCT.out u7 ST7.out.f).mono ?_
  rintro e u8 ⟨v8, rfl, hR⟩
  have ST8 := zI (ST7.out.cloneT hR)
  obtain ⟨a8, c8, hsh⟩ := ST8.out.t.ns.shape
  rw [← HML.out] at hsh
  subst hsh
  clear hR
  go_wp2_with fail
  refine hK.out _ _ (Hq.out _ ST8.out.f) (fun hH => ?_)
  clear hK K
  try simp only [zz]
  refine tk 6 hH ?_
  obtain ⟨y0, y1⟩ := boxP2 (ST8.out.x rfl).2
  have z0 := frozen_at (ST8.out.x rfl).2 0; have z1 := frozen_at (ST8.out.x rfl).2 1
  have HPT := zI ST8.out.put2
  refine rY 8 fun K hK => ?_
  go_simp
  refine hK.out _ _ (Hq.out _ HPT.out.1) (fun hH => ?_)
  clear hK K y0 y1 z0 z1
  try simp only [zz]
  refine rY 9 fun K hK => ?_
  go_simp
  refine hK.out _ _ (Hq.out _ HPT.out.1) (fun hH => ?_)
  clear hK K
  try simp only [zz]
  refine dn ?_
  go_wp2_with fail
  go_meet
  case rel => exact ⟨b6, _, _, _, _, rfl, rfl, by rw [HSZ.out]; exact (ST8.out.x rfl).1, KK0.out.later HPT.out.1 |>.and (Kp.and (Kp.row HPT.out.2.1) (Kp.and (Kp.ow (by rw [HSZ.out]; exact HPT.out.2.2.1)) (Kp.owT (by rw [HSZ.out]; exact HPT.out.2.2.2))))⟩
 obtain ⟨b6, an6, cn6, at6, ct6, rfl, rfl, HC⟩ := hcut
 have hlow : w.heap.size + 1 < w0.heap.size := (Array.getElem?_eq_some_iff.1 K0.out.now.2.2).1
 have fb := fp_alloc wc (.cells #[.int .i64 0, .string ⟨#[]⟩, .string ⟨#[]⟩, .int .i64 0, .slice none 0 0] TR)
 have rb := heap_alloc_new wc (.cells #[.int .i64 0, .string ⟨#[]⟩, .string ⟨#[]⟩, .int .i64 0, .slice none 0 0] TR)
 have hcs : b6 < wc.heap.size := (Array.getElem?_eq_some_iff.1 HC.out.2.now.2.1).1
 have hl8 : w.heap.size + 1 < b6 := Nat.lt_of_lt_of_le hlow HC.out.1
 have HLOW : Hid (w.heap.size + 1 < b6 ∧ w.heap.size + 1 < wc.heap.size) := ⟨hl8, Nat.lt_trans hl8 hcs⟩
 have hk := (HC.out.2.later fb).now
 have H0 : Hid (AlL s (l.map Prod.snd) w #[.slice an n cn, .slice at_ m ct] b6 wc.heap.size 0 (.slice none 0 0) (wc.alloc (.cells #[.int .i64 0, .string ⟨#[]⟩, .string ⟨#[]⟩, .int .i64 0, .slice none 0 0] TR))) :=
  ⟨⟨s, [], _, _, .zero, hk.2.1, hk.2.2.1.lower (Nat.le_of_lt (Nat.lt_of_succ_lt hlow)), hk.2.2.2.lower (Nat.le_of_lt (Nat.lt_of_succ_lt hlow)), Ors.nil _ _⟩, ⟨_, _, _, _, _, rb⟩, hk.1.1, hk.1.2.1, hk.1.2.2, fun j hj => by simp [Value.ownBlock] at hj⟩
 have hzb : z ≤ 3900 := by rw [HZ.out]; have := HV.out.2.2.2.2.2.1; omega
 clear K0 HCN0 HCT0 hlow fb rb hcs hl8 hk HC
 go_wp2_with fail
 generalize wc.heap.size = b10 at *
 generalize (World.alloc wc _) = w3 at *
 go_loopw [11, 21] (fun vr i wr => ∃ k : Nat, k ≤ z ∧ i = .int .i64 k ∧ Hid (AlL s (l.map Prod.snd) w #[.slice an n cn, .slice at_ m ct] b6 b10 k vr wr)) (fun _ i _ => z - (RowKit.intOf i).toNat)
 case atStart => exact ⟨0, Nat.zero_le _, rfl, H0⟩
 clear H0
 obtain ⟨k, hk, rfl, hR⟩ := hrel
 rename_i wr _
 obtain ⟨now, rs, vn8, vt8, hrun, hb8, hon, hot, hors⟩ := hR.out.ex
 obtain ⟨x0, x1, x2, x3, x4, hbx⟩ := hR.out.rb
 obtain ⟨an8, cn8, rfl⟩ := hon.ns.shape
 obtain ⟨at8, ct8, rfl⟩ := hot.ns.shape
 obtain ⟨ar, cr, rfl⟩ := hors.shape
 obtain ⟨n8, hn8⟩ : ∃ q, q = now.nodes.length := ⟨_, rfl⟩
 obtain ⟨m8, hm8⟩ : ∃ q, q = now.turns.length := ⟨_, rfl⟩
 obtain ⟨nr, hnr⟩ : ∃ q, q = rs.length := ⟨_, rfl⟩
 rw [← hn8] at hb8 hon
 rw [← hm8] at hb8 hot
 rw [← hnr] at hors hR ⊢
 by_cases hlt : k < z
 ·have hkl : k < l.length := by rw [← HZ.out]; exact hlt
  have hkp : k < (l.map Prod.snd).length := by rw [List.length_map]; exact hkl
  obtain ⟨g, og, cap', e9, hcell⟩ := (HV.out.2.2.1.non hR.out.fp).at (by rw [← HZ.out]; omega)
  injection e9 with e1 e2 e3
  subst e1 e3
  clear e2
  have hel := hcell k hkl
  have hpl := HV.out.2.2.2.1 _ (List.getElem_mem hkl)
  have hfew := hrun.fews HV.out.2.1
  have hlk : (l.map Prod.snd)[k] = l[k].2 := List.getElem_map ..
  obtain ⟨q, hq⟩ : ∃ q, l[k] = q := ⟨_, rfl⟩
  rw [hq] at hel hpl hlk
  obtain ⟨qi, yk, yd, yp, ya, yv, yo, yt⟩ := q
  have d1 := hel.get 1 _ rfl
  have d2 := hel.get 2 _ rfl
  have d3 := hel.get 3 _ rfl
  have d4 := hel.get 4 _ rfl
  have d5 := hel.get 5 _ rfl
  have d6 := hel.get 6 _ rfl
  have d7 := hel.get 7 _ rfl
  unfold strV at d2 d3 d4
  simp only at d1 d2 d3 d4 d5 d6 d7 hpl hlk
  have hdo := fun W (f : Fp Non wr W) => Do_c (.agg #[.slice an8 n8 cn8, .slice at8 m8 ct8]) now ⟨yk, yd, yp, ya, yv, yo, yt⟩ W ⟨_, _, rfl, hon.ns.non f, hot.ns.non f⟩ (StR.few hfew.1).2 (StR.few hfew.1).1 (by have := HV.out.2.2.2.2.2.1; omega) (by have := HV.out.2.2.2.2.2.2; omega) hpl (HV.out.2.2.2.2.1.non (hR.out.fp.then f))
  have hsucc : ∀ x r, applyP now ⟨yk, yd, yp, ya, yv, yo, yt⟩ = (x, r) → r.err = 0 → Runs s (l.map Prod.snd) (k + 1) x (rs ++ [r]) := fun x r h h0 => .succ hrun hkp (by rw [hlk]; exact h) h0
  have hfail : ∀ er, (applyP now ⟨yk, yd, yp, ya, yv, yo, yt⟩).2.err = er → er ≠ 0 → ∃ now rs, Runs s (l.map Prod.snd) k now rs ∧ ∃ h : k < (l.map Prod.snd).length, (applyP now (l.map Prod.snd)[k]).2.err = er ∧ er ≠ 0 := fun er h h0 => ⟨now, rs, hrun, hkp, by rw [hlk]; exact h, h0⟩
  have hrl : rs.length ≤ 4000 := by have := hrun.len; have := HV.out.2.2.2.2.2.1; omega
  have hgl : g < w.heap.size := by
   obtain ⟨g2, og2, cap2, e9, hc2⟩ := HV.out.2.2.1.at (by rw [← HZ.out]; omega)
   injection e9 with e1 e2 e3
   injection e1 with e1
   injection e1 with e1 _ _
   subst e1
   have h0 := (hc2 k hkl).get 0 _ rfl
   exact World.block_lt_of_cell? w _ h0
  obtain ⟨nx, hnx⟩ : ∃ nx, (applyP now ⟨yk, yd, yp, ya, yv, yo, yt⟩).1 = nx := ⟨_, rfl⟩
  obtain ⟨rq, hrq⟩ : ∃ rq, (applyP now ⟨yk, yd, yp, ya, yv, yo, yt⟩).2 = rq := ⟨_, rfl⟩
  have hs1 := hsucc nx rq (Prod.ext hnx hrq)
  have hs2 := hfail rq.err (by rw [hrq])
  rw [hnx, hrq] at hdo
  have HDO := zI hdo
  have HS := zI (yI hs1 (yI hs2 (yI hrl hgl)))
  have HF := zI (yI hR.out.fp (yI hR.out.sb (yI hR.out.zb (yI hb8 (yI hbx (yI hors hR.out.ne))))))
  have HL := zI hlt
  have HX := zI (show Fp Non wr wr from Fp.refl _ _)
  have q3 : ((k : Int) < (z : Int)) = True := eq_true (by omega)
  have q4 : (k < z) = True := eq_true hlt
  have HD7 := zI (yI d1 (yI d2 (yI d3 (yI d4 (yI d5 (yI d6 d7))))))
  obtain ⟨y0, y1⟩ := boxP2 hb8
  clear hcell hel hpl hfew hlk hq hdo hsucc hfail hrl hgl hnx hrq hs1 hs2 hb8 hbx hors hon hot hrun hlt hkl hkp hR hn8 hm8 hnr d1 d2 d3 d4 d5 d6 d7
  clear HX
  have Hq := zI (fun (W : World) (T : Nat → Prop) (f : Fp T wr W) (hT : ¬ T g) => yI (f.cell HD7.out.1 hT) (yI (f.cell HD7.out.2.1 hT) (yI (f.cell HD7.out.2.2.1 hT) (yI (f.cell HD7.out.2.2.2.1 hT) (yI (f.cell HD7.out.2.2.2.2.1 hT) (yI (f.cell HD7.out.2.2.2.2.2.1 hT) (f.cell HD7.out.2.2.2.2.2.2 hT)))))))
  go_upto_region 7 with (fail)
  have HWD := zI (Fp.refl Non wr).drew
  refine wp_region_held_drew (S := (fun w' => w'.cell? ⟨g, og + k * 8 + 1, none⟩ = some (.int .i64 yk) ∧ w'.cell? ⟨g, og + k * 8 + 2, none⟩ = some (.string (B yd)) ∧ w'.cell? ⟨g, og + k * 8 + 3, none⟩ = some (.string (B yp)) ∧ w'.cell? ⟨g, og + k * 8 + 4, none⟩ = some (.string (B ya)) ∧ w'.cell? ⟨g, og + k * 8 + 5, none⟩ = some (.int .i64 yv) ∧ w'.cell? ⟨g, og + k * 8 + 6, none⟩ = some (.int .i64 yo) ∧ w'.cell? ⟨g, og + k * 8 + 7, none⟩ = some (.bool yt))) (by kernel_rfl) ?_ (fun hH => ?_)
  ·exact Hq.out _ _ HWD.out id
  clear y0 y1
  have HB8 := zI (HWD.out.heap HF.out.2.2.2.1 id)
  obtain ⟨y0, y1⟩ := boxP2 HB8.out
  generalize wr.drew = wd at *
  refine tk 1 hH ?_
  refine tk 2 hH ?_
  refine tk 3 hH ?_
  refine tk 4 hH ?_
  refine tk 5 hH ?_
  refine rY 0 fun K hK => ?_
  go_simp
  refine hK.out _ _ (Hq.out _ _ HWD.out id) (fun hH => ?_)
  clear hK K y0 y1
  try simp only [zz]
  refine rY 6 fun K hK => ?_
  go_simp
  go_at_call 17
  refine (HDO.out _ HWD.out).mono ?_
  rintro e w5 hD
  obtain ⟨vn9, vt9, nv, rfl, hsd, hno, hmine⟩ := hD.both
  have HF5 := zI hD.fp
  have HM := zI (AlM.of (HWD.out.heap HF.out.2.2.2.1 id) (HWD.out.heap HF.out.2.2.2.2.1 id) (HF.out.1.then HWD.out) (HWD.out.heap HF.out.2.1 id) (HWD.out.heap HF.out.2.2.1 id) (HF.out.2.2.2.2.2.1.non HWD.out) HF.out.2.2.2.2.2.2 HLOW.out.1 HLOW.out.2 hD.fp hno hmine)
  have HB8 := zI (hD.fp.heap (HWD.out.heap HF.out.2.2.2.1 id) id)
  have HB10 := zI (hD.fp.heap (HWD.out.heap HF.out.2.2.2.2.1 id) id)
  obtain ⟨vn', vt', e9, h1, h2⟩ := hsd.ex
  injection e9 with e9
  injection e9 with e9
  injection e9 with e1 e9
  injection e9 with e2 _
  subst e1 e2
  obtain ⟨an9, cn9, rfl⟩ := h1.shape
  obtain ⟨at9, ct9, rfl⟩ := h2.shape
  obtain ⟨na9, nc9, rfl⟩ := hno.shape
  clear hD hsd hno hmine h1 h2
  unfold strV at HM ⊢
  go_wp2_with fail
  refine hK.out _ _ (Hq.out _ _ (HWD.out.then HF5.out) id) (fun hH => ?_)
  clear hK K
  try simp only [zz]
  refine tk 7 hH ?_
  refine tk 8 hH ?_
  refine tk 9 hH ?_
  have hga : g ≠ b6 ∧ g ≠ b10 := by have := HS.out.2.2.2; have := HLOW.out; exact ⟨by omega, by omega⟩
  have hf8 := two_f b6 (.slice an9 nx.nodes.length cn9) (.slice at9 nx.turns.length ct9) w5
  have HS8 := zI (Hq.out _ (fun j => j = b6) ((HWD.out.then HF5.out).then_any hf8) hga.1)
  have y10 := hf8.heap HB10.out (fun e => typ_ne HB8.out HB10.out (by decide) e.symm)
  have HY10 := zI y10
  have HS9 := zI (Hq.out _ (fun j => j = b6 ∨ j = b10) ((((HWD.out.then HF5.out).then_any hf8).mono (fun _ h => .inl h)).same ((fp5k y10 (.int .i64 rq.err) (.string (B rq.path)) (.string (B rq.data)) (.int .i64 rq.ver) (.slice na9 rq.names.length nc9)).mono (fun _ h => .inr h))) (fun h => h.elim hga.1 hga.2))
  obtain ⟨y0, y1⟩ := boxP2 HB8.out
  have z0 := frozen_at HB8.out 0; have z1 := frozen_at HB8.out 1
  clear y10 hf8 hga
  refine rY 10 fun K hK => ?_
  go_simp
  refine hK.out _ _ HS8.out (fun hH => ?_)
  clear hK K y0 y1 z0 z1
  try simp only [zz]
  obtain ⟨r0, r1, r2, r3, r4⟩ := box5 HY10.out
  have z0 := frozen_at HY10.out 0; have z1 := frozen_at HY10.out 1; have z2 := frozen_at HY10.out 2; have z3 := frozen_at HY10.out 3; have z4 := frozen_at HY10.out 4
  refine rY 11 fun K hK => ?_
  go_simp
  refine hK.out _ _ HS9.out (fun hH => ?_)
  clear hK K r0 r1 r2 r3 r4 z0 z1 z2 z3 z4 hH
  try simp only [zz]
  refine dn ?_
  clear HY10 HS8 HS9 HB8 HB10
  go_upto_region 8 with (fail)
  unfold Five Two at HM
  generalize (((((((World.setCell w5 _ _).setCell _ _).setCell _ _).setCell _ _).setCell _ _).setCell _ _).setCell _ _) = w6 at *
  obtain ⟨re, rp, rd, rv, rn⟩ := rq
  simp only at HM HS ⊢
  obtain ⟨b0, b1, b2, b3, b4⟩ := box5 HM.out.r10
  unfold strV at b1 b2
  simp only at b0 b1 b2 b3 b4
  by_cases hre : re = 0
  ·have e1 : (re != 0) = false := by simp [hre]
   have e2 : (re == 0) = true := beq_iff_eq.2 hre
   have e3 : (re = 0) = True := eq_true hre
   have HRE := zI hre
   have hap9 := app_res w6 w.heap.size (.slice ar nr cr) rs ⟨re, rp, rd, rv, rn⟩ na9 nc9 TRL HM.out.ors (by have := HS.out.2.2.1; omega) HM.out.fp.size HM.out.own
   unfold strV at hap9
   simp only at hap9
   have HAP9 := zI hap9
   clear hap9 hre
   go_wp2_with (at_builtin; go_must (refine wpList_app rfl _ _ _ _ rfl _ _ rfl rfl _ HAP9.out ?_))
   intro v7 w7 hc
   have hM : Hid (AlL s (l.map Prod.snd) w #[.slice an n cn, .slice at_ m ct] b6 b10 (k + 1) v7 w7) := AlL.next HM.out HRE.out (HS.out.1 HRE.out) hc
   clear hc b0 b1 b2 b3 b4
   have hj1 := HL.out
   go_wp2
   go_roundw
   case rel => exact ⟨k + 1, by have := HL.out; omega, by have := HL.out; go_num, hM⟩
   case measure => have := HL.out; simp [RowKit.intOf]; omega
  have e1 : (re != 0) = true := by simpa using hre
  have e2 : (re == 0) = false := beq_eq_false_iff_ne.2 hre
  have e3 : (re = 0) = False := eq_false hre
  have HEX := zI (HS.out.2.1 hre)
  clear hre
  go_wp2_with fail
  go_step3
  exact ⟨rfl, k, b10, re, _, _, _, _, _, _, _, _, _, _, _, _, _, _, _, _, _, _, _, _, _, _, _, _, _, _, _, _, _, _, _, _, _, _, _, _, _, _, _, _, _, _, _, _, _, _, rfl, HEX.out, HM.out.fp, HM.out.sb, HM.out.zb, HM.out.r10⟩
 have hke : k = z := by omega
 subst hke
 have q3 : ((k : Int) < (k : Int)) = False := eq_false (by omega)
 have hrun' : Runs s (l.map Prod.snd) (l.map Prod.snd).length now rs := by rw [List.length_map, ← HZ.out]; exact hrun
 have hfs := two_f (w.heap.size + 1) (.slice an8 n8 cn8) (.slice at8 m8 ct8) wr
 have hset := two_set hR.out.zb (.slice an8 n8 cn8) (.slice at8 m8 ct8)
 have H6 := zI (yI hrun' (yI hset (yI (hR.out.fp.trans hfs (fun j hj => .inr (by have hj : j = w.heap.size + 1 := hj; omega))) (yI (hon.keepT hR.out.zb (by decide) hfs) (yI (hot.keepT hR.out.zb (by decide) hfs) (hors.keepT hR.out.zb (by decide) (by decide) hfs))))))
 obtain ⟨d0, d1⟩ := boxP2 hR.out.zb
 obtain ⟨y0, y1⟩ := boxP2 hb8
 have z0 := frozen_at hR.out.zb 0; have z1 := frozen_at hR.out.zb 1
 clear hset hfs hrun hrun' hon hot hors hb8 hbx hlt hk hR hn8 hm8 hnr
 go_wp2_with fail
 clear d0 d1 z0 z1 y0 y1
 unfold Two at H6
 generalize ((World.setCell wr _ _).setCell _ _) = wz at *
 obtain ⟨t0, t1⟩ := boxP2 H6.out.2.1
 simp only [Exit.jump]
 refine bodyPost_ret (v := .tuple #[.agg #[.slice an8 n8 cn8, .slice at8 m8 ct8], .slice ar nr cr, .int .i64 0, .int .i64 0]) (by simp [results, Tryz.results49, go_sem, t0, t1]) rfl ?_
 exact ⟨.inl ⟨now, rs, _, _, H6.out.1, rfl, ⟨_, _, rfl, H6.out.2.2.2.1.ns, H6.out.2.2.2.2.1.ns⟩, H6.out.2.2.2.2.2.rrs⟩, H6.out.2.2.1⟩
end Go.Proofs.YtphoglepiegeiaaGreatDoor
namespace Go.Proofs.YtphoglepiegeiaaGreatDoor
set_option maxRecDepth 20000
open Go.RowKit Pm
set_option maxHeartbeats 1000000 in
theorem New_c (w : World) : Calls Tryz.prog 81 #[] w fun e w' => (∃ v, e = .returned v ∧ Ns w' v hd0) ∧ Fp Non w w' := by
 go_enter Tryz.func81, Tryz.ntmps81
 go_wp2_with fail
 go_ret
 refine ⟨⟨_, rfl, ?_⟩, ?_⟩
 ·exact (Nr.ns (l := hd0) (g := w.heap.size) (cap := 1) ⟨⟨[], heap_alloc_new w _, rfl⟩, Nat.le_refl _, by unfold maxLen; omega⟩)
 exact (Fp.refl Non w).alloc _
theorem mAp_ok {t : List Nd} {v : Value} {l : List Opn} {w : World} {e : Ending} {w' : World} (h : MApR t v l w e w') (hr : right t = true) (hm : mayL l = true) {a : List Nd} {rs : List Res} (g : RunO t l l.length a rs) :
  ∃ v' rv, e = .returned (.tuple #[v', .agg #[.int .i64 0, .int .i64 0, rv]]) ∧ Ns w' v' a ∧ Rrs w' rv rs := by
 rcases h.way with ⟨hn, _⟩ | ⟨_, _, now, q, v', rv, g', he, h1, h2⟩ | ⟨_, _, i, now, q, g', hi, h0, _⟩
 ·exact absurd ⟨hr, hm⟩ hn
 ·obtain ⟨rfl, rfl⟩ := g.det g'
  exact ⟨v', rv, he, h1, h2⟩
 obtain ⟨now', x, rs', q', g2, hj, _, ha, h0', _⟩ := g.back hi
 obtain ⟨rfl, rfl⟩ := g'.det g2
 rw [ha] at h0; exact absurd h0' h0
theorem mAp_err {t : List Nd} {v : Value} {l : List Opn} {w : World} {e : Ending} {w' : World} (h : MApR t v l w e w') (hr : right t = true) (hm : mayL l = true) {i : Nat} {now : List Nd} {rs : List Res} (g : RunO t l i now rs) (hi : i < l.length) (h0 : (apply now l[i]).2.err ≠ 0) :
  e = .returned (.tuple #[v, .agg #[.int .i64 (apply now l[i]).2.err, .int .i64 i, .slice none 0 0]]) := by
 rcases h.way with ⟨hn, _⟩ | ⟨_, _, now', q, v', rv, g', he, h1, h2⟩ | ⟨_, _, j, now', q, g', hj, h0', he⟩
 ·exact absurd ⟨hr, hm⟩ hn
 ·obtain ⟨now', x, rs', q', g2, hj, _, ha, h0', _⟩ := g'.back hi
  obtain ⟨rfl, rfl⟩ := g.det g2
  rw [ha] at h0; exact absurd h0' h0
 have hij : i = j := by
  rcases Nat.lt_trichotomy i j with hlt | heq | hlt
  ·obtain ⟨now', x, rs', q', g2, hj, _, ha, h0', _⟩ := g'.back hlt
   obtain ⟨rfl, rfl⟩ := g.det g2
   rw [ha] at h0; exact absurd h0' h0
  ·exact heq
  obtain ⟨now', x, rs', q', g2, hj, _, ha, h0'', _⟩ := g.back hlt
  obtain ⟨rfl, rfl⟩ := g'.det g2
  rw [ha] at h0'; exact absurd h0'' h0'
 subst hij
 obtain ⟨rfl, rfl⟩ := g.det g'
 exact he
theorem Rrs.shape {w : World} {v : Value} {rs : List Res} (h : Rrs w v rs) : ∃ a c, v = .slice a rs.length c := by
 obtain ⟨L, h1, h2, _⟩ := h.ex
 obtain ⟨a, c, e⟩ := h2.shape
 rw [← h1, List.length_map]; exact ⟨a, c, e⟩
theorem mAl_ok {s : St} {v : Value} {ps : List Pt} {w : World} {e : Ending} {w' : World} (h : MAlR s v ps w e w') {a : St} {rs : List Res} (g : Runs s ps ps.length a rs) :
  ∃ v' rv, e = .returned (.tuple #[v', rv, .int .i64 0, .int .i64 0]) ∧ Sto w' v' a ∧ Rrs w' rv rs := by
 rcases h.way with ⟨now, q, v', rv, g', he, h1, h2⟩ | ⟨i, now, q, g', hi, h0, _⟩
 ·obtain ⟨rfl, rfl⟩ := g.det g'
  exact ⟨v', rv, he, h1, h2⟩
 obtain ⟨now', rs', g2, hj, h0'⟩ := g.back hi
 obtain ⟨rfl, rfl⟩ := g'.det g2
 exact absurd h0' h0
def opC (o : Opn) : List Value := [.int .i64 o.kind, strV o.path, strV o.data, .int .i64 o.ver, .int .i64 o.own, .bool o.turns]
theorem opC_len (o : Opn) : (opC o).length = 6 := rfl
theorem Ops.made (w : World) (l : List Opn) : Ops (w.alloc (.cells (rowsG opC l).toArray TO_)) (.slice (some ⟨w.heap.size, 0, none⟩) l.length l.length) l := by
 have hb := heap_alloc_new w (.cells (rowsG opC l).toArray TO_)
 have hg : ∀ i (h : i < l.length) j u, (opC l[i])[j]? = some u → (w.alloc (.cells (rowsG opC l).toArray TO_)).cell? ⟨w.heap.size, 0 + i * 6 + j, none⟩ = some u := fun i hi j u hu => by
  have hj : j < 6 := by rw [← opC_len l[i]]; exact (List.getElem?_eq_some_iff.1 hu).1
  rw [cell_of_row _ _ _ _ _ _ hb, Nat.zero_add]
  have := rowsG_get (enc := opC) opC_len l i j hi hj
  simpa [this] using hu
 refine ⟨_, _, rfl, .inr ⟨_, _, rfl, fun i hi => ⟨?_, ?_, ?_, ?_, ?_, ?_⟩⟩⟩
 ·exact hg i hi 0 _ rfl
 ·exact hg i hi 1 _ rfl
 ·exact hg i hi 2 _ rfl
 ·exact hg i hi 3 _ rfl
 ·exact hg i hi 4 _ rfl
 exact hg i hi 5 _ rfl
def hmoA : Opn := ⟨1, [47, 97], [], 0, 0, false⟩
def hmoB : Opn := ⟨1, [47, 97, 47, 98], [], 0, 0, false⟩
def hmA : List Nd := [⟨[47], [], 0, 0, 0⟩, ⟨[47, 97], [], 0, 0, 0⟩]
def hmB : List Nd := [⟨[47], [], 0, 0, 0⟩, ⟨[47, 97], [], 0, 0, 0⟩, ⟨[47, 97, 47, 98], [], 0, 0, 0⟩]
theorem hm_a1 : apply hd0 hmoA = (hmA, ⟨0, [47, 97], [], 0, []⟩) := by rw [apply_yes hd0_tr (by decide)]; decide
theorem hmA_tr : Tr hmA := by
 have := perform_tr hd0_tr (o := hmoA) (by decide)
 rw [← apply_yes hd0_tr (by decide), hm_a1] at this; exact this
theorem hm_a2 : apply hmA hmoB = (hmB, ⟨0, [47, 97, 47, 98], [], 0, []⟩) := by rw [apply_yes hmA_tr (by decide)]; decide
theorem hmB_tr : Tr hmB := by
 have := perform_tr hmA_tr (o := hmoB) (by decide)
 rw [← apply_yes hmA_tr (by decide), hm_a2] at this; exact this
theorem hm_a3 : apply hmB hmoA = (hmB, .bad 61) := by rw [apply_yes hmB_tr (by decide)]; decide
theorem hm_run2 : RunO hd0 [hmoA, hmoB] 2 hmB [⟨0, [47, 97], [], 0, []⟩, ⟨0, [47, 97, 47, 98], [], 0, []⟩] :=
 .succ (rs := [⟨0, [47, 97], [], 0, []⟩]) (.succ (rs := []) .zero (by decide) hm_a1 rfl) (by decide) hm_a2 rfl
theorem hm_run3 : RunO hd0 [hmoA, hmoB, hmoA] 2 hmB [⟨0, [47, 97], [], 0, []⟩, ⟨0, [47, 97, 47, 98], [], 0, []⟩] :=
 .succ (rs := [⟨0, [47, 97], [], 0, []⟩]) (.succ (rs := []) .zero (by decide) hm_a1 rfl) (by decide) hm_a2 rfl
theorem hm_all : ∃ q, Runs (keep hd0) (partsL [hmoA, hmoB]) (partsL [hmoA, hmoB]).length (keep hmB) q :=
 pieces_all hd0_tr (by decide) (by decide) hm_run2
theorem hm_osp : OSp [hmoA, hmoB, hmoA] := by unfold OSp; decide
theorem hm_osp2 : OSp [hmoA, hmoB] := by unfold OSp; decide
theorem hm1 (v : Value) (w : World) (hv : Ns w v hd0) (ht : Tab w) : Calls Tryz.prog 40 #[v, .slice (some ⟨w.heap.size, 0, none⟩) 2 2] (w.alloc (.cells #[.int .i64 1, .string ⟨#[47, 97]⟩, .string ⟨#[]⟩, .int .i64 0, .int .i64 0, .bool false, .int .i64 1, .string ⟨#[47, 97, 47, 98]⟩, .string ⟨#[]⟩, .int .i64 0, .int .i64 0, .bool false] TO_)) fun e w' => (∃ a c ra rc, e = .returned (.tuple #[.slice a 3 c, .agg #[.int .i64 0, .int .i64 0, .slice ra 2 rc]])) ∧ Fp Non w w' := by
 have hf := fp_alloc w (.cells (rowsG opC [hmoA, hmoB]).toArray TO_)
 refine (mApply_c v (.slice (some ⟨w.heap.size, 0, none⟩) 2 2) hd0 [hmoA, hmoB] (w.alloc (.cells (rowsG opC [hmoA, hmoB]).toArray TO_)) (hv.non hf) (by unfold Sp; decide) (Ops.made w _) hm_osp2 (by decide) (ht.non hf)).mono fun e w' h => ⟨?_, hf.then h.fp⟩
 obtain ⟨v', rv, rfl, h1, h2⟩ := mAp_ok h (right_true hd0_tr.tree) (by decide) hm_run2
 obtain ⟨a, c, rfl⟩ := h1.shape
 obtain ⟨ra, rc, rfl⟩ := h2.shape
 exact ⟨a, c, ra, rc, rfl⟩
theorem hm2 (v : Value) (w : World) (hv : Ns w v hd0) (ht : Tab w) : Calls Tryz.prog 40 #[v, .slice (some ⟨w.heap.size, 0, none⟩) 3 3] (w.alloc (.cells #[.int .i64 1, .string ⟨#[47, 97]⟩, .string ⟨#[]⟩, .int .i64 0, .int .i64 0, .bool false, .int .i64 1, .string ⟨#[47, 97, 47, 98]⟩, .string ⟨#[]⟩, .int .i64 0, .int .i64 0, .bool false, .int .i64 1, .string ⟨#[47, 97]⟩, .string ⟨#[]⟩, .int .i64 0, .int .i64 0, .bool false] TO_)) fun e w' => e = .returned (.tuple #[v, .agg #[.int .i64 61, .int .i64 2, .slice none 0 0]]) ∧ Fp Non w w' := by
 have hf := fp_alloc w (.cells (rowsG opC [hmoA, hmoB, hmoA]).toArray TO_)
 refine (mApply_c v (.slice (some ⟨w.heap.size, 0, none⟩) 3 3) hd0 [hmoA, hmoB, hmoA] (w.alloc (.cells (rowsG opC [hmoA, hmoB, hmoA]).toArray TO_)) (hv.non hf) (by unfold Sp; decide) (Ops.made w _) hm_osp (by decide) (ht.non hf)).mono fun e w' h => ⟨?_, hf.then h.fp⟩
 have := mAp_err h (right_true hd0_tr.tree) (by decide) hm_run3 (by decide) (by show (apply hmB hmoA).2.err ≠ 0; rw [hm_a3]; decide)
 rw [show [hmoA, hmoB, hmoA][2] = hmoA from rfl, hm_a3] at this
 exact this
theorem hm3 (w : World) : Calls Tryz.prog 46 #[.slice (some ⟨w.heap.size, 0, none⟩) 2 2] (w.alloc (.cells #[.int .i64 1, .string ⟨#[47, 97]⟩, .string ⟨#[]⟩, .int .i64 0, .int .i64 0, .bool false, .int .i64 1, .string ⟨#[47, 97, 47, 98]⟩, .string ⟨#[]⟩, .int .i64 0, .int .i64 0, .bool false] TO_)) fun e w' => (∃ g o c, e = .returned (.slice (some ⟨g, o, none⟩) 4 c) ∧ Pcs w' (.slice (some ⟨g, o, none⟩) 4 c) (piecesOf [hmoA, hmoB]) ∧ w'.cell? ⟨g, o + 2 * 8, none⟩ = some (.int .i64 1)) ∧ Fp Non w w' := by
 have hf := fp_alloc w (.cells (rowsG opC [hmoA, hmoB]).toArray TO_)
 refine (mOf_c (.slice (some ⟨w.heap.size, 0, none⟩) 2 2) [hmoA, hmoB] (w.alloc (.cells (rowsG opC [hmoA, hmoB]).toArray TO_)) (Ops.made w _) hm_osp2 (by decide)).mono fun e w' h => ⟨?_, hf.then h.2⟩
 obtain ⟨v', rfl, ho⟩ := h.1
 have hs := ho.sg pcC_len
 have hl : (piecesOf [hmoA, hmoB]).length = 4 := by decide
 obtain ⟨g, o, c, e, hc⟩ := hs.at (by omega)
 rw [hl] at e
 subst e
 refine ⟨g, o, c, rfl, hs, ?_⟩
 have := (hc 2 (by omega)).get 0 _ rfl
 rw [Nat.add_zero] at this
 rw [this]; rfl
theorem hm4 (v lv : Value) (w : World) (hv : Sto w v (keep hd0)) (hl : Pcs w lv (piecesOf [hmoA, hmoB])) (ht : Tab w) : Calls Tryz.prog 49 #[v, lv] w fun e w' => (∃ a0 a1 b0 b1 c0 c1 ra rc, e = .returned (.tuple #[.agg #[.slice a0 a1 b0, .slice b1 c0 c1], .slice ra 4 rc, .int .i64 0, .int .i64 0])) ∧ Fp Non w w' := by
 have hp : (piecesOf [hmoA, hmoB]).map Prod.snd = partsL [hmoA, hmoB] := by unfold piecesOf; rw [if_pos (by decide)]; exact pieces_snd _ _
 refine (mAll_c v lv (keep hd0) (piecesOf [hmoA, hmoB]) w hv hd0_tr.store (by decide) (by decide) hl (by decide) ht).mono fun e w' h => ⟨?_, h.fp⟩
 rw [hp] at h
 obtain ⟨q, hq⟩ := hm_all
 obtain ⟨v', rv, rfl, h1, h2⟩ := mAl_ok h hq
 have hlen : q.length = 4 := by rw [hq.len]; decide
 obtain ⟨L, k1, k2, _⟩ := h2.ex
 obtain ⟨ra, rc, rfl⟩ := k2.shape
 have : L.length = 4 := by rw [← hlen, ← k1, List.length_map]
 rw [this]
 obtain ⟨vn, vt, rfl, g1, g2⟩ := h1.ex
 obtain ⟨an, cn, rfl⟩ := g1.shape
 obtain ⟨at_, ct, rfl⟩ := g2.shape
 exact ⟨_, _, _, _, _, _, ra, rc, rfl⟩
theorem hm5 (w : World) : Calls Tryz.prog 42 #[.slice none 0 0] w fun e w' => e = .returned (.bool false) ∧ Fp Non w w' :=
 mMay_c (.slice none 0 0) [] w ⟨none, 0, rfl, .inl rfl⟩ (fun _ h => by cases h) (by decide)
theorem box6h {w : World} {b : Nat} {T : TypeId} {c0 c1 c2 c3 c4 c5 : Value} (h : w.heap[b]? = some (.cells #[c0, c1, c2, c3, c4, c5] T (0, 0))) :
  w.cell? ⟨b, 0, none⟩ = some c0 ∧ w.cell? ⟨b, 1, none⟩ = some c1 ∧ w.cell? ⟨b, 2, none⟩ = some c2 ∧ w.cell? ⟨b, 3, none⟩ = some c3 ∧ w.cell? ⟨b, 4, none⟩ = some c4 ∧ w.cell? ⟨b, 5, none⟩ = some c5 :=
 ⟨by rw [cell_of_row _ _ _ _ _ _ h]; rfl, by rw [cell_of_row _ _ _ _ _ _ h]; rfl, by rw [cell_of_row _ _ _ _ _ _ h]; rfl, by rw [cell_of_row _ _ _ _ _ _ h]; rfl, by rw [cell_of_row _ _ _ _ _ _ h]; rfl, by rw [cell_of_row _ _ _ _ _ _ h]; rfl⟩
set_option maxHeartbeats 16000000 in
theorem head8_c (w : World) (ht : Tab w) : Calls Tryz.prog 38 #[] w fun e w' => e = .returned (.bool true) ∧ Fp Non w w' := by
 go_enter Tryz.func38, Tryz.ntmps38
 go_wp2_with fail
 refine (New_c _).mono ?_
 rintro e w1 ⟨⟨v1, rfl, hl1⟩, hf1⟩
 obtain ⟨ao1, c1, e1⟩ := hl1.shape
 rw [show hd0.length = 1 from rfl] at e1
 subst e1
 have H1 := zI (Kp.and (Kp.ns hl1) (Kp.and (Kp.fp hf1) (Kp.tab (ht.non hf1))))
 have f0 := fp_alloc w1 (.cells #[.int .i64 1, .string ⟨#[47, 97]⟩, .string ⟨#[]⟩, .int .i64 0, .int .i64 0, .bool false] TO_)
 have f1 := fp_alloc (w1.alloc (.cells #[.int .i64 1, .string ⟨#[47, 97]⟩, .string ⟨#[]⟩, .int .i64 0, .int .i64 0, .bool false] TO_)) (.cells #[.int .i64 1, .string ⟨#[47, 97, 47, 98]⟩, .string ⟨#[]⟩, .int .i64 0, .int .i64 0, .bool false] TO_)
 have r0 := f1.heap (heap_alloc_new w1 (.cells #[.int .i64 1, .string ⟨#[47, 97]⟩, .string ⟨#[]⟩, .int .i64 0, .int .i64 0, .bool false] TO_)) id
 have r1 := heap_alloc_new (w1.alloc (.cells #[.int .i64 1, .string ⟨#[47, 97]⟩, .string ⟨#[]⟩, .int .i64 0, .int .i64 0, .bool false] TO_)) (.cells #[.int .i64 1, .string ⟨#[47, 97, 47, 98]⟩, .string ⟨#[]⟩, .int .i64 0, .int .i64 0, .bool false] TO_)
 rw [show (w1.alloc (.cells #[.int .i64 1, .string ⟨#[47, 97]⟩, .string ⟨#[]⟩, .int .i64 0, .int .i64 0, .bool false] TO_)).heap.size = w1.heap.size + 1 from by simp] at r1
 have K1 := zI ((H1.out.later (f0.then f1)).and (Kp.and (Kp.row r0) (Kp.row r1)))
 clear hl1 hf1 ht f0 f1 r0 r1
 go_upto_region 4 with (fail)
 generalize ((w1.alloc (.cells #[.int .i64 1, .string ⟨#[47, 97]⟩, .string ⟨#[]⟩, .int .i64 0, .int .i64 0, .bool false] TO_)).alloc (.cells #[.int .i64 1, .string ⟨#[47, 97, 47, 98]⟩, .string ⟨#[]⟩, .int .i64 0, .int .i64 0, .bool false] TO_)) = W1 at *
 generalize w1.heap.size = ba at *
 obtain ⟨bb, hbb⟩ : ∃ q, ba + 1 = q := ⟨_, rfl⟩
 rw [hbb] at K1 ⊢
 clear hbb H1
 obtain ⟨a0, a1, a2, a3, a4, a5⟩ := box6h K1.out.now.2.1
 obtain ⟨b0, b1, b2, b3, b4, b5⟩ := box6h K1.out.now.2.2
 go_wp2_with fail
 refine (hm1 _ W1 K1.out.now.1.1 K1.out.now.1.2.2).mono ?_
 rintro e w2 ⟨⟨x0, x1, x2, x3, rfl⟩, hf⟩
 have K2 := zI (K1.out.later hf)
 have f0 := fp_alloc w2 (.cells #[.int .i64 0, .int .i64 0, .slice x2 2 x3] TDN)
 have r0 := heap_alloc_new w2 (.cells #[.int .i64 0, .int .i64 0, .slice x2 2 x3] TDN)
 have K3 := zI ((K2.out.later f0).and (Kp.row r0))
 clear hf K1 K2 f0 r0 a0 a1 a2 a3 a4 a5 b0 b1 b2 b3 b4 b5
 go_upto_region 5 with (fail)
 generalize (World.alloc w2 _) = W2 at *
 generalize w2.heap.size = bd at *
 obtain ⟨a0, a1, a2, a3, a4, a5⟩ := box6h K3.out.now.1.2.1
 obtain ⟨b0, b1, b2, b3, b4, b5⟩ := box6h K3.out.now.1.2.2
 go_wp2_with fail
 refine (hm2 _ W2 K3.out.now.1.1.1 K3.out.now.1.1.2.2).mono ?_
 rintro e w3 ⟨rfl, hf⟩
 have K4 := zI (K3.out.later hf)
 have f0 := fp_alloc w3 (.cells #[.int .i64 61, .int .i64 2, .slice none 0 0] TDN)
 have r0 := heap_alloc_new w3 (.cells #[.int .i64 61, .int .i64 2, .slice none 0 0] TDN)
 have K5 := zI ((K4.out.later f0).and (Kp.row r0))
 clear hf K3 K4 f0 r0 a0 a1 a2 a3 a4 a5 b0 b1 b2 b3 b4 b5
 go_upto_region 6 with (fail)
 generalize (World.alloc w3 _) = W3 at *
 generalize w3.heap.size = be at *
 obtain ⟨a0, a1, a2, a3, a4, a5⟩ := box6h K5.out.now.1.1.2.1
 obtain ⟨b0, b1, b2, b3, b4, b5⟩ := box6h K5.out.now.1.1.2.2
 go_wp2_with fail
 refine (hm3 W3).mono ?_
 rintro e w4 ⟨⟨g, o, c, rfl, hpc, hcl⟩, hf⟩
 have K6 := zI ((K5.out.later hf).and (Kp.and (fun W f => hpc.non f) (fun W f => f.cell hcl id)))
 clear hf hpc hcl K5 a0 a1 a2 a3 a4 a5 b0 b1 b2 b3 b4 b5
 go_wp2_with fail
 refine (Keep_c _ hd0 w4 K6.out.now.1.1.1.1.1 (by decide)).mono ?_
 rintro e w5 ⟨⟨v5, rfl, hs5⟩, hf⟩
 have K7 := zI ((K6.out.later hf).and (Kp.sto hs5))
 clear hf hs5 K6
 go_wp2_with fail
 refine (hm4 _ _ w5 K7.out.now.2 K7.out.now.1.2.1 K7.out.now.1.1.1.1.1.2.2).mono ?_
 rintro e w6 ⟨⟨s0, s1, s2, s3, s4, s5, ra, rc, rfl⟩, hf⟩
 have K8 := zI ((K7.out.later hf).later (fp_alloc w6 (.cells #[.slice s0 s1 s2, .slice s3 s4 s5] TST)))
 clear hf K7
 go_upto_region 8 with (fail)
 generalize (World.alloc w6 _) = W6 at *
 obtain ⟨d0, d1, d2⟩ := box3 K8.out.now.1.1.1.2
 obtain ⟨e0, e1, e2⟩ := box3 K8.out.now.1.1.2
 have hcl := K8.out.now.1.2.2
 rw [show o + 2 * 8 = o + 16 from rfl] at hcl
 go_wp2_with fail
 refine (hm5 _).mono ?_
 rintro e w7 ⟨rfl, hf⟩
 have F9 := zI (K8.out.now.1.1.1.1.1.2.1.then hf)
 clear hf d0 d1 d2 e0 e1 e2 hcl
 go_wp2
 go_ret
 exact ⟨rfl, F9.out⟩
end Go.Proofs.YtphoglepiegeiaaGreatDoor
