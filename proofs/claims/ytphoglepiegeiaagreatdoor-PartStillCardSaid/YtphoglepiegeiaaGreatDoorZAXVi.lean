/- A text of this proof. -/
import Derived.Test.YtphoglepiegeiaaGreatDoorZAF
import Derived.Test.YtphoglepiegeiaaGreatDoorZAS
import Derived.Test.YtphoglepiegeiaaGreatDoorZAXVh
namespace Go.Proofs.YtphoglepiegeiaaGreatDoor
set_option linter.unusedSimpArgs false
set_option linter.unusedVariables false
set_option maxRecDepth 20000
set_option linter.unusedVariables false
set_option linter.unusedSimpArgs false
open Go.RowKit Pm
theorem app_ts (w : World) (lo : Nat) (v x : Value) (l m : List Tu) (ty : TypeId) (ho : OwT lo w v l) (hx : Ts w x m) (hn : l.length + m.length ≤ 100000) (hlo : lo ≤ w.heap.size) :
  ∃ v' w', (Builtin.append_ #[TUL, TUL] ty #[v, x]).run Tryz.prog w = .ok v' w' ∧ ChTR lo w v (l ++ m) v' w' := by
 obtain ⟨ao, cap, rfl, h1, h2, h3⟩ := hx.ex
 cases ao with
 | none =>
  have hm : m = [] := by
   rcases h3 with h3 | ⟨g, o, e, _⟩
   ·exact h3
   ·cases e
  subst hm
  obtain ⟨i, hi, hz, hsz, hby⟩ := info_parts Tryz.infoU
  have hs : Src Tryz.prog i.size TUL (.slice none 0 cap) 0 [] w := Src.ofNil w Tryz.underlying23 _
  refine ⟨v, w, ?_, by rw [List.append_nil]; exact ho, Fp.refl _ _, fun k hk => .inl hk⟩
  rcases ho.2 with ⟨rfl, _⟩ | ⟨g, cap, cur, rfl, hb, hgg, r1, r2, r3⟩
  ·exact run_append_nothing w _ _ _ _ i Tryz.underlying23 hi none 0 0 (Nat.le_refl _) _ hs
  ·exact run_append_nothing w _ _ _ _ i Tryz.underlying23 hi _ _ _ r1 _ hs
 | some a =>
  obtain ⟨v', w', hr, k1, k2, k3⟩ := appT_own w lo v l m ty a m.length cap ho rfl (fun i hi j u hu => by
   rcases h3 with h3 | ⟨g, o, e, _, hc⟩
   ·subst h3; simp at hi
   ·injection e with e
    subst e
    have := (hc i hi).get j u hu
    rw [Addr.add_lit] at this ⊢
    rwa [Nat.add_assoc] at this) hn hlo
  exact ⟨v', w', hr, k1, (Fp.refl _ _).grown k2 (fun k hk => .inl hk), k3⟩
theorem Ow.type {lo : Nat} {w : World} {v : Value} {l : List Nd} (h : Ow lo w v l) {k : Nat} (hk : v.ownBlock = some k) : ∃ cs, w.heap[k]? = some (.cells cs TN (0, 0)) := by
 rcases h.ways with ⟨rfl, _⟩ | ⟨G, cap, rfl, hr, _⟩
 ·simp [Value.ownBlock] at hk
 ·have : G = k := by simpa [Value.ownBlock] using hk
  subst this
  obtain ⟨rest, h1, _⟩ := hr.ex
  exact ⟨_, h1⟩
theorem OwT.type {lo : Nat} {w : World} {v : Value} {l : List Tu} (h : OwT lo w v l) {k : Nat} (hk : v.ownBlock = some k) : ∃ cs, w.heap[k]? = some (.cells cs TU (0, 0)) := by
 rcases h.ways with ⟨rfl, _⟩ | ⟨G, cap, rfl, hr, _⟩
 ·simp [Value.ownBlock] at hk
 ·have : G = k := by simpa [Value.ownBlock] using hk
  subst this
  obtain ⟨rest, h1, _⟩ := hr.ex
  exact ⟨_, h1⟩
theorem typ_ne {w : World} {i j : Nat} {c d : Array Value} {S T : TypeId} (h : w.heap[i]? = some (.cells c S (0, 0))) (k : w.heap[j]? = some (.cells d T (0, 0))) (hST : S ≠ T) : i ≠ j := fun e => by
 rw [e, k] at h
 injection h with h
 injection h with _ h _
 exact hST h.symm
structure Bst (u0 : World) (vN : Value) (lN : List Nd) (vT : Value) (lT : List Tu) (b : Nat) (x : Bool) (u : World) : Prop where
 f : Fp Non u0 u
 n : Ow u0.heap.size u vN lN
 t : OwT u0.heap.size u vT lT
 x : x = true → u0.heap.size ≤ b ∧ u.heap[b]? = some (.cells #[.slice none 0 0, .slice none 0 0] TST (0, 0))
section
variable {u0 u : World} {vN vT : Value} {lN : List Nd} {lT : List Tu} {b : Nat} {x : Bool}
theorem Bst.start (u0 : World) : Bst u0 (.slice none 0 0) [] (.slice none 0 0) [] 0 false u0 := ⟨Fp.refl _ _, Ow.nil _ _, OwT.nil _ _, fun h => by cases h⟩
theorem Bst.non (h : Bst u0 vN lN vT lT b x u) {u' : World} (f : Fp Non u u') : Bst u0 vN lN vT lT b x u' := ⟨h.f.then f, h.n.non f, h.t.non f, fun e => ⟨(h.x e).1, f.heap (h.x e).2 (fun h => h)⟩⟩
theorem Bst.buildN (h : Bst u0 (.slice none 0 0) [] vT lT b x u) : Bst u0 (.slice (some ⟨u.heap.size, 0, none⟩) 0 0) [] vT lT b x (u.alloc (.cells #[] TN)) := by
 have k := h.non (fp_alloc u (.cells #[] TN))
 have hr : Nr (u.alloc (.cells #[] TN)) u.heap.size 0 [] := ⟨⟨[], heap_alloc_new u _, rfl⟩, Nat.le_refl _, by unfold maxLen; omega⟩
 exact ⟨k.f, Ow.row hr h.f.size, k.t, k.x⟩
theorem Bst.buildT (h : Bst u0 vN lN (.slice none 0 0) [] b x u) : Bst u0 vN lN (.slice (some ⟨u.heap.size, 0, none⟩) 0 0) [] b x (u.alloc (.cells #[] TU)) := by
 have k := h.non (fp_alloc u (.cells #[] TU))
 have hr : Tr2 (u.alloc (.cells #[] TU)) u.heap.size 0 [] := ⟨⟨[], heap_alloc_new u _, rfl⟩, Nat.le_refl _, by unfold maxLen; omega⟩
 exact ⟨k.f, k.n, OwT.row hr h.f.size, k.x⟩
theorem Bst.box (h : Bst u0 vN lN vT lT b false u) : Bst u0 vN lN vT lT u.heap.size true (u.alloc (.cells #[.slice none 0 0, .slice none 0 0] TST)) := by
 have k := h.non (fp_alloc u (.cells #[.slice none 0 0, .slice none 0 0] TST))
 exact ⟨k.f, k.n, k.t, fun _ => ⟨h.f.size, heap_alloc_new u _⟩⟩
theorem Bst.appN (h : Bst u0 vN [] vT lT b x u) (y : Value) {l : List Nd} (hy : Ns u0 y l) (hl : l.length ≤ 90000) (ty : TypeId) :
  ∃ v' u', (Builtin.append_ #[TL, TL] ty #[vN, y]).run Tryz.prog u = .ok v' u' ∧ Bst u0 v' l vT lT b x u' := by
 obtain ⟨v', u', hr, hc⟩ := app_ns u u0.heap.size vN y [] l ty h.n (hy.non h.f) (by simpa using (by omega : l.length ≤ 100000)) h.f.size
 refine ⟨v', u', hr, h.f.trans hc.fp (fun j hj => .inr ((World.ownsRow.lt h.n j hj).1)), by simpa using hc.own, h.t.keep hc.fp (fun j hj e => ?_), fun e => ⟨(h.x e).1, hc.fp.heap (h.x e).2 (fun e' => ?_)⟩⟩
 ·obtain ⟨_, k1⟩ := h.n.type e
  obtain ⟨_, k2⟩ := h.t.type hj
  exact typ_ne k1 k2 (by decide) rfl
 ·obtain ⟨_, k1⟩ := h.n.type e'
  exact typ_ne k1 (h.x e).2 (by decide) rfl
theorem Bst.appT (h : Bst u0 vN lN vT [] b x u) (y : Value) {l : List Tu} (hy : Ts u0 y l) (hl : l.length ≤ 90000) (ty : TypeId) :
  ∃ v' u', (Builtin.append_ #[TUL, TUL] ty #[vT, y]).run Tryz.prog u = .ok v' u' ∧ Bst u0 vN lN v' l b x u' := by
 obtain ⟨v', u', hr, hc⟩ := app_ts u u0.heap.size vT y [] l ty h.t (hy.non h.f) (by simpa using (by omega : l.length ≤ 100000)) h.f.size
 refine ⟨v', u', hr, h.f.trans hc.fp (fun j hj => .inr ((World.ownsRow.lt h.t j hj).1)), h.n.keep hc.fp (fun j hj e => ?_), by simpa using hc.own, fun e => ⟨(h.x e).1, hc.fp.heap (h.x e).2 (fun e' => ?_)⟩⟩
 ·obtain ⟨_, k1⟩ := h.t.type e
  obtain ⟨_, k2⟩ := h.n.type hj
  exact typ_ne k1 k2 (by decide) rfl
 ·obtain ⟨_, k1⟩ := h.t.type e'
  exact typ_ne k1 (h.x e).2 (by decide) rfl
theorem Bst.put (h : Bst u0 vN lN vT lT b true u) : Fp Non u0 ((u.setCell ⟨b, 0, none⟩ vN).setCell ⟨b, 1, none⟩ vT) ∧ ((u.setCell ⟨b, 0, none⟩ vN).setCell ⟨b, 1, none⟩ vT).heap[b]? = some (.cells #[vN, vT] TST (0, 0)) ∧ Sto ((u.setCell ⟨b, 0, none⟩ vN).setCell ⟨b, 1, none⟩ vT) (.agg #[vN, vT]) ⟨lN, lT⟩ := by
 obtain ⟨h1, h2⟩ := h.x rfl
 have hfa : Fp (fun j => j = b) u ((u.setCell ⟨b, 0, none⟩ vN).setCell ⟨b, 1, none⟩ vT) := ((Fp.refl (fun j => j = b) u).setCell (p := ⟨b, 0, none⟩) (.inl rfl) _).setCell (p := ⟨b, 1, none⟩) (.inl rfl) _
 refine ⟨h.f.trans hfa (fun j hj => .inr (by have hj : j = b := hj; omega)), two_set h2 vN vT, _, _, rfl, h.n.ns.keep hfa (fun j hj e => ?_), h.t.ns.keep hfa (fun j hj e => ?_)⟩
 ·obtain ⟨_, k1⟩ := h.n.type hj
  have e : j = b := e
  exact typ_ne k1 h2 (by decide) e
 ·obtain ⟨_, k1⟩ := h.t.type hj
  have e : j = b := e
  exact typ_ne k1 h2 (by decide) e
end
end Go.Proofs.YtphoglepiegeiaaGreatDoor
