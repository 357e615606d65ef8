/- A text of this proof. -/
import Derived.Deep.CutRange
import Derived.Test.YtphoglepiegeiaaGreatDoorZAI
import Derived.Test.YtphoglepiegeiaaGreatDoorZAJ
import Derived.Test.YtphoglepiegeiaaGreatDoorZAP
namespace Go.Proofs.YtphoglepiegeiaaGreatDoor
set_option linter.unusedSimpArgs false
set_option linter.unusedVariables false
set_option maxRecDepth 20000
set_option linter.unusedVariables false
set_option linter.unusedSimpArgs false
open Go.RowKit Pm
attribute [local irreducible] wpStill
abbrev TST : TypeId := 25
abbrev effV : Value := .agg #[.nilFunc, .func (.func 87) #[] #[], .func (.func 88) #[] #[], .func (.func 89) #[] #[], .func (.func 90) #[] #[], .func (.func 91) #[] #[], .func (.func 92) #[] #[], .func (.func 93) #[] #[], .func (.func 94) #[] #[], .func (.func 95) #[] #[], .func (.func 96) #[] #[]]
set_option maxHeartbeats 1000000 in
theorem effectsP_c (w : World) : Calls Tryz.prog 57 #[] w fun e w' => e = .returned effV ∧ Fp Non w w' := by
 go_enter Tryz.func57, Tryz.ntmps57
 go_wp2
 exact bodyPost_ret (v := effV) (by simp [results, Tryz.results57, go_sem]) rfl ⟨rfl, (Fp.refl Non w).alloc _⟩
structure PickP (lo b : Nat) (vn vt : Value) (s : St) (x : Pt) (fk : Nat) (fc : Array Value) : Prop where
 ix : ∀ w, (Instr.index 89 effV (.int .i64 x.kind)).run Tryz.prog w = .ok (.func (.func fk) #[] fc) w
 en : Enters Tryz.prog fk
 call : ∀ w', Sw lo b vn vt s w' → Tab w' → Calls Tryz.prog fk (#[.pointer (some ⟨b, 0, none⟩), ptV x] ++ fc) w' (PmR lo b vn vt (doP s x).1 (doP s x).2 w')
theorem pickP (lo b : Nat) (vn vt : Value) (s : St) (x : Pt) (hst : StR s) (hm : mayP x = true) (hn : s.nodes.length ≤ 3900) (hnt : s.turns.length ≤ 3900) : ∃ fk fc, PickP lo b vn vt s x fk fc := by
 have hk := ((mayP_iff x).1 hm).1
 obtain ⟨k, d, p, da, v, o, t⟩ := x
 simp only at hk
 have hk' : k = 1 ∨ k = 2 ∨ k = 3 ∨ k = 4 ∨ k = 5 ∨ k = 6 ∨ k = 7 ∨ k = 8 ∨ k = 9 ∨ k = 10 := by omega
 rcases hk' with rfl | rfl | rfl | rfl | rfl | rfl | rfl | rfl | rfl | rfl
 ·exact ⟨_, #[], fun w => by kernel_rfl, enters_of Tryz.func87 (by kernel_rfl) rfl, fun w' h ht => guard_e h _ hst hm hn hnt ht rfl⟩
 ·exact ⟨_, #[], fun w => by kernel_rfl, enters_of Tryz.func88 (by kernel_rfl) rfl, fun w' h ht => put_e h _ hst hm hn hnt ht rfl⟩
 ·exact ⟨_, #[], fun w => by kernel_rfl, enters_of Tryz.func89 (by kernel_rfl) rfl, fun w' h ht => remove_e h _ hst hm hn hnt ht rfl⟩
 ·exact ⟨_, #[], fun w => by kernel_rfl, enters_of Tryz.func90 (by kernel_rfl) rfl, fun w' h ht => empty_e h _ hst hm hn hnt ht rfl⟩
 ·exact ⟨_, #[], fun w => by kernel_rfl, enters_of Tryz.func91 (by kernel_rfl) rfl, fun w' h ht => alter_e h _ hst hm hn hnt ht rfl⟩
 ·exact ⟨_, #[], fun w => by kernel_rfl, enters_of Tryz.func92 (by kernel_rfl) rfl, fun w' h ht => look_e h _ hst hm hn hnt ht rfl⟩
 ·exact ⟨_, #[], fun w => by kernel_rfl, enters_of Tryz.func93 (by kernel_rfl) rfl, fun w' h ht => read_e h _ hst hm hn hnt ht rfl⟩
 ·exact ⟨_, #[], fun w => by kernel_rfl, enters_of Tryz.func94 (by kernel_rfl) rfl, fun w' h ht => has_e h _ hst hm hn hnt ht rfl⟩
 ·exact ⟨_, #[], fun w => by kernel_rfl, enters_of Tryz.func95 (by kernel_rfl) rfl, fun w' h ht => names_e h _ hst hm hn hnt ht rfl⟩
 ·exact ⟨_, #[], fun w => by kernel_rfl, enters_of Tryz.func96 (by kernel_rfl) rfl, fun w' h ht => clear_e h _ hst hm hn hnt ht rfl⟩
structure DoR (w : World) (s' : St) (r : Res) (e : Ending) (w' : World) : Prop where
 ex : ∃ v' nv, e = .returned (.tuple #[v', .agg #[.int .i64 r.err, strV r.path, strV r.data, .int .i64 r.ver, nv]]) ∧ Sto w' v' s' ∧ Own w.heap.size w' nv r.names
 fp : Fp Non w w'
structure DoB (w : World) (vn0 vt0 : Value) (k : Int) (d p da : Bs) (v o : Int) (t : Bool) (W : World) : Prop where
 sb : W.heap[w.heap.size]? = some (.cells #[vn0, vt0] TST (0, 0))
 pb : W.heap[w.heap.size + 1]? = some (.cells #[.int .i64 k, .string (B d), .string (B p), .string (B da), .int .i64 v, .int .i64 o, .bool t] TP (0, 0))
 zs : W.heap[w.heap.size + 2]? = some (.cells #[.slice none 0 0, .slice none 0 0] TST (0, 0))
 zr : W.heap[w.heap.size + 3]? = some (.cells #[.int .i64 0, .string ⟨#[]⟩, .string ⟨#[]⟩, .int .i64 0, .slice none 0 0] TR (0, 0))
 sz : w.heap.size + 4 ≤ W.heap.size
 fp : Fp Non w W
theorem DoB.made (w : World) (vn0 vt0 : Value) (k : Int) (d p da : Bs) (v o : Int) (t : Bool) : DoB w vn0 vt0 k d p da v o t ((((w.alloc (.cells #[vn0, vt0] TST)).alloc (.cells #[.int .i64 k, .string (B d), .string (B p), .string (B da), .int .i64 v, .int .i64 o, .bool t] TP)).alloc (.cells #[.slice none 0 0, .slice none 0 0] TST)).alloc (.cells #[.int .i64 0, .string ⟨#[]⟩, .string ⟨#[]⟩, .int .i64 0, .slice none 0 0] TR)) := by
 have f1 := fp_alloc w (.cells #[vn0, vt0] TST)
 have f2 := fp_alloc (w.alloc (.cells #[vn0, vt0] TST)) (.cells #[.int .i64 k, .string (B d), .string (B p), .string (B da), .int .i64 v, .int .i64 o, .bool t] TP)
 have f3 := fp_alloc ((w.alloc (.cells #[vn0, vt0] TST)).alloc (.cells #[.int .i64 k, .string (B d), .string (B p), .string (B da), .int .i64 v, .int .i64 o, .bool t] TP)) (.cells #[.slice none 0 0, .slice none 0 0] TST)
 have f4 := fp_alloc (((w.alloc (.cells #[vn0, vt0] TST)).alloc (.cells #[.int .i64 k, .string (B d), .string (B p), .string (B da), .int .i64 v, .int .i64 o, .bool t] TP)).alloc (.cells #[.slice none 0 0, .slice none 0 0] TST)) (.cells #[.int .i64 0, .string ⟨#[]⟩, .string ⟨#[]⟩, .int .i64 0, .slice none 0 0] TR)
 refine ⟨((f2.then f3).then f4).heap (heap_alloc_new w _) (fun h => h), ?_, ?_, ?_, by simp, ((f1.then f2).then f3).then f4⟩
 ·have := heap_alloc_new (w.alloc (.cells #[vn0, vt0] TST)) (.cells #[.int .i64 k, .string (B d), .string (B p), .string (B da), .int .i64 v, .int .i64 o, .bool t] TP)
  exact (f3.then f4).heap (by simpa using this) (fun h => h)
 ·have := heap_alloc_new ((w.alloc (.cells #[vn0, vt0] TST)).alloc (.cells #[.int .i64 k, .string (B d), .string (B p), .string (B da), .int .i64 v, .int .i64 o, .bool t] TP)) (.cells #[.slice none 0 0, .slice none 0 0] TST)
  exact f4.heap (by simpa using this) (fun h => h)
 ·have := heap_alloc_new (((w.alloc (.cells #[vn0, vt0] TST)).alloc (.cells #[.int .i64 k, .string (B d), .string (B p), .string (B da), .int .i64 v, .int .i64 o, .bool t] TP)).alloc (.cells #[.slice none 0 0, .slice none 0 0] TST)) (.cells #[.int .i64 0, .string ⟨#[]⟩, .string ⟨#[]⟩, .int .i64 0, .slice none 0 0] TR)
  simpa using this
theorem DoB.keep {w W W' : World} {vn0 vt0 : Value} {k : Int} {d p da : Bs} {v o : Int} {t : Bool} (h : DoB w vn0 vt0 k d p da v o t W) {S : Nat → Prop} (f : Fp S W W') (hS : ∀ j, S j → w.heap.size + 4 ≤ j) : DoB w vn0 vt0 k d p da v o t W' :=
 ⟨f.heap h.sb (fun e => by have := hS _ e; omega), f.heap h.pb (fun e => by have := hS _ e; omega), f.heap h.zs (fun e => by have := hS _ e; omega), f.heap h.zr (fun e => by have := hS _ e; omega), Nat.le_trans h.sz f.size, h.fp.trans f (fun j hj => .inr (by have := hS j hj; omega))⟩
theorem DoB.non {w W W' : World} {vn0 vt0 : Value} {k : Int} {d p da : Bs} {v o : Int} {t : Bool} (h : DoB w vn0 vt0 k d p da v o t W) (f : Fp Non W W') : DoB w vn0 vt0 k d p da v o t W' := h.keep f (fun _ h => h.elim)
theorem Kp.dob {w W : World} {vn0 vt0 : Value} {k : Int} {d p da : Bs} {v o : Int} {t : Bool} (h : DoB w vn0 vt0 k d p da v o t W) : Kp (fun W' => DoB w vn0 vt0 k d p da v o t W') W := fun W' f => h.non f
theorem boxP2 {w : World} {b : Nat} {T : TypeId} {c0 c1 : Value} (h : w.heap[b]? = some (.cells #[c0, c1] T (0, 0))) : w.cell? ⟨b, 0, none⟩ = some c0 ∧ w.cell? ⟨b, 1, none⟩ = some c1 :=
 ⟨by rw [cell_of_row _ _ _ _ _ _ h]; rfl, by rw [cell_of_row _ _ _ _ _ _ h]; rfl⟩
theorem Ow.lower {lo lo' : Nat} {w : World} {v : Value} {l : List Nd} (h : Ow lo' w v l) (k : lo ≤ lo') : Ow lo w v l := by
 refine ⟨h.1, ?_⟩
 rcases h.2 with hn | ⟨g, cap, cur, e, hg, rest⟩
 ·exact .inl hn
 ·exact .inr ⟨g, cap, cur, e, Nat.le_trans k hg, rest⟩
theorem OwT.lower {lo lo' : Nat} {w : World} {v : Value} {l : List Tu} (h : OwT lo' w v l) (k : lo ≤ lo') : OwT lo w v l := by
 refine ⟨h.1, ?_⟩
 rcases h.2 with hn | ⟨g, cap, cur, e, hg, rest⟩
 ·exact .inl hn
 ·exact .inr ⟨g, cap, cur, e, Nat.le_trans k hg, rest⟩
theorem Ow.ne {lo : Nat} {w : World} {v : Value} {l : List Nd} (h : Ow lo w v l) {q : Nat} {cs : Array Value} (hq : w.heap[q]? = some (.cells cs TR (0, 0))) : v.ownBlock ≠ some q := by
 rcases h.ways with ⟨rfl, _⟩ | ⟨G, cap, rfl, h1, _⟩
 ·simp [Value.ownBlock]
 ·intro e
  simp only [Value.ownBlock, Option.some.injEq] at e
  subst e
  obtain ⟨r, h2, _⟩ := h1.ex
  rw [h2] at hq
  injection hq with hq
  injection hq with _ hq _
  exact absurd hq (by decide)
theorem OwT.ne {lo : Nat} {w : World} {v : Value} {l : List Tu} (h : OwT lo w v l) {q : Nat} {cs : Array Value} (hq : w.heap[q]? = some (.cells cs TR (0, 0))) : v.ownBlock ≠ some q := by
 rcases h.ways with ⟨rfl, _⟩ | ⟨G, cap, rfl, h1, _⟩
 ·simp [Value.ownBlock]
 ·intro e
  simp only [Value.ownBlock, Option.some.injEq] at e
  subst e
  obtain ⟨r, h2, _⟩ := h1.ex
  rw [h2] at hq
  injection hq with hq
  injection hq with _ hq _
  exact absurd hq (by decide)
structure DoM (w : World) (vn0 vt0 : Value) (k : Int) (d p da : Bs) (v o : Int) (t : Bool) (b : Nat) (s' : St) (r : Res) (q : Nat) (nv : Value) (W : World) : Prop where
 ex : ∃ vn' vt', Sw (w.heap.size + 4) b vn' vt' s' W
 own : Own (w.heap.size + 4) W nv r.names
 bx : DoB w vn0 vt0 k d p da v o t W
 q4 : w.heap.size + 4 ≤ q
 row : W.heap[q]? = some (.cells #[.int .i64 r.err, .string (B r.path), .string (B r.data), .int .i64 r.ver, nv] TR (0, 0))
theorem two_set {w : World} {b : Nat} {T : TypeId} {a0 a1 : Value} (h : w.heap[b]? = some (.cells #[a0, a1] T (0, 0))) (v0 v1 : Value) :
  ((w.setCell ⟨b, 0, none⟩ v0).setCell ⟨b, 1, none⟩ v1).heap[b]? = some (.cells #[v0, v1] T (0, 0)) := heap_setCell_same _ b 1 _ T v1 (heap_setCell_same w b 0 _ T v0 h)
theorem DoM.of {w u u2 u3 : World} {vn0 vt0 vn1 vt1 : Value} {k : Int} {d p da : Bs} {v o : Int} {t : Bool} {b : Nat} {s s' : St} {r : Res} {q : Nat} {nv vn' vt' : Value}
  (h : Sw (w.heap.size + 4) b vn1 vt1 s u) (hB : DoB w vn0 vt0 k d p da v o t u) (hs : Sw (w.heap.size + 4) b vn' vt' s' u2) (ho : Own u.heap.size u2 nv r.names) (f : Fp (ownS b vn1 vt1) u u2) (f3 : Fp Non u2 u3)
  (hq : u3.heap[q]? = some (.cells #[.int .i64 0, .string ⟨#[]⟩, .string ⟨#[]⟩, .int .i64 0, .slice none 0 0] TR (0, 0))) (hq4 : w.heap.size + 4 ≤ q) (hnq : nv.ownBlock ≠ some q) :
  DoM w vn0 vt0 k d p da v o t b s' r q nv (((((u3.setCell ⟨q, 0, none⟩ (.int .i64 r.err)).setCell ⟨q, 1, none⟩ (.string (B r.path))).setCell ⟨q, 2, none⟩ (.string (B r.data))).setCell ⟨q, 3, none⟩ (.int .i64 r.ver)).setCell ⟨q, 4, none⟩ nv) := by
 have fk := fp5 (S := fun j => j = q) (Fp.refl _ u3) (b := q) (.inl rfl) (.int .i64 r.err) (.string (B r.path)) (.string (B r.data)) (.int .i64 r.ver) nv
 have hs3 := hs.non f3
 have hown : ∀ j, ownS b vn1 vt1 j → w.heap.size + 4 ≤ j := fun j hj => by
  rcases hj with e | e | e
  ·rw [e]; exact h.low
  ·exact (World.ownsRow.lt h.own j e).1
  ·exact (World.ownsRow.lt h.ownT j e).1
 refine ⟨⟨vn', vt', hs3.keep fk (fun e => ?_) (fun j hj e => hs3.own.ne hq (by rw [hj, e])) (fun j hj e => hs3.ownT.ne hq (by rw [hj, e]))⟩, ?_, ?_, hq4, set5 hq _ _ _ _ _⟩
 ·have h1 := hs3.blk
  rw [e, hq] at h1
  injection h1 with h1
  injection h1 with _ h1 _
  exact absurd h1 (by decide)
 ·exact ⟨fk.owns ((ho.low hB.sz).grown' f3).1 (fun j hj e => hnq (by rw [hj, e])), ho.2⟩
 ·exact ((hB.keep f hown).non f3).keep fk (fun j hj => by rw [hj]; exact hq4)
theorem do_end {w W : World} {vn0 vt0 : Value} {k : Int} {d p da : Bs} {v o : Int} {t : Bool} (h : DoB w vn0 vt0 k d p da v o t W) (a0 a1 v0 v1 v2 v3 v4 : Value) :
  (((((((W.setCell ⟨w.heap.size + 2, 0, none⟩ a0).setCell ⟨w.heap.size + 2, 1, none⟩ a1).setCell ⟨w.heap.size + 3, 0, none⟩ v0).setCell ⟨w.heap.size + 3, 1, none⟩ v1).setCell ⟨w.heap.size + 3, 2, none⟩ v2).setCell ⟨w.heap.size + 3, 3, none⟩ v3).setCell ⟨w.heap.size + 3, 4, none⟩ v4).heap[w.heap.size + 2]? = some (.cells #[a0, a1] TST (0, 0)) ∧
  (((((((W.setCell ⟨w.heap.size + 2, 0, none⟩ a0).setCell ⟨w.heap.size + 2, 1, none⟩ a1).setCell ⟨w.heap.size + 3, 0, none⟩ v0).setCell ⟨w.heap.size + 3, 1, none⟩ v1).setCell ⟨w.heap.size + 3, 2, none⟩ v2).setCell ⟨w.heap.size + 3, 3, none⟩ v3).setCell ⟨w.heap.size + 3, 4, none⟩ v4).heap[w.heap.size + 3]? = some (.cells #[v0, v1, v2, v3, v4] TR (0, 0)) ∧
  Fp Non w (((((((W.setCell ⟨w.heap.size + 2, 0, none⟩ a0).setCell ⟨w.heap.size + 2, 1, none⟩ a1).setCell ⟨w.heap.size + 3, 0, none⟩ v0).setCell ⟨w.heap.size + 3, 1, none⟩ v1).setCell ⟨w.heap.size + 3, 2, none⟩ v2).setCell ⟨w.heap.size + 3, 3, none⟩ v3).setCell ⟨w.heap.size + 3, 4, none⟩ v4) ∧
  Fp (fun j => j = w.heap.size + 2 ∨ j = w.heap.size + 3) W (((((((W.setCell ⟨w.heap.size + 2, 0, none⟩ a0).setCell ⟨w.heap.size + 2, 1, none⟩ a1).setCell ⟨w.heap.size + 3, 0, none⟩ v0).setCell ⟨w.heap.size + 3, 1, none⟩ v1).setCell ⟨w.heap.size + 3, 2, none⟩ v2).setCell ⟨w.heap.size + 3, 3, none⟩ v3).setCell ⟨w.heap.size + 3, 4, none⟩ v4) := by
 have f2 : Fp (fun j => j = w.heap.size + 2) W ((W.setCell ⟨w.heap.size + 2, 0, none⟩ a0).setCell ⟨w.heap.size + 2, 1, none⟩ a1) := ((Fp.refl (fun j => j = w.heap.size + 2) W).setCell (p := ⟨w.heap.size + 2, 0, none⟩) (.inl rfl) a0).setCell (p := ⟨w.heap.size + 2, 1, none⟩) (.inl rfl) a1
 have f5 := fp5 (S := fun j => j = w.heap.size + 3) (Fp.refl _ ((W.setCell ⟨w.heap.size + 2, 0, none⟩ a0).setCell ⟨w.heap.size + 2, 1, none⟩ a1)) (b := w.heap.size + 3) (.inl rfl) v0 v1 v2 v3 v4
 have fall := (f2.mono (T := fun j => j = w.heap.size + 2 ∨ j = w.heap.size + 3) (fun j hj => .inl hj)).same (f5.mono (fun j hj => .inr hj))
 refine ⟨f5.heap (two_set h.zs a0 a1) (fun e => by omega), set5 (f2.heap h.zr (fun e => by omega)) v0 v1 v2 v3 v4, h.fp.trans fall (fun j hj => .inr (by omega)), fall⟩
theorem frozen_at {w : World} {b : Nat} {cs : Array Value} {T : TypeId} (h : w.heap[b]? = some (.cells cs T (0, 0))) (j : Nat) : w.frozen? ⟨b, j, none⟩ = false := by
 unfold World.frozen?; simp only [h]; simp
set_option maxHeartbeats 8000000 in
theorem Do_no (vn0 vt0 : Value) (s : St) (x : Pt) (w : World) (hv : Sto w (.agg #[vn0, vt0]) s) (hs : Sp s.nodes) (hst : ∀ t ∈ s.turns, t.dir.length ≤ 1000000) (hn : s.nodes.length ≤ 3900) (hnt : s.turns.length ≤ 3900) (hp : x.path.length ≤ 1000000) (hno : ¬ (rightS s = true ∧ mayP x = true)) :
  Calls Tryz.prog 17 #[.agg #[vn0, vt0], ptV x] w (DoR w ⟨[], []⟩ (.bad 1)) := by
 have hrc := fun W (f : Fp Non w W) => rightP_c (.agg #[vn0, vt0]) s W (hv.non f) hs (by omega) hst (by omega)
 have hmc := fun W => mayP_c x W hp
 obtain ⟨br, hbr⟩ : ∃ br, rightS s = br := ⟨_, rfl⟩
 obtain ⟨bm, hbm⟩ : ∃ bm, mayP x = bm := ⟨_, rfl⟩
 rw [hbr] at hrc
 rw [hbm] at hmc
 rw [hbr, hbm] at hno
 obtain ⟨k, d, p, da, v, o, t⟩ := x
 have hpt : ptV ⟨k, d, p, da, v, o, t⟩ = .agg #[.int .i64 k, .string (B d), .string (B p), .string (B da), .int .i64 v, .int .i64 o, .bool t] := rfl
 rw [hpt] at hmc ⊢
 have K0 := Lib.hid (Kp.dob (DoB.made w vn0 vt0 k d p da v o t))
 have HR := Lib.hid hrc
 have HM := Lib.hid hmc
 clear hrc hmc hv hs hst hn hnt hp hbr hbm hpt
 cases br with
 | false =>
  clear hno
  go_enter Tryz.func17, Tryz.ntmps17
  generalize hW0 : ((((w.alloc (.cells #[vn0, vt0] TST)).alloc (.cells #[.int .i64 k, .string (B d), .string (B p), .string (B da), .int .i64 v, .int .i64 o, .bool t] TP)).alloc (.cells #[.slice none 0 0, .slice none 0 0] TST)).alloc (.cells #[.int .i64 0, .string ⟨#[]⟩, .string ⟨#[]⟩, .int .i64 0, .slice none 0 0] TR)) = W0 at *
  obtain ⟨s0, s1⟩ := boxP2 K0.out.now.sb
  go_wp2_with fail
  clear hW0
  refine (HR.out _ K0.out.now.fp).mono ?_
  rintro e w1 ⟨rfl, hf⟩
  have K1 := Lib.hid (K0.out.later hf)
  clear hf s0 s1
  go_wp2_with fail
  refine (refusedP_c 1 _).mono ?_
  rintro e w9 ⟨rfl, hf⟩
  have K9 := Lib.hid (K1.out.later hf)
  clear hf
  unfold badV
  have hb := K9.out.now
  obtain ⟨y0, y1⟩ := boxP2 hb.zs
  have u0 := frozen_at hb.zs 0; have u1 := frozen_at hb.zs 1
  obtain ⟨r0, r1, r2, r3, r4⟩ := box5 hb.zr
  have z0 := frozen_at hb.zr 0; have z1 := frozen_at hb.zr 1; have z2 := frozen_at hb.zr 2; have z3 := frozen_at hb.zr 3; have z4 := frozen_at hb.zr 4
  have HD := Lib.hid (do_end hb (.slice none 0 0) (.slice none 0 0) (.int .i64 1) (.string ⟨#[]⟩) (.string ⟨#[]⟩) (.int .i64 0) (.slice none 0 0))
  clear hb
  go_wp2
  have hd := HD.out
  generalize (((((World.setCell _ _ _).setCell _ _).setCell _ _).setCell _ _).setCell _ _) = wz at *
  obtain ⟨t0, t1⟩ := boxP2 hd.1
  obtain ⟨s0, s1, s2, s3, s4⟩ := box5 hd.2.1
  exact bodyPost_ret (v := .tuple #[.agg #[.slice none 0 0, .slice none 0 0], .agg #[.int .i64 1, .string ⟨#[]⟩, .string ⟨#[]⟩, .int .i64 0, .slice none 0 0]]) (by simp [results, Tryz.results17, go_sem, t0, t1, s0, s1, s2, s3, s4]) rfl ⟨⟨_, _, rfl, ⟨_, _, rfl, Ns.nil _, Ts.nil _⟩, Own.nil _ _⟩, hd.2.2.1⟩
 | true =>
  obtain rfl : bm = false := by
   cases bm with
   | false => rfl
   | true => exact absurd ⟨rfl, rfl⟩ hno
  clear hno
  go_enter Tryz.func17, Tryz.ntmps17
  generalize hW0 : ((((w.alloc (.cells #[vn0, vt0] TST)).alloc (.cells #[.int .i64 k, .string (B d), .string (B p), .string (B da), .int .i64 v, .int .i64 o, .bool t] TP)).alloc (.cells #[.slice none 0 0, .slice none 0 0] TST)).alloc (.cells #[.int .i64 0, .string ⟨#[]⟩, .string ⟨#[]⟩, .int .i64 0, .slice none 0 0] TR)) = W0 at *
  obtain ⟨s0, s1⟩ := boxP2 K0.out.now.sb
  go_wp2_with fail
  clear hW0
  refine (HR.out _ K0.out.now.fp).mono ?_
  rintro e w1 ⟨rfl, hf⟩
  have K1 := Lib.hid (K0.out.later hf)
  clear hf s0 s1
  obtain ⟨o0, o1, o2, o3, o4, o5, o6⟩ := boxP7 K1.out.now.pb
  go_wp2_with fail
  refine (HM.out _).mono ?_
  rintro e w2 ⟨rfl, hf⟩
  have K2 := Lib.hid (K1.out.later hf)
  clear hf o0 o1 o2 o3 o4 o5 o6
  go_wp2_with fail
  refine (refusedP_c 1 _).mono ?_
  rintro e w9 ⟨rfl, hf⟩
  have K9 := Lib.hid (K2.out.later hf)
  clear hf
  unfold badV
  have hb := K9.out.now
  obtain ⟨y0, y1⟩ := boxP2 hb.zs
  have u0 := frozen_at hb.zs 0; have u1 := frozen_at hb.zs 1
  obtain ⟨r0, r1, r2, r3, r4⟩ := box5 hb.zr
  have z0 := frozen_at hb.zr 0; have z1 := frozen_at hb.zr 1; have z2 := frozen_at hb.zr 2; have z3 := frozen_at hb.zr 3; have z4 := frozen_at hb.zr 4
  have HD := Lib.hid (do_end hb (.slice none 0 0) (.slice none 0 0) (.int .i64 1) (.string ⟨#[]⟩) (.string ⟨#[]⟩) (.int .i64 0) (.slice none 0 0))
  clear hb
  go_wp2
  have hd := HD.out
  generalize (((((World.setCell _ _ _).setCell _ _).setCell _ _).setCell _ _).setCell _ _) = wz at *
  obtain ⟨t0, t1⟩ := boxP2 hd.1
  obtain ⟨s0, s1, s2, s3, s4⟩ := box5 hd.2.1
  exact bodyPost_ret (v := .tuple #[.agg #[.slice none 0 0, .slice none 0 0], .agg #[.int .i64 1, .string ⟨#[]⟩, .string ⟨#[]⟩, .int .i64 0, .slice none 0 0]]) (by simp [results, Tryz.results17, go_sem, t0, t1, s0, s1, s2, s3, s4]) rfl ⟨⟨_, _, rfl, ⟨_, _, rfl, Ns.nil _, Ts.nil _⟩, Own.nil _ _⟩, hd.2.2.1⟩
end Go.Proofs.YtphoglepiegeiaaGreatDoor
namespace Go.Proofs.YtphoglepiegeiaaGreatDoor
set_option maxRecDepth 20000
set_option linter.unusedVariables false
set_option linter.unusedSimpArgs false
open Go.RowKit Pm
theorem fTu : (Tryz.prog.fieldsOf TU).toList = [⟨ "Dir", 9, 0, false, "", "", 0⟩, ⟨ "Next", 2, 1, false, "", "", 16⟩] := by kernel_rfl
theorem eq_tu (w : World) (p p' : ByteArray) (v v' : Int) : (Op.equalIn 10000 TU (.agg #[.string p, .int .i64 v]) (.agg #[.string p', .int .i64 v'])).run Tryz.prog w =
  .ok (decide (p.toList = p'.toList ∧ v = v')) w := by
 rw [run_equalIn_agg w 9999 TU _ _ (by kernel_rfl) (by kernel_rfl), fTu]
 have e2 := fun w a b => run_equalIn_int (P := Tryz.prog) w 9998 2 .i64 .i64 a b Tryz.underlying2
 have e3 := fun w a b => run_equalIn_string (P := Tryz.prog) w 9998 9 a b Tryz.underlying9
 simp only [Op.eqFields]
 simp [e2, e3, go_sem]
 by_cases h2 : p.toList = p'.toList <;> by_cases h4 : v = v' <;> simp [h2, h4]
theorem eq_tus (w : World) (x y : Tu) : (Op.equalIn 10000 TU (.agg #[.string (B x.dir), .int .i64 x.next]) (.agg #[.string (B y.dir), .int .i64 y.next])).run Tryz.prog w = .ok (decide (x = y)) w := by
 rw [eq_tu]
 congr 1
 simp only [B_list]
 obtain ⟨_, _⟩ := x
 obtain ⟨_, _⟩ := y
 simp
structure SsM (a b : List Tu) (w : World) (k : Nat) (wr : World) : Prop where
 fp : Fp Non w wr
 eq : a.take k = b.take k
theorem take_succ_eqT {a b : List Tu} {k : Nat} (ha : k < a.length) (hb : k < b.length) (h : a.take k = b.take k) (e : a[k] = b[k]) : a.take (k + 1) = b.take (k + 1) := by
 rw [List.take_succ_eq_append_getElem ha, List.take_succ_eq_append_getElem hb, h, e]
set_option maxHeartbeats 4000000 in
theorem rSameS_c (va vb : Value) (a b : St) (w : World) (hva : Sto w va a) (hvb : Sto w vb b) (h1 : a.nodes.length ≤ 1000000) (h2 : b.nodes.length ≤ 1000000) (h3 : a.turns.length ≤ 1000000) (h4 : b.turns.length ≤ 1000000) :
  Calls Tryz.prog 23 #[va, vb] w fun e w' => e = .returned (.bool (decide (a = b))) ∧ Fp Non w w' := by
 obtain ⟨an, at_, rfl, ha1, ha2⟩ := hva.ex
 obtain ⟨bn, bt, rfl, hb1, hb2⟩ := hvb.ex
 have hsn := fun W (f : Fp Non w W) => rSameN_c an bn a.nodes b.nodes W (ha1.non f) (hb1.non f) h1 h2
 obtain ⟨ao, ca, rfl⟩ := ha2.shape
 obtain ⟨bo, cb, rfl⟩ := hb2.shape
 obtain ⟨bq, hq⟩ : ∃ r, decide (a.nodes = b.nodes) = r := ⟨_, rfl⟩
 rw [hq] at hsn
 obtain ⟨n, hn⟩ : ∃ n, n = a.turns.length := ⟨_, rfl⟩
 obtain ⟨m, hm⟩ : ∃ m, m = b.turns.length := ⟨_, rfl⟩
 have hnb : n ≤ 1000000 := by omega
 have HN := Lib.hid (And.intro hn (And.intro hm (And.intro ha2 hb2)))
 have HS := Lib.hid (And.intro hsn hq)
 have key : (decide (a = b)) = (bq && decide (a.turns = b.turns)) := by
  rw [← hq]
  obtain ⟨an', at'⟩ := a
  obtain ⟨bn', bt'⟩ := b
  rw [Bool.eq_iff_iff]
  simp
 have HK := Lib.hid key
 rw [← hn, ← hm]
 have f1 := fp_alloc w (.cells #[an, .slice ao n ca] TST)
 have f2 := fp_alloc (w.alloc (.cells #[an, .slice ao n ca] TST)) (.cells #[bn, .slice bo m cb] TST)
 have r1 := f2.heap (heap_alloc_new w (.cells #[an, .slice ao n ca] TST)) (fun h => h)
 have r2 := heap_alloc_new (w.alloc (.cells #[an, .slice ao n ca] TST)) (.cells #[bn, .slice bo m cb] TST)
 rw [show (w.alloc (.cells #[an, .slice ao n ca] TST)).heap.size = w.heap.size + 1 from by simp] at r2
 have K0 := Lib.hid (Kp.and (Kp.fp (f1.then f2)) (Kp.and (Kp.row r1) (Kp.row r2)))
 clear key hq hsn ha1 ha2 hb1 hb2 hva hvb hn hm h1 h2 h3 h4 f1 f2 r1 r2
 go_enter Tryz.func23, Tryz.ntmps23
 go_wp2_with fail
 obtain ⟨a0, a1⟩ := boxP2 K0.out.now.2.1
 obtain ⟨b0, b1⟩ := boxP2 K0.out.now.2.2
 refine (HS.out.1 _ K0.out.now.1).mono ?_
 rintro e w1 ⟨rfl, hf⟩
 have K1 := Lib.hid (K0.out.later hf)
 clear hf a0 a1 b0 b1 K0
 obtain ⟨a0, a1⟩ := boxP2 K1.out.now.2.1
 obtain ⟨b0, b1⟩ := boxP2 K1.out.now.2.2
 cases bq with
 | false =>
  have HKF := Lib.hid (show decide (a = b) = false by rw [HK.out]; rfl)
  go_wp2
  go_ret
  exact ⟨ret_bool HKF.out.symm, K1.out.now.1⟩
 | true =>
  by_cases hl : n = m
  ·subst hl
   have H0 : Hid (SsM a.turns b.turns w 0 w1 ∧ w1.heap[w.heap.size]? = some (.cells #[an, .slice ao n ca] TST (0, 0)) ∧ w1.heap[w.heap.size + 1]? = some (.cells #[bn, .slice bo n cb] TST (0, 0))) := ⟨⟨K1.out.now.1, by simp⟩, K1.out.now.2.1, K1.out.now.2.2⟩
   have heq := eq_tus
   go_wp2_with fail
   go_loopw [5] (fun i wr => ∃ k : Nat, k ≤ n ∧ i = .int .i64 k ∧ Hid (SsM a.turns b.turns w k wr ∧ wr.heap[w.heap.size]? = some (.cells #[an, .slice ao n ca] TST (0, 0)) ∧ wr.heap[w.heap.size + 1]? = some (.cells #[bn, .slice bo n cb] TST (0, 0)))) (fun i _ => n - (RowKit.intOf i).toNat)
   case atStart => exact ⟨0, Nat.zero_le _, rfl, H0⟩
   case round =>
    clear H0 a0 a1 b0 b1
    obtain ⟨k, hk, rfl, hR⟩ := hrel
    rename_i wr _
    obtain ⟨a0, a1⟩ := boxP2 hR.out.2.1
    obtain ⟨b0, b1⟩ := boxP2 hR.out.2.2
    by_cases hlt : k < n
    ·have hka : k < a.turns.length := by rw [← HN.out.1]; exact hlt
     have hkb : k < b.turns.length := by rw [← HN.out.2.1]; exact hlt
     obtain ⟨g, o, cap', e, _, _, _, hcell⟩ := HN.out.2.2.1.at (by omega)
     injection e with e1 e2 e3
     subst e1 e3
     clear e2
     obtain ⟨g', o', cap', e, _, _, _, hcell'⟩ := HN.out.2.2.2.at (by omega)
     injection e with e1 e2 e3
     subst e1 e3
     clear e2
     have hnd := (hcell k hka).keep hR.out.1.fp (fun h => h)
     have hnd' := (hcell' k hkb).keep hR.out.1.fp (fun h => h)
     have q3 : ((k : Int) < (n : Int)) = True := eq_true (by omega)
     have q4 : (k < n) = True := eq_true hlt
     have hnx := fun e (N : Nat) => (show SsM a.turns b.turns w (k + 1) (wr.drewN N) ∧ (wr.drewN N).heap[w.heap.size]? = some (.cells #[an, .slice (some ⟨g, o, none⟩) n ca] TST (0, 0)) ∧ (wr.drewN N).heap[w.heap.size + 1]? = some (.cells #[bn, .slice (some ⟨g', o', none⟩) n cb] TST (0, 0)) from ⟨⟨hR.out.1.fp.then ((Fp.refl _ _).drewN N), take_succ_eqT hka hkb hR.out.1.eq e⟩, ((Fp.refl Non wr).drewN N).heap hR.out.2.1 (fun h => h), ((Fp.refl Non wr).drewN N).heap hR.out.2.2 (fun h => h)⟩)
     have hno := fun (e : a.turns[k] ≠ b.turns[k]) => (show decide (a = b) = false by
      rw [HK.out]
      have : a.turns ≠ b.turns := fun h => e (by simp only [h])
      rw [decide_eq_false this]; rfl)
     have HNX := Lib.hid hnx
     have HNO := Lib.hid hno
     have HL := Lib.hid hlt
     clear hcell hcell' hnx hno hlt
     generalize a.turns[k] = x at *
     generalize b.turns[k] = y at *
     have c0 := hnd.c0; have c1 := hnd.c1
     have d0 := hnd'.c0; have d1 := hnd'.c1
     unfold strV at c0 d0
     clear hnd hnd' hka hkb
     by_cases hxy : x = y
     ·have q5 : decide (x = y) = true := decide_eq_true hxy
      have q6 : (x = y) = True := eq_true hxy
      have hM := Lib.hid (HNX.out hxy)
      have hj := HL.out
      clear hxy
      go_wp2_with fail
      go_quiet (fail)
      go_wp2
      go_roundw
      case rel => exact ⟨k + 1, by omega, by go_num, hM.out _⟩
      case measure => simp [RowKit.intOf]; omega
     ·have q5 : decide (x = y) = false := decide_eq_false hxy
      have q6 : (x = y) = False := eq_false hxy
      have HN9 := Lib.hid (HNO.out hxy)
      clear hxy
      go_wp2_with fail
      go_quiet (fail)
      go_wp2
      go_ret
      exact ⟨ret_bool HN9.out.symm, hR.out.1.fp.drewN _⟩
    ·have hke : k = n := by omega
     subst hke
     have q3 : ((k : Int) < (k : Int)) = False := eq_false (by omega)
     have hfin : decide (a = b) = true := by
      have := hR.out.1.eq
      rw [HN.out.1, List.take_length, ← HN.out.1, HN.out.2.1, List.take_length] at this
      rw [HK.out, decide_eq_true this]; rfl
     have HFN := Lib.hid hfin
     clear hlt hk hfin
     go_wp2
     go_ret
     exact ⟨ret_bool HFN.out.symm, hR.out.1.fp⟩
  ·have HKF := Lib.hid (show decide (a = b) = false by
    rw [HK.out]
    have : a.turns ≠ b.turns := fun h => hl (by rw [HN.out.1, HN.out.2.1, h])
    rw [decide_eq_false this]; rfl)
   have q1 : ((n : Int) == (m : Int)) = false := beq_eq_false_iff_ne.2 (by omega)
   have q2 : ((n : Int) = (m : Int)) = False := eq_false (by omega)
   have q3 : (n == m) = false := beq_eq_false_iff_ne.2 hl
   have q4 : (n = m) = False := eq_false hl
   have q5 : ((n : Int) != (m : Int)) = true := by
    have : (n : Int) ≠ (m : Int) := by omega
    simpa using this
   clear hl
   go_wp2
   go_ret
   exact ⟨ret_bool HKF.out.symm, K1.out.now.1⟩
end Go.Proofs.YtphoglepiegeiaaGreatDoor
