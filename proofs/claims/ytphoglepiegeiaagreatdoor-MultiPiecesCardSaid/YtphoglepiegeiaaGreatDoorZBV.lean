/- A text of this proof. -/
import Derived.StillTailTactics
import Derived.Test.YtphoglepiegeiaaGreatDoorZBD
import Derived.Test.YtphoglepiegeiaaGreatDoorZBU
set_option linter.unusedSimpArgs false
set_option linter.unusedVariables false
namespace Go.Proofs.YtphoglepiegeiaaGreatDoor
set_option maxRecDepth 20000
open Go.RowKit Pm
theorem last_len (p : Bs) : (last p).length ≤ 100 := by
 cases h : parent p with
 | none => rw [(parent_none h).2]; simp
 | some u => obtain ⟨_, _, _, _, h1, _⟩ := parent_some h; exact h1
set_option maxHeartbeats 4000000 in
theorem newPath_c {lo b : Nat} {vn vt : Value} {s : St} {w : World} (h : Sw lo b vn vt s w) (x : Pt) (hst : StR s) (hm : mayP x = true) (hn : s.turns.length ≤ 4000) (ht : Tab w) :
  Calls Tryz.prog 124 #[.pointer (some ⟨b, 0, none⟩), ptV x] w fun e w' => e = .returned (.tuple #[.string (B ((newPath s x).getD [])), .bool (newPath s x).isSome]) ∧ Fp Non w w' := by
 have hp : x.path.length ≤ 100 := split_len ((mayP_iff x).1 hm).2.1
 have hd : x.dir.length ≤ 100 := by
  rw [((mayP_iff x).1 hm).2.2.1]; unfold keptAt; split
  ·exact hp
  exact split_len (upB_ok _)
 have htb := turnOf_bounds hst.tfit x.dir
 obtain ⟨k, d, p, da, v, o, t⟩ := x
 simp only at hp hd htb
 unfold newPath
 simp only
 have hf0 := fp_alloc w (Obj.cells #[.int .i64 k, .string (B d), .string (B p), .string (B da), .int .i64 v, .int .i64 o, .bool t] TP)
 have hb0 := heap_alloc_new w (Obj.cells #[.int .i64 k, .string (B d), .string (B p), .string (B da), .int .i64 v, .int .i64 o, .bool t] TP)
 have HB0 := Lib.hid (And.intro hf0 hb0)
 unfold ptV strV
 cases t with
 | false =>
  simp only [Bool.false_eq_true, if_false]
  clear hf0 hb0 hp hd htb hst hm hn ht h
  go_enter Tryz.func124, Tryz.ntmps124
  go_wp2
  go_ret2
  exact ⟨rfl, HB0.out.1⟩
 | true => ?_
 simp only [if_true]
 obtain ⟨q, hq0⟩ : ∃ q, last p = q := ⟨_, rfl⟩
 have hq := last_len p
 rw [hq0] at hq
 have hla := fun w => Last_g p w (sz_of hp (by omega))
 rw [hq0] at hla ⊢
 obtain ⟨tt, htt⟩ : ∃ tt, turnOf s.turns d = tt := ⟨_, rfl⟩
 have htu := fun w' (f : Fp Non w w') => turn_c (h.non f) d hst.tasc (by omega)
 rw [htt] at htb
 simp only [htt] at htu ⊢
 obtain ⟨nn, hnn⟩ : ∃ nn, numbered q tt = nn := ⟨_, rfl⟩
 have hnu := fun w (ht : Tab w) => Numbered_c q tt w (sz_of hq (by omega)) (by omega) (by omega) (Or.inr ht.is)
 rw [hnn] at hnu ⊢
 have HL := Lib.hid hla
 have HT := Lib.hid htu
 have HN := Lib.hid hnu
 have HTab := Lib.hid ht
 have HB : Hid (Fp Non w (w.alloc (Obj.cells #[.int .i64 k, .string (B d), .string (B p), .string (B da), .int .i64 v, .int .i64 o, .bool true] TP)).drew ∧ (w.alloc (Obj.cells #[.int .i64 k, .string (B d), .string (B p), .string (B da), .int .i64 v, .int .i64 o, .bool true] TP)).drew.heap[w.heap.size]? = some (.cells #[.int .i64 k, .string (B d), .string (B p), .string (B da), .int .i64 v, .int .i64 o, .bool true] TP (0, 0))) := ⟨HB0.out.1.drew, (Fp.refl Non _).drew.heap HB0.out.2 id⟩
 have HS0 := Lib.hid (And.intro (boxP7 HB.out.2).2.2.1 (boxP7 HB.out.2).2.1)
 have hnl : ∀ q', nn = some q' → q'.length ≤ 12 := fun q' e => numbered_len (by rw [hnn, e])
 cases nn with
 | none =>
  clear hf0 hb0 hp hd htb hst hm hn ht h hla htu hnu hnl hq hq0 htt hnn HB0
  show Calls _ _ _ _ (fun e w' => e = .returned (.tuple #[.string (B []), .bool false]) ∧ _)
  go_enter Tryz.func124, Tryz.ntmps124
  go_wp2_with fail
  refine wp_region_held_drew (S := (fun w' => w'.cell? ⟨w.heap.size, 2, none⟩ = some (.string (B p)) ∧ w'.cell? ⟨w.heap.size, 1, none⟩ = some (.string (B d)))) (by kernel_rfl) ?_ (fun hH => ?_)
  ·exact HS0.out
  refine tk 0 hH ?_
  refine tk 1 hH ?_
  refine tk 3 hH ?_
  refine tk 4 hH ?_
  refine tk 5 hH ?_
  refine rY 2 fun K hK => ?_
  go_simp
  go_at_call 161
  refine (HL.out _).mono ?_
  rintro e w2 ⟨rfl, g2⟩
  have g2' : Fp Non _ _ := g2.fp
  have F2 := Lib.hid (And.intro (HB.out.1.then g2') (g2'.heap HB.out.2 id))
  have HS2 := Lib.hid (And.intro (boxP7 F2.out.2).2.2.1 (boxP7 F2.out.2).2.1)
  clear g2 g2'
  go_wp2_with fail
  refine hK.out _ _ HS2.out (fun hH => ?_)
  clear hK K
  try simp only [zz]
  refine rY 6 fun K hK => ?_
  go_simp
  go_at_call 127
  refine (HT.out _ F2.out.1).mono ?_
  rintro e w3 ⟨rfl, g3⟩
  have g3' : Fp Non _ _ := g3
  have F3 := Lib.hid (And.intro (F2.out.1.then g3') (g3'.heap F2.out.2 id))
  have HS3 := Lib.hid (And.intro (boxP7 F3.out.2).2.2.1 (boxP7 F3.out.2).2.1)
  clear g3 g3'
  go_wp2_with fail
  refine hK.out _ _ HS3.out (fun hH => ?_)
  clear hK K
  try simp only [zz]
  refine rY 7 fun K hK => ?_
  go_simp
  go_at_call 160
  refine (HN.out _ (HTab.out.non F3.out.1)).mono ?_
  rintro e w4 ⟨rfl, g4⟩
  have g4' : Fp Non _ _ := Gr.fp g4
  have F4 := Lib.hid (And.intro (F3.out.1.then g4') (g4'.heap F3.out.2 id))
  have HS4 := Lib.hid (And.intro (boxP7 F4.out.2).2.2.1 (boxP7 F4.out.2).2.1)
  clear g4 g4'
  go_wp2_with fail
  refine hK.out _ _ HS4.out (fun hH => ?_)
  clear hK K
  try simp only [zz]
  refine tk 8 hH ?_
  refine tk 9 hH ?_
  refine tk 10 hH ?_
  refine tk 11 hH ?_
  refine tk 12 hH ?_
  refine dn ?_
  go_wp2
  go_ret2
  exact ⟨rfl, F4.out.1⟩
 | some q' => ?_
 have hjo := fun w => Join_g d q' w (sz_of hd (by omega)) (sz_of (hnl _ rfl) (by omega))
 have HJ := Lib.hid hjo
 clear hf0 hb0 hp hd htb hst hm hn ht h hla htu hnu hnl hq hq0 htt hnn hjo HB0
 show Calls _ _ _ _ (fun e w' => e = .returned (.tuple #[.string (B ((join d q').getD [])), .bool (join d q').isSome]) ∧ _)
 generalize (join d q').getD [] = r1 at *
 generalize (join d q').isSome = r2 at *
 go_enter Tryz.func124, Tryz.ntmps124
 go_wp2_with fail
 refine wp_region_held_drew (S := (fun w' => w'.cell? ⟨w.heap.size, 2, none⟩ = some (.string (B p)) ∧ w'.cell? ⟨w.heap.size, 1, none⟩ = some (.string (B d)))) (by kernel_rfl) ?_ (fun hH => ?_)
 ·exact HS0.out
 refine tk 0 hH ?_
 refine tk 1 hH ?_
 refine tk 3 hH ?_
 refine tk 4 hH ?_
 refine tk 5 hH ?_
 refine rY 2 fun K hK => ?_
 go_simp
 go_at_call 161
 refine (HL.out _).mono ?_
 rintro e w2 ⟨rfl, g2⟩
 have g2' : Fp Non _ _ := g2.fp
 have F2 := Lib.hid (And.intro (HB.out.1.then g2') (g2'.heap HB.out.2 id))
 have HS2 := Lib.hid (And.intro (boxP7 F2.out.2).2.2.1 (boxP7 F2.out.2).2.1)
 clear g2 g2'
 go_wp2_with fail
 refine hK.out _ _ HS2.out (fun hH => ?_)
 clear hK K
 try simp only [zz]
 refine rY 6 fun K hK => ?_
 go_simp
 go_at_call 127
 refine (HT.out _ F2.out.1).mono ?_
 rintro e w3 ⟨rfl, g3⟩
 have g3' : Fp Non _ _ := g3
 have F3 := Lib.hid (And.intro (F2.out.1.then g3') (g3'.heap F2.out.2 id))
 have HS3 := Lib.hid (And.intro (boxP7 F3.out.2).2.2.1 (boxP7 F3.out.2).2.1)
 clear g3 g3'
 go_wp2_with fail
 refine hK.out _ _ HS3.out (fun hH => ?_)
 clear hK K
 try simp only [zz]
 refine rY 7 fun K hK => ?_
 go_simp
 go_at_call 160
 refine (HN.out _ (HTab.out.non F3.out.1)).mono ?_
 rintro e w4 ⟨rfl, g4⟩
 have g4' : Fp Non _ _ := Gr.fp g4
 have F4 := Lib.hid (And.intro (F3.out.1.then g4') (g4'.heap F3.out.2 id))
 have HS4 := Lib.hid (And.intro (boxP7 F4.out.2).2.2.1 (boxP7 F4.out.2).2.1)
 clear g4 g4'
 go_wp2_with fail
 refine hK.out _ _ HS4.out (fun hH => ?_)
 clear hK K
 try simp only [zz]
 refine tk 8 hH ?_
 refine tk 9 hH ?_
 refine tk 10 hH ?_
 refine tk 11 hH ?_
 refine tk 12 hH ?_
 refine dn ?_
 obtain ⟨s0, s1⟩ := HS4.out
 go_wp2_with fail
 refine (HJ.out _).mono ?_
 rintro e w5 ⟨rfl, g5⟩
 have F5 := Lib.hid (F4.out.1.then (Gr.fp g5))
 clear g5 s0 s1
 go_wp2
 go_ret2
 exact ⟨rfl, F5.out⟩
structure PmR (lo b : Nat) (vn vt : Value) (s' : St) (r : Res) (w : World) (e : Ending) (w' : World) : Prop where
 ex : ∃ nv vn' vt', e = .returned (.agg #[.int .i64 r.err, strV r.path, strV r.data, .int .i64 r.ver, nv]) ∧ Own w.heap.size w' nv r.names ∧ Sw lo b vn' vt' s' w'
 fp : Fp (ownS b vn vt) w w'
theorem PmR.still {lo b : Nat} {vn vt : Value} {s : St} {w w' : World} {r : Res} {nv : Value} (h : Sw lo b vn vt s w) (f : Fp Non w w') (ho : Own w.heap.size w' nv r.names) :
  PmR lo b vn vt s r w (.returned (.agg #[.int .i64 r.err, strV r.path, strV r.data, .int .i64 r.ver, nv])) w' := ⟨⟨nv, vn, vt, rfl, ho, h.non f⟩, f.any⟩
structure Bp (w : World) (k : Int) (d p da : Bs) (v o : Int) (t : Bool) (W : World) : Prop where
 op : W.heap[w.heap.size]? = some (.cells #[.int .i64 k, .string (B d), .string (B p), .string (B da), .int .i64 v, .int .i64 o, .bool t] TP (0, 0))
 res : W.heap[w.heap.size + 1]? = some (.cells #[.int .i64 0, .string ⟨#[]⟩, .string ⟨#[]⟩, .int .i64 0, .slice none 0 0] TR (0, 0))
 sz : w.heap.size + 2 ≤ W.heap.size
theorem Bp.made (w : World) (k : Int) (d p da : Bs) (v o : Int) (t : Bool) : Bp w k d p da v o t ((w.alloc (.cells #[.int .i64 k, .string (B d), .string (B p), .string (B da), .int .i64 v, .int .i64 o, .bool t] TP)).alloc (.cells #[.int .i64 0, .string ⟨#[]⟩, .string ⟨#[]⟩, .int .i64 0, .slice none 0 0] TR)) := by
 refine ⟨?_, ?_, by simp⟩
 ·exact Fp.heap ((Fp.refl Non (w.alloc (.cells #[.int .i64 k, .string (B d), .string (B p), .string (B da), .int .i64 v, .int .i64 o, .bool t] TP))).alloc _) (heap_alloc_new w _) id
 have := heap_alloc_new (w.alloc (.cells #[.int .i64 k, .string (B d), .string (B p), .string (B da), .int .i64 v, .int .i64 o, .bool t] TP)) (.cells #[.int .i64 0, .string ⟨#[]⟩, .string ⟨#[]⟩, .int .i64 0, .slice none 0 0] TR)
 simpa using this
section
variable {w W W' : World} {k : Int} {d p da : Bs} {v o : Int} {t : Bool}
theorem Bp.keep (h : Bp w k d p da v o t W) {S : Nat → Prop} (f : Fp S W W') (hS : ∀ k, S k → k < w.heap.size ∨ w.heap.size + 2 ≤ k) : Bp w k d p da v o t W' :=
 ⟨f.heap h.op (fun h => by have := hS _ h; omega), f.heap h.res (fun h => by have := hS _ h; omega), Nat.le_trans h.sz f.size⟩
theorem Bp.non (h : Bp w k d p da v o t W) (f : Fp Non W W') : Bp w k d p da v o t W' := h.keep f (fun _ h => h.elim)
theorem Bp.r (h : Bp w k d p da v o t W) : W.cell? ⟨w.heap.size + 1, 0, none⟩ = some (.int .i64 0) ∧ W.cell? ⟨w.heap.size + 1, 1, none⟩ = some (.string ⟨#[]⟩) ∧ W.cell? ⟨w.heap.size + 1, 2, none⟩ = some (.string ⟨#[]⟩) ∧ W.cell? ⟨w.heap.size + 1, 3, none⟩ = some (.int .i64 0) ∧ W.cell? ⟨w.heap.size + 1, 4, none⟩ = some (.slice none 0 0) :=
 ⟨by rw [cell_of_row _ _ _ _ _ _ h.res]; rfl, by rw [cell_of_row _ _ _ _ _ _ h.res]; rfl, by rw [cell_of_row _ _ _ _ _ _ h.res]; rfl, by rw [cell_of_row _ _ _ _ _ _ h.res]; rfl, by rw [cell_of_row _ _ _ _ _ _ h.res]; rfl⟩
theorem Bp.fz (h : Bp w k d p da v o t W) : ∀ j, W.frozen? ⟨w.heap.size + 1, j, none⟩ = false := fun j => by simp [World.frozen?, h.res]
theorem Kp.bp (h : Bp w k d p da v o t W) : Kp (fun W' => Bp w k d p da v o t W') W := fun W' f => h.non f
end
theorem Kp.sw {lo b : Nat} {vn vt : Value} {s : St} {W : World} (h : Sw lo b vn vt s W) : Kp (fun W' => Sw lo b vn vt s W') W := fun W' f => h.non f
theorem Sw.keep {lo b : Nat} {vn vt : Value} {s : St} {w w' : World} (h : Sw lo b vn vt s w) {S : Nat → Prop} (f : Fp S w w') (hb : ¬ S b) (h1 : ∀ k, vn.ownBlock = some k → ¬ S k) (h2 : ∀ k, vt.ownBlock = some k → ¬ S k) : Sw lo b vn vt s w' :=
 ⟨f.heap h.blk hb, h.low, h.own.keep f h1, h.ownT.keep f h2, h.neN, h.neT, h.apart⟩
structure Chd (lo b : Nat) (vn vt : Value) (s' : St) (w : World) (k : Int) (d p da : Bs) (v o : Int) (t : Bool) (W : World) : Prop where
 ex : ∃ vn' vt', Sw lo b vn' vt' s' W ∧ vn'.ownBlock ≠ some (w.heap.size + 1) ∧ vt'.ownBlock ≠ some (w.heap.size + 1)
 bp : Bp w k d p da v o t W
 fp : Fp (ownS b vn vt) w W
 lt : b < w.heap.size
theorem Chd.still {lo b : Nat} {vn vt : Value} {s : St} {w W : World} {k : Int} {d p da : Bs} {v o : Int} {t : Bool} (h0 : Sw lo b vn vt s w) (h : Sw lo b vn vt s W) (hb : Bp w k d p da v o t W) (f : Fp Non w W) : Chd lo b vn vt s w k d p da v o t W :=
 ⟨⟨vn, vt, h, fun e => by have := h0.ltN _ e; omega, fun e => by have := h0.ltT _ e; omega⟩, hb, f.any, h0.lt⟩
theorem Chd.non {lo b : Nat} {vn vt : Value} {s' : St} {w W W' : World} {k : Int} {d p da : Bs} {v o : Int} {t : Bool} (h : Chd lo b vn vt s' w k d p da v o t W) (f : Fp Non W W') : Chd lo b vn vt s' w k d p da v o t W' := by
 obtain ⟨vn', vt', h1, h2, h3⟩ := h.ex
 exact ⟨⟨vn', vt', h1.non f, h2, h3⟩, h.bp.non f, h.fp.then f, h.lt⟩
theorem Chd.done {lo b : Nat} {vn vt : Value} {s' : St} {w W : World} {k : Int} {d p da : Bs} {v o : Int} {t : Bool} (h : Chd lo b vn vt s' w k d p da v o t W) (r : Res) (nv : Value) (ho : Own w.heap.size W nv r.names) (hnb : nv.ownBlock = some (w.heap.size + 1) → False)
  (re : Int) (rp rd : ByteArray) (rv : Int) (e1 : re = r.err) (e2 : rp = B r.path) (e3 : rd = B r.data) (e4 : rv = r.ver) :
  PmR lo b vn vt s' r w (.returned (.agg #[.int .i64 re, .string rp, .string rd, .int .i64 rv, nv]))
   (((((W.setCell ⟨w.heap.size + 1, 0, none⟩ (.int .i64 re)).setCell ⟨w.heap.size + 1, 1, none⟩ (.string rp)).setCell ⟨w.heap.size + 1, 2, none⟩ (.string rd)).setCell ⟨w.heap.size + 1, 3, none⟩ (.int .i64 rv)).setCell ⟨w.heap.size + 1, 4, none⟩ nv) := by
 subst e1 e2 e3 e4
 obtain ⟨vn', vt', h1, h2, h3⟩ := h.ex
 have fk := fp5 (S := fun k => k = w.heap.size + 1) (Fp.refl _ W) (b := w.heap.size + 1) (.inl rfl) (.int .i64 r.err) (.string (B r.path)) (.string (B r.data)) (.int .i64 r.ver) nv
 refine ⟨⟨nv, vn', vt', rfl, own5 ho hnb _ _ _ _ _, h1.keep fk (fun e => by have := h.lt; omega) (fun k hk e => h2 (by rw [hk, e])) (fun k hk e => h3 (by rw [hk, e]))⟩, ?_⟩
 exact fp5 (S := ownS b vn vt) h.fp (b := w.heap.size + 1) (.inr (by omega)) _ _ _ _ _
end Go.Proofs.YtphoglepiegeiaaGreatDoor
namespace Go.Proofs.YtphoglepiegeiaaGreatDoor
set_option maxRecDepth 20000
open Go.RowKit Pm
attribute [local irreducible] wpStill
set_option maxHeartbeats 4000000 in
theorem guard_e {lo b : Nat} {vn vt : Value} {s : St} {w : World} (h : Sw lo b vn vt s w) (x : Pt) (hst : StR s) (hm : mayP x = true) (hn : s.nodes.length ≤ 3900) (hnt : s.turns.length ≤ 3900) (ht : Tab w) (hk : x.kind = 1) :
  Calls Tryz.prog 87 #[.pointer (some ⟨b, 0, none⟩), ptV x] w (PmR lo b vn vt (doP s x).1 (doP s x).2 w) := by
 have hp : x.path.length ≤ 100 := split_len ((mayP_iff x).1 hm).2.1
 obtain ⟨k, d, p, da, v, o, t⟩ := x
 obtain rfl : k = 1 := hk
 simp only at hp
 have hf0 : Fp Non w ((w.alloc (.cells #[.int .i64 1, .string (B d), .string (B p), .string (B da), .int .i64 v, .int .i64 o, .bool t] TP)).alloc (.cells #[.int .i64 0, .string ⟨#[]⟩, .string ⟨#[]⟩, .int .i64 0, .slice none 0 0] TR)) := ((Fp.refl Non w).alloc _).alloc _
 have K0 := Lib.hid (Kp.and (Kp.sw (h.non hf0)) (Kp.and (Kp.bp (Bp.made w 1 d p da v o t)) (Kp.and (Kp.fp hf0) (Kp.tab (ht.non hf0)))))
 have HX := Lib.hid (And.intro h (And.intro hst (And.intro hm (And.intro hn hnt))))
 have hpt : ptV ⟨1, d, p, da, v, o, t⟩ = .agg #[.int .i64 1, .string (B d), .string (B p), .string (B da), .int .i64 v, .int .i64 o, .bool t] := rfl
 cases hf : find s.nodes p with
 | none =>
  have e : doP s ⟨1, d, p, da, v, o, t⟩ = (s, .bad 62) := by unfold doP; simp [hf]
  rw [e]
  have hs := fun W (hW : Sw lo b vn vt s W) => node_none hW ⟨1, d, p, da, v, o, t⟩ hst.asc (by omega) hf
  rw [hpt] at hs
  have HS := Lib.hid hs
  clear hs
  clear hf0 h ht hst hm hn hnt hp hf e
  rw [hpt]
  clear hpt
  go_enter Tryz.func87, Tryz.ntmps87
  generalize hW0 : ((w.alloc (.cells #[.int .i64 1, .string (B d), .string (B p), .string (B da), .int .i64 v, .int .i64 o, .bool t] TP)).alloc (.cells #[.int .i64 0, .string ⟨#[]⟩, .string ⟨#[]⟩, .int .i64 0, .slice none 0 0] TR)) = W0 at *
  obtain ⟨o0, o1, o2, o3, o4, o5, o6⟩ := boxP7 K0.out.now.2.1.op
  go_wp2_with fail
  clear hW0
  refine (HS.out _ K0.out.now.1).mono ?_
  rintro e w1 ⟨rfl, hf⟩
  have K1 := Lib.hid (K0.out.later hf)
  clear hf
  clear o0 o1 o2 o3 o4 o5 o6
  go_wp2_with fail
  refine (refusedP_c 62 _).mono ?_
  rintro e w9 ⟨rfl, hf⟩
  have K9 := Lib.hid (K1.out.later hf)
  clear hf
  unfold badV
  have hbr := (Chd.still HX.out.1 K9.out.now.1 K9.out.now.2.1 K9.out.now.2.2.1).bp
  obtain ⟨r0, r1, r2, r3, r4⟩ := hbr.r
  have z0 := hbr.fz 0; have z1 := hbr.fz 1; have z2 := hbr.fz 2; have z3 := hbr.fz 3; have z4 := hbr.fz 4
  have HP := Lib.hid ((Chd.still HX.out.1 K9.out.now.1 K9.out.now.2.1 K9.out.now.2.2.1).done (.bad 62) (.slice none 0 0) (Own.nil _ _) (fun e => by simp [Value.ownBlock] at e) (62) (⟨#[]⟩) (⟨#[]⟩) (0) rfl rfl rfl rfl)
  have HW9 := Lib.hid (set5 hbr.res (.int .i64 62) (.string ⟨#[]⟩) (.string ⟨#[]⟩) (.int .i64 0) (.slice none 0 0))
  clear hbr
  go_wp2
  have hw9 := HW9.out
  have hp9 := HP.out
  generalize (((((World.setCell _ _ _).setCell _ _).setCell _ _).setCell _ _).setCell _ _) = wz at *
  obtain ⟨s0, s1, s2, s3, s4⟩ := b5 hw9
  exact bodyPost_ret (v := .agg #[.int .i64 62, .string ⟨#[]⟩, .string ⟨#[]⟩, .int .i64 0, .slice none 0 0]) (by simp [results, Tryz.results87, go_sem, s0, s1, s2, s3, s4]) rfl hp9
 | some y => ?_
 by_cases ho : y.own = 0
 ·have e : doP s ⟨1, d, p, da, v, o, t⟩ = (s, okR) := by unfold doP; simp [hf, versionedP, ho]
  rw [e]
  have hs := fun W (hW : Sw lo b vn vt s W) => node_some hW ⟨1, d, p, da, v, o, t⟩ hst.asc (by omega) hf
  rw [hpt] at hs
  simp only at hs
  obtain ⟨q, hq⟩ : ∃ q, q = place s.nodes p := ⟨_, rfl⟩
  rw [← hq] at hs
  have HS := Lib.hid hs
  clear hs
  obtain ⟨yp, yd, yv, yt, yo⟩ := y
  simp only at ho
  subst ho
  clear hf0 h ht hst hm hn hnt hp hf e hq
  rw [hpt]
  clear hpt
  go_enter Tryz.func87, Tryz.ntmps87
  generalize hW0 : ((w.alloc (.cells #[.int .i64 1, .string (B d), .string (B p), .string (B da), .int .i64 v, .int .i64 o, .bool t] TP)).alloc (.cells #[.int .i64 0, .string ⟨#[]⟩, .string ⟨#[]⟩, .int .i64 0, .slice none 0 0] TR)) = W0 at *
  obtain ⟨o0, o1, o2, o3, o4, o5, o6⟩ := boxP7 K0.out.now.2.1.op
  go_wp2_with fail
  clear hW0
  refine (HS.out _ K0.out.now.1).mono ?_
  rintro e w1 ⟨G, hG, hnd, rfl, hf⟩
  have K1 := Lib.hid (K0.out.later hf)
  have HN1 := Lib.hid (And.intro hG (hnd.keep hf id))
  clear hnd hG
  clear hf
  clear o0 o1 o2 o3 o4 o5 o6
  have c0 := HN1.out.2.c0; have c1 := HN1.out.2.c1; have c2 := HN1.out.2.c2; have c3 := HN1.out.2.c3; have c4 := HN1.out.2.c4
  unfold strV at c0 c1
  simp only at c0 c1 c2 c3 c4
  have hbr := (Chd.still HX.out.1 K1.out.now.1 K1.out.now.2.1 K1.out.now.2.2.1).bp
  obtain ⟨r0, r1, r2, r3, r4⟩ := hbr.r
  have z0 := hbr.fz 0; have z1 := hbr.fz 1; have z2 := hbr.fz 2; have z3 := hbr.fz 3; have z4 := hbr.fz 4
  have HP := Lib.hid ((Chd.still HX.out.1 K1.out.now.1 K1.out.now.2.1 K1.out.now.2.2.1).done okR (.slice none 0 0) (Own.nil _ _) (fun e => by simp [Value.ownBlock] at e) (0) (⟨#[]⟩) (⟨#[]⟩) (0) rfl rfl rfl rfl)
  have HW9 := Lib.hid (set5 hbr.res (.int .i64 0) (.string ⟨#[]⟩) (.string ⟨#[]⟩) (.int .i64 0) (.slice none 0 0))
  clear hbr
  go_wp2
  have hw9 := HW9.out
  have hp9 := HP.out
  generalize (((((World.setCell _ _ _).setCell _ _).setCell _ _).setCell _ _).setCell _ _) = wz at *
  obtain ⟨s0, s1, s2, s3, s4⟩ := b5 hw9
  exact bodyPost_ret (v := .agg #[.int .i64 0, .string ⟨#[]⟩, .string ⟨#[]⟩, .int .i64 0, .slice none 0 0]) (by simp [results, Tryz.results87, go_sem, s0, s1, s2, s3, s4]) rfl hp9
 have e : doP s ⟨1, d, p, da, v, o, t⟩ = (s, .bad 65) := by unfold doP; simp [hf, versionedP, ho]
 rw [e]
 have q1 : (y.own != 0) = true := by simpa using ho
 have q2 : (y.own == 0) = false := by simpa using ho
 have q3 : (y.own = 0) = False := eq_false ho
 have hs := fun W (hW : Sw lo b vn vt s W) => node_some hW ⟨1, d, p, da, v, o, t⟩ hst.asc (by omega) hf
 rw [hpt] at hs
 simp only at hs
 obtain ⟨q, hq⟩ : ∃ q, q = place s.nodes p := ⟨_, rfl⟩
 rw [← hq] at hs
 have HS := Lib.hid hs
 clear hs
 clear hf0 h ht hst hm hn hnt hp hf e hq ho
 rw [hpt]
 clear hpt
 go_enter Tryz.func87, Tryz.ntmps87
 generalize hW0 : ((w.alloc (.cells #[.int .i64 1, .string (B d), .string (B p), .string (B da), .int .i64 v, .int .i64 o, .bool t] TP)).alloc (.cells #[.int .i64 0, .string ⟨#[]⟩, .string ⟨#[]⟩, .int .i64 0, .slice none 0 0] TR)) = W0 at *
 obtain ⟨o0, o1, o2, o3, o4, o5, o6⟩ := boxP7 K0.out.now.2.1.op
 go_wp2_with fail
 clear hW0
 refine (HS.out _ K0.out.now.1).mono ?_
 rintro e w1 ⟨G, hG, hnd, rfl, hf⟩
 have K1 := Lib.hid (K0.out.later hf)
 have HN1 := Lib.hid (And.intro hG (hnd.keep hf id))
 clear hnd hG
 clear hf
 clear o0 o1 o2 o3 o4 o5 o6
 have c0 := HN1.out.2.c0; have c1 := HN1.out.2.c1; have c2 := HN1.out.2.c2; have c3 := HN1.out.2.c3; have c4 := HN1.out.2.c4
 unfold strV at c0 c1
 go_wp2_with fail
 refine (refusedP_c 65 _).mono ?_
 rintro e w9 ⟨rfl, hf⟩
 have K9 := Lib.hid (K1.out.later hf)
 clear hf
 unfold badV
 have hbr := (Chd.still HX.out.1 K9.out.now.1 K9.out.now.2.1 K9.out.now.2.2.1).bp
 obtain ⟨r0, r1, r2, r3, r4⟩ := hbr.r
 have z0 := hbr.fz 0; have z1 := hbr.fz 1; have z2 := hbr.fz 2; have z3 := hbr.fz 3; have z4 := hbr.fz 4
 have HP := Lib.hid ((Chd.still HX.out.1 K9.out.now.1 K9.out.now.2.1 K9.out.now.2.2.1).done (.bad 65) (.slice none 0 0) (Own.nil _ _) (fun e => by simp [Value.ownBlock] at e) (65) (⟨#[]⟩) (⟨#[]⟩) (0) rfl rfl rfl rfl)
 have HW9 := Lib.hid (set5 hbr.res (.int .i64 65) (.string ⟨#[]⟩) (.string ⟨#[]⟩) (.int .i64 0) (.slice none 0 0))
 clear hbr
 go_wp2
 have hw9 := HW9.out
 have hp9 := HP.out
 generalize (((((World.setCell _ _ _).setCell _ _).setCell _ _).setCell _ _).setCell _ _) = wz at *
 obtain ⟨s0, s1, s2, s3, s4⟩ := b5 hw9
 exact bodyPost_ret (v := .agg #[.int .i64 65, .string ⟨#[]⟩, .string ⟨#[]⟩, .int .i64 0, .slice none 0 0]) (by simp [results, Tryz.results87, go_sem, s0, s1, s2, s3, s4]) rfl hp9
set_option maxHeartbeats 4000000 in
theorem has_e {lo b : Nat} {vn vt : Value} {s : St} {w : World} (h : Sw lo b vn vt s w) (x : Pt) (hst : StR s) (hm : mayP x = true) (hn : s.nodes.length ≤ 3900) (hnt : s.turns.length ≤ 3900) (ht : Tab w) (hk : x.kind = 8) :
  Calls Tryz.prog 94 #[.pointer (some ⟨b, 0, none⟩), ptV x] w (PmR lo b vn vt (doP s x).1 (doP s x).2 w) := by
 have hp : x.path.length ≤ 100 := split_len ((mayP_iff x).1 hm).2.1
 obtain ⟨k, d, p, da, v, o, t⟩ := x
 obtain rfl : k = 8 := hk
 simp only at hp
 have hf0 : Fp Non w ((w.alloc (.cells #[.int .i64 8, .string (B d), .string (B p), .string (B da), .int .i64 v, .int .i64 o, .bool t] TP)).alloc (.cells #[.int .i64 0, .string ⟨#[]⟩, .string ⟨#[]⟩, .int .i64 0, .slice none 0 0] TR)) := ((Fp.refl Non w).alloc _).alloc _
 have K0 := Lib.hid (Kp.and (Kp.sw (h.non hf0)) (Kp.and (Kp.bp (Bp.made w 8 d p da v o t)) (Kp.and (Kp.fp hf0) (Kp.tab (ht.non hf0)))))
 have HX := Lib.hid (And.intro h (And.intro hst (And.intro hm (And.intro hn hnt))))
 have hpt : ptV ⟨8, d, p, da, v, o, t⟩ = .agg #[.int .i64 8, .string (B d), .string (B p), .string (B da), .int .i64 v, .int .i64 o, .bool t] := rfl
 cases hf : find s.nodes p with
 | none =>
  have e : doP s ⟨8, d, p, da, v, o, t⟩ = (s, .bad 62) := by unfold doP; simp [hf]
  rw [e]
  have hs := fun W (hW : Sw lo b vn vt s W) => node_none hW ⟨8, d, p, da, v, o, t⟩ hst.asc (by omega) hf
  rw [hpt] at hs
  have HS := Lib.hid hs
  clear hs
  clear hf0 h ht hst hm hn hnt hp hf e
  rw [hpt]
  clear hpt
  go_enter Tryz.func94, Tryz.ntmps94
  generalize hW0 : ((w.alloc (.cells #[.int .i64 8, .string (B d), .string (B p), .string (B da), .int .i64 v, .int .i64 o, .bool t] TP)).alloc (.cells #[.int .i64 0, .string ⟨#[]⟩, .string ⟨#[]⟩, .int .i64 0, .slice none 0 0] TR)) = W0 at *
  obtain ⟨o0, o1, o2, o3, o4, o5, o6⟩ := boxP7 K0.out.now.2.1.op
  go_wp2_with fail
  clear hW0
  refine (HS.out _ K0.out.now.1).mono ?_
  rintro e w1 ⟨rfl, hf⟩
  have K1 := Lib.hid (K0.out.later hf)
  clear hf
  clear o0 o1 o2 o3 o4 o5 o6
  have hbr := (Chd.still HX.out.1 K1.out.now.1 K1.out.now.2.1 K1.out.now.2.2.1).bp
  obtain ⟨r0, r1, r2, r3, r4⟩ := hbr.r
  have z0 := hbr.fz 0; have z1 := hbr.fz 1; have z2 := hbr.fz 2; have z3 := hbr.fz 3; have z4 := hbr.fz 4
  have HP := Lib.hid ((Chd.still HX.out.1 K1.out.now.1 K1.out.now.2.1 K1.out.now.2.2.1).done (.bad 62) (.slice none 0 0) (Own.nil _ _) (fun e => by simp [Value.ownBlock] at e) (62) (⟨#[]⟩) (⟨#[]⟩) (0) rfl rfl rfl rfl)
  have HW9 := Lib.hid (set5 hbr.res (.int .i64 62) (.string ⟨#[]⟩) (.string ⟨#[]⟩) (.int .i64 0) (.slice none 0 0))
  clear hbr
  go_wp2
  have hw9 := HW9.out
  have hp9 := HP.out
  generalize (((((World.setCell _ _ _).setCell _ _).setCell _ _).setCell _ _).setCell _ _) = wz at *
  obtain ⟨s0, s1, s2, s3, s4⟩ := b5 hw9
  exact bodyPost_ret (v := .agg #[.int .i64 62, .string ⟨#[]⟩, .string ⟨#[]⟩, .int .i64 0, .slice none 0 0]) (by simp [results, Tryz.results94, go_sem, s0, s1, s2, s3, s4]) rfl hp9
 | some y => ?_
 have e : doP s ⟨8, d, p, da, v, o, t⟩ = (s, okR) := by unfold doP; simp [hf, versionedP]
 rw [e]
 have hs := fun W (hW : Sw lo b vn vt s W) => node_some hW ⟨8, d, p, da, v, o, t⟩ hst.asc (by omega) hf
 rw [hpt] at hs
 simp only at hs
 obtain ⟨q, hq⟩ : ∃ q, q = place s.nodes p := ⟨_, rfl⟩
 rw [← hq] at hs
 have HS := Lib.hid hs
 clear hs
 clear hf0 h ht hst hm hn hnt hp hf e hq
 rw [hpt]
 clear hpt
 go_enter Tryz.func94, Tryz.ntmps94
 generalize hW0 : ((w.alloc (.cells #[.int .i64 8, .string (B d), .string (B p), .string (B da), .int .i64 v, .int .i64 o, .bool t] TP)).alloc (.cells #[.int .i64 0, .string ⟨#[]⟩, .string ⟨#[]⟩, .int .i64 0, .slice none 0 0] TR)) = W0 at *
 obtain ⟨o0, o1, o2, o3, o4, o5, o6⟩ := boxP7 K0.out.now.2.1.op
 go_wp2_with fail
 clear hW0
 refine (HS.out _ K0.out.now.1).mono ?_
 rintro e w1 ⟨G, hG, hnd, rfl, hf⟩
 have K1 := Lib.hid (K0.out.later hf)
 have HN1 := Lib.hid (And.intro hG (hnd.keep hf id))
 clear hnd hG
 clear hf
 clear o0 o1 o2 o3 o4 o5 o6
 have hbr := (Chd.still HX.out.1 K1.out.now.1 K1.out.now.2.1 K1.out.now.2.2.1).bp
 obtain ⟨r0, r1, r2, r3, r4⟩ := hbr.r
 have z0 := hbr.fz 0; have z1 := hbr.fz 1; have z2 := hbr.fz 2; have z3 := hbr.fz 3; have z4 := hbr.fz 4
 have HP := Lib.hid ((Chd.still HX.out.1 K1.out.now.1 K1.out.now.2.1 K1.out.now.2.2.1).done okR (.slice none 0 0) (Own.nil _ _) (fun e => by simp [Value.ownBlock] at e) (0) (⟨#[]⟩) (⟨#[]⟩) (0) rfl rfl rfl rfl)
 have HW9 := Lib.hid (set5 hbr.res (.int .i64 0) (.string ⟨#[]⟩) (.string ⟨#[]⟩) (.int .i64 0) (.slice none 0 0))
 clear hbr
 go_wp2
 have hw9 := HW9.out
 have hp9 := HP.out
 generalize (((((World.setCell _ _ _).setCell _ _).setCell _ _).setCell _ _).setCell _ _) = wz at *
 obtain ⟨s0, s1, s2, s3, s4⟩ := b5 hw9
 exact bodyPost_ret (v := .agg #[.int .i64 0, .string ⟨#[]⟩, .string ⟨#[]⟩, .int .i64 0, .slice none 0 0]) (by simp [results, Tryz.results94, go_sem, s0, s1, s2, s3, s4]) rfl hp9
set_option maxHeartbeats 4000000 in
theorem look_e {lo b : Nat} {vn vt : Value} {s : St} {w : World} (h : Sw lo b vn vt s w) (x : Pt) (hst : StR s) (hm : mayP x = true) (hn : s.nodes.length ≤ 3900) (hnt : s.turns.length ≤ 3900) (ht : Tab w) (hk : x.kind = 6) :
  Calls Tryz.prog 92 #[.pointer (some ⟨b, 0, none⟩), ptV x] w (PmR lo b vn vt (doP s x).1 (doP s x).2 w) := by
 have hp : x.path.length ≤ 100 := split_len ((mayP_iff x).1 hm).2.1
 obtain ⟨k, d, p, da, v, o, t⟩ := x
 obtain rfl : k = 6 := hk
 simp only at hp
 have hf0 : Fp Non w ((w.alloc (.cells #[.int .i64 6, .string (B d), .string (B p), .string (B da), .int .i64 v, .int .i64 o, .bool t] TP)).alloc (.cells #[.int .i64 0, .string ⟨#[]⟩, .string ⟨#[]⟩, .int .i64 0, .slice none 0 0] TR)) := ((Fp.refl Non w).alloc _).alloc _
 have K0 := Lib.hid (Kp.and (Kp.sw (h.non hf0)) (Kp.and (Kp.bp (Bp.made w 6 d p da v o t)) (Kp.and (Kp.fp hf0) (Kp.tab (ht.non hf0)))))
 have HX := Lib.hid (And.intro h (And.intro hst (And.intro hm (And.intro hn hnt))))
 have hpt : ptV ⟨6, d, p, da, v, o, t⟩ = .agg #[.int .i64 6, .string (B d), .string (B p), .string (B da), .int .i64 v, .int .i64 o, .bool t] := rfl
 cases hf : find s.nodes p with
 | none =>
  have e : doP s ⟨6, d, p, da, v, o, t⟩ = (s, .bad 62) := by unfold doP; simp [hf]
  rw [e]
  have hs := fun W (hW : Sw lo b vn vt s W) => versioned_none hW ⟨6, d, p, da, v, o, t⟩ hst.asc (by omega) hf
  rw [hpt] at hs
  have HS := Lib.hid hs
  clear hs
  clear hf0 h ht hst hm hn hnt hp hf e
  rw [hpt]
  clear hpt
  go_enter Tryz.func92, Tryz.ntmps92
  generalize hW0 : ((w.alloc (.cells #[.int .i64 6, .string (B d), .string (B p), .string (B da), .int .i64 v, .int .i64 o, .bool t] TP)).alloc (.cells #[.int .i64 0, .string ⟨#[]⟩, .string ⟨#[]⟩, .int .i64 0, .slice none 0 0] TR)) = W0 at *
  obtain ⟨o0, o1, o2, o3, o4, o5, o6⟩ := boxP7 K0.out.now.2.1.op
  go_wp2_with fail
  clear hW0
  refine (HS.out _ K0.out.now.1).mono ?_
  rintro e w1 ⟨rfl, hf⟩
  have K1 := Lib.hid (K0.out.later hf)
  clear hf
  clear o0 o1 o2 o3 o4 o5 o6
  go_wp2_with fail
  refine (refusedP_c 62 _).mono ?_
  rintro e w9 ⟨rfl, hf⟩
  have K9 := Lib.hid (K1.out.later hf)
  clear hf
  unfold badV
  have hbr := (Chd.still HX.out.1 K9.out.now.1 K9.out.now.2.1 K9.out.now.2.2.1).bp
  obtain ⟨r0, r1, r2, r3, r4⟩ := hbr.r
  have z0 := hbr.fz 0; have z1 := hbr.fz 1; have z2 := hbr.fz 2; have z3 := hbr.fz 3; have z4 := hbr.fz 4
  have HP := Lib.hid ((Chd.still HX.out.1 K9.out.now.1 K9.out.now.2.1 K9.out.now.2.2.1).done (.bad 62) (.slice none 0 0) (Own.nil _ _) (fun e => by simp [Value.ownBlock] at e) (62) (⟨#[]⟩) (⟨#[]⟩) (0) rfl rfl rfl rfl)
  have HW9 := Lib.hid (set5 hbr.res (.int .i64 62) (.string ⟨#[]⟩) (.string ⟨#[]⟩) (.int .i64 0) (.slice none 0 0))
  clear hbr
  go_wp2
  have hw9 := HW9.out
  have hp9 := HP.out
  generalize (((((World.setCell _ _ _).setCell _ _).setCell _ _).setCell _ _).setCell _ _) = wz at *
  obtain ⟨s0, s1, s2, s3, s4⟩ := b5 hw9
  exact bodyPost_ret (v := .agg #[.int .i64 62, .string ⟨#[]⟩, .string ⟨#[]⟩, .int .i64 0, .slice none 0 0]) (by simp [results, Tryz.results92, go_sem, s0, s1, s2, s3, s4]) rfl hp9
 | some y => ?_
 by_cases hv : 0 ≤ v ∧ v ≠ y.ver
 ·have e : doP s ⟨6, d, p, da, v, o, t⟩ = (s, .bad 63) := by unfold doP; simp [hf, versionedP, hv]
  rw [e]
  have hs := fun W (hW : Sw lo b vn vt s W) => versioned_bad hW ⟨6, d, p, da, v, o, t⟩ hst.asc (by omega) hf hv
  rw [hpt] at hs
  have HS := Lib.hid hs
  clear hs
  clear hf0 h ht hst hm hn hnt hp hf e hv
  rw [hpt]
  clear hpt
  go_enter Tryz.func92, Tryz.ntmps92
  generalize hW0 : ((w.alloc (.cells #[.int .i64 6, .string (B d), .string (B p), .string (B da), .int .i64 v, .int .i64 o, .bool t] TP)).alloc (.cells #[.int .i64 0, .string ⟨#[]⟩, .string ⟨#[]⟩, .int .i64 0, .slice none 0 0] TR)) = W0 at *
  obtain ⟨o0, o1, o2, o3, o4, o5, o6⟩ := boxP7 K0.out.now.2.1.op
  go_wp2_with fail
  clear hW0
  refine (HS.out _ K0.out.now.1).mono ?_
  rintro e w1 ⟨rfl, hf⟩
  have K1 := Lib.hid (K0.out.later hf)
  clear hf
  clear o0 o1 o2 o3 o4 o5 o6
  go_wp2_with fail
  refine (refusedP_c 63 _).mono ?_
  rintro e w9 ⟨rfl, hf⟩
  have K9 := Lib.hid (K1.out.later hf)
  clear hf
  unfold badV
  have hbr := (Chd.still HX.out.1 K9.out.now.1 K9.out.now.2.1 K9.out.now.2.2.1).bp
  obtain ⟨r0, r1, r2, r3, r4⟩ := hbr.r
  have z0 := hbr.fz 0; have z1 := hbr.fz 1; have z2 := hbr.fz 2; have z3 := hbr.fz 3; have z4 := hbr.fz 4
  have HP := Lib.hid ((Chd.still HX.out.1 K9.out.now.1 K9.out.now.2.1 K9.out.now.2.2.1).done (.bad 63) (.slice none 0 0) (Own.nil _ _) (fun e => by simp [Value.ownBlock] at e) (63) (⟨#[]⟩) (⟨#[]⟩) (0) rfl rfl rfl rfl)
  have HW9 := Lib.hid (set5 hbr.res (.int .i64 63) (.string ⟨#[]⟩) (.string ⟨#[]⟩) (.int .i64 0) (.slice none 0 0))
  clear hbr
  go_wp2
  have hw9 := HW9.out
  have hp9 := HP.out
  generalize (((((World.setCell _ _ _).setCell _ _).setCell _ _).setCell _ _).setCell _ _) = wz at *
  obtain ⟨s0, s1, s2, s3, s4⟩ := b5 hw9
  exact bodyPost_ret (v := .agg #[.int .i64 63, .string ⟨#[]⟩, .string ⟨#[]⟩, .int .i64 0, .slice none 0 0]) (by simp [results, Tryz.results92, go_sem, s0, s1, s2, s3, s4]) rfl hp9
 have e : doP s ⟨6, d, p, da, v, o, t⟩ = (s, ⟨0, [], [], y.ver, []⟩) := by unfold doP; simp [hf, versionedP, hv]
 rw [e]
 have hs := fun W (hW : Sw lo b vn vt s W) => versioned_ok hW ⟨6, d, p, da, v, o, t⟩ hst.asc (by omega) hf hv
 rw [hpt] at hs
 simp only at hs
 obtain ⟨q, hq⟩ : ∃ q, q = place s.nodes p := ⟨_, rfl⟩
 rw [← hq] at hs
 have HS := Lib.hid hs
 clear hs
 clear hf0 h ht hst hm hn hnt hp hf e hq hv
 rw [hpt]
 clear hpt
 go_enter Tryz.func92, Tryz.ntmps92
 generalize hW0 : ((w.alloc (.cells #[.int .i64 6, .string (B d), .string (B p), .string (B da), .int .i64 v, .int .i64 o, .bool t] TP)).alloc (.cells #[.int .i64 0, .string ⟨#[]⟩, .string ⟨#[]⟩, .int .i64 0, .slice none 0 0] TR)) = W0 at *
 obtain ⟨o0, o1, o2, o3, o4, o5, o6⟩ := boxP7 K0.out.now.2.1.op
 go_wp2_with fail
 clear hW0
 refine (HS.out _ K0.out.now.1).mono ?_
 rintro e w1 ⟨G, hG, hnd, rfl, hf⟩
 have K1 := Lib.hid (K0.out.later hf)
 have HN1 := Lib.hid (And.intro hG (hnd.keep hf id))
 clear hnd hG
 clear hf
 clear o0 o1 o2 o3 o4 o5 o6
 have c0 := HN1.out.2.c0; have c1 := HN1.out.2.c1; have c2 := HN1.out.2.c2; have c3 := HN1.out.2.c3; have c4 := HN1.out.2.c4
 unfold strV at c0 c1
 have hbr := (Chd.still HX.out.1 K1.out.now.1 K1.out.now.2.1 K1.out.now.2.2.1).bp
 obtain ⟨r0, r1, r2, r3, r4⟩ := hbr.r
 have z0 := hbr.fz 0; have z1 := hbr.fz 1; have z2 := hbr.fz 2; have z3 := hbr.fz 3; have z4 := hbr.fz 4
 have HP := Lib.hid ((Chd.still HX.out.1 K1.out.now.1 K1.out.now.2.1 K1.out.now.2.2.1).done ⟨0, [], [], y.ver, []⟩ (.slice none 0 0) (Own.nil _ _) (fun e => by simp [Value.ownBlock] at e) (0) (⟨#[]⟩) (⟨#[]⟩) (y.ver) rfl rfl rfl rfl)
 have HW9 := Lib.hid (set5 hbr.res (.int .i64 0) (.string ⟨#[]⟩) (.string ⟨#[]⟩) (.int .i64 y.ver) (.slice none 0 0))
 clear hbr
 go_wp2
 have hw9 := HW9.out
 have hp9 := HP.out
 generalize (((((World.setCell _ _ _).setCell _ _).setCell _ _).setCell _ _).setCell _ _) = wz at *
 obtain ⟨s0, s1, s2, s3, s4⟩ := b5 hw9
 exact bodyPost_ret (v := .agg #[.int .i64 0, .string ⟨#[]⟩, .string ⟨#[]⟩, .int .i64 y.ver, .slice none 0 0]) (by simp [results, Tryz.results92, go_sem, s0, s1, s2, s3, s4]) rfl hp9
set_option maxHeartbeats 4000000 in
theorem read_e {lo b : Nat} {vn vt : Value} {s : St} {w : World} (h : Sw lo b vn vt s w) (x : Pt) (hst : StR s) (hm : mayP x = true) (hn : s.nodes.length ≤ 3900) (hnt : s.turns.length ≤ 3900) (ht : Tab w) (hk : x.kind = 7) :
  Calls Tryz.prog 93 #[.pointer (some ⟨b, 0, none⟩), ptV x] w (PmR lo b vn vt (doP s x).1 (doP s x).2 w) := by
 have hp : x.path.length ≤ 100 := split_len ((mayP_iff x).1 hm).2.1
 obtain ⟨k, d, p, da, v, o, t⟩ := x
 obtain rfl : k = 7 := hk
 simp only at hp
 have hf0 : Fp Non w ((w.alloc (.cells #[.int .i64 7, .string (B d), .string (B p), .string (B da), .int .i64 v, .int .i64 o, .bool t] TP)).alloc (.cells #[.int .i64 0, .string ⟨#[]⟩, .string ⟨#[]⟩, .int .i64 0, .slice none 0 0] TR)) := ((Fp.refl Non w).alloc _).alloc _
 have K0 := Lib.hid (Kp.and (Kp.sw (h.non hf0)) (Kp.and (Kp.bp (Bp.made w 7 d p da v o t)) (Kp.and (Kp.fp hf0) (Kp.tab (ht.non hf0)))))
 have HX := Lib.hid (And.intro h (And.intro hst (And.intro hm (And.intro hn hnt))))
 have hpt : ptV ⟨7, d, p, da, v, o, t⟩ = .agg #[.int .i64 7, .string (B d), .string (B p), .string (B da), .int .i64 v, .int .i64 o, .bool t] := rfl
 cases hf : find s.nodes p with
 | none =>
  have e : doP s ⟨7, d, p, da, v, o, t⟩ = (s, .bad 62) := by unfold doP; simp [hf]
  rw [e]
  have hs := fun W (hW : Sw lo b vn vt s W) => node_none hW ⟨7, d, p, da, v, o, t⟩ hst.asc (by omega) hf
  rw [hpt] at hs
  have HS := Lib.hid hs
  clear hs
  clear hf0 h ht hst hm hn hnt hp hf e
  rw [hpt]
  clear hpt
  go_enter Tryz.func93, Tryz.ntmps93
  generalize hW0 : ((w.alloc (.cells #[.int .i64 7, .string (B d), .string (B p), .string (B da), .int .i64 v, .int .i64 o, .bool t] TP)).alloc (.cells #[.int .i64 0, .string ⟨#[]⟩, .string ⟨#[]⟩, .int .i64 0, .slice none 0 0] TR)) = W0 at *
  obtain ⟨o0, o1, o2, o3, o4, o5, o6⟩ := boxP7 K0.out.now.2.1.op
  go_wp2_with fail
  clear hW0
  refine (HS.out _ K0.out.now.1).mono ?_
  rintro e w1 ⟨rfl, hf⟩
  have K1 := Lib.hid (K0.out.later hf)
  clear hf
  clear o0 o1 o2 o3 o4 o5 o6
  go_wp2_with fail
  refine (refusedP_c 62 _).mono ?_
  rintro e w9 ⟨rfl, hf⟩
  have K9 := Lib.hid (K1.out.later hf)
  clear hf
  unfold badV
  have hbr := (Chd.still HX.out.1 K9.out.now.1 K9.out.now.2.1 K9.out.now.2.2.1).bp
  obtain ⟨r0, r1, r2, r3, r4⟩ := hbr.r
  have z0 := hbr.fz 0; have z1 := hbr.fz 1; have z2 := hbr.fz 2; have z3 := hbr.fz 3; have z4 := hbr.fz 4
  have HP := Lib.hid ((Chd.still HX.out.1 K9.out.now.1 K9.out.now.2.1 K9.out.now.2.2.1).done (.bad 62) (.slice none 0 0) (Own.nil _ _) (fun e => by simp [Value.ownBlock] at e) (62) (⟨#[]⟩) (⟨#[]⟩) (0) rfl rfl rfl rfl)
  have HW9 := Lib.hid (set5 hbr.res (.int .i64 62) (.string ⟨#[]⟩) (.string ⟨#[]⟩) (.int .i64 0) (.slice none 0 0))
  clear hbr
  go_wp2
  have hw9 := HW9.out
  have hp9 := HP.out
  generalize (((((World.setCell _ _ _).setCell _ _).setCell _ _).setCell _ _).setCell _ _) = wz at *
  obtain ⟨s0, s1, s2, s3, s4⟩ := b5 hw9
  exact bodyPost_ret (v := .agg #[.int .i64 62, .string ⟨#[]⟩, .string ⟨#[]⟩, .int .i64 0, .slice none 0 0]) (by simp [results, Tryz.results93, go_sem, s0, s1, s2, s3, s4]) rfl hp9
 | some y => ?_
 have e : doP s ⟨7, d, p, da, v, o, t⟩ = (s, ⟨0, [], y.data, y.ver, []⟩) := by unfold doP; simp [hf, versionedP]
 rw [e]
 have hs := fun W (hW : Sw lo b vn vt s W) => node_some hW ⟨7, d, p, da, v, o, t⟩ hst.asc (by omega) hf
 rw [hpt] at hs
 simp only at hs
 obtain ⟨q, hq⟩ : ∃ q, q = place s.nodes p := ⟨_, rfl⟩
 rw [← hq] at hs
 have HS := Lib.hid hs
 clear hs
 clear hf0 h ht hst hm hn hnt hp hf e hq
 rw [hpt]
 clear hpt
 go_enter Tryz.func93, Tryz.ntmps93
 generalize hW0 : ((w.alloc (.cells #[.int .i64 7, .string (B d), .string (B p), .string (B da), .int .i64 v, .int .i64 o, .bool t] TP)).alloc (.cells #[.int .i64 0, .string ⟨#[]⟩, .string ⟨#[]⟩, .int .i64 0, .slice none 0 0] TR)) = W0 at *
 obtain ⟨o0, o1, o2, o3, o4, o5, o6⟩ := boxP7 K0.out.now.2.1.op
 go_wp2_with fail
 clear hW0
 refine (HS.out _ K0.out.now.1).mono ?_
 rintro e w1 ⟨G, hG, hnd, rfl, hf⟩
 have K1 := Lib.hid (K0.out.later hf)
 have HN1 := Lib.hid (And.intro hG (hnd.keep hf id))
 clear hnd hG
 clear hf
 clear o0 o1 o2 o3 o4 o5 o6
 have KD := Lib.hid (K1.out.later ((Fp.refl Non w1).drew))
 have HND := Lib.hid (HN1.out.2.keep ((Fp.refl Non w1).drew) id)
 have c1 := HND.out.c1; have c2 := HND.out.c2
 unfold strV at c1
 go_wp2_with fail
 refine wp_region_still_tail 9 (by kernel_rfl) (by kernel_rfl) ?_
 simp only [List.take_succ_cons, List.take_zero, List.drop_succ_cons, List.drop_zero]
 change wpStill _ _ (World.drew _) _ _ _
 repeat still_step
 refine wpStill_nil ?_
 change wpList _ _ _ _ _ (World.drew _)
 generalize World.drew w1 = W1 at *
 have hbr := (Chd.still HX.out.1 KD.out.now.1 KD.out.now.2.1 KD.out.now.2.2.1).bp
 obtain ⟨r0, r1, r2, r3, r4⟩ := hbr.r
 have z0 := hbr.fz 0; have z1 := hbr.fz 1; have z2 := hbr.fz 2; have z3 := hbr.fz 3; have z4 := hbr.fz 4
 have HP := Lib.hid ((Chd.still HX.out.1 KD.out.now.1 KD.out.now.2.1 KD.out.now.2.2.1).done ⟨0, [], y.data, y.ver, []⟩ (.slice none 0 0) (Own.nil _ _) (fun e => by simp [Value.ownBlock] at e) (0) (⟨#[]⟩) ((B y.data)) (y.ver) rfl rfl rfl rfl)
 have HW9 := Lib.hid (set5 hbr.res (.int .i64 0) (.string ⟨#[]⟩) (.string (B y.data)) (.int .i64 y.ver) (.slice none 0 0))
 clear hbr
 go_wp2
 have hw9 := HW9.out
 have hp9 := HP.out
 generalize (((((World.setCell _ _ _).setCell _ _).setCell _ _).setCell _ _).setCell _ _) = wz at *
 obtain ⟨s0, s1, s2, s3, s4⟩ := b5 hw9
 exact bodyPost_ret (v := .agg #[.int .i64 0, .string ⟨#[]⟩, .string (B y.data), .int .i64 y.ver, .slice none 0 0]) (by simp [results, Tryz.results93, go_sem, s0, s1, s2, s3, s4]) rfl hp9
end Go.Proofs.YtphoglepiegeiaaGreatDoor
