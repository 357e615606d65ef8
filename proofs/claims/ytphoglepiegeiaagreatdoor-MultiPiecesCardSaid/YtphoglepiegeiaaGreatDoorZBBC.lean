/- A text of this proof. -/
import Derived.Deep.CutRange
import Derived.Deep.Upon
import Derived.Ground.SlsfProg
import Derived.Shelf.SlSortCmp.NoneTotal
import Derived.Shelf.SlSortCmp.WholeK
import Derived.Test.YtphoglepiegeiaaGreatDoorProg
import Derived.Test.YtphoglepiegeiaaGreatDoorZBB
import Derived.Test.YtphoglepiegeiaaGreatDoorZBBA
import Derived.Test.YtphoglepiegeiaaGreatDoorZBBB
import Derived.Test.YtphoglepiegeiaaGreatDoorZBF
import Derived.Test.YtphoglepiegeiaaGreatDoorZBG
import Derived.Test.YtphoglepiegeiaaGreatDoorZBH
import Derived.Test.YtphoglepiegeiaaGreatDoorZBL
import Derived.Test.YtphoglepiegeiaaGreatDoorZBQ
import Derived.Test.YtphoglepiegeiaaGreatDoorZBT
import Derived.Test.YtphoglepiegeiaaGreatDoorZBY
set_option linter.unusedSimpArgs false
set_option linter.unusedVariables false
namespace Go.Proofs.YtphoglepiegeiaaGreatDoor
set_option maxRecDepth 20000
open Go.RowKit Pm
theorem fTu : (Tryz.prog.fieldsOf TU).toList = [⟨ "Dir", 9, 0, false, "", "", 0⟩, ⟨ "Next", 2, 1, false, "", "", 16⟩] := by kernel_rfl
theorem eq_tu (w : World) (p p' : ByteArray) (v v' : Int) : (Op.equalIn 10000 TU (.agg #[.string p, .int .i64 v]) (.agg #[.string p', .int .i64 v'])).run Tryz.prog w =
  .ok (decide (p.toList = p'.toList ∧ v = v')) w := by
 rw [run_equalIn_agg w 9999 TU _ _ (by kernel_rfl) (by kernel_rfl), fTu]
 have e2 := fun w a b => run_equalIn_int (P := Tryz.prog) w 9998 2 .i64 .i64 a b Tryz.underlying2
 have e3 := fun w a b => run_equalIn_string (P := Tryz.prog) w 9998 9 a b Tryz.underlying9
 simp only [Op.eqFields]
 simp [e2, e3, go_sem]
 by_cases h2 : p.toList = p'.toList <;> by_cases h4 : v = v' <;> simp [h2, h4]
theorem eq_tus (w : World) (x y : Tu) : (Op.equalIn 10000 TU (.agg #[.string (B x.dir), .int .i64 x.next]) (.agg #[.string (B y.dir), .int .i64 y.next])).run Tryz.prog w = .ok (decide (x = y)) w := by
 rw [eq_tu]
 congr 1
 simp only [B_list]
 obtain ⟨_, _⟩ := x
 obtain ⟨_, _⟩ := y
 simp
structure SsM (a b : List Tu) (w : World) (k : Nat) (wr : World) : Prop where
 fp : Fp Non w wr
 eq : a.take k = b.take k
theorem take_succ_eqT {a b : List Tu} {k : Nat} (ha : k < a.length) (hb : k < b.length) (h : a.take k = b.take k) (e : a[k] = b[k]) : a.take (k + 1) = b.take (k + 1) := by
 rw [List.take_succ_eq_append_getElem ha, List.take_succ_eq_append_getElem hb, h, e]
set_option maxHeartbeats 4000000 in
theorem rSameS_c (va vb : Value) (a b : St) (w : World) (hva : Sto w va a) (hvb : Sto w vb b) (h1 : a.nodes.length ≤ 1000000) (h2 : b.nodes.length ≤ 1000000) (h3 : a.turns.length ≤ 1000000) (h4 : b.turns.length ≤ 1000000) :
  Calls Tryz.prog 23 #[va, vb] w fun e w' => e = .returned (.bool (decide (a = b))) ∧ Fp Non w w' := by
 obtain ⟨an, at_, rfl, ha1, ha2⟩ := hva.ex
 obtain ⟨bn, bt, rfl, hb1, hb2⟩ := hvb.ex
 have hsn := fun W (f : Fp Non w W) => rSameN_c an bn a.nodes b.nodes W (ha1.non f) (hb1.non f) h1 h2
 obtain ⟨ao, ca, rfl⟩ := ha2.shape
 obtain ⟨bo, cb, rfl⟩ := hb2.shape
 obtain ⟨bq, hq⟩ : ∃ r, decide (a.nodes = b.nodes) = r := ⟨_, rfl⟩
 rw [hq] at hsn
 obtain ⟨n, hn⟩ : ∃ n, n = a.turns.length := ⟨_, rfl⟩
 obtain ⟨m, hm⟩ : ∃ m, m = b.turns.length := ⟨_, rfl⟩
 have hnb : n ≤ 1000000 := by omega
 have HN := Lib.hid (And.intro hn (And.intro hm (And.intro ha2 hb2)))
 have HS := Lib.hid (And.intro hsn hq)
 have key : (decide (a = b)) = (bq && decide (a.turns = b.turns)) := by
  rw [← hq]
  obtain ⟨an', at'⟩ := a
  obtain ⟨bn', bt'⟩ := b
  rw [Bool.eq_iff_iff]
  simp
 have HK := Lib.hid key
 rw [← hn, ← hm]
 have f1 := fp_alloc w (.cells #[an, .slice ao n ca] TST)
 have f2 := fp_alloc (w.alloc (.cells #[an, .slice ao n ca] TST)) (.cells #[bn, .slice bo m cb] TST)
 have r1 := f2.heap (heap_alloc_new w (.cells #[an, .slice ao n ca] TST)) id
 have r2 := heap_alloc_new (w.alloc (.cells #[an, .slice ao n ca] TST)) (.cells #[bn, .slice bo m cb] TST)
 rw [show (w.alloc (.cells #[an, .slice ao n ca] TST)).heap.size = w.heap.size + 1 from by simp] at r2
 have K0 := Lib.hid (Kp.and (Kp.fp (f1.then f2)) (Kp.and (Kp.row r1) (Kp.row r2)))
 clear key hq hsn ha1 ha2 hb1 hb2 hva hvb hn hm h1 h2 h3 h4 f1 f2 r1 r2
 go_enter Tryz.func23, Tryz.ntmps23
 go_wp2_with fail
 obtain ⟨a0, a1⟩ := boxP2 K0.out.now.2.1
 obtain ⟨b0, b1⟩ := boxP2 K0.out.now.2.2
 refine (HS.out.1 _ K0.out.now.1).mono ?_
 rintro e w1 ⟨rfl, hf⟩
 have K1 := Lib.hid (K0.out.later hf)
 clear hf a0 a1 b0 b1 K0
 obtain ⟨a0, a1⟩ := boxP2 K1.out.now.2.1
 obtain ⟨b0, b1⟩ := boxP2 K1.out.now.2.2
 cases bq with
 | false =>
  have HKF := Lib.hid (show decide (a = b) = false by rw [HK.out]; rfl)
  go_wp2
  go_ret
  exact ⟨ret_bool HKF.out.symm, K1.out.now.1⟩
 | true => ?_
 by_cases hl : n = m
 ·subst hl
  have H0 : Hid (SsM a.turns b.turns w 0 w1 ∧ w1.heap[w.heap.size]? = some (.cells #[an, .slice ao n ca] TST (0, 0)) ∧ w1.heap[w.heap.size + 1]? = some (.cells #[bn, .slice bo n cb] TST (0, 0))) := ⟨⟨K1.out.now.1, by simp⟩, K1.out.now.2.1, K1.out.now.2.2⟩
  have heq := eq_tus
  go_wp2_with fail
  go_loopw [5] (fun i wr => ∃ k : Nat, k ≤ n ∧ i = .int .i64 k ∧ Hid (SsM a.turns b.turns w k wr ∧ wr.heap[w.heap.size]? = some (.cells #[an, .slice ao n ca] TST (0, 0)) ∧ wr.heap[w.heap.size + 1]? = some (.cells #[bn, .slice bo n cb] TST (0, 0)))) (fun i _ => n - (RowKit.intOf i).toNat)
  case atStart => exact ⟨0, Nat.zero_le _, rfl, H0⟩
  clear H0 a0 a1 b0 b1
  obtain ⟨k, hk, rfl, hR⟩ := hrel
  rename_i wr _
  obtain ⟨a0, a1⟩ := boxP2 hR.out.2.1
  obtain ⟨b0, b1⟩ := boxP2 hR.out.2.2
  by_cases hlt : k < n
  ·have hka : k < a.turns.length := by rw [← HN.out.1]; exact hlt
   have hkb : k < b.turns.length := by rw [← HN.out.2.1]; exact hlt
   obtain ⟨g, o, cap', e, _, _, _, hcell⟩ := HN.out.2.2.1.at (by omega)
   injection e with e1 e2 e3
   subst e1 e3
   clear e2
   obtain ⟨g', o', cap', e, _, _, _, hcell'⟩ := HN.out.2.2.2.at (by omega)
   injection e with e1 e2 e3
   subst e1 e3
   clear e2
   have hnd := (hcell k hka).keep hR.out.1.fp id
   have hnd' := (hcell' k hkb).keep hR.out.1.fp id
   have q3 : ((k : Int) < (n : Int)) = True := eq_true (by omega)
   have q4 : (k < n) = True := eq_true hlt
   have hnx := fun e (N : Nat) => (show SsM a.turns b.turns w (k + 1) (wr.drewN N) ∧ (wr.drewN N).heap[w.heap.size]? = some (.cells #[an, .slice (some ⟨g, o, none⟩) n ca] TST (0, 0)) ∧ (wr.drewN N).heap[w.heap.size + 1]? = some (.cells #[bn, .slice (some ⟨g', o', none⟩) n cb] TST (0, 0)) from ⟨⟨hR.out.1.fp.then ((Fp.refl _ _).drewN N), take_succ_eqT hka hkb hR.out.1.eq e⟩, ((Fp.refl Non wr).drewN N).heap hR.out.2.1 id, ((Fp.refl Non wr).drewN N).heap hR.out.2.2 id⟩)
   have hno := fun (e : a.turns[k] ≠ b.turns[k]) => (show decide (a = b) = false by
    rw [HK.out]
    have : a.turns ≠ b.turns := fun h => e (by simp only [h])
    rw [decide_eq_false this]; rfl)
   have HNX := Lib.hid hnx
   have HNO := Lib.hid hno
   have HL := Lib.hid hlt
   clear hcell hcell' hnx hno hlt
   generalize a.turns[k] = x at *
   generalize b.turns[k] = y at *
   have c0 := hnd.c0; have c1 := hnd.c1
   have d0 := hnd'.c0; have d1 := hnd'.c1
   unfold strV at c0 d0
   clear hnd hnd' hka hkb
   by_cases hxy : x = y
   ·have q5 : decide (x = y) = true := decide_eq_true hxy
    have q6 : (x = y) = True := eq_true hxy
    have hM := Lib.hid (HNX.out hxy)
    have hj := HL.out
    clear hxy
    go_wp2_with fail
    go_quiet (fail)
    go_wp2
    go_roundw
    case rel => exact ⟨k + 1, by omega, by go_num, hM.out _⟩
    case measure => simp [RowKit.intOf]; omega
   have q5 : decide (x = y) = false := decide_eq_false hxy
   have q6 : (x = y) = False := eq_false hxy
   have HN9 := Lib.hid (HNO.out hxy)
   clear hxy
   go_wp2_with fail
   go_quiet (fail)
   go_wp2
   go_ret
   exact ⟨ret_bool HN9.out.symm, hR.out.1.fp.drewN _⟩
  have hke : k = n := by omega
  subst hke
  have q3 : ((k : Int) < (k : Int)) = False := eq_false (by omega)
  have hfin : decide (a = b) = true := by
   have := hR.out.1.eq
   rw [HN.out.1, List.take_length, ← HN.out.1, HN.out.2.1, List.take_length] at this
   rw [HK.out, decide_eq_true this]; rfl
  have HFN := Lib.hid hfin
  clear hlt hk hfin
  go_wp2
  go_ret
  exact ⟨ret_bool HFN.out.symm, hR.out.1.fp⟩
 have HKF := Lib.hid (show decide (a = b) = false by
  rw [HK.out]
  have : a.turns ≠ b.turns := fun h => hl (by rw [HN.out.1, HN.out.2.1, h])
  rw [decide_eq_false this]; rfl)
 have q1 : ((n : Int) == (m : Int)) = false := beq_eq_false_iff_ne.2 (by omega)
 have q2 : ((n : Int) = (m : Int)) = False := eq_false (by omega)
 have q3 : (n == m) = false := beq_eq_false_iff_ne.2 hl
 have q4 : (n = m) = False := eq_false hl
 have q5 : ((n : Int) != (m : Int)) = true := by
  have : (n : Int) ≠ (m : Int) := by omega
  simpa using this
 clear hl
 go_wp2
 go_ret
 exact ⟨ret_bool HKF.out.symm, K1.out.now.1⟩
end Go.Proofs.YtphoglepiegeiaaGreatDoor
namespace Go.Proofs
open Go.Shelf
end Go.Proofs
namespace Go.Proofs.YtphoglepiegeiaaGreatDoor
set_option maxRecDepth 20000
open Go.RowKit Pm Go.Sort
instance : Inhabited Nd := ⟨⟨[], [], 0, 0, 0⟩⟩
end Go.Proofs.YtphoglepiegeiaaGreatDoor
namespace Go.Proofs.YtphoglepiegeiaaGreatDoor
set_option maxRecDepth 20000
open Go.RowKit Pm
structure Sv where
 vn : Value
 vt : Value
 s : St
def svC (x : Sv) : List Value := [x.vn, x.vt]
structure Stos (w : World) (v : Value) (l : List Sv) : Prop where
 sg : Sg svC 2 w v l
 sto : ∀ x ∈ l, Ns w x.vn x.s.nodes ∧ Ts w x.vt x.s.turns
theorem Stos.non {w w' : World} {v : Value} {l : List Sv} (h : Stos w v l) (f : Fp Non w w') : Stos w' v l := ⟨h.sg.non f, fun x hx => ⟨(h.sto x hx).1.non f, (h.sto x hx).2.non f⟩⟩
structure Kb (lo M : Nat) (vn vt : Value) (ns : List Nd) (ts : List Tu) (w : World) : Prop where
 blk : w.heap[M]? = some (.cells #[vn, vt] TST (0, 0))
 own : Ow lo w vn ns
 ownT : OwT lo w vt ts
 neN : vn.ownBlock ≠ some M
 neT : vt.ownBlock ≠ some M
 apart : ∀ k, vn.ownBlock = some k → vt.ownBlock ≠ some k
section
variable {lo M : Nat} {vn vt : Value} {ns : List Nd} {ts : List Tu} {w w' w1 w2 : World}
theorem Kb.non (h : Kb lo M vn vt ns ts w) (f : Fp Non w w') : Kb lo M vn vt ns ts w' := ⟨f.heap h.blk id, h.own.non f, h.ownT.non f, h.neN, h.neT, h.apart⟩
theorem Kb.keep (h : Kb lo M vn vt ns ts w) {S : Nat → Prop} (f : Fp S w w') (hM : ¬ S M) (h1 : ∀ k, vn.ownBlock = some k → ¬ S k) (h2 : ∀ k, vt.ownBlock = some k → ¬ S k) : Kb lo M vn vt ns ts w' := ⟨f.heap h.blk hM, h.own.keep f h1, h.ownT.keep f h2, h.neN, h.neT, h.apart⟩
theorem Kb.lt (h : Kb lo M vn vt ns ts w) : M < w.heap.size := (Array.getElem?_eq_some_iff.1 h.blk).1
theorem Kb.putT (h : Kb lo M vn vt ns ts w) {vt' : Value} {l' : List Tu} (f0 : Fp Non w w1) (c : ChTR lo w1 vt l' vt' w2) :
  Kb lo M vn vt' ns l' (w2.setCell ⟨M, 1, none⟩ vt') := by
 have hb2 := c.fp.heap (h.non f0).blk (fun e => h.neT e)
 have hbl := (h.non f0).lt
 have fs : Fp (fun k => k = M) w2 (w2.setCell ⟨M, 1, none⟩ vt') := (Fp.refl (fun k => k = M) w2).setCell (p := ⟨M, 1, none⟩) (.inl rfl) _
 have hne : vt'.ownBlock ≠ some M := fun e => (c.new M e).elim h.neT (fun k => by omega)
 have hlt := fun k (hk : vn.ownBlock = some k) => (World.ownsRow.lt (h.non f0).own k hk).2
 refine ⟨heap_setCell_same w2 M 1 _ TST _ hb2, ?_, c.own.keep fs (fun k hk e => hne (by rw [hk, e])), h.neN, hne, fun k hk e => ?_⟩
 ·exact ((h.own.non f0).keep c.fp (fun k hk e => h.apart k hk e)).keep fs (fun k hk e => h.neN (by rw [hk, e]))
 rcases c.new k e with e | e
 ·exact h.apart k hk e
 have := hlt k hk; omega
theorem Kb.putN (h : Kb lo M vn vt ns ts w) {vn' : Value} {l' : List Nd} (f0 : Fp Non w w1) (c : ChR lo w1 vn l' vn' w2) :
  Kb lo M vn' vt l' ts (w2.setCell ⟨M, 0, none⟩ vn') := by
 have hb2 := c.fp.heap (h.non f0).blk (fun e => h.neN e)
 have hbl := (h.non f0).lt
 have fs : Fp (fun k => k = M) w2 (w2.setCell ⟨M, 0, none⟩ vn') := (Fp.refl (fun k => k = M) w2).setCell (p := ⟨M, 0, none⟩) (.inl rfl) _
 have hne : vn'.ownBlock ≠ some M := fun e => (c.new M e).elim h.neN (fun k => by omega)
 have hlt := fun k (hk : vt.ownBlock = some k) => (World.ownsRow.lt (h.non f0).ownT k hk).2
 refine ⟨heap_setCell_same w2 M 0 _ TST _ hb2, c.own.keep fs (fun k hk e => hne (by rw [hk, e])), ?_, hne, h.neT, fun k hk e => ?_⟩
 ·exact ((h.ownT.non f0).keep c.fp (fun k hk e => h.apart k e hk)).keep fs (fun k hk e => h.neT (by rw [hk, e]))
 rcases c.new k hk with k' | k'
 ·exact h.apart k k' e
 have := hlt k e; omega
end
theorem turnsOf_snoc (l : List Nd) (x : Nd) : turnsOf (l ++ [x]) = turnsOf l ++ if x.turn ≠ 0 then [⟨x.path, x.turn⟩] else [] := by
 unfold turnsOf
 rw [List.filter_append, List.map_append]
 congr 1
 by_cases h : x.turn = 0 <;> simp [h]
theorem app_kn (w : World) (lo : Nat) (v : Value) (l : List Nd) (x : Nd) (ty : TypeId) (ho : Ow lo w v l) (hn : l.length ≤ 50000) (hlo : lo ≤ w.heap.size) :
  ∃ v' w', (Builtin.append_ #[TL, TL] ty #[v, .slice (some ⟨w.heap.size, 0, none⟩) 1 1]).run Tryz.prog (w.alloc (.cells #[.string (B x.path), .string (B x.data), .int .i64 x.ver, .int .i64 x.turn, .int .i64 x.own] TN)) = .ok v' w' ∧ ChR lo (w.alloc (.cells #[.string (B x.path), .string (B x.data), .int .i64 x.ver, .int .i64 x.turn, .int .i64 x.own] TN)) v (l ++ [x]) v' w' := by
 have hf := fp_alloc w (.cells #[.string (B x.path), .string (B x.data), .int .i64 x.ver, .int .i64 x.turn, .int .i64 x.own] TN)
 have hnd : NdAt (w.alloc (.cells #[.string (B x.path), .string (B x.data), .int .i64 x.ver, .int .i64 x.turn, .int .i64 x.own] TN)) w.heap.size 0 x := NdAt.box w x
 obtain ⟨v', w', hr, h1, h2, h3⟩ := app_own (w.alloc (.cells #[.string (B x.path), .string (B x.data), .int .i64 x.ver, .int .i64 x.turn, .int .i64 x.own] TN)) lo v l [x] ty ⟨w.heap.size, 0, none⟩ 1 1 (ho.non hf) rfl (fun i hi j u hu => by
  have hi0 : i = 0 := by simp at hi; omega
  subst hi0
  have := hnd.get j u hu
  rwa [show 0 * 5 + j = j from by omega]) (by simp; omega) (by simp; omega)
 exact ⟨v', w', hr, h1, (Fp.refl _ _).grown h2 (fun k hk => .inl hk), h3⟩
theorem app_tu (w : World) (lo : Nat) (v : Value) (l : List Tu) (x : Tu) (ty : TypeId) (ho : OwT lo w v l) (hn : l.length ≤ 50000) (hlo : lo ≤ w.heap.size) :
  ∃ v' w', (Builtin.append_ #[TUL, TUL] ty #[v, .slice (some ⟨w.heap.size, 0, none⟩) 1 1]).run Tryz.prog (w.alloc (.cells #[.string (B x.dir), .int .i64 x.next] TU)) = .ok v' w' ∧ ChTR lo (w.alloc (.cells #[.string (B x.dir), .int .i64 x.next] TU)) v (l ++ [x]) v' w' := by
 have hf := fp_alloc w (.cells #[.string (B x.dir), .int .i64 x.next] TU)
 have hb := heap_alloc_new w (.cells #[.string (B x.dir), .int .i64 x.next] TU)
 have hnd : TuAt (w.alloc (.cells #[.string (B x.dir), .int .i64 x.next] TU)) w.heap.size 0 x := ⟨by rw [cell_of_row _ _ _ _ _ _ hb]; rfl, by rw [cell_of_row _ _ _ _ _ _ hb]; rfl⟩
 obtain ⟨v', w', hr, h1, h2, h3⟩ := appT_own (w.alloc (.cells #[.string (B x.dir), .int .i64 x.next] TU)) lo v l [x] ty ⟨w.heap.size, 0, none⟩ 1 1 (ho.non hf) rfl (fun i hi j u hu => by
  have hi0 : i = 0 := by simp at hi; omega
  subst hi0
  have := hnd.get j u hu
  rwa [show 0 * 2 + j = j from by omega]) (by simp; omega) (by simp; omega)
 exact ⟨v', w', hr, h1, (Fp.refl _ _).grown h2 (fun k hk => .inl hk), h3⟩
set_option maxHeartbeats 8000000 in
theorem Keep_c (v : Value) (l : List Nd) (w : World) (hv : Ns w v l) (hn : l.length ≤ 10000) :
  Calls Tryz.prog 32 #[v] w fun e w' => (∃ v', e = .returned v' ∧ Sto w' v' (keep l)) ∧ Fp Non w w' := by
 obtain ⟨ao, cap, rfl⟩ := hv.shape
 obtain ⟨n, hnn⟩ : ∃ n, n = l.length := ⟨_, rfl⟩
 have HX := Lib.hid (And.intro hnn (And.intro hv hn))
 have hnb : n ≤ 10000 := by omega
 rw [← hnn]
 have H0 : Hid (Kb (w.heap.size + 2) (w.heap.size + 1) (.slice none 0 0) (.slice none 0 0) ((l.take 0).map kn) (turnsOf (l.take 0)) ((w.alloc (.cells #[.slice none 0 0, .slice none 0 0] TST)).alloc (.cells #[.slice none 0 0, .slice none 0 0] TST)) ∧ Fp Non w ((w.alloc (.cells #[.slice none 0 0, .slice none 0 0] TST)).alloc (.cells #[.slice none 0 0, .slice none 0 0] TST)) ∧ ((w.alloc (.cells #[.slice none 0 0, .slice none 0 0] TST)).alloc (.cells #[.slice none 0 0, .slice none 0 0] TST)).heap[w.heap.size]? = some (.cells #[.slice none 0 0, .slice none 0 0] TST (0, 0))) := by
  refine ⟨⟨?_, Ow.nil _ _, OwT.nil _ _, fun e => by simp [Value.ownBlock] at e, fun e => by simp [Value.ownBlock] at e, fun k e => by simp [Value.ownBlock] at e⟩, ((Fp.refl Non w).alloc _).alloc _, (fp_alloc _ _).heap (heap_alloc_new w _) id⟩
  have := heap_alloc_new (w.alloc (.cells #[.slice none 0 0, .slice none 0 0] TST)) (.cells #[.slice none 0 0, .slice none 0 0] TST)
  simpa using this
 clear hv hn hnn
 go_enter Tryz.func32, Tryz.ntmps32
 go_wp2_with fail
 go_loopw [8] (fun i wr => ∃ k : Nat, k ≤ n ∧ i = .int .i64 k ∧ Hid (∃ vn vt, Kb (w.heap.size + 2) (w.heap.size + 1) vn vt ((l.take k).map kn) (turnsOf (l.take k)) wr ∧ Fp Non w wr ∧ wr.heap[w.heap.size]? = some (.cells #[.slice none 0 0, .slice none 0 0] TST (0, 0)))) (fun i _ => n - (RowKit.intOf i).toNat)
 case atStart => exact ⟨0, Nat.zero_le _, rfl, _, _, H0.out⟩
 clear H0
 obtain ⟨k, hk, rfl, hR⟩ := hrel
 rename_i wr _
 obtain ⟨vn, vt, hKb, hF, hZ⟩ := hR.out
 clear hR
 by_cases hlt : k < n
 ·have hkl : k < l.length := by rw [← HX.out.1]; exact hlt
  obtain ⟨g, og, cap', e9, _, _, _, hcell⟩ := HX.out.2.1.at (by omega)
  injection e9 with e1 e2 e3
  subst e1 e3
  have hnd := (hcell k hkl).keep hF id
  have htk : (l.take (k + 1)).map kn = (l.take k).map kn ++ [kn l[k]] := by rw [List.take_succ_eq_append_getElem hkl, List.map_append]; rfl
  have htt : turnsOf (l.take (k + 1)) = turnsOf (l.take k) ++ if l[k].turn ≠ 0 then [⟨l[k].path, l[k].turn⟩] else [] := by rw [List.take_succ_eq_append_getElem hkl, turnsOf_snoc]
  obtain ⟨x, hx⟩ : ∃ x, l[k] = x := ⟨_, rfl⟩
  rw [hx] at hnd htk htt
  obtain ⟨xp, xd, xv, xt, xo⟩ := x
  have hlk : ((l.take k).map kn).length ≤ 50000 := by rw [List.length_map, List.length_take]; have := HX.out.2.2; omega
  have hlt2 : (turnsOf (l.take k)).length ≤ 50000 := by
   unfold turnsOf; rw [List.length_map]; refine Nat.le_trans (List.length_filter_le _ _) ?_; rw [List.length_take]; have := HX.out.2.2; omega
  have HLK := Lib.hid (And.intro hlk hlt2)
  have HTK := Lib.hid (And.intro htk htt)
  have c0 := hnd.c0; have c1 := hnd.c1; have c2 := hnd.c2; have c3 := hnd.c3; have c4 := hnd.c4
  unfold strV at c0 c1
  simp only at c0 c1 c2 c3 c4
  have q3 : ((k : Int) < (n : Int)) = True := eq_true (by omega)
  have q4 : (k < n) = True := eq_true hlt
  have HL := Lib.hid hlt
  have HKb := Lib.hid (And.intro hKb (And.intro hF hZ))
  clear hcell hnd htk htt hx hkl hlk hlt2 hKb hF hZ hlt
  generalize (l.take k).map kn = Lk at *
  generalize turnsOf (l.take k) = Tk at *
  by_cases hxt : xt = 0
  ·have q5 : (xt != 0) = false := by simp [hxt]
   have HXT := Lib.hid hxt
   have hf1 := fp_alloc wr (.cells #[.string (B xp), .string (B xd), .int .i64 xv, .int .i64 0, .int .i64 xo] TN)
   have hap := app_kn (wr.alloc (.cells #[.string (B xp), .string (B xd), .int .i64 xv, .int .i64 0, .int .i64 xo] TN)) (w.heap.size + 2) vn Lk ⟨xp, xd, xv, 0, xo⟩ TL (HKb.out.1.own.non hf1) HLK.out.1 (by have h1 := HKb.out.1.lt; simp; omega)
   simp only at hap
   rw [show (wr.alloc (.cells #[.string (B xp), .string (B xd), .int .i64 xv, .int .i64 0, .int .i64 xo] TN)).heap.size = wr.heap.size + 1 from by simp] at hap
   have hf2 := hf1.then (fp_alloc (wr.alloc (.cells #[.string (B xp), .string (B xd), .int .i64 xv, .int .i64 0, .int .i64 xo] TN)) (.cells #[.string (B xp), .string (B xd), .int .i64 xv, .int .i64 0, .int .i64 xo] TN))
   have HF2 := Lib.hid hf2
   have m0 := (boxP2 HKb.out.1.blk).1
   have m1 := hf1.cell m0 id
   have m2 := hf2.cell m0 id
   have HAP := Lib.hid hap
   obtain ⟨an, cn, hsh⟩ := HKb.out.1.own.ns.shape
   subst hsh
   clear hap hf1 hf2 hxt
   go_wp2_with (at_builtin; go_must (refine wpList_app rfl _ _ _ _ rfl _ _ rfl rfl _ HAP.out ?_))
   intro v4 w4 hc
   have hK4 := HKb.out.1.putN HF2.out hc
   have hb4 := hc.fp.heap (HKb.out.1.non HF2.out).blk (fun e => HKb.out.1.neN e)
   have m4 := (boxP2 hb4).1
   have z4 := frozen_at hb4 0
   have hfs : Fp (fun j => j = w.heap.size + 1) w4 (w4.setCell ⟨w.heap.size + 1, 0, none⟩ v4) := (Fp.refl (fun j => j = w.heap.size + 1) w4).setCell (p := ⟨w.heap.size + 1, 0, none⟩) (.inl rfl) _
   have hfw := ((HKb.out.2.1.then HF2.out).trans hc.fp (fun j hj => .inr (by have := (World.ownsRow.lt HKb.out.1.own j hj).1; omega))).trans hfs (fun j hj => .inr (by omega))
   have hz4 := hfs.heap (hc.fp.heap (HF2.out.heap HKb.out.2.2 id) (fun e => by have := (World.ownsRow.lt HKb.out.1.own _ e).1; omega)) (fun e => by omega)
   have hM : Hid (∃ vn vt, Kb (w.heap.size + 2) (w.heap.size + 1) vn vt ((l.take (k + 1)).map kn) (turnsOf (l.take (k + 1))) (w4.setCell ⟨w.heap.size + 1, 0, none⟩ v4) ∧ Fp Non w (w4.setCell ⟨w.heap.size + 1, 0, none⟩ v4) ∧ (w4.setCell ⟨w.heap.size + 1, 0, none⟩ v4).heap[w.heap.size]? = some (.cells #[.slice none 0 0, .slice none 0 0] TST (0, 0))) := ⟨v4, vt, by rw [HTK.out.1, HTK.out.2, if_neg (by simpa using HXT.out), List.append_nil]; exact hK4, hfw, hz4⟩
   obtain ⟨a4, c4', hsh⟩ := hc.own.ns.shape
   obtain ⟨n4, hn4⟩ : ∃ n4, n4 = (Lk ++ [(⟨xp, xd, xv, 0, xo⟩ : Nd)]).length := ⟨_, rfl⟩
   rw [← hn4] at hsh
   subst hsh
   clear hc hK4 hb4 hfs hfw hz4 m0 m1 m2 c0 c1 c2 c3 c4 hn4
   have hj1 := HL.out
   go_wp2
   go_roundw
   case rel => exact ⟨k + 1, by omega, by go_num, hM⟩
   case measure => simp [RowKit.intOf]; omega
  have q5 : (xt != 0) = true := by simpa using hxt
  have q6 : (xt == 0) = false := by simpa using hxt
  have q7 : (xt = 0) = False := eq_false hxt
  have HXT := Lib.hid hxt
  have hf1 := fp_alloc wr (.cells #[.string (B xp), .string (B xd), .int .i64 xv, .int .i64 xt, .int .i64 xo] TN)
  have hap := app_tu (wr.alloc (.cells #[.string (B xp), .string (B xd), .int .i64 xv, .int .i64 xt, .int .i64 xo] TN)) (w.heap.size + 2) vt Tk ⟨xp, xt⟩ TUL (HKb.out.1.ownT.non hf1) HLK.out.2 (by have h1 := HKb.out.1.lt; simp; omega)
  simp only at hap
  rw [show (wr.alloc (.cells #[.string (B xp), .string (B xd), .int .i64 xv, .int .i64 xt, .int .i64 xo] TN)).heap.size = wr.heap.size + 1 from by simp] at hap
  have hf2 := hf1.then (fp_alloc (wr.alloc (.cells #[.string (B xp), .string (B xd), .int .i64 xv, .int .i64 xt, .int .i64 xo] TN)) (.cells #[.string (B xp), .int .i64 xt] TU))
  have HF2 := Lib.hid (And.intro hf2 ((fp_alloc (wr.alloc (.cells #[.string (B xp), .string (B xd), .int .i64 xv, .int .i64 xt, .int .i64 xo] TN)) (.cells #[.string (B xp), .int .i64 xt] TU)).heap (heap_alloc_new wr (.cells #[.string (B xp), .string (B xd), .int .i64 xv, .int .i64 xt, .int .i64 xo] TN)) id))
  have m0 := (boxP2 HKb.out.1.blk).2
  have m1 := hf1.cell m0 id
  have m2 := hf2.cell m0 id
  have HAP := Lib.hid hap
  obtain ⟨at_, ct, hsh⟩ := HKb.out.1.ownT.ns.shape
  subst hsh
  clear hap hf1 hf2 hxt
  go_wp2_with (at_builtin; go_must (refine wpList_app rfl _ _ _ _ rfl _ _ rfl rfl _ HAP.out ?_))
  intro v4 w4 hc
  have hK4 := HKb.out.1.putT HF2.out.1 hc
  have hwl := HKb.out.1.lt
  have hb4 := hc.fp.heap (HKb.out.1.non HF2.out.1).blk (fun e => HKb.out.1.neT e)
  have m4 := (boxP2 hb4).2
  have z4 := frozen_at hb4 1
  have hfs : Fp (fun j => j = w.heap.size + 1) w4 (w4.setCell ⟨w.heap.size + 1, 1, none⟩ v4) := (Fp.refl (fun j => j = w.heap.size + 1) w4).setCell (p := ⟨w.heap.size + 1, 1, none⟩) (.inl rfl) _
  have hfw := ((HKb.out.2.1.then HF2.out.1).trans hc.fp (fun j hj => .inr (by have := (World.ownsRow.lt HKb.out.1.ownT j hj).1; omega))).trans hfs (fun j hj => .inr (by omega))
  have hz4 := hfs.heap (hc.fp.heap (HF2.out.1.heap HKb.out.2.2 id) (fun e => by have := (World.ownsRow.lt HKb.out.1.ownT _ e).1; omega)) (fun e => by omega)
  have hx4 := hfs.heap (hc.fp.heap HF2.out.2 (fun e => by have := (World.ownsRow.lt HKb.out.1.ownT _ e).2; omega)) (fun e => by omega)
  have hnw : ∀ j, v4.ownBlock = some j → j ≠ wr.heap.size := fun j hj e => by
   rcases hc.new j hj with h | h
   ·have := (World.ownsRow.lt HKb.out.1.ownT _ h).2; omega
   simp at h; omega
  obtain ⟨a4, c4', hsh⟩ := hc.own.ns.shape
  obtain ⟨n4, hn4⟩ : ∃ n4, n4 = (Tk ++ [(⟨xp, xt⟩ : Tu)]).length := ⟨_, rfl⟩
  rw [← hn4] at hsh
  subst hsh
  have HNW := Lib.hid hnw
  have HK4 := Lib.hid (And.intro hK4 (And.intro hfw (And.intro hz4 (And.intro hx4 (show wr.heap.size < w4.heap.size from (Array.getElem?_eq_some_iff.1 (hc.fp.heap HF2.out.2 (fun e => by have := (World.ownsRow.lt HKb.out.1.ownT _ e).2; omega))).1)))))
  have HWL := Lib.hid hwl
  clear hc hb4 hfs hfw hz4 hK4 hx4 hnw m0 m1 m2 c0 c1 c2 c3 c4 hn4 hwl
  go_upto_region 7 with (fail)
  clear m4 z4
  generalize (w4.setCell ⟨w.heap.size + 1, 1, none⟩ _) = w5 at *
  obtain ⟨b0, b1, b2, b3, b4⟩ := box5 HK4.out.2.2.2.1
  have y3 := frozen_at HK4.out.2.2.2.1 3
  have hr6 := heap_setCell_same w5 wr.heap.size 3 _ TN (.int .i64 0) HK4.out.2.2.2.1
  have hf6 : Fp (fun j => j = wr.heap.size) w5 (w5.setCell ⟨wr.heap.size, 3, none⟩ (.int .i64 0)) := (Fp.refl (fun j => j = wr.heap.size) w5).setCell (p := ⟨wr.heap.size, 3, none⟩) (.inl rfl) _
  have hK6 := HK4.out.1.keep hf6 (fun e => by have := HWL.out; omega) (fun j hj e => by have := (World.ownsRow.lt HKb.out.1.own j hj).2; have e : j = wr.heap.size := e; omega) (fun j hj e => HNW.out j hj e)
  have hfa := fp_alloc (w5.setCell ⟨wr.heap.size, 3, none⟩ (.int .i64 0)) (.cells #[.string (B xp), .string (B xd), .int .i64 xv, .int .i64 0, .int .i64 xo] TN)
  have hap := app_kn (w5.setCell ⟨wr.heap.size, 3, none⟩ (.int .i64 0)) (w.heap.size + 2) vn Lk ⟨xp, xd, xv, 0, xo⟩ TL hK6.own HLK.out.1 (by have h1 := hK6.lt; omega)
  simp only at hap
  rw [show (w5.setCell ⟨wr.heap.size, 3, none⟩ (.int .i64 0)).heap.size = w5.heap.size from by simp [World.setCell]] at hap
  have HAP2 := Lib.hid hap
  have HF6 := Lib.hid (And.intro hfa (And.intro hK6 (And.intro ((HK4.out.2.1).trans hf6 (fun j hj => .inr (by have := HWL.out; have hj : j = wr.heap.size := hj; omega))) (hf6.heap HK4.out.2.2.1 (fun e => by have := HWL.out; have e : w.heap.size = wr.heap.size := e; omega)))))
  have m0 := (boxP2 HK4.out.1.blk).1
  have m6 := (boxP2 hK6.blk).1
  obtain ⟨d0, d1, d2, d3, d4⟩ := box5 hr6
  have nM : (w.heap.size + 1 = wr.heap.size) = False := eq_false (by have := HWL.out; omega)
  have nM2 : (wr.heap.size = w.heap.size + 1) = False := eq_false (by have := HWL.out; omega)
  have hsh := HKb.out.1.own.ns.shape
  clear hap hfa hK6 hf6 hr6 HAP
  obtain ⟨an, cn, hsh⟩ := hsh
  subst hsh
  go_wp2_with (at_builtin; go_must (refine wpList_app rfl _ _ _ _ rfl _ _ rfl rfl _ HAP2.out ?_))
  intro v7 w7 hc
  have hK7 := HF6.out.2.1.putN HF6.out.1 hc
  have hb7 := hc.fp.heap (HF6.out.2.1.non HF6.out.1).blk (fun e => HF6.out.2.1.neN e)
  have m7 := (boxP2 hb7).1
  have z7 := frozen_at hb7 0
  have hfs : Fp (fun j => j = w.heap.size + 1) w7 (w7.setCell ⟨w.heap.size + 1, 0, none⟩ v7) := (Fp.refl (fun j => j = w.heap.size + 1) w7).setCell (p := ⟨w.heap.size + 1, 0, none⟩) (.inl rfl) _
  have hfw := ((HF6.out.2.2.1.then HF6.out.1).trans hc.fp (fun j hj => .inr (by have := (World.ownsRow.lt HF6.out.2.1.own j hj).1; omega))).trans hfs (fun j hj => .inr (by omega))
  have hz7 := hfs.heap (hc.fp.heap (HF6.out.1.heap HF6.out.2.2.2 id) (fun e => by have := (World.ownsRow.lt HF6.out.2.1.own _ e).1; omega)) (fun e => by omega)
  have hM : Hid (∃ vn vt, Kb (w.heap.size + 2) (w.heap.size + 1) vn vt ((l.take (k + 1)).map kn) (turnsOf (l.take (k + 1))) (w7.setCell ⟨w.heap.size + 1, 0, none⟩ v7) ∧ Fp Non w (w7.setCell ⟨w.heap.size + 1, 0, none⟩ v7) ∧ (w7.setCell ⟨w.heap.size + 1, 0, none⟩ v7).heap[w.heap.size]? = some (.cells #[.slice none 0 0, .slice none 0 0] TST (0, 0))) := ⟨v7, _, by rw [HTK.out.1, HTK.out.2, if_pos HXT.out]; exact hK7, hfw, hz7⟩
  obtain ⟨a7, c7', hsh⟩ := hc.own.ns.shape
  obtain ⟨n7, hn7⟩ : ∃ n7, n7 = (Lk ++ [(⟨xp, xd, xv, 0, xo⟩ : Nd)]).length := ⟨_, rfl⟩
  rw [← hn7] at hsh
  subst hsh
  clear hc hK7 hb7 hfs hfw hz7 m0 m6 d0 d1 d2 d3 d4 b0 b1 b2 b3 b4 hn7 y3
  have hj1 := HL.out
  go_wp2
  go_roundw
  case rel => exact ⟨k + 1, by omega, by go_num, hM⟩
  case measure => simp [RowKit.intOf]; omega
 have hke : k = n := by omega
 subst hke
 have q3 : ((k : Int) < (k : Int)) = False := eq_false (by omega)
 have htl : l.take k = l := by rw [HX.out.1, List.take_length]
 rw [htl] at hKb
 have HF := Lib.hid (And.intro hKb (And.intro hF hZ))
 clear htl hlt hk
 obtain ⟨m0, m1⟩ := boxP2 hKb.blk
 obtain ⟨y0, y1⟩ := boxP2 hZ
 have z0 := frozen_at hZ 0; have z1 := frozen_at hZ 1
 have hset := two_set hZ vn vt
 have hfs : Fp (fun j => j = w.heap.size) wr ((wr.setCell ⟨w.heap.size, 0, none⟩ vn).setCell ⟨w.heap.size, 1, none⟩ vt) := ((Fp.refl (fun j => j = w.heap.size) wr).setCell (p := ⟨w.heap.size, 0, none⟩) (.inl rfl) vn).setCell (p := ⟨w.heap.size, 1, none⟩) (.inl rfl) vt
 have hE : Hid (Sto ((wr.setCell ⟨w.heap.size, 0, none⟩ vn).setCell ⟨w.heap.size, 1, none⟩ vt) (.agg #[vn, vt]) (Pm.keep l) ∧ Fp Non w ((wr.setCell ⟨w.heap.size, 0, none⟩ vn).setCell ⟨w.heap.size, 1, none⟩ vt)) := ⟨⟨vn, vt, rfl, hKb.own.ns.keep hfs (fun j hj e => by have := (World.ownsRow.lt hKb.own j hj).1; have e : j = w.heap.size := e; omega), hKb.ownT.ns.keep hfs (fun j hj e => by have := (World.ownsRow.lt hKb.ownT j hj).1; have e : j = w.heap.size := e; omega)⟩, hF.trans hfs (fun j hj => .inr (by omega))⟩
 have HS := Lib.hid hset
 obtain ⟨an, cn, hsh⟩ := hKb.own.ns.shape
 rw [List.length_map] at hsh
 subst hsh
 obtain ⟨at_, ct, hsh⟩ := hKb.ownT.ns.shape
 subst hsh
 clear hKb hF hZ hset hfs HF
 go_wp2
 have hs := HS.out
 have he := hE.out
 generalize ((World.setCell _ _ _).setCell _ _) = wz at *
 obtain ⟨t0, t1⟩ := boxP2 hs
 exact bodyPost_ret (v := .agg #[.slice an l.length cn, .slice at_ (turnsOf l).length ct]) (by simp [results, Tryz.results32, go_sem, t0, t1]) rfl ⟨⟨_, rfl, he.1⟩, he.2⟩
end Go.Proofs.YtphoglepiegeiaaGreatDoor
namespace Go.Proofs.YtphoglepiegeiaaGreatDoor
set_option maxRecDepth 20000
open Go.RowKit Pm
theorem Kp.sg {α : Type} {enc : α → List Value} {k : Nat} {W : World} {v : Value} {l : List α} (h : Sg enc k W v l) : Kp (fun W' => Sg enc k W' v l) W := fun W' f => h.non f
theorem Kp.el {α : Type} {enc : α → List Value} {W : World} {g o : Nat} {x : α} (h : ElAt enc W g o x) : Kp (fun W' => ElAt enc W' g o x) W := fun W' f => h.keep f id
theorem Kp.sto {W : World} {v : Value} {s : St} (h : Sto W v s) : Kp (fun W' => Sto W' v s) W := fun W' f => h.non f
structure Hb (w : World) (g o bs : Nat) (an at_ : Option Addr) (cn ct : Nat) (W : World) : Prop where
 fp : Fp Non w W
 e0 : ElAt ptC W g o hlP0
 e1 : ElAt ptC W g (o + 7) hlP1
 sb : W.heap[bs]? = some (.cells #[.slice an 2 cn, .slice at_ 1 ct] TST (0, 0))
 sto : Sto W (.agg #[.slice an 2 cn, .slice at_ 1 ct]) hlS
 tab : Tab W
section
variable {w : World} {g o bs : Nat} {an at_ : Option Addr} {cn ct : Nat} {W : World}
theorem Kp.hb (h : Hb w g o bs an at_ cn ct W) : Kp (Hb w g o bs an at_ cn ct) W := fun W' f => ⟨h.fp.then f, h.e0.keep f id, h.e1.keep f id, f.heap h.sb id, h.sto.non f, h.tab.non f⟩
end
end Go.Proofs.YtphoglepiegeiaaGreatDoor
namespace Go.Proofs.YtphoglepiegeiaaGreatDoor
set_option maxRecDepth 20000
namespace Pm
def sp (acc : List Bs) (cur : Bs) : Bs → Option (List Bs)
 | [] => if isPart cur = true ∧ acc.length < 6 then some (acc ++ [cur]) else none
 | c :: r => if c ≠ 47 then sp acc (cur ++ [c]) r else if isPart cur = true ∧ acc.length < 6 then sp (acc ++ [cur]) [] r else none
theorem cut_head {c : UInt8} {l : Bs} (h : c ≠ 47) : cut (c :: l) = ([], []) := by simp [cut, h]
theorem splitN_bad {n : Nat} {c : UInt8} {l : Bs} (h : c ≠ 47) : splitN n (c :: l) = none := by
 cases n with
 | zero => rfl
 | succ n => unfold splitN; rw [cut_head h]; simp
theorem splitN_no (n : Nat) (cur rest : Bs) (hc : ∀ c ∈ cur, c ≠ 47) (hr : rest = [] ∨ ∃ t, rest = 47 :: t) (hp : isPart cur = false) : splitN n (47 :: (cur ++ rest)) = none := by
 cases n with
 | zero => rfl
 | succ n => ?_
 by_cases h0 : cur = []
 ·subst h0
  have e : pl 12 rest = 0 := by
   rcases hr with rfl | ⟨t, rfl⟩
   ·rfl
   simp [pl, show okB 47 = false from by decide]
  unfold splitN
  simp [cut, e]
 have hlt : pl 12 cur < cur.length := by
  have h1 := pl_len 12 cur
  rcases Nat.lt_or_eq_of_le h1 with h | h
  ·exact h
  rw [(isPart_iff cur).2 ⟨h0, h⟩] at hp; cases hp
 have e : pl 12 (cur ++ rest) = pl 12 cur := by
  have key : ∀ (k : Nat) (x : Bs), pl k x < x.length → pl k (x ++ rest) = pl k x := by
   intro k
   induction k with
   | zero => intro x _; cases x <;> simp [pl]
   | succ k ih =>
    intro x hx
    cases x with
    | nil => simp at hx
    | cons c x => ?_
    by_cases hok : okB c = true
    ·simp [pl, hok] at hx ⊢
     exact ih x hx
    simp [pl, hok]
  exact key 12 cur hlt
 obtain ⟨c, t, hd⟩ : ∃ c t, cur.drop (pl 12 cur) = c :: t := by
  cases hh : cur.drop (pl 12 cur) with
  | nil => have := congrArg List.length hh; simp at this; omega
  | cons c t => exact ⟨c, t, rfl⟩
 have hne : c ≠ 47 := hc c (List.mem_of_mem_drop (by rw [hd]; simp))
 have e2 : (cur ++ rest).drop (pl 12 cur) = c :: (t ++ rest) := by
  rw [List.drop_append_of_le_length (by omega), hd]; rfl
 unfold splitN
 have ec : cut (47 :: (cur ++ rest)) = ((cur ++ rest).take (pl 12 cur), c :: (t ++ rest)) := by
  show ((cur ++ rest).take (pl 12 (cur ++ rest)), (cur ++ rest).drop (pl 12 (cur ++ rest))) = _
  rw [e, e2]
 rw [ec]
 simp only
 rw [splitN_bad hne]
 simp
theorem splitN_part (n : Nat) (cur rest : Bs) (hr : rest = [] ∨ ∃ t, rest = 47 :: t) (hp : isPart cur = true) :
  splitN (n + 1) (47 :: (cur ++ rest)) = if rest = [] then some [cur] else (splitN n rest).map (cur :: ·) := by
 have hi := (isPart_iff cur).1 hp
 have e := pl_app 12 cur rest hi.2 hr
 have ec : cut (47 :: (cur ++ rest)) = (cur, rest) := by
  show ((cur ++ rest).take (pl 12 (cur ++ rest)), (cur ++ rest).drop (pl 12 (cur ++ rest))) = _
  rw [e]; simp
 conv => lhs; unfold splitN
 rw [ec]; simp only; rw [if_neg hi.1]
theorem sp_eq : ∀ (rest cur : Bs) (acc : List Bs), acc.length ≤ 6 → (∀ c ∈ cur, c ≠ 47) → sp acc cur rest = (splitN (6 - acc.length) (47 :: (cur ++ rest))).map (acc ++ ·)
 | [], cur, acc, ha, hc => by
  unfold sp
  cases hp : isPart cur with
  | false => rw [splitN_no _ cur [] hc (Or.inl rfl) hp]; simp
  | true => ?_
  by_cases h6 : acc.length < 6
  ·rw [show 6 - acc.length = (5 - acc.length) + 1 by omega, splitN_part _ cur [] (Or.inl rfl) hp]; simp [h6]
  rw [show 6 - acc.length = 0 by omega]; simp [h6, splitN]
 | c :: r, cur, acc, ha, hc => by
  unfold sp
  by_cases h47 : c ≠ 47
  ·rw [if_pos h47, sp_eq r (cur ++ [c]) acc ha (fun x hx => by rw [List.mem_append] at hx; rcases hx with hx | hx; exact hc x hx; simp at hx; rw [hx]; exact h47)]
   simp
  have h47' : c = 47 := Decidable.not_not.1 h47
  subst h47'
  rw [if_neg h47]
  cases hp : isPart cur with
  | false => rw [splitN_no _ cur (47 :: r) hc (Or.inr ⟨r, rfl⟩) hp]; simp
  | true => ?_
  by_cases h6 : acc.length < 6
  ·rw [if_pos ⟨rfl, h6⟩, sp_eq r [] (acc ++ [cur]) (by simp; omega) (by simp),
    show 6 - acc.length = (5 - acc.length) + 1 by omega, splitN_part _ cur (47 :: r) (Or.inr ⟨r, rfl⟩) hp]
   simp only [List.nil_append, List.length_append, List.length_cons, List.length_nil]
   rw [show 6 - (acc.length + (0 + 1)) = 5 - acc.length by omega, if_neg (by simp)]
   simp [Function.comp_def]
  rw [if_neg (fun h => h6 h.2), show 6 - acc.length = 0 by omega]; simp [splitN]
theorem sp_split (r : Bs) (h : r ≠ []) : split (47 :: r) = sp [] [] r := by
 rw [sp_eq r [] [] (by simp) (by simp)]
 unfold split
 rw [if_neg (by simpa using h)]
 simp
theorem split_other {c : UInt8} {r : Bs} (h : c ≠ 47) : split (c :: r) = none := by
 unfold split; rw [if_neg (by rintro ⟨⟩; exact h rfl), splitN_bad h]
theorem split_nil : split [] = none := by decide
theorem isPart_all (l : Bs) : isPart l = (decide (1 ≤ l.length ∧ l.length ≤ 12) && l.all okB) := by
 rw [Bool.eq_iff_iff, isPart_iff]
 simp only [Bool.and_eq_true, decide_eq_true_eq, List.all_eq_true]
 constructor
 ·rintro ⟨h0, h1⟩
  have hp := isPart_len ((isPart_iff l).2 ⟨h0, h1⟩)
  refine ⟨hp, ?_⟩
  have key : ∀ (k : Nat) (x : Bs), pl k x = x.length → ∀ c ∈ x, okB c = true := by
   intro k
   induction k with
   | zero => intro x hx c hc; cases x with
    | nil => cases hc
    | cons a x => simp [pl] at hx
   | succ k ih =>
    intro x hx c hc
    cases x with
    | nil => cases hc
    | cons a x => ?_
    by_cases ha : okB a = true
    ·simp [pl, ha] at hx
     rcases List.mem_cons.1 hc with rfl | hc
     ·exact ha
     exact ih x hx c hc
    simp [pl, ha] at hx
  exact key 12 l h1
 rintro ⟨⟨h1, h2⟩, h3⟩
 refine ⟨by rintro rfl; simp at h1, ?_⟩
 rw [pl_all 12 l h3]; omega
end Pm
open Go.RowKit Pm
set_option maxHeartbeats 1000000 in
theorem rPart_c (l : Bs) (w : World) (hl : l.length ≤ 9223372036854775807) :
  Calls Tryz.prog 138 #[.string (B l)] w fun e w' => e = .returned (.bool (isPart l)) ∧ w = w' := by
 go_enter Tryz.func138, Tryz.ntmps138
 go_wp2
 go_loop [3] (fun i => ∃ k : Nat, k ≤ l.length ∧ i = .int .i64 k ∧ Hid (∀ i (h : i < l.length), i < k → okB l[i] = true)) (fun i => l.length - (intOf i).toNat)
 case atStart => exact ⟨0, by omega, rfl, fun i h hn => by omega⟩
 obtain ⟨k, hk, rfl, ha⟩ := hrel
 by_cases h1 : k < l.length
 ·obtain ⟨n, hn⟩ : ∃ n, (l[k]).toNat = n := ⟨_, rfl⟩
  by_cases hok : okN n = true
  ·have hnx : Hid (∀ i (h : i < l.length), i < k + 1 → okB l[i] = true) := fun i hi hik => by
    by_cases e : i = k
    ·subst e; unfold okB; rw [hn]; exact hok
    exact ha i hi (by omega)
   clear ha
   have hd : n = 45 ∨ (97 ≤ n ∧ n ≤ 122) ∨ (48 ≤ n ∧ n ≤ 57) := by unfold okN at hok; simp at hok; omega
   clear hok
   rcases hd with rfl | ⟨d1, d2⟩ | ⟨d1, d2⟩
   all_goals (
    go_wp2
    go_round
    case rel => exact ⟨k + 1, by omega, by go_num, hnx⟩
    case measure => simp [intOf]; omega)
  have hbad : isPart l = false := by
   rw [isPart_all, Bool.and_eq_false_iff]; right
   rw [List.all_eq_false]
   exact ⟨l[k], List.getElem_mem h1, by unfold okB; rw [hn]; exact hok⟩
  have HB := Lib.hid hbad; clear hbad ha
  have hd : n < 45 ∨ (45 < n ∧ n < 48) ∨ (57 < n ∧ n < 97) ∨ 122 < n := by unfold okN at hok; simp at hok; omega
  clear hok
  rcases hd with d1 | ⟨d1, d2⟩ | ⟨d1, d2⟩ | d1
  all_goals (
   have hne : ((n : Int) != 45) = true := by rw [bne_iff_ne]; omega
   go_wp2
   go_ret
   exact ⟨ret_bool HB.out.symm, rfl⟩)
 have hke : k = l.length := by omega
 subst hke
 have hall : l.all okB = true := by
  rw [List.all_eq_true]; intro c hc
  obtain ⟨i, hi, rfl⟩ := List.getElem_of_mem hc
  exact ha i hi hi
 have hp : isPart l = decide (1 ≤ l.length ∧ l.length ≤ 12) := by rw [isPart_all, hall, Bool.and_true]
 have HP := Lib.hid hp; clear hp hall ha
 go_wp2
 all_goals (go_ret; refine ⟨ret_bool ?_, rfl⟩; rw [HP.out, Bool.eq_iff_iff]; simp; omega)
end Go.Proofs.YtphoglepiegeiaaGreatDoor
