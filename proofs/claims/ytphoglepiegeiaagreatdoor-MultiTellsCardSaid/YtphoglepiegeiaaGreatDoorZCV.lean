/- A text of this proof. -/
import Derived.Deep.CutRange
import Derived.Deep.Upon
import Derived.Ground.SlsfProg
import Derived.Shelf.SlSortCmp.NoneTotal
import Derived.Shelf.SlSortCmp.WholeK
import Derived.Test.YtphoglepiegeiaaGreatDoorProg
import Derived.Test.YtphoglepiegeiaaGreatDoorZCB
import Derived.Test.YtphoglepiegeiaaGreatDoorZCD
import Derived.Test.YtphoglepiegeiaaGreatDoorZCE
import Derived.Test.YtphoglepiegeiaaGreatDoorZCF
import Derived.Test.YtphoglepiegeiaaGreatDoorZCH
import Derived.Test.YtphoglepiegeiaaGreatDoorZCM
import Derived.Test.YtphoglepiegeiaaGreatDoorZCO
import Derived.Test.YtphoglepiegeiaaGreatDoorZCS
import Derived.Test.YtphoglepiegeiaaGreatDoorZCU
set_option linter.unusedSimpArgs false
set_option linter.unusedVariables false
namespace Go.Proofs.YtphoglepiegeiaaGreatDoor
set_option maxRecDepth 20000
open Go.RowKit Pm
abbrev TPC : TypeId := 77
abbrev TPCL : TypeId := 65
theorem Tryz.infoPC : (Tryz.prog.info? TPC).map (fun i => (i.zero, i.size, i.bytes)) = some (some (.agg #[.int .i64 0, .int .i64 0, .string ⟨#[]⟩, .string ⟨#[]⟩, .string ⟨#[]⟩, .int .i64 0, .int .i64 0, .bool false]), 8, 88) := by kernel_rfl
abbrev Opc (lo : Nat) (w : World) (v : Value) (l : List (Nat × Pt)) : Prop := OwG TPC pcC 8 lo w v l
structure ChP (lo : Nat) (w : World) (v : Value) (l : List (Nat × Pt)) (v' : Value) (w' : World) : Prop where
 own : Opc lo w' v' l
 fp : Fp (fun k => v.ownBlock = some k) w w'
 new : ∀ j, v'.ownBlock = some j → v.ownBlock = some j ∨ w.heap.size ≤ j
theorem Sg.keep1 {α : Type} {enc : α → List Value} {k : Nat} {w w' : World} {v : Value} {l : List α} (h : Sg enc k w v l) {S : Nat → Prop} (f : Fp S w w') (hS : ∀ j, v.ownBlock = some j → ¬ S j) : Sg enc k w' v l := by
 obtain ⟨ao, cap, rfl, h3⟩ := h.ex
 refine ⟨ao, cap, rfl, ?_⟩
 rcases h3 with h3 | ⟨g, o, rfl, hc⟩
 ·exact .inl h3
 exact .inr ⟨g, o, rfl, fun i hi => (hc i hi).keep f (hS g rfl)⟩
theorem app_pc (w : World) (lo : Nat) (v : Value) (l : List (Nat × Pt)) (x : Nat × Pt) (ty : TypeId) (ho : Opc lo w v l) (hn : l.length ≤ 50000) (hlo : lo ≤ w.heap.size) :
  ∃ v' w', (Builtin.append_ #[TPCL, TPCL] ty #[v, .slice (some ⟨w.heap.size, 0, none⟩) 1 1]).run Tryz.prog (w.alloc (.cells (pcC x).toArray TPC)) = .ok v' w' ∧ ChP lo (w.alloc (.cells (pcC x).toArray TPC)) v (l ++ [x]) v' w' := by
 have hf := fp_alloc w (.cells (pcC x).toArray TPC)
 have hb := heap_alloc_new w (.cells (pcC x).toArray TPC)
 generalize (w.alloc (.cells (pcC x).toArray TPC)) = W at *
 obtain ⟨v', w', hr, k1, k2, k3⟩ := app_ownG (enc := pcC) pcC_len pcC_one (SL := TPCL) (T := TPC) Tryz.underlying65 Tryz.infoPC rfl (by decide) (by decide) W lo v l [x] ty ⟨w.heap.size, 0, none⟩ 1 1 (ho.non hf) rfl (fun i hi j u hu => by
  have hi0 : i = 0 := by simp at hi; omega
  subst hi0
  rw [Addr.add_lit, cell_of_row _ _ _ _ _ _ hb]
  rw [show 0 + (0 * 8 + j) = j from by omega]
  simpa using hu) (by simp; omega) (Nat.le_trans hlo hf.size)
 exact ⟨v', w', hr, k1, (Fp.refl _ _).grown k2 (fun k hk => .inl hk), k3⟩
theorem pieces_take (l : List Opn) (k : Nat) (hk : k < l.length) : piecesFrom 0 (l.take (k + 1)) = piecesFrom 0 (l.take k) ++ (partsOf l[k]).map (fun p => (k, p)) := by
 rw [take_one hk, pieces_app]
 congr 1
 have : (l.take k).length = k := by rw [List.length_take]; omega
 rw [this]; simp [piecesFrom]
theorem parts_le2 (o : Opn) : (partsOf o).length ≤ 2 := by
 unfold partsOf
 repeat' split
 all_goals simp
theorem pieces_few : ∀ (l : List Opn) (i : Nat), (piecesFrom i l).length ≤ 2 * l.length
 | [], _ => by simp [piecesFrom]
 | o :: l, i => by
  unfold piecesFrom
  rw [List.length_append, List.length_map, List.length_cons]
  have := pieces_few l (i + 1)
  have h2 := parts_le2 o
  omega
set_option maxHeartbeats 16000000 in
theorem mOf_c (lv : Value) (l : List Opn) (w : World) (hl : Ops w lv l) (hls : OSp l) (hln : l.length ≤ 1000000) :
  Calls Tryz.prog 46 #[lv] w fun e w' => (∃ v', e = .returned v' ∧ Opc w.heap.size w' v' (piecesOf l)) ∧ Fp Non w w' := by
 have hmm := mMay_c lv l w hl hls hln
 obtain ⟨al, cl, rfl⟩ := hl.shape
 obtain ⟨n, hn⟩ : ∃ n, n = l.length := ⟨_, rfl⟩
 obtain ⟨bm, hbm⟩ : ∃ b, mayL l = b := ⟨_, rfl⟩
 rw [hbm, ← hn] at hmm
 have hpo : piecesOf l = if bm = true then piecesFrom 0 l else [] := by unfold piecesOf; rw [hbm]
 have HM := zI (yI hmm (yI hbm hpo))
 have HN := zI (yI hn (yI hl hls))
 rw [← hn]
 clear hl hls hln hmm hbm hpo hn
 go_enter Tryz.func46, Tryz.ntmps46
 go_wp2_with fail
 refine HM.out.1.mono ?_
 rintro e w1 ⟨rfl, hf⟩
 have F1 := zI hf
 clear hf
 cases bm with
 | false =>
  have hp := HM.out.2.2
  simp only [Bool.false_eq_true, if_false] at hp
  have HP := zI hp
  clear hp
  go_wp2
  go_ret
  exact ⟨⟨_, rfl, by rw [HP.out]; exact OwG.nil _ _⟩, F1.out⟩
 | true => ?_
 have hp := HM.out.2.2
 simp only [if_true] at hp
 have HP := zI hp
 have hnb : n ≤ 8 := by rw [HN.out.1]; exact ((mayL_iff l).1 HM.out.2.1).1.2
 have H0 : Hid (Opc w.heap.size w1 (.slice none 0 0) (piecesFrom 0 (l.take 0)) ∧ Fp Non w w1) := ⟨by rw [List.take_zero]; exact OwG.nil _ _, F1.out⟩
 clear hp F1
 go_wp2_with fail
 go_loopw [3, 13] (fun v i wr => ∃ k : Nat, k ≤ n ∧ i = .int .i64 k ∧ Hid (Opc w.heap.size wr v (piecesFrom 0 (l.take k)) ∧ Fp Non w wr)) (fun _ i _ => n - (RowKit.intOf i).toNat)
 case atStart => exact ⟨0, Nat.zero_le _, rfl, H0⟩
 clear H0
 obtain ⟨k, hk, rfl, hR⟩ := hrel
 rename_i wr _
 by_cases hlt : k < n
 ·have hkl : k < l.length := by rw [← HN.out.1]; exact hlt
  obtain ⟨g, og, cap', e9, hcell⟩ := (HN.out.2.1.non hR.out.2).at (by omega)
  injection e9 with e1 e2 e3
  subst e1 e3
  clear e2
  have hop := hcell k hkl
  have hsp := HN.out.2.2 _ (List.getElem_mem hkl)
  have hpt := pieces_take l k hkl
  have hpl : (piecesFrom 0 (l.take k)).length ≤ 16 := by have := pieces_few (l.take k) 0; rw [List.length_take] at this; omega
  obtain ⟨x, hx⟩ : ∃ x, l[k] = x := ⟨_, rfl⟩
  rw [hx] at hop hsp hpt
  have hof := fun W => Of_f x W hsp
  have hp2 := parts_le2 x
  obtain ⟨ps, hps⟩ : ∃ ps, partsOf x = ps := ⟨_, rfl⟩
  rw [hps] at hof hpt hp2
  obtain ⟨kk, op, od, ov, oo, ot⟩ := x
  have c0 := hop.c0; have c1 := hop.c1; have c2 := hop.c2; have c3 := hop.c3; have c4 := hop.c4; have c5 := hop.c5
  unfold opV strV at hof
  unfold strV at c1 c2
  simp only at c0 c1 c2 c3 c4 c5 hof
  have HOF := zI (yI hof (yI hpt (yI hp2 hpl)))
  have HL := zI hlt
  have HF := zI hR.out
  have q3 : ((k : Int) < (n : Int)) = True := eq_true (by omega)
  have q4 : (k < n) = True := eq_true hlt
  have fb := fp_alloc wr (.cells #[.int .i64 kk, .string (B op), .string (B od), .int .i64 ov, .int .i64 oo, .bool ot] TO_)
  have FB := zI (HF.out.2.then fb)
  have FB2 := zI fb
  clear hcell hop hsp hpt hpl hx hof hp2 hps hlt hkl hR fb
  go_wp2_with fail
  refine (HOF.out.1 _).mono ?_
  rintro e w5 ⟨⟨v5, rfl, hsg, hnew⟩, hf⟩
  obtain ⟨a5, c5', rfl⟩ := hsg.shape
  obtain ⟨m, hm⟩ : ∃ m, m = ps.length := ⟨_, rfl⟩
  rw [← hm] at hsg ⊢
  have hmb : m ≤ 2 := by rw [hm]; exact HOF.out.2.2.1
  have H5 : Hid (Opc w.heap.size w5 u3 (piecesFrom 0 (l.take k) ++ (ps.take 0).map (fun p => (k, p))) ∧ Fp Non w w5 ∧ Sg ptC 7 w5 (.slice a5 m c5') ps ∧ ∀ j, u3.ownBlock = some j → (Value.slice a5 m c5').ownBlock ≠ some j) := ⟨by rw [List.take_zero, List.map_nil, List.append_nil]; exact HF.out.1.non (FB2.out.then hf), FB.out.then hf, hsg, fun j hj e => by
   have h1 := hnew j (by rw [← hm]; exact e)
   have h2 := (HF.out.1.lt j hj).2
   exact absurd (Nat.lt_of_lt_of_le h2 (Nat.le_trans FB2.out.size h1)) (Nat.lt_irrefl _)⟩
  have HM5 := zI hm
  clear hsg hf hm hnew
  go_wp2_with fail
  go_loopw [3, 21] (fun v i wr => ∃ j : Nat, j ≤ m ∧ i = .int .i64 j ∧ Hid (Opc w.heap.size wr v (piecesFrom 0 (l.take k) ++ (ps.take j).map (fun p => (k, p))) ∧ Fp Non w wr ∧ Sg ptC 7 wr (.slice a5 m c5') ps ∧ ∀ j, v.ownBlock = some j → (Value.slice a5 m c5').ownBlock ≠ some j)) (fun _ i _ => m - (RowKit.intOf i).toNat)
  case atStart => exact ⟨0, Nat.zero_le _, rfl, H5⟩
  clear H5
  obtain ⟨j, hj, rfl, hR⟩ := hrel
  rename World => wr2
  by_cases hlt : j < m
  ·have hjl : j < ps.length := by rw [← HM5.out]; exact hlt
   obtain ⟨g5, o5, cap5, e9, hcell⟩ := hR.out.2.2.1.at (by omega)
   injection e9 with e1 e2 e3
   subst e1 e3
   clear e2
   have hel := hcell j hjl
   have htk : (ps.take (j + 1)).map (fun p => (k, p)) = (ps.take j).map (fun p => (k, p)) ++ [(k, ps[j])] := by rw [List.take_succ_eq_append_getElem hjl, List.map_append]; rfl
   obtain ⟨y, hy⟩ : ∃ y, ps[j] = y := ⟨_, rfl⟩
   rw [hy] at hel htk
   obtain ⟨yk, yd, yp, ya, yv, yo, yt⟩ := y
   have d0 := hel.get 0 _ rfl
   have d1 := hel.get 1 _ rfl
   have d2 := hel.get 2 _ rfl
   have d3 := hel.get 3 _ rfl
   have d4 := hel.get 4 _ rfl
   have d5 := hel.get 5 _ rfl
   have d6 := hel.get 6 _ rfl
   rw [Nat.add_zero] at d0
   unfold strV at d1 d2 d3
   simp only at d0 d1 d2 d3 d4 d5 d6
   have q5 : ((j : Int) < (m : Int)) = True := eq_true (by omega)
   have q6 : (j < m) = True := eq_true hlt
   obtain ⟨p3, n3, c3, rfl⟩ : ∃ p3 n3 c3, u3 = .slice p3 n3 c3 := by
    rcases hR.out.1.2 with ⟨h, _⟩ | ⟨_, _, _, h, _⟩
    ·exact ⟨_, _, _, h⟩
    exact ⟨_, _, _, h⟩
   have fb := fp_alloc wr2 (.cells #[.int .i64 yk, .string (B yd), .string (B yp), .string (B ya), .int .i64 yv, .int .i64 yo, .bool yt] TP)
   have hap := app_pc (wr2.alloc (.cells #[.int .i64 yk, .string (B yd), .string (B yp), .string (B ya), .int .i64 yv, .int .i64 yo, .bool yt] TP)) w.heap.size (.slice p3 n3 c3) (piecesFrom 0 (l.take k) ++ (ps.take j).map (fun p => (k, p))) (k, ⟨yk, yd, yp, ya, yv, yo, yt⟩) TPCL (hR.out.1.non fb) (by rw [List.length_append, List.length_map, List.length_take]; have := HOF.out.2.2.2; omega) (Nat.le_trans hR.out.2.1.size fb.size)
   rw [show (pcC (k, ⟨yk, yd, yp, ya, yv, yo, yt⟩)).toArray = #[.int .i64 (k : Int), .int .i64 yk, .string (B yd), .string (B yp), .string (B ya), .int .i64 yv, .int .i64 yo, .bool yt] from rfl] at hap
   rw [show (wr2.alloc (.cells #[.int .i64 yk, .string (B yd), .string (B yp), .string (B ya), .int .i64 yv, .int .i64 yo, .bool yt] TP)).heap.size = wr2.heap.size + 1 from by simp] at hap
   have HAP := zI hap
   have HTK := zI htk
   have HL2 := zI hlt
   have FB3 := zI (fb.then (fp_alloc (wr2.alloc (.cells #[.int .i64 yk, .string (B yd), .string (B yp), .string (B ya), .int .i64 yv, .int .i64 yo, .bool yt] TP)) (.cells #[.int .i64 (k : Int), .int .i64 yk, .string (B yd), .string (B yp), .string (B ya), .int .i64 yv, .int .i64 yo, .bool yt] TPC)))
   clear hcell hel htk hy hap fb hlt hjl
   go_wp2_with (at_builtin; go_must (refine wpList_app rfl _ _ _ _ rfl _ _ rfl rfl _ HAP.out ?_))
   intro v7 w7 hc
   have hf7 := (hR.out.2.1.then FB3.out).trans hc.fp (fun i hi => .inr (hR.out.1.lt i hi).1)
   have hs7 : Sg ptC 7 w7 (.slice (some ⟨g5, o5, none⟩) m c5') ps := (hR.out.2.2.1.non FB3.out).keep1 hc.fp (fun i hi e => hR.out.2.2.2 i e hi)
   have hfr7 : ∀ i, v7.ownBlock = some i → (Value.slice (some ⟨g5, o5, none⟩) m c5').ownBlock ≠ some i := fun i hi e => by
    rcases hc.new i hi with h | h
    ·exact hR.out.2.2.2 i h e
    have h1 : g5 < wr2.heap.size := World.block_lt_of_cell? wr2 _ d0
    have h2 : g5 = i := by simpa [Value.ownBlock] using e
    have h3 := FB3.out.size
    omega
   have hM : Hid (Opc w.heap.size w7 v7 (piecesFrom 0 (l.take k) ++ (ps.take (j + 1)).map (fun p => (k, p))) ∧ Fp Non w w7 ∧ Sg ptC 7 w7 (.slice (some ⟨g5, o5, none⟩) m c5') ps ∧ ∀ j, v7.ownBlock = some j → (Value.slice (some ⟨g5, o5, none⟩) m c5').ownBlock ≠ some j) := ⟨by rw [HTK.out, List.map_take]; exact hc.own, hf7, hs7, hfr7⟩
   clear hc hf7 hs7 hfr7 d0 d1 d2 d3 d4 d5 d6
   have hj1 := HL2.out
   go_wp2
   go_roundw
   case rel => exact ⟨j + 1, by omega, by go_num, hM⟩
   case measure => simp [RowKit.intOf]; omega
  have hje : j = m := by omega
  subst hje
  have q5 : ((j : Int) < (j : Int)) = False := eq_false (by omega)
  have hO := hR.out.1
  have htl : ps.take j = ps := by rw [HM5.out, List.take_length]
  rw [htl, ← HOF.out.2.1] at hO
  have hM : Hid (Opc w.heap.size wr2 u3 (piecesFrom 0 (l.take (k + 1))) ∧ Fp Non w wr2) := ⟨hO, hR.out.2.1⟩
  clear hO htl hlt hj hR
  have hj1 := HL.out
  go_wp2
  go_roundw
  case rel => exact ⟨k + 1, by omega, by go_num, hM⟩
  case measure => simp [RowKit.intOf]; omega
 have hke : k = n := by omega
 subst hke
 have q3 : ((k : Int) < (k : Int)) = False := eq_false (by omega)
 have hO := hR.out.1
 have htl : l.take k = l := by rw [HN.out.1, List.take_length]
 rw [htl, ← HP.out] at hO
 have H9 := zI (yI hO hR.out.2)
 clear hO htl hlt hk hR
 go_wp2
 go_ret
 exact ⟨⟨_, rfl, H9.out.1⟩, H9.out.2⟩
end Go.Proofs.YtphoglepiegeiaaGreatDoor
namespace Go.Proofs.YtphoglepiegeiaaGreatDoor
set_option maxRecDepth 20000
namespace Pm
def AscW (l : List Nd) : Prop := ∀ i j (hi : i < l.length) (hj : j < l.length), i < j → lt l[j].path l[i].path = false
theorem AscW.tail {a : Nd} {l : List Nd} (h : AscW (a :: l)) : AscW l := fun i j hi hj hij => h (i + 1) (j + 1) (by simp; omega) (by simp; omega) (by omega)
theorem AscW.head {a : Nd} {l : List Nd} (h : AscW (a :: l)) {b : Nd} (hb : b ∈ l) : lt b.path a.path = false := by
 obtain ⟨i, hi, rfl⟩ := List.getElem_of_mem hb
 exact h 0 (i + 1) (by simp) (by simp; omega) (by omega)
theorem StR.next {s : St} (h : StR s) {t : Tu} (ht : t ∈ s.turns) : t.next ≠ 0 := by
 have := h.tfit t ht
 unfold Pm.tfit at this
 simp only [Bool.and_eq_true, decide_eq_true_eq] at this
 omega
end Pm
namespace Pm
def hd0 : List Nd := [⟨[47], [], 0, 0, 0⟩]
theorem hd0_tr : Tr hd0 := (show Tree hd0 from ⟨by decide, by decide, rfl, rfl, by decide, fun i hi => absurd hi (by simp [hd0]), fun i hi hp => absurd hi (by simp [hd0]; omega)⟩).tr
end Pm
namespace Pm
def hl0 : List Nd := [⟨[47], [], 0, 3, 0⟩]
def hlP0 : Pt := ⟨1, [47], [47, 97], [], 0, 0, false⟩
def hlP1 : Pt := ⟨2, [47, 97], [47, 97, 47, 98], [120], 0, 0, false⟩
def hlS : St := ⟨[⟨[47], [], 0, 0, 0⟩, ⟨[47, 97], [], 0, 0, 0⟩], [⟨[47], 3⟩]⟩
end Pm
open Go.RowKit Pm
end Go.Proofs.YtphoglepiegeiaaGreatDoor
namespace Go.Proofs
open Go.Shelf
end Go.Proofs
namespace Go.Proofs.YtphoglepiegeiaaGreatDoor
set_option maxRecDepth 20000
open Go.RowKit Pm Go.Sort
instance : Inhabited Nd := ⟨⟨[], [], 0, 0, 0⟩⟩
end Go.Proofs.YtphoglepiegeiaaGreatDoor
namespace Go.Proofs.YtphoglepiegeiaaGreatDoor
set_option maxRecDepth 20000
open Go.RowKit Pm
structure Sv where
 vn : Value
 vt : Value
 s : St
def svC (x : Sv) : List Value := [x.vn, x.vt]
structure Stos (w : World) (v : Value) (l : List Sv) : Prop where
 sg : Sg svC 2 w v l
 sto : ∀ x ∈ l, Ns w x.vn x.s.nodes ∧ Ts w x.vt x.s.turns
theorem Stos.non {w w' : World} {v : Value} {l : List Sv} (h : Stos w v l) (f : Fp Non w w') : Stos w' v l := ⟨h.sg.non f, fun x hx => ⟨(h.sto x hx).1.non f, (h.sto x hx).2.non f⟩⟩
structure Kb (lo M : Nat) (vn vt : Value) (ns : List Nd) (ts : List Tu) (w : World) : Prop where
 blk : w.heap[M]? = some (.cells #[vn, vt] TST (0, 0))
 own : Ow lo w vn ns
 ownT : OwT lo w vt ts
 neN : vn.ownBlock ≠ some M
 neT : vt.ownBlock ≠ some M
 apart : ∀ k, vn.ownBlock = some k → vt.ownBlock ≠ some k
section
variable {lo M : Nat} {vn vt : Value} {ns : List Nd} {ts : List Tu} {w w' w1 w2 : World}
theorem Kb.non (h : Kb lo M vn vt ns ts w) (f : Fp Non w w') : Kb lo M vn vt ns ts w' := ⟨f.heap h.blk id, h.own.non f, h.ownT.non f, h.neN, h.neT, h.apart⟩
theorem Kb.keep (h : Kb lo M vn vt ns ts w) {S : Nat → Prop} (f : Fp S w w') (hM : ¬ S M) (h1 : ∀ k, vn.ownBlock = some k → ¬ S k) (h2 : ∀ k, vt.ownBlock = some k → ¬ S k) : Kb lo M vn vt ns ts w' := ⟨f.heap h.blk hM, h.own.keep f h1, h.ownT.keep f h2, h.neN, h.neT, h.apart⟩
theorem Kb.lt (h : Kb lo M vn vt ns ts w) : M < w.heap.size := (Array.getElem?_eq_some_iff.1 h.blk).1
theorem Kb.putT (h : Kb lo M vn vt ns ts w) {vt' : Value} {l' : List Tu} (f0 : Fp Non w w1) (c : ChTR lo w1 vt l' vt' w2) :
  Kb lo M vn vt' ns l' (w2.setCell ⟨M, 1, none⟩ vt') := by
 have hb2 := c.fp.heap (h.non f0).blk (fun e => h.neT e)
 have hbl := (h.non f0).lt
 have fs : Fp (fun k => k = M) w2 (w2.setCell ⟨M, 1, none⟩ vt') := (Fp.refl (fun k => k = M) w2).setCell (p := ⟨M, 1, none⟩) (.inl rfl) _
 have hne : vt'.ownBlock ≠ some M := fun e => (c.new M e).elim h.neT (fun k => by omega)
 have hlt := fun k (hk : vn.ownBlock = some k) => (World.ownsRow.lt (h.non f0).own k hk).2
 refine ⟨heap_setCell_same w2 M 1 _ TST _ hb2, ?_, c.own.keep fs (fun k hk e => hne (by rw [hk, e])), h.neN, hne, fun k hk e => ?_⟩
 ·exact ((h.own.non f0).keep c.fp (fun k hk e => h.apart k hk e)).keep fs (fun k hk e => h.neN (by rw [hk, e]))
 rcases c.new k e with e | e
 ·exact h.apart k hk e
 have := hlt k hk; omega
theorem Kb.putN (h : Kb lo M vn vt ns ts w) {vn' : Value} {l' : List Nd} (f0 : Fp Non w w1) (c : ChR lo w1 vn l' vn' w2) :
  Kb lo M vn' vt l' ts (w2.setCell ⟨M, 0, none⟩ vn') := by
 have hb2 := c.fp.heap (h.non f0).blk (fun e => h.neN e)
 have hbl := (h.non f0).lt
 have fs : Fp (fun k => k = M) w2 (w2.setCell ⟨M, 0, none⟩ vn') := (Fp.refl (fun k => k = M) w2).setCell (p := ⟨M, 0, none⟩) (.inl rfl) _
 have hne : vn'.ownBlock ≠ some M := fun e => (c.new M e).elim h.neN (fun k => by omega)
 have hlt := fun k (hk : vt.ownBlock = some k) => (World.ownsRow.lt (h.non f0).ownT k hk).2
 refine ⟨heap_setCell_same w2 M 0 _ TST _ hb2, c.own.keep fs (fun k hk e => hne (by rw [hk, e])), ?_, hne, h.neT, fun k hk e => ?_⟩
 ·exact ((h.ownT.non f0).keep c.fp (fun k hk e => h.apart k e hk)).keep fs (fun k hk e => h.neT (by rw [hk, e]))
 rcases c.new k hk with k' | k'
 ·exact h.apart k k' e
 have := hlt k e; omega
end
theorem turnsOf_snoc (l : List Nd) (x : Nd) : turnsOf (l ++ [x]) = turnsOf l ++ if x.turn ≠ 0 then [⟨x.path, x.turn⟩] else [] := by
 unfold turnsOf
 rw [List.filter_append, List.map_append]
 congr 1
 by_cases h : x.turn = 0 <;> simp [h]
theorem app_kn (w : World) (lo : Nat) (v : Value) (l : List Nd) (x : Nd) (ty : TypeId) (ho : Ow lo w v l) (hn : l.length ≤ 50000) (hlo : lo ≤ w.heap.size) :
  ∃ v' w', (Builtin.append_ #[TL, TL] ty #[v, .slice (some ⟨w.heap.size, 0, none⟩) 1 1]).run Tryz.prog (w.alloc (.cells #[.string (B x.path), .string (B x.data), .int .i64 x.ver, .int .i64 x.turn, .int .i64 x.own] TN)) = .ok v' w' ∧ ChR lo (w.alloc (.cells #[.string (B x.path), .string (B x.data), .int .i64 x.ver, .int .i64 x.turn, .int .i64 x.own] TN)) v (l ++ [x]) v' w' := by
 have hf := fp_alloc w (.cells #[.string (B x.path), .string (B x.data), .int .i64 x.ver, .int .i64 x.turn, .int .i64 x.own] TN)
 have hnd : NdAt (w.alloc (.cells #[.string (B x.path), .string (B x.data), .int .i64 x.ver, .int .i64 x.turn, .int .i64 x.own] TN)) w.heap.size 0 x := NdAt.box w x
 obtain ⟨v', w', hr, h1, h2, h3⟩ := app_own (w.alloc (.cells #[.string (B x.path), .string (B x.data), .int .i64 x.ver, .int .i64 x.turn, .int .i64 x.own] TN)) lo v l [x] ty ⟨w.heap.size, 0, none⟩ 1 1 (ho.non hf) rfl (fun i hi j u hu => by
  have hi0 : i = 0 := by simp at hi; omega
  subst hi0
  have := hnd.get j u hu
  rwa [show 0 * 5 + j = j from by omega]) (by simp; omega) (by simp; omega)
 exact ⟨v', w', hr, h1, (Fp.refl _ _).grown h2 (fun k hk => .inl hk), h3⟩
theorem app_tu (w : World) (lo : Nat) (v : Value) (l : List Tu) (x : Tu) (ty : TypeId) (ho : OwT lo w v l) (hn : l.length ≤ 50000) (hlo : lo ≤ w.heap.size) :
  ∃ v' w', (Builtin.append_ #[TUL, TUL] ty #[v, .slice (some ⟨w.heap.size, 0, none⟩) 1 1]).run Tryz.prog (w.alloc (.cells #[.string (B x.dir), .int .i64 x.next] TU)) = .ok v' w' ∧ ChTR lo (w.alloc (.cells #[.string (B x.dir), .int .i64 x.next] TU)) v (l ++ [x]) v' w' := by
 have hf := fp_alloc w (.cells #[.string (B x.dir), .int .i64 x.next] TU)
 have hb := heap_alloc_new w (.cells #[.string (B x.dir), .int .i64 x.next] TU)
 have hnd : TuAt (w.alloc (.cells #[.string (B x.dir), .int .i64 x.next] TU)) w.heap.size 0 x := ⟨by rw [cell_of_row _ _ _ _ _ _ hb]; rfl, by rw [cell_of_row _ _ _ _ _ _ hb]; rfl⟩
 obtain ⟨v', w', hr, h1, h2, h3⟩ := appT_own (w.alloc (.cells #[.string (B x.dir), .int .i64 x.next] TU)) lo v l [x] ty ⟨w.heap.size, 0, none⟩ 1 1 (ho.non hf) rfl (fun i hi j u hu => by
  have hi0 : i = 0 := by simp at hi; omega
  subst hi0
  have := hnd.get j u hu
  rwa [show 0 * 2 + j = j from by omega]) (by simp; omega) (by simp; omega)
 exact ⟨v', w', hr, h1, (Fp.refl _ _).grown h2 (fun k hk => .inl hk), h3⟩
set_option maxHeartbeats 8000000 in
theorem Keep_c (v : Value) (l : List Nd) (w : World) (hv : Ns w v l) (hn : l.length ≤ 10000) :
  Calls Tryz.prog 32 #[v] w fun e w' => (∃ v', e = .returned v' ∧ Sto w' v' (keep l)) ∧ Fp Non w w' := by
 obtain ⟨ao, cap, rfl⟩ := hv.shape
 obtain ⟨n, hnn⟩ : ∃ n, n = l.length := ⟨_, rfl⟩
 have HX := zI (yI hnn (yI hv hn))
 have hnb : n ≤ 10000 := by omega
 rw [← hnn]
 have H0 : Hid (Kb (w.heap.size + 2) (w.heap.size + 1) (.slice none 0 0) (.slice none 0 0) ((l.take 0).map kn) (turnsOf (l.take 0)) ((w.alloc (.cells #[.slice none 0 0, .slice none 0 0] TST)).alloc (.cells #[.slice none 0 0, .slice none 0 0] TST)) ∧ Fp Non w ((w.alloc (.cells #[.slice none 0 0, .slice none 0 0] TST)).alloc (.cells #[.slice none 0 0, .slice none 0 0] TST)) ∧ ((w.alloc (.cells #[.slice none 0 0, .slice none 0 0] TST)).alloc (.cells #[.slice none 0 0, .slice none 0 0] TST)).heap[w.heap.size]? = some (.cells #[.slice none 0 0, .slice none 0 0] TST (0, 0))) := by
  refine ⟨⟨?_, Ow.nil _ _, OwT.nil _ _, fun e => by simp [Value.ownBlock] at e, fun e => by simp [Value.ownBlock] at e, fun k e => by simp [Value.ownBlock] at e⟩, ((Fp.refl Non w).alloc _).alloc _, (fp_alloc _ _).heap (heap_alloc_new w _) id⟩
  have := heap_alloc_new (w.alloc (.cells #[.slice none 0 0, .slice none 0 0] TST)) (.cells #[.slice none 0 0, .slice none 0 0] TST)
  simpa using this
 clear hv hn hnn
 go_enter Tryz.func32, Tryz.ntmps32
 go_wp2_with fail
 go_loopw [8] (fun i wr => ∃ k : Nat, k ≤ n ∧ i = .int .i64 k ∧ Hid (∃ vn vt, Kb (w.heap.size + 2) (w.heap.size + 1) vn vt ((l.take k).map kn) (turnsOf (l.take k)) wr ∧ Fp Non w wr ∧ wr.heap[w.heap.size]? = some (.cells #[.slice none 0 0, .slice none 0 0] TST (0, 0)))) (fun i _ => n - (RowKit.intOf i).toNat)
 case atStart => exact ⟨0, Nat.zero_le _, rfl, _, _, H0.out⟩
 clear H0
 obtain ⟨k, hk, rfl, hR⟩ := hrel
 rename_i wr _
 obtain ⟨vn, vt, hKb, hF, hZ⟩ := hR.out
 clear hR
 by_cases hlt : k < n
 ·have hkl : k < l.length := by rw [← HX.out.1]; exact hlt
  obtain ⟨g, og, cap', e9, _, _, _, hcell⟩ := HX.out.2.1.at (by omega)
  injection e9 with e1 e2 e3
  subst e1 e3
  have hnd := (hcell k hkl).keep hF id
  have htk : (l.take (k + 1)).map kn = (l.take k).map kn ++ [kn l[k]] := by rw [List.take_succ_eq_append_getElem hkl, List.map_append]; rfl
  have htt : turnsOf (l.take (k + 1)) = turnsOf (l.take k) ++ if l[k].turn ≠ 0 then [⟨l[k].path, l[k].turn⟩] else [] := by rw [List.take_succ_eq_append_getElem hkl, turnsOf_snoc]
  obtain ⟨x, hx⟩ : ∃ x, l[k] = x := ⟨_, rfl⟩
  rw [hx] at hnd htk htt
  obtain ⟨xp, xd, xv, xt, xo⟩ := x
  have hlk : ((l.take k).map kn).length ≤ 50000 := by rw [List.length_map, List.length_take]; have := HX.out.2.2; omega
  have hlt2 : (turnsOf (l.take k)).length ≤ 50000 := by
   unfold turnsOf; rw [List.length_map]; refine Nat.le_trans (List.length_filter_le _ _) ?_; rw [List.length_take]; have := HX.out.2.2; omega
  have HLK := zI (yI hlk hlt2)
  have HTK := zI (yI htk htt)
  have c0 := hnd.c0; have c1 := hnd.c1; have c2 := hnd.c2; have c3 := hnd.c3; have c4 := hnd.c4
  unfold strV at c0 c1
  simp only at c0 c1 c2 c3 c4
  have q3 : ((k : Int) < (n : Int)) = True := eq_true (by omega)
  have q4 : (k < n) = True := eq_true hlt
  have HL := zI hlt
  have HKb := zI (yI hKb (yI hF hZ))
  clear hcell hnd htk htt hx hkl hlk hlt2 hKb hF hZ hlt
  generalize (l.take k).map kn = Lk at *
  generalize turnsOf (l.take k) = Tk at *
  by_cases hxt : xt = 0
  ·have q5 : (xt != 0) = false := by simp [hxt]
   have HXT := zI hxt
   have hf1 := fp_alloc wr (.cells #[.string (B xp), .string (B xd), .int .i64 xv, .int .i64 0, .int .i64 xo] TN)
   have hap := app_kn (wr.alloc (.cells #[.string (B xp), .string (B xd), .int .i64 xv, .int .i64 0, .int .i64 xo] TN)) (w.heap.size + 2) vn Lk ⟨xp, xd, xv, 0, xo⟩ TL (HKb.out.1.own.non hf1) HLK.out.1 (by have h1 := HKb.out.1.lt; simp; omega)
   simp only at hap
   rw [show (wr.alloc (.cells #[.string (B xp), .string (B xd), .int .i64 xv, .int .i64 0, .int .i64 xo] TN)).heap.size = wr.heap.size + 1 from by simp] at hap
   have hf2 := hf1.then (fp_alloc (wr.alloc (.cells #[.string (B xp), .string (B xd), .int .i64 xv, .int .i64 0, .int .i64 xo] TN)) (.cells #[.string (B xp), .string (B xd), .int .i64 xv, .int .i64 0, .int .i64 xo] TN))
   have HF2 := zI hf2
   have m0 := (boxP2 HKb.out.1.blk).1
   have m1 := hf1.cell m0 id
   have m2 := hf2.cell m0 id
   have HAP := zI hap
   obtain ⟨an, cn, hsh⟩ := HKb.out.1.own.ns.shape
   subst hsh
   clear hap hf1 hf2 hxt
   go_wp2_with (at_builtin; go_must (refine wpList_app rfl _ _ _ _ rfl _ _ rfl rfl _ HAP.out ?_))
   intro v4 w4 hc
   have hK4 := HKb.out.1.putN HF2.out hc
   have hb4 := hc.fp.heap (HKb.out.1.non HF2.out).blk (fun e => HKb.out.1.neN e)
   have m4 := (boxP2 hb4).1
   have z4 := frozen_at hb4 0
   have hfs : Fp (fun j => j = w.heap.size + 1) w4 (w4.setCell ⟨w.heap.size + 1, 0, none⟩ v4) := (Fp.refl (fun j => j = w.heap.size + 1) w4).setCell (p := ⟨w.heap.size + 1, 0, none⟩) (.inl rfl) _
   have hfw := ((HKb.out.2.1.then HF2.out).trans hc.fp (fun j hj => .inr (by have := (World.ownsRow.lt HKb.out.1.own j hj).1; omega))).trans hfs (fun j hj => .inr (by omega))
   have hz4 := hfs.heap (hc.fp.heap (HF2.out.heap HKb.out.2.2 id) (fun e => by have := (World.ownsRow.lt HKb.out.1.own _ e).1; omega)) (fun e => by omega)
   have hM : Hid (∃ vn vt, Kb (w.heap.size + 2) (w.heap.size + 1) vn vt ((l.take (k + 1)).map kn) (turnsOf (l.take (k + 1))) (w4.setCell ⟨w.heap.size + 1, 0, none⟩ v4) ∧ Fp Non w (w4.setCell ⟨w.heap.size + 1, 0, none⟩ v4) ∧ (w4.setCell ⟨w.heap.size + 1, 0, none⟩ v4).heap[w.heap.size]? = some (.cells #[.slice none 0 0, .slice none 0 0] TST (0, 0))) := ⟨v4, vt, by rw [HTK.out.1, HTK.out.2, if_neg (by simpa using HXT.out), List.append_nil]; exact hK4, hfw, hz4⟩
   obtain ⟨a4, c4', hsh⟩ := hc.own.ns.shape
   obtain ⟨n4, hn4⟩ : ∃ n4, n4 = (Lk ++ [(⟨xp, xd, xv, 0, xo⟩ : Nd)]).length := ⟨_, rfl⟩
   rw [← hn4] at hsh
   subst hsh
   clear hc hK4 hb4 hfs hfw hz4 m0 m1 m2 c0 c1 c2 c3 c4 hn4
   have hj1 := HL.out
   go_wp2
   go_roundw
   case rel => exact ⟨k + 1, by omega, by go_num, hM⟩
   case measure => simp [RowKit.intOf]; omega
  have q5 : (xt != 0) = true := by simpa using hxt
  have q6 : (xt == 0) = false := by simpa using hxt
  have q7 : (xt = 0) = False := eq_false hxt
  have HXT := zI hxt
  have hf1 := fp_alloc wr (.cells #[.string (B xp), .string (B xd), .int .i64 xv, .int .i64 xt, .int .i64 xo] TN)
  have hap := app_tu (wr.alloc (.cells #[.string (B xp), .string (B xd), .int .i64 xv, .int .i64 xt, .int .i64 xo] TN)) (w.heap.size + 2) vt Tk ⟨xp, xt⟩ TUL (HKb.out.1.ownT.non hf1) HLK.out.2 (by have h1 := HKb.out.1.lt; simp; omega)
  simp only at hap
  rw [show (wr.alloc (.cells #[.string (B xp), .string (B xd), .int .i64 xv, .int .i64 xt, .int .i64 xo] TN)).heap.size = wr.heap.size + 1 from by simp] at hap
  have hf2 := hf1.then (fp_alloc (wr.alloc (.cells #[.string (B xp), .string (B xd), .int .i64 xv, .int .i64 xt, .int .i64 xo] TN)) (.cells #[.string (B xp), .int .i64 xt] TU))
  have HF2 := zI (yI hf2 ((fp_alloc (wr.alloc (.cells #[.string (B xp), .string (B xd), .int .i64 xv, .int .i64 xt, .int .i64 xo] TN)) (.cells #[.string (B xp), .int .i64 xt] TU)).heap (heap_alloc_new wr (.cells #[.string (B xp), .string (B xd), .int .i64 xv, .int .i64 xt, .int .i64 xo] TN)) id))
  have m0 := (boxP2 HKb.out.1.blk).2
  have m1 := hf1.cell m0 id
  have m2 := hf2.cell m0 id
  have HAP := zI hap
  obtain ⟨at_, ct, hsh⟩ := HKb.out.1.ownT.ns.shape
  subst hsh
  clear hap hf1 hf2 hxt
  go_wp2_with (at_builtin; go_must (refine wpList_app rfl _ _ _ _ rfl _ _ rfl rfl _ HAP.out ?_))
  intro v4 w4 hc
  have hK4 := HKb.out.1.putT HF2.out.1 hc
  have hwl := HKb.out.1.lt
  have hb4 := hc.fp.heap (HKb.out.1.non HF2.out.1).blk (fun e => HKb.out.1.neT e)
  have m4 := (boxP2 hb4).2
  have z4 := frozen_at hb4 1
  have hfs : Fp (fun j => j = w.heap.size + 1) w4 (w4.setCell ⟨w.heap.size + 1, 1, none⟩ v4) := (Fp.refl (fun j => j = w.heap.size + 1) w4).setCell (p := ⟨w.heap.size + 1, 1, none⟩) (.inl rfl) _
  have hfw := ((HKb.out.2.1.then HF2.out.1).trans hc.fp (fun j hj => .inr (by have := (World.ownsRow.lt HKb.out.1.ownT j hj).1; omega))).trans hfs (fun j hj => .inr (by omega))
  have hz4 := hfs.heap (hc.fp.heap (HF2.out.1.heap HKb.out.2.2 id) (fun e => by have := (World.ownsRow.lt HKb.out.1.ownT _ e).1; omega)) (fun e => by omega)
  have hx4 := hfs.heap (hc.fp.heap HF2.out.2 (fun e => by have := (World.ownsRow.lt HKb.out.1.ownT _ e).2; omega)) (fun e => by omega)
  have hnw : ∀ j, v4.ownBlock = some j → j ≠ wr.heap.size := fun j hj e => by
   rcases hc.new j hj with h | h
   ·have := (World.ownsRow.lt HKb.out.1.ownT _ h).2; omega
   simp at h; omega
  obtain ⟨a4, c4', hsh⟩ := hc.own.ns.shape
  obtain ⟨n4, hn4⟩ : ∃ n4, n4 = (Tk ++ [(⟨xp, xt⟩ : Tu)]).length := ⟨_, rfl⟩
  rw [← hn4] at hsh
  subst hsh
  have HNW := zI hnw
  have HK4 := zI (yI hK4 (yI hfw (yI hz4 (yI hx4 (show wr.heap.size < w4.heap.size from (Array.getElem?_eq_some_iff.1 (hc.fp.heap HF2.out.2 (fun e => by have := (World.ownsRow.lt HKb.out.1.ownT _ e).2; omega))).1)))))
  have HWL := zI hwl
  clear hc hb4 hfs hfw hz4 hK4 hx4 hnw m0 m1 m2 c0 c1 c2 c3 c4 hn4 hwl
  go_upto_region 7 with (fail)
  clear m4 z4
  generalize (w4.setCell ⟨w.heap.size + 1, 1, none⟩ _) = w5 at *
  obtain ⟨b0, b1, b2, b3, b4⟩ := box5 HK4.out.2.2.2.1
  have y3 := frozen_at HK4.out.2.2.2.1 3
  have hr6 := heap_setCell_same w5 wr.heap.size 3 _ TN (.int .i64 0) HK4.out.2.2.2.1
  have hf6 : Fp (fun j => j = wr.heap.size) w5 (w5.setCell ⟨wr.heap.size, 3, none⟩ (.int .i64 0)) := (Fp.refl (fun j => j = wr.heap.size) w5).setCell (p := ⟨wr.heap.size, 3, none⟩) (.inl rfl) _
  have hK6 := HK4.out.1.keep hf6 (fun e => by have := HWL.out; omega) (fun j hj e => by have := (World.ownsRow.lt HKb.out.1.own j hj).2; have e : j = wr.heap.size := e; omega) (fun j hj e => HNW.out j hj e)
  have hfa := fp_alloc (w5.setCell ⟨wr.heap.size, 3, none⟩ (.int .i64 0)) (.cells #[.string (B xp), .string (B xd), .int .i64 xv, .int .i64 0, .int .i64 xo] TN)
  have hap := app_kn (w5.setCell ⟨wr.heap.size, 3, none⟩ (.int .i64 0)) (w.heap.size + 2) vn Lk ⟨xp, xd, xv, 0, xo⟩ TL hK6.own HLK.out.1 (by have h1 := hK6.lt; omega)
  simp only at hap
  rw [show (w5.setCell ⟨wr.heap.size, 3, none⟩ (.int .i64 0)).heap.size = w5.heap.size from by simp [World.setCell]] at hap
  have HAP2 := zI hap
  have HF6 := zI (yI hfa (yI hK6 (yI ((HK4.out.2.1).trans hf6 (fun j hj => .inr (by have := HWL.out; have hj : j = wr.heap.size := hj; omega))) (hf6.heap HK4.out.2.2.1 (fun e => by have := HWL.out; have e : w.heap.size = wr.heap.size := e; omega)))))
  have m0 := (boxP2 HK4.out.1.blk).1
  have m6 := (boxP2 hK6.blk).1
  obtain ⟨d0, d1, d2, d3, d4⟩ := box5 hr6
  have nM : (w.heap.size + 1 = wr.heap.size) = False := eq_false (by have := HWL.out; omega)
  have nM2 : (wr.heap.size = w.heap.size + 1) = False := eq_false (by have := HWL.out; omega)
  have hsh := HKb.out.1.own.ns.shape
  clear hap hfa hK6 hf6 hr6 HAP
  obtain ⟨an, cn, hsh⟩ := hsh
  subst hsh
  go_wp2_with (at_builtin; go_must (refine wpList_app rfl _ _ _ _ rfl _ _ rfl rfl _ HAP2.out ?_))
  intro v7 w7 hc
  have hK7 := HF6.out.2.1.putN HF6.out.1 hc
  have hb7 := hc.fp.heap (HF6.out.2.1.non HF6.out.1).blk (fun e => HF6.out.2.1.neN e)
  have m7 := (boxP2 hb7).1
  have z7 := frozen_at hb7 0
  have hfs : Fp (fun j => j = w.heap.size + 1) w7 (w7.setCell ⟨w.heap.size + 1, 0, none⟩ v7) := (Fp.refl (fun j => j = w.heap.size + 1) w7).setCell (p := ⟨w.heap.size + 1, 0, none⟩) (.inl rfl) _
  have hfw := ((HF6.out.2.2.1.then HF6.out.1).trans hc.fp (fun j hj => .inr (by have := (World.ownsRow.lt HF6.out.2.1.own j hj).1; omega))).trans hfs (fun j hj => .inr (by omega))
  have hz7 := hfs.heap (hc.fp.heap (HF6.out.1.heap HF6.out.2.2.2 id) (fun e => by have := (World.ownsRow.lt HF6.out.2.1.own _ e).1; omega)) (fun e => by omega)
  have hM : Hid (∃ vn vt, Kb (w.heap.size + 2) (w.heap.size + 1) vn vt ((l.take (k + 1)).map kn) (turnsOf (l.take (k + 1))) (w7.setCell ⟨w.heap.size + 1, 0, none⟩ v7) ∧ Fp Non w (w7.setCell ⟨w.heap.size + 1, 0, none⟩ v7) ∧ (w7.setCell ⟨w.heap.size + 1, 0, none⟩ v7).heap[w.heap.size]? = some (.cells #[.slice none 0 0, .slice none 0 0] TST (0, 0))) := ⟨v7, _, by rw [HTK.out.1, HTK.out.2, if_pos HXT.out]; exact hK7, hfw, hz7⟩
  obtain ⟨a7, c7', hsh⟩ := hc.own.ns.shape
  obtain ⟨n7, hn7⟩ : ∃ n7, n7 = (Lk ++ [(⟨xp, xd, xv, 0, xo⟩ : Nd)]).length := ⟨_, rfl⟩
  rw [← hn7] at hsh
  subst hsh
  clear hc hK7 hb7 hfs hfw hz7 m0 m6 d0 d1 d2 d3 d4 b0 b1 b2 b3 b4 hn7 y3
  have hj1 := HL.out
  go_wp2
  go_roundw
  case rel => exact ⟨k + 1, by omega, by go_num, hM⟩
  case measure => simp [RowKit.intOf]; omega
 have hke : k = n := by omega
 subst hke
 have q3 : ((k : Int) < (k : Int)) = False := eq_false (by omega)
 have htl : l.take k = l := by rw [HX.out.1, List.take_length]
 rw [htl] at hKb
 have HF := zI (yI hKb (yI hF hZ))
 clear htl hlt hk
 obtain ⟨m0, m1⟩ := boxP2 hKb.blk
 obtain ⟨y0, y1⟩ := boxP2 hZ
 have z0 := frozen_at hZ 0; have z1 := frozen_at hZ 1
 have hset := two_set hZ vn vt
 have hfs : Fp (fun j => j = w.heap.size) wr ((wr.setCell ⟨w.heap.size, 0, none⟩ vn).setCell ⟨w.heap.size, 1, none⟩ vt) := ((Fp.refl (fun j => j = w.heap.size) wr).setCell (p := ⟨w.heap.size, 0, none⟩) (.inl rfl) vn).setCell (p := ⟨w.heap.size, 1, none⟩) (.inl rfl) vt
 have hE : Hid (Sto ((wr.setCell ⟨w.heap.size, 0, none⟩ vn).setCell ⟨w.heap.size, 1, none⟩ vt) (.agg #[vn, vt]) (Pm.keep l) ∧ Fp Non w ((wr.setCell ⟨w.heap.size, 0, none⟩ vn).setCell ⟨w.heap.size, 1, none⟩ vt)) := ⟨⟨vn, vt, rfl, hKb.own.ns.keep hfs (fun j hj e => by have := (World.ownsRow.lt hKb.own j hj).1; have e : j = w.heap.size := e; omega), hKb.ownT.ns.keep hfs (fun j hj e => by have := (World.ownsRow.lt hKb.ownT j hj).1; have e : j = w.heap.size := e; omega)⟩, hF.trans hfs (fun j hj => .inr (by omega))⟩
 have HS := zI hset
 obtain ⟨an, cn, hsh⟩ := hKb.own.ns.shape
 rw [List.length_map] at hsh
 subst hsh
 obtain ⟨at_, ct, hsh⟩ := hKb.ownT.ns.shape
 subst hsh
 clear hKb hF hZ hset hfs HF
 go_wp2
 have hs := HS.out
 have he := hE.out
 generalize ((World.setCell _ _ _).setCell _ _) = wz at *
 obtain ⟨t0, t1⟩ := boxP2 hs
 exact bodyPost_ret (v := .agg #[.slice an l.length cn, .slice at_ (turnsOf l).length ct]) (by simp [results, Tryz.results32, go_sem, t0, t1]) rfl ⟨⟨_, rfl, he.1⟩, he.2⟩
end Go.Proofs.YtphoglepiegeiaaGreatDoor
namespace Go.Proofs.YtphoglepiegeiaaGreatDoor
set_option maxRecDepth 20000
open Go.RowKit Pm
theorem Kp.sg {α : Type} {enc : α → List Value} {k : Nat} {W : World} {v : Value} {l : List α} (h : Sg enc k W v l) : Kp (fun W' => Sg enc k W' v l) W := fun W' f => h.non f
theorem Kp.el {α : Type} {enc : α → List Value} {W : World} {g o : Nat} {x : α} (h : ElAt enc W g o x) : Kp (fun W' => ElAt enc W' g o x) W := fun W' f => h.keep f id
theorem Kp.sto {W : World} {v : Value} {s : St} (h : Sto W v s) : Kp (fun W' => Sto W' v s) W := fun W' f => h.non f
structure Hb (w : World) (g o bs : Nat) (an at_ : Option Addr) (cn ct : Nat) (W : World) : Prop where
 fp : Fp Non w W
 e0 : ElAt ptC W g o hlP0
 e1 : ElAt ptC W g (o + 7) hlP1
 sb : W.heap[bs]? = some (.cells #[.slice an 2 cn, .slice at_ 1 ct] TST (0, 0))
 sto : Sto W (.agg #[.slice an 2 cn, .slice at_ 1 ct]) hlS
 tab : Tab W
section
variable {w : World} {g o bs : Nat} {an at_ : Option Addr} {cn ct : Nat} {W : World}
theorem Kp.hb (h : Hb w g o bs an at_ cn ct W) : Kp (Hb w g o bs an at_ cn ct) W := fun W' f => ⟨h.fp.then f, h.e0.keep f id, h.e1.keep f id, f.heap h.sb id, h.sto.non f, h.tab.non f⟩
end
end Go.Proofs.YtphoglepiegeiaaGreatDoor
namespace Go.Proofs.YtphoglepiegeiaaGreatDoor
set_option maxRecDepth 20000
namespace Pm
def sp (acc : List Bs) (cur : Bs) : Bs → Option (List Bs)
 | [] => if isPart cur = true ∧ acc.length < 6 then some (acc ++ [cur]) else none
 | c :: r => if c ≠ 47 then sp acc (cur ++ [c]) r else if isPart cur = true ∧ acc.length < 6 then sp (acc ++ [cur]) [] r else none
theorem cut_head {c : UInt8} {l : Bs} (h : c ≠ 47) : cut (c :: l) = ([], []) := by simp [cut, h]
theorem splitN_bad {n : Nat} {c : UInt8} {l : Bs} (h : c ≠ 47) : splitN n (c :: l) = none := by
 cases n with
 | zero => rfl
 | succ n => unfold splitN; rw [cut_head h]; simp
theorem splitN_no (n : Nat) (cur rest : Bs) (hc : ∀ c ∈ cur, c ≠ 47) (hr : rest = [] ∨ ∃ t, rest = 47 :: t) (hp : isPart cur = false) : splitN n (47 :: (cur ++ rest)) = none := by
 cases n with
 | zero => rfl
 | succ n => ?_
 by_cases h0 : cur = []
 ·subst h0
  have e : pl 12 rest = 0 := by
   rcases hr with rfl | ⟨t, rfl⟩
   ·rfl
   simp [pl, show okB 47 = false from by decide]
  unfold splitN
  simp [cut, e]
 have hlt : pl 12 cur < cur.length := by
  have h1 := pl_len 12 cur
  rcases Nat.lt_or_eq_of_le h1 with h | h
  ·exact h
  rw [(isPart_iff cur).2 ⟨h0, h⟩] at hp; cases hp
 have e : pl 12 (cur ++ rest) = pl 12 cur := by
  have key : ∀ (k : Nat) (x : Bs), pl k x < x.length → pl k (x ++ rest) = pl k x := by
   intro k
   induction k with
   | zero => intro x _; cases x <;> simp [pl]
   | succ k ih =>
    intro x hx
    cases x with
    | nil => simp at hx
    | cons c x => ?_
    by_cases hok : okB c = true
    ·simp [pl, hok] at hx ⊢
     exact ih x hx
    simp [pl, hok]
  exact key 12 cur hlt
 obtain ⟨c, t, hd⟩ : ∃ c t, cur.drop (pl 12 cur) = c :: t := by
  cases hh : cur.drop (pl 12 cur) with
  | nil => have := congrArg List.length hh; simp at this; omega
  | cons c t => exact ⟨c, t, rfl⟩
 have hne : c ≠ 47 := hc c (List.mem_of_mem_drop (by rw [hd]; simp))
 have e2 : (cur ++ rest).drop (pl 12 cur) = c :: (t ++ rest) := by
  rw [List.drop_append_of_le_length (by omega), hd]; rfl
 unfold splitN
 have ec : cut (47 :: (cur ++ rest)) = ((cur ++ rest).take (pl 12 cur), c :: (t ++ rest)) := by
  show ((cur ++ rest).take (pl 12 (cur ++ rest)), (cur ++ rest).drop (pl 12 (cur ++ rest))) = _
  rw [e, e2]
 rw [ec]
 simp only
 rw [splitN_bad hne]
 simp
theorem splitN_part (n : Nat) (cur rest : Bs) (hr : rest = [] ∨ ∃ t, rest = 47 :: t) (hp : isPart cur = true) :
  splitN (n + 1) (47 :: (cur ++ rest)) = if rest = [] then some [cur] else (splitN n rest).map (cur :: ·) := by
 have hi := (isPart_iff cur).1 hp
 have e := pl_app 12 cur rest hi.2 hr
 have ec : cut (47 :: (cur ++ rest)) = (cur, rest) := by
  show ((cur ++ rest).take (pl 12 (cur ++ rest)), (cur ++ rest).drop (pl 12 (cur ++ rest))) = _
  rw [e]; simp
 conv => lhs; unfold splitN
 rw [ec]; simp only; rw [if_neg hi.1]
theorem sp_eq : ∀ (rest cur : Bs) (acc : List Bs), acc.length ≤ 6 → (∀ c ∈ cur, c ≠ 47) → sp acc cur rest = (splitN (6 - acc.length) (47 :: (cur ++ rest))).map (acc ++ ·)
 | [], cur, acc, ha, hc => by
  unfold sp
  cases hp : isPart cur with
  | false => rw [splitN_no _ cur [] hc (Or.inl rfl) hp]; simp
  | true => ?_
  by_cases h6 : acc.length < 6
  ·rw [show 6 - acc.length = (5 - acc.length) + 1 by omega, splitN_part _ cur [] (Or.inl rfl) hp]; simp [h6]
  rw [show 6 - acc.length = 0 by omega]; simp [h6, splitN]
 | c :: r, cur, acc, ha, hc => by
  unfold sp
  by_cases h47 : c ≠ 47
  ·rw [if_pos h47, sp_eq r (cur ++ [c]) acc ha (fun x hx => by rw [List.mem_append] at hx; rcases hx with hx | hx; exact hc x hx; simp at hx; rw [hx]; exact h47)]
   simp
  have h47' : c = 47 := Decidable.not_not.1 h47
  subst h47'
  rw [if_neg h47]
  cases hp : isPart cur with
  | false => rw [splitN_no _ cur (47 :: r) hc (Or.inr ⟨r, rfl⟩) hp]; simp
  | true => ?_
  by_cases h6 : acc.length < 6
  ·rw [if_pos ⟨rfl, h6⟩, sp_eq r [] (acc ++ [cur]) (by simp; omega) (by simp),
    show 6 - acc.length = (5 - acc.length) + 1 by omega, splitN_part _ cur (47 :: r) (Or.inr ⟨r, rfl⟩) hp]
   simp only [List.nil_append, List.length_append, List.length_cons, List.length_nil]
   rw [show 6 - (acc.length + (0 + 1)) = 5 - acc.length by omega, if_neg (by simp)]
   simp [Function.comp_def]
  rw [if_neg (fun h => h6 h.2), show 6 - acc.length = 0 by omega]; simp [splitN]
theorem sp_split (r : Bs) (h : r ≠ []) : split (47 :: r) = sp [] [] r := by
 rw [sp_eq r [] [] (by simp) (by simp)]
 unfold split
 rw [if_neg (by simpa using h)]
 simp
theorem split_other {c : UInt8} {r : Bs} (h : c ≠ 47) : split (c :: r) = none := by
 unfold split; rw [if_neg (by rintro ⟨⟩; exact h rfl), splitN_bad h]
theorem split_nil : split [] = none := by decide
theorem isPart_all (l : Bs) : isPart l = (decide (1 ≤ l.length ∧ l.length ≤ 12) && l.all okB) := by
 rw [Bool.eq_iff_iff, isPart_iff]
 simp only [Bool.and_eq_true, decide_eq_true_eq, List.all_eq_true]
 constructor
 ·rintro ⟨h0, h1⟩
  have hp := isPart_len ((isPart_iff l).2 ⟨h0, h1⟩)
  refine ⟨hp, ?_⟩
  have key : ∀ (k : Nat) (x : Bs), pl k x = x.length → ∀ c ∈ x, okB c = true := by
   intro k
   induction k with
   | zero => intro x hx c hc; cases x with
    | nil => cases hc
    | cons a x => simp [pl] at hx
   | succ k ih =>
    intro x hx c hc
    cases x with
    | nil => cases hc
    | cons a x => ?_
    by_cases ha : okB a = true
    ·simp [pl, ha] at hx
     rcases List.mem_cons.1 hc with rfl | hc
     ·exact ha
     exact ih x hx c hc
    simp [pl, ha] at hx
  exact key 12 l h1
 rintro ⟨⟨h1, h2⟩, h3⟩
 refine ⟨by rintro rfl; simp at h1, ?_⟩
 rw [pl_all 12 l h3]; omega
end Pm
open Go.RowKit Pm
set_option maxHeartbeats 1000000 in
theorem rPart_c (l : Bs) (w : World) (hl : l.length ≤ 9223372036854775807) :
  Calls Tryz.prog 138 #[.string (B l)] w fun e w' => e = .returned (.bool (isPart l)) ∧ w = w' := by
 go_enter Tryz.func138, Tryz.ntmps138
 go_wp2
 go_loop [3] (fun i => ∃ k : Nat, k ≤ l.length ∧ i = .int .i64 k ∧ Hid (∀ i (h : i < l.length), i < k → okB l[i] = true)) (fun i => l.length - (intOf i).toNat)
 case atStart => exact ⟨0, by omega, rfl, fun i h hn => by omega⟩
 obtain ⟨k, hk, rfl, ha⟩ := hrel
 by_cases h1 : k < l.length
 ·obtain ⟨n, hn⟩ : ∃ n, (l[k]).toNat = n := ⟨_, rfl⟩
  by_cases hok : okN n = true
  ·have hnx : Hid (∀ i (h : i < l.length), i < k + 1 → okB l[i] = true) := fun i hi hik => by
    by_cases e : i = k
    ·subst e; unfold okB; rw [hn]; exact hok
    exact ha i hi (by omega)
   clear ha
   have hd : n = 45 ∨ (97 ≤ n ∧ n ≤ 122) ∨ (48 ≤ n ∧ n ≤ 57) := by unfold okN at hok; simp at hok; omega
   clear hok
   rcases hd with rfl | ⟨d1, d2⟩ | ⟨d1, d2⟩
   all_goals (
    go_wp2
    go_round
    case rel => exact ⟨k + 1, by omega, by go_num, hnx⟩
    case measure => simp [intOf]; omega)
  have hbad : isPart l = false := by
   rw [isPart_all, Bool.and_eq_false_iff]; right
   rw [List.all_eq_false]
   exact ⟨l[k], List.getElem_mem h1, by unfold okB; rw [hn]; exact hok⟩
  have HB := Lib.hid hbad; clear hbad ha
  have hd : n < 45 ∨ (45 < n ∧ n < 48) ∨ (57 < n ∧ n < 97) ∨ 122 < n := by unfold okN at hok; simp at hok; omega
  clear hok
  rcases hd with d1 | ⟨d1, d2⟩ | ⟨d1, d2⟩ | d1
  all_goals (
   have hne : ((n : Int) != 45) = true := by rw [bne_iff_ne]; omega
   go_wp2
   go_ret
   exact ⟨ret_bool HB.out.symm, rfl⟩)
 have hke : k = l.length := by omega
 subst hke
 have hall : l.all okB = true := by
  rw [List.all_eq_true]; intro c hc
  obtain ⟨i, hi, rfl⟩ := List.getElem_of_mem hc
  exact ha i hi hi
 have hp : isPart l = decide (1 ≤ l.length ∧ l.length ≤ 12) := by rw [isPart_all, hall, Bool.and_true]
 have HP := Lib.hid hp; clear hp hall ha
 go_wp2
 all_goals (go_ret; refine ⟨ret_bool ?_, rfl⟩; rw [HP.out, Bool.eq_iff_iff]; simp; omega)
def At (l : Bs) (acc : List Bs) (fr i : Nat) : Prop :=
 (i ≤ l.length ∧ 1 ≤ fr ∧ fr ≤ i ∧ split l = sp acc ((l.drop fr).take (i - fr)) (l.drop i)) ∨ (i = l.length + 1 ∧ split l = some acc)
theorem At.other {l : Bs} {acc : List Bs} {fr i : Nat} (h : At l acc fr i) (hi : i < l.length) (hc : l[i] ≠ 47) : At l acc fr (i + 1) := by
 rcases h with ⟨h1, h2, h3, h4⟩ | ⟨h1, _⟩
 ·refine Or.inl ⟨by omega, h2, by omega, ?_⟩
  rw [h4, List.drop_eq_getElem_cons hi]
  conv => lhs; unfold sp
  rw [if_pos hc]
  have e : (l.drop fr).take (i + 1 - fr) = (l.drop fr).take (i - fr) ++ [l[i]] := by
   rw [show i + 1 - fr = (i - fr) + 1 by omega, List.take_succ_eq_append_getElem (by simp; omega), List.getElem_drop]
   congr 2; simp [show fr + (i - fr) = i by omega]
  rw [e]
 omega
theorem At.bad {l : Bs} {acc : List Bs} {fr i : Nat} (h : At l acc fr i) (hi : i ≤ l.length) (hc : ∀ h : i < l.length, l[i] = 47) (hb : isPart ((l.drop fr).take (i - fr)) = false ∨ 6 ≤ acc.length) : split l = none := by
 rcases h with ⟨h1, h2, h3, h4⟩ | ⟨h1, _⟩
 ·rw [h4]
  have hn : ¬ (isPart ((l.drop fr).take (i - fr)) = true ∧ acc.length < 6) := by
   rintro ⟨a, b⟩
   rcases hb with hb | hb
   ·rw [a] at hb; cases hb
   omega
  by_cases hlt : i < l.length
  ·rw [List.drop_eq_getElem_cons hlt]
   unfold sp
   rw [if_neg (by simpa using hc hlt), if_neg hn]
  rw [show l.drop i = [] from List.drop_of_length_le (by omega)]
  unfold sp; rw [if_neg hn]
 omega
theorem At.part {l : Bs} {acc : List Bs} {fr i : Nat} (h : At l acc fr i) (hi : i ≤ l.length) (hc : ∀ h : i < l.length, l[i] = 47) (hp : isPart ((l.drop fr).take (i - fr)) = true) (h6 : acc.length < 6) :
  At l (acc ++ [(l.drop fr).take (i - fr)]) (i + 1) (i + 1) := by
 rcases h with ⟨h1, h2, h3, h4⟩ | ⟨h1, _⟩
 ·by_cases hlt : i < l.length
  ·refine Or.inl ⟨by omega, by omega, Nat.le_refl _, ?_⟩
   rw [h4, List.drop_eq_getElem_cons hlt]
   conv => lhs; unfold sp
   rw [if_neg (by simpa using hc hlt), if_pos ⟨hp, h6⟩]
   simp
  refine Or.inr ⟨by omega, ?_⟩
  rw [h4, show l.drop i = [] from List.drop_of_length_le (by omega)]
  unfold sp; rw [if_pos ⟨hp, h6⟩]
 omega
def RRel (l : Bs) (w : World) (v f i : Value) (wr : World) : Prop :=
 ∃ (acc : List Bs) (fr j : Nat), j ≤ l.length + 1 ∧ 1 ≤ j ∧ f = .int .i64 fr ∧ i = .int .i64 j ∧ fr ≤ j ∧ acc.length ≤ 6 ∧ At l acc fr j ∧ Own w.heap.size wr v acc ∧ Below w.heap.size w wr
set_option maxRecDepth 100000 in
set_option maxHeartbeats 2000000 in
theorem rSplit_loop (c : UInt8) (r : Bs) (w : World) (hl : r.length ≤ 4611686018427387903) (hc : c = 47) (hr : r ≠ []) :
  Calls Tryz.prog 103 #[.string (B (c :: r))] w (SplitPost (c :: r) w) := by
 obtain ⟨i0, hi, hz0, hz1, hz2⟩ := info_parts Tryz.infoS
 obtain ⟨l, hle⟩ : ∃ l, l = c :: r := ⟨_, rfl⟩
 have hl0 : (l == [47]) = false := by rw [hle, hc]; simpa using hr
 have hlen : 1 ≤ l.length := by rw [hle]; simp
 have hl' : l.length ≤ 4611686018427387904 := by rw [hle]; simp; omega
 have hnil : l.isEmpty = false := by rw [hle]; rfl
 have hne : l ≠ [] := by rw [hle]; simp
 have hat : At l [] 1 1 := Or.inl ⟨by omega, by omega, by omega, by rw [hle, hc]; simpa using sp_split r hr⟩
 have hg0 : l[0] = 47 := by simp only [hle, hc, List.getElem_cons_zero]
 have hne2 : l ≠ [47] := by simpa using hl0
 rw [← hle]
 have HA := Lib.hid hat; clear hat hle
 go_enter Tryz.func103, Tryz.ntmps103
 go_wp2
 go_loopw [4, 5, 6] (fun v f i wr => RRel l w v f i wr) (fun _ _ i _ => l.length + 1 - (intOf i).toNat)
 case atStart => exact ⟨[], 1, 1, by omega, by omega, rfl, rfl, by omega, by simp, HA.out, Own.nil _ _, Below.refl _ _⟩
 clear HA hg0
 obtain ⟨acc, fr, j, hj, hj1, rfl, rfl, hfj, h6, hA, hown, hb⟩ := hrel
 have HA := Lib.hid hA; clear hA
 have hs := hb.size
 by_cases hjl : j ≤ l.length
 ·by_cases hsl : ∃ h : j < l.length, l[j] ≠ 47
  ·obtain ⟨hlt, h47⟩ := hsl
   have h47' : (((l[j]).toNat : Int) != 47) = true := by
    rw [bne_iff_ne]; intro h; apply h47; apply UInt8.toNat.inj; exact Int.ofNat_inj.1 h
   have hA' := Lib.hid (HA.out.other hlt h47)
   clear h47
   go_wp2
   go_roundw
   case rel => exact ⟨acc, fr, j + 1, by omega, by omega, rfl, by go_num, by omega, h6, hA'.out, hown, hb⟩
   case measure => simp [intOf]; omega
  have h47 : ∀ h : j < l.length, l[j] = 47 := fun h => Decidable.not_not.1 fun k => hsl ⟨h, k⟩
  clear hsl
  have hcl : ((l.drop fr).take (j - fr)).length ≤ 9223372036854775807 := by simp; omega
  obtain ⟨ao, cap, rfl⟩ := hown.shape
  cases hp : isPart ((l.drop fr).take (j - fr)) with
  | false =>
   have hno := Lib.hid (HA.out.bad hjl h47 (Or.inl hp))
   have HP := Lib.hid (fun w => (by rw [← hp]; exact rPart_c _ w hcl : Calls Tryz.prog 138 #[.string (B ((l.drop fr).take (j - fr)))] w fun e w' => e = .returned (.bool false) ∧ w = w'))
   clear hp
   by_cases hlt : j < l.length
   ·have h47' : (((l[j]).toNat : Int) != 47) = false := by rw [h47 hlt]; rfl
    clear h47
    go_wp2_with fail
    refine (HP.out _).mono ?_
    rintro e w1 ⟨rfl, rfl⟩
    go_wp2
    go_ret2
    exact ⟨_, by rw [hno.out]; rfl, by rw [hno.out]; exact Own.nil _ _, hb⟩
   clear h47
   go_wp2_with fail
   refine (HP.out _).mono ?_
   rintro e w1 ⟨rfl, rfl⟩
   go_wp2
   go_ret2
   exact ⟨_, by rw [hno.out]; rfl, by rw [hno.out]; exact Own.nil _ _, hb⟩
  | true => ?_
  have HP := Lib.hid (fun w => (by rw [← hp]; exact rPart_c _ w hcl : Calls Tryz.prog 138 #[.string (B ((l.drop fr).take (j - fr)))] w fun e w' => e = .returned (.bool true) ∧ w = w'))
  by_cases h66 : acc.length < 6
  ·have hA' := Lib.hid (HA.out.part hjl h47 hp h66)
   clear hp
   by_cases hlt : j < l.length
   ·have h47' : (((l[j]).toNat : Int) != 47) = false := by rw [h47 hlt]; rfl
    clear h47
    go_wp2_with fail
    refine (HP.out _).mono ?_
    rintro e w1 ⟨rfl, rfl⟩
    go_wp2_with (at_builtin; go_must (refine wpList_append_own _ rfl _ _ 32 rfl w.heap.size 9 i0 (.string ⟨#[]⟩) 1 16 Tryz.underlying32 hi hz0 hz1 hz2 rfl (by decide) _ _ _ rfl (hown.1.alloc _) ⟨wr.heap.size, 0, none⟩ 1 1 [strV ((l.drop fr).take (j - fr))] rfl rfl (cell_one_new _ _ _) (one_c2 _) (by unfold maxLen; omega) (by omega) (by simp; omega) ?_; intro v' w2 hown' hgrow _))
    obtain ⟨hO, hB⟩ := Own.push hown.1 hb hs hown' hgrow
    clear hown' hgrow hown
    go_roundw
    case rel => exact ⟨acc ++ [((l.drop fr).take (j - fr))], j + 1, j + 1, by omega, by omega, by go_num, by go_num, by omega, by simp; omega, hA'.out, hO, hB⟩
    case measure => simp [intOf]; omega
   clear h47
   go_wp2_with fail
   refine (HP.out _).mono ?_
   rintro e w1 ⟨rfl, rfl⟩
   go_wp2_with (at_builtin; go_must (refine wpList_append_own _ rfl _ _ 32 rfl w.heap.size 9 i0 (.string ⟨#[]⟩) 1 16 Tryz.underlying32 hi hz0 hz1 hz2 rfl (by decide) _ _ _ rfl (hown.1.alloc _) ⟨wr.heap.size, 0, none⟩ 1 1 [strV ((l.drop fr).take (j - fr))] rfl rfl (cell_one_new _ _ _) (one_c2 _) (by unfold maxLen; omega) (by omega) (by simp; omega) ?_; intro v' w2 hown' hgrow _))
   obtain ⟨hO, hB⟩ := Own.push hown.1 hb hs hown' hgrow
   clear hown' hgrow hown
   go_roundw
   case rel => exact ⟨acc ++ [((l.drop fr).take (j - fr))], j + 1, j + 1, by omega, by omega, by go_num, by go_num, by omega, by simp; omega, hA'.out, hO, hB⟩
   case measure => simp [intOf]; omega
  have hno := Lib.hid (HA.out.bad hjl h47 (Or.inr (by omega)))
  clear hp
  by_cases hlt : j < l.length
  ·have h47' : (((l[j]).toNat : Int) != 47) = false := by rw [h47 hlt]; rfl
   clear h47
   go_wp2_with fail
   refine (HP.out _).mono ?_
   rintro e w1 ⟨rfl, rfl⟩
   go_wp2
   go_ret2
   exact ⟨_, by rw [hno.out]; rfl, by rw [hno.out]; exact Own.nil _ _, hb⟩
  clear h47
  go_wp2_with fail
  refine (HP.out _).mono ?_
  rintro e w1 ⟨rfl, rfl⟩
  go_wp2
  go_ret2
  exact ⟨_, by rw [hno.out]; rfl, by rw [hno.out]; exact Own.nil _ _, hb⟩
 have hje : j = l.length + 1 := by omega
 have e : split l = some acc := by
  rcases HA.out with ⟨h, _⟩ | ⟨_, h⟩
  ·omega
  exact h
 have HE := Lib.hid e; clear e HA
 go_wp2
 go_ret2
 exact ⟨_, by rw [HE.out]; rfl, by rw [HE.out]; exact hown, hb⟩
set_option maxHeartbeats 400000 in
theorem rSplit_c (l : Bs) (w : World) (hl : l.length ≤ 4611686018427387904) :
  Calls Tryz.prog 103 #[.string (B l)] w (SplitPost l w) := by
 match l, hl with
 | [], _ =>
  go_enter Tryz.func103, Tryz.ntmps103
  go_wp2
  go_ret2
  exact ⟨_, by rw [split_nil]; rfl, by rw [split_nil]; exact Own.nil _ _, Below.refl _ _⟩
 | c :: r, hl =>
  by_cases hc : c = 47
  ·by_cases hr : r = []
   ·subst hc hr
    go_enter Tryz.func103, Tryz.ntmps103
    go_wp2
    go_ret2
    exact ⟨_, rfl, Own.nil _ _, Below.refl _ _⟩
   exact rSplit_loop c r w (by simp at hl; omega) hc hr
  have hne : ((c.toNat : Int) != 47) = true := by
   rw [bne_iff_ne]; intro h; apply hc; apply UInt8.toNat.inj; exact Int.ofNat_inj.1 h
  have h0 : (c :: r == [47]) = false := by
   rw [beq_eq_false_iff_ne]; rintro ⟨⟩; exact hc rfl
  have hn2 : ¬ (c = 47 ∧ r = []) := fun h => hc h.1
  have HS := Lib.hid (split_other (r := r) hc)
  clear hc
  simp at hl
  go_enter Tryz.func103, Tryz.ntmps103
  go_wp2
  go_ret2
  exact ⟨_, by rw [HS.out]; rfl, by rw [HS.out]; exact Own.nil _ _, Below.refl _ _⟩
end Go.Proofs.YtphoglepiegeiaaGreatDoor
