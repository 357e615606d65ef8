/- A text of this proof. -/
import Derived.Deep.Upon
import Derived.Test.YtphoglepiegeiaaGreatDoorZDF
import Derived.Test.YtphoglepiegeiaaGreatDoorZDL
import Derived.Test.YtphoglepiegeiaaGreatDoorZDX
set_option linter.unusedSimpArgs false
set_option linter.unusedVariables false
namespace Go.Proofs.YtphoglepiegeiaaGreatDoor
set_option maxRecDepth 20000
open Go.RowKit Pm
theorem app_ns (w : World) (lo : Nat) (v x : Value) (l m : List Nd) (ty : TypeId) (ho : Ow lo w v l) (hx : Ns w x m) (hn : l.length + m.length ≤ 100000) (hlo : lo ≤ w.heap.size) :
  ∃ v' w', (Builtin.append_ #[TL, TL] ty #[v, x]).run Tryz.prog w = .ok v' w' ∧ ChR lo w v (l ++ m) v' w' := by
 obtain ⟨ao, cap, rfl, h1, h2, h3⟩ := hx.ex
 cases ao with
 | none =>
  have hm : m = [] := by
   rcases h3 with h3 | ⟨g, o, e, _⟩
   ·exact h3
   cases e
  subst hm
  obtain ⟨i, hi, hz, hsz, hby⟩ := info_parts Tryz.infoN
  have hs : Src Tryz.prog i.size TL (.slice none 0 cap) 0 [] w := Src.ofNil w Tryz.underlying22 _
  refine ⟨v, w, ?_, by rw [List.append_nil]; exact ho, Fp.refl _ _, fun k hk => .inl hk⟩
  rcases ho.2 with ⟨rfl, _⟩ | ⟨g, cap, cur, rfl, hb, hgg, r1, r2, r3⟩
  ·exact run_append_nothing w _ _ _ _ i Tryz.underlying22 hi none 0 0 (Nat.le_refl _) _ hs
  exact run_append_nothing w _ _ _ _ i Tryz.underlying22 hi _ _ _ r1 _ hs
 | some a => ?_
 obtain ⟨v', w', hr, k1, k2, k3⟩ := app_own w lo v l m ty a m.length cap ho rfl (fun i hi j u hu => by
  rcases h3 with h3 | ⟨g, o, e, _, hc⟩
  ·subst h3; simp at hi
  injection e with e
  subst e
  have := (hc i hi).get j u hu
  rw [Addr.add_lit] at this ⊢
  rwa [Nat.add_assoc] at this) hn hlo
 exact ⟨v', w', hr, k1, (Fp.refl _ _).grown k2 (fun k hk => .inl hk), k3⟩
structure Sv where
 vn : Value
 vt : Value
 s : St
def svC (x : Sv) : List Value := [x.vn, x.vt]
theorem svC_len (x : Sv) : (svC x).length = 2 := rfl
structure Stos (w : World) (v : Value) (l : List Sv) : Prop where
 sg : Sg svC 2 w v l
 sto : ∀ x ∈ l, Ns w x.vn x.s.nodes ∧ Ts w x.vt x.s.turns
theorem Stos.non {w w' : World} {v : Value} {l : List Sv} (h : Stos w v l) (f : Fp Non w w') : Stos w' v l := ⟨h.sg.non f, fun x hx => ⟨(h.sto x hx).1.non f, (h.sto x hx).2.non f⟩⟩
structure Sfew (s : St) : Prop where
 sp : Sp s.nodes
 dirs : ∀ t ∈ s.turns, t.dir.length ≤ 1000000
 nodes : s.nodes.length ≤ 3900
 turns : s.turns.length ≤ 3900
structure TreR (ss : List St) (w : World) (e : Ending) (w' : World) : Prop where
 ex : ∃ v b, e = .returned (.tuple #[v, .bool b]) ∧ ((b = true ∧ ∃ y, Ns w' v y ∧ TreeOf ss y) ∨ (b = false ∧ v = .slice none 0 0 ∧ ∀ y, ¬ TreeOf ss y))
 fp : Fp Non w w'
structure TrM (l : List Sv) (w : World) (k : Nat) (v : Value) (wr : World) : Prop where
 own : Ow w.heap.size wr v ((l.take k).flatMap (fun x => x.s.nodes))
 right : ∀ x ∈ l.take k, StR x.s
 fp : Fp Non w wr
theorem few_all : ∀ (l : List Sv), (∀ x ∈ l, x.s.nodes.length ≤ 3900) → (l.flatMap (fun x => x.s.nodes)).length ≤ 3900 * l.length
 | [], _ => by simp
 | a :: l, h => by
  rw [List.flatMap_cons, List.length_append, List.length_cons]
  have h1 := h a (List.mem_cons_self ..)
  have h2 := few_all l (fun x hx => h x (List.mem_cons_of_mem _ hx))
  omega
structure SowR (lo : Nat) (w : World) (v : Value) (l : List Nd) (w' : World) : Prop where
 ex : ∃ A, Ow lo w' v A ∧ A.Perm l ∧ AscW A
 fp : Fp (fun k => v.ownBlock = some k) w w'
theorem sort_ow {lo : Nat} {w : World} {v : Value} {l : List Nd} (h : Ow lo w v l) (hl : l.length ≤ 1000000) :
  Calls Tryz.prog 71 #[v, .func (.func 72) #[] #[]] w fun e w' => e = .returned (.tuple #[]) ∧ SowR lo w v l w' := by
 rcases h.ways with ⟨rfl, rfl⟩ | ⟨G, cap, rfl, hr, hlo⟩
 ·refine (sort_none w _).mono ?_
  rintro e w' ⟨he, rfl⟩
  exact ⟨he, ⟨[], h, List.Perm.refl _, fun i j hi _ _ => by simp at hi⟩, Fp.refl _ _⟩
 refine (sort_c w G cap l hr hl).mono ?_
 rintro e w' ⟨he, ⟨A, k1, k2, k3⟩, hf⟩
 refine ⟨he, ⟨A, ?_, k2, k3⟩, hf.mono fun k e => by subst e; rfl⟩
 have := Ow.row (lo := lo) k1 hlo
 rwa [k2.length_eq] at this
theorem flat_st (l : List Sv) : (l.map Sv.s).flatMap St.nodes = l.flatMap (fun x => x.s.nodes) ∧ (l.map Sv.s).flatMap St.turns = l.flatMap (fun x => x.s.turns) := by
 constructor <;> rw [List.flatMap_map]
set_option maxHeartbeats 8000000 in
theorem Tree_c (v : Value) (l : List Sv) (w : World) (hv : Stos w v l) (hn : l.length ≤ 3) (hf : ∀ x ∈ l, Sfew x.s) :
  Calls Tryz.prog 27 #[v] w (TreR (l.map Sv.s) w) := by
 obtain ⟨ao, cap, rfl⟩ := hv.sg.shape
 obtain ⟨n, hnn⟩ : ∃ n, n = l.length := ⟨_, rfl⟩
 have hnb : n ≤ 3 := by omega
 have HX := Lib.hid (And.intro hnn (And.intro hv hf))
 rw [← hnn]
 have H0 : Hid (TrM l w 0 (.slice none 0 0) w) := ⟨by rw [List.take_zero]; exact Ow.nil _ _, (by rw [List.take_zero]; intro x hx; cases hx), Fp.refl _ _⟩
 clear hv hn hf hnn
 go_enter Tryz.func27, Tryz.ntmps27
 go_wp2_with fail
 go_loopw [4, 11] (fun va i wr => ∃ k : Nat, k ≤ n ∧ i = .int .i64 k ∧ Hid (TrM l w k va wr)) (fun _ i _ => n - (RowKit.intOf i).toNat)
 case atStart => exact ⟨0, Nat.zero_le _, rfl, H0⟩
 clear H0
 obtain ⟨k, hk, rfl, hR⟩ := hrel
 rename_i wr _
 by_cases hlt : k < n
 ·have hkl : k < l.length := by rw [← HX.out.1]; exact hlt
  have HS := HX.out.2.1.non hR.out.fp
  obtain ⟨g, o, ct', e9, hcell⟩ := HS.sg.at (by omega)
  injection e9 with e1 e2 e3
  subst e1 e3
  clear e2
  have hel := hcell k hkl
  have hst := HS.sto l[k] (List.getElem_mem hkl)
  have hfw := HX.out.2.2 l[k] (List.getElem_mem hkl)
  have htk : (l.take (k + 1)).flatMap (fun x => x.s.nodes) = (l.take k).flatMap (fun x => x.s.nodes) ++ l[k].s.nodes := by rw [List.take_succ_eq_append_getElem hkl, List.flatMap_append]; simp
  have hlen : ((l.take k).flatMap (fun x => x.s.nodes)).length ≤ 12000 := by
   have := few_all (l.take k) (fun x hx => (HX.out.2.2 x (List.mem_of_mem_take hx)).nodes)
   rw [List.length_take] at this; omega
  have hno : ¬ StR l[k].s → ∀ y, ¬ TreeOf (l.map Sv.s) y := fun h y t => h (t.right _ (List.mem_map.2 ⟨l[k], List.getElem_mem hkl, rfl⟩))
  have hri : StR l[k].s → ∀ x ∈ l.take (k + 1), StR x.s := fun h x hx => by
   rw [List.take_succ_eq_append_getElem hkl, List.mem_append, List.mem_singleton] at hx
   rcases hx with hx | rfl
   ·exact hR.out.right x hx
   exact h
  obtain ⟨x, hx⟩ : ∃ x, l[k] = x := ⟨_, rfl⟩
  rw [hx] at hel hst hfw htk hno hri
  obtain ⟨xn, xt, xs⟩ := x
  simp only at hst hfw htk hno hri
  have c0 := hel.get 0 xn rfl
  have c1 := hel.get 1 xt rfl
  rw [Nat.add_zero] at c0
  obtain ⟨an, cn, hsh⟩ := hst.1.shape
  obtain ⟨at_, ct, hsh2⟩ := hst.2.shape
  subst hsh hsh2
  obtain ⟨b, hb⟩ : ∃ b, rightS xs = b := ⟨_, rfl⟩
  have hrc := fun W (f : Fp Non wr W) => rightP_c (.agg #[.slice an xs.nodes.length cn, .slice at_ xs.turns.length ct]) xs W ⟨_, _, rfl, hst.1.non f, hst.2.non f⟩ hfw.sp (by have := hfw.nodes; omega) hfw.dirs (by have := hfw.turns; omega)
  rw [hb] at hrc
  have HRC := Lib.hid (And.intro hrc (And.intro hst.1 (And.intro hlen (And.intro hfw.nodes hR.out.own))))
  have HB := Lib.hid (And.intro hb (And.intro hno (And.intro hri htk)))
  have q3 : ((k : Int) < (n : Int)) = True := eq_true (by omega)
  have q4 : (k < n) = True := eq_true hlt
  have HL := Lib.hid hlt
  obtain ⟨nn, hnn⟩ : ∃ nn, nn = xs.nodes.length := ⟨_, rfl⟩
  obtain ⟨tt, htt⟩ : ∃ tt, tt = xs.turns.length := ⟨_, rfl⟩
  have HNN := Lib.hid hnn
  rw [← hnn] at HRC c0
  rw [← htt] at HRC c1
  clear HS hcell hel hst hfw htk hlen hno hri hx hb hrc hlt hkl hnn htt
  have hf0 := fp_alloc wr (.cells #[.slice an nn cn, .slice at_ tt ct] TST)
  have hb0 := heap_alloc_new wr (.cells #[.slice an nn cn, .slice at_ tt ct] TST)
  have HF0 := Lib.hid (And.intro hf0 hb0)
  clear hf0 hb0
  cases b with
  | false =>
   have HNO := Lib.hid (HB.out.2.1 (fun h => by have := rightS_true h; rw [HB.out.1] at this; cases this))
   go_wp2_with fail
   refine (HRC.out.1 _ HF0.out.1).mono ?_
   rintro e w1 ⟨rfl, hf⟩
   have F := Lib.hid ((hR.out.fp.then HF0.out.1).then hf)
   clear hf
   go_wp2
   go_ret2
   exact ⟨⟨_, _, rfl, .inr ⟨rfl, rfl, HNO.out⟩⟩, F.out⟩
  | true => ?_
  have HRI := Lib.hid (HB.out.2.2.1 ((rightS_iff _).1 HB.out.1))
  go_wp2_with fail
  refine (HRC.out.1 _ HF0.out.1).mono ?_
  rintro e w1 ⟨rfl, hf⟩
  have F := Lib.hid (HF0.out.1.then hf)
  obtain ⟨b0, b1⟩ := boxP2 (hf.heap HF0.out.2 id)
  have hap := app_ns w1 w.heap.size u4 (.slice an nn cn) ((l.take k).flatMap (fun x => x.s.nodes)) xs.nodes TL (HRC.out.2.2.2.2.non F.out) (HRC.out.2.1.non F.out) (by have := HRC.out.2.2.1; have := HRC.out.2.2.2.1; have := HNN.out; omega) (by have := hR.out.fp.size; have := F.out.size; omega)
  have HAP := Lib.hid hap
  clear hf hap
  go_wp2_with (at_builtin; go_must (refine wpList_app rfl _ _ _ _ rfl _ _ rfl rfl _ HAP.out ?_))
  intro v4 w4 hc
  have hM : Hid (TrM l w (k + 1) v4 w4) := ⟨by rw [HB.out.2.2.2]; exact hc.own, HRI.out, (hR.out.fp.then F.out).trans hc.fp (fun j hj => .inr ((World.ownsRow.lt HRC.out.2.2.2.2 j hj).1))⟩
  obtain ⟨a4, c4', hsh⟩ := hc.own.ns.shape
  clear hc b0 b1
  have hj1 := HL.out
  go_wp2
  go_roundw
  case rel => exact ⟨k + 1, by omega, by go_num, hM⟩
  case measure => simp [RowKit.intOf]; omega
 have hke : k = n := by omega
 subst hke
 have q3 : ((k : Int) < (k : Int)) = False := eq_false (by omega)
 have htl : l.take k = l := by rw [HX.out.1, List.take_length]
 have hO := hR.out.own
 have hRR := hR.out.right
 rw [htl] at hO hRR
 have HO := Lib.hid (And.intro hO (And.intro hRR hR.out.fp))
 clear htl hlt hk hO hRR hR
 have hlen := few_all l (fun x hx => (HX.out.2.2 x hx).nodes)
 have hso := sort_ow HO.out.1 (by have := HX.out.1; omega)
 have HSO := Lib.hid hso
 clear hlen hso
 have hkk : k ≤ 3 := hnb
 go_wp2_with fail
 refine HSO.out.mono ?_
 rintro e w1 ⟨rfl, ⟨A, hA, hP, hW⟩, hf⟩
 have F1 := Lib.hid (HO.out.2.2.trans hf (fun j hj => .inr ((World.ownsRow.lt HO.out.1 j hj).1)))
 have HA := Lib.hid (And.intro hP (And.intro hW hA))
 clear hf hA hP hW
 have HW := Lib.hid HO.out.2.1
 have HLO := Lib.hid (fun j hj => (World.ownsRow.lt HO.out.1 j hj).1)
 clear HO HSO
 have hk0 : (0 : Nat) ≤ k := Nat.zero_le _
 have hlenA : A.length ≤ 12000 := by
  have h1 := HA.out.1.length_eq
  have h2 := few_all l (fun x hx => (HX.out.2.2 x hx).nodes)
  have h3 := HX.out.1
  omega
 have H0 : Hid (∃ m, giveAll A ((l.take 0).flatMap (fun x => x.s.turns)) = some m ∧ Ow w.heap.size w1 u4 m ∧ Fp Non w w1) := ⟨A, by rw [List.take_zero]; rfl, HA.out.2.2, F1.out⟩
 have HLA := Lib.hid hlenA
 clear hlenA F1
 go_wp2_with fail
 go_loopw [27] (fun i wr => ∃ j : Nat, j ≤ k ∧ i = .int .i64 j ∧ Hid (∃ m, giveAll A ((l.take j).flatMap (fun x => x.s.turns)) = some m ∧ Ow w.heap.size wr u4 m ∧ Fp Non w wr)) (fun i _ => k - (RowKit.intOf i).toNat)
 case atStart => exact ⟨0, Nat.zero_le _, rfl, H0⟩
 clear H0
 obtain ⟨j, hj, rfl, hR⟩ := hrel
 rename World => wr2
 obtain ⟨m, hg, hO, hF⟩ := hR.out
 clear hR
 by_cases hlt : j < k
 ·have hjl : j < l.length := by rw [← HX.out.1]; exact hlt
  have HS := HX.out.2.1.non hF
  obtain ⟨g, o, ct', e9, hcell⟩ := HS.sg.at (by omega)
  injection e9 with e1 e2 e3
  subst e1 e3
  clear e2
  have hel := hcell j hjl
  have hst := HS.sto l[j] (List.getElem_mem hjl)
  have hst0 := HX.out.2.1.sto l[j] (List.getElem_mem hjl)
  have hfw := HX.out.2.2 l[j] (List.getElem_mem hjl)
  have htk : (l.take (j + 1)).flatMap (fun x => x.s.turns) = (l.take j).flatMap (fun x => x.s.turns) ++ l[j].s.turns := by rw [List.take_succ_eq_append_getElem hjl, List.flatMap_append]; simp
  have hall : l.flatMap (fun x => x.s.turns) = (l.take (j + 1)).flatMap (fun x => x.s.turns) ++ (l.drop (j + 1)).flatMap (fun x => x.s.turns) := by rw [← List.flatMap_append, List.take_append_drop]
  obtain ⟨x, hx⟩ : ∃ x, l[j] = x := ⟨_, rfl⟩
  rw [hx] at hel hst hst0 hfw htk
  obtain ⟨xn, xt, xs⟩ := x
  simp only at hst hst0 hfw htk
  have c0 := hel.get 0 xn rfl
  have c1 := hel.get 1 xt rfl
  rw [Nat.add_zero] at c0
  have hkn := giveAll_kn hg
  have hml : m.length ≤ 12000 := by have h1 := congrArg List.length hkn; simp only [List.length_map] at h1; have := HLA.out; omega
  have hmw := HA.out.2.1.kn hkn
  have hap : 0 < xs.turns.length → ∀ i, xt.ownBlock = some i → u4.ownBlock ≠ some i := fun h0 i hi e => by
   obtain ⟨g', o', c', e1, _, _, hgl, _⟩ := hst0.2.at h0
   rw [e1] at hi
   have e2 : g' = i := by simpa [Value.ownBlock] using hi
   have := HLO.out i e
   omega
  have hgive : giveAll A ((l.take (j + 1)).flatMap (fun x => x.s.turns)) = giveAll m xs.turns := by rw [htk, giveAll_app, hg]; rfl
  have htt := fun W (f : Fp Non wr2 W) => takeTurns_c (lo := w.heap.size) (hO.non f) (hst.2.non f) hap hmw (by omega) (by have := hfw.turns; omega)
  have HTT := Lib.hid (And.intro htt (And.intro hgive (And.intro hall (And.intro hO hF))))
  have q3 : ((j : Int) < (k : Int)) = True := eq_true (by omega)
  have q4 : (j < k) = True := eq_true hlt
  have HL := Lib.hid hlt
  obtain ⟨an, cn, hsh⟩ := hst.1.shape
  obtain ⟨at_, ct, hsh2⟩ := hst.2.shape
  subst hsh hsh2
  obtain ⟨nn, hnn⟩ : ∃ nn, nn = xs.nodes.length := ⟨_, rfl⟩
  obtain ⟨tt, htt2⟩ : ∃ tt, tt = xs.turns.length := ⟨_, rfl⟩
  rw [← hnn] at c0
  rw [← htt2] at c1 HTT
  have hf0 := fp_alloc wr2 (.cells #[.slice an nn cn, .slice at_ tt ct] TST)
  have hb0 := heap_alloc_new wr2 (.cells #[.slice an nn cn, .slice at_ tt ct] TST)
  obtain ⟨b0, b1⟩ := boxP2 hb0
  have HF0 := Lib.hid hf0
  clear HS hcell hel hst hst0 hfw htk hall hap hmw hml hkn hgive htt hx hlt hjl hnn htt2 hf0 hb0 hg hO hF
  go_wp2_with fail
  refine (HTT.out.1 _ HF0.out).mono ?_
  rintro e w2 ⟨⟨b, rfl, hb⟩, hf⟩
  have F2 := Lib.hid ((HTT.out.2.2.2.2.then HF0.out).trans hf (fun i hi => .inr (HLO.out i hi)))
  clear hf b0 b1
  rcases hb with ⟨rfl, m2, hm2, hO2⟩ | ⟨rfl, hm2⟩
  ·have hM : Hid (∃ m, giveAll A ((l.take (j + 1)).flatMap (fun x => x.s.turns)) = some m ∧ Ow w.heap.size w2 u4 m ∧ Fp Non w w2) := ⟨m2, by rw [HTT.out.2.1]; exact hm2, hO2, F2.out⟩
   clear hm2 hO2
   have hj1 := HL.out
   go_wp2
   go_roundw
   case rel => exact ⟨j + 1, by omega, by go_num, hM⟩
   case measure => simp [RowKit.intOf]; omega
  have hno : giveAll A (l.flatMap (fun x => x.s.turns)) = none := by rw [HTT.out.2.2.1, giveAll_app, HTT.out.2.1, hm2]; rfl
  have HNO := Lib.hid (show ∀ y, ¬ TreeOf (l.map Sv.s) y from fun y t => by
   have := tree_made t (by rw [(flat_st l).1]; exact HA.out.1) HA.out.2.1
   rw [(flat_st l).2, hno] at this; cases this)
  clear hm2 hno
  go_wp2
  go_ret2
  exact ⟨⟨_, _, rfl, .inr ⟨rfl, rfl, HNO.out⟩⟩, F2.out⟩
 have hke : j = k := by omega
 subst hke
 have q3 : ((j : Int) < (j : Int)) = False := eq_false (by omega)
 have htl : l.take j = l := by rw [HX.out.1, List.take_length]
 rw [htl, ← (flat_st l).2] at hg
 have hkn := giveAll_kn hg
 have hspA : Sp A := fun x hx => by
  obtain ⟨y, hy, hxy⟩ := List.mem_flatMap.1 (HA.out.1.mem_iff.1 hx)
  exact (HX.out.2.2 y hy).sp x hxy
 have hspm : Sp m := fun x hx => by
  have h1 : kn x ∈ A.map kn := by rw [← hkn]; exact List.mem_map.2 ⟨x, hx, rfl⟩
  obtain ⟨y, hy, e⟩ := List.mem_map.1 h1
  have h2 := hspA y hy
  have e2 : (kn y).path = (kn x).path := by rw [e]
  rw [kn_path, kn_path] at e2
  rw [e2] at h2; exact h2
 have hnr := fun W (f : Fp Non wr2 W) => nRight_c u4 m W (hO.non f).ns hspm
 obtain ⟨b, hb⟩ : ∃ b, right m = b := ⟨_, rfl⟩
 rw [hb] at hnr
 have HR := Lib.hid (And.intro hnr (And.intro hb (And.intro hg (And.intro hO hF))))
 clear htl hlt hj hkn hspA hspm hnr hb hg hO hF
 go_wp2_with fail
 refine (HR.out.1 _ (Fp.refl _ _)).mono ?_
 rintro e w2 ⟨rfl, hf⟩
 have F2 := Lib.hid (HR.out.2.2.2.2.then hf)
 have HO2 := Lib.hid (HR.out.2.2.2.1.non hf)
 clear hf
 cases b with
 | true =>
  have HT := Lib.hid (tree_of (ss := l.map Sv.s) (A := A) (m := m) (fun s hs => by obtain ⟨x, hx, rfl⟩ := List.mem_map.1 hs; exact HW.out x hx) (by rw [(flat_st l).1]; exact HA.out.1) HA.out.2.1 HR.out.2.2.1 ((right_iff m).1 HR.out.2.1).tr)
  go_wp2
  go_ret2
  exact ⟨⟨_, _, rfl, .inl ⟨rfl, m, HO2.out.ns, HT.out⟩⟩, F2.out⟩
 | false => ?_
 have HNO := Lib.hid (show ∀ y, ¬ TreeOf (l.map Sv.s) y from fun y t => by
  have := tree_made t (by rw [(flat_st l).1]; exact HA.out.1) HA.out.2.1
  rw [HR.out.2.2.1] at this
  have e := Option.some.inj this
  have h1 := right_true t.tree.tree
  rw [← e, HR.out.2.1] at h1; cases h1)
 go_wp2
 go_ret2
 exact ⟨⟨_, _, rfl, .inr ⟨rfl, rfl, HNO.out⟩⟩, F2.out⟩
end Go.Proofs.YtphoglepiegeiaaGreatDoor
