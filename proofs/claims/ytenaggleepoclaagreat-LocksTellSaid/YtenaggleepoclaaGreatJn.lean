/- Maps: ages of transactions, sets of transactions; slices.Sorted(maps.Keys(m)) -/
import Derived.Test.YtenaggleepoclaaGreatJe
import Derived.Test.YtenaggleepoclaaGreatSh
import Derived.Maps.OwnSet
import Derived.Maps.Range
import Derived.Lib.SlKeysI
namespace Go.Proofs.YtenaggleepoclaaGreat
set_option maxRecDepth 20000
set_option linter.unusedVariables false
set_option linter.unusedSimpArgs false
open Go.RowKit Pm Go.Maps Go.Sort Go.Shelf

abbrev TI : TypeId := 2
abbrev TMA : TypeId := 61
abbrev TMU : TypeId := 70
abbrev TUN : TypeId := 71
theorem lawI : Keyed Tryz.prog TI := int_keyed Tryz.underlying2
theorem keyI (n : Int) (h : isN n = true) : keyOf Tryz.prog TI (.int .i64 n) = some (.int .i64 n) := keyOf_int_mk Tryz.underlying2 (WalkArith.wf_i64 (by unfold isN mxN at h; simp only [decide_eq_true_eq] at h; omega))
theorem zeroI (w : World) : (zeroValue TI).run Tryz.prog w = .ok (.int .i64 0) w := by
  obtain ⟨h, _⟩ : (∀ w, (zeroValue TI).run Tryz.prog w = .ok (.int .i64 0) w) ∧ True := ⟨fun w => by kernel_rfl, trivial⟩
  exact h w

/-- How a number reads; how the empty struct does. -/
def RI : Value → Option (DataW Unit × List MemPlace)
  | .int .i64 n => some (.lit (.int .i64 n), [])
  | _ => none
theorem RI_inv {v : Value} {z : DataW Unit × List MemPlace} (h : RI v = some z) : ∃ n, v = .int .i64 n ∧ z = (.lit (.int .i64 n), []) := by
  unfold RI at h
  split at h
  · rename_i n; exact ⟨n, rfl, (Option.some.inj h).symm⟩
  · cases h
def RU : Value → Option (DataW Unit × List MemPlace)
  | .agg _ => some (.lit (.bool true), [])
  | _ => none
theorem lit_injI {i j : Int} (h : Lit.int .i64 i = .int .i64 j) : i = j := by simpa using h

/-- Block m is the map of the ages of l. -/
structure AgM (w : World) (m n : Nat) (l : List Hl) : Prop where
  ex : ∃ D, w.ownsMap Tryz.prog TI RI m n D ∧ (∀ kl, Maps.has D kl = true ↔ ∃ x ∈ l, kl = .int .i64 x.t) ∧ ∀ x ∈ l, ∀ zd, D.atKey (.int .i64 x.t) zd = .lit (.int .i64 x.a)
theorem AgM.keep {w w' : World} {m n : Nat} {l : List Hl} (h : AgM w m n l) {S : Nat → Prop} (f : Fp S w w') (hS : ¬ S m) : AgM w' m n l := by
  obtain ⟨D, ⟨es, clock, hb, F, hs, e⟩, h2, h3⟩ := h.ex
  exact ⟨D, ⟨es, clock, f.heap hb hS, F, hs, e⟩, h2, h3⟩
theorem AgM.made (w : World) : AgM (w.alloc (.map #[] 0)) w.heap.size 0 [] :=
  ⟨.map [], World.ownsMap_made w _ _ _, fun kl => ⟨fun h => by simp [Maps.has] at h, fun ⟨x, hx, _⟩ => by cases hx⟩, fun x hx => by cases hx⟩
theorem AgM.look {w : World} {m n : Nat} {l : List Hl} (h : AgM w m n l) (t : Int) (ht : isN t = true) :
    ∃ (v : Int) (b : Bool), (Instr.lookup TMA (.map (some m)) (.int .i64 t) true).run Tryz.prog w = .ok (.tuple #[.int .i64 v, .bool b]) w ∧ (b = true ↔ ∃ x ∈ l, x.t = t) ∧ ∀ x ∈ l, x.t = t → v = x.a := by
  obtain ⟨D, h1, h2, h3⟩ := h.ex
  obtain ⟨v, ps, hr, hv⟩ := h1.look_ok lawI Tryz.underlying61 (zeroI w) (show RI (.int .i64 0) = some (.lit (.int .i64 0), []) from rfl) (keyI t ht)
  obtain ⟨a, rfl, e⟩ := RI_inv hv
  refine ⟨a, Maps.has D (.int .i64 t), hr, ?_, fun x hx hxt => ?_⟩
  · rw [h2]
    exact ⟨fun ⟨x, hx, e⟩ => ⟨x, hx, (lit_injI e).symm⟩, fun ⟨x, hx, e⟩ => ⟨x, hx, by rw [e]⟩⟩
  · have := congrArg Prod.fst e
    simp only at this
    rw [← hxt, h3 x hx] at this
    simpa using this.symm
/-- Behind a store. -/
structure UpA (m n : Nat) (l : List Hl) (w w' : World) : Prop where
  mp : AgM w' m n l
  fp : Fp (fun k => k = m) w w'
theorem AgM.upd {w : World} {m n : Nat} {l : List Hl} (h : AgM w m n l) (x : Hl) (ht : isN x.t = true) (hn : n ≤ 1000000) (hc : ∀ y ∈ l, y.t = x.t → y.a = x.a) :
    ∃ w', (Instr.mapUpdate TMA (.map (some m)) (.int .i64 x.t) (.int .i64 x.a)).run Tryz.prog w = .ok () w' ∧ UpA m (n + 1) (l ++ [x]) w w' := by
  obtain ⟨D, h1, h2, h3⟩ := h.ex
  obtain ⟨w', hr, ho, hg⟩ := h1.update lawI Tryz.underlying61 (by unfold maxLen; omega) (keyI x.t ht) (show RI (.int .i64 x.a) = some (.lit (.int .i64 x.a), []) from rfl)
  have hm : IsMap D := h1.isMap
  have hk : WideAt.IsKeyLit (.int .i64 x.t) := trivial
  refine ⟨w', hr, ⟨_, ho, fun kl => ?_, fun y hy zd => ?_⟩, (Fp.refl _ w).grown hg (fun k hk => .inl (by injection hk with hk; exact hk.symm))⟩
  · by_cases e : kl = .int .i64 x.t
    · subst e
      rw [has_put_same hm hk]
      simp only [true_iff]
      exact ⟨x, by simp, rfl⟩
    · rw [has_put_other e, h2]
      constructor
      · rintro ⟨y, hy, e2⟩; exact ⟨y, by simp [hy], e2⟩
      · rintro ⟨y, hy, e2⟩
        rcases List.mem_append.1 hy with hy | hy
        · exact ⟨y, hy, e2⟩
        · rw [List.mem_singleton] at hy; subst hy; exact absurd e2 e
  · by_cases e : y.t = x.t
    · rw [e, atKey_put_same hm hk]
      rcases List.mem_append.1 hy with hy | hy
      · rw [hc y hy e]
      · rw [List.mem_singleton] at hy; subst hy; rfl
    · rw [atKey_put_other (fun e2 => e (lit_injI e2))]
      rcases List.mem_append.1 hy with hy | hy
      · exact h3 y hy zd
      · rw [List.mem_singleton] at hy; subst hy; exact absurd rfl e

/-- Block m is the set of these. -/
structure SetM (w : World) (m n : Nat) (l : List Int) : Prop where
  ex : ∃ D, w.ownsMap Tryz.prog TI RU m n D ∧ (∀ kl, Maps.has D kl = true ↔ ∃ x ∈ l, kl = .int .i64 x)
theorem SetM.keep {w w' : World} {m n : Nat} {l : List Int} (h : SetM w m n l) {S : Nat → Prop} (f : Fp S w w') (hS : ¬ S m) : SetM w' m n l := by
  obtain ⟨D, ⟨es, clock, hb, F, hs, e⟩, h2⟩ := h.ex
  exact ⟨D, ⟨es, clock, f.heap hb hS, F, hs, e⟩, h2⟩
theorem SetM.lt {w : World} {m n : Nat} {l : List Int} (h : SetM w m n l) : m < w.heap.size := by
  obtain ⟨D, h, _⟩ := h.ex; exact h.lt
theorem SetM.made (w : World) : SetM (w.alloc (.map #[] 0)) w.heap.size 0 [] :=
  ⟨.map [], World.ownsMap_made w _ _ _, fun kl => ⟨fun h => by simp [Maps.has] at h, fun ⟨x, hx, _⟩ => by cases hx⟩⟩
structure UpU (m n : Nat) (l : List Int) (w w' : World) : Prop where
  mp : SetM w' m n l
  fp : Fp (fun k => k = m) w w'
theorem SetM.upd {w : World} {m n : Nat} {l : List Int} (h : SetM w m n l) (x : Int) (ht : isN x = true) (hn : n ≤ 1000000) :
    ∃ w', (Instr.mapUpdate TMU (.map (some m)) (.int .i64 x) (.agg #[])).run Tryz.prog w = .ok () w' ∧ UpU m (n + 1) (l ++ [x]) w w' := by
  obtain ⟨D, h1, h2⟩ := h.ex
  obtain ⟨w', hr, ho, hg⟩ := h1.update lawI Tryz.underlying70 (by unfold maxLen; omega) (keyI x ht) (show RU (.agg #[]) = some (.lit (.bool true), []) from rfl)
  have hm : IsMap D := h1.isMap
  have hk : WideAt.IsKeyLit (.int .i64 x) := trivial
  refine ⟨w', hr, ⟨_, ho, fun kl => ?_⟩, (Fp.refl _ w).grown hg (fun k hk => .inl (by injection hk with hk; exact hk.symm))⟩
  by_cases e : kl = .int .i64 x
  · subst e
    rw [has_put_same hm hk]
    simp only [true_iff]
    exact ⟨x, by simp, rfl⟩
  · rw [has_put_other e, h2]
    constructor
    · rintro ⟨y, hy, e2⟩; exact ⟨y, by simp [hy], e2⟩
    · rintro ⟨y, hy, e2⟩
      rcases List.mem_append.1 hy with hy | hy
      · exact ⟨y, hy, e2⟩
      · rw [List.mem_singleton] at hy; subst hy; exact absurd e2 e
theorem wpList_lookup_run {P : Program} {w : World} {ops : Array Oper} {rest : List Oper} {o : Oper} {a : Act} {Q : Exit → Act → World → Prop} (hgd : o.guard = none) (t : TypeId) (mo x : Operand) (c : Bool) (ho : o.op = .lookup t mo x c) (mv xv r : Value) (hm : a.eval mo = mv) (hx : a.eval x = xv)
    (hr : (Instr.lookup t mv xv c).run P w = .ok r w) (h : wpList P ops Q rest (a.put o.dst r) w) : wpList P ops Q (o :: rest) a w := by
  refine wpList_plain hgd fun K hK => ?_
  unfold Oper.wp
  simp [execOp, ho, hm, hx, hr, Result.andThen]
  exact hK _ _ h

def nmC (n : Int) : List Value := [.int .i64 n]
theorem nmC_len (n : Int) : (nmC n).length = 1 := rfl
theorem nmC_one (n : Int) : ∀ u ∈ nmC n, u.oneCell' = true := by
  intro u hu; simp only [nmC, List.mem_singleton] at hu; subst hu; rfl
theorem rows_nm (l : List Int) : rowsG nmC l = l.map encZ := by
  unfold rowsG nmC
  induction l with
  | nil => rfl
  | cons x l ih => rw [List.flatMap_cons, ih, List.map_cons]; rfl
abbrev Nm (w : World) (v : Value) (l : List Int) : Prop := Sg nmC 1 w v l
abbrev OwI (lo : Nat) (w : World) (v : Value) (l : List Int) : Prop := OwG TI nmC 1 lo w v l
/-- Numbers of the call's own. -/
structure NmR (w : World) (l : List Int) (v' : Value) (w' : World) : Prop where
  own : OwI w.heap.size w' v' l
  fp : Fp Non w w'

theorem sorts (m : Nat) : AnyZI.SortsIn Tryz.prog Tryz.sortedA_ren Fence.wide m :=
  ⟨fun blk off cap ss W hH hblk hsz => callsIn_wide.2 (AnyM.slices_Sort_int Tryz.sortA blk off cap ss W hH hblk hsz),
   fun p cap W => callsIn_wide.2 (AnyM.slices_Sort_int_none Tryz.sortA p cap W)⟩
theorem Keys_c (mb : Option Nat) (W : World) : Calls Tryz.prog 53 #[.map mb] W fun e w' => e = .returned (.func (.func 69) #[] #[.pointer (some ⟨W.heap.size, 0, none⟩)]) ∧ w' = W.alloc (.cells #[.map mb] TMU) :=
  (callsIn_wide (n := 5)).1 (AnyZI.keys_in Tryz.keysA Fence.wide 5 trivial rfl mb W)
theorem SetM.keys {w : World} {m n : Nat} {l : List Int} {D : DataW Unit} (h1 : w.ownsMap Tryz.prog TI RU m n D) (h2 : ∀ kl, Maps.has D kl = true ↔ ∃ x ∈ l, kl = .int .i64 x) : (ordI l).Perm (intKeys D) := by
  obtain ⟨es, rfl, hp, hk⟩ := h1.entries lawI
  have hkey : ∀ p ∈ es, ∃ i, i ∈ l ∧ p.1 = .int .i64 i := fun p hp' => (h2 p.1).1 (by
    rw [Maps.has_eq, List.any_eq_true]
    exact ⟨p, hp', WideAt.sameKey_self (hk p hp')⟩)
  refine perm_intKeys hp (fun p hp' => by obtain ⟨i, _, e⟩ := hkey p hp'; exact ⟨_, e⟩) ?_ fun x => ?_
  · exact (ordI_up l).imp (fun {a b} (h : a < b) => by omega)
  · rw [h2, mem_ordI]
    exact ⟨fun h => ⟨x, h, rfl⟩, fun ⟨y, hy, e⟩ => by rw [lit_injI e]; exact hy⟩
set_option maxHeartbeats 1000000 in
theorem Sorted_c (b n : Nat) (l : List Int) (w : World) (h : SetM w b n l) (hn : n ≤ 1000000) :
    Calls Tryz.prog 52 #[.func (.func 69) #[] #[.pointer (some ⟨w.heap.size, 0, none⟩)]] (w.alloc (.cells #[.map (some b)] TMU)) fun e w' => ∃ v, e = .returned v ∧ NmR w (ordI l) v w' := by
  obtain ⟨D, hown, hhas⟩ := h.ex
  have hkeys := SetM.keys hown hhas
  have hsz := hown.size_le
  have hbl := hown.lt
  have hseq : SeqGives Fence.wide 2 Tryz.prog 69 #[.pointer (some ⟨w.heap.size, 0, none⟩)] encZ (fun ss => ss.Perm (intKeys D)) (Maps.size D) (w.alloc (.cells #[.map (some b)] TMU)) :=
    AnyZI.keys_gives (ρ := Tryz.keysA_ren) { Tryz.keysA with } Fence.wide _ trivial rfl (by omega) w.heap.size b _ D _ (by simp) (by simp) (by
      obtain ⟨es, clock, hb, Ft, hs, hD⟩ := hown
      exact ⟨es, clock, (Below.heap_alloc _ _ b hbl).trans hb, Ft, hs, hD⟩)
  have cS := AnyZI.sorted_in Tryz.sortedA Fence.wide 5 trivial trivial trivial trivial rfl (by omega) (sorts _) (enters_of Tryz.func68 (by kernel_rfl) rfl) 69 #[.pointer (some ⟨w.heap.size, 0, none⟩)] trivial (enters_of Tryz.func69 (by kernel_rfl) rfl) _ _ (by unfold maxLen; omega) (by omega) _ hseq
  change CallsIn _ _ Tryz.prog 52 _ _ _ at cS
  refine (callsIn_wide.1 cS).mono ?_
  rintro e w' ⟨v, ss, rfl, hS, hrow, hnil, hb⟩
  have hms : ss.mergeSort (fun x y => decide (x ≤ y)) = ordI l := by
    have e1 : ss.mergeSort (fun x y => decide (x ≤ y)) = ss.mergeSort leI := rfl
    rw [e1, mergeSort_of_perm_i (hS.trans hkeys.symm)]
    refine List.mergeSort_of_pairwise ?_
    exact (ordI_up l).imp (fun {a b} (h : a < b) => by simp only [decide_eq_true_eq]; omega)
  have hlen : ss.length = (ordI l).length := (hS.trans hkeys.symm).length_eq
  refine ⟨v, rfl, ?_, ?_⟩
  · have := ownsRow_base_a hrow (show w.heap.size ≤ _ by simp)
    rw [hlen, hms] at this
    unfold OwI OwG
    rw [rows_nm]; exact this
  · exact ((Fp.refl Non w).alloc _).then (Fp.of_below hb)

set_option maxHeartbeats 4000000 in
theorem wounded_c (v f : Value) (l : List Hl) (q : Hl → Bool) (w : World) (hv : NsH w v l) (hs : HSp l) (hq : PdH Non w f q) (hok : ∀ x ∈ l, isN x.t = true) (hn : l.length ≤ 90000) :
    Calls Tryz.prog 29 #[v, f] w fun e w' => ∃ v', e = .returned v' ∧ NmR w (ordI ((l.filter q).map Hl.t)) v' w' := by
  obtain ⟨ao, cap, rfl⟩ := hv.shape
  obtain ⟨n, hnn⟩ : ∃ n, n = l.length := ⟨_, rfl⟩
  obtain ⟨kf, fi, fc, rfl, hen, hcall⟩ := hq.ex
  have HX := Lib.hid (And.intro hnn (And.intro hv (And.intro hs (And.intro hcall hok))))
  rw [← hnn]
  have hnb : n ≤ 90000 := by omega
  have H0 : Hid (Fp Non w (w.alloc (.map #[] 0)) ∧ ∃ c, c ≤ 0 ∧ SetM (w.alloc (.map #[] 0)) w.heap.size c (((l.take 0).filter q).map Hl.t)) := ⟨fp_alloc w _, 0, Nat.le_refl _, SetM.made w⟩
  clear hv hs hq hcall hn hnn hok
  have hmm := @run_makeMap Tryz.prog
  go_enter Tryz.func29, Tryz.ntmps29
  go_wp2_with fail
  go_loopw [11] (fun i wr => ∃ k : Nat, k ≤ n ∧ i = .int .i64 k ∧ Hid (Fp Non w wr ∧ ∃ c, c ≤ k ∧ SetM wr w.heap.size c (((l.take k).filter q).map Hl.t))) (fun i _ => n - (RowKit.intOf i).toNat)
  case atStart => exact ⟨0, Nat.zero_le _, rfl, H0⟩
  case round =>
    clear H0
    obtain ⟨k, hk, rfl, hR⟩ := hrel
    rename_i wr _
    by_cases hlt : k < n
    · have hkl : k < l.length := by rw [← HX.out.1]; exact hlt
      obtain ⟨g, o, cap', e, _, _, _, hcell⟩ := HX.out.2.1.at (by omega)
      injection e with e1 e2 e3
      subst e1 e3
      clear e2
      have hnd := (hcell k hkl).keep hR.out.1 (fun h => h)
      have hcc := fun W hf => HX.out.2.2.2.1 l[k] W (HX.out.2.2.1 _ (List.getElem_mem hkl)) hf
      have hno := HX.out.2.2.2.2 l[k] (List.getElem_mem hkl)
      have hst : ((l.take (k + 1)).filter q).map Hl.t = ((l.take k).filter q).map Hl.t ++ (if q l[k] = true then [l[k].t] else []) := by
        rw [List.take_succ_eq_append_getElem hkl, List.filter_append, List.map_append]
        congr 1
        by_cases c : q l[k] = true
        · rw [if_pos c, List.filter_cons_of_pos c]; rfl
        · rw [if_neg c, List.filter_cons_of_neg c]; rfl
      obtain ⟨b, hb⟩ : ∃ b, q l[k] = b := ⟨_, rfl⟩
      rw [hb] at hcc hst
      obtain ⟨x, hx⟩ : ∃ x, x = l[k] := ⟨_, rfl⟩
      rw [← hx] at hnd hst hcc hno
      clear hx hcell hb
      obtain ⟨xd, xt, xa⟩ := x
      have c0 := hnd.c0; have c1 := hnd.c1; have c2 := hnd.c2
      unfold strV at c0
      unfold hlV strV at hcc
      simp only at c0 c1 c2 hst hcc hno
      have hbx := heap_alloc_new wr (.cells #[.string (B xd), .int .i64 xt, .int .i64 xa] TH)
      have hfa := fp_alloc wr (.cells #[.string (B xd), .int .i64 xt, .int .i64 xa] TH)
      have b0 : (wr.alloc (.cells #[.string (B xd), .int .i64 xt, .int .i64 xa] TH)).cell? ⟨wr.heap.size, 0, none⟩ = some (.string (B xd)) := by rw [cell_of_row _ _ _ _ _ _ hbx]; rfl
      have b1 : (wr.alloc (.cells #[.string (B xd), .int .i64 xt, .int .i64 xa] TH)).cell? ⟨wr.heap.size, 1, none⟩ = some (.int .i64 xt) := by rw [cell_of_row _ _ _ _ _ _ hbx]; rfl
      have b2 : (wr.alloc (.cells #[.string (B xd), .int .i64 xt, .int .i64 xa] TH)).cell? ⟨wr.heap.size, 2, none⟩ = some (.int .i64 xa) := by rw [cell_of_row _ _ _ _ _ _ hbx]; rfl
      have q3 : ((k : Int) < (n : Int)) = True := eq_true (by omega)
      have q4 : (k < n) = True := eq_true hlt
      have HB := Lib.hid (And.intro hbx (And.intro hfa (And.intro hlt (And.intro hst hno))))
      have HS := Lib.hid (hcc _ (hR.out.1.then hfa))
      clear hnd hkl hbx hfa hst hcc hlt hno
      go_wp2_with fail
      rw [hen _ _]
      go_wp2_with fail
      refine HS.out.mono ?_
      rintro e w1 ⟨rfl, hf1⟩
      have r1 := hf1.heap HB.out.1 (fun h => h)
      have p0 : w1.cell? ⟨wr.heap.size, 0, none⟩ = some (.string (B xd)) := by rw [cell_of_row _ _ _ _ _ _ r1]; rfl
      have p1 : w1.cell? ⟨wr.heap.size, 1, none⟩ = some (.int .i64 xt) := by rw [cell_of_row _ _ _ _ _ _ r1]; rfl
      have p2 : w1.cell? ⟨wr.heap.size, 2, none⟩ = some (.int .i64 xa) := by rw [cell_of_row _ _ _ _ _ _ r1]; rfl
      have HF := Lib.hid (HB.out.2.1.then hf1)
      clear r1 hf1 b0 b1 b2
      obtain ⟨c, hc, hset⟩ := hR.out.2
      have hset1 := hset.keep HF.out (fun h => h)
      have hfr := hR.out.1.then HF.out
      clear hset hR
      cases b with
      | true =>
        have hup := hset1.upd xt HB.out.2.2.2.2 (by omega)
        have HU := Lib.hid hup
        have HC := Lib.hid (And.intro hc hfr)
        clear hup hset1 hc hfr
        go_wp2_with (refine wpList_upd rfl TMU _ _ _ rfl _ _ _ rfl rfl rfl _ HU.out ?_)
        intro w2 hU
        have hM : Hid (Fp Non w w2 ∧ ∃ c, c ≤ k + 1 ∧ SetM w2 w.heap.size c (((l.take (k + 1)).filter q).map Hl.t)) := ⟨HC.out.2.trans hU.fp (fun j hj => .inr (by rw [hj]; exact Nat.le_refl _)), c + 1, by have := HC.out.1; omega, by rw [HB.out.2.2.2.1, if_pos trivial]; exact hU.mp⟩
        have hkn := HB.out.2.2.1
        clear hU
        go_wp2
        go_roundw
        case rel => exact ⟨k + 1, by omega, by go_num, hM⟩
        case measure => simp [RowKit.intOf]; omega
      | false =>
        have hM : Hid (Fp Non w w1 ∧ ∃ c, c ≤ k + 1 ∧ SetM w1 w.heap.size c (((l.take (k + 1)).filter q).map Hl.t)) := ⟨hfr, c, by omega, by rw [HB.out.2.2.2.1, if_neg (by simp), List.append_nil]; exact hset1⟩
        have hkn := HB.out.2.2.1
        clear hset1 hfr hc
        go_wp2
        go_roundw
        case rel => exact ⟨k + 1, by omega, by go_num, hM⟩
        case measure => simp [RowKit.intOf]; omega
    · have hke : k = n := by omega
      subst hke
      have q3 : ((k : Int) < (k : Int)) = False := eq_false (by omega)
      obtain ⟨hf, c, hc, hset⟩ := hR.out
      rw [HX.out.1, List.take_length] at hset
      have hso := Sorted_c _ _ _ wr hset (by omega)
      have HS := Lib.hid (And.intro hso hf)
      clear hlt hk hset hso hf hR hc
      go_wp2_with fail
      refine (Keys_c _ _).mono ?_
      rintro e w1 ⟨rfl, rfl⟩
      go_wp2_with fail
      refine HS.out.1.mono ?_
      rintro e w2 ⟨v', rfl, hN⟩
      have HR : Hid (NmR w (ordI ((l.filter q).map Hl.t)) v' w2) := ⟨by have := hN.own; exact ownsRow_base_a this HS.out.2.size, HS.out.2.then hN.fp⟩
      clear hN
      go_wp2
      go_ret
      exact ⟨_, rfl, HR.out⟩
end Go.Proofs.YtenaggleepoclaaGreat
