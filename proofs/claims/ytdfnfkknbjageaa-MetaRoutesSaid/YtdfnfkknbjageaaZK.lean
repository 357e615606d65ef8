/- Texts of this proof, merged. -/
import Derived.Test.YtdfnfkknbjageaaZD
import Derived.Test.YtdfnfkknbjageaaZH
import Derived.Test.YtdfnfkknbjageaaZJ
set_option linter.unusedVariables false
set_option linter.unusedSimpArgs false
/- A committee in memory; refused, Mounts, New (gen_d2.py) -/
namespace Go.Proofs.Ytdfnfkknbjageaa
set_option maxRecDepth 20000
set_option linter.unusedVariables false
set_option linter.unusedSimpArgs false
open Go.RowKit Pm


abbrev TAN : TypeId := 38
abbrev TME : TypeId := 61
theorem Pm.RtM.szs {l : List Mt} (h : RtM l) : SzM l := ⟨by have := h.len; omega, fun x hx => by have := okP_len (okM_p (h.ok x hx)).1; omega⟩
/-- A struct type of k cells. -/
structure StT (T : TypeId) (k : Nat) : Prop where
  sz : ∀ w, (sizeOf T).run Try.prog w = .ok k w
  ag : ∀ w, (isAgg T).run Try.prog w = .ok true w
theorem stT {T : TypeId} {k : Nat} (h : (Try.prog.info? T).map (·.size) = some k) {fs : TypeDesc} (hu : Try.prog.underlying T = some fs) (ha : ∀ w, (isAgg T).run Try.prog w = .ok true w) : StT T k :=
  ⟨fun w => by
    cases hq : Try.prog.info? T with
    | none => simp [hq] at h
    | some i =>
      have hs : i.size = k := by simpa [hq] using h
      simp [sizeOf, typeInfo, hq, hs], ha⟩
theorem lv_any {T : TypeId} {k : Nat} (hT : StT T k) {w : World} {b : Nat} {cs : Array Value} (h : w.heap[b]? = some (.cells cs T (0, 0))) (hs : cs.size = k) :
    (loadVar T ⟨b, 0, none⟩).run Try.prog w = .ok (.agg cs) w := by
  have hl := run_loadCells_list (P := Try.prog) w ⟨b, 0, none⟩ cs.toList (fun j v hv => by
    rw [Addr.add_lit, cell_of_row _ _ _ _ _ _ h, Nat.zero_add, ← hv]; simp)
  rw [Array.length_toList, hs] at hl
  simp only [loadVar, Sem.run_bind, Sem.run_pure, Result.andThen_ok, hT.ag, if_true, hT.sz, hl]
theorem ld_any {T : TypeId} {k : Nat} (hT : StT T k) {w : World} {b : Nat} {cs : Array Value} (h : w.heap[b]? = some (.cells cs T (0, 0))) (hs : cs.size = k) :
    (Instr.loadAt T (.pointer (some ⟨b, 0, none⟩))).run Try.prog w = .ok (.agg cs) w := by
  simp only [Instr.loadAt, Instr.sureAddr, Sem.run_bind, Sem.run_pure, Result.andThen_ok, lv_any hT h hs]
theorem st_any {T : TypeId} {k : Nat} (hT : StT T k) {w : World} {b : Nat} {cur cs : Array Value} (h : w.heap[b]? = some (.cells cur T (0, 0))) (hc : cur.size = k) (hs : cs.size = k) (h1 : ∀ u ∈ cs.toList, u.oneCell' = true) :
    (Instr.storeAt T (.pointer (some ⟨b, 0, none⟩)) (.agg cs)).run Try.prog w = .ok () (w.setRow b cs) := by
  have hst := run_storeCells_at Try.prog b 0 T cs.toList 0 cur w h (by rw [Array.length_toList, hs, hc]; omega) h1
  have e : (cur.toList.take (0 + 0) ++ cs.toList ++ cur.toList.drop (0 + 0 + cs.toList.length)).toArray = cs := by
    rw [List.drop_of_length_le (by rw [Array.length_toList, Array.length_toList, hs, hc]; omega)]
    simp
  rw [e] at hst
  have hsz : (Value.agg cs).cells.size = k := hs
  have hcl : (Value.agg cs).cells.toList = cs.toList := rfl
  simp only [Instr.storeAt, Instr.sureAddr, storeVar, Sem.run_bind, Sem.run_pure, Result.andThen_ok, hT.sz, hsz, ne_eq, not_true, if_false, hcl, hst]
/-- Stored into the block that was made last. -/
theorem stn_any {T : TypeId} {k : Nat} (hT : StT T k) (w : World) {cur cs : Array Value} (hc : cur.size = k) (hs : cs.size = k) (h1 : ∀ u ∈ cs.toList, u.oneCell' = true) :
    (Instr.storeAt T (.pointer (some ⟨w.heap.size, 0, none⟩)) (.agg cs)).run Try.prog (w.alloc (.cells cur T)) = .ok () (w.alloc (.cells cs T)) := by
  rw [st_any hT (heap_alloc_new w _) hc hs h1, setRow_alloc]
theorem setRow_same {w : World} {b : Nat} {cur cs : Array Value} {T : TypeId} (h : w.heap[b]? = some (.cells cur T (0, 0))) : (w.setRow b cs).heap[b]? = some (.cells cs T (0, 0)) := by
  unfold World.setRow
  simp [Array.getElem?_modify, h]
/-- A store of a whole struct, where a region draws. -/
theorem step_st {P : Program} {ops : Array Oper} {o : Oper} {a : Act} {w w' : World} {K : Act → World → Prop} {Q : Exit → Act → World → Prop} {E : Prop} (hgd : o.guard = none) (t : TypeId) (p x : Operand) (ho : o.op = .store t p x) (pv xv : Value) (hp : a.eval p = pv) (hx : a.eval x = xv)
    (hr : (Instr.storeAt t pv xv).run P w = .ok () w') (h : K (a.put o.dst undef) w') : if Region.wanted o (yielded ops a.tmps) = true then Oper.wp P o a w K Q else E := by
  have hw : Region.wanted o (yielded ops a.tmps) = true := by simp [Region.wanted, hgd]
  rw [if_pos hw]
  unfold Oper.wp
  simp [execOp, ho, hp, hx, hr, Result.andThen]
  exact h
/-- A command's box. -/
theorem cbj {W : World} {b : Nat} {c : Cd} {vp vn vt vg : Value} (h : W.heap[b]? = some (.cells (cdL c vp vn vt vg) TCD (0, 0))) (j : Nat) {v : Value} (hv : (cdL c vp vn vt vg)[j]? = some v) : W.cell? ⟨b, j, none⟩ = some v := by
  rw [cell_of_row _ _ _ _ _ _ h]; exact hv

theorem stAN : StT TAN 10 := stT (by kernel_rfl) Try.underlying38 (fun w => by unfold isAgg; simp [run_underlying Try.underlying38])
/-- An answer's cells. -/
abbrev anL (e : Int) (vm : Value) : Array Value := #[.int .i64 e, .int .i64 0, .bool false, .int .i64 0, .slice none 0 0, .slice none 0 0, .slice none 0 0, .slice none 0 0, vm, .slice none 0 0]
theorem anL_one {e : Int} {vm : Value} (h : ∃ a n c, vm = .slice a n c) : ∀ u ∈ (anL e vm).toList, u.oneCell' = true := by
  obtain ⟨_, _, _, rfl⟩ := h
  intro u hu
  simp only [anL, List.mem_cons, List.not_mem_nil, or_false] at hu
  rcases hu with rfl | rfl | rfl | rfl | rfl | rfl | rfl | rfl | rfl | rfl <;> rfl
theorem boxA {W : World} {b : Nat} {e : Int} {vm : Value} (h : W.heap[b]? = some (.cells (anL e vm) TAN (0, 0))) :
    W.cell? ⟨b, 0, none⟩ = some (.int .i64 e) ∧ W.cell? ⟨b, 1, none⟩ = some (.int .i64 0) ∧ W.cell? ⟨b, 2, none⟩ = some (.bool false) ∧ W.cell? ⟨b, 3, none⟩ = some (.int .i64 0) ∧ W.cell? ⟨b, 4, none⟩ = some (.slice none 0 0) ∧ W.cell? ⟨b, 5, none⟩ = some (.slice none 0 0) ∧ W.cell? ⟨b, 6, none⟩ = some (.slice none 0 0) ∧ W.cell? ⟨b, 7, none⟩ = some (.slice none 0 0) ∧ W.cell? ⟨b, 8, none⟩ = some vm ∧ W.cell? ⟨b, 9, none⟩ = some (.slice none 0 0) := by
  refine ⟨?_, ?_, ?_, ?_, ?_, ?_, ?_, ?_, ?_, ?_⟩ <;> (rw [cell_of_row _ _ _ _ _ _ h]; rfl)

/-- What a committee's block holds. -/
structure MeW (w : World) (q : Nat) (l : List Mt) : Prop where
  ex : ∃ v, w.heap[q]? = some (.cells #[v] TME (0, 0)) ∧ NsM w v l
theorem MeW.non {w w' : World} {q : Nat} {l : List Mt} (h : MeW w q l) (f : Fp Non w w') : MeW w' q l := by
  obtain ⟨v, h1, h2⟩ := h.ex
  exact ⟨v, f.heap h1 (fun h => h), h2.non f⟩
theorem MeW.lt {w : World} {q : Nat} {l : List Mt} (h : MeW w q l) : q < w.heap.size := by
  obtain ⟨v, h1, _⟩ := h.ex
  exact (Array.getElem?_eq_some_iff.1 h1).1
/-- Mounts don't lie in a committee's block. -/
theorem MeW.off {w w' : World} {q : Nat} {l m : List Mt} {v : Value} (h : MeW w q l) (hv : NsM w v m) (f : Fp (fun k => k = q) w w') : NsM w' v m := by
  obtain ⟨u, h1, h2⟩ := h.ex
  obtain ⟨a, n, c, rfl⟩ : ∃ a n c, u = .slice a n c := by obtain ⟨a, c, e⟩ := h2.shape; exact ⟨a, _, c, e⟩
  by_cases h0 : m = []
  · subst h0
    obtain ⟨ao, cap, rfl, k1, k2, _⟩ := hv.ex
    exact ⟨ao, cap, rfl, k1, k2, .inl rfl⟩
  · obtain ⟨g, o, cap, rfl, _, _, _, hc⟩ := hv.at (List.length_pos_iff.2 h0)
    refine hv.keep f (fun k hk e => ?_)
    have hk : g = k := by simpa [Value.ownBlock] using hk
    subst hk
    have e : g = q := e
    subst e
    have c0 := (hc 0 (List.length_pos_iff.2 h0)).c0
    rw [cell_of_row _ _ _ _ _ _ h1] at c0
    cases ho : o + 0 * 4 with
    | zero => rw [ho] at c0; simp [strV] at c0
    | succ j => rw [ho] at c0; simp at c0
/-- What stays so whatever the committee's block becomes. -/
def KQ (q : Nat) (P : World → Prop) (W : World) : Prop := ∀ W', Fp (fun k => k = q) W W' → P W'
theorem KQ.now {q : Nat} {P : World → Prop} {W : World} (h : KQ q P W) : P W := h W (Fp.refl _ _)
theorem KQ.later {q : Nat} {P : World → Prop} {W W' : World} (h : KQ q P W) (f : Fp (fun k => k = q) W W') : KQ q P W' := fun V g => h V (f.same g)
theorem KQ.non {q : Nat} {P : World → Prop} {W W' : World} (h : KQ q P W) (f : Fp Non W W') : KQ q P W' := h.later f.any
theorem KQ.and {q : Nat} {P R : World → Prop} {W : World} (h : KQ q P W) (k : KQ q R W) : KQ q (fun V => P V ∧ R V) W := fun V f => ⟨h V f, k V f⟩
theorem KQ.fp {q : Nat} {w W : World} (h : Fp Non w W) (hq : w.heap.size ≤ q) : KQ q (fun V => Fp Non w V) W := fun V f => h.trans f (fun k hk => .inr (by have hk : k = q := hk; omega))
theorem KQ.ns {q : Nat} {W : World} {v : Value} {l m : List Mt} (h : MeW W q l) (hv : NsM W v m) : KQ q (fun V => NsM V v m) W := fun V f => h.off hv f
theorem KQ.row {q b : Nat} {W : World} {o : Obj} (h : W.heap[b]? = some o) (hb : b ≠ q) : KQ q (fun V => V.heap[b]? = some o) W := fun V f => f.heap h hb

set_option maxHeartbeats 1000000 in
theorem refusedM_c (n : Int) (w : World) : Calls Try.prog 23 #[.int .i64 n] w fun e w' => e = .returned (.agg (anL n (.slice none 0 0))) ∧ Fp Non w w' := by
  go_enter Try.func23, Try.ntmps23
  go_wp2
  exact bodyPost_ret (v := .agg (anL n (.slice none 0 0))) (by simp [results, Try.results23, go_sem]) rfl ⟨rfl, fp_alloc w _⟩

set_option maxHeartbeats 1000000 in
theorem Mounts_c (q : Nat) (l : List Mt) (w : World) (h : MeW w q l) (hn : l.length ≤ 100000) :
    Calls Try.prog 10 #[.pointer (some ⟨q, 0, none⟩)] w fun e w' => ∃ v', e = .returned v' ∧ OwRM w l v' w' := by
  obtain ⟨v, h1, h2⟩ := h.ex
  have hc := Clone_ownM v l w h2 hn
  have c0 : w.cell? ⟨q, 0, none⟩ = some v := by rw [cell_of_row _ _ _ _ _ _ h1]; rfl
  obtain ⟨ao, cap, rfl⟩ := h2.shape
  generalize hnn : l.length = n at *
  have HC := Lib.hid hc
  clear hc h1 h2 h hn hnn
  go_enter Try.func10, Try.ntmps10
  go_wp2_with fail
  refine HC.out.mono ?_
  rintro e w1 ⟨v', rfl, hf⟩
  have HF := Lib.hid hf
  clear hf
  go_wp2
  go_ret
  exact ⟨_, rfl, HF.out⟩

/-- What New answers. -/
structure NewM (l : List Mt) (w : World) (e : Ending) (w' : World) : Prop where
  way : (rightM l = false ∧ e = .returned (.pointer none)) ∨ (rightM l = true ∧ ∃ q, e = .returned (.pointer (some ⟨q, 0, none⟩)) ∧ MeW w' q l ∧ w.heap.size ≤ q)
  fp : Fp Non w w'
set_option maxHeartbeats 2000000 in
theorem NewM_c (v : Value) (l : List Mt) (w : World) (hv : NsM w v l) (hs : SzM l) :
    Calls Try.prog 8 #[v] w (NewM l w) := by
  have h1 := RightM_c v l w hv hs.p hs.n
  have h2 := fun W (f : Fp Non w W) (h : rightM l = true) => Clone_ownM v l W (hv.non f) (by have := ((right_ifft l).1 h).len; omega)
  obtain ⟨ao, cap, rfl⟩ := hv.shape
  obtain ⟨n, hn⟩ : ∃ n, n = l.length := ⟨_, rfl⟩
  rw [← hn] at h1 h2 ⊢
  have H1 := Lib.hid h1
  have H2 := Lib.hid h2
  clear h1 h2 hv hs hn
  go_enter Try.func8, Try.ntmps8
  go_wp2_with fail
  refine H1.out.mono ?_
  rintro e w1 ⟨rfl, hf⟩
  have F1 := Lib.hid hf
  clear hf
  cases hr : rightM l with
  | false =>
    have HR := Lib.hid hr
    clear hr
    go_wp2
    go_ret
    exact ⟨.inl ⟨HR.out, rfl⟩, F1.out⟩
  | true =>
    have HR := Lib.hid hr
    clear hr
    go_wp2_with fail
    refine (H2.out _ F1.out HR.out).mono ?_
    rintro e w2 ⟨v', rfl, hO⟩
    have HO := Lib.hid hO
    have hsz := hO.fp.size
    have hs1 := F1.out.size
    obtain ⟨a2, c2, rfl⟩ := hO.own.ns.shape
    clear hO
    go_wp2
    go_ret
    have hfa := fp_alloc w2 (.cells #[.slice a2 l.length c2] TME)
    exact ⟨.inr ⟨HR.out, _, rfl, ⟨_, heap_alloc_new w2 _, HO.out.own.ns.non hfa⟩, by omega⟩, (F1.out.then HO.out.fp).then hfa⟩
end Go.Proofs.Ytdfnfkknbjageaa

/- below, flip (gen_d3.py) -/
namespace Go.Proofs.Ytdfnfkknbjageaa
set_option maxRecDepth 20000
set_option linter.unusedVariables false
set_option linter.unusedSimpArgs false
open Go.RowKit Pm


attribute [local irreducible] wpStill

/-! ### below -/
/-- Does it not lie below p? -/
def blwM (p : Bs) (m : Mt) : Bool := decide (m.d = p) || !inB m.d p
def below (l : List Mt) (p : Bs) : List Mt := l.filter (fun n => !blwM p n)
set_option maxHeartbeats 2000000 in
theorem below1_c (x : Mt) (g : Nat) (p : Bs) (w : World) (hx : x.d.length ≤ 140737488355328) (hp : p.length ≤ 140737488355328) (hg : w.cell? ⟨g, 0, none⟩ = some (.string (B p))) :
    Calls Try.prog 64 #[mtV x, .pointer (some ⟨g, 0, none⟩)] w fun e w' => e = .returned (.bool (blwM p x)) ∧ Fp Non w w' := by
  obtain ⟨d, xg, ep, t⟩ := x
  simp only at hx
  have h2 := fun w => In_c d p w (by omega) (by omega)
  have e : blwM p ⟨d, xg, ep, t⟩ = (decide (d = p) || !inB d p) := rfl
  rw [e]
  have hb := BxM.new w ⟨d, xg, ep, t⟩
  have HB := Lib.hid (And.intro (fp_alloc w (.cells #[.string (B d), .int .i64 xg, .int .i64 ep, .int .i64 t] TM)) (And.intro hb ((fp_alloc w (.cells #[.string (B d), .int .i64 xg, .int .i64 ep, .int .i64 t] TM)).cell hg (fun h => h))))
  unfold mtV strV
  simp only
  generalize inB d p = b2 at *
  have H2 := Lib.hid h2
  have hc := HB.out.2.1.at
  have c0 := hc.1; have c1 := hc.2.1; have c2 := hc.2.2.1; have c3 := hc.2.2.2
  have cg := HB.out.2.2
  simp only at c0 c1 c2 c3
  clear h2 hx hp hg e hb hc
  by_cases hd : d = p
  · have q1 : (d == p) = true := by rw [hd]; exact beq_self_eq_true p
    have e : decide (d = p) = true := decide_eq_true hd
    rw [e]
    clear hd e
    go_enter Try.func64, Try.ntmps64
    go_wp2
    go_ret
    exact ⟨rfl, HB.out.1⟩
  · have q1 : (d == p) = false := beq_eq_false_iff_ne.2 hd
    have e : decide (d = p) = false := decide_eq_false hd
    rw [e]
    clear hd e
    go_enter Try.func64, Try.ntmps64
    go_wp2_with fail
    refine (H2.out _).mono ?_
    rintro e w2 ⟨rfl, hf⟩
    have HD := Lib.hid (HB.out.1.then (Fp.of_below hf))
    clear hf c0 c1 c2 c3 cg
    go_wp2
    go_ret
    exact ⟨ret_bool (by cases b2 <;> rfl), HD.out⟩
theorem below_pd {w : World} {g : Nat} {p : Bs} {S : Nat → Prop} (hS : ¬ S g) (hp : p.length ≤ 140737488355328) (hg : w.cell? ⟨g, 0, none⟩ = some (.string (B p))) : PdM S w (.func (.func 64) #[] #[.pointer (some ⟨g, 0, none⟩)]) (blwM p) :=
  ⟨_, _, _, rfl, enters_of Try.func64 (by kernel_rfl) rfl, fun x w1 hx hf => below1_c x g p w1 hx hp (hf.cell hg hS)⟩
/-- What below answers: a row of its own. -/
structure BlR (w : World) (m : List Mt) (e : Ending) (w' : World) : Prop where
  ex : ∃ G cap, e = .returned (.slice (some ⟨G, 0, none⟩) m.length cap) ∧ NrM w' G cap m ∧ w.heap.size ≤ G
  fp : Fp Non w w'
set_option maxHeartbeats 2000000 in
theorem below_c (v : Value) (l : List Mt) (p : Bs) (w : World) (hv : NsM w v l) (h0 : 0 < l.length) (hn : l.length ≤ 100000) (hs : MSp l) (hp : p.length ≤ 140737488355328) :
    Calls Try.prog 43 #[v, .string (B p)] w (BlR w (below l p)) := by
  have f1 := fp_alloc w (.cells #[.string (B p)] 9)
  have hbx := heap_alloc_new w (.cells #[.string (B p)] 9)
  have hcl := Clone_ownM v l _ (hv.non f1) hn
  obtain ⟨ao, cap, rfl⟩ := hv.shape
  have HX := Lib.hid (And.intro hs (And.intro hp (And.intro hn h0)))
  have HC := Lib.hid hcl
  have HB := Lib.hid (And.intro hbx f1)
  generalize hll : l.length = n at *
  have HN := Lib.hid hll
  clear hcl hbx f1 hv hs hp hn h0 hll
  go_enter Try.func43, Try.ntmps43
  go_wp2_with fail
  refine HC.out.mono ?_
  rintro e w1 ⟨v1, rfl, hO⟩
  have hz1 := hO.fp.size
  obtain ⟨G, c1, rfl, hr, hG⟩ : ∃ G cap, v1 = .slice (some ⟨G, 0, none⟩) l.length cap ∧ NrM w1 G cap l ∧ (w.alloc (.cells #[.string (B p)] 9)).heap.size ≤ G := by
    rcases hO.own.ways with ⟨_, h⟩ | h
    · have := HX.out.2.2.2; rw [← HN.out, h] at this; simp at this
    · exact h
  have hsz : (w.alloc (.cells #[.string (B p)] 9)).heap.size = w.heap.size + 1 := by simp
  have hpd := below_pd (w := w1) (g := w.heap.size) (p := p) (S := fun k => k = G) (by intro h; have h : w.heap.size = G := h; omega) HX.out.2.1 (hO.fp.cell (by rw [cell_of_row _ _ _ _ _ _ HB.out.1]; rfl) (fun h => h))
  have HD := Lib.hid (DeleteFM_c hr HX.out.1 hpd (by have := HX.out.2.2.1; rw [HN.out]; exact this))
  have HO := Lib.hid (And.intro (HB.out.2.then hO.fp) (show w.heap.size ≤ G by omega))
  rw [HN.out] at HD ⊢
  clear hO hr hG hpd hz1 hsz HC HB
  go_wp2_with fail
  refine HD.out.mono ?_
  rintro e w2 ⟨v2, rfl, hR⟩
  obtain rfl := hR.v
  have HR := Lib.hid hR
  clear hR HD
  go_wp2
  go_ret
  exact ⟨⟨G, c1, rfl, HR.out.row, HO.out.2⟩, HO.out.1.trans HR.out.fp (fun k hk => .inr (by have h := HO.out.2; have hk : k = G := hk; omega))⟩

/-! ### A method's boxes -/
theorem NsM.dull {w w' : World} {b : Nat} {cs : Array Value} {T : TypeId} {v : Value} {m : List Mt} (hv : NsM w v m) (h1 : w.heap[b]? = some (.cells cs T (0, 0))) (hd : ∀ (j : Nat) (s : ByteArray), cs[j]? ≠ some (Value.string s)) (f : Fp (fun k => k = b) w w') : NsM w' v m := by
  by_cases h0 : m = []
  · subst h0
    obtain ⟨ao, cap, rfl, k1, k2, _⟩ := hv.ex
    exact ⟨ao, cap, rfl, k1, k2, .inl rfl⟩
  · obtain ⟨g, o, cap, rfl, _, _, _, hc⟩ := hv.at (List.length_pos_iff.2 h0)
    refine hv.keep f (fun k hk e => ?_)
    have hk : g = k := by simpa [Value.ownBlock] using hk
    subst hk
    have e : g = b := e
    subst e
    have c0 := (hc 0 (List.length_pos_iff.2 h0)).c0
    rw [cell_of_row _ _ _ _ _ _ h1] at c0
    exact hd _ _ c0
theorem MeW.dull {w w' : World} {q b : Nat} {cs : Array Value} {T : TypeId} {l : List Mt} (h : MeW w q l) (h1 : w.heap[b]? = some (.cells cs T (0, 0))) (hd : ∀ (j : Nat) (s : ByteArray), cs[j]? ≠ some (Value.string s)) (hne : q ≠ b) (f : Fp (fun k => k = b) w w') : MeW w' q l := by
  obtain ⟨v, h2, h3⟩ := h.ex
  exact ⟨v, f.heap h2 hne, h3.dull h1 hd f⟩
theorem anL_dull {e : Int} {vm : Value} (h : ∃ a n c, vm = .slice a n c) : ∀ (j : Nat) (s : ByteArray), (anL e vm)[j]? ≠ some (Value.string s) := by
  obtain ⟨_, _, _, rfl⟩ := h
  intro j s
  by_cases hj : 10 ≤ j
  · rw [Array.getElem?_eq_none (by simpa using hj)]; simp
  · have : j = 0 ∨ j = 1 ∨ j = 2 ∨ j = 3 ∨ j = 4 ∨ j = 5 ∨ j = 6 ∨ j = 7 ∨ j = 8 ∨ j = 9 := by omega
    rcases this with rfl | rfl | rfl | rfl | rfl | rfl | rfl | rfl | rfl | rfl <;> simp
theorem sl_dull {v : Value} (h : ∃ a n c, v = .slice a n c) : ∀ (j : Nat) (s : ByteArray), (#[v] : Array Value)[j]? ≠ some (Value.string s) := by
  obtain ⟨_, _, _, rfl⟩ := h
  intro j s
  cases j with
  | zero => simp
  | succ j => simp
abbrev zAN : Array Value := anL 0 (.slice none 0 0)
/-- The command's box, the answer's. -/
structure Fr (w : World) (c : Cd) (vp vn vt vg : Value) (W : World) : Prop where
  cb : W.heap[w.heap.size]? = some (.cells (cdL c vp vn vt vg) TCD (0, 0))
  rs : W.heap[w.heap.size + 1]? = some (.cells zAN TAN (0, 0))
theorem Fr.made (w : World) (c : Cd) (vp vn vt vg : Value) : Fr w c vp vn vt vg ((w.alloc (.cells (cdL c vp vn vt vg) TCD)).alloc (.cells zAN TAN)) ∧ Fp Non w ((w.alloc (.cells (cdL c vp vn vt vg) TCD)).alloc (.cells zAN TAN)) := by
  have f1 := fp_alloc w (.cells (cdL c vp vn vt vg) TCD)
  have f2 := fp_alloc (w.alloc (.cells (cdL c vp vn vt vg) TCD)) (.cells zAN TAN)
  refine ⟨⟨f2.heap (heap_alloc_new w _) (fun h => h), ?_⟩, f1.then f2⟩
  have := heap_alloc_new (w.alloc (.cells (cdL c vp vn vt vg) TCD)) (.cells zAN TAN)
  rwa [World.size_alloc] at this
theorem Fr.keep {w : World} {c : Cd} {vp vn vt vg : Value} {W W' : World} {S : Nat → Prop} (h : Fr w c vp vn vt vg W) (f : Fp S W W') (hS : ∀ k, w.heap.size ≤ k → ¬ S k) : Fr w c vp vn vt vg W' :=
  ⟨f.heap h.cb (hS _ (Nat.le_refl _)), f.heap h.rs (hS _ (Nat.le_succ _))⟩
theorem Fr.non {w : World} {c : Cd} {vp vn vt vg : Value} {W W' : World} (h : Fr w c vp vn vt vg W) (f : Fp Non W W') : Fr w c vp vn vt vg W' := h.keep f (fun _ _ h => h)
/-- What a method answers. -/
structure DoR (q : Nat) (l : List Mt) (er : Int) (ms : List Mt) (w : World) (e : Ending) (w' : World) : Prop where
  ex : ∃ vm, e = .returned (.agg (anL er vm)) ∧ NsM w' vm ms
  me : MeW w' q l
  fp : Fp (fun k => k = q) w w'
theorem DoR.fin {q b : Nat} {l ms : List Mt} {er : Int} {w W : World} {vm : Value} {cur : Array Value} (hf : Fp (fun k => k = q) w W) (hb : W.heap[b]? = some (.cells cur TAN (0, 0))) (hd : ∀ (j : Nat) (s : ByteArray), cur[j]? ≠ some (Value.string s)) (hbn : w.heap.size ≤ b) (hq : q < w.heap.size)
    (hm : MeW W q l) (hv : NsM W vm ms) : DoR q l er ms w (.returned (.agg (anL er vm))) (W.setRow b (anL er vm)) := by
  have g := fp_setRow W b (anL er vm)
  exact ⟨⟨vm, rfl, hv.dull hb hd g⟩, hm.dull hb hd (by omega) g, hf.trans g (fun k hk => .inr (by have hk : k = b := hk; omega))⟩
theorem zAN_dull : ∀ (j : Nat) (s : ByteArray), zAN[j]? ≠ some (Value.string s) := anL_dull ⟨none, 0, 0, rfl⟩

/-- What a Flip makes of a committee. -/
def flM (l : List Mt) (p : Bs) (ep to : Int) : List Mt × Int := if (flp l p ep to).e = 0 then ((flp l p ep to).l, 0) else (l, (flp l p ep to).e)
set_option maxHeartbeats 8000000 in
theorem flip_c (q : Nat) (l : List Mt) (c : Cd) (vp vn vt vg : Value) (w : World) (hm : MeW w q l) (hr : RtM l) (hsl : Slc vp vn vt vg) (hp : c.pre.length ≤ 140737488355328) (hep : 0 ≤ c.ep ∧ c.ep ≤ 281474976710656) :
    Calls Try.prog 25 #[.pointer (some ⟨q, 0, none⟩), .agg (cdL c vp vn vt vg)] w (DoR q (flM l c.pre c.ep c.to).1 (flM l c.pre c.ep c.to).2 [] w) := by
  obtain ⟨v, hq, hv⟩ := hm.ex
  obtain ⟨hF, hf⟩ := Fr.made w c vp vn vt vg
  obtain ⟨W2, hW2⟩ : ∃ W2, W2 = (w.alloc (.cells (cdL c vp vn vt vg) TCD)).alloc (.cells zAN TAN) := ⟨_, rfl⟩
  rw [← hW2] at hF hf
  have hfl := fun W (f : Fp Non w W) => Flip_c v l c.pre c.ep c.to W (hv.non f) hr.szs hp (by omega)
  have hyes : (flp l c.pre c.ep c.to).e = 0 → flM l c.pre c.ep c.to = ((flp l c.pre c.ep c.to).l, 0) := fun h => by unfold flM; rw [if_pos h]
  have hno : (flp l c.pre c.ep c.to).e ≠ 0 → flM l c.pre c.ep c.to = (l, (flp l c.pre c.ep c.to).e) := fun h => by unfold flM; rw [if_neg h]
  have hcx := fun W (f : Fp Non W2 W) (F : Fr w c vp vn vt vg W) => And.intro (show W.cell? ⟨q, 0, none⟩ = some v from by rw [cell_of_row _ _ _ _ _ _ ((hf.then f).heap hq (fun h => h))]; rfl) (And.intro (cbj F.cb 6 rfl) (And.intro (cbj F.cb 7 rfl) (cbj F.cb 8 rfl)))
  obtain ⟨r, hrr⟩ : ∃ r, flp l c.pre c.ep c.to = r := ⟨_, rfl⟩
  obtain ⟨d, hd⟩ : ∃ d, flM l c.pre c.ep c.to = d := ⟨_, rfl⟩
  rw [hrr] at hfl hyes hno
  rw [hd] at hyes hno ⊢
  obtain ⟨ao, cap, rfl⟩ := hv.shape
  obtain ⟨n, hn⟩ : ∃ n, n = l.length := ⟨_, rfl⟩
  rw [← hn] at hfl hcx hq
  have HP := Lib.hid (And.intro hm.lt (And.intro hq (And.intro hyes hno)))
  have HM := Lib.hid (hm.non hf)
  have HC := Lib.hid hfl
  have HX := Lib.hid hcx
  have F0 := Lib.hid (And.intro hF hf)
  clear hm hv hfl hyes hno hcx hq hn hrr hd hp hep hr hF hf
  go_enter Try.func25, Try.ntmps25
  go_wp2_with fail
  rw [← hW2]
  clear hW2
  refine wp_region_held_drew (S := (fun w' => w'.cell? ⟨q, 0, none⟩ = some (.slice ao n cap) ∧ w'.cell? ⟨w.heap.size, 6, none⟩ = some (.string (B c.pre)) ∧ w'.cell? ⟨w.heap.size, 7, none⟩ = some (.int .i64 c.ep) ∧ w'.cell? ⟨w.heap.size, 8, none⟩ = some (.int .i64 c.to))) (by kernel_rfl) ?_ (fun hHeld => ?_)
  · exact HX.out _ ((Fp.refl Non _).drew) (F0.out.1.non ((Fp.refl Non _).drew))
  refine tkt 0 hHeld ?_
  refine tkt 1 hHeld ?_
  refine tkt 2 hHeld ?_
  refine tkt 3 hHeld ?_
  refine tkt 4 hHeld ?_
  refine tkt 5 hHeld ?_
  refine tkt 6 hHeld ?_
  refine tkt 7 hHeld ?_
  refine tkt 8 hHeld ?_
  refine tkt 9 hHeld ?_
  refine rY 10 (fun K hK => ?_)
  go_simp
  go_at_call 44
  refine (HC.out _ (F0.out.2.then ((Fp.refl Non _).drew))).mono ?_
  intro e w1 hR
  obtain ⟨v1, rfl, hN⟩ := hR.ex
  have N1 := Lib.hid hN
  have F1 := Lib.hid (And.intro (F0.out.1.non (((Fp.refl Non _).drew).then hR.fp)) (F0.out.2.then (((Fp.refl Non _).drew).then hR.fp)))
  have M1 := Lib.hid (HM.out.non (((Fp.refl Non _).drew).then hR.fp))
  have G1 := Lib.hid (((Fp.refl Non W2).drew).then hR.fp)
  clear hR hN
  go_wp2_with fail
  refine hK.out _ _ (HX.out _ G1.out F1.out.1) (fun hHeld => ?_)
  clear hK K
  try simp only [zP, zN, zS, zT, zU]
  refine tkt 11 hHeld ?_
  refine tkt 12 hHeld ?_
  refine tkt 13 hHeld ?_
  refine tkt 14 hHeld ?_
  refine tkt 15 hHeld ?_
  refine yD ?_
  clear HX
  by_cases h0 : r.e = 0
  · have q5 : (r.e == 0) = true := beq_iff_eq.2 h0
    have q6 : (r.e = 0) = True := eq_true h0
    have q7 : (r.e != 0) = false := by simp [bne, q5]
    have HY := Lib.hid (HP.out.2.2.1 h0)
    have hmw := M1.out
    obtain ⟨a1, n1, c1, rfl⟩ : ∃ a n c, v1 = .slice a n c := by obtain ⟨a, c, e⟩ := N1.out.shape; exact ⟨a, _, c, e⟩
    have hrow := F1.out.2.heap HP.out.2.1 (fun h => h)
    have k0 : w1.cell? ⟨q, 0, none⟩ = some (.slice ao n cap) := by rw [cell_of_row _ _ _ _ _ _ hrow]; rfl
    have k1 : w1.frozen? ⟨q, 0, none⟩ = false := by simp [World.frozen?, hrow]
    have hg : Fp (fun k => k = q) w1 (w1.setCell ⟨q, 0, none⟩ (.slice a1 n1 c1)) := Fp.setCell (S := fun k => k = q) (Fp.refl _ w1) (p := ⟨q, 0, none⟩) (.inl rfl) _
    have hms : MeW (w1.setCell ⟨q, 0, none⟩ (.slice a1 n1 c1)) q r.l := by
      refine ⟨.slice a1 n1 c1, ?_, M1.out.off N1.out hg⟩
      have := heap_setCell_same w1 q 0 _ TME (.slice a1 n1 c1) hrow
      rw [this]; simp
    have hql := HP.out.1
    have F2 := Lib.hid (F1.out.1.keep hg (fun k hk e => by have e : k = q := e; omega))
    have FQ := Lib.hid (F1.out.2.any.same hg)
    have ME := Lib.hid hms
    clear hrow hg hms hmw hql h0
    go_wp2_with (refine wpList_stC rfl TAN _ _ rfl _ _ rfl rfl (st_any stAN (cs := anL 0 (.slice none 0 0)) F2.out.rs rfl rfl (anL_one ⟨none, 0, 0, rfl⟩)) ?_)
    clear k0 k1
    generalize World.setCell w1 ⟨q, 0, none⟩ (.slice a1 n1 c1) = w2 at *
    obtain ⟨z0, z1, z2, z3, z4, z5, z6, z7, z8, z9⟩ := boxA (setRow_same (cs := anL 0 (.slice none 0 0)) F2.out.rs)
    have HE := Lib.hid (DoR.fin (er := 0) FQ.out F2.out.rs zAN_dull (Nat.le_succ _) HP.out.1 ME.out (NsM.nil _))
    generalize World.setRow w2 (w.heap.size + 1) (anL 0 (.slice none 0 0)) = wz at *
    go_wp2
    refine bodyPost_ret (v := .agg (anL 0 (.slice none 0 0))) (by simp [results, Try.results25, go_sem, z0, z1, z2, z3, z4, z5, z6, z7, z8, z9]) rfl ?_
    rw [HY.out]
    exact HE.out
  · have q5 : (r.e == 0) = false := beq_eq_false_iff_ne.2 h0
    have q6 : (r.e = 0) = False := eq_false h0
    have q7 : (r.e != 0) = true := by simp [bne, q5]
    have HY := Lib.hid (HP.out.2.2.2 h0)
    have FQ := Lib.hid (show Fp (fun k => k = q) w w1 from F1.out.2.any)
    have ME := M1
    have F2 := Lib.hid F1.out.1
    clear h0
    go_wp2_with fail
    refine (refusedM_c r.e _).mono ?_
    rintro e w9 ⟨rfl, f9⟩
    have F9 := Lib.hid (F2.out.non f9)
    have Q9 := Lib.hid (FQ.out.same f9.any)
    have M9 := Lib.hid (ME.out.non f9)
    clear f9
    go_wp2_with (refine wpList_stC rfl TAN _ _ rfl _ _ rfl rfl (st_any stAN (cs := anL r.e (.slice none 0 0)) F9.out.rs rfl rfl (anL_one ⟨none, 0, 0, rfl⟩)) ?_)
    obtain ⟨z0, z1, z2, z3, z4, z5, z6, z7, z8, z9⟩ := boxA (setRow_same (cs := anL r.e (.slice none 0 0)) F9.out.rs)
    have HE := Lib.hid (DoR.fin (er := r.e) Q9.out F9.out.rs zAN_dull (Nat.le_succ _) HP.out.1 M9.out (NsM.nil _))
    generalize World.setRow w9 (w.heap.size + 1) (anL r.e (.slice none 0 0)) = wz at *
    go_wp2
    refine bodyPost_ret (v := .agg (anL r.e (.slice none 0 0))) (by simp [results, Try.results25, go_sem, z0, z1, z2, z3, z4, z5, z6, z7, z8, z9]) rfl ?_
    rw [HY.out]
    exact HE.out
end Go.Proofs.Ytdfnfkknbjageaa

