/- The document's Same at texts; pieces, opened (gen_jy.py) -/
import Derived.Test.YtenaggleepoclaaGreatKd
import Derived.Test.YtenaggleepoclaaGreatJv
namespace Go.Proofs.YtenaggleepoclaaGreat
set_option maxRecDepth 20000
set_option linter.unusedVariables false
set_option linter.unusedSimpArgs false
open Go.RowKit Pm

/-- Ahead of round k of Same. -/
structure SaS (a b : List Bs) (w : World) (k : Nat) (wr : World) : Prop where
  fp : Fp Non w wr
  eq : a.take k = b.take k
theorem take_succ_eqS {a b : List Bs} {k : Nat} (ha : k < a.length) (hb : k < b.length) (h : a.take k = b.take k) (e : a[k] = b[k]) : a.take (k + 1) = b.take (k + 1) := by
  rw [List.take_succ_eq_append_getElem ha, List.take_succ_eq_append_getElem hb, h, e]

set_option maxHeartbeats 2000000 in
theorem rSameS_c (va vb : Value) (a b : List Bs) (w : World) (hva : Tx w va a) (hvb : Tx w vb b) (hn : a.length ≤ 1000000) (hm : b.length ≤ 1000000) :
    Calls Tryz.prog 21 #[va, vb] w fun e w' => e = .returned (.bool (decide (a = b))) ∧ Fp Non w w' := by
  obtain ⟨ao, ca, rfl⟩ := hva.shape
  obtain ⟨bo, cb, rfl⟩ := hvb.shape
  by_cases hl : a.length = b.length
  · obtain ⟨n, hnn⟩ : ∃ n, n = a.length := ⟨_, rfl⟩
    have hnb : n ≤ 1000000 := by omega
    have HX := Lib.hid (And.intro hnn (And.intro (show n = b.length by omega) (And.intro hva hvb)))
    rw [← hl, ← hnn]
    have H0 : Hid (SaS a b w 0 w) := ⟨Fp.refl _ _, by simp⟩
    clear hva hvb hl hn hm hnn
    go_enter Tryz.func21, Tryz.ntmps21
    go_wp2_with fail
    go_loopw [5] (fun i wr => ∃ k : Nat, k ≤ n ∧ i = .int .i64 k ∧ Hid (SaS a b w k wr)) (fun i _ => n - (RowKit.intOf i).toNat)
    case atStart => exact ⟨0, Nat.zero_le _, rfl, H0⟩
    case round =>
      clear H0
      obtain ⟨k, hk, rfl, hR⟩ := hrel
      rename_i wr _
      by_cases hlt : k < n
      · have hka : k < a.length := by rw [← HX.out.1]; exact hlt
        have hkb : k < b.length := by rw [← HX.out.2.1]; exact hlt
        obtain ⟨g, o, cap', e, hcell⟩ := HX.out.2.2.1.txs (by omega)
        injection e with e1 e2 e3
        subst e1 e3
        obtain ⟨g', o', cap', e, hcell'⟩ := HX.out.2.2.2.txs (by omega)
        injection e with e1 e2 e3
        subst e1 e3
        have hnd := hR.out.fp.cell (hcell k hka) (fun h => h)
        have hnd' := hR.out.fp.cell (hcell' k hkb) (fun h => h)
        have q3 : ((k : Int) < (n : Int)) = True := eq_true (by omega)
        have q4 : (k < n) = True := eq_true hlt
        have hnx := fun e wr' (f : Fp Non wr wr') => (show SaS a b w (k + 1) wr' from ⟨hR.out.fp.then f, take_succ_eqS hka hkb hR.out.eq e⟩)
        have hno := fun (e : a[k] ≠ b[k]) => (show a ≠ b from fun h => e (by subst h; rfl))
        have HNX := Lib.hid hnx
        have HNO := Lib.hid hno
        have HL := Lib.hid hlt
        clear hcell hcell' hnx hno hlt
        generalize a[k] = x at *
        generalize b[k] = y at *
        have c0 := hnd
        have d0 := hnd'
        clear hnd hnd' hka hkb
        by_cases hxy : x = y
        · have q5 : (x != y) = false := by simp [hxy]
          have q7 : (x == y) = true := beq_iff_eq.2 hxy
          have q6 : (x = y) = True := eq_true hxy
          have hM := Lib.hid (HNX.out hxy)
          have hj := HL.out
          clear hxy
          go_wp2_with fail
          go_quiet (fail)
          go_wp2
          go_roundw
          case rel => exact ⟨k + 1, by omega, by go_num, hM.out _ ((Fp.refl _ _).drewN _)⟩
          case measure => simp [RowKit.intOf]; omega
        · have q5 : (x != y) = true := by simp [hxy]
          have q7 : (x == y) = false := beq_eq_false_iff_ne.2 hxy
          have q6 : (x = y) = False := eq_false hxy
          have HN := Lib.hid (HNO.out hxy)
          clear hxy
          go_wp2_with fail
          go_quiet (fail)
          go_wp2
          go_ret
          exact ⟨by rw [decide_eq_false HN.out]; rfl, hR.out.fp.drewN _⟩
      · have hke : k = n := by omega
        subst hke
        have q3 : ((k : Int) < (k : Int)) = False := eq_false (by omega)
        have hfin : a = b := by
          have := hR.out.eq
          rw [HX.out.1, List.take_length, ← HX.out.1, HX.out.2.1, List.take_length] at this; exact this
        have HFN := Lib.hid hfin
        clear hlt hk hfin
        go_wp2
        go_ret
        exact ⟨by rw [decide_eq_true HFN.out]; rfl, hR.out.fp⟩
  · have HN := Lib.hid (show a ≠ b from fun h => hl (by rw [h]))
    have q1 : ((a.length : Int) == (b.length : Int)) = false := beq_eq_false_iff_ne.2 (by omega)
    have q2 : ((a.length : Int) = (b.length : Int)) = False := eq_false (by omega)
    have q3 : (a.length == b.length) = false := beq_eq_false_iff_ne.2 hl
    have q4 : (a.length = b.length) = False := eq_false hl
    clear hl hva hvb hn hm
    go_enter Tryz.func21, Tryz.ntmps21
    go_wp2
    go_ret
    exact ⟨by rw [decide_eq_false HN.out]; rfl, Fp.refl _ _⟩

open Go.ChangeShapes Go.WideShapes Go.ChangeAt Go.Deep
open Go.WideMaps Go.WideElems
open Go.ChangeMaps (setBlock shut_map_nil open_string shut_string)
theorem Tryz.cellsopen_pieces : Tryz.prog.cellsOf 47 = 8 := by kernel_rfl
theorem Tryz.cellsPt : Tryz.prog.cellsOf 45 = 7 := by kernel_rfl
theorem Tryz.bytesPc : Tryz.prog.bytesOf 47 = 88 := by kernel_rfl
theorem Tryz.cellsInt : Tryz.prog.cellsOf 3 = 1 := by kernel_rfl
theorem Tryz.cellsBoo : Tryz.prog.cellsOf 4 = 1 := by kernel_rfl
section
variable {H : Type} {enc : TypeId × Value → H} {W : World}
structure Pt7 where
  kind : Int
  dir : Bs
  path : Bs
  data : Bs
  ver : Int
  own : Int
  turns : Bool
def pt7C (x : Pt7) : List Value := [.int .i64 x.kind, strV x.dir, strV x.path, strV x.data, .int .i64 x.ver, .int .i64 x.own, .bool x.turns]

theorem pt_of {n : Nat} {cs : List Value} {y : DataW H × List MemPlace} (hlen : cs.length = 7) (h : DataW.trod enc Tryz.prog W 0 (fun _ => true) true n 45 cs = some y) :
    ∃ x : Pt7, cs = pt7C x := by
  obtain ⟨xs, k, hk, hxy, _, hxl, hf⟩ := DataW.trod_struct Tryz.underlying45 h
  match xs, hxl, cs, hlen with
  | [y0, y1, y2, y3, y4, y5, y6], _, [v0, v1, v2, v3, v4, v5, v6], _ =>
    have g0 := hf 0 _ rfl
    have g1 := hf 1 _ rfl
    have g2 := hf 2 _ rfl
    have g3 := hf 3 _ rfl
    have g4 := hf 4 _ rfl
    have g5 := hf 5 _ rfl
    have g6 := hf 6 _ rfl
    simp [Tryz.cellsInt] at g0
    simp [Tryz.cellsStr] at g1
    simp [Tryz.cellsStr] at g2
    simp [Tryz.cellsStr] at g3
    simp [Tryz.cellsI64] at g4
    simp [Tryz.cellsI64] at g5
    simp [Tryz.cellsBoo] at g6
    obtain ⟨z0, e0, _, _⟩ := DataW.trod_int Tryz.underlying3 g0
    obtain ⟨z1, e1, _, h1⟩ := DataW.trod_string Tryz.underlying9 g1
    obtain ⟨z2, e2, _, h2⟩ := DataW.trod_string Tryz.underlying9 g2
    obtain ⟨z3, e3, _, h3⟩ := DataW.trod_string Tryz.underlying9 g3
    obtain ⟨z4, e4, _, _⟩ := DataW.trod_int Tryz.underlying2 g4
    obtain ⟨z5, e5, _, _⟩ := DataW.trod_int Tryz.underlying2 g5
    obtain ⟨z6, e6, _⟩ := DataW.trod_bool Tryz.underlying4 g6
    simp only [List.cons.injEq, and_true] at e0 e1 e2 e3 e4 e5 e6
    subst e0 e1 e2 e3 e4 e5 e6
    refine ⟨⟨z0, z1.data.toList, z2.data.toList, z3.data.toList, z4, z5, z6⟩, ?_⟩
    unfold pt7C strV; rw [← B_of, ← B_of, ← B_of]

theorem pc_of {n : Nat} {cs : List Value} {y : DataW H × List MemPlace} (hlen : cs.length = 8) (h : DataW.trod enc Tryz.prog W 0 (fun _ => true) true n 47 cs = some y) :
    ∃ x : Pc, cs = pcC x := by
  obtain ⟨xs, k, hk, hxy, _, hxl, hf⟩ := DataW.trod_struct Tryz.underlying47 h
  match xs, hxl, cs, hlen with
  | [y0, y1], _, [v0, v1, v2, v3, v4, v5, v6, v7], _ =>
    have g0 := hf 0 _ rfl
    have g1 := hf 1 _ rfl
    simp [Tryz.cellsInt] at g0
    simp [Tryz.cellsInt, Tryz.cellsPt] at g1
    obtain ⟨z0, e0, _, _⟩ := DataW.trod_int Tryz.underlying3 g0
    obtain ⟨z1, e1⟩ := pt_of rfl g1
    simp only [pt7C, List.cons.injEq, and_true] at e0 e1
    obtain ⟨rfl, rfl, rfl, rfl, rfl, rfl, rfl⟩ := e1
    subst e0
    exact ⟨⟨z0, z1.kind, z1.dir, z1.path, z1.data, z1.ver, z1.own, z1.turns⟩, rfl⟩

/-- []canton/api.Piece, opened. -/
theorem open_pieces {v : Value} {d : DataW H} {p : List MemPlace} {base : Nat} (hv : Value.okWide Tryz.prog W .any base 24 v) (h : DataW.Trod enc Tryz.prog W 0 (fun _ => true) true 24 v d p) (hsz : ∀ n ∈ d.weights Tryz.prog 24, n ≤ reachBytes) :
    ∃ l, Sg pcC 8 W v l ∧ l.length ≤ 140737488355328 ∧ ∀ a n c, v = .slice a n c → n ≤ c ∧ c ≤ maxLen := by
  obtain ⟨a0, len0, cap0, rfl⟩ := okWide_slice Tryz.underlying24 hv
  obtain ⟨fuel, hf⟩ := h
  have hf : DataW.trod enc Tryz.prog W 0 (fun _ => true) true fuel 24 [.slice a0 len0 cap0] = some (d, p) := by simpa [Value.cells] using hf
  generalize (Value.slice a0 len0 cap0) = v at *
  rcases open_slice Tryz.underlying24 hf with ⟨hcs, hx⟩ | ⟨a, len, cap, m, n, D, Pl, hcs, _, hl, hm, hmm, hx, hel⟩
  · simp only [List.cons.injEq, and_true] at hcs
    subst hcs
    exact ⟨[], Sg.nil W, Nat.zero_le _, fun a n c e => by injection e with e1 e2 e3; subst e2 e3; exact ⟨Nat.le_refl _, by unfold maxLen; omega⟩⟩
  · simp only [List.cons.injEq, and_true] at hcs
    subst hcs
    simp only [if_true] at hmm
    subst hmm
    have hlb : len ≤ 140737488355328 := by
      have hx' := congrArg Prod.fst hx
      simp only at hx'
      rw [hx'] at hsz
      simp only [DataW.weights, Tryz.underlying24] at hsz
      have := hsz _ (List.mem_cons_self ..)
      rw [Tryz.bytesPc] at this
      simp only [List.length_map, List.length_range, reachBytes] at this
      omega
    have each : ∀ i, i < len → ∃ x : Pc, (∀ j (hj : j < 8), W.cell? (a.add (i * 8 + j)) = (pcC x)[j]?) := by
      intro i hi
      obtain ⟨cs', h1, h2⟩ := hel i (by omega)
      rw [Tryz.cellsopen_pieces] at h1
      obtain ⟨_, hlen, hcell⟩ := World.cells?_some h1
      obtain ⟨x, rfl⟩ := pc_of hlen h2
      refine ⟨x, fun j hj => ?_⟩
      have := hcell j (by omega)
      rw [add_add] at this
      exact this
    obtain ⟨f, hfi⟩ : ∃ f : Nat → Pc, ∀ i, i < len → (∀ j (hj : j < 8), W.cell? (a.add (i * 8 + j)) = (pcC (f i))[j]?) := by
      haveI : Inhabited Pc := ⟨⟨0, 0, [], [], [], 0, 0, false⟩⟩
      exact choose_lt each
    have hlen : ((List.range len).map f).length = len := by simp
    by_cases h0 : len = 0
    · subst h0
      exact ⟨[], ⟨some a, m, rfl, .inl rfl⟩, Nat.zero_le _, fun a n c e => by injection e with e1 e2 e3; subst e2 e3; exact ⟨by omega, hm⟩⟩
    · have hc0 := hfi 0 (by omega) 0 (by omega)
      have hc0 : W.cell? a = some (.int .i64 (f 0).op) := by simpa [Addr.add, pcC] using hc0
      have hlt := World.block_lt_of_cell? W a hc0
      obtain ⟨g, o, rfl⟩ := spot_none hc0
      refine ⟨(List.range len).map f, ⟨some ⟨g, o, none⟩, m, by rw [hlen], .inr ⟨g, o, rfl, fun i hi => ⟨fun j v hv => ?_⟩⟩⟩, by rw [hlen]; exact hlb, fun a n c e => by injection e with e1 e2 e3; subst e2 e3; exact ⟨hl, hm⟩⟩
      · rw [hlen] at hi
        have k1 := hfi i (by omega)
        
        have hj : j < 8 := by have := (List.getElem?_eq_some_iff.1 hv).1; simpa [pcC] using this
        have q0 := k1 j hj
        rw [Addr.add_lit, ← Nat.add_assoc] at q0
        simp only [List.getElem_map, List.getElem_range] at hv
        rw [q0]; exact hv
end
end Go.Proofs.YtenaggleepoclaaGreat
