/- The mount of a directory (gen_br.py, out of owned/XOr): slices.Backward, mounts.mountOf: a range over a function, whose body calls and returns. -/
import Derived.RangeFuncNested
import Derived.RangeFuncBound
import Derived.RangeFuncCalls
import Derived.RangeFuncLeaves
import Derived.RangeFuncBox
import Derived.Shelf.Abstract
import Derived.WalkKit
import Derived.OwnWalkIn
import Derived.TacticsInMore
import Derived.LoopNIn
import Derived.LoopIn
import Derived.Test.YtajgjhkienhpjaaBb
import Derived.Test.YtajgjhkienhpjaaPi
namespace Go.Proofs.Ytajgjhkienhpjaa
set_option maxRecDepth 100000
set_option linter.unusedVariables false
set_option linter.unusedSimpArgs false
open Go.RowKit Go.Shelf Pm
attribute [local go_sem] Oper.semAt_some

/-- What has come when k rounds are over. -/
def upto {α : Type} (f : Nat → α) (k : Nat) : List α := (List.range k).map f
theorem upto_succ {α : Type} (f : Nat → α) (k : Nat) : upto f (k + 1) = upto f k ++ [f k] := by simp [upto, List.range_succ]
theorem upto_length {α : Type} (f : Nat → α) (k : Nat) : (upto f k).length = k := by simp [upto]
/-- A place and what stands there. -/
abbrev Nh := { x : Nat × Mt // x.2.d.length ≤ 1000000 }
/-- From the last one down. -/
def dn (l : List Mt) (j : Nat) : Nh := if h : (l[l.length - 1 - j]?.getD mt0).d.length ≤ 1000000 then ⟨(l.length - 1 - j, l[l.length - 1 - j]?.getD mt0), h⟩ else ⟨(0, mt0), by simp [mt0]⟩

theorem dn_at {l : List Mt} (hp : ∀ x ∈ l, x.d.length ≤ 1000000) {j : Nat} (hj : j < l.length) : dn l (l.length - 1 - j) = ⟨(j, l[j]), hp _ (List.getElem_mem hj)⟩ := by
  have e2 : l.length - 1 - (l.length - 1 - j) = j := by omega
  have e : l[j]?.getD mt0 = l[j] := by rw [List.getElem?_eq_getElem hj]; rfl
  have hpm := hp _ (List.getElem_mem hj)
  unfold dn
  simp only [e2, e, hpm, dite_true]

set_option maxHeartbeats 1000000 in
theorem Backward_in (F : Fence) (n : Nat) (h5 : F.fn 38) (hro : F.round = none) (a : Option Addr) (len cap : Nat) (w : World) :
    CallsIn F n Try.prog 38 #[.slice a len cap] w fun e w' => e = .returned (.func (.func 44) #[] #[.pointer (some ⟨w.heap.size, 0, none⟩)]) ∧ w' = w.alloc (.cells #[.slice a len cap] TLM) := by
  refine callsIn_of_wp Try.func38 rfl h5 ?_ hro
  simp only [Try.ntmps38, List.size_toArray, List.length_cons, List.length_nil, Nat.reduceAdd, Nat.reduceSub, Array.replicate_succ, Array.replicate_zero, List.push_toArray, List.append_toArray, List.nil_append, List.cons_append]
  gi_wp2
  go_ret
  exact ⟨rfl, rfl⟩

set_option maxHeartbeats 4000000 in
theorem back1_in (F : Fence) (n : Nat) (h8 : F.fn 44) (hro : F.round = none) (hn : 1 ≤ n) (lp Bs n₀ : Nat) (ao : Option Addr) (len cap : Nat) (l : List Mt) (hlen : len = l.length) (hb : len ≤ 1000000) (hp : ∀ x ∈ l, x.d.length ≤ 1000000) (J Jx : List Nh → World → Prop)
    (hY : ∀ pre x W, J pre W → pre.length < len → YieldAt F (n - 1) Try.prog lp #[.int .i64 (x.1.1 : Int), .agg #[.string (B x.1.2.d), .int .i64 x.1.2.g, .int .i64 x.1.2.e, .int .i64 x.1.2.t]] W fun e W' =>
      (e = .returned (.bool true) ∧ J (pre ++ [x]) W' ∧ Below n₀ W W') ∨ (e = .returned (.bool false) ∧ Jx (pre ++ [x]) W'))
    (W : World) (hBl : Bs < n₀) (hBs : W.cell? ⟨Bs, 0, none⟩ = some (.slice ao len cap)) (hc : l = [] ∨ ∃ g o, ao = some ⟨g, o, none⟩ ∧ g < n₀ ∧ ∀ i (h : i < l.length), NdAtM W g (o + i * 4) l[i]) (h0 : J [] W) :
    CallsIn F n Try.prog 44 #[.func (.yield lp) #[] #[], .pointer (some ⟨Bs, 0, none⟩)] W fun e W' => (∃ v, e = .returned v) ∧
      ((∃ ys, ys = upto (dn l) len ∧ J ys W') ∨ (∃ pre, (∃ k, k ≤ len ∧ pre = upto (dn l) k) ∧ Jx pre W')) := by
  refine callsIn_of_wp Try.func44 rfl h8 ?_ hro
  simp only [Try.ntmps44, List.size_toArray, List.length_cons, List.length_nil, Nat.reduceAdd, Nat.reduceSub, Array.replicate_succ, Array.replicate_zero, List.push_toArray, List.append_toArray, List.nil_append, List.cons_append]
  gi_wp2
  gi_loopw [3] (fun i wr => ∃ k : Nat, k ≤ len ∧ i = .int .i64 ((len : Int) - 1 - k) ∧ J (upto (dn l) k) wr ∧ Below n₀ W wr)
    (fun i _ => (intOf i + 1).toNat)
  case atStart => exact ⟨0, Nat.zero_le _, by go_num, h0, Below.refl _ _⟩
  case round =>
    obtain ⟨k, hk, rfl, hJs, hnx⟩ := hrel
    have hBw : wr.cell? ⟨Bs, 0, none⟩ = some (.slice ao len cap) := (hnx.cell (p := ⟨Bs, 0, none⟩) hBl).trans hBs
    by_cases hlt : k < len
    · obtain ⟨m, hm⟩ : ∃ m : Nat, m = len - 1 - k := ⟨_, rfl⟩
      have hmi : (len : Int) - 1 - (k : Int) = (m : Int) := by omega
      have hml : m < l.length := by omega
      have hpm := hp l[m] (List.getElem_mem hml)
      have hd : dn l k = ⟨(m, l[m]), hpm⟩ := by
        rw [show k = l.length - 1 - m from by omega]; exact dn_at hp hml
      obtain ⟨g, o, rfl, hg, hcs⟩ : ∃ g o, ao = some ⟨g, o, none⟩ ∧ g < n₀ ∧ ∀ i (h : i < l.length), NdAtM W g (o + i * 4) l[i] := by
        rcases hc with rfl | h
        · simp at hml
        · exact h
      have hnd := hcs m hml
      have c0 : wr.cell? ⟨g, o + m * 4, none⟩ = some (.string (B l[m].d)) := (hnx.cell (p := ⟨g, o + m * 4, none⟩) hg).trans hnd.c0
      have c1 : wr.cell? ⟨g, o + m * 4 + 1, none⟩ = some (.int .i64 l[m].g) := (hnx.cell (p := ⟨g, o + m * 4 + 1, none⟩) hg).trans hnd.c1
      have c2 : wr.cell? ⟨g, o + m * 4 + 2, none⟩ = some (.int .i64 l[m].e) := (hnx.cell (p := ⟨g, o + m * 4 + 2, none⟩) hg).trans hnd.c2
      have c3 : wr.cell? ⟨g, o + m * 4 + 3, none⟩ = some (.int .i64 l[m].t) := (hnx.cell (p := ⟨g, o + m * 4 + 3, none⟩) hg).trans hnd.c3
      obtain ⟨fn, tmps, assign, body, hy, hR⟩ := hY _ ⟨(m, l[m]), hpm⟩ wr hJs (by rw [upto_length]; exact hlt)
      dsimp only at hy
      rw [hmi]
      generalize hxx : l[m] = x at *
      obtain ⟨xd, xg, xe, xt⟩ := x
      simp only at c0 c1 c2 c3 hy hR
      clear hnd hcs hc
      have q1 : ((0 : Int) ≤ (m : Int)) = True := eq_true (by omega)
      have q2 : ((m : Int) < (len : Int)) = True := eq_true (by omega)
      have q3 : (m < len) = True := eq_true (by omega)
      have hsz := szNM
      have hmb : m ≤ 1000000 := by omega
      have HM := Lib.hid (And.intro hm (And.intro hmi (And.intro hlt hd)))
      clear hd hxx hml hlen hlt hmi hm
      gi_wp2
      refine hR.mono ?_
      rintro e W3 (⟨rfl, hJ3, hk3⟩ | ⟨rfl, hJx3⟩)
      · gi_wp2
        go_roundw
        case rel =>
          have := HM.out
          have e : (len : Int) - 1 - ((k + 1 : Nat) : Int) = (m : Int) - 1 := by omega
          exact ⟨k + 1, by omega, by rw [e], by rw [upto_succ, HM.out.2.2.2]; exact hJ3, hnx.trans hk3⟩
        case measure => simp [intOf]
      · gi_wp2
        refine bodyPost_ret (results_none rfl _ _ _) rfl ?_
        exact ⟨⟨_, rfl⟩, .inr ⟨_, ⟨k + 1, by have := HM.out; omega, by rw [upto_succ, HM.out.2.2.2]⟩, hJx3⟩⟩
    · obtain rfl : k = len := by omega
      have q1 : ((0 : Int) ≤ (k : Int) - 1 - (k : Int)) = False := eq_false (by omega)
      have q0 : (k : Int) - 1 - (k : Int) = -1 := by omega
      rw [q0]
      gi_wp2
      go_end0
      exact ⟨⟨_, rfl⟩, .inl ⟨_, rfl, hJs⟩⟩

theorem back_stops (F : Fence) (n : Nat) (h8 : F.fn 44) (hro : F.round = none) (hn : 1 ≤ n) (Bs n₀ : Nat) (ao : Option Addr) (cap : Nat) (l : List Mt) (hb : l.length ≤ 1000000) (hp : ∀ x ∈ l, x.d.length ≤ 1000000) (w : World) (hBs : Bs < w.heap.size) (hn₀ : n₀ ≤ w.heap.size) (hBl : Bs < n₀)
    (hc : w.cell? ⟨Bs, 0, none⟩ = some (.slice ao l.length cap)) (hI : l = [] ∨ ∃ g o, ao = some ⟨g, o, none⟩ ∧ g < n₀ ∧ ∀ i (h : i < l.length), NdAtM w g (o + i * 4) l[i]) :
    SeqStopsK F n Try.prog 44 #[.pointer (some ⟨Bs, 0, none⟩)] (fun x : Nh => #[Value.int .i64 (x.1.1 : Int), .agg #[.string (B x.1.2.d), .int .i64 x.1.2.g, .int .i64 x.1.2.e, .int .i64 x.1.2.t]]) (Below n₀) (fun ys => ys = upto (dn l) l.length) (fun pre => ∃ k, k ≤ l.length ∧ pre = upto (dn l) k) l.length w := fun lp J Jx W hW _ _ hY h0 => by
  have hc' := (hW.cell (p := ⟨Bs, 0, none⟩) hBs).trans hc
  refine (back1_in F n h8 hro hn lp Bs n₀ ao l.length cap l rfl hb hp J Jx hY W hBl hc' ?_ h0).mono ?_
  · rcases hI with h | ⟨g, o, e, hg, hi⟩
    · exact .inl h
    · have hgw : g < w.heap.size := by omega
      exact .inr ⟨g, o, e, hg, fun i h => ⟨(hW.cell (p := ⟨g, _, none⟩) hgw).trans (hi i h).c0, (hW.cell (p := ⟨g, _, none⟩) hgw).trans (hi i h).c1, (hW.cell (p := ⟨g, _, none⟩) hgw).trans (hi i h).c2, (hW.cell (p := ⟨g, _, none⟩) hgw).trans (hi i h).c3⟩⟩
  · rintro e W' ⟨he, ⟨ys, hy, hj⟩ | ⟨pre, hk, hj⟩⟩
    · exact ⟨he, .inl ⟨ys, hy, hj⟩⟩
    · exact ⟨he, .inr ⟨pre, hk, hj⟩⟩

theorem boxed_below {W W' : World} {n₀ b : Nat} {t : TypeId} {v : Value} (h : Boxed W b t v) (f : Below n₀ W W') (hb : b < n₀) : Boxed W' b t v := (f.block b hb).trans h

set_option maxHeartbeats 4000000 in
theorem mountOf_c (v : Value) (l : List Mt) (d : Bs) (w : World) (hv : NsM w v l) (hl : l.length ≤ 1000000) (hp : ∀ x ∈ l, x.d.length ≤ 1000000) (hd : d.length ≤ 1000000) :
    Calls Try.prog 27 #[v, .string (B d)] w fun e w' => e = .returned (.int .i64 (idx (bk l d l.length))) ∧ Fp Non w w' := by
  obtain ⟨ao, cap, rfl, hcap1, hcap2, hN⟩ := hv.ex
  refine (callsIn_wide (n := 4)).1 ?_
  refine callsIn_of_wp_marks Try.func27 rfl trivial ?_ rfl
  simp only [Try.ntmps27, List.size_toArray, List.length_cons, List.length_nil, Nat.reduceAdd, Nat.reduceSub, Array.replicate_succ, Array.replicate_zero, List.push_toArray, List.append_toArray, List.nil_append, List.cons_append]
  gi_wp2_with (refine ⟨trivial, ?_⟩; gi_at_call 38; refine (Backward_in Fence.wide _ trivial rfl _ _ _ _).mono ?_; rintro e w' ⟨rfl, rfl⟩)
  have bD := ((Boxed.new w 9 (.string (B d))).alloc (.cells #[.int .i64 0] 3)).alloc (.cells #[.slice ao l.length cap] TLM)
  have bR := (Boxed.new (w.alloc (.cells #[.string (B d)] 9)) 3 (.int .i64 0)).alloc (.cells #[.slice ao l.length cap] TLM)
  have bS := Boxed.new ((w.alloc (.cells #[.string (B d)] 9)).alloc (.cells #[.int .i64 0] 3)) TLM (.slice ao l.length cap)
  simp only [World.size_alloc] at bR bS
  have hB0 : Below w.heap.size w (((w.alloc (.cells #[.string (B d)] 9)).alloc (.cells #[.int .i64 0] 3)).alloc (.cells #[.slice ao l.length cap] TLM)) := (((Below.refl _ w).alloc (Nat.le_refl _) _).alloc (by simp) _).alloc (by simp; omega) _
  have hsz : (((w.alloc (.cells #[.string (B d)] 9)).alloc (.cells #[.int .i64 0] 3)).alloc (.cells #[.slice ao l.length cap] TLM)).heap.size = w.heap.size + 3 := by simp
  obtain ⟨W0, hW0⟩ : ∃ W0, ((w.alloc (.cells #[.string (B d)] 9)).alloc (.cells #[.int .i64 0] 3)).alloc (.cells #[.slice ao l.length cap] TLM) = W0 := ⟨_, rfl⟩
  rw [hW0] at bD bR bS hB0 hsz ⊢
  clear hW0
  refine wpIn_rangeFunc_ownH rfl (by omega) (gf := 44) (lb := #[.pointer (some ⟨w.heap.size + 1 + 1, 0, none⟩)]) rfl trivial (enters_of Try.func44 (by kernel_rfl) rfl)
    (back_stops Fence.wide _ trivial rfl (by omega) (w.heap.size + 1 + 1) W0.heap.size ao cap l hl hp W0 (by omega) (Nat.le_refl _) (by omega) bS.cell (by
      rcases hN with h | ⟨g, o, e, hg, hi⟩
      · exact .inl h
      · exact .inr ⟨g, o, e, by omega, fun i h => ⟨(hB0.cell (p := ⟨g, _, none⟩) hg).trans (hi i h).c0, (hB0.cell (p := ⟨g, _, none⟩) hg).trans (hi i h).c1, (hB0.cell (p := ⟨g, _, none⟩) hg).trans (hi i h).c2, (hB0.cell (p := ⟨g, _, none⟩) hg).trans (hi i h).c3⟩⟩))
    belowK_t (belowK_b (Nat.le_refl _)) (Below.refl _ _) (fun _ => rfl)
    (fun pre W => (∀ p ∈ pre, inB d p.1.2.d = false) ∧ Below W0.heap.size W0 W)
    (fun c pre W => (c = .ret ∧ ∃ ini last, pre = ini ++ [last] ∧ (∀ p ∈ ini, inB d p.1.2.d = false) ∧ inB d last.1.2.d = true ∧ Boxed W (w.heap.size + 1) 3 (.int .i64 (last.1.1 : Int))) ∧ Below w.heap.size w W)
    (OwnFrom.and (Own.from (fun s X Y row hs hg hr => hs) _) (ownFrom_below (Nat.le_refl _) (Nat.le_refl _)))
    (fun c => OwnFrom.and (Own.from (fun s X Y row hs hg hr => by obtain ⟨hc, ini, last, e1, e2, e3, e4⟩ := hs; exact ⟨hc, ini, last, e1, e2, e3, boxed_own _ 3 (fun (_ : Unit) => Value.int .i64 (last.1.1 : Int)) () X Y row e4 hg hr⟩) _) (ownFrom_below (Nat.le_refl _) (by omega)))
    ⟨by simp, Below.refl _ _⟩
    (fun x a' W => ∃ b, W0.heap.size ≤ b ∧ BxM W b x.1.2 ∧ a' = { tmps := #[.slice ao l.length cap, .string (B d), undef, .pointer (some ⟨w.heap.size, 0, none⟩), .pointer (some ⟨w.heap.size + 1, 0, none⟩), .int .i64 (x.1.1 : Int), .pointer (some ⟨b, 0, none⟩), .slice ao l.length cap, .func (.func 44) #[] #[.pointer (some ⟨w.heap.size + 1 + 1, 0, none⟩)], .int .i64 (x.1.1 : Int), .agg #[.string (B x.1.2.d), .int .i64 x.1.2.g, .int .i64 x.1.2.e, .int .i64 x.1.2.t], undef, undef, undef, undef, undef], defers := [] })
    (fun x a' _ X Y row hs hg hr => by obtain ⟨b, h1, h2, h3⟩ := hs; exact ⟨b, h1, (hg.block b h2.lt (fun e' => by obtain ⟨_, o, ho, hc⟩ := hr b e'.symm; rw [show X.heap[b]? = _ from h2] at ho; cases ho; cases hc)).trans h2, h3⟩)
    ?assign ?body ?done ?stop
  case assign =>
    rintro lp pre x W K ⟨h1, hB1⟩ hK
    have hs1 := hB1.size
    have hszN := szNM
    gi_wp2
    exact hK _ _ ((KeepsOthers.alloc _ _).from _) ((Below.refl _ W).alloc hs1 _) ⟨h1, hB1.alloc hs1 _⟩ ⟨W.heap.size, hs1, World.alloc_heap_new W _, rfl⟩
  case body =>
    rintro lp pre x a' W hlp ⟨r, hr⟩ ⟨h1, hB1⟩ ⟨b, hb, bX, rfl⟩ hlt
    have cD := (boxed_below bD hB1 (by omega)).cell
    have bR1 := boxed_below bR hB1 (by omega)
    have cX : W.cell? ⟨b, 0, none⟩ = some (.string (B x.1.2.d)) := by rw [cell_of_row _ _ _ _ _ _ bX]; rfl
    have hI := fun w' => In_c d x.1.2.d w' (by omega) (by have := x.2; omega)
    have hin : ∃ t, inB d x.1.2.d = t := ⟨_, rfl⟩
    obtain ⟨t, hin⟩ := hin
    rw [hin] at hI
    cases t with
    | true =>
      gi_wp2_with (refine ⟨trivial, ?_⟩; gi_at_call 36; refine (CallsIn.inRound lp (callsIn_wide.2 (hI _))).mono ?_; rintro e w' ⟨rfl, hg⟩; have bR2 := boxed_below bR1 hg bR1.lt; have cR := bR2.cell; have fR := bR2.frozen)
      have hKF : KeepsFrom W0.heap.size W w' := ⟨hg.size, fun k o _ hk _ => (hg.block k (Array.getElem?_eq_some_iff.1 hk).1).trans hk⟩
      have hBw : Below w.heap.size w w' := (hB0.trans (hB1.mono (by omega))).trans (hg.mono (by have := hB1.size; omega))
      exact ⟨hKF.trans ((KeepsOthers.setCell _ _ _).from _), ⟨rfl, pre, x, rfl, h1, hin, bR2.set _⟩, hBw.setCell (p := ⟨w.heap.size + 1, 0, none⟩) (by simp) _⟩
    | false =>
      gi_wp2_with (refine ⟨trivial, ?_⟩; gi_at_call 36; refine (CallsIn.inRound lp (callsIn_wide.2 (hI _))).mono ?_; rintro e w' ⟨rfl, hg⟩)
      have hKF : KeepsFrom W0.heap.size W w' := ⟨hg.size, fun k o _ hk _ => (hg.block k (Array.getElem?_eq_some_iff.1 hk).1).trans hk⟩
      have hgm := hg.mono hB1.size
      exact ⟨hKF, hgm, fun p hp' => (List.mem_append.1 hp').elim (h1 p) (fun e => by simp at e; subst e; exact hin), hB1.trans hgm⟩
  case done =>
    rintro D ys W hD rfl ⟨hne, hB1⟩ hK
    have bR1 := boxed_below bR hB1 (by omega)
    have cR := bR1.cell
    have fR := bR1.frozen
    gi_wp2
    have hK' := (KeepsOthers.setCell W ⟨w.heap.size + 1, 0, none⟩ (.int .i64 (-1))).same D _ hK rfl
    refine ⟨by simp, .inl ⟨_, _, rfl, run_takeDeferred hK', ?_⟩⟩
    have hc5 := cell_kept (bR1.set (.int .i64 (-1))).cell (grownBy_putObj' _ D (.deferred none)) (fun r e => by cases e; exact ⟨_, hK', rfl⟩)
    have hno : bk l d l.length = none := bk_none fun j hj => by
      rw [inx_at hj]
      have h2 := hne (dn l (l.length - 1 - j)) (by simp only [upto, List.mem_map, List.mem_range]; exact ⟨_, by omega, rfl⟩)
      rwa [dn_at hp hj] at h2
    have hBw : Below w.heap.size w W := hB0.trans (hB1.mono (by omega))
    refine ⟨.int .i64 (-1), ?_, by rw [hno]; rfl, Fp.of_below ((hBw.setCell (p := ⟨w.heap.size + 1, 0, none⟩) (by simp) _).trans (belowK_b (w := w) (Nat.le_refl _) _ D _ _ (by omega) hK' rfl rfl))⟩
    simp [results, Try.f27, go_sem, hc5]
  case stop =>
    rintro D c pre W hD ⟨k, hk, rfl⟩ ⟨⟨rfl, ini, last, e1, e2, e3, hcr⟩, hB⟩ hK
    gi_wp2
    refine ⟨by simp, .inl ⟨_, _, rfl, run_takeDeferred hK, ?_⟩⟩
    have hc5 := cell_kept hcr.cell (grownBy_putObj' _ D (.deferred none)) (fun r e => by cases e; exact ⟨_, hK, rfl⟩)
    obtain ⟨k', rfl⟩ : ∃ k', k = k' + 1 := by
      cases k with
      | zero => simp [upto] at e1
      | succ k' => exact ⟨k', rfl⟩
    rw [upto_succ] at e1
    obtain ⟨rfl, e5⟩ := List.append_inj' e1 rfl
    obtain rfl : dn l k' = last := by simpa using e5
    have hkl : l.length - 1 - k' < l.length := by omega
    have hdk : dn l k' = dn l (l.length - 1 - (l.length - 1 - k')) := by rw [show l.length - 1 - (l.length - 1 - k') = k' from by omega]
    have hd1 := dn_at hp hkl
    rw [← hdk] at hd1
    have hyes : bk l d l.length = some (l.length - 1 - k') := bk_at hkl (by rw [inx_at hkl]; rw [hd1] at e3; exact e3) fun j h1 h2 => by
      rw [inx_at h2]
      have h3 := e2 (dn l (l.length - 1 - j)) (by simp only [upto, List.mem_map, List.mem_range]; exact ⟨_, by omega, rfl⟩)
      rwa [dn_at hp h2] at h3
    refine ⟨.int .i64 ((l.length - 1 - k' : Nat) : Int), ?_, by rw [hyes]; rfl, Fp.of_below (hB.trans (belowK_b (w := w) (Nat.le_refl _) W D _ _ (by omega) hK rfl rfl))⟩
    rw [hd1] at hc5
    simp [results, Try.f27, go_sem, hc5]
end Go.Proofs.Ytajgjhkienhpjaa
