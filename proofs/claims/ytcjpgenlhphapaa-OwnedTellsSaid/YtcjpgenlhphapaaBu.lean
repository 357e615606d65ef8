/- strings.Builder over this translation (its copyCheck has a refused arm, which no call here comes to), and strings.Join with a slash between. -/
import Derived.Test.YtcjpgenlhphapaaWb
import Derived.Shelf.Strings.BuilderX
import Derived.Lib.Builder
import Derived.Lib.AppendStr
import Derived.Lib.UnsafeStr
import Derived.Lib.MakeNoZero
import Derived.Lib.Join
namespace Go.Proofs.Ytcjpgenlhphapaa
set_option maxRecDepth 20000
open Go.RowKit Pm

/-- A builder of the call's own that holds l. -/
abbrev IsBu (b0 b : Nat) (l : Bs) (w : World) : Prop := Lib.IsBuilder 99 5 b0 b (Lib.byteCells l) w

theorem strCells_B (s : Bs) : Lib.strCells (B s) = Lib.byteCells s := by rw [Lib.strCells_eq]; rfl

theorem Try.infoBu : (Try.prog.info? 99).map (·.size) = some 2 := by kernel_rfl
theorem Try.liesBu : liesAt Try.prog Try.prog.depth 99 (2 / Try.prog.cellsOf 99) 0 99 1 = true := by kernel_rfl
theorem Try.infoBy : (Try.prog.info? 5).map (fun i => (i.zero, i.size, i.bytes)) = some (some (.int .u8 0), 1, 1) := by kernel_rfl
theorem Try.sizeBy : (Try.prog.info? 5).map (·.size) = some 1 := by kernel_rfl
theorem Try.cellsBy : Try.prog.cellsOf 5 = 1 := by kernel_rfl

theorem noEscape_run (x : Value) (w : World) : (callFunc 85 #[x]).run Try.prog w = .ok (.value x) w := by
  rw [run_callFunc_extern (fn := Try.f85) (by kernel_rfl) (by kernel_rfl) (by kernel_rfl) (by kernel_rfl) (e := Extern.AbiNoEscape.same) (by kernel_rfl), Lib.run_noEscape]
  rfl

set_option maxHeartbeats 1000000 in
theorem copyCheck_used (b : Nat) (w : World) (h0 : w.cell? ⟨b, 0, none⟩ = some (.pointer (some ⟨b, 0, none⟩))) :
    Calls Try.prog 83 #[.pointer (some ⟨b, 0, none⟩)] w fun e w' => e = .returned (.tuple #[]) ∧ w = w' := by
  obtain ⟨j, hj, _⟩ := Option.map_eq_some_iff.1 Try.infoBu
  have hq := Lib.run_neq_ptr_same (P := Try.prog) w ⟨b, 0, none⟩ Try.underlying97 hj
  go_enter Try.func83, Try.ntmps83
  go_wp2
  go_end0
  exact ⟨rfl, rfl⟩

set_option maxHeartbeats 1000000 in
theorem copyCheck_fresh (b : Nat) (w : World) (h0 : w.cell? ⟨b, 0, none⟩ = some (.pointer none)) (hsh : w.shape? b = some (99, 2)) (hfz : w.frozen? ⟨b, 0, none⟩ = false) :
    Calls Try.prog 83 #[.pointer (some ⟨b, 0, none⟩)] w fun e w' => e = .returned (.tuple #[]) ∧ w' = w.setCell ⟨b, 0, none⟩ (.pointer (some ⟨b, 0, none⟩)) := by
  obtain ⟨j, hj, hjs⟩ := Option.map_eq_some_iff.1 Try.infoBu
  have k1 := Lib.run_to_unsafe (P := Try.prog) w ⟨b, 0, none⟩ Try.underlying97 Try.underlying108 hj (by rw [hjs]; decide) hsh (by simp)
  have k2 := Lib.run_from_unsafe (P := Try.prog) w ⟨b, 0, none⟩ Try.underlying108 Try.underlying97 hj hsh Try.liesBu
  have k3 := noEscape_run (.pointer (some ⟨b, 0, none⟩)) w
  go_enter Try.func83, Try.ntmps83
  go_wp2
  go_end0
  exact ⟨rfl, rfl⟩

theorem copyCheck_c (b0 b : Nat) (l : Bs) (w : World) (h : IsBu b0 b l w) :
    Calls Try.prog 83 #[.pointer (some ⟨b, 0, none⟩)] w fun e w' => e = .returned (.tuple #[]) ∧
      Lib.BuilderAt 99 5 b0 b (.pointer (some ⟨b, 0, none⟩)) (Lib.byteCells l) w' ∧ Below b0 w w' := by
  rcases h with h | h
  · refine (copyCheck_fresh b w h.cell0 h.shape h.frozen0).mono ?_
    rintro e w' ⟨rfl, rfl⟩
    exact ⟨rfl, h.used _, (Below.refl b0 w).setCell (p := ⟨b, 0, none⟩) h.1 _⟩
  · refine (copyCheck_used b w h.cell0).mono ?_
    rintro e w' ⟨rfl, rfl⟩
    exact ⟨rfl, h, Below.refl b0 _⟩

set_option maxHeartbeats 1000000 in
theorem WriteString_c (b0 b : Nat) (l s : Bs) (w : World) (h : IsBu b0 b l w) (hlen : l.length + s.length ≤ 1073741824) (hb0 : b0 ≤ w.heap.size) :
    Calls Try.prog 80 #[.pointer (some ⟨b, 0, none⟩), .string (B s)] w fun e w' => e = .returned (.tuple #[.int .i64 s.length, .nilIface]) ∧ IsBu b0 b (l ++ s) w' ∧ Below b0 w w' := by
  obtain ⟨i0, hi, hz0, hz1, hz2⟩ := info_parts Try.infoBy
  go_enter Try.func80, Try.ntmps80
  go_wp2_with fail
  refine (copyCheck_c b0 b l _ h).mono ?_
  rintro e w1 ⟨rfl, ⟨hB, v, hbk, hown, hne⟩, hb1⟩
  have c1 : w1.cell? ⟨b, 1, none⟩ = some v := by rw [Lib.cell_of_heap hbk]; rfl
  have hs1 := hb1.size
  have hl8 : (Lib.byteCells l).length = l.length := Lib.byteCells_length l
  go_wp2_with (at_builtin; go_must (refine Lib.wpList_append_own_string _ rfl _ _ 75 9 rfl b0 5 i0 Try.underlying75 Try.underlying9 hi hz0 hz1 hz2 _ _ _ rfl hown (B s) rfl ?c3 ?c4 ?c5 ?_))
  case c3 => rw [hl8, B_size]; unfold maxLen; omega
  case c4 => rw [hl8, B_size]; omega
  case c5 => omega
  intro v' w2 hown' hgrow _
  have hlt : b < w1.heap.size := Lib.BuilderAt.lt ⟨hB, v, hbk, hown, hne⟩
  have hb2 : w2.heap[b]? = some (.cells #[.pointer (some ⟨b, 0, none⟩), v] 99 (0, 0)) := by
    rw [hgrow.block b hlt (fun e => hne e.symm)]; exact hbk
  have d1 : w2.cell? ⟨b, 1, none⟩ = some v := by rw [Lib.cell_of_heap hb2]; rfl
  have f1 : w2.frozen? ⟨b, 1, none⟩ = false := Lib.frozen_of_heap hb2 1
  have hbel : Below b0 w (w2.setCell ⟨b, 1, none⟩ v') := (hb1.grown hgrow (by omega) (fun k hk => (hown.lt k hk).1)).setCell (p := ⟨b, 1, none⟩) hB _
  have hfin : IsBu b0 b (l ++ s) (w2.setCell ⟨b, 1, none⟩ v') := by
    refine Or.inr (Lib.BuilderAt.put hB hb2 ?_ (by decide))
    rw [Lib.byteCells_length, List.length_append, Lib.byteCells_append, ← strCells_B s]
    exact hown'
  obtain ⟨ao, n', cap, rfl⟩ : ∃ ao n' cap, v' = .slice ao n' cap := by
    rcases hown'.2 with ⟨hv, _⟩ | ⟨g, cap, cur, hv, _⟩
    · exact ⟨_, _, _, hv⟩
    · exact ⟨_, _, _, hv⟩
  clear hown' hgrow hown hb1 hs1 hbk
  go_wp2
  go_ret2
  exact ⟨rfl, hfin, hbel⟩

set_option maxHeartbeats 1000000 in
theorem grow_c (b0 b n : Nat) (w : World) (hB : b0 ≤ b) (hbk : w.heap[b]? = some (.cells #[.pointer (some ⟨b, 0, none⟩), .slice none 0 0] 99 (0, 0))) (hBw : b0 ≤ w.heap.size) (hn : n ≤ 1073741824) :
    Calls Try.prog 84 #[.pointer (some ⟨b, 0, none⟩), .int .i64 n] w fun e w' => e = .returned (.tuple #[]) ∧ IsBu b0 b [] w' ∧ Below b0 w w' := by
  obtain ⟨cs, hrun, hle, hmax⟩ := Lib.run_makeNoZero (P := Try.prog) w.drew #[3] 75 5 Try.underlying75 n (by omega)
  have hcall : (callFunc 86 #[.int .i64 n]).run Try.prog w.drew = .ok (.value (.slice (some ⟨w.drew.heap.size, 0, none⟩) n cs.size)) (w.drew.drew.drew.alloc (.cells cs 5)) := by
    rw [run_callFunc_extern (fn := Try.f86) (by kernel_rfl) (by kernel_rfl) (by kernel_rfl) (by kernel_rfl) (e := Extern.BytealgMakeNoZero.makeNoZero #[3] #[75]) (by kernel_rfl), hrun]
    rfl
  have hlt : b < w.heap.size := by
    rcases Nat.lt_or_ge b w.heap.size with h' | h'
    · exact h'
    · simp [Array.getElem?_eq_none h'] at hbk
  have c1 : w.drew.cell? ⟨b, 1, none⟩ = some (.slice none 0 0) := by
    have : w.drew.heap[b]? = _ := hbk
    rw [Lib.cell_of_heap this]; rfl
  have hbk2 := (Lib.alloc_old w (.cells cs 5) b hlt).trans hbk
  have c2 : (w.alloc (.cells cs 5)).cell? ⟨b, 1, none⟩ = some (.slice none 0 0) := by
    rw [Lib.cell_of_heap hbk2]; rfl
  have f2 : (w.alloc (.cells cs 5)).frozen? ⟨b, 1, none⟩ = false := Lib.frozen_of_heap hbk2 1
  have hcopy : ∀ W : World, (Builtin.copy_ #[75, 75] 3 #[.slice (some ⟨w.heap.size, 0, none⟩) 0 cs.size, .slice none 0 0]).run Try.prog W = .ok (goInt 0) W :=
    fun W => run_copy_none W _ _ _ 5 _ _ 0 cs.size 0 0 Try.underlying75 Try.sizeBy rfl
  have hfin := Lib.grown_fresh (T := 99) (e := 5) (cs := cs) hB hbk hBw (hmax (by unfold maxLen; omega)) (by decide)
  clear hbk2 hlt
  go_enter Try.func84, Try.ntmps84
  go_wp2
  go_region
  all_goals (go_wp2; go_end0; exact ⟨rfl, Or.inr hfin.1, hfin.2⟩)

set_option maxHeartbeats 1000000 in
theorem Grow_c (b0 b n : Nat) (w : World) (hB : b0 ≤ b) (hbk : w.heap[b]? = some (.cells #[.pointer none, .slice none 0 0] 99 (0, 0))) (hBw : b0 ≤ w.heap.size) (hn : n ≤ 1073741824) :
    Calls Try.prog 79 #[.pointer (some ⟨b, 0, none⟩), .int .i64 n] w fun e w' => e = .returned (.tuple #[]) ∧ IsBu b0 b [] w' ∧ Below b0 w w' := by
  obtain ⟨w1, hw1⟩ : ∃ w1, w1 = w.setCell ⟨b, 0, none⟩ (.pointer (some ⟨b, 0, none⟩)) := ⟨_, rfl⟩
  have hbk1 : w1.heap[b]? = some (.cells #[.pointer (some ⟨b, 0, none⟩), .slice none 0 0] 99 (0, 0)) := by
    rw [hw1]; simp [World.setCell, Array.getElem?_modify, hbk]
  have hb1 : Below b0 w w1 := by rw [hw1]; exact (Below.refl b0 w).setCell (p := ⟨b, 0, none⟩) hB _
  have hs1 := hb1.size
  have hU : IsBu b0 b [] w1 := Or.inr ⟨hB, .slice none 0 0, hbk1, World.ownsRow_nil _ _ _ _, by simp [Value.ownBlock]⟩
  have c1 : w1.cell? ⟨b, 1, none⟩ = some (.slice none 0 0) := by rw [Lib.cell_of_heap hbk1]; rfl
  have hcc := copyCheck_fresh b w (by rw [Lib.cell_of_heap hbk]; rfl) (by simp [World.shape?, hbk]) (Lib.frozen_of_heap hbk 0)
  rw [← hw1] at hcc
  clear hw1
  go_enter Try.func79, Try.ntmps79
  go_wp2_with fail
  refine hcc.mono ?_
  rintro e w' ⟨rfl, rfl⟩
  go_wp2_with fail
  go_quiet (fail)
  go_wp2_with fail
  · refine (grow_c b0 b n _ hB (by exact hbk1) (by exact Nat.le_trans hBw hs1) hn).mono ?_
    rintro e w2 ⟨rfl, h1, h2⟩
    go_wp2
    go_end0
    exact ⟨rfl, h1, (below_drewN hb1 _).trans h2⟩
  · go_end0
    exact ⟨rfl, hU, below_drewN hb1 _⟩

/-- String of a builder that holds at least one byte. -/
theorem String_some (b0 b : Nat) (l : Bs) (w : World) (h : IsBu b0 b l w) (h0 : l ≠ []) :
    Calls Try.prog 81 #[.pointer (some ⟨b, 0, none⟩)] w fun e w' => e = .returned (.string (B l)) ∧ Below b0 w w' := by
  obtain ⟨p, hB, v, hbk, hown, hne⟩ : ∃ p, Lib.BuilderAt 99 5 b0 b p (Lib.byteCells l) w := by
    rcases h with h | h
    · exact ⟨_, h⟩
    · exact ⟨_, h⟩
  rw [Lib.byteCells_length] at hown
  have hl0 : l.length ≠ 0 := by simpa using h0
  obtain ⟨g, cap, cur, rfl, hbg, hg, hnc, hcm, hcs⟩ : ∃ g cap cur, v = .slice (some ⟨g, 0, none⟩) l.length cap ∧ b0 ≤ g ∧ w.heap[g]? = some (.cells cur 5 (0, 0)) ∧ l.length ≤ cap ∧ cap ≤ maxLen ∧ cur.size = cap * 1 := by
    rcases hown.2 with ⟨_, hz⟩ | ⟨g, cap, cur, hv, r1, r2, r3, r4, r5, _⟩
    · exact absurd hz hl0
    · exact ⟨g, cap, cur, hv, r1, r2, r3, r4, r5⟩
  have c1 : w.drew.cell? ⟨b, 1, none⟩ = some (.slice (some ⟨g, 0, none⟩) l.length cap) := by
    have : w.drew.heap[b]? = _ := hbk
    rw [Lib.cell_of_heap this]; rfl
  have hSD : (Builtin.unsafeSliceData_ #[75] 107 #[.slice (some ⟨g, 0, none⟩) l.length cap]).run Try.prog w.drew = .ok (.pointer (some ⟨g, 0, none⟩)) w.drew :=
    Lib.run_unsafeSliceData_row _ _ _ _ _ _ (by omega)
  have hUS : (Builtin.unsafeString_ #[107, 3] 9 #[.pointer (some ⟨g, 0, none⟩), .int .i64 l.length]).run Try.prog w.drew = .ok (.string (B l)) (w.drew.freeze ⟨g, 0, none⟩ l.length) := by
    refine Lib.run_unsafeString_row w.drew _ _ _ 5 Try.underlying107 Try.cellsBy g cur.size (by have hg' : w.drew.heap[g]? = _ := hg; simp [World.shape?, hg']) l h0 (by omega) (by unfold maxLen at hcm; omega) ?_
    intro j x hx
    exact hown.cells (g := g) rfl j (.int .u8 x.toNat) (by simp [Lib.byteCells, hx])
  have hfin := Lib.below_freeze (Below.drew (Below.refl b0 w)) (p := ⟨g, 0, none⟩) hbg l.length
  clear hown hg hnc hcm hcs hbk
  go_enter Try.func81, Try.ntmps81
  go_wp2
  go_region
  all_goals (go_wp2; go_ret; exact ⟨rfl, hfin⟩)

/-- strings.Join with a slash between: one part, or none. -/
theorem Join_one (bk o c : Nat) (p : Bs) (w : World) (hc : w.cell? ⟨bk, o, none⟩ = some (strV p)) :
    Calls Try.prog 75 #[.slice (some ⟨bk, o, none⟩) 1 c, .string ⟨#[47]⟩] w fun e w' => e = .returned (.string (B p)) ∧ w = w' := by
  unfold strV at hc
  go_enter Try.func75, Try.ntmps75
  go_wp2
  go_ret
  exact ⟨rfl, rfl⟩

theorem Join_none (a : Option Addr) (c : Nat) (w : World) :
    Calls Try.prog 75 #[.slice a 0 c, .string ⟨#[47]⟩] w fun e w' => e = .returned (.string (B [])) ∧ w = w' := by
  go_enter Try.func75, Try.ntmps75
  go_wp2
  go_ret
  exact ⟨rfl, rfl⟩

set_option maxHeartbeats 2000000 in
theorem Join_many (bk o c : Nat) (p : Bs) (r : List Bs) (w : World) (hc : ∀ j (h : j < (p :: r).length), w.cell? ⟨bk, o + j, none⟩ = some (strV (p :: r)[j]))
    (hbk : bk < w.heap.size) (hr : 0 < r.length) (hn : r.length ≤ 1000) (hcap : r.length + 1 ≤ c) (hlen : lens (p :: r) ≤ 500000000) :
    Calls Try.prog 75 #[.slice (some ⟨bk, o, none⟩) (r.length + 1) c, .string ⟨#[47]⟩] w fun e w' => e = .returned (.string (B (jn (p :: r)))) ∧ Below w.heap.size w w' := by
  have HC := Lib.hid hc; clear hc
  have HL := Lib.hid hlen; clear hlen
  have h0 : ((r.length : Int) + 1 == 0) = false := beq_eq_false_iff_ne.2 (by omega)
  have h1 : ((r.length : Int) + 1 == 1) = false := beq_eq_false_iff_ne.2 (by omega)
  have hdv : 1 < 9223372036854775807 / (r.length : Int) := by
    have : (2 : Int) ≤ 9223372036854775807 / (r.length : Int) := Int.le_ediv_of_mul_le (by omega) (by omega)
    omega
  go_enter Try.func75, Try.ntmps75
  go_wp2_with fail
  go_loop [5, 41] (fun n i => ∃ k : Nat, k ≤ r.length + 1 ∧ i = .int .i64 k ∧ n = .int .i64 ((r.length + lens ((p :: r).take k) : Nat) : Int)) (fun _ i => r.length + 1 - (intOf i).toNat)
  case atStart => exact ⟨0, Nat.zero_le _, rfl, by simp [lens]⟩
  case round =>
    obtain ⟨k, hk, rfl, rfl⟩ := hrel
    by_cases hkn : k < r.length + 1
    · have hc := HC.out k (by simpa using hkn)
      unfold strV at hc
      have hst := lens_take_succ (p :: r) k (by simpa using hkn)
      have hbd := Nat.le_trans (lens_take_le (p :: r) (k + 1)) HL.out
      generalize hA1 : lens ((p :: r).take (k + 1)) = A1 at hst hbd
      have HA := Lib.hid hA1; clear hA1
      generalize lens ((p :: r).take k) = A0 at hst
      generalize hq : (p :: r)[k]'(by simpa using hkn) = q at hc hst
      clear hq
      have HS := Lib.hid hst; clear hst
      have hb' : q.length ≤ 500000000 ∧ A0 ≤ 500000000 := by have := HS.out; omega
      obtain ⟨hb1, hb2⟩ := hb'
      go_wp2
      go_round
      case rel => exact ⟨k + 1, by omega, by go_num, by rw [HA.out]; have := HS.out; exact congrArg _ (by omega)⟩
      case measure => simp [intOf]; omega
    · have hke : k = r.length + 1 := by omega
      subst hke
      rw [show (p :: r).take (r.length + 1) = p :: r from List.take_of_length_le (by simp)]
      have hT := HL.out
      have hfl : (jn (p :: r)).length = r.length + lens (p :: r) := by show (p ++ flat r).length = _; rw [List.length_append, flat_len]; simp [lens]; omega
      have HF := Lib.hid hfl; clear hfl
      generalize hT' : lens (p :: r) = T at hT HF
      clear hT'
      go_wp2_with fail
      rw [show ((r.length : Int) + (T : Int)) = ((r.length + T : Nat) : Int) from by omega]
      refine (Grow_c w.heap.size w.heap.size (r.length + T) _ (Nat.le_refl _) (heap_alloc_new w _) (by simp) (by omega)).mono ?_
      rintro e w1 ⟨rfl, h1, hb1⟩
      have hb1' : Below w.heap.size w w1 := ((Below.refl w.heap.size w).alloc (Nat.le_refl _) _).trans hb1
      have hc0 : w1.cell? ⟨bk, o, none⟩ = some (.string (B p)) := by
        rw [hb1'.cell (p := ⟨bk, o, none⟩) hbk]; exact HC.out 0 (by simp)
      clear hb1
      have hs1 := hb1'.size
      go_wp2_with fail
      refine (WriteString_c w.heap.size w.heap.size [] p w1 h1 (by have := HF.out; have e : (jn (p :: r)).length = p.length + (flat r).length := List.length_append; simp; omega) hs1).mono ?_
      rintro e w2 ⟨rfl, h2, hb2⟩
      have hb2' := hb1'.trans hb2
      clear hb2 h1 hc0
      go_wp2_with fail
      go_loopw [65] (fun i wr => ∃ k : Nat, k ≤ r.length ∧ i = .int .i64 k ∧ Hid (IsBu w.heap.size w.heap.size (p ++ flat (r.take k)) wr) ∧ Below w.heap.size w wr) (fun i _ => r.length - (intOf i).toNat)
      case atStart => exact ⟨0, Nat.zero_le _, rfl, by simpa [flat, Hid] using h2, hb2'⟩
      case round =>
        obtain ⟨k, hk', rfl, HB, hW⟩ := hrel
        by_cases hkr : k < r.length
        · have hcy : wr.cell? ⟨bk, o + 1 + k, none⟩ = some (.string (B r[k])) := by
            rw [hW.cell (p := ⟨bk, o + 1 + k, none⟩) hbk, show o + 1 + k = o + (k + 1) by omega]
            exact HC.out (k + 1) (by simpa using hkr)
          have hsw := hW.size
          have hst := flat_take_succ r k hkr
          have hln : (p ++ flat (r.take k)).length + 1 + (r[k]).length ≤ r.length + T := by
            have e1 : (jn (p :: r)).length = p.length + (flat r).length := List.length_append
            have e2 := HF.out
            have e3 := congrArg List.length hst
            have e4 := flat_len (r.take (k + 1))
            have e5 := flat_len r
            have e6 := lens_take_le r (k + 1)
            have e7 : (r.take (k + 1)).length ≤ r.length := by rw [List.length_take]; omega
            simp only [List.length_append, List.length_cons, List.length_nil] at e3 ⊢
            omega
          have HS := Lib.hid hst; clear hst
          generalize hq : r[k] = q at hcy hln HS
          clear hq
          generalize hJ : p ++ flat (r.take k) = J at HB hln
          have HJ := Lib.hid hJ; clear hJ
          go_wp2_with fail
          refine (WriteString_c w.heap.size w.heap.size J [47] wr HB.out (by simp; omega) hsw).mono ?_
          rintro e w3 ⟨rfl, h3, hb3⟩
          have hb3' := hW.trans hb3
          have hs3 := hb3'.size
          clear hb3
          go_wp2_with fail
          refine (WriteString_c w.heap.size w.heap.size (J ++ [47]) q w3 h3 (by simp; omega) hs3).mono ?_
          rintro e w4 ⟨rfl, h4, hb4⟩
          have hb4' := hb3'.trans hb4
          clear hb4
          have H4 := Lib.hid h4; clear h4 h3
          go_wp2
          go_roundw
          case rel => exact ⟨k + 1, by omega, by go_num, by have := H4.out; rw [← HJ.out] at this; rw [HS.out]; simpa [List.append_assoc, Hid] using this, hb4'⟩
          case measure => simp [intOf]; omega
        · have hke : k = r.length := by omega
          subst hke
          have hsw := hW.size
          have hB' := HB.out
          rw [List.take_length] at hB'
          go_wp2_with fail
          refine (String_some w.heap.size w.heap.size (jn (p :: r)) wr hB' (fun h => by have := HF.out; rw [h] at this; simp at this; omega)).mono ?_
          rintro e w5 ⟨rfl, hb5⟩
          have hb5' := hW.trans hb5
          clear hb5 hB'
          go_wp2
          go_ret
          exact ⟨rfl, hb5'⟩

end Go.Proofs.Ytcjpgenlhphapaa
