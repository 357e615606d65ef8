/- Texts of this proof, merged. -/
import Derived.Test.YtjdpbieifcjmiaaZf
import Derived.Test.YtjdpbieifcjmiaaYa
import Derived.Test.YtjdpbieifcjmiaaYl
/- The document's find: a watch's place. -/
namespace Go.Proofs.Ytjdpbieifcjmiaa
set_option maxRecDepth 20000
set_option linter.unusedVariables false
set_option linter.unusedSimpArgs false
open Go.RowKit Pm

/-- What find answers. -/
structure FiR (ws : List Wt) (s n : Int) (w : World) (e : Ending) (w' : World) : Prop where
  ex : (ws.any (hit s n) = false ∧ e = .returned (.int .i64 (-1))) ∨ (∃ i, ∃ h : i < ws.length, e = .returned (.int .i64 i) ∧ hit s n ws[i] = true)
  fp : Fp Non w w'
theorem any_none {ws : List Wt} {s n : Int} (h : ∀ j (h1 : j < ws.length), hit s n ws[j] = false) : ws.any (hit s n) = false := by
  rw [List.any_eq_false]
  intro x hx
  obtain ⟨j, hj, rfl⟩ := List.mem_iff_getElem.1 hx
  rw [h j hj]; decide

set_option maxHeartbeats 8000000 in
theorem rfind_c (v : Value) (d : Wd) (s n : Int) (w : World) (hv : WdR w v d) (hz : d.ws.length ≤ 1000000) :
    Calls Try.prog 28 #[v, .int .i64 s, .int .i64 n] w (FiR d.ws s n w) := by
  obtain ⟨vw, vs, rfl, hw, hs⟩ := hv.ex
  obtain ⟨aw, cw, rfl⟩ := hw.shape
  obtain ⟨at_, cs, rfl⟩ := hs.shape
  obtain ⟨m, hm⟩ : ∃ n, n = d.ws.length := ⟨_, rfl⟩
  obtain ⟨sl, hsl⟩ : ∃ n, n = d.ss.length := ⟨_, rfl⟩
  have hmb : m ≤ 1000000 := by omega
  rw [← hm] at hw ⊢
  rw [← hsl] at hs ⊢
  have HX := Lib.hid (And.intro hm hw)
  have f0 := fp_alloc w (.cells #[.slice aw m cw, .slice at_ sl cs] TD)
  have r0 := heap_alloc_new w (.cells #[.slice aw m cw, .slice at_ sl cs] TD)
  have K0 := Lib.hid (Kp.and (Kp.fp f0) (Kp.row r0))
  clear hv hw hs hz hm hsl f0 r0
  go_enter Try.func28, Try.ntmps28
  go_wp2_with fail
  go_loopw [7] (fun i wr => ∃ k : Nat, k ≤ m ∧ i = .int .i64 k ∧ Hid (Kp (fun W' => Fp Non w W' ∧ W'.heap[w.heap.size]? = some (.cells #[.slice aw m cw, .slice at_ sl cs] TD (0, 0))) wr ∧ ∀ j (h1 : j < d.ws.length), j < k → hit s n d.ws[j] = false)) (fun i _ => m - (RowKit.intOf i).toNat)
  case atStart => exact ⟨0, Nat.zero_le _, rfl, K0.out, fun j _ h => absurd h (Nat.not_lt_zero j)⟩
  case round =>
    obtain ⟨k, hk, rfl, hR⟩ := hrel
    rename_i wr _
    obtain ⟨p0, p1⟩ := boxP2 hR.out.1.now.2
    by_cases hlt : k < m
    · have hkL : k < d.ws.length := by rw [← HX.out.1]; exact hlt
      obtain ⟨g, o, c1, e, _, _, _, hcell⟩ := HX.out.2.at (by omega)
      injection e with e1 e2 e3
      subst e1 e3
      clear e2
      have hnd := (hcell k hkL).keep hR.out.1.now.1 (fun h => h)
      have hyes : hit s n d.ws[k] = true → FiR d.ws s n w (.returned (.int .i64 k)) wr := fun h => ⟨.inr ⟨k, hkL, rfl, h⟩, hR.out.1.now.1⟩
      have hnot : hit s n d.ws[k] = false → ∀ j (h1 : j < d.ws.length), j < k + 1 → hit s n d.ws[j] = false := fun h j h1 hj => by
        rcases Nat.lt_or_eq_of_le (show j ≤ k by omega) with e | e
        · exact hR.out.2 j h1 e
        · subst e; exact h
      have HG := Lib.hid (And.intro hyes hnot)
      have HL := Lib.hid hlt
      clear hcell hyes hnot
      generalize d.ws[k] = x at *
      clear hkL
      obtain ⟨xs, xn, xp, xd⟩ := x
      have c0 := hnd.c0; have c1 := hnd.c1
      simp only at c0 c1
      have q3 : ((k : Int) < (m : Int)) = True := eq_true (by omega)
      have q4 : (k < m) = True := eq_true hlt
      clear hnd hlt
      by_cases hq : xs = s
      · by_cases hq2 : xn = n
        · have HF := Lib.hid (HG.out.1 (by simp [hit, hq, hq2]))
          subst hq hq2
          clear HG
          have q7 : (xs == xs) = true := by simp
          have q8 : (xn == xn) = true := by simp
          go_wp2
          go_ret
          exact HF.out
        · have q5 : (xs == s) = true := beq_iff_eq.2 hq
          have q6 : (xs = s) = True := eq_true hq
          have q7 : (xn == n) = false := beq_eq_false_iff_ne.2 hq2
          have q8 : (xn = n) = False := eq_false hq2
          have hM : Hid (Kp (fun W' => Fp Non w W' ∧ W'.heap[w.heap.size]? = some (.cells #[.slice (some ⟨g, o, none⟩) m cw, .slice at_ sl cs] TD (0, 0))) wr ∧ ∀ j (h1 : j < d.ws.length), j < k + 1 → hit s n d.ws[j] = false) := ⟨hR.out.1, HG.out.2 (by simp [hit, hq2])⟩
          have hkn := HL.out
          clear HG hq hq2
          go_wp2
          go_roundw
          case rel => exact ⟨k + 1, by omega, by go_num, hM⟩
          case measure => simp [RowKit.intOf]; omega
      · have q5 : (xs == s) = false := beq_eq_false_iff_ne.2 hq
        have q6 : (xs = s) = False := eq_false hq
        have hM : Hid (Kp (fun W' => Fp Non w W' ∧ W'.heap[w.heap.size]? = some (.cells #[.slice (some ⟨g, o, none⟩) m cw, .slice at_ sl cs] TD (0, 0))) wr ∧ ∀ j (h1 : j < d.ws.length), j < k + 1 → hit s n d.ws[j] = false) := ⟨hR.out.1, HG.out.2 (by simp [hit, hq])⟩
        have hkn := HL.out
        clear HG hq
        go_wp2
        go_roundw
        case rel => exact ⟨k + 1, by omega, by go_num, hM⟩
        case measure => simp [RowKit.intOf]; omega
    · have hke : k = m := by omega
      subst hke
      have q3 : ((k : Int) < (k : Int)) = False := eq_false (by omega)
      have HF := Lib.hid (show FiR d.ws s n w (.returned (.int .i64 (-1))) wr from ⟨.inl ⟨any_none (fun j hj => hR.out.2 j hj (by rw [HX.out.1]; exact hj)), rfl⟩, hR.out.1.now.1⟩)
      clear hlt hk
      go_wp2
      go_ret
      exact HF.out
end Go.Proofs.Ytjdpbieifcjmiaa

/- Small facts for the document's Take and Add (they stand in Zi and Zp too, which name what a seat of WatchPlays lacks) -/
namespace Go.Proofs.Ytjdpbieifcjmiaa
set_option maxRecDepth 20000
set_option linter.unusedVariables false
set_option linter.unusedSimpArgs false
open Go.RowKit Pm

theorem take_none {d : Wd} {q u : Int} (h : rightW d = true) (hg : getS d.ss q = none) : takeM d q u = (d, [], 62) := by
  unfold takeM; rw [h, hg]; rfl
theorem take_some {d : Wd} {q u : Int} {s : Se} (h : rightW d = true) (hg : getS d.ss q = some s) : takeM d q u = (⟨d.ws, putS d.ss ⟨s.num, s.count, cutE u s.evs⟩⟩, cutE u s.evs, 0) := by
  unfold takeM; rw [h, hg]; rfl
theorem seS_of {ss : List Se} {q : Int} {s : Se} (h : getS ss q = some s) : seS ss q = s := by unfold seS; rw [h]; rfl
theorem row_ne {w : World} {g h : Nat} {T U : TypeId} {cs : Array Value} (hg : w.heap[g]? = some (.cells #[] T (0, 0))) (hc : w.heap[h]? = some (.cells cs U (0, 0))) (hn : cs ≠ #[] ∨ U ≠ T) : h ≠ g := by
  rintro rfl
  rw [hg] at hc
  injection hc with hc
  injection hc with h1 h2
  rcases hn with hn | hn
  · exact hn h1.symm
  · exact hn h2.symm
end Go.Proofs.Ytjdpbieifcjmiaa

/- For the document's Close and Tell, plain: what is left but one watch; one watch of Tell as the document does it. Nothing of the program. -/
namespace Go.Proofs.Ytjdpbieifcjmiaa
set_option linter.unusedVariables false
set_option linter.unusedSimpArgs false
open Pm

theorem close_at {ws : List Wt} (h : RW ws) {s n : Int} {i : Nat} (hi : i < ws.length) (hh : hit s n ws[i] = true) : ws.filter (fun x => !hit s n x) = ws.take i ++ ws.drop (i + 1) := by
  have hp := List.pairwise_iff_getElem.1 h.2
  have h0 : ws[i].s = s ∧ ws[i].n = n := of_decide_eq_true hh
  have hno : ∀ j (hj : j < ws.length), j ≠ i → hit s n ws[j] = false := fun j hj hne => by
    refine decide_eq_false (fun e => ?_)
    rcases Nat.lt_or_gt_of_ne hne with hlt | hgt
    · exact hp j i hj hi hlt ⟨e.1.trans h0.1.symm, e.2.trans h0.2.symm⟩
    · exact hp i j hi hj hgt ⟨h0.1.trans e.1.symm, h0.2.trans e.2.symm⟩
  have e : ws = ws.take i ++ ws[i] :: ws.drop (i + 1) := by rw [List.getElem_cons_drop, List.take_append_drop]
  have f1 : (ws.take i).filter (fun x => !hit s n x) = ws.take i := List.filter_eq_self.2 (fun x hx => by
    obtain ⟨j, hj, rfl⟩ := List.mem_take_iff_getElem.1 hx
    rw [hno j (by omega) (by omega)]; rfl)
  have f2 : (ws.drop (i + 1)).filter (fun x => !hit s n x) = ws.drop (i + 1) := List.filter_eq_self.2 (fun x hx => by
    obtain ⟨j, hj, rfl⟩ := List.mem_iff_getElem.1 hx
    rw [List.getElem_drop, hno _ _ (by omega)]; rfl)
  have f3 : (ws.take i ++ ws[i] :: ws.drop (i + 1)).filter (fun x => !hit s n x) = ws.take i ++ ws.drop (i + 1) := by
    rw [List.filter_append, List.filter_cons, if_neg (by rw [hh]; decide), f1, f2]
  rw [← e] at f3
  exact f3

/-- One watch, as the document tells it. -/
def rst (kind : Int) (p : Bs) (a : List Wt × List Se) (x : Wt) : List Wt × List Se :=
  if ofCh p x then
    (if x.d = true ∧ (seS a.2 x.s).evs.length < 7 then a.1 ++ [x] else a.1,
     if (seS a.2 x.s).evs.length < 8 ∧ (seS a.2 x.s).count < mxN then
       putS a.2 ⟨(seS a.2 x.s).num, (seS a.2 x.s).count + 1, (seS a.2 x.s).evs ++ [if (seS a.2 x.s).evs.length = 7 then ⟨(seS a.2 x.s).count + 1, 4, x.p, x.n⟩ else ⟨(seS a.2 x.s).count + 1, kind, p, x.n⟩]⟩
     else a.2)
  else (a.1 ++ [x], a.2)
theorem put_same {ss : List Se} (h : RS ss) (n : Int) (hn : (seS ss n).evs.length = 8 ∨ (seS ss n).count = mxN) : putS ss (seS ss n) = ss := by
  unfold seS at hn ⊢
  cases hg : getS ss n with
  | none =>
    rw [hg] at hn
    rcases hn with hn | hn
    · exact absurd hn (by simp)
    · exact absurd hn (by simp [mxN])
  | some s => exact putS_self h.2 (getS_some hg).1
theorem rst_tst (kind : Int) (p : Bs) (a : List Wt × List Se) (x : Wt) (h : RS a.2) (hx : rWt x = true) : rst kind p a x = tst kind p a x := by
  have hse := (rSe_iff _).1 (seS_right h ((rWt_iff x).1 hx).1)
  have h8 := hse.2.1.2.2.1
  have hm := hse.2.1.2.1
  have hps := put_same h x.s
  unfold rst tst
  split
  · generalize seS a.2 x.s = s at *
    unfold ntf
    by_cases e8 : s.evs.length = 8
    · simp [e8, hps (.inl e8)]
    · by_cases e7 : s.evs.length = 7
      · by_cases em : s.count = mxN
        · simp [e7, awt, em, hps (.inr em)]
        · have : s.count < mxN := by omega
          simp [e7, awt, em, this]
      · have l7 : s.evs.length < 7 := by omega
        have l8 : s.evs.length < 8 := by omega
        by_cases em : s.count = mxN
        · simp [e7, e8, l7, l8, awt, em, hps (.inr em)]
        · have : s.count < mxN := by omega
          simp [e7, e8, l7, l8, awt, em, this]
  · rfl
end Go.Proofs.Ytjdpbieifcjmiaa

/- Great (gen_zl.py) -/
namespace Go.Proofs.Ytjdpbieifcjmiaa
set_option maxRecDepth 20000
set_option linter.unusedVariables false
set_option linter.unusedSimpArgs false
open Go.RowKit Pm


structure Gr9 (l : List O9) (w : World) (k : Nat) (N : Int) (wr : World) : Prop where
  fp : Fp Non w wr
  lo : (l.length : Int) ≤ N
  eq : ∀ j (h : j < l.length), j < k → (min (l[j].x.p.length : Int) 4000 ≤ N ∧ min (l[j].p.length : Int) 4000 ≤ N)
theorem min4 (a : Nat) : (0 : Int) ≤ min (a : Int) 4000 ∧ min (a : Int) 4000 ≤ 4000 := by omega
theorem Gr9.next {l : List O9} {w wr wr' : World} {k : Nat} {N : Int} (h : Gr9 l w k N wr) (f : Fp Non wr wr') (hk : k < l.length) :
    Gr9 l w (k + 1) (N + min (l[k].x.p.length : Int) 4000 + min (l[k].p.length : Int) 4000) wr' := by
  have hN : 0 ≤ N := by have := h.lo; omega
  have m1 := min4 l[k].x.p.length
  have m2 := min4 l[k].p.length
  refine ⟨h.fp.then f, by have := h.lo; omega, fun j hj hjk => ?_⟩
  rcases Nat.lt_or_eq_of_le (show j ≤ k by omega) with e | e
  · have := h.eq j hj e
    omega
  · subst e
    omega
def Few9 (l : List O9) : Prop := l.length ≤ 200 ∧ ∀ o ∈ l, o.x.p.length ≤ 4000 ∧ o.p.length ≤ 4000
theorem Gr9.few {l : List O9} {w wr : World} {k : Nat} {N : Int} (h : Gr9 l w k N wr) (hk : k = l.length) (hN : N < 4000) (hl : l.length ≤ 200) : Few9 l := by
  refine ⟨hl, fun x hx => ?_⟩
  obtain ⟨j, hj, rfl⟩ := List.getElem_of_mem hx
  have := h.eq j hj (by omega)
  omega

set_option maxHeartbeats 6000000 in
theorem Great_c (v : Value) (l : List O9) (w : World) (hv : Ops w v l) :
    Calls Try.prog 5 #[v] w fun e w' => ∃ g : Bool, e = .returned (.bool g) ∧ (g = false → Few9 l) ∧ Fp Non w w' := by
  obtain ⟨ao, cap, rfl⟩ := hv.shape
  obtain ⟨n, hnn⟩ : ∃ n, n = l.length := ⟨_, rfl⟩
  have HX := Lib.hid (And.intro hnn hv)
  rw [← hnn]
  clear hv hnn
  go_enter Try.func5, Try.ntmps5
  go_wp2_with fail
  go_loopw [3, 4] (fun m i wr => ∃ k : Nat, k ≤ n ∧ i = .int .i64 k ∧ ∃ N : Int, m = .int .i64 N ∧ ((n : Int) ≤ N) ∧ Hid (Gr9 l w k N wr)) (fun _ i _ => n - (RowKit.intOf i).toNat)
  case atStart => exact ⟨0, Nat.zero_le _, rfl, (n : Int), rfl, by omega, ⟨Fp.refl _ _, by rw [HX.out.1]; exact Int.le_refl _, fun j _ h => absurd h (Nat.not_lt_zero j)⟩⟩
  case round =>
    obtain ⟨k, hk, rfl, N, rfl, hN, hR⟩ := hrel
    rename_i wr _
    by_cases hlt : k < n
    · have hkl : k < l.length := by rw [← HX.out.1]; exact hlt
      have q3 : ((k : Int) < (n : Int)) = True := eq_true (by omega)
      have q4 : (k < n) = True := eq_true hlt
      by_cases hN5 : N < 4000
      · have q5 : (N < 4000) = True := eq_true hN5
        obtain ⟨g, o, cap', e, hcell⟩ := HX.out.2.at (by omega)
        injection e with e1 e2 e3
        subst e1 e3
        have hnd := (hcell k hkl).keep hR.out.fp (fun h => h)
        have hnx := fun wr' f => hR.out.next (wr' := wr') f hkl
        have HNX := Lib.hid hnx
        have HL := Lib.hid (And.intro hlt hN5)
        have hnb : n < 4000 := by omega
        have hN6 : 0 ≤ N ∧ N ≤ 4000 := by omega
        clear hnx hlt hN5 hcell
        generalize l[k] = x at *
        clear hkl
        have c3 := hnd.c3; have c6 := hnd.c6
        unfold strV at c3 c6
        have HB := Lib.hid (And.intro (min4 x.x.p.length) (min4 x.p.length))
        clear hnd
        go_wp2_with fail
        go_quiet (fail)
        go_wp2_with fail
        have hb := HB.out
        have hj := HL.out
        refine ⟨⟨k + 1, by omega, by go_num, _, rfl, by omega, HNX.out _ ((Fp.refl _ _).drewN _)⟩, ?_⟩
        simp [RowKit.intOf]; omega
      · have q5 : (N < 4000) = False := eq_false hN5
        have q6 : ((4000 : Int) ≤ N) = True := eq_true (by omega)
        clear hN5 hkl hlt
        go_wp2
        go_ret
        exact ⟨true, rfl, fun h => by simp at h, hR.out.fp⟩
    · have hke : k = n := by omega
      subst hke
      have q3 : ((k : Int) < (k : Int)) = False := eq_false (by omega)
      by_cases hN5 : N < 4000
      · have q6 : ((4000 : Int) ≤ N) = False := eq_false (by omega)
        by_cases h2 : 200 < k
        · have q7 : (200 < k) = True := eq_true h2
          have q8 : ((200 : Int) < (k : Int)) = True := eq_true (by omega)
          clear hN5 hlt hk h2
          go_wp2
          go_ret
          exact ⟨true, rfl, fun h => by simp at h, hR.out.fp⟩
        · have q7 : (200 < k) = False := eq_false h2
          have q8 : ((200 : Int) < (k : Int)) = False := eq_false (by omega)
          have hfw := hR.out.few HX.out.1 hN5 (by have := HX.out.1; omega)
          have HFW := Lib.hid hfw
          clear hfw hN5 hlt hk h2
          go_wp2
          go_ret
          exact ⟨false, rfl, fun _ => HFW.out, hR.out.fp⟩
      · have q6 : ((4000 : Int) ≤ N) = True := eq_true (by omega)
        clear hN5 hlt hk
        go_wp2
        go_ret
        exact ⟨true, rfl, fun h => by simp at h, hR.out.fp⟩
end Go.Proofs.Ytjdpbieifcjmiaa

/- Plain: what the document's put makes; an append of a session. -/
namespace Go.Proofs.Ytjdpbieifcjmiaa
set_option maxRecDepth 20000
set_option linter.unusedVariables false
set_option linter.unusedSimpArgs false
open Go.RowKit Pm

/-- A round of put: what is out so far, and whether the session is in it. -/
def stp (s : Sv) (a : List Sv × Bool) (x : Sv) : List Sv × Bool :=
  ((a.1 ++ if a.2 = false ∧ s.s.num ≤ x.s.num then [s] else []) ++ (if x.s.num ≠ s.s.num then [x] else []), a.2 || decide (s.s.num ≤ x.s.num))
def fin9 (s : Sv) (a : List Sv × Bool) : List Sv := if a.2 = true then a.1 else a.1 ++ [s]
theorem fold_true (s : Sv) (r : List Sv) : ∀ a : List Sv, (∀ x ∈ r, s.s.num < x.s.num) → r.foldl (stp s) (a, true) = (a ++ r, true) := by
  induction r with
  | nil => intro a _; simp
  | cons x r ih =>
    intro a h
    have hx := h x (List.mem_cons_self ..)
    rw [List.foldl_cons, show stp s (a, true) x = (a ++ [x], true) from by unfold stp; simp; omega, ih _ (fun y hy => h y (List.mem_cons_of_mem _ hy))]
    simp
theorem fold_put (s : Sv) (l : List Sv) : ∀ a : List Sv, (l.map Sv.s).Pairwise (fun a b => a.num < b.num) → (fin9 s (l.foldl (stp s) (a, false))).map Sv.s = a.map Sv.s ++ putS (l.map Sv.s) s.s := by
  induction l with
  | nil => intro a _; simp [fin9, putS]
  | cons x r ih =>
    intro a h
    rw [List.map_cons, List.pairwise_cons] at h
    rw [List.foldl_cons, List.map_cons]
    have hgt : ∀ y ∈ r, x.s.num < y.s.num := fun y hy => h.1 y.s (List.mem_map_of_mem hy)
    by_cases h1 : x.s.num < s.s.num
    · rw [show stp s (a, false) x = (a ++ [x], false) from by
        unfold stp
        have e1 : ¬ s.s.num ≤ x.s.num := by omega
        have e2 : x.s.num ≠ s.s.num := by omega
        simp [e1, e2], ih _ h.2]
      simp only [putS, if_pos h1, List.map_append, List.map_cons, List.map_nil, List.append_assoc, List.singleton_append]
    · by_cases h2 : x.s.num = s.s.num
      · rw [show stp s (a, false) x = (a ++ [s], true) from by unfold stp; simp [h2], fold_true s r _ (fun y hy => by have := hgt y hy; omega)]
        simp [fin9, putS, h2]
      · rw [show stp s (a, false) x = (a ++ [s] ++ [x], true) from by
          unfold stp
          have e1 : s.s.num ≤ x.s.num := by omega
          simp [e1, h2], fold_true s r _ (fun y hy => by have := hgt y hy; omega)]
        simp [fin9, putS, h1, h2]
theorem stp_len (s : Sv) (l : List Sv) (k : Nat) (hk : k ≤ l.length) : ((l.take k).foldl (stp s) ([], false)).1.length ≤ 2 * k := by
  induction k with
  | zero => simp
  | succ k ih =>
    rw [List.take_succ_eq_append_getElem (by omega), List.foldl_append]
    have := ih (by omega)
    generalize (l.take k).foldl (stp s) ([], false) = a at *
    simp only [List.foldl_cons, List.foldl_nil, stp]
    split <;> split <;> simp <;> omega
theorem stp_next (s : Sv) (l : List Sv) (k : Nat) (hk : k < l.length) : (l.take (k + 1)).foldl (stp s) ([], false) = stp s ((l.take k).foldl (stp s) ([], false)) l[k] := by
  rw [List.take_succ_eq_append_getElem hk, List.foldl_append]; rfl
theorem stp_mem (s : Sv) (l : List Sv) : ∀ a : List Sv × Bool, ∀ y ∈ (l.foldl (stp s) a).1, y ∈ a.1 ∨ y = s ∨ y ∈ l := by
  induction l with
  | nil => intro a y hy; exact .inl hy
  | cons x r ih =>
    intro a y hy
    rcases ih _ y hy with h | h | h
    · unfold stp at h
      simp only [List.mem_append] at h
      rcases h with (h | h) | h
      · exact .inl h
      · split at h
        · exact .inr (.inl (by simpa using h))
        · cases h
      · split at h
        · exact .inr (.inr (by have : y = x := by simpa using h
                               rw [this]; exact List.mem_cons_self ..))
        · cases h
    · exact .inr (.inl h)
    · exact .inr (.inr (List.mem_cons_of_mem _ h))
theorem app_sv (w : World) (lo : Nat) (v : Value) (l : List Sv) (x : Sv) (ty : TypeId) (ho : OwV lo w v l) (hn : l.length ≤ 50000) (hlo : lo ≤ w.heap.size) :
    ∃ v' w', (Builtin.append_ #[TLV, TLV] ty #[v, .slice (some ⟨w.heap.size, 0, none⟩) 1 1]).run Try.prog (w.alloc (.cells #[.int .i64 x.s.num, .int .i64 x.s.count, x.ev] TV)) = .ok v' w' ∧ OwV lo w' v' (l ++ [x]) ∧ Fp (fun k => v.ownBlock = some k) w w' := by
  have hf := fp_alloc w (.cells #[.int .i64 x.s.num, .int .i64 x.s.count, x.ev] TV)
  have hb := heap_alloc_new w (.cells #[.int .i64 x.s.num, .int .i64 x.s.count, x.ev] TV)
  generalize (w.alloc (.cells #[.int .i64 x.s.num, .int .i64 x.s.count, x.ev] TV)) = W at *
  obtain ⟨v', w', hr, h1, h2, h3⟩ := app_ownV W lo v l [x] ty ⟨w.heap.size, 0, none⟩ 1 1 (ho.non hf) rfl (fun i hi j u hu => by
    have hi0 : i = 0 := by simp at hi; omega
    subst hi0
    rw [Addr.add_lit, cell_of_row _ _ _ _ _ _ hb]
    rw [show 0 + (0 * 3 + j) = j from by omega]
    simpa [svC] using hu) (by simp; omega) (Nat.le_trans hlo hf.size)
  exact ⟨v', w', hr, h1, (hf.any).same ((Fp.refl _ _).grown h2 (fun k hk => .inl hk))⟩
end Go.Proofs.Ytjdpbieifcjmiaa

