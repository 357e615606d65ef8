/- Plain: one watch alone; memory: a box of two slices that is written. -/
import Derived.Test.YtjdpbieifcjmiaaZe
namespace Go.Proofs.Ytjdpbieifcjmiaa
set_option maxRecDepth 20000
set_option linter.unusedVariables false
set_option linter.unusedSimpArgs false
open Go.RowKit Pm

def oE (x : Wt) : Ev := ⟨1, 3, x.p, x.n⟩
def oA (x : Wt) : Wd := ⟨[x], [⟨x.s, 0, []⟩]⟩
def oB (x : Wt) : Wd := ⟨[], [⟨x.s, 1, [oE x]⟩]⟩
def oS (x : Wt) (hb : Bool) : Wd := if hb = true then oB x else oA x
theorem one_right {x : Wt} {s : Se} (ws : List Wt) (hw : ws = [x] ∨ ws = []) (hx : rWt x = true) (hs : rSe s = true) : rightW ⟨ws, [s]⟩ = true := by
  rw [right_iff]
  refine ⟨by rcases hw with rfl | rfl <;> simp, ?_, ?_⟩
  · rcases hw with rfl | rfl
    · exact ⟨by simpa using hx, by simp⟩
    · exact ⟨by simp, by simp⟩
  · exact ⟨by simpa using hs, by simp⟩
theorem oB_se {x : Wt} (hx : rWt x = true) : rSe ⟨x.s, 1, [oE x]⟩ = true := by
  obtain ⟨h1, h2, h3⟩ := (rWt_iff x).1 hx
  rw [rSe_iff]
  refine ⟨h1, by unfold mxN; simp, fun i hi => ?_⟩
  have : i = 0 := by simpa using hi
  subst this
  simp [rEv, oE, h2, h3]
theorem once_right {x : Wt} (hx : rWt x = true) (hb : Bool) : rightW (oS x hb) = true := by
  cases hb
  · exact one_right _ (.inl rfl) hx (rSe_new ((rWt_iff x).1 hx).1)
  · exact one_right _ (.inr rfl) hx (oB_se hx)
theorem one_add (x : Wt) : addM ⟨[], []⟩ x = if rWt x = true then (oA x, 0) else (⟨[], []⟩, 1) := by
  unfold addM
  rw [nil_right]
  simp only [true_and, List.any_nil, List.length_nil]
  split
  · simp [oA, putS, seS, getS]
  · rfl
theorem once_tell {x : Wt} (hx : rWt x = true) (hd : x.d = false) (hb : Bool) (p : Bs) : tellM (oS x hb) 3 p = if (split p).isSome = true then (oS x (hb || decide (p = x.p)), 0) else (⟨[], []⟩, 1) := by
  unfold tellM
  rw [once_right hx hb]
  simp only [true_and, show (1 : Int) ≤ 3 ∧ (3 : Int) ≤ 3 from by decide]
  split
  · cases hb
    · simp only [Bool.false_or]
      by_cases h : p = x.p
      · subst h
        simp [oS, oA, oB, tellL, tst, ofCh, ntf, awt, seS, getS, putS, hd, oE, mxN]
      · have : ¬ x.p = p := fun e => h e.symm
        simp [oS, oA, oB, tellL, tst, ofCh, hd, h, this]
    · simp [oS, oB, tellL]
  · rfl
theorem once_take {x : Wt} (hx : rWt x = true) (hb : Bool) : takeM (oS x hb) x.s 0 = (oS x hb, if hb = true then [oE x] else [], 0) := by
  unfold takeM
  rw [once_right hx hb]
  cases hb <;> simp [oS, oA, oB, getS, cutE, putS, oE]

/-- Watched don't lie in a box of slices. -/
theorem slot_ne {w : World} {b : Nat} {a a2 : Option Addr} {m c m2 c2 : Nat} {T : TypeId} (h : w.heap[b]? = some (.cells #[.slice a m c, .slice a2 m2 c2] T (0, 0))) {g o : Nat} {z : Int} (hc : w.cell? ⟨g, o, none⟩ = some (.int .i64 z)) : g ≠ b := by
  rintro rfl
  rw [cell_of_row _ _ _ _ _ _ h] at hc
  rcases o with _ | _ | o <;> simp at hc
theorem slot_ne2 {w : World} {b : Nat} {a a2 : Option Addr} {m c m2 c2 : Nat} {T : TypeId} (h : w.heap[b]? = some (.cells #[.slice a m c, .slice a2 m2 c2] T (0, 0))) {g o : Nat} {s : ByteArray} (hc : w.cell? ⟨g, o, none⟩ = some (.string s)) : g ≠ b := by
  rintro rfl
  rw [cell_of_row _ _ _ _ _ _ h] at hc
  rcases o with _ | _ | o <;> simp at hc
theorem WdR.off {w w' : World} {v : Value} {d : Wd} {b : Nat} {a a2 : Option Addr} {m c m2 c2 : Nat} {T : TypeId} (h : WdR w v d) (hb : w.heap[b]? = some (.cells #[.slice a m c, .slice a2 m2 c2] T (0, 0))) (f : Fp (fun k => k = b) w w') : WdR w' v d := by
  obtain ⟨vw, vs, rfl, h1, L, h2, h3, h4⟩ := h.ex
  have k1 : ∀ {v l}, NsW w v l → NsW w' v l := by
    intro v l h
    obtain ⟨ao, cap, rfl, k1, k2, k3⟩ := h.ex
    refine ⟨ao, cap, rfl, k1, k2, ?_⟩
    rcases k3 with k3 | ⟨g, o, rfl, hg, hc⟩
    · exact .inl k3
    · refine .inr ⟨g, o, rfl, Nat.lt_of_lt_of_le hg f.size, fun i hi => (hc i hi).keep f (slot_ne hb (hc i hi).c0)⟩
  have k2 : ∀ {v l}, NsV w v l → NsV w' v l := by
    intro v l h
    obtain ⟨ao, cap, rfl, k1, k2, k3⟩ := h.ex
    refine ⟨ao, cap, rfl, k1, k2, ?_⟩
    rcases k3 with k3 | ⟨g, o, rfl, hg, hc⟩
    · exact .inl k3
    · refine .inr ⟨g, o, rfl, Nat.lt_of_lt_of_le hg f.size, fun i hi => (hc i hi).keep f (slot_ne hb (hc i hi).c0)⟩
  have k3 : ∀ {v l}, NsE w v l → NsE w' v l := by
    intro v l h
    obtain ⟨ao, cap, rfl, k1, k2, k3⟩ := h.ex
    refine ⟨ao, cap, rfl, k1, k2, ?_⟩
    rcases k3 with k3 | ⟨g, o, rfl, hg, hc⟩
    · exact .inl k3
    · refine .inr ⟨g, o, rfl, Nat.lt_of_lt_of_le hg f.size, fun i hi => (hc i hi).keep f (slot_ne hb (hc i hi).c0)⟩
  exact ⟨vw, vs, rfl, k1 h1, L, h2, k2 h3, fun x hx => k3 (h4 x hx)⟩
theorem RetW.bx {d : Wd} {err : Int} {w : World} {e : Ending} {w' : World} (h : RetW d err w e w') : ∃ a m c a2 m2 c2, e = .returned (.tuple #[.agg #[.slice a m c, .slice a2 m2 c2], .int .i64 err]) ∧ m = d.ws.length ∧ m2 = d.ss.length ∧ WdR w' (.agg #[.slice a m c, .slice a2 m2 c2]) d := by
  obtain ⟨a, c, a2, c2, he, hw⟩ := h.wd
  exact ⟨a, _, c, a2, _, c2, he, rfl, rfl, hw⟩
theorem RetT.bx {d : Wd} {es : List Ev} {err : Int} {w : World} {e : Ending} {w' : World} (h : RetT d es err w e w') : ∃ a m c a2 m2 c2 a3 n3 c3, e = .returned (.tuple #[.agg #[.slice a m c, .slice a2 m2 c2], .slice a3 n3 c3, .int .i64 err]) ∧ m = d.ws.length ∧ m2 = d.ss.length ∧ n3 = es.length ∧ WdR w' (.agg #[.slice a m c, .slice a2 m2 c2]) d ∧ NsE w' (.slice a3 n3 c3) es := by
  obtain ⟨a, c, a2, c2, a3, c3, he, hw, hn⟩ := h.wd
  exact ⟨a, _, c, a2, _, c2, a3, _, c3, he, rfl, rfl, rfl, hw, hn⟩
theorem WdR.vals {w : World} {v : Value} {d : Wd} (h : WdR w v d) : ∃ a c a2 c2, v = .agg #[.slice a d.ws.length c, .slice a2 d.ss.length c2] := by
  obtain ⟨vw, vs, rfl, h1, h2⟩ := h.ex
  obtain ⟨a, c, rfl⟩ := h1.shape
  obtain ⟨a2, c2, rfl⟩ := h2.shape
  exact ⟨a, c, a2, c2, rfl⟩
end Go.Proofs.Ytjdpbieifcjmiaa
