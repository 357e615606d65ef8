/- The arguments of the laws of layer 14: mounts (gen_bl.py, out of owned/XOv). -/
import Derived.Test.YtajgjhkienhpjaaBl
import Derived.ProofKit
import Derived.OpenShut
import Derived.Deep.Strs
import Derived.Deep.Grids
import Derived.ChangeSlices
namespace Go.Proofs.Ytajgjhkienhpjaa
set_option maxRecDepth 20000
set_option linter.unusedVariables false
set_option linter.unusedSimpArgs false
open Go.ChangeShapes Go.WideShapes Go.ChangeAt Go.RowKit Pm Go.Deep
open Go.WideMaps Go.WideElems
open Go.ChangeMaps (setBlock shut_map_nil open_string shut_string)

theorem spot_none {w : World} {a : Addr} {v : Value} (h : w.cell? a = some v) : ∃ g o, a = ⟨g, o, none⟩ := by
  obtain ⟨g, o, spot⟩ := a
  have hs : spot = none := World.cell?_spot h
  exact ⟨g, o, by rw [hs]⟩
theorem Try.cellsopen_mounts : Try.prog.cellsOf 27 = 4 := by kernel_rfl
theorem Try.cellsopen_texts : Try.prog.cellsOf 9 = 1 := by kernel_rfl
theorem Try.bytesHl : Try.prog.bytesOf 27 = 40 := by kernel_rfl
theorem Try.bytesTx : Try.prog.bytesOf 9 = 16 := by kernel_rfl
theorem Try.cellsStr : Try.prog.cellsOf 9 = 1 := by kernel_rfl
theorem Try.cellsInt : Try.prog.cellsOf 3 = 1 := by kernel_rfl
theorem Try.cellsI64 : Try.prog.cellsOf 2 = 1 := by kernel_rfl
section
variable {H : Type} {enc : TypeId × Value → H} {W : World}

theorem hl_of {n : Nat} {cs : List Value} {y : DataW H × List MemPlace} (hlen : cs.length = 4) (h : DataW.trod enc Try.prog W 0 (fun _ => true) true n 27 cs = some y) :
    ∃ x : Mt, cs = mtC x := by
  obtain ⟨xs, k, hk, hxy, _, hxl, hf⟩ := DataW.trod_struct Try.underlying27 h
  match xs, hxl, cs, hlen with
  | [y0, y1, y2, y3], _, [v0, v1, v2, v3], _ =>
    have g0 := hf 0 _ rfl
    have g1 := hf 1 _ rfl
    have g2 := hf 2 _ rfl
    have g3 := hf 3 _ rfl
    simp [Try.cellsStr] at g0
    simp [Try.cellsInt] at g1
    simp [Try.cellsI64] at g2
    simp [Try.cellsInt] at g3
    obtain ⟨z0, e0, _, h0⟩ := DataW.trod_string Try.underlying9 g0
    obtain ⟨z1, e1, _, _⟩ := DataW.trod_int Try.underlying3 g1
    obtain ⟨z2, e2, _, _⟩ := DataW.trod_int Try.underlying2 g2
    obtain ⟨z3, e3, _, _⟩ := DataW.trod_int Try.underlying3 g3
    simp only [List.cons.injEq, and_true] at e0 e1 e2 e3
    subst e0 e1 e2 e3
    refine ⟨⟨z0.data.toList, z1, z2, z3⟩, ?_⟩
    unfold mtC strV; rw [← B_of]

/-- []canton/api.Range, opened. -/
theorem open_mounts {v : Value} {d : DataW H} {p : List MemPlace} {base : Nat} (hv : Value.okWide Try.prog W .any base 22 v) (h : DataW.Trod enc Try.prog W 0 (fun _ => true) true 22 v d p) (hsz : ∀ n ∈ d.weights Try.prog 22, n ≤ reachBytes) :
    ∃ l, NsM W v l ∧ l.length ≤ 140737488355328 ∧ ∀ a n c, v = .slice a n c → n ≤ c ∧ c ≤ maxLen := by
  obtain ⟨a0, len0, cap0, rfl⟩ := okWide_slice Try.underlying22 hv
  obtain ⟨fuel, hf⟩ := h
  have hf : DataW.trod enc Try.prog W 0 (fun _ => true) true fuel 22 [.slice a0 len0 cap0] = some (d, p) := by simpa [Value.cells] using hf
  generalize (Value.slice a0 len0 cap0) = v at *
  rcases open_slice Try.underlying22 hf with ⟨hcs, hx⟩ | ⟨a, len, cap, m, n, D, Pl, hcs, _, hl, hm, hmm, hx, hel⟩
  · simp only [List.cons.injEq, and_true] at hcs
    subst hcs
    exact ⟨[], NsM.nil W, Nat.zero_le _, fun a n c e => by injection e with e1 e2 e3; subst e2 e3; exact ⟨Nat.le_refl _, by unfold maxLen; omega⟩⟩
  · simp only [List.cons.injEq, and_true] at hcs
    subst hcs
    simp only [if_true] at hmm
    subst hmm
    have hlb : len ≤ 140737488355328 := by
      have hx' := congrArg Prod.fst hx
      simp only at hx'
      rw [hx'] at hsz
      simp only [DataW.weights, Try.underlying22] at hsz
      have := hsz _ (List.mem_cons_self ..)
      rw [Try.bytesHl] at this
      simp only [List.length_map, List.length_range, reachBytes] at this
      omega
    have each : ∀ i, i < len → ∃ x : Mt, (∀ j (hj : j < 4), W.cell? (a.add (i * 4 + j)) = (mtC x)[j]?) := by
      intro i hi
      obtain ⟨cs', h1, h2⟩ := hel i (by omega)
      rw [Try.cellsopen_mounts] at h1
      obtain ⟨_, hlen, hcell⟩ := World.cells?_some h1
      obtain ⟨x, rfl⟩ := hl_of hlen h2
      refine ⟨x, fun j hj => ?_⟩
      have := hcell j (by omega)
      rw [add_add] at this
      exact this
    obtain ⟨f, hfi⟩ : ∃ f : Nat → Mt, ∀ i, i < len → (∀ j (hj : j < 4), W.cell? (a.add (i * 4 + j)) = (mtC (f i))[j]?) := by
      haveI : Inhabited Mt := ⟨⟨[], 0, 0, 0⟩⟩
      exact choose_lt each
    have hlen : ((List.range len).map f).length = len := by simp
    by_cases h0 : len = 0
    · subst h0
      exact ⟨[], ⟨some a, m, rfl, by simp, hm, .inl rfl⟩, Nat.zero_le _, fun a n c e => by injection e with e1 e2 e3; subst e2 e3; exact ⟨by omega, hm⟩⟩
    · have hc0 := hfi 0 (by omega) 0 (by omega)
      have hc0 : W.cell? a = some (strV (f 0).d) := by simpa [Addr.add, mtC] using hc0
      have hlt := World.block_lt_of_cell? W a hc0
      obtain ⟨g, o, rfl⟩ := spot_none hc0
      refine ⟨(List.range len).map f, ⟨some ⟨g, o, none⟩, m, by rw [hlen], by rw [hlen]; exact hl, hm, .inr ⟨g, o, rfl, hlt, fun i hi => ?_⟩⟩, by rw [hlen]; exact hlb, fun a n c e => by injection e with e1 e2 e3; subst e2 e3; exact ⟨hl, hm⟩⟩
      · rw [hlen] at hi
        have k1 := hfi i (by omega)
        simp only [List.getElem_map, List.getElem_range]
        have q0 := k1 0 (by omega)
        have q1 := k1 1 (by omega)
        have q2 := k1 2 (by omega)
        have q3 := k1 3 (by omega)
        rw [Addr.add_lit] at q0 q1 q2 q3
        exact ⟨by simpa [mtC] using q0, by simpa [Nat.add_assoc, mtC] using q1, by simpa [Nat.add_assoc, mtC] using q2, by simpa [Nat.add_assoc, mtC] using q3⟩
end
end Go.Proofs.Ytajgjhkienhpjaa
