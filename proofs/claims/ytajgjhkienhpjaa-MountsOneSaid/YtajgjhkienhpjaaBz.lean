/- Short words for the walk of a region that draws its order, by hand. -/
import Derived.Test.YtajgjhkienhpjaaBm
import Derived.Deep.RegionHeld
namespace Go.Proofs.Ytajgjhkienhpjaa
set_option maxRecDepth 20000
open Go.RowKit

theorem zA {α : Type _} {xs : List α} {i : Nat} : xs.toArray[i]? = xs[i]? := List.getElem?_toArray
theorem zB {α : Type _} {a : α} {l : List α} : (a :: l)[0]? = some a := rfl
theorem zC {α : Type _} {a : α} {l : List α} {i : Nat} : (a :: l)[i + 1]? = l[i]? := rfl
theorem zP (a : Act) (i : Tmp) (v : Value) : a.put (some i) v = { a with tmps := a.tmps.setIfInBounds i v } := rfl
theorem zN (a : Act) (v : Value) : a.put none v = a := rfl
theorem zS {α : Type _} {l : List α} {i : Nat} {a : α} : l.toArray.setIfInBounds i a = (l.set i a).toArray := by simp
theorem zT {α : Type _} {b a : α} {l : List α} : (b :: l).set 0 a = a :: l := rfl
theorem zU {α : Type _} {b a : α} {l : List α} {i : Nat} : (b :: l).set (i + 1) a = b :: l.set i a := rfl

theorem zz : (∀ (a : Act) (i : Tmp) (v : Value), a.put (some i) v = { a with tmps := a.tmps.setIfInBounds i v }) ∧ (∀ (a : Act) (v : Value), a.put none v = a) ∧ (∀ {α : Type} {l : List α} {i : Nat} {a : α}, l.toArray.setIfInBounds i a = (l.set i a).toArray) ∧ (∀ {α : Type} {b a : α} {l : List α}, (b :: l).set 0 a = a :: l) ∧ (∀ {α : Type} {b a : α} {l : List α} {i : Nat}, (b :: l).set (i + 1) a = b :: l.set i a) :=
  ⟨zP, zN, zS, zT, zU⟩
theorem zI {p : Prop} (h : p) : Hid p := Lib.hid h
theorem yI {a b : Prop} (h : a) (g : b) : a ∧ b := And.intro h g
section
variable {P : Program} {ops : Array Oper} {Q : Exit → Act → World → Prop} {md : Region.Mode} {S : World → Prop}
theorem b5 {w : World} {b : Nat} {T : TypeId} {c0 c1 c2 c3 c4 : Value} (h : w.heap[b]? = some (.cells #[c0, c1, c2, c3, c4] T (0, 0))) :
    w.cell? ⟨b, 0, none⟩ = some c0 ∧ w.cell? ⟨b, 1, none⟩ = some c1 ∧ w.cell? ⟨b, 2, none⟩ = some c2 ∧ w.cell? ⟨b, 3, none⟩ = some c3 ∧ w.cell? ⟨b, 4, none⟩ = some c4 :=
  ⟨by rw [cell_of_row _ _ _ _ _ _ h]; rfl, by rw [cell_of_row _ _ _ _ _ _ h]; rfl, by rw [cell_of_row _ _ _ _ _ _ h]; rfl, by rw [cell_of_row _ _ _ _ _ _ h]; rfl, by rw [cell_of_row _ _ _ _ _ _ h]; rfl⟩
/-- Operation i is taken first: what it yields hangs on S alone. -/
theorem tk (i : Nat) {oi : Oper} {v : Value} {fuel : Nat} {listed : Array Bool} {a a' : Act} {w : World} (hS : S w) (k : wpAnyH P md ops Q S fuel (listed.setIfInBounds i true) a' w) (hi : ops[i]? = some oi := by simp only [zA, zB, zC] <;> exact rfl)
    (y : ∀ w, S w → (execOp a.eval oi).run P w = .ok (.value v) w := by intro w; (try dsimp only); (try simp only [and_imp]); intros; go_simp; try with_reducible rfl)
    (ha : a.put oi.dst v = a' := by simp only [zP, zN, zS, zT, zU] <;> exact rfl)
    (hs : Region.noSelect ops = true := by kernel_rfl) (hf : Region.free md ops listed i = true := by kernel_rfl) (hr : (Region.ready md ops listed).contains i = true := by kernel_rfl)
    (hq : ∀ c a w, Q (.panic c) (a.put oi.dst v) w → Q (.panic c) a w := by exact fun _ _ _ h => h) (hw : Region.wanted oi (yielded ops a.tmps) = true := by rfl) :
    wpAnyH P md ops Q S (fuel + 1) listed a w := by subst ha; exact wpAnyH_take hi hs hf hr hq (.inl ⟨hw, y⟩) hS k
/-- Operation i isn't wanted. -/
theorem sk (i : Nat) {oi : Oper} {fuel : Nat} {listed : Array Bool} {a a' : Act} {w : World} (hS : S w)
    (k : wpAnyH P md ops Q S fuel (listed.setIfInBounds i true) a' w) (hi : ops[i]? = some oi := by simp only [zA, zB, zC] <;> exact rfl)
    (ha : a.put oi.dst undef = a' := by simp only [zP, zN, zS, zT, zU] <;> exact rfl)
    (hs : Region.noSelect ops = true := by kernel_rfl) (hf : Region.free md ops listed i = true := by kernel_rfl) (hr : (Region.ready md ops listed).contains i = true := by kernel_rfl)
    (hq : ∀ c a w, Q (.panic c) (a.put oi.dst undef) w → Q (.panic c) a w := by exact fun _ _ _ h => h) (hw : Region.wanted oi (yielded ops a.tmps) = false := by rfl) :
    wpAnyH P md ops Q S (fuel + 1) listed a w := by subst ha; exact wpAnyH_take hi hs hf hr hq (.inr ⟨hw, rfl⟩) hS k
/-- Operation i alone is ready. -/
theorem rY (i : Nat) {o : Oper} {fuel : Nat} {listed : Array Bool} {a : Act} {w : World}
    (h : ∀ K' : Act → World → Prop, Shut (∀ a w, S w → (S w → wpAnyH P md ops Q S fuel (listed.setIfInBounds i true) a w) → K' a w) → if Region.wanted o (yielded ops a.tmps) = true then Oper.wp P o a w K' Q else K' (a.put o.dst undef) w)
    (ho : ops[i]? = some o := by simp only [zA, zB, zC] <;> exact rfl) (hr : Region.ready md ops listed = [i] := by kernel_rfl) : wpAnyH P md ops Q S (fuel + 1) listed a w := wpAnyH_ready hr (by simp) (AllReadyH.cons ho h AllReadyH.nil)
/-- Nothing is left. -/
theorem yD {fuel : Nat} {listed : Array Bool} {a : Act} {w : World} (h : Q .normal a w) (hd : Region.ready md ops listed = [] := by kernel_rfl) : wpAnyH P md ops Q S fuel listed a w := wpAnyH_done hd h fuel
end
end Go.Proofs.Ytajgjhkienhpjaa
