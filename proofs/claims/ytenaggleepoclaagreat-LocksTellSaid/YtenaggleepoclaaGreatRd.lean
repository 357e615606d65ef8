/- The document's own In and Numbered, walked. -/
import Derived.Test.YtenaggleepoclaaGreatRc
namespace Go.Proofs.YtenaggleepoclaaGreat
set_option maxRecDepth 20000
open Go.RowKit Pm

theorem inB_false {l q : Bs} (h : (split l).isSome = false ∨ (split q).isSome = false) : inB l q = false := by
  unfold inB
  cases h1 : split l with
  | none => rfl
  | some a => cases h2 : split q with
    | none => rfl
    | some b => rw [h1, h2] at h; simp at h

end Go.Proofs.YtenaggleepoclaaGreat
