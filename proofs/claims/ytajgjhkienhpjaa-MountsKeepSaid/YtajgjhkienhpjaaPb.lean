/- Package path's functions, as later layers use them. -/
import Derived.Test.YtajgjhkienhpjaaPi
import Derived.Test.YtajgjhkienhpjaaPq
namespace Go.Proofs.Ytajgjhkienhpjaa
set_option maxRecDepth 20000
open Go.RowKit Pm

/-- The call has made memory, and written to nothing that was there. -/
def Gr (w w' : World) : Prop := Below w.heap.size w w'
theorem Gr.refl (w : World) : Gr w w := Below.refl _ _
theorem Gr.trans {a b c : World} (h : Gr a b) (k : Gr b c) : Gr a c := Below.trans h (Below.mono k h.size)
theorem Gr.drew {a b : World} (h : Gr a b) (n : Nat) : Gr a (b.drewN n) := below_drewN h n

def sz (l : Bs) : Prop := l.length ≤ 4611686018427387904
theorem sz_of {l : Bs} {k : Nat} (h : l.length ≤ k) (hk : k ≤ 4611686018427387904) : sz l := Nat.le_trans h hk

theorem Right_g (l : Bs) (w : World) (hl : sz l) : Calls Try.prog 31 #[.string (B l)] w fun e w' => e = .returned (.bool (split l).isSome) ∧ Gr w w' := Right_c l w hl
theorem Split_g (l : Bs) (w : World) (hl : sz l) : Calls Try.prog 42 #[.string (B l)] w fun e w' => (∃ v, e = .returned (.tuple #[v, .bool (split l).isSome]) ∧ Own w.heap.size w' v ((split l).getD [])) ∧ Gr w w' :=
  (Split_c l w hl).mono fun _ _ ⟨v, h1, h2, h3⟩ => ⟨⟨v, h1, h2⟩, h3⟩

theorem Own.cells {b0 : Nat} {w : World} {ao : Option Addr} {n cap : Nat} {ps : List Bs} (h : Own b0 w (.slice ao n cap) ps) :
    ∀ (w3 : World), Gr w w3 → ∀ k (hk : k < ps.length), ∃ g, ao = some ⟨g, 0, none⟩ ∧ w3.cell? ⟨g, k, none⟩ = some (.string (B ps[k])) := by
  intro w3 g3 k hk
  match ps, h, hk with
  | q :: r, h, hk =>
    obtain ⟨g, c, hv, _, hl⟩ := h.lies
    injection hv with hv _ _
    refine ⟨g, hv, ?_⟩
    rw [Below.cell g3 (p := ⟨g, k, none⟩) hl.lt]
    exact hl.cell k hk



end Go.Proofs.Ytajgjhkienhpjaa
