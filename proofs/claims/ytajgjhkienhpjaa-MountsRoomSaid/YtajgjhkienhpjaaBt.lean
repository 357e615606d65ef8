/- Plain: as many prefixes as there is room for (MountsRoom). Nothing of the program. -/
import Derived.Test.YtajgjhkienhpjaaBq
namespace Go.Proofs.Ytajgjhkienhpjaa
namespace Pm

def rmP (j : Nat) : Bs := 47 :: 112 :: dig j
def rmL (m : Nat) : List Mt := ⟨[47], 0, 1, 0⟩ :: (List.range m).map (fun j => ⟨rmP j, 1, 2, 1⟩)
def rmA (i : Nat) : List Mt := putM (rmL i) ⟨rmP i, 0, 1, 1⟩
theorem rmL_len (m : Nat) : (rmL m).length = m + 1 := by simp [rmL]
theorem rm_begin : ∀ i, i < 31 → bgn (rmL i) (rmP i) 1 = ⟨rmA i, ⟨rmP i, 0, 1, 1⟩, 0⟩ := by decide +kernel
theorem rm_flip : ∀ i, i < 31 → flp (rmA i) (rmP i) 1 1 = ⟨rmL (i + 1), 0⟩ := by decide +kernel
theorem rm_full : ∀ i, i < 50 → 31 ≤ i → bgn (rmL 31) (rmP i) 1 = ⟨rmL 31, mt0, 2⟩ := by decide +kernel
theorem rm_back : ∀ m, m < 32 → 1 ≤ m → (bgn (rmL m) (rmP 0) 0).e = 0 ∧ (bgn (rmL m) (rmP 0) 0).m.g = 1 ∧ (bgn (rmL m) (rmP 0) 0).m.e = 2 := by decide +kernel
theorem rm_num : ∀ i : Nat, i < 50 → numbered [112] (i : Int) = some (112 :: dig i) := by decide +kernel
theorem rm_szs : ∀ m, m < 32 → ((rmL m).all fun x => decide (x.d.length ≤ 1000000)) = true := by decide +kernel
theorem rmA_szs : ∀ m, m < 31 → ((rmA m).all fun x => decide (x.d.length ≤ 1000000)) = true ∧ (rmA m).length ≤ 1000000 := by decide +kernel
theorem rmP0 : rmP 0 = [47, 112, 48, 48, 48, 48] := by decide +kernel
theorem rmP_len (j : Nat) : (rmP j).length = 6 := rfl
end Pm
end Go.Proofs.Ytajgjhkienhpjaa
