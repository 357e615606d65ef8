/- Plain numbers: the sum of bytes, and which of two pairs is newer, as the document tells it. Nothing of the program. -/
import Derived.Laws.Strings
import Derived.Laws.Strings2
import Derived.Laws.CopyOwn
namespace Go.Proofs.Ytmaknpflipannaa
namespace Pm

abbrev Bs := List UInt8

/-- The sum's two parts, one byte behind the other. -/
def sumF : Nat → Nat → Bs → Nat × Nat
  | x, y, [] => (x, y)
  | x, y, c :: l => sumF ((x + c.toNat + 1) % 65521) ((y + (x + c.toNat + 1) % 65521) % 65521) l
def sumOf (seed : Nat) (l : Bs) : Nat × Nat := sumF ((seed + 1) % 65521) 1 l
def sum (seed : Nat) (l : Bs) : Nat := (sumOf seed l).2 * 65536 + (sumOf seed l).1

def tot : Bs → Nat
  | [] => 0
  | c :: l => c.toNat + 1 + tot l
def wt : Bs → Nat
  | [] => 0
  | c :: l => (l.length + 1) * (c.toNat + 1) + wt l

theorem sumF_lt (x y : Nat) (l : Bs) (hx : x < 65521) (hy : y < 65521) : (sumF x y l).1 < 65521 ∧ (sumF x y l).2 < 65521 := by
  induction l generalizing x y with
  | nil => exact ⟨hx, hy⟩
  | cons c l ih => exact ih _ _ (Nat.mod_lt _ (by omega)) (Nat.mod_lt _ (by omega))

theorem mod_mul (n z : Nat) : (n * (z % 65521)) % 65521 = (n * z) % 65521 := by
  rw [Nat.mul_mod, Nat.mod_mod, ← Nat.mul_mod]

theorem sumF_eq (x y : Nat) (l : Bs) (hx : x < 65521) (hy : y < 65521) : sumF x y l = ((x + tot l) % 65521, (y + l.length * x + wt l) % 65521) := by
  induction l generalizing x y with
  | nil => simp [sumF, tot, wt]; omega
  | cons c l ih =>
    unfold sumF
    rw [ih _ _ (Nat.mod_lt _ (by omega)) (Nat.mod_lt _ (by omega))]
    simp only [tot, wt, List.length_cons]
    have hm := mod_mul l.length (x + c.toNat + 1)
    have e1 : (l.length + 1) * x = l.length * x + x := by rw [Nat.add_mul, Nat.one_mul]
    have e2 : (l.length + 1) * (c.toNat + 1) = l.length * (c.toNat + 1) + (c.toNat + 1) := by rw [Nat.add_mul, Nat.one_mul]
    have e3 : l.length * (x + c.toNat + 1) = l.length * x + l.length * (c.toNat + 1) := by rw [Nat.add_assoc, Nat.mul_add]
    rw [e1, e2]
    rw [e3] at hm
    generalize l.length * ((x + c.toNat + 1) % 65521) = p at *
    generalize l.length * x = q at *
    generalize l.length * (c.toNat + 1) = r at *
    generalize c.toNat = d at *
    generalize tot l = t at *
    generalize wt l = u at *
    clear ih e1 e2 e3
    congr 1
    · omega
    · omega

theorem tot_app (l m : Bs) : tot (l ++ m) = tot l + tot m := by
  induction l with
  | nil => simp [tot]
  | cons c l ih => simp only [List.cons_append, tot, ih]; omega
theorem tot_le (l : Bs) : tot l ≤ 256 * l.length ∧ l.length ≤ tot l := by
  induction l with
  | nil => simp [tot]
  | cons c l ih => have := c.toNat_lt; simp only [tot, List.length_cons]; omega
theorem wt_app (l m : Bs) : wt (l ++ m) = wt l + m.length * tot l + wt m := by
  induction l with
  | nil => simp [wt, tot]
  | cons c l ih =>
    simp only [List.cons_append, wt, tot, ih, List.length_append]
    have e1 : (l.length + m.length + 1) * (c.toNat + 1) = (l.length + 1) * (c.toNat + 1) + m.length * (c.toNat + 1) := by rw [← Nat.add_mul]; congr 1; omega
    have e2 : m.length * (c.toNat + 1 + tot l) = m.length * (c.toNat + 1) + m.length * tot l := Nat.mul_add ..
    omega

theorem sum_eq (seed : Nat) (l : Bs) : sumOf seed l = ((seed + 1 + tot l) % 65521, (1 + l.length * ((seed + 1) % 65521) + wt l) % 65521) := by
  unfold sumOf
  rw [sumF_eq _ _ _ (Nat.mod_lt _ (by omega)) (by omega)]
  congr 1
  omega
theorem sum_inj {s t : Nat} {l m : Bs} : sum s l = sum t m ↔ sumOf s l = sumOf t m := by
  constructor
  · intro h
    have h1 := sumF_lt ((s + 1) % 65521) 1 l (Nat.mod_lt _ (by omega)) (by omega)
    have h2 := sumF_lt ((t + 1) % 65521) 1 m (Nat.mod_lt _ (by omega)) (by omega)
    change (sumOf s l).1 < _ ∧ (sumOf s l).2 < _ at h1
    change (sumOf t m).1 < _ ∧ (sumOf t m).2 < _ at h2
    unfold sum at h
    apply Prod.ext <;> omega
  · intro h; unfold sum; rw [h]
theorem sum_lt (s : Nat) (l : Bs) : sum s l < 4294967296 := by
  have h1 := sumF_lt ((s + 1) % 65521) 1 l (Nat.mod_lt _ (by omega)) (by omega)
  change (sumOf s l).1 < _ ∧ (sumOf s l).2 < _ at h1
  unfold sum; omega

/-- One byte changed. -/
theorem sum_set (s : Nat) (l : Bs) (k : Nat) (hk : k < l.length) (c : UInt8) : (sum s (l.set k c) == sum s l) = (c == l[k]) := by
  by_cases h : c = l[k]
  · subst h; simp
  · rw [beq_eq_false_iff_ne.2 h, beq_eq_false_iff_ne]
    intro e
    have e := congrArg Prod.fst (sum_inj.1 e)
    rw [sum_eq, sum_eq] at e
    simp only at e
    have hs : l = l.take k ++ l[k] :: l.drop (k + 1) := by simp
    have hs2 : l.set k c = l.take k ++ c :: l.drop (k + 1) := List.set_eq_take_append_cons_drop.trans (by rw [if_pos hk])
    have t1 : tot l = tot (l.take k) + (l[k].toNat + 1 + tot (l.drop (k + 1))) := by conv => lhs; rw [hs, tot_app, tot]
    have t2 : tot (l.set k c) = tot (l.take k) + (c.toNat + 1 + tot (l.drop (k + 1))) := by rw [hs2, tot_app, tot]
    have b1 := c.toNat_lt
    have b2 := l[k].toNat_lt
    have hne : c.toNat ≠ l[k].toNat := fun e => h (UInt8.toNat_inj.1 e)
    rw [t1, t2] at e
    generalize tot (l.take k) = p at *
    generalize tot (l.drop (k + 1)) = q at *
    generalize c.toNat = x at *
    generalize l[k].toNat = y at *
    omega

/-- A zero behind, a zero ahead. -/
theorem sum_behind (s : Nat) (l : Bs) : (sum s (l ++ [0]) == sum s l) = false := by
  rw [beq_eq_false_iff_ne]
  intro e
  have e := congrArg Prod.fst (sum_inj.1 e)
  rw [sum_eq, sum_eq, tot_app] at e
  have : tot [(0 : UInt8)] = 1 := rfl
  rw [this] at e
  simp only at e
  omega
theorem sum_ahead (s : Nat) (l : Bs) : (sum s ([0] ++ l) == sum s l) = false := by
  rw [beq_eq_false_iff_ne]
  intro e
  have e := congrArg Prod.fst (sum_inj.1 e)
  rw [sum_eq, sum_eq, tot_app] at e
  have : tot [(0 : UInt8)] = 1 := rfl
  rw [this] at e
  simp only at e
  omega

/-- Two bytes beside one another change places. -/
theorem sum_swap (s : Nat) (p q : Bs) (a b : UInt8) : (sum s (p ++ b :: a :: q) == sum s (p ++ a :: b :: q)) = (a == b) := by
  by_cases h : a = b
  · subst h; simp
  · rw [beq_eq_false_iff_ne.2 h, beq_eq_false_iff_ne]
    intro e
    have e := congrArg Prod.snd (sum_inj.1 e)
    rw [sum_eq, sum_eq] at e
    simp only [wt_app, wt, List.length_append, List.length_cons] at e
    have e1 : (q.length + 1 + 1) * (a.toNat + 1) = (q.length + 1) * (a.toNat + 1) + (a.toNat + 1) := by rw [Nat.add_mul, Nat.one_mul]
    have e2 : (q.length + 1 + 1) * (b.toNat + 1) = (q.length + 1) * (b.toNat + 1) + (b.toNat + 1) := by rw [Nat.add_mul, Nat.one_mul]
    rw [e1, e2] at e
    have b1 := a.toNat_lt
    have b2 := b.toNat_lt
    have hne : a.toNat ≠ b.toNat := fun e => h (UInt8.toNat_inj.1 e)
    generalize (q.length + 1) * (a.toNat + 1) = u at *
    generalize (q.length + 1) * (b.toNat + 1) = v at *
    generalize a.toNat = x at *
    generalize b.toNat = y at *
    generalize (q.length + 1 + 1) * tot p = z at *
    generalize (p.length + (q.length + 1 + 1)) * ((s + 1) % 65521) = r at *
    generalize wt p = w1 at *
    generalize wt q = w2 at *
    omega

/-- Unlike seeds. -/
theorem sum_seeds (a b : Nat) (l : Bs) (ha : a < 65520) (hb : b < 65520) : (sum a l == sum b l) = (a == b) := by
  by_cases h : a = b
  · subst h; simp
  · rw [beq_eq_false_iff_ne.2 h, beq_eq_false_iff_ne]
    intro e
    have e := congrArg Prod.fst (sum_inj.1 e)
    rw [sum_eq, sum_eq] at e
    simp only at e
    generalize tot l = t at *
    omega
/-- More behind. -/
theorem sum_more (a : Nat) (l m : Bs) (hm : m.length ≤ 60) : (sum a (l ++ m) == sum a l) = (m.length == 0) := by
  by_cases h : m.length = 0
  · have := List.eq_nil_of_length_eq_zero h
    subst this; simp
  · rw [beq_eq_false_iff_ne.2 h, beq_eq_false_iff_ne]
    intro e
    have e := congrArg Prod.fst (sum_inj.1 e)
    rw [sum_eq, sum_eq, tot_app] at e
    simp only at e
    have := tot_le m
    generalize tot l = t at *
    generalize tot m = u at *
    omega

/-- Is (a, b) newer than (c, d)? -/
def okN (n : Int) : Bool := decide (0 ≤ n) && decide (n ≤ 281474976710656)
def newer (a b c d : Int) : Bool := (okN a && okN b && okN c && okN d) && (decide (c < a) || (a == c && decide (d < b)))

end Pm
end Go.Proofs.Ytmaknpflipannaa
