/- Plain lists: parts and paths as lists of bytes. Nothing of the program. -/
import Derived.Laws.Strings
import Derived.Laws.Strings2
namespace Go.Proofs.Ytajgjhkienhpjaa
set_option maxRecDepth 20000
namespace Pm

abbrev Bs := List UInt8

/-- A string of the model out of its bytes. -/
def B (l : Bs) : ByteArray := ⟨l.toArray⟩

theorem B_size (l : Bs) : (B l).size = l.length := by unfold B; rfl
theorem B_toList (l : Bs) : (B l).toList = l := by unfold B; exact ByteArray.toList_mk l
theorem B_get (l : Bs) (i : Nat) (h : i < (B l).size) : (B l)[i] = l[i]'(by rw [B_size] at h; exact h) := by
  unfold B; rfl
theorem B_of (s : ByteArray) : s = B s.data.toList := by unfold B; simp
theorem B_inj {a b : Bs} (h : B a = B b) : a = b := by
  have := congrArg ByteArray.toList h; rwa [B_toList, B_toList] at this

theorem B_extract (l : Bs) (a b : Nat) : (B l).extract a b = B ((l.drop a).take (b - a)) := ByteArray.extract_mk l a b

theorem B_app (a b : Bs) : B a ++ B b = B (a ++ b) := by
  apply ByteArray.ext; unfold B; simp
theorem lit_app (a b : Bs) : ByteArray.mk a.toArray ++ B b = B (a ++ b) := B_app a b
theorem app_lit (a b : Bs) : B a ++ ByteArray.mk b.toArray = B (a ++ b) := B_app a b

theorem lit_extract (l : Bs) (a b : Nat) : (ByteArray.mk l.toArray).extract a b = B ((l.drop a).take (b - a)) := B_extract l a b

/-- May byte n stand in a part? -/
def okN (n : Nat) : Bool := decide (97 ≤ n ∧ n ≤ 122 ∨ 48 ≤ n ∧ n ≤ 57 ∨ n = 45)
def okB (c : UInt8) : Bool := okN c.toNat

/-- How many bytes at the front may be a part, at most k. -/
def pl : Nat → Bs → Nat
  | 0, _ => 0
  | _ + 1, [] => 0
  | k + 1, c :: r => if okB c then pl k r + 1 else 0

theorem pl_le : ∀ (k : Nat) (l : Bs), pl k l ≤ k
  | 0, _ => Nat.le_refl _
  | _ + 1, [] => Nat.zero_le _
  | k + 1, c :: r => by unfold pl; split <;> have := pl_le k r <;> omega
theorem pl_len : ∀ (k : Nat) (l : Bs), pl k l ≤ l.length
  | 0, _ => Nat.zero_le _
  | _ + 1, [] => Nat.zero_le _
  | k + 1, c :: r => by unfold pl; split <;> have := pl_len k r <;> simp <;> omega

/-- Step: so far n bytes were right, and one more is, or is not. -/
theorem pl_split : ∀ (n k : Nat) (l : Bs), n ≤ k → n ≤ l.length → (∀ i (h : i < l.length), i < n → okB l[i] = true) → pl k l = n + pl (k - n) (l.drop n)
  | 0, k, l, _, _, _ => by simp
  | n + 1, 0, l, h, _, _ => by omega
  | n + 1, k + 1, [], _, h, _ => by simp at h
  | n + 1, k + 1, c :: r, h1, h2, h3 => by
    have h0 := h3 0 (by simp) (by omega)
    simp at h0
    have := pl_split n k r (by omega) (by simpa using h2) (fun i hi hn => by have := h3 (i + 1) (by simp; omega) (by omega); simpa using this)
    rw [show pl (k + 1) (c :: r) = pl k r + 1 from by simp [pl, h0], this, Nat.add_sub_add_right, List.drop_succ_cons]; omega

theorem pl_stop (n : Nat) (l : Bs) (hn : n ≤ 12) (hl : n ≤ l.length) (h : ∀ i (h : i < l.length), i < n → okB l[i] = true)
    (hs : n = 12 ∨ n = l.length ∨ ∃ h : n < l.length, okB l[n] = false) : pl 12 l = n := by
  rw [pl_split n 12 l hn hl h]
  rcases hs with rfl | rfl | ⟨h1, h2⟩
  · simp [pl]
  · rw [List.drop_of_length_le (Nat.le_refl _)]
    cases hh : 12 - l.length <;> simp [pl]
  · rw [List.drop_eq_getElem_cons h1]
    cases hh : 12 - n <;> simp [pl, h2]

def isPart (l : Bs) : Bool := !l.isEmpty && pl 12 l == l.length

/-- A slash and the part behind it, and what is left. -/
def cut (l : Bs) : Bs × Bs :=
  match l with
  | [] => ([], [])
  | c :: r => if c = 47 then (r.take (pl 12 r), r.drop (pl 12 r)) else ([], [])

def splitN : Nat → Bs → Option (List Bs)
  | 0, _ => none
  | n + 1, s => if (cut s).1 = [] then none else if (cut s).2 = [] then some [(cut s).1] else (splitN n (cut s).2).map ((cut s).1 :: ·)

def split (l : Bs) : Option (List Bs) := if l = [47] then some [] else splitN 6 l

/-- Each part with a slash ahead, one behind the other. -/
def flat (ps : List Bs) : Bs := (ps.map (47 :: ·)).flatten

/-- Parts with a slash between them. -/
def jn : List Bs → Bs
  | [] => []
  | p :: r => p ++ flat r

/-- The path of parts. -/
def joinP (ps : List Bs) : Bs := 47 :: jn ps

def lens (ps : List Bs) : Nat := (ps.map List.length).sum

theorem flat_nil : flat [] = [] := rfl
theorem flat_cons (p : Bs) (r : List Bs) : flat (p :: r) = 47 :: (p ++ flat r) := by simp [flat]
theorem flat_take_succ (r : List Bs) (k : Nat) (h : k < r.length) : flat (r.take (k + 1)) = flat (r.take k) ++ [47] ++ r[k] := by
  rw [List.take_succ_eq_append_getElem h]; unfold flat; rw [List.map_append, List.flatten_append]; simp
theorem flat_len (r : List Bs) : (flat r).length = r.length + lens r := by
  induction r with
  | nil => rfl
  | cons p r ih => rw [flat_cons]; simp [lens] at ih ⊢; omega
theorem lens_take_succ (r : List Bs) (k : Nat) (h : k < r.length) : lens (r.take (k + 1)) = lens (r.take k) + r[k].length := by
  rw [List.take_succ_eq_append_getElem h]; unfold lens; rw [List.map_append, List.sum_append]; simp
theorem lens_take_le : ∀ (r : List Bs) (k : Nat), lens (r.take k) ≤ lens r
  | [], k => by simp [lens]
  | p :: r, 0 => by simp [lens]
  | p :: r, k + 1 => by have := lens_take_le r k; simp [lens] at this ⊢; omega
theorem joinP_cons (p : Bs) (r : List Bs) : joinP (p :: r) = flat (p :: r) := by rw [flat_cons]; rfl

end Pm
end Go.Proofs.Ytajgjhkienhpjaa
