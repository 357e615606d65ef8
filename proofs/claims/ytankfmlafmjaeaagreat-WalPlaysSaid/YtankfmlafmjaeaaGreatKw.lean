/- Plain lists: a log of records on a disk as the document tells it. Nothing of the program. -/
import Derived.Test.YtankfmlafmjaeaaGreatKm
namespace Go.Proofs.YtankfmlafmjaeaaGreat
set_option maxRecDepth 20000
namespace Pm

/-- The sum's two parts, one byte behind the other. -/
def sumF : Nat → Nat → Bs → Nat × Nat
  | x, y, [] => (x, y)
  | x, y, c :: l => sumF ((x + c.toNat + 1) % 65521) ((y + (x + c.toNat + 1) % 65521) % 65521) l
def sumOf (seed : Nat) (l : Bs) : Nat × Nat := sumF ((seed + 1) % 65521) 1 l
def sum (seed : Nat) (l : Bs) : Nat := (sumOf seed l).2 * 65536 + (sumOf seed l).1
theorem sumF_lt (x y : Nat) (l : Bs) (hx : x < 65521) (hy : y < 65521) : (sumF x y l).1 < 65521 ∧ (sumF x y l).2 < 65521 := by
  induction l generalizing x y with
  | nil => exact ⟨hx, hy⟩
  | cons c l ih => exact ih _ _ (Nat.mod_lt _ (by omega)) (Nat.mod_lt _ (by omega))
theorem sum_lt (seed : Nat) (l : Bs) : sum seed l < 4294967296 := by
  have h := sumF_lt ((seed + 1) % 65521) 1 l (Nat.mod_lt _ (by omega)) (by omega)
  unfold sum sumOf
  omega

def up (n : Nat) : Nat := (n + 15) / 16 * 16
def ln (n : Nat) : Nat := 16 + up n
def zr (n : Nat) : Bs := List.replicate n 0
def pad (b : Bs) : Bs := b ++ zr (up b.length - b.length)
def be4 (n : Nat) : Bs := [UInt8.ofNat (n / 16777216), UInt8.ofNat (n / 65536), UInt8.ofNat (n / 256), UInt8.ofNat n]
def hdr (i : Nat) (b : Bs) : Bs := 82 :: (be4 i ++ (be4 b.length ++ (be4 (sum (i % 65536) b) ++ [0, 0, 0])))
def cnt (h : Bs) : Nat := ((h.drop 5).take 4).foldl (fun n c => n * 256 + c.toNat) 0

theorem up_le (n : Nat) : n ≤ up n ∧ up n < n + 16 := by unfold up; omega
theorem up_mod (n : Nat) : up n % 16 = 0 := by unfold up; omega
theorem up_zero : up 0 = 0 := rfl
theorem ln_mod (n : Nat) : ln n % 16 = 0 := by unfold ln up; omega
theorem ln_ge (n : Nat) : 16 ≤ ln n := by unfold ln; omega
theorem zr_len (n : Nat) : (zr n).length = n := by simp [zr]
theorem pad_len (b : Bs) : (pad b).length = up b.length := by
  have := up_le b.length; simp [pad, zr]; omega
theorem pad_nil : pad [] = [] := rfl
theorem pad_take (b : Bs) : (pad b).take b.length = b := by
  unfold pad; rw [List.take_append_of_le_length (Nat.le_refl _), List.take_length]
theorem be4_len (n : Nat) : (be4 n).length = 4 := rfl
theorem hdr_len (i : Nat) (b : Bs) : (hdr i b).length = 16 := rfl
theorem be4_fold (n : Nat) (h : n < 4294967296) : (be4 n).foldl (fun n c => n * 256 + c.toNat) 0 = n := by
  simp only [be4, List.foldl, UInt8.toNat_ofNat']
  omega
theorem cnt_hdr (i : Nat) (b : Bs) (h : b.length < 4294967296) : cnt (hdr i b) = b.length := be4_fold b.length h
theorem hdr_head (i : Nat) (b : Bs) : (hdr i b)[0]? = some 82 := rfl

/-- The record that the bytes begin with. -/
def front (c : Bs) (i : Nat) : Option Bs :=
  if c.length < 16 then none
  else if 16384 < cnt (c.take 16) ∨ c.length - 16 < cnt (c.take 16) ∨ c.take 16 ≠ hdr i ((c.drop 16).take (cnt (c.take 16))) then none
  else some ((c.drop 16).take (cnt (c.take 16)))

theorem front_some {c : Bs} {i : Nat} {b : Bs} : front c i = some b ↔ (c.take 16 = hdr i b ∧ (c.drop 16).take b.length = b ∧ b.length ≤ 16384 ∧ 16 + b.length ≤ c.length) := by
  unfold front
  constructor
  · intro h
    split at h
    · cases h
    · rename_i h1
      split at h
      · cases h
      · rename_i h2
        have h3 : ¬ (16384 < cnt (c.take 16)) := fun g => h2 (.inl g)
        have h4 : ¬ (c.length - 16 < cnt (c.take 16)) := fun g => h2 (.inr (.inl g))
        have h5 : c.take 16 = hdr i ((c.drop 16).take (cnt (c.take 16))) := by
          apply Classical.byContradiction; intro g; exact h2 (.inr (.inr g))
        injection h with h
        have hl : b.length = cnt (c.take 16) := by rw [← h]; simp; omega
        rw [h] at h5
        exact ⟨h5, by rw [hl]; exact h, by omega, by omega⟩
  · rintro ⟨h1, h2, h3, h4⟩
    have hc : cnt (c.take 16) = b.length := by rw [h1]; exact cnt_hdr i b (by omega)
    rw [if_neg (by omega), hc, h2, if_neg]
    rintro (g | g | g)
    · omega
    · omega
    · exact g h1

def scan (c : Bs) (i : Nat) : List Bs :=
  match h : front c i with
  | none => []
  | some b => b :: scan (c.drop (ln b.length)) (i + 1)
  termination_by c.length
  decreasing_by
  have h1 := (front_some.1 h).2.2.2
  have h2 := ln_ge b.length
  rw [List.length_drop]
  omega

theorem scan_none {c : Bs} {i : Nat} (h : front c i = none) : scan c i = [] := by
  rw [scan]; split
  · rfl
  · rename_i g; rw [h] at g; cases g
theorem scan_some {c : Bs} {i : Nat} {b : Bs} (h : front c i = some b) : scan c i = b :: scan (c.drop (ln b.length)) (i + 1) := by
  rw [scan]; split
  · rename_i g; rw [h] at g; cases g
  · rename_i g; rw [h] at g; injection g with g; subst g; rfl

def usd (rs : List Bs) : Nat := (rs.map fun r => ln r.length).sum
theorem usd_nil : usd [] = 0 := rfl
theorem usd_cons (r : Bs) (rs : List Bs) : usd (r :: rs) = ln r.length + usd rs := by simp [usd]
theorem usd_app (l m : List Bs) : usd (l ++ m) = usd l + usd m := by simp [usd]
theorem usd_mod (l : List Bs) : usd l % 16 = 0 := by
  induction l with
  | nil => rfl
  | cons r l ih => rw [usd_cons]; have := ln_mod r.length; omega
theorem usd_ge (l : List Bs) : l.length * 16 ≤ usd l := by
  induction l with
  | nil => simp
  | cons r l ih => rw [usd_cons, List.length_cons]; have := ln_ge r.length; omega
theorem usd_mem {l : List Bs} {r : Bs} (h : r ∈ l) : ln r.length ≤ usd l := by
  induction l with
  | nil => cases h
  | cons x l ih =>
    rw [usd_cons]
    rcases List.mem_cons.1 h with rfl | h
    · omega
    · have := ih h; omega
theorem usd_take (l : List Bs) (k : Nat) (h : k < l.length) : usd (l.take (k + 1)) = usd (l.take k) + ln l[k].length := by
  rw [List.take_succ_eq_append_getElem h, usd_app, usd_cons, usd_nil]; omega

/-- One step of the look through an area. -/
theorem front_ln {c : Bs} {i : Nat} {b : Bs} (hc : c.length % 16 = 0) (h : front c i = some b) : ln b.length ≤ c.length := by
  have := (front_some.1 h).2.2.2
  unfold ln up
  omega
theorem scan_le (c : Bs) (i : Nat) (hc : c.length % 16 = 0) : usd (scan c i) ≤ c.length ∧ ∀ r ∈ scan c i, r.length ≤ 16384 := by
  induction hn : c.length using Nat.strongRecOn generalizing c i with
  | _ n ih =>
    cases hf : front c i with
    | none => rw [scan_none hf]; exact ⟨Nat.zero_le _, fun r h => by cases h⟩
    | some b =>
      have h1 := front_ln hc hf
      have h2 := ln_ge b.length
      have h3 := ln_mod b.length
      have hl : (c.drop (ln b.length)).length = c.length - ln b.length := List.length_drop ..
      have := ih (c.drop (ln b.length)).length (by omega) (c.drop (ln b.length)) (i + 1) (by omega) rfl
      rw [scan_some hf, usd_cons]
      refine ⟨by omega, fun r hr => ?_⟩
      rcases List.mem_cons.1 hr with rfl | hr
      · exact (front_some.1 hf).2.2.1
      · exact this.2 r hr
/-- Of an area whose beginning has these records another one with the same beginning has them too. -/
theorem scan_over (c t : Bs) (i : Nat) (hc : c.length % 16 = 0) (hl : t.length = c.length) (ht : t.take (usd (scan c i)) = c.take (usd (scan c i))) :
    scan t i = scan c i ++ scan (t.drop (usd (scan c i))) (i + (scan c i).length) := by
  induction hn : c.length using Nat.strongRecOn generalizing c t i with
  | _ n ih =>
    cases hf : front c i with
    | none => rw [scan_none hf]; simp [usd_nil]
    | some b =>
      have h1 := front_ln hc hf
      have h2 := ln_ge b.length
      have h3 := ln_mod b.length
      have hcl : (c.drop (ln b.length)).length = c.length - ln b.length := List.length_drop ..
      have htl : (t.drop (ln b.length)).length = t.length - ln b.length := List.length_drop ..
      rw [scan_some hf, usd_cons] at ht ⊢
      have h4 := front_some.1 hf
      have hln : 16 + b.length ≤ ln b.length := by have := (up_le b.length).1; unfold ln; omega
      have hpre : ∀ k, k ≤ ln b.length → t.take k = c.take k := fun k hk => by
        have := congrArg (List.take k) ht
        rwa [List.take_take, List.take_take, Nat.min_eq_left (by omega)] at this
      have hft : front t i = some b := by
        rw [front_some]
        refine ⟨by rw [hpre 16 h2]; exact h4.1, ?_, h4.2.2.1, by omega⟩
        have e1 : (t.drop 16).take b.length = (t.take (16 + b.length)).drop 16 := by rw [List.drop_take]; congr 1; omega
        have e2 : (c.drop 16).take b.length = (c.take (16 + b.length)).drop 16 := by rw [List.drop_take]; congr 1; omega
        rw [e1, hpre _ hln, ← e2]; exact h4.2.1
      have hdr' : (t.drop (ln b.length)).take (usd (scan (c.drop (ln b.length)) (i + 1))) = (c.drop (ln b.length)).take (usd (scan (c.drop (ln b.length)) (i + 1))) := by
        have := congrArg (List.drop (ln b.length)) ht
        rw [List.drop_take, List.drop_take] at this
        rwa [show ln b.length + usd (scan (c.drop (ln b.length)) (i + 1)) - ln b.length = usd (scan (c.drop (ln b.length)) (i + 1)) by omega] at this
      have := ih (c.drop (ln b.length)).length (by omega) (c.drop (ln b.length)) (t.drop (ln b.length)) (i + 1) (by omega) (by omega) hdr' rfl
      rw [scan_some hft, this, List.drop_drop, List.length_cons, List.cons_append]
      rw [show i + 1 + (scan (c.drop (ln b.length)) (i + 1)).length = i + ((scan (c.drop (ln b.length)) (i + 1)).length + 1) by omega]
theorem scan_end (c : Bs) (i : Nat) (hc : c.length % 16 = 0) : scan (c.drop (usd (scan c i))) (i + (scan c i).length) = [] := by
  have h := scan_over c c i hc rfl rfl
  have := congrArg List.length h
  rw [List.length_append] at this
  exact List.eq_nil_of_length_eq_zero (by omega)
theorem scan_dead {c : Bs} {i : Nat} (h : c[0]? ≠ some 82) : scan c i = [] := by
  apply scan_none
  cases hf : front c i with
  | none => rfl
  | some b =>
    exfalso
    have h1 := (front_some.1 hf).1
    have h2 : (c.take 16)[0]? = some 82 := by rw [h1]; rfl
    rw [List.getElem?_take_of_lt (by omega)] at h2
    exact h h2
/-- A record, then nothing. -/
theorem scan_one {c : Bs} {i : Nat} (b : Bs) (t : Bs) (hc : c = hdr i b ++ (pad b ++ t)) (hb : b.length ≤ 16384) (ht : t[0]? ≠ some 82) : scan c i = [b] := by
  have hpl := pad_len b
  have hul := (up_le b.length).1
  have hf : front c i = some b := by
    rw [front_some]
    subst hc
    refine ⟨List.take_left' (hdr_len i b), ?_, hb, ?_⟩
    · rw [List.drop_left' (hdr_len i b), List.take_append_of_le_length (by omega)]; exact pad_take b
    · simp only [List.length_append, hdr_len]; omega
  rw [scan_some hf]
  have : c.drop (ln b.length) = t := by
    subst hc
    rw [← List.append_assoc]
    exact List.drop_left' (by simp only [List.length_append, hdr_len]; unfold ln; omega)
  rw [this, scan_dead ht]

/-- A log. -/
structure Lg where
  ar : Nat
  rs : List Bs

/-- How many bytes an area has; where one begins; what is in it. -/
def hf (c : Bs) : Nat := (c.length / 16 - 1) / 2 * 16
def st (c : Bs) (a : Nat) : Nat := 16 + a * hf c
def con (c : Bs) (a : Nat) : Bs := (c.drop (st c a)).take (hf c)
def sgn (a : Nat) : Bs := 87 :: UInt8.ofNat a :: zr 14
def signed (b : Bs) : Option Nat := if b = zr 16 then some 0 else if b = sgn 0 then some 0 else if b = sgn 1 then some 1 else none
def wr (a : Nat) (b : Bs) (s : Dk) : Int × Dk := if b.length = 0 then (0, s) else dWrite s (a : Int) b
def seqF : List (Dk → Int × Dk) → Dk → Int × Dk
  | [], s => (0, s)
  | f :: r, s => if (f s).1 = 0 then seqF r (f s).2 else f s
def isZ (b : Bs) : Bool := b.all (· == 0)
def lOpen (s : Dk) : Int × Option Lg × Dk :=
  if s.off then (31, none, s) else if hf s.cur < 16 then (1, none, s) else
  match signed (s.cur.take 16) with
  | none => (3, none, s)
  | some a =>
    if isZ ((con s.cur a).drop (usd (scan (con s.cur a) 0))) then (0, some ⟨a, scan (con s.cur a) 0⟩, s) else
      if (seqF [wr (st s.cur a + usd (scan (con s.cur a) 0)) (zr (hf s.cur - usd (scan (con s.cur a) 0))), dSync] s).1 = 0 then
        (0, some ⟨a, scan (con s.cur a) 0⟩, (seqF [wr (st s.cur a + usd (scan (con s.cur a) 0)) (zr (hf s.cur - usd (scan (con s.cur a) 0))), dSync] s).2)
      else ((seqF [wr (st s.cur a + usd (scan (con s.cur a) 0)) (zr (hf s.cur - usd (scan (con s.cur a) 0))), dSync] s).1, none,
        (seqF [wr (st s.cur a + usd (scan (con s.cur a) 0)) (zr (hf s.cur - usd (scan (con s.cur a) 0))), dSync] s).2)
def apSteps (e i : Nat) (b : Bs) : List (Dk → Int × Dk) := [wr (e + 16) (pad b), dSync, wr e (hdr i b), dSync]
def lAppend (s : Dk) (l : Lg) (b : Bs) : Int × Lg × Dk :=
  if 16384 < b.length then (1, l, s) else if hf s.cur < usd l.rs + ln b.length then (51, l, s) else
  ((seqF (apSteps (st s.cur l.ar + usd l.rs) l.rs.length b) s).1,
    if (seqF (apSteps (st s.cur l.ar + usd l.rs) l.rs.length b) s).1 = 0 then ⟨l.ar, l.rs ++ [b]⟩ else l, (seqF (apSteps (st s.cur l.ar + usd l.rs) l.rs.length b) s).2)
def stSteps (c : Bs) (o : Nat) (b : Bs) : List (Dk → Int × Dk) := [wr (st c o) (zr (hf c)), wr (st c o + 16) (pad b), dSync, wr (st c o) (hdr 0 b), dSync, wr 0 (sgn o), dSync]
def lStart (s : Dk) (l : Lg) (b : Bs) : Int × Lg × Dk :=
  if 16384 < b.length then (1, l, s) else if hf s.cur < ln b.length then (51, l, s) else
  ((seqF (stSteps s.cur (1 - l.ar) b) s).1, if (seqF (stSteps s.cur (1 - l.ar) b) s).1 = 0 then ⟨1 - l.ar, [b]⟩ else l, (seqF (stSteps s.cur (1 - l.ar) b) s).2)
def lRoom (s : Dk) (l : Lg) : Int := max 0 (min ((hf s.cur : Int) - (usd l.rs : Int) - 16) 16384)
end Pm
end Go.Proofs.YtankfmlafmjaeaaGreat
