/- Plain lists: a disk of sectors as the document tells it. Nothing of the program. -/
import Derived.Laws.Strings
import Derived.Laws.Strings2
import Derived.Laws.CopyOwn
namespace Go.Proofs.YtankfmlafmjaeaaGreat
set_option maxRecDepth 20000
namespace Pm

abbrev Bs := List UInt8

/-- A string of the model out of its bytes. -/
def B (l : Bs) : ByteArray := ⟨l.toArray⟩
theorem B_size (l : Bs) : (B l).size = l.length := by unfold B; rfl
theorem B_toList (l : Bs) : (B l).toList = l := by unfold B; exact ByteArray.toList_mk l
theorem B_of (s : ByteArray) : s = B s.data.toList := by unfold B; simp
theorem B_inj {a b : Bs} (h : B a = B b) : a = b := by
  have := congrArg ByteArray.toList h; rwa [B_toList, B_toList] at this

/-- b laid over l from place a on. -/
def spl (l : Bs) (a : Nat) (b : Bs) : Bs := l.take a ++ (b ++ l.drop (a + b.length))
theorem spl_len (l : Bs) (a : Nat) (b : Bs) (h : a + b.length ≤ l.length) : (spl l a b).length = l.length := by unfold spl; simp; omega
theorem spl_nil (l : Bs) (a : Nat) : spl l a [] = l := by simp [spl]
theorem spl_get (l : Bs) (a : Nat) (b : Bs) (h : a + b.length ≤ l.length) (j : Nat) :
    (spl l a b)[j]? = if a ≤ j ∧ j < a + b.length then b[j - a]? else l[j]? := by
  unfold spl
  by_cases h1 : j < a
  · rw [List.getElem?_append_left (by simp; omega), List.getElem?_take_of_lt h1, if_neg (by omega)]
  · rw [List.getElem?_append_right (by simp; omega)]
    have e : j - (l.take a).length = j - a := by simp; omega
    rw [e]
    by_cases h2 : j < a + b.length
    · rw [List.getElem?_append_left (by omega), if_pos (by omega)]
    · rw [List.getElem?_append_right (by omega), List.getElem?_drop, if_neg (by omega)]
      congr 1; omega
theorem spl_spl (l : Bs) (a : Nat) (b c : Bs) (h : a + b.length + c.length ≤ l.length) : spl (spl l a b) (a + b.length) c = spl l a (b ++ c) := by
  apply List.ext_getElem?
  intro j
  rw [spl_get _ _ _ (by rw [spl_len _ _ _ (by omega)]; omega), spl_get _ _ _ (by omega), spl_get _ _ _ (by simp; omega)]
  simp only [List.length_append]
  by_cases h1 : a ≤ j ∧ j < a + b.length
  · rw [if_neg (by omega), if_pos h1, if_pos (by omega), List.getElem?_append_left (by omega)]
  · by_cases h2 : a + b.length ≤ j ∧ j < a + b.length + c.length
    · rw [if_pos h2, if_pos (by omega), List.getElem?_append_right (by omega)]; congr 1; omega
    · rw [if_neg h2, if_neg h1, if_neg (by omega)]
theorem spl_set (l : Bs) (a : Nat) (b : Bs) (c : UInt8) (h : a + b.length < l.length) : (spl l a b).set (a + b.length) c = spl l a (b ++ [c]) := by
  rw [← spl_spl l a b [c] (by simp; omega)]
  apply List.ext_getElem?
  intro j
  rw [spl_get _ _ _ (by rw [spl_len _ _ _ (by omega)]; simp; omega), List.getElem?_set]
  by_cases h1 : a + b.length = j
  · subst h1
    rw [if_pos rfl, if_pos (by rw [spl_len _ _ _ (by omega)]; omega), if_pos (by simp)]
    simp
  · rw [if_neg h1, if_neg (by simp; omega)]
theorem spl_self (l : Bs) (a n : Nat) (h : a + n ≤ l.length) : spl l a ((l.drop a).take n) = l := by
  apply List.ext_getElem?
  intro j
  rw [spl_get _ _ _ (by simp; omega)]
  by_cases h1 : a ≤ j ∧ j < a + ((l.drop a).take n).length
  · rw [if_pos h1, List.getElem?_take_of_lt (by simp at h1; omega), List.getElem?_drop]; congr 1; omega
  · rw [if_neg h1]
theorem spl_splice (l : Bs) (a : Nat) (b : Bs) : (spl l a b) = splice l a b := rfl

/-- Sector i. -/
def blk (l : Bs) (i : Nat) : Bs := (l.drop (i * 16)).take 16
theorem blk_len (l : Bs) (i : Nat) (h : i * 16 + 16 ≤ l.length) : (blk l i).length = 16 := by unfold blk; simp; omega
theorem blk_get (l : Bs) (i j : Nat) (h : j < 16) : (blk l i)[j]? = l[i * 16 + j]? := by
  unfold blk; rw [List.getElem?_take_of_lt h, List.getElem?_drop]
theorem blk_ext {a b : Bs} {i : Nat} (ha : i * 16 + 16 ≤ a.length) (hb : i * 16 + 16 ≤ b.length) (h : ∀ j, j < 16 → a[i * 16 + j]? = b[i * 16 + j]?) : blk a i = blk b i := by
  apply List.ext_getElem?
  intro j
  by_cases hj : j < 16
  · rw [blk_get _ _ _ hj, blk_get _ _ _ hj, h j hj]
  · rw [List.getElem?_eq_none (by rw [blk_len _ _ ha]; omega), List.getElem?_eq_none (by rw [blk_len _ _ hb]; omega)]
/-- Beside what is laid over it a sector is as it was. -/
theorem blk_spl_other (l : Bs) (a : Nat) (b : Bs) (i : Nat) (h : a + b.length ≤ l.length) (hi : i * 16 + 16 ≤ l.length) (hd : i * 16 + 16 ≤ a ∨ a + b.length ≤ i * 16 ∨ b.length = 0) : blk (spl l a b) i = blk l i := by
  apply blk_ext (by rw [spl_len _ _ _ h]; exact hi) hi
  intro j hj
  rw [spl_get _ _ _ h, if_neg (by omega)]
theorem blk_spl_self (l : Bs) (i : Nat) (b : Bs) (hb : b.length = 16) (h : i * 16 + 16 ≤ l.length) : blk (spl l (i * 16) b) i = b := by
  apply List.ext_getElem?
  intro j
  by_cases hj : j < 16
  · rw [blk_get _ _ _ hj, spl_get _ _ _ (by omega), if_pos (by omega)]; congr 1; omega
  · rw [List.getElem?_eq_none (by rw [blk_len _ _ (by rw [spl_len _ _ _ (by omega)]; exact h)]; omega), List.getElem?_eq_none (by omega)]
theorem spl_blk (l : Bs) (i : Nat) (h : i * 16 + 16 ≤ l.length) : spl l (i * 16) (blk l i) = l := spl_self l (i * 16) 16 h

/-- The sectors of n bytes from a on, loose too. -/
def mark (wet : List Bool) (a n : Nat) : List Bool := wet.mapIdx fun i x => x || decide (0 < n ∧ i * 16 < a + n ∧ a < (i + 1) * 16)
theorem mark_len (wet : List Bool) (a n : Nat) : (mark wet a n).length = wet.length := by simp [mark]
theorem mark_zero (wet : List Bool) (a : Nat) : mark wet a 0 = wet := by
  apply List.ext_getElem?; intro i; simp [mark]
theorem mark_get (wet : List Bool) (a n i : Nat) (h : i < wet.length) : (mark wet a n)[i]'(by rw [mark_len]; exact h) = (wet[i] || decide (0 < n ∧ i * 16 < a + n ∧ a < (i + 1) * 16)) := by
  simp [mark]
/-- A piece that lies in one sector. -/
theorem mark_step (wet : List Bool) (a k m q : Nat) (hm : 0 < m) (h1 : q * 16 ≤ a + k) (h2 : a + k + m ≤ (q + 1) * 16) : mark wet a (k + m) = (mark wet a k).set q true := by
  apply List.ext_getElem (by simp [mark])
  intro i hi1 hi2
  have hi : i < wet.length := by simpa [mark] using hi1
  rw [mark_get _ _ _ _ hi, List.getElem_set, mark_get _ _ _ _ hi]
  by_cases hq : q = i
  · subst hq
    rw [if_pos rfl]
    have : (0 < k + m ∧ q * 16 < a + (k + m) ∧ a < (q + 1) * 16) := by omega
    simp [this]
  · rw [if_neg hq]
    congr 1
    rw [decide_eq_decide]
    constructor <;> intro h <;> omega

/-- A disk. -/
structure Dk where
  cur : Bs
  old : Bs
  wet : List Bool
  acts : Nat
  fuse : Int
  off : Bool

/-- A right disk. -/
structure Rt (s : Dk) : Prop where
  lo : 1 ≤ s.wet.length
  hi : s.wet.length ≤ 4096
  cl : s.cur.length = s.wet.length * 16
  ol : s.old.length = s.wet.length * 16
  f1 : -1 ≤ s.fuse
  f2 : s.fuse ≤ 9223372036854775807
  dry : ∀ i (h : i < s.wet.length), s.wet[i] = false → blk s.cur i = blk s.old i

def pw (s : Dk) : Dk := { s with off := s.off || decide (s.fuse = 0) }
def did (s : Dk) : Dk := { s with acts := s.acts + 1, fuse := if 0 < s.fuse then s.fuse - 1 else s.fuse }
def fits (s : Dk) (a n : Int) : Prop := 0 ≤ a ∧ 0 ≤ n ∧ n ≤ (s.cur.length : Int) - a
instance (s : Dk) (a n : Int) : Decidable (fits s a n) := by unfold fits; infer_instance
/-- Bytes are written. -/
def put (s : Dk) (a : Nat) (b : Bs) : Dk := { s with cur := spl s.cur a b, wet := mark s.wet a b.length }
def dWrite (s : Dk) (a : Int) (b : Bs) : Int × Dk :=
  if (pw s).off then (31, pw s) else if fits s a b.length then (0, did (put (pw s) a.toNat b)) else (1, pw s)
def dSync (s : Dk) : Int × Dk :=
  if (pw s).off then (31, pw s) else (0, did { pw s with old := s.cur, wet := List.replicate s.wet.length false })
def dRead (s : Dk) (a n : Int) : Bs × Int :=
  if s.off then ([], 31) else if fits s a n then ((s.cur.drop a.toNat).take n.toNat, 0) else ([], 1)
def dFuse (s : Dk) (n : Int) : Dk := { s with fuse := max n (-1) }
def loose (wet : List Bool) : List Nat := (List.range wet.length).filter fun i => wet.getD i false
def cr (old : Bs) (keep : List Bool) : List Nat → Nat → Bs → Bs
  | [], _, c => c
  | q :: r, i, c => cr old keep r (i + 1) (if keep.getD i false then c else spl c (q * 16) (blk old q))
def dCrash (s : Dk) (keep : List Bool) : Dk :=
  let c := cr s.old keep (loose s.wet) 0 s.cur
  { s with cur := c, old := c, wet := List.replicate s.wet.length false, fuse := -1, off := false }
def dOf (l : Bs) : Dk := { cur := l, old := l, wet := List.replicate (l.length / 16) false, acts := 0, fuse := -1, off := false }

theorem mem_loose {wet : List Bool} {i : Nat} : i ∈ loose wet ↔ ∃ h : i < wet.length, wet[i] = true := by
  unfold loose
  simp only [List.mem_filter, List.mem_range]
  constructor
  · rintro ⟨h, h2⟩; exact ⟨h, by simpa [List.getD, List.getElem?_eq_getElem h] using h2⟩
  · rintro ⟨h, h2⟩; exact ⟨h, by simpa [List.getD, List.getElem?_eq_getElem h] using h2⟩
theorem loose_nodup (wet : List Bool) : (loose wet).Nodup := List.nodup_range.filter _
theorem loose_sorted (wet : List Bool) : (loose wet).Pairwise (· < ·) := List.pairwise_lt_range.filter _

theorem cr_len (old : Bs) (keep : List Bool) (n : Nat) (ho : old.length = n * 16) : ∀ (l : List Nat) (i : Nat) (c : Bs), (∀ q ∈ l, q < n) → c.length = n * 16 → (cr old keep l i c).length = n * 16
  | [], _, c, _, hc => hc
  | q :: r, i, c, hq, hc => by
    have h1 := hq q (by simp)
    have hb := blk_len old q (by omega)
    unfold cr
    refine cr_len old keep n ho r (i + 1) _ (fun x hx => hq x (by simp [hx])) ?_
    split
    · exact hc
    · rw [spl_len _ _ _ (by omega)]; exact hc
/-- Sector p of those that are asked: kept or not; any other one as it was. -/
theorem cr_blk (old : Bs) (keep : List Bool) (n : Nat) (ho : old.length = n * 16) : ∀ (l : List Nat) (i : Nat) (c : Bs), l.Nodup → (∀ q ∈ l, q < n) → c.length = n * 16 →
    (∀ p (h : p < l.length), blk (cr old keep l i c) l[p] = if keep.getD (i + p) false then blk c l[p] else blk old l[p]) ∧ (∀ q, q < n → q ∉ l → blk (cr old keep l i c) q = blk c q)
  | [], _, c, _, _, _ => ⟨fun p h => by simp at h, fun q _ _ => rfl⟩
  | q :: r, i, c, hd, hq, hc => by
    have h1 := hq q (by simp)
    have hb := blk_len old q (by omega)
    have hd' := List.nodup_cons.1 hd
    have hlen : (if keep.getD i false then c else spl c (q * 16) (blk old q)).length = n * 16 := by
      split
      · exact hc
      · rw [spl_len _ _ _ (by omega)]; exact hc
    have ih := cr_blk old keep n ho r (i + 1) (if keep.getD i false then c else spl c (q * 16) (blk old q)) hd'.2 (fun x hx => hq x (by simp [hx])) hlen
    have hoth : ∀ x, x < n → x ≠ q → blk (if keep.getD i false then c else spl c (q * 16) (blk old q)) x = blk c x := by
      intro x hx hne
      split
      · rfl
      · refine blk_spl_other _ _ _ _ (by omega) (by omega) ?_
        rcases Nat.lt_or_ge x q with h | h
        · left; omega
        · right; left; omega
    constructor
    · intro p hp
      unfold cr
      rcases p with _ | p
      · simp only [List.getElem_cons_zero, Nat.add_zero]
        rw [ih.2 q h1 hd'.1]
        split
        · rfl
        · exact blk_spl_self c q _ hb (by omega)
      · have hp' : p < r.length := by simpa using hp
        simp only [List.getElem_cons_succ]
        rw [ih.1 p hp', hoth r[p] (hq _ (by simp)) (fun e => hd'.1 (e ▸ List.getElem_mem hp'))]
        rw [show i + 1 + p = i + (p + 1) by omega]
    · intro x hx hnx
      unfold cr
      rw [ih.2 x hx (fun h => hnx (by simp [h])), hoth x hx (fun e => hnx (by simp [e]))]

theorem Rt.pw {s : Dk} (h : Rt s) : Rt (pw s) := ⟨h.lo, h.hi, h.cl, h.ol, h.f1, h.f2, h.dry⟩
theorem Rt.did {s : Dk} (h : Rt s) : Rt (did s) := by
  refine ⟨h.lo, h.hi, h.cl, h.ol, ?_, ?_, h.dry⟩
  · have := h.f1; show -1 ≤ (if 0 < s.fuse then s.fuse - 1 else s.fuse); split <;> omega
  · have := h.f2; show (if 0 < s.fuse then s.fuse - 1 else s.fuse) ≤ _; split <;> omega
theorem Rt.put {s : Dk} (h : Rt s) (a : Nat) (b : Bs) (hab : a + b.length ≤ s.cur.length) : Rt (put s a b) := by
  have hm := mark_len s.wet a b.length
  have hcl := h.cl
  refine ⟨by show 1 ≤ (mark s.wet a b.length).length; rw [hm]; exact h.lo, by show (mark s.wet a b.length).length ≤ _; rw [hm]; exact h.hi,
    by show (spl s.cur a b).length = (mark s.wet a b.length).length * 16; rw [hm, spl_len _ _ _ hab]; exact h.cl, by show s.old.length = (mark s.wet a b.length).length * 16; rw [hm]; exact h.ol, h.f1, h.f2, ?_⟩
  intro i hi hw
  have hi' : i < s.wet.length := by rw [← hm]; exact hi
  have hw' : (mark s.wet a b.length)[i]'(by rw [hm]; exact hi') = false := hw
  rw [mark_get _ _ _ _ hi', Bool.or_eq_false_iff] at hw'
  have h2 := of_decide_eq_false hw'.2
  show blk (spl s.cur a b) i = blk s.old i
  rw [blk_spl_other _ _ _ _ hab (by omega) (by omega)]
  exact h.dry i hi' hw'.1
theorem Rt.synced {s : Dk} (h : Rt s) (c : Bs) (hc : c.length = s.wet.length * 16) (f : Int) (o : Bool) (h1 : -1 ≤ f) (h2 : f ≤ 9223372036854775807) : Rt { s with cur := c, old := c, wet := List.replicate s.wet.length false, fuse := f, off := o } := by
  refine ⟨by simp; exact h.lo, by simp; exact h.hi, by simp; exact hc, by simp; exact hc, h1, h2, fun _ _ _ => rfl⟩
theorem Rt.sync {s : Dk} (h : Rt s) : Rt (dSync s).2 := by
  unfold dSync
  split
  · exact h.pw
  · exact (h.synced s.cur h.cl s.fuse (Pm.pw s).off h.f1 h.f2).did
theorem Rt.write {s : Dk} (h : Rt s) (a : Int) (b : Bs) : Rt (dWrite s a b).2 := by
  unfold dWrite
  split
  · exact h.pw
  · split
    · rename_i hf
      unfold fits at hf
      exact (h.pw.put a.toNat b (by show a.toNat + b.length ≤ s.cur.length; omega)).did
    · exact h.pw
theorem Rt.fuse {s : Dk} (h : Rt s) (n : Int) (hn : n ≤ 9223372036854775807) : Rt (dFuse s n) := by
  refine ⟨h.lo, h.hi, h.cl, h.ol, ?_, ?_, h.dry⟩
  · show -1 ≤ max n (-1); omega
  · show max n (-1) ≤ _; omega
theorem Rt.crash {s : Dk} (h : Rt s) (keep : List Bool) : Rt (dCrash s keep) :=
  h.synced _ (cr_len s.old keep _ h.ol _ _ _ (fun q hq => (mem_loose.1 hq).1) h.cl) (-1) false (by omega) (by omega)
theorem Rt.of (l : Bs) (n : Nat) (h1 : 1 ≤ n) (h2 : n ≤ 4096) (hl : l.length = n * 16) : Rt (dOf l) := by
  have e : l.length / 16 = n := by omega
  refine ⟨by simp [dOf]; omega, by simp [dOf]; omega, by simp [dOf]; omega, by simp [dOf]; omega, by simp [dOf], by simp [dOf], fun _ _ _ => rfl⟩
theorem acts_write (s : Dk) (a : Int) (b : Bs) : (dWrite s a b).2.acts ≤ s.acts + 1 := by
  unfold dWrite
  split
  · exact Nat.le_succ _
  · split
    · exact Nat.le_refl _
    · exact Nat.le_succ _
theorem acts_sync (s : Dk) : (dSync s).2.acts ≤ s.acts + 1 := by
  unfold dSync
  split
  · exact Nat.le_succ _
  · exact Nat.le_refl _
end Pm
end Go.Proofs.YtankfmlafmjaeaaGreat
