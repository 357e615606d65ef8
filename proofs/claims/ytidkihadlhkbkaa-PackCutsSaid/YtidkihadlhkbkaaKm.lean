/- Plain lists: numbers and texts as bytes, and back. Nothing of the program. -/
import Derived.Laws.Strings
import Derived.Laws.Strings2
namespace Go.Proofs.Ytidkihadlhkbkaa
namespace Pm

abbrev Bs := List UInt8

/-- A string of the model out of its bytes. -/
def B (l : Bs) : ByteArray := ⟨l.toArray⟩

theorem B_size (l : Bs) : (B l).size = l.length := by unfold B; rfl
theorem B_toList (l : Bs) : (B l).toList = l := by unfold B; exact ByteArray.toList_mk l
theorem B_get (l : Bs) (i : Nat) (h : i < (B l).size) : (B l)[i] = l[i]'(by rw [B_size] at h; exact h) := by
  unfold B; rfl
theorem B_of (s : ByteArray) : s = B s.data.toList := by unfold B; simp
theorem B_inj {a b : Bs} (h : B a = B b) : a = b := by
  have := congrArg ByteArray.toList h; rwa [B_toList, B_toList] at this
theorem B_extract (l : Bs) (a b : Nat) : (B l).extract a b = B ((l.drop a).take (b - a)) := ByteArray.extract_mk l a b
theorem B_app (a b : Bs) : B a ++ B b = B (a ++ b) := by
  apply ByteArray.ext; unfold B; simp
theorem lit_app (a b : Bs) : ByteArray.mk a.toArray ++ B b = B (a ++ b) := B_app a b
theorem app_lit (a b : Bs) : B a ++ ByteArray.mk b.toArray = B (a ++ b) := B_app a b
theorem lit_extract (l : Bs) (a b : Nat) : (ByteArray.mk l.toArray).extract a b = B ((l.drop a).take (b - a)) := B_extract l a b

/-- The greatest number. -/
def M : Nat := 281474976710656

def dg (n : Nat) : UInt8 := UInt8.ofNat n
theorem dg_toNat (n : Nat) (h : n < 256) : (dg n).toNat = n := by unfold dg; simp; omega
theorem dg_of (c : UInt8) : dg c.toNat = c := by unfold dg; simp

/-- A number's digits, each with 128 more. -/
def hi (n : Nat) : Bs := if _h : n = 0 then [] else hi (n / 128) ++ [dg (128 + n % 128)]
  termination_by n
  decreasing_by omega

theorem hi_zero : hi 0 = [] := by rw [hi]; simp
theorem hi_pos (n : Nat) (h : 0 < n) : hi n = hi (n / 128) ++ [dg (128 + n % 128)] := by rw [hi]; simp [Nat.ne_of_gt h]

/-- A number's bytes. -/
def enc (n : Nat) : Bs := hi (n / 128) ++ [dg (n % 128)]

def val (l : Bs) : Nat := l.foldl (fun a c => a * 128 + c.toNat % 128) 0
theorem val_nil : val [] = 0 := rfl
theorem val_snoc (a : Bs) (c : UInt8) : val (a ++ [c]) = val a * 128 + c.toNat % 128 := by unfold val; rw [List.foldl_append]; rfl

theorem val_hi : ∀ n, val (hi n) = n := by
  intro n
  induction n using Nat.strongRecOn with
  | ind n ih =>
    by_cases h : n = 0
    · subst h; rw [hi_zero]; rfl
    · rw [hi_pos n (by omega), val_snoc, ih (n / 128) (by omega), dg_toNat _ (by omega)]; omega

theorem hi_ge : ∀ n, ∀ c ∈ hi n, 128 ≤ c.toNat := by
  intro n
  induction n using Nat.strongRecOn with
  | ind n ih =>
    intro c hc
    by_cases h : n = 0
    · subst h; rw [hi_zero] at hc; cases hc
    · rw [hi_pos n (by omega)] at hc
      rcases List.mem_append.1 hc with h1 | h1
      · exact ih (n / 128) (by omega) c h1
      · simp at h1; subst h1; rw [dg_toNat _ (by omega)]; omega

theorem hi_ne (n : Nat) (h : 0 < n) : hi n ≠ [] := by rw [hi_pos n h]; simp

theorem hi_head : ∀ n c, (hi n).head? = some c → c.toNat ≠ 128 := by
  intro n
  induction n using Nat.strongRecOn with
  | ind n ih =>
    intro c hc
    by_cases h : n = 0
    · subst h; rw [hi_zero] at hc; cases hc
    · rw [hi_pos n (by omega)] at hc
      by_cases h2 : n / 128 = 0
      · rw [h2, hi_zero] at hc; simp at hc; subst hc; rw [dg_toNat _ (by omega)]; omega
      · obtain ⟨x, r, hx⟩ := List.exists_cons_of_ne_nil (hi_ne (n / 128) (by omega))
        have := ih (n / 128) (by omega)
        rw [hx] at this hc
        simp at hc; subst hc
        exact this x rfl

theorem hi_len : ∀ k n, n < 128 ^ k → (hi n).length ≤ k
  | 0, n, h => by have : n = 0 := by simpa using h
                  subst this; rw [hi_zero]; simp
  | k + 1, n, h => by
    by_cases h0 : n = 0
    · subst h0; rw [hi_zero]; simp
    · rw [hi_pos n (by omega)]
      have := hi_len k (n / 128) (by rw [Nat.pow_succ] at h; omega)
      simp; omega

theorem hi_mono : ∀ n m, n ≤ m → (hi n).length ≤ (hi m).length := by
  intro n
  induction n using Nat.strongRecOn with
  | ind n ih =>
    intro m hm
    by_cases h : n = 0
    · subst h; rw [hi_zero]; simp
    · rw [hi_pos n (by omega), hi_pos m (by omega)]
      have := ih (n / 128) (by omega) (m / 128) (by omega)
      simp; omega

theorem enc_len (n : Nat) (h : n ≤ M) : 1 ≤ (enc n).length ∧ (enc n).length ≤ 7 := by
  have := hi_len 6 (n / 128) (by unfold M at h; omega)
  unfold enc; simp; omega
theorem enc_pos (n : Nat) : 0 < (enc n).length := by unfold enc; simp
theorem enc_mono (a b : Nat) (h : a ≤ b) : (enc a).length ≤ (enc b).length := by
  have := hi_mono (a / 128) (b / 128) (by omega)
  unfold enc; simp; omega
theorem val_enc (n : Nat) : val (enc n) = n := by
  unfold enc; rw [val_snoc, val_hi, dg_toNat _ (by omega)]; omega
theorem enc_inj {a b : Nat} (h : enc a = enc b) : a = b := by rw [← val_enc a, h, val_enc]

/-- How many bytes at the front are at least 128, at most k. -/
def lead : Nat → Bs → Nat
  | 0, _ => 0
  | _ + 1, [] => 0
  | k + 1, c :: r => if 128 ≤ c.toNat then lead k r + 1 else 0

theorem lead_le : ∀ (k : Nat) (l : Bs), lead k l ≤ k
  | 0, _ => Nat.le_refl _
  | _ + 1, [] => Nat.zero_le _
  | k + 1, c :: r => by unfold lead; split <;> have := lead_le k r <;> omega
theorem lead_len : ∀ (k : Nat) (l : Bs), lead k l ≤ l.length
  | 0, _ => Nat.zero_le _
  | _ + 1, [] => Nat.zero_le _
  | k + 1, c :: r => by unfold lead; split <;> have := lead_len k r <;> simp <;> omega

theorem lead_skip : ∀ (n k : Nat) (l : Bs), n ≤ k → n ≤ l.length → (∀ i (h : i < l.length), i < n → 128 ≤ l[i].toNat) → lead k l = n + lead (k - n) (l.drop n)
  | 0, k, l, _, _, _ => by simp
  | n + 1, 0, l, h, _, _ => by omega
  | n + 1, k + 1, [], _, h, _ => by simp at h
  | n + 1, k + 1, c :: r, h1, h2, h3 => by
    have h0 := h3 0 (by simp) (by omega)
    simp at h0
    have := lead_skip n k r (by omega) (by simpa using h2) (fun i hi hn => by have := h3 (i + 1) (by simp; omega) (by omega); simpa using this)
    rw [show lead (k + 1) (c :: r) = lead k r + 1 from by simp [lead, h0], this, Nat.add_sub_add_right, List.drop_succ_cons]; omega

theorem lead_stop (n : Nat) (l : Bs) (hn : n ≤ 7) (hl : n ≤ l.length) (h : ∀ i (h : i < l.length), i < n → 128 ≤ l[i].toNat)
    (hs : n = 7 ∨ n = l.length ∨ ∃ h : n < l.length, l[n].toNat < 128) : lead 7 l = n := by
  rw [lead_skip n 7 l hn hl h]
  rcases hs with rfl | rfl | ⟨h1, h2⟩
  · simp [lead]
  · rw [List.drop_of_length_le (Nat.le_refl _)]
    cases hh : 7 - l.length <;> simp [lead]
  · rw [List.drop_eq_getElem_cons h1]
    cases hh : 7 - n
    · simp [lead]
    · simp [lead]; omega

theorem lead_split : ∀ (k : Nat) (l : Bs), lead k l < k → lead k l < l.length → ∃ a c r, l = a ++ c :: r ∧ a.length = lead k l ∧ (∀ x ∈ a, 128 ≤ x.toNat) ∧ c.toNat < 128
  | 0, _, h, _ => by omega
  | k + 1, [], _, h => by simp at h
  | k + 1, c :: r, h1, h2 => by
    by_cases hc : 128 ≤ c.toNat
    · have e : lead (k + 1) (c :: r) = lead k r + 1 := by simp [lead, hc]
      rw [e] at h1 h2 ⊢
      obtain ⟨a, d, t, h3, h4, h5, h6⟩ := lead_split k r (by omega) (by simpa using h2)
      exact ⟨c :: a, d, t, by rw [h3]; rfl, by simp [h4], by intro x hx; rcases List.mem_cons.1 hx with rfl | hx
                                                             · exact hc
                                                             · exact h5 x hx, h6⟩
    · exact ⟨[], c, r, rfl, by simp [lead, hc], by simp, by omega⟩

theorem lead_of (a : Bs) (ha : ∀ x ∈ a, 128 ≤ x.toNat) (c : UInt8) (hc : c.toNat < 128) (r : Bs) (hk : a.length ≤ 7) : lead 7 (a ++ c :: r) = a.length := by
  apply lead_stop _ _ hk (by simp) _ (.inr (.inr ⟨by simp, by simpa using hc⟩))
  intro i h1 h2
  rw [List.getElem_append_left h2]
  exact ha _ (List.getElem_mem h2)
theorem lead_all (a : Bs) (ha : ∀ x ∈ a, 128 ≤ x.toNat) (hk : a.length ≤ 7) : lead 7 a = a.length := by
  apply lead_stop _ _ hk (Nat.le_refl _) _ (.inr (.inl rfl))
  intro i h1 h2
  exact ha _ (List.getElem_mem h2)

/-- The next number: the error, the number, what is left. -/
def nx (l : Bs) (most : Int) : Int × Nat × Bs :=
  if l.head? = some 128 ∨ lead 7 l = 7 then (3, 0, [])
  else if lead 7 l = l.length then (21, 0, [])
  else if M < val (l.take (lead 7 l + 1)) ∨ most < (val (l.take (lead 7 l + 1)) : Int) then (3, 0, [])
  else (0, val (l.take (lead 7 l + 1)), l.drop (lead 7 l + 1))

abbrev St := Bs × Int

def rNum (s : St) (most : Int) : Nat × St := if s.2 ≠ 0 then (0, s) else ((nx s.1 most).2.1, ((nx s.1 most).2.2, (nx s.1 most).1))
def rText (s : St) : Bs × St :=
  if s.2 ≠ 0 then ([], s) else if (nx s.1 M).1 ≠ 0 then ([], ([], (nx s.1 M).1))
  else if (nx s.1 M).2.2.length < (nx s.1 M).2.1 then ([], ([], 21))
  else ((nx s.1 M).2.2.take (nx s.1 M).2.1, ((nx s.1 M).2.2.drop (nx s.1 M).2.1, 0))
def rtx : Nat → St → List Bs → List Bs × St
  | 0, s, acc => (acc, s)
  | n + 1, s, acc => if (rText s).2.2 ≠ 0 then ([], (rText s).2) else rtx n (rText s).2 (acc ++ [(rText s).1])
def rTexts (s : St) : List Bs × St := rtx (rNum s M).1 (rNum s M).2 []

def encT (s : Bs) : Bs := enc s.length ++ s
def encL (ps : List Bs) : Bs := (ps.map encT).flatten
def encTs (ps : List Bs) : Bs := enc ps.length ++ encL ps

theorem encL_take_succ (r : List Bs) (k : Nat) (h : k < r.length) : encL (r.take (k + 1)) = encL (r.take k) ++ encT r[k] := by
  rw [List.take_succ_eq_append_getElem h]; unfold encL; rw [List.map_append, List.flatten_append]; simp
theorem encL_cons (p : Bs) (r : List Bs) : encL (p :: r) = encT p ++ encL r := by simp [encL]

/-! What is written is read. -/
theorem nx_enc (n : Nat) (hn : n ≤ M) (r : Bs) (most : Int) : nx (enc n ++ r) most = if most < (n : Int) then (3, 0, []) else (0, n, r) := by
  have hlen := hi_len 6 (n / 128) (by unfold M at hn; omega)
  have hd : (dg (n % 128)).toNat = n % 128 := dg_toNat _ (by omega)
  have e : enc n ++ r = hi (n / 128) ++ dg (n % 128) :: r := by unfold enc; simp
  have hl : lead 7 (enc n ++ r) = (hi (n / 128)).length := by rw [e]; exact lead_of _ (hi_ge _) _ (by omega) _ (by omega)
  have ht : (enc n ++ r).take ((hi (n / 128)).length + 1) = enc n := by
    rw [List.take_append_of_le_length (by unfold enc; simp)]; apply List.take_of_length_le; unfold enc; simp
  have hdr : (enc n ++ r).drop ((hi (n / 128)).length + 1) = r := by
    rw [List.drop_append_of_le_length (by unfold enc; simp), List.drop_of_length_le (by unfold enc; simp)]; rfl
  have hh : (enc n ++ r).head? ≠ some 128 := by
    intro hc
    rw [e] at hc
    by_cases h0 : n / 128 = 0
    · rw [h0, hi_zero] at hc
      simp at hc
      have := congrArg UInt8.toNat hc
      rw [hd] at this
      simp at this
      omega
    · obtain ⟨x, t, hx⟩ := List.exists_cons_of_ne_nil (hi_ne (n / 128) (by omega))
      have h1 := hi_head (n / 128)
      rw [hx] at hc h1
      simp at hc
      exact h1 x rfl (by rw [hc]; rfl)
  unfold nx
  rw [hl, ht, hdr, val_enc]
  rw [if_neg (by intro h; rcases h with h | h
                 · exact hh h
                 · omega), if_neg (by rw [e]; simp)]
  by_cases hm : most < (n : Int)
  · rw [if_pos (.inr hm), if_pos hm]
  · rw [if_neg (by intro h; rcases h with h | h <;> omega), if_neg hm]

theorem rNum_enc (n : Nat) (hn : n ≤ M) (r : Bs) (most : Int) (hm : (n : Int) ≤ most) : rNum (enc n ++ r, 0) most = (n, (r, 0)) := by
  unfold rNum; simp [nx_enc n hn r most, Int.not_lt.2 hm]
theorem rText_enc (s r : Bs) (hs : s.length ≤ M) : rText (encT s ++ r, 0) = (s, (r, 0)) := by
  have : nx (encT s ++ r) M = (0, s.length, s ++ r) := by
    unfold encT; rw [List.append_assoc, nx_enc _ hs, if_neg (by omega)]
  unfold rText; simp [this]
theorem rtx_enc : ∀ (ps : List Bs) (r : Bs) (acc : List Bs), (∀ p ∈ ps, p.length ≤ M) → rtx ps.length (encL ps ++ r, 0) acc = (acc ++ ps, (r, 0))
  | [], r, acc, _ => by simp [rtx, encL]
  | p :: ps, r, acc, h => by
    have h1 := rText_enc p (encL ps ++ r) (h p (by simp))
    have h2 := rtx_enc ps r (acc ++ [p]) (fun q hq => h q (by simp [hq]))
    simp only [List.length_cons, rtx, encL_cons, List.append_assoc, h1]
    simp [h2]
theorem rTexts_enc (ps : List Bs) (r : Bs) (h : ∀ p ∈ ps, p.length ≤ M) (hl : ps.length ≤ M) : rTexts (encTs ps ++ r, 0) = (ps, (r, 0)) := by
  unfold rTexts encTs
  rw [List.append_assoc, rNum_enc _ hl _ _ (by omega)]
  simpa using rtx_enc ps r [] h

/-! What is read is what would be written. -/
theorem val_pos : ∀ (k : Nat) (a : Bs), a.length = k → a ≠ [] → (∀ x ∈ a, 128 ≤ x.toNat) → a.head? ≠ some 128 → 0 < val a ∧ hi (val a) = a := by
  intro k
  induction k with
  | zero => intro a h1 h2; exact absurd (List.eq_nil_of_length_eq_zero h1) h2
  | succ k ih =>
    intro a h1 h2 h3 h4
    obtain ⟨b, c, rfl⟩ : ∃ b c, a = b ++ [c] := ⟨_, _, (List.dropLast_concat_getLast h2).symm⟩
    have hc : 128 ≤ c.toNat := h3 c (by simp)
    have hc2 := c.toNat_lt
    by_cases hb : b = []
    · subst hb
      have hne : c.toNat ≠ 128 := by
        intro h; apply h4; simp; exact UInt8.toNat_inj.1 (by simpa using h)
      have hv : val ([] ++ [c]) = c.toNat - 128 := by rw [val_snoc, val_nil]; omega
      rw [hv, hi_pos _ (by omega)]
      refine ⟨by omega, ?_⟩
      rw [show (c.toNat - 128) / 128 = 0 by omega, hi_zero, show 128 + (c.toNat - 128) % 128 = c.toNat by omega, dg_of]
    · have hh : b.head? ≠ some 128 := by
        obtain ⟨x, t, rfl⟩ := List.exists_cons_of_ne_nil hb
        simpa using h4
      obtain ⟨h5, h6⟩ := ih b (by simpa using h1) hb (fun x hx => h3 x (by simp [hx])) hh
      rw [val_snoc, hi_pos _ (by omega)]
      refine ⟨by omega, ?_⟩
      rw [show (val b * 128 + c.toNat % 128) / 128 = val b by omega, h6, show 128 + (val b * 128 + c.toNat % 128) % 128 = c.toNat by omega, dg_of]

theorem nx_ok {l : Bs} {most : Int} {v : Nat} {r : Bs} (h : nx l most = (0, v, r)) : l = enc v ++ r ∧ v ≤ M ∧ (v : Int) ≤ most := by
  unfold nx at h
  by_cases h1 : l.head? = some 128 ∨ lead 7 l = 7
  · rw [if_pos h1] at h; simp at h
  rw [if_neg h1] at h
  by_cases h2 : lead 7 l = l.length
  · rw [if_pos h2] at h; simp at h
  rw [if_neg h2] at h
  by_cases h3 : M < val (l.take (lead 7 l + 1)) ∨ most < (val (l.take (lead 7 l + 1)) : Int)
  · rw [if_pos h3] at h; simp at h
  rw [if_neg h3] at h
  simp only [Prod.mk.injEq, true_and] at h
  obtain ⟨rfl, rfl⟩ := h
  have hle := lead_le 7 l
  have hll := lead_len 7 l
  obtain ⟨a, c, r, e, h4, h5, h6⟩ := lead_split 7 l (by omega) (by omega)
  have ht : l.take (lead 7 l + 1) = a ++ [c] := by
    rw [← h4, e]
    rw [show a ++ c :: r = (a ++ [c]) ++ r by simp, List.take_append_of_le_length (by simp)]
    apply List.take_of_length_le; simp
  have hd : l.drop (lead 7 l + 1) = r := by
    rw [← h4, e]
    rw [show a ++ c :: r = (a ++ [c]) ++ r by simp, List.drop_append_of_le_length (by simp), List.drop_of_length_le (by simp)]; rfl
  rw [ht, hd]
  rw [ht] at h3
  refine ⟨?_, by omega, by omega⟩
  have hv : val (a ++ [c]) / 128 = val a ∧ val (a ++ [c]) % 128 = c.toNat := by rw [val_snoc]; omega
  unfold enc
  rw [hv.1, hv.2, dg_of]
  by_cases ha : a = []
  · subst ha; rw [val_nil, hi_zero]; simpa using e
  · have hh : a.head? ≠ some 128 := by
      intro hc; apply h1; left; rw [e]
      obtain ⟨x, t, rfl⟩ := List.exists_cons_of_ne_nil ha
      simpa using hc
    rw [(val_pos _ a rfl ha h5 hh).2]
    simpa using e

theorem nx_err {l : Bs} {most : Int} (h : (nx l most).1 ≠ 0) : ((nx l most).1 = 3 ∨ (nx l most).1 = 21) ∧ (nx l most).2 = (0, []) := by
  unfold nx at h ⊢
  split <;> first | exact ⟨.inl rfl, rfl⟩ | skip
  split <;> first | exact ⟨.inr rfl, rfl⟩ | skip
  split <;> first | exact ⟨.inl rfl, rfl⟩ | skip
  rename_i h1 h2 h3
  rw [if_neg h1, if_neg h2, if_neg h3] at h
  simp at h

/-- Cut within a number. -/
theorem nx_cut (n : Nat) (hn : n ≤ M) (j : Nat) (hj : j < (enc n).length) (most : Int) : nx ((enc n).take j) most = (21, 0, []) := by
  have hlen := hi_len 6 (n / 128) (by unfold M at hn; omega)
  have hj' : j ≤ (hi (n / 128)).length := by unfold enc at hj; simp at hj; omega
  have e : (enc n).take j = (hi (n / 128)).take j := by unfold enc; rw [List.take_append_of_le_length hj']
  rw [e]
  have hl : lead 7 ((hi (n / 128)).take j) = ((hi (n / 128)).take j).length :=
    lead_all _ (fun x hx => hi_ge _ x (List.mem_of_mem_take hx)) (by rw [List.length_take]; omega)
  have hlt : ((hi (n / 128)).take j).length ≤ 6 := by rw [List.length_take]; omega
  have hh : ((hi (n / 128)).take j).head? ≠ some 128 := by
    intro hc
    cases j with
    | zero => simp at hc
    | succ j =>
      obtain ⟨x, t, hx⟩ := List.exists_cons_of_ne_nil (l := hi (n / 128)) (by intro h; rw [h] at hc; simp at hc)
      have h1 := hi_head (n / 128)
      rw [hx] at hc h1
      simp at hc
      exact h1 x rfl (by rw [hc]; rfl)
  unfold nx
  rw [hl, if_neg (by intro h; rcases h with h | h
                     · exact hh h
                     · omega), if_pos rfl]

theorem rText_cut (s : Bs) (hs : s.length ≤ M) (j : Nat) (hj : j < (encT s).length) : rText ((encT s).take j, 0) = ([], ([], 21)) := by
  by_cases h : j < (enc s.length).length
  · have e : (encT s).take j = (enc s.length).take j := by unfold encT; rw [List.take_append_of_le_length (by omega)]
    rw [e]
    unfold rText; simp [nx_cut _ hs j h]
  · have e : (encT s).take j = enc s.length ++ s.take (j - (enc s.length).length) := by unfold encT; rw [List.take_append, List.take_of_length_le (by omega)]
    have hn := nx_enc s.length hs (s.take (j - (enc s.length).length)) M
    rw [if_neg (by omega)] at hn
    rw [e]
    have : (s.take (j - (enc s.length).length)).length < s.length := by unfold encT at hj; simp at hj; rw [List.length_take]; omega
    unfold rText
    rw [if_neg (by simp), hn, if_neg (by simp), if_pos (by simpa using this)]

end Pm
end Go.Proofs.Ytidkihadlhkbkaa
