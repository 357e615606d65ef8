/- Texts of this proof, merged. -/
import Derived.Test.YtlmfinpmlilcgaaZC
import Derived.Test.YtlmfinpmlilcgaaZF
import Derived.Test.YtlmfinpmlilcgaaZH
import Derived.Test.YtlmfinpmlilcgaaZD
import Derived.Laws.Strings
import Derived.Laws.Strings2
import Derived.Deep.RegionHeld
set_option linter.unusedVariables false
set_option linter.unusedSimpArgs false
/- The arguments of the laws of layer 7: stores, parts. (gen_ip.py) -/
namespace Go.Proofs.Ytlmfinpmlilcgaa
set_option maxRecDepth 20000
set_option linter.unusedVariables false
open Go.ChangeShapes Go.WideShapes Go.ChangeAt Go.RowKit Pm Go.Deep
open Go.WideMaps Go.WideElems
open Go.ChangeMaps (setBlock shut_map_nil open_string shut_string)
theorem Try.cellsTu : Try.prog.cellsOf 72 = 2 := by kernel_rfl
theorem Try.bytesTu : Try.prog.bytesOf 72 = 24 := by kernel_rfl
theorem Try.cellsPt : Try.prog.cellsOf 46 = 7 := by kernel_rfl
theorem Try.cellsSt : Try.prog.cellsOf 26 = 2 := by kernel_rfl
theorem Try.cellsNs : Try.prog.cellsOf 23 = 1 := by kernel_rfl
theorem Try.cellsTs : Try.prog.cellsOf 24 = 1 := by kernel_rfl

section
variable {H : Type} {enc : TypeId × Value → H} {W : World}
theorem tu_of {n : Nat} {cs : List Value} {y : DataW H × List MemPlace} (hlen : cs.length = 2) (h : DataW.trod enc Try.prog W 0 (fun _ => true) true n 72 cs = some y) :
    ∃ x : Tu, cs = tuC x ∧ x.dir.length ≤ maxLen := by
  obtain ⟨xs, k, hk, hxy, _, hxl, hf⟩ := DataW.trod_struct Try.underlying72 h
  match xs, hxl, cs, hlen with
  | [y0, y1], _, [v0, v1], _ =>
    have g0 := hf 0 _ rfl
    have g1 := hf 1 _ rfl
    simp [Try.cellsStr'] at g0
    simp [Try.cellsI64] at g1
    obtain ⟨z0, e0, _, h0⟩ := DataW.trod_string Try.underlying9 g0
    obtain ⟨z1, e1, _, _⟩ := DataW.trod_int Try.underlying2 g1
    simp only [List.cons.injEq, and_true] at e0 e1
    subst e0 e1
    refine ⟨⟨z0.data.toList, z1⟩, ?_, ?_⟩
    · unfold tuC strV; rw [← B_of]
    · simpa using h0

/-- []Node within, opened. -/
theorem open_nodes_in {fuel : Nat} {v : Value} {y : DataW H × List MemPlace} (hf : DataW.trod enc Try.prog W 0 (fun _ => true) true fuel 23 [v] = some y) (hsz : ∀ n ∈ y.1.weights Try.prog 23, n ≤ reachBytes) :
    ∃ l, Ns W v l ∧ l.length ≤ 140737488355328 ∧ ∀ x ∈ l, x.path.length ≤ maxLen ∧ x.data.length ≤ maxLen := by
  rcases open_slice Try.underlying23 hf with ⟨hcs, hx⟩ | ⟨a, len, cap, m, n, D, Pl, hcs, _, hl, hm, hmm, hx, hel⟩
  · simp only [List.cons.injEq, and_true] at hcs
    subst hcs
    exact ⟨[], Ns.nil W, Nat.zero_le _, fun _ h => by cases h⟩
  · simp only [List.cons.injEq, and_true] at hcs
    subst hcs
    simp only [if_true] at hmm
    subst hmm
    have hlb : len ≤ 140737488355328 := by
      rw [hx] at hsz
      simp only [DataW.weights, Try.underlying23] at hsz
      have := hsz _ (List.mem_cons_self ..)
      rw [Try.bytesNd] at this
      simp only [List.length_map, List.length_range, reachBytes] at this
      omega
    have each : ∀ i, i < len → ∃ x : Nd, (∀ j (hj : j < 5), W.cell? (a.add (i * 5 + j)) = (ndC x)[j]?) ∧ x.path.length ≤ maxLen ∧ x.data.length ≤ maxLen := by
      intro i hi
      obtain ⟨cs', h1, h2⟩ := hel i (by omega)
      rw [Try.cellsNd] at h1
      obtain ⟨_, hlen, hcell⟩ := World.cells?_some h1
      obtain ⟨x, rfl, h3, h4⟩ := nd_of hlen h2
      refine ⟨x, fun j hj => ?_, h3, h4⟩
      have := hcell j (by omega)
      rw [add_add] at this
      exact this
    obtain ⟨f, hfi⟩ : ∃ f : Nat → Nd, ∀ i, i < len → (∀ j (hj : j < 5), W.cell? (a.add (i * 5 + j)) = (ndC (f i))[j]?) ∧ (f i).path.length ≤ maxLen ∧ (f i).data.length ≤ maxLen := by
      haveI : Inhabited Nd := ⟨zeroNd⟩
      exact choose_lt each
    have hlen : ((List.range len).map f).length = len := by simp
    by_cases h0 : len = 0
    · subst h0
      exact ⟨[], ⟨some a, m, rfl, by simp, hm, .inl rfl⟩, Nat.zero_le _, fun _ h => by cases h⟩
    · have hc0 := (hfi 0 (by omega)).1 0 (by omega)
      have hc0 : W.cell? a = some (.string (B (f 0).path)) := by simpa [Addr.add, ndC, strV] using hc0
      have hlt := World.block_lt_of_cell? W a hc0
      obtain ⟨g, o, rfl⟩ := spot_none hc0
      refine ⟨(List.range len).map f, ⟨some ⟨g, o, none⟩, m, by rw [hlen], by rw [hlen]; exact hl, hm, .inr ⟨g, o, rfl, hlt, fun i hi => ?_⟩⟩, by rw [hlen]; exact hlb, fun x hx => ?_⟩
      · rw [hlen] at hi
        obtain ⟨k1, _, _⟩ := hfi i (by omega)
        simp only [List.getElem_map, List.getElem_range]
        have q0 := k1 0 (by omega)
        have q1 := k1 1 (by omega)
        have q2 := k1 2 (by omega)
        have q3 := k1 3 (by omega)
        have q4 := k1 4 (by omega)
        rw [Addr.add_lit] at q0 q1 q2 q3 q4
        exact ⟨by simpa [ndC] using q0, by simpa [Nat.add_assoc, ndC] using q1, by simpa [Nat.add_assoc, ndC] using q2, by simpa [Nat.add_assoc, ndC] using q3, by simpa [Nat.add_assoc, ndC] using q4⟩
      · obtain ⟨i, hi, rfl⟩ := List.mem_map.1 hx
        exact (hfi i (List.mem_range.1 hi)).2

/-- []Turn within, opened. -/
theorem open_turns_in {fuel : Nat} {v : Value} {y : DataW H × List MemPlace} (hf : DataW.trod enc Try.prog W 0 (fun _ => true) true fuel 24 [v] = some y) (hsz : ∀ n ∈ y.1.weights Try.prog 24, n ≤ reachBytes) :
    ∃ l, Ts W v l ∧ l.length ≤ 140737488355328 ∧ ∀ x ∈ l, x.dir.length ≤ maxLen := by
  rcases open_slice Try.underlying24 hf with ⟨hcs, hx⟩ | ⟨a, len, cap, m, n, D, Pl, hcs, _, hl, hm, hmm, hx, hel⟩
  · simp only [List.cons.injEq, and_true] at hcs
    subst hcs
    exact ⟨[], Ts.nil W, Nat.zero_le _, fun _ h => by cases h⟩
  · simp only [List.cons.injEq, and_true] at hcs
    subst hcs
    simp only [if_true] at hmm
    subst hmm
    have hlb : len ≤ 140737488355328 := by
      rw [hx] at hsz
      simp only [DataW.weights, Try.underlying24] at hsz
      have := hsz _ (List.mem_cons_self ..)
      rw [Try.bytesTu] at this
      simp only [List.length_map, List.length_range, reachBytes] at this
      omega
    have each : ∀ i, i < len → ∃ x : Tu, (∀ j (hj : j < 2), W.cell? (a.add (i * 2 + j)) = (tuC x)[j]?) ∧ x.dir.length ≤ maxLen := by
      intro i hi
      obtain ⟨cs', h1, h2⟩ := hel i (by omega)
      rw [Try.cellsTu] at h1
      obtain ⟨_, hlen, hcell⟩ := World.cells?_some h1
      obtain ⟨x, rfl, h3⟩ := tu_of hlen h2
      refine ⟨x, fun j hj => ?_, h3⟩
      have := hcell j (by omega)
      rw [add_add] at this
      exact this
    obtain ⟨f, hfi⟩ : ∃ f : Nat → Tu, ∀ i, i < len → (∀ j (hj : j < 2), W.cell? (a.add (i * 2 + j)) = (tuC (f i))[j]?) ∧ (f i).dir.length ≤ maxLen := by
      haveI : Inhabited Tu := ⟨⟨[], 0⟩⟩
      exact choose_lt each
    have hlen : ((List.range len).map f).length = len := by simp
    by_cases h0 : len = 0
    · subst h0
      exact ⟨[], ⟨some a, m, rfl, by simp, hm, .inl rfl⟩, Nat.zero_le _, fun _ h => by cases h⟩
    · have hc0 := (hfi 0 (by omega)).1 0 (by omega)
      have hc0 : W.cell? a = some (.string (B (f 0).dir)) := by simpa [Addr.add, tuC, strV] using hc0
      have hlt := World.block_lt_of_cell? W a hc0
      obtain ⟨g, o, rfl⟩ := spot_none hc0
      refine ⟨(List.range len).map f, ⟨some ⟨g, o, none⟩, m, by rw [hlen], by rw [hlen]; exact hl, hm, .inr ⟨g, o, rfl, hlt, fun i hi => ?_⟩⟩, by rw [hlen]; exact hlb, fun x hx => ?_⟩
      · rw [hlen] at hi
        obtain ⟨k1, _⟩ := hfi i (by omega)
        simp only [List.getElem_map, List.getElem_range]
        have q0 := k1 0 (by omega)
        have q1 := k1 1 (by omega)
        rw [Addr.add_lit] at q0 q1
        exact ⟨by simpa [tuC] using q0, by simpa [Nat.add_assoc, tuC] using q1⟩
      · obtain ⟨i, hi, rfl⟩ := List.mem_map.1 hx
        exact (hfi i (List.mem_range.1 hi)).2

/-- A store, opened. -/
theorem open_store {v : Value} {d : DataW H} {p : List MemPlace} {base : Nat} (hv : Value.okWide Try.prog W .any base 26 v) (h : DataW.Trod enc Try.prog W 0 (fun _ => true) true 26 v d p) (hsz : ∀ n ∈ d.weights Try.prog 26, n ≤ reachBytes) :
    ∃ s : St, Sto W v s ∧ s.nodes.length ≤ 140737488355328 ∧ s.turns.length ≤ 140737488355328 := by
  obtain ⟨cs, rfl, hcs⟩ := okWide_struct Try.underlying26 hv
  rw [Try.cellsSt] at hcs
  obtain ⟨fuel, hf⟩ := h
  have hf : DataW.trod enc Try.prog W 0 (fun _ => true) true fuel 26 cs.toList = some (d, p) := by simpa [Value.cells] using hf
  obtain ⟨cs⟩ := cs
  simp only at hf
  have hlen : cs.length = 2 := by simpa using hcs
  obtain ⟨xs, k, hk, hxy, _, hxl, hf⟩ := DataW.trod_struct Try.underlying26 hf
  match xs, hxl, cs, hlen with
  | [y0, y1], _, [v0, v1], _ =>
    have g0 := hf 0 _ rfl
    have g1 := hf 1 _ rfl
    simp [Try.cellsNs] at g0
    simp [Try.cellsTs] at g1
    have hd := congrArg Prod.fst hxy
    simp only at hd
    obtain ⟨l0, h0, n0, _⟩ := open_nodes_in g0 (fun n hn => hsz n (by rw [hd]; simp only [DataW.weights, Try.underlying26, List.map_cons, List.map_nil, DataW.weightsEach, List.mem_append]; simp [hn]))
    obtain ⟨l1, h1, n1, _⟩ := open_turns_in g1 (fun n hn => hsz n (by rw [hd]; simp only [DataW.weights, Try.underlying26, List.map_cons, List.map_nil, DataW.weightsEach, List.mem_append]; simp [hn]))
    exact ⟨⟨l0, l1⟩, ⟨v0, v1, rfl, h0, h1⟩, n0, n1⟩

/-- A part, opened. -/
theorem open_part {v : Value} {d : DataW H} {p : List MemPlace} {base : Nat} (hv : Value.okWide Try.prog W .any base 46 v) (h : DataW.Trod enc Try.prog W 0 (fun _ => true) true 46 v d p) :
    ∃ x : Pt, v = ptV x ∧ True := by
  obtain ⟨cs, rfl, hcs⟩ := okWide_struct Try.underlying46 hv
  rw [Try.cellsPt] at hcs
  obtain ⟨fuel, hf⟩ := h
  have hf : DataW.trod enc Try.prog W 0 (fun _ => true) true fuel 46 cs.toList = some (d, p) := by simpa [Value.cells] using hf
  obtain ⟨cs⟩ := cs
  simp only at hf
  have hlen : cs.length = 7 := by simpa using hcs
  obtain ⟨xs, k, hk, hxy, _, hxl, hf⟩ := DataW.trod_struct Try.underlying46 hf
  match xs, hxl, cs, hlen with
  | [y0, y1, y2, y3, y4, y5, y6], _, [v0, v1, v2, v3, v4, v5, v6], _ =>
    have g0 := hf 0 _ rfl
    have g1 := hf 1 _ rfl
    have g2 := hf 2 _ rfl
    have g3 := hf 3 _ rfl
    have g4 := hf 4 _ rfl
    have g5 := hf 5 _ rfl
    have g6 := hf 6 _ rfl
    simp [Try.cellsInt] at g0
    simp [Try.cellsStr'] at g1
    simp [Try.cellsStr'] at g2
    simp [Try.cellsStr'] at g3
    simp [Try.cellsI64] at g4
    simp [Try.cellsI64] at g5
    simp [Try.cellsBoo] at g6
    obtain ⟨z0, e0, _, _⟩ := DataW.trod_int Try.underlying3 g0
    obtain ⟨z1, e1, _, _⟩ := DataW.trod_string Try.underlying9 g1
    obtain ⟨z2, e2, _, _⟩ := DataW.trod_string Try.underlying9 g2
    obtain ⟨z3, e3, _, _⟩ := DataW.trod_string Try.underlying9 g3
    obtain ⟨z4, e4, _, _⟩ := DataW.trod_int Try.underlying2 g4
    obtain ⟨z5, e5, _, _⟩ := DataW.trod_int Try.underlying2 g5
    obtain ⟨z6, e6, _⟩ := DataW.trod_bool Try.underlying4 g6
    simp only [List.cons.injEq, and_true] at e0 e1 e2 e3 e4 e5 e6
    subst e0 e1 e2 e3 e4 e5 e6
    exact ⟨⟨z0, z1.data.toList, z2.data.toList, z3.data.toList, z4, z5, z6⟩, by unfold ptV strV; rw [← B_of, ← B_of, ← B_of], trivial⟩
end
end Go.Proofs.Ytlmfinpmlilcgaa

/- Plain lists: numbers and texts as bytes, and back. Nothing of the program. -/
namespace Go.Proofs.Ytlmfinpmlilcgaa
set_option maxRecDepth 20000
namespace Pm

/-- The greatest number. -/
def M : Nat := 281474976710656

def dg (n : Nat) : UInt8 := UInt8.ofNat n
theorem dg_toNat (n : Nat) (h : n < 256) : (dg n).toNat = n := by unfold dg; simp; omega
theorem dg_of (c : UInt8) : dg c.toNat = c := by unfold dg; simp

/-- A number's digits, each with 128 more. -/
def hi (n : Nat) : Bs := if _h : n = 0 then [] else hi (n / 128) ++ [dg (128 + n % 128)]
  termination_by n
  decreasing_by omega

theorem hi_zero : hi 0 = [] := by rw [hi]; simp
theorem hi_pos (n : Nat) (h : 0 < n) : hi n = hi (n / 128) ++ [dg (128 + n % 128)] := by rw [hi]; simp [Nat.ne_of_gt h]

/-- A number's bytes. -/
def enc (n : Nat) : Bs := hi (n / 128) ++ [dg (n % 128)]

def val (l : Bs) : Nat := l.foldl (fun a c => a * 128 + c.toNat % 128) 0
theorem val_nil : val [] = 0 := rfl
theorem val_snoc (a : Bs) (c : UInt8) : val (a ++ [c]) = val a * 128 + c.toNat % 128 := by unfold val; rw [List.foldl_append]; rfl

theorem val_hi : ∀ n, val (hi n) = n := by
  intro n
  induction n using Nat.strongRecOn with
  | ind n ih =>
    by_cases h : n = 0
    · subst h; rw [hi_zero]; rfl
    · rw [hi_pos n (by omega), val_snoc, ih (n / 128) (by omega), dg_toNat _ (by omega)]; omega

theorem hi_ge : ∀ n, ∀ c ∈ hi n, 128 ≤ c.toNat := by
  intro n
  induction n using Nat.strongRecOn with
  | ind n ih =>
    intro c hc
    by_cases h : n = 0
    · subst h; rw [hi_zero] at hc; cases hc
    · rw [hi_pos n (by omega)] at hc
      rcases List.mem_append.1 hc with h1 | h1
      · exact ih (n / 128) (by omega) c h1
      · simp at h1; subst h1; rw [dg_toNat _ (by omega)]; omega

theorem hi_ne (n : Nat) (h : 0 < n) : hi n ≠ [] := by rw [hi_pos n h]; simp

theorem hi_head : ∀ n c, (hi n).head? = some c → c.toNat ≠ 128 := by
  intro n
  induction n using Nat.strongRecOn with
  | ind n ih =>
    intro c hc
    by_cases h : n = 0
    · subst h; rw [hi_zero] at hc; cases hc
    · rw [hi_pos n (by omega)] at hc
      by_cases h2 : n / 128 = 0
      · rw [h2, hi_zero] at hc; simp at hc; subst hc; rw [dg_toNat _ (by omega)]; omega
      · obtain ⟨x, r, hx⟩ := List.exists_cons_of_ne_nil (hi_ne (n / 128) (by omega))
        have := ih (n / 128) (by omega)
        rw [hx] at this hc
        simp at hc; subst hc
        exact this x rfl

theorem hi_len : ∀ k n, n < 128 ^ k → (hi n).length ≤ k
  | 0, n, h => by have : n = 0 := by simpa using h
                  subst this; rw [hi_zero]; simp
  | k + 1, n, h => by
    by_cases h0 : n = 0
    · subst h0; rw [hi_zero]; simp
    · rw [hi_pos n (by omega)]
      have := hi_len k (n / 128) (by rw [Nat.pow_succ] at h; omega)
      simp; omega

theorem hi_mono : ∀ n m, n ≤ m → (hi n).length ≤ (hi m).length := by
  intro n
  induction n using Nat.strongRecOn with
  | ind n ih =>
    intro m hm
    by_cases h : n = 0
    · subst h; rw [hi_zero]; simp
    · rw [hi_pos n (by omega), hi_pos m (by omega)]
      have := ih (n / 128) (by omega) (m / 128) (by omega)
      simp; omega

theorem enc_len (n : Nat) (h : n ≤ M) : 1 ≤ (enc n).length ∧ (enc n).length ≤ 7 := by
  have := hi_len 6 (n / 128) (by unfold M at h; omega)
  unfold enc; simp; omega
theorem enc_pos (n : Nat) : 0 < (enc n).length := by unfold enc; simp
theorem enc_mono (a b : Nat) (h : a ≤ b) : (enc a).length ≤ (enc b).length := by
  have := hi_mono (a / 128) (b / 128) (by omega)
  unfold enc; simp; omega
theorem val_enc (n : Nat) : val (enc n) = n := by
  unfold enc; rw [val_snoc, val_hi, dg_toNat _ (by omega)]; omega
theorem enc_inj {a b : Nat} (h : enc a = enc b) : a = b := by rw [← val_enc a, h, val_enc]

/-- How many bytes at the front are at least 128, at most k. -/
def lead : Nat → Bs → Nat
  | 0, _ => 0
  | _ + 1, [] => 0
  | k + 1, c :: r => if 128 ≤ c.toNat then lead k r + 1 else 0

theorem lead_le : ∀ (k : Nat) (l : Bs), lead k l ≤ k
  | 0, _ => Nat.le_refl _
  | _ + 1, [] => Nat.zero_le _
  | k + 1, c :: r => by unfold lead; split <;> have := lead_le k r <;> omega
theorem lead_len : ∀ (k : Nat) (l : Bs), lead k l ≤ l.length
  | 0, _ => Nat.zero_le _
  | _ + 1, [] => Nat.zero_le _
  | k + 1, c :: r => by unfold lead; split <;> have := lead_len k r <;> simp <;> omega

theorem lead_skip : ∀ (n k : Nat) (l : Bs), n ≤ k → n ≤ l.length → (∀ i (h : i < l.length), i < n → 128 ≤ l[i].toNat) → lead k l = n + lead (k - n) (l.drop n)
  | 0, k, l, _, _, _ => by simp
  | n + 1, 0, l, h, _, _ => by omega
  | n + 1, k + 1, [], _, h, _ => by simp at h
  | n + 1, k + 1, c :: r, h1, h2, h3 => by
    have h0 := h3 0 (by simp) (by omega)
    simp at h0
    have := lead_skip n k r (by omega) (by simpa using h2) (fun i hi hn => by have := h3 (i + 1) (by simp; omega) (by omega); simpa using this)
    rw [show lead (k + 1) (c :: r) = lead k r + 1 from by simp [lead, h0], this, Nat.add_sub_add_right, List.drop_succ_cons]; omega

theorem lead_stop (n : Nat) (l : Bs) (hn : n ≤ 7) (hl : n ≤ l.length) (h : ∀ i (h : i < l.length), i < n → 128 ≤ l[i].toNat)
    (hs : n = 7 ∨ n = l.length ∨ ∃ h : n < l.length, l[n].toNat < 128) : lead 7 l = n := by
  rw [lead_skip n 7 l hn hl h]
  rcases hs with rfl | rfl | ⟨h1, h2⟩
  · simp [lead]
  · rw [List.drop_of_length_le (Nat.le_refl _)]
    cases hh : 7 - l.length <;> simp [lead]
  · rw [List.drop_eq_getElem_cons h1]
    cases hh : 7 - n
    · simp [lead]
    · simp [lead]; omega

theorem lead_split : ∀ (k : Nat) (l : Bs), lead k l < k → lead k l < l.length → ∃ a c r, l = a ++ c :: r ∧ a.length = lead k l ∧ (∀ x ∈ a, 128 ≤ x.toNat) ∧ c.toNat < 128
  | 0, _, h, _ => by omega
  | k + 1, [], _, h => by simp at h
  | k + 1, c :: r, h1, h2 => by
    by_cases hc : 128 ≤ c.toNat
    · have e : lead (k + 1) (c :: r) = lead k r + 1 := by simp [lead, hc]
      rw [e] at h1 h2 ⊢
      obtain ⟨a, d, t, h3, h4, h5, h6⟩ := lead_split k r (by omega) (by simpa using h2)
      exact ⟨c :: a, d, t, by rw [h3]; rfl, by simp [h4], by intro x hx; rcases List.mem_cons.1 hx with rfl | hx
                                                             · exact hc
                                                             · exact h5 x hx, h6⟩
    · exact ⟨[], c, r, rfl, by simp [lead, hc], by simp, by omega⟩

theorem lead_of (a : Bs) (ha : ∀ x ∈ a, 128 ≤ x.toNat) (c : UInt8) (hc : c.toNat < 128) (r : Bs) (hk : a.length ≤ 7) : lead 7 (a ++ c :: r) = a.length := by
  apply lead_stop _ _ hk (by simp) _ (.inr (.inr ⟨by simp, by simpa using hc⟩))
  intro i h1 h2
  rw [List.getElem_append_left h2]
  exact ha _ (List.getElem_mem h2)
theorem lead_all (a : Bs) (ha : ∀ x ∈ a, 128 ≤ x.toNat) (hk : a.length ≤ 7) : lead 7 a = a.length := by
  apply lead_stop _ _ hk (Nat.le_refl _) _ (.inr (.inl rfl))
  intro i h1 h2
  exact ha _ (List.getElem_mem h2)

/-- The next number: the error, the number, what is left. -/
def nx (l : Bs) (most : Int) : Int × Nat × Bs :=
  if l.head? = some 128 ∨ lead 7 l = 7 then (3, 0, [])
  else if lead 7 l = l.length then (21, 0, [])
  else if M < val (l.take (lead 7 l + 1)) ∨ most < (val (l.take (lead 7 l + 1)) : Int) then (3, 0, [])
  else (0, val (l.take (lead 7 l + 1)), l.drop (lead 7 l + 1))

abbrev Rst := Bs × Int

def rNum (s : Rst) (most : Int) : Nat × Rst := if s.2 ≠ 0 then (0, s) else ((nx s.1 most).2.1, ((nx s.1 most).2.2, (nx s.1 most).1))
def rText (s : Rst) : Bs × Rst :=
  if s.2 ≠ 0 then ([], s) else if (nx s.1 M).1 ≠ 0 then ([], ([], (nx s.1 M).1))
  else if (nx s.1 M).2.2.length < (nx s.1 M).2.1 then ([], ([], 21))
  else ((nx s.1 M).2.2.take (nx s.1 M).2.1, ((nx s.1 M).2.2.drop (nx s.1 M).2.1, 0))
def rtx : Nat → Rst → List Bs → List Bs × Rst
  | 0, s, acc => (acc, s)
  | n + 1, s, acc => if (rText s).2.2 ≠ 0 then ([], (rText s).2) else rtx n (rText s).2 (acc ++ [(rText s).1])
def rTexts (s : Rst) : List Bs × Rst := rtx (rNum s M).1 (rNum s M).2 []

def encT (s : Bs) : Bs := enc s.length ++ s
def encL (ps : List Bs) : Bs := (ps.map encT).flatten
def encTs (ps : List Bs) : Bs := enc ps.length ++ encL ps

theorem encL_take_succ (r : List Bs) (k : Nat) (h : k < r.length) : encL (r.take (k + 1)) = encL (r.take k) ++ encT r[k] := by
  rw [List.take_succ_eq_append_getElem h]; unfold encL; rw [List.map_append, List.flatten_append]; simp
theorem encL_cons (p : Bs) (r : List Bs) : encL (p :: r) = encT p ++ encL r := by simp [encL]

/-! What is written is read. -/
theorem nx_enc (n : Nat) (hn : n ≤ M) (r : Bs) (most : Int) : nx (enc n ++ r) most = if most < (n : Int) then (3, 0, []) else (0, n, r) := by
  have hlen := hi_len 6 (n / 128) (by unfold M at hn; omega)
  have hd : (dg (n % 128)).toNat = n % 128 := dg_toNat _ (by omega)
  have e : enc n ++ r = hi (n / 128) ++ dg (n % 128) :: r := by unfold enc; simp
  have hl : lead 7 (enc n ++ r) = (hi (n / 128)).length := by rw [e]; exact lead_of _ (hi_ge _) _ (by omega) _ (by omega)
  have ht : (enc n ++ r).take ((hi (n / 128)).length + 1) = enc n := by
    rw [List.take_append_of_le_length (by unfold enc; simp)]; apply List.take_of_length_le; unfold enc; simp
  have hdr : (enc n ++ r).drop ((hi (n / 128)).length + 1) = r := by
    rw [List.drop_append_of_le_length (by unfold enc; simp), List.drop_of_length_le (by unfold enc; simp)]; rfl
  have hh : (enc n ++ r).head? ≠ some 128 := by
    intro hc
    rw [e] at hc
    by_cases h0 : n / 128 = 0
    · rw [h0, hi_zero] at hc
      simp at hc
      have := congrArg UInt8.toNat hc
      rw [hd] at this
      simp at this
      omega
    · obtain ⟨x, t, hx⟩ := List.exists_cons_of_ne_nil (hi_ne (n / 128) (by omega))
      have h1 := hi_head (n / 128)
      rw [hx] at hc h1
      simp at hc
      exact h1 x rfl (by rw [hc]; rfl)
  unfold nx
  rw [hl, ht, hdr, val_enc]
  rw [if_neg (by intro h; rcases h with h | h
                 · exact hh h
                 · omega), if_neg (by rw [e]; simp)]
  by_cases hm : most < (n : Int)
  · rw [if_pos (.inr hm), if_pos hm]
  · rw [if_neg (by intro h; rcases h with h | h <;> omega), if_neg hm]

theorem rNum_enc (n : Nat) (hn : n ≤ M) (r : Bs) (most : Int) (hm : (n : Int) ≤ most) : rNum (enc n ++ r, 0) most = (n, (r, 0)) := by
  unfold rNum; simp [nx_enc n hn r most, Int.not_lt.2 hm]
theorem rText_enc (s r : Bs) (hs : s.length ≤ M) : rText (encT s ++ r, 0) = (s, (r, 0)) := by
  have : nx (encT s ++ r) M = (0, s.length, s ++ r) := by
    unfold encT; rw [List.append_assoc, nx_enc _ hs, if_neg (by omega)]
  unfold rText; simp [this]
theorem rtx_enc : ∀ (ps : List Bs) (r : Bs) (acc : List Bs), (∀ p ∈ ps, p.length ≤ M) → rtx ps.length (encL ps ++ r, 0) acc = (acc ++ ps, (r, 0))
  | [], r, acc, _ => by simp [rtx, encL]
  | p :: ps, r, acc, h => by
    have h1 := rText_enc p (encL ps ++ r) (h p (by simp))
    have h2 := rtx_enc ps r (acc ++ [p]) (fun q hq => h q (by simp [hq]))
    simp only [List.length_cons, rtx, encL_cons, List.append_assoc, h1]
    simp [h2]
theorem rTexts_enc (ps : List Bs) (r : Bs) (h : ∀ p ∈ ps, p.length ≤ M) (hl : ps.length ≤ M) : rTexts (encTs ps ++ r, 0) = (ps, (r, 0)) := by
  unfold rTexts encTs
  rw [List.append_assoc, rNum_enc _ hl _ _ (by omega)]
  simpa using rtx_enc ps r [] h

/-! What is read is what would be written. -/
theorem val_pos : ∀ (k : Nat) (a : Bs), a.length = k → a ≠ [] → (∀ x ∈ a, 128 ≤ x.toNat) → a.head? ≠ some 128 → 0 < val a ∧ hi (val a) = a := by
  intro k
  induction k with
  | zero => intro a h1 h2; exact absurd (List.eq_nil_of_length_eq_zero h1) h2
  | succ k ih =>
    intro a h1 h2 h3 h4
    obtain ⟨b, c, rfl⟩ : ∃ b c, a = b ++ [c] := ⟨_, _, (List.dropLast_concat_getLast h2).symm⟩
    have hc : 128 ≤ c.toNat := h3 c (by simp)
    have hc2 := c.toNat_lt
    by_cases hb : b = []
    · subst hb
      have hne : c.toNat ≠ 128 := by
        intro h; apply h4; simp; exact UInt8.toNat_inj.1 (by simpa using h)
      have hv : val ([] ++ [c]) = c.toNat - 128 := by rw [val_snoc, val_nil]; omega
      rw [hv, hi_pos _ (by omega)]
      refine ⟨by omega, ?_⟩
      rw [show (c.toNat - 128) / 128 = 0 by omega, hi_zero, show 128 + (c.toNat - 128) % 128 = c.toNat by omega, dg_of]
    · have hh : b.head? ≠ some 128 := by
        obtain ⟨x, t, rfl⟩ := List.exists_cons_of_ne_nil hb
        simpa using h4
      obtain ⟨h5, h6⟩ := ih b (by simpa using h1) hb (fun x hx => h3 x (by simp [hx])) hh
      rw [val_snoc, hi_pos _ (by omega)]
      refine ⟨by omega, ?_⟩
      rw [show (val b * 128 + c.toNat % 128) / 128 = val b by omega, h6, show 128 + (val b * 128 + c.toNat % 128) % 128 = c.toNat by omega, dg_of]

theorem nx_ok {l : Bs} {most : Int} {v : Nat} {r : Bs} (h : nx l most = (0, v, r)) : l = enc v ++ r ∧ v ≤ M ∧ (v : Int) ≤ most := by
  unfold nx at h
  by_cases h1 : l.head? = some 128 ∨ lead 7 l = 7
  · rw [if_pos h1] at h; simp at h
  rw [if_neg h1] at h
  by_cases h2 : lead 7 l = l.length
  · rw [if_pos h2] at h; simp at h
  rw [if_neg h2] at h
  by_cases h3 : M < val (l.take (lead 7 l + 1)) ∨ most < (val (l.take (lead 7 l + 1)) : Int)
  · rw [if_pos h3] at h; simp at h
  rw [if_neg h3] at h
  simp only [Prod.mk.injEq, true_and] at h
  obtain ⟨rfl, rfl⟩ := h
  have hle := lead_le 7 l
  have hll := lead_len 7 l
  obtain ⟨a, c, r, e, h4, h5, h6⟩ := lead_split 7 l (by omega) (by omega)
  have ht : l.take (lead 7 l + 1) = a ++ [c] := by
    rw [← h4, e]
    rw [show a ++ c :: r = (a ++ [c]) ++ r by simp, List.take_append_of_le_length (by simp)]
    apply List.take_of_length_le; simp
  have hd : l.drop (lead 7 l + 1) = r := by
    rw [← h4, e]
    rw [show a ++ c :: r = (a ++ [c]) ++ r by simp, List.drop_append_of_le_length (by simp), List.drop_of_length_le (by simp)]; rfl
  rw [ht, hd]
  rw [ht] at h3
  refine ⟨?_, by omega, by omega⟩
  have hv : val (a ++ [c]) / 128 = val a ∧ val (a ++ [c]) % 128 = c.toNat := by rw [val_snoc]; omega
  unfold enc
  rw [hv.1, hv.2, dg_of]
  by_cases ha : a = []
  · subst ha; rw [val_nil, hi_zero]; simpa using e
  · have hh : a.head? ≠ some 128 := by
      intro hc; apply h1; left; rw [e]
      obtain ⟨x, t, rfl⟩ := List.exists_cons_of_ne_nil ha
      simpa using hc
    rw [(val_pos _ a rfl ha h5 hh).2]
    simpa using e

theorem nx_err {l : Bs} {most : Int} (h : (nx l most).1 ≠ 0) : ((nx l most).1 = 3 ∨ (nx l most).1 = 21) ∧ (nx l most).2 = (0, []) := by
  unfold nx at h ⊢
  split <;> first | exact ⟨.inl rfl, rfl⟩ | skip
  split <;> first | exact ⟨.inr rfl, rfl⟩ | skip
  split <;> first | exact ⟨.inl rfl, rfl⟩ | skip
  rename_i h1 h2 h3
  rw [if_neg h1, if_neg h2, if_neg h3] at h
  simp at h

/-- Cut within a number. -/
theorem nx_cut (n : Nat) (hn : n ≤ M) (j : Nat) (hj : j < (enc n).length) (most : Int) : nx ((enc n).take j) most = (21, 0, []) := by
  have hlen := hi_len 6 (n / 128) (by unfold M at hn; omega)
  have hj' : j ≤ (hi (n / 128)).length := by unfold enc at hj; simp at hj; omega
  have e : (enc n).take j = (hi (n / 128)).take j := by unfold enc; rw [List.take_append_of_le_length hj']
  rw [e]
  have hl : lead 7 ((hi (n / 128)).take j) = ((hi (n / 128)).take j).length :=
    lead_all _ (fun x hx => hi_ge _ x (List.mem_of_mem_take hx)) (by rw [List.length_take]; omega)
  have hlt : ((hi (n / 128)).take j).length ≤ 6 := by rw [List.length_take]; omega
  have hh : ((hi (n / 128)).take j).head? ≠ some 128 := by
    intro hc
    cases j with
    | zero => simp at hc
    | succ j =>
      obtain ⟨x, t, hx⟩ := List.exists_cons_of_ne_nil (l := hi (n / 128)) (by intro h; rw [h] at hc; simp at hc)
      have h1 := hi_head (n / 128)
      rw [hx] at hc h1
      simp at hc
      exact h1 x rfl (by rw [hc]; rfl)
  unfold nx
  rw [hl, if_neg (by intro h; rcases h with h | h
                     · exact hh h
                     · omega), if_pos rfl]

theorem rText_cut (s : Bs) (hs : s.length ≤ M) (j : Nat) (hj : j < (encT s).length) : rText ((encT s).take j, 0) = ([], ([], 21)) := by
  by_cases h : j < (enc s.length).length
  · have e : (encT s).take j = (enc s.length).take j := by unfold encT; rw [List.take_append_of_le_length (by omega)]
    rw [e]
    unfold rText; simp [nx_cut _ hs j h]
  · have e : (encT s).take j = enc s.length ++ s.take (j - (enc s.length).length) := by unfold encT; rw [List.take_append, List.take_of_length_le (by omega)]
    have hn := nx_enc s.length hs (s.take (j - (enc s.length).length)) M
    rw [if_neg (by omega)] at hn
    rw [e]
    have : (s.take (j - (enc s.length).length)).length < s.length := by unfold encT at hj; simp at hj; rw [List.length_take]; omega
    unfold rText
    rw [if_neg (by simp), hn, if_neg (by simp), if_pos (by simpa using this)]

end Pm
end Go.Proofs.Ytlmfinpmlilcgaa

/- Plain lists: commands, their bytes, what is read of bytes. Nothing of the program. -/
namespace Go.Proofs.Ytlmfinpmlilcgaa
set_option maxRecDepth 20000
namespace Pm

structure Pe where
  op : Int
  p : Pt
deriving DecidableEq

structure Cd where
  kind : Int
  id : Int
  txn : Int
  age : Int
  yes : Bool
  ps : List Pe
  pre : Bs
  ep : Int
  to : Int
  st : St
  gone : List Bs
  ws : Int
  wn : Int
  wp : Bs
  deep : Bool
deriving DecidableEq

def fl (b : Bool) : Int := if b then 1 else 0
/-- May a number be written? -/
def num (n : Int) : Prop := 0 ≤ n ∧ n ≤ 281474976710656
instance (n : Int) : Decidable (num n) := inferInstanceAs (Decidable (_ ∧ _))
def encI (n : Int) : Bs := enc n.toNat
def encN : List Int → Bs
  | [] => []
  | n :: r => encI n ++ encN r
def encPe (x : Pe) : Bs := encN [x.op, x.p.kind] ++ encT x.p.dir ++ encT x.p.path ++ encT x.p.data ++ encN [x.p.ver + 1, x.p.own] ++ encI (fl x.p.turns)
def encNd (x : Nd) : Bs := encT x.path ++ encT x.data ++ encN [x.ver, x.own]
def encTu (x : Tu) : Bs := encT x.dir ++ encI x.next
section
variable {α : Type}
def encF (f : α → Bs) (l : List α) : Bs := (l.map f).flatten
def encS (f : α → Bs) (l : List α) : Bs := enc l.length ++ encF f l
theorem encF_cons (f : α → Bs) (x : α) (l : List α) : encF f (x :: l) = f x ++ encF f l := by simp [encF]
theorem encF_app (f : α → Bs) (a b : List α) : encF f (a ++ b) = encF f a ++ encF f b := by simp [encF]
theorem encF_take (f : α → Bs) (l : List α) (k : Nat) (h : k < l.length) : encF f (l.take (k + 1)) = encF f (l.take k) ++ f l[k] := by
  rw [List.take_succ_eq_append_getElem h, encF_app]; simp [encF]
end
/-- A command's bytes. -/
def encCd (c : Cd) : Bs :=
  encN [c.kind, c.id, c.txn, c.age] ++ encI (fl c.yes) ++ encS encPe c.ps ++ encT c.pre ++ encN [c.ep, c.to] ++ encS encNd c.st.nodes ++ encS encTu c.st.turns ++
  encTs c.gone ++ encN [c.ws, c.wn] ++ encT c.wp ++ encI (fl c.deep)

/-! What is read. -/
def rFl (s : Rst) : Bool × Rst := (decide ((rNum s 1).1 = 1), (rNum s 1).2)
def rPe (s : Rst) : Pe × Rst :=
  let a1 := rNum s 7; let a2 := rNum a1.2 10; let a3 := rText a2.2; let a4 := rText a3.2; let a5 := rText a4.2
  let a6 := rNum a5.2 281474976710656; let a7 := rNum a6.2 1099511627776; let a8 := rFl a7.2
  (⟨a1.1, ⟨a2.1, a3.1, a4.1, a5.1, (a6.1 : Int) - 1, a7.1, a8.1⟩⟩, a8.2)
def rNd (s : Rst) : Nd × Rst :=
  let a1 := rText s; let a2 := rText a1.2; let a3 := rNum a2.2 281474976710656; let a4 := rNum a3.2 1099511627776
  (⟨a1.1, a2.1, a3.1, 0, a4.1⟩, a4.2)
def rTu (s : Rst) : Tu × Rst := let a1 := rText s; let a2 := rNum a1.2 10000; (⟨a1.1, a2.1⟩, a2.2)
section
variable {α : Type}
def rIt (g : Rst → α × Rst) : Nat → Rst → List α × Rst
  | 0, s => ([], s)
  | k + 1, s => ((rIt g k s).1 ++ [(g (rIt g k s).2).1], (g (rIt g k s).2).2)
def rLs (g : Rst → α × Rst) (most : Int) (s : Rst) : List α × Rst := rIt g (rNum s most).1 (rNum s most).2
end
def rCd (s : Rst) : Cd × Rst :=
  let a1 := rNum s 13; let a2 := rNum a1.2 281474976710656; let a3 := rNum a2.2 281474976710656; let a4 := rNum a3.2 281474976710656; let a5 := rFl a4.2
  let a6 := rLs rPe 16 a5.2; let a7 := rText a6.2; let a8 := rNum a7.2 281474976710656; let a9 := rNum a8.2 3
  let b1 := rLs rNd 512 a9.2; let b2 := rLs rTu 512 b1.2; let b3 := rLs rText 32 b2.2
  let b4 := rNum b3.2 281474976710656; let b5 := rNum b4.2 281474976710656; let b6 := rText b5.2; let b7 := rFl b6.2
  (⟨a1.1, a2.1, a3.1, a4.1, a5.1, a6.1, a7.1, a8.1, a9.1, ⟨b1.1, b2.1⟩, b3.1, b4.1, b5.1, b6.1, b7.1⟩, b7.2)

/-! How long, how great. -/
theorem nx_le (l : Bs) (most : Int) : (nx l most).2.2.length ≤ l.length := by
  unfold nx; split
  · simp
  · split
    · simp
    · split
      · simp
      · simp
theorem nx_val (l : Bs) (most : Int) : (nx l most).2.1 ≤ M ∧ (0 ≤ most → ((nx l most).2.1 : Int) ≤ most) := by
  unfold nx; split
  · simp
  · split
    · simp
    · split
      · simp
      · rename_i h; simp; omega
theorem rNum_le (s : Rst) (most : Int) : (rNum s most).2.1.length ≤ s.1.length := by
  unfold rNum; split
  · exact Nat.le_refl _
  · exact nx_le _ _
theorem rNum_val (s : Rst) (most : Int) : (rNum s most).1 ≤ 281474976710656 ∧ (0 ≤ most → ((rNum s most).1 : Int) ≤ most) := by
  unfold rNum; split
  · simp
  · exact nx_val _ _
theorem rText_le (s : Rst) : (rText s).2.1.length ≤ s.1.length ∧ (rText s).1.length ≤ s.1.length := by
  have h := nx_le s.1 M
  unfold rText; split
  · simp
  · split
    · simp
    · split
      · simp
      · simp; omega

/-! Back, and once. -/
theorem rNum_once {s : Rst} {most : Int} (h : (rNum s most).2.2 = 0) : s.2 = 0 ∧ s.1 = enc (rNum s most).1 ++ (rNum s most).2.1 ∧ (rNum s most).1 ≤ M ∧ ((rNum s most).1 : Int) ≤ most := by
  unfold rNum at h ⊢
  by_cases h2 : s.2 ≠ 0
  · rw [if_pos h2] at h; exact absurd h h2
  · rw [if_neg h2] at h ⊢
    have := nx_ok (l := s.1) (most := most) (v := (nx s.1 most).2.1) (r := (nx s.1 most).2.2) (by rw [← show (nx s.1 most).1 = 0 from h])
    exact ⟨by simpa using h2, this⟩
theorem rText_once {s : Rst} (h : (rText s).2.2 = 0) : s.2 = 0 ∧ s.1 = encT (rText s).1 ++ (rText s).2.1 ∧ (rText s).1.length ≤ M := by
  unfold rText at h ⊢
  by_cases h2 : s.2 ≠ 0
  · rw [if_pos h2] at h; exact absurd h h2
  rw [if_neg h2] at h ⊢
  by_cases h3 : (nx s.1 M).1 ≠ 0
  · rw [if_pos h3] at h; exact absurd h h3
  rw [if_neg h3] at h ⊢
  by_cases h4 : (nx s.1 M).2.2.length < (nx s.1 M).2.1
  · rw [if_pos h4] at h; simp at h
  rw [if_neg h4]
  have h5 := nx_ok (l := s.1) (most := M) (v := (nx s.1 M).2.1) (r := (nx s.1 M).2.2) (by rw [← show (nx s.1 M).1 = 0 from by simpa using h3])
  have hl : ((nx s.1 M).2.2.take (nx s.1 M).2.1).length = (nx s.1 M).2.1 := by rw [List.length_take]; omega
  refine ⟨by simpa using h2, ?_, by simp only [hl]; exact h5.2.1⟩
  simp only [encT, hl, List.append_assoc, List.take_append_drop]
  exact h5.1

/-- How something is written, and read. -/
structure Codec {α : Type} (ok : α → Prop) (e : α → Bs) (g : Rst → α × Rst) : Prop where
  back : ∀ x r, ok x → g (e x ++ r, 0) = (x, (r, 0))
  once : ∀ s, (g s).2.2 = 0 → s.2 = 0 ∧ ok (g s).1 ∧ s.1 = e (g s).1 ++ (g s).2.1

theorem rI_back {n most : Int} (h : num n) (hm : n ≤ most) (r : Bs) : rNum (encI n ++ r, 0) most = (n.toNat, (r, 0)) := by
  unfold num at h
  exact rNum_enc n.toNat (by unfold M; omega) r most (by omega)
theorem rI_once {s : Rst} {most : Int} (h : (rNum s most).2.2 = 0) : s.2 = 0 ∧ (num ((rNum s most).1 : Int) ∧ ((rNum s most).1 : Int) ≤ most) ∧ s.1 = encI ((rNum s most).1 : Int) ++ (rNum s most).2.1 := by
  obtain ⟨h1, h2, h3, h4⟩ := rNum_once h
  unfold M at h3
  exact ⟨h1, ⟨⟨by omega, by omega⟩, h4⟩, by unfold encI; simpa using h2⟩
theorem fl_num (b : Bool) : num (fl b) := by cases b <;> decide
theorem fl_le (b : Bool) : fl b ≤ 1 := by cases b <;> decide
theorem rFl_codec : Codec (fun _ : Bool => True) (fun b => encI (fl b)) rFl where
  back b r _ := by
    unfold rFl; rw [rI_back (fl_num b) (fl_le b)]; cases b <;> rfl
  once s h := by
    obtain ⟨h1, h2, h3⟩ := rI_once (s := s) (most := 1) h
    refine ⟨h1, trivial, ?_⟩
    rw [h3]
    have : ((rNum s 1).1 : Int) = fl (rFl s).1 := by
      unfold rFl fl
      by_cases h4 : (rNum s 1).1 = 1
      · simp [h4]
      · simp [h4]; omega
    rw [this]; rfl
theorem rText_codec : Codec (fun s : Bs => s.length ≤ M) encT rText where
  back s r h := rText_enc s r h
  once s h := by obtain ⟨h1, h2, h3⟩ := rText_once h; exact ⟨h1, h3, h2⟩

def okPe (x : Pe) : Prop := num x.op ∧ x.op ≤ 7 ∧ num x.p.kind ∧ x.p.kind ≤ 10 ∧ x.p.dir.length ≤ M ∧ x.p.path.length ≤ M ∧ x.p.data.length ≤ M ∧ num (x.p.ver + 1) ∧ num x.p.own ∧ x.p.own ≤ 1099511627776
def okNd (x : Nd) : Prop := x.path.length ≤ M ∧ x.data.length ≤ M ∧ num x.ver ∧ x.turn = 0 ∧ num x.own ∧ x.own ≤ 1099511627776
def okTu (x : Tu) : Prop := x.dir.length ≤ M ∧ num x.next ∧ x.next ≤ 10000

theorem toN {n : Int} (h : num n) : ((n.toNat : Nat) : Int) = n := Int.toNat_of_nonneg h.1
theorem leM {n : Int} (h : num n) : n ≤ 281474976710656 := h.2
theorem rPe_codec : Codec okPe encPe rPe where
  back x r h := by
    obtain ⟨op, k, d, p, da, v, o, t⟩ := x
    obtain ⟨h1, h2, h3, h4, h5, h6, h7, h8, h9, h10⟩ := h
    simp only at h1 h2 h3 h4 h5 h6 h7 h8 h9 h10
    unfold rPe encPe
    simp only [encN, List.append_assoc, List.nil_append, rI_back h1 h2, rI_back h3 h4, rText_enc _ _ h5, rText_enc _ _ h6, rText_enc _ _ h7, rI_back h8 (leM h8), rI_back h9 h10, rFl_codec.back t r trivial,
      toN h1, toN h3, toN h8, toN h9, Int.add_sub_cancel]
  once s h := by
    unfold rPe at h ⊢
    simp only at h ⊢
    obtain ⟨g8, _, e8⟩ := rFl_codec.once _ h
    obtain ⟨g7, k7, e7⟩ := rI_once g8
    obtain ⟨g6, k6, e6⟩ := rI_once g7
    obtain ⟨g5, k5, e5⟩ := rText_codec.once _ g6
    obtain ⟨g4, k4, e4⟩ := rText_codec.once _ g5
    obtain ⟨g3, k3, e3⟩ := rText_codec.once _ g4
    obtain ⟨g2, k2, e2⟩ := rI_once g3
    obtain ⟨g1, k1, e1⟩ := rI_once g2
    refine ⟨g1, ⟨k1.1, k1.2, k2.1, k2.2, k3, k4, k5, by simpa using k6.1, k7.1, k7.2⟩, ?_⟩
    rw [e1, e2, e3, e4, e5, e6, e7, e8]
    simp only [encPe, encN, List.append_assoc, List.nil_append, Int.sub_add_cancel]
theorem rNd_codec : Codec okNd encNd rNd where
  back x r h := by
    obtain ⟨p, d, v, t, o⟩ := x
    obtain ⟨h1, h2, h3, h4, h5, h6⟩ := h
    simp only at h1 h2 h3 h4 h5 h6
    subst h4
    unfold rNd encNd
    simp only [encN, List.append_assoc, List.nil_append, rText_enc _ _ h1, rText_enc _ _ h2, rI_back h3 (leM h3), rI_back h5 h6, toN h3, toN h5]
  once s h := by
    unfold rNd at h ⊢
    simp only at h ⊢
    obtain ⟨g4, k4, e4⟩ := rI_once h
    obtain ⟨g3, k3, e3⟩ := rI_once g4
    obtain ⟨g2, k2, e2⟩ := rText_codec.once _ g3
    obtain ⟨g1, k1, e1⟩ := rText_codec.once _ g2
    refine ⟨g1, ⟨k1, k2, k3.1, rfl, k4.1, k4.2⟩, ?_⟩
    rw [e1, e2, e3, e4]
    simp only [encNd, encN, List.append_assoc, List.nil_append]
theorem rTu_codec : Codec okTu encTu rTu where
  back x r h := by
    obtain ⟨d, n⟩ := x
    obtain ⟨h1, h2, h3⟩ := h
    simp only at h1 h2 h3
    unfold rTu encTu
    simp only [List.append_assoc, rText_enc _ _ h1, rI_back h2 h3, toN h2]
  once s h := by
    unfold rTu at h ⊢
    simp only at h ⊢
    obtain ⟨g2, k2, e2⟩ := rI_once h
    obtain ⟨g1, k1, e1⟩ := rText_codec.once _ g2
    refine ⟨g1, ⟨k1, k2.1, k2.2⟩, ?_⟩
    rw [e1, e2]
    simp only [encTu, List.append_assoc]

section
variable {α : Type} {ok : α → Prop} {e : α → Bs} {g : Rst → α × Rst}
theorem rIt_len (g : Rst → α × Rst) (k : Nat) (s : Rst) : (rIt g k s).1.length = k := by
  induction k with
  | zero => rfl
  | succ k ih => simp [rIt, ih]
theorem rIt_le (hg : ∀ s, (g s).2.1.length ≤ s.1.length) (k : Nat) (s : Rst) : (rIt g k s).2.1.length ≤ s.1.length := by
  induction k with
  | zero => exact Nat.le_refl _
  | succ k ih => exact Nat.le_trans (hg _) ih
theorem rIt_back (hc : Codec ok e g) (l : List α) (r : Bs) (h : ∀ x ∈ l, ok x) : ∀ k, k ≤ l.length → rIt g k (encF e l ++ r, 0) = (l.take k, (encF e (l.drop k) ++ r, 0)) := by
  intro k
  induction k with
  | zero => intro _; simp [rIt]
  | succ k ih =>
    intro hk
    have hd : encF e (l.drop k) = e l[k] ++ encF e (l.drop (k + 1)) := by rw [List.drop_eq_getElem_cons (show k < l.length by omega), encF_cons]
    simp only [rIt, ih (by omega), hd, List.append_assoc, hc.back _ _ (h _ (List.getElem_mem (show k < l.length by omega)))]
    rw [List.take_succ_eq_append_getElem (by omega)]
theorem rIt_once (hc : Codec ok e g) (s : Rst) : ∀ k, (rIt g k s).2.2 = 0 → s.2 = 0 ∧ (∀ x ∈ (rIt g k s).1, ok x) ∧ s.1 = encF e (rIt g k s).1 ++ (rIt g k s).2.1 := by
  intro k
  induction k with
  | zero => intro h; exact ⟨h, (by intro x hx; simp [rIt] at hx), (by simp [rIt, encF])⟩
  | succ k ih =>
    intro h
    simp only [rIt] at h ⊢
    obtain ⟨h1, h2, h3⟩ := hc.once _ h
    obtain ⟨h4, h5, h6⟩ := ih h1
    refine ⟨h4, ?_, ?_⟩
    · intro x hx
      rcases List.mem_append.1 hx with hx | hx
      · exact h5 x hx
      · rw [List.mem_singleton.1 hx]; exact h2
    · rw [h6, h3, encF_app]; simp [encF]
theorem rLs_codec (hc : Codec ok e g) {most : Int} : Codec (fun l : List α => (l.length : Int) ≤ most ∧ l.length ≤ M ∧ ∀ x ∈ l, ok x) (encS e) (rLs g most) where
  back l r h := by
    unfold rLs encS
    rw [List.append_assoc, rNum_enc _ h.2.1 _ _ h.1]
    simp only [rIt_back hc l r h.2.2 l.length (Nat.le_refl _), List.take_length, List.drop_length]
    simp [encF]
  once s h := by
    unfold rLs at h ⊢
    obtain ⟨h1, h2, h3⟩ := rIt_once hc _ _ h
    obtain ⟨h4, h5, h6, h7⟩ := rNum_once h1
    refine ⟨h4, ⟨by rw [rIt_len]; exact h7, by rw [rIt_len]; exact h6, h2⟩, ?_⟩
    unfold encS
    rw [rIt_len, List.append_assoc, ← h3]; exact h5
end

/-- What stands in bytes. -/
structure okCd (c : Cd) : Prop where
  kind : num c.kind ∧ c.kind ≤ 13
  id : num c.id
  txn : num c.txn
  age : num c.age
  ps : (c.ps.length : Int) ≤ 16 ∧ c.ps.length ≤ M ∧ ∀ x ∈ c.ps, okPe x
  pre : c.pre.length ≤ M
  ep : num c.ep
  to : num c.to ∧ c.to ≤ 3
  nodes : (c.st.nodes.length : Int) ≤ 512 ∧ c.st.nodes.length ≤ M ∧ ∀ x ∈ c.st.nodes, okNd x
  turns : (c.st.turns.length : Int) ≤ 512 ∧ c.st.turns.length ≤ M ∧ ∀ x ∈ c.st.turns, okTu x
  gone : (c.gone.length : Int) ≤ 32 ∧ c.gone.length ≤ M ∧ ∀ x ∈ c.gone, x.length ≤ M
  ws : num c.ws
  wn : num c.wn
  wp : c.wp.length ≤ M

theorem encS_T (l : List Bs) : encS encT l = encTs l := rfl
theorem rCd_codec : Codec okCd encCd rCd where
  back x r h := by
    obtain ⟨k, i, t, a, y, ps, pre, ep, to, ⟨ns, ts⟩, gn, ws, wn, wp, dp⟩ := x
    obtain ⟨h1, h2, h3, h4, h5, h6, h7, h8, h9, h10, h11, h12, h13, h14⟩ := h
    simp only at h1 h2 h3 h4 h5 h6 h7 h8 h9 h10 h11 h12 h13 h14
    have c5 := fun r => (rLs_codec rPe_codec (most := 16)).back ps r h5
    have c9 := fun r => (rLs_codec rNd_codec (most := 512)).back ns r h9
    have c10 := fun r => (rLs_codec rTu_codec (most := 512)).back ts r h10
    have c11 := fun r => (rLs_codec rText_codec (most := 32)).back gn r h11
    unfold rCd encCd
    simp only [encN, List.append_assoc, List.nil_append, rI_back h1.1 h1.2, rI_back h2 (leM h2), rI_back h3 (leM h3), rI_back h4 (leM h4), rFl_codec.back y _ trivial, c5, rText_enc _ _ h6,
      rI_back h7 (leM h7), rI_back h8.1 h8.2, c9, c10, ← encS_T, c11, rI_back h12 (leM h12), rI_back h13 (leM h13), rText_enc _ _ h14, rFl_codec.back dp _ trivial, toN h1.1, toN h2, toN h3, toN h4, toN h7, toN h8.1, toN h12, toN h13]
  once s h := by
    unfold rCd at h ⊢
    simp only at h ⊢
    obtain ⟨f7, _, d7⟩ := rFl_codec.once _ h
    obtain ⟨f6, j6, d6⟩ := rText_codec.once _ f7
    obtain ⟨f5, j5, d5⟩ := rI_once f6
    obtain ⟨f4, j4, d4⟩ := rI_once f5
    obtain ⟨f3, j3, d3⟩ := (rLs_codec rText_codec (most := 32)).once _ f4
    obtain ⟨f2, j2, d2⟩ := (rLs_codec rTu_codec (most := 512)).once _ f3
    obtain ⟨f1, j1, d1⟩ := (rLs_codec rNd_codec (most := 512)).once _ f2
    obtain ⟨g9, k9, e9⟩ := rI_once f1
    obtain ⟨g8, k8, e8⟩ := rI_once g9
    obtain ⟨g7, k7, e7⟩ := rText_codec.once _ g8
    obtain ⟨g6, k6, e6⟩ := (rLs_codec rPe_codec (most := 16)).once _ g7
    obtain ⟨g5, _, e5⟩ := rFl_codec.once _ g6
    obtain ⟨g4, k4, e4⟩ := rI_once g5
    obtain ⟨g3, k3, e3⟩ := rI_once g4
    obtain ⟨g2, k2, e2⟩ := rI_once g3
    obtain ⟨g1, k1, e1⟩ := rI_once g2
    refine ⟨g1, ⟨k1, k2.1, k3.1, k4.1, k6, k7, k8.1, k9, j1, j2, j3, j4.1, j5.1, j6⟩, ?_⟩
    rw [e1, e2, e3, e4, e5, e6, e7, e8, e9, d1, d2, d3, d4, d5, d6, d7]
    simp only [encCd, encN, List.append_assoc, List.nil_append, encS_T]

/-! Is a command right? -/
def areNum (l : List Int) : Bool := l.all (fun n => decide (num n))
def isPe (p : Bs) : Bool := decide (p = []) || (split p).isSome
def arePs (l : List Pe) : Prop := l.length ≤ 16 ∧ ∀ k (h : k < l.length), 0 ≤ l[k].op ∧ l[k].op < 8 ∧ mayP l[k].p = true ∧ l[k].p.ver ≠ 281474976710656 ∧ (∀ (_ : 0 < k) (h1 : k - 1 < l.length), l[k - 1].op ≤ l[k].op)
def isSt (s : St) : Prop := s.nodes.length ≤ 512 ∧ s.turns.length ≤ 512 ∧ StR s
def areGo (pre : Bs) (l : List Bs) : Prop := l.length ≤ 32 ∧ ∀ k (h : k < l.length), l[k] ≠ pre ∧ inB l[k] pre = true ∧ (∀ (_ : 0 < k) (h1 : k - 1 < l.length), lt l[k - 1] l[k] = true)
structure CdR (c : Cd) : Prop where
  kind : 1 ≤ c.kind ∧ c.kind ≤ 13
  to : 0 ≤ c.to ∧ c.to < 4
  nums : areNum [c.id, c.txn, c.age, c.ep, c.ws, c.wn] = true
  pre : isPe c.pre = true
  wp : isPe c.wp = true
  ps : arePs c.ps
  st : isSt c.st
  gone : areGo c.pre c.gone
open Classical in
noncomputable def rightC (c : Cd) : Bool := decide (CdR c)
theorem rightC_true {c : Cd} (h : CdR c) : rightC c = true := by unfold rightC; simp [h]
theorem rightC_false {c : Cd} (h : ¬ CdR c) : rightC c = false := by unfold rightC; simp [h]
theorem rightC_iff (c : Cd) : rightC c = true ↔ CdR c := by unfold rightC; simp

end Pm
end Go.Proofs.Ytlmfinpmlilcgaa

/- Plain facts of commands: what the laws say. Nothing of the program. -/
namespace Go.Proofs.Ytlmfinpmlilcgaa
set_option maxRecDepth 20000
namespace Pm

theorem splitLen {p : Bs} (h : (split p).isSome = true) : p.length ≤ 100 := by
  obtain ⟨ps, hps⟩ := Option.isSome_iff_exists.1 h
  obtain ⟨hP, e⟩ := (split_iff _ _).1 hps
  have := joinP_len hP
  rw [e] at this; exact this
theorem inSplit {l q : Bs} (h : inB l q = true) : (split l).isSome = true ∧ (split q).isSome = true := by
  unfold inB at h
  split at h
  · rename_i h1 h2; rw [h1, h2]; exact ⟨rfl, rfl⟩
  · cases h
theorem upLen (p : Bs) : (upB p).length ≤ 100 := splitLen (upB_ok p)
theorem isPe_len {p : Bs} (h : isPe p = true) : p.length ≤ 100 := by
  unfold isPe at h
  rw [Bool.or_eq_true] at h
  rcases h with h | h
  · rw [of_decide_eq_true h]; simp
  · exact splitLen h
theorem num_iff (n : Int) : num n ↔ 0 ≤ n ∧ n ≤ 281474976710656 := Iff.rfl
theorem areNum_cons (n : Int) (l : List Int) : areNum (n :: l) = (decide (num n) && areNum l) := rfl
theorem areNum6 {a b c d e f : Int} : areNum [a, b, c, d, e, f] = true ↔ num a ∧ num b ∧ num c ∧ num d ∧ num e ∧ num f := by
  simp [areNum]

theorem ps_ok {l : List Pe} (h : arePs l) : ∀ x ∈ l, okPe x ∧ x.p.dir.length ≤ 100 ∧ x.p.path.length ≤ 100 ∧ x.p.data.length ≤ 256 := by
  intro x hx
  obtain ⟨k, hk, rfl⟩ := List.getElem_of_mem hx
  obtain ⟨h1, h2, h3, h4, _⟩ := h.2 k hk
  obtain ⟨m1, m2, m3, _, m5, m6, m7, m8, m9⟩ := (mayP_iff _).1 h3
  have p1 := splitLen m2
  have p2 : l[k].p.dir.length ≤ 100 := by
    rw [m3]; unfold keptAt; split
    · exact p1
    · exact upLen _
  unfold okPe num M
  exact ⟨⟨⟨h1, by omega⟩, by omega, ⟨by omega, by omega⟩, by omega, by omega, by omega, by omega, ⟨by omega, by omega⟩, ⟨by omega, by omega⟩, by omega⟩, p2, p1, m5⟩
theorem nd_ok {s : St} (h : StR s) : ∀ x ∈ s.nodes, okNd x ∧ x.path.length ≤ 100 ∧ x.data.length ≤ 256 := by
  intro x hx
  obtain ⟨m1, m2, m3, m4, m5, m6, m7, m8⟩ := (sfit_iff x).1 (h.fit x hx)
  have p1 := splitLen m1
  unfold okNd num M
  exact ⟨⟨by omega, by omega, ⟨m5, m6⟩, m3, ⟨by omega, by omega⟩, m8⟩, p1, m2⟩
theorem tu_ok {s : St} (h : StR s) : ∀ x ∈ s.turns, okTu x ∧ x.dir.length ≤ 100 := by
  intro x hx
  have h1 := h.tfit x hx
  unfold Pm.tfit at h1
  rw [Bool.and_eq_true] at h1
  have p1 := splitLen h1.1
  have h2 := of_decide_eq_true h1.2
  unfold okTu num M
  exact ⟨⟨by omega, ⟨by omega, by omega⟩, by omega⟩, p1⟩
theorem go_ok {p : Bs} {l : List Bs} (h : areGo p l) : ∀ x ∈ l, x.length ≤ 100 := by
  intro x hx
  obtain ⟨k, hk, rfl⟩ := List.getElem_of_mem hx
  exact splitLen (inSplit (h.2 k hk).2.1).1
theorem CdR.ok {c : Cd} (h : CdR c) : okCd c := by
  obtain ⟨n1, n2, n3, n4, n5, n6⟩ := areNum6.1 h.nums
  have hp := isPe_len h.pre
  have hw := isPe_len h.wp
  have hk := h.kind
  have ht := h.to
  refine ⟨⟨⟨by omega, by omega⟩, by omega⟩, n1, n2, n3, ⟨by have := h.ps.1; omega, by have := h.ps.1; unfold M; omega, fun x hx => (ps_ok h.ps x hx).1⟩, by unfold M; omega, n4, ⟨⟨by omega, by omega⟩, by omega⟩,
    ⟨by have := h.st.1; omega, by have := h.st.1; unfold M; omega, fun x hx => (nd_ok h.st.2.2 x hx).1⟩, ⟨by have := h.st.2.1; omega, by have := h.st.2.1; unfold M; omega, fun x hx => (tu_ok h.st.2.2 x hx).1⟩,
    ⟨by have := h.gone.1; omega, by have := h.gone.1; unfold M; omega, fun x hx => by have := go_ok h.gone x hx; unfold M; omega⟩, n5, n6, by unfold M; omega⟩

/-! How many bytes. -/
theorem encI_len {n : Int} (h : num n) : 1 ≤ (encI n).length ∧ (encI n).length ≤ 7 := by
  unfold num at h; exact enc_len n.toNat (by unfold M; omega)
theorem encT_len {s : Bs} (h : s.length ≤ M) : s.length + 1 ≤ (encT s).length ∧ (encT s).length ≤ s.length + 7 := by
  have := enc_len s.length h
  unfold encT; rw [List.length_append]; omega
theorem encF_len {α : Type} {f : α → Bs} {k : Nat} : ∀ (l : List α), (∀ x ∈ l, (f x).length ≤ k) → (encF f l).length ≤ l.length * k
  | [], _ => by simp [encF]
  | x :: l, h => by
    have h1 := h x (by simp)
    have h2 := encF_len l (fun y hy => h y (by simp [hy]))
    rw [encF_cons, List.length_append, List.length_cons, Nat.add_mul, Nat.one_mul]; omega
theorem encF_mem {α : Type} {f : α → Bs} : ∀ (l : List α) (x : α), x ∈ l → (f x).length ≤ (encF f l).length
  | y :: l, x, h => by
    rw [encF_cons, List.length_append]
    rcases List.mem_cons.1 h with rfl | h
    · omega
    · have := encF_mem (f := f) l x h; omega
theorem encF_ge {α : Type} {f : α → Bs} : ∀ (l : List α), (∀ x ∈ l, 1 ≤ (f x).length) → l.length ≤ (encF f l).length
  | [], _ => by simp
  | x :: l, h => by
    have h1 := h x (by simp)
    have h2 := encF_ge l (fun y hy => h y (by simp [hy]))
    rw [encF_cons, List.length_append, List.length_cons]; omega
theorem encPe_len {x : Pe} (h : okPe x) : x.p.dir.length + x.p.path.length + x.p.data.length + 8 ≤ (encPe x).length ∧ (encPe x).length ≤ x.p.dir.length + x.p.path.length + x.p.data.length + 56 := by
  obtain ⟨h1, h2, h3, h4, h5, h6, h7, h8, h9, h10⟩ := h
  have a1 := encI_len h1; have a2 := encI_len h3; have a3 := encT_len h5; have a4 := encT_len h6; have a5 := encT_len h7; have a6 := encI_len h8; have a7 := encI_len h9; have a8 := encI_len (fl_num x.p.turns)
  unfold encPe encN encN encN
  simp only [List.length_append, List.length_nil]; omega
theorem encNd_len {x : Nd} (h : okNd x) : x.path.length + x.data.length + 4 ≤ (encNd x).length ∧ (encNd x).length ≤ x.path.length + x.data.length + 28 := by
  obtain ⟨h1, h2, h3, h4, h5, h6⟩ := h
  have a1 := encT_len h1; have a2 := encT_len h2; have a3 := encI_len h3; have a4 := encI_len h5
  unfold encNd encN encN encN
  simp only [List.length_append, List.length_nil]; omega
theorem encTu_len {x : Tu} (h : okTu x) : x.dir.length + 2 ≤ (encTu x).length ∧ (encTu x).length ≤ x.dir.length + 14 := by
  obtain ⟨h1, h2, h3⟩ := h
  have a1 := encT_len h1; have a2 := encI_len h2
  unfold encTu
  simp only [List.length_append]; omega
/-- The parts' lengths. -/
theorem encCd_len (c : Cd) : (encCd c).length = (encI c.kind).length + (encI c.id).length + (encI c.txn).length + (encI c.age).length + (encI (fl c.yes)).length + (encS encPe c.ps).length + (encT c.pre).length + (encI c.ep).length + (encI c.to).length
    + (encS encNd c.st.nodes).length + (encS encTu c.st.turns).length + (encTs c.gone).length + (encI c.ws).length + (encI c.wn).length + (encT c.wp).length + (encI (fl c.deep)).length := by
  simp only [encCd, encN, List.length_append, List.length_nil]; omega
theorem encS_len {α : Type} (f : α → Bs) (l : List α) : (encS f l).length = (enc l.length).length + (encF f l).length := by simp [encS]
theorem CdR.few {c : Cd} (h : CdR c) : (encCd c).length ≤ 1000000 := by
  have o := h.ok
  have p1 := h.ps.1; have p2 := h.st.1; have p3 := h.st.2.1; have p4 := h.gone.1
  have f1 := encF_len (f := encPe) (k := 600) c.ps (fun x hx => by have := ps_ok h.ps x hx; have := encPe_len this.1; omega)
  have f2 := encF_len (f := encNd) (k := 400) c.st.nodes (fun x hx => by have := nd_ok h.st.2.2 x hx; have := encNd_len this.1; omega)
  have f3 := encF_len (f := encTu) (k := 200) c.st.turns (fun x hx => by have := tu_ok h.st.2.2 x hx; have := encTu_len this.1; omega)
  have f4 := encF_len (f := encT) (k := 200) c.gone (fun x hx => by have := go_ok h.gone x hx; have := encT_len (s := x) (by unfold M; omega); omega)
  have e1 := enc_len c.ps.length (by unfold M; omega); have e2 := enc_len c.st.nodes.length (by unfold M; omega); have e3 := enc_len c.st.turns.length (by unfold M; omega); have e4 := enc_len c.gone.length (by unfold M; omega)
  have a1 := encI_len o.kind.1; have a2 := encI_len o.id; have a3 := encI_len o.txn; have a4 := encI_len o.age; have a5 := encI_len (fl_num c.yes); have a6 := encI_len o.ep; have a7 := encI_len o.to.1
  have a8 := encI_len o.ws; have a9 := encI_len o.wn; have b1 := encI_len (fl_num c.deep)
  have b2 := isPe_len h.pre; have b3 := isPe_len h.wp
  have b4 := encT_len (s := c.pre) (by unfold M; omega); have b5 := encT_len (s := c.wp) (by unfold M; omega)
  rw [encCd_len, ← encS_T, encS_len, encS_len, encS_len, encS_len]
  have m1 : c.ps.length * 600 ≤ 16 * 600 := Nat.mul_le_mul_right _ p1
  have m2 : c.st.nodes.length * 400 ≤ 512 * 400 := Nat.mul_le_mul_right _ p2
  have m3 : c.st.turns.length * 200 ≤ 512 * 200 := Nat.mul_le_mul_right _ p3
  have m4 : c.gone.length * 200 ≤ 32 * 200 := Nat.mul_le_mul_right _ p4
  omega
theorem encCd_pos {c : Cd} (h : okCd c) : 0 < (encCd c).length := by
  have := encI_len h.kind.1; rw [encCd_len]; omega

/-! Get. -/
def stE (s : Rst) : Bool := s.2 == 0 && s.1.isEmpty
def zeroC : Cd := ⟨0, 0, 0, 0, false, [], [], 0, 0, ⟨[], []⟩, [], 0, 0, [], false⟩
open Classical in
noncomputable def getC (b : Bs) : Cd × Int := if stE (rCd (b, 0)).2 = true ∧ CdR (rCd (b, 0)).1 then ((rCd (b, 0)).1, 0) else (zeroC, 3)
theorem getC_ok {b : Bs} (h1 : stE (rCd (b, 0)).2 = true) (h2 : CdR (rCd (b, 0)).1) : getC b = ((rCd (b, 0)).1, 0) := by unfold getC; rw [if_pos ⟨h1, h2⟩]
theorem getC_end {b : Bs} (h1 : stE (rCd (b, 0)).2 = false) : getC b = (zeroC, 3) := by unfold getC; rw [if_neg (fun h => by rw [h1] at h; exact Bool.noConfusion h.1)]
theorem getC_bad {b : Bs} (h1 : ¬ CdR (rCd (b, 0)).1) : getC b = (zeroC, 3) := by unfold getC; rw [if_neg (fun h => h1 h.2)]
theorem stE_iff (s : Rst) : stE s = true ↔ s = ([], 0) := by
  obtain ⟨l, e⟩ := s
  unfold stE
  simp [List.isEmpty_iff, and_comm]
theorem get_back {c : Cd} (h : CdR c) : getC (encCd c) = (c, 0) := by
  have hb := rCd_codec.back c [] h.ok
  rw [List.append_nil] at hb
  rw [getC_ok (by rw [hb]; rfl) (by rw [hb]; exact h), hb]
theorem get_once {b : Bs} {u : Cd} (h : getC b = (u, 0)) : CdR u ∧ encCd u = b := by
  unfold getC at h
  by_cases h1 : stE (rCd (b, 0)).2 = true ∧ CdR (rCd (b, 0)).1
  · rw [if_pos h1] at h
    obtain ⟨rfl, _⟩ := Prod.mk.inj h
    have he := (stE_iff _).1 h1.1
    obtain ⟨_, _, h3⟩ := rCd_codec.once (b, 0) (by rw [he])
    rw [he] at h3
    exact ⟨h1.2, by simpa using h3.symm⟩
  · rw [if_neg h1] at h
    obtain ⟨_, h⟩ := Prod.mk.inj h
    omega
theorem get_err (b : Bs) : getC b = (zeroC, 3) ∨ ∃ u, getC b = (u, 0) := by
  unfold getC; split
  · exact .inr ⟨_, rfl⟩
  · exact .inl rfl
theorem get_cut {c : Cd} (h : CdR c) (k : Nat) (hk : k < (encCd c).length) : getC ((encCd c).take k) = (zeroC, 3) := by
  rcases get_err ((encCd c).take k) with h1 | ⟨u, h1⟩
  · exact h1
  · obtain ⟨h2, h3⟩ := get_once h1
    have b1 := rCd_codec.back c [] h.ok
    have b2 := rCd_codec.back u ((encCd c).drop k) h2.ok
    rw [h3, List.take_append_drop] at b2
    rw [List.append_nil] at b1
    rw [b1] at b2
    have := congrArg (fun x : Cd × Rst => x.2.1.length) b2
    simp only [List.length_nil, List.length_drop] at this
    omega
theorem get_more {c : Cd} (h : CdR c) (m : UInt8) : getC (encCd c ++ [m]) = (zeroC, 3) := by
  refine getC_end ?_
  rw [rCd_codec.back c [m] h.ok]; rfl
theorem get_nil : getC [] = (zeroC, 3) := by
  rcases get_err [] with h1 | ⟨u, h1⟩
  · exact h1
  · obtain ⟨h2, h3⟩ := get_once h1
    have := encCd_pos h2.ok
    rw [h3] at this; simp at this
theorem encCd_inj {c d : Cd} (h : CdR c) (g : CdR d) : encCd c = encCd d ↔ c = d := by
  refine ⟨fun e => ?_, fun e => by rw [e]⟩
  have h1 := get_back h
  rw [e, get_back g] at h1
  exact (Prod.mk.inj h1).1.symm
/-- A piece more. -/
theorem encCd_more {c : Cd} {x : Pe} (h : CdR { c with ps := c.ps ++ [x] }) : (encCd c).length < (encCd { c with ps := c.ps ++ [x] }).length := by
  have hx := h.ok.ps.2.2 x (by simp)
  have h1 := encPe_len hx
  have h2 := enc_mono c.ps.length (c.ps ++ [x]).length (by simp)
  rw [encCd_len, encCd_len]
  simp only [encS_len, encF_app]
  rw [@List.length_append _ (encF encPe c.ps)]
  have h3 : (encF encPe [x]).length = (encPe x).length := by simp [encF]
  omega
end Pm
end Go.Proofs.Ytlmfinpmlilcgaa

/- Short words for the walk of a region that draws its order, by hand. -/
namespace Go.Proofs.Ytlmfinpmlilcgaa
set_option maxRecDepth 20000
open Go.RowKit

theorem zA {α : Type _} {xs : List α} {i : Nat} : xs.toArray[i]? = xs[i]? := List.getElem?_toArray
theorem zB {α : Type _} {a : α} {l : List α} : (a :: l)[0]? = some a := rfl
theorem zC {α : Type _} {a : α} {l : List α} {i : Nat} : (a :: l)[i + 1]? = l[i]? := rfl
theorem zP (a : Act) (i : Tmp) (v : Value) : a.put (some i) v = { a with tmps := a.tmps.setIfInBounds i v } := rfl
theorem zN (a : Act) (v : Value) : a.put none v = a := rfl
theorem zS {α : Type _} {l : List α} {i : Nat} {a : α} : l.toArray.setIfInBounds i a = (l.set i a).toArray := by simp
theorem zT {α : Type _} {b a : α} {l : List α} : (b :: l).set 0 a = a :: l := rfl
theorem zU {α : Type _} {b a : α} {l : List α} {i : Nat} : (b :: l).set (i + 1) a = b :: l.set i a := rfl

section
variable {P : Program} {ops : Array Oper} {Q : Exit → Act → World → Prop} {md : Region.Mode} {S : World → Prop}
/-- Operation i is taken first: what it yields hangs on S alone. -/
theorem tk (i : Nat) {oi : Oper} {v : Value} {fuel : Nat} {listed : Array Bool} {a : Act} {w : World} (hS : S w) (hi : ops[i]? = some oi)
    (hy : ∀ w, S w → (execOp a.eval oi).run P w = .ok (.value v) w) (h : wpAnyH P md ops Q S fuel (listed.setIfInBounds i true) (a.put oi.dst v) w)
    (hs : Region.noSelect ops = true := by kernel_rfl) (hf : Region.free md ops listed i = true := by kernel_rfl) (hr : (Region.ready md ops listed).contains i = true := by kernel_rfl)
    (hq : ∀ c a w, Q (.panic c) (a.put oi.dst v) w → Q (.panic c) a w := by exact fun _ _ _ h => h) (hw : Region.wanted oi (yielded ops a.tmps) = true := by rfl) :
    wpAnyH P md ops Q S (fuel + 1) listed a w := wpAnyH_take hi hs hf hr hq (.inl ⟨hw, hy⟩) hS h
/-- Operation i isn't wanted. -/
theorem sk (i : Nat) {oi : Oper} {fuel : Nat} {listed : Array Bool} {a : Act} {w : World} (hS : S w) (hi : ops[i]? = some oi)
    (h : wpAnyH P md ops Q S fuel (listed.setIfInBounds i true) (a.put oi.dst undef) w)
    (hs : Region.noSelect ops = true := by kernel_rfl) (hf : Region.free md ops listed i = true := by kernel_rfl) (hr : (Region.ready md ops listed).contains i = true := by kernel_rfl)
    (hq : ∀ c a w, Q (.panic c) (a.put oi.dst undef) w → Q (.panic c) a w := by exact fun _ _ _ h => h) (hw : Region.wanted oi (yielded ops a.tmps) = false := by rfl) :
    wpAnyH P md ops Q S (fuel + 1) listed a w := wpAnyH_take hi hs hf hr hq (.inr ⟨hw, rfl⟩) hS h
end
end Go.Proofs.Ytlmfinpmlilcgaa

/- Rows of structs, of whatever type: slices that read so, rows of the call's own, append. -/
namespace Go.Proofs.Ytlmfinpmlilcgaa
set_option maxRecDepth 20000
open Go.RowKit Pm

section
variable {α : Type} {enc : α → List Value} {k : Nat}
/-- The cells of some, one behind the other. -/
def rowsG (enc : α → List Value) (l : List α) : List Value := l.flatMap enc
theorem rowsG_cons (x : α) (l : List α) : rowsG enc (x :: l) = enc x ++ rowsG enc l := by simp [rowsG]
theorem rowsG_app (a b : List α) : rowsG enc (a ++ b) = rowsG enc a ++ rowsG enc b := by simp [rowsG]
theorem rowsG_len (hk : ∀ x, (enc x).length = k) (l : List α) : (rowsG enc l).length = l.length * k := by
  induction l with
  | nil => simp [rowsG]
  | cons x l ih => rw [rowsG_cons, List.length_append, hk, ih, List.length_cons, Nat.add_mul, Nat.one_mul, Nat.add_comm]
theorem rowsG_get (hk : ∀ x, (enc x).length = k) (l : List α) (i j : Nat) (hi : i < l.length) (hj : j < k) : (rowsG enc l)[i * k + j]? = (enc l[i])[j]? := by
  induction l generalizing i with
  | nil => simp at hi
  | cons x l ih =>
    rw [rowsG_cons]
    cases i with
    | zero => rw [List.getElem?_append_left (by rw [hk]; omega)]; simp
    | succ i =>
      have e : (i + 1) * k + j = k + (i * k + j) := by rw [Nat.add_mul, Nat.one_mul]; omega
      rw [List.getElem?_append_right (by rw [hk, e]; omega), hk, e, Nat.add_sub_cancel_left, ih i (by simpa using hi)]
      simp
theorem rowsG_one (h1 : ∀ x, ∀ u ∈ enc x, u.oneCell' = true) (l : List α) : ∀ u ∈ rowsG enc l, u.oneCell' = true := by
  intro u hu
  unfold rowsG at hu
  obtain ⟨x, _, hx⟩ := List.mem_flatMap.1 hu
  exact h1 x u hx

/-- One at a place. -/
structure ElAt (enc : α → List Value) (w : World) (g o : Nat) (x : α) : Prop where
  get : ∀ j v, (enc x)[j]? = some v → w.cell? ⟨g, o + j, none⟩ = some v
theorem ElAt.keep {w w' : World} {g o : Nat} {x : α} (h : ElAt enc w g o x) {S : Nat → Prop} (f : Fp S w w') (hS : ¬ S g) : ElAt enc w' g o x := ⟨fun j v hv => f.cell (h.get j v hv) hS⟩
/-- A slice that reads so. -/
structure Sg (enc : α → List Value) (k : Nat) (w : World) (v : Value) (l : List α) : Prop where
  ex : ∃ ao cap, v = .slice ao l.length cap ∧ (l = [] ∨ ∃ g o, ao = some ⟨g, o, none⟩ ∧ ∀ i (h : i < l.length), ElAt enc w g (o + i * k) l[i])
theorem Sg.non {w w' : World} {v : Value} {l : List α} (h : Sg enc k w v l) (f : Fp Non w w') : Sg enc k w' v l := by
  obtain ⟨ao, cap, rfl, h3⟩ := h.ex
  refine ⟨ao, cap, rfl, ?_⟩
  rcases h3 with h3 | ⟨g, o, rfl, hc⟩
  · exact .inl h3
  · exact .inr ⟨g, o, rfl, fun i hi => (hc i hi).keep f (fun h => h)⟩
theorem Sg.shape {w : World} {v : Value} {l : List α} (h : Sg enc k w v l) : ∃ ao cap, v = .slice ao l.length cap := by
  obtain ⟨ao, cap, rfl, _⟩ := h.ex; exact ⟨ao, cap, rfl⟩
theorem Sg.nil (w : World) : Sg enc k w (.slice none 0 0) [] := ⟨none, 0, rfl, .inl rfl⟩
theorem Sg.at {w : World} {v : Value} {l : List α} (h : Sg enc k w v l) (h0 : 0 < l.length) : ∃ g o cap, v = .slice (some ⟨g, o, none⟩) l.length cap ∧ ∀ i (h : i < l.length), ElAt enc w g (o + i * k) l[i] := by
  obtain ⟨ao, cap, rfl, h3⟩ := h.ex
  rcases h3 with h3 | ⟨g, o, rfl, hc⟩
  · subst h3; simp at h0
  · exact ⟨g, o, cap, rfl, hc⟩

/-- A row of the call's own, that may be none. -/
def OwG (T : TypeId) (enc : α → List Value) (k : Nat) (lo : Nat) (w : World) (v : Value) (l : List α) : Prop := w.ownsRow lo T k v l.length (rowsG enc l)
variable {T : TypeId}
theorem OwG.nil (lo : Nat) (w : World) : OwG T enc k lo w (.slice none 0 0) [] := ⟨by simp [rowsG], .inl ⟨rfl, rfl⟩⟩
theorem OwG.non {lo : Nat} {w w' : World} {v : Value} {l : List α} (h : OwG T enc k lo w v l) (f : Fp Non w w') : OwG T enc k lo w' v l := f.owns h (fun _ _ h => h)
theorem OwG.lt {lo : Nat} {w : World} {v : Value} {l : List α} (h : OwG T enc k lo w v l) : ∀ j, v.ownBlock = some j → lo ≤ j ∧ j < w.heap.size := fun j hj => World.ownsRow.lt h j hj
theorem OwG.sg (hk : ∀ x, (enc x).length = k) {lo : Nat} {w : World} {v : Value} {l : List α} (h : OwG T enc k lo w v l) : Sg enc k w v l := by
  rcases h.2 with ⟨h0, h1⟩ | ⟨g, cap, cur, e, hb, hg, h1, h2, h3, h4⟩
  · refine ⟨none, 0, ?_, ?_⟩
    · rw [h1]; exact h0
    · exact .inl (List.eq_nil_of_length_eq_zero h1)
  · refine ⟨_, cap, e, .inr ⟨g, 0, rfl, fun i hi => ⟨fun j v hv => ?_⟩⟩⟩
    have hj : j < k := by rw [← hk l[i]]; exact (List.getElem?_eq_some_iff.1 hv).1
    rw [← rowsG_get hk l i j hi hj, ← h4] at hv
    rw [cell_of_row w g _ _ T (0, 0) hg, Nat.zero_add]
    rw [List.getElem?_take] at hv
    split at hv
    · rw [← hv]; simp
    · cases hv
/-- Some behind a row of the call's own. -/
theorem app_ownG (hk : ∀ x, (enc x).length = k) (h1 : ∀ x, ∀ u ∈ enc x, u.oneCell' = true) {SL : TypeId} {z : Value} {by_ : Nat} (hu : Try.prog.underlying SL = some (.slice T)) (hinf : (Try.prog.info? T).map (fun i => (i.zero, i.size, i.bytes)) = some (some z, k, by_)) (hz : z.cells.size = k) (hk0 : 0 < k) (hby : by_ ≤ 200)
    (w : World) (lo : Nat) (v : Value) (l m : List α) (ty : TypeId) (a : Addr) (n c : Nat) (hv : OwG T enc k lo w v l) (hn : n = m.length) (hx : ∀ i (h : i < m.length) j u, (enc m[i])[j]? = some u → w.cell? (a.add (i * k + j)) = some u) (h6 : l.length + m.length ≤ 100000) (hlo : lo ≤ w.heap.size) :
    ∃ v' w', (Builtin.append_ #[SL, SL] ty #[v, .slice (some a) n c]).run Try.prog w = .ok v' w' ∧ OwG T enc k lo w' v' (l ++ m) ∧ w.grownBy w' v.ownBlock ∧ ∀ j, v'.ownBlock = some j → v.ownBlock = some j ∨ w.heap.size ≤ j := by
  obtain ⟨i, hi, hz0, hsz, hb⟩ := info_parts hinf
  subst hn
  obtain ⟨v', w', hr, h4, h5, _, h8⟩ := run_append_own_at (P := Try.prog) w lo SL ty T i _ k by_ hu hi hz0 hsz hb hz hk0 v l.length (rowsG enc l) hv a m.length c (rowsG enc m) (rowsG_len hk m)
    (fun j u hu => by
      have hj : j < m.length * k := by rw [← rowsG_len hk]; exact (List.getElem?_eq_some_iff.1 hu).1
      have hd : j / k < m.length := Nat.div_lt_of_lt_mul (by rw [Nat.mul_comm]; exact hj)
      have hr : j % k < k := Nat.mod_lt _ hk0
      have e : j / k * k + j % k = j := Nat.div_add_mod' j k
      rw [← e, rowsG_get hk m (j / k) (j % k) hd hr] at hu
      have := hx (j / k) hd (j % k) u hu
      rwa [e] at this)
    (rowsG_one h1 m) (by unfold maxLen; omega) (Nat.le_trans (Nat.mul_le_mul h6 hby) (by decide)) hlo
  refine ⟨v', w', hr, ?_, h5, fun j hj => ?_⟩
  · unfold OwG
    rw [rowsG_app, List.length_append]; exact h4
  · rcases h8 with e | e
    · exact .inl (by rw [← e]; exact hj)
    · rw [hj] at e; injection e with e; exact .inr (by omega)
end

/-- Parts, pieces, results: their cells. -/
def pcC (x : Nat × Pt) : List Value := .int .i64 (x.1 : Int) :: ptC x.2
structure Rv where
  r : Res
  nv : Value
def rvC (x : Rv) : List Value := [.int .i64 x.r.err, strV x.r.path, strV x.r.data, .int .i64 x.r.ver, x.nv]
theorem ptC_len (x : Pt) : (ptC x).length = 7 := rfl
theorem pcC_len (x : Nat × Pt) : (pcC x).length = 8 := rfl
theorem rvC_len (x : Rv) : (rvC x).length = 5 := rfl
theorem ptC_one (x : Pt) : ∀ u ∈ ptC x, u.oneCell' = true := by
  intro u hu; simp only [ptC, List.mem_cons, List.not_mem_nil, or_false] at hu; rcases hu with rfl | rfl | rfl | rfl | rfl | rfl | rfl <;> rfl
theorem pcC_one (x : Nat × Pt) : ∀ u ∈ pcC x, u.oneCell' = true := by
  intro u hu; unfold pcC at hu; rcases List.mem_cons.1 hu with rfl | h
  · rfl
  · exact ptC_one x.2 u h
end Go.Proofs.Ytlmfinpmlilcgaa

