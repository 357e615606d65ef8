/- WatchDeep: plain (one deep watch alone), and the row of texts that wait: re-sliced and appended to. -/
import Derived.Test.YthkjknmfianmlaaZf
import Derived.Deep.Upon
namespace Go.Proofs.Ythkjknmfianmlaa
set_option maxRecDepth 20000
set_option linter.unusedVariables false
set_option linter.unusedSimpArgs false
open Go.RowKit Pm

/-- The event that waits for a text; the empty text is the lost one. -/
def dk (x : Wt) (b : Int) (t : Bs) : Ev := if t = [] then ⟨b, 4, x.p, x.n⟩ else ⟨b, 1, t, x.n⟩
def evF (x : Wt) : Int → List Bs → List Ev
  | _, [] => []
  | b, t :: r => dk x b t :: evF x (b + 1) r
theorem evF_len (x : Wt) (b : Int) (l : List Bs) : (evF x b l).length = l.length := by
  induction l generalizing b with
  | nil => rfl
  | cons t r ih => simp [evF, ih]
theorem evF_get (x : Wt) (b : Int) (l : List Bs) (i : Nat) (h : i < (evF x b l).length) (h2 : i < l.length) : (evF x b l)[i] = dk x (b + i) l[i] := by
  induction l generalizing b i with
  | nil => simp at h2
  | cons t r ih =>
    cases i with
    | zero => simp [evF]
    | succ i =>
      simp only [evF, List.getElem_cons_succ]
      rw [ih (b + 1) i (by rw [evF_len]; simpa using h2) (by simpa using h2)]
      congr 1
      push_cast; omega
theorem evF_app (x : Wt) (b : Int) (l : List Bs) (t : Bs) : evF x b (l ++ [t]) = evF x b l ++ [dk x (b + l.length) t] := by
  induction l generalizing b with
  | nil => simp [evF]
  | cons u r ih =>
    simp only [evF, List.cons_append]
    rw [ih]
    rw [show b + 1 + (r.length : Int) = b + ((u :: r).length : Nat) from by simp only [List.length_cons]; omega]
theorem evF_drop (x : Wt) (b : Int) (l : List Bs) (n : Nat) : (evF x b l).drop n = evF x (b + n) (l.drop n) := by
  induction n generalizing b l with
  | zero => simp
  | succ n ih =>
    cases l with
    | nil => simp [evF]
    | cons u r =>
      simp only [evF, List.drop_succ_cons]
      rw [ih]
      congr 1
      omega
/-- So many were taken, these wait; the watch is gone or not. -/
def dS (x : Wt) (a : Nat) (wt : List Bs) (g : Bool) : Wd := ⟨if g = true then [] else [x], [⟨x.s, ((a + wt.length : Nat) : Int), evF x (a + 1) wt⟩]⟩
structure DOk (x : Wt) (a : Nat) (wt : List Bs) (g : Bool) : Prop where
  len : wt.length ≤ 8
  few : g = false → wt.length ≤ 7
  txt : ∀ t ∈ wt, t ≠ [] → (split t).isSome = true
  max : a + wt.length ≤ 1000
theorem dS_se {x : Wt} {a : Nat} {wt : List Bs} {g : Bool} (hx : rWt x = true) (h : DOk x a wt g) : rSe ⟨x.s, ((a + wt.length : Nat) : Int), evF x (a + 1) wt⟩ = true := by
  obtain ⟨h1, h2, h3⟩ := (rWt_iff x).1 hx
  rw [rSe_iff]
  simp only [evF_len]
  have hm := h.max
  refine ⟨h1, ⟨by omega, by unfold mxN; omega, h.len, by omega⟩, fun i hi => ?_⟩
  have hi' : i < wt.length := by first | exact hi | simpa only [evF_len] using hi
  rw [evF_get x _ wt i (by rw [evF_len]; exact hi') hi']
  have ht := h.txt wt[i] (List.getElem_mem hi')
  unfold dk rEv
  split
  · simp only [Bool.and_eq_true, decide_eq_true_eq]
    exact ⟨⟨⟨by omega, by omega, by omega⟩, h3⟩, h2⟩
  · rename_i hne
    simp only [Bool.and_eq_true, decide_eq_true_eq]
    exact ⟨⟨⟨by omega, by omega, by omega⟩, ht hne⟩, h2⟩
theorem dS_right {x : Wt} {a : Nat} {wt : List Bs} {g : Bool} (hx : rWt x = true) (h : DOk x a wt g) : rightW (dS x a wt g) = true :=
  one_right _ (by cases g <;> simp) hx (dS_se hx h)
def nwt (x : Wt) (p : Bs) (wt : List Bs) (g : Bool) : List Bs := if g = false ∧ inB p x.p = true then wt ++ [if wt.length = 7 then [] else p] else wt
def ng (x : Wt) (p : Bs) (wt : List Bs) (g : Bool) : Bool := if g = false ∧ inB p x.p = true then decide (wt.length = 7) else g
theorem split_ne {p : Bs} (h : (split p).isSome = true) : p ≠ [] := by rintro rfl; exact absurd h (by decide)
theorem of_deep {x : Wt} (hd : x.d = true) {p : Bs} (hp : (split p).isSome = true) : ofCh p x = inB p x.p := by
  unfold ofCh
  rw [hd, Bool.true_and]
  by_cases h : x.p = p
  · obtain ⟨ps, hps⟩ := Option.isSome_iff_exists.1 hp
    rw [h, in_refl hps]; simp
  · simp [h]
theorem tell_dS {x : Wt} {a : Nat} {wt : List Bs} {g : Bool} (hx : rWt x = true) (hd : x.d = true) (h : DOk x a wt g) (p : Bs) : tellM (dS x a wt g) 1 p = if (split p).isSome = true then (dS x a (nwt x p wt g) (ng x p wt g), 0) else (⟨[], []⟩, 1) := by
  unfold tellM
  rw [dS_right hx h]
  simp only [true_and, show (1 : Int) ≤ 1 ∧ (1 : Int) ≤ 3 from by decide]
  split
  · rename_i hp
    congr 1
    cases g with
    | true => simp [dS, tellL, nwt, ng]
    | false =>
      have hl := h.few rfl
      by_cases hi : inB p x.p = true
      · have ho : ofCh p x = true := by rw [of_deep hd hp]; exact hi
        have hne := split_ne hp
        have hmx : ¬ (((a + wt.length : Nat) : Int) = mxN) := by have := h.max; unfold mxN; omega
        have hb : (a : Int) + 1 + (wt.length : Nat) = ((a + wt.length : Nat) : Int) + 1 := by push_cast; omega
        have h8 : ¬ ((evF x (a + 1) wt).length = 8) := by rw [evF_len]; omega
        show (⟨(tellL 1 p [x] [⟨x.s, ((a + wt.length : Nat) : Int), evF x (a + 1) wt⟩]).1, (tellL 1 p [x] [⟨x.s, ((a + wt.length : Nat) : Int), evF x (a + 1) wt⟩]).2⟩ : Wd) = _
        have hk : ∀ t : Bs, ((a + (wt ++ [t]).length : Nat) : Int) = ((a + wt.length : Nat) : Int) + 1 := fun t => by simp only [List.length_append, List.length_cons, List.length_nil]; push_cast; omega
        have hs : seS [⟨x.s, ((a + wt.length : Nat) : Int), evF x (a + 1) wt⟩] x.s = ⟨x.s, ((a + wt.length : Nat) : Int), evF x (a + 1) wt⟩ := by simp [seS, getS]
        have hn : nwt x p wt false = wt ++ [if wt.length = 7 then [] else p] := if_pos ⟨rfl, hi⟩
        have hg : ng x p wt false = decide (wt.length = 7) := if_pos ⟨rfl, hi⟩
        have haw : ∀ (kk : Int) (q : Bs) (u : Int), awt ⟨x.s, ((a + wt.length : Nat) : Int), evF x (a + 1) wt⟩ kk q u = ⟨x.s, ((a + wt.length : Nat) : Int) + 1, evF x (a + 1) wt ++ [⟨((a + wt.length : Nat) : Int) + 1, kk, q, u⟩]⟩ := fun kk q u => by unfold awt; exact if_neg hmx
        rw [hn, hg]
        unfold dS
        rw [hk, evF_app, hb]
        by_cases h7 : wt.length = 7
        · have h7' : (evF x (a + 1) wt).length = 7 := by rw [evF_len]; exact h7
          rw [if_pos h7]
          simp only [tellL, List.foldl, tst, ho, if_true, hs, ntf, h8, h7', (by decide : ¬ ((7 : Nat) = 8)), if_false, haw, putS, Int.lt_irrefl, decide_eq_true h7, dk, Bool.false_eq_true]
        · have h7' : ¬ (evF x (a + 1) wt).length = 7 := by rw [evF_len]; exact h7
          rw [if_neg h7]
          simp only [tellL, List.foldl, tst, ho, if_true, hs, ntf, h8, h7', if_false, haw, putS, Int.lt_irrefl, decide_eq_false h7, dk, hd, if_neg hne, List.nil_append, Bool.false_eq_true]
      · have ho : ofCh p x = false := by rw [of_deep hd hp]; simpa using hi
        simp [dS, tellL, tst, ho, nwt, ng, hi]
  · rfl
theorem DOk.tell {x : Wt} {a : Nat} {wt : List Bs} {g : Bool} (h : DOk x a wt g) {p : Bs} (hp : (split p).isSome = true) (hm : a + wt.length < 1000) : DOk x a (nwt x p wt g) (ng x p wt g) := by
  unfold nwt ng
  split
  · rename_i hi
    have hl := h.few hi.1
    refine ⟨by simp; omega, fun he => ?_, fun t ht hne => ?_, by simp; omega⟩
    · have := of_decide_eq_false he
      simp; omega
    · rcases List.mem_append.1 ht with ht | ht
      · exact h.txt t ht hne
      · rw [List.mem_singleton.1 ht] at hne ⊢
        by_cases h7 : wt.length = 7
        · rw [if_pos h7] at hne; exact absurd rfl hne
        · rw [if_neg h7]; exact hp
  · exact h
theorem nwt_len (x : Wt) (p : Bs) (wt : List Bs) (g : Bool) : (nwt x p wt g).length ≤ wt.length + 1 := by unfold nwt; split <;> simp
theorem DOk.drop {x : Wt} {a : Nat} {wt : List Bs} {g : Bool} (h : DOk x a wt g) (n : Nat) (hn : n ≤ wt.length) : DOk x (a + n) (wt.drop n) g := by
  have hl := h.len
  have hm := h.max
  exact ⟨by rw [List.length_drop]; omega, fun e => by have := h.few e; rw [List.length_drop]; omega, fun t ht => h.txt t (List.mem_of_mem_drop ht), by rw [List.length_drop]; omega⟩
theorem take_dS {x : Wt} {a : Nat} {wt : List Bs} {g : Bool} (hx : rWt x = true) (h : DOk x a wt g) (n : Nat) (hn : n ≤ wt.length) : takeM (dS x a wt g) x.s ((a + n : Nat) : Int) = (dS x (a + n) (wt.drop n) g, evF x (((a + n : Nat) : Int) + 1) (wt.drop n), 0) := by
  have hr := dS_right hx h
  have hse := dS_se hx h
  obtain ⟨k, k1, k2, k3⟩ := cutE_right hse ((a + n : Nat) : Int)
  simp only [evF_len] at k1 k3
  have hk : k = n := by
    rcases Nat.lt_trichotomy k n with hlt | he | hgt
    · have hkl : k < wt.length := by omega
      have := (not_congr (k3 k hkl)).1 (Nat.lt_irrefl k)
      rw [evF_get x _ wt k (by rw [evF_len]; exact hkl) hkl] at this
      unfold dk at this
      split at this <;> simp only at this <;> omega
    · exact he
    · have hnl : n < wt.length := by omega
      have := (k3 n hnl).1 hgt
      rw [evF_get x _ wt n (by rw [evF_len]; exact hnl) hnl] at this
      unfold dk at this
      split at this <;> simp only at this <;> omega
  subst hk
  simp only at k2
  unfold takeM
  rw [hr, if_pos rfl]
  have hg : getS (dS x a wt g).ss x.s = some ⟨x.s, ((a + wt.length : Nat) : Int), evF x (a + 1) wt⟩ := by simp [dS, getS]
  rw [hg]
  simp only
  rw [k2, evF_drop]
  have e1 : (a : Int) + 1 + (k : Int) = ((a + k : Nat) : Int) + 1 := by push_cast; omega
  have e2 : (a + k : Nat) + (wt.drop k).length = a + wt.length := by rw [List.length_drop]; omega
  rw [e1]
  simp only [dS, putS, Int.lt_irrefl, if_false, if_true, e2]

abbrev TS9 : TypeId := 9
abbrev TLS9 : TypeId := 45
theorem Try.infoS9 : (Try.prog.info? TS9).map (fun i => (i.zero, i.size, i.bytes)) = some (some (.string ⟨#[]⟩), 1, 16) := by kernel_rfl
/-- Blocks of texts, from lo on. -/
def Stg (lo : Nat) (w : World) : Nat → Prop := fun k => lo ≤ k ∧ ∃ cs, w.heap[k]? = some (.cells cs TS9 (0, 0)) ∧ ∀ (i : Nat) (v : Value), cs[i]? = some v → ∃ s : ByteArray, v = Value.string s
theorem Stg.int {lo : Nat} {w : World} {g o : Nat} {z : Int} (hc : w.cell? ⟨g, o, none⟩ = some (.int .i64 z)) : ¬ Stg lo w g := by
  rintro ⟨_, cs, h1, h2⟩
  rw [cell_of_row _ _ _ _ _ _ h1] at hc
  obtain ⟨s, e⟩ := h2 _ _ hc
  cases e
theorem Stg.row {lo : Nat} {w : World} {g : Nat} {cs : Array Value} {T : TypeId} (h : w.heap[g]? = some (.cells cs T (0, 0))) (hT : T ≠ TS9) : ¬ Stg lo w g := by
  rintro ⟨_, c2, h1, _⟩
  rw [h] at h1
  injection h1 with h1
  injection h1 with _ h1
  exact hT h1
theorem WdR.stg {lo : Nat} {w w' : World} {v : Value} {d : Wd} (h : WdR w v d) (f : Fp (Stg lo w) w w') : WdR w' v d := by
  obtain ⟨vw, vs, rfl, h1, L, h2, h3, h4⟩ := h.ex
  have k1 : ∀ {v l}, NsW w v l → NsW w' v l := by
    intro v l h
    obtain ⟨ao, cap, rfl, k1, k2, k3⟩ := h.ex
    refine ⟨ao, cap, rfl, k1, k2, ?_⟩
    rcases k3 with k3 | ⟨g, o, rfl, hg, hc⟩
    · exact .inl k3
    · refine .inr ⟨g, o, rfl, Nat.lt_of_lt_of_le hg f.size, fun i hi => (hc i hi).keep f (Stg.int (hc i hi).c0)⟩
  have k2 : ∀ {v l}, NsV w v l → NsV w' v l := by
    intro v l h
    obtain ⟨ao, cap, rfl, k1, k2, k3⟩ := h.ex
    refine ⟨ao, cap, rfl, k1, k2, ?_⟩
    rcases k3 with k3 | ⟨g, o, rfl, hg, hc⟩
    · exact .inl k3
    · refine .inr ⟨g, o, rfl, Nat.lt_of_lt_of_le hg f.size, fun i hi => (hc i hi).keep f (Stg.int (hc i hi).c0)⟩
  have k3 : ∀ {v l}, NsE w v l → NsE w' v l := by
    intro v l h
    obtain ⟨ao, cap, rfl, k1, k2, k3⟩ := h.ex
    refine ⟨ao, cap, rfl, k1, k2, ?_⟩
    rcases k3 with k3 | ⟨g, o, rfl, hg, hc⟩
    · exact .inl k3
    · refine .inr ⟨g, o, rfl, Nat.lt_of_lt_of_le hg f.size, fun i hi => (hc i hi).keep f (Stg.int (hc i hi).c0)⟩
  exact ⟨vw, vs, rfl, k1 h1, L, h2, k2 h3, fun x hx => k3 (h4 x hx)⟩

/-- Texts of the call's own, that begin anywhere in their block. -/
structure Wr (lo : Nat) (w : World) (v : Value) (l : List Bs) : Prop where
  ex : ∃ ao cap, v = .slice ao l.length cap ∧ l.length ≤ cap ∧ cap ≤ maxLen ∧ ((ao = none ∧ cap = 0) ∨ ∃ g o cs, ao = some ⟨g, o, none⟩ ∧ lo ≤ g ∧ w.heap[g]? = some (.cells cs TS9 (0, 0)) ∧ o + cap ≤ cs.size ∧ (∀ i (h : i < l.length), cs[o + i]? = some (.string (B l[i]))) ∧ ∀ (i : Nat) (v : Value), cs[i]? = some v → ∃ s : ByteArray, v = Value.string s)
theorem Wr.nil (lo : Nat) (w : World) : Wr lo w (.slice none 0 0) [] := ⟨none, 0, rfl, Nat.le_refl _, Nat.zero_le _, .inl ⟨rfl, rfl⟩⟩
theorem Wr.keep {lo : Nat} {S : Nat → Prop} {w w' : World} {v : Value} {l : List Bs} (h : Wr lo w v l) (f : Fp S w w') (hS : ∀ k cs, w.heap[k]? = some (.cells cs TS9 (0, 0)) → ¬ S k) : Wr lo w' v l := by
  obtain ⟨ao, cap, e, h1, h2, h3⟩ := h.ex
  refine ⟨ao, cap, e, h1, h2, h3.imp id ?_⟩
  rintro ⟨g, o, cs, e2, k1, k2, k3⟩
  exact ⟨g, o, cs, e2, k1, f.heap k2 (hS g cs k2), k3⟩
theorem Wr.non {lo : Nat} {w w' : World} {v : Value} {l : List Bs} (h : Wr lo w v l) (f : Fp Non w w') : Wr lo w' v l := h.keep f (fun _ _ _ h => h)
/-- A box of two slices is written. -/
theorem Wr.box {lo b : Nat} {w w' : World} {v : Value} {l : List Bs} {cs : Array Value} (h : Wr lo w v l) (f : Fp (fun k => k = b) w w') (hb : w.heap[b]? = some (.cells cs TD (0, 0))) : Wr lo w' v l :=
  h.keep f (fun k c2 hk he => by
    have he : k = b := he
    subst he
    rw [hb] at hk
    injection hk with hk
    injection hk with _ hk
    exact absurd hk (by decide))
theorem Wr.shape {lo : Nat} {w : World} {v : Value} {l : List Bs} (h : Wr lo w v l) : ∃ ao cap, v = .slice ao l.length cap ∧ l.length ≤ cap := by
  obtain ⟨ao, cap, e, h1, _⟩ := h.ex; exact ⟨ao, cap, e, h1⟩
theorem Wr.cell {lo : Nat} {w : World} {ao : Option Addr} {n cap : Nat} {l : List Bs} (h : Wr lo w (.slice ao n cap) l) (h0 : 0 < l.length) : ∃ g o, ao = some ⟨g, o, none⟩ ∧ ∀ i (h : i < l.length), w.cell? ⟨g, o + i, none⟩ = some (.string (B l[i])) := by
  obtain ⟨ao', cap', e, h1, h2, h3⟩ := h.ex
  injection e with e1 e2 e3
  subst e1
  rcases h3 with ⟨_, h3⟩ | ⟨g, o, cs, e2, k1, k2, k3, k4, k5⟩
  · omega
  · exact ⟨g, o, e2, fun i hi => by rw [cell_of_row _ _ _ _ _ _ k2]; exact k4 i hi⟩
/-- Re-sliced. -/
theorem Wr.cut {lo : Nat} {w : World} {ao : Option Addr} {m cap : Nat} {l : List Bs} (h : Wr lo w (.slice ao m cap) l) (n : Nat) (hn : n ≤ l.length) (hnc : n < cap) : Wr lo w (.slice (ao.map fun p => p.add n) (m - n) (cap - n)) (l.drop n) := by
  obtain ⟨ao', cap', e, h1, h2, h3⟩ := h.ex
  injection e with e1 e2 e3
  subst e1 e3
  have hl : (l.drop n).length = m - n := by rw [List.length_drop]; omega
  refine ⟨_, _, by rw [hl], by rw [hl]; omega, by omega, ?_⟩
  rcases h3 with ⟨_, h3⟩ | ⟨g, o, cs, e4, k1, k2, k3, k4, k5⟩
  · omega
  · subst e4
    refine .inr ⟨g, o + n, cs, by simp [Addr.add], k1, k2, by omega, fun i hi => ?_, k5⟩
    rw [List.getElem_drop, Nat.add_assoc]
    exact k4 (n + i) (by rw [hl] at hi; omega)
theorem Wr.cut0 {lo : Nat} {w : World} {ao : Option Addr} {m cap : Nat} {l : List Bs} (h : Wr lo w (.slice ao m cap) l) (hn : cap ≤ l.length) : Wr lo w (.slice ao (m - cap) (cap - cap)) (l.drop cap) := by
  obtain ⟨ao', cap', e, h1, h2, h3⟩ := h.ex
  injection e with e1 e2 e3
  subst e1 e3
  have hl : (l.drop cap).length = m - cap := by rw [List.length_drop]; omega
  have hl0 : (l.drop cap).length = 0 := by rw [List.length_drop]; omega
  refine ⟨ao, cap - cap, by rw [hl], by rw [hl0]; exact Nat.zero_le _, by omega, ?_⟩
  rcases h3 with ⟨h3, h4⟩ | ⟨g, o, cs, e4, k1, k2, k3, k4, k5⟩
  · exact .inl ⟨h3, by omega⟩
  · exact .inr ⟨g, o, cs, e4, k1, k2, by omega, fun i hi => by rw [hl0] at hi; omega, k5⟩
/-- What an append of one text leaves. -/
structure WrR (lo : Nat) (w : World) (l : List Bs) (v' : Value) (w' : World) : Prop where
  own : Wr lo w' v' l
  fp : Fp (Stg lo w) w w'
theorem str_zero (n i : Nat) (v : Value) (h : (Builtin.zeroCells (Value.string ⟨#[]⟩).cells n)[i]? = some v) : ∃ s : ByteArray, v = Value.string s := by
  unfold Builtin.zeroCells at h
  rw [Array.getElem?_map] at h
  cases hr : (Array.range (n * (Value.string ⟨#[]⟩).cells.size))[i]? with
  | none => rw [hr] at h; cases h
  | some k =>
    rw [hr] at h
    injection h with h
    refine ⟨⟨#[]⟩, ?_⟩
    rw [← h]
    have : (Value.string ⟨#[]⟩).cells.size = 1 := rfl
    show (Value.string ⟨#[]⟩).cells[k % (Value.string ⟨#[]⟩).cells.size]! = _
    rw [this, Nat.mod_one]
    rfl
theorem app_wr (w : World) (lo : Nat) (v : Value) (l : List Bs) (x : Bs) (ty : TypeId) (ho : Wr lo w v l) (hn : l.length ≤ 50000) (hlo : lo ≤ w.heap.size) :
    ∃ v' w', (Builtin.append_ #[TLS9, TLS9] ty #[v, .slice (some ⟨w.heap.size, 0, none⟩) 1 1]).run Try.prog (w.alloc (.cells #[.string (B x)] TS9)) = .ok v' w' ∧ WrR lo (w.alloc (.cells #[.string (B x)] TS9)) (l ++ [x]) v' w' := by
  have ho := ho.non (fp_alloc w (.cells #[.string (B x)] TS9))
  have hb := heap_alloc_new w (.cells #[.string (B x)] TS9)
  have hlo : lo ≤ (w.alloc (.cells #[.string (B x)] TS9)).heap.size := Nat.le_trans hlo (fp_alloc w _).size
  generalize (w.alloc (.cells #[.string (B x)] TS9)) = W at *
  obtain ⟨i, hi, hz, hsz, hby⟩ := info_parts Try.infoS9
  have hsrc : Src Try.prog i.size TLS9 (.slice (some ⟨w.heap.size, 0, none⟩) 1 1) 1 [.string (B x)] W := Src.ofSlice W Try.underlying45 ⟨w.heap.size, 0, none⟩ 1 1 [.string (B x)] (by rw [hsz]; rfl) (fun j u hu => by
    have hj : j = 0 := by have := (List.getElem?_eq_some_iff.1 hu).1; simp at this; omega
    subst hj
    rw [Addr.add_lit, cell_of_row _ _ _ _ _ _ hb]
    exact hu) (by simp [Value.oneCell'])
  obtain ⟨ao, cap, rfl, h1, h2, h3⟩ := ho.ex
  have grow : ∀ olds : List Value, olds = l.map (fun t => Value.string (B t)) → cap < l.length + 1 → (Builtin.firstCells i.size l.length (.slice ao l.length cap)).run Try.prog W.drew = .ok olds.toArray W.drew →
      ∃ v' w', (Builtin.append_ #[TLS9, TLS9] ty #[.slice ao l.length cap, .slice (some ⟨w.heap.size, 0, none⟩) 1 1]).run Try.prog W = .ok v' w' ∧ WrR lo W (l ++ [x]) v' w' := by
    intro olds hol hg hold
    have hrun := run_append_grow_src (P := Try.prog) W TLS9 TLS9 ty TS9 i _ Try.underlying45 hi hz ao l.length cap olds hold _ 1 _ hsrc hg (by omega) (growslice_fits hg (by rw [hby]; omega))
    have hge := grownCap_ge W (l.length + 1) cap TS9
    have hcm := grownCap_le_maxLen W (l.length + 1) cap TS9 (by unfold maxLen; omega)
    refine ⟨_, _, hrun, ?_, ((Fp.refl _ W).drew).alloc _⟩
    have hll : (l ++ [x]).length = l.length + 1 := by simp
    refine ⟨_, _, by rw [hll], by rw [hll]; exact hge, hcm, .inr ⟨W.heap.size, 0, _, rfl, hlo, heap_alloc_new W.drew _, ?_, fun j hj => ?_, fun j u hu => ?_⟩⟩
    · rw [Array.size_append, size_zeroCells]
      simp [hol]
      have : (Value.string ⟨#[]⟩).cells.size = 1 := rfl
      rw [this, Nat.mul_one]
      omega
    · rw [Nat.zero_add, Array.getElem?_append_left (by simp [hol]; simpa using hj), List.getElem?_toArray, hol, show l.map (fun t => Value.string (B t)) ++ [Value.string (B x)] = (l ++ [x]).map (fun t => Value.string (B t)) from by simp, List.getElem?_map, List.getElem?_eq_getElem hj]
      rfl
    · rw [Array.getElem?_append] at hu
      split at hu
      · rw [List.getElem?_toArray, hol, show l.map (fun t => Value.string (B t)) ++ [Value.string (B x)] = (l ++ [x]).map (fun t => Value.string (B t)) from by simp, List.getElem?_map] at hu
        cases hr : (l ++ [x])[j]? with
        | none => rw [hr] at hu; cases hu
        | some t => rw [hr] at hu; injection hu with hu; exact ⟨_, hu.symm⟩
      · exact str_zero _ _ _ hu
  rcases h3 with ⟨rfl, rfl⟩ | ⟨g, o, cs, rfl, k1, k2, k3, k4, k5⟩
  · obtain rfl : l = [] := List.eq_nil_of_length_eq_zero (by omega)
    exact grow [] rfl (by simp) (run_firstCells_none (P := Try.prog) W.drew i.size 0 0 0)
  · by_cases hroom : l.length + 1 ≤ cap
    · have hsz1 : o + l.length < cs.size := by omega
      have hcell : ∀ j, j < [Value.string (B x)].length → (W.cell? ⟨g, o + l.length * i.size + j, none⟩).isSome = true := fun j hj => by
        have hj0 : j = 0 := by simp at hj; omega
        subst hj0
        rw [hsz, Nat.mul_one, Nat.add_zero, cell_of_row _ _ _ _ _ _ k2, Array.getElem?_eq_getElem hsz1]; rfl
      have hrun := run_append_room_src (P := Try.prog) W TLS9 TLS9 ty TS9 i Try.underlying45 hi g o l.length cap _ 1 _ hsrc hroom hcell (fun j _ => frozen_at k2 _)
      refine ⟨_, _, hrun, ?_⟩
      rw [show W.setCells g (o + l.length * i.size) [Value.string (B x)] = W.setCell ⟨g, o + l.length, none⟩ (.string (B x)) from by rw [hsz, Nat.mul_one]; rfl]
      have hset := heap_setCell_same W g (o + l.length) cs TS9 (.string (B x)) k2
      have hll : (l ++ [x]).length = l.length + 1 := by simp
      refine ⟨⟨_, _, by rw [hll], by rw [hll]; exact hroom, h2, .inr ⟨g, o, _, rfl, k1, hset, ?_, fun j hj => ?_, fun j u hu => ?_⟩⟩, (Fp.refl _ W).setCell (.inl ⟨k1, cs, k2, k5⟩) _⟩
      · simpa using k3
      · by_cases hjl : j < l.length
        · rw [Array.getElem?_setIfInBounds_ne (by omega), List.getElem_append_left hjl]
          exact k4 j hjl
        · have hje : j = l.length := by simp at hj; omega
          subst hje
          rw [Array.getElem?_setIfInBounds_self_of_lt hsz1]
          simp
      · by_cases hje : o + l.length = j
        · subst hje
          rw [Array.getElem?_setIfInBounds_self_of_lt hsz1] at hu
          injection hu with hu
          exact ⟨_, hu.symm⟩
        · rw [Array.getElem?_setIfInBounds_ne hje] at hu
          exact k5 j u hu
    · refine grow _ rfl (by omega) ?_
      have := run_firstCells_some (P := Try.prog) W.drew i.size l.length ⟨g, o, none⟩ l.length cap (l.map (fun t => Value.string (B t))) (by rw [hsz]; simp) (fun j u hu => by
        have hj : j < l.length := by have := (List.getElem?_eq_some_iff.1 hu).1; simpa using this
        rw [List.getElem?_map, List.getElem?_eq_getElem hj] at hu
        rw [Addr.add_lit]
        have e : W.drew.cell? ⟨g, o + j, none⟩ = W.cell? ⟨g, o + j, none⟩ := rfl
        rw [e, cell_of_row _ _ _ _ _ _ k2, k4 j hj]
        exact hu)
      exact this
end Go.Proofs.Ythkjknmfianmlaa
