/- Texts of this proof, merged. -/
import Derived.Test.YtdfnfkknbjageaaZD
import Derived.Test.YtdfnfkknbjageaaZB
import Derived.Test.YtdfnfkknbjageaaZE
set_option linter.unusedVariables false
set_option linter.unusedSimpArgs false
/- Rows of structs, of whatever type: slices that read so, rows of the call's own, append. -/
namespace Go.Proofs.Ytdfnfkknbjageaa
set_option maxRecDepth 20000
open Go.RowKit Pm

section
variable {α : Type} {enc : α → List Value} {k : Nat}
/-- The cells of some, one behind the other. -/
def rowsG (enc : α → List Value) (l : List α) : List Value := l.flatMap enc
theorem rowsG_cons (x : α) (l : List α) : rowsG enc (x :: l) = enc x ++ rowsG enc l := by simp [rowsG]
theorem rowsG_app (a b : List α) : rowsG enc (a ++ b) = rowsG enc a ++ rowsG enc b := by simp [rowsG]
theorem rowsG_len (hk : ∀ x, (enc x).length = k) (l : List α) : (rowsG enc l).length = l.length * k := by
  induction l with
  | nil => simp [rowsG]
  | cons x l ih => rw [rowsG_cons, List.length_append, hk, ih, List.length_cons, Nat.add_mul, Nat.one_mul, Nat.add_comm]
theorem rowsG_get (hk : ∀ x, (enc x).length = k) (l : List α) (i j : Nat) (hi : i < l.length) (hj : j < k) : (rowsG enc l)[i * k + j]? = (enc l[i])[j]? := by
  induction l generalizing i with
  | nil => simp at hi
  | cons x l ih =>
    rw [rowsG_cons]
    cases i with
    | zero => rw [List.getElem?_append_left (by rw [hk]; omega)]; simp
    | succ i =>
      have e : (i + 1) * k + j = k + (i * k + j) := by rw [Nat.add_mul, Nat.one_mul]; omega
      rw [List.getElem?_append_right (by rw [hk, e]; omega), hk, e, Nat.add_sub_cancel_left, ih i (by simpa using hi)]
      simp
theorem rowsG_one (h1 : ∀ x, ∀ u ∈ enc x, u.oneCell' = true) (l : List α) : ∀ u ∈ rowsG enc l, u.oneCell' = true := by
  intro u hu
  unfold rowsG at hu
  obtain ⟨x, _, hx⟩ := List.mem_flatMap.1 hu
  exact h1 x u hx

/-- One at a place. -/
structure ElAt (enc : α → List Value) (w : World) (g o : Nat) (x : α) : Prop where
  get : ∀ j v, (enc x)[j]? = some v → w.cell? ⟨g, o + j, none⟩ = some v
theorem ElAt.keep {w w' : World} {g o : Nat} {x : α} (h : ElAt enc w g o x) {S : Nat → Prop} (f : Fp S w w') (hS : ¬ S g) : ElAt enc w' g o x := ⟨fun j v hv => f.cell (h.get j v hv) hS⟩
/-- A slice that reads so. -/
structure Sg (enc : α → List Value) (k : Nat) (w : World) (v : Value) (l : List α) : Prop where
  ex : ∃ ao cap, v = .slice ao l.length cap ∧ (l = [] ∨ ∃ g o, ao = some ⟨g, o, none⟩ ∧ ∀ i (h : i < l.length), ElAt enc w g (o + i * k) l[i])
theorem Sg.non {w w' : World} {v : Value} {l : List α} (h : Sg enc k w v l) (f : Fp Non w w') : Sg enc k w' v l := by
  obtain ⟨ao, cap, rfl, h3⟩ := h.ex
  refine ⟨ao, cap, rfl, ?_⟩
  rcases h3 with h3 | ⟨g, o, rfl, hc⟩
  · exact .inl h3
  · exact .inr ⟨g, o, rfl, fun i hi => (hc i hi).keep f (fun h => h)⟩
theorem Sg.shape {w : World} {v : Value} {l : List α} (h : Sg enc k w v l) : ∃ ao cap, v = .slice ao l.length cap := by
  obtain ⟨ao, cap, rfl, _⟩ := h.ex; exact ⟨ao, cap, rfl⟩
theorem Sg.nil (w : World) : Sg enc k w (.slice none 0 0) [] := ⟨none, 0, rfl, .inl rfl⟩
theorem Sg.at {w : World} {v : Value} {l : List α} (h : Sg enc k w v l) (h0 : 0 < l.length) : ∃ g o cap, v = .slice (some ⟨g, o, none⟩) l.length cap ∧ ∀ i (h : i < l.length), ElAt enc w g (o + i * k) l[i] := by
  obtain ⟨ao, cap, rfl, h3⟩ := h.ex
  rcases h3 with h3 | ⟨g, o, rfl, hc⟩
  · subst h3; simp at h0
  · exact ⟨g, o, cap, rfl, hc⟩

/-- A row of the call's own, that may be none. -/
def OwG (T : TypeId) (enc : α → List Value) (k : Nat) (lo : Nat) (w : World) (v : Value) (l : List α) : Prop := w.ownsRow lo T k v l.length (rowsG enc l)
variable {T : TypeId}
theorem OwG.nil (lo : Nat) (w : World) : OwG T enc k lo w (.slice none 0 0) [] := ⟨by simp [rowsG], .inl ⟨rfl, rfl⟩⟩
theorem OwG.non {lo : Nat} {w w' : World} {v : Value} {l : List α} (h : OwG T enc k lo w v l) (f : Fp Non w w') : OwG T enc k lo w' v l := f.owns h (fun _ _ h => h)
theorem OwG.lt {lo : Nat} {w : World} {v : Value} {l : List α} (h : OwG T enc k lo w v l) : ∀ j, v.ownBlock = some j → lo ≤ j ∧ j < w.heap.size := fun j hj => World.ownsRow.lt h j hj
theorem OwG.sg (hk : ∀ x, (enc x).length = k) {lo : Nat} {w : World} {v : Value} {l : List α} (h : OwG T enc k lo w v l) : Sg enc k w v l := by
  rcases h.2 with ⟨h0, h1⟩ | ⟨g, cap, cur, e, hb, hg, h1, h2, h3, h4⟩
  · refine ⟨none, 0, ?_, ?_⟩
    · rw [h1]; exact h0
    · exact .inl (List.eq_nil_of_length_eq_zero h1)
  · refine ⟨_, cap, e, .inr ⟨g, 0, rfl, fun i hi => ⟨fun j v hv => ?_⟩⟩⟩
    have hj : j < k := by rw [← hk l[i]]; exact (List.getElem?_eq_some_iff.1 hv).1
    rw [← rowsG_get hk l i j hi hj, ← h4] at hv
    rw [cell_of_row w g _ _ T (0, 0) hg, Nat.zero_add]
    rw [List.getElem?_take] at hv
    split at hv
    · rw [← hv]; simp
    · cases hv
/-- Some behind a row of the call's own. -/
theorem app_ownG (hk : ∀ x, (enc x).length = k) (h1 : ∀ x, ∀ u ∈ enc x, u.oneCell' = true) {SL : TypeId} {z : Value} {by_ : Nat} (hu : Try.prog.underlying SL = some (.slice T)) (hinf : (Try.prog.info? T).map (fun i => (i.zero, i.size, i.bytes)) = some (some z, k, by_)) (hz : z.cells.size = k) (hk0 : 0 < k) (hby : by_ ≤ 200)
    (w : World) (lo : Nat) (v : Value) (l m : List α) (ty : TypeId) (a : Addr) (n c : Nat) (hv : OwG T enc k lo w v l) (hn : n = m.length) (hx : ∀ i (h : i < m.length) j u, (enc m[i])[j]? = some u → w.cell? (a.add (i * k + j)) = some u) (h6 : l.length + m.length ≤ 100000) (hlo : lo ≤ w.heap.size) :
    ∃ v' w', (Builtin.append_ #[SL, SL] ty #[v, .slice (some a) n c]).run Try.prog w = .ok v' w' ∧ OwG T enc k lo w' v' (l ++ m) ∧ w.grownBy w' v.ownBlock ∧ ∀ j, v'.ownBlock = some j → v.ownBlock = some j ∨ w.heap.size ≤ j := by
  obtain ⟨i, hi, hz0, hsz, hb⟩ := info_parts hinf
  subst hn
  obtain ⟨v', w', hr, h4, h5, _, h8⟩ := run_append_own_at (P := Try.prog) w lo SL ty T i _ k by_ hu hi hz0 hsz hb hz hk0 v l.length (rowsG enc l) hv a m.length c (rowsG enc m) (rowsG_len hk m)
    (fun j u hu => by
      have hj : j < m.length * k := by rw [← rowsG_len hk]; exact (List.getElem?_eq_some_iff.1 hu).1
      have hd : j / k < m.length := Nat.div_lt_of_lt_mul (by rw [Nat.mul_comm]; exact hj)
      have hr : j % k < k := Nat.mod_lt _ hk0
      have e : j / k * k + j % k = j := Nat.div_add_mod' j k
      rw [← e, rowsG_get hk m (j / k) (j % k) hd hr] at hu
      have := hx (j / k) hd (j % k) u hu
      rwa [e] at this)
    (rowsG_one h1 m) (by unfold maxLen; omega) (Nat.le_trans (Nat.mul_le_mul h6 hby) (by decide)) hlo
  refine ⟨v', w', hr, ?_, h5, fun j hj => ?_⟩
  · unfold OwG
    rw [rowsG_app, List.length_append]; exact h4
  · rcases h8 with e | e
    · exact .inl (by rw [← e]; exact hj)
    · rw [hj] at e; injection e with e; exact .inr (by omega)
end

end Go.Proofs.Ytdfnfkknbjageaa

/- Turns in memory: slices of them, rows of the call's own; append, copy, clear; slices.Insert in the midst (gen_twin.py) -/
namespace Go.Proofs.Ytdfnfkknbjageaa
set_option maxRecDepth 20000
open Go.RowKit Pm

abbrev TU : TypeId := 94
/-- A node's cells. -/
def tuC (n : Tu) : List Value := [strV n.dir, .int .i64 n.next]
/-- A node at a placeT. -/
structure TuAt (w : World) (g o : Nat) (n : Tu) : Prop where
  c0 : w.cell? ⟨g, o, none⟩ = some (strV n.dir)
  c1 : w.cell? ⟨g, o + 1, none⟩ = some (.int .i64 n.next)
theorem TuAt.keep {w w' : World} {g o : Nat} {n : Tu} (h : TuAt w g o n) {S : Nat → Prop} (f : Fp S w w') (hS : ¬ S g) : TuAt w' g o n :=
  ⟨f.cell h.c0 hS, f.cell h.c1 hS⟩
theorem TuAt.get {w : World} {g o : Nat} {n : Tu} (h : TuAt w g o n) : ∀ j v, (tuC n)[j]? = some v → w.cell? ((⟨g, o, none⟩ : Addr).add j) = some v := by
  intro j v hv
  rw [Addr.add_lit]
  match j, hv with
  | 0, hv => rw [← Option.some.inj hv]; exact h.c0
  | 1, hv => rw [← Option.some.inj hv]; exact h.c1
  | j + 2, hv => simp [tuC] at hv

/-- A slice that reads as nodes. -/
structure Ts (w : World) (v : Value) (l : List Tu) : Prop where
  ex : ∃ ao cap, v = .slice ao l.length cap ∧ l.length ≤ cap ∧ cap ≤ maxLen ∧ (l = [] ∨ ∃ g o, ao = some ⟨g, o, none⟩ ∧ g < w.heap.size ∧ ∀ i (h : i < l.length), TuAt w g (o + i * 2) l[i])
theorem Ts.keep {w w' : World} {v : Value} {l : List Tu} (h : Ts w v l) {S : Nat → Prop} (f : Fp S w w') (hS : ∀ k, v.ownBlock = some k → ¬ S k) : Ts w' v l := by
  obtain ⟨ao, cap, rfl, h1, h2, h3⟩ := h.ex
  refine ⟨ao, cap, rfl, h1, h2, ?_⟩
  rcases h3 with h3 | ⟨g, o, rfl, hg, hc⟩
  · exact .inl h3
  · exact .inr ⟨g, o, rfl, Nat.lt_of_lt_of_le hg f.size, fun i hi => (hc i hi).keep f (hS g rfl)⟩
theorem Ts.non {w w' : World} {v : Value} {l : List Tu} (h : Ts w v l) (f : Fp Non w w') : Ts w' v l := h.keep f (fun _ _ h => h)
theorem Ts.nil (w : World) : Ts w (.slice none 0 0) [] := ⟨none, 0, rfl, Nat.le_refl _, Nat.zero_le _, .inl rfl⟩
theorem Ts.shape {w : World} {v : Value} {l : List Tu} (h : Ts w v l) : ∃ ao cap, v = .slice ao l.length cap := by
  obtain ⟨ao, cap, rfl, _⟩ := h.ex; exact ⟨ao, cap, rfl⟩
theorem Ts.at {w : World} {v : Value} {l : List Tu} (h : Ts w v l) (h0 : 0 < l.length) : ∃ g o cap, v = .slice (some ⟨g, o, none⟩) l.length cap ∧ l.length ≤ cap ∧ cap ≤ maxLen ∧ g < w.heap.size ∧ ∀ i (h : i < l.length), TuAt w g (o + i * 2) l[i] := by
  obtain ⟨ao, cap, rfl, h1, h2, h3⟩ := h.ex
  rcases h3 with h3 | ⟨g, o, rfl, hg, hc⟩
  · subst h3; simp at h0
  · exact ⟨g, o, cap, rfl, h1, h2, hg, hc⟩
theorem Ts.take {w : World} {g o n cap : Nat} {l : List Tu} (h : Ts w (.slice (some ⟨g, o, none⟩) n cap) l) (k c : Nat) (hk : k ≤ l.length) (hkc : k ≤ c) (hc : c ≤ maxLen) (h0 : g < w.heap.size) : Ts w (.slice (some ⟨g, o, none⟩) k c) (l.take k) := by
  obtain ⟨ao, cap', e, h1, h2, h3⟩ := h.ex
  injection e with e1 e2 e3
  have hl : (l.take k).length = k := by rw [List.length_take]; omega
  refine ⟨some ⟨g, o, none⟩, c, by rw [hl], by rw [hl]; exact hkc, hc, ?_⟩
  rcases h3 with h3 | ⟨g', o', e4, hg, hcell⟩
  · subst h3; exact .inl (by simp)
  · rw [e4] at e1; injection e1 with e1; injection e1 with e5 e6; subst e5 e6
    refine .inr ⟨g, o, rfl, h0, fun i hi => ?_⟩
    rw [List.getElem_take]
    exact hcell i (by rw [hl] at hi; omega)

end Go.Proofs.Ytdfnfkknbjageaa

