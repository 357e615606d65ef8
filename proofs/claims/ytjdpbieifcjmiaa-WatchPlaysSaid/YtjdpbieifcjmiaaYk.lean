/- Watches and sessions of the call's own; a Watched in work. -/
import Derived.Test.YtjdpbieifcjmiaaYj
import Derived.Test.YtjdpbieifcjmiaaYi
import Derived.Test.YtjdpbieifcjmiaaYz
namespace Go.Proofs.Ytjdpbieifcjmiaa
set_option maxRecDepth 20000
set_option linter.unusedVariables false
set_option linter.unusedSimpArgs false
open Go.RowKit Pm

theorem OwW.type {lo : Nat} {w : World} {v : Value} {l : List Wt} (h : OwW lo w v l) {j : Nat} (hj : v.ownBlock = some j) : ∃ cs, w.heap[j]? = some (.cells cs TW (0, 0)) := by
  rcases h.ways with ⟨rfl, _⟩ | ⟨G, cap, rfl, h1, _⟩
  · simp [Value.ownBlock] at hj
  · obtain ⟨r, h, _⟩ := h1.ex; have : G = j := by simpa [Value.ownBlock] using hj
    subst this; exact ⟨_, h⟩
theorem OwV.type {lo : Nat} {w : World} {v : Value} {l : List Sv} (h : OwV lo w v l) {j : Nat} (hj : v.ownBlock = some j) : ∃ cs, w.heap[j]? = some (.cells cs TV (0, 0)) := by
  rcases h.ways with ⟨rfl, _⟩ | ⟨G, cap, rfl, h1, _⟩
  · simp [Value.ownBlock] at hj
  · obtain ⟨r, h, _⟩ := h1.ex; have : G = j := by simpa [Value.ownBlock] using hj
    subst this; exact ⟨_, h⟩
theorem OwE.type {lo : Nat} {w : World} {v : Value} {l : List Ev} (h : OwE lo w v l) {j : Nat} (hj : v.ownBlock = some j) : ∃ cs, w.heap[j]? = some (.cells cs TE (0, 0)) := by
  rcases h.ways with ⟨rfl, _⟩ | ⟨G, cap, rfl, h1, _⟩
  · simp [Value.ownBlock] at hj
  · obtain ⟨r, h, _⟩ := h1.ex; have : G = j := by simpa [Value.ownBlock] using hj
    subst this; exact ⟨_, h⟩
theorem type_ne {w : World} {i : Nat} {c d : Array Value} {S T : TypeId} (h : w.heap[i]? = some (.cells c S (0, 0))) (k : w.heap[i]? = some (.cells d T (0, 0))) (hST : S ≠ T) : False := by
  rw [k] at h
  injection h with h
  injection h with _ h _
  exact hST h.symm

/-- Blocks of the call's own that hold a Watched, sessions or events. -/
def Sty (lo : Nat) (w : World) : Nat → Prop := fun k => lo ≤ k ∧ ∃ cs T, w.heap[k]? = some (.cells cs T (0, 0)) ∧ (T = TD ∨ T = TV ∨ T = TE)
def Ft (lo : Nat) (w w' : World) : Prop := Fp (Sty lo w) w w'
theorem Ft.refl (lo : Nat) (w : World) : Ft lo w w := Fp.refl _ w
theorem Fp.ft {lo : Nat} {w w' : World} (h : Fp Non w w') : Ft lo w w' := Fp.any h
theorem Ft.then {lo : Nat} {a b c : World} (h : Ft lo a b) (g : Ft lo b c) : Ft lo a c := Fp.trans h g (fun k hk => by
  by_cases hl : k < a.heap.size
  · by_cases hs : Sty lo a k
    · exact .inl hs
    · obtain ⟨h1, cs, T, h2, h3⟩ := hk
      rw [h.block k hl hs] at h2
      exact .inl ⟨h1, cs, T, h2, h3⟩
  · exact .inr (by omega))
theorem Ft.of {lo : Nat} {S : Nat → Prop} {a b : World} (h : Fp S a b) (hS : ∀ k, S k → Sty lo a k) : Ft lo a b := h.mono hS
theorem OwW.ft {lo l2 : Nat} {w w' : World} {v : Value} {l : List Wt} (h : OwW lo w v l) (f : Ft l2 w w') : OwW lo w' v l := h.keep f (fun k hk hs => by
  obtain ⟨_, cs, T, h2, h3⟩ := hs
  obtain ⟨cs', h4⟩ := h.type hk
  rcases h3 with rfl | rfl | rfl <;> exact type_ne h4 h2 (by decide))
theorem Ft.over {lo : Nat} {w a b : World} (f : Fp Non w a) (g : Ft lo a b) (h : w.heap.size ≤ lo) : Fp Non w b := Fp.trans f g (fun k hk => .inr (Nat.le_trans h hk.1))

/-- Blocks of the call's own that hold sessions or events. -/
def Sts (lo : Nat) (w : World) : Nat → Prop := fun k => lo ≤ k ∧ ∃ cs T, w.heap[k]? = some (.cells cs T (0, 0)) ∧ (T = TV ∨ T = TE)
def Fs (lo : Nat) (w w' : World) : Prop := Fp (Sts lo w) w w'
theorem Fp.fs {lo : Nat} {w w' : World} (h : Fp Non w w') : Fs lo w w' := Fp.any h
theorem Fs.then {lo : Nat} {a b c : World} (h : Fs lo a b) (g : Fs lo b c) : Fs lo a c := Fp.trans h g (fun k hk => by
  by_cases hl : k < a.heap.size
  · by_cases hs : Sts lo a k
    · exact .inl hs
    · obtain ⟨h1, cs, T, h2, h3⟩ := hk
      rw [h.block k hl hs] at h2
      exact .inl ⟨h1, cs, T, h2, h3⟩
  · exact .inr (by omega))
theorem Fs.of {lo : Nat} {S : Nat → Prop} {a b : World} (h : Fp S a b) (hS : ∀ k, S k → Sts lo a k) : Fs lo a b := h.mono hS
theorem Fs.ft {lo : Nat} {a b : World} (h : Fs lo a b) : Ft lo a b := Fp.mono h (fun k hk => by
  obtain ⟨h1, cs, T, h2, h3⟩ := hk
  exact ⟨h1, cs, T, h2, .inr h3⟩)
theorem Fs.row {lo : Nat} {w w' : World} (f : Fs lo w w') {k : Nat} {cs : Array Value} {T : TypeId} (h : w.heap[k]? = some (.cells cs T (0, 0))) (h2 : T ≠ TV) (h3 : T ≠ TE) : w'.heap[k]? = some (.cells cs T (0, 0)) :=
  Fp.heap f h (fun hs => by
    obtain ⟨_, cs', T', ht, hT⟩ := hs
    rcases hT with rfl | rfl
    · exact type_ne h ht h2
    · exact type_ne h ht h3)
/-- Watches and sessions of the call's own; each session's events lie apart. -/
structure Cl (lo : Nat) (vw vs : Value) (ws : List Wt) (L : List Sv) (w : World) : Prop where
  ownW : OwW lo w vw ws
  ownV : OwV lo w vs L
  ownE : ∀ x ∈ L, OwE lo w x.ev x.s.evs
  apart : L.Pairwise (fun x y => ∀ k, x.ev.ownBlock = some k → y.ev.ownBlock ≠ some k)
theorem Cl.non {lo : Nat} {vw vs : Value} {ws : List Wt} {L : List Sv} {w w' : World} (h : Cl lo vw vs ws L w) (f : Fp Non w w') : Cl lo vw vs ws L w' :=
  ⟨h.ownW.non f, h.ownV.non f, fun x hx => (h.ownE x hx).non f, h.apart⟩
theorem Cl.ses {lo : Nat} {vw vs : Value} {ws : List Wt} {L : List Sv} {w : World} (h : Cl lo vw vs ws L w) : Ses w vs (L.map Sv.s) := ⟨L, rfl, h.ownV.ns, fun x hx => (h.ownE x hx).ns⟩
theorem Cl.wd {lo : Nat} {vw vs : Value} {ws : List Wt} {L : List Sv} {w : World} (h : Cl lo vw vs ws L w) : WdR w (.agg #[vw, vs]) ⟨ws, L.map Sv.s⟩ := ⟨vw, vs, rfl, h.ownW.ns, h.ses⟩
/-- In a box. -/
structure Wk (lo N : Nat) (vw vs : Value) (ws : List Wt) (L : List Sv) (w : World) : Prop where
  blk : w.heap[N]? = some (.cells #[vw, vs] TD (0, 0))
  low : lo ≤ N
  cl : Cl lo vw vs ws L w
theorem Wk.non {lo N : Nat} {vw vs : Value} {ws : List Wt} {L : List Sv} {w w' : World} (h : Wk lo N vw vs ws L w) (f : Fp Non w w') : Wk lo N vw vs ws L w' := ⟨f.heap h.blk (fun h => h), h.low, h.cl.non f⟩
theorem Wk.sty {lo N : Nat} {vw vs : Value} {ws : List Wt} {L : List Sv} {w : World} (h : Wk lo N vw vs ws L w) : Sty lo w N := ⟨h.low, _, _, h.blk, .inl rfl⟩
theorem OwV.sty {lo : Nat} {w : World} {v : Value} {l : List Sv} (h : OwV lo w v l) {j : Nat} (hj : v.ownBlock = some j) : Sty lo w j := by
  obtain ⟨cs, h1⟩ := h.type hj
  exact ⟨h.low j hj, cs, _, h1, .inr (.inl rfl)⟩
theorem OwE.sty {lo : Nat} {w : World} {v : Value} {l : List Ev} (h : OwE lo w v l) {j : Nat} (hj : v.ownBlock = some j) : Sty lo w j := by
  obtain ⟨cs, h1⟩ := h.type hj
  exact ⟨h.low j hj, cs, _, h1, .inr (.inr rfl)⟩

theorem OwV.sts {lo : Nat} {w : World} {v : Value} {l : List Sv} (h : OwV lo w v l) {j : Nat} (hj : v.ownBlock = some j) : Sts lo w j := by
  obtain ⟨cs, h1⟩ := h.type hj
  exact ⟨h.low j hj, cs, _, h1, .inl rfl⟩
theorem OwE.sts {lo : Nat} {w : World} {v : Value} {l : List Ev} (h : OwE lo w v l) {j : Nat} (hj : v.ownBlock = some j) : Sts lo w j := by
  obtain ⟨cs, h1⟩ := h.type hj
  exact ⟨h.low j hj, cs, _, h1, .inr rfl⟩
theorem rowsV_set (l : List Sv) (i j : Nat) (hi : i < l.length) (hj : j < 3) (x : Sv) (v : Value) (hx : svC x = (svC l[i]).set j v) : (rowsV l).set (i * 3 + j) v = rowsV (l.set i x) := by
  apply List.ext_getElem?
  intro q
  by_cases hq : q < l.length * 3
  · have hd : q / 3 < l.length := by omega
    have e : q / 3 * 3 + q % 3 = q := by omega
    have hm : q % 3 < 3 := by omega
    have h1 := rowsV_get l (q / 3) (q % 3) hd hm
    have h2 := rowsV_get (l.set i x) (q / 3) (q % 3) (by simpa using hd) hm
    rw [e] at h1 h2
    rw [h2, List.getElem?_set, h1, List.getElem_set]
    by_cases hqi : i = q / 3
    · subst hqi
      rw [if_pos rfl, hx, List.getElem?_set]
      by_cases hqj : j = q % 3
      · rw [if_pos (by omega), if_pos hqj, if_pos (by rw [rowsV_len]; omega), if_pos (by rw [svC_len]; omega)]
      · rw [if_neg (by omega), if_neg hqj]
    · rw [if_neg (by omega), if_neg hqi]
  · rw [List.getElem?_eq_none (by rw [List.length_set, rowsV_len]; omega), List.getElem?_eq_none (by rw [rowsV_len, List.length_set]; omega)]
theorem NrV.set {w : World} {g cap : Nat} {l : List Sv} (h : NrV w g cap l) (i j : Nat) (hi : i < l.length) (hj : j < 3) (x : Sv) (v : Value) (hx : svC x = (svC l[i]).set j v) : NrV (w.setCell ⟨g, i * 3 + j, none⟩ v) g cap (l.set i x) := by
  obtain ⟨r, h1, h2⟩ := h.ex
  refine ⟨⟨r, ?_, by rw [List.length_set]; exact h2⟩, by rw [List.length_set]; exact h.room, h.most⟩
  have := heap_setCell_same w g (i * 3 + j) _ TV v h1
  rw [this]
  congr 2
  rw [← rowsV_set l i j hi hj x v hx, List.setIfInBounds_toArray, List.set_append_left _ _ (by rw [rowsV_len]; omega)]
theorem fp_cell (w : World) (g o : Nat) (v : Value) : Fp (fun k => k = g) w (w.setCell ⟨g, o, none⟩ v) := (Fp.refl (fun k => k = g) w).setCell (p := ⟨g, o, none⟩) (.inl rfl) v

/-- A cell of a session's, stored anew; nothing of its events has changed. -/
theorem Cl.set {lo G cap : Nat} {vw : Value} {ws : List Wt} {L : List Sv} {w : World} {n : Nat} (h : Cl lo vw (.slice (some ⟨G, 0, none⟩) n cap) ws L w) (i j : Nat) (hi : i < L.length) (hj : j < 3) (x : Sv) (v : Value) (hx : svC x = (svC L[i]).set j v) (he : OwE lo w x.ev x.s.evs) (hap : ∀ k, x.ev.ownBlock = some k → ∀ m (hm : m < L.length), m ≠ i → L[m].ev.ownBlock ≠ some k) :
    Cl lo vw (.slice (some ⟨G, 0, none⟩) n cap) ws (L.set i x) (w.setCell ⟨G, i * 3 + j, none⟩ v) := by
  rcases h.ownV.ways with ⟨e, _⟩ | ⟨G', cap', e, h1, h2⟩
  · cases e
  · injection e with e1 e2 e3
    injection e1 with e1
    injection e1 with e1
    subst e1 e2 e3
    have hf := fp_cell w G (i * 3 + j) v
    obtain ⟨cs, ht⟩ := h.ownV.type (j := G) rfl
    have hE : ∀ y : Sv, OwE lo w y.ev y.s.evs → OwE lo (w.setCell ⟨G, i * 3 + j, none⟩ v) y.ev y.s.evs := fun y hy => hy.keep hf (fun k hk e => by
      obtain ⟨cs', ht'⟩ := hy.type hk
      have e : k = G := e
      subst e
      exact type_ne ht' ht (by decide))
    refine ⟨h.ownW.keep hf (fun k hk e => ?_), ?_, fun y hy => ?_, ?_⟩
    · obtain ⟨cs', ht'⟩ := h.ownW.type hk
      have e : k = G := e
      subst e
      exact type_ne ht' ht (by decide)
    · have := OwV.row (lo := lo) (h1.set i j hi hj x v hx) h2
      rwa [List.length_set] at this
    · rcases List.mem_or_eq_of_mem_set hy with hy | rfl
      · exact hE y (h.ownE y hy)
      · exact hE y he
    · rw [List.pairwise_iff_getElem]
      have hp := List.pairwise_iff_getElem.1 h.apart
      intro a b ha hb hab k hk
      rw [List.length_set] at ha hb
      rw [List.getElem_set] at hk ⊢
      by_cases ea : i = a
      · subst ea
        rw [if_pos rfl] at hk
        rw [if_neg (by omega)]
        exact hap k hk b hb (by omega)
      · rw [if_neg ea] at hk
        by_cases eb : i = b
        · subst eb
          rw [if_pos rfl]
          intro hxk
          exact hap k hxk a ha (by omega) hk
        · rw [if_neg eb]
          exact hp a b ha hb hab k hk

theorem Cl.keep {lo : Nat} {vw vs : Value} {ws : List Wt} {L : List Sv} {w w' : World} {S : Nat → Prop} (h : Cl lo vw vs ws L w) (f : Fp S w w') (h1 : ∀ k, vw.ownBlock = some k → ¬ S k) (h2 : ∀ k, vs.ownBlock = some k → ¬ S k) (h3 : ∀ x ∈ L, ∀ k, x.ev.ownBlock = some k → ¬ S k) : Cl lo vw vs ws L w' :=
  ⟨h.ownW.keep f h1, h.ownV.keep f h2, fun x hx => (h.ownE x hx).keep f (h3 x hx), h.apart⟩
theorem Cl.nrV {lo G n cap : Nat} {vw : Value} {ws : List Wt} {L : List Sv} {w : World} (h : Cl lo vw (.slice (some ⟨G, 0, none⟩) n cap) ws L w) : NrV w G cap L ∧ lo ≤ G ∧ n = L.length := by
  rcases h.ownV.ways with ⟨e, _⟩ | ⟨G', cap', e, h1, h2⟩
  · cases e
  · injection e with e1 e2 e3
    injection e1 with e1
    injection e1 with e1
    subst e1 e2 e3
    exact ⟨h1, h2, rfl⟩
theorem Cl.neE {lo G n cap : Nat} {vw : Value} {ws : List Wt} {L : List Sv} {w : World} (h : Cl lo vw (.slice (some ⟨G, 0, none⟩) n cap) ws L w) {x : Sv} (hx : x ∈ L) : ∀ k, x.ev.ownBlock = some k → k ≠ G := fun k hk e => by
  obtain ⟨cs, ht⟩ := h.ownV.type (j := G) rfl
  obtain ⟨cs', ht'⟩ := (h.ownE x hx).type hk
  subst e
  exact type_ne ht' ht (by decide)
theorem Cl.neW {lo G n cap : Nat} {vw : Value} {ws : List Wt} {L : List Sv} {w : World} (h : Cl lo vw (.slice (some ⟨G, 0, none⟩) n cap) ws L w) : ∀ k, vw.ownBlock = some k → k ≠ G := fun k hk e => by
  obtain ⟨cs, ht⟩ := h.ownV.type (j := G) rfl
  obtain ⟨cs', ht'⟩ := h.ownW.type hk
  subst e
  exact type_ne ht' ht (by decide)
theorem OwE.ltE {lo : Nat} {w : World} {v : Value} {l : List Ev} (h : OwE lo w v l) : ∀ j, v.ownBlock = some j → j < w.heap.size := fun j hj => (World.ownsRow.lt h j hj).2
/-- A session's events, stored anew. -/
theorem Cl.put {lo G n cap : Nat} {vw : Value} {ws : List Wt} {L : List Sv} {w w' : World} (h : Cl lo vw (.slice (some ⟨G, 0, none⟩) n cap) ws L w) (i : Nat) (hi : i < L.length) (x : Sv) (hx : svC x = (svC L[i]).set 2 x.ev) (f : Fp (fun k => L[i].ev.ownBlock = some k) w w') (he : OwE lo w' x.ev x.s.evs) (hnew : ∀ k, x.ev.ownBlock = some k → L[i].ev.ownBlock = some k ∨ w.heap.size ≤ k) :
    Cl lo vw (.slice (some ⟨G, 0, none⟩) n cap) ws (L.set i x) (w'.setCell ⟨G, i * 3 + 2, none⟩ x.ev) := by
  obtain ⟨h1, h2, hn⟩ := h.nrV
  have hG := h1.lt
  have hf := fp_cell w' G (i * 3 + 2) x.ev
  have hneI := h.neE (List.getElem_mem hi)
  have hnx : ∀ k, x.ev.ownBlock = some k → k ≠ G := fun k hk => (hnew k hk).elim (hneI k) (fun e => by omega)
  have hp := List.pairwise_iff_getElem.1 h.apart
  have hap : ∀ m (hm : m < L.length), m ≠ i → ∀ k, L[m].ev.ownBlock = some k → L[i].ev.ownBlock ≠ some k := fun m hm hmi k hk hik => by
    rcases Nat.lt_or_gt_of_ne hmi with hlt | hlt
    · exact hp m i hm hi hlt k hk hik
    · exact hp i m hi hm hlt k hik hk
  have hrow := (h1.keep f (fun e => hneI G e rfl)).set i 2 hi (by omega) x x.ev hx
  refine ⟨?_, ?_, fun y hy => ?_, ?_⟩
  · refine (h.ownW.keep f (fun k hk e => ?_)).keep hf (fun k hk e => h.neW k hk e)
    obtain ⟨cs, ht⟩ := (h.ownE _ (List.getElem_mem hi)).type e
    obtain ⟨cs', ht'⟩ := h.ownW.type hk
    exact type_ne ht' ht (by decide)
  · have := OwV.row (lo := lo) hrow h2
    rw [List.length_set, ← hn] at this
    exact this
  · obtain ⟨a, ha, rfl⟩ := List.mem_iff_getElem.1 hy
    rw [List.length_set] at ha
    rw [List.getElem_set]
    by_cases e : i = a
    · rw [if_pos e]; exact he.keep hf (fun k hk e => hnx k hk e)
    · rw [if_neg e]
      exact ((h.ownE _ (List.getElem_mem ha)).keep f (fun k hk e2 => hap a ha (fun e3 => e e3.symm) k hk e2)).keep hf (fun k hk e2 => h.neE (List.getElem_mem ha) k hk e2)
  · rw [List.pairwise_iff_getElem]
    intro a b ha hb hab k hk
    rw [List.length_set] at ha hb
    rw [List.getElem_set] at hk ⊢
    by_cases ea : i = a
    · subst ea
      rw [if_pos rfl] at hk
      rw [if_neg (by omega)]
      intro hbk
      rcases hnew k hk with e | e
      · exact hap b hb (by omega) k hbk e
      · have := (h.ownE _ (List.getElem_mem hb)).ltE k hbk; omega
    · rw [if_neg ea] at hk
      by_cases eb : i = b
      · subst eb
        rw [if_pos rfl]
        intro hbk
        rcases hnew k hbk with e | e
        · exact hap a ha (by omega) k hk e
        · have := (h.ownE _ (List.getElem_mem ha)).ltE k hk; omega
      · rw [if_neg eb]
        exact hp a b ha hb hab k hk
theorem set_map (L : List Sv) (i : Nat) (x : Sv) : (L.set i x).map Sv.s = (L.map Sv.s).set i x.s := by rw [List.map_set]
end Go.Proofs.Ytjdpbieifcjmiaa
