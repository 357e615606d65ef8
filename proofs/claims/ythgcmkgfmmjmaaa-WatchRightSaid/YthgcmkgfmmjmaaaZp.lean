/- append([]T{}, s...): the copies of a watched (gen_zp.py) -/
import Derived.Test.YthgcmkgfmmjmaaaZn
import Derived.Deep.Upon
namespace Go.Proofs.Ythgcmkgfmmjmaaa
set_option maxRecDepth 20000
set_option linter.unusedVariables false
set_option linter.unusedSimpArgs false
open Go.RowKit Pm


theorem empty_ne {w : World} {g h o : Nat} {T : TypeId} {v : Value} (hg : w.heap[g]? = some (.cells #[] T (0, 0))) (hc : w.cell? ⟨h, o, none⟩ = some v) : h ≠ g := by
  rintro rfl
  rw [cell_of_row _ _ _ _ _ _ hg] at hc
  simp at hc
theorem row_ne {w : World} {g h : Nat} {T U : TypeId} {cs : Array Value} (hg : w.heap[g]? = some (.cells #[] T (0, 0))) (hc : w.heap[h]? = some (.cells cs U (0, 0))) (hn : cs ≠ #[] ∨ U ≠ T) : h ≠ g := by
  rintro rfl
  rw [hg] at hc
  injection hc with hc
  injection hc with h1 h2
  rcases hn with hn | hn
  · exact hn h1.symm
  · exact hn h2.symm
theorem NsW.offE {w w' : World} {g : Nat} {T : TypeId} {v : Value} {l : List Wt} (h : NsW w v l) (hg : w.heap[g]? = some (.cells #[] T (0, 0))) (f : Fp (fun k => k = g) w w') : NsW w' v l := by
  obtain ⟨ao, cap, rfl, k1, k2, k3⟩ := h.ex
  refine ⟨ao, cap, rfl, k1, k2, ?_⟩
  rcases k3 with k3 | ⟨g', o, rfl, hg', hc⟩
  · exact .inl k3
  · exact .inr ⟨g', o, rfl, Nat.lt_of_lt_of_le hg' f.size, fun i hi => (hc i hi).keep f (empty_ne hg (hc i hi).c0)⟩
theorem NsV.offE {w w' : World} {g : Nat} {T : TypeId} {v : Value} {l : List Sv} (h : NsV w v l) (hg : w.heap[g]? = some (.cells #[] T (0, 0))) (f : Fp (fun k => k = g) w w') : NsV w' v l := by
  obtain ⟨ao, cap, rfl, k1, k2, k3⟩ := h.ex
  refine ⟨ao, cap, rfl, k1, k2, ?_⟩
  rcases k3 with k3 | ⟨g', o, rfl, hg', hc⟩
  · exact .inl k3
  · exact .inr ⟨g', o, rfl, Nat.lt_of_lt_of_le hg' f.size, fun i hi => (hc i hi).keep f (empty_ne hg (hc i hi).c0)⟩
theorem NsE.offE {w w' : World} {g : Nat} {T : TypeId} {v : Value} {l : List Ev} (h : NsE w v l) (hg : w.heap[g]? = some (.cells #[] T (0, 0))) (f : Fp (fun k => k = g) w w') : NsE w' v l := by
  obtain ⟨ao, cap, rfl, k1, k2, k3⟩ := h.ex
  refine ⟨ao, cap, rfl, k1, k2, ?_⟩
  rcases k3 with k3 | ⟨g', o, rfl, hg', hc⟩
  · exact .inl k3
  · exact .inr ⟨g', o, rfl, Nat.lt_of_lt_of_le hg' f.size, fun i hi => (hc i hi).keep f (empty_ne hg (hc i hi).c0)⟩
theorem Ses.offE {w w' : World} {g : Nat} {T : TypeId} {v : Value} {l : List Se} (h : Ses w v l) (hg : w.heap[g]? = some (.cells #[] T (0, 0))) (f : Fp (fun k => k = g) w w') : Ses w' v l := by
  obtain ⟨L, h1, h2, h3⟩ := h.ex
  exact ⟨L, h1, h2.offE hg f, fun x hx => (h3 x hx).offE hg f⟩
theorem app_emptyW {w : World} {g : Nat} {v : Value} {l : List Wt} (hg : w.heap[g]? = some (.cells #[] TW (0, 0))) (hv : NsW w v l) (hl : l.length ≤ 100000) (ty : TypeId) :
    ∃ v' w', (Builtin.append_ #[TLW, TLW] ty #[.slice (some ⟨g, 0, none⟩) 0 0, v]).run Try.prog w = .ok v' w' ∧ NsW w' v' l ∧ Fp (fun k => k = g) w w' := by
  have hlt : g < w.heap.size := (Array.getElem?_eq_some_iff.1 hg).1
  obtain ⟨ao, cap, rfl, h1, h2, h3⟩ := hv.ex
  cases ao with
  | none =>
    obtain rfl : l = [] := by
      rcases h3 with h | ⟨_, _, h, _⟩
      · exact h
      · cases h
    obtain ⟨i, hi, hz, hsz, hby⟩ := info_parts Try.infoW
    refine ⟨_, _, run_append_nothing w TLW TLW ty TW i Try.underlying22 hi _ 0 0 (Nat.le_refl _) _ (Src.ofNil w Try.underlying22 cap), ?_, Fp.refl _ _⟩
    exact ⟨_, 0, rfl, Nat.le_refl _, Nat.zero_le _, .inl rfl⟩
  | some a =>
    have hown : OwW g w (.slice (some ⟨g, 0, none⟩) 0 0) [] := ⟨rfl, .inr ⟨g, 0, #[], rfl, Nat.le_refl _, hg, Nat.le_refl _, Nat.zero_le _, rfl, rfl⟩⟩
    have hx : ∀ i (h : i < l.length) j u, (wtC l[i])[j]? = some u → w.cell? (a.add (i * 4 + j)) = some u := fun i hi j u hu => by
      rcases h3 with h | ⟨g', o, e, _, hc⟩
      · subst h; simp at hi
      · injection e with e; subst e
        have := (hc i hi).get j u hu
        rw [Addr.add_lit] at this ⊢
        rwa [Nat.add_assoc] at this
    obtain ⟨v', w', hr, ho, hgr, _⟩ := app_ownW w g _ [] l ty a l.length cap hown rfl hx (by simp; omega) (Nat.le_of_lt hlt)
    exact ⟨v', w', hr, ho.ns, (Fp.refl _ w).grown hgr (fun k hk => .inl (by simp [Value.ownBlock] at hk; exact hk.symm))⟩
theorem app_emptyV {w : World} {g : Nat} {v : Value} {l : List Sv} (hg : w.heap[g]? = some (.cells #[] TV (0, 0))) (hv : NsV w v l) (hl : l.length ≤ 100000) (ty : TypeId) :
    ∃ v' w', (Builtin.append_ #[TLV, TLV] ty #[.slice (some ⟨g, 0, none⟩) 0 0, v]).run Try.prog w = .ok v' w' ∧ NsV w' v' l ∧ Fp (fun k => k = g) w w' := by
  have hlt : g < w.heap.size := (Array.getElem?_eq_some_iff.1 hg).1
  obtain ⟨ao, cap, rfl, h1, h2, h3⟩ := hv.ex
  cases ao with
  | none =>
    obtain rfl : l = [] := by
      rcases h3 with h | ⟨_, _, h, _⟩
      · exact h
      · cases h
    obtain ⟨i, hi, hz, hsz, hby⟩ := info_parts Try.infoV
    refine ⟨_, _, run_append_nothing w TLV TLV ty TV i Try.underlying23 hi _ 0 0 (Nat.le_refl _) _ (Src.ofNil w Try.underlying23 cap), ?_, Fp.refl _ _⟩
    exact ⟨_, 0, rfl, Nat.le_refl _, Nat.zero_le _, .inl rfl⟩
  | some a =>
    have hown : OwV g w (.slice (some ⟨g, 0, none⟩) 0 0) [] := ⟨rfl, .inr ⟨g, 0, #[], rfl, Nat.le_refl _, hg, Nat.le_refl _, Nat.zero_le _, rfl, rfl⟩⟩
    have hx : ∀ i (h : i < l.length) j u, (svC l[i])[j]? = some u → w.cell? (a.add (i * 3 + j)) = some u := fun i hi j u hu => by
      rcases h3 with h | ⟨g', o, e, _, hc⟩
      · subst h; simp at hi
      · injection e with e; subst e
        have := (hc i hi).get j u hu
        rw [Addr.add_lit] at this ⊢
        rwa [Nat.add_assoc] at this
    obtain ⟨v', w', hr, ho, hgr, _⟩ := app_ownV w g _ [] l ty a l.length cap hown rfl hx (by simp; omega) (Nat.le_of_lt hlt)
    exact ⟨v', w', hr, ho.ns, (Fp.refl _ w).grown hgr (fun k hk => .inl (by simp [Value.ownBlock] at hk; exact hk.symm))⟩
/-- What stands while the copy is made. -/
structure Rst (w0 : World) (d : Wd) (e1 e2 : Option Nat) (r1 r2 : Option Value) (nb : Option Nat) (W : World) : Prop where
  f : Fp Non w0 W
  e1 : ∀ g, e1 = some g → W.heap[g]? = some (.cells #[] TW (0, 0)) ∧ w0.heap.size ≤ g
  e2 : ∀ g, e2 = some g → W.heap[g]? = some (.cells #[] TV (0, 0)) ∧ w0.heap.size ≤ g
  r1 : ∀ v, r1 = some v → NsW W v d.ws
  r2 : ∀ v, r2 = some v → Ses W v d.ss
  nb : ∀ N, nb = some N → W.heap[N]? = some (.cells #[.slice none 0 0, .slice none 0 0] TD (0, 0)) ∧ w0.heap.size ≤ N
theorem Rst.non {w0 : World} {d : Wd} {e1 e2 : Option Nat} {r1 r2 : Option Value} {nb : Option Nat} {W W' : World} (h : Rst w0 d e1 e2 r1 r2 nb W) (f : Fp Non W W') : Rst w0 d e1 e2 r1 r2 nb W' :=
  ⟨h.f.then f, fun g e => ⟨f.heap (h.e1 g e).1 (fun h => h), (h.e1 g e).2⟩, fun g e => ⟨f.heap (h.e2 g e).1 (fun h => h), (h.e2 g e).2⟩, fun v e => (h.r1 v e).non f, fun v e => (h.r2 v e).non f, fun N e => ⟨f.heap (h.nb N e).1 (fun h => h), (h.nb N e).2⟩⟩
theorem Rst.start (w0 : World) (d : Wd) : Rst w0 d none none none none none w0 := ⟨Fp.refl _ _, fun _ h => (by cases h), fun _ h => (by cases h), fun _ h => (by cases h), fun _ h => (by cases h), fun _ h => (by cases h)⟩
theorem Rst.b1 {w0 : World} {d : Wd} {e2 : Option Nat} {r1 r2 : Option Value} {nb : Option Nat} {W : World} (h : Rst w0 d none e2 r1 r2 nb W) : Rst w0 d (some W.heap.size) e2 r1 r2 nb (W.alloc (.cells #[] TW)) := by
  have k := h.non (fp_alloc W (.cells #[] TW))
  exact ⟨k.f, fun g e => by injection e with e; subst e; exact ⟨heap_alloc_new W (.cells #[] TW), h.f.size⟩, k.e2, k.r1, k.r2, k.nb⟩
theorem Rst.b2 {w0 : World} {d : Wd} {e1 : Option Nat} {r1 r2 : Option Value} {nb : Option Nat} {W : World} (h : Rst w0 d e1 none r1 r2 nb W) : Rst w0 d e1 (some W.heap.size) r1 r2 nb (W.alloc (.cells #[] TV)) := by
  have k := h.non (fp_alloc W (.cells #[] TV))
  exact ⟨k.f, k.e1, fun g e => by injection e with e; subst e; exact ⟨heap_alloc_new W (.cells #[] TV), h.f.size⟩, k.r1, k.r2, k.nb⟩
theorem Rst.box {w0 : World} {d : Wd} {e1 e2 : Option Nat} {r1 r2 : Option Value} {W : World} (h : Rst w0 d e1 e2 r1 r2 none W) : Rst w0 d e1 e2 r1 r2 (some W.heap.size) (W.alloc (.cells #[.slice none 0 0, .slice none 0 0] TD)) := by
  have k := h.non (fp_alloc W (.cells #[.slice none 0 0, .slice none 0 0] TD))
  exact ⟨k.f, k.e1, k.e2, k.r1, k.r2, fun g e => by injection e with e; subst e; exact ⟨heap_alloc_new W (.cells #[.slice none 0 0, .slice none 0 0] TD), h.f.size⟩⟩
theorem Rst.a1 {w0 : World} {d : Wd} {g : Nat} {e2 : Option Nat} {r1 r2 : Option Value} {nb : Option Nat} {W : World} (h : Rst w0 d (some g) e2 r1 r2 nb W) {vw : Value} (hv : NsW w0 vw d.ws) (hl : d.ws.length ≤ 100000) (ty : TypeId) :
    ∃ v' w', (Builtin.append_ #[TLW, TLW] ty #[.slice (some ⟨g, 0, none⟩) 0 0, vw]).run Try.prog W = .ok v' w' ∧ (∃ a c, v' = .slice a d.ws.length c) ∧ Rst w0 d none e2 (some v') r2 nb w' := by
  obtain ⟨hg, hge⟩ := h.e1 g rfl
  obtain ⟨v', w', hr, hn, hf⟩ := app_emptyW hg (hv.non h.f) hl ty
  refine ⟨v', w', hr, hn.shape, h.f.over hf (fun k hk => by have hk : k = g := hk; omega), fun _ h => (by cases h), fun g2 e => ⟨hf.heap (h.e2 g2 e).1 (row_ne hg (h.e2 g2 e).1 (.inr (by decide))), (h.e2 g2 e).2⟩, fun v e => (by injection e with e; subst e; exact hn), fun v e => (h.r2 v e).offE hg hf, fun N e => ⟨hf.heap (h.nb N e).1 (row_ne hg (h.nb N e).1 (.inr (by decide))), (h.nb N e).2⟩⟩
theorem Rst.a2 {w0 : World} {d : Wd} {g : Nat} {e1 : Option Nat} {r1 r2 : Option Value} {nb : Option Nat} {W : World} (h : Rst w0 d e1 (some g) r1 r2 nb W) {vs : Value} (hv : Ses w0 vs d.ss) (hl : d.ss.length ≤ 100000) (ty : TypeId) :
    ∃ v' w', (Builtin.append_ #[TLV, TLV] ty #[.slice (some ⟨g, 0, none⟩) 0 0, vs]).run Try.prog W = .ok v' w' ∧ (∃ a c, v' = .slice a d.ss.length c) ∧ Rst w0 d e1 none r1 (some v') nb w' := by
  obtain ⟨hg, hge⟩ := h.e2 g rfl
  obtain ⟨L, hL, h2, h3⟩ := (hv.non h.f).ex
  obtain ⟨v', w', hr, hn, hf⟩ := app_emptyV hg h2 (by rw [← List.length_map (f := Sv.s), hL]; exact hl) ty
  have hs : Ses w' v' d.ss := ⟨L, hL, hn, fun x hx => (h3 x hx).offE hg hf⟩
  refine ⟨v', w', hr, hs.shape, h.f.over hf (fun k hk => by have hk : k = g := hk; omega), fun g2 e => ⟨hf.heap (h.e1 g2 e).1 (row_ne hg (h.e1 g2 e).1 (.inr (by decide))), (h.e1 g2 e).2⟩, fun _ h => (by cases h), fun v e => (h.r1 v e).offE hg hf, fun v e => (by injection e with e; subst e; exact hs), fun N e => ⟨hf.heap (h.nb N e).1 (row_ne hg (h.nb N e).1 (.inr (by decide))), (h.nb N e).2⟩⟩
end Go.Proofs.Ythgcmkgfmmjmaaa
