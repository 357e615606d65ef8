/- What WalWhole and WalStarts need besides: a whole slice of slices appended; what is found. -/
import Derived.Test.YtkpcpnlfbajbiaaHd
import Derived.Test.YtkpcpnlfbajbiaaIb
namespace Go.Proofs.Ytkpcpnlfbajbiaa
set_option maxRecDepth 20000
open Go.RowKit Pm

/-- All of one slice of slices behind another. -/
theorem app_all (w : World) (lo lo' : Nat) (D : Nat → Prop) (v : Value) (ls : List Bs) (x : Value) (ms : List Bs) (ty : TypeId) (ho : Bo lo D w v ls) (hx : Bo lo' D w x ms) (hv : ∀ j, D j → v.ownBlock ≠ some j) (hD : ∀ k, D k → k < w.heap.size) (hn : ls.length + ms.length ≤ 1000000) (hlo : lo ≤ w.heap.size) :
    ∃ v' w', (Builtin.append_ #[30, 30] ty #[v, x]).run Try.prog w = .ok v' w' ∧ AppB lo D w v (ls ++ ms) v' w' := by
  obtain ⟨i, hi, hz, hsz, hby⟩ := info_parts Try.infoBs
  obtain ⟨xs, h1, h2, h3⟩ := ho.ex
  obtain ⟨ys, g1, g2, g3⟩ := hx.ex
  have hc := fun g hg => World.ownsRow.cells g1 (g := g) hg
  have self : w.grownBy w none := ⟨rfl, rfl, rfl, Nat.le_refl _, fun _ _ _ => rfl⟩
  rcases g1.2 with ⟨rfl, h0⟩ | ⟨g, cap, cur, rfl, hb, hgg, _⟩
  · have hm : ms = [] := List.eq_nil_of_length_eq_zero h0
    subst hm
    rw [List.append_nil]
    have hs : Go.Src Try.prog i.size 30 (.slice none 0 0) 0 [] w := Go.Src.ofNil w Try.underlying30 0
    refine ⟨v, w, ?_, ho, ⟨w, self, ⟨rfl, rfl, rfl, Nat.le_refl _, fun _ _ _ => rfl⟩⟩, .inl rfl⟩
    rcases h1.2 with ⟨rfl, _⟩ | ⟨g, cap, cur, rfl, _, _, r1, _, _⟩
    · exact run_append_nothing w _ _ _ _ i Try.underlying30 hi none 0 0 (Nat.le_refl _) _ hs
    · exact run_append_nothing w _ _ _ _ i Try.underlying30 hi _ _ _ r1 _ hs
  · have hone : ∀ u ∈ ys, u.oneCell' = true := fun u hu => by
      obtain ⟨k, hk, rfl⟩ := List.getElem_of_mem hu
      obtain ⟨y, hy, hs, _⟩ := g3 k (by omega)
      rw [List.getElem?_eq_getElem hk] at hy
      injection hy with hy
      obtain ⟨yao, ycap, rfl⟩ := hs.shape
      rw [hy]; rfl
    obtain ⟨v', w', hr, h4, h5, _, h6⟩ := run_append_own_at (P := Try.prog) w lo 30 ty 31 i (.slice none 0 0) 1 24 Try.underlying30 hi hz hsz hby rfl (by decide) v ls.length xs h1
      ⟨g, 0, none⟩ ms.length cap ys (by omega)
      (fun j u hu => hc g rfl j u hu) hone (by unfold maxLen; omega) (by omega) hlo
    have hfg : Fp (fun k => v.ownBlock = some k) w w' := (Fp.refl _ w).grown h5 (fun k hk => .inl hk)
    have hat : v'.ownBlock = v.ownBlock ∨ ∀ k, v'.ownBlock = some k → w.heap.size ≤ k := by
      rcases h6 with h6 | h6
      · exact .inl h6
      · refine .inr (fun k hk => ?_)
        rw [h6] at hk; injection hk with hk; omega
    have hne : ∀ j, D j → v'.ownBlock ≠ some j := fun j hj => by
      rcases hat with h | h
      · rw [h]; exact hv j hj
      · intro e; have := h j e; have := hD j hj; omega
    refine ⟨v', w', hr, ⟨xs ++ ys, by rw [List.length_append]; exact h4, by simp [h2, g2], fun k hk => ?_⟩, ⟨w, self, h5⟩, hat⟩
    by_cases hkl : k < ls.length
    · obtain ⟨y, hy, hs, hj⟩ := h3 k hkl
      have e0 : (ls ++ ms)[k] = ls[k] := List.getElem_append_left hkl
      refine ⟨y, by rw [List.getElem?_append_left (by omega)]; exact hy, ?_, fun h0 j hj' => ?_⟩
      · rw [e0]; exact hs.keep hfg (fun h0 j hj' e => (hj h0 j hj').2 e)
      · rw [e0] at h0; exact ⟨(hj h0 j hj').1, hne j (hj h0 j hj').1⟩
    · have hkm : k - ls.length < ms.length := by rw [List.length_append] at hk; omega
      obtain ⟨y, hy, hs, hj⟩ := g3 (k - ls.length) hkm
      have e0 : (ls ++ ms)[k] = ms[k - ls.length] := List.getElem_append_right (by omega)
      refine ⟨y, by rw [List.getElem?_append_right (by omega), h2]; exact hy, ?_, fun h0 j hj' => ?_⟩
      · rw [e0]; exact hs.keep hfg (fun h0 j hj' e => hv j (hj (by exact h0) j hj').1 e)
      · rw [e0] at h0; exact ⟨(hj h0 j hj').1, hne j (hj h0 j hj').1⟩

/-- What an Append, cut or not, and a crash leave. -/
theorem whole_found {s : Dk} {l : Lg} (h : Gd s l) (f : Int) (hf : f ≤ 9223372036854775807) (b : Bs) (hb : b.length ≤ 16384) (keep : List Bool) :
    ∃ L, Has (dCrash (lAppend (dFuse s f) l b).2.2 keep).cur l.ar L ∧ Rt (lAppend (dFuse s f) l b).2.2 ∧ (lAppend (dFuse s f) l b).2.2.acts ≤ s.acts + 4 ∧
      (((lAppend (dFuse s f) l b).1 = 0 ∧ L = l.rs ++ [b]) ∨ ((lAppend (dFuse s f) l b).1 = 51 ∧ L = l.rs) ∨ ((lAppend (dFuse s f) l b).1 = 31 ∧ L = l.rs) ∨ ((lAppend (dFuse s f) l b).1 = 31 ∧ L = l.rs ++ [b])) := by
  have hon := fuse_on h.dry f hf
  by_cases hful : Pm.hf s.cur < usd l.rs + ln b.length
  · have e : lAppend (dFuse s f) l b = (51, l, dFuse s f) := append_full b hb hful
    have hm := crash_mx (dFuse s f) hon.rt keep
    have hc : (dCrash (dFuse s f) keep).cur = s.cur := by
      have hm2 : Mx s.cur s.cur (dCrash (dFuse s f) keep).cur := by
        have ho : (dFuse s f).old = s.cur := h.dry.dry
        rw [ho] at hm; exact hm
      exact hm2.same
    refine ⟨l.rs, by rw [e]; show Has (dCrash (dFuse s f) keep).cur _ _; rw [hc]; exact h.has, by rw [e]; exact hon.rt, by rw [e]; exact Nat.le_add_right _ _, .inr (.inl ⟨by rw [e], rfl⟩)⟩
  · have hc := append_cut (s1 := dFuse s f) h hon rfl h.dry.dry b hb (by omega)
    rcases hc.ways with ⟨h0, _, _, hk⟩ | ⟨h0, _, _, hk⟩
    · exact ⟨_, hk keep, hc.rt, hc.acts, .inl ⟨h0, rfl⟩⟩
    · rcases hk keep with hk | hk
      · exact ⟨_, hk, hc.rt, hc.acts, .inr (.inr (.inl ⟨h0, rfl⟩))⟩
      · exact ⟨_, hk, hc.rt, hc.acts, .inr (.inr (.inr ⟨h0, rfl⟩))⟩
/-- The same of a Start. -/
theorem starts_found {s : Dk} {l : Lg} (h : Gd s l) (f : Int) (hf : f ≤ 9223372036854775807) (b : Bs) (hb : b.length ≤ 16384) (keep : List Bool) :
    ∃ a L, Has (dCrash (lStart (dFuse s f) l b).2.2 keep).cur a L ∧ Rt (lStart (dFuse s f) l b).2.2 ∧ (lStart (dFuse s f) l b).2.2.acts ≤ s.acts + 7 ∧
      (((lStart (dFuse s f) l b).1 = 0 ∧ L = [b]) ∨ ((lStart (dFuse s f) l b).1 = 51 ∧ L = l.rs) ∨ ((lStart (dFuse s f) l b).1 = 31 ∧ L = l.rs) ∨ ((lStart (dFuse s f) l b).1 = 31 ∧ L = [b])) := by
  have hon := fuse_on h.dry f hf
  by_cases hful : Pm.hf s.cur < ln b.length
  · have e : lStart (dFuse s f) l b = (51, l, dFuse s f) := start_full b hb hful
    have hm := crash_mx (dFuse s f) hon.rt keep
    have hc : (dCrash (dFuse s f) keep).cur = s.cur := by
      have hm2 : Mx s.cur s.cur (dCrash (dFuse s f) keep).cur := by
        have ho : (dFuse s f).old = s.cur := h.dry.dry
        rw [ho] at hm; exact hm
      exact hm2.same
    refine ⟨l.ar, l.rs, by rw [e]; show Has (dCrash (dFuse s f) keep).cur _ _; rw [hc]; exact h.has, by rw [e]; exact hon.rt, by rw [e]; exact Nat.le_add_right _ _, .inr (.inl ⟨by rw [e], rfl⟩)⟩
  · have hc := start_cut (s1 := dFuse s f) h hon rfl h.dry.dry b hb (by omega)
    rcases hc.ways with ⟨h0, _, _, hk⟩ | ⟨h0, _, _, hk⟩
    · exact ⟨_, _, hk keep, hc.rt, hc.acts, .inl ⟨h0, rfl⟩⟩
    · rcases hk keep with hk | hk
      · exact ⟨_, _, hk, hc.rt, hc.acts, .inr (.inr (.inl ⟨h0, rfl⟩))⟩
      · exact ⟨_, _, hk, hc.rt, hc.acts, .inr (.inr (.inr ⟨h0, rfl⟩))⟩
end Go.Proofs.Ytkpcpnlfbajbiaa
