/- The document's Of. -/
import Derived.Test.YtankfmlafmjaeaaGreatEg
import Derived.Deep.RegionLaw
namespace Go.Proofs.YtankfmlafmjaeaaGreat
set_option maxRecDepth 20000
open Go.RowKit Pm

/-- A block laid empty, since w. -/
structure Made (w W : World) (g : Nat) : Prop where
  hp : W.heap[g]? = some (.cells #[] 5 (0, 0))
  low : w.heap.size ≤ g
  fp : Fp Non w W
/-- Behind an append to it. -/
structure Apd (w W : World) (g : Nat) (l : Bs) (v' : Value) (w' : World) : Prop where
  ex : ∃ r cap, v' = .slice (some ⟨r, 0, none⟩) l.length cap ∧ (l.length ≤ cap ∧ cap ≤ maxLen) ∧ (r = g ∨ r = W.heap.size) ∧ Cl w' r (bcs l)
  grown : W.grownBy w' (some g)
  fp : Fp Non w w'
theorem Made.app {w W : World} {g : Nat} (h : Made w W g) (x : Value) (l : Bs) (ty : TypeId) (hx : Sl w x l) (h0 : 0 < l.length) (hn : l.length ≤ 1000000) :
    ∃ v' w', (Builtin.append_ #[22, 22] ty #[.slice (some ⟨g, 0, none⟩) 0 0, x]).run Tryz.prog W = .ok v' w' ∧ Apd w W g l v' w' := by
  have ho : W.ownsRow w.heap.size 5 1 (.slice (some ⟨g, 0, none⟩) 0 0) ([] : Bs).length (Lib.byteCells []) := ⟨rfl, .inr ⟨g, 0, _, rfl, h.low, h.hp, Nat.le_refl _, Nat.zero_le _, rfl, rfl⟩⟩
  obtain ⟨v', w', hr, hA⟩ := app_sl W w.heap.size _ [] l ty x ho (hx.keep h.fp (fun _ _ h => h)) (by simp only [List.length_nil]; omega) h.fp.size
  rw [List.nil_append] at hA
  have hf : Fp Non w w' := h.fp.grown hA.grown (fun k hk => .inr (by have : some g = some k := hk.symm ▸ rfl; injection this with e; have := h.low; omega))
  have hN : Nw w w' v' l := ⟨hA.own, hf⟩
  obtain ⟨r, cap, e, hc, _, hcl⟩ := hN.at_new h0
  refine ⟨v', w', hr, ⟨r, cap, e, hc, ?_, hcl⟩, hA.grown, hf⟩
  rcases hA.at' with h | h
  · left; rw [e] at h; simpa [Value.ownBlock] using h
  · right; rw [e] at h; simpa [Value.ownBlock] using h

theorem hp_new (X : World) (O : Obj) (i : Nat) (hi : i = X.heap.size) : (X.alloc O).heap[i]? = some O := by subst hi; exact heap_alloc_new X O
theorem hp_old {X : World} {i : Nat} {o : Obj} (h : X.heap[i]? = some o) (O : Obj) : (X.alloc O).heap[i]? = some o := ((Fp.refl Non X).alloc O).heap h (fun h => h)
theorem hp_drew {X : World} {i : Nat} {o : Obj} (h : X.heap[i]? = some o) : X.drew.heap[i]? = some o := h

theorem cl_alloc {X : World} {t : Nat} {vs : List Value} (h : Cl X t vs) (O : Obj) : Cl (X.alloc O) t vs := h.keep ((Fp.refl Non X).alloc O) (fun h => h)
theorem cl_drew {X : World} {t : Nat} {vs : List Value} (h : Cl X t vs) : Cl X.drew t vs := h.keep (Fp.drew (Fp.refl Non X)) (fun h => h)
theorem cl_grown {X Y : World} {t g : Nat} {vs : List Value} (h : Cl X t vs) (hg : X.grownBy Y (some g)) (hne : g ≠ t) : Cl Y t vs :=
  h.keep (S := fun k => k ≠ t) ((Fp.refl _ X).grown hg (fun k hk => .inl (by injection hk with hk; rw [← hk]; exact hne))) (fun h => h rfl)
theorem cl_made (X : World) (n i : Nat) (hi : i = X.heap.size) : Cl (X.alloc (.cells (Array.replicate n (.bool false)) 4)) i (wcs (List.replicate n false)) := by
  have := Cl.made X (wcs (List.replicate n false)) 4
  rw [show (wcs (List.replicate n false)).toArray = Array.replicate n (.bool false) by simp [wcs], ← hi] at this
  exact this
theorem of_done (lo : Nat) (w G : World) (l : Bs) (n : Nat) (h1 : 1 ≤ n) (h2 : n ≤ 4096) (hln : l.length = n * 16) (hlo : lo ≤ w.heap.size) (r1 k1 r2 k2 t : Nat) (hc1 : l.length ≤ k1 ∧ k1 ≤ maxLen) (hc2 : l.length ≤ k2 ∧ k2 ≤ maxLen)
    (C1 : Cl G r1 (bcs l)) (C2 : Cl G r2 (bcs l)) (C3 : Cl G t (wcs (List.replicate n false))) (f : Fp Non w G) (l1 : w.heap.size ≤ r1) (l2 : w.heap.size ≤ r2) (l3 : w.heap.size ≤ t) (n12 : r1 ≠ r2) (n13 : r1 ≠ t) (n23 : r2 ≠ t) (B : Nat) (hB : B = G.heap.size) :
    ∃ p : At, Ending.returned (.pointer (some ⟨B, 0, none⟩)) = .returned (.pointer (some ⟨p.b, 0, none⟩)) ∧ Rf lo p (dOf l) (G.alloc (.cells #[.slice (some ⟨r1, 0, none⟩) l.length k1, .slice (some ⟨r2, 0, none⟩) l.length k2, .slice (some ⟨t, 0, none⟩) n n, .int .i64 0, .bool false, .int .i64 0, .bool false] TR)) ∧
      Fp Non w (G.alloc (.cells #[.slice (some ⟨r1, 0, none⟩) l.length k1, .slice (some ⟨r2, 0, none⟩) l.length k2, .slice (some ⟨t, 0, none⟩) n n, .int .i64 0, .bool false, .int .i64 0, .bool false] TR)) ∧ (∀ k, own4 p k → w.heap.size ≤ k) := by
  have e : l.length / 16 = n := by omega
  have ht := C3.lt
  have hr1 := C1.lt
  have hr2 := C2.lt
  have hsz := f.size
  refine ⟨⟨B, r1, k1, r2, k2, t, n⟩, rfl, ⟨Rt.of l n h1 h2 hln, ⟨by show lo ≤ B; omega, by show lo ≤ r1; omega, by show lo ≤ r2; omega, by show lo ≤ t; omega⟩, ⟨⟨by show B ≠ r1; omega, by show B ≠ r2; omega, by show B ≠ t; omega⟩, n12, n13, n23⟩, ⟨hc1, hc2, ?_⟩, ?_, cl_alloc C1 _, cl_alloc C2 _, ?_⟩, f.alloc _, ?_⟩
  · show (List.replicate (l.length / 16) false).length ≤ n ∧ n ≤ maxLen
    rw [e, List.length_replicate]
    exact ⟨Nat.le_refl _, by unfold maxLen; omega⟩
  · rw [hp_new G _ B hB]
    have : (dOf l).wet.length = n := by show (List.replicate (l.length / 16) false).length = n; rw [e, List.length_replicate]
    simp only [rcells, this]
    rfl
  · show Cl _ t (wcs (List.replicate (l.length / 16) false))
    rw [e]
    exact cl_alloc C3 _
  · rintro k (hk | hk | hk | hk)
    · have hk : k = B := hk
      omega
    · have hk : k = r1 := hk
      omega
    · have hk : k = r2 := hk
      omega
    · have hk : k = t := hk
      omega

set_option maxHeartbeats 4000000 in
theorem ROf_c (lo : Nat) (w : World) (v : Value) (l : Bs) (hl : Sl w v l) (n : Nat) (h1 : 1 ≤ n) (h2 : n ≤ 4096) (hln : l.length = n * 16) (hlo : lo ≤ w.heap.size) :
    Calls Tryz.prog 7 #[v] w fun e w' => ∃ p : At, e = .returned (.pointer (some ⟨p.b, 0, none⟩)) ∧ Rf lo p (dOf l) w' ∧ Fp Non w w' ∧ (∀ k, own4 p k → w.heap.size ≤ k) := by
  obtain ⟨ao, cap, rfl, _, _, _⟩ := hl.ex
  have q1 : ((l.length : Int) == 0) = false := beq_eq_false_iff_ne.2 (by omega)
  have hb : l.length ≤ 65536 := by omega
  have e1 : ((l.length : Int) / 16) = (n : Int) := by omega
  have t1 : ((l.length : Int).tdiv 16) = (n : Int) := by rw [Int.tdiv_eq_ediv_of_nonneg (by omega)]; exact e1
  have e2 : ((l.length : Int) % 16 = 0) = True := eq_true (by omega)
  have e3 : ((l.length : Int) % 16 == 0) = true := beq_iff_eq.2 (by omega)
  have e4 : ((l.length : Int).tmod 16) = 0 := by rw [Int.tmod_eq_emod_of_nonneg (by omega)]; omega
  have e5 : ((4096 : Int) < (n : Int)) = False := eq_false (by omega)
  have e6 : ((n : Int) ≤ 4096) = True := eq_true (by omega)
  have hnb : n ≤ 5000 := by omega
  have wn : IntKind.i64.wrap (n : Int) = (n : Int) := by rw [IntKind.wrap_i64]; omega
  have hmk : ∀ W : World, (Instr.makeSlice 38 (.int .i64 (n : Int)) (.int .i64 (n : Int))).run Tryz.prog W = .ok (.slice (some ⟨W.heap.size, 0, none⟩) n n) (W.alloc (.cells (wcs (List.replicate n false)).toArray 4)) := fun W => make_bools W n h2
  have HAPP : Hid (∀ W g, Made w W g → ∃ v' w', (Builtin.append_ #[22, 22] 22 #[.slice (some ⟨g, 0, none⟩) 0 0, .slice ao l.length cap]).run Tryz.prog W = .ok v' w' ∧ Apd w W g l v' w') := fun W g hm => hm.app _ l _ hl (by omega) (by omega)
  have HL := Lib.hid (And.intro hl (And.intro h1 (And.intro h2 (And.intro hln hlo))))
  clear hl h1 h2 hln hlo
  go_enter Tryz.func7, Tryz.ntmps7
  go_wp2_with fail
  go_region_law (first
    | (have hex := HA1
       refine step_app rfl _ _ _ _ rfl _ _ rfl rfl _ (HAPP.out _ _ (by
         clear wn hmk e1 t1 e2 e3 e4 e5 e6
         have kf := HA1.out.2.2
         have kg := HA1.out.2.1
         refine ⟨?_, ?_, ?_⟩
         · first
             | (refine hp_new _ _ _ ?_; (first | (simp; done) | (simp; omega)))
             | (refine hp_old ?_ _; (refine hp_new _ _ _ ?_; (first | (simp; done) | (simp; omega))))
             | (refine (kg.block _ (by (first | (simp; done) | (simp; omega))) (by (first | (simp; done) | (simp; omega)))).trans (hp_drew ?_); (first | (refine hp_new _ _ _ ?_; (first | (simp; done) | (simp; omega))) | (refine hp_old ?_ _; (refine hp_new _ _ _ ?_; (first | (simp; done) | (simp; omega)))) | (refine hp_old ?_ _; refine hp_old ?_ _; (refine hp_new _ _ _ ?_; (first | (simp; done) | (simp; omega))))))
             | (refine hp_old ?_ _; (refine (kg.block _ (by (first | (simp; done) | (simp; omega))) (by (first | (simp; done) | (simp; omega)))).trans (hp_drew ?_); (first | (refine hp_new _ _ _ ?_; (first | (simp; done) | (simp; omega))) | (refine hp_old ?_ _; (refine hp_new _ _ _ ?_; (first | (simp; done) | (simp; omega)))) | (refine hp_old ?_ _; refine hp_old ?_ _; (refine hp_new _ _ _ ?_; (first | (simp; done) | (simp; omega)))))))
         · first | exact Nat.le_refl _ | exact Nat.le_add_right _ _ | exact Nat.le_trans (Nat.le_add_right _ _) (Nat.le_add_right _ _) | exact kf.size | exact Nat.le_trans kf.size (Nat.le_add_right _ _)
         · first | exact kf | exact kf.alloc _ | exact (kf.alloc _).alloc _)) ?_
       intro v3 w3 hR2
       obtain ⟨r2, k2, rfl, hc2⟩ := hR2.ex
       have HA2 := Lib.hid (And.intro hc2 (And.intro hR2.grown hR2.fp))
       clear hR2 hc2 hex)
    | (refine step_app rfl _ _ _ _ rfl _ _ rfl rfl _ (HAPP.out _ _ (by
         clear wn hmk e1 t1 e2 e3 e4 e5 e6
         refine ⟨hp_drew ?_, ?_, Fp.drew ?_⟩
         · (first | (refine hp_new _ _ _ ?_; (first | (simp; done) | (simp; omega))) | (refine hp_old ?_ _; (refine hp_new _ _ _ ?_; (first | (simp; done) | (simp; omega)))) | (refine hp_old ?_ _; refine hp_old ?_ _; (refine hp_new _ _ _ ?_; (first | (simp; done) | (simp; omega)))))
         · first | exact Nat.le_refl _ | exact Nat.le_add_right _ _ | exact Nat.le_trans (Nat.le_add_right _ _) (Nat.le_add_right _ _)
         · first | exact (Fp.refl Non w).alloc _ | exact ((Fp.refl Non w).alloc _).alloc _ | exact (((Fp.refl Non w).alloc _).alloc _).alloc _)) ?_
       intro v2 w2 hR1
       obtain ⟨r1, k1, rfl, hc1⟩ := hR1.ex
       have HA1 := Lib.hid (And.intro hc1 (And.intro hR1.grown hR1.fp))
       clear hR1 hc1))
  all_goals simp only [List.getElem_toArray, List.getElem_cons_succ, List.getElem_cons_zero]
  all_goals go_frame
  all_goals go_wp2
  all_goals go_ret
  all_goals clear wn hmk e1 t1 e2 e3 e4 e5 e6
  all_goals obtain ⟨⟨hc1, hr1, hl1⟩, hg1, hf1⟩ := HA1.out
  all_goals obtain ⟨⟨hc2, hr2, hl2⟩, hg2, hf2⟩ := HA2.out
  all_goals have hz1 := hl1.lt
  all_goals have hz2 := hl2.lt
  all_goals have hs1 := hg1.size
  all_goals have hs2 := hg2.size
  all_goals have hs0 := hf1.size
  all_goals simp at hr1 hr2 hs1 hs2
  all_goals refine of_done lo w _ l n HL.out.2.1 HL.out.2.2.1 HL.out.2.2.2.1 HL.out.2.2.2.2 r1 k1 r2 k2 _ hc1 hc2 ?_ ?_ ?_ ?_ ?_ ?_ ?_ ?_ ?_ ?_ _ ?_
  all_goals first
    | (simp; done)
    | exact hf2
    | exact hf2.alloc _
    | omega
    | ((repeat (first | exact hl1 | exact hl2 | (refine cl_made _ _ _ ?_; (first | (simp; done) | (simp; omega)); done) | refine cl_alloc ?_ _ | refine cl_drew ?_ | (refine cl_grown ?_ hg2 ?_; rotate_left; omega) | (refine cl_grown ?_ hg1 ?_; rotate_left; omega))); done)
end Go.Proofs.YtankfmlafmjaeaaGreat
