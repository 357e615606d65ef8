/- without (gen_yn.py) -/
import Derived.Test.YtjdpbieifcjmiaaYm
namespace Go.Proofs.Ytjdpbieifcjmiaa
set_option maxRecDepth 20000
set_option linter.unusedVariables false
set_option linter.unusedSimpArgs false
open Go.RowKit Pm


theorem OwW.ltW {lo : Nat} {w : World} {v : Value} {l : List Wt} (h : OwW lo w v l) : ∀ j, v.ownBlock = some j → j < w.heap.size := fun j hj => (World.ownsRow.lt h j hj).2
/-- A box's watch, behind watches of the call's own. -/
theorem app_wt (w : World) (lo : Nat) (v : Value) (l : List Wt) (x : Wt) (ty : TypeId) (ho : OwW lo w v l) (hn : l.length ≤ 50000) (hlo : lo ≤ w.heap.size) :
    ∃ v' w', (Builtin.append_ #[TLW, TLW] ty #[v, .slice (some ⟨w.heap.size, 0, none⟩) 1 1]).run Try.prog (w.alloc (.cells #[.int .i64 x.s, .int .i64 x.n, .string (B x.p), .bool x.d] TW)) = .ok v' w' ∧ ChRW lo (w.alloc (.cells #[.int .i64 x.s, .int .i64 x.n, .string (B x.p), .bool x.d] TW)) v (l ++ [x]) v' w' := by
  have hf := fp_alloc w (.cells #[.int .i64 x.s, .int .i64 x.n, .string (B x.p), .bool x.d] TW)
  have hb := heap_alloc_new w (.cells #[.int .i64 x.s, .int .i64 x.n, .string (B x.p), .bool x.d] TW)
  generalize (w.alloc (.cells #[.int .i64 x.s, .int .i64 x.n, .string (B x.p), .bool x.d] TW)) = W at *
  obtain ⟨v', w', hr, h1, h2, h3⟩ := app_ownW W lo v l [x] ty ⟨w.heap.size, 0, none⟩ 1 1 (ho.non hf) rfl (fun i hi j u hu => by
    have hi0 : i = 0 := by simp at hi; omega
    subst hi0
    rw [Addr.add_lit, cell_of_row _ _ _ _ _ _ hb]
    rw [show 0 + (0 * 4 + j) = j from by omega]
    simpa [wtC, strV] using hu) (by simp; omega) (Nat.le_trans hlo hf.size)
  exact ⟨v', w', hr, h1, (Fp.refl _ _).grown h2 (fun k hk => .inl hk), h3⟩
/-- Rows of watches, from lo on, may have changed. -/
def Fw (lo : Nat) (w w' : World) : Prop := Fp (fun k => lo ≤ k ∧ ∃ cs, w.heap[k]? = some (.cells cs TW (0, 0))) w w'
/-- What a function value does, asked of one after the other. -/
structure Goes (lo l2 : Nat) (l : List Wt) (f : Value) (q : Nat → Bool) (I : Nat → World → Prop) : Prop where
  ex : ∃ k fi cap, f = .func (.func k) fi cap ∧ Enters Try.prog k ∧ ∀ i (h : i < l.length) W, I i W → lo ≤ W.heap.size → Calls Try.prog k (fi ++ #[wtV l[i]] ++ cap) W fun e W' => e = .returned (.bool (q i)) ∧ I (i + 1) W' ∧ Ft lo W W'
  still : ∀ i W W', I i W → Fw l2 W W' → I i W'
/-- What without leaves. -/
structure WoR (lo : Nat) (l : List Wt) (K : List Wt) (I : Nat → World → Prop) (w : World) (e : Ending) (w' : World) : Prop where
  ex : ∃ v', e = .returned v' ∧ OwW lo w' v' K
  inv : I l.length w'
  fp : Fp (fun k => lo ≤ k) w w'
/-- In the midst of without. -/
structure WoI (lo l2 : Nat) (v : Value) (l : List Wt) (I : Nat → World → Prop) (K : List Wt) (i : Nat) (w : World) (u : Value) (W : World) : Prop where
  own : OwW lo W v l
  left : OwW l2 W u K
  inv : I i W
  fp : Fp (fun k => lo ≤ k) w W
  sz : l2 ≤ W.heap.size
  lv : ∀ k, v.ownBlock = some k → k < l2

theorem OwW.lower {lo l2 : Nat} {w : World} {v : Value} {l : List Wt} (h : OwW l2 w v l) (hl : lo ≤ l2) : OwW lo w v l := by
  rcases h.ways with ⟨rfl, rfl⟩ | ⟨G, cap, rfl, h1, h2⟩
  · exact OwW.nil _ _
  · exact OwW.row h1 (Nat.le_trans hl h2)
theorem OwE.lower {lo l2 : Nat} {w : World} {v : Value} {l : List Ev} (h : OwE l2 w v l) (hl : lo ≤ l2) : OwE lo w v l := by
  rcases h.ways with ⟨rfl, rfl⟩ | ⟨G, cap, rfl, h1, h2⟩
  · exact OwE.nil _ _
  · exact OwE.row h1 (Nat.le_trans hl h2)
theorem Fw.of {lo : Nat} {w w' : World} (f : Fp Non w w') : Fw lo w w' := f.any

set_option maxHeartbeats 4000000 in
theorem without_c (lo : Nat) (v f : Value) (l : List Wt) (q : Nat → Bool) (I : Nat → World → Prop) (K : Nat → List Wt) (w : World) (hv : OwW lo w v l) (hg : Goes lo w.heap.size l f q I) (hI : I 0 w) (hK0 : K 0 = []) (hK : ∀ i (h : i < l.length), K (i + 1) = if q i = true then K i else K i ++ [l[i]]) (hKl : ∀ i, i ≤ l.length → (K i).length ≤ 40000) (hn : l.length ≤ 40000) (hlo : lo ≤ w.heap.size) :
    Calls Try.prog 31 #[v, f] w (WoR lo l (K l.length) I w) := by
  obtain ⟨ao, cap, rfl⟩ := hv.ns.shape
  obtain ⟨kf, fi, fc, rfl, hen, hcall⟩ := hg.ex
  obtain ⟨n, hnn⟩ : ∃ n, n = l.length := ⟨_, rfl⟩
  have HX := Lib.hid (And.intro hnn (And.intro hcall (And.intro hg.still (And.intro hK (And.intro hKl hlo)))))
  have H0 := Lib.hid (show WoI lo w.heap.size (.slice ao n cap) l I (K 0) 0 w (.slice none 0 0) w from ⟨by rw [hnn]; exact hv, by rw [hK0]; exact OwW.nil _ _, hI, Fp.refl _ _, Nat.le_refl _, by rw [hnn]; exact hv.ltW⟩)
  rw [← hnn] at hn ⊢
  clear hv hg hI hK0 hK hKl hlo hnn hcall
  go_enter Try.func31, Try.ntmps31
  go_wp2_with fail
  go_loopw [5, 10] (fun u i wr => ∃ k : Nat, k ≤ n ∧ i = .int .i64 k ∧ Hid (WoI lo w.heap.size (.slice ao n cap) l I (K k) k w u wr)) (fun _ i _ => n - (RowKit.intOf i).toNat)
  case atStart => exact ⟨0, Nat.zero_le _, rfl, H0⟩
  case round =>
    clear H0
    obtain ⟨k, hk, rfl, hR⟩ := hrel
    rename_i wr _
    by_cases hlt : k < n
    · have hkl : k < l.length := by rw [← HX.out.1]; exact hlt
      obtain ⟨g, o, cap', e, _, _, hgl, hcell⟩ := hR.out.own.ns.at (by omega)
      injection e with e1 e2 e3
      subst e1 e3
      clear e2
      have hnd := hcell k hkl
      have hcc := HX.out.2.1 k hkl
      have hKK := HX.out.2.2.2.1 k hkl
      have hKn := HX.out.2.2.2.2.1 k (by omega)
      obtain ⟨b, hb⟩ : ∃ b, q k = b := ⟨_, rfl⟩
      rw [hb] at hcc hKK
      have HL := Lib.hid (And.intro hkl hlt)
      clear hcell hb
      generalize l[k] = x at *
      obtain ⟨xs, xn, xp, xd⟩ := x
      have c0 := hnd.c0; have c1 := hnd.c1; have c2 := hnd.c2; have c3 := hnd.c3
      unfold strV at c2
      unfold wtV strV at hcc
      simp only at c0 c1 c2 c3
      have f0 := fp_alloc wr (.cells #[.int .i64 xs, .int .i64 xn, .string (B xp), .bool xd] TW)
      have rb := heap_alloc_new wr (.cells #[.int .i64 xs, .int .i64 xn, .string (B xp), .bool xd] TW)
      have hi1 := HX.out.2.2.1 k _ _ hR.out.inv (Fw.of f0)
      have HCC := Lib.hid (hcc _ hi1 (by have := HX.out.2.2.2.2.2; have := hR.out.sz; have := f0.size; omega))
      have HB := Lib.hid (And.intro f0 (And.intro rb (And.intro hKK hKn)))
      have q3 : ((k : Int) < (n : Int)) = True := eq_true (by omega)
      have q4 : (k < n) = True := eq_true hlt
      clear hnd hcc hkl hlt f0 rb hi1 hKK hKn
      go_wp2_with fail
      rw [hen _ _]
      go_wp2_with fail
      refine HCC.out.mono ?_
      rintro e w2 ⟨rfl, hi2, hf2⟩
      have hrb2 := hf2.row HB.out.2.1 (by decide) (by decide) (by decide)
      have hW2 : WoI lo w.heap.size (.slice (some ⟨g, o, none⟩) n cap) l I (K k) (k + 1) w _ w2 := ⟨(hR.out.own.non HB.out.1).ft hf2, (hR.out.left.non HB.out.1).ft hf2, hi2, (hR.out.fp.trans (HB.out.1.any (S := fun k => lo ≤ k)) (fun _ h => .inl h)).trans hf2 (fun k hk => .inl hk.1), Nat.le_trans hR.out.sz (Nat.le_trans HB.out.1.size hf2.size), hR.out.lv⟩
      obtain ⟨b0, b1, b2, b3⟩ := boxP4 hrb2
      have HW2 := Lib.hid hW2
      have hkn := HL.out.2
      clear hi2 hf2 hrb2 hW2
      cases b with
      | true =>
        have hM : Hid (WoI lo w.heap.size (.slice (some ⟨g, o, none⟩) n cap) l I (K (k + 1)) (k + 1) w _ w2) := ⟨HW2.out.own, by have := HB.out.2.2.1; rw [if_pos rfl] at this; rw [this]; exact HW2.out.left, HW2.out.inv, HW2.out.fp, HW2.out.sz, HW2.out.lv⟩
        clear b0 b1 b2 b3
        go_wp2
        go_roundw
        case rel => exact ⟨k + 1, by omega, by go_num, hM⟩
        case measure => simp [RowKit.intOf]; omega
      | false =>
        have hap := app_wt w2 w.heap.size _ (K k) ⟨xs, xn, xp, xd⟩ TLW HW2.out.left (by have := HB.out.2.2.2; omega) HW2.out.sz
        obtain ⟨ua, uc, hue⟩ := HW2.out.left.ns.shape
        obtain ⟨un, hun⟩ : ∃ n, n = (K k).length := ⟨_, rfl⟩
        rw [← hun] at hue
        subst hue
        have hunb : un ≤ 40000 := by rw [hun]; exact HB.out.2.2.2
        have HAP := Lib.hid hap
        clear hap hun
        go_wp2_with (at_builtin; go_must (refine wpList_app rfl _ _ _ _ rfl _ _ rfl rfl _ HAP.out ?_))
        intro v4 w4 hR4
        have f3 := fp_alloc w2 (.cells #[.int .i64 xs, .int .i64 xn, .string (B xp), .bool xd] TW)
        have hown3 := HW2.out.left.non f3
        have hM : Hid (WoI lo w.heap.size (.slice (some ⟨g, o, none⟩) n cap) l I (K (k + 1)) (k + 1) w v4 w4) := by
          refine ⟨(HW2.out.own.non f3).keep hR4.fp (fun j hj e => ?_), ?_, ?_, ?_, Nat.le_trans HW2.out.sz (Nat.le_trans f3.size hR4.fp.size), HW2.out.lv⟩
          · have h1 := HW2.out.lv j hj
            have h2 := HW2.out.left.low j e
            omega
          · have := HB.out.2.2.1
            rw [if_neg Bool.false_ne_true] at this
            rw [this]
            exact hR4.own
          · refine HX.out.2.2.1 _ _ _ (HX.out.2.2.1 _ _ _ HW2.out.inv (Fw.of f3)) (hR4.fp.mono (fun j hj => ⟨HW2.out.left.low j hj, hown3.type hj⟩))
          · exact (HW2.out.fp.trans (f3.any (S := fun k => lo ≤ k)) (fun _ h => .inl h)).trans hR4.fp (fun j hj => .inl (Nat.le_trans HX.out.2.2.2.2.2 (HW2.out.left.low j hj)))
        clear hR4 f3 hown3 b0 b1 b2 b3
        go_wp2
        go_roundw
        case rel => exact ⟨k + 1, by omega, by go_num, hM⟩
        case measure => simp [RowKit.intOf]; omega
    · have hke : k = n := by omega
      subst hke
      have q3 : ((k : Int) < (k : Int)) = False := eq_false (by omega)
      have HF := Lib.hid (show ∀ u, WoI lo w.heap.size (.slice ao k cap) l I (K k) k w u wr → WoR lo l (K k) I w (.returned u) wr from fun u h => ⟨⟨u, rfl, h.left.lower HX.out.2.2.2.2.2⟩, by rw [← HX.out.1]; exact h.inv, h.fp⟩)
      clear hlt hk
      go_wp2
      go_ret
      exact HF.out _ hR.out
end Go.Proofs.Ytjdpbieifcjmiaa
