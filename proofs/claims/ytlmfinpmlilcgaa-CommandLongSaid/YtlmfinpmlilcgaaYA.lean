/- Texts of this proof, merged. -/
import Derived.Test.YtlmfinpmlilcgaaZZ
import Derived.Test.YtlmfinpmlilcgaaZM
import Derived.StillTailTactics
set_option linter.unusedVariables false
set_option linter.unusedSimpArgs false
/- A command is written; Put. (gen_gj.py) -/
namespace Go.Proofs.Ytlmfinpmlilcgaa
set_option maxRecDepth 20000
set_option linter.unusedVariables false
set_option linter.unusedSimpArgs false
open Go.RowKit Pm
attribute [local irreducible] wpStill

theorem mem4 {a b c d : Int} (ha : num a) (hb : num b) (hc : num c) (hd : num d) : ∀ y ∈ [a, b, c, d], num y := by
  intro y hy
  simp only [List.mem_cons, List.not_mem_nil, or_false] at hy
  rcases hy with rfl | rfl | rfl | rfl
  · exact ha
  · exact hb
  · exact hc
  · exact hd

set_option maxHeartbeats 16000000 in
theorem command_w (P : Nat → Prop) (b : Nat) (c : Cd) (vp vn vt vg : Value) (w : World) (h : Ww P b [] w) (hv : ∀ W, Fp (fun k => ¬ P k) w W → Sg peC 8 W vp c.ps ∧ Ns W vn c.st.nodes ∧ Ts W vt c.st.turns ∧ Tx W vg c.gone) (hC : CdR c) :
    Calls Try.prog 15 #[.pointer (some ⟨b, 0, none⟩), .agg (cdL c vp vn vt vg)] w fun e w' => e = .returned (.tuple #[]) ∧ WwS P b (encCd c) w w' := by
  obtain ⟨b0, hb0⟩ : ∃ b0, b0 = w.heap.size := ⟨_, rfl⟩
  obtain ⟨w0, hw0⟩ : ∃ w0, w0 = w.alloc (.cells (cdL c vp vn vt vg) TCD) := ⟨_, rfl⟩
  have hx := heap_alloc_new w (.cells (cdL c vp vn vt vg) TCD)
  have hH := h.alloc (.cells (cdL c vp vn vt vg) TCD)
  have hbk : ∀ L W, WwS (Px P b0) b L w0 W → WwS P b L w W := fun L W g => by subst hb0 hw0; exact g.back
  rw [← hw0, ← hb0] at hx hH
  have hsz : w0.heap.size = b0 + 1 := by rw [hw0, hb0]; simp
  have hvv : ∀ W, Fp (fun k => ¬ Px P b0 k) w0 W → Sg peC 8 W vp c.ps ∧ Ns W vn c.st.nodes ∧ Ts W vt c.st.turns ∧ Tx W vg c.gone := fun W f => hv W (by
    subst hw0; exact ((fp_alloc w _).any).same (f.mono (fun k hk hp => hk (.inl hp))))
  have H0 := Lib.hid (show WwS (Px P b0) b [] w0 w0 from ⟨hH, Fp.refl _ _⟩)
  have HB := Lib.hid hx
  have HV := Lib.hid hvv
  have HK := Lib.hid hbk
  have hlen := hC.few
  rw [encCd_len, ← encS_T] at hlen
  have HO := Lib.hid (And.intro hC.ok (And.intro hlen (And.intro hC.gone.1 (go_ok hC.gone))))
  have HZ := Lib.hid hsz
  clear h hv hx hH hbk hvv hlen hC hsz
  unfold cdL at hw0 ⊢
  go_enter Try.func15, Try.ntmps15
  have hc := nums_at (P := Px P b0) (b := b) (l := []) [c.kind, c.id, c.txn, c.age] (cs := #[.int .i64 c.kind, .int .i64 c.id, .int .i64 c.txn, .int .i64 c.age]) (w := w0) (H0.out.is) rfl 4 rfl (mem4 HO.out.1.kind.1 HO.out.1.id HO.out.1.txn HO.out.1.age) (by have := HO.out.2.1; (try simp only [List.length_append, encN, List.length_nil, encS_T] at *); omega) (by simp)
  rw [HZ.out] at hc
  have HC := Lib.hid hc
  clear hc
  have hbx := bxC (c := c) (H0.out.fp.heap HB.out (fun h => h (.inr rfl)))
  have dc0 := hbx.c0
  have dc1 := hbx.c1
  have dc2 := hbx.c2
  have dc3 := hbx.c3
  clear hbx
  go_wp2_with fail
  rw [show (31 : TypeId) = TCD from rfl, ← hw0, ← hb0]
  clear hw0 hb0
  refine HC.out.mono ?_
  rintro e w1 ⟨rfl, hw⟩
  have H1 := Lib.hid (H0.out.trans (hw))
  clear hw HC dc0 dc1 dc2 dc3
  have hc := flag_w (Px P b0) b ([] ++ encN [c.kind, c.id, c.txn, c.age]) c.yes w1 (H1.out.is) (by have := HO.out.2.1; (try simp only [List.length_append, encN, List.length_nil, encS_T] at *); omega)
  have HC := Lib.hid hc
  clear hc
  have hbx := bxC (c := c) (H1.out.fp.heap HB.out (fun h => h (.inr rfl)))
  have dc4 := hbx.c4
  clear hbx
  go_wp2_with fail
  refine HC.out.mono ?_
  rintro e w2 ⟨rfl, hw⟩
  have H2 := Lib.hid (H1.out.trans (hw))
  clear hw HC dc4 H1
  have hc := putPe_w (Px P b0) b ([] ++ encN [c.kind, c.id, c.txn, c.age] ++ encI (fl c.yes)) vp c.ps w2 (H2.out.is) (fun W f => (HV.out W (H2.out.fp.same f)).1) HO.out.1.ps.2.2 (by have := HO.out.2.1; (try simp only [List.length_append, encN, List.length_nil, encS_T] at *); omega) (by have := HO.out.1.ps.1; omega)
  have HC := Lib.hid hc
  clear hc
  have hbx := bxC (c := c) (H2.out.fp.heap HB.out (fun h => h (.inr rfl)))
  have dc5 := hbx.c5
  clear hbx
  go_wp2_with fail
  refine HC.out.mono ?_
  rintro e w3 ⟨rfl, hw⟩
  have H3 := Lib.hid (H2.out.trans (hw))
  clear hw HC dc5 H2
  have hc := Text_w (Px P b0) b ([] ++ encN [c.kind, c.id, c.txn, c.age] ++ encI (fl c.yes) ++ encS encPe c.ps) c.pre w3.drew (H3.out.is.drewd) (by have := HO.out.2.1; have := encT_ge c.pre; (try simp only [List.length_append, encN, List.length_nil, encS_T] at *); omega)
  have HC := Lib.hid hc
  clear hc
  have hbx := bxC (c := c) ((H3.out.fp.then ((Fp.refl Non w3).drew)).heap HB.out (fun h => h (.inr rfl)))
  have dc6 := hbx.c6
  clear hbx
  go_wp2_with fail
  refine wp_region_still_tail 5 (by kernel_rfl) (by kernel_rfl) ?_
  simp only [List.take_succ_cons, List.take_zero, List.drop_succ_cons, List.drop_zero]
  change wpStill _ _ (World.drew _) _ _ _
  repeat still_step
  refine wpStill_nil ?_
  change wpList _ _ _ _ _ (World.drew _)
  go_wp2_with fail
  refine HC.out.mono ?_
  rintro e w4 ⟨rfl, hw⟩
  have H4 := Lib.hid (H3.out.trans (WwS.first ((Fp.refl Non _).drew) hw))
  clear hw HC dc6 H3
  have hc := nums_at (P := Px P b0) (b := b) (l := [] ++ encN [c.kind, c.id, c.txn, c.age] ++ encI (fl c.yes) ++ encS encPe c.ps ++ encT c.pre) [c.ep, c.to] (cs := #[.int .i64 c.ep, .int .i64 c.to]) (w := w4) (H4.out.is) rfl 2 rfl (mem2 HO.out.1.ep HO.out.1.to.1) (by have := HO.out.2.1; (try simp only [List.length_append, encN, List.length_nil, encS_T] at *); omega) (by simp)
  have HC := Lib.hid hc
  clear hc
  have hbx := bxC (c := c) (H4.out.fp.heap HB.out (fun h => h (.inr rfl)))
  have dc7 := hbx.c7
  have dc8 := hbx.c8
  clear hbx
  go_wp2_with fail
  refine HC.out.mono ?_
  rintro e w5 ⟨rfl, hw⟩
  have H5 := Lib.hid (H4.out.trans (hw))
  clear hw HC dc7 dc8 H4
  have hc := putNd_w (Px P b0) b ([] ++ encN [c.kind, c.id, c.txn, c.age] ++ encI (fl c.yes) ++ encS encPe c.ps ++ encT c.pre ++ encN [c.ep, c.to]) vn c.st.nodes w5 (H5.out.is) (fun W f => (HV.out W (H5.out.fp.same f)).2.1) HO.out.1.nodes.2.2 (by have := HO.out.2.1; (try simp only [List.length_append, encN, List.length_nil, encS_T] at *); omega) (by have := HO.out.1.nodes.1; omega)
  have HC := Lib.hid hc
  clear hc
  have hbx := bxC (c := c) (H5.out.fp.heap HB.out (fun h => h (.inr rfl)))
  have dc9 := hbx.c9
  clear hbx
  go_wp2_with fail
  refine HC.out.mono ?_
  rintro e w6 ⟨rfl, hw⟩
  have H6 := Lib.hid (H5.out.trans (hw))
  clear hw HC dc9 H5
  have hc := putTu_w (Px P b0) b ([] ++ encN [c.kind, c.id, c.txn, c.age] ++ encI (fl c.yes) ++ encS encPe c.ps ++ encT c.pre ++ encN [c.ep, c.to] ++ encS encNd c.st.nodes) vt c.st.turns w6 (H6.out.is) (fun W f => (HV.out W (H6.out.fp.same f)).2.2.1) HO.out.1.turns.2.2 (by have := HO.out.2.1; (try simp only [List.length_append, encN, List.length_nil, encS_T] at *); omega) (by have := HO.out.1.turns.1; omega)
  have HC := Lib.hid hc
  clear hc
  have hbx := bxC (c := c) (H6.out.fp.heap HB.out (fun h => h (.inr rfl)))
  have dc10 := hbx.c10
  clear hbx
  go_wp2_with fail
  refine HC.out.mono ?_
  rintro e w7 ⟨rfl, hw⟩
  have H7 := Lib.hid (H6.out.trans (hw))
  clear hw HC dc10 H6
  have hc := Texts_w (Px P b0) b ([] ++ encN [c.kind, c.id, c.txn, c.age] ++ encI (fl c.yes) ++ encS encPe c.ps ++ encT c.pre ++ encN [c.ep, c.to] ++ encS encNd c.st.nodes ++ encS encTu c.st.turns) vg c.gone w7.drew (H7.out.is.drewd) (fun W f => (HV.out W (((H7.out.fp.then ((Fp.refl Non _).drew))).same f)).2.2.2) (by have := HO.out.2.1; (try simp only [List.length_append, encN, List.length_nil, encS_T] at *); omega) (by have := HO.out.2.2.1; omega) (fun x hx => by have := HO.out.2.2.2 x hx; omega)
  have HC := Lib.hid hc
  clear hc
  have hbx := bxC (c := c) ((H7.out.fp.then ((Fp.refl Non w7).drew)).heap HB.out (fun h => h (.inr rfl)))
  have dc11 := hbx.c11
  clear hbx
  go_wp2_with fail
  refine wp_region_still_tail 5 (by kernel_rfl) (by kernel_rfl) ?_
  simp only [List.take_succ_cons, List.take_zero, List.drop_succ_cons, List.drop_zero]
  change wpStill _ _ (World.drew _) _ _ _
  repeat still_step
  refine wpStill_nil ?_
  change wpList _ _ _ _ _ (World.drew _)
  go_wp2_with fail
  refine HC.out.mono ?_
  rintro e w8 ⟨rfl, hw⟩
  have H8 := Lib.hid (H7.out.trans (WwS.first ((Fp.refl Non _).drew) hw))
  clear hw HC dc11 H7
  have hc := nums_at (P := Px P b0) (b := b) (l := [] ++ encN [c.kind, c.id, c.txn, c.age] ++ encI (fl c.yes) ++ encS encPe c.ps ++ encT c.pre ++ encN [c.ep, c.to] ++ encS encNd c.st.nodes ++ encS encTu c.st.turns ++ encTs c.gone) [c.ws, c.wn] (cs := #[.int .i64 c.ws, .int .i64 c.wn]) (w := w8) (H8.out.is) rfl 2 rfl (mem2 HO.out.1.ws HO.out.1.wn) (by have := HO.out.2.1; (try simp only [List.length_append, encN, List.length_nil, encS_T] at *); omega) (by simp)
  have HC := Lib.hid hc
  clear hc
  have hbx := bxC (c := c) (H8.out.fp.heap HB.out (fun h => h (.inr rfl)))
  have dc12 := hbx.c12
  have dc13 := hbx.c13
  clear hbx
  go_wp2_with fail
  refine HC.out.mono ?_
  rintro e w9 ⟨rfl, hw⟩
  have H9 := Lib.hid (H8.out.trans (hw))
  clear hw HC dc12 dc13 H8
  have hc := Text_w (Px P b0) b ([] ++ encN [c.kind, c.id, c.txn, c.age] ++ encI (fl c.yes) ++ encS encPe c.ps ++ encT c.pre ++ encN [c.ep, c.to] ++ encS encNd c.st.nodes ++ encS encTu c.st.turns ++ encTs c.gone ++ encN [c.ws, c.wn]) c.wp w9.drew (H9.out.is.drewd) (by have := HO.out.2.1; have := encT_ge c.wp; (try simp only [List.length_append, encN, List.length_nil, encS_T] at *); omega)
  have HC := Lib.hid hc
  clear hc
  have hbx := bxC (c := c) ((H9.out.fp.then ((Fp.refl Non w9).drew)).heap HB.out (fun h => h (.inr rfl)))
  have dc14 := hbx.c14
  clear hbx
  go_wp2_with fail
  refine wp_region_still_tail 6 (by kernel_rfl) (by kernel_rfl) ?_
  simp only [List.take_succ_cons, List.take_zero, List.drop_succ_cons, List.drop_zero]
  change wpStill _ _ (World.drew _) _ _ _
  repeat still_step
  refine wpStill_nil ?_
  change wpList _ _ _ _ _ (World.drew _)
  go_wp2_with fail
  refine HC.out.mono ?_
  rintro e w10 ⟨rfl, hw⟩
  have H10 := Lib.hid (H9.out.trans (WwS.first ((Fp.refl Non _).drew) hw))
  clear hw HC dc14 H9
  have hc := flag_w (Px P b0) b ([] ++ encN [c.kind, c.id, c.txn, c.age] ++ encI (fl c.yes) ++ encS encPe c.ps ++ encT c.pre ++ encN [c.ep, c.to] ++ encS encNd c.st.nodes ++ encS encTu c.st.turns ++ encTs c.gone ++ encN [c.ws, c.wn] ++ encT c.wp) c.deep w10 (H10.out.is) (by have := HO.out.2.1; (try simp only [List.length_append, encN, List.length_nil, encS_T] at *); omega)
  have HC := Lib.hid hc
  clear hc
  have hbx := bxC (c := c) (H10.out.fp.heap HB.out (fun h => h (.inr rfl)))
  have dc15 := hbx.c15
  clear hbx
  go_wp2_with fail
  refine HC.out.mono ?_
  rintro e w11 ⟨rfl, hw⟩
  have H11 := Lib.hid (H10.out.trans (hw))
  clear hw HC dc15 H10
  go_wp2
  go_end0
  exact ⟨rfl, HK.out _ _ (H11.out.eq (by simp only [encCd, encN, List.append_assoc, List.append_nil, List.nil_append]))⟩
end Go.Proofs.Ytlmfinpmlilcgaa

