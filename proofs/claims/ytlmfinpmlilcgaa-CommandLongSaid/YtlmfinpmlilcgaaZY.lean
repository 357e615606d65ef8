/- Texts of this proof, merged. -/
import Derived.Test.YtlmfinpmlilcgaaZX
import Derived.Test.YtlmfinpmlilcgaaZK
import Derived.Test.YtlmfinpmlilcgaaZO
import Derived.StillTailTactics
set_option linter.unusedVariables false
set_option linter.unusedSimpArgs false
/- A piece, a node, a turn are written. (gen_gh.py) -/
namespace Go.Proofs.Ytlmfinpmlilcgaa
set_option maxRecDepth 20000
set_option linter.unusedVariables false
set_option linter.unusedSimpArgs false
open Go.RowKit Pm
attribute [local irreducible] wpStill

theorem WwS.first {P : Nat → Prop} {b : Nat} {l : Bs} {a c d : World} (g : Fp Non a c) (h : WwS P b l c d) : WwS P b l a d := ⟨h.is, (g.any).same h.fp⟩
theorem Ww.drewd {P : Nat → Prop} {b : Nat} {l : Bs} {w : World} (h : Ww P b l w) : Ww P b l w.drew := by
  obtain ⟨lo, v, h1, h2⟩ := h.ex
  exact ⟨lo, v, h1.keep ((Fp.refl Non w).drew) (fun _ _ h => h), h2⟩
theorem encT_ge (s : Bs) : s.length ≤ (encT s).length := by unfold encT; rw [List.length_append]; omega
theorem wrapN {n : Int} (h : num n) : wrap64 n = n := by
  unfold num at h
  unfold wrap64; omega
theorem mem2 {a b : Int} (ha : num a) (hb : num b) : ∀ y ∈ [a, b], num y := by
  intro y hy
  simp only [List.mem_cons, List.not_mem_nil, or_false] at hy
  rcases hy with rfl | rfl
  · exact ha
  · exact hb
theorem nums_at {P : Nat → Prop} {b : Nat} {l : Bs} (ns : List Int) {cs : Array Value} {w : World} (h : Ww P b l w) (hcs : cs.toList = rowsG inC ns) (n : Nat) (hnn : ns.length = n) (hn : ∀ x ∈ ns, num x) (hl : l.length ≤ 30000000) (hnl : ns.length ≤ 1000) :
    Calls Try.prog 30 #[.pointer (some ⟨b, 0, none⟩), .slice (some ⟨w.heap.size, 0, none⟩) n n] (w.alloc (.cells cs 2)) fun e w' => e = .returned (.tuple #[]) ∧ WwS P b (l ++ encN ns) w w' := by
  subst hnn
  refine (nums_w (Px P w.heap.size) b l _ ns (w.alloc (.cells cs 2)) (h.alloc _) (fun W f => Sg.block inC_len (f.heap (heap_alloc_new w _) (fun h => h (.inr rfl))) hcs _) hn hl hnl).mono ?_
  rintro e w' ⟨h1, h2⟩
  exact ⟨h1, h2.back⟩

set_option maxHeartbeats 8000000 in
theorem turn_w (P : Nat → Prop) (b : Nat) (l : Bs) (x : Tu) (w : World) (h : Ww P b l w) (ho : okTu x) (hlen : l.length + (encTu x).length ≤ 20000000) :
    Calls Try.prog 38 #[.pointer (some ⟨b, 0, none⟩), .agg #[.string (B x.dir), .int .i64 x.next]] w fun e w' => e = .returned (.tuple #[]) ∧ WwS P b (l ++ encTu x) w w' := by
  obtain ⟨dir, next⟩ := x
  simp only at *
  have hx := heap_alloc_new w (.cells #[.string (B dir), .int .i64 next] 72)
  have H0 := Lib.hid (show WwS (Px P w.heap.size) b l (w.alloc (.cells #[.string (B dir), .int .i64 next] 72)) (w.alloc (.cells #[.string (B dir), .int .i64 next] 72)) from ⟨h.alloc _, Fp.refl _ _⟩)
  have HB := Lib.hid hx
  have hsz : (w.alloc (.cells #[.string (B dir), .int .i64 next] 72)).heap.size = w.heap.size + 1 := by simp
  simp only [encTu, encN, List.length_append, List.length_nil] at hlen
  have HO := Lib.hid (And.intro ho hlen)
  clear hx h ho hlen
  go_enter Try.func38, Try.ntmps38
  have hc := Text_w (Px P w.heap.size) b (l) dir (w.alloc (.cells #[.string (B dir), .int .i64 next] 72)).drew (H0.out.is.drewd) (by have := HO.out.2; have := encT_ge dir; (try simp only [List.length_append, encN, List.length_nil] at *); omega)
  have HC := Lib.hid hc
  clear hc
  have hbx := boxP2 ((H0.out.fp.then ((Fp.refl Non (w.alloc (.cells #[.string (B dir), .int .i64 next] 72))).drew)).heap HB.out (fun h => h (.inr rfl)))
  obtain ⟨d0, d1⟩ := hbx
  go_wp2_with fail
  refine wp_region_still_tail 5 (by kernel_rfl) (by kernel_rfl) ?_
  simp only [List.take_succ_cons, List.take_zero, List.drop_succ_cons, List.drop_zero]
  change wpStill _ _ (World.drew _) _ _ _
  repeat still_step
  refine wpStill_nil ?_
  change wpList _ _ _ _ _ (World.drew _)
  go_wp2_with fail
  refine HC.out.mono ?_
  rintro e w1 ⟨rfl, hw⟩
  have H1 := Lib.hid (H0.out.trans (WwS.first ((Fp.refl Non _).drew) hw))
  clear hw HC d0 d1
  have hc := Num_w (Px P w.heap.size) b (l ++ encT dir) next w1.drew (H1.out.is.drewd) HO.out.1.2.1 (by have := HO.out.2; (try simp only [List.length_append, encN, List.length_nil] at *); omega)
  have HC := Lib.hid hc
  clear hc
  have hbx := boxP2 ((H1.out.fp.then ((Fp.refl Non w1).drew)).heap HB.out (fun h => h (.inr rfl)))
  obtain ⟨d0, d1⟩ := hbx
  go_wp2_with fail
  refine wp_region_still_tail 5 (by kernel_rfl) (by kernel_rfl) ?_
  simp only [List.take_succ_cons, List.take_zero, List.drop_succ_cons, List.drop_zero]
  change wpStill _ _ (World.drew _) _ _ _
  repeat still_step
  refine wpStill_nil ?_
  change wpList _ _ _ _ _ (World.drew _)
  go_wp2_with fail
  refine HC.out.mono ?_
  rintro e w2 ⟨rfl, hw⟩
  have H2 := Lib.hid (H1.out.trans (WwS.first ((Fp.refl Non _).drew) hw))
  clear hw HC d0 d1
  go_wp2
  go_end0
  exact ⟨rfl, (H2.out.back).eq (by simp only [encTu, encN, List.append_assoc, List.append_nil, List.nil_append])⟩

set_option maxHeartbeats 8000000 in
theorem node_w (P : Nat → Prop) (b : Nat) (l : Bs) (x : Nd) (w : World) (h : Ww P b l w) (ho : okNd x) (hlen : l.length + (encNd x).length ≤ 20000000) :
    Calls Try.prog 36 #[.pointer (some ⟨b, 0, none⟩), .agg #[.string (B x.path), .string (B x.data), .int .i64 x.ver, .int .i64 x.turn, .int .i64 x.own]] w fun e w' => e = .returned (.tuple #[]) ∧ WwS P b (l ++ encNd x) w w' := by
  obtain ⟨path, data, ver, turn, own⟩ := x
  simp only at *
  have hx := heap_alloc_new w (.cells #[.string (B path), .string (B data), .int .i64 ver, .int .i64 turn, .int .i64 own] 81)
  have H0 := Lib.hid (show WwS (Px P w.heap.size) b l (w.alloc (.cells #[.string (B path), .string (B data), .int .i64 ver, .int .i64 turn, .int .i64 own] 81)) (w.alloc (.cells #[.string (B path), .string (B data), .int .i64 ver, .int .i64 turn, .int .i64 own] 81)) from ⟨h.alloc _, Fp.refl _ _⟩)
  have HB := Lib.hid hx
  have hsz : (w.alloc (.cells #[.string (B path), .string (B data), .int .i64 ver, .int .i64 turn, .int .i64 own] 81)).heap.size = w.heap.size + 1 := by simp
  simp only [encNd, encN, List.length_append, List.length_nil] at hlen
  have HO := Lib.hid (And.intro ho hlen)
  clear hx h ho hlen
  go_enter Try.func36, Try.ntmps36
  have hc := Text_w (Px P w.heap.size) b (l) path (w.alloc (.cells #[.string (B path), .string (B data), .int .i64 ver, .int .i64 turn, .int .i64 own] 81)).drew (H0.out.is.drewd) (by have := HO.out.2; have := encT_ge path; (try simp only [List.length_append, encN, List.length_nil] at *); omega)
  have HC := Lib.hid hc
  clear hc
  have hbx := boxP5 ((H0.out.fp.then ((Fp.refl Non (w.alloc (.cells #[.string (B path), .string (B data), .int .i64 ver, .int .i64 turn, .int .i64 own] 81))).drew)).heap HB.out (fun h => h (.inr rfl)))
  obtain ⟨d0, d1, d2, d3, d4⟩ := hbx
  go_wp2_with fail
  refine wp_region_still_tail 5 (by kernel_rfl) (by kernel_rfl) ?_
  simp only [List.take_succ_cons, List.take_zero, List.drop_succ_cons, List.drop_zero]
  change wpStill _ _ (World.drew _) _ _ _
  repeat still_step
  refine wpStill_nil ?_
  change wpList _ _ _ _ _ (World.drew _)
  go_wp2_with fail
  refine HC.out.mono ?_
  rintro e w1 ⟨rfl, hw⟩
  have H1 := Lib.hid (H0.out.trans (WwS.first ((Fp.refl Non _).drew) hw))
  clear hw HC d0 d1 d2 d3 d4
  have hc := Text_w (Px P w.heap.size) b (l ++ encT path) data w1.drew (H1.out.is.drewd) (by have := HO.out.2; have := encT_ge data; (try simp only [List.length_append, encN, List.length_nil] at *); omega)
  have HC := Lib.hid hc
  clear hc
  have hbx := boxP5 ((H1.out.fp.then ((Fp.refl Non w1).drew)).heap HB.out (fun h => h (.inr rfl)))
  obtain ⟨d0, d1, d2, d3, d4⟩ := hbx
  go_wp2_with fail
  refine wp_region_still_tail 5 (by kernel_rfl) (by kernel_rfl) ?_
  simp only [List.take_succ_cons, List.take_zero, List.drop_succ_cons, List.drop_zero]
  change wpStill _ _ (World.drew _) _ _ _
  repeat still_step
  refine wpStill_nil ?_
  change wpList _ _ _ _ _ (World.drew _)
  go_wp2_with fail
  refine HC.out.mono ?_
  rintro e w2 ⟨rfl, hw⟩
  have H2 := Lib.hid (H1.out.trans (WwS.first ((Fp.refl Non _).drew) hw))
  clear hw HC d0 d1 d2 d3 d4
  have hc := nums_at (P := Px P w.heap.size) (b := b) (l := l ++ encT path ++ encT data) [ver, own] (cs := #[.int .i64 ver, .int .i64 own]) (w := w2) (H2.out.is) rfl 2 rfl (mem2 HO.out.1.2.2.1 HO.out.1.2.2.2.2.1) (by have := HO.out.2; (try simp only [List.length_append, encN, List.length_nil] at *); omega) (by simp)
  have HC := Lib.hid hc
  clear hc
  have hbx := boxP5 (H2.out.fp.heap HB.out (fun h => h (.inr rfl)))
  obtain ⟨d0, d1, d2, d3, d4⟩ := hbx
  clear H1
  go_wp2_with fail
  refine HC.out.mono ?_
  rintro e w3 ⟨rfl, hw⟩
  have H3 := Lib.hid (H2.out.trans (hw))
  clear hw HC d0 d1 d2 d3 d4
  go_wp2
  go_end0
  exact ⟨rfl, (H3.out.back).eq (by simp only [encNd, encN, List.append_assoc, List.append_nil, List.nil_append])⟩

set_option maxHeartbeats 8000000 in
theorem piece_w (P : Nat → Prop) (b : Nat) (l : Bs) (x : Pe) (w : World) (h : Ww P b l w) (ho : okPe x) (hlen : l.length + (encPe x).length ≤ 20000000) :
    Calls Try.prog 33 #[.pointer (some ⟨b, 0, none⟩), .agg #[.int .i64 x.op, .int .i64 x.p.kind, .string (B x.p.dir), .string (B x.p.path), .string (B x.p.data), .int .i64 x.p.ver, .int .i64 x.p.own, .bool x.p.turns]] w fun e w' => e = .returned (.tuple #[]) ∧ WwS P b (l ++ encPe x) w w' := by
  obtain ⟨op, ⟨kind, dir, path, data, ver, own, turns⟩⟩ := x
  simp only at *
  have hx := heap_alloc_new w (.cells #[.int .i64 op, .int .i64 kind, .string (B dir), .string (B path), .string (B data), .int .i64 ver, .int .i64 own, .bool turns] 48)
  have H0 := Lib.hid (show WwS (Px P w.heap.size) b l (w.alloc (.cells #[.int .i64 op, .int .i64 kind, .string (B dir), .string (B path), .string (B data), .int .i64 ver, .int .i64 own, .bool turns] 48)) (w.alloc (.cells #[.int .i64 op, .int .i64 kind, .string (B dir), .string (B path), .string (B data), .int .i64 ver, .int .i64 own, .bool turns] 48)) from ⟨h.alloc _, Fp.refl _ _⟩)
  have HB := Lib.hid hx
  have hsz : (w.alloc (.cells #[.int .i64 op, .int .i64 kind, .string (B dir), .string (B path), .string (B data), .int .i64 ver, .int .i64 own, .bool turns] 48)).heap.size = w.heap.size + 1 := by simp
  simp only [encPe, encN, List.length_append, List.length_nil] at hlen
  have HO := Lib.hid (And.intro ho hlen)
  clear hx h ho hlen
  go_enter Try.func33, Try.ntmps33
  have hc := nums_at (P := Px P w.heap.size) (b := b) (l := l) [op, kind] (cs := #[.int .i64 op, .int .i64 kind]) (w := (w.alloc (.cells #[.int .i64 op, .int .i64 kind, .string (B dir), .string (B path), .string (B data), .int .i64 ver, .int .i64 own, .bool turns] 48))) (H0.out.is) rfl 2 rfl (mem2 HO.out.1.1 HO.out.1.2.2.1) (by have := HO.out.2; (try simp only [List.length_append, encN, List.length_nil] at *); omega) (by simp)
  rw [hsz] at hc
  have HC := Lib.hid hc
  clear hc
  have hbx := boxP8 (H0.out.fp.heap HB.out (fun h => h (.inr rfl)))
  obtain ⟨d0, d1, d2, d3, d4, d5, d6, d7⟩ := hbx
  go_wp2_with fail
  refine HC.out.mono ?_
  rintro e w1 ⟨rfl, hw⟩
  have H1 := Lib.hid (H0.out.trans (hw))
  clear hw HC d0 d1 d2 d3 d4 d5 d6 d7
  have hc := Text_w (Px P w.heap.size) b (l ++ encN [op, kind]) dir w1.drew (H1.out.is.drewd) (by have := HO.out.2; have := encT_ge dir; (try simp only [List.length_append, encN, List.length_nil] at *); omega)
  have HC := Lib.hid hc
  clear hc
  have hbx := boxP8 ((H1.out.fp.then ((Fp.refl Non w1).drew)).heap HB.out (fun h => h (.inr rfl)))
  obtain ⟨d0, d1, d2, d3, d4, d5, d6, d7⟩ := hbx
  go_wp2_with fail
  refine wp_region_still_tail 6 (by kernel_rfl) (by kernel_rfl) ?_
  simp only [List.take_succ_cons, List.take_zero, List.drop_succ_cons, List.drop_zero]
  change wpStill _ _ (World.drew _) _ _ _
  repeat still_step
  refine wpStill_nil ?_
  change wpList _ _ _ _ _ (World.drew _)
  go_wp2_with fail
  refine HC.out.mono ?_
  rintro e w2 ⟨rfl, hw⟩
  have H2 := Lib.hid (H1.out.trans (WwS.first ((Fp.refl Non _).drew) hw))
  clear hw HC d0 d1 d2 d3 d4 d5 d6 d7
  have hc := Text_w (Px P w.heap.size) b (l ++ encN [op, kind] ++ encT dir) path w2.drew (H2.out.is.drewd) (by have := HO.out.2; have := encT_ge path; (try simp only [List.length_append, encN, List.length_nil] at *); omega)
  have HC := Lib.hid hc
  clear hc
  have hbx := boxP8 ((H2.out.fp.then ((Fp.refl Non w2).drew)).heap HB.out (fun h => h (.inr rfl)))
  obtain ⟨d0, d1, d2, d3, d4, d5, d6, d7⟩ := hbx
  clear H1
  go_wp2_with fail
  refine wp_region_still_tail 6 (by kernel_rfl) (by kernel_rfl) ?_
  simp only [List.take_succ_cons, List.take_zero, List.drop_succ_cons, List.drop_zero]
  change wpStill _ _ (World.drew _) _ _ _
  repeat still_step
  refine wpStill_nil ?_
  change wpList _ _ _ _ _ (World.drew _)
  go_wp2_with fail
  refine HC.out.mono ?_
  rintro e w3 ⟨rfl, hw⟩
  have H3 := Lib.hid (H2.out.trans (WwS.first ((Fp.refl Non _).drew) hw))
  clear hw HC d0 d1 d2 d3 d4 d5 d6 d7
  have hc := Text_w (Px P w.heap.size) b (l ++ encN [op, kind] ++ encT dir ++ encT path) data w3.drew (H3.out.is.drewd) (by have := HO.out.2; have := encT_ge data; (try simp only [List.length_append, encN, List.length_nil] at *); omega)
  have HC := Lib.hid hc
  clear hc
  have hbx := boxP8 ((H3.out.fp.then ((Fp.refl Non w3).drew)).heap HB.out (fun h => h (.inr rfl)))
  obtain ⟨d0, d1, d2, d3, d4, d5, d6, d7⟩ := hbx
  clear H2
  go_wp2_with fail
  refine wp_region_still_tail 6 (by kernel_rfl) (by kernel_rfl) ?_
  simp only [List.take_succ_cons, List.take_zero, List.drop_succ_cons, List.drop_zero]
  change wpStill _ _ (World.drew _) _ _ _
  repeat still_step
  refine wpStill_nil ?_
  change wpList _ _ _ _ _ (World.drew _)
  go_wp2_with fail
  refine HC.out.mono ?_
  rintro e w4 ⟨rfl, hw⟩
  have H4 := Lib.hid (H3.out.trans (WwS.first ((Fp.refl Non _).drew) hw))
  clear hw HC d0 d1 d2 d3 d4 d5 d6 d7
  have hc := nums_at (P := Px P w.heap.size) (b := b) (l := l ++ encN [op, kind] ++ encT dir ++ encT path ++ encT data) [ver + 1, own] (cs := #[.int .i64 (ver + 1), .int .i64 own]) (w := w4) (H4.out.is) rfl 2 rfl (mem2 HO.out.1.2.2.2.2.2.2.2.1 HO.out.1.2.2.2.2.2.2.2.2.1) (by have := HO.out.2; (try simp only [List.length_append, encN, List.length_nil] at *); omega) (by simp)
  have HC := Lib.hid hc
  clear hc
  have hbx := boxP8 (H4.out.fp.heap HB.out (fun h => h (.inr rfl)))
  obtain ⟨d0, d1, d2, d3, d4, d5, d6, d7⟩ := hbx
  clear H3
  go_wp2_with fail
  rw [wrapN HO.out.1.2.2.2.2.2.2.2.1]
  refine HC.out.mono ?_
  rintro e w5 ⟨rfl, hw⟩
  have H5 := Lib.hid (H4.out.trans (hw))
  clear hw HC d0 d1 d2 d3 d4 d5 d6 d7
  have hc := flag_w (Px P w.heap.size) b (l ++ encN [op, kind] ++ encT dir ++ encT path ++ encT data ++ encN [ver + 1, own]) turns w5 (H5.out.is) (by have := HO.out.2; (try simp only [List.length_append, encN, List.length_nil] at *); omega)
  have HC := Lib.hid hc
  clear hc
  have hbx := boxP8 (H5.out.fp.heap HB.out (fun h => h (.inr rfl)))
  obtain ⟨d0, d1, d2, d3, d4, d5, d6, d7⟩ := hbx
  clear H4
  go_wp2_with fail
  refine HC.out.mono ?_
  rintro e w6 ⟨rfl, hw⟩
  have H6 := Lib.hid (H5.out.trans (hw))
  clear hw HC d0 d1 d2 d3 d4 d5 d6 d7
  go_wp2
  go_end0
  exact ⟨rfl, (H6.out.back).eq (by simp only [encPe, encN, List.append_assoc, List.append_nil, List.nil_append])⟩
end Go.Proofs.Ytlmfinpmlilcgaa

