/- Texts of this proof, merged. -/
import Derived.Test.YtlmfinpmlilcgaaZP
set_option linter.unusedVariables false
set_option linter.unusedSimpArgs false
/- A turn is read. (gen_gm.py) -/
namespace Go.Proofs.Ytlmfinpmlilcgaa
set_option maxRecDepth 20000
set_option linter.unusedVariables false
set_option linter.unusedSimpArgs false
open Go.RowKit Pm

set_option maxHeartbeats 16000000 in
theorem rTu_c (lo b : Nat) (s : Rst) (w : World) (h : Rr lo b s w) (hl : s.1.length ≤ 1000000) :
    Calls Try.prog 53 #[.agg #[.pointer (some ⟨b, 0, none⟩)]] w fun e w' => e = .returned (.agg #[.string (B (rTu s).1.dir), .int .i64 (rTu s).1.next]) ∧ RrStep lo b (rTu s).2 w w' := by
  have H00 := (Rd3.start h rfl #[.string ⟨#[]⟩, .int .i64 0] 72)
  have hf1 := fp_alloc w (.cells #[.pointer (some ⟨b, 0, none⟩)] TRD)
  have hf2 := fp_alloc (w.alloc (.cells #[.pointer (some ⟨b, 0, none⟩)] TRD)) (.cells #[.string ⟨#[]⟩, .int .i64 0] 72)
  have e1 := heap_alloc_new w (.cells #[.pointer (some ⟨b, 0, none⟩)] TRD)
  have e2 := heap_alloc_new (w.alloc (.cells #[.pointer (some ⟨b, 0, none⟩)] TRD)) (.cells #[.string ⟨#[]⟩, .int .i64 0] 72)
  have s1 : (w.alloc (.cells #[.pointer (some ⟨b, 0, none⟩)] TRD)).heap.size = w.heap.size + 1 := by simp
  rw [s1] at e2
  have hd : Fp Non ((w.alloc (.cells #[.pointer (some ⟨b, 0, none⟩)] TRD)).alloc (.cells #[.string ⟨#[]⟩, .int .i64 0] 72)) ((w.alloc (.cells #[.pointer (some ⟨b, 0, none⟩)] TRD)).alloc (.cells #[.string ⟨#[]⟩, .int .i64 0] 72)).drew := (Fp.refl _ _).drew
  have hF := (hf1.then hf2).then hd
  have hX := (hf2.then hd).heap e1 (fun h => h)
  have hZ := hd.heap e2 (fun h => h)
  have hR := h.keep hF (fun h => h)
  have hlt := h.lt
  obtain ⟨wd, hwd⟩ : ∃ wd, wd = ((w.alloc (.cells #[.pointer (some ⟨b, 0, none⟩)] TRD)).alloc (.cells #[.string ⟨#[]⟩, .int .i64 0] 72)).drew := ⟨_, rfl⟩
  rw [← hwd] at hF hX hZ hR
  have hc1 := RText_c lo b s wd hR hl
  obtain ⟨a1, e1'⟩ : ∃ a, a = rText s := ⟨_, rfl⟩
  obtain ⟨a2, e2'⟩ : ∃ a, a = rNum a1.2 10000 := ⟨_, rfl⟩
  have l1 : a1.2.1.length ≤ 1000000 := by rw [e1']; exact Nat.le_trans (rText_le s).1 hl
  have hE : rTu s = ((⟨a1.1, (a2.1 : Int)⟩ : Tu), a2.2) := by rw [e2', e1']; rfl
  rw [hE]
  rw [← e1'] at hc1
  have HC1 := Lib.hid hc1
  have HS := Lib.hid (And.intro hF (And.intro hX (And.intro hZ (And.intro hlt (And.intro e2' l1)))))
  have HSx := Lib.hid (show wd.cell? ⟨w.heap.size, 0, none⟩ = some (.pointer (some ⟨b, 0, none⟩)) from by rw [cell_of_row _ _ _ _ _ _ hX]; rfl)
  clear H00 hf1 hf2 e1 e2 s1 hd hF hX hZ hR hlt hc1 e1' e2' l1 hE h hl
  go_enter Try.func53, Try.ntmps53
  go_wp2_with fail
  refine wp_region_held_drew (S := (fun w' => w'.cell? ⟨w.heap.size, 0, none⟩ = some (.pointer (some ⟨b, 0, none⟩)))) (by kernel_rfl) ?_ (fun hHeld => ?_)
  · rw [show (65 : TypeId) = TRD from rfl] ; rw [← hwd]; exact HSx.out
  try rw [show (65 : TypeId) = TRD from rfl]
  rw [← hwd]
  clear hwd hHeld
  have hHeld := HSx.out
  refine wpAnyH_take (i := 0) (oi := ?oi101) (v := ?vi101) ?h101 (by kernel_rfl) (by kernel_rfl) (by kernel_rfl) ?q101 (Or.inl ⟨?w101, ?y101⟩) hHeld ?r101
  case h101 => first | (simp only [List.getElem?_toArray, List.getElem?_cons_zero]; done) | (simp only [List.getElem?_toArray, List.getElem?_cons_zero]; exact rfl)
  case q101 => exact fun _ _ _ h => h
  case w101 => rfl
  case y101 =>
    intro w hSw
    (try dsimp only at hSw)
    have s0 := hSw
    go_simp
    try with_reducible rfl
  try simp only [Act.put, List.setIfInBounds_toArray, List.set_cons_zero, List.set_cons_succ]
  refine wpAnyH_take (i := 1) (oi := ?oi102) (v := ?vi102) ?h102 (by kernel_rfl) (by kernel_rfl) (by kernel_rfl) ?q102 (Or.inl ⟨?w102, ?y102⟩) hHeld ?r102
  case h102 => first | (simp only [List.getElem?_toArray, List.getElem?_cons_zero, List.getElem?_cons_succ]; done) | (simp only [List.getElem?_toArray, List.getElem?_cons_zero, List.getElem?_cons_succ]; exact rfl)
  case q102 => exact fun _ _ _ h => h
  case w102 => rfl
  case y102 =>
    intro w hSw
    (try dsimp only at hSw)
    have s0 := hSw
    go_simp
    try with_reducible rfl
  try simp only [Act.put, List.setIfInBounds_toArray, List.set_cons_zero, List.set_cons_succ]
  refine wpAnyH_take (i := 3) (oi := ?oi103) (v := ?vi103) ?h103 (by kernel_rfl) (by kernel_rfl) (by kernel_rfl) ?q103 (Or.inl ⟨?w103, ?y103⟩) hHeld ?r103
  case h103 => first | (simp only [List.getElem?_toArray, List.getElem?_cons_zero, List.getElem?_cons_succ]; done) | (simp only [List.getElem?_toArray, List.getElem?_cons_zero, List.getElem?_cons_succ]; exact rfl)
  case q103 => exact fun _ _ _ h => h
  case w103 => rfl
  case y103 =>
    intro w hSw
    (try dsimp only at hSw)
    have s0 := hSw
    go_simp
    try with_reducible rfl
  try simp only [Act.put, List.setIfInBounds_toArray, List.set_cons_zero, List.set_cons_succ]
  refine wpAnyH_take (i := 4) (oi := ?oi104) (v := ?vi104) ?h104 (by kernel_rfl) (by kernel_rfl) (by kernel_rfl) ?q104 (Or.inl ⟨?w104, ?y104⟩) hHeld ?r104
  case h104 => first | (simp only [List.getElem?_toArray, List.getElem?_cons_zero, List.getElem?_cons_succ]; done) | (simp only [List.getElem?_toArray, List.getElem?_cons_zero, List.getElem?_cons_succ]; exact rfl)
  case q104 => exact fun _ _ _ h => h
  case w104 => rfl
  case y104 =>
    intro w hSw
    (try dsimp only at hSw)
    have s0 := hSw
    go_simp
    try with_reducible rfl
  try simp only [Act.put, List.setIfInBounds_toArray, List.set_cons_zero, List.set_cons_succ]
  refine wpAnyH_ready (rs := [2]) (by kernel_rfl) (by simp) ?_
  refine AllReadyH.cons (o := ?ob105) ?hb105 (fun K hK => ?_) AllReadyH.nil
  case hb105 => first | (simp only [List.getElem?_toArray, List.getElem?_cons_zero, List.getElem?_cons_succ]; done) | (simp only [List.getElem?_toArray, List.getElem?_cons_zero, List.getElem?_cons_succ]; exact rfl)
  go_simp
  go_at_call 49
  refine HC1.out.mono ?_
  rintro e w1 ⟨rfl, g1⟩
  have hx1 := g1.2.heap HS.out.2.1 (fun e => by have := HS.out.2.2.2.1; omega)
  have hz1 := g1.2.heap HS.out.2.2.1 (fun e => by have := HS.out.2.2.2.1; omega)
  have hc2 := RNum_c lo b a1.2 10000 w1 g1.1 HS.out.2.2.2.2.2
  rw [← HS.out.2.2.2.2.1] at hc2
  have HC2 := Lib.hid hc2
  have HT := Lib.hid (And.intro ((HS.out.1.any).same g1.2) (And.intro hx1 (And.intro hz1 HS.out.2.2.2.1)))
  have HSy := Lib.hid (show w1.cell? ⟨w.heap.size, 0, none⟩ = some (.pointer (some ⟨b, 0, none⟩)) from by rw [cell_of_row _ _ _ _ _ _ hx1]; rfl)
  clear g1 hx1 hz1 hc2 HC1 HS
  go_wp2_with fail
  refine hK.out _ _ HSy.out (fun hHeld => ?_)
  clear hK K
  try simp only [Act.put, List.setIfInBounds_toArray, List.set_cons_zero, List.set_cons_succ]
  refine wpAnyH_ready (rs := [5]) (by kernel_rfl) (by simp) ?_
  refine AllReadyH.cons (o := ?ob106) ?hb106 (fun K hK => ?_) AllReadyH.nil
  case hb106 => first | (simp only [List.getElem?_toArray, List.getElem?_cons_zero, List.getElem?_cons_succ]; done) | (simp only [List.getElem?_toArray, List.getElem?_cons_zero, List.getElem?_cons_succ]; exact rfl)
  go_simp
  go_at_call 45
  refine HC2.out.mono ?_
  rintro e w2 ⟨rfl, g2⟩
  have hx2 := g2.2.heap HT.out.2.1 (fun e => by have := HT.out.2.2.2; omega)
  have hz2 := g2.2.heap HT.out.2.2.1 (fun e => by have := HT.out.2.2.2; omega)
  have r0 : w2.cell? ⟨w.heap.size + 1, 0, none⟩ = some (.string ⟨#[]⟩) := by rw [cell_of_row _ _ _ _ _ _ hz2]; rfl
  have r1 : w2.cell? ⟨w.heap.size + 1, 1, none⟩ = some (.int .i64 0) := by rw [cell_of_row _ _ _ _ _ _ hz2]; rfl
  have z0 := frz hz2 0
  have z1 := frz hz2 1
  have hres := setAll_heap [.string (B a1.1), .int .i64 (a2.1 : Int)] w2 (w.heap.size + 1) 0 _ _ hz2 rfl
  have hfp := setAll_fp [.string (B a1.1), .int .i64 (a2.1 : Int)] w2 (w.heap.size + 1) 0
  have hfin : RrStep lo b a2.2 w (setAll w2 (w.heap.size + 1) 0 [.string (B a1.1), .int .i64 (a2.1 : Int)]) :=
    ⟨g2.1.keep hfp (fun e => by have := HT.out.2.2.2; omega), (HT.out.1.same g2.2).trans hfp (fun k hk => by right; omega)⟩
  have hx3 := hfp.heap hx2 (fun e => by omega)
  simp only [setAll, Nat.zero_add, Nat.reduceAdd] at hfin hres hx3
  have HSz := Lib.hid (show w2.cell? ⟨w.heap.size, 0, none⟩ = some (.pointer (some ⟨b, 0, none⟩)) from by rw [cell_of_row _ _ _ _ _ _ hx2]; rfl)
  have HFI := Lib.hid (And.intro hfin (And.intro hres hx3))
  have HSv := Lib.hid (show ((w2.setCell ⟨w.heap.size + 1, 0, none⟩ (.string (B a1.1))).setCell ⟨w.heap.size + 1, 1, none⟩ (.int .i64 (a2.1 : Int))).cell? ⟨w.heap.size, 0, none⟩ = some (.pointer (some ⟨b, 0, none⟩)) from by rw [cell_of_row _ _ _ _ _ _ hx3]; rfl)
  clear g2 hx2 hz2 hres hfp hfin hx3 HC2 HT
  go_wp2_with fail
  refine hK.out _ _ HSz.out (fun hHeld => ?_)
  clear hK K
  try simp only [Act.put, List.setIfInBounds_toArray, List.set_cons_zero, List.set_cons_succ]
  refine wpAnyH_take (i := 6) (oi := ?oi107) (v := ?vi107) ?h107 (by kernel_rfl) (by kernel_rfl) (by kernel_rfl) ?q107 (Or.inl ⟨?w107, ?y107⟩) hHeld ?r107
  case h107 => first | (simp only [List.getElem?_toArray, List.getElem?_cons_zero, List.getElem?_cons_succ]; done) | (simp only [List.getElem?_toArray, List.getElem?_cons_zero, List.getElem?_cons_succ]; exact rfl)
  case q107 => exact fun _ _ _ h => h
  case w107 => rfl
  case y107 =>
    intro w hSw
    (try dsimp only at hSw)
    have s0 := hSw
    go_simp
    try with_reducible rfl
  try simp only [Act.put, List.setIfInBounds_toArray, List.set_cons_zero, List.set_cons_succ]
  refine wpAnyH_ready (rs := [7]) (by kernel_rfl) (by simp) ?_
  refine AllReadyH.cons (o := ?ob108) ?hb108 (fun K hK => ?_) AllReadyH.nil
  case hb108 => first | (simp only [List.getElem?_toArray, List.getElem?_cons_zero, List.getElem?_cons_succ]; done) | (simp only [List.getElem?_toArray, List.getElem?_cons_zero, List.getElem?_cons_succ]; exact rfl)
  go_simp
  refine hK.out _ _ HSv.out (fun hHeld => ?_)
  clear hK K
  try simp only [Act.put, List.setIfInBounds_toArray, List.set_cons_zero, List.set_cons_succ]
  refine wpAnyH_done (by kernel_rfl) ?_ _
  go_wp2
  have hq0 := cell_of_row _ (w.heap.size + 1) 0 _ _ _ HFI.out.2.1
  have hq1 := cell_of_row _ (w.heap.size + 1) 1 _ _ _ HFI.out.2.1
  have hfi := HFI.out.1
  generalize ((World.setCell w2 _ _).setCell _ _) = wz at *
  have q0 : wz.cell? ⟨w.heap.size + 1, 0, none⟩ = some (.string (B a1.1)) := hq0
  have q1 : wz.cell? ⟨w.heap.size + 1, 1, none⟩ = some (.int .i64 (a2.1 : Int)) := hq1
  exact bodyPost_ret (v := .agg #[.string (B a1.1), .int .i64 (a2.1 : Int)]) (by simp [results, Try.results53, go_sem, q0, q1]) rfl ⟨rfl, hfi⟩
end Go.Proofs.Ytlmfinpmlilcgaa

