/- A text of this proof. -/
import Derived.Test.YtphoglepiegeiaaGreatDoorZAD
import Derived.Test.YtphoglepiegeiaaGreatDoorZAQ
import Derived.Test.YtphoglepiegeiaaGreatDoorZAXVb
namespace Go.Proofs.YtphoglepiegeiaaGreatDoor
set_option linter.unusedSimpArgs false
set_option linter.unusedVariables false
set_option maxRecDepth 20000
set_option linter.unusedVariables false
set_option linter.unusedSimpArgs false
open Go.RowKit Pm
theorem Pm.StR.up {s : St} (h : StR s) {k : Nat} (h0 : 0 < k) (hk : k < s.nodes.length) (h1 : k - 1 < s.nodes.length) : lt (s.nodes[k-1]).path (s.nodes[k]).path = true := h.asc (k - 1) k h1 hk (by omega)
theorem Pm.StR.upT {s : St} (h : StR s) {k : Nat} (h0 : 0 < k) (hk : k < s.turns.length) (h1 : k - 1 < s.turns.length) : lt (s.turns[k-1]).dir (s.turns[k]).dir = true := h.tasc (k - 1) k h1 hk (by omega)
set_option maxHeartbeats 16000000 in
theorem rRightS_c (v : Value) (s : St) (w : World) (hv : Sto w v s) (hs : Sp s.nodes) (hn : s.nodes.length ≤ 1000000) (hst : ∀ t ∈ s.turns, t.dir.length ≤ 1000000) (hmm : s.turns.length ≤ 1000000) :
  Calls Tryz.prog 20 #[v] w fun e w' => (∃ b, e = .returned (.bool b) ∧ (StR s → b = true)) ∧ Fp Non w w' := by
 obtain ⟨vn, vt, rfl, h1, h2⟩ := hv.ex
 obtain ⟨ao, cap, rfl⟩ := h1.shape
 obtain ⟨at', capt, rfl⟩ := h2.shape
 obtain ⟨n, hnn⟩ : ∃ n, n = s.nodes.length := ⟨_, rfl⟩
 obtain ⟨m, hm⟩ : ∃ m, m = s.turns.length := ⟨_, rfl⟩
 have HX := Lib.hid (And.intro hnn (And.intro h1 hs))
 have HT := Lib.hid (And.intro hm (And.intro h2 hst))
 have hmb : m ≤ 1000000 := by omega
 rw [← hnn, ← hm]
 have HB0 := Lib.hid (heap_alloc_new w (Obj.cells #[.slice ao n cap, .slice at' m capt] 25))
 have HF0 := Lib.hid (fp_alloc w (Obj.cells #[.slice ao n cap, .slice at' m capt] 25))
 have hnb : n ≤ 1000000 := by omega
 clear h1 h2 hv hs hn hnn hm hst hmm
 go_enter Tryz.func20, Tryz.ntmps20
 go_wp2_with fail
 go_loopw [3] (fun i wr => ∃ k : Nat, k ≤ n ∧ i = .int .i64 k ∧ Hid (Fp Non w wr ∧ wr.heap[w.heap.size]? = some (Obj.cells #[.slice ao n cap, .slice at' m capt] 25 (0, 0)))) (fun i _ => n - (RowKit.intOf i).toNat)
 case atStart => exact ⟨0, Nat.zero_le _, rfl, HF0.out, HB0.out⟩
 case round =>
  obtain ⟨k, hk, rfl, hR⟩ := hrel
  rename_i wr _
  obtain ⟨b0, b1⟩ := boxP2 hR.out.2
  by_cases hlt : k < n
  ·have hkl : k < s.nodes.length := by rw [← HX.out.1]; exact hlt
   obtain ⟨g, o, cap', e, _, _, _, hcell⟩ := HX.out.2.1.at (by omega)
   injection e with e1 e2 e3
   subst e1 e3
   clear e2
   have q3 : ((k : Int) < (n : Int)) = True := eq_true (by omega)
   have q4 : (k < n) = True := eq_true hlt
   have fd : Fp Non wr wr.drew := (Fp.refl Non wr).drew
   have hnd := (hcell k hkl).keep (hR.out.1.then fd) (fun h => h)
   have hpv := fun h0 : 0 < k => ((hcell (k - 1) (by omega)).keep (hR.out.1.then fd) (fun h => h)).c0
   have hup := fun (h0 : 0 < k) (h : StR s) => h.up h0 hkl (by omega)
   have hsf := fun (h : StR s) => nfit_of (h.fit _ (List.getElem_mem hkl))
   have hsp := HX.out.2.2 _ (List.getElem_mem hkl)
   obtain ⟨x, hx⟩ : ∃ x, s.nodes[k] = x := ⟨_, rfl⟩
   have hz : ∃ z, ∀ h : k - 1 < s.nodes.length, (s.nodes[k - 1]).path = z := by
    by_cases h : k - 1 < s.nodes.length
    ·exact ⟨(s.nodes[k - 1]).path, fun _ => rfl⟩
    ·exact ⟨[], fun h' => absurd h' h⟩
   obtain ⟨z, hz⟩ := hz
   rw [hx] at hnd hsf hsp
   have hpv' : 0 < k → wr.drew.cell? ⟨g, o + (k - 1) * 5, none⟩ = some (.string (B z)) := fun h0 => by have := hpv h0; rw [hz] at this; exact this
   have hup' : 0 < k → StR s → Op.bytesLess z x.path = true := fun h0 h => by have := hup h0 h; rw [hz, hx] at this; exact this
   have d0 := fd.cell b0 (fun h => h)
   have hnc := fun w => rNode_c x w hsp
   obtain ⟨fx, hfx⟩ : ∃ b, nfit x = b := ⟨_, rfl⟩
   rw [hfx] at hnc hsf
   unfold ndV strV at hnc
   have HNC := Lib.hid hnc
   have HS0 := Lib.hid (And.intro d0 (And.intro hnd (And.intro hpv' (And.intro hup' hsf))))
   have HFR := Lib.hid fd
   have HFW := Lib.hid hR.out.1
   have HBX := Lib.hid hR.out.2
   have HK := Lib.hid hlt
   have hw := hnd
   have c0 := ((hcell k hkl).keep hR.out.1 (fun h => h)).c0
   clear hcell hpv hup hpv' hup' hsf hsp hx hz hnc hfx hnd d0 fd hkl hw c0 hk
   cases fx with
   | false =>
    have HNO := Lib.hid (show ¬ StR s from fun h => by have := HS0.out.2.2.2.2 h; cases this)
    have HS := Lib.hid (And.intro HS0.out.1 (And.intro HS0.out.2.1.c0 (And.intro HS0.out.2.1.c1 (And.intro HS0.out.2.1.c2 (And.intro HS0.out.2.1.c3 HS0.out.2.1.c4)))))
    unfold strV at HS
    clear hlt
    go_wp2_with fail
    refine wp_region_held_drew (S := (fun w' => w'.cell? ⟨w.heap.size, 0, none⟩ = some (.slice (some ⟨g, o, none⟩) n cap) ∧ w'.cell? ⟨g, o + k * 5, none⟩ = some (.string (B x.path)) ∧ w'.cell? ⟨g, o + k * 5 + 1, none⟩ = some (.string (B x.data)) ∧ w'.cell? ⟨g, o + k * 5 + 2, none⟩ = some (.int .i64 x.ver) ∧ w'.cell? ⟨g, o + k * 5 + 3, none⟩ = some (.int .i64 x.turn) ∧ w'.cell? ⟨g, o + k * 5 + 4, none⟩ = some (.int .i64 x.own))) (by kernel_rfl) ?_ (fun hHeld => ?_)
    ·exact HS.out
    refine tk 0 (v := ?_) hHeld (fun w hSw => ?_) ?_; rotate_left
    ·(try dsimp only at hSw); obtain ⟨s0, s1, s2, s3, s4, s5⟩ := hSw; go_simp; try with_reducible rfl
    try simp only [zP, zN, zS, zT, zU]
    refine tk 1 (v := ?_) hHeld (fun w hSw => ?_) ?_; rotate_left
    ·(try dsimp only at hSw); obtain ⟨s0, s1, s2, s3, s4, s5⟩ := hSw; go_simp; try with_reducible rfl
    try simp only [zP, zN, zS, zT, zU]
    refine tk 2 (v := ?_) hHeld (fun w hSw => ?_) ?_; rotate_left
    ·(try dsimp only at hSw); obtain ⟨s0, s1, s2, s3, s4, s5⟩ := hSw; go_simp; try with_reducible rfl
    try simp only [zP, zN, zS, zT, zU]
    refine tk 3 (v := ?_) hHeld (fun w hSw => ?_) ?_; rotate_left
    ·(try dsimp only at hSw); obtain ⟨s0, s1, s2, s3, s4, s5⟩ := hSw; go_simp; try with_reducible rfl
    try simp only [zP, zN, zS, zT, zU]
    refine tk 4 (v := ?_) hHeld (fun w hSw => ?_) ?_; rotate_left
    ·(try dsimp only at hSw); obtain ⟨s0, s1, s2, s3, s4, s5⟩ := hSw; go_simp; try with_reducible rfl
    try simp only [zP, zN, zS, zT, zU]
    refine wpAnyH_ready (rs := [5]) (by kernel_rfl) (by simp) ?_
    refine AllReadyH.cons (o := ?_) (by simp only [zA, zB, zC] <;> exact rfl) (fun K hK => ?_) AllReadyH.nil
    go_simp
    go_at_call 66
    refine (HNC.out _).mono ?_
    rintro e w1 ⟨rfl, f1⟩
    have F := Lib.hid (HFR.out.then f1)
    have HS1 := Lib.hid (And.intro (f1.cell HS.out.1 (fun h => h)) (And.intro (f1.cell HS.out.2.1 (fun h => h)) (And.intro (f1.cell HS.out.2.2.1 (fun h => h)) (And.intro (f1.cell HS.out.2.2.2.1 (fun h => h)) (And.intro (f1.cell HS.out.2.2.2.2.1 (fun h => h)) (f1.cell HS.out.2.2.2.2.2 (fun h => h)))))))
    clear f1
    go_wp2_with fail
    refine hK.out _ _ HS1.out (fun hHeld => ?_)
    clear hK K
    try simp only [zP, zN, zS, zT, zU]
    refine tk 6 (v := ?_) hHeld (fun w hSw => ?_) ?_; rotate_left
    ·(try dsimp only at hSw); obtain ⟨s0, s1, s2, s3, s4, s5⟩ := hSw; go_simp; try with_reducible rfl
    try simp only [zP, zN, zS, zT, zU]
    refine tk 7 (v := ?_) hHeld (fun w hSw => ?_) ?_; rotate_left
    ·(try dsimp only at hSw); obtain ⟨s0, s1, s2, s3, s4, s5⟩ := hSw; go_simp; try with_reducible rfl
    try simp only [zP, zN, zS, zT, zU]
    refine sk 8 hHeld ?_
    try simp only [zP, zN, zS, zT, zU]
    refine sk 9 hHeld ?_
    try simp only [zP, zN, zS, zT, zU]
    refine sk 10 hHeld ?_
    try simp only [zP, zN, zS, zT, zU]
    refine sk 11 hHeld ?_
    try simp only [zP, zN, zS, zT, zU]
    refine sk 12 hHeld ?_
    try simp only [zP, zN, zS, zT, zU]
    refine sk 13 hHeld ?_
    try simp only [zP, zN, zS, zT, zU]
    refine sk 14 hHeld ?_
    try simp only [zP, zN, zS, zT, zU]
    refine sk 15 hHeld ?_
    try simp only [zP, zN, zS, zT, zU]
    refine sk 16 hHeld ?_
    try simp only [zP, zN, zS, zT, zU]
    refine sk 17 hHeld ?_
    try simp only [zP, zN, zS, zT, zU]
    refine sk 18 hHeld ?_
    try simp only [zP, zN, zS, zT, zU]
    refine sk 19 hHeld ?_
    try simp only [zP, zN, zS, zT, zU]
    refine sk 20 hHeld ?_
    try simp only [zP, zN, zS, zT, zU]
    refine sk 21 hHeld ?_
    try simp only [zP, zN, zS, zT, zU]
    refine sk 22 hHeld ?_
    try simp only [zP, zN, zS, zT, zU]
    refine sk 23 hHeld ?_
    try simp only [zP, zN, zS, zT, zU]
    refine sk 24 hHeld ?_
    try simp only [zP, zN, zS, zT, zU]
    refine sk 25 hHeld ?_
    try simp only [zP, zN, zS, zT, zU]
    refine tk 26 (v := ?_) hHeld (fun w hSw => ?_) ?_; rotate_left
    ·(try dsimp only at hSw); obtain ⟨s0, s1, s2, s3, s4, s5⟩ := hSw; go_simp; try with_reducible rfl
    try simp only [zP, zN, zS, zT, zU]
    refine wpAnyH_done (by kernel_rfl) ?_ _
    go_wp2
    go_ret
    exact ⟨⟨false, rfl, fun h => absurd h HNO.out⟩, HFW.out.then F.out⟩
   | true =>
    rcases Nat.eq_zero_or_pos k with hk0 | hk0
    ·subst hk0
     have HS := Lib.hid (And.intro HS0.out.1 (And.intro HS0.out.2.1.c0 (And.intro HS0.out.2.1.c1 (And.intro HS0.out.2.1.c2 (And.intro HS0.out.2.1.c3 HS0.out.2.1.c4)))))
     unfold strV at HS
     simp only [Nat.zero_mul, Nat.add_zero] at HS
     clear hlt
     go_wp2_with fail
     refine wp_region_held_drew (S := (fun w' => w'.cell? ⟨w.heap.size, 0, none⟩ = some (.slice (some ⟨g, o, none⟩) n cap) ∧ w'.cell? ⟨g, o, none⟩ = some (.string (B x.path)) ∧ w'.cell? ⟨g, o + 1, none⟩ = some (.string (B x.data)) ∧ w'.cell? ⟨g, o + 2, none⟩ = some (.int .i64 x.ver) ∧ w'.cell? ⟨g, o + 3, none⟩ = some (.int .i64 x.turn) ∧ w'.cell? ⟨g, o + 4, none⟩ = some (.int .i64 x.own))) (by kernel_rfl) ?_ (fun hHeld => ?_)
     ·exact HS.out
     refine tk 0 (v := ?_) hHeld (fun w hSw => ?_) ?_; rotate_left
     ·(try dsimp only at hSw); obtain ⟨s0, s1, s2, s3, s4, s5⟩ := hSw; go_simp; try with_reducible rfl
     try simp only [zP, zN, zS, zT, zU]
     refine tk 1 (v := ?_) hHeld (fun w hSw => ?_) ?_; rotate_left
     ·(try dsimp only at hSw); obtain ⟨s0, s1, s2, s3, s4, s5⟩ := hSw; go_simp; try with_reducible rfl
     try simp only [zP, zN, zS, zT, zU]
     refine tk 2 (v := ?_) hHeld (fun w hSw => ?_) ?_; rotate_left
     ·(try dsimp only at hSw); obtain ⟨s0, s1, s2, s3, s4, s5⟩ := hSw; go_simp; try with_reducible rfl
     try simp only [zP, zN, zS, zT, zU]
     refine tk 3 (v := ?_) hHeld (fun w hSw => ?_) ?_; rotate_left
     ·(try dsimp only at hSw); obtain ⟨s0, s1, s2, s3, s4, s5⟩ := hSw; go_simp; try with_reducible rfl
     try simp only [zP, zN, zS, zT, zU]
     refine tk 4 (v := ?_) hHeld (fun w hSw => ?_) ?_; rotate_left
     ·(try dsimp only at hSw); obtain ⟨s0, s1, s2, s3, s4, s5⟩ := hSw; go_simp; try with_reducible rfl
     try simp only [zP, zN, zS, zT, zU]
     refine wpAnyH_ready (rs := [5]) (by kernel_rfl) (by simp) ?_
     refine AllReadyH.cons (o := ?_) (by simp only [zA, zB, zC] <;> exact rfl) (fun K hK => ?_) AllReadyH.nil
     go_simp
     go_at_call 66
     refine (HNC.out _).mono ?_
     rintro e w1 ⟨rfl, f1⟩
     have F := Lib.hid (HFR.out.then f1)
     have HS1 := Lib.hid (And.intro (f1.cell HS.out.1 (fun h => h)) (And.intro (f1.cell HS.out.2.1 (fun h => h)) (And.intro (f1.cell HS.out.2.2.1 (fun h => h)) (And.intro (f1.cell HS.out.2.2.2.1 (fun h => h)) (And.intro (f1.cell HS.out.2.2.2.2.1 (fun h => h)) (f1.cell HS.out.2.2.2.2.2 (fun h => h)))))))
     clear f1
     go_wp2_with fail
     refine hK.out _ _ HS1.out (fun hHeld => ?_)
     clear hK K
     try simp only [zP, zN, zS, zT, zU]
     refine tk 6 (v := ?_) hHeld (fun w hSw => ?_) ?_; rotate_left
     ·(try dsimp only at hSw); obtain ⟨s0, s1, s2, s3, s4, s5⟩ := hSw; go_simp; try with_reducible rfl
     try simp only [zP, zN, zS, zT, zU]
     refine tk 7 (v := ?_) hHeld (fun w hSw => ?_) ?_; rotate_left
     ·(try dsimp only at hSw); obtain ⟨s0, s1, s2, s3, s4, s5⟩ := hSw; go_simp; try with_reducible rfl
     try simp only [zP, zN, zS, zT, zU]
     refine tk 8 (v := ?_) hHeld (fun w hSw => ?_) ?_; rotate_left
     ·(try dsimp only at hSw); obtain ⟨s0, s1, s2, s3, s4, s5⟩ := hSw; go_simp; try with_reducible rfl
     try simp only [zP, zN, zS, zT, zU]
     refine tk 9 (v := ?_) hHeld (fun w hSw => ?_) ?_; rotate_left
     ·(try dsimp only at hSw); obtain ⟨s0, s1, s2, s3, s4, s5⟩ := hSw; go_simp; try with_reducible rfl
     try simp only [zP, zN, zS, zT, zU]
     refine tk 10 (v := ?_) hHeld (fun w hSw => ?_) ?_; rotate_left
     ·(try dsimp only at hSw); obtain ⟨s0, s1, s2, s3, s4, s5⟩ := hSw; go_simp; try with_reducible rfl
     try simp only [zP, zN, zS, zT, zU]
     refine sk 11 hHeld ?_
     try simp only [zP, zN, zS, zT, zU]
     refine sk 12 hHeld ?_
     try simp only [zP, zN, zS, zT, zU]
     refine sk 13 hHeld ?_
     try simp only [zP, zN, zS, zT, zU]
     refine sk 14 hHeld ?_
     try simp only [zP, zN, zS, zT, zU]
     refine sk 15 hHeld ?_
     try simp only [zP, zN, zS, zT, zU]
     refine sk 16 hHeld ?_
     try simp only [zP, zN, zS, zT, zU]
     refine sk 17 hHeld ?_
     try simp only [zP, zN, zS, zT, zU]
     refine sk 18 hHeld ?_
     try simp only [zP, zN, zS, zT, zU]
     refine sk 19 hHeld ?_
     try simp only [zP, zN, zS, zT, zU]
     refine sk 20 hHeld ?_
     try simp only [zP, zN, zS, zT, zU]
     refine sk 21 hHeld ?_
     try simp only [zP, zN, zS, zT, zU]
     refine sk 22 hHeld ?_
     try simp only [zP, zN, zS, zT, zU]
     refine sk 23 hHeld ?_
     try simp only [zP, zN, zS, zT, zU]
     refine sk 24 hHeld ?_
     try simp only [zP, zN, zS, zT, zU]
     refine tk 25 (v := ?_) hHeld (fun w hSw => ?_) ?_; rotate_left
     ·(try dsimp only at hSw); obtain ⟨s0, s1, s2, s3, s4, s5⟩ := hSw; go_simp; try with_reducible rfl
     try simp only [zP, zN, zS, zT, zU]
     refine tk 26 (v := ?_) hHeld (fun w hSw => ?_) ?_; rotate_left
     ·(try dsimp only at hSw); obtain ⟨s0, s1, s2, s3, s4, s5⟩ := hSw; go_simp; try with_reducible rfl
     try simp only [zP, zN, zS, zT, zU]
     refine wpAnyH_done (by kernel_rfl) ?_ _
     have hM : Hid (Fp Non w w1 ∧ w1.heap[w.heap.size]? = some (Obj.cells #[.slice (some ⟨g, o, none⟩) n cap, .slice at' m capt] 25 (0, 0))) := ⟨HFW.out.then F.out, F.out.heap HBX.out (fun h => h)⟩
     have hkn := HK.out
     go_wp2
     go_roundw
     case rel => exact ⟨0 + 1, by have := HK.out; omega, by go_num, hM⟩
     case measure => have := HK.out; simp [RowKit.intOf]; omega
    ·have HS := Lib.hid (And.intro HS0.out.1 (And.intro HS0.out.2.1.c0 (And.intro HS0.out.2.1.c1 (And.intro HS0.out.2.1.c2 (And.intro HS0.out.2.1.c3 (And.intro HS0.out.2.1.c4 (HS0.out.2.2.1 hk0)))))))
     unfold strV at HS
     have wk : IntKind.i64.wrap ((k : Int) - 1) = ((k - 1 : Nat) : Int) := by rw [IntKind.wrap_i64]; omega
     have qz : ((0 : Int) < (k : Int)) = True := eq_true (by omega)
     have qz2 : (0 < k) = True := eq_true hk0
     have qn : (((k - 1 : Nat) : Int) < (n : Int)) = True := eq_true (by omega)
     have qn2 : (k - 1 < n) = True := eq_true (by omega)
     have HK0 := Lib.hid hk0
     by_cases hle : Op.bytesLess z x.path = true
     ·clear hlt hk0
      go_wp2_with fail
      refine wp_region_held_drew (S := (fun w' => w'.cell? ⟨w.heap.size, 0, none⟩ = some (.slice (some ⟨g, o, none⟩) n cap) ∧ w'.cell? ⟨g, o + k * 5, none⟩ = some (.string (B x.path)) ∧ w'.cell? ⟨g, o + k * 5 + 1, none⟩ = some (.string (B x.data)) ∧ w'.cell? ⟨g, o + k * 5 + 2, none⟩ = some (.int .i64 x.ver) ∧ w'.cell? ⟨g, o + k * 5 + 3, none⟩ = some (.int .i64 x.turn) ∧ w'.cell? ⟨g, o + k * 5 + 4, none⟩ = some (.int .i64 x.own) ∧ w'.cell? ⟨g, o + (k - 1) * 5, none⟩ = some (.string (B z)))) (by kernel_rfl) ?_ (fun hHeld => ?_)
      ·exact HS.out
      refine tk 0 (v := ?_) hHeld (fun w hSw => ?_) ?_; rotate_left
      ·(try dsimp only at hSw); obtain ⟨s0, s1, s2, s3, s4, s5, s6⟩ := hSw; go_simp; try with_reducible rfl
      try simp only [zP, zN, zS, zT, zU]
      refine tk 1 (v := ?_) hHeld (fun w hSw => ?_) ?_; rotate_left
      ·(try dsimp only at hSw); obtain ⟨s0, s1, s2, s3, s4, s5, s6⟩ := hSw; go_simp; try with_reducible rfl
      try simp only [zP, zN, zS, zT, zU]
      refine tk 2 (v := ?_) hHeld (fun w hSw => ?_) ?_; rotate_left
      ·(try dsimp only at hSw); obtain ⟨s0, s1, s2, s3, s4, s5, s6⟩ := hSw; go_simp; try with_reducible rfl
      try simp only [zP, zN, zS, zT, zU]
      refine tk 3 (v := ?_) hHeld (fun w hSw => ?_) ?_; rotate_left
      ·(try dsimp only at hSw); obtain ⟨s0, s1, s2, s3, s4, s5, s6⟩ := hSw; go_simp; try with_reducible rfl
      try simp only [zP, zN, zS, zT, zU]
      refine tk 4 (v := ?_) hHeld (fun w hSw => ?_) ?_; rotate_left
      ·(try dsimp only at hSw); obtain ⟨s0, s1, s2, s3, s4, s5, s6⟩ := hSw; go_simp; try with_reducible rfl
      try simp only [zP, zN, zS, zT, zU]
      refine wpAnyH_ready (rs := [5]) (by kernel_rfl) (by simp) ?_
      refine AllReadyH.cons (o := ?_) (by simp only [zA, zB, zC] <;> exact rfl) (fun K hK => ?_) AllReadyH.nil
      go_simp
      go_at_call 66
      refine (HNC.out _).mono ?_
      rintro e w1 ⟨rfl, f1⟩
      have F := Lib.hid (HFR.out.then f1)
      have HS1 := Lib.hid (And.intro (f1.cell HS.out.1 (fun h => h)) (And.intro (f1.cell HS.out.2.1 (fun h => h)) (And.intro (f1.cell HS.out.2.2.1 (fun h => h)) (And.intro (f1.cell HS.out.2.2.2.1 (fun h => h)) (And.intro (f1.cell HS.out.2.2.2.2.1 (fun h => h)) (And.intro (f1.cell HS.out.2.2.2.2.2.1 (fun h => h)) (f1.cell HS.out.2.2.2.2.2.2 (fun h => h))))))))
      clear f1
      go_wp2_with fail
      refine hK.out _ _ HS1.out (fun hHeld => ?_)
      clear hK K
      try simp only [zP, zN, zS, zT, zU]
      refine tk 6 (v := ?_) hHeld (fun w hSw => ?_) ?_; rotate_left
      ·(try dsimp only at hSw); obtain ⟨s0, s1, s2, s3, s4, s5, s6⟩ := hSw; go_simp; try with_reducible rfl
      try simp only [zP, zN, zS, zT, zU]
      refine tk 7 (v := ?_) hHeld (fun w hSw => ?_) ?_; rotate_left
      ·(try dsimp only at hSw); obtain ⟨s0, s1, s2, s3, s4, s5, s6⟩ := hSw; go_simp; try with_reducible rfl
      try simp only [zP, zN, zS, zT, zU]
      refine tk 8 (v := ?_) hHeld (fun w hSw => ?_) ?_; rotate_left
      ·(try dsimp only at hSw); obtain ⟨s0, s1, s2, s3, s4, s5, s6⟩ := hSw; go_simp; try with_reducible rfl
      try simp only [zP, zN, zS, zT, zU]
      refine tk 9 (v := ?_) hHeld (fun w hSw => ?_) ?_; rotate_left
      ·(try dsimp only at hSw); obtain ⟨s0, s1, s2, s3, s4, s5, s6⟩ := hSw; go_simp; try with_reducible rfl
      try simp only [zP, zN, zS, zT, zU]
      refine tk 10 (v := ?_) hHeld (fun w hSw => ?_) ?_; rotate_left
      ·(try dsimp only at hSw); obtain ⟨s0, s1, s2, s3, s4, s5, s6⟩ := hSw; go_simp; try with_reducible rfl
      try simp only [zP, zN, zS, zT, zU]
      refine tk 11 (v := ?_) hHeld (fun w hSw => ?_) ?_; rotate_left
      ·(try dsimp only at hSw); obtain ⟨s0, s1, s2, s3, s4, s5, s6⟩ := hSw; go_simp; try with_reducible rfl
      try simp only [zP, zN, zS, zT, zU]
      refine tk 12 (v := ?_) hHeld (fun w hSw => ?_) ?_; rotate_left
      ·(try dsimp only at hSw); obtain ⟨s0, s1, s2, s3, s4, s5, s6⟩ := hSw; go_simp; try with_reducible rfl
      try simp only [zP, zN, zS, zT, zU]
      refine tk 13 (v := ?_) hHeld (fun w hSw => ?_) ?_; rotate_left
      ·(try dsimp only at hSw); obtain ⟨s0, s1, s2, s3, s4, s5, s6⟩ := hSw; go_simp; try with_reducible rfl
      try simp only [zP, zN, zS, zT, zU]
      refine tk 14 (v := ?_) hHeld (fun w hSw => ?_) ?_; rotate_left
      ·(try dsimp only at hSw); obtain ⟨s0, s1, s2, s3, s4, s5, s6⟩ := hSw; go_simp; try with_reducible rfl
      try simp only [zP, zN, zS, zT, zU]
      refine tk 15 (v := ?_) hHeld (fun w hSw => ?_) ?_; rotate_left
      ·(try dsimp only at hSw); obtain ⟨s0, s1, s2, s3, s4, s5, s6⟩ := hSw; go_simp; try with_reducible rfl
      try simp only [zP, zN, zS, zT, zU]
      refine tk 16 (v := ?_) hHeld (fun w hSw => ?_) ?_; rotate_left
      ·(try dsimp only at hSw); obtain ⟨s0, s1, s2, s3, s4, s5, s6⟩ := hSw; go_simp; try with_reducible rfl
      try simp only [zP, zN, zS, zT, zU]
      refine tk 17 (v := ?_) hHeld (fun w hSw => ?_) ?_; rotate_left
      ·(try dsimp only at hSw); obtain ⟨s0, s1, s2, s3, s4, s5, s6⟩ := hSw; go_simp; try with_reducible rfl
      try simp only [zP, zN, zS, zT, zU]
      refine tk 18 (v := ?_) hHeld (fun w hSw => ?_) ?_; rotate_left
      ·(try dsimp only at hSw); obtain ⟨s0, s1, s2, s3, s4, s5, s6⟩ := hSw; go_simp; try with_reducible rfl
      try simp only [zP, zN, zS, zT, zU]
      refine tk 19 (v := ?_) hHeld (fun w hSw => ?_) ?_; rotate_left
      ·(try dsimp only at hSw); obtain ⟨s0, s1, s2, s3, s4, s5, s6⟩ := hSw; go_simp; try with_reducible rfl
      try simp only [zP, zN, zS, zT, zU]
      refine tk 20 (v := ?_) hHeld (fun w hSw => ?_) ?_; rotate_left
      ·(try dsimp only at hSw); obtain ⟨s0, s1, s2, s3, s4, s5, s6⟩ := hSw; go_simp; try with_reducible rfl
      try simp only [zP, zN, zS, zT, zU]
      refine tk 21 (v := ?_) hHeld (fun w hSw => ?_) ?_; rotate_left
      ·(try dsimp only at hSw); obtain ⟨s0, s1, s2, s3, s4, s5, s6⟩ := hSw; go_simp; try with_reducible rfl
      try simp only [zP, zN, zS, zT, zU]
      refine tk 22 (v := ?_) hHeld (fun w hSw => ?_) ?_; rotate_left
      ·(try dsimp only at hSw); obtain ⟨s0, s1, s2, s3, s4, s5, s6⟩ := hSw; go_simp; try with_reducible rfl
      try simp only [zP, zN, zS, zT, zU]
      refine tk 23 (v := ?_) hHeld (fun w hSw => ?_) ?_; rotate_left
      ·(try dsimp only at hSw); obtain ⟨s0, s1, s2, s3, s4, s5, s6⟩ := hSw; go_simp; try with_reducible rfl
      try simp only [zP, zN, zS, zT, zU]
      refine tk 24 (v := ?_) hHeld (fun w hSw => ?_) ?_; rotate_left
      ·(try dsimp only at hSw); obtain ⟨s0, s1, s2, s3, s4, s5, s6⟩ := hSw; go_simp; try with_reducible rfl
      try simp only [zP, zN, zS, zT, zU]
      refine tk 25 (v := ?_) hHeld (fun w hSw => ?_) ?_; rotate_left
      ·(try dsimp only at hSw); obtain ⟨s0, s1, s2, s3, s4, s5, s6⟩ := hSw; go_simp; try with_reducible rfl
      try simp only [zP, zN, zS, zT, zU]
      refine tk 26 (v := ?_) hHeld (fun w hSw => ?_) ?_; rotate_left
      ·(try dsimp only at hSw); obtain ⟨s0, s1, s2, s3, s4, s5, s6⟩ := hSw; go_simp; try with_reducible rfl
      try simp only [zP, zN, zS, zT, zU]
      refine wpAnyH_done (by kernel_rfl) ?_ _
      have hM : Hid (Fp Non w w1 ∧ w1.heap[w.heap.size]? = some (Obj.cells #[.slice (some ⟨g, o, none⟩) n cap, .slice at' m capt] 25 (0, 0))) := ⟨HFW.out.then F.out, F.out.heap HBX.out (fun h => h)⟩
      have hkn := HK.out
      go_wp2
      go_roundw
      case rel => exact ⟨k + 1, by have := HK.out; omega, by go_num, hM⟩
      case measure => have := HK.out; simp [RowKit.intOf]; omega
     ·have hle' : Op.bytesLess z x.path = false := by simpa using hle
      have HNO := Lib.hid (show ¬ StR s from fun h => hle (HS0.out.2.2.2.1 HK0.out h))
      clear hlt hk0 hle
      go_wp2_with fail
      refine wp_region_held_drew (S := (fun w' => w'.cell? ⟨w.heap.size, 0, none⟩ = some (.slice (some ⟨g, o, none⟩) n cap) ∧ w'.cell? ⟨g, o + k * 5, none⟩ = some (.string (B x.path)) ∧ w'.cell? ⟨g, o + k * 5 + 1, none⟩ = some (.string (B x.data)) ∧ w'.cell? ⟨g, o + k * 5 + 2, none⟩ = some (.int .i64 x.ver) ∧ w'.cell? ⟨g, o + k * 5 + 3, none⟩ = some (.int .i64 x.turn) ∧ w'.cell? ⟨g, o + k * 5 + 4, none⟩ = some (.int .i64 x.own) ∧ w'.cell? ⟨g, o + (k - 1) * 5, none⟩ = some (.string (B z)))) (by kernel_rfl) ?_ (fun hHeld => ?_)
      ·exact HS.out
      refine tk 0 (v := ?_) hHeld (fun w hSw => ?_) ?_; rotate_left
      ·(try dsimp only at hSw); obtain ⟨s0, s1, s2, s3, s4, s5, s6⟩ := hSw; go_simp; try with_reducible rfl
      try simp only [zP, zN, zS, zT, zU]
      refine tk 1 (v := ?_) hHeld (fun w hSw => ?_) ?_; rotate_left
      ·(try dsimp only at hSw); obtain ⟨s0, s1, s2, s3, s4, s5, s6⟩ := hSw; go_simp; try with_reducible rfl
      try simp only [zP, zN, zS, zT, zU]
      refine tk 2 (v := ?_) hHeld (fun w hSw => ?_) ?_; rotate_left
      ·(try dsimp only at hSw); obtain ⟨s0, s1, s2, s3, s4, s5, s6⟩ := hSw; go_simp; try with_reducible rfl
      try simp only [zP, zN, zS, zT, zU]
      refine tk 3 (v := ?_) hHeld (fun w hSw => ?_) ?_; rotate_left
      ·(try dsimp only at hSw); obtain ⟨s0, s1, s2, s3, s4, s5, s6⟩ := hSw; go_simp; try with_reducible rfl
      try simp only [zP, zN, zS, zT, zU]
      refine tk 4 (v := ?_) hHeld (fun w hSw => ?_) ?_; rotate_left
      ·(try dsimp only at hSw); obtain ⟨s0, s1, s2, s3, s4, s5, s6⟩ := hSw; go_simp; try with_reducible rfl
      try simp only [zP, zN, zS, zT, zU]
      refine wpAnyH_ready (rs := [5]) (by kernel_rfl) (by simp) ?_
      refine AllReadyH.cons (o := ?_) (by simp only [zA, zB, zC] <;> exact rfl) (fun K hK => ?_) AllReadyH.nil
      go_simp
      go_at_call 66
      refine (HNC.out _).mono ?_
      rintro e w1 ⟨rfl, f1⟩
      have F := Lib.hid (HFR.out.then f1)
      have HS1 := Lib.hid (And.intro (f1.cell HS.out.1 (fun h => h)) (And.intro (f1.cell HS.out.2.1 (fun h => h)) (And.intro (f1.cell HS.out.2.2.1 (fun h => h)) (And.intro (f1.cell HS.out.2.2.2.1 (fun h => h)) (And.intro (f1.cell HS.out.2.2.2.2.1 (fun h => h)) (And.intro (f1.cell HS.out.2.2.2.2.2.1 (fun h => h)) (f1.cell HS.out.2.2.2.2.2.2 (fun h => h))))))))
      clear f1
      go_wp2_with fail
      refine hK.out _ _ HS1.out (fun hHeld => ?_)
      clear hK K
      try simp only [zP, zN, zS, zT, zU]
      refine tk 6 (v := ?_) hHeld (fun w hSw => ?_) ?_; rotate_left
      ·(try dsimp only at hSw); obtain ⟨s0, s1, s2, s3, s4, s5, s6⟩ := hSw; go_simp; try with_reducible rfl
      try simp only [zP, zN, zS, zT, zU]
      refine tk 7 (v := ?_) hHeld (fun w hSw => ?_) ?_; rotate_left
      ·(try dsimp only at hSw); obtain ⟨s0, s1, s2, s3, s4, s5, s6⟩ := hSw; go_simp; try with_reducible rfl
      try simp only [zP, zN, zS, zT, zU]
      refine tk 8 (v := ?_) hHeld (fun w hSw => ?_) ?_; rotate_left
      ·(try dsimp only at hSw); obtain ⟨s0, s1, s2, s3, s4, s5, s6⟩ := hSw; go_simp; try with_reducible rfl
      try simp only [zP, zN, zS, zT, zU]
      refine tk 9 (v := ?_) hHeld (fun w hSw => ?_) ?_; rotate_left
      ·(try dsimp only at hSw); obtain ⟨s0, s1, s2, s3, s4, s5, s6⟩ := hSw; go_simp; try with_reducible rfl
      try simp only [zP, zN, zS, zT, zU]
      refine tk 10 (v := ?_) hHeld (fun w hSw => ?_) ?_; rotate_left
      ·(try dsimp only at hSw); obtain ⟨s0, s1, s2, s3, s4, s5, s6⟩ := hSw; go_simp; try with_reducible rfl
      try simp only [zP, zN, zS, zT, zU]
      refine tk 11 (v := ?_) hHeld (fun w hSw => ?_) ?_; rotate_left
      ·(try dsimp only at hSw); obtain ⟨s0, s1, s2, s3, s4, s5, s6⟩ := hSw; go_simp; try with_reducible rfl
      try simp only [zP, zN, zS, zT, zU]
      refine tk 12 (v := ?_) hHeld (fun w hSw => ?_) ?_; rotate_left
      ·(try dsimp only at hSw); obtain ⟨s0, s1, s2, s3, s4, s5, s6⟩ := hSw; go_simp; try with_reducible rfl
      try simp only [zP, zN, zS, zT, zU]
      refine tk 13 (v := ?_) hHeld (fun w hSw => ?_) ?_; rotate_left
      ·(try dsimp only at hSw); obtain ⟨s0, s1, s2, s3, s4, s5, s6⟩ := hSw; go_simp; try with_reducible rfl
      try simp only [zP, zN, zS, zT, zU]
      refine tk 14 (v := ?_) hHeld (fun w hSw => ?_) ?_; rotate_left
      ·(try dsimp only at hSw); obtain ⟨s0, s1, s2, s3, s4, s5, s6⟩ := hSw; go_simp; try with_reducible rfl
      try simp only [zP, zN, zS, zT, zU]
      refine tk 15 (v := ?_) hHeld (fun w hSw => ?_) ?_; rotate_left
      ·(try dsimp only at hSw); obtain ⟨s0, s1, s2, s3, s4, s5, s6⟩ := hSw; go_simp; try with_reducible rfl
      try simp only [zP, zN, zS, zT, zU]
      refine tk 16 (v := ?_) hHeld (fun w hSw => ?_) ?_; rotate_left
      ·(try dsimp only at hSw); obtain ⟨s0, s1, s2, s3, s4, s5, s6⟩ := hSw; go_simp; try with_reducible rfl
      try simp only [zP, zN, zS, zT, zU]
      refine tk 17 (v := ?_) hHeld (fun w hSw => ?_) ?_; rotate_left
      ·(try dsimp only at hSw); obtain ⟨s0, s1, s2, s3, s4, s5, s6⟩ := hSw; go_simp; try with_reducible rfl
      try simp only [zP, zN, zS, zT, zU]
      refine tk 18 (v := ?_) hHeld (fun w hSw => ?_) ?_; rotate_left
      ·(try dsimp only at hSw); obtain ⟨s0, s1, s2, s3, s4, s5, s6⟩ := hSw; go_simp; try with_reducible rfl
      try simp only [zP, zN, zS, zT, zU]
      refine tk 19 (v := ?_) hHeld (fun w hSw => ?_) ?_; rotate_left
      ·(try dsimp only at hSw); obtain ⟨s0, s1, s2, s3, s4, s5, s6⟩ := hSw; go_simp; try with_reducible rfl
      try simp only [zP, zN, zS, zT, zU]
      refine tk 20 (v := ?_) hHeld (fun w hSw => ?_) ?_; rotate_left
      ·(try dsimp only at hSw); obtain ⟨s0, s1, s2, s3, s4, s5, s6⟩ := hSw; go_simp; try with_reducible rfl
      try simp only [zP, zN, zS, zT, zU]
      refine tk 21 (v := ?_) hHeld (fun w hSw => ?_) ?_; rotate_left
      ·(try dsimp only at hSw); obtain ⟨s0, s1, s2, s3, s4, s5, s6⟩ := hSw; go_simp; try with_reducible rfl
      try simp only [zP, zN, zS, zT, zU]
      refine tk 22 (v := ?_) hHeld (fun w hSw => ?_) ?_; rotate_left
      ·(try dsimp only at hSw); obtain ⟨s0, s1, s2, s3, s4, s5, s6⟩ := hSw; go_simp; try with_reducible rfl
      try simp only [zP, zN, zS, zT, zU]
      refine tk 23 (v := ?_) hHeld (fun w hSw => ?_) ?_; rotate_left
      ·(try dsimp only at hSw); obtain ⟨s0, s1, s2, s3, s4, s5, s6⟩ := hSw; go_simp; try with_reducible rfl
      try simp only [zP, zN, zS, zT, zU]
      refine tk 24 (v := ?_) hHeld (fun w hSw => ?_) ?_; rotate_left
      ·(try dsimp only at hSw); obtain ⟨s0, s1, s2, s3, s4, s5, s6⟩ := hSw; go_simp; try with_reducible rfl
      try simp only [zP, zN, zS, zT, zU]
      refine tk 25 (v := ?_) hHeld (fun w hSw => ?_) ?_; rotate_left
      ·(try dsimp only at hSw); obtain ⟨s0, s1, s2, s3, s4, s5, s6⟩ := hSw; go_simp; try with_reducible rfl
      try simp only [zP, zN, zS, zT, zU]
      refine tk 26 (v := ?_) hHeld (fun w hSw => ?_) ?_; rotate_left
      ·(try dsimp only at hSw); obtain ⟨s0, s1, s2, s3, s4, s5, s6⟩ := hSw; go_simp; try with_reducible rfl
      try simp only [zP, zN, zS, zT, zU]
      refine wpAnyH_done (by kernel_rfl) ?_ _
      go_wp2
      go_ret
      exact ⟨⟨false, rfl, fun h => absurd h HNO.out⟩, HFW.out.then F.out⟩
  ·have hke : k = n := by omega
   subst hke
   have q3 : ((k : Int) < (k : Int)) = False := eq_false (by omega)
   clear hlt hk
   go_wp2_with fail
   obtain ⟨W1, hW1⟩ : ∃ W1, W1 = wr := ⟨_, rfl⟩
   have HR1 := Lib.hid hR.out
   rw [← hW1] at HR1 ⊢
   clear hW1 hR b0 b1
   go_loopw [4] (fun i wr2 => ∃ j : Nat, j ≤ m ∧ i = .int .i64 j ∧ Hid (Fp Non w wr2 ∧ wr2.heap[w.heap.size]? = some (Obj.cells #[.slice ao k cap, .slice at' m capt] 25 (0, 0)))) (fun i _ => m - (RowKit.intOf i).toNat)
   case atStart => exact ⟨0, Nat.zero_le _, rfl, HR1⟩
   case round =>
    obtain ⟨j, hj, rfl, hR⟩ := hrel
    rename World => wr2
    obtain ⟨b0, b1⟩ := boxP2 hR.out.2
    by_cases hlt : j < m
    ·have hjl : j < s.turns.length := by rw [← HT.out.1]; exact hlt
     obtain ⟨g, o, cap', e, _, _, _, hcell⟩ := HT.out.2.1.at (by omega)
     injection e with e1 e2 e3
     subst e1 e3
     clear e2
     have q3 : ((j : Int) < (m : Int)) = True := eq_true (by omega)
     have q4 : (j < m) = True := eq_true hlt
     have hnd0 := (hcell j hjl).keep hR.out.1 (fun h => h)
     have hst := HT.out.2.2 _ (List.getElem_mem hjl)
     obtain ⟨x, hx⟩ : ∃ x, s.turns[j] = x := ⟨_, rfl⟩
     rw [hx] at hnd0 hst
     have c0 := hnd0.c0; have c1 := hnd0.c1
     unfold strV at c0
     have fb := fp_alloc wr2 (.cells #[.string (B x.dir), .int .i64 x.next] TU)
     have hbx := heap_alloc_new wr2 (.cells #[.string (B x.dir), .int .i64 x.next] TU)
     have fd : Fp Non (wr2.alloc (.cells #[.string (B x.dir), .int .i64 x.next] TU)) (wr2.alloc (.cells #[.string (B x.dir), .int .i64 x.next] TU)).drew := (Fp.refl Non _).drew
     have f0 := fb.then fd
     have hpv := fun h0 : 0 < j => ((hcell (j - 1) (by omega)).keep (hR.out.1.then f0) (fun h => h)).c0
     have hup := fun (h0 : 0 < j) (h : StR s) => h.upT h0 hjl (by omega)
     have htf := fun (h : StR s) => h.tfit _ (List.getElem_mem hjl)
     have hz : ∃ z, ∀ h : j - 1 < s.turns.length, (s.turns[j - 1]).dir = z := by
      by_cases h : j - 1 < s.turns.length
      ·exact ⟨(s.turns[j - 1]).dir, fun _ => rfl⟩
      ·exact ⟨[], fun h' => absurd h' h⟩
     obtain ⟨z, hz⟩ := hz
     rw [hx] at htf
     have hpv' : 0 < j → (wr2.alloc (.cells #[.string (B x.dir), .int .i64 x.next] TU)).drew.cell? ⟨g, o + (j - 1) * 2, none⟩ = some (.string (B z)) := fun h0 => by have := hpv h0; rw [hz] at this; exact this
     have hup' : 0 < j → StR s → Op.bytesLess z x.dir = true := fun h0 h => by have := hup h0 h; rw [hz, hx] at this; exact this
     have hri := fun w => rRight_g x.dir w (sz_of hst (by omega))
     obtain ⟨sp, hsp⟩ : ∃ b, (split x.dir).isSome = b := ⟨_, rfl⟩
     rw [hsp] at hri
     have hfit : StR s → sp = true ∧ 1 ≤ x.next ∧ x.next ≤ 10000 := fun h => by
      have := htf h
      unfold Pm.tfit at this
      rw [hsp, Bool.and_eq_true, decide_eq_true_eq] at this
      exact this
     obtain ⟨t0, t1⟩ := boxP2 (fd.heap hbx (fun h => h))
     have HRI := Lib.hid hri
     have HS0 := Lib.hid (And.intro (f0.cell b1 (fun h => h)) (And.intro t0 (And.intro t1 (And.intro hpv' (And.intro hup' hfit)))))
     have HFR := Lib.hid f0
     have HFW := Lib.hid hR.out.1
     have HBX := Lib.hid hR.out.2
     have HK := Lib.hid hlt
     clear hnd0 hst hx hjl fb hbx fd f0 hpv hup htf hz hpv' hup' hri hsp hfit t0 t1 hcell hj
     cases sp with
     | false =>
      have HNO := Lib.hid (show ¬ StR s from fun h => by have := (HS0.out.2.2.2.2.2 h).1; cases this)
      have HS := Lib.hid (And.intro HS0.out.1 (And.intro HS0.out.2.1 HS0.out.2.2.1))
      clear hlt
      go_wp2_with fail
      refine wp_region_held_drew (S := (fun w' => w'.cell? ⟨w.heap.size, 1, none⟩ = some (.slice (some ⟨g, o, none⟩) m capt) ∧ w'.cell? ⟨wr2.heap.size, 0, none⟩ = some (.string (B x.dir)) ∧ w'.cell? ⟨wr2.heap.size, 1, none⟩ = some (.int .i64 x.next))) (by kernel_rfl) ?_ (fun hHeld => ?_)
      ·exact HS.out
      refine tk 0 (v := ?_) hHeld (fun w hSw => ?_) ?_; rotate_left
      ·(try dsimp only at hSw); obtain ⟨s0, s1, s2⟩ := hSw; go_simp; try with_reducible rfl
      try simp only [zP, zN, zS, zT, zU]
      refine tk 1 (v := ?_) hHeld (fun w hSw => ?_) ?_; rotate_left
      ·(try dsimp only at hSw); obtain ⟨s0, s1, s2⟩ := hSw; go_simp; try with_reducible rfl
      try simp only [zP, zN, zS, zT, zU]
      refine wpAnyH_ready (rs := [2]) (by kernel_rfl) (by simp) ?_
      refine AllReadyH.cons (o := ?_) (by simp only [zA, zB, zC] <;> exact rfl) (fun K hK => ?_) AllReadyH.nil
      go_simp
      go_at_call 67
      refine (HRI.out _).mono ?_
      rintro e w1 ⟨rfl, f1⟩
      have F := Lib.hid (HFR.out.then f1.fp)
      have HS1 := Lib.hid (And.intro (f1.fp.cell HS.out.1 (fun h => h)) (And.intro (f1.fp.cell HS.out.2.1 (fun h => h)) (f1.fp.cell HS.out.2.2 (fun h => h))))
      clear f1
      go_wp2_with fail
      refine hK.out _ _ HS1.out (fun hHeld => ?_)
      clear hK K
      try simp only [zP, zN, zS, zT, zU]
      refine tk 3 (v := ?_) hHeld (fun w hSw => ?_) ?_; rotate_left
      ·(try dsimp only at hSw); obtain ⟨s0, s1, s2⟩ := hSw; go_simp; try with_reducible rfl
      try simp only [zP, zN, zS, zT, zU]
      refine tk 4 (v := ?_) hHeld (fun w hSw => ?_) ?_; rotate_left
      ·(try dsimp only at hSw); obtain ⟨s0, s1, s2⟩ := hSw; go_simp; try with_reducible rfl
      try simp only [zP, zN, zS, zT, zU]
      refine sk 5 hHeld ?_
      try simp only [zP, zN, zS, zT, zU]
      refine sk 6 hHeld ?_
      try simp only [zP, zN, zS, zT, zU]
      refine sk 7 hHeld ?_
      try simp only [zP, zN, zS, zT, zU]
      refine tk 8 (v := ?_) hHeld (fun w hSw => ?_) ?_; rotate_left
      ·(try dsimp only at hSw); obtain ⟨s0, s1, s2⟩ := hSw; go_simp; try with_reducible rfl
      try simp only [zP, zN, zS, zT, zU]
      refine tk 9 (v := ?_) hHeld (fun w hSw => ?_) ?_; rotate_left
      ·(try dsimp only at hSw); obtain ⟨s0, s1, s2⟩ := hSw; go_simp; try with_reducible rfl
      try simp only [zP, zN, zS, zT, zU]
      refine sk 10 hHeld ?_
      try simp only [zP, zN, zS, zT, zU]
      refine sk 11 hHeld ?_
      try simp only [zP, zN, zS, zT, zU]
      refine sk 12 hHeld ?_
      try simp only [zP, zN, zS, zT, zU]
      refine tk 13 (v := ?_) hHeld (fun w hSw => ?_) ?_; rotate_left
      ·(try dsimp only at hSw); obtain ⟨s0, s1, s2⟩ := hSw; go_simp; try with_reducible rfl
      try simp only [zP, zN, zS, zT, zU]
      refine tk 14 (v := ?_) hHeld (fun w hSw => ?_) ?_; rotate_left
      ·(try dsimp only at hSw); obtain ⟨s0, s1, s2⟩ := hSw; go_simp; try with_reducible rfl
      try simp only [zP, zN, zS, zT, zU]
      refine sk 15 hHeld ?_
      try simp only [zP, zN, zS, zT, zU]
      refine sk 16 hHeld ?_
      try simp only [zP, zN, zS, zT, zU]
      refine sk 17 hHeld ?_
      try simp only [zP, zN, zS, zT, zU]
      refine sk 18 hHeld ?_
      try simp only [zP, zN, zS, zT, zU]
      refine sk 19 hHeld ?_
      try simp only [zP, zN, zS, zT, zU]
      refine sk 20 hHeld ?_
      try simp only [zP, zN, zS, zT, zU]
      refine sk 21 hHeld ?_
      try simp only [zP, zN, zS, zT, zU]
      refine sk 22 hHeld ?_
      try simp only [zP, zN, zS, zT, zU]
      refine sk 23 hHeld ?_
      try simp only [zP, zN, zS, zT, zU]
      refine sk 24 hHeld ?_
      try simp only [zP, zN, zS, zT, zU]
      refine sk 25 hHeld ?_
      try simp only [zP, zN, zS, zT, zU]
      refine sk 26 hHeld ?_
      try simp only [zP, zN, zS, zT, zU]
      refine sk 27 hHeld ?_
      try simp only [zP, zN, zS, zT, zU]
      refine sk 28 hHeld ?_
      try simp only [zP, zN, zS, zT, zU]
      refine tk 29 (v := ?_) hHeld (fun w hSw => ?_) ?_; rotate_left
      ·(try dsimp only at hSw); obtain ⟨s0, s1, s2⟩ := hSw; go_simp; try with_reducible rfl
      try simp only [zP, zN, zS, zT, zU]
      refine wpAnyH_done (by kernel_rfl) ?_ _
      go_wp2
      go_ret
      exact ⟨⟨false, rfl, fun h => absurd h HNO.out⟩, HFW.out.then F.out⟩
     | true =>
      by_cases hlo : x.next < 1
      ·have HNO := Lib.hid (show ¬ StR s from fun h => by have := (HS0.out.2.2.2.2.2 h).2; omega)
       have q5 : (x.next < 1) = True := eq_true hlo
       have HS := Lib.hid (And.intro HS0.out.1 (And.intro HS0.out.2.1 HS0.out.2.2.1))
       clear hlt hlo
       go_wp2_with fail
       refine wp_region_held_drew (S := (fun w' => w'.cell? ⟨w.heap.size, 1, none⟩ = some (.slice (some ⟨g, o, none⟩) m capt) ∧ w'.cell? ⟨wr2.heap.size, 0, none⟩ = some (.string (B x.dir)) ∧ w'.cell? ⟨wr2.heap.size, 1, none⟩ = some (.int .i64 x.next))) (by kernel_rfl) ?_ (fun hHeld => ?_)
       ·exact HS.out
       refine tk 0 (v := ?_) hHeld (fun w hSw => ?_) ?_; rotate_left
       ·(try dsimp only at hSw); obtain ⟨s0, s1, s2⟩ := hSw; go_simp; try with_reducible rfl
       try simp only [zP, zN, zS, zT, zU]
       refine tk 1 (v := ?_) hHeld (fun w hSw => ?_) ?_; rotate_left
       ·(try dsimp only at hSw); obtain ⟨s0, s1, s2⟩ := hSw; go_simp; try with_reducible rfl
       try simp only [zP, zN, zS, zT, zU]
       refine wpAnyH_ready (rs := [2]) (by kernel_rfl) (by simp) ?_
       refine AllReadyH.cons (o := ?_) (by simp only [zA, zB, zC] <;> exact rfl) (fun K hK => ?_) AllReadyH.nil
       go_simp
       go_at_call 67
       refine (HRI.out _).mono ?_
       rintro e w1 ⟨rfl, f1⟩
       have F := Lib.hid (HFR.out.then f1.fp)
       have HS1 := Lib.hid (And.intro (f1.fp.cell HS.out.1 (fun h => h)) (And.intro (f1.fp.cell HS.out.2.1 (fun h => h)) (f1.fp.cell HS.out.2.2 (fun h => h))))
       clear f1
       go_wp2_with fail
       refine hK.out _ _ HS1.out (fun hHeld => ?_)
       clear hK K
       try simp only [zP, zN, zS, zT, zU]
       refine tk 3 (v := ?_) hHeld (fun w hSw => ?_) ?_; rotate_left
       ·(try dsimp only at hSw); obtain ⟨s0, s1, s2⟩ := hSw; go_simp; try with_reducible rfl
       try simp only [zP, zN, zS, zT, zU]
       refine tk 4 (v := ?_) hHeld (fun w hSw => ?_) ?_; rotate_left
       ·(try dsimp only at hSw); obtain ⟨s0, s1, s2⟩ := hSw; go_simp; try with_reducible rfl
       try simp only [zP, zN, zS, zT, zU]
       refine tk 5 (v := ?_) hHeld (fun w hSw => ?_) ?_; rotate_left
       ·(try dsimp only at hSw); obtain ⟨s0, s1, s2⟩ := hSw; go_simp; try with_reducible rfl
       try simp only [zP, zN, zS, zT, zU]
       refine tk 6 (v := ?_) hHeld (fun w hSw => ?_) ?_; rotate_left
       ·(try dsimp only at hSw); obtain ⟨s0, s1, s2⟩ := hSw; go_simp; try with_reducible rfl
       try simp only [zP, zN, zS, zT, zU]
       refine tk 7 (v := ?_) hHeld (fun w hSw => ?_) ?_; rotate_left
       ·(try dsimp only at hSw); obtain ⟨s0, s1, s2⟩ := hSw; go_simp; try with_reducible rfl
       try simp only [zP, zN, zS, zT, zU]
       refine tk 8 (v := ?_) hHeld (fun w hSw => ?_) ?_; rotate_left
       ·(try dsimp only at hSw); obtain ⟨s0, s1, s2⟩ := hSw; go_simp; try with_reducible rfl
       try simp only [zP, zN, zS, zT, zU]
       refine tk 9 (v := ?_) hHeld (fun w hSw => ?_) ?_; rotate_left
       ·(try dsimp only at hSw); obtain ⟨s0, s1, s2⟩ := hSw; go_simp; try with_reducible rfl
       try simp only [zP, zN, zS, zT, zU]
       refine sk 10 hHeld ?_
       try simp only [zP, zN, zS, zT, zU]
       refine sk 11 hHeld ?_
       try simp only [zP, zN, zS, zT, zU]
       refine sk 12 hHeld ?_
       try simp only [zP, zN, zS, zT, zU]
       refine tk 13 (v := ?_) hHeld (fun w hSw => ?_) ?_; rotate_left
       ·(try dsimp only at hSw); obtain ⟨s0, s1, s2⟩ := hSw; go_simp; try with_reducible rfl
       try simp only [zP, zN, zS, zT, zU]
       refine tk 14 (v := ?_) hHeld (fun w hSw => ?_) ?_; rotate_left
       ·(try dsimp only at hSw); obtain ⟨s0, s1, s2⟩ := hSw; go_simp; try with_reducible rfl
       try simp only [zP, zN, zS, zT, zU]
       refine sk 15 hHeld ?_
       try simp only [zP, zN, zS, zT, zU]
       refine sk 16 hHeld ?_
       try simp only [zP, zN, zS, zT, zU]
       refine sk 17 hHeld ?_
       try simp only [zP, zN, zS, zT, zU]
       refine sk 18 hHeld ?_
       try simp only [zP, zN, zS, zT, zU]
       refine sk 19 hHeld ?_
       try simp only [zP, zN, zS, zT, zU]
       refine sk 20 hHeld ?_
       try simp only [zP, zN, zS, zT, zU]
       refine sk 21 hHeld ?_
       try simp only [zP, zN, zS, zT, zU]
       refine sk 22 hHeld ?_
       try simp only [zP, zN, zS, zT, zU]
       refine sk 23 hHeld ?_
       try simp only [zP, zN, zS, zT, zU]
       refine sk 24 hHeld ?_
       try simp only [zP, zN, zS, zT, zU]
       refine sk 25 hHeld ?_
       try simp only [zP, zN, zS, zT, zU]
       refine sk 26 hHeld ?_
       try simp only [zP, zN, zS, zT, zU]
       refine sk 27 hHeld ?_
       try simp only [zP, zN, zS, zT, zU]
       refine sk 28 hHeld ?_
       try simp only [zP, zN, zS, zT, zU]
       refine tk 29 (v := ?_) hHeld (fun w hSw => ?_) ?_; rotate_left
       ·(try dsimp only at hSw); obtain ⟨s0, s1, s2⟩ := hSw; go_simp; try with_reducible rfl
       try simp only [zP, zN, zS, zT, zU]
       refine wpAnyH_done (by kernel_rfl) ?_ _
       go_wp2
       go_ret
       exact ⟨⟨false, rfl, fun h => absurd h HNO.out⟩, HFW.out.then F.out⟩
      have q5 : (x.next < 1) = False := eq_false hlo
      by_cases hhi : 10000 < x.next
      ·have HNO := Lib.hid (show ¬ StR s from fun h => by have := (HS0.out.2.2.2.2.2 h).2; omega)
       have q6 : (10000 < x.next) = True := eq_true hhi
       have HS := Lib.hid (And.intro HS0.out.1 (And.intro HS0.out.2.1 HS0.out.2.2.1))
       clear hlt hlo hhi
       go_wp2_with fail
       refine wp_region_held_drew (S := (fun w' => w'.cell? ⟨w.heap.size, 1, none⟩ = some (.slice (some ⟨g, o, none⟩) m capt) ∧ w'.cell? ⟨wr2.heap.size, 0, none⟩ = some (.string (B x.dir)) ∧ w'.cell? ⟨wr2.heap.size, 1, none⟩ = some (.int .i64 x.next))) (by kernel_rfl) ?_ (fun hHeld => ?_)
       ·exact HS.out
       refine tk 0 (v := ?_) hHeld (fun w hSw => ?_) ?_; rotate_left
       ·(try dsimp only at hSw); obtain ⟨s0, s1, s2⟩ := hSw; go_simp; try with_reducible rfl
       try simp only [zP, zN, zS, zT, zU]
       refine tk 1 (v := ?_) hHeld (fun w hSw => ?_) ?_; rotate_left
       ·(try dsimp only at hSw); obtain ⟨s0, s1, s2⟩ := hSw; go_simp; try with_reducible rfl
       try simp only [zP, zN, zS, zT, zU]
       refine wpAnyH_ready (rs := [2]) (by kernel_rfl) (by simp) ?_
       refine AllReadyH.cons (o := ?_) (by simp only [zA, zB, zC] <;> exact rfl) (fun K hK => ?_) AllReadyH.nil
       go_simp
       go_at_call 67
       refine (HRI.out _).mono ?_
       rintro e w1 ⟨rfl, f1⟩
       have F := Lib.hid (HFR.out.then f1.fp)
       have HS1 := Lib.hid (And.intro (f1.fp.cell HS.out.1 (fun h => h)) (And.intro (f1.fp.cell HS.out.2.1 (fun h => h)) (f1.fp.cell HS.out.2.2 (fun h => h))))
       clear f1
       go_wp2_with fail
       refine hK.out _ _ HS1.out (fun hHeld => ?_)
       clear hK K
       try simp only [zP, zN, zS, zT, zU]
       refine tk 3 (v := ?_) hHeld (fun w hSw => ?_) ?_; rotate_left
       ·(try dsimp only at hSw); obtain ⟨s0, s1, s2⟩ := hSw; go_simp; try with_reducible rfl
       try simp only [zP, zN, zS, zT, zU]
       refine tk 4 (v := ?_) hHeld (fun w hSw => ?_) ?_; rotate_left
       ·(try dsimp only at hSw); obtain ⟨s0, s1, s2⟩ := hSw; go_simp; try with_reducible rfl
       try simp only [zP, zN, zS, zT, zU]
       refine tk 5 (v := ?_) hHeld (fun w hSw => ?_) ?_; rotate_left
       ·(try dsimp only at hSw); obtain ⟨s0, s1, s2⟩ := hSw; go_simp; try with_reducible rfl
       try simp only [zP, zN, zS, zT, zU]
       refine tk 6 (v := ?_) hHeld (fun w hSw => ?_) ?_; rotate_left
       ·(try dsimp only at hSw); obtain ⟨s0, s1, s2⟩ := hSw; go_simp; try with_reducible rfl
       try simp only [zP, zN, zS, zT, zU]
       refine tk 7 (v := ?_) hHeld (fun w hSw => ?_) ?_; rotate_left
       ·(try dsimp only at hSw); obtain ⟨s0, s1, s2⟩ := hSw; go_simp; try with_reducible rfl
       try simp only [zP, zN, zS, zT, zU]
       refine tk 8 (v := ?_) hHeld (fun w hSw => ?_) ?_; rotate_left
       ·(try dsimp only at hSw); obtain ⟨s0, s1, s2⟩ := hSw; go_simp; try with_reducible rfl
       try simp only [zP, zN, zS, zT, zU]
       refine tk 9 (v := ?_) hHeld (fun w hSw => ?_) ?_; rotate_left
       ·(try dsimp only at hSw); obtain ⟨s0, s1, s2⟩ := hSw; go_simp; try with_reducible rfl
       try simp only [zP, zN, zS, zT, zU]
       refine tk 10 (v := ?_) hHeld (fun w hSw => ?_) ?_; rotate_left
       ·(try dsimp only at hSw); obtain ⟨s0, s1, s2⟩ := hSw; go_simp; try with_reducible rfl
       try simp only [zP, zN, zS, zT, zU]
       refine tk 11 (v := ?_) hHeld (fun w hSw => ?_) ?_; rotate_left
       ·(try dsimp only at hSw); obtain ⟨s0, s1, s2⟩ := hSw; go_simp; try with_reducible rfl
       try simp only [zP, zN, zS, zT, zU]
       refine tk 12 (v := ?_) hHeld (fun w hSw => ?_) ?_; rotate_left
       ·(try dsimp only at hSw); obtain ⟨s0, s1, s2⟩ := hSw; go_simp; try with_reducible rfl
       try simp only [zP, zN, zS, zT, zU]
       refine tk 13 (v := ?_) hHeld (fun w hSw => ?_) ?_; rotate_left
       ·(try dsimp only at hSw); obtain ⟨s0, s1, s2⟩ := hSw; go_simp; try with_reducible rfl
       try simp only [zP, zN, zS, zT, zU]
       refine tk 14 (v := ?_) hHeld (fun w hSw => ?_) ?_; rotate_left
       ·(try dsimp only at hSw); obtain ⟨s0, s1, s2⟩ := hSw; go_simp; try with_reducible rfl
       try simp only [zP, zN, zS, zT, zU]
       refine sk 15 hHeld ?_
       try simp only [zP, zN, zS, zT, zU]
       refine sk 16 hHeld ?_
       try simp only [zP, zN, zS, zT, zU]
       refine sk 17 hHeld ?_
       try simp only [zP, zN, zS, zT, zU]
       refine sk 18 hHeld ?_
       try simp only [zP, zN, zS, zT, zU]
       refine sk 19 hHeld ?_
       try simp only [zP, zN, zS, zT, zU]
       refine sk 20 hHeld ?_
       try simp only [zP, zN, zS, zT, zU]
       refine sk 21 hHeld ?_
       try simp only [zP, zN, zS, zT, zU]
       refine sk 22 hHeld ?_
       try simp only [zP, zN, zS, zT, zU]
       refine sk 23 hHeld ?_
       try simp only [zP, zN, zS, zT, zU]
       refine sk 24 hHeld ?_
       try simp only [zP, zN, zS, zT, zU]
       refine sk 25 hHeld ?_
       try simp only [zP, zN, zS, zT, zU]
       refine sk 26 hHeld ?_
       try simp only [zP, zN, zS, zT, zU]
       refine sk 27 hHeld ?_
       try simp only [zP, zN, zS, zT, zU]
       refine sk 28 hHeld ?_
       try simp only [zP, zN, zS, zT, zU]
       refine tk 29 (v := ?_) hHeld (fun w hSw => ?_) ?_; rotate_left
       ·(try dsimp only at hSw); obtain ⟨s0, s1, s2⟩ := hSw; go_simp; try with_reducible rfl
       try simp only [zP, zN, zS, zT, zU]
       refine wpAnyH_done (by kernel_rfl) ?_ _
       go_wp2
       go_ret
       exact ⟨⟨false, rfl, fun h => absurd h HNO.out⟩, HFW.out.then F.out⟩
      have q6 : (10000 < x.next) = False := eq_false hhi
      clear hlo hhi
      rcases Nat.eq_zero_or_pos j with hj0 | hj0
      ·subst hj0
       have HS := Lib.hid (And.intro HS0.out.1 (And.intro HS0.out.2.1 HS0.out.2.2.1))
       simp only [Nat.zero_mul, Nat.add_zero] at c0 c1
       clear hlt
       go_wp2_with fail
       refine wp_region_held_drew (S := (fun w' => w'.cell? ⟨w.heap.size, 1, none⟩ = some (.slice (some ⟨g, o, none⟩) m capt) ∧ w'.cell? ⟨wr2.heap.size, 0, none⟩ = some (.string (B x.dir)) ∧ w'.cell? ⟨wr2.heap.size, 1, none⟩ = some (.int .i64 x.next))) (by kernel_rfl) ?_ (fun hHeld => ?_)
       ·exact HS.out
       refine tk 0 (v := ?_) hHeld (fun w hSw => ?_) ?_; rotate_left
       ·(try dsimp only at hSw); obtain ⟨s0, s1, s2⟩ := hSw; go_simp; try with_reducible rfl
       try simp only [zP, zN, zS, zT, zU]
       refine tk 1 (v := ?_) hHeld (fun w hSw => ?_) ?_; rotate_left
       ·(try dsimp only at hSw); obtain ⟨s0, s1, s2⟩ := hSw; go_simp; try with_reducible rfl
       try simp only [zP, zN, zS, zT, zU]
       refine wpAnyH_ready (rs := [2]) (by kernel_rfl) (by simp) ?_
       refine AllReadyH.cons (o := ?_) (by simp only [zA, zB, zC] <;> exact rfl) (fun K hK => ?_) AllReadyH.nil
       go_simp
       go_at_call 67
       refine (HRI.out _).mono ?_
       rintro e w1 ⟨rfl, f1⟩
       have F := Lib.hid (HFR.out.then f1.fp)
       have HS1 := Lib.hid (And.intro (f1.fp.cell HS.out.1 (fun h => h)) (And.intro (f1.fp.cell HS.out.2.1 (fun h => h)) (f1.fp.cell HS.out.2.2 (fun h => h))))
       clear f1
       go_wp2_with fail
       refine hK.out _ _ HS1.out (fun hHeld => ?_)
       clear hK K
       try simp only [zP, zN, zS, zT, zU]
       refine tk 3 (v := ?_) hHeld (fun w hSw => ?_) ?_; rotate_left
       ·(try dsimp only at hSw); obtain ⟨s0, s1, s2⟩ := hSw; go_simp; try with_reducible rfl
       try simp only [zP, zN, zS, zT, zU]
       refine tk 4 (v := ?_) hHeld (fun w hSw => ?_) ?_; rotate_left
       ·(try dsimp only at hSw); obtain ⟨s0, s1, s2⟩ := hSw; go_simp; try with_reducible rfl
       try simp only [zP, zN, zS, zT, zU]
       refine tk 5 (v := ?_) hHeld (fun w hSw => ?_) ?_; rotate_left
       ·(try dsimp only at hSw); obtain ⟨s0, s1, s2⟩ := hSw; go_simp; try with_reducible rfl
       try simp only [zP, zN, zS, zT, zU]
       refine tk 6 (v := ?_) hHeld (fun w hSw => ?_) ?_; rotate_left
       ·(try dsimp only at hSw); obtain ⟨s0, s1, s2⟩ := hSw; go_simp; try with_reducible rfl
       try simp only [zP, zN, zS, zT, zU]
       refine tk 7 (v := ?_) hHeld (fun w hSw => ?_) ?_; rotate_left
       ·(try dsimp only at hSw); obtain ⟨s0, s1, s2⟩ := hSw; go_simp; try with_reducible rfl
       try simp only [zP, zN, zS, zT, zU]
       refine tk 8 (v := ?_) hHeld (fun w hSw => ?_) ?_; rotate_left
       ·(try dsimp only at hSw); obtain ⟨s0, s1, s2⟩ := hSw; go_simp; try with_reducible rfl
       try simp only [zP, zN, zS, zT, zU]
       refine tk 9 (v := ?_) hHeld (fun w hSw => ?_) ?_; rotate_left
       ·(try dsimp only at hSw); obtain ⟨s0, s1, s2⟩ := hSw; go_simp; try with_reducible rfl
       try simp only [zP, zN, zS, zT, zU]
       refine tk 10 (v := ?_) hHeld (fun w hSw => ?_) ?_; rotate_left
       ·(try dsimp only at hSw); obtain ⟨s0, s1, s2⟩ := hSw; go_simp; try with_reducible rfl
       try simp only [zP, zN, zS, zT, zU]
       refine tk 11 (v := ?_) hHeld (fun w hSw => ?_) ?_; rotate_left
       ·(try dsimp only at hSw); obtain ⟨s0, s1, s2⟩ := hSw; go_simp; try with_reducible rfl
       try simp only [zP, zN, zS, zT, zU]
       refine tk 12 (v := ?_) hHeld (fun w hSw => ?_) ?_; rotate_left
       ·(try dsimp only at hSw); obtain ⟨s0, s1, s2⟩ := hSw; go_simp; try with_reducible rfl
       try simp only [zP, zN, zS, zT, zU]
       refine tk 13 (v := ?_) hHeld (fun w hSw => ?_) ?_; rotate_left
       ·(try dsimp only at hSw); obtain ⟨s0, s1, s2⟩ := hSw; go_simp; try with_reducible rfl
       try simp only [zP, zN, zS, zT, zU]
       refine tk 14 (v := ?_) hHeld (fun w hSw => ?_) ?_; rotate_left
       ·(try dsimp only at hSw); obtain ⟨s0, s1, s2⟩ := hSw; go_simp; try with_reducible rfl
       try simp only [zP, zN, zS, zT, zU]
       refine tk 15 (v := ?_) hHeld (fun w hSw => ?_) ?_; rotate_left
       ·(try dsimp only at hSw); obtain ⟨s0, s1, s2⟩ := hSw; go_simp; try with_reducible rfl
       try simp only [zP, zN, zS, zT, zU]
       refine tk 16 (v := ?_) hHeld (fun w hSw => ?_) ?_; rotate_left
       ·(try dsimp only at hSw); obtain ⟨s0, s1, s2⟩ := hSw; go_simp; try with_reducible rfl
       try simp only [zP, zN, zS, zT, zU]
       refine tk 17 (v := ?_) hHeld (fun w hSw => ?_) ?_; rotate_left
       ·(try dsimp only at hSw); obtain ⟨s0, s1, s2⟩ := hSw; go_simp; try with_reducible rfl
       try simp only [zP, zN, zS, zT, zU]
       refine sk 18 hHeld ?_
       try simp only [zP, zN, zS, zT, zU]
       refine sk 19 hHeld ?_
       try simp only [zP, zN, zS, zT, zU]
       refine sk 20 hHeld ?_
       try simp only [zP, zN, zS, zT, zU]
       refine sk 21 hHeld ?_
       try simp only [zP, zN, zS, zT, zU]
       refine sk 22 hHeld ?_
       try simp only [zP, zN, zS, zT, zU]
       refine sk 23 hHeld ?_
       try simp only [zP, zN, zS, zT, zU]
       refine sk 24 hHeld ?_
       try simp only [zP, zN, zS, zT, zU]
       refine sk 25 hHeld ?_
       try simp only [zP, zN, zS, zT, zU]
       refine sk 26 hHeld ?_
       try simp only [zP, zN, zS, zT, zU]
       refine sk 27 hHeld ?_
       try simp only [zP, zN, zS, zT, zU]
       refine tk 28 (v := ?_) hHeld (fun w hSw => ?_) ?_; rotate_left
       ·(try dsimp only at hSw); obtain ⟨s0, s1, s2⟩ := hSw; go_simp; try with_reducible rfl
       try simp only [zP, zN, zS, zT, zU]
       refine tk 29 (v := ?_) hHeld (fun w hSw => ?_) ?_; rotate_left
       ·(try dsimp only at hSw); obtain ⟨s0, s1, s2⟩ := hSw; go_simp; try with_reducible rfl
       try simp only [zP, zN, zS, zT, zU]
       refine wpAnyH_done (by kernel_rfl) ?_ _
       have hM : Hid (Fp Non w w1 ∧ w1.heap[w.heap.size]? = some (Obj.cells #[.slice ao k cap, .slice (some ⟨g, o, none⟩) m capt] 25 (0, 0))) := ⟨HFW.out.then F.out, F.out.heap HBX.out (fun h => h)⟩
       have hkn := HK.out
       go_wp2
       go_roundw
       case rel => exact ⟨0 + 1, by have := HK.out; omega, by go_num, hM⟩
       case measure => have := HK.out; simp [RowKit.intOf]; omega
      ·have HS := Lib.hid (And.intro HS0.out.1 (And.intro HS0.out.2.1 (And.intro HS0.out.2.2.1 (HS0.out.2.2.2.1 hj0))))
       have wk : IntKind.i64.wrap ((j : Int) - 1) = ((j - 1 : Nat) : Int) := by rw [IntKind.wrap_i64]; omega
       have qz : ((0 : Int) < (j : Int)) = True := eq_true (by omega)
       have qz2 : (0 < j) = True := eq_true hj0
       have qn : (((j - 1 : Nat) : Int) < (m : Int)) = True := eq_true (by omega)
       have qn2 : (j - 1 < m) = True := eq_true (by omega)
       have HK0 := Lib.hid hj0
       by_cases hle : Op.bytesLess z x.dir = true
       ·clear hlt hj0
        go_wp2_with fail
        refine wp_region_held_drew (S := (fun w' => w'.cell? ⟨w.heap.size, 1, none⟩ = some (.slice (some ⟨g, o, none⟩) m capt) ∧ w'.cell? ⟨wr2.heap.size, 0, none⟩ = some (.string (B x.dir)) ∧ w'.cell? ⟨wr2.heap.size, 1, none⟩ = some (.int .i64 x.next) ∧ w'.cell? ⟨g, o + (j - 1) * 2, none⟩ = some (.string (B z)))) (by kernel_rfl) ?_ (fun hHeld => ?_)
        ·exact HS.out
        refine tk 0 (v := ?_) hHeld (fun w hSw => ?_) ?_; rotate_left
        ·(try dsimp only at hSw); obtain ⟨s0, s1, s2, s3⟩ := hSw; go_simp; try with_reducible rfl
        try simp only [zP, zN, zS, zT, zU]
        refine tk 1 (v := ?_) hHeld (fun w hSw => ?_) ?_; rotate_left
        ·(try dsimp only at hSw); obtain ⟨s0, s1, s2, s3⟩ := hSw; go_simp; try with_reducible rfl
        try simp only [zP, zN, zS, zT, zU]
        refine wpAnyH_ready (rs := [2]) (by kernel_rfl) (by simp) ?_
        refine AllReadyH.cons (o := ?_) (by simp only [zA, zB, zC] <;> exact rfl) (fun K hK => ?_) AllReadyH.nil
        go_simp
        go_at_call 67
        refine (HRI.out _).mono ?_
        rintro e w1 ⟨rfl, f1⟩
        have F := Lib.hid (HFR.out.then f1.fp)
        have HS1 := Lib.hid (And.intro (f1.fp.cell HS.out.1 (fun h => h)) (And.intro (f1.fp.cell HS.out.2.1 (fun h => h)) (And.intro (f1.fp.cell HS.out.2.2.1 (fun h => h)) (f1.fp.cell HS.out.2.2.2 (fun h => h)))))
        clear f1
        go_wp2_with fail
        refine hK.out _ _ HS1.out (fun hHeld => ?_)
        clear hK K
        try simp only [zP, zN, zS, zT, zU]
        refine tk 3 (v := ?_) hHeld (fun w hSw => ?_) ?_; rotate_left
        ·(try dsimp only at hSw); obtain ⟨s0, s1, s2, s3⟩ := hSw; go_simp; try with_reducible rfl
        try simp only [zP, zN, zS, zT, zU]
        refine tk 4 (v := ?_) hHeld (fun w hSw => ?_) ?_; rotate_left
        ·(try dsimp only at hSw); obtain ⟨s0, s1, s2, s3⟩ := hSw; go_simp; try with_reducible rfl
        try simp only [zP, zN, zS, zT, zU]
        refine tk 5 (v := ?_) hHeld (fun w hSw => ?_) ?_; rotate_left
        ·(try dsimp only at hSw); obtain ⟨s0, s1, s2, s3⟩ := hSw; go_simp; try with_reducible rfl
        try simp only [zP, zN, zS, zT, zU]
        refine tk 6 (v := ?_) hHeld (fun w hSw => ?_) ?_; rotate_left
        ·(try dsimp only at hSw); obtain ⟨s0, s1, s2, s3⟩ := hSw; go_simp; try with_reducible rfl
        try simp only [zP, zN, zS, zT, zU]
        refine tk 7 (v := ?_) hHeld (fun w hSw => ?_) ?_; rotate_left
        ·(try dsimp only at hSw); obtain ⟨s0, s1, s2, s3⟩ := hSw; go_simp; try with_reducible rfl
        try simp only [zP, zN, zS, zT, zU]
        refine tk 8 (v := ?_) hHeld (fun w hSw => ?_) ?_; rotate_left
        ·(try dsimp only at hSw); obtain ⟨s0, s1, s2, s3⟩ := hSw; go_simp; try with_reducible rfl
        try simp only [zP, zN, zS, zT, zU]
        refine tk 9 (v := ?_) hHeld (fun w hSw => ?_) ?_; rotate_left
        ·(try dsimp only at hSw); obtain ⟨s0, s1, s2, s3⟩ := hSw; go_simp; try with_reducible rfl
        try simp only [zP, zN, zS, zT, zU]
        refine tk 10 (v := ?_) hHeld (fun w hSw => ?_) ?_; rotate_left
        ·(try dsimp only at hSw); obtain ⟨s0, s1, s2, s3⟩ := hSw; go_simp; try with_reducible rfl
        try simp only [zP, zN, zS, zT, zU]
        refine tk 11 (v := ?_) hHeld (fun w hSw => ?_) ?_; rotate_left
        ·(try dsimp only at hSw); obtain ⟨s0, s1, s2, s3⟩ := hSw; go_simp; try with_reducible rfl
        try simp only [zP, zN, zS, zT, zU]
        refine tk 12 (v := ?_) hHeld (fun w hSw => ?_) ?_; rotate_left
        ·(try dsimp only at hSw); obtain ⟨s0, s1, s2, s3⟩ := hSw; go_simp; try with_reducible rfl
        try simp only [zP, zN, zS, zT, zU]
        refine tk 13 (v := ?_) hHeld (fun w hSw => ?_) ?_; rotate_left
        ·(try dsimp only at hSw); obtain ⟨s0, s1, s2, s3⟩ := hSw; go_simp; try with_reducible rfl
        try simp only [zP, zN, zS, zT, zU]
        refine tk 14 (v := ?_) hHeld (fun w hSw => ?_) ?_; rotate_left
        ·(try dsimp only at hSw); obtain ⟨s0, s1, s2, s3⟩ := hSw; go_simp; try with_reducible rfl
        try simp only [zP, zN, zS, zT, zU]
        refine tk 15 (v := ?_) hHeld (fun w hSw => ?_) ?_; rotate_left
        ·(try dsimp only at hSw); obtain ⟨s0, s1, s2, s3⟩ := hSw; go_simp; try with_reducible rfl
        try simp only [zP, zN, zS, zT, zU]
        refine tk 16 (v := ?_) hHeld (fun w hSw => ?_) ?_; rotate_left
        ·(try dsimp only at hSw); obtain ⟨s0, s1, s2, s3⟩ := hSw; go_simp; try with_reducible rfl
        try simp only [zP, zN, zS, zT, zU]
        refine tk 17 (v := ?_) hHeld (fun w hSw => ?_) ?_; rotate_left
        ·(try dsimp only at hSw); obtain ⟨s0, s1, s2, s3⟩ := hSw; go_simp; try with_reducible rfl
        try simp only [zP, zN, zS, zT, zU]
        refine tk 18 (v := ?_) hHeld (fun w hSw => ?_) ?_; rotate_left
        ·(try dsimp only at hSw); obtain ⟨s0, s1, s2, s3⟩ := hSw; go_simp; try with_reducible rfl
        try simp only [zP, zN, zS, zT, zU]
        refine tk 19 (v := ?_) hHeld (fun w hSw => ?_) ?_; rotate_left
        ·(try dsimp only at hSw); obtain ⟨s0, s1, s2, s3⟩ := hSw; go_simp; try with_reducible rfl
        try simp only [zP, zN, zS, zT, zU]
        refine tk 20 (v := ?_) hHeld (fun w hSw => ?_) ?_; rotate_left
        ·(try dsimp only at hSw); obtain ⟨s0, s1, s2, s3⟩ := hSw; go_simp; try with_reducible rfl
        try simp only [zP, zN, zS, zT, zU]
        refine tk 21 (v := ?_) hHeld (fun w hSw => ?_) ?_; rotate_left
        ·(try dsimp only at hSw); obtain ⟨s0, s1, s2, s3⟩ := hSw; go_simp; try with_reducible rfl
        try simp only [zP, zN, zS, zT, zU]
        refine tk 22 (v := ?_) hHeld (fun w hSw => ?_) ?_; rotate_left
        ·(try dsimp only at hSw); obtain ⟨s0, s1, s2, s3⟩ := hSw; go_simp; try with_reducible rfl
        try simp only [zP, zN, zS, zT, zU]
        refine tk 23 (v := ?_) hHeld (fun w hSw => ?_) ?_; rotate_left
        ·(try dsimp only at hSw); obtain ⟨s0, s1, s2, s3⟩ := hSw; go_simp; try with_reducible rfl
        try simp only [zP, zN, zS, zT, zU]
        refine tk 24 (v := ?_) hHeld (fun w hSw => ?_) ?_; rotate_left
        ·(try dsimp only at hSw); obtain ⟨s0, s1, s2, s3⟩ := hSw; go_simp; try with_reducible rfl
        try simp only [zP, zN, zS, zT, zU]
        refine tk 25 (v := ?_) hHeld (fun w hSw => ?_) ?_; rotate_left
        ·(try dsimp only at hSw); obtain ⟨s0, s1, s2, s3⟩ := hSw; go_simp; try with_reducible rfl
        try simp only [zP, zN, zS, zT, zU]
        refine tk 26 (v := ?_) hHeld (fun w hSw => ?_) ?_; rotate_left
        ·(try dsimp only at hSw); obtain ⟨s0, s1, s2, s3⟩ := hSw; go_simp; try with_reducible rfl
        try simp only [zP, zN, zS, zT, zU]
        refine tk 27 (v := ?_) hHeld (fun w hSw => ?_) ?_; rotate_left
        ·(try dsimp only at hSw); obtain ⟨s0, s1, s2, s3⟩ := hSw; go_simp; try with_reducible rfl
        try simp only [zP, zN, zS, zT, zU]
        refine tk 28 (v := ?_) hHeld (fun w hSw => ?_) ?_; rotate_left
        ·(try dsimp only at hSw); obtain ⟨s0, s1, s2, s3⟩ := hSw; go_simp; try with_reducible rfl
        try simp only [zP, zN, zS, zT, zU]
        refine tk 29 (v := ?_) hHeld (fun w hSw => ?_) ?_; rotate_left
        ·(try dsimp only at hSw); obtain ⟨s0, s1, s2, s3⟩ := hSw; go_simp; try with_reducible rfl
        try simp only [zP, zN, zS, zT, zU]
        refine wpAnyH_done (by kernel_rfl) ?_ _
        have hM : Hid (Fp Non w w1 ∧ w1.heap[w.heap.size]? = some (Obj.cells #[.slice ao k cap, .slice (some ⟨g, o, none⟩) m capt] 25 (0, 0))) := ⟨HFW.out.then F.out, F.out.heap HBX.out (fun h => h)⟩
        have hkn := HK.out
        go_wp2
        go_roundw
        case rel => exact ⟨j + 1, by have := HK.out; omega, by go_num, hM⟩
        case measure => have := HK.out; simp [RowKit.intOf]; omega
       ·have hle' : Op.bytesLess z x.dir = false := by simpa using hle
        have HNO := Lib.hid (show ¬ StR s from fun h => hle (HS0.out.2.2.2.2.1 HK0.out h))
        clear hlt hj0 hle
        go_wp2_with fail
        refine wp_region_held_drew (S := (fun w' => w'.cell? ⟨w.heap.size, 1, none⟩ = some (.slice (some ⟨g, o, none⟩) m capt) ∧ w'.cell? ⟨wr2.heap.size, 0, none⟩ = some (.string (B x.dir)) ∧ w'.cell? ⟨wr2.heap.size, 1, none⟩ = some (.int .i64 x.next) ∧ w'.cell? ⟨g, o + (j - 1) * 2, none⟩ = some (.string (B z)))) (by kernel_rfl) ?_ (fun hHeld => ?_)
        ·exact HS.out
        refine tk 0 (v := ?_) hHeld (fun w hSw => ?_) ?_; rotate_left
        ·(try dsimp only at hSw); obtain ⟨s0, s1, s2, s3⟩ := hSw; go_simp; try with_reducible rfl
        try simp only [zP, zN, zS, zT, zU]
        refine tk 1 (v := ?_) hHeld (fun w hSw => ?_) ?_; rotate_left
        ·(try dsimp only at hSw); obtain ⟨s0, s1, s2, s3⟩ := hSw; go_simp; try with_reducible rfl
        try simp only [zP, zN, zS, zT, zU]
        refine wpAnyH_ready (rs := [2]) (by kernel_rfl) (by simp) ?_
        refine AllReadyH.cons (o := ?_) (by simp only [zA, zB, zC] <;> exact rfl) (fun K hK => ?_) AllReadyH.nil
        go_simp
        go_at_call 67
        refine (HRI.out _).mono ?_
        rintro e w1 ⟨rfl, f1⟩
        have F := Lib.hid (HFR.out.then f1.fp)
        have HS1 := Lib.hid (And.intro (f1.fp.cell HS.out.1 (fun h => h)) (And.intro (f1.fp.cell HS.out.2.1 (fun h => h)) (And.intro (f1.fp.cell HS.out.2.2.1 (fun h => h)) (f1.fp.cell HS.out.2.2.2 (fun h => h)))))
        clear f1
        go_wp2_with fail
        refine hK.out _ _ HS1.out (fun hHeld => ?_)
        clear hK K
        try simp only [zP, zN, zS, zT, zU]
        refine tk 3 (v := ?_) hHeld (fun w hSw => ?_) ?_; rotate_left
        ·(try dsimp only at hSw); obtain ⟨s0, s1, s2, s3⟩ := hSw; go_simp; try with_reducible rfl
        try simp only [zP, zN, zS, zT, zU]
        refine tk 4 (v := ?_) hHeld (fun w hSw => ?_) ?_; rotate_left
        ·(try dsimp only at hSw); obtain ⟨s0, s1, s2, s3⟩ := hSw; go_simp; try with_reducible rfl
        try simp only [zP, zN, zS, zT, zU]
        refine tk 5 (v := ?_) hHeld (fun w hSw => ?_) ?_; rotate_left
        ·(try dsimp only at hSw); obtain ⟨s0, s1, s2, s3⟩ := hSw; go_simp; try with_reducible rfl
        try simp only [zP, zN, zS, zT, zU]
        refine tk 6 (v := ?_) hHeld (fun w hSw => ?_) ?_; rotate_left
        ·(try dsimp only at hSw); obtain ⟨s0, s1, s2, s3⟩ := hSw; go_simp; try with_reducible rfl
        try simp only [zP, zN, zS, zT, zU]
        refine tk 7 (v := ?_) hHeld (fun w hSw => ?_) ?_; rotate_left
        ·(try dsimp only at hSw); obtain ⟨s0, s1, s2, s3⟩ := hSw; go_simp; try with_reducible rfl
        try simp only [zP, zN, zS, zT, zU]
        refine tk 8 (v := ?_) hHeld (fun w hSw => ?_) ?_; rotate_left
        ·(try dsimp only at hSw); obtain ⟨s0, s1, s2, s3⟩ := hSw; go_simp; try with_reducible rfl
        try simp only [zP, zN, zS, zT, zU]
        refine tk 9 (v := ?_) hHeld (fun w hSw => ?_) ?_; rotate_left
        ·(try dsimp only at hSw); obtain ⟨s0, s1, s2, s3⟩ := hSw; go_simp; try with_reducible rfl
        try simp only [zP, zN, zS, zT, zU]
        refine tk 10 (v := ?_) hHeld (fun w hSw => ?_) ?_; rotate_left
        ·(try dsimp only at hSw); obtain ⟨s0, s1, s2, s3⟩ := hSw; go_simp; try with_reducible rfl
        try simp only [zP, zN, zS, zT, zU]
        refine tk 11 (v := ?_) hHeld (fun w hSw => ?_) ?_; rotate_left
        ·(try dsimp only at hSw); obtain ⟨s0, s1, s2, s3⟩ := hSw; go_simp; try with_reducible rfl
        try simp only [zP, zN, zS, zT, zU]
        refine tk 12 (v := ?_) hHeld (fun w hSw => ?_) ?_; rotate_left
        ·(try dsimp only at hSw); obtain ⟨s0, s1, s2, s3⟩ := hSw; go_simp; try with_reducible rfl
        try simp only [zP, zN, zS, zT, zU]
        refine tk 13 (v := ?_) hHeld (fun w hSw => ?_) ?_; rotate_left
        ·(try dsimp only at hSw); obtain ⟨s0, s1, s2, s3⟩ := hSw; go_simp; try with_reducible rfl
        try simp only [zP, zN, zS, zT, zU]
        refine tk 14 (v := ?_) hHeld (fun w hSw => ?_) ?_; rotate_left
        ·(try dsimp only at hSw); obtain ⟨s0, s1, s2, s3⟩ := hSw; go_simp; try with_reducible rfl
        try simp only [zP, zN, zS, zT, zU]
        refine tk 15 (v := ?_) hHeld (fun w hSw => ?_) ?_; rotate_left
        ·(try dsimp only at hSw); obtain ⟨s0, s1, s2, s3⟩ := hSw; go_simp; try with_reducible rfl
        try simp only [zP, zN, zS, zT, zU]
        refine tk 16 (v := ?_) hHeld (fun w hSw => ?_) ?_; rotate_left
        ·(try dsimp only at hSw); obtain ⟨s0, s1, s2, s3⟩ := hSw; go_simp; try with_reducible rfl
        try simp only [zP, zN, zS, zT, zU]
        refine tk 17 (v := ?_) hHeld (fun w hSw => ?_) ?_; rotate_left
        ·(try dsimp only at hSw); obtain ⟨s0, s1, s2, s3⟩ := hSw; go_simp; try with_reducible rfl
        try simp only [zP, zN, zS, zT, zU]
        refine tk 18 (v := ?_) hHeld (fun w hSw => ?_) ?_; rotate_left
        ·(try dsimp only at hSw); obtain ⟨s0, s1, s2, s3⟩ := hSw; go_simp; try with_reducible rfl
        try simp only [zP, zN, zS, zT, zU]
        refine tk 19 (v := ?_) hHeld (fun w hSw => ?_) ?_; rotate_left
        ·(try dsimp only at hSw); obtain ⟨s0, s1, s2, s3⟩ := hSw; go_simp; try with_reducible rfl
        try simp only [zP, zN, zS, zT, zU]
        refine tk 20 (v := ?_) hHeld (fun w hSw => ?_) ?_; rotate_left
        ·(try dsimp only at hSw); obtain ⟨s0, s1, s2, s3⟩ := hSw; go_simp; try with_reducible rfl
        try simp only [zP, zN, zS, zT, zU]
        refine tk 21 (v := ?_) hHeld (fun w hSw => ?_) ?_; rotate_left
        ·(try dsimp only at hSw); obtain ⟨s0, s1, s2, s3⟩ := hSw; go_simp; try with_reducible rfl
        try simp only [zP, zN, zS, zT, zU]
        refine tk 22 (v := ?_) hHeld (fun w hSw => ?_) ?_; rotate_left
        ·(try dsimp only at hSw); obtain ⟨s0, s1, s2, s3⟩ := hSw; go_simp; try with_reducible rfl
        try simp only [zP, zN, zS, zT, zU]
        refine tk 23 (v := ?_) hHeld (fun w hSw => ?_) ?_; rotate_left
        ·(try dsimp only at hSw); obtain ⟨s0, s1, s2, s3⟩ := hSw; go_simp; try with_reducible rfl
        try simp only [zP, zN, zS, zT, zU]
        refine tk 24 (v := ?_) hHeld (fun w hSw => ?_) ?_; rotate_left
        ·(try dsimp only at hSw); obtain ⟨s0, s1, s2, s3⟩ := hSw; go_simp; try with_reducible rfl
        try simp only [zP, zN, zS, zT, zU]
        refine tk 25 (v := ?_) hHeld (fun w hSw => ?_) ?_; rotate_left
        ·(try dsimp only at hSw); obtain ⟨s0, s1, s2, s3⟩ := hSw; go_simp; try with_reducible rfl
        try simp only [zP, zN, zS, zT, zU]
        refine tk 26 (v := ?_) hHeld (fun w hSw => ?_) ?_; rotate_left
        ·(try dsimp only at hSw); obtain ⟨s0, s1, s2, s3⟩ := hSw; go_simp; try with_reducible rfl
        try simp only [zP, zN, zS, zT, zU]
        refine tk 27 (v := ?_) hHeld (fun w hSw => ?_) ?_; rotate_left
        ·(try dsimp only at hSw); obtain ⟨s0, s1, s2, s3⟩ := hSw; go_simp; try with_reducible rfl
        try simp only [zP, zN, zS, zT, zU]
        refine tk 28 (v := ?_) hHeld (fun w hSw => ?_) ?_; rotate_left
        ·(try dsimp only at hSw); obtain ⟨s0, s1, s2, s3⟩ := hSw; go_simp; try with_reducible rfl
        try simp only [zP, zN, zS, zT, zU]
        refine tk 29 (v := ?_) hHeld (fun w hSw => ?_) ?_; rotate_left
        ·(try dsimp only at hSw); obtain ⟨s0, s1, s2, s3⟩ := hSw; go_simp; try with_reducible rfl
        try simp only [zP, zN, zS, zT, zU]
        refine wpAnyH_done (by kernel_rfl) ?_ _
        go_wp2
        go_ret
        exact ⟨⟨false, rfl, fun h => absurd h HNO.out⟩, HFW.out.then F.out⟩
    ·have hke : j = m := by omega
     subst hke
     have q3 : ((j : Int) < (j : Int)) = False := eq_false (by omega)
     have HFX := Lib.hid hR.out.1
     clear hlt hj
     go_wp2
     go_ret
     exact ⟨⟨true, rfl, fun _ => rfl⟩, HFX.out⟩
end Go.Proofs.YtphoglepiegeiaaGreatDoor
