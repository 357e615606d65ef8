/- A text of this proof. -/
import Derived.ChangeSlices
import Derived.Deep.Grids
import Derived.Deep.Strs
import Derived.OpenShut
import Derived.ProofKit
import Derived.Test.YtphoglepiegeiaaGreatDoorZDD
import Derived.Test.YtphoglepiegeiaaGreatDoorZDL
import Derived.Test.YtphoglepiegeiaaGreatDoorZDM
import Derived.Test.YtphoglepiegeiaaGreatDoorZDS
set_option linter.unusedSimpArgs false
set_option linter.unusedVariables false
namespace Go.Proofs.YtphoglepiegeiaaGreatDoor
set_option maxRecDepth 20000
open Go.RowKit Pm
theorem StW.up {s : St} (h : StW s) {k : Nat} (h0 : 0 < k) (hk : k < s.nodes.length) (h1 : k - 1 < s.nodes.length) : lt (s.nodes[k-1]).path (s.nodes[k]).path = true := h.asc (k - 1) k h1 hk (by omega)
theorem StW.upT {s : St} (h : StW s) {k : Nat} (h0 : 0 < k) (hk : k < s.turns.length) (h1 : k - 1 < s.turns.length) : lt (s.turns[k-1]).dir (s.turns[k]).dir = true := h.tasc (k - 1) k h1 hk (by omega)
def Ahn (s : St) (k : Nat) : Prop := ∀ i (hi : i < s.nodes.length), i < k → nfit s.nodes[i] = true ∧ ∀ (_ : 0 < i) (h1 : i - 1 < s.nodes.length), lt (s.nodes[i-1]).path (s.nodes[i]).path = true
def Aht (s : St) (k : Nat) : Prop := ∀ i (hi : i < s.turns.length), i < k → tfit s.turns[i] = true ∧ ∀ (_ : 0 < i) (h1 : i - 1 < s.turns.length), lt (s.turns[i-1]).dir (s.turns[i]).dir = true
theorem Ahn.zero (s : St) : Ahn s 0 := fun i _ h => absurd h (Nat.not_lt_zero i)
theorem Aht.zero (s : St) : Aht s 0 := fun i _ h => absurd h (Nat.not_lt_zero i)
theorem Ahn.succ {s : St} {k : Nat} (h : Ahn s k) (hk : k < s.nodes.length) (a : nfit s.nodes[k] = true) (b : ∀ (_ : 0 < k) (h1 : k - 1 < s.nodes.length), lt (s.nodes[k-1]).path (s.nodes[k]).path = true) : Ahn s (k + 1) := fun i hi hl => by
 by_cases e : i = k
 ·subst e; exact ⟨a, b⟩
 exact h i hi (by omega)
theorem Aht.succ {s : St} {k : Nat} (h : Aht s k) (hk : k < s.turns.length) (a : tfit s.turns[k] = true) (b : ∀ (_ : 0 < k) (h1 : k - 1 < s.turns.length), lt (s.turns[k-1]).dir (s.turns[k]).dir = true) : Aht s (k + 1) := fun i hi hl => by
 by_cases e : i = k
 ·subst e; exact ⟨a, b⟩
 exact h i hi (by omega)
theorem stW_ah {s : St} (h1 : Ahn s s.nodes.length) (h2 : Aht s s.turns.length) : StW s := by
 refine ⟨fun n hn => ?_, asc_of fun i hi => ?_, fun t ht => ?_, ?_⟩
 ·obtain ⟨i, hi, rfl⟩ := List.getElem_of_mem hn; exact (h1 i hi hi).1
 ·exact (h1 (i + 1) hi hi).2 (Nat.succ_pos i) (by omega)
 ·obtain ⟨i, hi, rfl⟩ := List.getElem_of_mem ht; exact (h2 i hi hi).1
 rw [ascT_iff]
 refine asc_of fun i hi => ?_
 rw [List.length_map] at hi
 rw [List.getElem_map, List.getElem_map]
 exact (h2 (i + 1) hi hi).2 (Nat.succ_pos i) (by omega)
set_option maxHeartbeats 16000000 in
theorem rRightS_w (v : Value) (s : St) (w : World) (hv : Sto w v s) (hs : Sp s.nodes) (hn : s.nodes.length ≤ 1000000) (hst : ∀ t ∈ s.turns, t.dir.length ≤ 1000000) (hmm : s.turns.length ≤ 1000000) :
  Calls Tryz.prog 20 #[v] w fun e w' => (∃ b, e = .returned (.bool b) ∧ (b = true ↔ StW s)) ∧ Fp Non w w' := by
 obtain ⟨vn, vt, rfl, h1, h2⟩ := hv.ex
 obtain ⟨ao, cap, rfl⟩ := h1.shape
 obtain ⟨at', capt, rfl⟩ := h2.shape
 obtain ⟨n, hnn⟩ : ∃ n, n = s.nodes.length := ⟨_, rfl⟩
 obtain ⟨m, hm⟩ : ∃ m, m = s.turns.length := ⟨_, rfl⟩
 have HX := Lib.hid (And.intro hnn (And.intro h1 hs))
 have HT := Lib.hid (And.intro hm (And.intro h2 hst))
 have hmb : m ≤ 1000000 := by omega
 rw [← hnn, ← hm]
 have HB0 := Lib.hid (heap_alloc_new w (Obj.cells #[.slice ao n cap, .slice at' m capt] 25))
 have HF0 := Lib.hid (fp_alloc w (Obj.cells #[.slice ao n cap, .slice at' m capt] 25))
 have hnb : n ≤ 1000000 := by omega
 clear h1 h2 hv hs hn hnn hm hst hmm
 go_enter Tryz.func20, Tryz.ntmps20
 go_wp2_with fail
 go_loopw [3] (fun i wr => ∃ k : Nat, k ≤ n ∧ i = .int .i64 k ∧ Hid (Fp Non w wr ∧ wr.heap[w.heap.size]? = some (Obj.cells #[.slice ao n cap, .slice at' m capt] 25 (0, 0)) ∧ Ahn s k)) (fun i _ => n - (RowKit.intOf i).toNat)
 case atStart => exact ⟨0, Nat.zero_le _, rfl, HF0.out, HB0.out, Ahn.zero s⟩
 obtain ⟨k, hk, rfl, hR⟩ := hrel
 rename_i wr _
 obtain ⟨b0, b1⟩ := boxP2 hR.out.2.1
 by_cases hlt : k < n
 ·have hkl : k < s.nodes.length := by rw [← HX.out.1]; exact hlt
  obtain ⟨g, o, cap', e, _, _, _, hcell⟩ := HX.out.2.1.at (by omega)
  injection e with e1 e2 e3
  subst e1 e3
  clear e2
  have q3 : ((k : Int) < (n : Int)) = True := eq_true (by omega)
  have q4 : (k < n) = True := eq_true hlt
  have fd : Fp Non wr wr.drew := (Fp.refl Non wr).drew
  have hnd := (hcell k hkl).keep (hR.out.1.then fd) id
  have hpv := fun h0 : 0 < k => ((hcell (k - 1) (by omega)).keep (hR.out.1.then fd) id).c0
  have hup := fun (h0 : 0 < k) (h : StW s) => h.up h0 hkl (by omega)
  have hsf := fun (h : StW s) => h.fit _ (List.getElem_mem hkl)
  have hsp := HX.out.2.2 _ (List.getElem_mem hkl)
  have hax := hR.out.2.2.succ hkl
  obtain ⟨x, hx⟩ : ∃ x, s.nodes[k] = x := ⟨_, rfl⟩
  have hz : ∃ z, ∀ h : k - 1 < s.nodes.length, (s.nodes[k - 1]).path = z := by
   by_cases h : k - 1 < s.nodes.length
   ·exact ⟨(s.nodes[k - 1]).path, fun _ => rfl⟩
   exact ⟨[], fun h' => absurd h' h⟩
  obtain ⟨z, hz⟩ := hz
  rw [hx] at hnd hsf hsp hax
  have hpv' : 0 < k → wr.drew.cell? ⟨g, o + (k - 1) * 5, none⟩ = some (.string (B z)) := fun h0 => by have := hpv h0; rw [hz] at this; exact this
  have hup' : 0 < k → StW s → Op.bytesLess z x.path = true := fun h0 h => by have := hup h0 h; rw [hz, hx] at this; exact this
  have d0 := fd.cell b0 id
  have hnc := fun w => rNode_c x w hsp
  have hax' : nfit x = true → (0 < k → Op.bytesLess z x.path = true) → Ahn s (k + 1) := fun a b => hax a (fun h0 h => by rw [hz h]; exact b h0)
  obtain ⟨fx, hfx⟩ : ∃ b, nfit x = b := ⟨_, rfl⟩
  rw [hfx] at hnc hsf hax'
  have HAX := Lib.hid hax'
  clear hax hax'
  unfold ndV strV at hnc
  have HNC := Lib.hid hnc
  have HS0 := Lib.hid (And.intro d0 (And.intro hnd (And.intro hpv' (And.intro hup' hsf))))
  have HFR := Lib.hid fd
  have HFW := Lib.hid hR.out.1
  have HBX := Lib.hid hR.out.2.1
  have HK := Lib.hid hlt
  have hw := hnd
  have c0 := ((hcell k hkl).keep hR.out.1 id).c0
  clear hcell hpv hup hpv' hup' hsf hsp hx hz hnc hfx hnd d0 fd hkl hw c0 hk
  cases fx with
  | false =>
   have HNO := Lib.hid (show ¬ StW s from fun h => by have := HS0.out.2.2.2.2 h; cases this)
   have HS := Lib.hid (And.intro HS0.out.1 (And.intro HS0.out.2.1.c0 (And.intro HS0.out.2.1.c1 (And.intro HS0.out.2.1.c2 (And.intro HS0.out.2.1.c3 HS0.out.2.1.c4)))))
   unfold strV at HS
   clear hlt
   go_wp2_with fail
   refine wp_region_held_drew (S := (fun w' => w'.cell? ⟨w.heap.size, 0, none⟩ = some (.slice (some ⟨g, o, none⟩) n cap) ∧ w'.cell? ⟨g, o + k * 5, none⟩ = some (.string (B x.path)) ∧ w'.cell? ⟨g, o + k * 5 + 1, none⟩ = some (.string (B x.data)) ∧ w'.cell? ⟨g, o + k * 5 + 2, none⟩ = some (.int .i64 x.ver) ∧ w'.cell? ⟨g, o + k * 5 + 3, none⟩ = some (.int .i64 x.turn) ∧ w'.cell? ⟨g, o + k * 5 + 4, none⟩ = some (.int .i64 x.own))) (by kernel_rfl) ?_ (fun hH => ?_)
   ·exact HS.out
   refine tk 0 hH ?_
   refine tk 1 hH ?_
   refine tk 2 hH ?_
   refine tk 3 hH ?_
   refine tk 4 hH ?_
   refine rY 5 fun K hK => ?_
   go_simp
   go_at_call 66
   refine (HNC.out _).mono ?_
   rintro e w1 ⟨rfl, f1⟩
   have F := Lib.hid (HFR.out.then f1)
   have HS1 := Lib.hid (And.intro (f1.cell HS.out.1 id) (And.intro (f1.cell HS.out.2.1 id) (And.intro (f1.cell HS.out.2.2.1 id) (And.intro (f1.cell HS.out.2.2.2.1 id) (And.intro (f1.cell HS.out.2.2.2.2.1 id) (f1.cell HS.out.2.2.2.2.2 id))))))
   clear f1
   go_wp2_with fail
   refine hK.out _ _ HS1.out (fun hH => ?_)
   clear hK K
   try simp only [zz]
   refine tk 6 hH ?_
   refine tk 7 hH ?_
   refine sk 8 hH ?_
   refine sk 9 hH ?_
   refine sk 10 hH ?_
   refine sk 11 hH ?_
   refine sk 12 hH ?_
   refine sk 13 hH ?_
   refine sk 14 hH ?_
   refine sk 15 hH ?_
   refine sk 16 hH ?_
   refine sk 17 hH ?_
   refine sk 18 hH ?_
   refine sk 19 hH ?_
   refine sk 20 hH ?_
   refine sk 21 hH ?_
   refine sk 22 hH ?_
   refine sk 23 hH ?_
   refine sk 24 hH ?_
   refine sk 25 hH ?_
   refine tk 26 hH ?_
   refine dn ?_
   go_wp2
   go_ret
   exact ⟨⟨false, rfl, ⟨fun h => (by cases h), fun h => absurd h HNO.out⟩⟩, HFW.out.then F.out⟩
  | true => ?_
  rcases Nat.eq_zero_or_pos k with hk0 | hk0
  ·subst hk0
   have HS := Lib.hid (And.intro HS0.out.1 (And.intro HS0.out.2.1.c0 (And.intro HS0.out.2.1.c1 (And.intro HS0.out.2.1.c2 (And.intro HS0.out.2.1.c3 HS0.out.2.1.c4)))))
   unfold strV at HS
   simp only [Nat.zero_mul, Nat.add_zero] at HS
   clear hlt
   go_wp2_with fail
   refine wp_region_held_drew (S := (fun w' => w'.cell? ⟨w.heap.size, 0, none⟩ = some (.slice (some ⟨g, o, none⟩) n cap) ∧ w'.cell? ⟨g, o, none⟩ = some (.string (B x.path)) ∧ w'.cell? ⟨g, o + 1, none⟩ = some (.string (B x.data)) ∧ w'.cell? ⟨g, o + 2, none⟩ = some (.int .i64 x.ver) ∧ w'.cell? ⟨g, o + 3, none⟩ = some (.int .i64 x.turn) ∧ w'.cell? ⟨g, o + 4, none⟩ = some (.int .i64 x.own))) (by kernel_rfl) ?_ (fun hH => ?_)
   ·exact HS.out
   refine tk 0 hH ?_
   refine tk 1 hH ?_
   refine tk 2 hH ?_
   refine tk 3 hH ?_
   refine tk 4 hH ?_
   refine rY 5 fun K hK => ?_
   go_simp
   go_at_call 66
   refine (HNC.out _).mono ?_
   rintro e w1 ⟨rfl, f1⟩
   have F := Lib.hid (HFR.out.then f1)
   have HS1 := Lib.hid (And.intro (f1.cell HS.out.1 id) (And.intro (f1.cell HS.out.2.1 id) (And.intro (f1.cell HS.out.2.2.1 id) (And.intro (f1.cell HS.out.2.2.2.1 id) (And.intro (f1.cell HS.out.2.2.2.2.1 id) (f1.cell HS.out.2.2.2.2.2 id))))))
   clear f1
   go_wp2_with fail
   refine hK.out _ _ HS1.out (fun hH => ?_)
   clear hK K
   try simp only [zz]
   refine tk 6 hH ?_
   refine tk 7 hH ?_
   refine tk 8 hH ?_
   refine tk 9 hH ?_
   refine tk 10 hH ?_
   refine sk 11 hH ?_
   refine sk 12 hH ?_
   refine sk 13 hH ?_
   refine sk 14 hH ?_
   refine sk 15 hH ?_
   refine sk 16 hH ?_
   refine sk 17 hH ?_
   refine sk 18 hH ?_
   refine sk 19 hH ?_
   refine sk 20 hH ?_
   refine sk 21 hH ?_
   refine sk 22 hH ?_
   refine sk 23 hH ?_
   refine sk 24 hH ?_
   refine tk 25 hH ?_
   refine tk 26 hH ?_
   refine dn ?_
   have hM : Hid (Fp Non w w1 ∧ w1.heap[w.heap.size]? = some (Obj.cells #[.slice (some ⟨g, o, none⟩) n cap, .slice at' m capt] 25 (0, 0)) ∧ Ahn s (0 + 1)) := ⟨HFW.out.then F.out, F.out.heap HBX.out id, HAX.out (by first | rfl | trivial) (fun h => absurd h (Nat.lt_irrefl 0))⟩
   have hkn := HK.out
   go_wp2
   go_roundw
   case rel => exact ⟨0 + 1, by have := HK.out; omega, by go_num, hM⟩
   case measure => have := HK.out; simp [RowKit.intOf]; omega
  have HS := Lib.hid (And.intro HS0.out.1 (And.intro HS0.out.2.1.c0 (And.intro HS0.out.2.1.c1 (And.intro HS0.out.2.1.c2 (And.intro HS0.out.2.1.c3 (And.intro HS0.out.2.1.c4 (HS0.out.2.2.1 hk0)))))))
  unfold strV at HS
  have wk : IntKind.i64.wrap ((k : Int) - 1) = ((k - 1 : Nat) : Int) := by rw [IntKind.wrap_i64]; omega
  have qz : ((0 : Int) < (k : Int)) = True := eq_true (by omega)
  have qz2 : (0 < k) = True := eq_true hk0
  have qn : (((k - 1 : Nat) : Int) < (n : Int)) = True := eq_true (by omega)
  have qn2 : (k - 1 < n) = True := eq_true (by omega)
  have HK0 := Lib.hid hk0
  by_cases hle : Op.bytesLess z x.path = true
  ·have HLE := Lib.hid hle
   clear hlt hk0
   go_wp2_with fail
   refine wp_region_held_drew (S := (fun w' => w'.cell? ⟨w.heap.size, 0, none⟩ = some (.slice (some ⟨g, o, none⟩) n cap) ∧ w'.cell? ⟨g, o + k * 5, none⟩ = some (.string (B x.path)) ∧ w'.cell? ⟨g, o + k * 5 + 1, none⟩ = some (.string (B x.data)) ∧ w'.cell? ⟨g, o + k * 5 + 2, none⟩ = some (.int .i64 x.ver) ∧ w'.cell? ⟨g, o + k * 5 + 3, none⟩ = some (.int .i64 x.turn) ∧ w'.cell? ⟨g, o + k * 5 + 4, none⟩ = some (.int .i64 x.own) ∧ w'.cell? ⟨g, o + (k - 1) * 5, none⟩ = some (.string (B z)))) (by kernel_rfl) ?_ (fun hH => ?_)
   ·exact HS.out
   refine tk 0 hH ?_
   refine tk 1 hH ?_
   refine tk 2 hH ?_
   refine tk 3 hH ?_
   refine tk 4 hH ?_
   refine rY 5 fun K hK => ?_
   go_simp
   go_at_call 66
   refine (HNC.out _).mono ?_
   rintro e w1 ⟨rfl, f1⟩
   have F := Lib.hid (HFR.out.then f1)
   have HS1 := Lib.hid (And.intro (f1.cell HS.out.1 id) (And.intro (f1.cell HS.out.2.1 id) (And.intro (f1.cell HS.out.2.2.1 id) (And.intro (f1.cell HS.out.2.2.2.1 id) (And.intro (f1.cell HS.out.2.2.2.2.1 id) (And.intro (f1.cell HS.out.2.2.2.2.2.1 id) (f1.cell HS.out.2.2.2.2.2.2 id)))))))
   clear f1
   go_wp2_with fail
   refine hK.out _ _ HS1.out (fun hH => ?_)
   clear hK K
   try simp only [zz]
   refine tk 6 hH ?_
   refine tk 7 hH ?_
   refine tk 8 hH ?_
   refine tk 9 hH ?_
   refine tk 10 hH ?_
   refine tk 11 hH ?_
   refine tk 12 hH ?_
   refine tk 13 hH ?_
   refine tk 14 hH ?_
   refine tk 15 hH ?_
   refine tk 16 hH ?_
   refine tk 17 hH ?_
   refine tk 18 hH ?_
   refine tk 19 hH ?_
   refine tk 20 hH ?_
   refine tk 21 hH ?_
   refine tk 22 hH ?_
   refine tk 23 hH ?_
   refine tk 24 hH ?_
   refine tk 25 hH ?_
   refine tk 26 hH ?_
   refine dn ?_
   have hM : Hid (Fp Non w w1 ∧ w1.heap[w.heap.size]? = some (Obj.cells #[.slice (some ⟨g, o, none⟩) n cap, .slice at' m capt] 25 (0, 0)) ∧ Ahn s (k + 1)) := ⟨HFW.out.then F.out, F.out.heap HBX.out id, HAX.out (by first | rfl | trivial) (fun _ => HLE.out)⟩
   have hkn := HK.out
   go_wp2
   go_roundw
   case rel => exact ⟨k + 1, by have := HK.out; omega, by go_num, hM⟩
   case measure => have := HK.out; simp [RowKit.intOf]; omega
  have hle' : Op.bytesLess z x.path = false := by simpa using hle
  have HNO := Lib.hid (show ¬ StW s from fun h => hle (HS0.out.2.2.2.1 HK0.out h))
  clear hlt hk0 hle
  go_wp2_with fail
  refine wp_region_held_drew (S := (fun w' => w'.cell? ⟨w.heap.size, 0, none⟩ = some (.slice (some ⟨g, o, none⟩) n cap) ∧ w'.cell? ⟨g, o + k * 5, none⟩ = some (.string (B x.path)) ∧ w'.cell? ⟨g, o + k * 5 + 1, none⟩ = some (.string (B x.data)) ∧ w'.cell? ⟨g, o + k * 5 + 2, none⟩ = some (.int .i64 x.ver) ∧ w'.cell? ⟨g, o + k * 5 + 3, none⟩ = some (.int .i64 x.turn) ∧ w'.cell? ⟨g, o + k * 5 + 4, none⟩ = some (.int .i64 x.own) ∧ w'.cell? ⟨g, o + (k - 1) * 5, none⟩ = some (.string (B z)))) (by kernel_rfl) ?_ (fun hH => ?_)
  ·exact HS.out
  refine tk 0 hH ?_
  refine tk 1 hH ?_
  refine tk 2 hH ?_
  refine tk 3 hH ?_
  refine tk 4 hH ?_
  refine rY 5 fun K hK => ?_
  go_simp
  go_at_call 66
  refine (HNC.out _).mono ?_
  rintro e w1 ⟨rfl, f1⟩
  have F := Lib.hid (HFR.out.then f1)
  have HS1 := Lib.hid (And.intro (f1.cell HS.out.1 id) (And.intro (f1.cell HS.out.2.1 id) (And.intro (f1.cell HS.out.2.2.1 id) (And.intro (f1.cell HS.out.2.2.2.1 id) (And.intro (f1.cell HS.out.2.2.2.2.1 id) (And.intro (f1.cell HS.out.2.2.2.2.2.1 id) (f1.cell HS.out.2.2.2.2.2.2 id)))))))
  clear f1
  go_wp2_with fail
  refine hK.out _ _ HS1.out (fun hH => ?_)
  clear hK K
  try simp only [zz]
  refine tk 6 hH ?_
  refine tk 7 hH ?_
  refine tk 8 hH ?_
  refine tk 9 hH ?_
  refine tk 10 hH ?_
  refine tk 11 hH ?_
  refine tk 12 hH ?_
  refine tk 13 hH ?_
  refine tk 14 hH ?_
  refine tk 15 hH ?_
  refine tk 16 hH ?_
  refine tk 17 hH ?_
  refine tk 18 hH ?_
  refine tk 19 hH ?_
  refine tk 20 hH ?_
  refine tk 21 hH ?_
  refine tk 22 hH ?_
  refine tk 23 hH ?_
  refine tk 24 hH ?_
  refine tk 25 hH ?_
  refine tk 26 hH ?_
  refine dn ?_
  go_wp2
  go_ret
  exact ⟨⟨false, rfl, ⟨fun h => (by cases h), fun h => absurd h HNO.out⟩⟩, HFW.out.then F.out⟩
 have hke : k = n := by omega
 subst hke
 have q3 : ((k : Int) < (k : Int)) = False := eq_false (by omega)
 clear hlt hk
 go_wp2_with fail
 obtain ⟨W1, hW1⟩ : ∃ W1, W1 = wr := ⟨_, rfl⟩
 have HAN := Lib.hid hR.out.2.2
 have HR1 := Lib.hid (And.intro hR.out.1 (And.intro hR.out.2.1 (Aht.zero s)))
 rw [← hW1] at HR1 ⊢
 clear hW1 hR b0 b1
 go_loopw [4] (fun i wr2 => ∃ j : Nat, j ≤ m ∧ i = .int .i64 j ∧ Hid (Fp Non w wr2 ∧ wr2.heap[w.heap.size]? = some (Obj.cells #[.slice ao k cap, .slice at' m capt] 25 (0, 0)) ∧ Aht s j)) (fun i _ => m - (RowKit.intOf i).toNat)
 case atStart => exact ⟨0, Nat.zero_le _, rfl, HR1⟩
 obtain ⟨j, hj, rfl, hR⟩ := hrel
 rename World => wr2
 obtain ⟨b0, b1⟩ := boxP2 hR.out.2.1
 by_cases hlt : j < m
 ·have hjl : j < s.turns.length := by rw [← HT.out.1]; exact hlt
  obtain ⟨g, o, cap', e, _, _, _, hcell⟩ := HT.out.2.1.at (by omega)
  injection e with e1 e2 e3
  subst e1 e3
  clear e2
  have q3 : ((j : Int) < (m : Int)) = True := eq_true (by omega)
  have q4 : (j < m) = True := eq_true hlt
  have hnd0 := (hcell j hjl).keep hR.out.1 id
  have hst := HT.out.2.2 _ (List.getElem_mem hjl)
  have hax := hR.out.2.2.succ hjl
  obtain ⟨x, hx⟩ : ∃ x, s.turns[j] = x := ⟨_, rfl⟩
  rw [hx] at hnd0 hst hax
  have c0 := hnd0.c0; have c1 := hnd0.c1
  unfold strV at c0
  have fb := fp_alloc wr2 (.cells #[.string (B x.dir), .int .i64 x.next] TU)
  have hbx := heap_alloc_new wr2 (.cells #[.string (B x.dir), .int .i64 x.next] TU)
  have fd : Fp Non (wr2.alloc (.cells #[.string (B x.dir), .int .i64 x.next] TU)) (wr2.alloc (.cells #[.string (B x.dir), .int .i64 x.next] TU)).drew := (Fp.refl Non _).drew
  have f0 := fb.then fd
  have hpv := fun h0 : 0 < j => ((hcell (j - 1) (by omega)).keep (hR.out.1.then f0) id).c0
  have hup := fun (h0 : 0 < j) (h : StW s) => h.upT h0 hjl (by omega)
  have htf := fun (h : StW s) => h.tfit _ (List.getElem_mem hjl)
  have hz : ∃ z, ∀ h : j - 1 < s.turns.length, (s.turns[j - 1]).dir = z := by
   by_cases h : j - 1 < s.turns.length
   ·exact ⟨(s.turns[j - 1]).dir, fun _ => rfl⟩
   exact ⟨[], fun h' => absurd h' h⟩
  obtain ⟨z, hz⟩ := hz
  rw [hx] at htf
  have hpv' : 0 < j → (wr2.alloc (.cells #[.string (B x.dir), .int .i64 x.next] TU)).drew.cell? ⟨g, o + (j - 1) * 2, none⟩ = some (.string (B z)) := fun h0 => by have := hpv h0; rw [hz] at this; exact this
  have hup' : 0 < j → StW s → Op.bytesLess z x.dir = true := fun h0 h => by have := hup h0 h; rw [hz, hx] at this; exact this
  have hax' : tfit x = true → (0 < j → Op.bytesLess z x.dir = true) → Aht s (j + 1) := fun a b => hax a (fun h0 h => by rw [hz h]; exact b h0)
  have hri := fun w => rRight_g x.dir w (sz_of hst (by omega))
  obtain ⟨sp, hsp⟩ : ∃ b, (split x.dir).isSome = b := ⟨_, rfl⟩
  rw [hsp] at hri
  have hax2 : sp = true → (1 ≤ x.next ∧ x.next ≤ 10000) → (0 < j → Op.bytesLess z x.dir = true) → Aht s (j + 1) := fun a b c => hax' (by unfold Pm.tfit; rw [hsp, Bool.and_eq_true, decide_eq_true_eq]; exact ⟨a, b⟩) c
  have HAX := Lib.hid hax2
  clear hax hax' hax2
  have hfit : StW s → sp = true ∧ 1 ≤ x.next ∧ x.next ≤ 10000 := fun h => by
   have := htf h
   unfold Pm.tfit at this
   rw [hsp, Bool.and_eq_true, decide_eq_true_eq] at this
   exact this
  obtain ⟨t0, t1⟩ := boxP2 (fd.heap hbx id)
  have HRI := Lib.hid hri
  have HS0 := Lib.hid (And.intro (f0.cell b1 id) (And.intro t0 (And.intro t1 (And.intro hpv' (And.intro hup' hfit)))))
  have HFR := Lib.hid f0
  have HFW := Lib.hid hR.out.1
  have HBX := Lib.hid hR.out.2.1
  have HK := Lib.hid hlt
  clear hnd0 hst hx hjl fb hbx fd f0 hpv hup htf hz hpv' hup' hri hsp hfit t0 t1 hcell hj
  cases sp with
  | false =>
   have HNO := Lib.hid (show ¬ StW s from fun h => by have := (HS0.out.2.2.2.2.2 h).1; cases this)
   have HS := Lib.hid (And.intro HS0.out.1 (And.intro HS0.out.2.1 HS0.out.2.2.1))
   clear hlt
   go_wp2_with fail
   refine wp_region_held_drew (S := (fun w' => w'.cell? ⟨w.heap.size, 1, none⟩ = some (.slice (some ⟨g, o, none⟩) m capt) ∧ w'.cell? ⟨wr2.heap.size, 0, none⟩ = some (.string (B x.dir)) ∧ w'.cell? ⟨wr2.heap.size, 1, none⟩ = some (.int .i64 x.next))) (by kernel_rfl) ?_ (fun hH => ?_)
   ·exact HS.out
   refine tk 0 hH ?_
   refine tk 1 hH ?_
   refine rY 2 fun K hK => ?_
   go_simp
   go_at_call 67
   refine (HRI.out _).mono ?_
   rintro e w1 ⟨rfl, f1⟩
   have F := Lib.hid (HFR.out.then f1.fp)
   have HS1 := Lib.hid (And.intro (f1.fp.cell HS.out.1 id) (And.intro (f1.fp.cell HS.out.2.1 id) (f1.fp.cell HS.out.2.2 id)))
   clear f1
   go_wp2_with fail
   refine hK.out _ _ HS1.out (fun hH => ?_)
   clear hK K
   try simp only [zz]
   refine tk 3 hH ?_
   refine tk 4 hH ?_
   refine sk 5 hH ?_
   refine sk 6 hH ?_
   refine sk 7 hH ?_
   refine tk 8 hH ?_
   refine tk 9 hH ?_
   refine sk 10 hH ?_
   refine sk 11 hH ?_
   refine sk 12 hH ?_
   refine tk 13 hH ?_
   refine tk 14 hH ?_
   refine sk 15 hH ?_
   refine sk 16 hH ?_
   refine sk 17 hH ?_
   refine sk 18 hH ?_
   refine sk 19 hH ?_
   refine sk 20 hH ?_
   refine sk 21 hH ?_
   refine sk 22 hH ?_
   refine sk 23 hH ?_
   refine sk 24 hH ?_
   refine sk 25 hH ?_
   refine sk 26 hH ?_
   refine sk 27 hH ?_
   refine sk 28 hH ?_
   refine tk 29 hH ?_
   refine dn ?_
   go_wp2
   go_ret
   exact ⟨⟨false, rfl, ⟨fun h => (by cases h), fun h => absurd h HNO.out⟩⟩, HFW.out.then F.out⟩
  | true => ?_
  by_cases hlo : x.next < 1
  ·have HNO := Lib.hid (show ¬ StW s from fun h => by have := (HS0.out.2.2.2.2.2 h).2; omega)
   have q5 : (x.next < 1) = True := eq_true hlo
   have HS := Lib.hid (And.intro HS0.out.1 (And.intro HS0.out.2.1 HS0.out.2.2.1))
   clear hlt hlo
   go_wp2_with fail
   refine wp_region_held_drew (S := (fun w' => w'.cell? ⟨w.heap.size, 1, none⟩ = some (.slice (some ⟨g, o, none⟩) m capt) ∧ w'.cell? ⟨wr2.heap.size, 0, none⟩ = some (.string (B x.dir)) ∧ w'.cell? ⟨wr2.heap.size, 1, none⟩ = some (.int .i64 x.next))) (by kernel_rfl) ?_ (fun hH => ?_)
   ·exact HS.out
   refine tk 0 hH ?_
   refine tk 1 hH ?_
   refine rY 2 fun K hK => ?_
   go_simp
   go_at_call 67
   refine (HRI.out _).mono ?_
   rintro e w1 ⟨rfl, f1⟩
   have F := Lib.hid (HFR.out.then f1.fp)
   have HS1 := Lib.hid (And.intro (f1.fp.cell HS.out.1 id) (And.intro (f1.fp.cell HS.out.2.1 id) (f1.fp.cell HS.out.2.2 id)))
   clear f1
   go_wp2_with fail
   refine hK.out _ _ HS1.out (fun hH => ?_)
   clear hK K
   try simp only [zz]
   refine tk 3 hH ?_
   refine tk 4 hH ?_
   refine tk 5 hH ?_
   refine tk 6 hH ?_
   refine tk 7 hH ?_
   refine tk 8 hH ?_
   refine tk 9 hH ?_
   refine sk 10 hH ?_
   refine sk 11 hH ?_
   refine sk 12 hH ?_
   refine tk 13 hH ?_
   refine tk 14 hH ?_
   refine sk 15 hH ?_
   refine sk 16 hH ?_
   refine sk 17 hH ?_
   refine sk 18 hH ?_
   refine sk 19 hH ?_
   refine sk 20 hH ?_
   refine sk 21 hH ?_
   refine sk 22 hH ?_
   refine sk 23 hH ?_
   refine sk 24 hH ?_
   refine sk 25 hH ?_
   refine sk 26 hH ?_
   refine sk 27 hH ?_
   refine sk 28 hH ?_
   refine tk 29 hH ?_
   refine dn ?_
   go_wp2
   go_ret
   exact ⟨⟨false, rfl, ⟨fun h => (by cases h), fun h => absurd h HNO.out⟩⟩, HFW.out.then F.out⟩
  have q5 : (x.next < 1) = False := eq_false hlo
  by_cases hhi : 10000 < x.next
  ·have HNO := Lib.hid (show ¬ StW s from fun h => by have := (HS0.out.2.2.2.2.2 h).2; omega)
   have q6 : (10000 < x.next) = True := eq_true hhi
   have HS := Lib.hid (And.intro HS0.out.1 (And.intro HS0.out.2.1 HS0.out.2.2.1))
   clear hlt hlo hhi
   go_wp2_with fail
   refine wp_region_held_drew (S := (fun w' => w'.cell? ⟨w.heap.size, 1, none⟩ = some (.slice (some ⟨g, o, none⟩) m capt) ∧ w'.cell? ⟨wr2.heap.size, 0, none⟩ = some (.string (B x.dir)) ∧ w'.cell? ⟨wr2.heap.size, 1, none⟩ = some (.int .i64 x.next))) (by kernel_rfl) ?_ (fun hH => ?_)
   ·exact HS.out
   refine tk 0 hH ?_
   refine tk 1 hH ?_
   refine rY 2 fun K hK => ?_
   go_simp
   go_at_call 67
   refine (HRI.out _).mono ?_
   rintro e w1 ⟨rfl, f1⟩
   have F := Lib.hid (HFR.out.then f1.fp)
   have HS1 := Lib.hid (And.intro (f1.fp.cell HS.out.1 id) (And.intro (f1.fp.cell HS.out.2.1 id) (f1.fp.cell HS.out.2.2 id)))
   clear f1
   go_wp2_with fail
   refine hK.out _ _ HS1.out (fun hH => ?_)
   clear hK K
   try simp only [zz]
   refine tk 3 hH ?_
   refine tk 4 hH ?_
   refine tk 5 hH ?_
   refine tk 6 hH ?_
   refine tk 7 hH ?_
   refine tk 8 hH ?_
   refine tk 9 hH ?_
   refine tk 10 hH ?_
   refine tk 11 hH ?_
   refine tk 12 hH ?_
   refine tk 13 hH ?_
   refine tk 14 hH ?_
   refine sk 15 hH ?_
   refine sk 16 hH ?_
   refine sk 17 hH ?_
   refine sk 18 hH ?_
   refine sk 19 hH ?_
   refine sk 20 hH ?_
   refine sk 21 hH ?_
   refine sk 22 hH ?_
   refine sk 23 hH ?_
   refine sk 24 hH ?_
   refine sk 25 hH ?_
   refine sk 26 hH ?_
   refine sk 27 hH ?_
   refine sk 28 hH ?_
   refine tk 29 hH ?_
   refine dn ?_
   go_wp2
   go_ret
   exact ⟨⟨false, rfl, ⟨fun h => (by cases h), fun h => absurd h HNO.out⟩⟩, HFW.out.then F.out⟩
  have q6 : (10000 < x.next) = False := eq_false hhi
  have HRG := Lib.hid (show 1 ≤ x.next ∧ x.next ≤ 10000 from ⟨by omega, by omega⟩)
  clear hlo hhi
  rcases Nat.eq_zero_or_pos j with hj0 | hj0
  ·subst hj0
   have HS := Lib.hid (And.intro HS0.out.1 (And.intro HS0.out.2.1 HS0.out.2.2.1))
   simp only [Nat.zero_mul, Nat.add_zero] at c0 c1
   clear hlt
   go_wp2_with fail
   refine wp_region_held_drew (S := (fun w' => w'.cell? ⟨w.heap.size, 1, none⟩ = some (.slice (some ⟨g, o, none⟩) m capt) ∧ w'.cell? ⟨wr2.heap.size, 0, none⟩ = some (.string (B x.dir)) ∧ w'.cell? ⟨wr2.heap.size, 1, none⟩ = some (.int .i64 x.next))) (by kernel_rfl) ?_ (fun hH => ?_)
   ·exact HS.out
   refine tk 0 hH ?_
   refine tk 1 hH ?_
   refine rY 2 fun K hK => ?_
   go_simp
   go_at_call 67
   refine (HRI.out _).mono ?_
   rintro e w1 ⟨rfl, f1⟩
   have F := Lib.hid (HFR.out.then f1.fp)
   have HS1 := Lib.hid (And.intro (f1.fp.cell HS.out.1 id) (And.intro (f1.fp.cell HS.out.2.1 id) (f1.fp.cell HS.out.2.2 id)))
   clear f1
   go_wp2_with fail
   refine hK.out _ _ HS1.out (fun hH => ?_)
   clear hK K
   try simp only [zz]
   refine tk 3 hH ?_
   refine tk 4 hH ?_
   refine tk 5 hH ?_
   refine tk 6 hH ?_
   refine tk 7 hH ?_
   refine tk 8 hH ?_
   refine tk 9 hH ?_
   refine tk 10 hH ?_
   refine tk 11 hH ?_
   refine tk 12 hH ?_
   refine tk 13 hH ?_
   refine tk 14 hH ?_
   refine tk 15 hH ?_
   refine tk 16 hH ?_
   refine tk 17 hH ?_
   refine sk 18 hH ?_
   refine sk 19 hH ?_
   refine sk 20 hH ?_
   refine sk 21 hH ?_
   refine sk 22 hH ?_
   refine sk 23 hH ?_
   refine sk 24 hH ?_
   refine sk 25 hH ?_
   refine sk 26 hH ?_
   refine sk 27 hH ?_
   refine tk 28 hH ?_
   refine tk 29 hH ?_
   refine dn ?_
   have hM : Hid (Fp Non w w1 ∧ w1.heap[w.heap.size]? = some (Obj.cells #[.slice ao k cap, .slice (some ⟨g, o, none⟩) m capt] 25 (0, 0)) ∧ Aht s (0 + 1)) := ⟨HFW.out.then F.out, F.out.heap HBX.out id, HAX.out (by first | rfl | trivial) HRG.out (fun h => absurd h (Nat.lt_irrefl 0))⟩
   have hkn := HK.out
   go_wp2
   go_roundw
   case rel => exact ⟨0 + 1, by have := HK.out; omega, by go_num, hM⟩
   case measure => have := HK.out; simp [RowKit.intOf]; omega
  have HS := Lib.hid (And.intro HS0.out.1 (And.intro HS0.out.2.1 (And.intro HS0.out.2.2.1 (HS0.out.2.2.2.1 hj0))))
  have wk : IntKind.i64.wrap ((j : Int) - 1) = ((j - 1 : Nat) : Int) := by rw [IntKind.wrap_i64]; omega
  have qz : ((0 : Int) < (j : Int)) = True := eq_true (by omega)
  have qz2 : (0 < j) = True := eq_true hj0
  have qn : (((j - 1 : Nat) : Int) < (m : Int)) = True := eq_true (by omega)
  have qn2 : (j - 1 < m) = True := eq_true (by omega)
  have HK0 := Lib.hid hj0
  by_cases hle : Op.bytesLess z x.dir = true
  ·have HLE := Lib.hid hle
   clear hlt hj0
   go_wp2_with fail
   refine wp_region_held_drew (S := (fun w' => w'.cell? ⟨w.heap.size, 1, none⟩ = some (.slice (some ⟨g, o, none⟩) m capt) ∧ w'.cell? ⟨wr2.heap.size, 0, none⟩ = some (.string (B x.dir)) ∧ w'.cell? ⟨wr2.heap.size, 1, none⟩ = some (.int .i64 x.next) ∧ w'.cell? ⟨g, o + (j - 1) * 2, none⟩ = some (.string (B z)))) (by kernel_rfl) ?_ (fun hH => ?_)
   ·exact HS.out
   refine tk 0 hH ?_
   refine tk 1 hH ?_
   refine rY 2 fun K hK => ?_
   go_simp
   go_at_call 67
   refine (HRI.out _).mono ?_
   rintro e w1 ⟨rfl, f1⟩
   have F := Lib.hid (HFR.out.then f1.fp)
   have HS1 := Lib.hid (And.intro (f1.fp.cell HS.out.1 id) (And.intro (f1.fp.cell HS.out.2.1 id) (And.intro (f1.fp.cell HS.out.2.2.1 id) (f1.fp.cell HS.out.2.2.2 id))))
   clear f1
   go_wp2_with fail
   refine hK.out _ _ HS1.out (fun hH => ?_)
   clear hK K
   try simp only [zz]
   refine tk 3 hH ?_
   refine tk 4 hH ?_
   refine tk 5 hH ?_
   refine tk 6 hH ?_
   refine tk 7 hH ?_
   refine tk 8 hH ?_
   refine tk 9 hH ?_
   refine tk 10 hH ?_
   refine tk 11 hH ?_
   refine tk 12 hH ?_
   refine tk 13 hH ?_
   refine tk 14 hH ?_
   refine tk 15 hH ?_
   refine tk 16 hH ?_
   refine tk 17 hH ?_
   refine tk 18 hH ?_
   refine tk 19 hH ?_
   refine tk 20 hH ?_
   refine tk 21 hH ?_
   refine tk 22 hH ?_
   refine tk 23 hH ?_
   refine tk 24 hH ?_
   refine tk 25 hH ?_
   refine tk 26 hH ?_
   refine tk 27 hH ?_
   refine tk 28 hH ?_
   refine tk 29 hH ?_
   refine dn ?_
   have hM : Hid (Fp Non w w1 ∧ w1.heap[w.heap.size]? = some (Obj.cells #[.slice ao k cap, .slice (some ⟨g, o, none⟩) m capt] 25 (0, 0)) ∧ Aht s (j + 1)) := ⟨HFW.out.then F.out, F.out.heap HBX.out id, HAX.out (by first | rfl | trivial) HRG.out (fun _ => HLE.out)⟩
   have hkn := HK.out
   go_wp2
   go_roundw
   case rel => exact ⟨j + 1, by have := HK.out; omega, by go_num, hM⟩
   case measure => have := HK.out; simp [RowKit.intOf]; omega
  have hle' : Op.bytesLess z x.dir = false := by simpa using hle
  have HNO := Lib.hid (show ¬ StW s from fun h => hle (HS0.out.2.2.2.2.1 HK0.out h))
  clear hlt hj0 hle
  go_wp2_with fail
  refine wp_region_held_drew (S := (fun w' => w'.cell? ⟨w.heap.size, 1, none⟩ = some (.slice (some ⟨g, o, none⟩) m capt) ∧ w'.cell? ⟨wr2.heap.size, 0, none⟩ = some (.string (B x.dir)) ∧ w'.cell? ⟨wr2.heap.size, 1, none⟩ = some (.int .i64 x.next) ∧ w'.cell? ⟨g, o + (j - 1) * 2, none⟩ = some (.string (B z)))) (by kernel_rfl) ?_ (fun hH => ?_)
  ·exact HS.out
  refine tk 0 hH ?_
  refine tk 1 hH ?_
  refine rY 2 fun K hK => ?_
  go_simp
  go_at_call 67
  refine (HRI.out _).mono ?_
  rintro e w1 ⟨rfl, f1⟩
  have F := Lib.hid (HFR.out.then f1.fp)
  have HS1 := Lib.hid (And.intro (f1.fp.cell HS.out.1 id) (And.intro (f1.fp.cell HS.out.2.1 id) (And.intro (f1.fp.cell HS.out.2.2.1 id) (f1.fp.cell HS.out.2.2.2 id))))
  clear f1
  go_wp2_with fail
  refine hK.out _ _ HS1.out (fun hH => ?_)
  clear hK K
  try simp only [zz]
  refine tk 3 hH ?_
  refine tk 4 hH ?_
  refine tk 5 hH ?_
  refine tk 6 hH ?_
  refine tk 7 hH ?_
  refine tk 8 hH ?_
  refine tk 9 hH ?_
  refine tk 10 hH ?_
  refine tk 11 hH ?_
  refine tk 12 hH ?_
  refine tk 13 hH ?_
  refine tk 14 hH ?_
  refine tk 15 hH ?_
  refine tk 16 hH ?_
  refine tk 17 hH ?_
  refine tk 18 hH ?_
  refine tk 19 hH ?_
  refine tk 20 hH ?_
  refine tk 21 hH ?_
  refine tk 22 hH ?_
  refine tk 23 hH ?_
  refine tk 24 hH ?_
  refine tk 25 hH ?_
  refine tk 26 hH ?_
  refine tk 27 hH ?_
  refine tk 28 hH ?_
  refine tk 29 hH ?_
  refine dn ?_
  go_wp2
  go_ret
  exact ⟨⟨false, rfl, ⟨fun h => (by cases h), fun h => absurd h HNO.out⟩⟩, HFW.out.then F.out⟩
 have hke : j = m := by omega
 subst hke
 have q3 : ((j : Int) < (j : Int)) = False := eq_false (by omega)
 have HFX := Lib.hid hR.out.1
 have HSW := Lib.hid (stW_ah (s := s) (by rw [← HX.out.1]; exact HAN.out) (by rw [← HT.out.1]; exact hR.out.2.2))
 clear hlt hj
 go_wp2
 go_ret
 exact ⟨⟨true, rfl, ⟨fun _ => HSW.out, fun _ => rfl⟩⟩, HFX.out⟩
open Go.ChangeShapes Go.WideShapes Go.ChangeAt Go.RowKit Pm Go.Deep
open Go.WideMaps Go.WideElems
open Go.ChangeMaps (setBlock shut_map_nil open_string shut_string)
theorem spot_none {w : World} {a : Addr} {v : Value} (h : w.cell? a = some v) : ∃ g o, a = ⟨g, o, none⟩ := by
 obtain ⟨g, o, spot⟩ := a
 have hs : spot = none := World.cell?_spot h
 exact ⟨g, o, by rw [hs]⟩
theorem Tryz.cellsNd : Tryz.prog.cellsOf 79 = 5 := by kernel_rfl
theorem Tryz.bytesNd : Tryz.prog.bytesOf 79 = 56 := by kernel_rfl
theorem Tryz.cellsStr' : Tryz.prog.cellsOf 9 = 1 := by kernel_rfl
theorem Tryz.cellsOp : Tryz.prog.cellsOf 41 = 6 := by kernel_rfl
theorem Tryz.cellsInt : Tryz.prog.cellsOf 3 = 1 := by kernel_rfl
theorem Tryz.cellsBoo : Tryz.prog.cellsOf 4 = 1 := by kernel_rfl
theorem Tryz.cellsI64 : Tryz.prog.cellsOf 2 = 1 := by kernel_rfl
section
variable {H : Type} {enc : TypeId × Value → H} {W : World}
theorem nd_of {n : Nat} {cs : List Value} {y : DataW H × List MemPlace} (hlen : cs.length = 5) (h : DataW.trod enc Tryz.prog W 0 (fun _ => true) true n 79 cs = some y) :
  ∃ x : Nd, cs = ndC x ∧ x.path.length ≤ maxLen ∧ x.data.length ≤ maxLen := by
 obtain ⟨xs, k, hk, hxy, _, hxl, hf⟩ := DataW.trod_struct Tryz.underlying79 h
 match xs, hxl, cs, hlen with
 | [y0, y1, y2, y3, y4], _, [v0, v1, v2, v3, v4], _ =>
  have g0 := hf 0 _ rfl
  have g1 := hf 1 _ rfl
  have g2 := hf 2 _ rfl
  have g3 := hf 3 _ rfl
  have g4 := hf 4 _ rfl
  simp [Tryz.cellsStr'] at g0
  simp [Tryz.cellsStr'] at g1
  simp [Tryz.cellsI64] at g2
  simp [Tryz.cellsI64] at g3
  simp [Tryz.cellsI64] at g4
  obtain ⟨z0, e0, _, h0⟩ := DataW.trod_string Tryz.underlying9 g0
  obtain ⟨z1, e1, _, h1⟩ := DataW.trod_string Tryz.underlying9 g1
  obtain ⟨z2, e2, _, _⟩ := DataW.trod_int Tryz.underlying2 g2
  obtain ⟨z3, e3, _, _⟩ := DataW.trod_int Tryz.underlying2 g3
  obtain ⟨z4, e4, _, _⟩ := DataW.trod_int Tryz.underlying2 g4
  simp only [List.cons.injEq, and_true] at e0 e1 e2 e3 e4
  subst e0 e1 e2 e3 e4
  refine ⟨⟨z0.data.toList, z1.data.toList, z2, z3, z4⟩, ?_, ?_, ?_⟩
  ·unfold ndC strV; rw [← B_of, ← B_of]
  ·simpa using h0
  simpa using h1
theorem open_nodes {v : Value} {d : DataW H} {p : List MemPlace} {base : Nat} (hv : Value.okWide Tryz.prog W .any base 22 v) (h : DataW.Trod enc Tryz.prog W 0 (fun _ => true) true 22 v d p) (hsz : ∀ n ∈ d.weights Tryz.prog 22, n ≤ reachBytes) :
  ∃ l, Ns W v l ∧ l.length ≤ 140737488355328 ∧ ∀ x ∈ l, x.path.length ≤ maxLen ∧ x.data.length ≤ maxLen := by
 obtain ⟨a0, len, cap, rfl⟩ := okWide_slice Tryz.underlying22 hv
 obtain ⟨fuel, hf⟩ := h
 have hf : DataW.trod enc Tryz.prog W 0 (fun _ => true) true fuel 22 [.slice a0 len cap] = some (d, p) := by simpa [Value.cells] using hf
 rcases open_slice Tryz.underlying22 hf with ⟨hcs, hx⟩ | ⟨a, len', cap', m, n, D, Pl, hcs, _, hl, hm, hmm, hx, hel⟩
 ·simp only [List.cons.injEq, Value.slice.injEq, and_true] at hcs
  obtain ⟨rfl, rfl, rfl⟩ := hcs
  exact ⟨[], Ns.nil W, Nat.zero_le _, fun _ h => by cases h⟩
 simp only [List.cons.injEq, Value.slice.injEq, and_true] at hcs
 obtain ⟨rfl, rfl, rfl⟩ := hcs
 simp only [if_true] at hmm
 subst hmm
 have hlb : len ≤ 140737488355328 := by
  simp only [Prod.mk.injEq] at hx
  rw [hx.1] at hsz
  simp only [DataW.weights, Tryz.underlying22] at hsz
  have := hsz _ (List.mem_cons_self ..)
  rw [Tryz.bytesNd] at this
  simp only [List.length_map, List.length_range, reachBytes] at this
  omega
 have each : ∀ i, i < len → ∃ x : Nd, (∀ j (hj : j < 5), W.cell? (a.add (i * 5 + j)) = (ndC x)[j]?) ∧ x.path.length ≤ maxLen ∧ x.data.length ≤ maxLen := by
  intro i hi
  obtain ⟨cs', h1, h2⟩ := hel i (by omega)
  rw [Tryz.cellsNd] at h1
  obtain ⟨_, hlen, hcell⟩ := World.cells?_some h1
  obtain ⟨x, rfl, h3, h4⟩ := nd_of hlen h2
  refine ⟨x, fun j hj => ?_, h3, h4⟩
  have := hcell j (by omega)
  rw [add_add] at this
  exact this
 obtain ⟨f, hfi⟩ : ∃ f : Nat → Nd, ∀ i, i < len → (∀ j (hj : j < 5), W.cell? (a.add (i * 5 + j)) = (ndC (f i))[j]?) ∧ (f i).path.length ≤ maxLen ∧ (f i).data.length ≤ maxLen := by
  haveI : Inhabited Nd := ⟨zeroNd⟩
  exact choose_lt each
 have hlen : ((List.range len).map f).length = len := by simp
 by_cases h0 : len = 0
 ·subst h0
  exact ⟨[], ⟨some a, m, rfl, by simp, hm, .inl rfl⟩, Nat.zero_le _, fun _ h => by cases h⟩
 have hc0 := (hfi 0 (by omega)).1 0 (by omega)
 have hc0 : W.cell? a = some (.string (B (f 0).path)) := by simpa [Addr.add, ndC, strV] using hc0
 have hlt := World.block_lt_of_cell? W a hc0
 obtain ⟨g, o, rfl⟩ := spot_none hc0
 refine ⟨(List.range len).map f, ⟨some ⟨g, o, none⟩, m, by rw [hlen], by rw [hlen]; exact hl, hm, .inr ⟨g, o, rfl, hlt, fun i hi => ?_⟩⟩, by rw [hlen]; exact hlb, fun x hx => ?_⟩
 ·rw [hlen] at hi
  obtain ⟨k1, _, _⟩ := hfi i (by omega)
  simp only [List.getElem_map, List.getElem_range]
  have q0 := k1 0 (by omega)
  have q1 := k1 1 (by omega)
  have q2 := k1 2 (by omega)
  have q3 := k1 3 (by omega)
  have q4 := k1 4 (by omega)
  rw [Addr.add_lit] at q0 q1 q2 q3 q4
  exact ⟨by simpa [ndC] using q0, by simpa [Nat.add_assoc, ndC] using q1, by simpa [Nat.add_assoc, ndC] using q2, by simpa [Nat.add_assoc, ndC] using q3, by simpa [Nat.add_assoc, ndC] using q4⟩
 obtain ⟨i, hi, rfl⟩ := List.mem_map.1 hx
 exact (hfi i (List.mem_range.1 hi)).2
theorem open_op {v : Value} {d : DataW H} {p : List MemPlace} {base : Nat} (hv : Value.okWide Tryz.prog W .any base 41 v) (h : DataW.Trod enc Tryz.prog W 0 (fun _ => true) true 41 v d p) :
  ∃ o : Opn, v = opV o ∧ o.path.length ≤ maxLen ∧ o.data.length ≤ maxLen := by
 obtain ⟨cs, rfl, hcs⟩ := okWide_struct Tryz.underlying41 hv
 rw [Tryz.cellsOp] at hcs
 obtain ⟨fuel, hf⟩ := h
 have hf : DataW.trod enc Tryz.prog W 0 (fun _ => true) true fuel 41 cs.toList = some (d, p) := by simpa [Value.cells] using hf
 obtain ⟨cs⟩ := cs
 simp only at hf
 have hlen : cs.length = 6 := by simpa using hcs
 obtain ⟨xs, k, hk, hxy, _, hxl, hf⟩ := DataW.trod_struct Tryz.underlying41 hf
 match xs, hxl, cs, hlen with
 | [y0, y1, y2, y3, y4, y5], _, [v0, v1, v2, v3, v4, v5], _ =>
  have g0 := hf 0 _ rfl
  have g1 := hf 1 _ rfl
  have g2 := hf 2 _ rfl
  have g3 := hf 3 _ rfl
  have g4 := hf 4 _ rfl
  have g5 := hf 5 _ rfl
  simp [Tryz.cellsInt] at g0
  simp [Tryz.cellsStr'] at g1
  simp [Tryz.cellsStr'] at g2
  simp [Tryz.cellsI64] at g3
  simp [Tryz.cellsI64] at g4
  simp [Tryz.cellsBoo] at g5
  obtain ⟨z0, e0, _, _⟩ := DataW.trod_int Tryz.underlying3 g0
  obtain ⟨z1, e1, _, h1⟩ := DataW.trod_string Tryz.underlying9 g1
  obtain ⟨z2, e2, _, h2⟩ := DataW.trod_string Tryz.underlying9 g2
  obtain ⟨z3, e3, _, _⟩ := DataW.trod_int Tryz.underlying2 g3
  obtain ⟨z4, e4, _, _⟩ := DataW.trod_int Tryz.underlying2 g4
  obtain ⟨z5, e5, _⟩ := DataW.trod_bool Tryz.underlying4 g5
  simp only [List.cons.injEq, and_true] at e0 e1 e2 e3 e4 e5
  subst e0 e1 e2 e3 e4 e5
  refine ⟨⟨z0, z1.data.toList, z2.data.toList, z3, z4, z5⟩, ?_, ?_, ?_⟩
  ·unfold opV strV; rw [← B_of, ← B_of]
  ·simpa using h1
  simpa using h2
end
end Go.Proofs.YtphoglepiegeiaaGreatDoor
namespace Go.Proofs.YtphoglepiegeiaaGreatDoor
set_option maxRecDepth 20000
open Go.RowKit Pm
end Go.Proofs.YtphoglepiegeiaaGreatDoor
