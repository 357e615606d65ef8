/- Nodes that have a path alone; part.Right of a store of such nodes (gen_on.py) -/
import Derived.Test.YtcjpgenlhphapaaOc
import Derived.Test.YtcjpgenlhphapaaOg
import Derived.Shelf.Abstract
namespace Go.Proofs.Ytcjpgenlhphapaa
set_option maxRecDepth 20000
set_option linter.unusedVariables false
set_option linter.unusedSimpArgs false
open Go.RowKit Pm


abbrev TNd : TypeId := 40
abbrev TLN : TypeId := 31
abbrev TSt : TypeId := 34
def ndC (p : Bs) : List Value := [.string (B p), .string ⟨#[]⟩, .int .i64 0, .int .i64 0, .int .i64 0]
theorem ndC_len (p : Bs) : (ndC p).length = 5 := rfl
theorem ndC_one : ∀ p, ∀ u ∈ ndC p, u.oneCell' = true := by
  intro p u hu
  simp only [ndC, List.mem_cons, List.not_mem_nil, or_false] at hu
  rcases hu with rfl | rfl | rfl | rfl | rfl <;> rfl
abbrev SgN (w : World) (v : Value) (l : List Bs) : Prop := Sg ndC 5 w v l
abbrev OwN (lo : Nat) (w : World) (v : Value) (l : List Bs) : Prop := OwG TNd ndC 5 lo w v l
theorem ElAt.c0 {w : World} {g o : Nat} {p : Bs} (h : ElAt ndC w g o p) : w.cell? ⟨g, o, none⟩ = some (.string (B p)) := h.get 0 _ rfl
theorem ElAt.c1 {w : World} {g o : Nat} {p : Bs} (h : ElAt ndC w g o p) : w.cell? ⟨g, o + 1, none⟩ = some (.string ⟨#[]⟩) := h.get 1 _ rfl
theorem ElAt.c2 {w : World} {g o : Nat} {p : Bs} (h : ElAt ndC w g o p) : w.cell? ⟨g, o + 2, none⟩ = some (.int .i64 0) := h.get 2 _ rfl
theorem ElAt.c3 {w : World} {g o : Nat} {p : Bs} (h : ElAt ndC w g o p) : w.cell? ⟨g, o + 3, none⟩ = some (.int .i64 0) := h.get 3 _ rfl
theorem ElAt.c4 {w : World} {g o : Nat} {p : Bs} (h : ElAt ndC w g o p) : w.cell? ⟨g, o + 4, none⟩ = some (.int .i64 0) := h.get 4 _ rfl
theorem Try.infoNd : (Try.prog.info? TNd).map (fun i => (i.zero, i.size, i.bytes)) = some (some (.agg #[.string ⟨#[]⟩, .string ⟨#[]⟩, .int .i64 0, .int .i64 0, .int .i64 0]), 5, 56) := by kernel_rfl
theorem szNd (w : World) : (sizeOf TNd).run Try.prog w = .ok 5 w := by
  obtain ⟨i, hi, _, hs, _⟩ := info_parts Try.infoNd
  simp [sizeOf, typeInfo, hi, hs]
theorem bxN5 (wr : World) (x : Bs) : (wr.alloc (Obj.cells #[.string (B x), .string ⟨#[]⟩, .int .i64 0, .int .i64 0, .int .i64 0] TNd)).cell? ⟨wr.heap.size, 0, none⟩ = some (.string (B x)) ∧ (wr.alloc (Obj.cells #[.string (B x), .string ⟨#[]⟩, .int .i64 0, .int .i64 0, .int .i64 0] TNd)).cell? ⟨wr.heap.size, 1, none⟩ = some (.string ⟨#[]⟩) ∧ (wr.alloc (Obj.cells #[.string (B x), .string ⟨#[]⟩, .int .i64 0, .int .i64 0, .int .i64 0] TNd)).cell? ⟨wr.heap.size, 2, none⟩ = some (.int .i64 0) ∧ (wr.alloc (Obj.cells #[.string (B x), .string ⟨#[]⟩, .int .i64 0, .int .i64 0, .int .i64 0] TNd)).cell? ⟨wr.heap.size, 3, none⟩ = some (.int .i64 0) ∧ (wr.alloc (Obj.cells #[.string (B x), .string ⟨#[]⟩, .int .i64 0, .int .i64 0, .int .i64 0] TNd)).cell? ⟨wr.heap.size, 4, none⟩ = some (.int .i64 0) := by
  have h := heap_alloc_new wr (Obj.cells #[.string (B x), .string ⟨#[]⟩, .int .i64 0, .int .i64 0, .int .i64 0] TNd)
  exact ⟨by rw [cell_of_row _ _ _ _ _ _ h]; rfl, by rw [cell_of_row _ _ _ _ _ _ h]; rfl, by rw [cell_of_row _ _ _ _ _ _ h]; rfl, by rw [cell_of_row _ _ _ _ _ _ h]; rfl, by rw [cell_of_row _ _ _ _ _ _ h]; rfl⟩

set_option maxHeartbeats 1000000 in
theorem within_yes (a b : Int) (w : World) (ha : 0 ≤ a) (hb : a ≤ b) : Calls Try.prog 62 #[.int .i64 a, .int .i64 0, .int .i64 b] w fun e w' => e = .returned (.bool true) ∧ w' = w := by
  have q1 : ((0 : Int) ≤ a) = True := eq_true ha
  have q2 : (a ≤ b) = True := eq_true hb
  clear ha hb
  go_enter Try.func62, Try.ntmps62
  go_wp2
  all_goals
    go_ret
    refine ⟨ret_bool ?_, rfl⟩
    simp [q1, q2]

set_option maxHeartbeats 1000000 in
theorem fitsN_c (x : Bs) (w : World) (hx : (split x).isSome = true) : Calls Try.prog 61 #[.agg #[.string (B x), .string ⟨#[]⟩, .int .i64 0, .int .i64 0, .int .i64 0]] w fun e w' => e = .returned (.bool true) ∧ Fp Non w w' := by
  have hl : x.length ≤ 1000000 := by
    obtain ⟨a, ha⟩ := Option.isSome_iff_exists.1 hx
    have := (split_iff x a).1 ha
    have h2 := joinP_len this.1
    rw [this.2] at h2; omega
  have h1 := fun w => Right_g x w (sz_of hl (by omega))
  rw [hx] at h1
  have hb := bxN5 w x
  have HF := Lib.hid (fp_alloc w (Obj.cells #[.string (B x), .string ⟨#[]⟩, .int .i64 0, .int .i64 0, .int .i64 0] TNd))
  have HB := Lib.hid hb
  have H1 := Lib.hid h1
  obtain ⟨d0, d1, d2, d3, d4⟩ := hb
  clear h1 hx hl
  go_enter Try.func61, Try.ntmps61
  go_wp2_with fail
  refine (H1.out _).mono ?_
  rintro e w1 ⟨rfl, hg⟩
  have hf := hg.fp
  have e0 := hf.cell HB.out.1 (fun h => h)
  have e1 := hf.cell HB.out.2.1 (fun h => h)
  have e2 := hf.cell HB.out.2.2.1 (fun h => h)
  have e3 := hf.cell HB.out.2.2.2.1 (fun h => h)
  have e4 := hf.cell HB.out.2.2.2.2 (fun h => h)
  have HG := Lib.hid (HF.out.then hf)
  clear hg hf d0 d1 d2 d3 d4
  go_wp2_with fail
  all_goals
    refine (within_yes 0 281474976710656 _ (by omega) (by omega)).mono ?_
    rintro e w2 ⟨rfl, rfl⟩
    go_wp2_with fail
    refine (within_yes 0 1099511627776 _ (by omega) (by omega)).mono ?_
    rintro e w2 ⟨rfl, rfl⟩
    go_wp2
    go_ret
    exact ⟨rfl, HG.out⟩

set_option maxHeartbeats 8000000 in
theorem rightN_c (vn : Value) (l : List Bs) (w : World) (hv : SgN w vn l) (hs : ∀ x ∈ l, (split x).isSome = true) (hu : Up l) (hn : l.length ≤ 1000000) :
    Calls Try.prog 40 #[.agg #[vn, .slice none 0 0]] w fun e w' => e = .returned (.bool true) ∧ Fp Non w w' := by
  obtain ⟨ao, cap, rfl⟩ := hv.shape
  obtain ⟨n, hnn⟩ : ∃ n, n = l.length := ⟨_, rfl⟩
  have HX := Lib.hid (And.intro hnn (And.intro hv (And.intro hs hu)))
  rw [← hnn]
  have hnb : n ≤ 1000000 := by omega
  have HB0 := Lib.hid (show (w.alloc (Obj.cells #[.slice ao n cap, .slice none 0 0] TSt)).cell? ⟨w.heap.size, 0, none⟩ = some (.slice ao n cap) ∧ (w.alloc (Obj.cells #[.slice ao n cap, .slice none 0 0] TSt)).cell? ⟨w.heap.size, 1, none⟩ = some (.slice none 0 0) from ⟨by rw [cell_of_row _ _ _ _ _ _ (heap_alloc_new w _)]; rfl, by rw [cell_of_row _ _ _ _ _ _ (heap_alloc_new w _)]; rfl⟩)
  have HF0 := Lib.hid (fp_alloc w (Obj.cells #[.slice ao n cap, .slice none 0 0] TSt))
  clear hv hs hu hn hnn
  go_enter Try.func40, Try.ntmps40
  go_wp2_with fail
  obtain ⟨W0, hW0⟩ : ∃ W0, W0 = w.alloc (Obj.cells #[.slice ao n cap, .slice none 0 0] TSt) := ⟨_, rfl⟩
  rw [← hW0] at HB0 HF0 ⊢
  clear hW0
  go_loopw [10] (fun i wr => ∃ k : Nat, k ≤ n ∧ i = .int .i64 k ∧ Hid (Fp Non W0 wr)) (fun i _ => n - (RowKit.intOf i).toNat)
  case atStart => exact ⟨0, Nat.zero_le _, rfl, Fp.refl _ _⟩
  case round =>
    obtain ⟨k, hk, rfl, hR⟩ := hrel
    rename_i wr _
    by_cases hlt : k < n
    · have hkl : k < l.length := by rw [← HX.out.1]; exact hlt
      obtain ⟨g, o, cap', e, hcell⟩ := HX.out.2.1.at (by omega)
      rw [← HX.out.1] at e
      injection e with e1 e2 e3
      subst e1 e3
      have f0 := HF0.out.then hR.out
      have hnd := (hcell k hkl).keep f0 (fun h => h)
      have hord : ∀ h0 : 0 < k, lt (l[k - 1]'(by omega)) l[k] = true := fun h0 => List.pairwise_iff_getElem.1 HX.out.2.2.2 (k - 1) k (by omega) hkl (by omega)
      have hxs := HX.out.2.2.1 _ (List.getElem_mem hkl)
      obtain ⟨x, hx⟩ : ∃ x, x = l[k] := ⟨_, rfl⟩
      rw [← hx] at hnd hxs hord
      have c0 := hnd.c0; have c1 := hnd.c1; have c2 := hnd.c2; have c3 := hnd.c3; have c4 := hnd.c4
      have q3 : ((k : Int) < (n : Int)) = True := eq_true (by omega)
      have q4 : (k < n) = True := eq_true hlt
      have hfc := fun w => fitsN_c x w hxs
      have hszn := szNd
      have hbb := bxN5 wr x
      have HB := Lib.hid (And.intro ((fp_alloc wr (Obj.cells #[.string (B x), .string ⟨#[]⟩, .int .i64 0, .int .i64 0, .int .i64 0] TNd)).drew) hbb)
      have HR0 := Lib.hid hR.out
      have HK := Lib.hid hlt
      have HFC := Lib.hid hfc
      have HO := Lib.hid hord
      have hst : (wr.alloc (Obj.cells #[.string (B x), .string ⟨#[]⟩, .int .i64 0, .int .i64 0, .int .i64 0] TNd)).drew.cell? ⟨w.heap.size, 0, none⟩ = some (.slice (some ⟨g, o, none⟩) n cap) := HB.out.1.cell (hR.out.cell HB0.out.1 (fun h => h)) (fun h => h)
      have hpc : ∀ h0 : 0 < k, (wr.alloc (Obj.cells #[.string (B x), .string ⟨#[]⟩, .int .i64 0, .int .i64 0, .int .i64 0] TNd)).drew.cell? ⟨g, o + (k - 1) * 5, none⟩ = some (.string (B (l[k - 1]'(by omega)))) := fun h0 => HB.out.1.cell ((hcell (k - 1) (by omega)).keep f0 (fun h => h)).c0 (fun h => h)
      clear hfc hbb hxs hx hnd hcell f0 hord
      rcases Nat.eq_zero_or_pos k with hk0 | hk0
      · subst hk0
        simp only [Nat.zero_mul, Nat.add_zero] at c0 c1 c2 c3 c4
        clear hlt hk hst hpc HO hkl
        go_wp2_with fail
        refine wp_region_held_drew (S := (fun w' => w'.cell? ⟨wr.heap.size, 0, none⟩ = some (.string (B x)) ∧ w'.cell? ⟨wr.heap.size, 1, none⟩ = some (.string ⟨#[]⟩) ∧ w'.cell? ⟨wr.heap.size, 2, none⟩ = some (.int .i64 0) ∧ w'.cell? ⟨wr.heap.size, 3, none⟩ = some (.int .i64 0) ∧ w'.cell? ⟨wr.heap.size, 4, none⟩ = some (.int .i64 0))) (by kernel_rfl) ?_ (fun hHeld => ?_)
        · exact ⟨HB.out.2.1, HB.out.2.2.1, HB.out.2.2.2.1, HB.out.2.2.2.2.1, HB.out.2.2.2.2.2⟩
        try simp only [zP, zN, zS, zT, zU]
        refine tk 0 hHeld ?_
        refine rY 1 (fun K hK => ?_)
        go_simp
        go_at_call 61
        refine (HFC.out _).mono ?_
        rintro e w1 ⟨rfl, f1⟩
        have HS1 := Lib.hid (And.intro (f1.cell HB.out.2.1 (fun h => h)) (And.intro (f1.cell HB.out.2.2.1 (fun h => h)) (And.intro (f1.cell HB.out.2.2.2.1 (fun h => h)) (And.intro (f1.cell HB.out.2.2.2.2.1 (fun h => h)) (f1.cell HB.out.2.2.2.2.2 (fun h => h))))))
        have F := Lib.hid (HB.out.1.then f1)
        clear f1
        go_wp2_with fail
        refine hK.out _ _ HS1.out (fun hHeld => ?_)
        clear hK K
        try simp only [zP, zN, zS, zT, zU]
        refine tk 2 hHeld ?_
        refine tk 3 hHeld ?_
        refine tk 4 hHeld ?_
        refine tk 5 hHeld ?_
        refine tk 6 hHeld ?_
        refine sk 7 hHeld ?_
        refine sk 8 hHeld ?_
        refine sk 9 hHeld ?_
        refine sk 10 hHeld ?_
        refine sk 11 hHeld ?_
        refine sk 12 hHeld ?_
        refine sk 13 hHeld ?_
        refine sk 14 hHeld ?_
        refine sk 15 hHeld ?_
        refine sk 16 hHeld ?_
        refine tk 17 hHeld ?_
        refine tk 18 hHeld ?_
        refine yD ?_
        have hkn := HK.out
        go_wp2
        go_roundw
        case rel => exact ⟨1, by have := HK.out; omega, by go_num, HR0.out.then F.out⟩
        case measure => have := HK.out; simp [RowKit.intOf]; omega
      · have hpc := hpc hk0
        have hoo := HO.out hk0
        obtain ⟨z, hz⟩ : ∃ z, z = l[k - 1]'(by omega) := ⟨_, rfl⟩
        rw [← hz] at hpc hoo
        have HP := Lib.hid (And.intro hst hpc)
        have wk : IntKind.i64.wrap ((k : Int) - 1) = ((k - 1 : Nat) : Int) := by rw [IntKind.wrap_i64]; omega
        have qz : ((0 : Int) < (k : Int)) = True := eq_true (by omega)
        have qz2 : (0 < k) = True := eq_true hk0
        have qn : (((k - 1 : Nat) : Int) < (n : Int)) = True := eq_true (by omega)
        have qn2 : (k - 1 < n) = True := eq_true (by omega)
        have hle' : (Op.bytesLess x z || x == z) = false := by
          have h1 : Op.bytesLess x z = false := lt_asymm hoo
          rw [h1, beq_eq_false_iff_ne.2 (fun e => by rw [e, lt_irrefl] at hoo; cases hoo)]; rfl
        clear hlt hk hk0 hst hpc HO hz hoo
        go_wp2_with fail
        refine wp_region_held_drew (S := (fun w' => w'.cell? ⟨wr.heap.size, 0, none⟩ = some (.string (B x)) ∧ w'.cell? ⟨wr.heap.size, 1, none⟩ = some (.string ⟨#[]⟩) ∧ w'.cell? ⟨wr.heap.size, 2, none⟩ = some (.int .i64 0) ∧ w'.cell? ⟨wr.heap.size, 3, none⟩ = some (.int .i64 0) ∧ w'.cell? ⟨wr.heap.size, 4, none⟩ = some (.int .i64 0) ∧ w'.cell? ⟨w.heap.size, 0, none⟩ = some (.slice (some ⟨g, o, none⟩) n cap) ∧ w'.cell? ⟨g, o + (k - 1) * 5, none⟩ = some (.string (B z)))) (by kernel_rfl) ?_ (fun hHeld => ?_)
        · exact ⟨HB.out.2.1, HB.out.2.2.1, HB.out.2.2.2.1, HB.out.2.2.2.2.1, HB.out.2.2.2.2.2, HP.out.1, HP.out.2⟩
        try simp only [zP, zN, zS, zT, zU]
        refine tk 0 hHeld ?_
        refine rY 1 (fun K hK => ?_)
        go_simp
        go_at_call 61
        refine (HFC.out _).mono ?_
        rintro e w1 ⟨rfl, f1⟩
        have HS1 := Lib.hid (And.intro (f1.cell HB.out.2.1 (fun h => h)) (And.intro (f1.cell HB.out.2.2.1 (fun h => h)) (And.intro (f1.cell HB.out.2.2.2.1 (fun h => h)) (And.intro (f1.cell HB.out.2.2.2.2.1 (fun h => h)) (And.intro (f1.cell HB.out.2.2.2.2.2 (fun h => h)) (And.intro (f1.cell HP.out.1 (fun h => h)) (f1.cell HP.out.2 (fun h => h))))))))
        have F := Lib.hid (HB.out.1.then f1)
        clear f1
        go_wp2_with fail
        refine hK.out _ _ HS1.out (fun hHeld => ?_)
        clear hK K
        try simp only [zP, zN, zS, zT, zU]
        refine tk 2 hHeld ?_
        refine tk 3 hHeld ?_
        refine tk 4 hHeld ?_
        refine tk 5 hHeld ?_
        refine tk 6 hHeld ?_
        refine tk 7 hHeld ?_
        refine tk 8 hHeld ?_
        refine tk 9 hHeld ?_
        refine tk 10 hHeld ?_
        refine tk 11 hHeld ?_
        refine tk 12 hHeld ?_
        refine tk 13 hHeld ?_
        refine tk 14 hHeld ?_
        refine tk 15 hHeld ?_
        refine tk 16 hHeld ?_
        refine tk 17 hHeld ?_
        refine tk 18 hHeld ?_
        refine yD ?_
        have hkn := HK.out
        go_wp2
        go_roundw
        case rel => exact ⟨k + 1, by have := HK.out; omega, by go_num, HR0.out.then F.out⟩
        case measure => have := HK.out; simp [RowKit.intOf]; omega
    · have hke : k = n := by omega
      subst hke
      have q3 : ((k : Int) < (k : Int)) = False := eq_false (by omega)
      have t1 := hR.out.cell HB0.out.2 (fun h => h)
      clear hlt hk
      go_wp2_with fail
      have HF1 := Lib.hid (HF0.out.then hR.out)
      clear t1
      go_loopw [38] (fun i wr2 => i = .int .i64 0 ∧ Hid (Fp Non w wr2)) (fun i _ => 0)
      case atStart => exact ⟨rfl, HF1.out⟩
      case round =>
        obtain ⟨rfl, hS⟩ := hrel
        go_wp2
        go_ret
        exact ⟨rfl, hS.out⟩
end Go.Proofs.Ytcjpgenlhphapaa
