/- A text of this proof. -/
import Derived.Deep.RegionHeld
import Derived.Deep.RegionLaw
import Derived.Laws.StructEq
import Derived.Lib.Bytealg
import Derived.Lib.SliceRun
import Derived.Shelf.Abstract
import Derived.Test.YtphoglepiegeiaaGreatDoorZAC
import Derived.Test.YtphoglepiegeiaaGreatDoorZAD
namespace Go.Proofs.YtphoglepiegeiaaGreatDoor
set_option linter.unusedSimpArgs false
set_option linter.unusedVariables false
set_option maxRecDepth 20000
open Go.RowKit Pm
def Sp (l : List Nd) : Prop := ∀ n ∈ l, n.path.length ≤ 1000000
structure RgM (l : List Nd) (m : Nat) (w : World) (k : Nat) (wr : World) : Prop where
 fp : Fp Non w wr
 om : Om wr m (l.take k)
 chk : ∀ j (h : j < l.length), j < k → Chk l j h
 lo : w.heap.size ≤ m
theorem tree_not {l : List Nd} {k : Nat} (hk : k < l.length) (h : ¬ Chk l k hk) : right l = false := right_false (fun t => h (t.chk k hk))
theorem NdAt.box (w : World) (x : Nd) : NdAt (w.alloc (Obj.cells #[.string (B x.path), .string (B x.data), .int .i64 x.ver, .int .i64 x.turn, .int .i64 x.own] 79)) w.heap.size 0 x := by
 have h := heap_alloc_new w (Obj.cells #[.string (B x.path), .string (B x.data), .int .i64 x.ver, .int .i64 x.turn, .int .i64 x.own] 79)
 exact ⟨by rw [cell_of_row _ _ _ _ _ _ h]; rfl, by rw [cell_of_row _ _ _ _ _ _ h]; rfl, by rw [cell_of_row _ _ _ _ _ _ h]; rfl, by rw [cell_of_row _ _ _ _ _ _ h]; rfl, by rw [cell_of_row _ _ _ _ _ _ h]; rfl⟩
theorem NdAt.five {w : World} {g : Nat} {x : Nd} (h : NdAt w g 0 x) : w.cell? ⟨g, 0, none⟩ = some (.string (B x.path)) ∧ w.cell? ⟨g, 1, none⟩ = some (.string (B x.data)) ∧ w.cell? ⟨g, 2, none⟩ = some (.int .i64 x.ver) ∧ w.cell? ⟨g, 3, none⟩ = some (.int .i64 x.turn) ∧ w.cell? ⟨g, 4, none⟩ = some (.int .i64 x.own) :=
 ⟨h.c0, h.c1, h.c2, h.c3, h.c4⟩
theorem find_new {l : List Nd} {k : Nat} (hk : k < l.length) (h : ∀ j (h : j < l.length), j < k → Chk l j h) (hlt : 0 < k → ∀ h' : k - 1 < l.length, lt l[k-1].path l[k].path = true) : find (l.take k) l[k].path = none := by
 have hA : Asc (l.take (k + 1)) := asc_of (fun i hi => by
  rw [List.length_take] at hi
  simp only [List.getElem_take]
  rcases Nat.lt_or_eq_of_le (show i + 1 ≤ k by omega) with e | e
  ·have := ((h (i + 1) (by omega) e).2 (by omega)).1 (by omega)
   simpa using this
  ·have := hlt (by omega) (by omega)
   simp only [← e] at this ⊢
   simpa using this)
 rw [find_none]
 intro x hx e
 obtain ⟨i, hi, rfl⟩ := List.getElem_of_mem hx
 rw [List.length_take] at hi
 have := hA i k (by rw [List.length_take]; omega) (by rw [List.length_take]; omega) (by omega)
 simp only [List.getElem_take] at this e
 rw [e, lt_irrefl] at this; cases this
theorem RgM.next {l : List Nd} {m : Nat} {w wr w1 w2 : World} {k : Nat} (h : RgM l m w k wr) (hk : k < l.length) (f : Fp Non wr w1) (hc : Chk l k hk) (hu : OuR m (l.take k ++ [l[k]]) w1 w2) : RgM l m w (k + 1) w2 := by
 refine ⟨(h.fp.then f).trans hu.fp (fun j hj => .inr (by rw [hj]; exact h.lo)), ?_, fun j hj hjk => ?_, h.lo⟩
 ·rw [List.take_succ_eq_append_getElem hk]; exact hu.om
 ·rcases Nat.lt_or_eq_of_le (show j ≤ k by omega) with e | e
  ·exact h.chk j hj e
  ·subst e; exact hc
set_option maxHeartbeats 4000000 in
theorem Right_loop (v : Value) (l : List Nd) (w : World) (hv : Ns w v l) (hs : Sp l) (h0 : 0 < l.length) (h5 : l.length ≤ 512) (hr : (l[0]'h0).path = [47]) (ho : (l[0]'h0).own = 0) :
  Calls Tryz.prog 75 #[v] w fun e w' => e = .returned (.bool (right l)) ∧ Fp Non w w' := by
 obtain ⟨g, o, cap, rfl, hlc, hcm, hgl, hcell⟩ := hv.at h0
 have hc0 := hcell 0 h0
 obtain ⟨n, hn⟩ : ∃ n, n = l.length := ⟨_, rfl⟩
 have q0 : w.cell? ⟨g, o, none⟩ = some (.string ⟨#[47]⟩) := by have := hc0.c0; rw [hr] at this; simpa [strV, B] using this
 have q4 : w.cell? ⟨g, o + 4, none⟩ = some (.int .i64 0) := by have := hc0.c4; rw [ho] at this; simpa using this
 have q1 : ((512 : Int) < (n : Int)) = False := eq_false (by omega)
 have q2 : ((n : Int) == 0) = false := beq_eq_false_iff_ne.2 (by omega)
 have H0 : Hid (RgM l w.heap.size w 0 (w.alloc (.map #[] 0))) := ⟨(Fp.refl Non w).alloc _, by rw [List.take_zero]; exact Om.made w, fun j _ h => absurd h (Nat.not_lt_zero j), Nat.le_refl _⟩
 obtain ⟨r, hrr⟩ : ∃ r, r = right l := ⟨_, rfl⟩
 have HT : Hid ((∀ i (hi : i < l.length), Chk l i hi) → r = true) := fun h => by rw [hrr]; exact right_true (tree_of_chk h0 h5 hr ho h)
 have HFa : Hid (∀ k (hk : k < l.length), ¬ Chk l k hk → r = false) := fun k hk h => by rw [hrr]; exact tree_not hk h
 rw [← hrr, ← hn]
 have HX := Lib.hid (And.intro hn (And.intro hcell (And.intro hs hgl)))
 have hnb : n ≤ 512 := by omega
 have hn0 : 0 < n := by omega
 clear hv hlc hcm hc0 hcell hr ho hrr hs h5 hn h0 hgl
 have hmm := make_owners
 go_enter Tryz.func75, Tryz.ntmps75
 go_wp2_with fail
 clear hmm q0 q4
 go_loopw [33] (fun i wr => ∃ k : Nat, k ≤ n ∧ i = .int .i64 k ∧ Hid (RgM l w.heap.size w k wr)) (fun i _ => n - (RowKit.intOf i).toNat)
 case atStart => exact ⟨0, Nat.zero_le _, rfl, H0⟩
 case round =>
  obtain ⟨k, hk, rfl, hR⟩ := hrel
  rename_i wr _
  by_cases hlt : k < n
  ·have hkl : k < l.length := by rw [← HX.out.1]; exact hlt
   have hnd := (HX.out.2.1 k hkl).keep hR.out.fp (fun h => h)
   obtain ⟨x, hx⟩ : ∃ x, x = l[k] := ⟨_, rfl⟩
   rw [← hx] at hnd
   have c0 := hnd.c0; have c1 := hnd.c1; have c2 := hnd.c2; have c3 := hnd.c3; have c4 := hnd.c4
   unfold strV at c0 c1
   have q3 : ((k : Int) < (n : Int)) = True := eq_true (by omega)
   have q4 : (k < n) = True := eq_true hlt
   have hxm : x ∈ l := by rw [hx]; exact List.getElem_mem hkl
   have hbx := NdAt.box wr x
   have hfx : Fp Non wr (wr.alloc (Obj.cells #[.string (B x.path), .string (B x.data), .int .i64 x.ver, .int .i64 x.turn, .int .i64 x.own] 79)).drew := ((Fp.refl Non wr).alloc _).drew
   have hbd : NdAt (wr.alloc (Obj.cells #[.string (B x.path), .string (B x.data), .int .i64 x.ver, .int .i64 x.turn, .int .i64 x.own] 79)).drew wr.heap.size 0 x := hbx.keep ((Fp.refl Non _).drew) (fun h => h)
   have hfc := fun w => fits_c x w
   have hml := fun w hm => mayLie_c x w.heap.size (l.take k) w (HX.out.2.2.1 x hxm) hm
   unfold ndV strV at hfc
   have HB := Lib.hid (And.intro hfx (And.intro hbd hbx))
   have HXX := Lib.hid hx
   have HK := Lib.hid (And.intro hlt hxm)
   clear hnd hbx hfx hbd hml
   by_cases hfit : fitsB x = true
   ·rw [hfit] at hfc
    have HFC := Lib.hid hfc
    clear hfc
    rcases Nat.eq_zero_or_pos k with hk0 | hk0
    ·subst hk0
     simp only [Nat.zero_mul, Nat.add_zero] at c0 c1 c2 c3 c4
     have HLT : Hid (0 < 0 → ∀ h' : 0 - 1 < l.length, lt l[0-1].path l[0].path = true) := fun h => absurd h (by omega)
     have HCHK : Hid (Chk l 0 hkl) := ⟨by rw [← hx]; exact hfit, fun h => absurd h (by omega)⟩
     clear hx hxm
     go_wp2_with fail
     refine wp_region_held_drew (S := (fun w' => w'.cell? ⟨wr.heap.size, 0, none⟩ = some (.string (B x.path)) ∧ w'.cell? ⟨wr.heap.size, 1, none⟩ = some (.string (B x.data)) ∧ w'.cell? ⟨wr.heap.size, 2, none⟩ = some (.int .i64 x.ver) ∧ w'.cell? ⟨wr.heap.size, 3, none⟩ = some (.int .i64 x.turn) ∧ w'.cell? ⟨wr.heap.size, 4, none⟩ = some (.int .i64 x.own))) (by kernel_rfl) ?_ (fun hHeld => ?_)
     ·exact HB.out.2.1.five
     refine tk 0 (v := ?_) hHeld (fun w hSw => ?_) ?_; rotate_left
     ·(try dsimp only at hSw); obtain ⟨s0, s1, s2, s3, s4⟩ := hSw; go_simp; try with_reducible rfl
     try simp only [zP, zN, zS, zT, zU]
     refine wpAnyH_ready (rs := [1]) (by kernel_rfl) (by simp) ?_
     refine AllReadyH.cons (o := ?ob126) ?hb126 (fun K hK => ?_) AllReadyH.nil
     case hb126 => simp only [zA, zB, zC] <;> exact rfl
     go_simp
     go_at_call 108
     refine (HFC.out _).mono ?_
     rintro e w1 ⟨rfl, hf1⟩
     have HS1 := Lib.hid (HB.out.2.1.keep hf1 (fun h => h)).five
     have HF1 := Lib.hid (HB.out.1.then hf1)
     clear hf1
     have hup := fun (D : DataW Unit) (hD : OmAt w1 w.heap.size (l.take 0) D) => hD.upd x (by rw [HXX.out]; exact find_new hkl hR.out.chk HLT.out) (by have := HX.out.2.2.1 x HK.out.2; unfold maxLen; omega) (by have := (fits_iff x).1 hfit; omega) (by rw [List.length_take]; unfold maxLen; omega)
     have hup2 : ∃ w', (Instr.mapUpdate TO (.map (some w.heap.size)) (.string (B x.path)) (.int .i64 x.own)).run Tryz.prog w1 = .ok () w' ∧ OuR w.heap.size (l.take 0 ++ [x]) w1 w' := by
      obtain ⟨D, hD⟩ := hR.out.om.keep HF1.out (fun h => h)
      exact hup D hD
     have HUP := Lib.hid hup2
     have HNX : Hid (∀ w9, OuR w.heap.size (l.take 0 ++ [x]) w1 w9 → RgM l w.heap.size w (0 + 1) w9) := fun w9 hu => hR.out.next hkl HF1.out HCHK.out (by rw [← HXX.out]; exact hu)
     clear hup hup2
     clear HLT HCHK hfit
     go_wp2_with fail
     refine hK.out _ _ HS1.out (fun hHeld => ?_)
     clear hK K
     try simp only [zP, zN, zS, zT, zU]
     refine tk 2 (v := ?_) hHeld (fun w hSw => ?_) ?_; rotate_left
     ·(try dsimp only at hSw); obtain ⟨s0, s1, s2, s3, s4⟩ := hSw; go_simp; try with_reducible rfl
     try simp only [zP, zN, zS, zT, zU]
     refine tk 3 (v := ?_) hHeld (fun w hSw => ?_) ?_; rotate_left
     ·(try dsimp only at hSw); obtain ⟨s0, s1, s2, s3, s4⟩ := hSw; go_simp; try with_reducible rfl
     try simp only [zP, zN, zS, zT, zU]
     refine tk 4 (v := ?_) hHeld (fun w hSw => ?_) ?_; rotate_left
     ·(try dsimp only at hSw); obtain ⟨s0, s1, s2, s3, s4⟩ := hSw; go_simp; try with_reducible rfl
     try simp only [zP, zN, zS, zT, zU]
     refine tk 5 (v := ?_) hHeld (fun w hSw => ?_) ?_; rotate_left
     ·(try dsimp only at hSw); obtain ⟨s0, s1, s2, s3, s4⟩ := hSw; go_simp; try with_reducible rfl
     try simp only [zP, zN, zS, zT, zU]
     refine tk 6 (v := ?_) hHeld (fun w hSw => ?_) ?_; rotate_left
     ·(try dsimp only at hSw); obtain ⟨s0, s1, s2, s3, s4⟩ := hSw; go_simp; try with_reducible rfl
     try simp only [zP, zN, zS, zT, zU]
     refine sk 7 hHeld ?_
     try simp only [zP, zN, zS, zT, zU]
     refine sk 8 hHeld ?_
     try simp only [zP, zN, zS, zT, zU]
     refine sk 9 hHeld ?_
     try simp only [zP, zN, zS, zT, zU]
     refine sk 10 hHeld ?_
     try simp only [zP, zN, zS, zT, zU]
     refine sk 11 hHeld ?_
     try simp only [zP, zN, zS, zT, zU]
     refine sk 12 hHeld ?_
     try simp only [zP, zN, zS, zT, zU]
     refine sk 13 hHeld ?_
     try simp only [zP, zN, zS, zT, zU]
     refine sk 14 hHeld ?_
     try simp only [zP, zN, zS, zT, zU]
     refine sk 15 hHeld ?_
     try simp only [zP, zN, zS, zT, zU]
     refine sk 16 hHeld ?_
     try simp only [zP, zN, zS, zT, zU]
     refine sk 17 hHeld ?_
     try simp only [zP, zN, zS, zT, zU]
     refine sk 18 hHeld ?_
     try simp only [zP, zN, zS, zT, zU]
     refine sk 19 hHeld ?_
     try simp only [zP, zN, zS, zT, zU]
     refine sk 20 hHeld ?_
     try simp only [zP, zN, zS, zT, zU]
     refine sk 21 hHeld ?_
     try simp only [zP, zN, zS, zT, zU]
     refine tk 22 (v := ?_) hHeld (fun w hSw => ?_) ?_; rotate_left
     ·(try dsimp only at hSw); obtain ⟨s0, s1, s2, s3, s4⟩ := hSw; go_simp; try with_reducible rfl
     try simp only [zP, zN, zS, zT, zU]
     refine tk 23 (v := ?_) hHeld (fun w hSw => ?_) ?_; rotate_left
     ·(try dsimp only at hSw); obtain ⟨s0, s1, s2, s3, s4⟩ := hSw; go_simp; try with_reducible rfl
     try simp only [zP, zN, zS, zT, zU]
     refine wpAnyH_done (by kernel_rfl) ?_ _
     have b0 : w1.cell? ⟨wr.heap.size, 0, none⟩ = some (.string (B x.path)) := HS1.out.1
     have b4 : w1.cell? ⟨wr.heap.size, 4, none⟩ = some (.int .i64 x.own) := HS1.out.2.2.2.2
     clear HXX hkl hlt hk
     go_wp2_with fail
     obtain ⟨w3, hr3, hu3⟩ := HUP.out
     rw [hr3]
     simp only [Result.andThen]
     rw [Oper.upon_skip]
     clear hr3
     have hM : Hid (RgM l w.heap.size w (0 + 1) w3) := HNX.out _ hu3
     clear hu3
     go_wp2
     go_roundw
     case rel => exact ⟨0 + 1, by have := HK.out.1; omega, by go_num, hM⟩
     case measure => have := HK.out.1; simp [RowKit.intOf]; omega
    ·obtain ⟨y, hy⟩ : ∃ y, y = (l[k-1]'(by omega)).path := ⟨_, rfl⟩
     have hpv : wr.cell? ⟨g, o + (k - 1) * 5, none⟩ = some (.string (B y)) := by have := ((HX.out.2.1 (k - 1) (by omega)).keep hR.out.fp (fun h => h)).c0; rw [← hy] at this; exact this
     have HPV := Lib.hid hpv
     have HY := Lib.hid hy
     have HXM := Lib.hid hxm
     have HK0 := Lib.hid hk0
     have wk : IntKind.i64.wrap ((k : Int) - 1) = ((k - 1 : Nat) : Int) := by rw [IntKind.wrap_i64]; omega
     have qz : ((0 : Int) < (k : Int)) = True := eq_true (by omega)
     have qz2 : (0 < k) = True := eq_true hk0
     have qn : (((k - 1 : Nat) : Int) < (n : Int)) = True := eq_true (by omega)
     have qn2 : (k - 1 < n) = True := eq_true (by omega)
     by_cases hle : (Op.bytesLess x.path y || x.path == y) = true
     ·have hrf : r = false := HFa.out k hkl (fun c => by
       have h1 := (c.2 hk0).1 (by omega)
       rw [← HXX.out, ← hy] at h1
       simp only [Bool.or_eq_true, beq_iff_eq] at hle
       rcases hle with h | h
       ·have := lt_asymm h; rw [h1] at this; cases this
       ·rw [h, lt_irrefl] at h1; cases h1)
      have HRF := Lib.hid hrf
      clear HY HXM HK0
      clear HXX hrf hx hxm hkl hlt hk hy hk0 hpv hfit
      go_wp2_with fail
      refine wp_region_held_drew (S := (fun w' => w'.cell? ⟨wr.heap.size, 0, none⟩ = some (.string (B x.path)) ∧ w'.cell? ⟨wr.heap.size, 1, none⟩ = some (.string (B x.data)) ∧ w'.cell? ⟨wr.heap.size, 2, none⟩ = some (.int .i64 x.ver) ∧ w'.cell? ⟨wr.heap.size, 3, none⟩ = some (.int .i64 x.turn) ∧ w'.cell? ⟨wr.heap.size, 4, none⟩ = some (.int .i64 x.own) ∧ w'.cell? ⟨g, o + (k - 1) * 5, none⟩ = some (.string (B y)))) (by kernel_rfl) ?_ (fun hHeld => ?_)
      ·exact ⟨HB.out.2.1.c0, HB.out.2.1.c1, HB.out.2.1.c2, HB.out.2.1.c3, HB.out.2.1.c4, HB.out.1.cell HPV.out (fun h => h)⟩
      refine tk 0 (v := ?_) hHeld (fun w hSw => ?_) ?_; rotate_left
      ·(try dsimp only at hSw); obtain ⟨s0, s1, s2, s3, s4, s5⟩ := hSw; go_simp; try with_reducible rfl
      try simp only [zP, zN, zS, zT, zU]
      refine wpAnyH_ready (rs := [1]) (by kernel_rfl) (by simp) ?_
      refine AllReadyH.cons (o := ?ob150) ?hb150 (fun K hK => ?_) AllReadyH.nil
      case hb150 => simp only [zA, zB, zC] <;> exact rfl
      go_simp
      go_at_call 108
      refine (HFC.out _).mono ?_
      rintro e w1 ⟨rfl, hf1⟩
      have HS1 := Lib.hid (HB.out.2.1.keep hf1 (fun h => h)).five
      have HF1 := Lib.hid (HB.out.1.then hf1)
      have HP1 := Lib.hid (HB.out.1.then hf1 |>.cell HPV.out (fun h => h))
      clear hf1
      go_wp2_with fail
      refine hK.out _ _ ⟨HS1.out.1, HS1.out.2.1, HS1.out.2.2.1, HS1.out.2.2.2.1, HS1.out.2.2.2.2, HP1.out⟩ (fun hHeld => ?_)
      clear hK K
      try simp only [zP, zN, zS, zT, zU]
      refine tk 2 (v := ?_) hHeld (fun w hSw => ?_) ?_; rotate_left
      ·(try dsimp only at hSw); obtain ⟨s0, s1, s2, s3, s4, s5⟩ := hSw; go_simp; try with_reducible rfl
      try simp only [zP, zN, zS, zT, zU]
      refine tk 3 (v := ?_) hHeld (fun w hSw => ?_) ?_; rotate_left
      ·(try dsimp only at hSw); obtain ⟨s0, s1, s2, s3, s4, s5⟩ := hSw; go_simp; try with_reducible rfl
      try simp only [zP, zN, zS, zT, zU]
      refine tk 4 (v := ?_) hHeld (fun w hSw => ?_) ?_; rotate_left
      ·(try dsimp only at hSw); obtain ⟨s0, s1, s2, s3, s4, s5⟩ := hSw; go_simp; try with_reducible rfl
      try simp only [zP, zN, zS, zT, zU]
      refine tk 5 (v := ?_) hHeld (fun w hSw => ?_) ?_; rotate_left
      ·(try dsimp only at hSw); obtain ⟨s0, s1, s2, s3, s4, s5⟩ := hSw; go_simp; try with_reducible rfl
      try simp only [zP, zN, zS, zT, zU]
      refine tk 6 (v := ?_) hHeld (fun w hSw => ?_) ?_; rotate_left
      ·(try dsimp only at hSw); obtain ⟨s0, s1, s2, s3, s4, s5⟩ := hSw; go_simp; try with_reducible rfl
      try simp only [zP, zN, zS, zT, zU]
      refine tk 7 (v := ?_) hHeld (fun w hSw => ?_) ?_; rotate_left
      ·(try dsimp only at hSw); obtain ⟨s0, s1, s2, s3, s4, s5⟩ := hSw; go_simp; try with_reducible rfl
      try simp only [zP, zN, zS, zT, zU]
      refine tk 8 (v := ?_) hHeld (fun w hSw => ?_) ?_; rotate_left
      ·(try dsimp only at hSw); obtain ⟨s0, s1, s2, s3, s4, s5⟩ := hSw; go_simp; try with_reducible rfl
      try simp only [zP, zN, zS, zT, zU]
      refine tk 9 (v := ?_) hHeld (fun w hSw => ?_) ?_; rotate_left
      ·(try dsimp only at hSw); obtain ⟨s0, s1, s2, s3, s4, s5⟩ := hSw; go_simp; try with_reducible rfl
      try simp only [zP, zN, zS, zT, zU]
      refine tk 10 (v := ?_) hHeld (fun w hSw => ?_) ?_; rotate_left
      ·(try dsimp only at hSw); obtain ⟨s0, s1, s2, s3, s4, s5⟩ := hSw; go_simp; try with_reducible rfl
      try simp only [zP, zN, zS, zT, zU]
      refine tk 11 (v := ?_) hHeld (fun w hSw => ?_) ?_; rotate_left
      ·(try dsimp only at hSw); obtain ⟨s0, s1, s2, s3, s4, s5⟩ := hSw; go_simp; try with_reducible rfl
      try simp only [zP, zN, zS, zT, zU]
      refine tk 12 (v := ?_) hHeld (fun w hSw => ?_) ?_; rotate_left
      ·(try dsimp only at hSw); obtain ⟨s0, s1, s2, s3, s4, s5⟩ := hSw; go_simp; try with_reducible rfl
      try simp only [zP, zN, zS, zT, zU]
      refine tk 13 (v := ?_) hHeld (fun w hSw => ?_) ?_; rotate_left
      ·(try dsimp only at hSw); obtain ⟨s0, s1, s2, s3, s4, s5⟩ := hSw; go_simp; try with_reducible rfl
      try simp only [zP, zN, zS, zT, zU]
      refine tk 14 (v := ?_) hHeld (fun w hSw => ?_) ?_; rotate_left
      ·(try dsimp only at hSw); obtain ⟨s0, s1, s2, s3, s4, s5⟩ := hSw; go_simp; try with_reducible rfl
      try simp only [zP, zN, zS, zT, zU]
      refine tk 15 (v := ?_) hHeld (fun w hSw => ?_) ?_; rotate_left
      ·(try dsimp only at hSw); obtain ⟨s0, s1, s2, s3, s4, s5⟩ := hSw; go_simp; try with_reducible rfl
      try simp only [zP, zN, zS, zT, zU]
      refine tk 16 (v := ?_) hHeld (fun w hSw => ?_) ?_; rotate_left
      ·(try dsimp only at hSw); obtain ⟨s0, s1, s2, s3, s4, s5⟩ := hSw; go_simp; try with_reducible rfl
      try simp only [zP, zN, zS, zT, zU]
      refine sk 17 hHeld ?_
      try simp only [zP, zN, zS, zT, zU]
      refine sk 18 hHeld ?_
      try simp only [zP, zN, zS, zT, zU]
      refine sk 19 hHeld ?_
      try simp only [zP, zN, zS, zT, zU]
      refine sk 20 hHeld ?_
      try simp only [zP, zN, zS, zT, zU]
      refine tk 21 (v := ?_) hHeld (fun w hSw => ?_) ?_; rotate_left
      ·(try dsimp only at hSw); obtain ⟨s0, s1, s2, s3, s4, s5⟩ := hSw; go_simp; try with_reducible rfl
      try simp only [zP, zN, zS, zT, zU]
      refine tk 22 (v := ?_) hHeld (fun w hSw => ?_) ?_; rotate_left
      ·(try dsimp only at hSw); obtain ⟨s0, s1, s2, s3, s4, s5⟩ := hSw; go_simp; try with_reducible rfl
      try simp only [zP, zN, zS, zT, zU]
      refine tk 23 (v := ?_) hHeld (fun w hSw => ?_) ?_; rotate_left
      ·(try dsimp only at hSw); obtain ⟨s0, s1, s2, s3, s4, s5⟩ := hSw; go_simp; try with_reducible rfl
      try simp only [zP, zN, zS, zT, zU]
      refine wpAnyH_done (by kernel_rfl) ?_ _
      go_wp2
      go_ret
      exact ⟨ret_bool HRF.out.symm, hR.out.fp.then HF1.out⟩
     ·have hle' : (Op.bytesLess x.path y || x.path == y) = false := by simpa using hle
      have hgt : lt y x.path = true := by
       simp only [Bool.or_eq_false_iff, beq_eq_false_iff_ne] at hle'
       exact lt_of hle'.1 hle'.2
      clear hle
      by_cases hli : lies (l.take k) x = true
      ·have HLT : Hid (0 < k → ∀ h' : k - 1 < l.length, lt l[k-1].path l[k].path = true) := fun _ h => by rw [← hx, ← hy]; exact hgt
       have HCHK : Hid (Chk l k hkl) := ⟨by rw [← hx]; exact hfit, fun h => ⟨HLT.out h, by rw [← hx]; exact hli⟩⟩
       have HLI := Lib.hid hli
       clear hli hgt HY HXM HK0 hx hxm hy hk0 hpv
       go_wp2_with fail
       refine wp_region_held_drew (S := (fun w' => w'.cell? ⟨wr.heap.size, 0, none⟩ = some (.string (B x.path)) ∧ w'.cell? ⟨wr.heap.size, 1, none⟩ = some (.string (B x.data)) ∧ w'.cell? ⟨wr.heap.size, 2, none⟩ = some (.int .i64 x.ver) ∧ w'.cell? ⟨wr.heap.size, 3, none⟩ = some (.int .i64 x.turn) ∧ w'.cell? ⟨wr.heap.size, 4, none⟩ = some (.int .i64 x.own) ∧ w'.cell? ⟨g, o + (k - 1) * 5, none⟩ = some (.string (B y)))) (by kernel_rfl) ?_ (fun hHeld => ?_)
       ·exact ⟨HB.out.2.1.c0, HB.out.2.1.c1, HB.out.2.1.c2, HB.out.2.1.c3, HB.out.2.1.c4, HB.out.1.cell HPV.out (fun h => h)⟩
       refine tk 0 (v := ?_) hHeld (fun w hSw => ?_) ?_; rotate_left
       ·(try dsimp only at hSw); obtain ⟨s0, s1, s2, s3, s4, s5⟩ := hSw; go_simp; try with_reducible rfl
       try simp only [zP, zN, zS, zT, zU]
       refine wpAnyH_ready (rs := [1]) (by kernel_rfl) (by simp) ?_
       refine AllReadyH.cons (o := ?ob198) ?hb198 (fun K hK => ?_) AllReadyH.nil
       case hb198 => simp only [zA, zB, zC] <;> exact rfl
       go_simp
       go_at_call 108
       refine (HFC.out _).mono ?_
       rintro e w1 ⟨rfl, hf1⟩
       have HS1 := Lib.hid (HB.out.2.1.keep hf1 (fun h => h)).five
       have HF1 := Lib.hid (HB.out.1.then hf1)
       have HP1 := Lib.hid (HB.out.1.then hf1 |>.cell HPV.out (fun h => h))
       have HB1 := Lib.hid (HB.out.2.1.keep hf1 (fun h => h))
       clear hf1
       have hml1 := mayLie_c x w.heap.size (l.take k) w1 (HX.out.2.2.1 x HK.out.2) (hR.out.om.keep HF1.out (fun h => h))
       unfold ndV strV at hml1
       rw [HLI.out] at hml1
       have HML := Lib.hid hml1
       clear hml1
       go_wp2_with fail
       refine hK.out _ _ ⟨HS1.out.1, HS1.out.2.1, HS1.out.2.2.1, HS1.out.2.2.2.1, HS1.out.2.2.2.2, HP1.out⟩ (fun hHeld => ?_)
       clear hK K
       try simp only [zP, zN, zS, zT, zU]
       refine tk 2 (v := ?_) hHeld (fun w hSw => ?_) ?_; rotate_left
       ·(try dsimp only at hSw); obtain ⟨s0, s1, s2, s3, s4, s5⟩ := hSw; go_simp; try with_reducible rfl
       try simp only [zP, zN, zS, zT, zU]
       refine tk 3 (v := ?_) hHeld (fun w hSw => ?_) ?_; rotate_left
       ·(try dsimp only at hSw); obtain ⟨s0, s1, s2, s3, s4, s5⟩ := hSw; go_simp; try with_reducible rfl
       try simp only [zP, zN, zS, zT, zU]
       refine tk 4 (v := ?_) hHeld (fun w hSw => ?_) ?_; rotate_left
       ·(try dsimp only at hSw); obtain ⟨s0, s1, s2, s3, s4, s5⟩ := hSw; go_simp; try with_reducible rfl
       try simp only [zP, zN, zS, zT, zU]
       refine tk 5 (v := ?_) hHeld (fun w hSw => ?_) ?_; rotate_left
       ·(try dsimp only at hSw); obtain ⟨s0, s1, s2, s3, s4, s5⟩ := hSw; go_simp; try with_reducible rfl
       try simp only [zP, zN, zS, zT, zU]
       refine tk 6 (v := ?_) hHeld (fun w hSw => ?_) ?_; rotate_left
       ·(try dsimp only at hSw); obtain ⟨s0, s1, s2, s3, s4, s5⟩ := hSw; go_simp; try with_reducible rfl
       try simp only [zP, zN, zS, zT, zU]
       refine tk 7 (v := ?_) hHeld (fun w hSw => ?_) ?_; rotate_left
       ·(try dsimp only at hSw); obtain ⟨s0, s1, s2, s3, s4, s5⟩ := hSw; go_simp; try with_reducible rfl
       try simp only [zP, zN, zS, zT, zU]
       refine tk 8 (v := ?_) hHeld (fun w hSw => ?_) ?_; rotate_left
       ·(try dsimp only at hSw); obtain ⟨s0, s1, s2, s3, s4, s5⟩ := hSw; go_simp; try with_reducible rfl
       try simp only [zP, zN, zS, zT, zU]
       refine tk 9 (v := ?_) hHeld (fun w hSw => ?_) ?_; rotate_left
       ·(try dsimp only at hSw); obtain ⟨s0, s1, s2, s3, s4, s5⟩ := hSw; go_simp; try with_reducible rfl
       try simp only [zP, zN, zS, zT, zU]
       refine tk 10 (v := ?_) hHeld (fun w hSw => ?_) ?_; rotate_left
       ·(try dsimp only at hSw); obtain ⟨s0, s1, s2, s3, s4, s5⟩ := hSw; go_simp; try with_reducible rfl
       try simp only [zP, zN, zS, zT, zU]
       refine tk 11 (v := ?_) hHeld (fun w hSw => ?_) ?_; rotate_left
       ·(try dsimp only at hSw); obtain ⟨s0, s1, s2, s3, s4, s5⟩ := hSw; go_simp; try with_reducible rfl
       try simp only [zP, zN, zS, zT, zU]
       refine tk 12 (v := ?_) hHeld (fun w hSw => ?_) ?_; rotate_left
       ·(try dsimp only at hSw); obtain ⟨s0, s1, s2, s3, s4, s5⟩ := hSw; go_simp; try with_reducible rfl
       try simp only [zP, zN, zS, zT, zU]
       refine tk 13 (v := ?_) hHeld (fun w hSw => ?_) ?_; rotate_left
       ·(try dsimp only at hSw); obtain ⟨s0, s1, s2, s3, s4, s5⟩ := hSw; go_simp; try with_reducible rfl
       try simp only [zP, zN, zS, zT, zU]
       refine tk 14 (v := ?_) hHeld (fun w hSw => ?_) ?_; rotate_left
       ·(try dsimp only at hSw); obtain ⟨s0, s1, s2, s3, s4, s5⟩ := hSw; go_simp; try with_reducible rfl
       try simp only [zP, zN, zS, zT, zU]
       refine tk 15 (v := ?_) hHeld (fun w hSw => ?_) ?_; rotate_left
       ·(try dsimp only at hSw); obtain ⟨s0, s1, s2, s3, s4, s5⟩ := hSw; go_simp; try with_reducible rfl
       try simp only [zP, zN, zS, zT, zU]
       refine tk 16 (v := ?_) hHeld (fun w hSw => ?_) ?_; rotate_left
       ·(try dsimp only at hSw); obtain ⟨s0, s1, s2, s3, s4, s5⟩ := hSw; go_simp; try with_reducible rfl
       try simp only [zP, zN, zS, zT, zU]
       refine tk 17 (v := ?_) hHeld (fun w hSw => ?_) ?_; rotate_left
       ·(try dsimp only at hSw); obtain ⟨s0, s1, s2, s3, s4, s5⟩ := hSw; go_simp; try with_reducible rfl
       try simp only [zP, zN, zS, zT, zU]
       refine tk 18 (v := ?_) hHeld (fun w hSw => ?_) ?_; rotate_left
       ·(try dsimp only at hSw); obtain ⟨s0, s1, s2, s3, s4, s5⟩ := hSw; go_simp; try with_reducible rfl
       try simp only [zP, zN, zS, zT, zU]
       refine wpAnyH_ready (rs := [19]) (by kernel_rfl) (by simp) ?_
       refine AllReadyH.cons (o := ?ob216) ?hb216 (fun K hK => ?_) AllReadyH.nil
       case hb216 => simp only [zA, zB, zC] <;> exact rfl
       go_simp
       go_at_call 109
       refine HML.out.mono ?_
       rintro e w2 ⟨rfl, hf2⟩
       have HS2 := Lib.hid (HB1.out.keep hf2 (fun h => h)).five
       have HP2 := Lib.hid (hf2.cell HP1.out (fun h => h))
       have HF2 := Lib.hid (HF1.out.then hf2)
       clear hf2
       have hup := fun (D : DataW Unit) (hD : OmAt w2 w.heap.size (l.take k) D) => hD.upd x (by rw [HXX.out]; exact find_new hkl hR.out.chk HLT.out) (by have := HX.out.2.2.1 x HK.out.2; unfold maxLen; omega) (by have := (fits_iff x).1 hfit; omega) (by rw [List.length_take]; unfold maxLen; omega)
       have hup2 : ∃ w', (Instr.mapUpdate TO (.map (some w.heap.size)) (.string (B x.path)) (.int .i64 x.own)).run Tryz.prog w2 = .ok () w' ∧ OuR w.heap.size (l.take k ++ [x]) w2 w' := by
        obtain ⟨D, hD⟩ := hR.out.om.keep HF2.out (fun h => h)
        exact hup D hD
       have HUP := Lib.hid hup2
       have HNX : Hid (∀ w9, OuR w.heap.size (l.take k ++ [x]) w2 w9 → RgM l w.heap.size w (k + 1) w9) := fun w9 hu => hR.out.next hkl HF2.out HCHK.out (by rw [← HXX.out]; exact hu)
       clear hup hup2
       go_wp2_with fail
       refine hK.out _ _ ⟨HS2.out.1, HS2.out.2.1, HS2.out.2.2.1, HS2.out.2.2.2.1, HS2.out.2.2.2.2, HP2.out⟩ (fun hHeld => ?_)
       clear hK K
       try simp only [zP, zN, zS, zT, zU]
       refine tk 20 (v := ?_) hHeld (fun w hSw => ?_) ?_; rotate_left
       ·(try dsimp only at hSw); obtain ⟨s0, s1, s2, s3, s4, s5⟩ := hSw; go_simp; try with_reducible rfl
       try simp only [zP, zN, zS, zT, zU]
       refine tk 21 (v := ?_) hHeld (fun w hSw => ?_) ?_; rotate_left
       ·(try dsimp only at hSw); obtain ⟨s0, s1, s2, s3, s4, s5⟩ := hSw; go_simp; try with_reducible rfl
       try simp only [zP, zN, zS, zT, zU]
       refine tk 22 (v := ?_) hHeld (fun w hSw => ?_) ?_; rotate_left
       ·(try dsimp only at hSw); obtain ⟨s0, s1, s2, s3, s4, s5⟩ := hSw; go_simp; try with_reducible rfl
       try simp only [zP, zN, zS, zT, zU]
       refine tk 23 (v := ?_) hHeld (fun w hSw => ?_) ?_; rotate_left
       ·(try dsimp only at hSw); obtain ⟨s0, s1, s2, s3, s4, s5⟩ := hSw; go_simp; try with_reducible rfl
       try simp only [zP, zN, zS, zT, zU]
       refine wpAnyH_done (by kernel_rfl) ?_ _
       have b0 : w2.cell? ⟨wr.heap.size, 0, none⟩ = some (.string (B x.path)) := HS2.out.1
       have b4 : w2.cell? ⟨wr.heap.size, 4, none⟩ = some (.int .i64 x.own) := HS2.out.2.2.2.2
       clear HXX HLT HCHK hfit hkl hlt hk
       go_wp2_with fail
       obtain ⟨w3, hr3, hu3⟩ := HUP.out
       rw [hr3]
       simp only [Result.andThen]
       rw [Oper.upon_skip]
       clear hr3
       have hM : Hid (RgM l w.heap.size w (k + 1) w3) := HNX.out _ hu3
       clear hu3
       have q13 : wrap64 ((k : Int) + 1) = ((k + 1 : Nat) : Int) := by have := HK.out.1; unfold wrap64; omega
       have Q13 := Lib.hid q13
       clear q13
       go_wp2
       go_roundw
       case rel => exact ⟨k + 1, by have := HK.out.1; omega, congrArg (Value.int .i64) Q13.out, hM⟩
       case measure => have := HK.out.1; rw [Q13.out]; simp [RowKit.intOf]; omega
      ·have hrf : r = false := HFa.out k hkl (fun c => hli (by have := (c.2 hk0).2; rw [← hx] at this; exact this))
       have HRF := Lib.hid hrf
       have HLI := Lib.hid (show lies (l.take k) x = false by simpa using hli)
       clear hli hgt HY HXM HK0
       clear HXX hrf hx hxm hkl hlt hk hy hk0 hpv hfit
       go_wp2_with fail
       refine wp_region_held_drew (S := (fun w' => w'.cell? ⟨wr.heap.size, 0, none⟩ = some (.string (B x.path)) ∧ w'.cell? ⟨wr.heap.size, 1, none⟩ = some (.string (B x.data)) ∧ w'.cell? ⟨wr.heap.size, 2, none⟩ = some (.int .i64 x.ver) ∧ w'.cell? ⟨wr.heap.size, 3, none⟩ = some (.int .i64 x.turn) ∧ w'.cell? ⟨wr.heap.size, 4, none⟩ = some (.int .i64 x.own) ∧ w'.cell? ⟨g, o + (k - 1) * 5, none⟩ = some (.string (B y)))) (by kernel_rfl) ?_ (fun hHeld => ?_)
       ·exact ⟨HB.out.2.1.c0, HB.out.2.1.c1, HB.out.2.1.c2, HB.out.2.1.c3, HB.out.2.1.c4, HB.out.1.cell HPV.out (fun h => h)⟩
       refine tk 0 (v := ?_) hHeld (fun w hSw => ?_) ?_; rotate_left
       ·(try dsimp only at hSw); obtain ⟨s0, s1, s2, s3, s4, s5⟩ := hSw; go_simp; try with_reducible rfl
       try simp only [zP, zN, zS, zT, zU]
       refine wpAnyH_ready (rs := [1]) (by kernel_rfl) (by simp) ?_
       refine AllReadyH.cons (o := ?ob174) ?hb174 (fun K hK => ?_) AllReadyH.nil
       case hb174 => simp only [zA, zB, zC] <;> exact rfl
       go_simp
       go_at_call 108
       refine (HFC.out _).mono ?_
       rintro e w1 ⟨rfl, hf1⟩
       have HS1 := Lib.hid (HB.out.2.1.keep hf1 (fun h => h)).five
       have HF1 := Lib.hid (HB.out.1.then hf1)
       have HP1 := Lib.hid (HB.out.1.then hf1 |>.cell HPV.out (fun h => h))
       have HB1 := Lib.hid (HB.out.2.1.keep hf1 (fun h => h))
       clear hf1
       have hml1 := mayLie_c x w.heap.size (l.take k) w1 (HX.out.2.2.1 x HK.out.2) (hR.out.om.keep HF1.out (fun h => h))
       unfold ndV strV at hml1
       rw [HLI.out] at hml1
       have HML := Lib.hid hml1
       clear hml1
       go_wp2_with fail
       refine hK.out _ _ ⟨HS1.out.1, HS1.out.2.1, HS1.out.2.2.1, HS1.out.2.2.2.1, HS1.out.2.2.2.2, HP1.out⟩ (fun hHeld => ?_)
       clear hK K
       try simp only [zP, zN, zS, zT, zU]
       refine tk 2 (v := ?_) hHeld (fun w hSw => ?_) ?_; rotate_left
       ·(try dsimp only at hSw); obtain ⟨s0, s1, s2, s3, s4, s5⟩ := hSw; go_simp; try with_reducible rfl
       try simp only [zP, zN, zS, zT, zU]
       refine tk 3 (v := ?_) hHeld (fun w hSw => ?_) ?_; rotate_left
       ·(try dsimp only at hSw); obtain ⟨s0, s1, s2, s3, s4, s5⟩ := hSw; go_simp; try with_reducible rfl
       try simp only [zP, zN, zS, zT, zU]
       refine tk 4 (v := ?_) hHeld (fun w hSw => ?_) ?_; rotate_left
       ·(try dsimp only at hSw); obtain ⟨s0, s1, s2, s3, s4, s5⟩ := hSw; go_simp; try with_reducible rfl
       try simp only [zP, zN, zS, zT, zU]
       refine tk 5 (v := ?_) hHeld (fun w hSw => ?_) ?_; rotate_left
       ·(try dsimp only at hSw); obtain ⟨s0, s1, s2, s3, s4, s5⟩ := hSw; go_simp; try with_reducible rfl
       try simp only [zP, zN, zS, zT, zU]
       refine tk 6 (v := ?_) hHeld (fun w hSw => ?_) ?_; rotate_left
       ·(try dsimp only at hSw); obtain ⟨s0, s1, s2, s3, s4, s5⟩ := hSw; go_simp; try with_reducible rfl
       try simp only [zP, zN, zS, zT, zU]
       refine tk 7 (v := ?_) hHeld (fun w hSw => ?_) ?_; rotate_left
       ·(try dsimp only at hSw); obtain ⟨s0, s1, s2, s3, s4, s5⟩ := hSw; go_simp; try with_reducible rfl
       try simp only [zP, zN, zS, zT, zU]
       refine tk 8 (v := ?_) hHeld (fun w hSw => ?_) ?_; rotate_left
       ·(try dsimp only at hSw); obtain ⟨s0, s1, s2, s3, s4, s5⟩ := hSw; go_simp; try with_reducible rfl
       try simp only [zP, zN, zS, zT, zU]
       refine tk 9 (v := ?_) hHeld (fun w hSw => ?_) ?_; rotate_left
       ·(try dsimp only at hSw); obtain ⟨s0, s1, s2, s3, s4, s5⟩ := hSw; go_simp; try with_reducible rfl
       try simp only [zP, zN, zS, zT, zU]
       refine tk 10 (v := ?_) hHeld (fun w hSw => ?_) ?_; rotate_left
       ·(try dsimp only at hSw); obtain ⟨s0, s1, s2, s3, s4, s5⟩ := hSw; go_simp; try with_reducible rfl
       try simp only [zP, zN, zS, zT, zU]
       refine tk 11 (v := ?_) hHeld (fun w hSw => ?_) ?_; rotate_left
       ·(try dsimp only at hSw); obtain ⟨s0, s1, s2, s3, s4, s5⟩ := hSw; go_simp; try with_reducible rfl
       try simp only [zP, zN, zS, zT, zU]
       refine tk 12 (v := ?_) hHeld (fun w hSw => ?_) ?_; rotate_left
       ·(try dsimp only at hSw); obtain ⟨s0, s1, s2, s3, s4, s5⟩ := hSw; go_simp; try with_reducible rfl
       try simp only [zP, zN, zS, zT, zU]
       refine tk 13 (v := ?_) hHeld (fun w hSw => ?_) ?_; rotate_left
       ·(try dsimp only at hSw); obtain ⟨s0, s1, s2, s3, s4, s5⟩ := hSw; go_simp; try with_reducible rfl
       try simp only [zP, zN, zS, zT, zU]
       refine tk 14 (v := ?_) hHeld (fun w hSw => ?_) ?_; rotate_left
       ·(try dsimp only at hSw); obtain ⟨s0, s1, s2, s3, s4, s5⟩ := hSw; go_simp; try with_reducible rfl
       try simp only [zP, zN, zS, zT, zU]
       refine tk 15 (v := ?_) hHeld (fun w hSw => ?_) ?_; rotate_left
       ·(try dsimp only at hSw); obtain ⟨s0, s1, s2, s3, s4, s5⟩ := hSw; go_simp; try with_reducible rfl
       try simp only [zP, zN, zS, zT, zU]
       refine tk 16 (v := ?_) hHeld (fun w hSw => ?_) ?_; rotate_left
       ·(try dsimp only at hSw); obtain ⟨s0, s1, s2, s3, s4, s5⟩ := hSw; go_simp; try with_reducible rfl
       try simp only [zP, zN, zS, zT, zU]
       refine tk 17 (v := ?_) hHeld (fun w hSw => ?_) ?_; rotate_left
       ·(try dsimp only at hSw); obtain ⟨s0, s1, s2, s3, s4, s5⟩ := hSw; go_simp; try with_reducible rfl
       try simp only [zP, zN, zS, zT, zU]
       refine tk 18 (v := ?_) hHeld (fun w hSw => ?_) ?_; rotate_left
       ·(try dsimp only at hSw); obtain ⟨s0, s1, s2, s3, s4, s5⟩ := hSw; go_simp; try with_reducible rfl
       try simp only [zP, zN, zS, zT, zU]
       refine wpAnyH_ready (rs := [19]) (by kernel_rfl) (by simp) ?_
       refine AllReadyH.cons (o := ?ob192) ?hb192 (fun K hK => ?_) AllReadyH.nil
       case hb192 => simp only [zA, zB, zC] <;> exact rfl
       go_simp
       go_at_call 109
       refine HML.out.mono ?_
       rintro e w2 ⟨rfl, hf2⟩
       have HS2 := Lib.hid (HB1.out.keep hf2 (fun h => h)).five
       have HP2 := Lib.hid (hf2.cell HP1.out (fun h => h))
       have HF2 := Lib.hid (HF1.out.then hf2)
       clear hf2
       go_wp2_with fail
       refine hK.out _ _ ⟨HS2.out.1, HS2.out.2.1, HS2.out.2.2.1, HS2.out.2.2.2.1, HS2.out.2.2.2.2, HP2.out⟩ (fun hHeld => ?_)
       clear hK K
       try simp only [zP, zN, zS, zT, zU]
       refine tk 20 (v := ?_) hHeld (fun w hSw => ?_) ?_; rotate_left
       ·(try dsimp only at hSw); obtain ⟨s0, s1, s2, s3, s4, s5⟩ := hSw; go_simp; try with_reducible rfl
       try simp only [zP, zN, zS, zT, zU]
       refine tk 21 (v := ?_) hHeld (fun w hSw => ?_) ?_; rotate_left
       ·(try dsimp only at hSw); obtain ⟨s0, s1, s2, s3, s4, s5⟩ := hSw; go_simp; try with_reducible rfl
       try simp only [zP, zN, zS, zT, zU]
       refine tk 22 (v := ?_) hHeld (fun w hSw => ?_) ?_; rotate_left
       ·(try dsimp only at hSw); obtain ⟨s0, s1, s2, s3, s4, s5⟩ := hSw; go_simp; try with_reducible rfl
       try simp only [zP, zN, zS, zT, zU]
       refine tk 23 (v := ?_) hHeld (fun w hSw => ?_) ?_; rotate_left
       ·(try dsimp only at hSw); obtain ⟨s0, s1, s2, s3, s4, s5⟩ := hSw; go_simp; try with_reducible rfl
       try simp only [zP, zN, zS, zT, zU]
       refine wpAnyH_done (by kernel_rfl) ?_ _
       go_wp2
       go_ret
       exact ⟨ret_bool HRF.out.symm, hR.out.fp.then HF2.out⟩
   ·have hf : fitsB x = false := by simpa using hfit
    have hrf : r = false := HFa.out k hkl (fun c => by have := c.1; rw [← hx, hf] at this; cases this)
    rw [hf] at hfc
    have HFC := Lib.hid hfc
    have HRF := Lib.hid hrf
    clear HXX hfit hf hfc hrf hx hkl hlt hk hxm
    go_wp2_with fail
    refine wp_region_held_drew (S := (fun w' => w'.cell? ⟨wr.heap.size, 0, none⟩ = some (.string (B x.path)) ∧ w'.cell? ⟨wr.heap.size, 1, none⟩ = some (.string (B x.data)) ∧ w'.cell? ⟨wr.heap.size, 2, none⟩ = some (.int .i64 x.ver) ∧ w'.cell? ⟨wr.heap.size, 3, none⟩ = some (.int .i64 x.turn) ∧ w'.cell? ⟨wr.heap.size, 4, none⟩ = some (.int .i64 x.own))) (by kernel_rfl) ?_ (fun hHeld => ?_)
    ·exact HB.out.2.1.five
    refine tk 0 (v := ?_) hHeld (fun w hSw => ?_) ?_; rotate_left
    ·(try dsimp only at hSw); obtain ⟨s0, s1, s2, s3, s4⟩ := hSw; go_simp; try with_reducible rfl
    try simp only [zP, zN, zS, zT, zU]
    refine wpAnyH_ready (rs := [1]) (by kernel_rfl) (by simp) ?_
    refine AllReadyH.cons (o := ?ob102) ?hb102 (fun K hK => ?_) AllReadyH.nil
    case hb102 => simp only [zA, zB, zC] <;> exact rfl
    go_simp
    go_at_call 108
    refine (HFC.out _).mono ?_
    rintro e w1 ⟨rfl, hf1⟩
    have HS1 := Lib.hid (HB.out.2.1.keep hf1 (fun h => h)).five
    have HF1 := Lib.hid (HB.out.1.then hf1)
    clear hf1
    go_wp2_with fail
    refine hK.out _ _ HS1.out (fun hHeld => ?_)
    clear hK K
    try simp only [zP, zN, zS, zT, zU]
    refine tk 2 (v := ?_) hHeld (fun w hSw => ?_) ?_; rotate_left
    ·(try dsimp only at hSw); obtain ⟨s0, s1, s2, s3, s4⟩ := hSw; go_simp; try with_reducible rfl
    try simp only [zP, zN, zS, zT, zU]
    refine tk 3 (v := ?_) hHeld (fun w hSw => ?_) ?_; rotate_left
    ·(try dsimp only at hSw); obtain ⟨s0, s1, s2, s3, s4⟩ := hSw; go_simp; try with_reducible rfl
    try simp only [zP, zN, zS, zT, zU]
    refine sk 4 hHeld ?_
    try simp only [zP, zN, zS, zT, zU]
    refine sk 5 hHeld ?_
    try simp only [zP, zN, zS, zT, zU]
    refine sk 6 hHeld ?_
    try simp only [zP, zN, zS, zT, zU]
    refine sk 7 hHeld ?_
    try simp only [zP, zN, zS, zT, zU]
    refine sk 8 hHeld ?_
    try simp only [zP, zN, zS, zT, zU]
    refine sk 9 hHeld ?_
    try simp only [zP, zN, zS, zT, zU]
    refine sk 10 hHeld ?_
    try simp only [zP, zN, zS, zT, zU]
    refine sk 11 hHeld ?_
    try simp only [zP, zN, zS, zT, zU]
    refine sk 12 hHeld ?_
    try simp only [zP, zN, zS, zT, zU]
    refine sk 13 hHeld ?_
    try simp only [zP, zN, zS, zT, zU]
    refine sk 14 hHeld ?_
    try simp only [zP, zN, zS, zT, zU]
    refine sk 15 hHeld ?_
    try simp only [zP, zN, zS, zT, zU]
    refine sk 16 hHeld ?_
    try simp only [zP, zN, zS, zT, zU]
    refine sk 17 hHeld ?_
    try simp only [zP, zN, zS, zT, zU]
    refine sk 18 hHeld ?_
    try simp only [zP, zN, zS, zT, zU]
    refine sk 19 hHeld ?_
    try simp only [zP, zN, zS, zT, zU]
    refine sk 20 hHeld ?_
    try simp only [zP, zN, zS, zT, zU]
    refine sk 21 hHeld ?_
    try simp only [zP, zN, zS, zT, zU]
    refine sk 22 hHeld ?_
    try simp only [zP, zN, zS, zT, zU]
    refine tk 23 (v := ?_) hHeld (fun w hSw => ?_) ?_; rotate_left
    ·(try dsimp only at hSw); obtain ⟨s0, s1, s2, s3, s4⟩ := hSw; go_simp; try with_reducible rfl
    try simp only [zP, zN, zS, zT, zU]
    refine wpAnyH_done (by kernel_rfl) ?_ _
    go_wp2
    go_ret
    exact ⟨ret_bool HRF.out.symm, hR.out.fp.then HF1.out⟩
  ·have hke : k = n := by omega
   subst hke
   have hrt : r = true := HT.out (fun i hi => hR.out.chk i hi (by rw [HX.out.1]; exact hi))
   have HRT := Lib.hid hrt
   have q3 : ((k : Int) < (k : Int)) = False := eq_false (by omega)
   clear hlt hk hrt
   go_wp2
   go_ret
   exact ⟨ret_bool HRT.out.symm, hR.out.fp⟩
end Go.Proofs.YtphoglepiegeiaaGreatDoor
namespace Go.Proofs.YtphoglepiegeiaaGreatDoor
set_option maxRecDepth 20000
open Go.RowKit Pm
set_option maxHeartbeats 1000000 in
theorem nRight_c (v : Value) (l : List Nd) (w : World) (hv : Ns w v l) (hs : Sp l) :
  Calls Tryz.prog 75 #[v] w fun e w' => e = .returned (.bool (right l)) ∧ Fp Non w w' := by
 by_cases h0 : 0 < l.length
 ·by_cases h5 : l.length ≤ 512
  ·by_cases hr : (l[0]'h0).path = [47]
   ·by_cases ho : (l[0]'h0).own = 0
    ·exact Right_loop v l w hv hs h0 h5 hr ho
    ·have hf : right l = false := right_false (fun t => ho t.free)
     obtain ⟨g, o, cap, rfl, hlc, hcm, hgl, hcell⟩ := hv.at h0
     have hc0 := hcell 0 h0
     obtain ⟨n, hn⟩ : ∃ n, n = l.length := ⟨_, rfl⟩
     have q0 : w.cell? ⟨g, o, none⟩ = some (.string ⟨#[47]⟩) := by have := hc0.c0; rw [hr] at this; simpa [strV, B] using this
     obtain ⟨z, hz⟩ : ∃ z, z = (l[0]'h0).own := ⟨_, rfl⟩
     have q4 : w.cell? ⟨g, o + 4, none⟩ = some (.int .i64 z) := by have := hc0.c4; rw [← hz] at this; simpa using this
     have q1 : ((512 : Int) < (n : Int)) = False := eq_false (by omega)
     have q2 : ((n : Int) == 0) = false := beq_eq_false_iff_ne.2 (by omega)
     have q3 : (z != 0) = true := by rw [hz]; simpa using ho
     rw [hf, ← hn]
     have hn0 : 0 < n := by omega
     clear hv hlc hcm hc0 hcell hr ho hf hz hs h5 hn h0
     go_enter Tryz.func75, Tryz.ntmps75
     go_wp2
     go_ret
     exact ⟨rfl, Fp.refl _ _⟩
   ·have hf : right l = false := right_false (fun t => hr t.root)
    obtain ⟨g, o, cap, rfl, hlc, hcm, hgl, hcell⟩ := hv.at h0
    have hc0 := hcell 0 h0
    obtain ⟨n, hn⟩ : ∃ n, n = l.length := ⟨_, rfl⟩
    obtain ⟨p, hp⟩ : ∃ p, p = (l[0]'h0).path := ⟨_, rfl⟩
    have q0 : w.cell? ⟨g, o, none⟩ = some (.string (B p)) := by have := hc0.c0; rw [← hp] at this; simpa [strV] using this
    have q1 : ((512 : Int) < (n : Int)) = False := eq_false (by omega)
    have q2 : ((n : Int) == 0) = false := beq_eq_false_iff_ne.2 (by omega)
    have q3 : (p == [47]) = false := by rw [hp]; simpa using hr
    rw [hf, ← hn]
    have hn0 : 0 < n := by omega
    clear hv hlc hcm hc0 hcell hr hf hp hs h5 hn h0
    go_enter Tryz.func75, Tryz.ntmps75
    go_wp2
    go_ret
    exact ⟨rfl, Fp.refl _ _⟩
  ·have hf : right l = false := right_false (fun t => h5 t.most)
   obtain ⟨ao, cap, rfl⟩ := hv.shape
   obtain ⟨n, hn⟩ : ∃ n, n = l.length := ⟨_, rfl⟩
   have q1 : ((512 : Int) < (n : Int)) = True := eq_true (by omega)
   have q2 : ((n : Int) == 0) = false := beq_eq_false_iff_ne.2 (by omega)
   rw [hf, ← hn]
   clear hv hf hs h5 hn h0
   go_enter Tryz.func75, Tryz.ntmps75
   go_wp2
   go_ret
   exact ⟨rfl, Fp.refl _ _⟩
 ·have hf : right l = false := right_false (fun t => h0 t.pos)
  have h0' : l.length = 0 := by omega
  obtain ⟨ao, cap, rfl⟩ := hv.shape
  rw [hf, h0']
  clear hv hf hs h0 h0'
  go_enter Tryz.func75, Tryz.ntmps75
  go_wp2
  go_ret
  exact ⟨rfl, Fp.refl _ _⟩
structure Pd (S : Nat → Prop) (wc : World) (f : Value) (q : Nd → Bool) : Prop where
 ex : ∃ k fi cap, f = .func (.func k) fi cap ∧ Enters Tryz.prog k ∧ ∀ n w1, n.path.length ≤ 1000000 → Fp S wc w1 →
  Calls Tryz.prog k (fi ++ #[ndV n] ++ cap) w1 fun e w2 => e = .returned (.bool (q n)) ∧ Fp Non w1 w2
theorem Pd.later {S : Nat → Prop} {wc w : World} {f : Value} {q : Nd → Bool} (h : Pd S wc f q) (g : Fp S wc w) : Pd S w f q := by
 obtain ⟨k, fi, cap, e, h1, h2⟩ := h.ex
 exact ⟨k, fi, cap, e, h1, fun n w1 hn hf => h2 n w1 hn (g.same hf)⟩
theorem Pd.non {S : Nat → Prop} {wc : World} {f : Value} {q : Nd → Bool} (h : Pd S wc f q) : Pd Non wc f q := by
 obtain ⟨k, fi, cap, e, h1, h2⟩ := h.ex
 exact ⟨k, fi, cap, e, h1, fun n w1 hn hf => h2 n w1 hn hf.any⟩
def Idx (q : Nd → Bool) (l : List Nd) (z : Int) : Prop := (z = -1 ∧ ∀ n ∈ l, q n = false) ∨ ∃ i, z = ((i : Nat) : Int) ∧ ∃ h : i < l.length, q l[i] = true ∧ ∀ j (hj : j < l.length), j < i → q l[j] = false
set_option maxHeartbeats 1000000 in
theorem IndexFunc_c (v f : Value) (l : List Nd) (q : Nd → Bool) (w : World) (hv : Ns w v l) (hs : Sp l) (hq : Pd Non w f q) (hn : l.length ≤ 1000000) :
  Calls Tryz.prog 168 #[v, f] w fun e w' => (∃ z, e = .returned (.int .i64 z) ∧ Idx q l z) ∧ Fp Non w w' := by
 obtain ⟨ao, cap, rfl⟩ := hv.shape
 obtain ⟨n, hnn⟩ : ∃ n, n = l.length := ⟨_, rfl⟩
 obtain ⟨kf, fi, fc, rfl, hen, hcall⟩ := hq.ex
 have HX := Lib.hid (And.intro hnn (And.intro hv (And.intro hs hcall)))
 rw [← hnn]
 have hnb : n ≤ 1000000 := by omega
 clear hv hs hq hcall hn hnn
 go_enter Tryz.func168, Tryz.ntmps168
 go_wp2_with fail
 go_loopw [8] (fun i wr => ∃ k : Nat, k ≤ n ∧ i = .int .i64 k ∧ Hid (Fp Non w wr ∧ ∀ j (hj : j < l.length), j < k → q l[j] = false)) (fun i _ => n - (RowKit.intOf i).toNat)
 case atStart => exact ⟨0, Nat.zero_le _, rfl, Fp.refl _ _, fun j _ h => absurd h (Nat.not_lt_zero j)⟩
 case round =>
  obtain ⟨k, hk, rfl, hR⟩ := hrel
  rename_i wr _
  by_cases hlt : k < n
  ·have hkl : k < l.length := by rw [← HX.out.1]; exact hlt
   obtain ⟨g, o, cap', e, _, _, _, hcell⟩ := HX.out.2.1.at (by omega)
   injection e with e1 e2 e3
   subst e1 e3
   have hnd := (hcell k hkl).keep hR.out.1 (fun h => h)
   have hcc := HX.out.2.2.2 l[k] wr (HX.out.2.2.1 _ (List.getElem_mem hkl)) hR.out.1
   obtain ⟨b, hb⟩ : ∃ b, q l[k] = b := ⟨_, rfl⟩
   rw [hb] at hcc
   have HB := Lib.hid (And.intro hkl (And.intro hb hlt))
   have HL := Lib.hid (And.intro hkl hlt)
   have hnew : b = false → ∀ j (hj : j < l.length), j < k + 1 → q l[j] = false := fun h j hj hjk => by
    rcases Nat.lt_or_eq_of_le (show j ≤ k by omega) with e | e
    ·exact hR.out.2 j hj e
    ·subst e; rw [hb, h]
   have hfin : b = true → Idx q l (k : Int) := fun h => .inr ⟨k, rfl, hkl, by rw [hb, h], fun j hj hjk => hR.out.2 j hj hjk⟩
   have HN := Lib.hid (And.intro hnew hfin)
   clear HB hnew hfin hb hcell
   generalize l[k] = x at *
   have c0 := hnd.c0; have c1 := hnd.c1; have c2 := hnd.c2; have c3 := hnd.c3; have c4 := hnd.c4
   unfold strV at c0 c1
   unfold ndV strV at hcc
   have q3 : ((k : Int) < (n : Int)) = True := eq_true (by omega)
   have q4 : (k < n) = True := eq_true hlt
   have HCC := Lib.hid hcc
   clear hnd hcc hkl hlt
   go_wp2_with fail
   rw [hen _ _]
   go_wp2_with fail
   refine HCC.out.mono ?_
   rintro e w2 ⟨rfl, hf2⟩
   have HF := Lib.hid (hR.out.1.then hf2)
   clear hf2
   cases b with
   | true =>
    have hI := HN.out.2 rfl
    have HI := Lib.hid hI
    clear HN hI
    go_wp2
    go_ret
    exact ⟨⟨_, rfl, HI.out⟩, HF.out⟩
   | false =>
    have hM : Hid (Fp Non w w2 ∧ ∀ j (hj : j < l.length), j < k + 1 → q l[j] = false) := ⟨HF.out, HN.out.1 rfl⟩
    have hkn := HL.out.2
    clear HN
    go_wp2
    go_roundw
    case rel => exact ⟨k + 1, by omega, by go_num, hM⟩
    case measure => simp [RowKit.intOf]; omega
  ·have hke : k = n := by omega
   subst hke
   have q3 : ((k : Int) < (k : Int)) = False := eq_false (by omega)
   have hI : Idx q l (-1) := .inl ⟨rfl, fun x hx => by
    obtain ⟨i, hi, rfl⟩ := List.getElem_of_mem hx
    exact hR.out.2 i hi (by rw [HX.out.1]; exact hi)⟩
   have HI := Lib.hid hI
   clear hlt hk hI
   go_wp2
   go_ret
   exact ⟨⟨_, rfl, HI.out⟩, hR.out.1⟩
theorem Idx.pos {q : Nd → Bool} {l : List Nd} {z : Int} (h : Idx q l z) : decide (0 ≤ z) = l.any q := by
 rcases h with ⟨rfl, h⟩ | ⟨i, rfl, hi, h, _⟩
 ·have : l.any q = false := by rw [List.any_eq_false]; intro x hx; simp [h x hx]
  rw [this]; rfl
 ·have : l.any q = true := List.any_eq_true.2 ⟨_, List.getElem_mem hi, h⟩
  rw [this]; simp
set_option maxHeartbeats 1000000 in
theorem ContainsFunc_c (v f : Value) (l : List Nd) (q : Nd → Bool) (w : World) (hv : Ns w v l) (hs : Sp l) (hq : Pd Non w f q) (hn : l.length ≤ 1000000) :
  Calls Tryz.prog 131 #[v, f] w fun e w' => e = .returned (.bool (l.any q)) ∧ Fp Non w w' := by
 have hi := IndexFunc_c v f l q w hv hs hq hn
 have HI := Lib.hid hi
 obtain ⟨ao, cap, rfl⟩ := hv.shape
 obtain ⟨kf, fi, fc, rfl, _, _⟩ := hq.ex
 clear hi hv hq hs hn
 go_enter Tryz.func131, Tryz.ntmps131
 go_wp2_with fail
 refine HI.out.mono ?_
 rintro e w1 ⟨⟨z, rfl, hz⟩, hf⟩
 have HZ := Lib.hid (And.intro hz.pos hf)
 clear hz hf
 go_wp2
 go_ret
 exact ⟨ret_bool HZ.out.1, HZ.out.2⟩
theorem set5 {w : World} {b : Nat} {T : TypeId} {a0 a1 a2 a3 a4 : Value} (h : w.heap[b]? = some (.cells #[a0, a1, a2, a3, a4] T (0, 0))) (v0 v1 v2 v3 v4 : Value) :
  (((((w.setCell ⟨b, 0, none⟩ v0).setCell ⟨b, 1, none⟩ v1).setCell ⟨b, 2, none⟩ v2).setCell ⟨b, 3, none⟩ v3).setCell ⟨b, 4, none⟩ v4).heap[b]? = some (.cells #[v0, v1, v2, v3, v4] T (0, 0)) := by
 have h1 := heap_setCell_same w b 0 _ T v0 h
 have h2 := heap_setCell_same _ b 1 _ T v1 h1
 have h3 := heap_setCell_same _ b 2 _ T v2 h2
 have h4 := heap_setCell_same _ b 3 _ T v3 h3
 have h5 := heap_setCell_same _ b 4 _ T v4 h4
 exact h5
theorem fp5 {S : Nat → Prop} {a w : World} (f : Fp S a w) {b : Nat} (hb : S b ∨ a.heap.size ≤ b) (v0 v1 v2 v3 v4 : Value) :
  Fp S a (((((w.setCell ⟨b, 0, none⟩ v0).setCell ⟨b, 1, none⟩ v1).setCell ⟨b, 2, none⟩ v2).setCell ⟨b, 3, none⟩ v3).setCell ⟨b, 4, none⟩ v4) :=
 ((((f.setCell (p := ⟨b, 0, none⟩) hb v0).setCell (p := ⟨b, 1, none⟩) hb v1).setCell (p := ⟨b, 2, none⟩) hb v2).setCell (p := ⟨b, 3, none⟩) hb v3).setCell (p := ⟨b, 4, none⟩) hb v4
def zeroNd : Nd := ⟨[], [], 0, 0, 0⟩
end Go.Proofs.YtphoglepiegeiaaGreatDoor
namespace Go.Proofs.YtphoglepiegeiaaGreatDoor
set_option maxRecDepth 20000
open Go.RowKit Pm
def cmpI (a b : Bs) : Int := if lt a b = true then -1 else if a = b then 0 else 1
theorem cmp_eq : ∀ a b : Bs, Lib.compareBytes a b = cmpI a b
 | [], [] => rfl
 | [], _ :: _ => rfl
 | x :: a, [] => by unfold cmpI; rw [lt_nil_right]; simp [Lib.compareBytes]
 | x :: a, y :: b => by
  have ih := cmp_eq a b
  unfold Lib.compareBytes cmpI
  rw [lt_cons]
  by_cases h1 : x < y
  ·simp [h1]
  ·rw [if_neg h1]
   by_cases h2 : y < x
   ·have hne : x ≠ y := fun e => by subst e; exact h1 h2
    simp [h1, h2, hne]
   ·have e : x = y := UInt8.le_antisymm (UInt8.not_lt.1 h2) (UInt8.not_lt.1 h1)
    subst e
    rw [if_neg h2, ih]
    unfold cmpI
    simp [h1]
structure BsM (l : List Nd) (p : Bs) (w : World) (i j : Nat) (wr : World) : Prop where
 fp : Fp Non w wr
 lo : ∀ x (h : x < l.length), x < i → lt l[x].path p = true
 hi : ∀ x (h : x < l.length), j ≤ x → lt l[x].path p = false
 ij : i ≤ j
 jn : j ≤ l.length
end Go.Proofs.YtphoglepiegeiaaGreatDoor
namespace Go.Proofs.YtphoglepiegeiaaGreatDoor
set_option maxRecDepth 20000
open Go.RowKit Pm
abbrev TO_ : TypeId := 41
abbrev TT : TypeId := 114
def opV (o : Opn) : Value := .agg #[.int .i64 o.kind, strV o.path, strV o.data, .int .i64 o.ver, .int .i64 o.own, .bool o.turns]
structure Tn (lo b G cap : Nat) (l : List Nd) (w : World) : Prop where
 blk : w.heap[b]? = some (.cells #[.slice (some ⟨G, 0, none⟩) l.length cap] TT (0, 0))
 low : lo ≤ b
 lowG : lo ≤ G
 ne : b ≠ G
 row : Nr w G cap l
def ownT (b G : Nat) : Nat → Prop := fun k => k = b ∨ k = G
section
variable {lo b G cap : Nat} {l : List Nd} {w w' : World}
theorem Tn.keep (h : Tn lo b G cap l w) {S : Nat → Prop} (f : Fp S w w') (hb : ¬ S b) (hG : ¬ S G) : Tn lo b G cap l w' := ⟨f.heap h.blk hb, h.low, h.lowG, h.ne, h.row.keep f hG⟩
theorem Tn.non (h : Tn lo b G cap l w) (f : Fp Non w w') : Tn lo b G cap l w' := h.keep f (fun h => h) (fun h => h)
theorem Tn.lt (h : Tn lo b G cap l w) : b < w.heap.size := (Array.getElem?_eq_some_iff.1 h.blk).1
theorem Tn.c0 (h : Tn lo b G cap l w) : w.cell? ⟨b, 0, none⟩ = some (.slice (some ⟨G, 0, none⟩) l.length cap) := by rw [cell_of_row _ _ _ _ _ _ h.blk]; rfl
theorem Tn.fz (h : Tn lo b G cap l w) : w.frozen? ⟨b, 0, none⟩ = false := by simp [World.frozen?, h.blk]
end
theorem fO : (Tryz.prog.fieldsOf TO_).toList = [⟨ "Kind", 3, 0, false, "", "", 0⟩, ⟨ "Path", 9, 1, false, "", "", 8⟩, ⟨ "Data", 9, 2, false, "", "", 24⟩, ⟨ "Version", 2, 3, false, "", "", 40⟩, ⟨ "Owner", 2, 4, false, "", "", 48⟩, ⟨ "Turns", 4, 5, false, "", "", 56⟩] := by kernel_rfl
theorem eq_op (w : World) (k k' : Int) (p p' d d' : ByteArray) (v v' o o' : Int) (t t' : Bool) : (Op.equalIn 10000 TO_ (.agg #[.int .i64 k, .string p, .string d, .int .i64 v, .int .i64 o, .bool t]) (.agg #[.int .i64 k', .string p', .string d', .int .i64 v', .int .i64 o', .bool t'])).run Tryz.prog w =
  .ok (decide (k = k' ∧ p.toList = p'.toList ∧ d.toList = d'.toList ∧ v = v' ∧ o = o' ∧ t = t')) w := by
 rw [run_equalIn_agg w 9999 TO_ _ _ (by kernel_rfl) (by kernel_rfl), fO]
 have e1 := fun w a b => run_equalIn_int (P := Tryz.prog) w 9998 3 .i64 .i64 a b Tryz.underlying3
 have e2 := fun w a b => run_equalIn_int (P := Tryz.prog) w 9998 2 .i64 .i64 a b Tryz.underlying2
 have e3 := fun w a b => run_equalIn_string (P := Tryz.prog) w 9998 9 a b Tryz.underlying9
 have e4 := fun w a b => run_equalIn_bool' (P := Tryz.prog) w 9998 4 a b Tryz.underlying4
 simp only [Op.eqFields]
 simp [e1, e2, e3, e4, go_sem]
 by_cases h1 : k = k' <;> by_cases h2 : p.toList = p'.toList <;> by_cases h3 : d.toList = d'.toList <;> by_cases h4 : v = v' <;> by_cases h5 : o = o' <;> by_cases h6 : t = t' <;> simp [h1, h2, h3, h4, h5, h6]
theorem box6 {w : World} {b : Nat} {T : TypeId} {c0 c1 c2 c3 c4 c5 : Value} (h : w.heap[b]? = some (.cells #[c0, c1, c2, c3, c4, c5] T (0, 0))) :
  w.cell? ⟨b, 0, none⟩ = some c0 ∧ w.cell? ⟨b, 1, none⟩ = some c1 ∧ w.cell? ⟨b, 2, none⟩ = some c2 ∧ w.cell? ⟨b, 3, none⟩ = some c3 ∧ w.cell? ⟨b, 4, none⟩ = some c4 ∧ w.cell? ⟨b, 5, none⟩ = some c5 :=
 ⟨by rw [cell_of_row _ _ _ _ _ _ h]; rfl, by rw [cell_of_row _ _ _ _ _ _ h]; rfl, by rw [cell_of_row _ _ _ _ _ _ h]; rfl, by rw [cell_of_row _ _ _ _ _ _ h]; rfl, by rw [cell_of_row _ _ _ _ _ _ h]; rfl, by rw [cell_of_row _ _ _ _ _ _ h]; rfl⟩
theorem fields_at1 (w : World) : (Instr.index 108 (.agg #[.int .i64 0, .int .i64 43, .int .i64 5, .int .i64 6, .int .i64 4, .int .i64 0, .int .i64 0, .int .i64 24]) (.int .i64 1)).run Tryz.prog w = .ok (.int .i64 43) w := by kernel_rfl
theorem fields_at2 (w : World) : (Instr.index 108 (.agg #[.int .i64 0, .int .i64 43, .int .i64 5, .int .i64 6, .int .i64 4, .int .i64 0, .int .i64 0, .int .i64 24]) (.int .i64 2)).run Tryz.prog w = .ok (.int .i64 5) w := by kernel_rfl
theorem fields_at3 (w : World) : (Instr.index 108 (.agg #[.int .i64 0, .int .i64 43, .int .i64 5, .int .i64 6, .int .i64 4, .int .i64 0, .int .i64 0, .int .i64 24]) (.int .i64 3)).run Tryz.prog w = .ok (.int .i64 6) w := by kernel_rfl
theorem fields_at4 (w : World) : (Instr.index 108 (.agg #[.int .i64 0, .int .i64 43, .int .i64 5, .int .i64 6, .int .i64 4, .int .i64 0, .int .i64 0, .int .i64 24]) (.int .i64 4)).run Tryz.prog w = .ok (.int .i64 4) w := by kernel_rfl
theorem fields_at5 (w : World) : (Instr.index 108 (.agg #[.int .i64 0, .int .i64 43, .int .i64 5, .int .i64 6, .int .i64 4, .int .i64 0, .int .i64 0, .int .i64 24]) (.int .i64 5)).run Tryz.prog w = .ok (.int .i64 0) w := by kernel_rfl
theorem fields_at6 (w : World) : (Instr.index 108 (.agg #[.int .i64 0, .int .i64 43, .int .i64 5, .int .i64 6, .int .i64 4, .int .i64 0, .int .i64 0, .int .i64 24]) (.int .i64 6)).run Tryz.prog w = .ok (.int .i64 0) w := by kernel_rfl
theorem fields_at7 (w : World) : (Instr.index 108 (.agg #[.int .i64 0, .int .i64 43, .int .i64 5, .int .i64 6, .int .i64 4, .int .i64 0, .int .i64 0, .int .i64 24]) (.int .i64 7)).run Tryz.prog w = .ok (.int .i64 24) w := by kernel_rfl
end Go.Proofs.YtphoglepiegeiaaGreatDoor
namespace Go.Proofs.YtphoglepiegeiaaGreatDoor
set_option maxRecDepth 20000
open Go.RowKit Pm
theorem wpList_app {P : Program} {w : World} {ops : Array Oper} {rest : List Oper} {o : Oper} {a : Act} {Q : Exit → Act → World → Prop} (hgd : o.guard = none) (s x : Operand) (t u : TypeId)
  (ho : o.op = .call { callee := .builtin .append, args := #[s, x], argTypes := #[t, u] }) (v xv : Value) (hs : a.eval s = v) (hx : a.eval x = xv) (R : Value → World → Prop)
  (hr : ∃ v' w', (Builtin.append_ #[t, u] o.type #[v, xv]).run P w = .ok v' w' ∧ R v' w') (h : ∀ v' w', R v' w' → wpList P ops Q rest (a.put o.dst v') w') : wpList P ops Q (o :: rest) a w := by
 refine wpList_plain hgd fun K hK => ?_
 obtain ⟨v', w', hr, h2⟩ := hr
 unfold Oper.wp execOp
 simp only [ho, resolve, invoke, builtin, Sem.run_bind, Sem.run_pure, Result.andThen_ok, List.map_toArray, List.map_cons, List.map_nil, hs, hx, hr]
 exact hK _ _ (h v' w' h2)
theorem nil_slice (w : World) (a : Addr) (n c : Nat) : (binOp .eql TL (.slice (some a) n c) (.slice none 0 0)).run Tryz.prog w = .ok (.bool false) w :=
 Lib.run_eql_slice_nil w TL TN (some a) n c 0 0 Tryz.underlying22
end Go.Proofs.YtphoglepiegeiaaGreatDoor
