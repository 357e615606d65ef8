/- Texts of this proof, merged. -/
import Derived.Test.YtdfnfkknbjageaaZD
import Derived.Test.YtdfnfkknbjageaaZB
import Derived.Test.YtdfnfkknbjageaaZA
import Derived.WalkSpells
import Derived.Deep.RegionWith
import Derived.Deep.RegionLaw
import Derived.Laws.CopyRow
import Derived.Laws.IdiomCopy
import Derived.Laws.OwnMore
import Derived.Maps.AppendAt
import Derived.Deep.Upon
import Derived.OwnWalk
import Derived.Lib.SliceRun
import Derived.Lib.Overlaps
import Derived.Lib.AppendZerosOnto
import Derived.Laws.Externs
import Derived.Laws.StructEq
import Derived.Deep.RegionHeld
import Derived.Test.YtdfnfkknbjageaaZG
import Derived.Test.YtdfnfkknbjageaaZH
import Derived.RangeFuncNested
import Derived.RangeFuncBound
import Derived.RangeFuncCalls
import Derived.RangeFuncLeaves
import Derived.RangeFuncBox
import Derived.Shelf.Abstract
import Derived.WalkKit
import Derived.OwnWalkIn
import Derived.TacticsInMore
import Derived.LoopNIn
import Derived.LoopIn
set_option linter.unusedVariables false
set_option linter.unusedSimpArgs false
/- Short words for the walk of a region that draws its order, by hand. -/
namespace Go.Proofs.Ytdfnfkknbjageaa
set_option maxRecDepth 20000
open Go.RowKit

theorem zz : (∀ (a : Act) (i : Tmp) (v : Value), a.put (some i) v = { a with tmps := a.tmps.setIfInBounds i v }) ∧ (∀ (a : Act) (v : Value), a.put none v = a) ∧ (∀ {α : Type} {l : List α} {i : Nat} {a : α}, l.toArray.setIfInBounds i a = (l.set i a).toArray) ∧ (∀ {α : Type} {b a : α} {l : List α}, (b :: l).set 0 a = a :: l) ∧ (∀ {α : Type} {b a : α} {l : List α} {i : Nat}, (b :: l).set (i + 1) a = b :: l.set i a) :=
  ⟨zP, zN, zS, zT, zU⟩
section
variable {P : Program} {ops : Array Oper} {Q : Exit → Act → World → Prop} {md : Region.Mode} {S : World → Prop}
theorem b5 {w : World} {b : Nat} {T : TypeId} {c0 c1 c2 c3 c4 : Value} (h : w.heap[b]? = some (.cells #[c0, c1, c2, c3, c4] T (0, 0))) :
    w.cell? ⟨b, 0, none⟩ = some c0 ∧ w.cell? ⟨b, 1, none⟩ = some c1 ∧ w.cell? ⟨b, 2, none⟩ = some c2 ∧ w.cell? ⟨b, 3, none⟩ = some c3 ∧ w.cell? ⟨b, 4, none⟩ = some c4 :=
  ⟨by rw [cell_of_row _ _ _ _ _ _ h]; rfl, by rw [cell_of_row _ _ _ _ _ _ h]; rfl, by rw [cell_of_row _ _ _ _ _ _ h]; rfl, by rw [cell_of_row _ _ _ _ _ _ h]; rfl, by rw [cell_of_row _ _ _ _ _ _ h]; rfl⟩
/-- Operation i is taken first: what it yields hangs on S alone. -/
theorem tkt (i : Nat) {oi : Oper} {v : Value} {fuel : Nat} {listed : Array Bool} {a a' : Act} {w : World} (hS : S w) (k : wpAnyH P md ops Q S fuel (listed.setIfInBounds i true) a' w) (hi : ops[i]? = some oi := by simp only [zA, zB, zC] <;> exact rfl)
    (y : ∀ w, S w → (execOp a.eval oi).run P w = .ok (.value v) w := by intro w; (try dsimp only); (try simp only [and_imp]); intros; go_simp; try with_reducible rfl)
    (ha : a.put oi.dst v = a' := by simp only [zP, zN, zS, zT, zU] <;> exact rfl)
    (hs : Region.noSelect ops = true := by kernel_rfl) (hf : Region.free md ops listed i = true := by kernel_rfl) (hr : (Region.ready md ops listed).contains i = true := by kernel_rfl)
    (hq : ∀ c a w, Q (.panic c) (a.put oi.dst v) w → Q (.panic c) a w := by exact fun _ _ _ h => h) (hw : Region.wanted oi (yielded ops a.tmps) = true := by rfl) :
    wpAnyH P md ops Q S (fuel + 1) listed a w := by subst ha; exact wpAnyH_take hi hs hf hr hq (.inl ⟨hw, y⟩) hS k
/-- Operation i isn't wanted. -/
theorem skt (i : Nat) {oi : Oper} {fuel : Nat} {listed : Array Bool} {a a' : Act} {w : World} (hS : S w)
    (k : wpAnyH P md ops Q S fuel (listed.setIfInBounds i true) a' w) (hi : ops[i]? = some oi := by simp only [zA, zB, zC] <;> exact rfl)
    (ha : a.put oi.dst undef = a' := by simp only [zP, zN, zS, zT, zU] <;> exact rfl)
    (hs : Region.noSelect ops = true := by kernel_rfl) (hf : Region.free md ops listed i = true := by kernel_rfl) (hr : (Region.ready md ops listed).contains i = true := by kernel_rfl)
    (hq : ∀ c a w, Q (.panic c) (a.put oi.dst undef) w → Q (.panic c) a w := by exact fun _ _ _ h => h) (hw : Region.wanted oi (yielded ops a.tmps) = false := by rfl) :
    wpAnyH P md ops Q S (fuel + 1) listed a w := by subst ha; exact wpAnyH_take hi hs hf hr hq (.inr ⟨hw, rfl⟩) hS k
/-- Operation i alone is ready. -/
theorem rY (i : Nat) {o : Oper} {fuel : Nat} {listed : Array Bool} {a : Act} {w : World}
    (h : ∀ K' : Act → World → Prop, Shut (∀ a w, S w → (S w → wpAnyH P md ops Q S fuel (listed.setIfInBounds i true) a w) → K' a w) → if Region.wanted o (yielded ops a.tmps) = true then Oper.wp P o a w K' Q else K' (a.put o.dst undef) w)
    (ho : ops[i]? = some o := by simp only [zA, zB, zC] <;> exact rfl) (hr : Region.ready md ops listed = [i] := by kernel_rfl) : wpAnyH P md ops Q S (fuel + 1) listed a w := wpAnyH_ready hr (by simp) (AllReadyH.cons ho h AllReadyH.nil)
/-- Nothing is left. -/
theorem yD {fuel : Nat} {listed : Array Bool} {a : Act} {w : World} (h : Q .normal a w) (hd : Region.ready md ops listed = [] := by kernel_rfl) : wpAnyH P md ops Q S fuel listed a w := wpAnyH_done hd h fuel
end
end Go.Proofs.Ytdfnfkknbjageaa

/- mounts.Right (gen_bc.py) -/
namespace Go.Proofs.Ytdfnfkknbjageaa
set_option maxRecDepth 20000
set_option linter.unusedVariables false
set_option linter.unusedSimpArgs false
open Go.RowKit Pm


theorem bxM (wr : World) (x : Mt) : NdAtM (wr.alloc (Obj.cells #[.string (B x.d), .int .i64 x.g, .int .i64 x.e, .int .i64 x.t] TM)).drew wr.heap.size 0 x := (BxM.new wr x).nd.keep ((Fp.refl Non _).drew) (fun h => h)
/-- One mount in a list. -/
def ChkM (l : List Mt) (j : Nat) (hj : j < l.length) : Prop := okM l[j] = true ∧ (0 < j → ∀ h : j - 1 < l.length, lt l[j-1].d l[j].d = true)
theorem chkM_right {l : List Mt} (h : RtM l) : ∀ j (hj : j < l.length), ChkM l j hj := fun j hj =>
  ⟨h.ok _ (List.getElem_mem hj), fun h0 h1 => h.up.at h1 hj (by omega)⟩
theorem up_of {l : List Mt} (h : ∀ i (hi : i + 1 < l.length), lt l[i].d l[i + 1].d = true) : UpM l := List.pairwise_iff_getElem.2 (fun i j hi hj hij => by
  induction j with
  | zero => omega
  | succ j ih =>
    rcases Nat.lt_or_eq_of_le (show i ≤ j by omega) with e | e
    · exact lt_trans (ih (by omega) e) (h j hj)
    · subst e; exact h i hj)
theorem chkM_all {l : List Mt} (h32 : l.length ≤ 32) (hr : ∃ h : 0 < l.length, l[0].d = [47]) (h : ∀ j (hj : j < l.length), ChkM l j hj) : RtM l :=
  ⟨h32, fun n hn => by obtain ⟨i, hi, rfl⟩ := List.getElem_of_mem hn; exact (h i hi).1, up_of fun i hi => by have := (h (i + 1) hi).2 (by omega) (by omega); simpa using this,
   by obtain ⟨h0, e⟩ := hr
      cases l with
      | nil => simp at h0
      | cons x r => exact ⟨x, r, rfl, by simpa using e⟩⟩

set_option maxHeartbeats 16000000 in
theorem RightM_c (v : Value) (l : List Mt) (w : World) (hv : NsM w v l) (hs : ∀ x ∈ l, x.d.length ≤ 140737488355328) (hn : l.length ≤ 140737488355328) :
    Calls Try.prog 19 #[v] w fun e w' => e = .returned (.bool (rightM l)) ∧ Fp Non w w' := by
  obtain ⟨ao, cap, rfl⟩ := hv.shape
  obtain ⟨n, hnn⟩ : ∃ n, n = l.length := ⟨_, rfl⟩
  obtain ⟨r, hr⟩ : ∃ r, rightM l = r := ⟨_, rfl⟩
  have hno : ¬ RtM l → r = false := fun h => by
    cases e : r with
    | false => rfl
    | true => rw [e] at hr; exact absurd ((right_ifft l).1 hr) h
  have HNone := Lib.hid (show ∀ k (hk : k < l.length), ¬ ChkM l k hk → r = false from fun k hk h => hno (fun c => h (chkM_right c k hk)))
  have HYes := Lib.hid (show RtM l → r = true from fun h => by rw [← hr]; exact (right_ifft l).2 h)
  have HLong := Lib.hid (show 32 < l.length → r = false from fun h => hno (fun c => by have := c.len; omega))
  have HEmpty := Lib.hid (show l.length = 0 → r = false from fun h => hno (fun c => by have := c.pos; omega))
  have HRoot := Lib.hid (show ∀ h : 0 < l.length, l[0].d ≠ [47] → r = false from fun h e => hno (fun c => by obtain ⟨x, r, rfl, h2⟩ := c.root; exact e h2))
  have HX := Lib.hid (And.intro hnn (And.intro hv hs))
  rw [hr, ← hnn]
  have hnb : n ≤ 140737488355328 := by omega
  clear hv hs hn hnn hr hno
  go_enter Try.func19, Try.ntmps19
  by_cases h00 : n = 0
  · have HE := Lib.hid (HEmpty.out (by rw [← HX.out.1]; exact h00))
    subst h00
    go_wp2
    go_ret
    exact ⟨ret_bool HE.out.symm, Fp.refl _ _⟩
  have q01 : ((n : Int) == 0) = false := beq_eq_false_iff_ne.2 (by omega)
  have q02 : ((n : Int) = 0) = False := eq_false (by omega)
  have q03 : (n == 0) = false := beq_eq_false_iff_ne.2 h00
  have q04 : (n = 0) = False := eq_false h00
  by_cases h32 : 32 < n
  · have q1 : ((32 : Int) < (n : Int)) = True := eq_true (by omega)
    have q2 : (32 < n) = True := eq_true h32
    have HE := Lib.hid (HLong.out (by rw [← HX.out.1]; exact h32))
    clear h32 h00
    go_wp2
    go_ret
    exact ⟨ret_bool HE.out.symm, Fp.refl _ _⟩
  have q1 : ((32 : Int) < (n : Int)) = False := eq_false (by omega)
  have q2 : (32 < n) = False := eq_false h32
  have qp1 : ((0 : Int) < (n : Int)) = True := eq_true (by omega)
  have qp2 : (0 < n) = True := eq_true (by omega)
  have H32 := Lib.hid (And.intro h32 h00)
  have h0l : 0 < l.length := by rw [← HX.out.1]; omega
  obtain ⟨g0, o0, cap0, e0, _, _, _, hcell0⟩ := HX.out.2.1.at h0l
  injection e0 with e1 e2 e3
  subst e1 e3
  have z0 := (hcell0 0 h0l).c0
  rw [Nat.zero_mul, Nat.add_zero] at z0
  have hroot := HRoot.out h0l
  obtain ⟨d0, hd0⟩ : ∃ d, d = (l[0]).d := ⟨_, rfl⟩
  rw [← hd0] at z0 hroot
  unfold strV at z0
  by_cases hrt : ¬ d0 = [47]
  · have HE := Lib.hid (hroot hrt)
    have qr : (d0 == [47]) = false := beq_eq_false_iff_ne.2 hrt
    have qr2 : (d0 = [47]) = False := eq_false hrt
    clear h32 h00 hroot hd0 hcell0 h0l hrt e2
    go_wp2
    go_ret
    exact ⟨ret_bool HE.out.symm, Fp.refl _ _⟩
  have hrt := Decidable.not_not.1 hrt
  have HRT := Lib.hid (show ∃ h : 0 < l.length, l[0].d = [47] from ⟨h0l, by rw [← hd0]; exact hrt⟩)
  subst hrt
  clear h32 h00 hroot hd0 hcell0 h0l e2
  go_wp2_with fail
  clear z0
  go_loopw [22] (fun i wr => ∃ k : Nat, k ≤ n ∧ i = .int .i64 k ∧ Hid (Fp Non w wr ∧ ∀ j (hj : j < l.length), j < k → ChkM l j hj)) (fun i _ => n - (RowKit.intOf i).toNat)
  case atStart => exact ⟨0, Nat.zero_le _, rfl, Fp.refl _ _, fun j _ h => absurd h (Nat.not_lt_zero j)⟩
  case round =>
    obtain ⟨k, hk, rfl, hR⟩ := hrel
    rename_i wr _
    by_cases hlt : k < n
    · have hkl : k < l.length := by rw [← HX.out.1]; exact hlt
      obtain ⟨g, o, cap', e, _, _, _, hcell⟩ := HX.out.2.1.at (by omega)
      injection e with e1 e2 e3
      injection e1 with e1
      injection e1 with e4 e5
      subst e4 e5 e3
      clear e2
      have f0 := hR.out.1
      have hnd := (hcell k hkl).keep f0 (fun h => h)
      obtain ⟨x, hx⟩ : ∃ x, x = l[k] := ⟨_, rfl⟩
      rw [← hx] at hnd
      have c0 := hnd.c0; have c1 := hnd.c1; have c2 := hnd.c2; have c3 := hnd.c3
      unfold strV at c0
      have q3 : ((k : Int) < (n : Int)) = True := eq_true (by omega)
      have q4 : (k < n) = True := eq_true hlt
      have hxp : x.d.length ≤ 140737488355328 := HX.out.2.2 x (by rw [hx]; exact List.getElem_mem hkl)
      have hfc := fun w => fits_c x w hxp
      unfold mtV strV at hfc
      have hbb := bxM wr x
      have HB := Lib.hid (And.intro (((Fp.refl Non wr).alloc (Obj.cells #[.string (B x.d), .int .i64 x.g, .int .i64 x.e, .int .i64 x.t] TM)).drew) hbb)
      have HW := Lib.hid (f0)
      have HK := Lib.hid hlt
      have hpc : ∀ k', k' < l.length → ∃ z, (wr.alloc (Obj.cells #[.string (B x.d), .int .i64 x.g, .int .i64 x.e, .int .i64 x.t] TM)).drew.cell? ⟨g0, o0 + k' * 4, none⟩ = some (.string (B z)) ∧ ∀ h : k' < l.length, z = (l[k']).d := fun k' h => ⟨_, HB.out.1.cell ((hcell k' h).keep f0 (fun h => h)).c0 (fun h => h), fun _ => rfl⟩
      have hold := hR.out.2
      have hstep : okM x = true → (0 < k → ∀ h : k - 1 < l.length, lt (l[k-1]).d x.d = true) → ∀ j (hj : j < l.length), j < k + 1 → ChkM l j hj := fun a b j hj hjk => by
        rcases Nat.lt_or_eq_of_le (show j ≤ k by omega) with e | e
        · exact hold j hj e
        · subst e; exact ⟨by rw [← hx]; exact a, fun h0 h1 => by rw [← hx]; exact b h0 h1⟩
      have hno : (okM x = false ∨ (0 < k ∧ ∃ h : k - 1 < l.length, lt (l[k-1]).d x.d = false)) → r = false := fun h => HNone.out k hkl (fun c => by
        rcases h with h | ⟨h0, h1, h2⟩
        · have := c.1; rw [← hx, h] at this; cases this
        · have := c.2 h0 h1; rw [← hx, h2] at this; cases this)
      obtain ⟨fx, hfx⟩ : ∃ b, okM x = b := ⟨_, rfl⟩
      rw [hfx] at hfc hstep hno
      have HFC := Lib.hid hfc
      have HST := Lib.hid (And.intro hstep (And.intro hno (And.intro hpc hkl)))
      clear hfc hbb hpc hold hstep hno hfx hxp hx hnd hcell f0
      cases fx with
      | false =>
        have HNO := Lib.hid (HST.out.2.1 (.inl rfl))
        clear hkl hlt hk
        go_wp2_with fail
        refine wp_region_held_drew (S := (fun w' => w'.cell? ⟨wr.heap.size, 0, none⟩ = some (.string (B x.d)) ∧ w'.cell? ⟨wr.heap.size, 1, none⟩ = some (.int .i64 x.g) ∧ w'.cell? ⟨wr.heap.size, 2, none⟩ = some (.int .i64 x.e) ∧ w'.cell? ⟨wr.heap.size, 3, none⟩ = some (.int .i64 x.t))) (by kernel_rfl) ?_ (fun hHeld => ?_)
        · exact ⟨HB.out.2.c0, HB.out.2.c1, HB.out.2.c2, HB.out.2.c3⟩
        try simp only [zP, zN, zS, zT, zU]
        refine tkt 0 hHeld ?_
        refine rY 1 (fun K hK => ?_)
        go_simp
        go_at_call 34
        refine (HFC.out _).mono ?_
        rintro e w1 ⟨rfl, f1⟩
        have b1 := HB.out.2.keep f1 (fun h => h)
        have HS1 := Lib.hid (And.intro b1.c0 (And.intro b1.c1 (And.intro b1.c2 b1.c3)))
        have F := Lib.hid (HB.out.1.then f1)
        clear f1 b1
        go_wp2_with fail
        refine hK.out _ _ HS1.out (fun hHeld => ?_)
        clear hK K
        try simp only [zP, zN, zS, zT, zU]
        refine tkt 2 hHeld ?_
        refine tkt 3 hHeld ?_
        refine skt 4 hHeld ?_
        refine skt 5 hHeld ?_
        refine skt 6 hHeld ?_
        refine skt 7 hHeld ?_
        refine skt 8 hHeld ?_
        refine skt 9 hHeld ?_
        refine skt 10 hHeld ?_
        refine skt 11 hHeld ?_
        refine skt 12 hHeld ?_
        refine skt 13 hHeld ?_
        refine skt 14 hHeld ?_
        refine skt 15 hHeld ?_
        refine skt 16 hHeld ?_
        refine tkt 17 hHeld ?_
        refine yD ?_
        go_wp2
        go_ret
        exact ⟨ret_bool HNO.out.symm, HW.out.then F.out⟩
      | true =>
        rcases Nat.eq_zero_or_pos k with hk0 | hk0
        · subst hk0
          simp only [Nat.zero_mul, Nat.add_zero] at c0 c1 c2 c3
          have HNX := Lib.hid (HST.out.1 rfl (fun h => absurd h (by omega)))
          clear hkl hlt hk
          go_wp2_with fail
          refine wp_region_held_drew (S := (fun w' => w'.cell? ⟨wr.heap.size, 0, none⟩ = some (.string (B x.d)) ∧ w'.cell? ⟨wr.heap.size, 1, none⟩ = some (.int .i64 x.g) ∧ w'.cell? ⟨wr.heap.size, 2, none⟩ = some (.int .i64 x.e) ∧ w'.cell? ⟨wr.heap.size, 3, none⟩ = some (.int .i64 x.t))) (by kernel_rfl) ?_ (fun hHeld => ?_)
          · exact ⟨HB.out.2.c0, HB.out.2.c1, HB.out.2.c2, HB.out.2.c3⟩
          try simp only [zP, zN, zS, zT, zU]
          refine tkt 0 hHeld ?_
          refine rY 1 (fun K hK => ?_)
          go_simp
          go_at_call 34
          refine (HFC.out _).mono ?_
          rintro e w1 ⟨rfl, f1⟩
          have b1 := HB.out.2.keep f1 (fun h => h)
          have HS1 := Lib.hid (And.intro b1.c0 (And.intro b1.c1 (And.intro b1.c2 b1.c3)))
          have F := Lib.hid (HB.out.1.then f1)
          clear f1 b1
          go_wp2_with fail
          refine hK.out _ _ HS1.out (fun hHeld => ?_)
          clear hK K
          try simp only [zP, zN, zS, zT, zU]
          refine tkt 2 hHeld ?_
          refine tkt 3 hHeld ?_
          refine tkt 4 hHeld ?_
          refine tkt 5 hHeld ?_
          refine tkt 6 hHeld ?_
          refine skt 7 hHeld ?_
          refine skt 8 hHeld ?_
          refine skt 9 hHeld ?_
          refine skt 10 hHeld ?_
          refine skt 11 hHeld ?_
          refine skt 12 hHeld ?_
          refine skt 13 hHeld ?_
          refine skt 14 hHeld ?_
          refine skt 15 hHeld ?_
          refine tkt 16 hHeld ?_
          refine tkt 17 hHeld ?_
          refine yD ?_
          have hkn := HK.out
          go_wp2
          go_roundw
          case rel => exact ⟨1, by have := HK.out; omega, by go_num, ⟨HW.out.then F.out, HNX.out⟩⟩
          case measure => have := HK.out; simp [RowKit.intOf]; omega
        · obtain ⟨z, hz, hz2⟩ := HST.out.2.2.1 (k - 1) (by omega)
          have HP := Lib.hid hz
          have hkm : k - 1 < l.length := by omega
          have HZ := Lib.hid (And.intro (hz2 hkm) (And.intro hk0 hkm))
          have wk : IntKind.i64.wrap ((k : Int) - 1) = ((k - 1 : Nat) : Int) := by rw [IntKind.wrap_i64]; omega
          have qz : ((0 : Int) < (k : Int)) = True := eq_true (by omega)
          have qz2 : (0 < k) = True := eq_true hk0
          have qn : (((k - 1 : Nat) : Int) < (n : Int)) = True := eq_true (by omega)
          have qn2 : (k - 1 < n) = True := eq_true (by omega)
          by_cases hle : (Op.bytesLess x.d z || x.d == z) = true
          · have HNO := Lib.hid (HST.out.2.1 (.inr ⟨HZ.out.2.1, HZ.out.2.2, by rw [← HZ.out.1]; exact notUp hle⟩))
            clear hlt hk hk0 hz hz2
            go_wp2_with fail
            refine wp_region_held_drew (S := (fun w' => w'.cell? ⟨wr.heap.size, 0, none⟩ = some (.string (B x.d)) ∧ w'.cell? ⟨wr.heap.size, 1, none⟩ = some (.int .i64 x.g) ∧ w'.cell? ⟨wr.heap.size, 2, none⟩ = some (.int .i64 x.e) ∧ w'.cell? ⟨wr.heap.size, 3, none⟩ = some (.int .i64 x.t) ∧ w'.cell? ⟨g0, o0 + (k - 1) * 4, none⟩ = some (.string (B z)))) (by kernel_rfl) ?_ (fun hHeld => ?_)
            · exact ⟨HB.out.2.c0, HB.out.2.c1, HB.out.2.c2, HB.out.2.c3, HP.out⟩
            try simp only [zP, zN, zS, zT, zU]
            refine tkt 0 hHeld ?_
            refine rY 1 (fun K hK => ?_)
            go_simp
            go_at_call 34
            refine (HFC.out _).mono ?_
            rintro e w1 ⟨rfl, f1⟩
            have b1 := HB.out.2.keep f1 (fun h => h)
            have HS1 := Lib.hid (And.intro b1.c0 (And.intro b1.c1 (And.intro b1.c2 (And.intro b1.c3 (f1.cell HP.out (fun h => h))))))
            have F := Lib.hid (HB.out.1.then f1)
            clear f1 b1
            go_wp2_with fail
            refine hK.out _ _ HS1.out (fun hHeld => ?_)
            clear hK K
            try simp only [zP, zN, zS, zT, zU]
            refine tkt 2 hHeld ?_
            refine tkt 3 hHeld ?_
            refine tkt 4 hHeld ?_
            refine tkt 5 hHeld ?_
            refine tkt 6 hHeld ?_
            refine tkt 7 hHeld ?_
            refine tkt 8 hHeld ?_
            refine tkt 9 hHeld ?_
            refine tkt 10 hHeld ?_
            refine tkt 11 hHeld ?_
            refine tkt 12 hHeld ?_
            refine tkt 13 hHeld ?_
            refine tkt 14 hHeld ?_
            refine tkt 15 hHeld ?_
            refine tkt 16 hHeld ?_
            refine tkt 17 hHeld ?_
            refine yD ?_
            go_wp2
            go_ret
            exact ⟨ret_bool HNO.out.symm, HW.out.then F.out⟩
          · have hle' : (Op.bytesLess x.d z || x.d == z) = false := by simpa using hle
            have HNX := Lib.hid (HST.out.1 rfl (fun _ h => by rw [← HZ.out.1]; exact isUp hle'))
            clear hlt hk hk0 hz hz2 hle
            go_wp2_with fail
            refine wp_region_held_drew (S := (fun w' => w'.cell? ⟨wr.heap.size, 0, none⟩ = some (.string (B x.d)) ∧ w'.cell? ⟨wr.heap.size, 1, none⟩ = some (.int .i64 x.g) ∧ w'.cell? ⟨wr.heap.size, 2, none⟩ = some (.int .i64 x.e) ∧ w'.cell? ⟨wr.heap.size, 3, none⟩ = some (.int .i64 x.t) ∧ w'.cell? ⟨g0, o0 + (k - 1) * 4, none⟩ = some (.string (B z)))) (by kernel_rfl) ?_ (fun hHeld => ?_)
            · exact ⟨HB.out.2.c0, HB.out.2.c1, HB.out.2.c2, HB.out.2.c3, HP.out⟩
            try simp only [zP, zN, zS, zT, zU]
            refine tkt 0 hHeld ?_
            refine rY 1 (fun K hK => ?_)
            go_simp
            go_at_call 34
            refine (HFC.out _).mono ?_
            rintro e w1 ⟨rfl, f1⟩
            have b1 := HB.out.2.keep f1 (fun h => h)
            have HS1 := Lib.hid (And.intro b1.c0 (And.intro b1.c1 (And.intro b1.c2 (And.intro b1.c3 (f1.cell HP.out (fun h => h))))))
            have F := Lib.hid (HB.out.1.then f1)
            clear f1 b1
            go_wp2_with fail
            refine hK.out _ _ HS1.out (fun hHeld => ?_)
            clear hK K
            try simp only [zP, zN, zS, zT, zU]
            refine tkt 2 hHeld ?_
            refine tkt 3 hHeld ?_
            refine tkt 4 hHeld ?_
            refine tkt 5 hHeld ?_
            refine tkt 6 hHeld ?_
            refine tkt 7 hHeld ?_
            refine tkt 8 hHeld ?_
            refine tkt 9 hHeld ?_
            refine tkt 10 hHeld ?_
            refine tkt 11 hHeld ?_
            refine tkt 12 hHeld ?_
            refine tkt 13 hHeld ?_
            refine tkt 14 hHeld ?_
            refine tkt 15 hHeld ?_
            refine tkt 16 hHeld ?_
            refine tkt 17 hHeld ?_
            refine yD ?_
            have hkn := HK.out
            go_wp2
            go_roundw
            case rel => exact ⟨k + 1, by have := HK.out; omega, by go_num, ⟨HW.out.then F.out, HNX.out⟩⟩
            case measure => have := HK.out; simp [RowKit.intOf]; omega
    · have hke : k = n := by omega
      subst hke
      have q3 : ((k : Int) < (k : Int)) = False := eq_false (by omega)
      have HE := Lib.hid (HYes.out (chkM_all (by have := HX.out.1; have := H32.out; omega) HRT.out (fun j hj => hR.out.2 j hj (by rw [HX.out.1]; exact hj))))
      clear hlt hk
      go_wp2
      go_ret
      exact ⟨ret_bool HE.out.symm, hR.out.1⟩
end Go.Proofs.Ytdfnfkknbjageaa

/- The mount of a directory (gen_br.py, out of owned/XOr): slices.Backward, mounts.mountOf: a range over a function, whose body calls and returns. -/
namespace Go.Proofs.Ytdfnfkknbjageaa
set_option maxRecDepth 20000
set_option maxRecDepth 100000
set_option linter.unusedVariables false
set_option linter.unusedSimpArgs false
open Go.RowKit Go.Shelf Pm
attribute [local go_sem] Oper.semAt_some

/-- What has come when k rounds are over. -/
def upto {α : Type} (f : Nat → α) (k : Nat) : List α := (List.range k).map f
theorem upto_succ {α : Type} (f : Nat → α) (k : Nat) : upto f (k + 1) = upto f k ++ [f k] := by simp [upto, List.range_succ]
theorem upto_length {α : Type} (f : Nat → α) (k : Nat) : (upto f k).length = k := by simp [upto]
/-- A place and what stands there. -/
abbrev Nh := { x : Nat × Mt // x.2.d.length ≤ 140737488355328 }
/-- From the last one down. -/
def dn (l : List Mt) (j : Nat) : Nh := if h : (l[l.length - 1 - j]?.getD mt0).d.length ≤ 140737488355328 then ⟨(l.length - 1 - j, l[l.length - 1 - j]?.getD mt0), h⟩ else ⟨(0, mt0), by simp [mt0]⟩

theorem dn_at {l : List Mt} (hp : ∀ x ∈ l, x.d.length ≤ 140737488355328) {j : Nat} (hj : j < l.length) : dn l (l.length - 1 - j) = ⟨(j, l[j]), hp _ (List.getElem_mem hj)⟩ := by
  have e2 : l.length - 1 - (l.length - 1 - j) = j := by omega
  have e : l[j]?.getD mt0 = l[j] := by rw [List.getElem?_eq_getElem hj]; rfl
  have hpm := hp _ (List.getElem_mem hj)
  unfold dn
  simp only [e2, e, hpm, dite_true]

set_option maxHeartbeats 1000000 in
theorem Backward_in (F : Fence) (n : Nat) (h5 : F.fn 77) (hro : F.round = none) (a : Option Addr) (len cap : Nat) (w : World) :
    CallsIn F n Try.prog 77 #[.slice a len cap] w fun e w' => e = .returned (.func (.func 82) #[] #[.pointer (some ⟨w.heap.size, 0, none⟩)]) ∧ w' = w.alloc (.cells #[.slice a len cap] TLM) := by
  refine callsIn_of_wp Try.func77 rfl h5 ?_ hro
  simp only [Try.ntmps77, List.size_toArray, List.length_cons, List.length_nil, Nat.reduceAdd, Nat.reduceSub, Array.replicate_succ, Array.replicate_zero, List.push_toArray, List.append_toArray, List.nil_append, List.cons_append]
  gi_wp2
  go_ret
  exact ⟨rfl, rfl⟩

set_option maxHeartbeats 4000000 in
theorem back1_in (F : Fence) (n : Nat) (h8 : F.fn 82) (hro : F.round = none) (hn : 1 ≤ n) (lp Bs n₀ : Nat) (ao : Option Addr) (len cap : Nat) (l : List Mt) (hlen : len = l.length) (hb : len ≤ 140737488355328) (hp : ∀ x ∈ l, x.d.length ≤ 140737488355328) (J Jx : List Nh → World → Prop)
    (hY : ∀ pre x W, J pre W → pre.length < len → YieldAt F (n - 1) Try.prog lp #[.int .i64 (x.1.1 : Int), .agg #[.string (B x.1.2.d), .int .i64 x.1.2.g, .int .i64 x.1.2.e, .int .i64 x.1.2.t]] W fun e W' =>
      (e = .returned (.bool true) ∧ J (pre ++ [x]) W' ∧ Below n₀ W W') ∨ (e = .returned (.bool false) ∧ Jx (pre ++ [x]) W'))
    (W : World) (hBl : Bs < n₀) (hBs : W.cell? ⟨Bs, 0, none⟩ = some (.slice ao len cap)) (hc : l = [] ∨ ∃ g o, ao = some ⟨g, o, none⟩ ∧ g < n₀ ∧ ∀ i (h : i < l.length), NdAtM W g (o + i * 4) l[i]) (h0 : J [] W) :
    CallsIn F n Try.prog 82 #[.func (.yield lp) #[] #[], .pointer (some ⟨Bs, 0, none⟩)] W fun e W' => (∃ v, e = .returned v) ∧
      ((∃ ys, ys = upto (dn l) len ∧ J ys W') ∨ (∃ pre, (∃ k, k ≤ len ∧ pre = upto (dn l) k) ∧ Jx pre W')) := by
  refine callsIn_of_wp Try.func82 rfl h8 ?_ hro
  simp only [Try.ntmps82, List.size_toArray, List.length_cons, List.length_nil, Nat.reduceAdd, Nat.reduceSub, Array.replicate_succ, Array.replicate_zero, List.push_toArray, List.append_toArray, List.nil_append, List.cons_append]
  gi_wp2
  gi_loopw [3] (fun i wr => ∃ k : Nat, k ≤ len ∧ i = .int .i64 ((len : Int) - 1 - k) ∧ J (upto (dn l) k) wr ∧ Below n₀ W wr)
    (fun i _ => (intOf i + 1).toNat)
  case atStart => exact ⟨0, Nat.zero_le _, by go_num, h0, Below.refl _ _⟩
  case round =>
    obtain ⟨k, hk, rfl, hJs, hnx⟩ := hrel
    have hBw : wr.cell? ⟨Bs, 0, none⟩ = some (.slice ao len cap) := (hnx.cell (p := ⟨Bs, 0, none⟩) hBl).trans hBs
    by_cases hlt : k < len
    · obtain ⟨m, hm⟩ : ∃ m : Nat, m = len - 1 - k := ⟨_, rfl⟩
      have hmi : (len : Int) - 1 - (k : Int) = (m : Int) := by omega
      have hml : m < l.length := by omega
      have hpm := hp l[m] (List.getElem_mem hml)
      have hd : dn l k = ⟨(m, l[m]), hpm⟩ := by
        rw [show k = l.length - 1 - m from by omega]; exact dn_at hp hml
      obtain ⟨g, o, rfl, hg, hcs⟩ : ∃ g o, ao = some ⟨g, o, none⟩ ∧ g < n₀ ∧ ∀ i (h : i < l.length), NdAtM W g (o + i * 4) l[i] := by
        rcases hc with rfl | h
        · simp at hml
        · exact h
      have hnd := hcs m hml
      have c0 : wr.cell? ⟨g, o + m * 4, none⟩ = some (.string (B l[m].d)) := (hnx.cell (p := ⟨g, o + m * 4, none⟩) hg).trans hnd.c0
      have c1 : wr.cell? ⟨g, o + m * 4 + 1, none⟩ = some (.int .i64 l[m].g) := (hnx.cell (p := ⟨g, o + m * 4 + 1, none⟩) hg).trans hnd.c1
      have c2 : wr.cell? ⟨g, o + m * 4 + 2, none⟩ = some (.int .i64 l[m].e) := (hnx.cell (p := ⟨g, o + m * 4 + 2, none⟩) hg).trans hnd.c2
      have c3 : wr.cell? ⟨g, o + m * 4 + 3, none⟩ = some (.int .i64 l[m].t) := (hnx.cell (p := ⟨g, o + m * 4 + 3, none⟩) hg).trans hnd.c3
      obtain ⟨fn, tmps, assign, body, hy, hR⟩ := hY _ ⟨(m, l[m]), hpm⟩ wr hJs (by rw [upto_length]; exact hlt)
      dsimp only at hy
      rw [hmi]
      generalize hxx : l[m] = x at *
      obtain ⟨xd, xg, xe, xt⟩ := x
      simp only at c0 c1 c2 c3 hy hR
      clear hnd hcs hc
      have q1 : ((0 : Int) ≤ (m : Int)) = True := eq_true (by omega)
      have q2 : ((m : Int) < (len : Int)) = True := eq_true (by omega)
      have q3 : (m < len) = True := eq_true (by omega)
      have hsz := szNM
      have hmb : m ≤ 140737488355328 := by omega
      have HM := Lib.hid (And.intro hm (And.intro hmi (And.intro hlt hd)))
      clear hd hxx hml hlen hlt hmi hm
      gi_wp2
      refine hR.mono ?_
      rintro e W3 (⟨rfl, hJ3, hk3⟩ | ⟨rfl, hJx3⟩)
      · gi_wp2
        go_roundw
        case rel =>
          have := HM.out
          have e : (len : Int) - 1 - ((k + 1 : Nat) : Int) = (m : Int) - 1 := by omega
          exact ⟨k + 1, by omega, by rw [e], by rw [upto_succ, HM.out.2.2.2]; exact hJ3, hnx.trans hk3⟩
        case measure => simp [intOf]
      · gi_wp2
        refine bodyPost_ret (results_none rfl _ _ _) rfl ?_
        exact ⟨⟨_, rfl⟩, .inr ⟨_, ⟨k + 1, by have := HM.out; omega, by rw [upto_succ, HM.out.2.2.2]⟩, hJx3⟩⟩
    · obtain rfl : k = len := by omega
      have q1 : ((0 : Int) ≤ (k : Int) - 1 - (k : Int)) = False := eq_false (by omega)
      have q0 : (k : Int) - 1 - (k : Int) = -1 := by omega
      rw [q0]
      gi_wp2
      go_end0
      exact ⟨⟨_, rfl⟩, .inl ⟨_, rfl, hJs⟩⟩

theorem back_stops (F : Fence) (n : Nat) (h8 : F.fn 82) (hro : F.round = none) (hn : 1 ≤ n) (Bs n₀ : Nat) (ao : Option Addr) (cap : Nat) (l : List Mt) (hb : l.length ≤ 140737488355328) (hp : ∀ x ∈ l, x.d.length ≤ 140737488355328) (w : World) (hBs : Bs < w.heap.size) (hn₀ : n₀ ≤ w.heap.size) (hBl : Bs < n₀)
    (hc : w.cell? ⟨Bs, 0, none⟩ = some (.slice ao l.length cap)) (hI : l = [] ∨ ∃ g o, ao = some ⟨g, o, none⟩ ∧ g < n₀ ∧ ∀ i (h : i < l.length), NdAtM w g (o + i * 4) l[i]) :
    SeqStopsK F n Try.prog 82 #[.pointer (some ⟨Bs, 0, none⟩)] (fun x : Nh => #[Value.int .i64 (x.1.1 : Int), .agg #[.string (B x.1.2.d), .int .i64 x.1.2.g, .int .i64 x.1.2.e, .int .i64 x.1.2.t]]) (Below n₀) (fun ys => ys = upto (dn l) l.length) (fun pre => ∃ k, k ≤ l.length ∧ pre = upto (dn l) k) l.length w := fun lp J Jx W hW _ _ hY h0 => by
  have hc' := (hW.cell (p := ⟨Bs, 0, none⟩) hBs).trans hc
  refine (back1_in F n h8 hro hn lp Bs n₀ ao l.length cap l rfl hb hp J Jx hY W hBl hc' ?_ h0).mono ?_
  · rcases hI with h | ⟨g, o, e, hg, hi⟩
    · exact .inl h
    · have hgw : g < w.heap.size := by omega
      exact .inr ⟨g, o, e, hg, fun i h => ⟨(hW.cell (p := ⟨g, _, none⟩) hgw).trans (hi i h).c0, (hW.cell (p := ⟨g, _, none⟩) hgw).trans (hi i h).c1, (hW.cell (p := ⟨g, _, none⟩) hgw).trans (hi i h).c2, (hW.cell (p := ⟨g, _, none⟩) hgw).trans (hi i h).c3⟩⟩
  · rintro e W' ⟨he, ⟨ys, hy, hj⟩ | ⟨pre, hk, hj⟩⟩
    · exact ⟨he, .inl ⟨ys, hy, hj⟩⟩
    · exact ⟨he, .inr ⟨pre, hk, hj⟩⟩

theorem boxed_below {W W' : World} {n₀ b : Nat} {t : TypeId} {v : Value} (h : Boxed W b t v) (f : Below n₀ W W') (hb : b < n₀) : Boxed W' b t v := (f.block b hb).trans h

set_option maxHeartbeats 4000000 in
theorem mountOf_c (v : Value) (l : List Mt) (d : Bs) (w : World) (hv : NsM w v l) (hl : l.length ≤ 140737488355328) (hp : ∀ x ∈ l, x.d.length ≤ 140737488355328) (hd : d.length ≤ 140737488355328) :
    Calls Try.prog 61 #[v, .string (B d)] w fun e w' => e = .returned (.int .i64 (idx (bk l d l.length))) ∧ Fp Non w w' := by
  obtain ⟨ao, cap, rfl, hcap1, hcap2, hN⟩ := hv.ex
  refine (callsIn_wide (n := 4)).1 ?_
  refine callsIn_of_wp_marks Try.func61 rfl trivial ?_ rfl
  simp only [Try.ntmps61, List.size_toArray, List.length_cons, List.length_nil, Nat.reduceAdd, Nat.reduceSub, Array.replicate_succ, Array.replicate_zero, List.push_toArray, List.append_toArray, List.nil_append, List.cons_append]
  gi_wp2_with (refine ⟨trivial, ?_⟩; gi_at_call 77; refine (Backward_in Fence.wide _ trivial rfl _ _ _ _).mono ?_; rintro e w' ⟨rfl, rfl⟩)
  have bD := ((Boxed.new w 9 (.string (B d))).alloc (.cells #[.int .i64 0] 3)).alloc (.cells #[.slice ao l.length cap] TLM)
  have bR := (Boxed.new (w.alloc (.cells #[.string (B d)] 9)) 3 (.int .i64 0)).alloc (.cells #[.slice ao l.length cap] TLM)
  have bS := Boxed.new ((w.alloc (.cells #[.string (B d)] 9)).alloc (.cells #[.int .i64 0] 3)) TLM (.slice ao l.length cap)
  simp only [World.size_alloc] at bR bS
  have hB0 : Below w.heap.size w (((w.alloc (.cells #[.string (B d)] 9)).alloc (.cells #[.int .i64 0] 3)).alloc (.cells #[.slice ao l.length cap] TLM)) := (((Below.refl _ w).alloc (Nat.le_refl _) _).alloc (by simp) _).alloc (by simp; omega) _
  have hsz : (((w.alloc (.cells #[.string (B d)] 9)).alloc (.cells #[.int .i64 0] 3)).alloc (.cells #[.slice ao l.length cap] TLM)).heap.size = w.heap.size + 3 := by simp
  obtain ⟨W0, hW0⟩ : ∃ W0, ((w.alloc (.cells #[.string (B d)] 9)).alloc (.cells #[.int .i64 0] 3)).alloc (.cells #[.slice ao l.length cap] TLM) = W0 := ⟨_, rfl⟩
  rw [hW0] at bD bR bS hB0 hsz ⊢
  clear hW0
  refine wpIn_rangeFunc_ownH rfl (by omega) (gf := 82) (lb := #[.pointer (some ⟨w.heap.size + 1 + 1, 0, none⟩)]) rfl trivial (enters_of Try.func82 (by kernel_rfl) rfl)
    (back_stops Fence.wide _ trivial rfl (by omega) (w.heap.size + 1 + 1) W0.heap.size ao cap l hl hp W0 (by omega) (Nat.le_refl _) (by omega) bS.cell (by
      rcases hN with h | ⟨g, o, e, hg, hi⟩
      · exact .inl h
      · exact .inr ⟨g, o, e, by omega, fun i h => ⟨(hB0.cell (p := ⟨g, _, none⟩) hg).trans (hi i h).c0, (hB0.cell (p := ⟨g, _, none⟩) hg).trans (hi i h).c1, (hB0.cell (p := ⟨g, _, none⟩) hg).trans (hi i h).c2, (hB0.cell (p := ⟨g, _, none⟩) hg).trans (hi i h).c3⟩⟩))
    belowK_t (belowK_b (Nat.le_refl _)) (Below.refl _ _) (fun _ => rfl)
    (fun pre W => (∀ p ∈ pre, inB d p.1.2.d = false) ∧ Below W0.heap.size W0 W)
    (fun c pre W => (c = .ret ∧ ∃ ini last, pre = ini ++ [last] ∧ (∀ p ∈ ini, inB d p.1.2.d = false) ∧ inB d last.1.2.d = true ∧ Boxed W (w.heap.size + 1) 3 (.int .i64 (last.1.1 : Int))) ∧ Below w.heap.size w W)
    (OwnFrom.and (Own.from (fun s X Y row hs hg hr => hs) _) (ownFrom_below (Nat.le_refl _) (Nat.le_refl _)))
    (fun c => OwnFrom.and (Own.from (fun s X Y row hs hg hr => by obtain ⟨hc, ini, last, e1, e2, e3, e4⟩ := hs; exact ⟨hc, ini, last, e1, e2, e3, boxed_own _ 3 (fun (_ : Unit) => Value.int .i64 (last.1.1 : Int)) () X Y row e4 hg hr⟩) _) (ownFrom_below (Nat.le_refl _) (by omega)))
    ⟨by simp, Below.refl _ _⟩
    (fun x a' W => ∃ b, W0.heap.size ≤ b ∧ BxM W b x.1.2 ∧ a' = { tmps := #[.slice ao l.length cap, .string (B d), undef, .pointer (some ⟨w.heap.size, 0, none⟩), .pointer (some ⟨w.heap.size + 1, 0, none⟩), .int .i64 (x.1.1 : Int), .pointer (some ⟨b, 0, none⟩), .slice ao l.length cap, .func (.func 82) #[] #[.pointer (some ⟨w.heap.size + 1 + 1, 0, none⟩)], .int .i64 (x.1.1 : Int), .agg #[.string (B x.1.2.d), .int .i64 x.1.2.g, .int .i64 x.1.2.e, .int .i64 x.1.2.t], undef, undef, undef, undef, undef], defers := [] })
    (fun x a' _ X Y row hs hg hr => by obtain ⟨b, h1, h2, h3⟩ := hs; exact ⟨b, h1, (hg.block b h2.lt (fun e' => by obtain ⟨_, o, ho, hc⟩ := hr b e'.symm; rw [show X.heap[b]? = _ from h2] at ho; cases ho; cases hc)).trans h2, h3⟩)
    ?assign ?body ?done ?stop
  case assign =>
    rintro lp pre x W K ⟨h1, hB1⟩ hK
    have hs1 := hB1.size
    have hszN := szNM
    gi_wp2
    exact hK _ _ ((KeepsOthers.alloc _ _).from _) ((Below.refl _ W).alloc hs1 _) ⟨h1, hB1.alloc hs1 _⟩ ⟨W.heap.size, hs1, World.alloc_heap_new W _, rfl⟩
  case body =>
    rintro lp pre x a' W hlp ⟨r, hr⟩ ⟨h1, hB1⟩ ⟨b, hb, bX, rfl⟩ hlt
    have cD := (boxed_below bD hB1 (by omega)).cell
    have bR1 := boxed_below bR hB1 (by omega)
    have cX : W.cell? ⟨b, 0, none⟩ = some (.string (B x.1.2.d)) := by rw [cell_of_row _ _ _ _ _ _ bX]; rfl
    have hI := fun w' => In_c d x.1.2.d w' (by omega) (by have := x.2; omega)
    have hin : ∃ t, inB d x.1.2.d = t := ⟨_, rfl⟩
    obtain ⟨t, hin⟩ := hin
    rw [hin] at hI
    cases t with
    | true =>
      gi_wp2_with (refine ⟨trivial, ?_⟩; gi_at_call 56; refine (CallsIn.inRound lp (callsIn_wide.2 (hI _))).mono ?_; rintro e w' ⟨rfl, hg⟩; have bR2 := boxed_below bR1 hg bR1.lt; have cR := bR2.cell; have fR := bR2.frozen)
      have hKF : KeepsFrom W0.heap.size W w' := ⟨hg.size, fun k o _ hk _ => (hg.block k (Array.getElem?_eq_some_iff.1 hk).1).trans hk⟩
      have hBw : Below w.heap.size w w' := (hB0.trans (hB1.mono (by omega))).trans (hg.mono (by have := hB1.size; omega))
      exact ⟨hKF.trans ((KeepsOthers.setCell _ _ _).from _), ⟨rfl, pre, x, rfl, h1, hin, bR2.set _⟩, hBw.setCell (p := ⟨w.heap.size + 1, 0, none⟩) (by simp) _⟩
    | false =>
      gi_wp2_with (refine ⟨trivial, ?_⟩; gi_at_call 56; refine (CallsIn.inRound lp (callsIn_wide.2 (hI _))).mono ?_; rintro e w' ⟨rfl, hg⟩)
      have hKF : KeepsFrom W0.heap.size W w' := ⟨hg.size, fun k o _ hk _ => (hg.block k (Array.getElem?_eq_some_iff.1 hk).1).trans hk⟩
      have hgm := hg.mono hB1.size
      exact ⟨hKF, hgm, fun p hp' => (List.mem_append.1 hp').elim (h1 p) (fun e => by simp at e; subst e; exact hin), hB1.trans hgm⟩
  case done =>
    rintro D ys W hD rfl ⟨hne, hB1⟩ hK
    have bR1 := boxed_below bR hB1 (by omega)
    have cR := bR1.cell
    have fR := bR1.frozen
    gi_wp2
    have hK' := (KeepsOthers.setCell W ⟨w.heap.size + 1, 0, none⟩ (.int .i64 (-1))).same D _ hK rfl
    refine ⟨by simp, .inl ⟨_, _, rfl, run_takeDeferred hK', ?_⟩⟩
    have hc5 := cell_kept (bR1.set (.int .i64 (-1))).cell (grownBy_putObj' _ D (.deferred none)) (fun r e => by cases e; exact ⟨_, hK', rfl⟩)
    have hno : bk l d l.length = none := bk_none fun j hj => by
      rw [inx_at hj]
      have h2 := hne (dn l (l.length - 1 - j)) (by simp only [upto, List.mem_map, List.mem_range]; exact ⟨_, by omega, rfl⟩)
      rwa [dn_at hp hj] at h2
    have hBw : Below w.heap.size w W := hB0.trans (hB1.mono (by omega))
    refine ⟨.int .i64 (-1), ?_, by rw [hno]; rfl, Fp.of_below ((hBw.setCell (p := ⟨w.heap.size + 1, 0, none⟩) (by simp) _).trans (belowK_b (w := w) (Nat.le_refl _) _ D _ _ (by omega) hK' rfl rfl))⟩
    simp [results, Try.f61, go_sem, hc5]
  case stop =>
    rintro D c pre W hD ⟨k, hk, rfl⟩ ⟨⟨rfl, ini, last, e1, e2, e3, hcr⟩, hB⟩ hK
    gi_wp2
    refine ⟨by simp, .inl ⟨_, _, rfl, run_takeDeferred hK, ?_⟩⟩
    have hc5 := cell_kept hcr.cell (grownBy_putObj' _ D (.deferred none)) (fun r e => by cases e; exact ⟨_, hK, rfl⟩)
    obtain ⟨k', rfl⟩ : ∃ k', k = k' + 1 := by
      cases k with
      | zero => simp [upto] at e1
      | succ k' => exact ⟨k', rfl⟩
    rw [upto_succ] at e1
    obtain ⟨rfl, e5⟩ := List.append_inj' e1 rfl
    obtain rfl : dn l k' = last := by simpa using e5
    have hkl : l.length - 1 - k' < l.length := by omega
    have hdk : dn l k' = dn l (l.length - 1 - (l.length - 1 - k')) := by rw [show l.length - 1 - (l.length - 1 - k') = k' from by omega]
    have hd1 := dn_at hp hkl
    rw [← hdk] at hd1
    have hyes : bk l d l.length = some (l.length - 1 - k') := bk_at hkl (by rw [inx_at hkl]; rw [hd1] at e3; exact e3) fun j h1 h2 => by
      rw [inx_at h2]
      have h3 := e2 (dn l (l.length - 1 - j)) (by simp only [upto, List.mem_map, List.mem_range]; exact ⟨_, by omega, rfl⟩)
      rwa [dn_at hp h2] at h3
    refine ⟨.int .i64 ((l.length - 1 - k' : Nat) : Int), ?_, by rw [hyes]; rfl, Fp.of_below (hB.trans (belowK_b (w := w) (Nat.le_refl _) W D _ _ (by omega) hK rfl rfl))⟩
    rw [hd1] at hc5
    simp [results, Try.f61, go_sem, hc5]
end Go.Proofs.Ytdfnfkknbjageaa

/- mounts.with (gen_bw.py) -/
namespace Go.Proofs.Ytdfnfkknbjageaa
set_option maxRecDepth 20000
set_option linter.unusedVariables false
set_option linter.unusedSimpArgs false
open Go.RowKit Pm


theorem geq_place {l : List Mt} {p : Bs} {z : Int} (hu : UpM l) (h : IdxM (fun m => geqB m.d p) l z) :
    (z = -1 ∧ plM l p = l.length ∧ getM l p = none) ∨ (∃ i, z = ((i : Nat) : Int) ∧ plM l p = i ∧ ∃ h : i < l.length, lt l[i].d p = false) := by
  rcases h with ⟨rfl, h⟩ | ⟨i, rfl, hi, hq, hb⟩
  · left
    have h2 : ∀ n ∈ l, lt n.d p = true := fun n hn => by have := h n hn; unfold geqB at this; simpa using this
    refine ⟨rfl, plM_of (Nat.le_refl _) (fun i hi _ => h2 _ (List.getElem_mem hi)) (fun i hi h => by omega), getM_no fun x hx e => ?_⟩
    have := h2 x hx
    rw [e, lt_irrefl] at this; cases this
  · right
    have hq' : lt l[i].d p = false := by unfold geqB at hq; simpa using hq
    refine ⟨i, rfl, plM_of (by omega) (fun j hj hji => by have := hb j hj hji; unfold geqB at this; simpa using this) (fun j hj hij => ?_), hi, hq'⟩
    rcases Nat.lt_or_eq_of_le hij with e | e
    · cases h3 : lt l[j].d p with
      | false => rfl
      | true => rw [lt_trans (hu.at hi hj e) h3] at hq'; cases hq'
    · subst e; exact hq'

/-- Mounts that were made. -/
structure MkR (w : World) (m : List Mt) (e : Ending) (w' : World) : Prop where
  ex : ∃ v', e = .returned v' ∧ NsM w' v' m ∧ ∀ k, v'.ownBlock = some k → w.heap.size ≤ k
  fp : Fp Non w w'

set_option maxHeartbeats 8000000 in
theorem with_c (v : Value) (l : List Mt) (x : Mt) (w : World) (hv : NsM w v l) (hu : UpM l) (h0 : 0 < l.length) (h32 : l.length ≤ 32) (hp : ∀ y ∈ l, y.d.length ≤ 140737488355328) (hx : x.d.length ≤ 140737488355328) :
    Calls Try.prog 62 #[v, mtV x] w fun e w' => MkR w (putM l x) e w' := by
  obtain ⟨xd, xg, xe, xt⟩ := x
  have f1 := fp_alloc w (.cells #[.string (B xd), .int .i64 xg, .int .i64 xe, .int .i64 xt] TM)
  have hbx := BxM.new w ⟨xd, xg, xe, xt⟩
  have hcl := fun W (f : Fp Non w W) => Clone_ownM v l W (hv.non f) (by omega)
  have hix := fun v2 g W (h : NsM W v2 l) (hg : W.cell? ⟨g, 0, none⟩ = some (.string (B xd))) => IndexM_c v2 _ l _ W h hp (with_pd (y := ⟨xd, xg, xe, xt⟩) hg) (by omega)
  obtain ⟨ao, cap, rfl⟩ := hv.shape
  obtain ⟨n, hn⟩ : ∃ n, n = l.length := ⟨_, rfl⟩
  have HG := Lib.hid (fun z h => geq_place (l := l) (p := xd) (z := z) hu h)
  have HPI := Lib.hid (fun h => put_inst (l := l) (x := ⟨xd, xg, xe, xt⟩) h)
  have HPS := Lib.hid (fun h => put_sett (l := l) hu (x := ⟨xd, xg, xe, xt⟩) h)
  have HGP := Lib.hid (getM_place hu xd)
  have HX := Lib.hid (And.intro hn (And.intro h0 h32))
  have HC := Lib.hid hcl
  have HI := Lib.hid hix
  have HF1 := Lib.hid (And.intro f1 hbx)
  rw [← hn] at HC h32 h0 ⊢
  unfold mtV strV
  clear hcl hix hv hu hn f1 hbx hp hx
  simp only
  go_enter Try.func62, Try.ntmps62
  go_wp2_with fail
  refine (HC.out _ HF1.out.1).mono ?_
  rintro e w2 ⟨v2, rfl, hR⟩
  rcases hR.own.ways with ⟨rfl, hl0⟩ | ⟨G, cp, rfl, hN, hlo⟩
  · have := HX.out; rw [hl0] at this; exact absurd this.2.1 (by simp)
  have K2 := Lib.hid (And.intro (HF1.out.1.then hR.fp) (And.intro (HF1.out.2.non hR.fp) (And.intro hN hlo)))
  clear hR hN hlo
  go_wp2_with fail
  refine (HI.out _ w.heap.size _ K2.out.2.2.1.ns K2.out.2.1.at.1).mono ?_
  rintro e w3 ⟨⟨z, rfl, hz⟩, hf⟩
  have hgz := HG.out z hz
  have K3 := Lib.hid (And.intro (K2.out.1.then hf) (And.intro (K2.out.2.1.non hf) (And.intro (K2.out.2.2.1.keep hf (fun h => h)) K2.out.2.2.2)))
  have hcp : l.length ≤ cp ∧ cp ≤ maxLen := ⟨K2.out.2.2.1.room, K2.out.2.2.1.most⟩
  rw [← HX.out.1] at hcp ⊢
  unfold maxLen at hcp
  have hGw : w.heap.size < G := by have h1 := K2.out.2.2.2; simp at h1; omega
  clear hf hz K2
  rcases hgz with ⟨rfl, hpl, hgn⟩ | ⟨i, rfl, hpl, hil, hge⟩
  · have hput : putM l ⟨xd, xg, xe, xt⟩ = l ++ [⟨xd, xg, xe, xt⟩] := by rw [HPI.out hgn]; rw [hpl, List.take_length, List.drop_length]
    have HPUT := Lib.hid hput
    clear hgn hpl hput
    have hc := K3.out.2.1.at
    have c0 := hc.1; have c1 := hc.2.1; have c2 := hc.2.2.1; have c3 := hc.2.2.2
    simp only at c0 c1 c2 c3
    clear hc
    have HAP := Lib.hid (show ∀ ty, ∃ v' w', (Builtin.append_ #[TLM, TLM] ty #[.slice (some ⟨G, 0, none⟩) n cp, .slice (some ⟨w3.heap.size, 0, none⟩) 1 1]).run Try.prog (w3.alloc (.cells #[.string (B xd), .int .i64 xg, .int .i64 xe, .int .i64 xt] TM)) = .ok v' w' ∧ ChRM w.heap.size (w3.alloc (.cells #[.string (B xd), .int .i64 xg, .int .i64 xe, .int .i64 xt] TM)) (.slice (some ⟨G, 0, none⟩) n cp) (l ++ [⟨xd, xg, xe, xt⟩]) v' w' from fun ty => by
      have hN := K3.out.2.2.1.keep (fp_alloc w3 (.cells #[.string (B xd), .int .i64 xg, .int .i64 xe, .int .i64 xt] TM)) (fun h => h)
      have hO : OwM w.heap.size (w3.alloc (.cells #[.string (B xd), .int .i64 xg, .int .i64 xe, .int .i64 xt] TM)) (.slice (some ⟨G, 0, none⟩) l.length cp) l := hN.owns (by omega)
      rw [← HX.out.1] at hO
      have hnd := (BxM.new w3 ⟨xd, xg, xe, xt⟩).nd
      obtain ⟨v', w', hr, ho, hg, hn8⟩ := app_ownM _ w.heap.size _ l [(⟨xd, xg, xe, xt⟩ : Mt)] ty ⟨w3.heap.size, 0, none⟩ 1 1 hO rfl (fun i hi j u hu => by
        have hi0 : i = 0 := by simp at hi; omega
        subst hi0
        have := hnd.get j u hu
        rwa [show 0 * 4 + j = j from by omega]) (by have := HX.out; simp; omega) (by have := K3.out.1.size; simp at this ⊢; omega)
      exact ⟨v', w', hr, ho, (Fp.refl _ _).grown hg (fun k hk => .inl hk), hn8⟩)
    go_wp2_with (at_builtin; go_must (refine wpList_app rfl _ _ _ _ rfl _ _ rfl rfl (ChRM w.heap.size (w3.alloc (.cells #[.string (B xd), .int .i64 xg, .int .i64 xe, .int .i64 xt] TM)) (.slice (some ⟨G, 0, none⟩) n cp) (l ++ [(⟨xd, xg, xe, xt⟩ : Mt)])) (HAP.out TLM) ?_))
    all_goals
      intro v4 w4 hR4
      have HNEW := Lib.hid (show ∀ k, v4.ownBlock = some k → w.heap.size ≤ k from fun k hk => (hR4.new k hk).elim (fun h => by simp only [Value.ownBlock, Option.some.injEq] at h; omega) (fun h => by have := K3.out.1.size; simp at h; omega))
      have HR := Lib.hid (And.intro hR4.own.ns ((K3.out.1.then (fp_alloc w3 (.cells #[.string (B xd), .int .i64 xg, .int .i64 xe, .int .i64 xt] TM))).trans hR4.fp (fun k hk => .inr (by simp [Value.ownBlock] at hk; omega))))
      clear hR4
      go_wp2
      go_ret
      exact ⟨⟨_, rfl, by rw [HPUT.out]; exact HR.out.1, HNEW.out⟩, HR.out.2⟩
  · have hin : i < n := by rw [HX.out.1]; exact hil
    obtain ⟨y, hy⟩ : ∃ y, y = l[i] := ⟨_, rfl⟩
    have hnd := K3.out.2.2.1.nd i hil
    rw [← hy] at hnd hge
    rw [Nat.zero_add] at hnd
    have hc := K3.out.2.1.at
    have c0 := hc.1; have c1 := hc.2.1; have c2 := hc.2.2.1; have c3 := hc.2.2.2
    have y0 := hnd.c0; have y1 := hnd.c1; have y2 := hnd.c2; have y3 := hnd.c3
    simp only at c0 c1 c2 c3
    unfold strV at y0
    have q2 : ((i : Int) < (n : Int)) = True := eq_true (by omega)
    have q3 : (i < n) = True := eq_true hin
    have q5 : ((i : Int) == -1) = false := beq_eq_false_iff_ne.2 (by omega)
    have q6 : ((i : Int) = -1) = False := eq_false (by omega)
    have hib : i ≤ 32 := by omega
    have HL := Lib.hid hil
    have HIL := Lib.hid (show i < l.length from hil)
    have hgp := HGP.out
    rw [dif_pos (by rw [hpl]; exact hil)] at hgp
    simp only [hpl] at hgp
    rw [← hy] at hgp
    by_cases he : y.d = xd
    · have q7 : (y.d == xd) = true := by rw [he]; exact beq_self_eq_true xd
      rw [if_pos he] at hgp
      have hput := (HPS.out (by rw [hgp]; rfl)).2
      simp only [hpl] at hput
      have HPUT := Lib.hid hput
      have q8 : (y.d = xd) = True := eq_true he
      clear hin hil hge hpl hgp hc hnd hy hput he q8 HL y1 y2 y3
      obtain ⟨ky, kyl⟩ : ∃ k, k = y.d := ⟨_, rfl⟩
      rw [← kyl] at y0 q7
      clear kyl
      go_wp2_with fail
      go_quiet (fail)
      obtain ⟨W4, hW4⟩ : ∃ W4, w3.drewN nq = W4 := ⟨_, rfl⟩
      have hf4 : Fp Non w3 W4 := by rw [← hW4]; exact (Fp.refl Non w3).drewN nq
      rw [hW4]
      have hN4 := K3.out.2.2.1.keep hf4 (fun h => h)
      have hb4 := (K3.out.2.1.non hf4).at
      have hM := hN4.put i HIL.out ⟨xd, xg, xe, xt⟩
      have hF := fp_putM (S := Non) (K3.out.1.then hf4) (b := G) (.inr (by omega)) (i * 4) (strV xd) (.int .i64 xg) (.int .i64 xe) (.int .i64 xt)
      have f0 := hN4.frozen (i * 4); have f1 := hN4.frozen (i * 4 + 1); have f2 := hN4.frozen (i * 4 + 2); have f3 := hN4.frozen (i * 4 + 3)
      have hnd := hN4.nd i HIL.out
      rw [Nat.zero_add] at hnd
      have y0 := hnd.c0; have y1 := hnd.c1; have y2 := hnd.c2; have y3 := hnd.c3
      have hdr := hM.ns
      rw [List.length_set, ← HX.out.1, ← HPUT.out] at hdr
      have c0 := hb4.1; have c1 := hb4.2.1; have c2 := hb4.2.2.1; have c3 := hb4.2.2.2
      simp only at c0 c1 c2 c3
      unfold strV at hdr hF y0
      have HR := Lib.hid (And.intro hdr hF)
      clear hdr hF hM hN4 hb4 hf4 hW4 hnd
      go_wp2
      go_ret
      exact ⟨⟨_, rfl, HR.out.1, fun k hk => by simp [Value.ownBlock] at hk; omega⟩, HR.out.2⟩
    · have q7 : (y.d == xd) = false := beq_eq_false_iff_ne.2 he
      rw [if_neg he] at hgp
      have hput := HPI.out hgp
      simp only [hpl] at hput
      have HPUT := Lib.hid (show putM l ⟨xd, xg, xe, xt⟩ = insM l i ⟨xd, xg, xe, xt⟩ from hput)
      clear HL hin hil hge hpl hgp hc hnd hy hput he y1 y2 y3
      obtain ⟨ky, kyl⟩ : ∃ k, k = y.d := ⟨_, rfl⟩
      rw [← kyl] at y0 q7
      clear kyl
      go_wp2_with fail
      go_quiet (fail)
      obtain ⟨W4, hW4⟩ : ∃ W4, w3.drewN nq = W4 := ⟨_, rfl⟩
      have hf4 : Fp Non w3 W4 := by rw [← hW4]; exact (Fp.refl Non w3).drewN nq
      rw [hW4]
      have hN4 := K3.out.2.2.1.keep hf4 (fun h => h)
      have hb4 := (K3.out.2.1.non hf4).at
      have c0 := hb4.1; have c1 := hb4.2.1; have c2 := hb4.2.2.1; have c3 := hb4.2.2.2
      simp only at c0 c1 c2 c3
      have HR := Lib.hid (And.intro hN4 (And.intro (K3.out.1.then hf4) hf4.size))
      clear hN4 hb4 hf4 hW4
      go_wp2_with fail
      have hX := BxM.new W4 ⟨xd, xg, xe, xt⟩
      have hN5 := HR.out.1.keep (fp_alloc W4 (.cells #[.string (B xd), .int .i64 xg, .int .i64 xe, .int .i64 xt] TM)) (fun h => h)
      have hO : OwM w.heap.size (W4.alloc (.cells #[.string (B xd), .int .i64 xg, .int .i64 xe, .int .i64 xt] TM)) (.slice (some ⟨G, 0, none⟩) l.length cp) l := hN5.owns (by omega)
      rw [← HX.out.1] at hO
      refine (Insert_ownM (x := ⟨xd, xg, xe, xt⟩) (X := W4.heap.size) hO i (by have := HIL.out; omega) hX (fun e => by have h1 := HR.out.1.lt; simp only [Value.ownBlock, Option.some.injEq] at e; omega) (by have := HX.out; omega) (by have := HR.out.2.1.size; simp; omega)).mono ?_
      rintro e w5 ⟨v5, rfl, hI⟩
      have HZ := Lib.hid (show MkR w (putM l ⟨xd, xg, xe, xt⟩) (.returned v5) w5 from ⟨⟨v5, rfl, by rw [HPUT.out]; exact hI.own.ns, fun k hk => (hI.new k hk).elim (fun h => by simp only [Value.ownBlock, Option.some.injEq] at h; omega) (fun h => by have := HR.out.2.1.size; simp at h; omega)⟩, (HR.out.2.1.then (fp_alloc W4 (.cells #[.string (B xd), .int .i64 xg, .int .i64 xe, .int .i64 xt] TM))).trans hI.fp (fun k hk => .inr (by simp only [Value.ownBlock, Option.some.injEq] at hk; omega))⟩)
      clear hI hX hN5 hO
      go_wp2
      go_ret
      exact HZ.out

end Go.Proofs.Ytdfnfkknbjageaa

/- mounts.may, Of, refusal (gen_bd.py) -/
namespace Go.Proofs.Ytdfnfkknbjageaa
set_option maxRecDepth 20000
set_option linter.unusedVariables false
set_option linter.unusedSimpArgs false
open Go.RowKit Pm


/-- What is asked of mounts that are handed in. -/
structure SzM (l : List Mt) : Prop where
  n : l.length ≤ 140737488355328
  p : ∀ x ∈ l, x.d.length ≤ 140737488355328
theorem pick_yes {l : List Mt} (h : RtM l) {p : Bs} (hp : okP p = true) : ∃ k, ∃ hk : k < l.length, bk l p l.length = some k ∧ ofR l p = some k ∧ pick l p = some l[k] := by
  obtain ⟨ps, hs⟩ := Option.isSome_iff_exists.1 hp
  have hne : pick l p ≠ none := by
    rw [pick_filter h]
    obtain ⟨x, r, rfl, hx⟩ := h.root
    rw [List.filter_cons, hx, if_pos (in_root hs)]
    intro hn
    rw [List.getLast?_eq_none_iff] at hn
    cases hn
  cases ho : ofR l p with
  | none => exact absurd (pick_none ho) hne
  | some k =>
    have hb := ho
    unfold ofR at hb
    rw [if_pos ((right_ifft l).2 h)] at hb
    exact ⟨k, ofR_lt ho, hb, rfl, pick_at ho⟩

set_option maxHeartbeats 1000000 in
theorem may_c (v : Value) (l : List Mt) (p : Bs) (to : Int) (w : World) (hv : NsM w v l) (hs : SzM l) (hp : p.length ≤ 140737488355328) :
    Calls Try.prog 57 #[v, .string (B p), .int .i64 to] w fun e w' => e = .returned (.bool (mayM l p to)) ∧ Fp Non w w' := by
  have h1 := RightM_c v l w hv hs.p (by have := hs.n; omega)
  have h2 := fun w => Right_g p w (sz_of hp (by omega))
  have h3 := fun w => isGroup_c to w
  obtain ⟨ao, cap, rfl⟩ := hv.shape
  have e : mayM l p to = (rightM l && (split p).isSome && okG to) := rfl
  rw [e]
  generalize rightM l = b1 at *
  generalize (split p).isSome = b2 at *
  generalize okG to = b3 at *
  generalize l.length = n at *
  have H1 := Lib.hid h1
  have H2 := Lib.hid h2
  have H3 := Lib.hid h3
  clear h1 h2 h3 hv hs hp e
  go_enter Try.func57, Try.ntmps57
  go_wp2_with fail
  refine H1.out.mono ?_
  rintro e w1 ⟨rfl, hf⟩
  have HF := Lib.hid hf
  clear hf
  cases b1 with
  | false =>
    go_wp2
    go_ret
    exact ⟨rfl, HF.out⟩
  | true =>
  go_wp2_with fail
  refine (H2.out _).mono ?_
  rintro e w2 ⟨rfl, hf⟩
  have HG := Lib.hid (HF.out.then hf.fp)
  clear hf
  cases b2 with
  | false =>
    go_wp2
    go_ret
    exact ⟨rfl, HG.out⟩
  | true =>
  go_wp2_with fail
  refine (H3.out _).mono ?_
  rintro e w3 ⟨rfl, rfl⟩
  go_wp2
  go_ret
  exact ⟨ret_bool (by cases b3 <;> rfl), HG.out⟩

set_option maxHeartbeats 1000000 in
theorem OfM_c (v : Value) (l : List Mt) (d : Bs) (w : World) (hv : NsM w v l) (hs : SzM l) (hd : d.length ≤ 140737488355328) :
    Calls Try.prog 66 #[v, .string (B d)] w fun e w' => e = .returned (.int .i64 (idx (ofR l d))) ∧ Fp Non w w' := by
  have h1 := RightM_c v l w hv hs.p (by have := hs.n; omega)
  have h2 := fun W (f : Fp Non w W) => mountOf_c v l d W (hv.non f) hs.n hs.p hd
  obtain ⟨ao, cap, rfl⟩ := hv.shape
  have e : ofR l d = if rightM l = true then bk l d l.length else none := rfl
  rw [e]
  generalize bk l d l.length = z at *
  generalize rightM l = b at *
  generalize l.length = n at *
  have H1 := Lib.hid h1
  have H2 := Lib.hid h2
  clear h1 h2 hv hs hd e
  go_enter Try.func66, Try.ntmps66
  go_wp2_with fail
  refine H1.out.mono ?_
  rintro e w1 ⟨rfl, hf⟩
  have HF := Lib.hid hf
  clear hf
  cases b with
  | false =>
    go_wp2
    go_ret
    exact ⟨rfl, HF.out⟩
  | true =>
    go_wp2_with fail
    refine (H2.out _ HF.out).mono ?_
    rintro e w2 ⟨rfl, hf⟩
    have HG := Lib.hid (HF.out.then hf)
    clear hf
    go_wp2
    go_ret
    exact ⟨rfl, HG.out⟩

theorem rfs_at {l : List Mt} {p : Bs} {to : Int} {y : Mt} (h : pick l p = some y) : rfs l p to = if nearM l p = true then 131 else if y.g = to then 61 else if (getM l p).isNone = true ∧ l.length = 32 ∨ y.e = mxN then 2 else 0 := by
  unfold rfs; rw [h]
set_option maxHeartbeats 4000000 in
theorem refusal_c (v : Value) (l : List Mt) (p : Bs) (to : Int) (w : World) (hv : NsM w v l) (hs : SzM l) (hp : p.length ≤ 140737488355328) (hr : RtM l) (hok : okP p = true) :
    Calls Try.prog 60 #[v, .string (B p), .int .i64 to] w fun e w' => e = .returned (.int .i64 (rfs l p to)) ∧ Fp Non w w' := by
  obtain ⟨k, hk, hbk, _, hpick⟩ := pick_yes hr hok
  have h1 := fun W (f : Fp Non w W) => mountOf_c v l p W (hv.non f) hs.n hs.p hp
  have h2 := fun W (f : Fp Non w W) => exact_c v l p W (hv.non f) hs.p hs.n
  have h3 := fun W g (f : Fp Non w W) (hg : W.cell? ⟨g, 0, none⟩ = some (.string (B p))) => ContainsM_c v _ l _ W (hv.non f) hs.p (refusal_pd hp hg) hs.n
  have hre := rfs_at (to := to) hpick
  obtain ⟨r, hrr⟩ : ∃ r, rfs l p to = r := ⟨_, rfl⟩
  rw [hrr] at hre ⊢
  have hnear : nearM l p = l.any (nrM p) := rfl
  rw [hnear] at hre
  obtain ⟨nb, hnb⟩ : ∃ b, l.any (nrM p) = b := ⟨_, rfl⟩
  rw [hnb] at hre
  obtain ⟨g, o, cap, rfl, _, _, _, hcell⟩ := hv.at (by omega)
  have hnd := hcell k hk
  rw [hbk] at h1
  have hlen := hr.len
  obtain ⟨y, hy⟩ : ∃ y, y = l[k] := ⟨_, rfl⟩
  rw [← hy] at hnd hre
  obtain ⟨n, hn⟩ : ∃ n, n = l.length := ⟨_, rfl⟩
  rw [← hn] at h1 h2 h3 hre hk hlen ⊢
  obtain ⟨ex, hex⟩ : ∃ x, exM l p = x := ⟨_, rfl⟩
  have hgx : (getM l p).isNone = ex.isNone := by
    rw [← hex]
    cases e : exM l p with
    | none => rw [exM_no e]; rfl
    | some i => rw [exM_at e]; rfl
  rw [hex] at h2
  rw [hgx] at hre
  have hb := heap_alloc_new w (.cells #[.string (B p)] 9)
  have H1 := Lib.hid h1
  have H2 := Lib.hid h2
  have H3 := Lib.hid (fun W g' f hg => (h3 W g' f hg).mono (fun e w' h => (show e = .returned (.bool nb) ∧ Fp Non W w' from by rw [← hnb]; exact h)))
  have HR := Lib.hid hre
  have HN := Lib.hid hnd
  have HB := Lib.hid (And.intro (fp_alloc w (.cells #[.string (B p)] 9)) (show (w.alloc (.cells #[.string (B p)] 9)).cell? ⟨w.heap.size, 0, none⟩ = some (.string (B p)) from by rw [cell_of_row _ _ _ _ _ _ hb]; rfl))
  have cp := HB.out.2
  have q1 : ((k : Int) < (n : Int)) = True := eq_true (by omega)
  have q2 : (k < n) = True := eq_true hk
  have hkb : k ≤ 32 := by omega
  have hx0 : ∀ j : Nat, (((j : Int) == -1) = false) ∧ (((j : Int) = -1) = False) := fun j => ⟨beq_eq_false_iff_ne.2 (by omega), eq_false (by omega)⟩
  have HX := Lib.hid hx0
  clear h1 h2 h3 hre hnear hnb hcell hnd hbk hpick hr hok hv hs hp hy hgx hex hn hrr hk hb hx0
  go_enter Try.func60, Try.ntmps60
  go_wp2_with fail
  refine (H1.out _ HB.out.1).mono ?_
  rintro e w1 ⟨rfl, hf⟩
  have f1 := HB.out.1.then hf
  have hnd := HN.out.keep f1 (fun h => h)
  have c0 := hnd.c0; have c1 := hnd.c1; have c2 := hnd.c2; have c3 := hnd.c3
  unfold strV at c0
  have cp := hf.cell HB.out.2 (fun h => h)
  have hbx := BxM.new w1 y
  have hfa := fp_alloc w1 (.cells #[.string (B y.d), .int .i64 y.g, .int .i64 y.e, .int .i64 y.t] TM)
  have K1 := Lib.hid (And.intro (f1.then hfa) (And.intro (hfa.cell cp (fun h => h)) hbx))
  have cq := K1.out.2.1
  simp only [idx]
  clear hf f1 hnd hbx hfa HB
  go_wp2_with fail
  refine (H2.out _ K1.out.1).mono ?_
  rintro e w2 ⟨rfl, hf⟩
  have K2 := Lib.hid (And.intro (K1.out.1.then hf) (And.intro (hf.cell K1.out.2.1 (fun h => h)) (K1.out.2.2.non hf)))
  clear hf K1 c0 c1 c2 c3 cp cq
  have cq := K2.out.2.1
  cases ex with
  | none =>
    simp only [idx]
    by_cases h32 : n = 32
    · have q3 : ((n : Int) == 32) = true := by rw [beq_iff_eq]; omega
      have q4 : ((n : Int) = 32) = True := eq_true (by omega)
      have HNN := Lib.hid h32
      clear h32
      go_wp2_with fail
      refine (H3.out _ w.heap.size K2.out.1 K2.out.2.1).mono ?_
      rintro e w3 ⟨rfl, hf⟩
      have K3 := Lib.hid (And.intro (K2.out.1.then hf) (K2.out.2.2.non hf).at)
      clear hf
      cases nb with
      | true =>
        have HE := Lib.hid (show r = 131 from by rw [HR.out, if_pos rfl])
        go_wp2
        go_ret
        exact ⟨ret_int HE.out.symm, K3.out.1⟩
      | false =>
      have c1 := K3.out.2.2.1; have c2 := K3.out.2.2.2.1
      by_cases hg : y.g = to
      · have HE := Lib.hid (show r = 61 from by rw [HR.out, if_neg (by decide), if_pos hg])
        have q7 : (y.g == to) = true := beq_iff_eq.2 hg
        have q8 : (y.g = to) = True := eq_true hg
        clear hg
        go_wp2
        go_ret
        exact ⟨ret_int HE.out.symm, K3.out.1⟩
      have q7 : (y.g == to) = false := beq_eq_false_iff_ne.2 hg
      have q8 : (y.g = to) = False := eq_false hg
      have HG := Lib.hid hg
      clear hg
      have HE := Lib.hid (show r = 2 from by rw [HR.out, if_neg (by decide), if_neg HG.out, if_pos (.inl ⟨rfl, HNN.out⟩)])
      go_wp2
      go_ret
      exact ⟨ret_int HE.out.symm, K3.out.1⟩
    · have q3 : ((n : Int) == 32) = false := beq_eq_false_iff_ne.2 (by omega)
      have q4 : ((n : Int) = 32) = False := eq_false (by omega)
      have HNN := Lib.hid (show ¬ ((none : Option Nat).isNone = true ∧ n = 32) from fun h => h32 h.2)
      clear h32
      go_wp2_with fail
      refine (H3.out _ w.heap.size K2.out.1 K2.out.2.1).mono ?_
      rintro e w3 ⟨rfl, hf⟩
      have K3 := Lib.hid (And.intro (K2.out.1.then hf) (K2.out.2.2.non hf).at)
      clear hf
      cases nb with
      | true =>
        have HE := Lib.hid (show r = 131 from by rw [HR.out, if_pos rfl])
        go_wp2
        go_ret
        exact ⟨ret_int HE.out.symm, K3.out.1⟩
      | false =>
      have c1 := K3.out.2.2.1; have c2 := K3.out.2.2.2.1
      by_cases hg : y.g = to
      · have HE := Lib.hid (show r = 61 from by rw [HR.out, if_neg (by decide), if_pos hg])
        have q7 : (y.g == to) = true := beq_iff_eq.2 hg
        have q8 : (y.g = to) = True := eq_true hg
        clear hg
        go_wp2
        go_ret
        exact ⟨ret_int HE.out.symm, K3.out.1⟩
      have q7 : (y.g == to) = false := beq_eq_false_iff_ne.2 hg
      have q8 : (y.g = to) = False := eq_false hg
      have HG := Lib.hid hg
      clear hg
      by_cases he : y.e = 281474976710656
      · have q9 : (y.e == 281474976710656) = true := beq_iff_eq.2 he
        have q10 : (y.e = 281474976710656) = True := eq_true he
        have HE := Lib.hid (show r = 2 from by rw [HR.out, if_neg (by decide), if_neg HG.out, if_pos (.inr he)])
        clear he
        go_wp2
        go_ret
        exact ⟨ret_int HE.out.symm, K3.out.1⟩
      · have q9 : (y.e == 281474976710656) = false := beq_eq_false_iff_ne.2 he
        have q10 : (y.e = 281474976710656) = False := eq_false he
        have HE := Lib.hid (show r = 0 from by rw [HR.out, if_neg (by decide), if_neg HG.out, if_neg (fun h => h.elim (fun h => HNN.out h) he)])
        clear he
        go_wp2
        go_ret
        exact ⟨ret_int HE.out.symm, K3.out.1⟩
  | some j =>
    simp only [idx]
    have q5 := (HX.out j).1
    have q6 := (HX.out j).2
    have HNN := Lib.hid (show ¬ ((some j : Option Nat).isNone = true ∧ n = 32) from fun h => by cases h.1)
    go_wp2_with fail
    refine (H3.out _ w.heap.size K2.out.1 K2.out.2.1).mono ?_
    rintro e w3 ⟨rfl, hf⟩
    have K3 := Lib.hid (And.intro (K2.out.1.then hf) (K2.out.2.2.non hf).at)
    clear hf
    cases nb with
    | true =>
      have HE := Lib.hid (show r = 131 from by rw [HR.out, if_pos rfl])
      go_wp2
      go_ret
      exact ⟨ret_int HE.out.symm, K3.out.1⟩
    | false =>
    have c1 := K3.out.2.2.1; have c2 := K3.out.2.2.2.1
    by_cases hg : y.g = to
    · have HE := Lib.hid (show r = 61 from by rw [HR.out, if_neg (by decide), if_pos hg])
      have q7 : (y.g == to) = true := beq_iff_eq.2 hg
      have q8 : (y.g = to) = True := eq_true hg
      clear hg
      go_wp2
      go_ret
      exact ⟨ret_int HE.out.symm, K3.out.1⟩
    have q7 : (y.g == to) = false := beq_eq_false_iff_ne.2 hg
    have q8 : (y.g = to) = False := eq_false hg
    have HG := Lib.hid hg
    clear hg
    by_cases he : y.e = 281474976710656
    · have q9 : (y.e == 281474976710656) = true := beq_iff_eq.2 he
      have q10 : (y.e = 281474976710656) = True := eq_true he
      have HE := Lib.hid (show r = 2 from by rw [HR.out, if_neg (by decide), if_neg HG.out, if_pos (.inr he)])
      clear he
      go_wp2
      go_ret
      exact ⟨ret_int HE.out.symm, K3.out.1⟩
    · have q9 : (y.e == 281474976710656) = false := beq_eq_false_iff_ne.2 he
      have q10 : (y.e = 281474976710656) = False := eq_false he
      have HE := Lib.hid (show r = 0 from by rw [HR.out, if_neg (by decide), if_neg HG.out, if_neg (fun h => h.elim (fun h => HNN.out h) he)])
      clear he
      go_wp2
      go_ret
      exact ⟨ret_int HE.out.symm, K3.out.1⟩

end Go.Proofs.Ytdfnfkknbjageaa

