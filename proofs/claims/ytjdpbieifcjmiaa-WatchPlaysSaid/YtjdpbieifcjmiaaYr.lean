/- without at events (gen_yr.py) -/
import Derived.Test.YtjdpbieifcjmiaaYq
namespace Go.Proofs.Ytjdpbieifcjmiaa
set_option maxRecDepth 20000
set_option linter.unusedVariables false
set_option linter.unusedSimpArgs false
open Go.RowKit Pm


/-- A function value that tells of an event what q does. -/
structure PdE (wc : World) (f : Value) (q : Ev → Bool) : Prop where
  ex : ∃ k fi cap, f = .func (.func k) fi cap ∧ Enters Try.prog k ∧ ∀ n w1, Fp Non wc w1 → Calls Try.prog k (fi ++ #[evV n] ++ cap) w1 fun e w2 => e = .returned (.bool (q n)) ∧ Fp Non w1 w2
structure WeI (v : Value) (l K : List Ev) (w : World) (u : Value) (W : World) : Prop where
  left : OwE w.heap.size W u K
  fp : Fp Non w W
theorem take_filter (l : List Ev) (k : Nat) (h : k < l.length) (q : Ev → Bool) : (l.take (k + 1)).filter q = (l.take k).filter q ++ if q l[k] = true then [l[k]] else [] := by
  rw [List.take_succ_eq_append_getElem h, List.filter_append]
  congr 1
  by_cases hq : q l[k] = true <;> simp [hq]

set_option maxHeartbeats 4000000 in
theorem withoutE_c (v f : Value) (l : List Ev) (q : Ev → Bool) (w : World) (hv : NsE w v l) (hg : PdE w f q) (hn : l.length ≤ 30000) :
    Calls Try.prog 33 #[v, f] w fun e w' => ∃ v', e = .returned v' ∧ OwRE w (l.filter (fun x => !q x)) v' w' := by
  obtain ⟨ao, cap, rfl⟩ := hv.shape
  obtain ⟨kf, fi, fc, rfl, hen, hcall⟩ := hg.ex
  obtain ⟨n, hnn⟩ : ∃ n, n = l.length := ⟨_, rfl⟩
  have HX := Lib.hid (And.intro hnn (And.intro hcall hv))
  have H0 := Lib.hid (show WeI (.slice ao n cap) l ((l.take 0).filter (fun x => !q x)) w (.slice none 0 0) w from ⟨by rw [List.take_zero]; exact OwE.nil _ _, Fp.refl _ _⟩)
  rw [← hnn] at hn ⊢
  clear hv hg hnn hcall
  go_enter Try.func33, Try.ntmps33
  go_wp2_with fail
  go_loopw [5, 10] (fun u i wr => ∃ k : Nat, k ≤ n ∧ i = .int .i64 k ∧ Hid (WeI (.slice ao n cap) l ((l.take k).filter (fun x => !q x)) w u wr)) (fun _ i _ => n - (RowKit.intOf i).toNat)
  case atStart => exact ⟨0, Nat.zero_le _, rfl, H0⟩
  case round =>
    clear H0
    obtain ⟨k, hk, rfl, hR⟩ := hrel
    rename_i wr _
    by_cases hlt : k < n
    · have hkl : k < l.length := by rw [← HX.out.1]; exact hlt
      obtain ⟨g, o, cap', e, _, _, hgl, hcell⟩ := HX.out.2.2.at (by omega)
      injection e with e1 e2 e3
      subst e1 e3
      clear e2
      have hnd := (hcell k hkl).keep hR.out.fp (fun h => h)
      have hcc := fun W f => HX.out.2.1 l[k] W (hR.out.fp.then f)
      have hKK := take_filter l k hkl (fun x => !q x)
      obtain ⟨b, hb⟩ : ∃ b, q l[k] = b := ⟨_, rfl⟩
      rw [hb] at hcc
      simp only [hb] at hKK
      have HL := Lib.hid (And.intro hkl hlt)
      have hKn : ((l.take k).filter (fun x => !q x)).length ≤ 40000 := Nat.le_trans (List.length_filter_le _ _) (by rw [List.length_take]; omega)
      clear hcell hb
      generalize l[k] = x at *
      obtain ⟨xn, xk, xp, xw⟩ := x
      have c0 := hnd.c0; have c1 := hnd.c1; have c2 := hnd.c2; have c3 := hnd.c3
      unfold strV at c2
      unfold evV strV at hcc
      simp only at c0 c1 c2 c3
      have f0 := fp_alloc wr (.cells #[.int .i64 xn, .int .i64 xk, .string (B xp), .int .i64 xw] TE)
      have rb := heap_alloc_new wr (.cells #[.int .i64 xn, .int .i64 xk, .string (B xp), .int .i64 xw] TE)
      have HCC := Lib.hid (hcc _ f0)
      have HB := Lib.hid (And.intro f0 (And.intro rb (And.intro hKK hKn)))
      have q3 : ((k : Int) < (n : Int)) = True := eq_true (by omega)
      have q4 : (k < n) = True := eq_true hlt
      clear hnd hcc hkl hlt f0 rb hKK hKn
      go_wp2_with fail
      rw [hen _ _]
      go_wp2_with fail
      refine HCC.out.mono ?_
      rintro e w2 ⟨rfl, hf2⟩
      have hrb2 := hf2.heap HB.out.2.1 (fun h => h)
      have hW2 : WeI (.slice (some ⟨g, o, none⟩) n cap) l ((l.take k).filter (fun x => !q x)) w _ w2 := ⟨(hR.out.left.non HB.out.1).non hf2, (hR.out.fp.then HB.out.1).then hf2⟩
      obtain ⟨b0, b1, b2, b3⟩ := boxP4 hrb2
      have HW2 := Lib.hid hW2
      have hkn := HL.out.2
      clear hf2 hrb2 hW2
      cases b with
      | true =>
        have hM : Hid (WeI (.slice (some ⟨g, o, none⟩) n cap) l ((l.take (k + 1)).filter (fun x => !q x)) w _ w2) := ⟨by rw [HB.out.2.2.1]; simpa using HW2.out.left, HW2.out.fp⟩
        clear b0 b1 b2 b3
        go_wp2
        go_roundw
        case rel => exact ⟨k + 1, by omega, by go_num, hM⟩
        case measure => simp [RowKit.intOf]; omega
      | false =>
        have hap := app_ev w2 w.heap.size _ ((l.take k).filter (fun x => !q x)) ⟨xn, xk, xp, xw⟩ TLE HW2.out.left (by have := HB.out.2.2.2; omega) HW2.out.fp.size
        obtain ⟨ua, uc, hue⟩ := HW2.out.left.ns.shape
        obtain ⟨un, hun⟩ : ∃ n, n = ((l.take k).filter (fun x => !q x)).length := ⟨_, rfl⟩
        rw [← hun] at hue
        subst hue
        have hunb : un ≤ 40000 := by rw [hun]; exact HB.out.2.2.2
        have HAP := Lib.hid hap
        clear hap hun
        go_wp2_with (at_builtin; go_must (refine wpList_app rfl _ _ _ _ rfl _ _ rfl rfl _ HAP.out ?_))
        intro v4 w4 hR4
        have f3 := fp_alloc w2 (.cells #[.int .i64 xn, .int .i64 xk, .string (B xp), .int .i64 xw] TE)
        have hM : Hid (WeI (.slice (some ⟨g, o, none⟩) n cap) l ((l.take (k + 1)).filter (fun x => !q x)) w v4 w4) := by
          refine ⟨by rw [HB.out.2.2.1]; simpa using hR4.own, (HW2.out.fp.then f3).trans hR4.fp (fun j hj => .inr (HW2.out.left.low j hj))⟩
        clear hR4 f3 b0 b1 b2 b3
        go_wp2
        go_roundw
        case rel => exact ⟨k + 1, by omega, by go_num, hM⟩
        case measure => simp [RowKit.intOf]; omega
    · have hke : k = n := by omega
      subst hke
      have q3 : ((k : Int) < (k : Int)) = False := eq_false (by omega)
      have HF := Lib.hid (show ∀ u, WeI (.slice ao k cap) l ((l.take k).filter (fun x => !q x)) w u wr → OwRE w (l.filter (fun x => !q x)) u wr from fun u h => ⟨by have := h.left; rw [List.take_of_length_le (by rw [← HX.out.1]; exact Nat.le_refl _)] at this; exact this, h.fp⟩)
      clear hlt hk
      go_wp2
      go_ret
      exact ⟨_, rfl, HF.out _ hR.out⟩

set_option maxHeartbeats 1000000 in
theorem take1_c (x : Ev) (g : Nat) (u : Int) (w : World) (hg : w.cell? ⟨g, 0, none⟩ = some (.int .i64 u)) :
    Calls Try.prog 34 #[evV x, .pointer (some ⟨g, 0, none⟩)] w fun e w' => e = .returned (.bool (decide (x.num ≤ u))) ∧ Fp Non w w' := by
  obtain ⟨a, b, p, d⟩ := x
  unfold evV strV
  have hf : ∀ o, Fp Non w (w.alloc o) := fun o => (Fp.refl Non w).alloc o
  have hg2 : ∀ o, (w.alloc o).cell? ⟨g, 0, none⟩ = some (.int .i64 u) := fun o => (hf o).cell hg (fun h => h)
  have HF := Lib.hid hf
  clear hf hg
  go_enter Try.func34, Try.ntmps34
  go_wp2
  go_ret
  exact ⟨rfl, HF.out _⟩
theorem take_pd (w : World) (g : Nat) (u : Int) (hg : w.cell? ⟨g, 0, none⟩ = some (.int .i64 u)) : PdE w (.func (.func 34) #[] #[.pointer (some ⟨g, 0, none⟩)]) (fun e => decide (e.num ≤ u)) :=
  ⟨_, _, _, rfl, enters_of Try.func34 (by kernel_rfl) rfl, fun x w1 hf => take1_c x g u w1 (hf.cell hg (fun h => h))⟩
theorem cutE_eq (u : Int) (l : List Ev) : l.filter (fun x => !decide (x.num ≤ u)) = cutE u l := by
  unfold cutE
  apply List.filter_congr
  intro x _
  rw [Bool.eq_iff_iff]
  simp
end Go.Proofs.Ytjdpbieifcjmiaa
