/- Function values over mounts; slices.IndexFunc, ContainsFunc (gen_b.py) -/
import Derived.Test.YtajgjhkienhpjaaBh
import Derived.Shelf.Abstract
namespace Go.Proofs.Ytajgjhkienhpjaa
set_option maxRecDepth 20000
set_option linter.unusedVariables false
set_option linter.unusedSimpArgs false
open Go.RowKit Pm

def MSp (l : List Mt) : Prop := ∀ x ∈ l, x.d.length ≤ 1000000
/-- A function value that tells of a node what q does, in whatever world that differs from wc in S alone. -/
structure PdM (S : Nat → Prop) (wc : World) (f : Value) (q : Mt → Bool) : Prop where
  ex : ∃ k fi cap, f = .func (.func k) fi cap ∧ Enters Try.prog k ∧ ∀ n w1, n.d.length ≤ 1000000 → Fp S wc w1 →
    Calls Try.prog k (fi ++ #[mtV n] ++ cap) w1 fun e w2 => e = .returned (.bool (q n)) ∧ Fp Non w1 w2
theorem PdM.later {S : Nat → Prop} {wc w : World} {f : Value} {q : Mt → Bool} (h : PdM S wc f q) (g : Fp S wc w) : PdM S w f q := by
  obtain ⟨k, fi, cap, e, h1, h2⟩ := h.ex
  exact ⟨k, fi, cap, e, h1, fun n w1 hn hf => h2 n w1 hn (g.same hf)⟩
theorem PdM.non {S : Nat → Prop} {wc : World} {f : Value} {q : Mt → Bool} (h : PdM S wc f q) : PdM Non wc f q := by
  obtain ⟨k, fi, cap, e, h1, h2⟩ := h.ex
  exact ⟨k, fi, cap, e, h1, fun n w1 hn hf => h2 n w1 hn hf.any⟩

/-- Where the first one is. -/
def IdxM (q : Mt → Bool) (l : List Mt) (z : Int) : Prop := (z = -1 ∧ ∀ n ∈ l, q n = false) ∨ ∃ i, z = ((i : Nat) : Int) ∧ ∃ h : i < l.length, q l[i] = true ∧ ∀ j (hj : j < l.length), j < i → q l[j] = false

set_option maxHeartbeats 1000000 in
theorem IndexM_c (v f : Value) (l : List Mt) (q : Mt → Bool) (w : World) (hv : NsM w v l) (hs : MSp l) (hq : PdM Non w f q) (hn : l.length ≤ 1000000) :
    Calls Try.prog 33 #[v, f] w fun e w' => (∃ z, e = .returned (.int .i64 z) ∧ IdxM q l z) ∧ Fp Non w w' := by
  obtain ⟨ao, cap, rfl⟩ := hv.shape
  obtain ⟨n, hnn⟩ : ∃ n, n = l.length := ⟨_, rfl⟩
  obtain ⟨kf, fi, fc, rfl, hen, hcall⟩ := hq.ex
  have HX := Lib.hid (And.intro hnn (And.intro hv (And.intro hs hcall)))
  rw [← hnn]
  have hnb : n ≤ 1000000 := by omega
  clear hv hs hq hcall hn hnn
  go_enter Try.func33, Try.ntmps33
  go_wp2_with fail
  go_loopw [8] (fun i wr => ∃ k : Nat, k ≤ n ∧ i = .int .i64 k ∧ Hid (Fp Non w wr ∧ ∀ j (hj : j < l.length), j < k → q l[j] = false)) (fun i _ => n - (RowKit.intOf i).toNat)
  case atStart => exact ⟨0, Nat.zero_le _, rfl, Fp.refl _ _, fun j _ h => absurd h (Nat.not_lt_zero j)⟩
  case round =>
    obtain ⟨k, hk, rfl, hR⟩ := hrel
    rename_i wr _
    by_cases hlt : k < n
    · have hkl : k < l.length := by rw [← HX.out.1]; exact hlt
      obtain ⟨g, o, cap', e, _, _, _, hcell⟩ := HX.out.2.1.at (by omega)
      injection e with e1 e2 e3
      subst e1 e3
      have hnd := (hcell k hkl).keep hR.out.1 (fun h => h)
      have hcc := HX.out.2.2.2 l[k] wr (HX.out.2.2.1 _ (List.getElem_mem hkl)) hR.out.1
      obtain ⟨b, hb⟩ : ∃ b, q l[k] = b := ⟨_, rfl⟩
      rw [hb] at hcc
      have HB := Lib.hid (And.intro hkl (And.intro hb hlt))
      have HL := Lib.hid (And.intro hkl hlt)
      have hnew : b = false → ∀ j (hj : j < l.length), j < k + 1 → q l[j] = false := fun h j hj hjk => by
        rcases Nat.lt_or_eq_of_le (show j ≤ k by omega) with e | e
        · exact hR.out.2 j hj e
        · subst e; rw [hb, h]
      have hfin : b = true → IdxM q l (k : Int) := fun h => .inr ⟨k, rfl, hkl, by rw [hb, h], fun j hj hjk => hR.out.2 j hj hjk⟩
      have HN := Lib.hid (And.intro hnew hfin)
      clear HB hnew hfin hb hcell
      generalize l[k] = x at *
      have c0 := hnd.c0; have c1 := hnd.c1; have c2 := hnd.c2; have c3 := hnd.c3
      unfold strV at c0
      unfold mtV strV at hcc
      have q3 : ((k : Int) < (n : Int)) = True := eq_true (by omega)
      have q4 : (k < n) = True := eq_true hlt
      have HCC := Lib.hid hcc
      clear hnd hcc hkl hlt
      go_wp2_with fail
      rw [hen _ _]
      go_wp2_with fail
      refine HCC.out.mono ?_
      rintro e w2 ⟨rfl, hf2⟩
      have HF := Lib.hid (hR.out.1.then hf2)
      clear hf2
      cases b with
      | true =>
        have hI := HN.out.2 rfl
        have HI := Lib.hid hI
        clear HN hI
        go_wp2
        go_ret
        exact ⟨⟨_, rfl, HI.out⟩, HF.out⟩
      | false =>
        have hM : Hid (Fp Non w w2 ∧ ∀ j (hj : j < l.length), j < k + 1 → q l[j] = false) := ⟨HF.out, HN.out.1 rfl⟩
        have hkn := HL.out.2
        clear HN
        go_wp2
        go_roundw
        case rel => exact ⟨k + 1, by omega, by go_num, hM⟩
        case measure => simp [RowKit.intOf]; omega
    · have hke : k = n := by omega
      subst hke
      have q3 : ((k : Int) < (k : Int)) = False := eq_false (by omega)
      have hI : IdxM q l (-1) := .inl ⟨rfl, fun x hx => by
        obtain ⟨i, hi, rfl⟩ := List.getElem_of_mem hx
        exact hR.out.2 i hi (by rw [HX.out.1]; exact hi)⟩
      have HI := Lib.hid hI
      clear hlt hk hI
      go_wp2
      go_ret
      exact ⟨⟨_, rfl, HI.out⟩, hR.out.1⟩

theorem IdxM.pos {q : Mt → Bool} {l : List Mt} {z : Int} (h : IdxM q l z) : decide (0 ≤ z) = l.any q := by
  rcases h with ⟨rfl, h⟩ | ⟨i, rfl, hi, h, _⟩
  · have : l.any q = false := by rw [List.any_eq_false]; intro x hx; simp [h x hx]
    rw [this]; rfl
  · have : l.any q = true := List.any_eq_true.2 ⟨_, List.getElem_mem hi, h⟩
    rw [this]; simp

set_option maxHeartbeats 1000000 in
theorem ContainsM_c (v f : Value) (l : List Mt) (q : Mt → Bool) (w : World) (hv : NsM w v l) (hs : MSp l) (hq : PdM Non w f q) (hn : l.length ≤ 1000000) :
    Calls Try.prog 37 #[v, f] w fun e w' => e = .returned (.bool (l.any q)) ∧ Fp Non w w' := by
  have hi := IndexM_c v f l q w hv hs hq hn
  have HI := Lib.hid hi
  obtain ⟨ao, cap, rfl⟩ := hv.shape
  obtain ⟨kf, fi, fc, rfl, _, _⟩ := hq.ex
  clear hi hv hq hs hn
  go_enter Try.func37, Try.ntmps37
  go_wp2_with fail
  refine HI.out.mono ?_
  rintro e w1 ⟨⟨z, rfl, hz⟩, hf⟩
  have HZ := Lib.hid (And.intro hz.pos hf)
  clear hz hf
  go_wp2
  go_ret
  exact ⟨ret_bool HZ.out.1, HZ.out.2⟩



end Go.Proofs.Ytajgjhkienhpjaa
