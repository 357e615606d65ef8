/- Plain: what the laws of ranges ask of Freeze, Install, Drop. -/
import Derived.Test.YtcjpgenlhphapaaOv
namespace Go.Proofs.Ytcjpgenlhphapaa
set_option linter.unusedVariables false
set_option linter.unusedSimpArgs false
open Pm

theorem okP_len {p : Bs} (h : okP p = true) : p.length ≤ 100 := by
  obtain ⟨a, ha⟩ := Option.isSome_iff_exists.1 h
  have := (split_iff p a).1 ha
  have h2 := joinP_len this.1
  rw [this.2] at h2; exact h2
theorem okH_p {x : Hl} (h : okH x = true) : okP x.d = true := by unfold okH at h; simp only [Bool.and_eq_true] at h; exact h.1.1
theorem okH_e {x : Hl} (h : okH x = true) : 0 ≤ x.t ∧ x.t ≤ mxN := by unfold okH okE at h; simp only [Bool.and_eq_true, decide_eq_true_eq] at h; exact h.1.2
theorem okH_of {p : Bs} {e a : Int} (h1 : okP p = true) (h2 : 0 ≤ e ∧ e ≤ mxN) (h3 : 1 ≤ a ∧ a ≤ 3) : okH ⟨p, e, a⟩ = true := by unfold okH okE okA; simp [h1, h2, h3]
theorem Pm.RtH.szs {l : List Hl} (h : RtH l) : Szs l := ⟨by have := h.len; omega, fun x hx => by have := okP_len (okH_p (h.ok x hx)); omega⟩
theorem in_self {p : Bs} (h : okP p = true) : inB p p = true := by
  obtain ⟨a, ha⟩ := Option.isSome_iff_exists.1 h; exact in_refl ha
theorem frz_some {l m : List Hl} {p : Bs} (h : frz l p = some m) : ∃ y, pick l p = some y ∧ y.a = 1 ∧ m = putH l ⟨p, y.t, 2⟩ ∧ ((getH l p).isSome = true ∨ l.length < 32) := by
  unfold frz at h
  cases hp : pick l p with
  | none => rw [hp] at h; cases h
  | some y =>
    rw [hp] at h
    simp only at h
    split at h
    · exact ⟨y, rfl, by assumption, withR_some h⟩
    · cases h
theorem inst_some {l m : List Hl} {p : Bs} {e : Int} (h : inst l p e = some m) : RtH l ∧ okP p = true ∧ (0 ≤ e ∧ e ≤ mxN) ∧ mayI l p e = true ∧ m = putH l ⟨p, e, 1⟩ ∧ ((getH l p).isSome = true ∨ l.length < 32) := by
  unfold inst at h
  split at h
  · rename_i hc
    have := withR_some h
    exact ⟨(right_iff l).1 hc.1, hc.2.1, of_decide_eq_true hc.2.2.1, hc.2.2.2, this.1, this.2⟩
  · cases h
theorem inst_yes {l : List Hl} {p : Bs} {e : Int} (h : RtH l) (hp : okP p = true) (he : 0 ≤ e ∧ e ≤ mxN) (hm : mayI l p e = true) (hr : (getH l p).isSome = true ∨ l.length < 32) : inst l p e = some (putH l ⟨p, e, 1⟩) := by
  unfold inst withR
  rw [if_pos ⟨(right_iff l).2 h, hp, decide_eq_true he, hm⟩, if_pos hr]
/-- Ranges with one that was put. -/
structure Put (l : List Hl) (x : Hl) : Prop where
  rt : RtH (putH l x)
  pk : pick (putH l x) x.d = some x
  gt : getH (putH l x) x.d = some x
theorem put_of {l : List Hl} {x : Hl} (h : RtH l) (hx : okH x = true) (hr : (getH l x.d).isSome = true ∨ l.length < 32) : Put l x :=
  ⟨right_put h hx hr, pick_own h (right_put h hx hr) (in_self (okH_p hx)), get_put h.up x⟩
theorem Put.st {l : List Hl} {x : Hl} (h : Put l x) : stR (putH l x) x.d = x.a := by unfold stR; rw [h.pk]
theorem pick_of {l : List Hl} {p : Bs} {x : Hl} (h : pick l p = some x) : ∃ k, ∃ hk : k < l.length, ofR l p = some k ∧ l[k] = x := by
  cases e : ofR l p with
  | none => rw [pick_none e] at h; cases h
  | some k => rw [pick_at e] at h; injection h with h; exact ⟨k, ofR_lt e, rfl, h⟩

/-- What a Freeze leaves. -/
structure EpF (m : List Hl) (p : Bs) (own : Int) : Prop where
  rt : RtH m
  pos : ∃ k, ∃ hk : k < m.length, ofR m p = some k ∧ m[k] = ⟨p, own, 2⟩
  no : frz m p = none
  out : drp m p own = some (putH m ⟨p, own, 3⟩)
  wrong : drp m p (own + 1) = none
  bd : 0 ≤ own ∧ own ≤ mxN
  gone : RtH (putH m ⟨p, own, 3⟩) ∧ stR (putH m ⟨p, own, 3⟩) p = 3
  yes : ∀ ep, own < ep → ep ≤ mxN → inst m p ep = some (putH m ⟨p, ep, 1⟩) ∧ RtH (putH m ⟨p, ep, 1⟩) ∧ stR (putH m ⟨p, ep, 1⟩) p = 1
  not : ∀ ep, ¬ (own < ep ∧ ep ≤ mxN) → inst m p ep = none
theorem freeze_put {l m : List Hl} {p : Bs} (h : frz l p = some m) : ∃ own, m = putH l ⟨p, own, 2⟩ ∧ Put l ⟨p, own, 2⟩ ∧ okP p = true ∧ (0 ≤ own ∧ own ≤ mxN) ∧ RtH l ∧ stR l p = 1 ∧ (∃ y, pick l p = some y ∧ y.t = own) := by
  obtain ⟨y, hy, ha, hm, hr⟩ := frz_some h
  obtain ⟨hl, hyl, hin⟩ := pick_ok hy
  have hp : okP p = true := by obtain ⟨a, b, h1, _⟩ := in_some hin; unfold okP; rw [h1]; rfl
  have hb := okH_e (hl.ok y hyl)
  exact ⟨y.t, hm, put_of hl (okH_of hp hb (by omega)) hr, hp, hb, hl, by unfold stR; rw [hy]; exact ha, y, hy, rfl⟩
theorem ep_facts {l m : List Hl} {p : Bs} (h : frz l p = some m) : ∃ own, EpF m p own := by
  obtain ⟨own, hm, hP, hp, hb, hl, _, _⟩ := freeze_put h
  have h1 := hP.rt; have h2 := hP.pk; have h3 := hP.gt
  rw [← hm] at h1 h2 h3
  simp only at h2 h3
  have hx : (⟨p, own, 2⟩ : Hl) ∈ m := (getH_some h3).1
  have hs : (getH m p).isSome = true := by rw [h3]; rfl
  have P3 : Put m ⟨p, own, 3⟩ := put_of h1 (okH_of hp hb (by omega)) (.inl hs)
  refine ⟨own, h1, pick_of h2, ?_, ?_, ?_, hb, ⟨P3.rt, P3.st⟩, fun ep h4 h5 => ?_, fun ep hn => ?_⟩
  · unfold frz; rw [h2]; simp
  · unfold drp withR; rw [if_pos ⟨(right_iff m).2 h1, hx⟩, if_pos (.inl hs)]
  · unfold drp; rw [if_neg]
    rintro ⟨_, h⟩
    have := getH_mem h1.up h
    simp only at this
    rw [h3] at this
    injection this with this
    injection this with _ this _
    omega
  · have hy := inst_yes h1 hp (e := ep) ⟨by omega, h5⟩ (by unfold mayI; rw [h3]; simpa using h4) (.inl hs)
    have P1 : Put m ⟨p, ep, 1⟩ := put_of h1 (okH_of hp ⟨by omega, h5⟩ (by omega)) (.inl hs)
    exact ⟨hy, P1.rt, P1.st⟩
  · cases e : inst m p ep with
    | none => rfl
    | some b =>
      have hi := inst_some e
      have := hi.2.2.2.1
      unfold mayI at this
      rw [h3] at this
      simp only [decide_eq_true_eq] at this
      exact absurd ⟨this, hi.2.2.1.2⟩ hn
end Go.Proofs.Ytcjpgenlhphapaa
