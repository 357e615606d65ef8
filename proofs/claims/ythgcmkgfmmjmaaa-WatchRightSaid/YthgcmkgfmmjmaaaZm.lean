/- Plain: a step; one session's watches don't hang on another's. -/
import Derived.Test.YthgcmkgfmmjmaaaZj
import Derived.Test.YthgcmkgfmmjmaaaZl
namespace Go.Proofs.Ythgcmkgfmmjmaaa
set_option maxRecDepth 20000
set_option linter.unusedVariables false
set_option linter.unusedSimpArgs false
open Pm

def stepP (d : Wd) (o : O9) : Wd × Int :=
  if o.what = 0 then addM d o.x else if o.what = 1 then closeM d o.x.s o.x.n else if o.what = 4 then ((takeM d o.x.s o.n).1, (takeM d o.x.s o.n).2.2) else tellM d o.kind o.p
def stepM (d : Wd) (o : O9) : Wd := if (stepP d o).2 = 0 then (stepP d o).1 else d
theorem stepP_right (d : Wd) (o : O9) (h : rightW d = true) : rightW (stepP d o).1 = true := by
  unfold stepP
  split
  · exact add_right d _ h
  · split
    · exact close_right d _ _ h
    · split
      · exact take_right d _ _ h
      · exact tell_right d _ _ h
theorem stepM_right (d : Wd) (o : O9) (h : rightW d = true) : rightW (stepM d o) = true := by
  unfold stepM
  split
  · exact stepP_right d o h
  · exact h
theorem stepM_len (d : Wd) (o : O9) (h : rightW d = true) : (stepM d o).ws.length ≤ d.ws.length + 1 ∧ (stepM d o).ss.length ≤ d.ss.length + 64 := by
  have h64 := ((right_iff d).1 h).1
  unfold stepM
  split
  · unfold stepP
    split
    · unfold addM
      split
      · split
        · exact ⟨by simp only; omega, by simp only; omega⟩
        · split
          · exact ⟨by simp only; omega, by simp only; omega⟩
          · exact ⟨by simp, by have := putS_len d.ss (seS d.ss o.x.s); simp only; omega⟩
      · simp
    · split
      · unfold closeM
        split
        · split
          · exact ⟨by have := List.length_filter_le (fun x => !hit o.x.s o.x.n x) d.ws; simp only; omega, by simp only; omega⟩
          · exact ⟨by simp only; omega, by simp only; omega⟩
        · exact absurd h (by assumption)
      · split
        · unfold takeM
          split
          · split
            · exact ⟨by simp only; omega, by simp only; omega⟩
            · rename_i s _
              exact ⟨by simp only; omega, by have := putS_len d.ss ⟨s.num, s.count, cutE o.n s.evs⟩; simp only; omega⟩
          · exact absurd h (by assumption)
        · refine ⟨?_, tell_ss d o.kind o.p h64⟩
          unfold tellM
          split
          · have := (tell_sub o.kind o.p d.ws d.ss d.ws.length (Nat.le_refl _)).length_le
            rw [List.take_length] at this
            simp only; omega
          · simp
  · exact ⟨by omega, by omega⟩

def one (x : Wt) : Bool := decide (x.s = 1)
structure Ap (a b : Wd) : Prop where
  ra : rightW a = true
  rb : rightW b = true
  ws : a.ws = b.ws.filter one
  se : seS a.ss 1 = seS b.ss 1
  is : (getS a.ss 1).isSome = (getS b.ss 1).isSome
structure Ats (a b : List Wt × List Se) : Prop where
  ws : a.1 = b.1.filter one
  se : seS a.2 1 = seS b.2 1
  is : (getS a.2 1).isSome = (getS b.2 1).isSome
  h1 : Asc a.2
  h2 : Asc b.2
theorem at_put {w v : List Wt} {ss tt : List Se} (hw : w = v.filter one) (h1 : Asc ss) (h2 : Asc tt) {s : Se} (hs : s.num = 1) : Ats (w, putS ss s) (v, putS tt s) := by
  refine ⟨hw, ?_, ?_, putS_asc h1 _, putS_asc h2 _⟩
  · simp only; rw [seS_put h1, seS_put h2, if_pos hs.symm, if_pos hs.symm]
  · simp only; rw [getS_put h1, getS_put h2, if_pos hs.symm, if_pos hs.symm]
theorem at_off {a b : List Wt × List Se} (h : Ats a b) {v : List Wt} (hv : b.1.filter one = v.filter one) {s : Se} (hs : s.num ≠ 1) : Ats a (v, putS b.2 s) := by
  refine ⟨h.ws.trans hv, ?_, ?_, h.h1, putS_asc h.h2 _⟩
  · simp only; rw [seS_put h.h2, if_neg (fun e => hs e.symm), h.se]
  · simp only; rw [getS_put h.h2, if_neg (fun e => hs e.symm), h.is]
theorem at_tst (kd : Int) (p : Bs) {a b : List Wt × List Se} (h : Ats a b) {x : Wt} (hx : x.s = 1) : Ats (tst kd p a x) (tst kd p b x) := by
  have ho1 : one x = true := decide_eq_true hx
  unfold tst
  by_cases ho : ofCh p x = true
  · rw [if_pos ho, if_pos ho, hx, h.se]
    refine at_put ?_ h.h1 h.h2 (by rw [ntf_num, seS_num])
    split
    · rw [List.filter_append, h.ws]; simp [ho1]
    · exact h.ws
  · rw [if_neg ho, if_neg ho]
    exact ⟨by simp only; rw [List.filter_append, h.ws]; simp [ho1], h.se, h.is, h.h1, h.h2⟩
theorem at_skip (kd : Int) (p : Bs) {a b : List Wt × List Se} (h : Ats a b) {x : Wt} (hx : x.s ≠ 1) : Ats a (tst kd p b x) := by
  have ho1 : one x = false := decide_eq_false hx
  unfold tst
  by_cases ho : ofCh p x = true
  · rw [if_pos ho]
    refine at_off h ?_ (by rw [ntf_num, seS_num]; exact hx)
    split
    · rw [List.filter_append]; simp [ho1]
    · rfl
  · rw [if_neg ho]
    exact ⟨by simp only; rw [List.filter_append, h.ws]; simp [ho1], h.se, h.is, h.h1, h.h2⟩
theorem at_fold (kd : Int) (p : Bs) (l : List Wt) : ∀ {a b : List Wt × List Se}, Ats a b → Ats ((l.filter one).foldl (tst kd p) a) (l.foldl (tst kd p) b) := by
  induction l with
  | nil => exact fun h => h
  | cons x r ih =>
    intro a b h
    by_cases hx : x.s = 1
    · rw [List.filter_cons_of_pos (show one x = true from decide_eq_true hx)]
      exact ih (at_tst kd p h hx)
    · rw [List.filter_cons_of_neg (by rw [show one x = false from decide_eq_false hx]; decide)]
      exact ih (at_skip kd p h hx)
theorem any_one (l : List Wt) (n : Int) : (l.filter one).any (hit 1 n) = l.any (hit 1 n) := by
  induction l with
  | nil => rfl
  | cons x r ih =>
    by_cases hx : x.s = 1
    · rw [List.filter_cons_of_pos (show one x = true from decide_eq_true hx), List.any_cons, List.any_cons, ih]
    · rw [List.filter_cons_of_neg (by rw [show one x = false from decide_eq_false hx]; decide), ih, List.any_cons]
      rw [show hit 1 n x = false from by simp [hit, hx]]; rfl
theorem getS_seS {ss : List Se} {n : Int} (h : (getS ss n).isSome = true) : getS ss n = some (seS ss n) := by
  obtain ⟨s, hs⟩ := Option.isSome_iff_exists.1 h
  rw [hs, seS_of hs]
theorem Ap.asc {a b : Wd} (h : Ap a b) : Asc a.ss ∧ Asc b.ss := ⟨((right_iff a).1 h.ra).2.2.2, ((right_iff b).1 h.rb).2.2.2⟩
theorem Ap.of {a b : Wd} (ra : rightW a = true) (rb : rightW b = true) (h : Ats (a.ws, a.ss) (b.ws, b.ss)) : Ap a b := ⟨ra, rb, h.ws, h.se, h.is⟩
theorem Ap.at {a b : Wd} (h : Ap a b) : Ats (a.ws, a.ss) (b.ws, b.ss) := ⟨h.ws, h.se, h.is, h.asc.1, h.asc.2⟩
theorem ap_both {a b : Wd} (h : Ap a b) {o : O9} (ho : o.x.s = 1) (ha : a.ws.length ≠ 64) (hb : b.ws.length ≠ 64) : (stepP a o).2 = (stepP b o).2 ∧ ((stepP a o).2 = 0 → Ats ((stepP a o).1.ws, (stepP a o).1.ss) ((stepP b o).1.ws, (stepP b o).1.ss)) := by
  obtain ⟨h1, h2⟩ := h.asc
  unfold stepP
  by_cases w0 : o.what = 0
  · rw [if_pos w0, if_pos w0]
    unfold addM
    rw [h.ra, h.rb, ho]
    by_cases hx : rWt o.x = true
    · have hc : (true = true ∧ rWt o.x = true) := ⟨rfl, hx⟩
      rw [if_pos hc, if_pos hc]
      have han : a.ws.any (hit 1 o.x.n) = b.ws.any (hit 1 o.x.n) := by rw [h.ws, any_one]
      rw [han]
      by_cases hh : b.ws.any (hit 1 o.x.n) = true
      · rw [if_pos hh, if_pos hh]; exact ⟨rfl, fun h => by cases h⟩
      · rw [if_neg hh, if_neg hh, if_neg ha, if_neg hb, h.se]
        exact ⟨rfl, fun _ => at_put (by rw [List.filter_append, h.ws]; simp [one, ho]) h1 h2 (seS_num _ _)⟩
    · rw [if_neg (fun k => hx k.2), if_neg (fun k => hx k.2)]
      exact ⟨rfl, fun h => by cases h⟩
  · rw [if_neg w0, if_neg w0]
    by_cases w1 : o.what = 1
    · rw [if_pos w1, if_pos w1]
      unfold closeM
      rw [h.ra, h.rb, ho, if_pos rfl, if_pos rfl]
      by_cases hh : b.ws.any (hit 1 o.x.n) = true
      · rw [if_pos hh, if_pos (by rw [h.ws, any_one]; exact hh)]
        refine ⟨rfl, fun _ => ⟨?_, h.se, h.is, h1, h2⟩⟩
        simp only
        rw [h.ws, List.filter_filter, List.filter_filter]
        congr 1
        funext y
        exact Bool.and_comm _ _
      · rw [if_neg hh, if_neg (by rw [h.ws, any_one]; exact hh)]
        exact ⟨rfl, fun h => by cases h⟩
    · rw [if_neg w1, if_neg w1]
      by_cases w4 : o.what = 4
      · rw [if_pos w4, if_pos w4, ho]
        cases hg : (getS a.ss 1).isSome with
        | true =>
          have g1 := getS_seS hg
          have g2 := getS_seS (h.is ▸ hg)
          rw [take_some h.ra g1, take_some h.rb g2, h.se]
          exact ⟨rfl, fun _ => at_put h.ws h1 h2 (seS_num _ _)⟩
        | false =>
          have g1 : getS a.ss 1 = none := Option.isNone_iff_eq_none.1 (by rw [← Option.not_isSome, hg]; rfl)
          have g2 : getS b.ss 1 = none := Option.isNone_iff_eq_none.1 (by rw [← Option.not_isSome, ← h.is, hg]; rfl)
          rw [take_none h.ra g1, take_none h.rb g2]
          exact ⟨rfl, fun h => by cases h⟩
      · rw [if_neg w4, if_neg w4]
        unfold tellM
        rw [h.ra, h.rb]
        by_cases hc : (1 ≤ o.kind ∧ o.kind ≤ 3) ∧ (split o.p).isSome = true
        · have hcc : (true = true ∧ (1 ≤ o.kind ∧ o.kind ≤ 3) ∧ (split o.p).isSome = true) := ⟨rfl, hc⟩
          rw [if_pos hcc, if_pos hcc]
          refine ⟨rfl, fun _ => ?_⟩
          have := at_fold o.kind o.p b.ws (a := ([], a.ss)) (b := ([], b.ss)) ⟨rfl, h.se, h.is, h1, h2⟩
          rw [← h.ws] at this
          exact this
        · rw [if_neg (fun k => hc k.2), if_neg (fun k => hc k.2)]
          exact ⟨rfl, fun h => by cases h⟩
theorem ap_one {a b : Wd} (h : Ap a b) {o : O9} (ho : o.x.s = 1) (ha : a.ws.length ≠ 64) (hb : b.ws.length ≠ 64) : Ap (stepM a o) (stepM b o) := by
  obtain ⟨e, k⟩ := ap_both h ho ha hb
  unfold stepM
  rw [← e]
  by_cases h0 : (stepP a o).2 = 0
  · rw [if_pos h0, if_pos h0]
    exact Ap.of (stepP_right a o h.ra) (stepP_right b o h.rb) (k h0)
  · rw [if_neg h0, if_neg h0]; exact h
theorem ap_two {a b : Wd} (h : Ap a b) {o : O9} (ho : o.x.s = 2) (hw : o.what = 0 ∨ o.what = 1 ∨ o.what = 4) : Ap a (stepM b o) := by
  have hr := stepM_right b o h.rb
  unfold stepM at hr ⊢
  split at hr
  · rename_i h0
    rw [if_pos h0]
    refine Ap.of h.ra hr ?_
    unfold stepP at h0 ⊢
    by_cases w0 : o.what = 0
    · rw [if_pos w0] at h0 ⊢
      obtain ⟨k1, k2, k3, k4⟩ := add_ok h0
      rw [add_eq k1 k2 k3 k4]
      exact at_off h.at (by rw [List.filter_append]; simp [one, ho]) (by rw [seS_num, ho]; decide)
    · rw [if_neg w0] at h0 ⊢
      by_cases w1 : o.what = 1
      · rw [if_pos w1] at h0 ⊢
        unfold closeM at h0 ⊢
        rw [if_pos h.rb] at h0 ⊢
        split at h0
        · rename_i hh
          rw [if_pos hh]
          refine ⟨?_, h.se, h.is, h.asc.1, h.asc.2⟩
          simp only
          rw [h.ws, List.filter_filter]
          refine List.filter_congr fun y hy => ?_
          by_cases hy1 : y.s = 1
          · have : hit o.x.s o.x.n y = false := by simp [hit, hy1, ho]
            rw [this]; simp
          · simp [one, hy1]
        · cases h0
      · rw [if_neg w1] at h0 ⊢
        have w4 : o.what = 4 := by omega
        rw [if_pos w4] at h0 ⊢
        rw [ho] at h0 ⊢
        cases hg : getS b.ss 2 with
        | none => rw [take_none h.rb hg] at h0; cases h0
        | some s =>
          rw [take_some h.rb hg]
          exact at_off h.at rfl (by rw [(getS_some hg).2]; decide)
  · rename_i h0
    rw [if_neg h0]; exact h
theorem ap_end {a b : Wd} (h : Ap a b) : (takeM a 1 0).2 = (takeM b 1 0).2 := by
  cases hg : (getS a.ss 1).isSome with
  | true =>
    have g1 := getS_seS hg
    have g2 := getS_seS (h.is ▸ hg)
    rw [take_some h.ra g1, take_some h.rb g2, h.se]
  | false =>
    have g1 : getS a.ss 1 = none := Option.isNone_iff_eq_none.1 (by rw [← Option.not_isSome, hg]; rfl)
    have g2 : getS b.ss 1 = none := Option.isNone_iff_eq_none.1 (by rw [← Option.not_isSome, ← h.is, hg]; rfl)
    rw [take_none h.ra g1, take_none h.rb g2]
theorem ap_nil : Ap ⟨[], []⟩ ⟨[], []⟩ := ⟨nil_right, nil_right, rfl, rfl, rfl⟩
theorem take_len {d : Wd} (h : rightW d = true) (q : Int) : (takeM d q 0).2.1.length ≤ 8 := by
  unfold takeM
  rw [if_pos h]
  split
  · simp
  · rename_i s hs
    have := ((rSe_iff s).1 (((right_iff d).1 h).2.2.1 s (getS_some hs).1)).2.1.2.2.1
    have h2 := List.length_filter_le (fun e : Ev => decide (0 < e.num)) s.evs
    unfold cutE
    simp only; omega
end Go.Proofs.Ythgcmkgfmmjmaaa
