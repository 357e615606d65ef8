/- WatchCloses (gen_zj.py) -/
import Derived.Test.YthgcmkgfmmjmaaaZi
namespace Go.Proofs.Ythgcmkgfmmjmaaa
set_option maxRecDepth 20000
set_option linter.unusedVariables false
set_option linter.unusedSimpArgs false
open Go.RowKit Pm


def Asc (ss : List Se) : Prop := ss.Pairwise (fun a b => a.num < b.num)
structure Sim (k : Int) (a b : List Wt × List Se) : Prop where
  ws : a.1 = b.1
  se : ∀ q, seS a.2 q = seS b.2 q
  h1 : Asc a.2
  h2 : Asc b.2
  is : (getS a.2 k).isSome = true
theorem Sim.tst {k : Int} {a b : List Wt × List Se} (h : Sim k a b) (kd : Int) (p : Bs) (x : Wt) : Sim k (tst kd p a x) (tst kd p b x) := by
  unfold Go.Proofs.Ythgcmkgfmmjmaaa.tst
  by_cases ho : ofCh p x = true
  · rw [if_pos ho, if_pos ho, h.se]
    refine ⟨by simp only [h.ws], fun q => ?_, putS_asc h.h1 _, putS_asc h.h2 _, ?_⟩
    · simp only
      rw [seS_put h.h1, seS_put h.h2, h.se]
    · simp only
      rw [getS_put h.h1]
      split
      · rfl
      · exact h.is
  · rw [if_neg ho, if_neg ho]
    exact ⟨by simp only [h.ws], h.se, h.h1, h.h2, h.is⟩
theorem Sim.fold {k : Int} (kd : Int) (p : Bs) (ws : List Wt) : ∀ {a b : List Wt × List Se}, Sim k a b → Sim k (ws.foldl (Go.Proofs.Ythgcmkgfmmjmaaa.tst kd p) a) (ws.foldl (Go.Proofs.Ythgcmkgfmmjmaaa.tst kd p) b) := by
  induction ws with
  | nil => exact fun h => h
  | cons x r ih => exact fun h => ih (h.tst kd p x)
theorem sim_put {ss : List Se} (h : Asc ss) (k : Int) : Sim k ([], putS ss (seS ss k)) ([], ss) := by
  refine ⟨rfl, fun q => ?_, putS_asc h _, h, ?_⟩
  · simp only
    rw [seS_put h, seS_num]
    split
    · rename_i e; rw [e]
    · rfl
  · simp only
    rw [getS_put h, if_pos (seS_num ss k).symm]; rfl
theorem add_ok {d : Wd} {x : Wt} (h : (addM d x).2 = 0) : rightW d = true ∧ rWt x = true ∧ d.ws.any (hit x.s x.n) = false ∧ d.ws.length ≠ 64 := by
  unfold addM at h
  split at h
  · rename_i h1
    split at h
    · cases h
    · rename_i h2
      split at h
      · cases h
      · rename_i h3
        exact ⟨h1.1, h1.2, by simpa using h2, h3⟩
  · cases h
theorem add_eq {d : Wd} {x : Wt} (hr : rightW d = true) (hx : rWt x = true) (hh : d.ws.any (hit x.s x.n) = false) (hl : d.ws.length ≠ 64) : addM d x = (⟨d.ws ++ [x], putS d.ss (seS d.ss x.s)⟩, 0) := by
  unfold addM
  rw [if_pos ⟨hr, hx⟩, if_neg (by rw [hh]; decide), if_neg hl]
theorem tell_kind (d : Wd) (kd : Int) (p : Bs) : (tellM d kd p).2 = 0 ∨ (tellM d kd p).2 = 1 := by
  unfold tellM
  split
  · exact .inl rfl
  · exact .inr rfl
structure ClP (d : Wd) (x : Wt) (kd : Int) (p : Bs) (dA dB : Wd) : Prop where
  a : addM d x = (dA, 0)
  c : closeM dA x.s x.n = (dB, 0)
  t : (tellM dB kd p).2 = (tellM d kd p).2
  ta : (takeM dA x.s 0).2 = ((seS d.ss x.s).evs, 0)
  tb : (takeM dB x.s 0).2 = ((seS d.ss x.s).evs, 0)
  ag : (addM dB x).2 = 0
  ra : rightW dA = true
  rb : rightW dB = true
  la : dA.ss.length ≤ d.ss.length + 1
  lb : dB.ss.length ≤ d.ss.length + 1
  lc : (tellM dB kd p).1.ss.length ≤ d.ss.length + 65
  ld : (tellM d kd p).1.ss.length ≤ d.ss.length + 65
  le : (seS d.ss x.s).evs.length ≤ 8
  s : (tellM d kd p).2 = 0 → seS (tellM dB kd p).1.ss x.s = seS (tellM d kd p).1.ss x.s ∧ (getS (tellM dB kd p).1.ss x.s).isSome = true
  l8 : (tellM d kd p).2 = 0 → (seS (tellM d kd p).1.ss x.s).evs.length ≤ 8
theorem tell_ss (d : Wd) (kd : Int) (p : Bs) (hw : d.ws.length ≤ 64) : (tellM d kd p).1.ss.length ≤ d.ss.length + 64 := by
  unfold tellM
  split
  · have := tell_len kd p d.ws d.ss d.ws.length (Nat.le_refl _)
    rw [List.take_length] at this
    simp only; omega
  · simp
theorem se8 {d : Wd} (hr : rightW d = true) {k : Int} (hk : isN k = true) : (seS d.ss k).evs.length ≤ 8 := ((rSe_iff _).1 (seS_right ((right_iff d).1 hr).2.2 hk)).2.1.2.2.1
theorem closes {d : Wd} {x : Wt} (kd : Int) (p : Bs) (he : (addM d x).2 = 0) : ClP d x kd p ⟨d.ws ++ [x], putS d.ss (seS d.ss x.s)⟩ ⟨d.ws, putS d.ss (seS d.ss x.s)⟩ := by
  obtain ⟨hr, hx, hh, hl⟩ := add_ok he
  have ha := add_eq hr hx hh hl
  have hra := add_right d x hr
  rw [ha] at hra
  obtain ⟨hl64, hrw, hrs⟩ := (right_iff d).1 hr
  have hsx := (rWt_iff x).1 hx
  have hse := seS_right hrs hsx.1
  have hrb : rightW ⟨d.ws, putS d.ss (seS d.ss x.s)⟩ = true := (right_iff _).2 ⟨hl64, hrw, putS_rs hrs hse⟩
  have hnum := seS_num d.ss x.s
  have hg : getS (putS d.ss (seS d.ss x.s)) x.s = some (seS d.ss x.s) := by rw [getS_put hrs.2, if_pos hnum.symm]
  have hc0 := cut0 hse 0
  rw [List.drop_zero] at hc0
  have hany : (d.ws ++ [x]).any (hit x.s x.n) = true := by simp [hit]
  have hfil : (d.ws ++ [x]).filter (fun y => !hit x.s x.n y) = d.ws := by
    rw [List.filter_append, List.filter_eq_self.2 (fun y hy => by have := List.any_eq_false.1 hh y hy; simpa using this)]
    simp [hit]
  have hpl := putS_len d.ss (seS d.ss x.s)
  refine ⟨ha, ?_, ?_, ?_, ?_, ?_, hra, hrb, hpl, hpl, ?_, ?_, se8 hr hsx.1, ?_, ?_⟩
  · unfold closeM
    rw [if_pos hra, if_pos hany, hfil]
  · unfold tellM
    rw [hr, hrb]
    split <;> rfl
  · rw [take_some hra hg]; simp only; rw [hc0]
  · rw [take_some hrb hg]; simp only; rw [hc0]
  · rw [add_eq hrb hx hh hl]
  · have := tell_ss ⟨d.ws, putS d.ss (seS d.ss x.s)⟩ kd p hl64
    simp only at this; omega
  · have := tell_ss d kd p hl64; omega
  · intro h
    have hcond : (1 ≤ kd ∧ kd ≤ 3) ∧ (split p).isSome = true := by
      unfold tellM at h
      split at h
      · rename_i h1; exact h1.2
      · cases h
    have hs := (sim_put hrs.2 x.s).fold kd p d.ws
    unfold tellM
    rw [if_pos ⟨hrb, hcond⟩, if_pos ⟨hr, hcond⟩]
    exact ⟨hs.se x.s, hs.is⟩
  · intro h
    exact se8 (tell_right d kd p hr) hsx.1
end Go.Proofs.Ythgcmkgfmmjmaaa
