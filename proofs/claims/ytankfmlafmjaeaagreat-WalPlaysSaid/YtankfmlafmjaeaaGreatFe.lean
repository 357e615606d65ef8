/- front: the record that the rest of an area begins with. -/
import Derived.Test.YtankfmlafmjaeaaGreatFd
namespace Go.Proofs.YtankfmlafmjaeaaGreat
set_option maxRecDepth 20000
open Go.RowKit Pm

/-- What front answers: a part of what it was given. -/
structure FrR (w w' : World) (c : Bs) (i : Nat) (u : Value) (ok : Bool) : Prop where
  fp : Fp Non w w'
  res : (front c i = none ∧ ok = false ∧ u = .slice none 0 0) ∨ ∃ b, front c i = some b ∧ ok = true ∧ Sl w' u b

attribute [local irreducible] wpStill

set_option maxHeartbeats 4000000 in
theorem front_c (v : Value) (c : Bs) (i : Nat) (w : World) (hv : Sl w v c) (hc : c.length ≤ 100000) (hi : i ≤ 65535) :
    Calls Tryz.prog 56 #[v, .int .i64 (i : Int)] w fun e w' => ∃ u ok, e = .returned (.tuple #[u, .bool ok]) ∧ FrR w w' c i u ok := by
  by_cases h16 : c.length < 16
  · obtain ⟨ao, cap, rfl, _, _, _⟩ := hv.ex
    have hf : front c i = none := by unfold front; rw [if_pos h16]
    have q1 : ((c.length : Int) < 16) = True := eq_true (by omega)
    have HF := Lib.hid hf
    clear hv h16 hf
    go_enter Tryz.func56, Tryz.ntmps56
    go_wp2
    go_ret2
    exact ⟨_, _, rfl, Fp.refl _ _, .inl ⟨HF.out, rfl, rfl⟩⟩
  · obtain ⟨g, o, cap, rfl, h1, h2, hg⟩ := hv.at (by omega)
    have hhd := hv.upto 16 (by omega)
    have hcap16 : ∃ (tp : Addr) (b1 : Bool), (if cap = 16 then some (⟨g, o, none⟩ : Addr) else some ⟨g, o + 16, none⟩) = some ⟨tp.block, tp.off, none⟩ ∧ decide (cap = 16) = b1 := by
      by_cases h : cap = 16
      · exact ⟨⟨g, o, none⟩, true, by rw [if_pos h], decide_eq_true h⟩
      · exact ⟨⟨g, o + 16, none⟩, false, by rw [if_neg h], decide_eq_false h⟩
    have htl := hv.from 16 (by omega)
    obtain ⟨⟨tb, to, tx⟩, b1, htp, hb1⟩ := hcap16
    simp only at htp
    rw [htp] at htl
    obtain ⟨n, hn⟩ : ∃ n, n = cnt (c.take 16) := ⟨_, rfl⟩
    have hcnt : ∀ q, Calls Tryz.prog 69 #[.slice (some ⟨g, o, none⟩) 16 cap] (w.drewN q) fun e w' => e = .returned (.int .i64 (n : Int)) ∧ w' = w.drewN q := fun q => by
      have := count_c _ (c.take 16) (w.drewN q) (hhd.keep ((Fp.refl Non w).drewN q) (fun _ _ h => h)) (by simp; omega)
      rwa [← hn] at this
    have q1 : ((c.length : Int) < 16) = False := eq_false (by omega)
    have q2 : ((16 : Int) ≤ (cap : Int)) = True := eq_true (by omega)
    have q3 : (16 ≤ cap) = True := eq_true (by omega)
    have q4 : ((16 : Int) ≤ (c.length : Int)) = True := eq_true (by omega)
    have q5 : (16 ≤ c.length) = True := eq_true (by omega)
    have hdl : (c.drop 16).length = c.length - 16 := List.length_drop ..
    obtain ⟨m, hm⟩ : ∃ m, m = c.length - 16 := ⟨_, rfl⟩
    rw [← hm] at htl hdl
    have hmb : m ≤ 100000 := by omega
    have hcap : cap ≤ 9223372036854775807 := by unfold maxLen at h2; omega
    have hmc : m ≤ cap - 16 := by omega
    have hfr : front c i = if 16384 < n ∨ m < n ∨ c.take 16 ≠ hdr i ((c.drop 16).take n) then none else some ((c.drop 16).take n) := by
      unfold front; rw [if_neg h16, ← hn, ← hm]
    have HC := Lib.hid hcnt
    have HT := Lib.hid htl
    have HH := Lib.hid hhd
    have HX := Lib.hid (And.intro hv (And.intro h16 (And.intro hn (And.intro hm hdl))))
    have HF := Lib.hid hfr
    have HB := Lib.hid hb1
    clear hv h16 hhd htl hcnt h1 h2 hg hn hdl hfr hb1
    by_cases hbig : 16384 < n
    · have r1 : ((16384 : Int) < (n : Int)) = True := eq_true (by omega)
      have hres : front c i = none := by rw [HF.out, if_pos (.inl hbig)]
      have HR := Lib.hid hres
      have HG := Lib.hid hbig
      clear hres hbig hm
      go_enter Tryz.func56, Tryz.ntmps56
      go_wp2_with fail
      go_quiet (fail)
      go_wp2_with fail
      refine (HC.out _).mono ?_
      rintro e w1 ⟨rfl, rfl⟩
      go_wp2
      all_goals (go_ret2; exact ⟨_, _, rfl, (Fp.refl Non w).drewN _, .inl ⟨HR.out, rfl, rfl⟩⟩)
    · have r1 : ((16384 : Int) < (n : Int)) = False := eq_false (by omega)
      have hnb : n ≤ 16384 := by omega
      by_cases hmn : m < n
      · have r2 : (((c.length - 16 : Nat) : Int) < (n : Int)) = True := eq_true (by omega)
        have hres : front c i = none := by rw [HF.out, if_pos (.inr (.inl hmn))]
        have HR := Lib.hid hres
        have HG := Lib.hid (And.intro hbig hmn)
        clear hres hbig hmn hm hmc
        go_enter Tryz.func56, Tryz.ntmps56
        go_wp2_with fail
        go_quiet (fail)
        go_wp2_with fail
        refine (HC.out _).mono ?_
        rintro e w1 ⟨rfl, rfl⟩
        go_wp2
        all_goals (go_ret2; exact ⟨_, _, rfl, (Fp.refl Non w).drewN _, .inl ⟨HR.out, rfl, rfl⟩⟩)
      · have r2 : (((c.length - 16 : Nat) : Int) < (n : Int)) = False := eq_false (by omega)
        have r3 : ((n : Int) ≤ ((cap - 16 : Nat) : Int)) = True := eq_true (by omega)
        have r4 : (n ≤ cap - 16) = True := eq_true (by omega)
        have hbd := HT.out.upto n (by rw [HX.out.2.2.2.2]; omega)
        have hhc : ∀ q, Calls Tryz.prog 48 #[.int .i64 (i : Int), .slice (some ⟨tb, to, none⟩) n (cap - 16)] (w.drewN q) fun e w' => ∃ u, e = .returned u ∧ Nw (w.drewN q) w' u (hdr i ((c.drop 16).take n)) := fun q =>
          header_c i _ _ _ (hbd.keep ((Fp.refl Non w).drewN q) (fun _ _ h => h)) (by simp; omega) hi
        have HD := Lib.hid hhc
        have HY := Lib.hid hbd
        have HG := Lib.hid (And.intro hbig (And.intro hmn hm))
        clear hhc hbd hbig hmn hm hmc
        go_enter Tryz.func56, Tryz.ntmps56
        go_wp2_with fail
        go_quiet (fail)
        go_wp2_with fail
        refine (HC.out _).mono ?_
        rintro e w1 ⟨rfl, rfl⟩
        go_wp2_with fail
        refine (HD.out _).mono ?_
        rintro e w2 ⟨u, rfl, hN⟩
        have heq := Equal_c _ _ _ _ w2 ((HH.out.keep ((Fp.refl Non w).drewN _) (fun _ _ h => h)).keep hN.fp (fun _ _ h => h)) hN.sl
        have hfp : Fp Non w w2 := ((Fp.refl Non w).drewN _).then hN.fp
        obtain ⟨uao, un, ucap, rfl⟩ := hN.shape3
        have HE := Lib.hid heq
        have HP := Lib.hid hfp
        clear hN heq hfp
        go_wp2_with fail
        refine HE.out.mono ?_
        rintro e w3 ⟨rfl, rfl⟩
        by_cases hq : c.take 16 = hdr i ((c.drop 16).take n)
        · have hd : decide (c.take 16 = hdr i ((c.drop 16).take n)) = true := decide_eq_true hq
          rw [hd]
          have hres : front c i = some ((c.drop 16).take n) := by
            rw [HF.out, if_neg]
            rintro (h | h | h)
            · exact HG.out.1 h
            · exact HG.out.2.1 h
            · exact h hq
          have HR := Lib.hid hres
          have HQ := Lib.hid hq
          clear hres hq hd
          go_wp2
          go_ret2
          exact ⟨_, _, rfl, HP.out, .inr ⟨_, HR.out, rfl, HY.out.keep HP.out (fun _ _ h => h)⟩⟩
        · have hd : decide (c.take 16 = hdr i ((c.drop 16).take n)) = false := decide_eq_false hq
          rw [hd]
          have hres : front c i = none := by rw [HF.out, if_pos (.inr (.inr hq))]
          have HR := Lib.hid hres
          clear hres hq hd
          go_wp2
          go_ret2
          exact ⟨_, _, rfl, HP.out, .inl ⟨HR.out, rfl, rfl⟩⟩
end Go.Proofs.YtankfmlafmjaeaaGreat
