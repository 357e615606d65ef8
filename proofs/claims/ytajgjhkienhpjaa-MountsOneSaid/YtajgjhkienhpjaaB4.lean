/- MountsOne: each directory has just one mount, of the longest prefix that it is in (gen_b4.py) -/
import Derived.Test.YtajgjhkienhpjaaB3
import Derived.Test.YtajgjhkienhpjaaBv
namespace Go.Proofs.Ytajgjhkienhpjaa
set_option maxRecDepth 20000
set_option linter.unusedVariables false
set_option linter.unusedSimpArgs false
open Go.RowKit Pm

set_option maxHeartbeats 8000000 in
theorem MountsOne_c (v : Value) (l : List Mt) (dir : Bs) (w : World) (hv : NsM w v l) (hn : l.length ≤ 140737488355328) :
    Calls Try.prog 6 #[v, .string (B dir)] w fun e w' => e = .returned (.bool true) ∧ Fp Non w w' := by
  have hgr := fun W (f : Fp Non w W) => Great_c v l W (hv.non f) hn
  have hrr := fun W (f : Fp Non w W) (h : SzM l) => rRightM_c v l W (hv.non f) h.p hn
  have hrp := fun W (hp : dir.length ≤ 1000000) => rRight_g dir W (sz_of hp (by omega))
  have hof := fun W (f : Fp Non w W) (h : SzM l) (hp : dir.length ≤ 1000000) => OfM_c v l dir W (hv.non f) h hp
  obtain ⟨ao, cap, rfl⟩ := hv.shape
  have hat := fun W (f : Fp Non w W) i (h : i < l.length) => (show ∃ g o, ao = some ⟨g, o, none⟩ ∧ NdAtM W g (o + i * 4) l[i] from by
    obtain ⟨g, o, cap', e, _, _, _, hcell⟩ := (hv.non f).at (by omega)
    injection e with e1 _ _
    exact ⟨g, o, e1, hcell i h⟩)
  obtain ⟨n, hnn⟩ : ∃ n, n = l.length := ⟨_, rfl⟩
  rw [← hnn] at hgr hrr hof
  rw [← hnn]
  have HAT := Lib.hid (And.intro hnn hat)
  have HG := Lib.hid hgr
  have HRR := Lib.hid hrr
  have HRP := Lib.hid hrp
  have HOF := Lib.hid hof
  clear hgr hrr hrp hof hat hv hn hnn
  go_enter Try.func6, Try.ntmps6
  go_wp2_with fail
  refine (head_c _).mono ?_
  rintro e w1 ⟨rfl, hf1⟩
  have F1 := Lib.hid hf1
  clear hf1
  go_wp2_with fail
  refine (HG.out _ F1.out).mono ?_
  rintro e w2 ⟨gr, rfl, hg, hf2⟩
  have F2 := Lib.hid (F1.out.then hf2)
  clear hf2 F1
  cases gr with
  | true =>
    clear hg
    go_wp2
    go_ret
    exact ⟨rfl, F2.out⟩
  | false =>
  have FEW := Lib.hid (hg rfl)
  clear hg
  by_cases hp0 : 1000 < dir.length
  · have q10 : ((1000 : Int) < (dir.length : Int)) = True := eq_true (by omega)
    have q20 : (1000 < dir.length) = True := eq_true hp0
    clear hp0
    go_wp2
    go_ret
    exact ⟨rfl, F2.out⟩
  have q10 : ((1000 : Int) < (dir.length : Int)) = False := eq_false (by omega)
  have q20 : (1000 < dir.length) = False := eq_false hp0
  have HPB0 := Lib.hid (show dir.length ≤ 1000000 by omega)
  clear hp0
  go_wp2_with fail
  refine (HRR.out _ F2.out FEW.out.szs).mono ?_
  rintro e w3 ⟨rfl, hf⟩
  have F3 := Lib.hid (F2.out.then hf)
  clear hf
  cases hrt : rightM l with
  | false =>
    clear hrt
    go_wp2
    go_ret
    exact ⟨rfl, F3.out⟩
  | true =>
  have hrt := (right_iff l).1 hrt
  go_wp2_with fail
  refine (HRP.out _ HPB0.out).mono ?_
  rintro e w4 ⟨rfl, hg⟩
  have F4 := Lib.hid (F3.out.then hg.fp)
  clear hg F2 F3
  cases hok : (split dir).isSome with
  | false =>
    clear hok
    go_wp2
    go_ret
    exact ⟨rfl, F4.out⟩
  | true =>
  obtain ⟨k, y, hp⟩ := pkM hrt (d := dir) hok
  have HP := Lib.hid hp
  have HRT := Lib.hid hrt
  have hof := HOF.out _ F4.out FEW.out.szs HPB0.out
  rw [hp.ko] at hof
  have hlen := hrt.len
  rw [← HAT.out.1] at hlen
  clear hok hrt hp
  go_wp2_with fail
  refine hof.mono ?_
  rintro e w5 ⟨rfl, hf⟩
  have F5 := Lib.hid (F4.out.then hf)
  simp only [idx]
  clear hf hof F4
  have hkl := HP.out.kl
  obtain ⟨g, o, e, hnd⟩ := HAT.out.2 _ F5.out k hkl
  subst e
  rw [← HP.out.get] at hnd
  have d0 := hnd.c0
  have hkn : k < n := by rw [HAT.out.1]; exact hkl
  obtain ⟨yd, hyd⟩ : ∃ q, q = y.d := ⟨_, rfl⟩
  rw [← hyd] at d0
  unfold strV at d0
  have HY := Lib.hid hyd
  have hyl : yd.length ≤ 1000000 := by rw [hyd]; have := okP_len (okM_p (HRT.out.ok y HP.out.mem)).1; omega
  have hi0 := fun W => rIn_g dir yd W (sz_of HPB0.out (by omega)) (sz_of hyl (by omega))
  rw [hyd, HP.out.ki, ← hyd] at hi0
  have HI0 := Lib.hid hi0
  have HYL := Lib.hid hyl
  have q3 : ((k : Int) < 0) = False := eq_false (by omega)
  have q4 : ((n : Int) ≤ (k : Int)) = False := eq_false (by omega)
  have q5 : (n ≤ k) = False := eq_false (by omega)
  have q6 : ((k : Int) < (n : Int)) = True := eq_true (by omega)
  have q7 : (k < n) = True := eq_true hkn
  have HKN := Lib.hid hkn
  clear hkl hnd hyd hyl hi0 hkn
  go_wp2_with fail
  refine (HI0.out _).mono ?_
  rintro e w6 ⟨rfl, hg⟩
  have F6 := Lib.hid (F5.out.then hg.fp)
  clear hg d0
  go_wp2_with fail
  go_loopw [7] (fun i wr => ∃ j : Nat, j ≤ n ∧ i = .int .i64 j ∧ Hid (Fp Non w6 wr)) (fun i _ => n - (RowKit.intOf i).toNat)
  case atStart => exact ⟨0, Nat.zero_le _, rfl, Fp.refl _ _⟩
  case round =>
    obtain ⟨j, hj, rfl, hR⟩ := hrel
    rename_i wr _
    by_cases hlt : j < n
    · have hjl : j < l.length := by rw [← HAT.out.1]; exact hlt
      have FR := Lib.hid (Fp.refl Non wr)
      have HFW := Lib.hid hR.out
      have hf := F6.out.then hR.out
      obtain ⟨g2, o2, e, hnj⟩ := HAT.out.2 _ hf j hjl
      injection e with e1
      injection e1 with e4 e5
      subst e4 e5
      obtain ⟨g2, o2, e, hnk⟩ := HAT.out.2 _ hf k HP.out.kl
      injection e with e1
      injection e1 with e4 e5
      subst e4 e5
      rw [← HP.out.get] at hnk
      have c0 := hnj.c0
      have d0 := hnk.c0
      rw [← HY.out] at d0
      obtain ⟨xd, hxd⟩ : ∃ q, q = (l[j]).d := ⟨_, rfl⟩
      rw [← hxd] at c0
      unfold strV at c0 d0
      have q8 : ((j : Int) < (n : Int)) = True := eq_true (by omega)
      have q9 : (j < n) = True := eq_true hlt
      have HK := Lib.hid hlt
      have hxl : xd.length ≤ 1000000 := by rw [hxd]; have := okP_len (okM_p (HRT.out.ok _ (List.getElem_mem hjl))).1; omega
      have hi1 := fun W => rIn_g dir xd W (sz_of HPB0.out (by omega)) (sz_of hxl (by omega))
      have hi2 := fun W => rIn_g yd xd W (sz_of HYL.out (by omega)) (sz_of hxl (by omega))
      have hoth := fun h => one_other HRT.out HP.out hjl h
      rw [← hxd, ← HY.out] at hoth
      clear hnj hnk hR hf hxd hjl hxl
      by_cases hjk : j = k
      · have q10 : ((j : Int) == (k : Int)) = true := by rw [beq_iff_eq, hjk]
        have q11 : ((j : Int) = (k : Int)) = True := eq_true (by rw [hjk])
        have q12 : ((j : Int) != (k : Int)) = false := by simp [bne, q10]
        clear hjk hoth hi1 hi2 c0 d0 hlt hj
        go_wp2_with fail
        refine wp_region_held_drew (S := (fun _ => True)) (by kernel_rfl) ?_ (fun hHeld => ?_)
        · exact trivial
        try simp only [zP, zN, zS, zT, zU]
        refine tk 0 hHeld ?_
        refine tk 1 hHeld ?_
        refine tk 2 hHeld ?_
        refine tk 3 hHeld ?_
        refine sk 4 hHeld ?_
        refine sk 5 hHeld ?_
        refine sk 6 hHeld ?_
        refine sk 7 hHeld ?_
        refine sk 8 hHeld ?_
        refine sk 9 hHeld ?_
        refine sk 10 hHeld ?_
        refine tk 11 hHeld ?_
        refine tk 12 hHeld ?_
        refine sk 13 hHeld ?_
        refine sk 14 hHeld ?_
        refine sk 15 hHeld ?_
        refine sk 16 hHeld ?_
        refine sk 17 hHeld ?_
        refine sk 18 hHeld ?_
        refine sk 19 hHeld ?_
        refine sk 20 hHeld ?_
        refine sk 21 hHeld ?_
        refine sk 22 hHeld ?_
        refine sk 23 hHeld ?_
        refine sk 24 hHeld ?_
        refine sk 25 hHeld ?_
        refine sk 26 hHeld ?_
        refine sk 27 hHeld ?_
        refine sk 28 hHeld ?_
        refine sk 29 hHeld ?_
        refine sk 30 hHeld ?_
        refine sk 31 hHeld ?_
        refine sk 32 hHeld ?_
        refine sk 33 hHeld ?_
        refine sk 34 hHeld ?_
        refine sk 35 hHeld ?_
        refine sk 36 hHeld ?_
        refine sk 37 hHeld ?_
        refine sk 38 hHeld ?_
        refine sk 39 hHeld ?_
        refine tk 40 hHeld ?_
        refine yD ?_
        have hkn := HK.out
        go_wp2
        go_roundw
        case rel => exact ⟨j + 1, by have := HK.out; omega, by go_num, HFW.out.then FR.out.drew⟩
        case measure => have := HK.out; simp [RowKit.intOf]; omega
      have q10 : ((j : Int) == (k : Int)) = false := beq_eq_false_iff_ne.2 (by omega)
      have q11 : ((j : Int) = (k : Int)) = False := eq_false (by omega)
      have q12 : ((j : Int) != (k : Int)) = true := by simp [bne, q10]
      have hoth := hoth hjk
      obtain ⟨b1, hb1⟩ : ∃ b, inB dir xd = b := ⟨_, rfl⟩
      rw [hb1] at hi1 hoth
      have HI1 := Lib.hid hi1
      clear hjk hi1 hb1
      cases b1 with
      | false =>
        clear hoth hi2 d0 hlt hj
        go_wp2_with fail
        refine wp_region_held_drew (S := (fun w' => w'.cell? ⟨g, o + j * 4, none⟩ = some (.string (B xd)))) (by kernel_rfl) ?_ (fun hHeld => ?_)
        · exact c0
        try simp only [zP, zN, zS, zT, zU]
        refine tk 0 hHeld ?_
        refine tk 1 hHeld ?_
        refine tk 2 hHeld ?_
        refine tk 3 hHeld ?_
        refine tk 4 hHeld ?_
        refine tk 5 hHeld ?_
        refine tk 6 hHeld ?_
        refine tk 7 hHeld ?_
        refine tk 8 hHeld ?_
        refine tk 9 hHeld ?_
        refine rY 10 (fun K hK => ?_)
        go_simp
        go_at_call 18
        refine (HI1.out _).mono ?_
        rintro e w7 ⟨rfl, hg⟩
        have f1 := hg.fp
        have HS7 := Lib.hid (f1.cell hHeld (fun h => h))
        have F7 := Lib.hid (FR.out.drew.then f1)
        clear f1 hg
        go_wp2_with fail
        refine hK.out _ _ HS7.out (fun hHeld => ?_)
        clear hK K
        try simp only [zP, zN, zS, zT, zU]
        refine tk 11 hHeld ?_
        refine tk 12 hHeld ?_
        refine sk 13 hHeld ?_
        refine sk 14 hHeld ?_
        refine sk 15 hHeld ?_
        refine sk 16 hHeld ?_
        refine sk 17 hHeld ?_
        refine sk 18 hHeld ?_
        refine sk 19 hHeld ?_
        refine sk 20 hHeld ?_
        refine sk 21 hHeld ?_
        refine sk 22 hHeld ?_
        refine sk 23 hHeld ?_
        refine sk 24 hHeld ?_
        refine sk 25 hHeld ?_
        refine sk 26 hHeld ?_
        refine sk 27 hHeld ?_
        refine sk 28 hHeld ?_
        refine sk 29 hHeld ?_
        refine sk 30 hHeld ?_
        refine sk 31 hHeld ?_
        refine sk 32 hHeld ?_
        refine sk 33 hHeld ?_
        refine sk 34 hHeld ?_
        refine sk 35 hHeld ?_
        refine sk 36 hHeld ?_
        refine sk 37 hHeld ?_
        refine sk 38 hHeld ?_
        refine sk 39 hHeld ?_
        refine tk 40 hHeld ?_
        refine yD ?_
        have hkn := HK.out
        go_wp2
        go_roundw
        case rel => exact ⟨j + 1, by have := HK.out; omega, by go_num, HFW.out.then F7.out⟩
        case measure => have := HK.out; simp [RowKit.intOf]; omega
      | true =>
        have hoth := hoth rfl
        rw [hoth.2] at hi2
        have HI2 := Lib.hid hi2
        have q13 : ((yd.length : Int) ≤ (xd.length : Int)) = False := eq_false (by omega)
        have q14 : (yd.length ≤ xd.length) = False := eq_false (by omega)
        clear hoth hi2 hlt hj
        go_wp2_with fail
        refine wp_region_held_drew (S := (fun w' => w'.cell? ⟨g, o + j * 4, none⟩ = some (.string (B xd)) ∧ w'.cell? ⟨g, o + k * 4, none⟩ = some (.string (B yd)))) (by kernel_rfl) ?_ (fun hHeld => ?_)
        · exact ⟨c0, d0⟩
        try simp only [zP, zN, zS, zT, zU]
        refine tk 0 hHeld ?_
        refine tk 1 hHeld ?_
        refine tk 2 hHeld ?_
        refine tk 3 hHeld ?_
        refine tk 4 hHeld ?_
        refine tk 5 hHeld ?_
        refine tk 6 hHeld ?_
        refine tk 7 hHeld ?_
        refine tk 8 hHeld ?_
        refine tk 9 hHeld ?_
        refine rY 10 (fun K hK => ?_)
        go_simp
        go_at_call 18
        refine (HI1.out _).mono ?_
        rintro e w7 ⟨rfl, hg⟩
        have f1 := hg.fp
        have HS7 := Lib.hid (And.intro (f1.cell hHeld.1 (fun h => h)) (f1.cell hHeld.2 (fun h => h)))
        have F7 := Lib.hid (FR.out.drew.then f1)
        clear f1 hg
        go_wp2_with fail
        refine hK.out _ _ HS7.out (fun hHeld => ?_)
        clear hK K
        try simp only [zP, zN, zS, zT, zU]
        refine tk 11 hHeld ?_
        refine tk 12 hHeld ?_
        refine tk 13 hHeld ?_
        refine tk 14 hHeld ?_
        refine tk 15 hHeld ?_
        refine tk 16 hHeld ?_
        refine tk 17 hHeld ?_
        refine tk 18 hHeld ?_
        refine tk 19 hHeld ?_
        refine tk 20 hHeld ?_
        refine tk 21 hHeld ?_
        refine tk 22 hHeld ?_
        refine tk 23 hHeld ?_
        refine tk 24 hHeld ?_
        refine tk 25 hHeld ?_
        refine tk 26 hHeld ?_
        refine tk 27 hHeld ?_
        refine tk 28 hHeld ?_
        refine tk 29 hHeld ?_
        refine tk 30 hHeld ?_
        refine tk 31 hHeld ?_
        refine tk 32 hHeld ?_
        refine tk 33 hHeld ?_
        refine tk 34 hHeld ?_
        refine tk 35 hHeld ?_
        refine tk 36 hHeld ?_
        refine rY 37 (fun K hK => ?_)
        go_simp
        go_at_call 18
        refine (HI2.out _).mono ?_
        rintro e w8 ⟨rfl, hg⟩
        have f1 := hg.fp
        have HS8 := Lib.hid (And.intro (f1.cell hHeld.1 (fun h => h)) (f1.cell hHeld.2 (fun h => h)))
        have F8 := Lib.hid (F7.out.then f1)
        clear f1 hg
        go_wp2_with fail
        refine hK.out _ _ HS8.out (fun hHeld => ?_)
        clear hK K
        try simp only [zP, zN, zS, zT, zU]
        refine tk 38 hHeld ?_
        refine tk 39 hHeld ?_
        refine tk 40 hHeld ?_
        refine yD ?_
        have hkn := HK.out
        go_wp2
        go_roundw
        case rel => exact ⟨j + 1, by have := HK.out; omega, by go_num, HFW.out.then F8.out⟩
        case measure => have := HK.out; simp [RowKit.intOf]; omega
    · have hje : j = n := by omega
      subst hje
      have q8 : ((j : Int) < (j : Int)) = False := eq_false (by omega)
      have HZ := Lib.hid (F6.out.then hR.out)
      clear hlt hj hR
      go_wp2
      go_ret
      exact ⟨rfl, HZ.out⟩
end Go.Proofs.Ytajgjhkienhpjaa
