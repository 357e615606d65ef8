/- LocksMore: who takes once more what it asked, or some of it, holds what it held (gen_ub.py) -/
import Derived.Test.YtenaggleepoclaaGreatJy
import Derived.Test.YtenaggleepoclaaGreatJv
namespace Go.Proofs.YtenaggleepoclaaGreat
set_option maxRecDepth 20000
set_option linter.unusedVariables false
set_option linter.unusedSimpArgs false
open Go.RowKit Pm


theorem Sg.take {α : Type} {enc : α → List Value} {k : Nat} {w : World} {a : Option Addr} {n c : Nat} {l : List α} (h : Sg enc k w (.slice a n c) l) (j : Nat) (hj : j ≤ l.length) : Sg enc k w (.slice a j c) (l.take j) := by
  obtain ⟨ao, cap, e, h3⟩ := h.ex
  injection e with e1 e2 e3
  subst e1 e3
  refine ⟨a, c, by rw [List.length_take, Nat.min_eq_left hj], ?_⟩
  rcases h3 with h3 | ⟨g, o, e, hc⟩
  · subst h3; exact .inl (by simp)
  · exact .inr ⟨g, o, e, fun i hi => by
      rw [List.length_take] at hi
      rw [List.getElem_take]; exact hc i (by omega)⟩

set_option maxHeartbeats 8000000 in
theorem lawLocksMore_c (v : Value) (l : List Hl) (t a : Int) (vd : Value) (ds : List Bs) (w : World) (hv : NsH w v l) (hn : l.length ≤ 140737488355328) (hd : Tx w vd ds) (hm : ds.length ≤ 140737488355328) (hcp : ∀ a n c, vd = .slice a n c → n ≤ c ∧ c ≤ maxLen) :
    Calls Tryz.prog 6 #[v, .int .i64 t, .int .i64 a, vd] w fun e w' => e = .returned (.bool true) ∧ Fp Non w w' := by
  obtain ⟨ao, cap, rfl⟩ := hv.shape
  obtain ⟨ad, cd, rfl⟩ := hd.shape
  obtain ⟨n, hnn⟩ : ∃ n, n = l.length := ⟨_, rfl⟩
  obtain ⟨m, hmm⟩ : ∃ m, m = ds.length := ⟨_, rfl⟩
  have hgr := fun W (f : Fp Non w W) => great_c _ _ l ds W (hv.non f) (hd.non f) hn hm
  have hrr := fun W (f : Fp Non w W) (h : HSp l) (k : l.length ≤ 90000) => rRight_c _ l W (hv.non f) h k
  rw [← hnn] at hv hgr hrr ⊢
  rw [← hmm] at hd hgr ⊢
  have HNN := Lib.hid (And.intro hnn hmm)
  have HV := Lib.hid hv
  have HD := Lib.hid hd
  have HCP := Lib.hid (hcp _ _ _ rfl)
  clear hcp
  have HG := Lib.hid hgr
  have HRR := Lib.hid hrr
  clear hgr hrr hv hn hnn hd hm hmm
  go_enter Tryz.func6, Tryz.ntmps6
  go_wp2_with fail
  refine (head_c _).mono ?_
  rintro e w1 ⟨rfl, hf1⟩
  have F1 := Lib.hid hf1
  clear hf1
  go_wp2_with fail
  refine (HG.out _ F1.out).mono ?_
  rintro e w2 ⟨gr, rfl, hg, hf2⟩
  have F2 := Lib.hid (F1.out.then hf2)
  clear hf2 F1
  cases gr with
  | true =>
    clear hg
    go_wp2
    go_ret
    exact ⟨rfl, F2.out⟩
  | false =>
  have FEW := Lib.hid (hg rfl)
  clear hg
  have hnb : n ≤ 200 := by have := FEW.out.nl; have := HNN.out.1; omega
  have hmb : m ≤ 200 := by have := FEW.out.nd; have := HNN.out.2; omega
  go_wp2_with fail
  refine (HRR.out _ F2.out FEW.out.hs (by have := HNN.out.1; omega)).mono ?_
  rintro e w3 ⟨rfl, hf3⟩
  have F3 := Lib.hid (F2.out.then hf3)
  clear hf3 F2
  cases hrt : rightH l with
  | false =>
    clear hrt
    go_wp2
    go_ret
    exact ⟨rfl, F3.out⟩
  | true =>
  have HRT := Lib.hid ((right_iff l).1 hrt)
  clear hrt
  obtain ⟨A, wl, is, hA⟩ : ∃ A wl is, takeH l t a ds = (A, wl, is) := ⟨_, _, _, rfl⟩
  have htk := fun W (f : Fp Non w W) => Take_c _ _ l t a ds W (HV.out.non f |> fun h => by rw [HNN.out.1] at h; exact h) FEW.out.hs (HD.out.non f |> fun h => by rw [HNN.out.2] at h; exact h) FEW.out.ss (by have := FEW.out.nl; omega) (by have := FEW.out.nd; omega)
  rw [← HNN.out.1, ← HNN.out.2] at htk
  have HTK := Lib.hid htk
  clear htk
  go_wp2_with fail
  refine (HTK.out _ F3.out).mono ?_
  intro e w4 hR
  obtain ⟨x4, c4, y4, d4, rfl, n4, m4⟩ := hR.sh
  rw [hA] at n4 m4 ⊢
  simp only at n4 m4 ⊢
  have K4 := Lib.hid (Kp.and (Kp.nsH n4) (Kp.fp (F3.out.then hR.fp)))
  clear hR n4 m4 HTK F3
  cases is with
  | false =>
    go_wp2
    go_ret
    exact ⟨rfl, K4.out.now.2⟩
  | true =>
  obtain ⟨_, hmay, hway, hAp, hwl⟩ := take_yes hA
  have hso := fun es hs => more_same (es := es) HRT.out hmay hway hs
  rw [← hAp] at hso
  have hsp : HSp A := by have := take_sp l t a ds; rw [hA] at this; exact this
  have hal : A.length ≤ 400 := by
    have h1 : (A.map Hl.d).length ≤ (l.map Hl.d ++ ds).length := sub_len ((map_up (by rw [hAp]; exact puts_up HRT.out.up)).imp (fun h => lt_ne h)) (fun x hx => by
      obtain ⟨y, hy, rfl⟩ := List.mem_map.1 hx
      rw [hAp, mem_puts (own_of hmay hway)] at hy
      rcases hy with hy | ⟨hy, _⟩
      · exact List.mem_append.2 (.inl (List.mem_map.2 ⟨y, hy, rfl⟩))
      · exact List.mem_append.2 (.inr hy))
    rw [List.length_map, List.length_append, List.length_map] at h1
    have := FEW.out.nl; have := FEW.out.nd; omega
  have htk := fun vd' es W (hW : NsH W (.slice x4 A.length c4) A) (hd' : Tx W vd' es) (hs : ∀ d ∈ es, d ∈ ds) (he : es.length ≤ 200) => Take_c _ vd' A t a es W hW hsp hd' (fun x hx => FEW.out.ss x (hs x hx)) (by omega) (by omega)
  obtain ⟨na, hna⟩ : ∃ k, k = A.length := ⟨_, rfl⟩
  have hsa := fun v2 W (hW : NsH W (.slice x4 A.length c4) A) (h2 : NsH W v2 A) => rSameH_c _ v2 A A W hW h2 (by omega) (by omega)
  have HQ := Lib.hid (And.intro hso (And.intro htk hsa))
  have HNA := Lib.hid (And.intro hna hal)
  rw [← hna] at K4 HQ ⊢
  clear hso htk hsp hal hsa hna hwl hAp hway hmay
  have hnab : na ≤ 400 := by have := HNA.out; omega
  go_wp2_with fail
  refine (HQ.out.2.1 _ ds _ K4.out.now.1 (HD.out.non K4.out.now.2) (fun d h => h) FEW.out.nd).mono ?_
  intro e w5 hR
  obtain ⟨x5, c5, y5, d5, rfl, n5, m5⟩ := hR.sh
  rw [HQ.out.1 ds (fun d h => h)] at n5 m5 ⊢
  simp only [← HNA.out.1, List.length_nil] at n5 m5 ⊢
  have K5 := Lib.hid (Kp.and (Kp.nsH n5) (K4.out.later hR.fp))
  clear hR n5 m5 K4
  have q1 : IntKind.i64.wrap ((m : Int) / 2) = ((m / 2 : Nat) : Int) := by rw [IntKind.wrap_i64]; omega
  have q2 : (m : Int) / 2 = ((m / 2 : Nat) : Int) := by omega
  have q3 : (m / 2 ≤ cd) = True := eq_true (by have := HCP.out.1; have := HNN.out.2; omega)
  have q4 : (((m / 2 : Nat) : Int) ≤ (cd : Int)) = True := eq_true (by have := HCP.out.1; have := HNN.out.2; omega)
  have q5 : ((0 : Int) ≤ ((m / 2 : Nat) : Int)) = True := eq_true (by omega)
  have q6 : (0 ≤ m / 2) = True := eq_true (by omega)
  obtain ⟨mh, hmh⟩ : ∃ k, k = m / 2 := ⟨_, rfl⟩
  simp only [← hmh] at q1 q2 q3 q4 q5 q6
  have HMH := Lib.hid hmh
  clear hmh
  go_wp2_with fail
  refine (HQ.out.2.1 _ (ds.take mh) _ K5.out.now.2.1 (Sg.take (HD.out.non K5.out.now.2.2) mh (by rw [HMH.out]; have := HNN.out.2; omega)) (fun d h => List.take_subset _ _ h) (Nat.le_trans (List.length_take_le _ _) (by have := HMH.out; omega))).mono ?_
  intro e w6 hR
  obtain ⟨x6, c6, y6, d6, rfl, n6, m6⟩ := hR.sh
  rw [HQ.out.1 (ds.take mh) (fun d h => List.take_subset _ _ h)] at n6 m6 ⊢
  simp only [← HNA.out.1, List.length_nil] at n6 m6 ⊢
  have K6 := Lib.hid (Kp.and (Kp.nsH n6) (K5.out.later hR.fp))
  clear hR n6 m6 K5
  go_wp2_with fail
  refine (HQ.out.2.1 _ [] _ K6.out.now.2.2.1 (Sg.nil _) (fun d h => by cases h) (by simp)).mono ?_
  intro e w7 hR
  obtain ⟨x7, c7, y7, d7, rfl, n7, m7⟩ := hR.sh
  rw [HQ.out.1 [] (fun d h => by cases h)] at n7 m7 ⊢
  simp only [← HNA.out.1, List.length_nil] at n7 m7 ⊢
  have K7 := Lib.hid (Kp.and (Kp.nsH n7) (K6.out.later hR.fp))
  clear hR n7 m7 K6
  go_wp2_with fail
  refine (HQ.out.2.2 _ _ K7.out.now.2.2.2.1 K7.out.now.2.2.1).mono ?_
  rintro e w8 ⟨rfl, hf⟩
  simp only [decide_true]
  have K8 := Lib.hid (K7.out.later hf)
  clear hf K7
  go_wp2_with fail
  refine (HQ.out.2.2 _ _ K8.out.now.2.2.2.1 K8.out.now.2.1).mono ?_
  rintro e w9 ⟨rfl, hf⟩
  simp only [decide_true]
  have K9 := Lib.hid (K8.out.later hf)
  clear hf K8
  go_wp2_with fail
  refine (HQ.out.2.2 _ _ K9.out.now.2.2.2.1 K9.out.now.1).mono ?_
  rintro e w10 ⟨rfl, hf⟩
  simp only [decide_true]
  have K10 := Lib.hid (K9.out.later hf)
  clear hf K9
  go_wp2
  go_ret
  exact ⟨rfl, K10.out.now.2.2.2.2⟩
end Go.Proofs.YtenaggleepoclaaGreat
