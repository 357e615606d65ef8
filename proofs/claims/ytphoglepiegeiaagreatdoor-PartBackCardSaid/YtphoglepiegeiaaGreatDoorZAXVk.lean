/- A text of this proof. -/
import Derived.Test.YtphoglepiegeiaaGreatDoorZAXDf
import Derived.Test.YtphoglepiegeiaaGreatDoorZAXVh
namespace Go.Proofs.YtphoglepiegeiaaGreatDoor
set_option linter.unusedSimpArgs false
set_option linter.unusedVariables false
set_option maxRecDepth 20000
set_option linter.unusedVariables false
set_option linter.unusedSimpArgs false
open Go.RowKit Pm
theorem keep_len (l : List Nd) : (keep l).nodes.length = l.length ∧ (keep l).turns.length ≤ l.length := by
 unfold keep turnsOf
 exact ⟨List.length_map _, by rw [List.length_map]; exact List.length_filter_le _ _⟩
theorem keep_few {l : List Nd} (h : l.length ≤ 1667 ∧ ∀ x ∈ l, x.path.length ≤ 5000 ∧ x.data.length ≤ 5000) : Sfew (keep l) := by
 refine ⟨fun x hx => ?_, fun t ht => ?_, by rw [(keep_len l).1]; omega, by have := (keep_len l).2; omega⟩
 ·obtain ⟨y, hy, rfl⟩ := List.mem_map.1 hx
  have := (h.2 y hy).1
  rw [kn_path]; omega
 ·obtain ⟨y, hy, e, _⟩ := mem_turnsOf.1 (show t ∈ turnsOf l from ht)
  have := (h.2 y hy).1
  rw [← e]; omega
theorem Gfew.sfew {s : St} (h : Gfew s) : Sfew s := ⟨(fewDo h).1, (fewDo h).2.1, (fewDo h).2.2.1, (fewDo h).2.2.2⟩
theorem one_sto {w : World} {an at_ : Option Addr} {n m cn ct : Nat} {s : St} (h : Sto w (.agg #[.slice an n cn, .slice at_ m ct]) s) :
  Stos (w.alloc (.cells #[.slice an n cn, .slice at_ m ct] TST)) (.slice (some ⟨w.heap.size, 0, none⟩) 1 1) [⟨.slice an n cn, .slice at_ m ct, s⟩] := by
 have hf := fp_alloc w (.cells #[.slice an n cn, .slice at_ m ct] TST)
 refine ⟨Sg.of_row (l := [(⟨.slice an n cn, .slice at_ m ct, s⟩ : Sv)]) svC_len 1 (heap_alloc_new w _), fun x hx => ?_⟩
 rw [List.mem_singleton.1 hx]
 obtain ⟨vn, vt, e, h1, h2⟩ := h.ex
 injection e with e
 injection e with e
 injection e with e1 e
 injection e with e2 _
 subst e1 e2
 exact ⟨h1.non hf, h2.non hf⟩
set_option maxHeartbeats 16000000 in
theorem PartBack_c (v : Value) (l : List Nd) (v1 : Value) (s : St) (w : World) (hl : Ns w v l) (hln : l.length ≤ 140737488355328) (hv : Sto w v1 s) (hn : s.nodes.length ≤ 140737488355328) (hm : s.turns.length ≤ 140737488355328) (ht : Tab w) :
  Calls Tryz.prog 5 #[v, v1] w fun e w' => e = .returned (.bool true) ∧ Fp Non w w' := by
 have HL := Lib.hid hl
 have HV := Lib.hid hv
 have HTab := Lib.hid ht
 have hg1 := fun W (f : Fp Non w W) => Great_c v l W (hl.non f) hln
 have hg2 := fun W (f : Fp Non w W) => GreatS_c v1 s W (hv.non f) hn hm
 obtain ⟨al, cl, rfl⟩ := hl.shape
 obtain ⟨vn, vt, rfl, h1, h2⟩ := hv.ex
 obtain ⟨bn, cn, rfl⟩ := h1.shape
 obtain ⟨bt, ct, rfl⟩ := h2.shape
 obtain ⟨nl, hnl⟩ : ∃ nl, nl = l.length := ⟨_, rfl⟩
 obtain ⟨n, hnn⟩ : ∃ n, n = s.nodes.length := ⟨_, rfl⟩
 obtain ⟨m, hmm⟩ : ∃ m, m = s.turns.length := ⟨_, rfl⟩
 rw [← hnn, ← hmm] at HV hg2
 have HNLL := Lib.hid hnl
 rw [← hnl] at HL hg1
 rw [← hnn, ← hmm, ← hnl]
 have f1 := fp_alloc w (.cells #[.slice bn n cn, .slice bt m ct] TST)
 have r1 := heap_alloc_new w (.cells #[.slice bn n cn, .slice bt m ct] TST)
 have K0 := Lib.hid (Kp.and (Kp.fp f1) (Kp.row r1))
 have HG1 := Lib.hid hg1
 have HG2 := Lib.hid hg2
 clear f1 r1 h1 h2 hv ht hn hm hnn hmm hnl hl hln hg1 hg2
 go_enter Tryz.func5, Tryz.ntmps5
 go_wp2_with fail
 refine (head7_c _ (HTab.out.non K0.out.now.1)).mono ?_
 rintro e w1 ⟨rfl, hf⟩
 have K1 := Lib.hid (K0.out.later hf)
 clear hf K0
 go_wp2_with fail
 refine (HG1.out _ K1.out.now.1).mono ?_
 rintro e w2 ⟨g, rfl, hg, hf⟩
 have K2 := Lib.hid (K1.out.later hf)
 have HG := Lib.hid hg
 clear hf hg K1
 obtain ⟨s0, s1⟩ := boxP2 K2.out.now.2
 cases g with
 | true =>
  go_wp2
  go_ret
  exact ⟨rfl, K2.out.now.1⟩
 | false =>
  have hlf := HG.out (by first | rfl | trivial)
  rw [HNLL.out] at hlf
  have HLF := Lib.hid hlf
  clear hlf
  clear HG
  go_wp2_with fail
  refine (HG2.out _ K2.out.now.1).mono ?_
  rintro e w3 ⟨g, rfl, hg, hf⟩
  have K3 := Lib.hid (K2.out.later hf)
  have HG := Lib.hid hg
  clear hf hg K2 s0 s1
  cases g with
  | true =>
   go_wp2
   go_ret
   exact ⟨rfl, K3.out.now.1⟩
  | false =>
   have HSF := Lib.hid (HG.out (by first | rfl | trivial))
   clear HG
   go_wp2_with fail
   refine (Keep_c _ l _ (HL.out.non K3.out.now.1) (by have := HLF.out.1; omega)).mono ?_
   rintro e w4 ⟨⟨vk, rfl, hk⟩, hf⟩
   have K4 := Lib.hid ((K3.out.later hf).and (Kp.sto hk))
   obtain ⟨kn', kt', rfl, hk1, hk2⟩ := hk.ex
   obtain ⟨ka, kc, rfl⟩ := hk1.shape
   obtain ⟨kb, kd, rfl⟩ := hk2.shape
   clear hf hk hk1 hk2 K3
   go_wp2_with fail
   have hst := one_sto K4.out.now.2
   have K5 := Lib.hid (K4.out.later (fp_alloc w4 (.cells #[.slice ka (keep l).nodes.length kc, .slice kb (keep l).turns.length kd] TST)))
   have htr := Tree_c _ _ _ hst (by simp) (fun x hx => by rw [List.mem_singleton.1 hx]; exact keep_few HLF.out)
   have HTR := Lib.hid htr
   clear hst htr K4
   refine HTR.out.mono ?_
   rintro e w6 ⟨⟨vx, b, rfl, hb⟩, hf⟩
   have K6 := Lib.hid (K5.out.later hf)
   have hgo : ∃ ax nx cx, vx = .slice ax nx cx ∧ (right l = true → b = true ∧ ∀ W, Fp Non w6 W → Calls Tryz.prog 34 #[vx, .slice al nl cl] W fun e w' => e = .returned (.bool true) ∧ Fp Non W w') := by
    rcases hb with ⟨rfl, y, hy, hT⟩ | ⟨rfl, rfl, hno⟩
    ·obtain ⟨ax, cx, e⟩ := hy.shape
     refine ⟨ax, _, cx, e, fun hr => ⟨rfl, fun W f => ?_⟩⟩
     have hyl : y = l := hT.one (tree_keep ((right_iff l).1 hr).tr)
     subst hyl
     have := rSameN_c _ _ y y W (hy.non f) (HL.out.non (K6.out.now.1.1.then f)) (by have := HLF.out.1; omega) (by have := HLF.out.1; omega)
     rwa [decide_eq_true rfl] at this
    ·exact ⟨none, 0, 0, rfl, fun hr => absurd (tree_keep ((right_iff l).1 hr).tr) (hno l)⟩
   obtain ⟨ax, nx, cx, rfl, hgo⟩ := hgo
   have HGO := Lib.hid hgo
   have hrr := fun W (f : Fp Non w W) => rRightN_g _ l W (HL.out.non f) (few_sp HLF.out)
   obtain ⟨rl, hrl⟩ : ∃ rl, right l = rl := ⟨_, rfl⟩
   rw [hrl] at hrr HGO
   have HRL := Lib.hid hrr
   clear hf hb hgo hrr hrl K5 HTR
   go_wp2_with fail
   refine (HRL.out _ K6.out.now.1.1).mono ?_
   rintro e w7 ⟨rfl, hf⟩
   have K7 := Lib.hid (K6.out.later hf)
   have F67 := Lib.hid hf
   clear hf
   have hmid : Hid True := trivial
   cases rl with
   | false =>
    obtain ⟨s0, s1⟩ := boxP2 K7.out.now.1.2
    go_wp2_with fail
    have hst := one_sto (HV.out.non K7.out.now.1.1)
    have K8 := Lib.hid (K7.out.later (fp_alloc w7 (.cells #[.slice bn n cn, .slice bt m ct] TST)))
    have htr := Tree_c _ _ _ hst (by simp) (fun x hx => by rw [List.mem_singleton.1 hx]; exact HSF.out.sfew)
    have HTR := Lib.hid htr
    clear hst htr K7 s0 s1
    refine HTR.out.mono ?_
    rintro e w8 ⟨⟨vy, b, rfl, hb⟩, hf⟩
    have K9 := Lib.hid (K8.out.later hf)
    clear hf K8 HTR
    rcases hb with ⟨rfl, y, hy, hT⟩ | ⟨rfl, rfl, hno⟩
    ·obtain ⟨hky, hSR⟩ := keep_tree hT
     have hyt := tr_few hT.tree
     have hkc := fun W (f : Fp Non w8 W) => Keep_c _ y W (hy.non f) (by have := hT.tree.most; omega)
     rw [hky] at hkc
     have hsm := fun W (vk : Value) (hk : Sto W vk s) (f : Fp Non w W) => rSameS_c vk (.agg #[.slice bn n cn, .slice bt m ct]) s s W hk (HV.out.non f) (by have := (fewDo HSF.out).2.2.1; omega) (by have := (fewDo HSF.out).2.2.1; omega) (by have := (fewDo HSF.out).2.2.2; omega) (by have := (fewDo HSF.out).2.2.2; omega)
     simp only [decide_true] at hsm
     have hrr : ∀ W, Fp Non w W → Calls Tryz.prog 20 #[.agg #[.slice bn n cn, .slice bt m ct]] W fun e w' => e = .returned (.bool true) ∧ Fp Non W w' := fun W f => by
      refine (rRightS_c _ s W (HV.out.non f) (fewDo HSF.out).1 (by have := (fewDo HSF.out).2.2.1; omega) (fewDo HSF.out).2.1 (by have := (fewDo HSF.out).2.2.2; omega)).mono ?_
      rintro e w' ⟨⟨b, rfl, hb⟩, hf⟩
      rw [hb hSR]
      exact ⟨rfl, hf⟩
     obtain ⟨ay, cy, hsh⟩ := hy.shape
     subst hsh
     obtain ⟨ny, hny⟩ : ∃ ny, ny = y.length := ⟨_, rfl⟩
     rw [← hny] at hkc ⊢
     have HKP := Lib.hid (fun W (f : Fp Non w W) (g : Fp Non w8 W) => hkc W g)
     have HSM := Lib.hid hsm
     have HRR := Lib.hid hrr
     have KD := Lib.hid (Kp.and (Kp.fp (K9.out.now.1.1.then (Fp.refl Non w8).drew)) (Kp.and (Kp.row ((Fp.refl Non w8).drew.heap K9.out.now.1.2 (fun h => h))) (Kp.fp (Fp.refl Non w8).drew)))
     clear hkc hsm hrr hy hT hky hSR hyt hny K9
     go_wp2_with fail
     refine wp_region_held_drew (S := (fun w' => w'.cell? ⟨w.heap.size, 0, none⟩ = some (.slice bn n cn) ∧ w'.cell? ⟨w.heap.size, 1, none⟩ = some (.slice bt m ct))) (by kernel_rfl) ?_ (fun hHeld => ?_)
     ·exact boxP2 KD.out.now.2.1
     generalize w8.drew = u0 at *
     refine tk 0 (v := ?_) hHeld (fun w hSw => ?_) ?_; rotate_left
     ·(try dsimp only at hSw); obtain ⟨s0, s1⟩ := hSw; go_simp; try with_reducible rfl
     try simp only [zP, zN, zS, zT, zU]
     refine tk 1 (v := ?_) hHeld (fun w hSw => ?_) ?_; rotate_left
     ·(try dsimp only at hSw); obtain ⟨s0, s1⟩ := hSw; go_simp; try with_reducible rfl
     try simp only [zP, zN, zS, zT, zU]
     refine tk 2 (v := ?_) hHeld (fun w hSw => ?_) ?_; rotate_left
     ·(try dsimp only at hSw); obtain ⟨s0, s1⟩ := hSw; go_simp; try with_reducible rfl
     try simp only [zP, zN, zS, zT, zU]
     refine tk 4 (v := ?_) hHeld (fun w hSw => ?_) ?_; rotate_left
     ·(try dsimp only at hSw); obtain ⟨s0, s1⟩ := hSw; go_simp; try with_reducible rfl
     try simp only [zP, zN, zS, zT, zU]
     refine wpAnyH_ready (rs := [3]) (by kernel_rfl) (by simp) ?_
     refine AllReadyH.cons (o := ?_) (by simp only [zA, zB, zC] <;> exact rfl) (fun K hK => ?_) AllReadyH.nil
     go_simp
     go_at_call 32
     refine (HKP.out _ KD.out.now.1 KD.out.now.2.2).mono ?_
     rintro e u1 ⟨⟨vk, rfl, hk⟩, hf⟩
     have KE := Lib.hid ((KD.out.later hf).and (Kp.sto hk))
     obtain ⟨kn', kt', rfl, hk1, hk2⟩ := hk.ex
     obtain ⟨ka, kc, rfl⟩ := hk1.shape
     obtain ⟨kb, kd, rfl⟩ := hk2.shape
     clear hf hk hk1 hk2
     go_wp2_with fail
     refine hK.out _ _ (boxP2 KE.out.now.1.2.1) (fun hHeld => ?_)
     clear hK K
     try simp only [zP, zN, zS, zT, zU]
     refine wpAnyH_ready (rs := [5]) (by kernel_rfl) (by simp) ?_
     refine AllReadyH.cons (o := ?_) (by simp only [zA, zB, zC] <;> exact rfl) (fun K hK => ?_) AllReadyH.nil
     go_simp
     go_at_call 23
     refine (HSM.out _ _ KE.out.now.2 KE.out.now.1.1).mono ?_
     rintro e u2 ⟨rfl, hf⟩
     have KF := Lib.hid (KE.out.later hf)
     clear hf
     go_wp2_with fail
     refine hK.out _ _ (boxP2 KF.out.now.1.2.1) (fun hHeld => ?_)
     clear hK K
     try simp only [zP, zN, zS, zT, zU]
     refine tk 6 (v := ?_) hHeld (fun w hSw => ?_) ?_; rotate_left
     ·(try dsimp only at hSw); obtain ⟨s0, s1⟩ := hSw; go_simp; try with_reducible rfl
     try simp only [zP, zN, zS, zT, zU]
     refine tk 7 (v := ?_) hHeld (fun w hSw => ?_) ?_; rotate_left
     ·(try dsimp only at hSw); obtain ⟨s0, s1⟩ := hSw; go_simp; try with_reducible rfl
     try simp only [zP, zN, zS, zT, zU]
     refine tk 8 (v := ?_) hHeld (fun w hSw => ?_) ?_; rotate_left
     ·(try dsimp only at hSw); obtain ⟨s0, s1⟩ := hSw; go_simp; try with_reducible rfl
     try simp only [zP, zN, zS, zT, zU]
     refine wpAnyH_ready (rs := [9]) (by kernel_rfl) (by simp) ?_
     refine AllReadyH.cons (o := ?_) (by simp only [zA, zB, zC] <;> exact rfl) (fun K hK => ?_) AllReadyH.nil
     go_simp
     go_at_call 20
     refine (HRR.out _ KF.out.now.1.1).mono ?_
     rintro e u3 ⟨rfl, hf⟩
     have KG := Lib.hid (KF.out.later hf)
     clear hf
     go_wp2_with fail
     refine hK.out _ _ (boxP2 KG.out.now.1.2.1) (fun hHeld => ?_)
     clear hK K
     try simp only [zP, zN, zS, zT, zU]
     refine tk 10 (v := ?_) hHeld (fun w hSw => ?_) ?_; rotate_left
     ·(try dsimp only at hSw); obtain ⟨s0, s1⟩ := hSw; go_simp; try with_reducible rfl
     try simp only [zP, zN, zS, zT, zU]
     refine tk 11 (v := ?_) hHeld (fun w hSw => ?_) ?_; rotate_left
     ·(try dsimp only at hSw); obtain ⟨s0, s1⟩ := hSw; go_simp; try with_reducible rfl
     try simp only [zP, zN, zS, zT, zU]
     refine wpAnyH_done (by kernel_rfl) ?_ _
     have F := Lib.hid KG.out.now.1.1
     go_wp2
     go_ret
     exact ⟨rfl, F.out⟩
    ·clear hno
     have F := Lib.hid K9.out.now.1.1
     go_wp2
     go_ret
     exact ⟨rfl, F.out⟩
   | true =>
    obtain ⟨hbt, _⟩ := HGO.out (by first | rfl | trivial)
    subst hbt
    go_wp2_with fail
    refine ((HGO.out (by first | rfl | trivial)).2 _ F67.out).mono ?_
    rintro e w7b ⟨rfl, hf⟩
    have K7 := Lib.hid (K7.out.later hf)
    clear hf
    obtain ⟨s0, s1⟩ := boxP2 K7.out.now.1.2
    go_wp2_with fail
    have hst := one_sto (HV.out.non K7.out.now.1.1)
    have K8 := Lib.hid (K7.out.later (fp_alloc w7b (.cells #[.slice bn n cn, .slice bt m ct] TST)))
    have htr := Tree_c _ _ _ hst (by simp) (fun x hx => by rw [List.mem_singleton.1 hx]; exact HSF.out.sfew)
    have HTR := Lib.hid htr
    clear hst htr K7 s0 s1
    refine HTR.out.mono ?_
    rintro e w8 ⟨⟨vy, b, rfl, hb⟩, hf⟩
    have K9 := Lib.hid (K8.out.later hf)
    clear hf K8 HTR
    rcases hb with ⟨rfl, y, hy, hT⟩ | ⟨rfl, rfl, hno⟩
    ·obtain ⟨hky, hSR⟩ := keep_tree hT
     have hyt := tr_few hT.tree
     have hkc := fun W (f : Fp Non w8 W) => Keep_c _ y W (hy.non f) (by have := hT.tree.most; omega)
     rw [hky] at hkc
     have hsm := fun W (vk : Value) (hk : Sto W vk s) (f : Fp Non w W) => rSameS_c vk (.agg #[.slice bn n cn, .slice bt m ct]) s s W hk (HV.out.non f) (by have := (fewDo HSF.out).2.2.1; omega) (by have := (fewDo HSF.out).2.2.1; omega) (by have := (fewDo HSF.out).2.2.2; omega) (by have := (fewDo HSF.out).2.2.2; omega)
     simp only [decide_true] at hsm
     have hrr : ∀ W, Fp Non w W → Calls Tryz.prog 20 #[.agg #[.slice bn n cn, .slice bt m ct]] W fun e w' => e = .returned (.bool true) ∧ Fp Non W w' := fun W f => by
      refine (rRightS_c _ s W (HV.out.non f) (fewDo HSF.out).1 (by have := (fewDo HSF.out).2.2.1; omega) (fewDo HSF.out).2.1 (by have := (fewDo HSF.out).2.2.2; omega)).mono ?_
      rintro e w' ⟨⟨b, rfl, hb⟩, hf⟩
      rw [hb hSR]
      exact ⟨rfl, hf⟩
     obtain ⟨ay, cy, hsh⟩ := hy.shape
     subst hsh
     obtain ⟨ny, hny⟩ : ∃ ny, ny = y.length := ⟨_, rfl⟩
     rw [← hny] at hkc ⊢
     have HKP := Lib.hid (fun W (f : Fp Non w W) (g : Fp Non w8 W) => hkc W g)
     have HSM := Lib.hid hsm
     have HRR := Lib.hid hrr
     have KD := Lib.hid (Kp.and (Kp.fp (K9.out.now.1.1.then (Fp.refl Non w8).drew)) (Kp.and (Kp.row ((Fp.refl Non w8).drew.heap K9.out.now.1.2 (fun h => h))) (Kp.fp (Fp.refl Non w8).drew)))
     clear hkc hsm hrr hy hT hky hSR hyt hny K9
     go_wp2_with fail
     refine wp_region_held_drew (S := (fun w' => w'.cell? ⟨w.heap.size, 0, none⟩ = some (.slice bn n cn) ∧ w'.cell? ⟨w.heap.size, 1, none⟩ = some (.slice bt m ct))) (by kernel_rfl) ?_ (fun hHeld => ?_)
     ·exact boxP2 KD.out.now.2.1
     generalize w8.drew = u0 at *
     refine tk 0 (v := ?_) hHeld (fun w hSw => ?_) ?_; rotate_left
     ·(try dsimp only at hSw); obtain ⟨s0, s1⟩ := hSw; go_simp; try with_reducible rfl
     try simp only [zP, zN, zS, zT, zU]
     refine tk 1 (v := ?_) hHeld (fun w hSw => ?_) ?_; rotate_left
     ·(try dsimp only at hSw); obtain ⟨s0, s1⟩ := hSw; go_simp; try with_reducible rfl
     try simp only [zP, zN, zS, zT, zU]
     refine tk 2 (v := ?_) hHeld (fun w hSw => ?_) ?_; rotate_left
     ·(try dsimp only at hSw); obtain ⟨s0, s1⟩ := hSw; go_simp; try with_reducible rfl
     try simp only [zP, zN, zS, zT, zU]
     refine tk 4 (v := ?_) hHeld (fun w hSw => ?_) ?_; rotate_left
     ·(try dsimp only at hSw); obtain ⟨s0, s1⟩ := hSw; go_simp; try with_reducible rfl
     try simp only [zP, zN, zS, zT, zU]
     refine wpAnyH_ready (rs := [3]) (by kernel_rfl) (by simp) ?_
     refine AllReadyH.cons (o := ?_) (by simp only [zA, zB, zC] <;> exact rfl) (fun K hK => ?_) AllReadyH.nil
     go_simp
     go_at_call 32
     refine (HKP.out _ KD.out.now.1 KD.out.now.2.2).mono ?_
     rintro e u1 ⟨⟨vk, rfl, hk⟩, hf⟩
     have KE := Lib.hid ((KD.out.later hf).and (Kp.sto hk))
     obtain ⟨kn', kt', rfl, hk1, hk2⟩ := hk.ex
     obtain ⟨ka, kc, rfl⟩ := hk1.shape
     obtain ⟨kb, kd, rfl⟩ := hk2.shape
     clear hf hk hk1 hk2
     go_wp2_with fail
     refine hK.out _ _ (boxP2 KE.out.now.1.2.1) (fun hHeld => ?_)
     clear hK K
     try simp only [zP, zN, zS, zT, zU]
     refine wpAnyH_ready (rs := [5]) (by kernel_rfl) (by simp) ?_
     refine AllReadyH.cons (o := ?_) (by simp only [zA, zB, zC] <;> exact rfl) (fun K hK => ?_) AllReadyH.nil
     go_simp
     go_at_call 23
     refine (HSM.out _ _ KE.out.now.2 KE.out.now.1.1).mono ?_
     rintro e u2 ⟨rfl, hf⟩
     have KF := Lib.hid (KE.out.later hf)
     clear hf
     go_wp2_with fail
     refine hK.out _ _ (boxP2 KF.out.now.1.2.1) (fun hHeld => ?_)
     clear hK K
     try simp only [zP, zN, zS, zT, zU]
     refine tk 6 (v := ?_) hHeld (fun w hSw => ?_) ?_; rotate_left
     ·(try dsimp only at hSw); obtain ⟨s0, s1⟩ := hSw; go_simp; try with_reducible rfl
     try simp only [zP, zN, zS, zT, zU]
     refine tk 7 (v := ?_) hHeld (fun w hSw => ?_) ?_; rotate_left
     ·(try dsimp only at hSw); obtain ⟨s0, s1⟩ := hSw; go_simp; try with_reducible rfl
     try simp only [zP, zN, zS, zT, zU]
     refine tk 8 (v := ?_) hHeld (fun w hSw => ?_) ?_; rotate_left
     ·(try dsimp only at hSw); obtain ⟨s0, s1⟩ := hSw; go_simp; try with_reducible rfl
     try simp only [zP, zN, zS, zT, zU]
     refine wpAnyH_ready (rs := [9]) (by kernel_rfl) (by simp) ?_
     refine AllReadyH.cons (o := ?_) (by simp only [zA, zB, zC] <;> exact rfl) (fun K hK => ?_) AllReadyH.nil
     go_simp
     go_at_call 20
     refine (HRR.out _ KF.out.now.1.1).mono ?_
     rintro e u3 ⟨rfl, hf⟩
     have KG := Lib.hid (KF.out.later hf)
     clear hf
     go_wp2_with fail
     refine hK.out _ _ (boxP2 KG.out.now.1.2.1) (fun hHeld => ?_)
     clear hK K
     try simp only [zP, zN, zS, zT, zU]
     refine tk 10 (v := ?_) hHeld (fun w hSw => ?_) ?_; rotate_left
     ·(try dsimp only at hSw); obtain ⟨s0, s1⟩ := hSw; go_simp; try with_reducible rfl
     try simp only [zP, zN, zS, zT, zU]
     refine tk 11 (v := ?_) hHeld (fun w hSw => ?_) ?_; rotate_left
     ·(try dsimp only at hSw); obtain ⟨s0, s1⟩ := hSw; go_simp; try with_reducible rfl
     try simp only [zP, zN, zS, zT, zU]
     refine wpAnyH_done (by kernel_rfl) ?_ _
     have F := Lib.hid KG.out.now.1.1
     go_wp2
     go_ret
     exact ⟨rfl, F.out⟩
    ·clear hno
     have F := Lib.hid K9.out.now.1.1
     go_wp2
     go_ret
     exact ⟨rfl, F.out⟩
end Go.Proofs.YtphoglepiegeiaaGreatDoor
