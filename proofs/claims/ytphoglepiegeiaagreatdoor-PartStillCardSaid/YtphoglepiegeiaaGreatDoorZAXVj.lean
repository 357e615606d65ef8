/- A text of this proof. -/
import Derived.Deep.CutRange
import Derived.Test.YtphoglepiegeiaaGreatDoorZAXVi
namespace Go.Proofs.YtphoglepiegeiaaGreatDoor
set_option linter.unusedSimpArgs false
set_option linter.unusedVariables false
set_option maxRecDepth 20000
set_option linter.unusedVariables false
set_option linter.unusedSimpArgs false
open Go.RowKit Pm
theorem still_way (s : St) (x : Pt) : (StR s ∧ mayP x = true ∧ applyP s x = doP s x) ∨ applyP s x = (⟨[], []⟩, .bad 1) := by
 by_cases h : rightS s = true ∧ mayP x = true
 ·exact .inl ⟨(rightS_iff s).1 h.1, h.2, applyP_yes ((rightS_iff s).1 h.1) h.2⟩
 ·exact .inr (applyP_no h)
theorem still_arg {s : St} {x : Pt} (h : (applyP s x).2.err = 1) : (applyP s x).1 = ⟨[], []⟩ := by
 rcases still_way s x with ⟨_, _, e⟩ | e
 ·rw [e] at h; exact absurd h (doP_err s x).1
 ·rw [e]
theorem still_same {s : St} {x : Pt} (h1 : (applyP s x).2.err ≠ 1) (h : (applyP s x).2.err ≠ 0 ∨ x.kind = 1 ∨ x.kind = 6 ∨ x.kind = 7 ∨ x.kind = 8 ∨ x.kind = 9) : (applyP s x).1 = s := by
 rcases still_way s x with ⟨_, _, e⟩ | e
 ·rw [e] at h ⊢
  rcases h with h | h
  ·exact ((doP_err s x).2 h).1
  ·exact doP_asks h
 ·rw [e] at h1; exact absurd rfl h1
theorem still_right {s : St} {x : Pt} (h : (applyP s x).2.err = 0) : StR (applyP s x).1 := by
 rcases still_way s x with ⟨h1, h2, e⟩ | e
 ·rw [e]; exact h1.doP h2
 ·rw [e] at h; exact absurd h (by decide)
theorem still_len (s : St) (x : Pt) (hn : s.nodes.length ≤ 3900) (ht : s.turns.length ≤ 3900) : (applyP s x).1.nodes.length ≤ 4000 ∧ (applyP s x).1.turns.length ≤ 4000 := by
 have fl : ∀ q : Nd → Bool, (s.nodes.filter q).length ≤ 3900 := fun q => Nat.le_trans (List.length_filter_le _ _) hn
 have st := fun p n => setT_len s.turns p n
 rcases still_way s x with ⟨_, _, e⟩ | e
 ·rw [e]
  unfold doP
  split
  ·unfold putS
   split
   ·exact ⟨by simp only; omega, by simp only; omega⟩
   ·split
    ·exact ⟨by simp only; omega, by simp only; omega⟩
    ·refine ⟨by simp only [ins_length]; omega, ?_⟩
     simp only
     split
     ·have := st x.dir (turnOf s.turns x.dir + 1); omega
     ·omega
  split
  ·split
   ·exact ⟨by simp only; omega, by have := st x.path 0; simp only; omega⟩
   ·exact ⟨by simp only; omega, by simp only; omega⟩
  split
  ·exact ⟨by simp only; omega, by simp only; omega⟩
  split
  ·exact ⟨by have := fl (fun n => !cleared x n); simp only; omega, by simp only; omega⟩
  split
  ·exact ⟨by simp only; omega, by simp only; omega⟩
  have el : ∀ k, (s.nodes.eraseIdx k).length ≤ 3900 := fun k => by rw [List.length_eraseIdx]; split <;> omega
  repeat' split
  all_goals first
   | exact ⟨by simp only; omega, by simp only; omega⟩
   | exact ⟨by have := el (place s.nodes x.path); simp only; omega, by simp only; omega⟩
   | exact ⟨by simp only [List.length_set]; omega, by simp only; omega⟩
 ·rw [e]; simp
set_option maxHeartbeats 16000000 in
theorem PartStill_c (v : Value) (s : St) (x : Pt) (w : World) (hv : Sto w v s) (hn : s.nodes.length ≤ 140737488355328) (hm : s.turns.length ≤ 140737488355328) (ht : Tab w) :
  Calls Tryz.prog 6 #[v, ptV x] w fun e w' => e = .returned (.bool true) ∧ Fp Non w w' := by
 have HV := Lib.hid hv
 have HTab := Lib.hid ht
 have HNM := Lib.hid (And.intro hn hm)
 have hgp := fun W => GreatPart_c x W
 obtain ⟨xk, xd, xp, xa, xv, xo, xt⟩ := x
 obtain ⟨vn, vt, rfl, h1, h2⟩ := hv.ex
 obtain ⟨an, cn, rfl⟩ := h1.shape
 obtain ⟨at_, ct, rfl⟩ := h2.shape
 obtain ⟨n, hnn⟩ : ∃ n, n = s.nodes.length := ⟨_, rfl⟩
 obtain ⟨m, hmm⟩ : ∃ m, m = s.turns.length := ⟨_, rfl⟩
 rw [← hnn, ← hmm] at HV
 have HNL := Lib.hid hnn
 have HML := Lib.hid hmm
 rw [← hnn, ← hmm]
 unfold ptV strV at *
 simp only at *
 have f1 := fp_alloc w (.cells #[.slice an n cn, .slice at_ m ct] TST)
 have f2 := fp_alloc (w.alloc (.cells #[.slice an n cn, .slice at_ m ct] TST)) (.cells #[.int .i64 xk, .string (B xd), .string (B xp), .string (B xa), .int .i64 xv, .int .i64 xo, .bool xt] TP)
 have r1 := f2.heap (heap_alloc_new w (.cells #[.slice an n cn, .slice at_ m ct] TST)) (fun h => h)
 have r2 := heap_alloc_new (w.alloc (.cells #[.slice an n cn, .slice at_ m ct] TST)) (.cells #[.int .i64 xk, .string (B xd), .string (B xp), .string (B xa), .int .i64 xv, .int .i64 xo, .bool xt] TP)
 rw [show (w.alloc (.cells #[.slice an n cn, .slice at_ m ct] TST)).heap.size = w.heap.size + 1 from by simp] at r2
 have K0 := Lib.hid (Kp.and (Kp.fp (f1.then f2)) (Kp.and (Kp.row r1) (Kp.row r2)))
 have HGP := Lib.hid hgp
 have hcc := fun W f => GreatS_c (.agg #[.slice an n cn, .slice at_ m ct]) s W (HV.out.non f) hn hm
 have HGR := Lib.hid hcc
 clear f1 f2 r1 r2 hgp h1 h2 hv ht hn hm hnn hmm hcc
 go_enter Tryz.func6, Tryz.ntmps6
 go_wp2_with fail
 refine (head7_c _ (HTab.out.non K0.out.now.1)).mono ?_
 rintro e w1 ⟨rfl, hf⟩
 have K1 := Lib.hid (K0.out.later hf)
 clear hf K0
 obtain ⟨s0, s1⟩ := boxP2 K1.out.now.2.1
 go_wp2_with fail
 refine (HGR.out _ K1.out.now.1).mono ?_
 rintro e w2 ⟨g, rfl, hg, hf⟩
 have K2 := Lib.hid (K1.out.later hf)
 have HG := Lib.hid hg
 clear hf hg K1 s0 s1
 obtain ⟨s0, s1⟩ := boxP2 K2.out.now.2.1
 obtain ⟨p0, p1, p2, p3, p4, p5, p6⟩ := boxP7 K2.out.now.2.2
 cases g with
 | true =>
  go_wp2
  go_ret
  exact ⟨rfl, K2.out.now.1⟩
 | false =>
  have HFew := Lib.hid (HG.out (by first | rfl | trivial))
  clear HG
  go_wp2_with fail
  refine (HGP.out _).mono ?_
  rintro e w3 ⟨g, rfl, hg, hf⟩
  have K3 := Lib.hid (K2.out.later hf)
  have HG := Lib.hid hg
  clear hf hg K2 s0 s1 p0 p1 p2 p3 p4 p5 p6
  obtain ⟨s0, s1⟩ := boxP2 K3.out.now.2.1
  obtain ⟨p0, p1, p2, p3, p4, p5, p6⟩ := boxP7 K3.out.now.2.2
  cases g with
  | true =>
   go_wp2
   go_ret
   exact ⟨rfl, K3.out.now.1⟩
  | false =>
   have HPL := Lib.hid (HG.out (by first | rfl | trivial))
   clear HG
   have hrr := rRightS_c (.agg #[.slice an n cn, .slice at_ m ct]) s w3 (HV.out.non K3.out.now.1) (fewDo HFew.out).1 (by have := (fewDo HFew.out).2.2.1; omega) (fewDo HFew.out).2.1 (by have := (fewDo HFew.out).2.2.2; omega)
   have HRR := Lib.hid hrr
   clear hrr
   go_wp2_with fail
   refine HRR.out.mono ?_
   rintro e w4 ⟨⟨g, rfl, hg⟩, hf⟩
   have K4 := Lib.hid (K3.out.later hf)
   clear hf hg K3 HRR s0 s1 p0 p1 p2 p3 p4 p5 p6
   obtain ⟨s0, s1⟩ := boxP2 K4.out.now.2.1
   obtain ⟨p0, p1, p2, p3, p4, p5, p6⟩ := boxP7 K4.out.now.2.2
   cases g with
   | false =>
    go_wp2
    go_ret
    exact ⟨rfl, K4.out.now.1⟩
   | true =>
    go_upto_region 4 with (fail)
    clear s0 s1 p0 p1 p2 p3 p4 p5 p6
    go_cut [6] from 23 to 31 (fun x6 wc => ∃ b6 an6 cn6 at6 ct6, x6 = .pointer (some ⟨b6, 0, none⟩) ∧ Hid (Kp (fun W => (Fp Non w W ∧ W.heap[w.heap.size]? = some (.cells #[.slice an n cn, .slice at_ m ct] TST (0, 0)) ∧ W.heap[w.heap.size + 1]? = some (.cells #[.int .i64 xk, .string (B xd), .string (B xp), .string (B xa), .int .i64 xv, .int .i64 xo, .bool xt] TP (0, 0))) ∧ W.heap[b6]? = some (.cells #[.slice an6 n cn6, .slice at6 m ct6] TST (0, 0)) ∧ Sto W (.agg #[.slice an6 n cn6, .slice at6 m ct6]) s) wc))
    case first =>
     have KK0 := Lib.hid (K4.out.later (Fp.refl Non w4).drew)
     have Hq := Lib.hid (fun W (f : Fp Non w4.drew W) => boxP2 (KK0.out.later f).now.2.1)
     have hsn : Ns w4.drew (.slice an n cn) s.nodes ∧ Ts w4.drew (.slice at_ m ct) s.turns := by
      obtain ⟨vn', vt', he, h1, h2⟩ := (HV.out.non KK0.out.now.1).ex
      injection he with he
      injection he with he
      injection he with he1 he
      injection he with he2 _
      subst he1 he2
      exact ⟨h1, h2⟩
     have HSN := Lib.hid hsn.1
     have HST := Lib.hid hsn.2
     have HLN := Lib.hid (show s.nodes.length ≤ 90000 by have := HFew.out.nodes.1; omega)
     have HLT := Lib.hid (show s.turns.length ≤ 90000 by have := HFew.out.turns.1; omega)
     have ST0 := Lib.hid (Bst.start w4.drew)
     clear hsn
     go_wp2_with fail
     refine wp_region_held_drew (S := (fun w' => w'.cell? ⟨w.heap.size, 0, none⟩ = some (.slice an n cn) ∧ w'.cell? ⟨w.heap.size, 1, none⟩ = some (.slice at_ m ct))) (by kernel_rfl) ?_ (fun hHeld => ?_)
     ·exact Hq.out _ (Fp.refl _ _)
     generalize w4.drew = u0 at *
     refine tk 1 (v := ?_) hHeld (fun w hSw => ?_) ?_; rotate_left
     ·(try dsimp only at hSw); obtain ⟨s0, s1⟩ := hSw; go_simp; try with_reducible rfl
     try simp only [zP, zN, zS, zT, zU]
     refine tk 2 (v := ?_) hHeld (fun w hSw => ?_) ?_; rotate_left
     ·(try dsimp only at hSw); obtain ⟨s0, s1⟩ := hSw; go_simp; try with_reducible rfl
     try simp only [zP, zN, zS, zT, zU]
     refine tk 5 (v := ?_) hHeld (fun w hSw => ?_) ?_; rotate_left
     ·(try dsimp only at hSw); obtain ⟨s0, s1⟩ := hSw; go_simp; try with_reducible rfl
     try simp only [zP, zN, zS, zT, zU]
     refine tk 6 (v := ?_) hHeld (fun w hSw => ?_) ?_; rotate_left
     ·(try dsimp only at hSw); obtain ⟨s0, s1⟩ := hSw; go_simp; try with_reducible rfl
     try simp only [zP, zN, zS, zT, zU]
     refine wpAnyH_ready (rs := [0, 4, 9]) (by kernel_rfl) (by simp) ?_
     refine (AllReadyH.cons (o := ?_) (by simp only [zA, zB, zC] <;> exact rfl) (fun K hK => ?_) (AllReadyH.cons (o := ?_) (by simp only [zA, zB, zC] <;> exact rfl) (fun K hK => ?_) (AllReadyH.cons (o := ?_) (by simp only [zA, zB, zC] <;> exact rfl) (fun K hK => ?_) AllReadyH.nil)))
     ·go_simp
      have ST1 := Lib.hid ST0.out.buildN
      refine hK.out _ _ (Hq.out _ ST1.out.f) (fun hHeld => ?_)
      clear hK K
      try simp only [zP, zN, zS, zT, zU]
      obtain ⟨b1, hb1⟩ : ∃ q, u0.heap.size = q := ⟨_, rfl⟩
      rw [hb1] at ST1 ⊢
      clear hb1
      generalize (u0.alloc (.cells #[] TN)) = u1 at *
      refine wpAnyH_ready (rs := [3, 4, 9]) (by kernel_rfl) (by simp) ?_
      refine (AllReadyH.cons (o := ?_) (by simp only [zA, zB, zC] <;> exact rfl) (fun K hK => ?_) (AllReadyH.cons (o := ?_) (by simp only [zA, zB, zC] <;> exact rfl) (fun K hK => ?_) (AllReadyH.cons (o := ?_) (by simp only [zA, zB, zC] <;> exact rfl) (fun K hK => ?_) AllReadyH.nil)))
      ·have hap := ST1.out.appN (.slice an n cn) HSN.out HLN.out TL
       have HAP := Lib.hid hap
       clear hap
       refine step_app rfl _ _ TL TL rfl _ _ (by first | (simp [Act.eval, Act.put]; done) | rfl) (by first | (simp [Act.eval, Act.put]; done) | rfl) _ HAP.out ?_
       intro vN2 u2 hc
       clear HAP
       have ST2 := Lib.hid hc
       obtain ⟨a2, c2, hsh⟩ := ST2.out.n.ns.shape
       rw [← HNL.out] at hsh
       subst hsh
       clear hc
       refine hK.out _ _ (Hq.out _ ST2.out.f) (fun hHeld => ?_)
       clear hK K
       try simp only [zP, zN, zS, zT, zU]
       refine wpAnyH_ready (rs := [4, 9]) (by kernel_rfl) (by simp) ?_
       refine (AllReadyH.cons (o := ?_) (by simp only [zA, zB, zC] <;> exact rfl) (fun K hK => ?_) (AllReadyH.cons (o := ?_) (by simp only [zA, zB, zC] <;> exact rfl) (fun K hK => ?_) AllReadyH.nil))
       ·go_simp
        have ST3 := Lib.hid ST2.out.buildT
        refine hK.out _ _ (Hq.out _ ST3.out.f) (fun hHeld => ?_)
        clear hK K
        try simp only [zP, zN, zS, zT, zU]
        obtain ⟨b3, hb3⟩ : ∃ q, u2.heap.size = q := ⟨_, rfl⟩
        rw [hb3] at ST3 ⊢
        clear hb3
        generalize (u2.alloc (.cells #[] TU)) = u3 at *
        refine wpAnyH_ready (rs := [7, 9]) (by kernel_rfl) (by simp) ?_
        refine (AllReadyH.cons (o := ?_) (by simp only [zA, zB, zC] <;> exact rfl) (fun K hK => ?_) (AllReadyH.cons (o := ?_) (by simp only [zA, zB, zC] <;> exact rfl) (fun K hK => ?_) AllReadyH.nil))
        ·have hap := ST3.out.appT (.slice at_ m ct) HST.out HLT.out TUL
         have HAP := Lib.hid hap
         clear hap
         refine step_app rfl _ _ TUL TUL rfl _ _ (by first | (simp [Act.eval, Act.put]; done) | rfl) (by first | (simp [Act.eval, Act.put]; done) | rfl) _ HAP.out ?_
         intro vT4 u4 hc
         clear HAP
         have ST4 := Lib.hid hc
         obtain ⟨a4, c4, hsh⟩ := ST4.out.t.ns.shape
         rw [← HML.out] at hsh
         subst hsh
         clear hc
         refine hK.out _ _ (Hq.out _ ST4.out.f) (fun hHeld => ?_)
         clear hK K
         try simp only [zP, zN, zS, zT, zU]
         refine tk 8 (v := ?_) hHeld (fun w hSw => ?_) ?_; rotate_left
         ·(try dsimp only at hSw); obtain ⟨s0, s1⟩ := hSw; go_simp; try with_reducible rfl
         try simp only [zP, zN, zS, zT, zU]
         refine wpAnyH_ready (rs := [9]) (by kernel_rfl) (by simp) ?_
         refine (AllReadyH.cons (o := ?_) (by simp only [zA, zB, zC] <;> exact rfl) (fun K hK => ?_) AllReadyH.nil)
         go_simp
         have ST5 := Lib.hid ST4.out.box
         refine hK.out _ _ (Hq.out _ ST5.out.f) (fun hHeld => ?_)
         clear hK K
         try simp only [zP, zN, zS, zT, zU]
         obtain ⟨b6, hb6⟩ : ∃ q, u4.heap.size = q := ⟨_, rfl⟩
         rw [hb6] at ST5 ⊢
         clear hb6
         generalize (u4.alloc (.cells #[.slice none 0 0, .slice none 0 0] TST)) = u5 at *
         obtain ⟨y0, y1⟩ := boxP2 (ST5.out.x rfl).2
         have z0 := frozen_at (ST5.out.x rfl).2 0; have z1 := frozen_at (ST5.out.x rfl).2 1
         have HPT := Lib.hid ST5.out.put
         refine wpAnyH_ready (rs := [10]) (by kernel_rfl) (by simp) ?_
         refine (AllReadyH.cons (o := ?_) (by simp only [zA, zB, zC] <;> exact rfl) (fun K hK => ?_) AllReadyH.nil)
         go_simp
         refine hK.out _ _ (Hq.out _ HPT.out.1) (fun hHeld => ?_)
         clear hK K y0 y1 z0 z1 hHeld
         try simp only [zP, zN, zS, zT, zU]
         refine wpAnyH_done (by kernel_rfl) ?_ _
         go_wp2_with fail
         go_meet
         case rel => exact ⟨b6, _, _, _, _, rfl, KK0.out.later HPT.out.1 |>.and (Kp.and (Kp.row HPT.out.2.1) (Kp.sto HPT.out.2.2))⟩
        ·go_simp
         have ST6 := Lib.hid ST3.out.box
         refine hK.out _ _ (Hq.out _ ST6.out.f) (fun hHeld => ?_)
         clear hK K
         try simp only [zP, zN, zS, zT, zU]
         obtain ⟨b6, hb6⟩ : ∃ q, u3.heap.size = q := ⟨_, rfl⟩
         rw [hb6] at ST6 ⊢
         clear hb6
         generalize (u3.alloc (.cells #[.slice none 0 0, .slice none 0 0] TST)) = u6 at *
         refine wpAnyH_ready (rs := [7]) (by kernel_rfl) (by simp) ?_
         refine (AllReadyH.cons (o := ?_) (by simp only [zA, zB, zC] <;> exact rfl) (fun K hK => ?_) AllReadyH.nil)
         have hap := ST6.out.appT (.slice at_ m ct) HST.out HLT.out TUL
         have HAP := Lib.hid hap
         clear hap
         refine step_app rfl _ _ TUL TUL rfl _ _ (by first | (simp [Act.eval, Act.put]; done) | rfl) (by first | (simp [Act.eval, Act.put]; done) | rfl) _ HAP.out ?_
         intro vT7 u7 hc
         clear HAP
         have ST7 := Lib.hid hc
         obtain ⟨a7, c7, hsh⟩ := ST7.out.t.ns.shape
         rw [← HML.out] at hsh
         subst hsh
         clear hc
         refine hK.out _ _ (Hq.out _ ST7.out.f) (fun hHeld => ?_)
         clear hK K
         try simp only [zP, zN, zS, zT, zU]
         refine tk 8 (v := ?_) hHeld (fun w hSw => ?_) ?_; rotate_left
         ·(try dsimp only at hSw); obtain ⟨s0, s1⟩ := hSw; go_simp; try with_reducible rfl
         try simp only [zP, zN, zS, zT, zU]
         obtain ⟨y0, y1⟩ := boxP2 (ST7.out.x rfl).2
         have z0 := frozen_at (ST7.out.x rfl).2 0; have z1 := frozen_at (ST7.out.x rfl).2 1
         have HPT := Lib.hid ST7.out.put
         refine wpAnyH_ready (rs := [10]) (by kernel_rfl) (by simp) ?_
         refine (AllReadyH.cons (o := ?_) (by simp only [zA, zB, zC] <;> exact rfl) (fun K hK => ?_) AllReadyH.nil)
         go_simp
         refine hK.out _ _ (Hq.out _ HPT.out.1) (fun hHeld => ?_)
         clear hK K y0 y1 z0 z1 hHeld
         try simp only [zP, zN, zS, zT, zU]
         refine wpAnyH_done (by kernel_rfl) ?_ _
         go_wp2_with fail
         go_meet
         case rel => exact ⟨b6, _, _, _, _, rfl, KK0.out.later HPT.out.1 |>.and (Kp.and (Kp.row HPT.out.2.1) (Kp.sto HPT.out.2.2))⟩
       ·go_simp
        have ST8 := Lib.hid ST2.out.box
        refine hK.out _ _ (Hq.out _ ST8.out.f) (fun hHeld => ?_)
        clear hK K
        try simp only [zP, zN, zS, zT, zU]
        obtain ⟨b6, hb6⟩ : ∃ q, u2.heap.size = q := ⟨_, rfl⟩
        rw [hb6] at ST8 ⊢
        clear hb6
        generalize (u2.alloc (.cells #[.slice none 0 0, .slice none 0 0] TST)) = u8 at *
        refine wpAnyH_ready (rs := [4]) (by kernel_rfl) (by simp) ?_
        refine (AllReadyH.cons (o := ?_) (by simp only [zA, zB, zC] <;> exact rfl) (fun K hK => ?_) AllReadyH.nil)
        go_simp
        have ST9 := Lib.hid ST8.out.buildT
        refine hK.out _ _ (Hq.out _ ST9.out.f) (fun hHeld => ?_)
        clear hK K
        try simp only [zP, zN, zS, zT, zU]
        obtain ⟨b9, hb9⟩ : ∃ q, u8.heap.size = q := ⟨_, rfl⟩
        rw [hb9] at ST9 ⊢
        clear hb9
        generalize (u8.alloc (.cells #[] TU)) = u9 at *
        refine wpAnyH_ready (rs := [7]) (by kernel_rfl) (by simp) ?_
        refine (AllReadyH.cons (o := ?_) (by simp only [zA, zB, zC] <;> exact rfl) (fun K hK => ?_) AllReadyH.nil)
        have hap := ST9.out.appT (.slice at_ m ct) HST.out HLT.out TUL
        have HAP := Lib.hid hap
        clear hap
        refine step_app rfl _ _ TUL TUL rfl _ _ (by first | (simp [Act.eval, Act.put]; done) | rfl) (by first | (simp [Act.eval, Act.put]; done) | rfl) _ HAP.out ?_
        intro vT10 u10 hc
        clear HAP
        have ST10 := Lib.hid hc
        obtain ⟨a10, c10, hsh⟩ := ST10.out.t.ns.shape
        rw [← HML.out] at hsh
        subst hsh
        clear hc
        refine hK.out _ _ (Hq.out _ ST10.out.f) (fun hHeld => ?_)
        clear hK K
        try simp only [zP, zN, zS, zT, zU]
        refine tk 8 (v := ?_) hHeld (fun w hSw => ?_) ?_; rotate_left
        ·(try dsimp only at hSw); obtain ⟨s0, s1⟩ := hSw; go_simp; try with_reducible rfl
        try simp only [zP, zN, zS, zT, zU]
        obtain ⟨y0, y1⟩ := boxP2 (ST10.out.x rfl).2
        have z0 := frozen_at (ST10.out.x rfl).2 0; have z1 := frozen_at (ST10.out.x rfl).2 1
        have HPT := Lib.hid ST10.out.put
        refine wpAnyH_ready (rs := [10]) (by kernel_rfl) (by simp) ?_
        refine (AllReadyH.cons (o := ?_) (by simp only [zA, zB, zC] <;> exact rfl) (fun K hK => ?_) AllReadyH.nil)
        go_simp
        refine hK.out _ _ (Hq.out _ HPT.out.1) (fun hHeld => ?_)
        clear hK K y0 y1 z0 z1 hHeld
        try simp only [zP, zN, zS, zT, zU]
        refine wpAnyH_done (by kernel_rfl) ?_ _
        go_wp2_with fail
        go_meet
        case rel => exact ⟨b6, _, _, _, _, rfl, KK0.out.later HPT.out.1 |>.and (Kp.and (Kp.row HPT.out.2.1) (Kp.sto HPT.out.2.2))⟩
      ·go_simp
       have ST11 := Lib.hid ST1.out.buildT
       refine hK.out _ _ (Hq.out _ ST11.out.f) (fun hHeld => ?_)
       clear hK K
       try simp only [zP, zN, zS, zT, zU]
       obtain ⟨b11, hb11⟩ : ∃ q, u1.heap.size = q := ⟨_, rfl⟩
       rw [hb11] at ST11 ⊢
       clear hb11
       generalize (u1.alloc (.cells #[] TU)) = u11 at *
       refine wpAnyH_ready (rs := [3, 9]) (by kernel_rfl) (by simp) ?_
       refine (AllReadyH.cons (o := ?_) (by simp only [zA, zB, zC] <;> exact rfl) (fun K hK => ?_) (AllReadyH.cons (o := ?_) (by simp only [zA, zB, zC] <;> exact rfl) (fun K hK => ?_) AllReadyH.nil))
       ·have hap := ST11.out.appN (.slice an n cn) HSN.out HLN.out TL
        have HAP := Lib.hid hap
        clear hap
        refine step_app rfl _ _ TL TL rfl _ _ (by first | (simp [Act.eval, Act.put]; done) | rfl) (by first | (simp [Act.eval, Act.put]; done) | rfl) _ HAP.out ?_
        intro vN12 u12 hc
        clear HAP
        have ST12 := Lib.hid hc
        obtain ⟨a12, c12, hsh⟩ := ST12.out.n.ns.shape
        rw [← HNL.out] at hsh
        subst hsh
        clear hc
        refine hK.out _ _ (Hq.out _ ST12.out.f) (fun hHeld => ?_)
        clear hK K
        try simp only [zP, zN, zS, zT, zU]
        refine wpAnyH_ready (rs := [7, 9]) (by kernel_rfl) (by simp) ?_
        refine (AllReadyH.cons (o := ?_) (by simp only [zA, zB, zC] <;> exact rfl) (fun K hK => ?_) (AllReadyH.cons (o := ?_) (by simp only [zA, zB, zC] <;> exact rfl) (fun K hK => ?_) AllReadyH.nil))
        ·have hap := ST12.out.appT (.slice at_ m ct) HST.out HLT.out TUL
         have HAP := Lib.hid hap
         clear hap
         refine step_app rfl _ _ TUL TUL rfl _ _ (by first | (simp [Act.eval, Act.put]; done) | rfl) (by first | (simp [Act.eval, Act.put]; done) | rfl) _ HAP.out ?_
         intro vT13 u13 hc
         clear HAP
         have ST13 := Lib.hid hc
         obtain ⟨a13, c13, hsh⟩ := ST13.out.t.ns.shape
         rw [← HML.out] at hsh
         subst hsh
         clear hc
         refine hK.out _ _ (Hq.out _ ST13.out.f) (fun hHeld => ?_)
         clear hK K
         try simp only [zP, zN, zS, zT, zU]
         refine tk 8 (v := ?_) hHeld (fun w hSw => ?_) ?_; rotate_left
         ·(try dsimp only at hSw); obtain ⟨s0, s1⟩ := hSw; go_simp; try with_reducible rfl
         try simp only [zP, zN, zS, zT, zU]
         refine wpAnyH_ready (rs := [9]) (by kernel_rfl) (by simp) ?_
         refine (AllReadyH.cons (o := ?_) (by simp only [zA, zB, zC] <;> exact rfl) (fun K hK => ?_) AllReadyH.nil)
         go_simp
         have ST14 := Lib.hid ST13.out.box
         refine hK.out _ _ (Hq.out _ ST14.out.f) (fun hHeld => ?_)
         clear hK K
         try simp only [zP, zN, zS, zT, zU]
         obtain ⟨b6, hb6⟩ : ∃ q, u13.heap.size = q := ⟨_, rfl⟩
         rw [hb6] at ST14 ⊢
         clear hb6
         generalize (u13.alloc (.cells #[.slice none 0 0, .slice none 0 0] TST)) = u14 at *
         obtain ⟨y0, y1⟩ := boxP2 (ST14.out.x rfl).2
         have z0 := frozen_at (ST14.out.x rfl).2 0; have z1 := frozen_at (ST14.out.x rfl).2 1
         have HPT := Lib.hid ST14.out.put
         refine wpAnyH_ready (rs := [10]) (by kernel_rfl) (by simp) ?_
         refine (AllReadyH.cons (o := ?_) (by simp only [zA, zB, zC] <;> exact rfl) (fun K hK => ?_) AllReadyH.nil)
         go_simp
         refine hK.out _ _ (Hq.out _ HPT.out.1) (fun hHeld => ?_)
         clear hK K y0 y1 z0 z1 hHeld
         try simp only [zP, zN, zS, zT, zU]
         refine wpAnyH_done (by kernel_rfl) ?_ _
         go_wp2_with fail
         go_meet
         case rel => exact ⟨b6, _, _, _, _, rfl, KK0.out.later HPT.out.1 |>.and (Kp.and (Kp.row HPT.out.2.1) (Kp.sto HPT.out.2.2))⟩
        ·go_simp
         have ST15 := Lib.hid ST12.out.box
         refine hK.out _ _ (Hq.out _ ST15.out.f) (fun hHeld => ?_)
         clear hK K
         try simp only [zP, zN, zS, zT, zU]
         obtain ⟨b6, hb6⟩ : ∃ q, u12.heap.size = q := ⟨_, rfl⟩
         rw [hb6] at ST15 ⊢
         clear hb6
         generalize (u12.alloc (.cells #[.slice none 0 0, .slice none 0 0] TST)) = u15 at *
         refine wpAnyH_ready (rs := [7]) (by kernel_rfl) (by simp) ?_
         refine (AllReadyH.cons (o := ?_) (by simp only [zA, zB, zC] <;> exact rfl) (fun K hK => ?_) AllReadyH.nil)
         have hap := ST15.out.appT (.slice at_ m ct) HST.out HLT.out TUL
         have HAP := Lib.hid hap
         clear hap
         refine step_app rfl _ _ TUL TUL rfl _ _ (by first | (simp [Act.eval, Act.put]; done) | rfl) (by first | (simp [Act.eval, Act.put]; done) | rfl) _ HAP.out ?_
         intro vT16 u16 hc
         clear HAP
         have ST16 := Lib.hid hc
         obtain ⟨a16, c16, hsh⟩ := ST16.out.t.ns.shape
         rw [← HML.out] at hsh
         subst hsh
         clear hc
         refine hK.out _ _ (Hq.out _ ST16.out.f) (fun hHeld => ?_)
         clear hK K
         try simp only [zP, zN, zS, zT, zU]
         refine tk 8 (v := ?_) hHeld (fun w hSw => ?_) ?_; rotate_left
         ·(try dsimp only at hSw); obtain ⟨s0, s1⟩ := hSw; go_simp; try with_reducible rfl
         try simp only [zP, zN, zS, zT, zU]
         obtain ⟨y0, y1⟩ := boxP2 (ST16.out.x rfl).2
         have z0 := frozen_at (ST16.out.x rfl).2 0; have z1 := frozen_at (ST16.out.x rfl).2 1
         have HPT := Lib.hid ST16.out.put
         refine wpAnyH_ready (rs := [10]) (by kernel_rfl) (by simp) ?_
         refine (AllReadyH.cons (o := ?_) (by simp only [zA, zB, zC] <;> exact rfl) (fun K hK => ?_) AllReadyH.nil)
         go_simp
         refine hK.out _ _ (Hq.out _ HPT.out.1) (fun hHeld => ?_)
         clear hK K y0 y1 z0 z1 hHeld
         try simp only [zP, zN, zS, zT, zU]
         refine wpAnyH_done (by kernel_rfl) ?_ _
         go_wp2_with fail
         go_meet
         case rel => exact ⟨b6, _, _, _, _, rfl, KK0.out.later HPT.out.1 |>.and (Kp.and (Kp.row HPT.out.2.1) (Kp.sto HPT.out.2.2))⟩
       ·go_simp
        have ST17 := Lib.hid ST11.out.box
        refine hK.out _ _ (Hq.out _ ST17.out.f) (fun hHeld => ?_)
        clear hK K
        try simp only [zP, zN, zS, zT, zU]
        obtain ⟨b6, hb6⟩ : ∃ q, u11.heap.size = q := ⟨_, rfl⟩
        rw [hb6] at ST17 ⊢
        clear hb6
        generalize (u11.alloc (.cells #[.slice none 0 0, .slice none 0 0] TST)) = u17 at *
        refine wpAnyH_ready (rs := [3]) (by kernel_rfl) (by simp) ?_
        refine (AllReadyH.cons (o := ?_) (by simp only [zA, zB, zC] <;> exact rfl) (fun K hK => ?_) AllReadyH.nil)
        have hap := ST17.out.appN (.slice an n cn) HSN.out HLN.out TL
        have HAP := Lib.hid hap
        clear hap
        refine step_app rfl _ _ TL TL rfl _ _ (by first | (simp [Act.eval, Act.put]; done) | rfl) (by first | (simp [Act.eval, Act.put]; done) | rfl) _ HAP.out ?_
        intro vN18 u18 hc
        clear HAP
        have ST18 := Lib.hid hc
        obtain ⟨a18, c18, hsh⟩ := ST18.out.n.ns.shape
        rw [← HNL.out] at hsh
        subst hsh
        clear hc
        refine hK.out _ _ (Hq.out _ ST18.out.f) (fun hHeld => ?_)
        clear hK K
        try simp only [zP, zN, zS, zT, zU]
        refine wpAnyH_ready (rs := [7]) (by kernel_rfl) (by simp) ?_
        refine (AllReadyH.cons (o := ?_) (by simp only [zA, zB, zC] <;> exact rfl) (fun K hK => ?_) AllReadyH.nil)
        have hap := ST18.out.appT (.slice at_ m ct) HST.out HLT.out TUL
        have HAP := Lib.hid hap
        clear hap
        refine step_app rfl _ _ TUL TUL rfl _ _ (by first | (simp [Act.eval, Act.put]; done) | rfl) (by first | (simp [Act.eval, Act.put]; done) | rfl) _ HAP.out ?_
        intro vT19 u19 hc
        clear HAP
        have ST19 := Lib.hid hc
        obtain ⟨a19, c19, hsh⟩ := ST19.out.t.ns.shape
        rw [← HML.out] at hsh
        subst hsh
        clear hc
        refine hK.out _ _ (Hq.out _ ST19.out.f) (fun hHeld => ?_)
        clear hK K
        try simp only [zP, zN, zS, zT, zU]
        refine tk 8 (v := ?_) hHeld (fun w hSw => ?_) ?_; rotate_left
        ·(try dsimp only at hSw); obtain ⟨s0, s1⟩ := hSw; go_simp; try with_reducible rfl
        try simp only [zP, zN, zS, zT, zU]
        obtain ⟨y0, y1⟩ := boxP2 (ST19.out.x rfl).2
        have z0 := frozen_at (ST19.out.x rfl).2 0; have z1 := frozen_at (ST19.out.x rfl).2 1
        have HPT := Lib.hid ST19.out.put
        refine wpAnyH_ready (rs := [10]) (by kernel_rfl) (by simp) ?_
        refine (AllReadyH.cons (o := ?_) (by simp only [zA, zB, zC] <;> exact rfl) (fun K hK => ?_) AllReadyH.nil)
        go_simp
        refine hK.out _ _ (Hq.out _ HPT.out.1) (fun hHeld => ?_)
        clear hK K y0 y1 z0 z1 hHeld
        try simp only [zP, zN, zS, zT, zU]
        refine wpAnyH_done (by kernel_rfl) ?_ _
        go_wp2_with fail
        go_meet
        case rel => exact ⟨b6, _, _, _, _, rfl, KK0.out.later HPT.out.1 |>.and (Kp.and (Kp.row HPT.out.2.1) (Kp.sto HPT.out.2.2))⟩
      ·go_simp
       have ST20 := Lib.hid ST1.out.box
       refine hK.out _ _ (Hq.out _ ST20.out.f) (fun hHeld => ?_)
       clear hK K
       try simp only [zP, zN, zS, zT, zU]
       obtain ⟨b6, hb6⟩ : ∃ q, u1.heap.size = q := ⟨_, rfl⟩
       rw [hb6] at ST20 ⊢
       clear hb6
       generalize (u1.alloc (.cells #[.slice none 0 0, .slice none 0 0] TST)) = u20 at *
       refine wpAnyH_ready (rs := [3, 4]) (by kernel_rfl) (by simp) ?_
       refine (AllReadyH.cons (o := ?_) (by simp only [zA, zB, zC] <;> exact rfl) (fun K hK => ?_) (AllReadyH.cons (o := ?_) (by simp only [zA, zB, zC] <;> exact rfl) (fun K hK => ?_) AllReadyH.nil))
       ·have hap := ST20.out.appN (.slice an n cn) HSN.out HLN.out TL
        have HAP := Lib.hid hap
        clear hap
        refine step_app rfl _ _ TL TL rfl _ _ (by first | (simp [Act.eval, Act.put]; done) | rfl) (by first | (simp [Act.eval, Act.put]; done) | rfl) _ HAP.out ?_
        intro vN21 u21 hc
        clear HAP
        have ST21 := Lib.hid hc
        obtain ⟨a21, c21, hsh⟩ := ST21.out.n.ns.shape
        rw [← HNL.out] at hsh
        subst hsh
        clear hc
        refine hK.out _ _ (Hq.out _ ST21.out.f) (fun hHeld => ?_)
        clear hK K
        try simp only [zP, zN, zS, zT, zU]
        refine wpAnyH_ready (rs := [4]) (by kernel_rfl) (by simp) ?_
        refine (AllReadyH.cons (o := ?_) (by simp only [zA, zB, zC] <;> exact rfl) (fun K hK => ?_) AllReadyH.nil)
        go_simp
        have ST22 := Lib.hid ST21.out.buildT
        refine hK.out _ _ (Hq.out _ ST22.out.f) (fun hHeld => ?_)
        clear hK K
        try simp only [zP, zN, zS, zT, zU]
        obtain ⟨b22, hb22⟩ : ∃ q, u21.heap.size = q := ⟨_, rfl⟩
        rw [hb22] at ST22 ⊢
        clear hb22
        generalize (u21.alloc (.cells #[] TU)) = u22 at *
        refine wpAnyH_ready (rs := [7]) (by kernel_rfl) (by simp) ?_
        refine (AllReadyH.cons (o := ?_) (by simp only [zA, zB, zC] <;> exact rfl) (fun K hK => ?_) AllReadyH.nil)
        have hap := ST22.out.appT (.slice at_ m ct) HST.out HLT.out TUL
        have HAP := Lib.hid hap
        clear hap
        refine step_app rfl _ _ TUL TUL rfl _ _ (by first | (simp [Act.eval, Act.put]; done) | rfl) (by first | (simp [Act.eval, Act.put]; done) | rfl) _ HAP.out ?_
        intro vT23 u23 hc
        clear HAP
        have ST23 := Lib.hid hc
        obtain ⟨a23, c23, hsh⟩ := ST23.out.t.ns.shape
        rw [← HML.out] at hsh
        subst hsh
        clear hc
        refine hK.out _ _ (Hq.out _ ST23.out.f) (fun hHeld => ?_)
        clear hK K
        try simp only [zP, zN, zS, zT, zU]
        refine tk 8 (v := ?_) hHeld (fun w hSw => ?_) ?_; rotate_left
        ·(try dsimp only at hSw); obtain ⟨s0, s1⟩ := hSw; go_simp; try with_reducible rfl
        try simp only [zP, zN, zS, zT, zU]
        obtain ⟨y0, y1⟩ := boxP2 (ST23.out.x rfl).2
        have z0 := frozen_at (ST23.out.x rfl).2 0; have z1 := frozen_at (ST23.out.x rfl).2 1
        have HPT := Lib.hid ST23.out.put
        refine wpAnyH_ready (rs := [10]) (by kernel_rfl) (by simp) ?_
        refine (AllReadyH.cons (o := ?_) (by simp only [zA, zB, zC] <;> exact rfl) (fun K hK => ?_) AllReadyH.nil)
        go_simp
        refine hK.out _ _ (Hq.out _ HPT.out.1) (fun hHeld => ?_)
        clear hK K y0 y1 z0 z1 hHeld
        try simp only [zP, zN, zS, zT, zU]
        refine wpAnyH_done (by kernel_rfl) ?_ _
        go_wp2_with fail
        go_meet
        case rel => exact ⟨b6, _, _, _, _, rfl, KK0.out.later HPT.out.1 |>.and (Kp.and (Kp.row HPT.out.2.1) (Kp.sto HPT.out.2.2))⟩
       ·go_simp
        have ST24 := Lib.hid ST20.out.buildT
        refine hK.out _ _ (Hq.out _ ST24.out.f) (fun hHeld => ?_)
        clear hK K
        try simp only [zP, zN, zS, zT, zU]
        obtain ⟨b24, hb24⟩ : ∃ q, u20.heap.size = q := ⟨_, rfl⟩
        rw [hb24] at ST24 ⊢
        clear hb24
        generalize (u20.alloc (.cells #[] TU)) = u24 at *
        refine wpAnyH_ready (rs := [3]) (by kernel_rfl) (by simp) ?_
        refine (AllReadyH.cons (o := ?_) (by simp only [zA, zB, zC] <;> exact rfl) (fun K hK => ?_) AllReadyH.nil)
        have hap := ST24.out.appN (.slice an n cn) HSN.out HLN.out TL
        have HAP := Lib.hid hap
        clear hap
        refine step_app rfl _ _ TL TL rfl _ _ (by first | (simp [Act.eval, Act.put]; done) | rfl) (by first | (simp [Act.eval, Act.put]; done) | rfl) _ HAP.out ?_
        intro vN25 u25 hc
        clear HAP
        have ST25 := Lib.hid hc
        obtain ⟨a25, c25, hsh⟩ := ST25.out.n.ns.shape
        rw [← HNL.out] at hsh
        subst hsh
        clear hc
        refine hK.out _ _ (Hq.out _ ST25.out.f) (fun hHeld => ?_)
        clear hK K
        try simp only [zP, zN, zS, zT, zU]
        refine wpAnyH_ready (rs := [7]) (by kernel_rfl) (by simp) ?_
        refine (AllReadyH.cons (o := ?_) (by simp only [zA, zB, zC] <;> exact rfl) (fun K hK => ?_) AllReadyH.nil)
        have hap := ST25.out.appT (.slice at_ m ct) HST.out HLT.out TUL
        have HAP := Lib.hid hap
        clear hap
        refine step_app rfl _ _ TUL TUL rfl _ _ (by first | (simp [Act.eval, Act.put]; done) | rfl) (by first | (simp [Act.eval, Act.put]; done) | rfl) _ HAP.out ?_
        intro vT26 u26 hc
        clear HAP
        have ST26 := Lib.hid hc
        obtain ⟨a26, c26, hsh⟩ := ST26.out.t.ns.shape
        rw [← HML.out] at hsh
        subst hsh
        clear hc
        refine hK.out _ _ (Hq.out _ ST26.out.f) (fun hHeld => ?_)
        clear hK K
        try simp only [zP, zN, zS, zT, zU]
        refine tk 8 (v := ?_) hHeld (fun w hSw => ?_) ?_; rotate_left
        ·(try dsimp only at hSw); obtain ⟨s0, s1⟩ := hSw; go_simp; try with_reducible rfl
        try simp only [zP, zN, zS, zT, zU]
        obtain ⟨y0, y1⟩ := boxP2 (ST26.out.x rfl).2
        have z0 := frozen_at (ST26.out.x rfl).2 0; have z1 := frozen_at (ST26.out.x rfl).2 1
        have HPT := Lib.hid ST26.out.put
        refine wpAnyH_ready (rs := [10]) (by kernel_rfl) (by simp) ?_
        refine (AllReadyH.cons (o := ?_) (by simp only [zA, zB, zC] <;> exact rfl) (fun K hK => ?_) AllReadyH.nil)
        go_simp
        refine hK.out _ _ (Hq.out _ HPT.out.1) (fun hHeld => ?_)
        clear hK K y0 y1 z0 z1 hHeld
        try simp only [zP, zN, zS, zT, zU]
        refine wpAnyH_done (by kernel_rfl) ?_ _
        go_wp2_with fail
        go_meet
        case rel => exact ⟨b6, _, _, _, _, rfl, KK0.out.later HPT.out.1 |>.and (Kp.and (Kp.row HPT.out.2.1) (Kp.sto HPT.out.2.2))⟩
     ·go_simp
      have ST27 := Lib.hid ST0.out.buildT
      refine hK.out _ _ (Hq.out _ ST27.out.f) (fun hHeld => ?_)
      clear hK K
      try simp only [zP, zN, zS, zT, zU]
      obtain ⟨b27, hb27⟩ : ∃ q, u0.heap.size = q := ⟨_, rfl⟩
      rw [hb27] at ST27 ⊢
      clear hb27
      generalize (u0.alloc (.cells #[] TU)) = u27 at *
      refine wpAnyH_ready (rs := [0, 9]) (by kernel_rfl) (by simp) ?_
      refine (AllReadyH.cons (o := ?_) (by simp only [zA, zB, zC] <;> exact rfl) (fun K hK => ?_) (AllReadyH.cons (o := ?_) (by simp only [zA, zB, zC] <;> exact rfl) (fun K hK => ?_) AllReadyH.nil))
      ·go_simp
       have ST28 := Lib.hid ST27.out.buildN
       refine hK.out _ _ (Hq.out _ ST28.out.f) (fun hHeld => ?_)
       clear hK K
       try simp only [zP, zN, zS, zT, zU]
       obtain ⟨b28, hb28⟩ : ∃ q, u27.heap.size = q := ⟨_, rfl⟩
       rw [hb28] at ST28 ⊢
       clear hb28
       generalize (u27.alloc (.cells #[] TN)) = u28 at *
       refine wpAnyH_ready (rs := [3, 9]) (by kernel_rfl) (by simp) ?_
       refine (AllReadyH.cons (o := ?_) (by simp only [zA, zB, zC] <;> exact rfl) (fun K hK => ?_) (AllReadyH.cons (o := ?_) (by simp only [zA, zB, zC] <;> exact rfl) (fun K hK => ?_) AllReadyH.nil))
       ·have hap := ST28.out.appN (.slice an n cn) HSN.out HLN.out TL
        have HAP := Lib.hid hap
        clear hap
        refine step_app rfl _ _ TL TL rfl _ _ (by first | (simp [Act.eval, Act.put]; done) | rfl) (by first | (simp [Act.eval, Act.put]; done) | rfl) _ HAP.out ?_
        intro vN29 u29 hc
        clear HAP
        have ST29 := Lib.hid hc
        obtain ⟨a29, c29, hsh⟩ := ST29.out.n.ns.shape
        rw [← HNL.out] at hsh
        subst hsh
        clear hc
        refine hK.out _ _ (Hq.out _ ST29.out.f) (fun hHeld => ?_)
        clear hK K
        try simp only [zP, zN, zS, zT, zU]
        refine wpAnyH_ready (rs := [7, 9]) (by kernel_rfl) (by simp) ?_
        refine (AllReadyH.cons (o := ?_) (by simp only [zA, zB, zC] <;> exact rfl) (fun K hK => ?_) (AllReadyH.cons (o := ?_) (by simp only [zA, zB, zC] <;> exact rfl) (fun K hK => ?_) AllReadyH.nil))
        ·have hap := ST29.out.appT (.slice at_ m ct) HST.out HLT.out TUL
         have HAP := Lib.hid hap
         clear hap
         refine step_app rfl _ _ TUL TUL rfl _ _ (by first | (simp [Act.eval, Act.put]; done) | rfl) (by first | (simp [Act.eval, Act.put]; done) | rfl) _ HAP.out ?_
         intro vT30 u30 hc
         clear HAP
         have ST30 := Lib.hid hc
         obtain ⟨a30, c30, hsh⟩ := ST30.out.t.ns.shape
         rw [← HML.out] at hsh
         subst hsh
         clear hc
         refine hK.out _ _ (Hq.out _ ST30.out.f) (fun hHeld => ?_)
         clear hK K
         try simp only [zP, zN, zS, zT, zU]
         refine tk 8 (v := ?_) hHeld (fun w hSw => ?_) ?_; rotate_left
         ·(try dsimp only at hSw); obtain ⟨s0, s1⟩ := hSw; go_simp; try with_reducible rfl
         try simp only [zP, zN, zS, zT, zU]
         refine wpAnyH_ready (rs := [9]) (by kernel_rfl) (by simp) ?_
         refine (AllReadyH.cons (o := ?_) (by simp only [zA, zB, zC] <;> exact rfl) (fun K hK => ?_) AllReadyH.nil)
         go_simp
         have ST31 := Lib.hid ST30.out.box
         refine hK.out _ _ (Hq.out _ ST31.out.f) (fun hHeld => ?_)
         clear hK K
         try simp only [zP, zN, zS, zT, zU]
         obtain ⟨b6, hb6⟩ : ∃ q, u30.heap.size = q := ⟨_, rfl⟩
         rw [hb6] at ST31 ⊢
         clear hb6
         generalize (u30.alloc (.cells #[.slice none 0 0, .slice none 0 0] TST)) = u31 at *
         obtain ⟨y0, y1⟩ := boxP2 (ST31.out.x rfl).2
         have z0 := frozen_at (ST31.out.x rfl).2 0; have z1 := frozen_at (ST31.out.x rfl).2 1
         have HPT := Lib.hid ST31.out.put
         refine wpAnyH_ready (rs := [10]) (by kernel_rfl) (by simp) ?_
         refine (AllReadyH.cons (o := ?_) (by simp only [zA, zB, zC] <;> exact rfl) (fun K hK => ?_) AllReadyH.nil)
         go_simp
         refine hK.out _ _ (Hq.out _ HPT.out.1) (fun hHeld => ?_)
         clear hK K y0 y1 z0 z1 hHeld
         try simp only [zP, zN, zS, zT, zU]
         refine wpAnyH_done (by kernel_rfl) ?_ _
         go_wp2_with fail
         go_meet
         case rel => exact ⟨b6, _, _, _, _, rfl, KK0.out.later HPT.out.1 |>.and (Kp.and (Kp.row HPT.out.2.1) (Kp.sto HPT.out.2.2))⟩
        ·go_simp
         have ST32 := Lib.hid ST29.out.box
         refine hK.out _ _ (Hq.out _ ST32.out.f) (fun hHeld => ?_)
         clear hK K
         try simp only [zP, zN, zS, zT, zU]
         obtain ⟨b6, hb6⟩ : ∃ q, u29.heap.size = q := ⟨_, rfl⟩
         rw [hb6] at ST32 ⊢
         clear hb6
         generalize (u29.alloc (.cells #[.slice none 0 0, .slice none 0 0] TST)) = u32 at *
         refine wpAnyH_ready (rs := [7]) (by kernel_rfl) (by simp) ?_
         refine (AllReadyH.cons (o := ?_) (by simp only [zA, zB, zC] <;> exact rfl) (fun K hK => ?_) AllReadyH.nil)
         have hap := ST32.out.appT (.slice at_ m ct) HST.out HLT.out TUL
         have HAP := Lib.hid hap
         clear hap
         refine step_app rfl _ _ TUL TUL rfl _ _ (by first | (simp [Act.eval, Act.put]; done) | rfl) (by first | (simp [Act.eval, Act.put]; done) | rfl) _ HAP.out ?_
         intro vT33 u33 hc
         clear HAP
         have ST33 := Lib.hid hc
         obtain ⟨a33, c33, hsh⟩ := ST33.out.t.ns.shape
         rw [← HML.out] at hsh
         subst hsh
         clear hc
         refine hK.out _ _ (Hq.out _ ST33.out.f) (fun hHeld => ?_)
         clear hK K
         try simp only [zP, zN, zS, zT, zU]
         refine tk 8 (v := ?_) hHeld (fun w hSw => ?_) ?_; rotate_left
         ·(try dsimp only at hSw); obtain ⟨s0, s1⟩ := hSw; go_simp; try with_reducible rfl
         try simp only [zP, zN, zS, zT, zU]
         obtain ⟨y0, y1⟩ := boxP2 (ST33.out.x rfl).2
         have z0 := frozen_at (ST33.out.x rfl).2 0; have z1 := frozen_at (ST33.out.x rfl).2 1
         have HPT := Lib.hid ST33.out.put
         refine wpAnyH_ready (rs := [10]) (by kernel_rfl) (by simp) ?_
         refine (AllReadyH.cons (o := ?_) (by simp only [zA, zB, zC] <;> exact rfl) (fun K hK => ?_) AllReadyH.nil)
         go_simp
         refine hK.out _ _ (Hq.out _ HPT.out.1) (fun hHeld => ?_)
         clear hK K y0 y1 z0 z1 hHeld
         try simp only [zP, zN, zS, zT, zU]
         refine wpAnyH_done (by kernel_rfl) ?_ _
         go_wp2_with fail
         go_meet
         case rel => exact ⟨b6, _, _, _, _, rfl, KK0.out.later HPT.out.1 |>.and (Kp.and (Kp.row HPT.out.2.1) (Kp.sto HPT.out.2.2))⟩
       ·go_simp
        have ST34 := Lib.hid ST28.out.box
        refine hK.out _ _ (Hq.out _ ST34.out.f) (fun hHeld => ?_)
        clear hK K
        try simp only [zP, zN, zS, zT, zU]
        obtain ⟨b6, hb6⟩ : ∃ q, u28.heap.size = q := ⟨_, rfl⟩
        rw [hb6] at ST34 ⊢
        clear hb6
        generalize (u28.alloc (.cells #[.slice none 0 0, .slice none 0 0] TST)) = u34 at *
        refine wpAnyH_ready (rs := [3]) (by kernel_rfl) (by simp) ?_
        refine (AllReadyH.cons (o := ?_) (by simp only [zA, zB, zC] <;> exact rfl) (fun K hK => ?_) AllReadyH.nil)
        have hap := ST34.out.appN (.slice an n cn) HSN.out HLN.out TL
        have HAP := Lib.hid hap
        clear hap
        refine step_app rfl _ _ TL TL rfl _ _ (by first | (simp [Act.eval, Act.put]; done) | rfl) (by first | (simp [Act.eval, Act.put]; done) | rfl) _ HAP.out ?_
        intro vN35 u35 hc
        clear HAP
        have ST35 := Lib.hid hc
        obtain ⟨a35, c35, hsh⟩ := ST35.out.n.ns.shape
        rw [← HNL.out] at hsh
        subst hsh
        clear hc
        refine hK.out _ _ (Hq.out _ ST35.out.f) (fun hHeld => ?_)
        clear hK K
        try simp only [zP, zN, zS, zT, zU]
        refine wpAnyH_ready (rs := [7]) (by kernel_rfl) (by simp) ?_
        refine (AllReadyH.cons (o := ?_) (by simp only [zA, zB, zC] <;> exact rfl) (fun K hK => ?_) AllReadyH.nil)
        have hap := ST35.out.appT (.slice at_ m ct) HST.out HLT.out TUL
        have HAP := Lib.hid hap
        clear hap
        refine step_app rfl _ _ TUL TUL rfl _ _ (by first | (simp [Act.eval, Act.put]; done) | rfl) (by first | (simp [Act.eval, Act.put]; done) | rfl) _ HAP.out ?_
        intro vT36 u36 hc
        clear HAP
        have ST36 := Lib.hid hc
        obtain ⟨a36, c36, hsh⟩ := ST36.out.t.ns.shape
        rw [← HML.out] at hsh
        subst hsh
        clear hc
        refine hK.out _ _ (Hq.out _ ST36.out.f) (fun hHeld => ?_)
        clear hK K
        try simp only [zP, zN, zS, zT, zU]
        refine tk 8 (v := ?_) hHeld (fun w hSw => ?_) ?_; rotate_left
        ·(try dsimp only at hSw); obtain ⟨s0, s1⟩ := hSw; go_simp; try with_reducible rfl
        try simp only [zP, zN, zS, zT, zU]
        obtain ⟨y0, y1⟩ := boxP2 (ST36.out.x rfl).2
        have z0 := frozen_at (ST36.out.x rfl).2 0; have z1 := frozen_at (ST36.out.x rfl).2 1
        have HPT := Lib.hid ST36.out.put
        refine wpAnyH_ready (rs := [10]) (by kernel_rfl) (by simp) ?_
        refine (AllReadyH.cons (o := ?_) (by simp only [zA, zB, zC] <;> exact rfl) (fun K hK => ?_) AllReadyH.nil)
        go_simp
        refine hK.out _ _ (Hq.out _ HPT.out.1) (fun hHeld => ?_)
        clear hK K y0 y1 z0 z1 hHeld
        try simp only [zP, zN, zS, zT, zU]
        refine wpAnyH_done (by kernel_rfl) ?_ _
        go_wp2_with fail
        go_meet
        case rel => exact ⟨b6, _, _, _, _, rfl, KK0.out.later HPT.out.1 |>.and (Kp.and (Kp.row HPT.out.2.1) (Kp.sto HPT.out.2.2))⟩
      ·go_simp
       have ST37 := Lib.hid ST27.out.box
       refine hK.out _ _ (Hq.out _ ST37.out.f) (fun hHeld => ?_)
       clear hK K
       try simp only [zP, zN, zS, zT, zU]
       obtain ⟨b6, hb6⟩ : ∃ q, u27.heap.size = q := ⟨_, rfl⟩
       rw [hb6] at ST37 ⊢
       clear hb6
       generalize (u27.alloc (.cells #[.slice none 0 0, .slice none 0 0] TST)) = u37 at *
       refine wpAnyH_ready (rs := [0]) (by kernel_rfl) (by simp) ?_
       refine (AllReadyH.cons (o := ?_) (by simp only [zA, zB, zC] <;> exact rfl) (fun K hK => ?_) AllReadyH.nil)
       go_simp
       have ST38 := Lib.hid ST37.out.buildN
       refine hK.out _ _ (Hq.out _ ST38.out.f) (fun hHeld => ?_)
       clear hK K
       try simp only [zP, zN, zS, zT, zU]
       obtain ⟨b38, hb38⟩ : ∃ q, u37.heap.size = q := ⟨_, rfl⟩
       rw [hb38] at ST38 ⊢
       clear hb38
       generalize (u37.alloc (.cells #[] TN)) = u38 at *
       refine wpAnyH_ready (rs := [3]) (by kernel_rfl) (by simp) ?_
       refine (AllReadyH.cons (o := ?_) (by simp only [zA, zB, zC] <;> exact rfl) (fun K hK => ?_) AllReadyH.nil)
       have hap := ST38.out.appN (.slice an n cn) HSN.out HLN.out TL
       have HAP := Lib.hid hap
       clear hap
       refine step_app rfl _ _ TL TL rfl _ _ (by first | (simp [Act.eval, Act.put]; done) | rfl) (by first | (simp [Act.eval, Act.put]; done) | rfl) _ HAP.out ?_
       intro vN39 u39 hc
       clear HAP
       have ST39 := Lib.hid hc
       obtain ⟨a39, c39, hsh⟩ := ST39.out.n.ns.shape
       rw [← HNL.out] at hsh
       subst hsh
       clear hc
       refine hK.out _ _ (Hq.out _ ST39.out.f) (fun hHeld => ?_)
       clear hK K
       try simp only [zP, zN, zS, zT, zU]
       refine wpAnyH_ready (rs := [7]) (by kernel_rfl) (by simp) ?_
       refine (AllReadyH.cons (o := ?_) (by simp only [zA, zB, zC] <;> exact rfl) (fun K hK => ?_) AllReadyH.nil)
       have hap := ST39.out.appT (.slice at_ m ct) HST.out HLT.out TUL
       have HAP := Lib.hid hap
       clear hap
       refine step_app rfl _ _ TUL TUL rfl _ _ (by first | (simp [Act.eval, Act.put]; done) | rfl) (by first | (simp [Act.eval, Act.put]; done) | rfl) _ HAP.out ?_
       intro vT40 u40 hc
       clear HAP
       have ST40 := Lib.hid hc
       obtain ⟨a40, c40, hsh⟩ := ST40.out.t.ns.shape
       rw [← HML.out] at hsh
       subst hsh
       clear hc
       refine hK.out _ _ (Hq.out _ ST40.out.f) (fun hHeld => ?_)
       clear hK K
       try simp only [zP, zN, zS, zT, zU]
       refine tk 8 (v := ?_) hHeld (fun w hSw => ?_) ?_; rotate_left
       ·(try dsimp only at hSw); obtain ⟨s0, s1⟩ := hSw; go_simp; try with_reducible rfl
       try simp only [zP, zN, zS, zT, zU]
       obtain ⟨y0, y1⟩ := boxP2 (ST40.out.x rfl).2
       have z0 := frozen_at (ST40.out.x rfl).2 0; have z1 := frozen_at (ST40.out.x rfl).2 1
       have HPT := Lib.hid ST40.out.put
       refine wpAnyH_ready (rs := [10]) (by kernel_rfl) (by simp) ?_
       refine (AllReadyH.cons (o := ?_) (by simp only [zA, zB, zC] <;> exact rfl) (fun K hK => ?_) AllReadyH.nil)
       go_simp
       refine hK.out _ _ (Hq.out _ HPT.out.1) (fun hHeld => ?_)
       clear hK K y0 y1 z0 z1 hHeld
       try simp only [zP, zN, zS, zT, zU]
       refine wpAnyH_done (by kernel_rfl) ?_ _
       go_wp2_with fail
       go_meet
       case rel => exact ⟨b6, _, _, _, _, rfl, KK0.out.later HPT.out.1 |>.and (Kp.and (Kp.row HPT.out.2.1) (Kp.sto HPT.out.2.2))⟩
     ·go_simp
      have ST41 := Lib.hid ST0.out.box
      refine hK.out _ _ (Hq.out _ ST41.out.f) (fun hHeld => ?_)
      clear hK K
      try simp only [zP, zN, zS, zT, zU]
      obtain ⟨b6, hb6⟩ : ∃ q, u0.heap.size = q := ⟨_, rfl⟩
      rw [hb6] at ST41 ⊢
      clear hb6
      generalize (u0.alloc (.cells #[.slice none 0 0, .slice none 0 0] TST)) = u41 at *
      refine wpAnyH_ready (rs := [0, 4]) (by kernel_rfl) (by simp) ?_
      refine (AllReadyH.cons (o := ?_) (by simp only [zA, zB, zC] <;> exact rfl) (fun K hK => ?_) (AllReadyH.cons (o := ?_) (by simp only [zA, zB, zC] <;> exact rfl) (fun K hK => ?_) AllReadyH.nil))
      ·go_simp
       have ST42 := Lib.hid ST41.out.buildN
       refine hK.out _ _ (Hq.out _ ST42.out.f) (fun hHeld => ?_)
       clear hK K
       try simp only [zP, zN, zS, zT, zU]
       obtain ⟨b42, hb42⟩ : ∃ q, u41.heap.size = q := ⟨_, rfl⟩
       rw [hb42] at ST42 ⊢
       clear hb42
       generalize (u41.alloc (.cells #[] TN)) = u42 at *
       refine wpAnyH_ready (rs := [3, 4]) (by kernel_rfl) (by simp) ?_
       refine (AllReadyH.cons (o := ?_) (by simp only [zA, zB, zC] <;> exact rfl) (fun K hK => ?_) (AllReadyH.cons (o := ?_) (by simp only [zA, zB, zC] <;> exact rfl) (fun K hK => ?_) AllReadyH.nil))
       ·have hap := ST42.out.appN (.slice an n cn) HSN.out HLN.out TL
        have HAP := Lib.hid hap
        clear hap
        refine step_app rfl _ _ TL TL rfl _ _ (by first | (simp [Act.eval, Act.put]; done) | rfl) (by first | (simp [Act.eval, Act.put]; done) | rfl) _ HAP.out ?_
        intro vN43 u43 hc
        clear HAP
        have ST43 := Lib.hid hc
        obtain ⟨a43, c43, hsh⟩ := ST43.out.n.ns.shape
        rw [← HNL.out] at hsh
        subst hsh
        clear hc
        refine hK.out _ _ (Hq.out _ ST43.out.f) (fun hHeld => ?_)
        clear hK K
        try simp only [zP, zN, zS, zT, zU]
        refine wpAnyH_ready (rs := [4]) (by kernel_rfl) (by simp) ?_
        refine (AllReadyH.cons (o := ?_) (by simp only [zA, zB, zC] <;> exact rfl) (fun K hK => ?_) AllReadyH.nil)
        go_simp
        have ST44 := Lib.hid ST43.out.buildT
        refine hK.out _ _ (Hq.out _ ST44.out.f) (fun hHeld => ?_)
        clear hK K
        try simp only [zP, zN, zS, zT, zU]
        obtain ⟨b44, hb44⟩ : ∃ q, u43.heap.size = q := ⟨_, rfl⟩
        rw [hb44] at ST44 ⊢
        clear hb44
        generalize (u43.alloc (.cells #[] TU)) = u44 at *
        refine wpAnyH_ready (rs := [7]) (by kernel_rfl) (by simp) ?_
        refine (AllReadyH.cons (o := ?_) (by simp only [zA, zB, zC] <;> exact rfl) (fun K hK => ?_) AllReadyH.nil)
        have hap := ST44.out.appT (.slice at_ m ct) HST.out HLT.out TUL
        have HAP := Lib.hid hap
        clear hap
        refine step_app rfl _ _ TUL TUL rfl _ _ (by first | (simp [Act.eval, Act.put]; done) | rfl) (by first | (simp [Act.eval, Act.put]; done) | rfl) _ HAP.out ?_
        intro vT45 u45 hc
        clear HAP
        have ST45 := Lib.hid hc
        obtain ⟨a45, c45, hsh⟩ := ST45.out.t.ns.shape
        rw [← HML.out] at hsh
        subst hsh
        clear hc
        refine hK.out _ _ (Hq.out _ ST45.out.f) (fun hHeld => ?_)
        clear hK K
        try simp only [zP, zN, zS, zT, zU]
        refine tk 8 (v := ?_) hHeld (fun w hSw => ?_) ?_; rotate_left
        ·(try dsimp only at hSw); obtain ⟨s0, s1⟩ := hSw; go_simp; try with_reducible rfl
        try simp only [zP, zN, zS, zT, zU]
        obtain ⟨y0, y1⟩ := boxP2 (ST45.out.x rfl).2
        have z0 := frozen_at (ST45.out.x rfl).2 0; have z1 := frozen_at (ST45.out.x rfl).2 1
        have HPT := Lib.hid ST45.out.put
        refine wpAnyH_ready (rs := [10]) (by kernel_rfl) (by simp) ?_
        refine (AllReadyH.cons (o := ?_) (by simp only [zA, zB, zC] <;> exact rfl) (fun K hK => ?_) AllReadyH.nil)
        go_simp
        refine hK.out _ _ (Hq.out _ HPT.out.1) (fun hHeld => ?_)
        clear hK K y0 y1 z0 z1 hHeld
        try simp only [zP, zN, zS, zT, zU]
        refine wpAnyH_done (by kernel_rfl) ?_ _
        go_wp2_with fail
        go_meet
        case rel => exact ⟨b6, _, _, _, _, rfl, KK0.out.later HPT.out.1 |>.and (Kp.and (Kp.row HPT.out.2.1) (Kp.sto HPT.out.2.2))⟩
       ·go_simp
        have ST46 := Lib.hid ST42.out.buildT
        refine hK.out _ _ (Hq.out _ ST46.out.f) (fun hHeld => ?_)
        clear hK K
        try simp only [zP, zN, zS, zT, zU]
        obtain ⟨b46, hb46⟩ : ∃ q, u42.heap.size = q := ⟨_, rfl⟩
        rw [hb46] at ST46 ⊢
        clear hb46
        generalize (u42.alloc (.cells #[] TU)) = u46 at *
        refine wpAnyH_ready (rs := [3]) (by kernel_rfl) (by simp) ?_
        refine (AllReadyH.cons (o := ?_) (by simp only [zA, zB, zC] <;> exact rfl) (fun K hK => ?_) AllReadyH.nil)
        have hap := ST46.out.appN (.slice an n cn) HSN.out HLN.out TL
        have HAP := Lib.hid hap
        clear hap
        refine step_app rfl _ _ TL TL rfl _ _ (by first | (simp [Act.eval, Act.put]; done) | rfl) (by first | (simp [Act.eval, Act.put]; done) | rfl) _ HAP.out ?_
        intro vN47 u47 hc
        clear HAP
        have ST47 := Lib.hid hc
        obtain ⟨a47, c47, hsh⟩ := ST47.out.n.ns.shape
        rw [← HNL.out] at hsh
        subst hsh
        clear hc
        refine hK.out _ _ (Hq.out _ ST47.out.f) (fun hHeld => ?_)
        clear hK K
        try simp only [zP, zN, zS, zT, zU]
        refine wpAnyH_ready (rs := [7]) (by kernel_rfl) (by simp) ?_
        refine (AllReadyH.cons (o := ?_) (by simp only [zA, zB, zC] <;> exact rfl) (fun K hK => ?_) AllReadyH.nil)
        have hap := ST47.out.appT (.slice at_ m ct) HST.out HLT.out TUL
        have HAP := Lib.hid hap
        clear hap
        refine step_app rfl _ _ TUL TUL rfl _ _ (by first | (simp [Act.eval, Act.put]; done) | rfl) (by first | (simp [Act.eval, Act.put]; done) | rfl) _ HAP.out ?_
        intro vT48 u48 hc
        clear HAP
        have ST48 := Lib.hid hc
        obtain ⟨a48, c48, hsh⟩ := ST48.out.t.ns.shape
        rw [← HML.out] at hsh
        subst hsh
        clear hc
        refine hK.out _ _ (Hq.out _ ST48.out.f) (fun hHeld => ?_)
        clear hK K
        try simp only [zP, zN, zS, zT, zU]
        refine tk 8 (v := ?_) hHeld (fun w hSw => ?_) ?_; rotate_left
        ·(try dsimp only at hSw); obtain ⟨s0, s1⟩ := hSw; go_simp; try with_reducible rfl
        try simp only [zP, zN, zS, zT, zU]
        obtain ⟨y0, y1⟩ := boxP2 (ST48.out.x rfl).2
        have z0 := frozen_at (ST48.out.x rfl).2 0; have z1 := frozen_at (ST48.out.x rfl).2 1
        have HPT := Lib.hid ST48.out.put
        refine wpAnyH_ready (rs := [10]) (by kernel_rfl) (by simp) ?_
        refine (AllReadyH.cons (o := ?_) (by simp only [zA, zB, zC] <;> exact rfl) (fun K hK => ?_) AllReadyH.nil)
        go_simp
        refine hK.out _ _ (Hq.out _ HPT.out.1) (fun hHeld => ?_)
        clear hK K y0 y1 z0 z1 hHeld
        try simp only [zP, zN, zS, zT, zU]
        refine wpAnyH_done (by kernel_rfl) ?_ _
        go_wp2_with fail
        go_meet
        case rel => exact ⟨b6, _, _, _, _, rfl, KK0.out.later HPT.out.1 |>.and (Kp.and (Kp.row HPT.out.2.1) (Kp.sto HPT.out.2.2))⟩
      ·go_simp
       have ST49 := Lib.hid ST41.out.buildT
       refine hK.out _ _ (Hq.out _ ST49.out.f) (fun hHeld => ?_)
       clear hK K
       try simp only [zP, zN, zS, zT, zU]
       obtain ⟨b49, hb49⟩ : ∃ q, u41.heap.size = q := ⟨_, rfl⟩
       rw [hb49] at ST49 ⊢
       clear hb49
       generalize (u41.alloc (.cells #[] TU)) = u49 at *
       refine wpAnyH_ready (rs := [0]) (by kernel_rfl) (by simp) ?_
       refine (AllReadyH.cons (o := ?_) (by simp only [zA, zB, zC] <;> exact rfl) (fun K hK => ?_) AllReadyH.nil)
       go_simp
       have ST50 := Lib.hid ST49.out.buildN
       refine hK.out _ _ (Hq.out _ ST50.out.f) (fun hHeld => ?_)
       clear hK K
       try simp only [zP, zN, zS, zT, zU]
       obtain ⟨b50, hb50⟩ : ∃ q, u49.heap.size = q := ⟨_, rfl⟩
       rw [hb50] at ST50 ⊢
       clear hb50
       generalize (u49.alloc (.cells #[] TN)) = u50 at *
       refine wpAnyH_ready (rs := [3]) (by kernel_rfl) (by simp) ?_
       refine (AllReadyH.cons (o := ?_) (by simp only [zA, zB, zC] <;> exact rfl) (fun K hK => ?_) AllReadyH.nil)
       have hap := ST50.out.appN (.slice an n cn) HSN.out HLN.out TL
       have HAP := Lib.hid hap
       clear hap
       refine step_app rfl _ _ TL TL rfl _ _ (by first | (simp [Act.eval, Act.put]; done) | rfl) (by first | (simp [Act.eval, Act.put]; done) | rfl) _ HAP.out ?_
       intro vN51 u51 hc
       clear HAP
       have ST51 := Lib.hid hc
       obtain ⟨a51, c51, hsh⟩ := ST51.out.n.ns.shape
       rw [← HNL.out] at hsh
       subst hsh
       clear hc
       refine hK.out _ _ (Hq.out _ ST51.out.f) (fun hHeld => ?_)
       clear hK K
       try simp only [zP, zN, zS, zT, zU]
       refine wpAnyH_ready (rs := [7]) (by kernel_rfl) (by simp) ?_
       refine (AllReadyH.cons (o := ?_) (by simp only [zA, zB, zC] <;> exact rfl) (fun K hK => ?_) AllReadyH.nil)
       have hap := ST51.out.appT (.slice at_ m ct) HST.out HLT.out TUL
       have HAP := Lib.hid hap
       clear hap
       refine step_app rfl _ _ TUL TUL rfl _ _ (by first | (simp [Act.eval, Act.put]; done) | rfl) (by first | (simp [Act.eval, Act.put]; done) | rfl) _ HAP.out ?_
       intro vT52 u52 hc
       clear HAP
       have ST52 := Lib.hid hc
       obtain ⟨a52, c52, hsh⟩ := ST52.out.t.ns.shape
       rw [← HML.out] at hsh
       subst hsh
       clear hc
       refine hK.out _ _ (Hq.out _ ST52.out.f) (fun hHeld => ?_)
       clear hK K
       try simp only [zP, zN, zS, zT, zU]
       refine tk 8 (v := ?_) hHeld (fun w hSw => ?_) ?_; rotate_left
       ·(try dsimp only at hSw); obtain ⟨s0, s1⟩ := hSw; go_simp; try with_reducible rfl
       try simp only [zP, zN, zS, zT, zU]
       obtain ⟨y0, y1⟩ := boxP2 (ST52.out.x rfl).2
       have z0 := frozen_at (ST52.out.x rfl).2 0; have z1 := frozen_at (ST52.out.x rfl).2 1
       have HPT := Lib.hid ST52.out.put
       refine wpAnyH_ready (rs := [10]) (by kernel_rfl) (by simp) ?_
       refine (AllReadyH.cons (o := ?_) (by simp only [zA, zB, zC] <;> exact rfl) (fun K hK => ?_) AllReadyH.nil)
       go_simp
       refine hK.out _ _ (Hq.out _ HPT.out.1) (fun hHeld => ?_)
       clear hK K y0 y1 z0 z1 hHeld
       try simp only [zP, zN, zS, zT, zU]
       refine wpAnyH_done (by kernel_rfl) ?_ _
       go_wp2_with fail
       go_meet
       case rel => exact ⟨b6, _, _, _, _, rfl, KK0.out.later HPT.out.1 |>.and (Kp.and (Kp.row HPT.out.2.1) (Kp.sto HPT.out.2.2))⟩
    case rest =>
     obtain ⟨b6, an6, cn6, at6, ct6, rfl, HC⟩ := hcut
     clear K4
     have hdo := Do_c (.agg #[.slice an6 n cn6, .slice at6 m ct6]) s ⟨xk, xd, xp, xa, xv, xo, xt⟩ wc HC.out.now.2.2 (fewDo HFew.out).1 (fewDo HFew.out).2.1 (fewDo HFew.out).2.2.1 (fewDo HFew.out).2.2.2 (by have := HPL.out.2.1; simp only; omega) (HTab.out.non HC.out.now.1.1)
     have hk1 := fun (h : (applyP s ⟨xk, xd, xp, xa, xv, xo, xt⟩).2.err = 1) => still_arg h
     have hk2 := fun (h : (applyP s ⟨xk, xd, xp, xa, xv, xo, xt⟩).2.err ≠ 1 ∧ ((applyP s ⟨xk, xd, xp, xa, xv, xo, xt⟩).2.err ≠ 0 ∨ xk = 1 ∨ xk = 6 ∨ xk = 7 ∨ xk = 8 ∨ xk = 9)) => still_same h.1 h.2
     have hk3 := fun (h : (applyP s ⟨xk, xd, xp, xa, xv, xo, xt⟩).2.err = 0) => still_right h
     have hk4 := still_len s ⟨xk, xd, xp, xa, xv, xo, xt⟩ (fewDo HFew.out).2.2.1 (fewDo HFew.out).2.2.2
     obtain ⟨a, ha⟩ : ∃ a, (applyP s ⟨xk, xd, xp, xa, xv, xo, xt⟩).1 = a := ⟨_, rfl⟩
     obtain ⟨r, hr⟩ : ∃ r, (applyP s ⟨xk, xd, xp, xa, xv, xo, xt⟩).2 = r := ⟨_, rfl⟩
     rw [ha, hr] at hdo
     rw [ha] at hk4
     rw [ha, hr] at hk1 hk2 hk3
     obtain ⟨re, rp, rd, rv, rn⟩ := r
     simp only at hk1 hk2 hk3
     have HDO := Lib.hid hdo
     have HK := Lib.hid (And.intro hk1 (And.intro hk2 (And.intro hk3 hk4)))
     clear ha hr hdo hk1 hk2 hk3 hk4
     obtain ⟨p0, p1, p2, p3, p4, p5, p6⟩ := boxP7 HC.out.now.1.2.2
     obtain ⟨y0, y1⟩ := boxP2 HC.out.now.2.1
     go_wp2_with fail
     refine HDO.out.mono ?_
     rintro e w8 hD
     obtain ⟨vd, nv, rfl, hsd, hno⟩ := hD.ex
     obtain ⟨vn8, vt8, rfl, hs1, hs2⟩ := hsd.ex
     obtain ⟨an8, cn8, rfl⟩ := hs1.shape
     obtain ⟨at8, ct8, rfl⟩ := hs2.shape
     obtain ⟨na8, nc8, rfl⟩ := hno.shape
     obtain ⟨n8, hn8⟩ : ∃ n8, n8 = a.nodes.length := ⟨_, rfl⟩
     obtain ⟨m8, hm8⟩ : ∃ m8, m8 = a.turns.length := ⟨_, rfl⟩
     rw [← hn8, ← hm8] at hsd
     rw [← hn8, ← hm8]
     unfold strV
     simp only
     obtain ⟨rl, hrl⟩ : ∃ rl, rl = rn.length := ⟨_, rfl⟩
     rw [← hrl]
     have K9 := Lib.hid ((((HC.out.later hD.fp).and (Kp.sto hsd)).later (two_fp w8 #[.slice an8 n8 cn8, .slice at8 m8 ct8] #[.int .i64 re, .string (B rp), .string (B rd), .int .i64 rv, .slice na8 rl nc8])).and (two_box w8 #[.slice an8 n8 cn8, .slice at8 m8 ct8] #[.int .i64 re, .string (B rp), .string (B rd), .int .i64 rv, .slice na8 rl nc8]))
     clear hD hsd hs1 hs2 hno hn8 hm8 hrl p0 p1 p2 p3 p4 p5 p6 y0 y1 HDO HC
     go_upto_region 6 with (fail)
     generalize (World.alloc (World.alloc w8 _) _) = w9 at *
     generalize w8.heap.size = b7 at *
     obtain ⟨b8, hb8⟩ : ∃ b, b7 + 1 = b := ⟨_, rfl⟩
     rw [hb8] at K9 ⊢
     clear hb8
     obtain ⟨s0, s1⟩ := boxP2 K9.out.now.1.1.1.2.1
     obtain ⟨y0, y1⟩ := boxP2 K9.out.now.1.1.2.1
     have hF := fewDo HFew.out
     have hsm := rSameS_c (.agg #[.slice an6 n cn6, .slice at6 m ct6]) (.agg #[.slice an n cn, .slice at_ m ct]) s s w9 K9.out.now.1.1.2.2 (HV.out.non K9.out.now.1.1.1.1) (by have := hF.2.2.1; omega) (by have := hF.2.2.1; omega) (by have := hF.2.2.2; omega) (by have := hF.2.2.2; omega)
     rw [decide_eq_true rfl] at hsm
     have HSM := Lib.hid hsm
     clear hsm hF
     go_wp2_with fail
     refine HSM.out.mono ?_
     rintro e w10 ⟨rfl, hf⟩
     have K10 := Lib.hid (K9.out.later hf)
     clear hf HSM s0 s1 y0 y1 K9
     obtain ⟨s0, s1⟩ := boxP2 K10.out.now.1.1.1.2.1
     obtain ⟨p0, p1, p2, p3, p4, p5, p6⟩ := boxP7 K10.out.now.1.1.1.2.2
     obtain ⟨y0, y1⟩ := boxP2 K10.out.now.2.1
     obtain ⟨r0, r1, r2, r3, r4⟩ := box5 K10.out.now.2.2
     by_cases h1 : re = 1
     ·have hsm := fun W (f : Fp Non w10 W) => rSameS_c (.agg #[.slice an8 n8 cn8, .slice at8 m8 ct8]) (.agg #[.slice none 0 0, .slice none 0 0]) a ⟨[], []⟩ W (K10.out.now.1.2.non f) ⟨_, _, rfl, Ns.nil _, Ts.nil _⟩ (by have := HK.out.2.2.2; omega) (by simp) (by have := HK.out.2.2.2; omega) (by simp)
      rw [decide_eq_true (HK.out.1 h1)] at hsm
      have HSM := Lib.hid hsm
      subst h1
      clear hsm
      go_wp2_with fail
      refine (HSM.out _ (Fp.refl _ _)).mono ?_
      rintro e w11 ⟨rfl, hf⟩
      have F := Lib.hid (K10.out.now.1.1.1.1.then hf)
      clear hf s0 s1 p0 p1 p2 p3 p4 p5 p6 y0 y1 r0 r1 r2 r3 r4
      go_wp2
      go_ret
      exact ⟨rfl, F.out⟩
     have e1 : (re == 1) = false := beq_eq_false_iff_ne.2 h1
     have e2 : (re = 1) = False := eq_false h1
     have HSame : Hid ((re ≠ 0 ∨ xk = 1 ∨ xk = 6 ∨ xk = 7 ∨ xk = 8 ∨ xk = 9) → ∀ W, Fp Non w10 W → Calls Tryz.prog 23 #[.agg #[.slice an8 n8 cn8, .slice at8 m8 ct8], .agg #[.slice an n cn, .slice at_ m ct]] W fun e w' => e = .returned (.bool true) ∧ Fp Non W w') := fun h W f => by
      have hF := fewDo HFew.out
      have hsm := rSameS_c (.agg #[.slice an8 n8 cn8, .slice at8 m8 ct8]) (.agg #[.slice an n cn, .slice at_ m ct]) a s W (K10.out.now.1.2.non f) (HV.out.non (K10.out.now.1.1.1.1.then f)) (by have := HK.out.2.2.2; omega) (by have := hF.2.2.1; omega) (by have := HK.out.2.2.2; omega) (by have := hF.2.2.2; omega)
      rwa [decide_eq_true (HK.out.2.1 ⟨h1, h⟩)] at hsm
     have HRight : Hid (re = 0 → ∀ W, Fp Non w10 W → Calls Tryz.prog 20 #[.agg #[.slice an8 n8 cn8, .slice at8 m8 ct8]] W fun e w' => e = .returned (.bool true) ∧ Fp Non W w') := fun h W f => by
      have hR := HK.out.2.2.1 h
      refine (rRightS_c (.agg #[.slice an8 n8 cn8, .slice at8 m8 ct8]) a W (K10.out.now.1.2.non f) (StR.few hR).2 (by have := HK.out.2.2.2; omega) (StR.few hR).1 (by have := HK.out.2.2.2; omega)).mono ?_
      rintro e w' ⟨⟨b, rfl, hb⟩, hf⟩
      rw [hb hR]
      exact ⟨rfl, hf⟩
     clear h1
     by_cases h0 : re = 0
     ·have e3 : (re == 0) = true := beq_iff_eq.2 h0
      have e4 : (re = 0) = True := eq_true h0
      have e5 : (re != 0) = false := by simp [h0]
      have HR := Lib.hid (HRight.out h0)
      by_cases hk : xk = 1 ∨ xk = 6 ∨ xk = 7 ∨ xk = 8 ∨ xk = 9
      ·have HS := Lib.hid (HSame.out (.inr hk))
       clear HSame HRight h0
       rcases hk with rfl | rfl | rfl | rfl | rfl
       all_goals
        go_wp2_with fail
        refine (HS.out _ (Fp.refl _ _)).mono ?_
        rintro e w11 ⟨rfl, hf⟩
        have F := Lib.hid (K10.out.now.1.1.1.1.then hf)
        clear hf s0 s1 p0 p1 p2 p3 p4 p5 p6 y0 y1 r0 r1 r2 r3 r4
        go_wp2
        go_ret
        exact ⟨rfl, F.out⟩
      ·have k1 : (xk == 1) = false := beq_eq_false_iff_ne.2 (fun h => hk (.inl h))
       have k2 : (xk == 6) = false := beq_eq_false_iff_ne.2 (fun h => hk (.inr (.inl h)))
       have k3 : (xk == 7) = false := beq_eq_false_iff_ne.2 (fun h => hk (.inr (.inr (.inl h))))
       have k4 : (xk == 8) = false := beq_eq_false_iff_ne.2 (fun h => hk (.inr (.inr (.inr (.inl h)))))
       have k5 : (xk == 9) = false := beq_eq_false_iff_ne.2 (fun h => hk (.inr (.inr (.inr (.inr h)))))
       have k6 : (xk = 1) = False := eq_false (fun h => hk (.inl h))
       have k7 : (xk = 6) = False := eq_false (fun h => hk (.inr (.inl h)))
       have k8 : (xk = 7) = False := eq_false (fun h => hk (.inr (.inr (.inl h))))
       have k9 : (xk = 8) = False := eq_false (fun h => hk (.inr (.inr (.inr (.inl h)))))
       have k10 : (xk = 9) = False := eq_false (fun h => hk (.inr (.inr (.inr (.inr h)))))
       clear HSame HRight h0 hk
       go_wp2_with fail
       refine (HR.out _ (Fp.refl _ _)).mono ?_
       rintro e w11 ⟨rfl, hf⟩
       have F := Lib.hid (K10.out.now.1.1.1.1.then hf)
       clear hf s0 s1 p0 p1 p2 p3 p4 p5 p6 y0 y1 r0 r1 r2 r3 r4
       go_wp2
       go_ret
       exact ⟨rfl, F.out⟩
     ·have e3 : (re == 0) = false := beq_eq_false_iff_ne.2 h0
      have e4 : (re = 0) = False := eq_false h0
      have e5 : (re != 0) = true := by simpa using h0
      have HS := Lib.hid (HSame.out (.inl h0))
      clear HSame HRight h0
      go_upto_region 11 with (fail)
      all_goals
       go_wp2_with fail
       refine (HS.out _ (Fp.refl _ _)).mono ?_
       rintro e w11 ⟨rfl, hf⟩
       have F := Lib.hid (K10.out.now.1.1.1.1.then hf)
       clear hf s0 s1 p0 p1 p2 p3 p4 p5 p6 y0 y1 r0 r1 r2 r3 r4
       go_wp2
       go_ret
       exact ⟨rfl, F.out⟩
end Go.Proofs.YtphoglepiegeiaaGreatDoor
