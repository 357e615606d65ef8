/- A text of this proof. -/
import Derived.Test.YtphoglepiegeiaaGreatDoorZAJ
import Derived.Test.YtphoglepiegeiaaGreatDoorZAU
import Derived.Test.YtphoglepiegeiaaGreatDoorZAXVc
namespace Go.Proofs.YtphoglepiegeiaaGreatDoor
set_option linter.unusedSimpArgs false
set_option linter.unusedVariables false
set_option maxRecDepth 20000
set_option linter.unusedVariables false
set_option linter.unusedSimpArgs false
open Go.RowKit Pm
theorem fewDo {s : St} (h : Gfew s) : Sp s.nodes ∧ (∀ t ∈ s.turns, t.dir.length ≤ 1000000) ∧ s.nodes.length ≤ 3900 ∧ s.turns.length ≤ 3900 :=
 ⟨few_sp h.nodes, fun t ht => by have := h.turns.2 t ht; omega, by have := h.nodes.1; omega, by have := h.turns.1; omega⟩
theorem setT_len (l : List Tu) (p : Bs) (n : Int) : (setT l p n).length ≤ l.length + 1 := by
 have h1 : (l.eraseIdx (placeT l p)).length ≤ l.length := by rw [List.length_eraseIdx]; split <;> omega
 have h2 : ∀ (m : List Tu) (k : Nat) (x : Tu), (insT m k x).length = m.length + 1 := fun m k x => by unfold insT; rw [List.length_append, List.length_cons, List.length_take, List.length_drop]; omega
 unfold setT
 simp only
 split <;> split <;> (try rw [h2]) <;> omega
theorem puts_ap {s : St} {x : Pt} (hk : x.kind = 2) {a : St} {r : Res} (h : applyP s x = (a, r)) (he : r.err = 0) : StR s ∧ ∃ q, r = ⟨0, q, [], 0, []⟩ ∧ StR a ∧ q.length ≤ 100 ∧ a.nodes.length = s.nodes.length + 1 ∧ a.turns.length ≤ s.turns.length + 1 ∧
  applyP a ⟨7, x.dir, q, [], 0, 0, false⟩ = (a, ⟨0, [], x.data, 0, []⟩) ∧ applyP a ⟨2, x.dir, q, [], 0, 0, false⟩ = (a, .bad 61) ∧ ∃ c, applyP a ⟨3, x.dir, q, [], 0, 0, false⟩ = (c, okR) ∧ c.nodes = s.nodes := by
 by_cases hc : rightS s = true ∧ mayP x = true
 ·have hS := (rightS_iff s).1 hc.1
  rw [applyP_yes hS hc.2, show doP s x = putS s x from by unfold doP; rw [if_pos hk]] at h
  have he' : (putS s x).2.err = 0 := by rw [h]; exact he
  obtain ⟨a', q, e, h1, h2, h3, h4, h5, c, h6, h7⟩ := puts hS hc.2 hk he'
  have ht : (putS s x).1.turns.length ≤ s.turns.length + 1 := by
   unfold putS
   split
   ·simp
   ·split
    ·simp
    ·simp only
     split
     ·exact setT_len _ _ _
     ·omega
  rw [h] at e ht
  injection e with e1 e2
  subst e1 e2
  exact ⟨hS, q, rfl, h1, h2, h3, ht, h4, h5, c, h6, h7⟩
 ·rw [applyP_no hc] at h
  injection h with _ h2
  rw [← h2] at he
  exact absurd he (by decide)
theorem two_box (w : World) (c2 c5 : Array Value) : Kp (fun W => W.heap[w.heap.size]? = some (.cells c2 TST (0, 0)) ∧ W.heap[w.heap.size + 1]? = some (.cells c5 TR (0, 0))) ((w.alloc (.cells c2 TST)).alloc (.cells c5 TR)) := by
 have f2 := fp_alloc (w.alloc (.cells c2 TST)) (.cells c5 TR)
 have r1 := f2.heap (heap_alloc_new w (.cells c2 TST)) (fun h => h)
 have r2 := heap_alloc_new (w.alloc (.cells c2 TST)) (.cells c5 TR)
 rw [show (w.alloc (.cells c2 TST)).heap.size = w.heap.size + 1 from by simp] at r2
 exact Kp.and (Kp.row r1) (Kp.row r2)
theorem two_fp (w : World) (c2 c5 : Array Value) : Fp Non w ((w.alloc (.cells c2 TST)).alloc (.cells c5 TR)) := (fp_alloc w _).then (fp_alloc _ _)
set_option maxHeartbeats 16000000 in
theorem PartPuts_c (v : Value) (s : St) (x : Pt) (w : World) (hv : Sto w v s) (hn : s.nodes.length ≤ 140737488355328) (hm : s.turns.length ≤ 140737488355328) (ht : Tab w) :
  Calls Tryz.prog 7 #[v, ptV x] w fun e w' => e = .returned (.bool true) ∧ Fp Non w w' := by
 have HV := Lib.hid hv
 have HTab := Lib.hid ht
 have HNM := Lib.hid (And.intro hn hm)
 have hgp := fun W => GreatPart_c x W
 obtain ⟨xk, xd, xp, xa, xv, xo, xt⟩ := x
 obtain ⟨vn, vt, rfl, h1, h2⟩ := hv.ex
 obtain ⟨an, cn, rfl⟩ := h1.shape
 obtain ⟨at_, ct, rfl⟩ := h2.shape
 obtain ⟨n, hnn⟩ : ∃ n, n = s.nodes.length := ⟨_, rfl⟩
 obtain ⟨m, hmm⟩ : ∃ m, m = s.turns.length := ⟨_, rfl⟩
 rw [← hnn, ← hmm] at HV
 have HNL := Lib.hid hnn
 rw [← hnn, ← hmm]
 unfold ptV strV at *
 simp only at *
 have f1 := fp_alloc w (.cells #[.slice an n cn, .slice at_ m ct] TST)
 have f2 := fp_alloc (w.alloc (.cells #[.slice an n cn, .slice at_ m ct] TST)) (.cells #[.int .i64 xk, .string (B xd), .string (B xp), .string (B xa), .int .i64 xv, .int .i64 xo, .bool xt] TP)
 have r1 := f2.heap (heap_alloc_new w (.cells #[.slice an n cn, .slice at_ m ct] TST)) (fun h => h)
 have r2 := heap_alloc_new (w.alloc (.cells #[.slice an n cn, .slice at_ m ct] TST)) (.cells #[.int .i64 xk, .string (B xd), .string (B xp), .string (B xa), .int .i64 xv, .int .i64 xo, .bool xt] TP)
 rw [show (w.alloc (.cells #[.slice an n cn, .slice at_ m ct] TST)).heap.size = w.heap.size + 1 from by simp] at r2
 have K0 := Lib.hid (Kp.and (Kp.fp (f1.then f2)) (Kp.and (Kp.row r1) (Kp.row r2)))
 have HGP := Lib.hid hgp
 have hcc := fun W f => GreatS_c (.agg #[.slice an n cn, .slice at_ m ct]) s W (HV.out.non f) hn hm
 have HGR := Lib.hid hcc
 clear f1 f2 r1 r2 hgp h1 h2 hv ht hn hm hnn hmm hcc
 go_enter Tryz.func7, Tryz.ntmps7
 go_wp2_with fail
 refine (head7_c _ (HTab.out.non K0.out.now.1)).mono ?_
 rintro e w1 ⟨rfl, hf⟩
 have K1 := Lib.hid (K0.out.later hf)
 clear hf K0
 obtain ⟨s0, s1⟩ := boxP2 K1.out.now.2.1
 go_wp2_with fail
 refine (HGR.out _ K1.out.now.1).mono ?_
 rintro e w2 ⟨g, rfl, hg, hf⟩
 have K2 := Lib.hid (K1.out.later hf)
 have HG := Lib.hid hg
 clear hf hg K1 s0 s1
 obtain ⟨s0, s1⟩ := boxP2 K2.out.now.2.1
 obtain ⟨p0, p1, p2, p3, p4, p5, p6⟩ := boxP7 K2.out.now.2.2
 cases g with
 | true =>
  go_wp2
  go_ret
  exact ⟨rfl, K2.out.now.1⟩
 | false =>
  have HFew := Lib.hid (HG.out (by first | rfl | trivial))
  clear HG
  go_wp2_with fail
  refine (HGP.out _).mono ?_
  rintro e w3 ⟨g, rfl, hg, hf⟩
  have K3 := Lib.hid (K2.out.later hf)
  have HG := Lib.hid hg
  clear hf hg K2 s0 s1 p0 p1 p2 p3 p4 p5 p6
  obtain ⟨s0, s1⟩ := boxP2 K3.out.now.2.1
  obtain ⟨p0, p1, p2, p3, p4, p5, p6⟩ := boxP7 K3.out.now.2.2
  cases g with
  | true =>
   go_wp2
   go_ret
   exact ⟨rfl, K3.out.now.1⟩
  | false =>
   have HPL := Lib.hid (HG.out (by first | rfl | trivial))
   clear HG
   have hrr := rRightS_c (.agg #[.slice an n cn, .slice at_ m ct]) s w3 (HV.out.non K3.out.now.1) (fewDo HFew.out).1 (by have := (fewDo HFew.out).2.2.1; omega) (fewDo HFew.out).2.1 (by have := (fewDo HFew.out).2.2.2; omega)
   have HRR := Lib.hid hrr
   clear hrr
   go_wp2_with fail
   refine HRR.out.mono ?_
   rintro e w4 ⟨⟨g, rfl, hg⟩, hf⟩
   have K4 := Lib.hid (K3.out.later hf)
   clear hf hg K3 HRR s0 s1 p0 p1 p2 p3 p4 p5 p6
   obtain ⟨s0, s1⟩ := boxP2 K4.out.now.2.1
   obtain ⟨p0, p1, p2, p3, p4, p5, p6⟩ := boxP7 K4.out.now.2.2
   cases g with
   | false =>
    go_wp2
    go_ret
    exact ⟨rfl, K4.out.now.1⟩
   | true =>
    have z0 := frozen_at K4.out.now.2.2 0
    have z1 := frozen_at K4.out.now.2.2 1
    have hr5 := heap_setCell_same w4 (w.heap.size + 1) 0 _ TP (.int .i64 2) K4.out.now.2.2
    have hf5 : Fp (fun j => j = w.heap.size + 1) w4 (w4.setCell ⟨w.heap.size + 1, 0, none⟩ (.int .i64 2)) := (Fp.refl (fun j => j = w.heap.size + 1) w4).setCell (p := ⟨w.heap.size + 1, 0, none⟩) (.inl rfl) _
    have K5 := Lib.hid (Kp.and (Kp.fp (K4.out.now.1.trans hf5 (fun j hj => .inr (by have hj : j = w.heap.size + 1 := hj; omega)))) (Kp.and (Kp.row (hf5.heap K4.out.now.2.1 (fun e => by have e : w.heap.size = w.heap.size + 1 := e; omega))) (Kp.row hr5)))
    clear hr5 hf5
    go_wp2_with fail
    refine (rHome_c xp _ (by have := HPL.out.2.1; omega)).mono ?_
    rintro e w6 ⟨rfl, hf⟩
    have K6 := Lib.hid (K5.out.later hf)
    clear hf K5 K4 s0 s1 p0 p1 p2 p3 p4 p5 p6 z0 z1
    obtain ⟨s0, s1⟩ := boxP2 K6.out.now.2.1
    obtain ⟨p0, p1, p2, p3, p4, p5, p6⟩ := boxP7 K6.out.now.2.2
    have z0 := frozen_at K6.out.now.2.2 0
    have z1 := frozen_at K6.out.now.2.2 1
    have hr7 := heap_setCell_same w6 (w.heap.size + 1) 1 _ TP (.string (B (upB xp))) K6.out.now.2.2
    have hf7 : Fp (fun j => j = w.heap.size + 1) w6 (w6.setCell ⟨w.heap.size + 1, 1, none⟩ (.string (B (upB xp)))) := (Fp.refl (fun j => j = w.heap.size + 1) w6).setCell (p := ⟨w.heap.size + 1, 1, none⟩) (.inl rfl) _
    have K7 := Lib.hid (Kp.and (Kp.fp (K6.out.now.1.trans hf7 (fun j hj => .inr (by have hj : j = w.heap.size + 1 := hj; omega)))) (Kp.and (Kp.row (hf7.heap K6.out.now.2.1 (fun e => by have e : w.heap.size = w.heap.size + 1 := e; omega))) (Kp.row hr7)))
    clear hr7 hf7
    go_upto_region 6 with (fail)
    clear K6 s0 s1 p0 p1 p2 p3 p4 p5 p6 z0 z1
    generalize (World.setCell w6 _ _) = w7 at *
    have hdo := Do_c (.agg #[.slice an n cn, .slice at_ m ct]) s ⟨2, upB xp, xp, xa, xv, xo, xt⟩ w7 (HV.out.non K7.out.now.1) (fewDo HFew.out).1 (fewDo HFew.out).2.1 (fewDo HFew.out).2.2.1 (fewDo HFew.out).2.2.2 (by have := HPL.out.2.1; simp only; omega) (HTab.out.non K7.out.now.1)
    obtain ⟨a, ha⟩ : ∃ a, (applyP s ⟨2, upB xp, xp, xa, xv, xo, xt⟩).1 = a := ⟨_, rfl⟩
    obtain ⟨r, hr⟩ : ∃ r, (applyP s ⟨2, upB xp, xp, xa, xv, xo, xt⟩).2 = r := ⟨_, rfl⟩
    rw [ha, hr] at hdo
    have HAR := Lib.hid (And.intro ha hr)
    have HDO := Lib.hid hdo
    clear ha hr hdo
    obtain ⟨s0, s1⟩ := boxP2 K7.out.now.2.1
    obtain ⟨p0, p1, p2, p3, p4, p5, p6⟩ := boxP7 K7.out.now.2.2
    go_wp2_with fail
    refine HDO.out.mono ?_
    rintro e w8 hD
    obtain ⟨vd, nv, rfl, hsd, hno⟩ := hD.ex
    obtain ⟨vn8, vt8, rfl, hs1, hs2⟩ := hsd.ex
    obtain ⟨an8, cn8, rfl⟩ := hs1.shape
    obtain ⟨at8, ct8, rfl⟩ := hs2.shape
    obtain ⟨na8, nc8, rfl⟩ := hno.shape
    obtain ⟨n8, hn8⟩ : ∃ n8, n8 = a.nodes.length := ⟨_, rfl⟩
    obtain ⟨m8, hm8⟩ : ∃ m8, m8 = a.turns.length := ⟨_, rfl⟩
    rw [← hn8, ← hm8] at hsd
    rw [← hn8, ← hm8]
    have HN8 := Lib.hid hn8
    have HM8 := Lib.hid hm8
    have K8 := Lib.hid (Kp.and (Kp.sto hsd) (K7.out.later hD.fp))
    obtain ⟨re, rp, rd, rv, rn⟩ := r
    unfold strV
    simp only
    obtain ⟨rl, hrl⟩ : ∃ rl, rl = rn.length := ⟨_, rfl⟩
    rw [← hrl]
    clear hD hsd hs1 hs2 hno hn8 hm8 hrl s0 s1 p0 p1 p2 p3 p4 p5 p6 HDO K7
    by_cases hre : re = 0
    ·have q1 : (re != 0) = false := by simp [hre]
     have q2 : (re == 0) = true := by simp [hre]
     have q3 : (re = 0) = True := eq_true hre
     obtain ⟨hSR, q, hrq, hSa, hql, hlen, htl, hd7, hd2, c, hd3, hcn⟩ := puts_ap (x := ⟨2, upB xp, xp, xa, xv, xo, xt⟩) rfl (Prod.ext HAR.out.1 HAR.out.2) hre
     injection hrq with e1 e2 e3 e4 e5
     subst e2 e3 e4 e5
     simp only at hd7 hd2 hd3
     have HD := Lib.hid (And.intro hSa (And.intro hd7 (And.intro hd2 (And.intro hd3 (And.intro hcn (And.intro hlen (And.intro htl hql)))))))
     have hnn : n8 = n + 1 := by have h1 := HN8.out; have h2 := HNL.out; omega
     have HNN := Lib.hid hnn
     clear hSR hSa hd7 hd2 hd3 hcn hlen htl hre hnn hql e1
     have K9 := Lib.hid ((K8.out.later (two_fp w8 #[.slice an8 n8 cn8, .slice at8 m8 ct8] #[.int .i64 re, .string (B rp), .string (B []), .int .i64 0, .slice na8 rl nc8])).and (two_box w8 #[.slice an8 n8 cn8, .slice at8 m8 ct8] #[.int .i64 re, .string (B rp), .string (B []), .int .i64 0, .slice na8 rl nc8]))
     clear K8
     go_upto_region 7 with (fail)
     generalize (World.alloc (World.alloc w8 _) _) = w9 at *
     generalize w8.heap.size = b6 at *
     obtain ⟨b7, hb7⟩ : ∃ b, b6 + 1 = b := ⟨_, rfl⟩
     rw [hb7] at K9 ⊢
     clear hb7
     obtain ⟨s0, s1⟩ := boxP2 K9.out.now.1.2.2.1
     obtain ⟨p0, p1, p2, p3, p4, p5, p6⟩ := boxP7 K9.out.now.1.2.2.2
     obtain ⟨y0, y1⟩ := boxP2 K9.out.now.2.1
     obtain ⟨r0, r1, r2, r3, r4⟩ := box5 K9.out.now.2.2
     have hfa : a.nodes.length ≤ 3900 ∧ a.turns.length ≤ 3900 := by
      have h1 := HD.out.2.2.2.2.2.1; have h2 := HD.out.2.2.2.2.2.2.1
      have h3 := (fewDo HFew.out).2.2.1; have h4 := HFew.out.nodes.1; have h5 := HFew.out.turns.1
      omega
     have HFA := Lib.hid hfa
     clear hfa
     go_wp2_with fail
     refine (do_at HD.out.2.1 K9.out.now.1.1 HD.out.1 HFA.out.1 HFA.out.2 (by have := HD.out.2.2.2.2.2.2.2; simp only; omega) (HTab.out.non K9.out.now.1.2.1)).mono ?_
     rintro e u10 hD
     obtain ⟨vd, nv, rfl, hsd, hno⟩ := hD.ex
     obtain ⟨vn', vt', rfl, hs1, hs2⟩ := hsd.ex
     obtain ⟨an10, cn10, rfl⟩ := hs1.shape
     obtain ⟨at10, ct10, rfl⟩ := hs2.shape
     obtain ⟨na10, nc10, rfl⟩ := hno.shape
     rw [← HN8.out, ← HM8.out] at hsd
     rw [← HN8.out, ← HM8.out]
     unfold strV
     simp only [List.length_nil]
     have K10 := Lib.hid (((K9.out.later hD.fp).and (Kp.sto hsd)).later (two_fp u10 #[.slice an10 n8 cn10, .slice at10 m8 ct10] #[.int .i64 0, (.string (B [])), (.string (B xa)), .int .i64 0, .slice na10 0 nc10]) |>.and (two_box u10 #[.slice an10 n8 cn10, .slice at10 m8 ct10] #[.int .i64 0, (.string (B [])), (.string (B xa)), .int .i64 0, .slice na10 0 nc10]))
     clear hD hsd hs1 hs2 hno s0 s1 p0 p1 p2 p3 p4 p5 p6 y0 y1 r0 r1 r2 r3 r4 K9
     go_upto_region 10 with (fail)
     generalize (World.alloc (World.alloc u10 _) _) = w10 at *
     generalize u10.heap.size = ba10 at *
     obtain ⟨bb10, hbb⟩ : ∃ b, ba10 + 1 = b := ⟨_, rfl⟩
     rw [hbb] at K10 ⊢
     clear hbb
     obtain ⟨s0, s1⟩ := boxP2 K10.out.now.1.1.1.2.2.1
     obtain ⟨p0, p1, p2, p3, p4, p5, p6⟩ := boxP7 K10.out.now.1.1.1.2.2.2
     obtain ⟨y0, y1⟩ := boxP2 K10.out.now.1.1.2.1
     obtain ⟨r0, r1, r2, r3, r4⟩ := box5 K10.out.now.1.1.2.2
     go_wp2_with fail
     refine (do_at HD.out.2.2.1 K10.out.now.1.1.1.1 HD.out.1 HFA.out.1 HFA.out.2 (by have := HD.out.2.2.2.2.2.2.2; simp only; omega) (HTab.out.non K10.out.now.1.1.1.2.1)).mono ?_
     rintro e u11 hD
     obtain ⟨vd, nv, rfl, hsd, hno⟩ := hD.ex
     obtain ⟨vn', vt', rfl, hs1, hs2⟩ := hsd.ex
     obtain ⟨an11, cn11, rfl⟩ := hs1.shape
     obtain ⟨at11, ct11, rfl⟩ := hs2.shape
     obtain ⟨na11, nc11, rfl⟩ := hno.shape
     rw [← HN8.out, ← HM8.out] at hsd
     rw [← HN8.out, ← HM8.out]
     simp only [show (Res.bad 61).err = 61 from rfl, show strV (Res.bad 61).path = .string (B []) from rfl, show strV (Res.bad 61).data = .string (B []) from rfl, show (Res.bad 61).ver = 0 from rfl, show (Res.bad 61).names.length = 0 from rfl]
     have K11 := Lib.hid (((K10.out.later hD.fp).and (Kp.sto hsd)).later (two_fp u11 #[.slice an11 n8 cn11, .slice at11 m8 ct11] #[.int .i64 61, (.string (B [])), (.string (B [])), .int .i64 0, .slice na11 0 nc11]) |>.and (two_box u11 #[.slice an11 n8 cn11, .slice at11 m8 ct11] #[.int .i64 61, (.string (B [])), (.string (B [])), .int .i64 0, .slice na11 0 nc11]))
     clear hD hsd hs1 hs2 hno s0 s1 p0 p1 p2 p3 p4 p5 p6 y0 y1 r0 r1 r2 r3 r4 K10
     go_upto_region 11 with (fail)
     generalize (World.alloc (World.alloc u11 _) _) = w11 at *
     generalize u11.heap.size = ba11 at *
     obtain ⟨bb11, hbb⟩ : ∃ b, ba11 + 1 = b := ⟨_, rfl⟩
     rw [hbb] at K11 ⊢
     clear hbb
     obtain ⟨s0, s1⟩ := boxP2 K11.out.now.1.1.1.1.1.2.2.1
     obtain ⟨p0, p1, p2, p3, p4, p5, p6⟩ := boxP7 K11.out.now.1.1.1.1.1.2.2.2
     obtain ⟨y0, y1⟩ := boxP2 K11.out.now.1.1.1.1.2.1
     obtain ⟨r0, r1, r2, r3, r4⟩ := box5 K11.out.now.1.1.1.1.2.2
     obtain ⟨z0, z1⟩ := boxP2 K11.out.now.1.1.2.1
     go_wp2_with fail
     refine (do_at HD.out.2.2.2.1 K11.out.now.1.1.1.2 HD.out.1 HFA.out.1 HFA.out.2 (by have := HD.out.2.2.2.2.2.2.2; simp only; omega) (HTab.out.non K11.out.now.1.1.1.1.1.2.1)).mono ?_
     rintro e u12 hD
     obtain ⟨vd, nv, rfl, hsd, hno⟩ := hD.ex
     obtain ⟨vn', vt', rfl, hs1, hs2⟩ := hsd.ex
     obtain ⟨an12, cn12, rfl⟩ := hs1.shape
     obtain ⟨at12, ct12, rfl⟩ := hs2.shape
     obtain ⟨na12, nc12, rfl⟩ := hno.shape
     rw [show c.nodes.length = n from by rw [HD.out.2.2.2.2.1, HNL.out]] at hsd
     rw [show c.nodes.length = n from by rw [HD.out.2.2.2.2.1, HNL.out]]
     simp only [show okR.err = 0 from rfl, show strV okR.path = .string (B []) from rfl, show strV okR.data = .string (B []) from rfl, show okR.ver = 0 from rfl, show okR.names.length = 0 from rfl]
     have K12 := Lib.hid (((K11.out.later hD.fp).and (Kp.sto hsd)).later (two_fp u12 #[.slice an12 n cn12, .slice at12 c.turns.length ct12] #[.int .i64 0, (.string (B [])), (.string (B [])), .int .i64 0, .slice na12 0 nc12]) |>.and (two_box u12 #[.slice an12 n cn12, .slice at12 c.turns.length ct12] #[.int .i64 0, (.string (B [])), (.string (B [])), .int .i64 0, .slice na12 0 nc12]))
     clear z0 z1 hD hsd hs1 hs2 hno s0 s1 p0 p1 p2 p3 p4 p5 p6 y0 y1 r0 r1 r2 r3 r4 K11
     go_upto_region 12 with (fail)
     generalize (World.alloc (World.alloc u12 _) _) = w12 at *
     generalize u12.heap.size = ba12 at *
     obtain ⟨bb12, hbb⟩ : ∃ b, ba12 + 1 = b := ⟨_, rfl⟩
     rw [hbb] at K12 ⊢
     clear hbb
     obtain ⟨s0, s1⟩ := boxP2 K12.out.now.1.1.1.1.1.1.1.2.2.1
     obtain ⟨p0, p1, p2, p3, p4, p5, p6⟩ := boxP7 K12.out.now.1.1.1.1.1.1.1.2.2.2
     obtain ⟨y0, y1⟩ := boxP2 K12.out.now.1.1.1.1.1.1.2.1
     obtain ⟨r0, r1, r2, r3, r4⟩ := box5 K12.out.now.1.1.1.1.1.1.2.2
     have ra := (box5 K12.out.now.1.1.1.1.2.2)
     obtain ⟨a0, a1, a2, a3, a4⟩ := ra
     have rb := (box5 K12.out.now.1.1.2.2)
     obtain ⟨b0, b1, b2, b3, b4⟩ := rb
     have rc := (box5 K12.out.now.2.2)
     obtain ⟨c0, c1, c2, c3, c4⟩ := rc
     have rd := (boxP2 K12.out.now.2.1)
     obtain ⟨d0, d1⟩ := rd
     have hcs : ∃ vn vt, (Value.agg #[.slice an12 n cn12, .slice at12 c.turns.length ct12]) = .agg #[vn, vt] ∧ Ns w12 vn c.nodes ∧ Ts w12 vt c.turns := K12.out.now.1.2.ex
     obtain ⟨vn', vt', he, hcn, _⟩ := hcs
     injection he with he
     injection he with he
     injection he with he1 _
     subst he1
     have hss : ∃ vn vt, (Value.agg #[.slice an n cn, .slice at_ m ct]) = .agg #[vn, vt] ∧ Ns w12 vn s.nodes ∧ Ts w12 vt s.turns := (HV.out.non K12.out.now.1.1.1.1.1.1.1.2.1).ex
     obtain ⟨vn', vt', he, hsn, _⟩ := hss
     injection he with he
     injection he with he
     injection he with he1 _
     subst he1
     have hsame := rSameN_c _ _ _ _ w12 hcn hsn (by rw [HD.out.2.2.2.2.1]; have := HFew.out.nodes.1; omega) (by have := HFew.out.nodes.1; omega)
     rw [decide_eq_true HD.out.2.2.2.2.1] at hsame
     have HSame := Lib.hid hsame
     have hnb : n ≤ 1667 := by have h1 := HNL.out; have h2 := HFew.out.nodes.1; omega
     have qn : ((n8 : Int) = (n : Int) + 1) = True := eq_true (by have := HNN.out; omega)
     have qn2 : ((n8 : Int) == (n : Int) + 1) = true := by have h : (n8 : Int) = (n : Int) + 1 := (by have := HNN.out; omega); simp [h]
     clear hcn hsn hsame
     go_wp2_with fail
     refine HSame.out.mono ?_
     rintro e w13 ⟨rfl, hf⟩
     have K13 := Lib.hid (K12.out.later hf)
     clear hf K12 s0 s1 p0 p1 p2 p3 p4 p5 p6 y0 y1 r0 r1 r2 r3 r4 a0 a1 a2 a3 a4 b0 b1 b2 b3 b4 c0 c1 c2 c3 c4 d0 d1
     obtain ⟨s0, s1⟩ := boxP2 K13.out.now.1.1.1.1.1.1.1.2.2.1
     obtain ⟨y0, y1⟩ := boxP2 K13.out.now.1.1.1.1.1.1.2.1
     have F := Lib.hid K13.out.now.1.1.1.1.1.1.1.2.1
     go_wp2
     go_ret
     exact ⟨rfl, F.out⟩
    ·have q1 : (re != 0) = true := by simpa using hre
     have q2 : (re == 0) = false := by simpa using hre
     have q3 : (re = 0) = False := eq_false hre
     clear hre
     have F8 := Lib.hid (K8.out.now.2.1)
     go_wp2
     go_ret
     exact ⟨rfl, by have := F8.out; exact ((this.alloc _).alloc _)⟩
end Go.Proofs.YtphoglepiegeiaaGreatDoor
