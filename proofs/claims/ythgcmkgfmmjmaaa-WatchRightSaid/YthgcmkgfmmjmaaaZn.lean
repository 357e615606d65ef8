/- step (gen_zn.py) -/
import Derived.Test.YthgcmkgfmmjmaaaZm
namespace Go.Proofs.Ythgcmkgfmmjmaaa
set_option maxRecDepth 20000
set_option linter.unusedVariables false
set_option linter.unusedSimpArgs false
open Go.RowKit Pm

abbrev TO : TypeId := 33
theorem boxP8 {w : World} {b : Nat} {T : TypeId} {c0 c1 c2 c3 c4 c5 c6 c7 : Value} (h : w.heap[b]? = some (.cells #[c0, c1, c2, c3, c4, c5, c6, c7] T (0, 0))) : w.cell? ⟨b, 0, none⟩ = some c0 ∧ w.cell? ⟨b, 1, none⟩ = some c1 ∧ w.cell? ⟨b, 2, none⟩ = some c2 ∧ w.cell? ⟨b, 3, none⟩ = some c3 ∧ w.cell? ⟨b, 4, none⟩ = some c4 ∧ w.cell? ⟨b, 5, none⟩ = some c5 ∧ w.cell? ⟨b, 6, none⟩ = some c6 ∧ w.cell? ⟨b, 7, none⟩ = some c7 :=
  ⟨by rw [cell_of_row _ _ _ _ _ _ h]; rfl, by rw [cell_of_row _ _ _ _ _ _ h]; rfl, by rw [cell_of_row _ _ _ _ _ _ h]; rfl, by rw [cell_of_row _ _ _ _ _ _ h]; rfl, by rw [cell_of_row _ _ _ _ _ _ h]; rfl, by rw [cell_of_row _ _ _ _ _ _ h]; rfl, by rw [cell_of_row _ _ _ _ _ _ h]; rfl, by rw [cell_of_row _ _ _ _ _ _ h]; rfl⟩
structure StR (d : Wd) (w : World) (e : Ending) (w' : World) : Prop where
  ex : ∃ u, e = .returned u ∧ WdR w' u d
  fp : Fp Non w w'

set_option maxHeartbeats 16000000 in
theorem step_c (v : Value) (d : Wd) (o : O9) (w : World) (hv : WdR w v d) (hz : SzD d) (hx : o.x.p.length ≤ 1000000) (hp : o.p.length ≤ 1000000) :
    Calls Try.prog 26 #[v, o9V o] w (StR (stepM d o) w) := by
  obtain ⟨aw, cw, at_, cs, rfl⟩ := hv.vals
  obtain ⟨wh, ⟨sx, nx, px, dx⟩, kd, p, un⟩ := o
  simp only at hx hp
  obtain ⟨D, hD⟩ : ∃ D, D = stepM d ⟨wh, ⟨sx, nx, px, dx⟩, kd, p, un⟩ := ⟨_, rfl⟩
  rw [← hD]
  unfold stepM stepP at hD
  simp only at hD
  have HD := Lib.hid hD
  obtain ⟨n, hnn⟩ : ∃ n, n = d.ws.length := ⟨_, rfl⟩
  obtain ⟨m, hmm⟩ : ∃ m, m = d.ss.length := ⟨_, rfl⟩
  rw [← hnn, ← hmm] at hv ⊢
  have HZ := Lib.hid (And.intro hz (And.intro hx hp))
  have f0 := (Fp.then (Fp.then (Fp.then (fp_alloc w (.cells #[.slice aw n cw, .slice at_ m cs] TD)) (fp_alloc _ (.cells #[.int .i64 wh, .int .i64 sx, .int .i64 nx, .string (B px), .bool dx, .int .i64 kd, .string (B p), .int .i64 un] TO))) (fp_alloc _ (.cells #[.slice none 0 0, .slice none 0 0] TD))) (fp_alloc _ (.cells #[.slice aw n cw, .slice at_ m cs] TD)))
  have r0 := ((Fp.then (Fp.then (fp_alloc (World.alloc w (.cells #[.slice aw n cw, .slice at_ m cs] TD)) (.cells #[.int .i64 wh, .int .i64 sx, .int .i64 nx, .string (B px), .bool dx, .int .i64 kd, .string (B p), .int .i64 un] TO)) (fp_alloc _ (.cells #[.slice none 0 0, .slice none 0 0] TD))) (fp_alloc _ (.cells #[.slice aw n cw, .slice at_ m cs] TD)))).heap (heap_alloc_new w (.cells #[.slice aw n cw, .slice at_ m cs] TD)) (fun h => h)
  have r1 := ((Fp.then (fp_alloc (World.alloc (World.alloc w (.cells #[.slice aw n cw, .slice at_ m cs] TD)) (.cells #[.int .i64 wh, .int .i64 sx, .int .i64 nx, .string (B px), .bool dx, .int .i64 kd, .string (B p), .int .i64 un] TO)) (.cells #[.slice none 0 0, .slice none 0 0] TD)) (fp_alloc _ (.cells #[.slice aw n cw, .slice at_ m cs] TD)))).heap (heap_alloc_new (World.alloc w (.cells #[.slice aw n cw, .slice at_ m cs] TD)) (.cells #[.int .i64 wh, .int .i64 sx, .int .i64 nx, .string (B px), .bool dx, .int .i64 kd, .string (B p), .int .i64 un] TO)) (fun h => h)
  have sz1 : ((World.alloc w (.cells #[.slice aw n cw, .slice at_ m cs] TD))).heap.size = w.heap.size + 1 := by simp
  rw [sz1] at r1
  have r2 := ((fp_alloc (World.alloc (World.alloc (World.alloc w (.cells #[.slice aw n cw, .slice at_ m cs] TD)) (.cells #[.int .i64 wh, .int .i64 sx, .int .i64 nx, .string (B px), .bool dx, .int .i64 kd, .string (B p), .int .i64 un] TO)) (.cells #[.slice none 0 0, .slice none 0 0] TD)) (.cells #[.slice aw n cw, .slice at_ m cs] TD))).heap (heap_alloc_new (World.alloc (World.alloc w (.cells #[.slice aw n cw, .slice at_ m cs] TD)) (.cells #[.int .i64 wh, .int .i64 sx, .int .i64 nx, .string (B px), .bool dx, .int .i64 kd, .string (B p), .int .i64 un] TO)) (.cells #[.slice none 0 0, .slice none 0 0] TD)) (fun h => h)
  have sz2 : ((World.alloc (World.alloc w (.cells #[.slice aw n cw, .slice at_ m cs] TD)) (.cells #[.int .i64 wh, .int .i64 sx, .int .i64 nx, .string (B px), .bool dx, .int .i64 kd, .string (B p), .int .i64 un] TO))).heap.size = w.heap.size + 1 + 1 := by simp
  rw [sz2] at r2
  have r3 := heap_alloc_new (World.alloc (World.alloc (World.alloc w (.cells #[.slice aw n cw, .slice at_ m cs] TD)) (.cells #[.int .i64 wh, .int .i64 sx, .int .i64 nx, .string (B px), .bool dx, .int .i64 kd, .string (B p), .int .i64 un] TO)) (.cells #[.slice none 0 0, .slice none 0 0] TD)) (.cells #[.slice aw n cw, .slice at_ m cs] TD)
  have sz3 : ((World.alloc (World.alloc (World.alloc w (.cells #[.slice aw n cw, .slice at_ m cs] TD)) (.cells #[.int .i64 wh, .int .i64 sx, .int .i64 nx, .string (B px), .bool dx, .int .i64 kd, .string (B p), .int .i64 un] TO)) (.cells #[.slice none 0 0, .slice none 0 0] TD))).heap.size = w.heap.size + 1 + 1 + 1 := by simp
  rw [sz3] at r3
  have K0 := Lib.hid (Kp.and (Kp.row r0) (Kp.and (Kp.row r1) (Kp.and (Kp.row r2) (Kp.and (Kp.row r3) (Kp.and (Kp.wd (hv.non f0)) (Kp.fp f0))))))
  clear f0 r0 r1 r2 r3 sz1 sz2 sz3
  clear hv hz hx hp hnn hmm hD
  obtain ⟨x0, x1, x2, x3, x4, x5, x6, x7⟩ := boxP8 K0.out.now.2.1
  obtain ⟨p0, p1⟩ := boxP2 K0.out.now.1
  unfold o9V strV
  go_enter Try.func26, Try.ntmps26
  by_cases hw0 : wh = 0
  · have hD1 := HD.out
    clear HD
    rw [if_pos hw0] at hD1
    have HD := Lib.hid hD1
    clear hD1
    have w0a : (wh = 0) = True := eq_true hw0
    have w0b : (wh == 0) = true := beq_iff_eq.2 hw0
    subst hw0
    obtain ⟨dr, hdr⟩ : ∃ E, E = (addM d ⟨sx, nx, px, dx⟩).1 := ⟨_, rfl⟩
    obtain ⟨er, her⟩ : ∃ E, E = (addM d ⟨sx, nx, px, dx⟩).2 := ⟨_, rfl⟩
    have HC := Lib.hid (Add_w (.agg #[.slice aw n cw, .slice at_ m cs]) d ⟨sx, nx, px, dx⟩ _ K0.out.now.2.2.2.2.1 HZ.out.1 HZ.out.2.1)

    rw [← hdr, ← her] at HC
    rw [← hdr, ← her] at HD
    clear hdr her 
    unfold wtV strV at HC
    simp only at HC
    go_wp2_with fail
    refine (HC.out).mono ?_
    rintro e w4 hR
    obtain ⟨a4, m4, c4, d4, k4, e4, rfl, hm4, hk4, hw4⟩ := hR.bx
    have hbx := heap_alloc_new w4 (.cells #[.slice a4 m4 c4, .slice d4 k4 e4] TD)
    have HM4 := Lib.hid (And.intro hm4 hk4)
    clear hm4 hk4 
    have K4 := Lib.hid (Kp.and (Kp.row hbx) ((Kp.and (Kp.wd hw4) (K0.out.later hR.fp)).later (fp_alloc w4 (.cells #[.slice a4 m4 c4, .slice d4 k4 e4] TD))))
    clear hR hbx hw4  K0 p0 p1 x0 x1 x2 x3 x4 x5 x6 x7
    by_cases he : er = 0
    · have HDE := Lib.hid (show D = _ from HD.out)
      have e1 : (er != 0) = false := by simp [he]
      have e2 : (er = 0) = True := eq_true he
      have HQ := Lib.hid he
      have hdd : D = dr := by rw [HD.out, if_pos he]
      have HDD := Lib.hid hdd
      clear hdd he
      obtain ⟨u0, u1⟩ := boxP2 K4.out.now.1
      obtain ⟨y0, y1, y2, y3, y4, y5, hz6, hf6⟩ := two_set K4.out.now.2.2.2.2.2.1 (.slice a4 m4 c4) (.slice d4 k4 e4)
      have g2 := hf6.heap K4.out.now.2.2.1 (fun e => by have e : w.heap.size = w.heap.size + 1 + 1 + 1 := e; omega)
      have g4 := hf6.heap K4.out.now.2.2.2.2.1 (fun e => by have e : w.heap.size + 1 + 1 = w.heap.size + 1 + 1 + 1 := e; omega)
      obtain ⟨v0, v1⟩ := boxP2 hz6
      obtain ⟨t0, t1, t2, t3, t4, t5, hz4, hf4⟩ := two_set g4 (.slice a4 m4 c4) (.slice d4 k4 e4)
      have hfp := (K4.out.now.2.2.2.2.2.2.2.over hf6 (fun j hj => by have hj : j = w.heap.size + 1 + 1 + 1 := hj; omega)).over hf4 (fun j hj => by have hj : j = w.heap.size + 1 + 1 := hj; omega)
      have hwd := (K4.out.now.2.1.off K4.out.now.2.2.2.2.2.1 hf6).off g4 hf4
      have HE := Lib.hid (And.intro hz4 (And.intro hwd hfp))
      clear hz6 hf6 g2 g4 hz4 hf4 hfp hwd K4
      go_wp2_with fail
      generalize (World.setCell (World.setCell _ _ _) _ _) = wz at *
      obtain ⟨s0, s1⟩ := boxP2 HE.out.1
      refine bodyPost_ret (v := .agg #[.slice a4 m4 c4, .slice d4 k4 e4]) (by simp [results, Try.results26, go_sem, s0, s1]) rfl ?_
      refine ⟨⟨_, rfl, ?_⟩, HE.out.2.2⟩
      rw [HDD.out]
      exact HE.out.2.1
    · have e1 : (er != 0) = true := by simp [he]
      have e2 : (er = 0) = False := eq_false he
      have hdd : D = d := by rw [HD.out, if_neg he]
      have HDD := Lib.hid hdd
      clear hdd he
      obtain ⟨u0, u1⟩ := boxP2 K4.out.now.1
      obtain ⟨y0, y1, y2, y3, y4, y5, hz6, hf6⟩ := two_set K4.out.now.2.2.2.2.2.1 (.slice a4 m4 c4) (.slice d4 k4 e4)
      have g2 := hf6.heap K4.out.now.2.2.1 (fun e => by have e : w.heap.size = w.heap.size + 1 + 1 + 1 := e; omega)
      have g4 := hf6.heap K4.out.now.2.2.2.2.1 (fun e => by have e : w.heap.size + 1 + 1 = w.heap.size + 1 + 1 + 1 := e; omega)
      obtain ⟨v2, v3⟩ := boxP2 g2
      obtain ⟨t0, t1, t2, t3, t4, t5, hz4, hf4⟩ := two_set g4 (.slice aw n cw) (.slice at_ m cs)
      have hfp := (K4.out.now.2.2.2.2.2.2.2.over hf6 (fun j hj => by have hj : j = w.heap.size + 1 + 1 + 1 := hj; omega)).over hf4 (fun j hj => by have hj : j = w.heap.size + 1 + 1 := hj; omega)
      have hwd := (K4.out.now.2.2.2.2.2.2.1.off K4.out.now.2.2.2.2.2.1 hf6).off g4 hf4
      have HE := Lib.hid (And.intro hz4 (And.intro hwd hfp))
      clear hz6 hf6 g2 g4 hz4 hf4 hfp hwd K4
      go_wp2_with fail
      generalize (World.setCell (World.setCell _ _ _) _ _) = wz at *
      obtain ⟨s0, s1⟩ := boxP2 HE.out.1
      refine bodyPost_ret (v := .agg #[.slice aw n cw, .slice at_ m cs]) (by simp [results, Try.results26, go_sem, s0, s1]) rfl ?_
      refine ⟨⟨_, rfl, ?_⟩, HE.out.2.2⟩
      rw [HDD.out]
      exact HE.out.2.1
  · have hD1 := HD.out
    clear HD
    rw [if_neg hw0] at hD1
    have HD := Lib.hid hD1
    clear hD1
    have w0a : (wh = 0) = False := eq_false hw0
    have w0b : (wh == 0) = false := beq_eq_false_iff_ne.2 hw0
    clear hw0
    by_cases hw1 : wh = 1
    · have hD1 := HD.out
      clear HD
      rw [if_pos hw1] at hD1
      have HD := Lib.hid hD1
      clear hD1
      have w1a : (wh = 1) = True := eq_true hw1
      have w1b : (wh == 1) = true := beq_iff_eq.2 hw1
      subst hw1
      obtain ⟨dr, hdr⟩ : ∃ E, E = (closeM d sx nx).1 := ⟨_, rfl⟩
      obtain ⟨er, her⟩ : ∃ E, E = (closeM d sx nx).2 := ⟨_, rfl⟩
      have HC := Lib.hid (Close_w (.agg #[.slice aw n cw, .slice at_ m cs]) d sx nx _ K0.out.now.2.2.2.2.1 HZ.out.1)

      rw [← hdr, ← her] at HC
      rw [← hdr, ← her] at HD
      clear hdr her 
      go_wp2_with fail
      refine (HC.out).mono ?_
      rintro e w4 hR
      obtain ⟨a4, m4, c4, d4, k4, e4, rfl, hm4, hk4, hw4⟩ := hR.bx
      have hbx := heap_alloc_new w4 (.cells #[.slice a4 m4 c4, .slice d4 k4 e4] TD)
      have HM4 := Lib.hid (And.intro hm4 hk4)
      clear hm4 hk4 
      have K4 := Lib.hid (Kp.and (Kp.row hbx) ((Kp.and (Kp.wd hw4) (K0.out.later hR.fp)).later (fp_alloc w4 (.cells #[.slice a4 m4 c4, .slice d4 k4 e4] TD))))
      clear hR hbx hw4  K0 p0 p1 x0 x1 x2 x3 x4 x5 x6 x7
      by_cases he : er = 0
      · have HDE := Lib.hid (show D = _ from HD.out)
        have e1 : (er != 0) = false := by simp [he]
        have e2 : (er = 0) = True := eq_true he
        have HQ := Lib.hid he
        have hdd : D = dr := by rw [HD.out, if_pos he]
        have HDD := Lib.hid hdd
        clear hdd he
        obtain ⟨u0, u1⟩ := boxP2 K4.out.now.1
        obtain ⟨y0, y1, y2, y3, y4, y5, hz6, hf6⟩ := two_set K4.out.now.2.2.2.2.2.1 (.slice a4 m4 c4) (.slice d4 k4 e4)
        have g2 := hf6.heap K4.out.now.2.2.1 (fun e => by have e : w.heap.size = w.heap.size + 1 + 1 + 1 := e; omega)
        have g4 := hf6.heap K4.out.now.2.2.2.2.1 (fun e => by have e : w.heap.size + 1 + 1 = w.heap.size + 1 + 1 + 1 := e; omega)
        obtain ⟨v0, v1⟩ := boxP2 hz6
        obtain ⟨t0, t1, t2, t3, t4, t5, hz4, hf4⟩ := two_set g4 (.slice a4 m4 c4) (.slice d4 k4 e4)
        have hfp := (K4.out.now.2.2.2.2.2.2.2.over hf6 (fun j hj => by have hj : j = w.heap.size + 1 + 1 + 1 := hj; omega)).over hf4 (fun j hj => by have hj : j = w.heap.size + 1 + 1 := hj; omega)
        have hwd := (K4.out.now.2.1.off K4.out.now.2.2.2.2.2.1 hf6).off g4 hf4
        have HE := Lib.hid (And.intro hz4 (And.intro hwd hfp))
        clear hz6 hf6 g2 g4 hz4 hf4 hfp hwd K4
        go_wp2_with fail
        generalize (World.setCell (World.setCell _ _ _) _ _) = wz at *
        obtain ⟨s0, s1⟩ := boxP2 HE.out.1
        refine bodyPost_ret (v := .agg #[.slice a4 m4 c4, .slice d4 k4 e4]) (by simp [results, Try.results26, go_sem, s0, s1]) rfl ?_
        refine ⟨⟨_, rfl, ?_⟩, HE.out.2.2⟩
        rw [HDD.out]
        exact HE.out.2.1
      · have e1 : (er != 0) = true := by simp [he]
        have e2 : (er = 0) = False := eq_false he
        have hdd : D = d := by rw [HD.out, if_neg he]
        have HDD := Lib.hid hdd
        clear hdd he
        obtain ⟨u0, u1⟩ := boxP2 K4.out.now.1
        obtain ⟨y0, y1, y2, y3, y4, y5, hz6, hf6⟩ := two_set K4.out.now.2.2.2.2.2.1 (.slice a4 m4 c4) (.slice d4 k4 e4)
        have g2 := hf6.heap K4.out.now.2.2.1 (fun e => by have e : w.heap.size = w.heap.size + 1 + 1 + 1 := e; omega)
        have g4 := hf6.heap K4.out.now.2.2.2.2.1 (fun e => by have e : w.heap.size + 1 + 1 = w.heap.size + 1 + 1 + 1 := e; omega)
        obtain ⟨v2, v3⟩ := boxP2 g2
        obtain ⟨t0, t1, t2, t3, t4, t5, hz4, hf4⟩ := two_set g4 (.slice aw n cw) (.slice at_ m cs)
        have hfp := (K4.out.now.2.2.2.2.2.2.2.over hf6 (fun j hj => by have hj : j = w.heap.size + 1 + 1 + 1 := hj; omega)).over hf4 (fun j hj => by have hj : j = w.heap.size + 1 + 1 := hj; omega)
        have hwd := (K4.out.now.2.2.2.2.2.2.1.off K4.out.now.2.2.2.2.2.1 hf6).off g4 hf4
        have HE := Lib.hid (And.intro hz4 (And.intro hwd hfp))
        clear hz6 hf6 g2 g4 hz4 hf4 hfp hwd K4
        go_wp2_with fail
        generalize (World.setCell (World.setCell _ _ _) _ _) = wz at *
        obtain ⟨s0, s1⟩ := boxP2 HE.out.1
        refine bodyPost_ret (v := .agg #[.slice aw n cw, .slice at_ m cs]) (by simp [results, Try.results26, go_sem, s0, s1]) rfl ?_
        refine ⟨⟨_, rfl, ?_⟩, HE.out.2.2⟩
        rw [HDD.out]
        exact HE.out.2.1
    · have hD1 := HD.out
      clear HD
      rw [if_neg hw1] at hD1
      have HD := Lib.hid hD1
      clear hD1
      have w1a : (wh = 1) = False := eq_false hw1
      have w1b : (wh == 1) = false := beq_eq_false_iff_ne.2 hw1
      clear hw1
      by_cases hw2 : wh = 4
      · have hD1 := HD.out
        clear HD
        rw [if_pos hw2] at hD1
        have HD := Lib.hid hD1
        clear hD1
        have w2a : (wh = 4) = True := eq_true hw2
        have w2b : (wh == 4) = true := beq_iff_eq.2 hw2
        subst hw2
        obtain ⟨dr, hdr⟩ : ∃ E, E = (takeM d sx un).1 := ⟨_, rfl⟩
        obtain ⟨er, her⟩ : ∃ E, E = (takeM d sx un).2.2 := ⟨_, rfl⟩
        have HC := Lib.hid (Take_w (.agg #[.slice aw n cw, .slice at_ m cs]) d sx un _ K0.out.now.2.2.2.2.1 HZ.out.1)
        obtain ⟨es, hes⟩ : ∃ E, E = (takeM d sx un).2.1 := ⟨_, rfl⟩
        rw [← hdr, ← her, ← hes] at HC
        rw [← hdr, ← her] at HD
        clear hdr her hes
        go_wp2_with fail
        refine (HC.out).mono ?_
        rintro e w4 hR
        obtain ⟨a4, m4, c4, d4, k4, e4, l4, n4, f4, rfl, hm4, hk4, hn4, hw4, hl4⟩ := hR.bx
        have hbx := heap_alloc_new w4 (.cells #[.slice a4 m4 c4, .slice d4 k4 e4] TD)
        have HM4 := Lib.hid (And.intro hm4 (And.intro hk4 hn4))
        clear hm4 hk4 hn4
        have K4 := Lib.hid (Kp.and (Kp.row hbx) ((Kp.and (Kp.wd hw4) (Kp.and (Kp.ne hl4) (K0.out.later hR.fp))).later (fp_alloc w4 (.cells #[.slice a4 m4 c4, .slice d4 k4 e4] TD))))
        clear hR hbx hw4 hl4 K0 p0 p1 x0 x1 x2 x3 x4 x5 x6 x7
        by_cases he : er = 0
        · have HDE := Lib.hid (show D = _ from HD.out)
          have e1 : (er != 0) = false := by simp [he]
          have e2 : (er = 0) = True := eq_true he
          have HQ := Lib.hid he
          have hdd : D = dr := by rw [HD.out, if_pos he]
          have HDD := Lib.hid hdd
          clear hdd he
          obtain ⟨u0, u1⟩ := boxP2 K4.out.now.1
          obtain ⟨y0, y1, y2, y3, y4, y5, hz6, hf6⟩ := two_set K4.out.now.2.2.2.2.2.2.1 (.slice a4 m4 c4) (.slice d4 k4 e4)
          have g2 := hf6.heap K4.out.now.2.2.2.1 (fun e => by have e : w.heap.size = w.heap.size + 1 + 1 + 1 := e; omega)
          have g4 := hf6.heap K4.out.now.2.2.2.2.2.1 (fun e => by have e : w.heap.size + 1 + 1 = w.heap.size + 1 + 1 + 1 := e; omega)
          obtain ⟨v0, v1⟩ := boxP2 hz6
          obtain ⟨t0, t1, t2, t3, t4, t5, hz4, hf4⟩ := two_set g4 (.slice a4 m4 c4) (.slice d4 k4 e4)
          have hfp := (K4.out.now.2.2.2.2.2.2.2.2.over hf6 (fun j hj => by have hj : j = w.heap.size + 1 + 1 + 1 := hj; omega)).over hf4 (fun j hj => by have hj : j = w.heap.size + 1 + 1 := hj; omega)
          have hwd := (K4.out.now.2.1.off K4.out.now.2.2.2.2.2.2.1 hf6).off g4 hf4
          have HE := Lib.hid (And.intro hz4 (And.intro hwd hfp))
          clear hz6 hf6 g2 g4 hz4 hf4 hfp hwd K4
          go_wp2_with fail
          generalize (World.setCell (World.setCell _ _ _) _ _) = wz at *
          obtain ⟨s0, s1⟩ := boxP2 HE.out.1
          refine bodyPost_ret (v := .agg #[.slice a4 m4 c4, .slice d4 k4 e4]) (by simp [results, Try.results26, go_sem, s0, s1]) rfl ?_
          refine ⟨⟨_, rfl, ?_⟩, HE.out.2.2⟩
          rw [HDD.out]
          exact HE.out.2.1
        · have e1 : (er != 0) = true := by simp [he]
          have e2 : (er = 0) = False := eq_false he
          have hdd : D = d := by rw [HD.out, if_neg he]
          have HDD := Lib.hid hdd
          clear hdd he
          obtain ⟨u0, u1⟩ := boxP2 K4.out.now.1
          obtain ⟨y0, y1, y2, y3, y4, y5, hz6, hf6⟩ := two_set K4.out.now.2.2.2.2.2.2.1 (.slice a4 m4 c4) (.slice d4 k4 e4)
          have g2 := hf6.heap K4.out.now.2.2.2.1 (fun e => by have e : w.heap.size = w.heap.size + 1 + 1 + 1 := e; omega)
          have g4 := hf6.heap K4.out.now.2.2.2.2.2.1 (fun e => by have e : w.heap.size + 1 + 1 = w.heap.size + 1 + 1 + 1 := e; omega)
          obtain ⟨v2, v3⟩ := boxP2 g2
          obtain ⟨t0, t1, t2, t3, t4, t5, hz4, hf4⟩ := two_set g4 (.slice aw n cw) (.slice at_ m cs)
          have hfp := (K4.out.now.2.2.2.2.2.2.2.2.over hf6 (fun j hj => by have hj : j = w.heap.size + 1 + 1 + 1 := hj; omega)).over hf4 (fun j hj => by have hj : j = w.heap.size + 1 + 1 := hj; omega)
          have hwd := (K4.out.now.2.2.2.2.2.2.2.1.off K4.out.now.2.2.2.2.2.2.1 hf6).off g4 hf4
          have HE := Lib.hid (And.intro hz4 (And.intro hwd hfp))
          clear hz6 hf6 g2 g4 hz4 hf4 hfp hwd K4
          go_wp2_with fail
          generalize (World.setCell (World.setCell _ _ _) _ _) = wz at *
          obtain ⟨s0, s1⟩ := boxP2 HE.out.1
          refine bodyPost_ret (v := .agg #[.slice aw n cw, .slice at_ m cs]) (by simp [results, Try.results26, go_sem, s0, s1]) rfl ?_
          refine ⟨⟨_, rfl, ?_⟩, HE.out.2.2⟩
          rw [HDD.out]
          exact HE.out.2.1
      · have hD1 := HD.out
        clear HD
        rw [if_neg hw2] at hD1
        have HD := Lib.hid hD1
        clear hD1
        have w2a : (wh = 4) = False := eq_false hw2
        have w2b : (wh == 4) = false := beq_eq_false_iff_ne.2 hw2
        clear hw2
        obtain ⟨dr, hdr⟩ : ∃ E, E = (tellM d kd p).1 := ⟨_, rfl⟩
        obtain ⟨er, her⟩ : ∃ E, E = (tellM d kd p).2 := ⟨_, rfl⟩
        have HC := Lib.hid (Tell_w (.agg #[.slice aw n cw, .slice at_ m cs]) d kd p _ K0.out.now.2.2.2.2.1 HZ.out.1 HZ.out.2.2)

        rw [← hdr, ← her] at HC
        rw [← hdr, ← her] at HD
        clear hdr her 
        go_wp2_with fail
        refine (HC.out).mono ?_
        rintro e w4 hR
        obtain ⟨a4, m4, c4, d4, k4, e4, rfl, hm4, hk4, hw4⟩ := hR.bx
        have hbx := heap_alloc_new w4 (.cells #[.slice a4 m4 c4, .slice d4 k4 e4] TD)
        have HM4 := Lib.hid (And.intro hm4 hk4)
        clear hm4 hk4 
        have K4 := Lib.hid (Kp.and (Kp.row hbx) ((Kp.and (Kp.wd hw4) (K0.out.later hR.fp)).later (fp_alloc w4 (.cells #[.slice a4 m4 c4, .slice d4 k4 e4] TD))))
        clear hR hbx hw4  K0 p0 p1 x0 x1 x2 x3 x4 x5 x6 x7
        by_cases he : er = 0
        · have HDE := Lib.hid (show D = _ from HD.out)
          have e1 : (er != 0) = false := by simp [he]
          have e2 : (er = 0) = True := eq_true he
          have HQ := Lib.hid he
          have hdd : D = dr := by rw [HD.out, if_pos he]
          have HDD := Lib.hid hdd
          clear hdd he
          obtain ⟨u0, u1⟩ := boxP2 K4.out.now.1
          obtain ⟨y0, y1, y2, y3, y4, y5, hz6, hf6⟩ := two_set K4.out.now.2.2.2.2.2.1 (.slice a4 m4 c4) (.slice d4 k4 e4)
          have g2 := hf6.heap K4.out.now.2.2.1 (fun e => by have e : w.heap.size = w.heap.size + 1 + 1 + 1 := e; omega)
          have g4 := hf6.heap K4.out.now.2.2.2.2.1 (fun e => by have e : w.heap.size + 1 + 1 = w.heap.size + 1 + 1 + 1 := e; omega)
          obtain ⟨v0, v1⟩ := boxP2 hz6
          obtain ⟨t0, t1, t2, t3, t4, t5, hz4, hf4⟩ := two_set g4 (.slice a4 m4 c4) (.slice d4 k4 e4)
          have hfp := (K4.out.now.2.2.2.2.2.2.2.over hf6 (fun j hj => by have hj : j = w.heap.size + 1 + 1 + 1 := hj; omega)).over hf4 (fun j hj => by have hj : j = w.heap.size + 1 + 1 := hj; omega)
          have hwd := (K4.out.now.2.1.off K4.out.now.2.2.2.2.2.1 hf6).off g4 hf4
          have HE := Lib.hid (And.intro hz4 (And.intro hwd hfp))
          clear hz6 hf6 g2 g4 hz4 hf4 hfp hwd K4
          go_wp2_with fail
          generalize (World.setCell (World.setCell _ _ _) _ _) = wz at *
          obtain ⟨s0, s1⟩ := boxP2 HE.out.1
          refine bodyPost_ret (v := .agg #[.slice a4 m4 c4, .slice d4 k4 e4]) (by simp [results, Try.results26, go_sem, s0, s1]) rfl ?_
          refine ⟨⟨_, rfl, ?_⟩, HE.out.2.2⟩
          rw [HDD.out]
          exact HE.out.2.1
        · have e1 : (er != 0) = true := by simp [he]
          have e2 : (er = 0) = False := eq_false he
          have hdd : D = d := by rw [HD.out, if_neg he]
          have HDD := Lib.hid hdd
          clear hdd he
          obtain ⟨u0, u1⟩ := boxP2 K4.out.now.1
          obtain ⟨y0, y1, y2, y3, y4, y5, hz6, hf6⟩ := two_set K4.out.now.2.2.2.2.2.1 (.slice a4 m4 c4) (.slice d4 k4 e4)
          have g2 := hf6.heap K4.out.now.2.2.1 (fun e => by have e : w.heap.size = w.heap.size + 1 + 1 + 1 := e; omega)
          have g4 := hf6.heap K4.out.now.2.2.2.2.1 (fun e => by have e : w.heap.size + 1 + 1 = w.heap.size + 1 + 1 + 1 := e; omega)
          obtain ⟨v2, v3⟩ := boxP2 g2
          obtain ⟨t0, t1, t2, t3, t4, t5, hz4, hf4⟩ := two_set g4 (.slice aw n cw) (.slice at_ m cs)
          have hfp := (K4.out.now.2.2.2.2.2.2.2.over hf6 (fun j hj => by have hj : j = w.heap.size + 1 + 1 + 1 := hj; omega)).over hf4 (fun j hj => by have hj : j = w.heap.size + 1 + 1 := hj; omega)
          have hwd := (K4.out.now.2.2.2.2.2.2.1.off K4.out.now.2.2.2.2.2.1 hf6).off g4 hf4
          have HE := Lib.hid (And.intro hz4 (And.intro hwd hfp))
          clear hz6 hf6 g2 g4 hz4 hf4 hfp hwd K4
          go_wp2_with fail
          generalize (World.setCell (World.setCell _ _ _) _ _) = wz at *
          obtain ⟨s0, s1⟩ := boxP2 HE.out.1
          refine bodyPost_ret (v := .agg #[.slice aw n cw, .slice at_ m cs]) (by simp [results, Try.results26, go_sem, s0, s1]) rfl ?_
          refine ⟨⟨_, rfl, ?_⟩, HE.out.2.2⟩
          rw [HDD.out]
          exact HE.out.2.1
end Go.Proofs.Ythgcmkgfmmjmaaa
