/- A text of this proof. -/
import Derived.Test.YtjdpbieifcjmiaaZh
import Derived.Test.YtjdpbieifcjmiaaZA
import Derived.Test.YtjdpbieifcjmiaaQVe
/- WatchPlays (gen_zy.py) -/
namespace Go.Proofs.Ytjdpbieifcjmiaa
set_option maxRecDepth 20000
set_option linter.unusedVariables false
set_option linter.unusedSimpArgs false
open Go.RowKit Pm

abbrev TO : TypeId := 33
theorem boxP8 {w : World} {b : Nat} {T : TypeId} {c0 c1 c2 c3 c4 c5 c6 c7 : Value} (h : w.heap[b]? = some (.cells #[c0, c1, c2, c3, c4, c5, c6, c7] T (0, 0))) : w.cell? ⟨b, 0, none⟩ = some c0 ∧ w.cell? ⟨b, 1, none⟩ = some c1 ∧ w.cell? ⟨b, 2, none⟩ = some c2 ∧ w.cell? ⟨b, 3, none⟩ = some c3 ∧ w.cell? ⟨b, 4, none⟩ = some c4 ∧ w.cell? ⟨b, 5, none⟩ = some c5 ∧ w.cell? ⟨b, 6, none⟩ = some c6 ∧ w.cell? ⟨b, 7, none⟩ = some c7 :=
  ⟨by rw [cell_of_row _ _ _ _ _ _ h]; rfl, by rw [cell_of_row _ _ _ _ _ _ h]; rfl, by rw [cell_of_row _ _ _ _ _ _ h]; rfl, by rw [cell_of_row _ _ _ _ _ _ h]; rfl, by rw [cell_of_row _ _ _ _ _ _ h]; rfl, by rw [cell_of_row _ _ _ _ _ _ h]; rfl, by rw [cell_of_row _ _ _ _ _ _ h]; rfl, by rw [cell_of_row _ _ _ _ _ _ h]; rfl⟩
/-- What an answer may be: few, and if it is kept, right. -/
structure Nx (d D : Wd) (er : Int) : Prop where
  s : D.ws.length ≤ 100000 ∧ D.ss.length ≤ 100000 ∧ ∀ s ∈ D.ss, s.evs.length ≤ 100000
  nx : er ≠ 1 → SzD D ∧ D.ss.length ≤ d.ss.length + 64
theorem nx_nil (d : Wd) : Nx d ⟨[], []⟩ 1 := ⟨by simp, fun h => absurd rfl h⟩
theorem nx_right {d D : Wd} {er : Int} (h : rightW D = true) (hl : D.ss.length ≤ d.ss.length + 64) (hs : d.ss.length ≤ 19000) : Nx d D er := by
  have k := right_sz h (by omega)
  exact ⟨⟨by have := k.w; omega, by omega, fun s hs => by have := (k.sp s hs).1; omega⟩, fun _ => ⟨k, hl⟩⟩
theorem tell_ss9 (d : Wd) (kd : Int) (p : Bs) (hw : d.ws.length ≤ 64) : (tellM d kd p).1.ss.length ≤ d.ss.length + 64 := by
  unfold tellM
  split
  · have := tell_len kd p d.ws d.ss d.ws.length (Nat.le_refl _)
    rw [List.take_length] at this
    simp only; omega
  · simp
theorem nx_add (d : Wd) (x : Wt) (hs : d.ss.length ≤ 19000) : Nx d (addM d x).1 (addM d x).2 := by
  by_cases h : rightW d = true
  · refine nx_right (add_right d x h) ?_ hs
    unfold addM
    split
    · split
      · simp only; omega
      · split
        · simp only; omega
        · have := putS_len d.ss (seS d.ss x.s); simp only; omega
    · simp
  · rw [show addM d x = (⟨[], []⟩, 1) from by unfold addM; rw [if_neg (fun g => h g.1)]]
    exact nx_nil d
theorem nx_close (d : Wd) (s n : Int) (hs : d.ss.length ≤ 19000) : Nx d (closeM d s n).1 (closeM d s n).2 := by
  by_cases h : rightW d = true
  · refine nx_right (close_right d s n h) ?_ hs
    unfold closeM
    rw [if_pos h]
    split
    · simp only; omega
    · simp only; omega
  · rw [show closeM d s n = (⟨[], []⟩, 1) from by unfold closeM; rw [if_neg h]]
    exact nx_nil d
theorem nx_tell (d : Wd) (kd : Int) (p : Bs) (hs : d.ss.length ≤ 19000) : Nx d (tellM d kd p).1 (tellM d kd p).2 := by
  by_cases h : rightW d = true
  · exact nx_right (tell_right d kd p h) (tell_ss9 d kd p ((right_iff d).1 h).1) hs
  · rw [show tellM d kd p = (⟨[], []⟩, 1) from by unfold tellM; rw [if_neg (fun g => h g.1)]]
    exact nx_nil d
theorem nx_take (d : Wd) (s u : Int) (hs : d.ss.length ≤ 19000) : Nx d (takeM d s u).1 (takeM d s u).2.2 ∧ (takeM d s u).2.1.length ≤ 1000 := by
  by_cases h : rightW d = true
  · refine ⟨nx_right (take_right d s u h) ?_ hs, ?_⟩
    · unfold takeM
      rw [if_pos h]
      split
      · simp only; omega
      · rename_i s' _
        have := putS_len d.ss ⟨s'.num, s'.count, cutE u s'.evs⟩; simp only; omega
    · unfold takeM
      rw [if_pos h]
      split
      · simp
      · rename_i s' hg
        have h8 := ((rSe_iff _).1 (((right_iff d).1 h).2.2.1 _ (getS_some hg).1)).2.1.2.2.1
        have hle : (cutE u s'.evs).length ≤ s'.evs.length := by unfold cutE; exact List.length_filter_le _ _
        simp only; omega
  · rw [show takeM d s u = (⟨[], []⟩, [], 1) from by unfold takeM; rw [if_neg h]]
    exact ⟨nx_nil d, by simp⟩
theorem Same_t (v u : Value) (D : Wd) (w : World) (hv : WdR w v D) (hu : WdR w u D) (hs : D.ws.length ≤ 100000 ∧ D.ss.length ≤ 100000 ∧ ∀ s ∈ D.ss, s.evs.length ≤ 100000) :
    Calls Try.prog 18 #[v, u] w fun e w' => e = .returned (.bool true) ∧ Fp Non w w' := by
  have h := Same_c v u D D w hv hu hs hs
  rwa [show decide (D = D) = true from decide_eq_true rfl] at h
theorem SameEv_t (v u : Value) (l : List Ev) (w : World) (hv : NsE w v l) (hu : NsE w u l) (hl : l.length ≤ 1000) :
    Calls Try.prog 15 #[v, u] w fun e w' => e = .returned (.bool true) ∧ Fp Non w w' := by
  have h := SameEv_c v u l l w hv hu (by omega) (by omega)
  rwa [show decide (l = l) = true from decide_eq_true rfl] at h
/-- Both, in their boxes. -/
structure PlS (w : World) (b6 : Nat) (A1 A2 B1 B2 : Value) (d : Wd) (W : World) : Prop where
  fp : Fp Non w W
  lo : w.heap.size ≤ b6
  r6 : W.heap[b6]? = some (.cells #[A1, A2] TD (0, 0))
  r7 : W.heap[b6 + 1]? = some (.cells #[B1, B2] TD (0, 0))
  wa : WdR W (.agg #[A1, A2]) d
  wb : WdR W (.agg #[B1, B2]) d
structure PlN (d : Wd) (k : Nat) : Prop where
  sz : SzD d
  s : d.ss.length ≤ 3000 + 64 * k

set_option maxHeartbeats 16000000 in
theorem WatchPlays_c (v1 : Value) (d0 : Wd) (v2 : Value) (l : List O9) (w : World) (hv : WdR w v1 d0) (hn : d0.ws.length ≤ 140737488355328) (hm : d0.ss.length ≤ 140737488355328) (hl : Ops w v2 l) :
    Calls Try.prog 3 #[v1, v2] w fun e w' => e = .returned (.bool true) ∧ Fp Non w w' := by
  obtain ⟨aw, cw, at_, cs, rfl⟩ := hv.vals
  obtain ⟨ao, oc, rfl⟩ := hl.shape
  obtain ⟨n, hnn⟩ : ∃ n, n = d0.ws.length := ⟨_, rfl⟩
  obtain ⟨m, hmm⟩ : ∃ m, m = d0.ss.length := ⟨_, rfl⟩
  obtain ⟨N, hN⟩ : ∃ m, m = l.length := ⟨_, rfl⟩
  rw [← hnn, ← hmm] at hv ⊢
  rw [← hN] at hl ⊢
  have HX := Lib.hid (And.intro hN (And.intro hl (And.intro hv (And.intro hn hm))))
  have K0 := Lib.hid (Kp.and (Kp.row (heap_alloc_new w (.cells #[.slice aw n cw, .slice at_ m cs] TD))) (Kp.fp (fp_alloc w (.cells #[.slice aw n cw, .slice at_ m cs] TD))))
  clear hv hl hn hm hnn hmm hN
  go_enter Try.func3, Try.ntmps3
  go_wp2_with fail
  refine (head_c _).mono ?_
  rintro e w1 ⟨rfl, hf⟩
  have F1 := Lib.hid (K0.out.later hf)
  clear hf K0
  go_wp2_with fail
  refine (Great_c (.slice ao N oc) l _ (HX.out.2.1.non F1.out.now.2)).mono ?_
  rintro e w2 ⟨g, rfl, hg, hf⟩
  have F2 := Lib.hid (F1.out.later hf)
  have Hg1 := Lib.hid hg
  clear hg hf F1
  cases g with
  | true =>
    clear Hg1
    go_wp2
    go_ret
    exact ⟨rfl, F2.out.now.2⟩
  | false =>
    have Hg1f := Lib.hid (Hg1.out rfl)
    have F1 := Lib.hid F2.out
    clear F2 Hg1
    obtain ⟨p0, p1⟩ := boxP2 F1.out.now.1
    go_wp2_with fail
    refine (GreatAll_c (.agg #[.slice aw n cw, .slice at_ m cs]) d0 _ (HX.out.2.2.1.non F1.out.now.2) HX.out.2.2.2.1 HX.out.2.2.2.2).mono ?_
    rintro e w2 ⟨g, rfl, hg, hf⟩
    have F2 := Lib.hid (F1.out.later hf)
    have Hg2 := Lib.hid hg
    clear hg hf F1
    cases g with
    | true =>
      clear Hg2 p0 p1
      go_wp2
      go_ret
      exact ⟨rfl, F2.out.now.2⟩
    | false =>
      have Hg2f := Lib.hid (Hg2.out rfl)
      have F1 := Lib.hid F2.out
      clear F2 Hg2 p0 p1
      have HSZ := Lib.hid Hg2f.out.sz
      have HN200 := Lib.hid (show N ≤ 200 by rw [HX.out.1]; exact Hg1f.out.1)
      obtain ⟨p0, p1⟩ := boxP2 F1.out.now.1
      obtain ⟨p2, p3⟩ := boxP2 ((fp_alloc w2 (.cells #[.slice aw n cw, .slice at_ m cs] TD)).heap F1.out.now.1 (fun h => h))
      have r6 := (fp_alloc (World.alloc w2 (.cells #[.slice aw n cw, .slice at_ m cs] TD)) (.cells #[.slice aw n cw, .slice at_ m cs] TD)).heap (heap_alloc_new w2 (.cells #[.slice aw n cw, .slice at_ m cs] TD)) (fun h => h)
      have r7 := heap_alloc_new (World.alloc w2 (.cells #[.slice aw n cw, .slice at_ m cs] TD)) (.cells #[.slice aw n cw, .slice at_ m cs] TD)
      have sz7 : (World.alloc w2 (.cells #[.slice aw n cw, .slice at_ m cs] TD)).heap.size = w2.heap.size + 1 := by simp
      rw [sz7] at r7
      have fa := (F1.out.now.2.then (fp_alloc w2 (.cells #[.slice aw n cw, .slice at_ m cs] TD))).then (fp_alloc (World.alloc w2 (.cells #[.slice aw n cw, .slice at_ m cs] TD)) (.cells #[.slice aw n cw, .slice at_ m cs] TD))
      have hws := F1.out.now.2.size
      have H0 := Lib.hid (show PlS w w2.heap.size (.slice aw n cw) (.slice at_ m cs) (.slice aw n cw) (.slice at_ m cs) d0 _ from ⟨fa, hws, r6, r7, HX.out.2.2.1.non fa, HX.out.2.2.1.non fa⟩)
      clear r6 r7 sz7 fa hws
      go_upto_region 6 with (fail)
      obtain ⟨b6, hb6⟩ : ∃ b, b = w2.heap.size := ⟨_, rfl⟩
      rw [← hb6] at H0 ⊢
      clear hb6 p0 p1 p2 p3
      generalize (World.alloc (World.alloc w2 _) _) = w3 at *
      obtain ⟨br, hbr⟩ : ∃ b, rightW d0 = b := ⟨_, rfl⟩
      have hrw := fun W (hW : WdR W (.agg #[.slice aw n cw, .slice at_ m cs]) d0) => Right_w (.agg #[.slice aw n cw, .slice at_ m cs]) d0 W hW HSZ.out
      have hrr := fun W (hW : WdR W (.agg #[.slice aw n cw, .slice at_ m cs]) d0) => rRight_w (.agg #[.slice aw n cw, .slice at_ m cs]) d0 W hW HSZ.out
      rw [hbr] at hrw hrr
      have HRW := Lib.hid hrw
      have HRR := Lib.hid hrr
      clear hrw hrr hbr
      go_cut [46] from 42 to 46 (fun x46 wc => x46 = .bool false ∧ Hid (Fp Non w3 wc))
      case first =>
        have HS0 := Lib.hid (show ∀ W, Fp Non w3 W → (W.cell? ⟨b6, 0, none⟩ = some (.slice aw n cw) ∧ W.cell? ⟨b6, 1, none⟩ = some (.slice at_ m cs) ∧ W.cell? ⟨b6 + 1, 0, none⟩ = some (.slice aw n cw) ∧ W.cell? ⟨b6 + 1, 1, none⟩ = some (.slice at_ m cs)) ∧ WdR W (.agg #[.slice aw n cw, .slice at_ m cs]) d0 ∧ True from fun W f => ⟨⟨(boxP2 (f.heap H0.out.r6 (fun h => h))).1, (boxP2 (f.heap H0.out.r6 (fun h => h))).2, (boxP2 (f.heap H0.out.r7 (fun h => h))).1, (boxP2 (f.heap H0.out.r7 (fun h => h))).2⟩, H0.out.wa.non f, trivial⟩)
        have HWD := Lib.hid (Fp.refl Non w3).drew
        go_wp2_with fail
        refine wp_region_held_drew (S := (fun w' => w'.cell? ⟨b6, 0, none⟩ = some (.slice aw n cw) ∧ w'.cell? ⟨b6, 1, none⟩ = some (.slice at_ m cs) ∧ w'.cell? ⟨b6 + 1, 0, none⟩ = some (.slice aw n cw) ∧ w'.cell? ⟨b6 + 1, 1, none⟩ = some (.slice at_ m cs))) (by kernel_rfl) ?_ (fun hHeld => ?_)
        · exact (HS0.out _ HWD.out).1
        refine tk 0 hHeld ?_
        refine tk 2 hHeld ?_
        refine rY 1 (fun K hK => ?_)
        go_simp
        refine (HRW.out _ (HS0.out _ HWD.out).2.1).mono ?_
        rintro e w6 ⟨rfl, hf⟩
        have F6 := Lib.hid (HWD.out.then hf)
        clear hf
        go_wp2_with fail
        refine hK.out _ _ (HS0.out _ F6.out).1 (fun hHeld => ?_)
        clear hK K
        try simp only [zP, zN, zS, zT, zU]
        refine rY 3 (fun K hK => ?_)
        go_simp
        refine (HRR.out _ (HS0.out _ F6.out).2.1).mono ?_
        rintro e w7 ⟨rfl, hf⟩
        have F7 := Lib.hid (F6.out.then hf)
        clear hf
        go_wp2_with fail
        refine hK.out _ _ (HS0.out _ F7.out).1 (fun hHeld => ?_)
        clear hK K
        try simp only [zP, zN, zS, zT, zU]
        refine tk 4 hHeld ?_
        refine yD ?_
        go_wp2_with fail
        go_meet
        case rel => exact ⟨by simp, F7.out⟩
      case rest =>
        obtain ⟨rfl, hF⟩ := hcut
        rename World => w4
        have H1 := Lib.hid (show PlS w b6 (.slice aw n cw) (.slice at_ m cs) (.slice aw n cw) (.slice at_ m cs) d0 w4 ∧ PlN d0 0 from ⟨⟨H0.out.fp.then hF.out, H0.out.lo, hF.out.heap H0.out.r6 (fun h => h), hF.out.heap H0.out.r7 (fun h => h), H0.out.wa.non hF.out, H0.out.wb.non hF.out⟩, ⟨HSZ.out, by have := Hg2f.out.n; omega⟩⟩)
        clear H0 hF HRW HRR F1
        go_wp2_with fail
        go_loopw [8] (fun i wr => ∃ k : Nat, k ≤ N ∧ i = .int .i64 k ∧ ∃ a1 m1 c1 d1 k1 e1 a2 m2 c2 d2 k2 e2 d, Hid (PlS w b6 (.slice a1 m1 c1) (.slice d1 k1 e1) (.slice a2 m2 c2) (.slice d2 k2 e2) d wr ∧ PlN d k)) (fun i _ => N - (RowKit.intOf i).toNat)
        case atStart => exact ⟨0, Nat.zero_le _, rfl, _, _, _, _, _, _, _, _, _, _, _, _, _, H1⟩
        case round =>
          clear H1
          obtain ⟨k, hk, rfl, a1, m1, c1, d1, k1, e1, a2, m2, c2, d2, k2, e2, d, hR⟩ := hrel
          rename_i wr _
          by_cases hlt : k < N
          · have hkl : k < l.length := by rw [← HX.out.1]; exact hlt
            obtain ⟨g, o, cap', e, hcell⟩ := (show Ops w (.slice ao l.length oc) l from by rw [← HX.out.1]; exact HX.out.2.1).at (by omega)
            injection e with e1_ e2_ e3_
            subst e1_ e3_
            clear e2_
            have hnd := (hcell k hkl).keep hR.out.1.fp (fun h => h)
            have hfx := Hg1f.out.2 l[k] (List.getElem_mem hkl)
            generalize l[k] = x at *
            obtain ⟨xw, ⟨xs, xn, xp, xd⟩, xk, xq, xu⟩ := x
            have c0 := hnd.c0; have c1' := hnd.c1; have c2' := hnd.c2; have c3 := hnd.c3; have c4 := hnd.c4; have c5 := hnd.c5; have c6 := hnd.c6; have c7 := hnd.c7
            unfold strV at c3 c6
            simp only at c0 c1' c2' c3 c4 c5 c6 c7 hfx
            have HFX := Lib.hid hfx
            have HPN := Lib.hid hR.out.2
            have q5 : ((k : Int) < (N : Int)) = True := eq_true (by omega)
            have q6 : (k < N) = True := eq_true hlt
            have HL := Lib.hid hlt
            have HB67 := Lib.hid (show b6 + 1 < wr.heap.size ∧ w.heap.size ≤ b6 from ⟨(Array.getElem?_eq_some_iff.1 hR.out.1.r7).1, hR.out.1.lo⟩)
            clear hcell hkl hlt hnd hfx
            have fa := fp_alloc wr (.cells #[.int .i64 xw, .int .i64 xs, .int .i64 xn, .string (B xp), .bool xd, .int .i64 xk, .string (B xq), .int .i64 xu] TO)
            have fb := fa.then (fp_alloc (wr.alloc (.cells #[.int .i64 xw, .int .i64 xs, .int .i64 xn, .string (B xp), .bool xd, .int .i64 xk, .string (B xq), .int .i64 xu] TO)) (.cells #[.slice a1 m1 c1, .slice d1 k1 e1] TD))
            have fc := fb.then (fp_alloc ((wr.alloc (.cells #[.int .i64 xw, .int .i64 xs, .int .i64 xn, .string (B xp), .bool xd, .int .i64 xk, .string (B xq), .int .i64 xu] TO)).alloc (.cells #[.slice a1 m1 c1, .slice d1 k1 e1] TD)) (.cells #[.slice a2 m2 c2, .slice d2 k2 e2] TD))
            have sz1 : (wr.alloc (.cells #[.int .i64 xw, .int .i64 xs, .int .i64 xn, .string (B xp), .bool xd, .int .i64 xk, .string (B xq), .int .i64 xu] TO)).heap.size = wr.heap.size + 1 := by simp
            have sz2 : ((wr.alloc (.cells #[.int .i64 xw, .int .i64 xs, .int .i64 xn, .string (B xp), .bool xd, .int .i64 xk, .string (B xq), .int .i64 xu] TO)).alloc (.cells #[.slice a1 m1 c1, .slice d1 k1 e1] TD)).heap.size = wr.heap.size + 1 + 1 := by simp
            obtain ⟨p0, p1⟩ := boxP2 (fa.heap hR.out.1.r6 (fun h => h))
            obtain ⟨p2, p3⟩ := boxP2 (fb.heap hR.out.1.r7 (fun h => h))
            have rx := ((fp_alloc (wr.alloc (.cells #[.int .i64 xw, .int .i64 xs, .int .i64 xn, .string (B xp), .bool xd, .int .i64 xk, .string (B xq), .int .i64 xu] TO)) (.cells #[.slice a1 m1 c1, .slice d1 k1 e1] TD)).then (fp_alloc ((wr.alloc (.cells #[.int .i64 xw, .int .i64 xs, .int .i64 xn, .string (B xp), .bool xd, .int .i64 xk, .string (B xq), .int .i64 xu] TO)).alloc (.cells #[.slice a1 m1 c1, .slice d1 k1 e1] TD)) (.cells #[.slice a2 m2 c2, .slice d2 k2 e2] TD))).heap (heap_alloc_new wr (.cells #[.int .i64 xw, .int .i64 xs, .int .i64 xn, .string (B xp), .bool xd, .int .i64 xk, .string (B xq), .int .i64 xu] TO)) (fun h => h)
            have ra := (fp_alloc ((wr.alloc (.cells #[.int .i64 xw, .int .i64 xs, .int .i64 xn, .string (B xp), .bool xd, .int .i64 xk, .string (B xq), .int .i64 xu] TO)).alloc (.cells #[.slice a1 m1 c1, .slice d1 k1 e1] TD)) (.cells #[.slice a2 m2 c2, .slice d2 k2 e2] TD)).heap (heap_alloc_new (wr.alloc (.cells #[.int .i64 xw, .int .i64 xs, .int .i64 xn, .string (B xp), .bool xd, .int .i64 xk, .string (B xq), .int .i64 xu] TO)) (.cells #[.slice a1 m1 c1, .slice d1 k1 e1] TD)) (fun h => h)
            rw [sz1] at ra
            have rb := heap_alloc_new ((wr.alloc (.cells #[.int .i64 xw, .int .i64 xs, .int .i64 xn, .string (B xp), .bool xd, .int .i64 xk, .string (B xq), .int .i64 xu] TO)).alloc (.cells #[.slice a1 m1 c1, .slice d1 k1 e1] TD)) (.cells #[.slice a2 m2 c2, .slice d2 k2 e2] TD)
            rw [sz2] at rb
            have K3 := Lib.hid (Kp.and (Kp.row rx) (Kp.and (Kp.row ra) (Kp.and (Kp.row rb) (Kp.and (Kp.row (fc.heap hR.out.1.r6 (fun h => h))) (Kp.and (Kp.row (fc.heap hR.out.1.r7 (fun h => h))) (Kp.and (Kp.wd (hR.out.1.wa.non fc)) (Kp.and (Kp.wd (hR.out.1.wb.non fc)) (Kp.fp (hR.out.1.fp.then fc)))))))))
            clear fa fb fc sz1 sz2 rx ra rb hR
            go_upto_region 16 with (fail)
            clear p0 p1 p2 p3 c0 c1' c2' c3 c4 c5 c6 c7
            generalize (World.alloc (World.alloc (World.alloc wr _) _) _) = w3 at *
            obtain ⟨p0, p1⟩ := boxP2 K3.out.now.2.2.2.1
            obtain ⟨x0, x1, x2, x3, x4, x5, x6, x7⟩ := boxP8 K3.out.now.1
            by_cases hw0 : xw = 0
            · have w0a : (xw = 0) = True := eq_true hw0
              have w0b : (xw == 0) = true := beq_iff_eq.2 hw0
              subst hw0
              have hca := Add_w (.agg #[.slice a1 m1 c1, .slice d1 k1 e1]) d ⟨xs, xn, xp, xd⟩ _ K3.out.now.2.2.2.2.2.1 HPN.out.sz (show xp.length ≤ 1000000 from by have := HFX.out.1; omega)
              have hcb := fun W (hW : WdR W (.agg #[.slice a2 m2 c2, .slice d2 k2 e2]) d) => rAdd_w (.agg #[.slice a2 m2 c2, .slice d2 k2 e2]) d ⟨xs, xn, xp, xd⟩ W hW HPN.out.sz (by have := HPN.out.s; have := HL.out; have := HN200.out; omega) (show xp.length ≤ 1000000 from by have := HFX.out.1; omega)
              have hnx := nx_add d ⟨xs, xn, xp, xd⟩ (by have := HPN.out.s; have := HL.out; have := HN200.out; omega)
              obtain ⟨D, hD⟩ : ∃ E, E = (addM d ⟨xs, xn, xp, xd⟩).1 := ⟨_, rfl⟩
              obtain ⟨er, her⟩ : ∃ E, E = (addM d ⟨xs, xn, xp, xd⟩).2 := ⟨_, rfl⟩
              rw [← hD, ← her] at hca hcb hnx
              unfold wtV strV at hca hcb
              simp only at hca hcb
              have HCA := Lib.hid hca
              have HCB := Lib.hid hcb
              have HNX := Lib.hid hnx
              clear hca hcb hnx hD her
              go_wp2_with fail
              refine (HCA.out).mono ?_
              rintro e w4 hR
              have HLT4 := Lib.hid (Array.getElem?_eq_some_iff.1 ((K3.out.later hR.fp).now.2.2.1)).1
              obtain ⟨a4, m4, c4, d4, k4, e4, rfl, hm4, hk4, hw4⟩ := hR.bx
              have hbx := heap_alloc_new w4 (.cells #[.slice a4 m4 c4, .slice d4 k4 e4] TD)
              have HM4 := Lib.hid (And.intro hm4 hk4)
              clear hm4 hk4 
              have K4 := Lib.hid (Kp.and (Kp.row hbx) ((Kp.and (Kp.wd hw4) (K3.out.later hR.fp)).later (fp_alloc w4 (.cells #[.slice a4 m4 c4, .slice d4 k4 e4] TD))))
              clear hR hbx hw4  K3 p0 p1 x0 x1 x2 x3 x4 x5 x6 x7 HCA
              obtain ⟨p2, p3⟩ := boxP2 K4.out.now.2.2.2.2.2.2.1
              obtain ⟨x0, x1, x2, x3, x4, x5, x6, x7⟩ := boxP8 K4.out.now.2.2.1
              go_wp2_with fail
              refine (HCB.out _ K4.out.now.2.2.2.2.2.2.2.2.1).mono ?_
              rintro e w5 hR
              have HLT5 := Lib.hid (Array.getElem?_eq_some_iff.1 ((K4.out.later hR.fp).now.1)).1
              obtain ⟨a5, m5, c5, d5, k5, e5, rfl, hm5, hk5, hw5⟩ := hR.bx
              have hbx := heap_alloc_new w5 (.cells #[.slice a5 m5 c5, .slice d5 k5 e5] TD)
              have HM5 := Lib.hid (And.intro hm5 hk5)
              clear hm5 hk5 
              have K5 := Lib.hid (Kp.and (Kp.row hbx) ((Kp.and (Kp.wd hw5) (K4.out.later hR.fp)).later (fp_alloc w5 (.cells #[.slice a5 m5 c5, .slice d5 k5 e5] TD))))
              clear hR hbx hw5  K4 p2 p3 x0 x1 x2 x3 x4 x5 x6 x7 HCB
              obtain ⟨u0, u1⟩ := boxP2 K5.out.now.2.2.1
              obtain ⟨y0, y1, y2, y3, y4, y5, hz, hf⟩ := two_set K5.out.now.2.2.2.2.2.1 (.slice a4 m4 c4) (.slice d4 k4 e4)
              have HS1 := Lib.hid (And.intro hz (And.intro (hf.heap K5.out.now.2.2.2.2.2.2.1 (fun e => by have e : wr.heap.size + 1 + 1 = wr.heap.size + 1 := e; have := HB67.out; have := HLT4.out; have := HLT5.out; omega)) (And.intro (hf.heap K5.out.now.2.2.2.2.2.2.2.1 (fun e => by have e : b6 = wr.heap.size + 1 := e; have := HB67.out; have := HLT4.out; have := HLT5.out; omega)) (And.intro (hf.heap K5.out.now.2.2.2.2.2.2.2.2.1 (fun e => by have e : b6 + 1 = wr.heap.size + 1 := e; have := HB67.out; have := HLT4.out; have := HLT5.out; omega)) (And.intro (hf.heap K5.out.now.1 (fun e => by have e : w5.heap.size = wr.heap.size + 1 := e; have := HB67.out; have := HLT4.out; have := HLT5.out; omega)) (And.intro ((K5.out.now.2.2.2.2.2.2.2.2.2.1).off K5.out.now.2.2.2.2.2.1 hf) (And.intro ((K5.out.now.2.2.2.2.2.2.2.2.2.2.1).off K5.out.now.2.2.2.2.2.1 hf) (And.intro ((K5.out.now.2.2.2.1).off K5.out.now.2.2.2.2.2.1 hf) (And.intro ((K5.out.now.2.1).off K5.out.now.2.2.2.2.2.1 hf) ((K5.out.now.2.2.2.2.2.2.2.2.2.2.2).over hf (fun k hk => by have hk : k = wr.heap.size + 1 := hk; have := HB67.out; omega)))))))))))
              clear hz hf
              go_upto_region 27 with (fail)
              clear u0 u1 y0 y1 y2 y3 y4 y5
              generalize (World.setCell (World.setCell _ _ _) _ _) = wS at *
              clear K5
              obtain ⟨u0, u1⟩ := boxP2 HS1.out.2.2.2.2.1
              obtain ⟨y0, y1, y2, y3, y4, y5, hz, hf⟩ := two_set HS1.out.2.1 (.slice a5 m5 c5) (.slice d5 k5 e5)
              have HS2 := Lib.hid (And.intro hz (And.intro (hf.heap HS1.out.1 (fun e => by have e : wr.heap.size + 1 = wr.heap.size + 1 + 1 := e; have := HB67.out; have := HLT4.out; have := HLT5.out; omega)) (And.intro (hf.heap HS1.out.2.2.1 (fun e => by have e : b6 = wr.heap.size + 1 + 1 := e; have := HB67.out; have := HLT4.out; have := HLT5.out; omega)) (And.intro (hf.heap HS1.out.2.2.2.1 (fun e => by have e : b6 + 1 = wr.heap.size + 1 + 1 := e; have := HB67.out; have := HLT4.out; have := HLT5.out; omega)) (And.intro ((HS1.out.2.2.2.2.2.1).off HS1.out.2.1 hf) (And.intro ((HS1.out.2.2.2.2.2.2.1).off HS1.out.2.1 hf) (And.intro ((HS1.out.2.2.2.2.2.2.2.1).off HS1.out.2.1 hf) (And.intro ((HS1.out.2.2.2.2.2.2.2.2.1).off HS1.out.2.1 hf) ((HS1.out.2.2.2.2.2.2.2.2.2).over hf (fun k hk => by have hk : k = wr.heap.size + 1 + 1 := hk; have := HB67.out; omega))))))))))
              clear hz hf
              go_upto_region 46 with (fail)
              clear u0 u1 y0 y1 y2 y3 y4 y5
              generalize (World.setCell (World.setCell _ _ _) _ _) = wT at *
              clear HS1
              obtain ⟨v0, v1⟩ := boxP2 HS2.out.2.1
              obtain ⟨v2, v3⟩ := boxP2 HS2.out.1
              have HSM := Lib.hid (Same_t (.agg #[.slice a4 m4 c4, .slice d4 k4 e4]) (.agg #[.slice a5 m5 c5, .slice d5 k5 e5]) D wT HS2.out.2.2.2.2.2.2.1 HS2.out.2.2.2.2.2.2.2.1 HNX.out.s)
              go_wp2_with fail
              refine HSM.out.mono ?_
              rintro e wU ⟨rfl, hf⟩
              have HU := Lib.hid (And.intro (hf.heap HS2.out.2.1 (fun h => h)) (And.intro (hf.heap HS2.out.1 (fun h => h)) (And.intro (hf.heap HS2.out.2.2.1 (fun h => h)) (And.intro (hf.heap HS2.out.2.2.2.1 (fun h => h)) (And.intro ((HS2.out.2.2.2.2.1).non hf) (And.intro ((HS2.out.2.2.2.2.2.1).non hf) (And.intro ((HS2.out.2.2.2.2.2.2.1).non hf) (And.intro ((HS2.out.2.2.2.2.2.2.2.1).non hf) ((HS2.out.2.2.2.2.2.2.2.2).then hf)))))))))
              clear hf HSM v0 v1 v2 v3
              by_cases he : er = 1
              · have ee1 : (er != 1) = false := by simp [he]
                have ee2 : (er = 1) = True := eq_true he
                have ee3 : (er == 1) = true := beq_iff_eq.2 he
                have HM := Lib.hid (show PlS w b6 (.slice a1 m1 c1) (.slice d1 k1 e1) (.slice a2 m2 c2) (.slice d2 k2 e2) d wU ∧ PlN d (k + 1) from ⟨⟨HU.out.2.2.2.2.2.2.2.2, HB67.out.2, HU.out.2.2.1, HU.out.2.2.2.1, HU.out.2.2.2.2.1, HU.out.2.2.2.2.2.1⟩, ⟨HPN.out.sz, by have := HPN.out.s; omega⟩⟩)
                have hkn := HL.out
                have hN2 := HN200.out
                clear he
                go_wp2
                go_roundw
                case rel => exact ⟨k + 1, by omega, by go_num, _, _, _, _, _, _, _, _, _, _, _, _, _, HM⟩
                case measure => simp [RowKit.intOf]; omega
              · have ee1 : (er != 1) = true := by simp [he]
                have ee2 : (er = 1) = False := eq_false he
                have ee3 : (er == 1) = false := beq_eq_false_iff_ne.2 he
                have HE := Lib.hid (HNX.out.nx he)
                clear he
                obtain ⟨u0, u1⟩ := boxP2 HU.out.1
                obtain ⟨y0, y1, y2, y3, y4, y5, hz, hf⟩ := two_set HU.out.2.2.1 (.slice a4 m4 c4) (.slice d4 k4 e4)
                have HV := Lib.hid (And.intro hz (And.intro (hf.heap HU.out.2.1 (fun e => by have e : wr.heap.size + 1 + 1 = b6 := e; have := HB67.out; omega)) (And.intro (hf.heap HU.out.2.2.2.1 (fun e => by have e : b6 + 1 = b6 := e; have := HB67.out; omega)) (And.intro ((HU.out.2.2.2.2.2.2.1).off HU.out.2.2.1 hf) (And.intro ((HU.out.2.2.2.2.2.2.2.1).off HU.out.2.2.1 hf) ((HU.out.2.2.2.2.2.2.2.2).over hf (fun k hk => by have hk : k = b6 := hk; have := HB67.out; omega)))))))
                clear hz hf HU
                go_upto_region 50 with (fail)
                clear u0 u1 y0 y1 y2 y3 y4 y5
                generalize (World.setCell (World.setCell _ _ _) _ _) = wV at *
                obtain ⟨u0, u1⟩ := boxP2 HV.out.2.1
                obtain ⟨y0, y1, y2, y3, y4, y5, hz, hf⟩ := two_set HV.out.2.2.1 (.slice a5 m5 c5) (.slice d5 k5 e5)
                have HM := Lib.hid (show PlS w b6 (.slice a4 m4 c4) (.slice d4 k4 e4) (.slice a5 m5 c5) (.slice d5 k5 e5) D _ ∧ PlN D (k + 1) from ⟨⟨HV.out.2.2.2.2.2.over hf (fun k hk => by have hk : k = b6 + 1 := hk; have := HB67.out; omega), HB67.out.2, hf.heap HV.out.1 (fun e => by have e : b6 = b6 + 1 := e; have := HB67.out; omega), hz, HV.out.2.2.2.1.off HV.out.2.2.1 hf, HV.out.2.2.2.2.1.off HV.out.2.2.1 hf⟩, ⟨HE.out.1, by have := HE.out.2; have := HPN.out.s; omega⟩⟩)
                have hkn := HL.out
                have hN2 := HN200.out
                clear hz hf HV
                go_wp2
                go_roundw
                case rel => exact ⟨k + 1, by omega, by go_num, _, _, _, _, _, _, _, _, _, _, _, _, _, HM⟩
                case measure => simp [RowKit.intOf]; omega
            · have w0a : (xw = 0) = False := eq_false hw0
              have w0b : (xw == 0) = false := beq_eq_false_iff_ne.2 hw0
              clear hw0
              by_cases hw1 : xw = 1
              · have w1a : (xw = 1) = True := eq_true hw1
                have w1b : (xw == 1) = true := beq_iff_eq.2 hw1
                subst hw1
                have hca := Close_w (.agg #[.slice a1 m1 c1, .slice d1 k1 e1]) d xs xn _ K3.out.now.2.2.2.2.2.1 HPN.out.sz
                have hcb := fun W (hW : WdR W (.agg #[.slice a2 m2 c2, .slice d2 k2 e2]) d) => rClose_w (.agg #[.slice a2 m2 c2, .slice d2 k2 e2]) d xs xn W hW HPN.out.sz
                have hnx := nx_close d xs xn (by have := HPN.out.s; have := HL.out; have := HN200.out; omega)
                obtain ⟨D, hD⟩ : ∃ E, E = (closeM d xs xn).1 := ⟨_, rfl⟩
                obtain ⟨er, her⟩ : ∃ E, E = (closeM d xs xn).2 := ⟨_, rfl⟩
                rw [← hD, ← her] at hca hcb hnx
                have HCA := Lib.hid hca
                have HCB := Lib.hid hcb
                have HNX := Lib.hid hnx
                clear hca hcb hnx hD her
                go_wp2_with fail
                refine (HCA.out).mono ?_
                rintro e w4 hR
                have HLT4 := Lib.hid (Array.getElem?_eq_some_iff.1 ((K3.out.later hR.fp).now.2.2.1)).1
                obtain ⟨a4, m4, c4, d4, k4, e4, rfl, hm4, hk4, hw4⟩ := hR.bx
                have hbx := heap_alloc_new w4 (.cells #[.slice a4 m4 c4, .slice d4 k4 e4] TD)
                have HM4 := Lib.hid (And.intro hm4 hk4)
                clear hm4 hk4 
                have K4 := Lib.hid (Kp.and (Kp.row hbx) ((Kp.and (Kp.wd hw4) (K3.out.later hR.fp)).later (fp_alloc w4 (.cells #[.slice a4 m4 c4, .slice d4 k4 e4] TD))))
                clear hR hbx hw4  K3 p0 p1 x0 x1 x2 x3 x4 x5 x6 x7 HCA
                obtain ⟨p2, p3⟩ := boxP2 K4.out.now.2.2.2.2.2.2.1
                obtain ⟨x0, x1, x2, x3, x4, x5, x6, x7⟩ := boxP8 K4.out.now.2.2.1
                go_wp2_with fail
                refine (HCB.out _ K4.out.now.2.2.2.2.2.2.2.2.1).mono ?_
                rintro e w5 hR
                have HLT5 := Lib.hid (Array.getElem?_eq_some_iff.1 ((K4.out.later hR.fp).now.1)).1
                obtain ⟨a5, m5, c5, d5, k5, e5, rfl, hm5, hk5, hw5⟩ := hR.bx
                have hbx := heap_alloc_new w5 (.cells #[.slice a5 m5 c5, .slice d5 k5 e5] TD)
                have HM5 := Lib.hid (And.intro hm5 hk5)
                clear hm5 hk5 
                have K5 := Lib.hid (Kp.and (Kp.row hbx) ((Kp.and (Kp.wd hw5) (K4.out.later hR.fp)).later (fp_alloc w5 (.cells #[.slice a5 m5 c5, .slice d5 k5 e5] TD))))
                clear hR hbx hw5  K4 p2 p3 x0 x1 x2 x3 x4 x5 x6 x7 HCB
                obtain ⟨u0, u1⟩ := boxP2 K5.out.now.2.2.1
                obtain ⟨y0, y1, y2, y3, y4, y5, hz, hf⟩ := two_set K5.out.now.2.2.2.2.2.1 (.slice a4 m4 c4) (.slice d4 k4 e4)
                have HS1 := Lib.hid (And.intro hz (And.intro (hf.heap K5.out.now.2.2.2.2.2.2.1 (fun e => by have e : wr.heap.size + 1 + 1 = wr.heap.size + 1 := e; have := HB67.out; have := HLT4.out; have := HLT5.out; omega)) (And.intro (hf.heap K5.out.now.2.2.2.2.2.2.2.1 (fun e => by have e : b6 = wr.heap.size + 1 := e; have := HB67.out; have := HLT4.out; have := HLT5.out; omega)) (And.intro (hf.heap K5.out.now.2.2.2.2.2.2.2.2.1 (fun e => by have e : b6 + 1 = wr.heap.size + 1 := e; have := HB67.out; have := HLT4.out; have := HLT5.out; omega)) (And.intro (hf.heap K5.out.now.1 (fun e => by have e : w5.heap.size = wr.heap.size + 1 := e; have := HB67.out; have := HLT4.out; have := HLT5.out; omega)) (And.intro ((K5.out.now.2.2.2.2.2.2.2.2.2.1).off K5.out.now.2.2.2.2.2.1 hf) (And.intro ((K5.out.now.2.2.2.2.2.2.2.2.2.2.1).off K5.out.now.2.2.2.2.2.1 hf) (And.intro ((K5.out.now.2.2.2.1).off K5.out.now.2.2.2.2.2.1 hf) (And.intro ((K5.out.now.2.1).off K5.out.now.2.2.2.2.2.1 hf) ((K5.out.now.2.2.2.2.2.2.2.2.2.2.2).over hf (fun k hk => by have hk : k = wr.heap.size + 1 := hk; have := HB67.out; omega)))))))))))
                clear hz hf
                go_upto_region 34 with (fail)
                clear u0 u1 y0 y1 y2 y3 y4 y5
                generalize (World.setCell (World.setCell _ _ _) _ _) = wS at *
                clear K5
                obtain ⟨u0, u1⟩ := boxP2 HS1.out.2.2.2.2.1
                obtain ⟨y0, y1, y2, y3, y4, y5, hz, hf⟩ := two_set HS1.out.2.1 (.slice a5 m5 c5) (.slice d5 k5 e5)
                have HS2 := Lib.hid (And.intro hz (And.intro (hf.heap HS1.out.1 (fun e => by have e : wr.heap.size + 1 = wr.heap.size + 1 + 1 := e; have := HB67.out; have := HLT4.out; have := HLT5.out; omega)) (And.intro (hf.heap HS1.out.2.2.1 (fun e => by have e : b6 = wr.heap.size + 1 + 1 := e; have := HB67.out; have := HLT4.out; have := HLT5.out; omega)) (And.intro (hf.heap HS1.out.2.2.2.1 (fun e => by have e : b6 + 1 = wr.heap.size + 1 + 1 := e; have := HB67.out; have := HLT4.out; have := HLT5.out; omega)) (And.intro ((HS1.out.2.2.2.2.2.1).off HS1.out.2.1 hf) (And.intro ((HS1.out.2.2.2.2.2.2.1).off HS1.out.2.1 hf) (And.intro ((HS1.out.2.2.2.2.2.2.2.1).off HS1.out.2.1 hf) (And.intro ((HS1.out.2.2.2.2.2.2.2.2.1).off HS1.out.2.1 hf) ((HS1.out.2.2.2.2.2.2.2.2.2).over hf (fun k hk => by have hk : k = wr.heap.size + 1 + 1 := hk; have := HB67.out; omega))))))))))
                clear hz hf
                go_upto_region 46 with (fail)
                clear u0 u1 y0 y1 y2 y3 y4 y5
                generalize (World.setCell (World.setCell _ _ _) _ _) = wT at *
                clear HS1
                obtain ⟨v0, v1⟩ := boxP2 HS2.out.2.1
                obtain ⟨v2, v3⟩ := boxP2 HS2.out.1
                have HSM := Lib.hid (Same_t (.agg #[.slice a4 m4 c4, .slice d4 k4 e4]) (.agg #[.slice a5 m5 c5, .slice d5 k5 e5]) D wT HS2.out.2.2.2.2.2.2.1 HS2.out.2.2.2.2.2.2.2.1 HNX.out.s)
                go_wp2_with fail
                refine HSM.out.mono ?_
                rintro e wU ⟨rfl, hf⟩
                have HU := Lib.hid (And.intro (hf.heap HS2.out.2.1 (fun h => h)) (And.intro (hf.heap HS2.out.1 (fun h => h)) (And.intro (hf.heap HS2.out.2.2.1 (fun h => h)) (And.intro (hf.heap HS2.out.2.2.2.1 (fun h => h)) (And.intro ((HS2.out.2.2.2.2.1).non hf) (And.intro ((HS2.out.2.2.2.2.2.1).non hf) (And.intro ((HS2.out.2.2.2.2.2.2.1).non hf) (And.intro ((HS2.out.2.2.2.2.2.2.2.1).non hf) ((HS2.out.2.2.2.2.2.2.2.2).then hf)))))))))
                clear hf HSM v0 v1 v2 v3
                by_cases he : er = 1
                · have ee1 : (er != 1) = false := by simp [he]
                  have ee2 : (er = 1) = True := eq_true he
                  have ee3 : (er == 1) = true := beq_iff_eq.2 he
                  have HM := Lib.hid (show PlS w b6 (.slice a1 m1 c1) (.slice d1 k1 e1) (.slice a2 m2 c2) (.slice d2 k2 e2) d wU ∧ PlN d (k + 1) from ⟨⟨HU.out.2.2.2.2.2.2.2.2, HB67.out.2, HU.out.2.2.1, HU.out.2.2.2.1, HU.out.2.2.2.2.1, HU.out.2.2.2.2.2.1⟩, ⟨HPN.out.sz, by have := HPN.out.s; omega⟩⟩)
                  have hkn := HL.out
                  have hN2 := HN200.out
                  clear he
                  go_wp2
                  go_roundw
                  case rel => exact ⟨k + 1, by omega, by go_num, _, _, _, _, _, _, _, _, _, _, _, _, _, HM⟩
                  case measure => simp [RowKit.intOf]; omega
                · have ee1 : (er != 1) = true := by simp [he]
                  have ee2 : (er = 1) = False := eq_false he
                  have ee3 : (er == 1) = false := beq_eq_false_iff_ne.2 he
                  have HE := Lib.hid (HNX.out.nx he)
                  clear he
                  obtain ⟨u0, u1⟩ := boxP2 HU.out.1
                  obtain ⟨y0, y1, y2, y3, y4, y5, hz, hf⟩ := two_set HU.out.2.2.1 (.slice a4 m4 c4) (.slice d4 k4 e4)
                  have HV := Lib.hid (And.intro hz (And.intro (hf.heap HU.out.2.1 (fun e => by have e : wr.heap.size + 1 + 1 = b6 := e; have := HB67.out; omega)) (And.intro (hf.heap HU.out.2.2.2.1 (fun e => by have e : b6 + 1 = b6 := e; have := HB67.out; omega)) (And.intro ((HU.out.2.2.2.2.2.2.1).off HU.out.2.2.1 hf) (And.intro ((HU.out.2.2.2.2.2.2.2.1).off HU.out.2.2.1 hf) ((HU.out.2.2.2.2.2.2.2.2).over hf (fun k hk => by have hk : k = b6 := hk; have := HB67.out; omega)))))))
                  clear hz hf HU
                  go_upto_region 50 with (fail)
                  clear u0 u1 y0 y1 y2 y3 y4 y5
                  generalize (World.setCell (World.setCell _ _ _) _ _) = wV at *
                  obtain ⟨u0, u1⟩ := boxP2 HV.out.2.1
                  obtain ⟨y0, y1, y2, y3, y4, y5, hz, hf⟩ := two_set HV.out.2.2.1 (.slice a5 m5 c5) (.slice d5 k5 e5)
                  have HM := Lib.hid (show PlS w b6 (.slice a4 m4 c4) (.slice d4 k4 e4) (.slice a5 m5 c5) (.slice d5 k5 e5) D _ ∧ PlN D (k + 1) from ⟨⟨HV.out.2.2.2.2.2.over hf (fun k hk => by have hk : k = b6 + 1 := hk; have := HB67.out; omega), HB67.out.2, hf.heap HV.out.1 (fun e => by have e : b6 = b6 + 1 := e; have := HB67.out; omega), hz, HV.out.2.2.2.1.off HV.out.2.2.1 hf, HV.out.2.2.2.2.1.off HV.out.2.2.1 hf⟩, ⟨HE.out.1, by have := HE.out.2; have := HPN.out.s; omega⟩⟩)
                  have hkn := HL.out
                  have hN2 := HN200.out
                  clear hz hf HV
                  go_wp2
                  go_roundw
                  case rel => exact ⟨k + 1, by omega, by go_num, _, _, _, _, _, _, _, _, _, _, _, _, _, HM⟩
                  case measure => simp [RowKit.intOf]; omega
              · have w1a : (xw = 1) = False := eq_false hw1
                have w1b : (xw == 1) = false := beq_eq_false_iff_ne.2 hw1
                clear hw1
                by_cases hw2 : xw = 4
                · have w2a : (xw = 4) = True := eq_true hw2
                  have w2b : (xw == 4) = true := beq_iff_eq.2 hw2
                  subst hw2
                  have hca := Take_w (.agg #[.slice a1 m1 c1, .slice d1 k1 e1]) d xs xu _ K3.out.now.2.2.2.2.2.1 HPN.out.sz
                  have hcb := fun W (hW : WdR W (.agg #[.slice a2 m2 c2, .slice d2 k2 e2]) d) => rTake_w (.agg #[.slice a2 m2 c2, .slice d2 k2 e2]) d xs xu W hW HPN.out.sz (by have := HPN.out.s; have := HL.out; have := HN200.out; omega)
                  have hnx := nx_take d xs xu (by have := HPN.out.s; have := HL.out; have := HN200.out; omega)
                  obtain ⟨D, hD⟩ : ∃ E, E = (takeM d xs xu).1 := ⟨_, rfl⟩
                  obtain ⟨es, hes⟩ : ∃ E, E = (takeM d xs xu).2.1 := ⟨_, rfl⟩
                  obtain ⟨er, her⟩ : ∃ E, E = (takeM d xs xu).2.2 := ⟨_, rfl⟩
                  rw [← hD, ← her, ← hes] at hca hcb hnx
                  have HCA := Lib.hid hca
                  have HCB := Lib.hid hcb
                  have HNX := Lib.hid hnx.1
                  have HES := Lib.hid hnx.2
                  clear hca hcb hnx hD her hes
                  go_wp2_with fail
                  refine (HCA.out).mono ?_
                  rintro e w4 hR
                  have HLT4 := Lib.hid (Array.getElem?_eq_some_iff.1 ((K3.out.later hR.fp).now.2.2.1)).1
                  obtain ⟨a4, m4, c4, d4, k4, e4, l4, n4, f4, rfl, hm4, hk4, hn4, hw4, hl4⟩ := hR.bx
                  have hbx := heap_alloc_new w4 (.cells #[.slice a4 m4 c4, .slice d4 k4 e4] TD)
                  have HM4 := Lib.hid (And.intro hm4 (And.intro hk4 hn4))
                  clear hm4 hk4 hn4
                  have K4 := Lib.hid (Kp.and (Kp.row hbx) ((Kp.and (Kp.wd hw4) (Kp.and (Kp.ne hl4) (K3.out.later hR.fp))).later (fp_alloc w4 (.cells #[.slice a4 m4 c4, .slice d4 k4 e4] TD))))
                  clear hR hbx hw4 hl4 K3 p0 p1 x0 x1 x2 x3 x4 x5 x6 x7 HCA
                  obtain ⟨p2, p3⟩ := boxP2 K4.out.now.2.2.2.2.2.2.2.1
                  obtain ⟨x0, x1, x2, x3, x4, x5, x6, x7⟩ := boxP8 K4.out.now.2.2.2.1
                  go_wp2_with fail
                  refine (HCB.out _ K4.out.now.2.2.2.2.2.2.2.2.2.1).mono ?_
                  rintro e w5 hR
                  have HLT5 := Lib.hid (Array.getElem?_eq_some_iff.1 ((K4.out.later hR.fp).now.1)).1
                  obtain ⟨a5, m5, c5, d5, k5, e5, l5, n5, f5, rfl, hm5, hk5, hn5, hw5, hl5⟩ := hR.bx
                  have hbx := heap_alloc_new w5 (.cells #[.slice a5 m5 c5, .slice d5 k5 e5] TD)
                  have HM5 := Lib.hid (And.intro hm5 (And.intro hk5 hn5))
                  clear hm5 hk5 hn5
                  have K5 := Lib.hid (Kp.and (Kp.row hbx) ((Kp.and (Kp.wd hw5) (Kp.and (Kp.ne hl5) (K4.out.later hR.fp))).later (fp_alloc w5 (.cells #[.slice a5 m5 c5, .slice d5 k5 e5] TD))))
                  clear hR hbx hw5 hl5 K4 p2 p3 x0 x1 x2 x3 x4 x5 x6 x7 HCB
                  have HSE := Lib.hid (SameEv_t (.slice l4 n4 f4) (.slice l5 n5 f5) es _ K5.out.now.2.2.2.2.2.1 K5.out.now.2.2.1 HES.out)
                  go_wp2_with fail
                  refine HSE.out.mono ?_
                  rintro e w6 ⟨rfl, hf⟩
                  have K6 := Lib.hid (K5.out.later hf)
                  clear hf K5 HSE
                  obtain ⟨u0, u1⟩ := boxP2 K6.out.now.2.2.2.1
                  obtain ⟨y0, y1, y2, y3, y4, y5, hz, hf⟩ := two_set K6.out.now.2.2.2.2.2.2.2.1 (.slice a4 m4 c4) (.slice d4 k4 e4)
                  have HS1 := Lib.hid (And.intro hz (And.intro (hf.heap K6.out.now.2.2.2.2.2.2.2.2.1 (fun e => by have e : wr.heap.size + 1 + 1 = wr.heap.size + 1 := e; have := HB67.out; have := HLT4.out; have := HLT5.out; omega)) (And.intro (hf.heap K6.out.now.2.2.2.2.2.2.2.2.2.1 (fun e => by have e : b6 = wr.heap.size + 1 := e; have := HB67.out; have := HLT4.out; have := HLT5.out; omega)) (And.intro (hf.heap K6.out.now.2.2.2.2.2.2.2.2.2.2.1 (fun e => by have e : b6 + 1 = wr.heap.size + 1 := e; have := HB67.out; have := HLT4.out; have := HLT5.out; omega)) (And.intro (hf.heap K6.out.now.1 (fun e => by have e : w5.heap.size = wr.heap.size + 1 := e; have := HB67.out; have := HLT4.out; have := HLT5.out; omega)) (And.intro ((K6.out.now.2.2.2.2.2.2.2.2.2.2.2.1).off K6.out.now.2.2.2.2.2.2.2.1 hf) (And.intro ((K6.out.now.2.2.2.2.2.2.2.2.2.2.2.2.1).off K6.out.now.2.2.2.2.2.2.2.1 hf) (And.intro ((K6.out.now.2.2.2.2.1).off K6.out.now.2.2.2.2.2.2.2.1 hf) (And.intro ((K6.out.now.2.1).off K6.out.now.2.2.2.2.2.2.2.1 hf) ((K6.out.now.2.2.2.2.2.2.2.2.2.2.2.2.2).over hf (fun k hk => by have hk : k = wr.heap.size + 1 := hk; have := HB67.out; omega)))))))))))
                  clear hz hf
                  go_upto_region 43 with (fail)
                  clear u0 u1 y0 y1 y2 y3 y4 y5
                  generalize (World.setCell (World.setCell _ _ _) _ _) = wS at *
                  clear K6
                  obtain ⟨u0, u1⟩ := boxP2 HS1.out.2.2.2.2.1
                  obtain ⟨y0, y1, y2, y3, y4, y5, hz, hf⟩ := two_set HS1.out.2.1 (.slice a5 m5 c5) (.slice d5 k5 e5)
                  have HS2 := Lib.hid (And.intro hz (And.intro (hf.heap HS1.out.1 (fun e => by have e : wr.heap.size + 1 = wr.heap.size + 1 + 1 := e; have := HB67.out; have := HLT4.out; have := HLT5.out; omega)) (And.intro (hf.heap HS1.out.2.2.1 (fun e => by have e : b6 = wr.heap.size + 1 + 1 := e; have := HB67.out; have := HLT4.out; have := HLT5.out; omega)) (And.intro (hf.heap HS1.out.2.2.2.1 (fun e => by have e : b6 + 1 = wr.heap.size + 1 + 1 := e; have := HB67.out; have := HLT4.out; have := HLT5.out; omega)) (And.intro ((HS1.out.2.2.2.2.2.1).off HS1.out.2.1 hf) (And.intro ((HS1.out.2.2.2.2.2.2.1).off HS1.out.2.1 hf) (And.intro ((HS1.out.2.2.2.2.2.2.2.1).off HS1.out.2.1 hf) (And.intro ((HS1.out.2.2.2.2.2.2.2.2.1).off HS1.out.2.1 hf) ((HS1.out.2.2.2.2.2.2.2.2.2).over hf (fun k hk => by have hk : k = wr.heap.size + 1 + 1 := hk; have := HB67.out; omega))))))))))
                  clear hz hf
                  go_upto_region 46 with (fail)
                  clear u0 u1 y0 y1 y2 y3 y4 y5
                  generalize (World.setCell (World.setCell _ _ _) _ _) = wT at *
                  clear HS1
                  obtain ⟨v0, v1⟩ := boxP2 HS2.out.2.1
                  obtain ⟨v2, v3⟩ := boxP2 HS2.out.1
                  have HSM := Lib.hid (Same_t (.agg #[.slice a4 m4 c4, .slice d4 k4 e4]) (.agg #[.slice a5 m5 c5, .slice d5 k5 e5]) D wT HS2.out.2.2.2.2.2.2.1 HS2.out.2.2.2.2.2.2.2.1 HNX.out.s)
                  go_wp2_with fail
                  refine HSM.out.mono ?_
                  rintro e wU ⟨rfl, hf⟩
                  have HU := Lib.hid (And.intro (hf.heap HS2.out.2.1 (fun h => h)) (And.intro (hf.heap HS2.out.1 (fun h => h)) (And.intro (hf.heap HS2.out.2.2.1 (fun h => h)) (And.intro (hf.heap HS2.out.2.2.2.1 (fun h => h)) (And.intro ((HS2.out.2.2.2.2.1).non hf) (And.intro ((HS2.out.2.2.2.2.2.1).non hf) (And.intro ((HS2.out.2.2.2.2.2.2.1).non hf) (And.intro ((HS2.out.2.2.2.2.2.2.2.1).non hf) ((HS2.out.2.2.2.2.2.2.2.2).then hf)))))))))
                  clear hf HSM v0 v1 v2 v3
                  by_cases he : er = 1
                  · have ee1 : (er != 1) = false := by simp [he]
                    have ee2 : (er = 1) = True := eq_true he
                    have ee3 : (er == 1) = true := beq_iff_eq.2 he
                    have HM := Lib.hid (show PlS w b6 (.slice a1 m1 c1) (.slice d1 k1 e1) (.slice a2 m2 c2) (.slice d2 k2 e2) d wU ∧ PlN d (k + 1) from ⟨⟨HU.out.2.2.2.2.2.2.2.2, HB67.out.2, HU.out.2.2.1, HU.out.2.2.2.1, HU.out.2.2.2.2.1, HU.out.2.2.2.2.2.1⟩, ⟨HPN.out.sz, by have := HPN.out.s; omega⟩⟩)
                    have hkn := HL.out
                    have hN2 := HN200.out
                    clear he
                    go_wp2
                    go_roundw
                    case rel => exact ⟨k + 1, by omega, by go_num, _, _, _, _, _, _, _, _, _, _, _, _, _, HM⟩
                    case measure => simp [RowKit.intOf]; omega
                  · have ee1 : (er != 1) = true := by simp [he]
                    have ee2 : (er = 1) = False := eq_false he
                    have ee3 : (er == 1) = false := beq_eq_false_iff_ne.2 he
                    have HE := Lib.hid (HNX.out.nx he)
                    clear he
                    obtain ⟨u0, u1⟩ := boxP2 HU.out.1
                    obtain ⟨y0, y1, y2, y3, y4, y5, hz, hf⟩ := two_set HU.out.2.2.1 (.slice a4 m4 c4) (.slice d4 k4 e4)
                    have HV := Lib.hid (And.intro hz (And.intro (hf.heap HU.out.2.1 (fun e => by have e : wr.heap.size + 1 + 1 = b6 := e; have := HB67.out; omega)) (And.intro (hf.heap HU.out.2.2.2.1 (fun e => by have e : b6 + 1 = b6 := e; have := HB67.out; omega)) (And.intro ((HU.out.2.2.2.2.2.2.1).off HU.out.2.2.1 hf) (And.intro ((HU.out.2.2.2.2.2.2.2.1).off HU.out.2.2.1 hf) ((HU.out.2.2.2.2.2.2.2.2).over hf (fun k hk => by have hk : k = b6 := hk; have := HB67.out; omega)))))))
                    clear hz hf HU
                    go_upto_region 50 with (fail)
                    clear u0 u1 y0 y1 y2 y3 y4 y5
                    generalize (World.setCell (World.setCell _ _ _) _ _) = wV at *
                    obtain ⟨u0, u1⟩ := boxP2 HV.out.2.1
                    obtain ⟨y0, y1, y2, y3, y4, y5, hz, hf⟩ := two_set HV.out.2.2.1 (.slice a5 m5 c5) (.slice d5 k5 e5)
                    have HM := Lib.hid (show PlS w b6 (.slice a4 m4 c4) (.slice d4 k4 e4) (.slice a5 m5 c5) (.slice d5 k5 e5) D _ ∧ PlN D (k + 1) from ⟨⟨HV.out.2.2.2.2.2.over hf (fun k hk => by have hk : k = b6 + 1 := hk; have := HB67.out; omega), HB67.out.2, hf.heap HV.out.1 (fun e => by have e : b6 = b6 + 1 := e; have := HB67.out; omega), hz, HV.out.2.2.2.1.off HV.out.2.2.1 hf, HV.out.2.2.2.2.1.off HV.out.2.2.1 hf⟩, ⟨HE.out.1, by have := HE.out.2; have := HPN.out.s; omega⟩⟩)
                    have hkn := HL.out
                    have hN2 := HN200.out
                    clear hz hf HV
                    go_wp2
                    go_roundw
                    case rel => exact ⟨k + 1, by omega, by go_num, _, _, _, _, _, _, _, _, _, _, _, _, _, HM⟩
                    case measure => simp [RowKit.intOf]; omega
                · have w2a : (xw = 4) = False := eq_false hw2
                  have w2b : (xw == 4) = false := beq_eq_false_iff_ne.2 hw2
                  clear hw2
                  have hca := Tell_w (.agg #[.slice a1 m1 c1, .slice d1 k1 e1]) d xk xq _ K3.out.now.2.2.2.2.2.1 HPN.out.sz (show xq.length ≤ 1000000 from by have := HFX.out.2; omega)
                  have hcb := fun W (hW : WdR W (.agg #[.slice a2 m2 c2, .slice d2 k2 e2]) d) => rTell_w (.agg #[.slice a2 m2 c2, .slice d2 k2 e2]) d xk xq W hW HPN.out.sz (by have := HPN.out.s; have := HL.out; have := HN200.out; omega) (show xq.length ≤ 1000000 from by have := HFX.out.2; omega)
                  have hnx := nx_tell d xk xq (by have := HPN.out.s; have := HL.out; have := HN200.out; omega)
                  obtain ⟨D, hD⟩ : ∃ E, E = (tellM d xk xq).1 := ⟨_, rfl⟩
                  obtain ⟨er, her⟩ : ∃ E, E = (tellM d xk xq).2 := ⟨_, rfl⟩
                  rw [← hD, ← her] at hca hcb hnx
                  have HCA := Lib.hid hca
                  have HCB := Lib.hid hcb
                  have HNX := Lib.hid hnx
                  clear hca hcb hnx hD her
                  go_wp2_with fail
                  refine (HCA.out).mono ?_
                  rintro e w4 hR
                  have HLT4 := Lib.hid (Array.getElem?_eq_some_iff.1 ((K3.out.later hR.fp).now.2.2.1)).1
                  obtain ⟨a4, m4, c4, d4, k4, e4, rfl, hm4, hk4, hw4⟩ := hR.bx
                  have hbx := heap_alloc_new w4 (.cells #[.slice a4 m4 c4, .slice d4 k4 e4] TD)
                  have HM4 := Lib.hid (And.intro hm4 hk4)
                  clear hm4 hk4 
                  have K4 := Lib.hid (Kp.and (Kp.row hbx) ((Kp.and (Kp.wd hw4) (K3.out.later hR.fp)).later (fp_alloc w4 (.cells #[.slice a4 m4 c4, .slice d4 k4 e4] TD))))
                  clear hR hbx hw4  K3 p0 p1 x0 x1 x2 x3 x4 x5 x6 x7 HCA
                  obtain ⟨p2, p3⟩ := boxP2 K4.out.now.2.2.2.2.2.2.1
                  obtain ⟨x0, x1, x2, x3, x4, x5, x6, x7⟩ := boxP8 K4.out.now.2.2.1
                  go_wp2_with fail
                  refine (HCB.out _ K4.out.now.2.2.2.2.2.2.2.2.1).mono ?_
                  rintro e w5 hR
                  have HLT5 := Lib.hid (Array.getElem?_eq_some_iff.1 ((K4.out.later hR.fp).now.1)).1
                  obtain ⟨a5, m5, c5, d5, k5, e5, rfl, hm5, hk5, hw5⟩ := hR.bx
                  have hbx := heap_alloc_new w5 (.cells #[.slice a5 m5 c5, .slice d5 k5 e5] TD)
                  have HM5 := Lib.hid (And.intro hm5 hk5)
                  clear hm5 hk5 
                  have K5 := Lib.hid (Kp.and (Kp.row hbx) ((Kp.and (Kp.wd hw5) (K4.out.later hR.fp)).later (fp_alloc w5 (.cells #[.slice a5 m5 c5, .slice d5 k5 e5] TD))))
                  clear hR hbx hw5  K4 p2 p3 x0 x1 x2 x3 x4 x5 x6 x7 HCB
                  obtain ⟨u0, u1⟩ := boxP2 K5.out.now.2.2.1
                  obtain ⟨y0, y1, y2, y3, y4, y5, hz, hf⟩ := two_set K5.out.now.2.2.2.2.2.1 (.slice a4 m4 c4) (.slice d4 k4 e4)
                  have HS1 := Lib.hid (And.intro hz (And.intro (hf.heap K5.out.now.2.2.2.2.2.2.1 (fun e => by have e : wr.heap.size + 1 + 1 = wr.heap.size + 1 := e; have := HB67.out; have := HLT4.out; have := HLT5.out; omega)) (And.intro (hf.heap K5.out.now.2.2.2.2.2.2.2.1 (fun e => by have e : b6 = wr.heap.size + 1 := e; have := HB67.out; have := HLT4.out; have := HLT5.out; omega)) (And.intro (hf.heap K5.out.now.2.2.2.2.2.2.2.2.1 (fun e => by have e : b6 + 1 = wr.heap.size + 1 := e; have := HB67.out; have := HLT4.out; have := HLT5.out; omega)) (And.intro (hf.heap K5.out.now.1 (fun e => by have e : w5.heap.size = wr.heap.size + 1 := e; have := HB67.out; have := HLT4.out; have := HLT5.out; omega)) (And.intro ((K5.out.now.2.2.2.2.2.2.2.2.2.1).off K5.out.now.2.2.2.2.2.1 hf) (And.intro ((K5.out.now.2.2.2.2.2.2.2.2.2.2.1).off K5.out.now.2.2.2.2.2.1 hf) (And.intro ((K5.out.now.2.2.2.1).off K5.out.now.2.2.2.2.2.1 hf) (And.intro ((K5.out.now.2.1).off K5.out.now.2.2.2.2.2.1 hf) ((K5.out.now.2.2.2.2.2.2.2.2.2.2.2).over hf (fun k hk => by have hk : k = wr.heap.size + 1 := hk; have := HB67.out; omega)))))))))))
                  clear hz hf
                  go_upto_region 20 with (fail)
                  clear u0 u1 y0 y1 y2 y3 y4 y5
                  generalize (World.setCell (World.setCell _ _ _) _ _) = wS at *
                  clear K5
                  obtain ⟨u0, u1⟩ := boxP2 HS1.out.2.2.2.2.1
                  obtain ⟨y0, y1, y2, y3, y4, y5, hz, hf⟩ := two_set HS1.out.2.1 (.slice a5 m5 c5) (.slice d5 k5 e5)
                  have HS2 := Lib.hid (And.intro hz (And.intro (hf.heap HS1.out.1 (fun e => by have e : wr.heap.size + 1 = wr.heap.size + 1 + 1 := e; have := HB67.out; have := HLT4.out; have := HLT5.out; omega)) (And.intro (hf.heap HS1.out.2.2.1 (fun e => by have e : b6 = wr.heap.size + 1 + 1 := e; have := HB67.out; have := HLT4.out; have := HLT5.out; omega)) (And.intro (hf.heap HS1.out.2.2.2.1 (fun e => by have e : b6 + 1 = wr.heap.size + 1 + 1 := e; have := HB67.out; have := HLT4.out; have := HLT5.out; omega)) (And.intro ((HS1.out.2.2.2.2.2.1).off HS1.out.2.1 hf) (And.intro ((HS1.out.2.2.2.2.2.2.1).off HS1.out.2.1 hf) (And.intro ((HS1.out.2.2.2.2.2.2.2.1).off HS1.out.2.1 hf) (And.intro ((HS1.out.2.2.2.2.2.2.2.2.1).off HS1.out.2.1 hf) ((HS1.out.2.2.2.2.2.2.2.2.2).over hf (fun k hk => by have hk : k = wr.heap.size + 1 + 1 := hk; have := HB67.out; omega))))))))))
                  clear hz hf
                  go_upto_region 46 with (fail)
                  clear u0 u1 y0 y1 y2 y3 y4 y5
                  generalize (World.setCell (World.setCell _ _ _) _ _) = wT at *
                  clear HS1
                  obtain ⟨v0, v1⟩ := boxP2 HS2.out.2.1
                  obtain ⟨v2, v3⟩ := boxP2 HS2.out.1
                  have HSM := Lib.hid (Same_t (.agg #[.slice a4 m4 c4, .slice d4 k4 e4]) (.agg #[.slice a5 m5 c5, .slice d5 k5 e5]) D wT HS2.out.2.2.2.2.2.2.1 HS2.out.2.2.2.2.2.2.2.1 HNX.out.s)
                  go_wp2_with fail
                  refine HSM.out.mono ?_
                  rintro e wU ⟨rfl, hf⟩
                  have HU := Lib.hid (And.intro (hf.heap HS2.out.2.1 (fun h => h)) (And.intro (hf.heap HS2.out.1 (fun h => h)) (And.intro (hf.heap HS2.out.2.2.1 (fun h => h)) (And.intro (hf.heap HS2.out.2.2.2.1 (fun h => h)) (And.intro ((HS2.out.2.2.2.2.1).non hf) (And.intro ((HS2.out.2.2.2.2.2.1).non hf) (And.intro ((HS2.out.2.2.2.2.2.2.1).non hf) (And.intro ((HS2.out.2.2.2.2.2.2.2.1).non hf) ((HS2.out.2.2.2.2.2.2.2.2).then hf)))))))))
                  clear hf HSM v0 v1 v2 v3
                  by_cases he : er = 1
                  · have ee1 : (er != 1) = false := by simp [he]
                    have ee2 : (er = 1) = True := eq_true he
                    have ee3 : (er == 1) = true := beq_iff_eq.2 he
                    have HM := Lib.hid (show PlS w b6 (.slice a1 m1 c1) (.slice d1 k1 e1) (.slice a2 m2 c2) (.slice d2 k2 e2) d wU ∧ PlN d (k + 1) from ⟨⟨HU.out.2.2.2.2.2.2.2.2, HB67.out.2, HU.out.2.2.1, HU.out.2.2.2.1, HU.out.2.2.2.2.1, HU.out.2.2.2.2.2.1⟩, ⟨HPN.out.sz, by have := HPN.out.s; omega⟩⟩)
                    have hkn := HL.out
                    have hN2 := HN200.out
                    clear he
                    go_wp2
                    go_roundw
                    case rel => exact ⟨k + 1, by omega, by go_num, _, _, _, _, _, _, _, _, _, _, _, _, _, HM⟩
                    case measure => simp [RowKit.intOf]; omega
                  · have ee1 : (er != 1) = true := by simp [he]
                    have ee2 : (er = 1) = False := eq_false he
                    have ee3 : (er == 1) = false := beq_eq_false_iff_ne.2 he
                    have HE := Lib.hid (HNX.out.nx he)
                    clear he
                    obtain ⟨u0, u1⟩ := boxP2 HU.out.1
                    obtain ⟨y0, y1, y2, y3, y4, y5, hz, hf⟩ := two_set HU.out.2.2.1 (.slice a4 m4 c4) (.slice d4 k4 e4)
                    have HV := Lib.hid (And.intro hz (And.intro (hf.heap HU.out.2.1 (fun e => by have e : wr.heap.size + 1 + 1 = b6 := e; have := HB67.out; omega)) (And.intro (hf.heap HU.out.2.2.2.1 (fun e => by have e : b6 + 1 = b6 := e; have := HB67.out; omega)) (And.intro ((HU.out.2.2.2.2.2.2.1).off HU.out.2.2.1 hf) (And.intro ((HU.out.2.2.2.2.2.2.2.1).off HU.out.2.2.1 hf) ((HU.out.2.2.2.2.2.2.2.2).over hf (fun k hk => by have hk : k = b6 := hk; have := HB67.out; omega)))))))
                    clear hz hf HU
                    go_upto_region 50 with (fail)
                    clear u0 u1 y0 y1 y2 y3 y4 y5
                    generalize (World.setCell (World.setCell _ _ _) _ _) = wV at *
                    obtain ⟨u0, u1⟩ := boxP2 HV.out.2.1
                    obtain ⟨y0, y1, y2, y3, y4, y5, hz, hf⟩ := two_set HV.out.2.2.1 (.slice a5 m5 c5) (.slice d5 k5 e5)
                    have HM := Lib.hid (show PlS w b6 (.slice a4 m4 c4) (.slice d4 k4 e4) (.slice a5 m5 c5) (.slice d5 k5 e5) D _ ∧ PlN D (k + 1) from ⟨⟨HV.out.2.2.2.2.2.over hf (fun k hk => by have hk : k = b6 + 1 := hk; have := HB67.out; omega), HB67.out.2, hf.heap HV.out.1 (fun e => by have e : b6 = b6 + 1 := e; have := HB67.out; omega), hz, HV.out.2.2.2.1.off HV.out.2.2.1 hf, HV.out.2.2.2.2.1.off HV.out.2.2.1 hf⟩, ⟨HE.out.1, by have := HE.out.2; have := HPN.out.s; omega⟩⟩)
                    have hkn := HL.out
                    have hN2 := HN200.out
                    clear hz hf HV
                    go_wp2
                    go_roundw
                    case rel => exact ⟨k + 1, by omega, by go_num, _, _, _, _, _, _, _, _, _, _, _, _, _, HM⟩
                    case measure => simp [RowKit.intOf]; omega
          · have hke : k = N := by omega
            subst hke
            have q5 : ((k : Int) < (k : Int)) = False := eq_false (by omega)
            have HF := Lib.hid hR.out.1.fp
            clear hlt hk hR
            go_wp2
            go_ret
            exact ⟨rfl, HF.out⟩
end Go.Proofs.Ytjdpbieifcjmiaa
