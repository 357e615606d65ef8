/- WatchDeep (gen_zx.py) -/
import Derived.Test.YthkjknmfianmlaaZw
import Derived.Deep.CutRange
namespace Go.Proofs.Ythkjknmfianmlaa
set_option maxRecDepth 20000
set_option linter.unusedVariables false
set_option linter.unusedSimpArgs false
open Go.RowKit Pm


/-- What stands in the law's loop: the program's answer is the plain one; these texts lie in wait. -/
structure DeI (w : World) (x : Wt) (b8 A : Nat) (wt : List Bs) (g : Bool) (mt : List Bs) (a : Option Addr) (m c : Nat) (a2 : Option Addr) (m2 c2 : Nat) (v : Value) (W : World) : Prop where
  wd : WdR W (.agg #[.slice a m c, .slice a2 m2 c2]) (dS x A wt g)
  hm : m = (dS x A wt g).ws.length
  bx : W.heap[b8]? = some (.cells #[.slice a m c, .slice a2 m2 c2] TD (0, 0))
  lo : w.heap.size < b8
  xb : W.heap[w.heap.size]? = some (.cells #[.int .i64 x.s, .int .i64 x.n, .string (B x.p), .bool x.d] TW (0, 0))
  fp : Fp Non w W
  wr : Wr w.heap.size W v mt
  ok : DOk x A wt g
theorem DeI.non {w : World} {x : Wt} {b8 A : Nat} {wt : List Bs} {g : Bool} {mt : List Bs} {a : Option Addr} {m c : Nat} {a2 : Option Addr} {m2 c2 : Nat} {v : Value} {W W' : World} (h : DeI w x b8 A wt g mt a m c a2 m2 c2 v W) (f : Fp Non W W') : DeI w x b8 A wt g mt a m c a2 m2 c2 v W' :=
  ⟨h.wd.non f, h.hm, f.heap h.bx (fun h => h), h.lo, f.heap h.xb (fun h => h), h.fp.then f, h.wr.non f, h.ok⟩
theorem DeI.app {w : World} {x : Wt} {b8 A : Nat} {wt : List Bs} {g : Bool} {mt : List Bs} {a : Option Addr} {m c : Nat} {a2 : Option Addr} {m2 c2 : Nat} {v : Value} {W W' : World} (h : DeI w x b8 A wt g mt a m c a2 m2 c2 v W) {l : List Bs} {v' : Value} (f : WrR w.heap.size W l v' W') : DeI w x b8 A wt g l a m c a2 m2 c2 v' W' :=
  ⟨h.wd.stg f.fp, h.hm, f.fp.heap h.bx (Stg.row h.bx (by decide)), h.lo, f.fp.heap h.xb (Stg.row h.xb (by decide)), h.fp.over f.fp (fun k hk => hk.1), f.own, h.ok⟩
/-- The box is written anew. -/
theorem DeI.put {w : World} {x : Wt} {b8 A : Nat} {wt : List Bs} {g : Bool} {mt : List Bs} {a : Option Addr} {m c : Nat} {a2 : Option Addr} {m2 c2 : Nat} {v : Value} {W : World} (h : DeI w x b8 A wt g mt a m c a2 m2 c2 v W) {A' : Nat} {wt' : List Bs} {g' : Bool} {a5 : Option Addr} {m5 c5 : Nat} {d5 : Option Addr} {k5 e5 : Nat} (hw : WdR W (.agg #[.slice a5 m5 c5, .slice d5 k5 e5]) (dS x A' wt' g')) (hm : m5 = (dS x A' wt' g').ws.length) (hok : DOk x A' wt' g') :
    DeI w x b8 A' wt' g' mt a5 m5 c5 d5 k5 e5 v ((W.setCell ⟨b8, 0, none⟩ (.slice a5 m5 c5)).setCell ⟨b8, 1, none⟩ (.slice d5 k5 e5)) := by
  obtain ⟨_, _, _, _, _, _, hz, hzf⟩ := two_set h.bx (.slice a5 m5 c5) (.slice d5 k5 e5)
  have hl := h.lo
  exact ⟨hw.off h.bx hzf, hm, hz, h.lo, hzf.heap h.xb (fun e => by have e : w.heap.size = b8 := e; omega), h.fp.over hzf (fun j hj => by have hj : j = b8 := hj; omega), h.wr.box hzf h.bx, hok⟩
theorem byte_mod (b wl : Nat) (hb : b < 256) (hw : wl ≤ 8) : (wrap64 (b : Int)).tmod ((wl : Int) + 1) = ((b % (wl + 1) : Nat) : Int) := by
  have e : wrap64 (b : Int) = (b : Int) := by unfold wrap64; omega
  rw [e]
  exact (Int.ofNat_tmod b (wl + 1)).symm
theorem NsE.off9 {w w' : World} {v : Value} {l : List Ev} {b : Nat} {a a2 : Option Addr} {m c m2 c2 : Nat} {T : TypeId} (h : NsE w v l) (hb : w.heap[b]? = some (.cells #[.slice a m c, .slice a2 m2 c2] T (0, 0))) (f : Fp (fun k => k = b) w w') : NsE w' v l := by
  obtain ⟨ao, cap, rfl, k1, k2, k3⟩ := h.ex
  refine ⟨ao, cap, rfl, k1, k2, ?_⟩
  rcases k3 with k3 | ⟨g, o, rfl, hg, hc⟩
  · exact .inl k3
  · refine .inr ⟨g, o, rfl, Nat.lt_of_lt_of_le hg f.size, fun i hi => (hc i hi).keep f (slot_ne hb (hc i hi).c0)⟩
theorem dS0 (x : Wt) : oA x = dS x 0 [] false := rfl

set_option maxHeartbeats 16000000 in
theorem WatchDeep_c (x : Wt) (pv tv : Value) (ps : List Bs) (ts : Bs) (w : World) (hv : Tx w pv ps) (ht : By w tv ts) :
    Calls Try.prog 4 #[wtV x, pv, tv] w fun e w' => e = .returned (.bool true) ∧ Fp Non w w' := by
  obtain ⟨ap, cp, rfl⟩ := hv.shape
  obtain ⟨at_, ct, rfl⟩ := ht.shape
  obtain ⟨sx, nx, px, dx⟩ := x
  have HV := Lib.hid hv
  have HT := Lib.hid ht
  obtain ⟨n, hnn⟩ : ∃ n, n = ps.length := ⟨_, rfl⟩
  obtain ⟨nt, hnt⟩ : ∃ n, n = ts.length := ⟨_, rfl⟩
  rw [← hnn] at HV ⊢
  rw [← hnt] at HT ⊢
  have HX := Lib.hid hnn
  have HXT := Lib.hid hnt
  have hbx := heap_alloc_new w (.cells #[.int .i64 sx, .int .i64 nx, .string (B px), .bool dx] TW)
  have K0 := Lib.hid (Kp.and (Kp.row hbx) (Kp.fp (fp_alloc w (.cells #[.int .i64 sx, .int .i64 nx, .string (B px), .bool dx] TW))))
  clear hv ht hnn hnt hbx
  unfold wtV strV
  go_enter Try.func4, Try.ntmps4
  go_wp2_with fail
  refine (head_c _).mono ?_
  rintro e w1 ⟨rfl, hf⟩
  have K1 := Lib.hid (K0.out.later hf)
  clear hf K0
  have F1 := Lib.hid K1.out.now.2
  obtain ⟨p0, p1, p2, p3⟩ := boxP4 K1.out.now.1
  by_cases h1 : 1000 < px.length
  · have q1 : (1000 < px.length) = True := eq_true h1
    have q2 : ((1000 : Int) < (px.length : Int)) = True := eq_true (by omega)
    clear h1 K1
    go_wp2
    go_ret
    exact ⟨rfl, F1.out⟩
  have q1 : (1000 < px.length) = False := eq_false h1
  have q2 : ((1000 : Int) < (px.length : Int)) = False := eq_false (by omega)
  have HPX := Lib.hid (show px.length ≤ 1000 by omega)
  clear h1
  by_cases h1 : 60 < n
  · have q3 : (60 < n) = True := eq_true h1
    have q4 : ((60 : Int) < (n : Int)) = True := eq_true (by omega)
    clear h1 K1
    go_wp2
    go_ret
    exact ⟨rfl, F1.out⟩
  have q3 : (60 < n) = False := eq_false h1
  have q4 : ((60 : Int) < (n : Int)) = False := eq_false (by omega)
  have hn60 : n ≤ 60 := by omega
  clear h1
  by_cases h1 : 100 < nt
  · have q3b : (100 < nt) = True := eq_true h1
    have q4b : ((100 : Int) < (nt : Int)) = True := eq_true (by omega)
    clear h1 K1
    go_wp2
    go_ret
    exact ⟨rfl, F1.out⟩
  have q3b : (100 < nt) = False := eq_false h1
  have q4b : ((100 : Int) < (nt : Int)) = False := eq_false (by omega)
  have hn100 : nt ≤ 100 := by omega
  clear h1
  have z3 := frozen_at K1.out.now.1 3
  have h2 := heap_setCell_same _ _ 3 _ _ (.bool true) K1.out.now.1
  have h3 := fp_cell w1 w.heap.size 3 (.bool true)
  have HB2 := Lib.hid (show (World.setCell w1 ⟨w.heap.size, 3, none⟩ (.bool true)).heap[w.heap.size]? = some (.cells #[.int .i64 sx, .int .i64 nx, .string (B px), .bool true] TW (0, 0)) from h2)
  have F2 := Lib.hid (F1.out.over h3 (fun k hk => by have hk : k = w.heap.size := hk; omega))
  clear h2 h3 K1 F1
  have hadd := fun W => Add_w _ ⟨[], []⟩ ⟨sx, nx, px, true⟩ W (WdR.nil W) (right_sz nil_right (by simp)) (show px.length ≤ 1000000 by have := HPX.out; omega)
  obtain ⟨b2, hb2⟩ : ∃ b, rWt ⟨sx, nx, px, true⟩ = b := ⟨_, rfl⟩
  rw [one_add, hb2] at hadd
  unfold wtV strV at hadd
  simp only at hadd
  have HADD := Lib.hid hadd
  have HB := Lib.hid hb2
  clear hadd hb2
  obtain ⟨u0, u1, u2, u3⟩ := boxP4 HB2.out
  go_wp2_with fail
  clear p0 p1 p2 p3 z3
  generalize (World.setCell w1 _ _) = w2 at *
  refine (HADD.out _).mono ?_
  rintro e w3 hR
  cases b2 with
  | false =>
    rw [if_neg (by decide)] at hR
    obtain ⟨a, c, a2, c2, rfl, hw⟩ := hR.wd
    have F3 := Lib.hid ((F2.out.then hR.fp).alloc (.cells #[.slice a 0 c, .slice a2 0 c2] TD))
    simp only [List.length_nil]
    clear hR hw
    clear HADD HB2 HPX
    go_wp2
    go_ret
    exact ⟨rfl, F3.out⟩
  | true =>
    rw [if_pos rfl] at hR
    obtain ⟨a, c, a2, c2, rfl, hw⟩ := hR.wd
    rw [show List.length (oA ⟨sx, nx, px, true⟩).ws = 1 from rfl, show List.length (oA ⟨sx, nx, px, true⟩).ss = 1 from rfl] at hw ⊢
    have hfa := hR.fp.then (fp_alloc w3 (.cells #[.slice a 1 c, .slice a2 1 c2] TD))
    have hne : w.heap.size < w3.heap.size := by
      have := (Array.getElem?_eq_some_iff.1 (hR.fp.heap HB2.out (fun h => h))).1
      exact this
    have HD0 := Lib.hid (show DeI w ⟨sx, nx, px, true⟩ w3.heap.size 0 [] false [] a 1 c a2 1 c2 (.slice none 0 0) (World.alloc w3 (.cells #[.slice a 1 c, .slice a2 1 c2] TD)) from ⟨hw.non (fp_alloc w3 (.cells #[.slice a 1 c, .slice a2 1 c2] TD)), rfl, heap_alloc_new w3 (.cells #[.slice a 1 c, .slice a2 1 c2] TD), hne, hfa.heap HB2.out (fun h => h), F2.out.then hfa, Wr.nil _ _, ⟨Nat.zero_le _, fun _ => Nat.zero_le _, fun t ht => absurd ht (by simp), Nat.zero_le _⟩⟩)
    clear hR hw hfa hne HB2 F2 HADD u0 u1 u2 u3
    obtain ⟨b6, hb6⟩ : ∃ b, b = w3.heap.size := ⟨_, rfl⟩
    go_wp2_with fail
    rw [← hb6] at HD0 ⊢
    clear hb6
    generalize (World.alloc w3 _) = w4 at *
    go_loopw [10, 11, 12, 13] (fun v cnt g i wr => ∃ k : Nat, k ≤ n ∧ i = .int .i64 k ∧ ∃ gb : Bool, g = .bool gb ∧ ∃ av wl cv A, v = .slice av wl cv ∧ cnt = .int .i64 ((A + wl : Nat) : Int) ∧ ∃ wt a m c a2 m2 c2, Hid ((wl = wt.length ∧ A + wl ≤ k) ∧ DeI w ⟨sx, nx, px, true⟩ b6 A wt gb wt a m c a2 m2 c2 (.slice av wl cv) wr)) (fun _ _ _ i _ => n - (RowKit.intOf i).toNat)
    case atStart => exact ⟨0, Nat.zero_le _, rfl, false, rfl, none, 0, 0, 0, rfl, rfl, [], _, _, _, _, _, _, ⟨⟨rfl, Nat.le_refl _⟩, HD0.out⟩⟩
    case round =>
      clear HD0
      obtain ⟨k, hk, rfl, gb, rfl, av, wl, cv, A, rfl, rfl, wt, a, m, c, a2, m2, c2, hR⟩ := hrel
      rename_i wr _
      obtain ⟨p0, p1, p2, p3⟩ := boxP4 hR.out.2.xb
      obtain ⟨d0, d1⟩ := boxP2 hR.out.2.bx
      by_cases hlt : k < n
      · have hkl : k < ps.length := by rw [← HX.out]; exact hlt
        obtain ⟨g, o, cap', e, hcell⟩ := (show Tx w (.slice ap ps.length cp) ps from by rw [← HX.out]; exact HV.out).at (by omega)
        injection e with e1 e2 e3
        subst e1 e3
        have hc := Lib.hid (hcell k hkl)
        have hc1 := hR.out.2.fp.cell hc.out (fun h => h)
        generalize ps[k] = p at *
        have q5 : ((k : Int) < (n : Int)) = True := eq_true (by omega)
        have q6 : (k < n) = True := eq_true hlt
        have HL := Lib.hid hlt
        clear hcell hkl hlt e2
        by_cases h1 : 1000 < p.length
        · have q7 : (1000 < p.length) = True := eq_true h1
          have q8 : ((1000 : Int) < (p.length : Int)) = True := eq_true (by omega)
          have F5 := Lib.hid hR.out.2.fp
          clear h1
          go_wp2
          go_ret
          exact ⟨rfl, F5.out⟩
        · have q7 : (1000 < p.length) = False := eq_false h1
          have q8 : ((1000 : Int) < (p.length : Int)) = False := eq_false (by omega)
          have HPL := Lib.hid (show p.length ≤ 1000 by omega)
          have htell := fun W hW => Tell_w (.agg #[.slice a m c, .slice a2 m2 c2]) (dS ⟨sx, nx, px, true⟩ A wt gb) 1 p W hW (right_sz (dS_right HB.out hR.out.2.ok) (by simp [dS])) (by omega)
          have htm := tell_dS HB.out rfl hR.out.2.ok p
          obtain ⟨D, hD⟩ : ∃ D, D = (tellM (dS ⟨sx, nx, px, true⟩ A wt gb) 1 p).1 := ⟨_, rfl⟩
          obtain ⟨er, her⟩ : ∃ D, D = (tellM (dS ⟨sx, nx, px, true⟩ A wt gb) 1 p).2 := ⟨_, rfl⟩
          rw [← hD, ← her] at htell
          rw [htm] at hD her
          have HDE := Lib.hid (And.intro hD her)
          clear htm hD her
          have HTELL := Lib.hid htell
          clear h1 htell
          have HS := Lib.hid (fun W (f : Fp Non wr W) => And.intro (f.cell d0 (fun h => h)) (And.intro (f.cell d1 (fun h => h)) (f.cell hc1 (fun h => h))))
          have HWD := Lib.hid (Fp.refl Non wr).drew
          go_upto_region 16 with (fail)
          go_cut [14, 15] from 49 to 206 (fun x14 x15 wc => ∃ b10 a5 m5 c5 d5 k5 e5, x14 = .pointer (some ⟨b10, 0, none⟩) ∧ x15 = .int .i64 er ∧ Hid (m5 = D.ws.length ∧ Fp Non wr wc ∧ wc.heap[b10]? = some (.cells #[.slice a5 m5 c5, .slice d5 k5 e5] TD (0, 0)) ∧ WdR wc (.agg #[.slice a5 m5 c5, .slice d5 k5 e5]) D))
          case first =>
            as_aux_lemma =>
              clear p0 p1 p2 p3 d0 d1 hc1
              refine wp_region_held_drew (S := (fun w' => w'.cell? ⟨b6, 0, none⟩ = some (.slice a m c) ∧ w'.cell? ⟨b6, 1, none⟩ = some (.slice a2 m2 c2) ∧ w'.cell? ⟨g, o + k, none⟩ = some (.string (B p)))) (by kernel_rfl) ?_ (fun hHeld => ?_)
              · exact HS.out _ HWD.out
              refine tk 0 hHeld ?_
              refine tk 1 hHeld ?_
              refine tk 2 hHeld ?_
              refine tk 3 hHeld ?_
              refine tk 4 hHeld ?_
              refine wpAnyH_ready (rs := [5, 9]) (by kernel_rfl) (by simp) ?_
              refine AllReadyH.cons (o := ?_) (by simp only [zA, zB, zC] <;> exact rfl) (fun K hK => ?_) (AllReadyH.cons (o := ?_) (by simp only [zA, zB, zC] <;> exact rfl) (fun K hK => ?_) AllReadyH.nil)
              · go_simp
                refine (HTELL.out _ (hR.out.2.wd.non HWD.out)).mono ?_
                rintro e w5 hR
                obtain ⟨a5, m5, c5, d5, k5, e5, rfl, hm5, hk5, hw5⟩ := hR.bx
                have HW5 := Lib.hid hw5
                have HM5 := Lib.hid hm5
                have F1 := Lib.hid (HWD.out.then hR.fp)
                clear hR hw5 hm5 hk5
                go_wp2_with fail
                refine hK.out _ _ (HS.out _ F1.out) (fun hHeld => ?_)
                clear hK K
                try simp only [zP, zN, zS, zT, zU]
                refine tk 6 hHeld ?_
                refine tk 7 hHeld ?_
                refine tk 8 hHeld ?_
                refine rY 9 (fun K hK => ?_)
                go_simp
                have HNB := Lib.hid (heap_alloc_new w5 (.cells #[.slice none 0 0, .slice none 0 0] TD))
                have F2 := Lib.hid (F1.out.then (fp_alloc w5 (.cells #[.slice none 0 0, .slice none 0 0] TD)))
                have HSZ5 := Lib.hid F1.out.size
                have HW5 := Lib.hid (HW5.out.non (fp_alloc w5 (.cells #[.slice none 0 0, .slice none 0 0] TD)))
                go_wp2_with fail
                refine hK.out _ _ (HS.out _ F2.out) (fun hHeld => ?_)
                clear hK K
                try simp only [zP, zN, zS, zT, zU]
                generalize (World.alloc w5 _) = w6 at *
                obtain ⟨N, hN⟩ : ∃ N, N = w5.heap.size := ⟨_, rfl⟩
                have HNL := Lib.hid (show wr.heap.size ≤ N by rw [hN]; exact HSZ5.out)
                rw [← hN] at HNB ⊢
                clear hN
                obtain ⟨s0, s1, s2, s3, s4, s5, hz, hzf⟩ := two_set HNB.out (.slice a5 m5 c5) (.slice d5 k5 e5)
                have HCC := Lib.hid (And.intro (F2.out.over hzf (fun k hk => by have hk : k = N := hk; have := HNL.out; omega)) (And.intro hz (HW5.out.off HNB.out hzf)))
                clear hz hzf
                refine rY 10 (fun K hK => ?_)
                go_simp
                go_wp2_with fail
                refine hK.out _ _ (HS.out _ HCC.out.1) (fun hHeld => ?_)
                clear hK K
                try simp only [zP, zN, zS, zT, zU]
                refine tk 11 hHeld ?_
                refine yD ?_
                clear s0 s1 s2 s3 s4 s5 HNB HW5 F2
                generalize (World.setCell (World.setCell w6 _ _) _ _) = wn at *
                go_wp2_with fail
                go_meet
                case rel => exact ⟨_, a5, m5, c5, d5, k5, e5, rfl, rfl, ⟨HM5.out, HCC.out⟩⟩
              · go_simp
                have HNB := Lib.hid (show ((World.alloc wr (.cells #[.slice none 0 0, .slice none 0 0] TD)).drew).heap[wr.heap.size]? = _ from heap_alloc_new wr (.cells #[.slice none 0 0, .slice none 0 0] TD))
                have F1 := Lib.hid ((fp_alloc wr (.cells #[.slice none 0 0, .slice none 0 0] TD)).drew)
                go_wp2_with fail
                refine hK.out _ _ (HS.out _ F1.out) (fun hHeld => ?_)
                clear hK K
                try simp only [zP, zN, zS, zT, zU]
                refine rY 5 (fun K hK => ?_)
                go_simp
                refine (HTELL.out _ (hR.out.2.wd.non F1.out)).mono ?_
                rintro e w5 hR
                obtain ⟨a5, m5, c5, d5, k5, e5, rfl, hm5, hk5, hw5⟩ := hR.bx
                have HW5 := Lib.hid hw5
                have HM5 := Lib.hid hm5
                have F2 := Lib.hid (F1.out.then hR.fp)
                have HNB := Lib.hid (hR.fp.heap HNB.out (fun h => h))
                clear hR hw5 hm5 hk5
                go_wp2_with fail
                refine hK.out _ _ (HS.out _ F2.out) (fun hHeld => ?_)
                clear hK K
                try simp only [zP, zN, zS, zT, zU]
                refine tk 6 hHeld ?_
                refine tk 7 hHeld ?_
                refine tk 8 hHeld ?_
                obtain ⟨N, hN⟩ : ∃ N, N = wr.heap.size := ⟨_, rfl⟩
                have HNL := Lib.hid (show wr.heap.size ≤ N by rw [hN]; exact Nat.le_refl _)
                rw [← hN] at HNB ⊢
                clear hN
                obtain ⟨s0, s1, s2, s3, s4, s5, hz, hzf⟩ := two_set HNB.out (.slice a5 m5 c5) (.slice d5 k5 e5)
                have HCC := Lib.hid (And.intro (F2.out.over hzf (fun k hk => by have hk : k = N := hk; have := HNL.out; omega)) (And.intro hz (HW5.out.off HNB.out hzf)))
                clear hz hzf
                refine rY 10 (fun K hK => ?_)
                go_simp
                go_wp2_with fail
                refine hK.out _ _ (HS.out _ HCC.out.1) (fun hHeld => ?_)
                clear hK K
                try simp only [zP, zN, zS, zT, zU]
                refine tk 11 hHeld ?_
                refine yD ?_
                clear s0 s1 s2 s3 s4 s5 HNB HW5 F2
                generalize (World.setCell (World.setCell w5 _ _) _ _) = wn at *
                go_wp2_with fail
                go_meet
                case rel => exact ⟨_, a5, m5, c5, d5, k5, e5, rfl, rfl, ⟨HM5.out, HCC.out⟩⟩
          case rest =>
            obtain ⟨b10, a5, m5, c5, d5, k5, e5, rfl, rfl, hC⟩ := hcut
            rename World => w5
            have hE := HDE.out
            have R5 := Lib.hid (hR.out.2.non hC.out.2.1)
            clear HS HWD HTELL p0 p1 p2 p3 d0 d1 hc1
            by_cases hsp : (split p).isSome = true
            · rw [if_pos hsp] at hE
              obtain ⟨hD, rfl⟩ := hE
              have hD : D = dS ⟨sx, nx, px, true⟩ A (nwt ⟨sx, nx, px, true⟩ p wt gb) (ng ⟨sx, nx, px, true⟩ p wt gb) := hD
              have hok := hR.out.2.ok.tell hsp (by have := hR.out.1; omega)
              have HQ := Lib.hid (R5.out.put (hD ▸ hC.out.2.2.2) (hD ▸ hC.out.1) hok)
              obtain ⟨wt', hwt'⟩ : ∃ q, q = nwt ⟨sx, nx, px, true⟩ p wt gb := ⟨_, rfl⟩
              obtain ⟨g', hg'⟩ : ∃ q, q = ng ⟨sx, nx, px, true⟩ p wt gb := ⟨_, rfl⟩
              rw [← hwt', ← hg'] at HQ
              have HN := Lib.hid (And.intro hwt' hg')
              have HR := Lib.hid hR.out.1
              obtain ⟨v0, v1⟩ := boxP2 hC.out.2.2.1
              obtain ⟨y0, y1, y2, y3, y4, y5, _, _⟩ := two_set R5.out.bx (.slice a5 m5 c5) (.slice d5 k5 e5)
              have hc5 := (HQ.out.fp.cell hc.out (fun h => h))
              obtain ⟨x0, x1, x2, x3⟩ := boxP4 HQ.out.xb
              clear hsp hD hok hwt' hg' HDE
              go_upto_region 19 with (fail)
              clear v0 v1 y0 y1 y2 y3 y4 y5 hC R5 hR
              generalize (World.setCell (World.setCell w5 _ _) _ _) = w6 at *
              obtain ⟨bi, hbi⟩ : ∃ b, b = inB p px := ⟨_, rfl⟩
              have hin := fun W => rIn_g p px W (sz_of HPL.out (by omega)) (sz_of HPX.out (by omega))
              rw [← hbi] at hin
              have HIN := Lib.hid hin
              have HBI := Lib.hid hbi
              clear hin hbi
              go_cut [84] from 49 to 206 (fun x84 wc => x84 = .bool (bi && !gb) ∧ Hid (Fp Non w6 wc))
              case first =>
                as_aux_lemma =>
                  have HS := Lib.hid (fun W (f : Fp Non w6 W) => And.intro (f.cell hc5 (fun h => h)) (f.cell x2 (fun h => h)))
                  have HWD := Lib.hid (Fp.refl Non w6).drew
                  clear x0 x1 x2 x3 hc5
                  refine wp_region_held_drew (S := (fun w' => w'.cell? ⟨g, o + k, none⟩ = some (.string (B p)) ∧ w'.cell? ⟨w.heap.size, 2, none⟩ = some (.string (B px)))) (by kernel_rfl) ?_ (fun hHeld => ?_)
                  · exact HS.out _ HWD.out
                  refine tk 0 hHeld ?_
                  refine tk 1 hHeld ?_
                  refine tk 2 hHeld ?_
                  refine tk 3 hHeld ?_
                  refine tk 4 hHeld ?_
                  refine tk 5 hHeld ?_
                  refine rY 6 (fun K hK => ?_)
                  go_simp
                  refine (HIN.out _).mono ?_
                  rintro e w7 ⟨rfl, hg⟩
                  have F1 := Lib.hid (HWD.out.then hg.fp)
                  clear hg
                  go_wp2_with fail
                  refine hK.out _ _ (HS.out _ F1.out) (fun hHeld => ?_)
                  clear hK K
                  try simp only [zP, zN, zS, zT, zU]
                  refine tk 7 hHeld ?_
                  cases bi with
                  | false =>
                    refine sk 8 hHeld ?_
                    refine sk 9 hHeld ?_
                    refine tk 10 hHeld ?_
                    refine yD ?_
                    go_wp2_with fail
                    go_meet
                    case rel => exact ⟨rfl, F1.out⟩
                  | true =>
                    refine tk 8 hHeld ?_
                    refine tk 9 hHeld ?_
                    refine tk 10 hHeld ?_
                    refine yD ?_
                    go_wp2_with fail
                    go_meet
                    case rel => exact ⟨rfl, F1.out⟩
              case rest =>
                obtain ⟨rfl, hF⟩ := hcut
                rename World => w7
                have HQ7 := Lib.hid (HQ.out.non hF.out)
                have hc7 := hF.out.cell hc5 (fun h => h)
                clear HQ hF hc5 x0 x1 x2 x3
                go_upto_if 84 with (fail)
                go_cut [10, 11, 12] from 49 to 206 (fun x10 x11 x12 wc => ∃ av wl cv, x10 = .slice av wl cv ∧ x11 = .int .i64 ((A + wl : Nat) : Int) ∧ x12 = .bool g' ∧ Hid ((wl = wt'.length ∧ A + wl ≤ k + 1) ∧ DeI w ⟨sx, nx, px, true⟩ b6 A wt' g' wt' a5 m5 c5 d5 k5 e5 (.slice av wl cv) wc))
                case first =>
                  as_aux_lemma =>
                    cases bi with
                    | false =>
                      have hw : wt' = wt := HN.out.1.trans (if_neg (fun h => by rw [← HBI.out] at h; exact absurd h.2 (by decide)))
                      have hg : g' = gb := HN.out.2.trans (if_neg (fun h => by rw [← HBI.out] at h; exact absurd h.2 (by decide)))
                      have HW := Lib.hid (And.intro hw hg)
                      clear hw hg
                      try simp only [Bool.false_and, Bool.true_and, Bool.not_true, Bool.not_false]
                      go_wp2_with fail
                      go_meet
                      case rel =>
                        rw [HW.out.1, HW.out.2] at HQ7 ⊢
                        exact ⟨av, wl, cv, rfl, rfl, rfl, ⟨⟨HR.out.1, by have := HR.out.2; omega⟩, HQ7.out⟩⟩
                    | true =>
                      cases gb with
                      | true =>
                        have hw : wt' = wt := HN.out.1.trans (if_neg (fun h => absurd h.1 (by decide)))
                        have hg : g' = true := HN.out.2.trans (if_neg (fun h => absurd h.1 (by decide)))
                        have HW := Lib.hid (And.intro hw hg)
                        clear hw hg
                        try simp only [Bool.false_and, Bool.true_and, Bool.not_true, Bool.not_false]
                        go_wp2_with fail
                        go_meet
                        case rel =>
                          rw [HW.out.1, HW.out.2] at HQ7 ⊢
                          exact ⟨av, wl, cv, rfl, rfl, rfl, ⟨⟨HR.out.1, by have := HR.out.2; omega⟩, HQ7.out⟩⟩
                      | false =>
                        by_cases h7 : wl = 7
                        · have q20 : ((wl : Int) == 7) = true := beq_iff_eq.2 (by omega)
                          have q21 : (wl == 7) = true := beq_iff_eq.2 h7
                          have q22 : (wl = 7) = True := eq_true h7
                          have HH7 := Lib.hid h7
                          clear h7
                          have hap := fun ty => app_wr w7 w.heap.size (.slice av wl cv) wt [] ty HQ7.out.wr (by have := HR.out; omega) HQ7.out.fp.size
                          have HAP := Lib.hid hap
                          have hl : (wt ++ [[]]).length = wl + 1 := by rw [List.length_append, HR.out.1]; rfl
                          have HLL := Lib.hid hl
                          have hkb : A + wl ≤ 60 := by have := HR.out.2; have := HL.out; omega
                          clear hap hl
                          try simp only [Bool.false_and, Bool.true_and, Bool.not_true, Bool.not_false]
                          go_wp2_with (at_builtin; go_must (refine wpList_app rfl _ _ _ _ rfl _ _ rfl rfl _ (HAP.out _) ?_))
                          rintro v8 w8 hR8
                          obtain ⟨av8, cv8, ev8, hle8⟩ := hR8.own.shape
                          rw [HLL.out] at ev8
                          subst ev8
                          have HQ8 := Lib.hid ((HQ7.out.non (fp_alloc w7 (.cells #[.string (B [])] TS9))).app hR8)
                          clear hR8 hle8
                          go_wp2_with fail
                          go_meet
                          case rel =>
                            have hw : wt' = wt ++ [[]] := HN.out.1.trans ((if_pos ⟨rfl, HBI.out.symm⟩).trans (by rw [if_pos (HR.out.1.symm.trans HH7.out)]))
                            have hg : g' = true := HN.out.2.trans ((if_pos ⟨rfl, HBI.out.symm⟩).trans (decide_eq_true (HR.out.1.symm.trans HH7.out)))
                            rw [hw, hg] at HQ8 ⊢
                            exact ⟨av8, wl + 1, cv8, rfl, by go_num, rfl, ⟨⟨HLL.out.symm, by have := HR.out.2; omega⟩, HQ8.out⟩⟩
                        · have q20 : ((wl : Int) == 7) = false := beq_eq_false_iff_ne.2 (by omega)
                          have q21 : (wl == 7) = false := beq_eq_false_iff_ne.2 h7
                          have q22 : (wl = 7) = False := eq_false h7
                          have HH7 := Lib.hid h7
                          clear h7
                          have hap := fun ty => app_wr w7 w.heap.size (.slice av wl cv) wt p ty HQ7.out.wr (by have := HR.out; omega) HQ7.out.fp.size
                          have HAP := Lib.hid hap
                          have hl : (wt ++ [p]).length = wl + 1 := by rw [List.length_append, HR.out.1]; rfl
                          have HLL := Lib.hid hl
                          have hkb : A + wl ≤ 60 := by have := HR.out.2; have := HL.out; omega
                          clear hap hl
                          try simp only [Bool.false_and, Bool.true_and, Bool.not_true, Bool.not_false]
                          go_wp2_with (at_builtin; go_must (refine wpList_app rfl _ _ _ _ rfl _ _ rfl rfl _ (HAP.out _) ?_))
                          rintro v8 w8 hR8
                          obtain ⟨av8, cv8, ev8, hle8⟩ := hR8.own.shape
                          rw [HLL.out] at ev8
                          subst ev8
                          have HQ8 := Lib.hid ((HQ7.out.non (fp_alloc w7 (.cells #[.string (B p)] TS9))).app hR8)
                          clear hR8 hle8
                          go_wp2_with fail
                          go_meet
                          case rel =>
                            have hw : wt' = wt ++ [p] := HN.out.1.trans ((if_pos ⟨rfl, HBI.out.symm⟩).trans (by rw [if_neg (fun e => HH7.out (HR.out.1.trans e))]))
                            have hg : g' = false := HN.out.2.trans ((if_pos ⟨rfl, HBI.out.symm⟩).trans (decide_eq_false (fun e => HH7.out (HR.out.1.trans e))))
                            rw [hw, hg] at HQ8 ⊢
                            exact ⟨av8, wl + 1, cv8, rfl, by go_num, rfl, ⟨⟨HLL.out.symm, by have := HR.out.2; omega⟩, HQ8.out⟩⟩
                case rest =>
                  clear HQ7 hc7
                  obtain ⟨av, wl, cv, rfl, rfl, rfl, hQ⟩ := hcut
                  rename World => w8
                  clear HN
                  have HR8 := Lib.hid hQ.out.1.2
                  have hQ := Lib.hid (And.intro hQ.out.1.1 hQ.out.2)
                  go_upto_if 103 with (fail)
                  go_cut [16] from 49 to 206 (fun x16 wc => ∃ nn : Nat, x16 = .int .i64 nn ∧ Hid (nn ≤ wl ∧ w8 = wc))
                  case first =>
                    as_aux_lemma =>
                      have hlen8 : wl ≤ 8 := by have := hQ.out.2.ok.len; have := hQ.out.1; omega
                      by_cases hkt : k < nt
                      · have hkl : k < ts.length := by rw [← HXT.out]; exact hkt
                        obtain ⟨gt, ot, ct', e, hcellt⟩ := (show By w (.slice at_ ts.length ct) ts from by rw [← HXT.out]; exact HT.out).at (by omega)
                        injection e with e1 e2 e3
                        subst e1 e3
                        have hct := hQ.out.2.fp.cell (hcellt k hkl) (fun h => h)
                        generalize ts[k] = tb at *
                        have q25 : ((k : Int) < (nt : Int)) = True := eq_true (by omega)
                        have q26 : (k < nt) = True := eq_true hkt
                        have HTB := Lib.hid (show tb.toNat < 256 from tb.toNat_lt)
                        clear hcellt hkl hkt e2
                        simp only [q25, q26, decide_true]
                        go_wp2_with fail
                        go_meet
                        case rel => exact ⟨tb.toNat % (wl + 1), by rw [byte_mod tb.toNat wl HTB.out hlen8], ⟨by have := Nat.mod_lt tb.toNat (show 0 < wl + 1 by omega); omega, rfl⟩⟩
                      · have q25 : ((k : Int) < (nt : Int)) = False := eq_false (by omega)
                        have q26 : (k < nt) = False := eq_false hkt
                        clear hkt
                        simp only [q25, q26, decide_false]
                        go_wp2_with fail
                        go_meet
                        case rel => exact ⟨0, rfl, ⟨Nat.zero_le _, rfl⟩⟩
                  case rest =>
                    obtain ⟨nn, rfl, hnn⟩ := hcut
                    have hwe := hnn.out.2
                    subst hwe
                    have hlen8 : wl ≤ 8 := by have := hQ.out.2.ok.len; have := hQ.out.1; omega
                    have hle : nn ≤ wt'.length := by have := hQ.out.1; have := hnn.out.1; omega
                    have hmx : A + wl ≤ 1000 := by have := hQ.out.2.ok.max; have := hQ.out.1; omega
                    have hnw : nn ≤ wl := hnn.out.1
                    have htake := fun (u : Int) (hu : u = ((A + nn : Nat) : Int)) => show Calls Try.prog 14 #[.agg #[.slice a5 m5 c5, .slice d5 k5 e5], .int .i64 sx, .int .i64 u] w8 (RetT (dS ⟨sx, nx, px, true⟩ (A + nn) (wt'.drop nn) g') (evF ⟨sx, nx, px, true⟩ (((A + nn : Nat) : Int) + 1) (wt'.drop nn)) 0 w8) from by
                      have h := Take_w (.agg #[.slice a5 m5 c5, .slice d5 k5 e5]) (dS ⟨sx, nx, px, true⟩ A wt' g') sx ((A + nn : Nat) : Int) w8 hQ.out.2.wd (right_sz (dS_right HB.out hQ.out.2.ok) (by simp [dS]))
                      rw [show takeM (dS ⟨sx, nx, px, true⟩ A wt' g') sx ((A + nn : Nat) : Int) = ((dS ⟨sx, nx, px, true⟩ (A + nn) (wt'.drop nn) g'), (evF ⟨sx, nx, px, true⟩ (((A + nn : Nat) : Int) + 1) (wt'.drop nn)), 0) from take_dS HB.out hQ.out.2.ok nn hle] at h
                      rw [hu]
                      exact h
                    have HTAKE := Lib.hid htake
                    have HLE := Lib.hid hle
                    clear htake hle
                    obtain ⟨x0, x1, x2, x3⟩ := boxP4 hQ.out.2.xb
                    obtain ⟨d0, d1⟩ := boxP2 hQ.out.2.bx
                    go_wp2_with fail
                    refine (HTAKE.out _ (by omega)).mono ?_
                    rintro e w9 hT
                    obtain ⟨a7, m7, c7, d7, k7, e7, l7, n7, f7, rfl, hm7, hk7, hn7, hw7, hl7⟩ := hT.bx
                    have hfa := hT.fp.then (fp_alloc w9 (.cells #[.slice a7 m7 c7, .slice d7 k7 e7] TD))
                    have HQ9 := Lib.hid (hQ.out.2.non hfa)
                    have hb9 := heap_alloc_new w9 (.cells #[.slice a7 m7 c7, .slice d7 k7 e7] TD)
                    have HP := Lib.hid (HQ9.out.put (hw7.non (fp_alloc w9 (.cells #[.slice a7 m7 c7, .slice d7 k7 e7] TD))) hm7 (hQ.out.2.ok.drop nn HLE.out))
                    have HLN := Lib.hid (NsE.off9 (hl7.non (fp_alloc w9 (.cells #[.slice a7 m7 c7, .slice d7 k7 e7] TD))) HQ9.out.bx (two_set HQ9.out.bx (.slice a7 m7 c7) (.slice d7 k7 e7)).2.2.2.2.2.2.2)
                    obtain ⟨v0, v1⟩ := boxP2 hb9
                    obtain ⟨y0, y1, y2, y3, y4, y5, _, _⟩ := two_set HQ9.out.bx (.slice a7 m7 c7) (.slice d7 k7 e7)
                    have HM7 := Lib.hid (And.intro hm7 (hn7.trans (evF_len _ _ _)))
                    have HQL := Lib.hid hQ.out.1
                    clear x0 x1 x2 x3 d0 d1 hT hm7 hk7 hn7 hw7 hl7 hfa hb9 HTAKE hQ
                    go_upto_region 33 with (fail)
                    clear v0 v1 y0 y1 y2 y3 y4 y5 HQ9
                    generalize (World.setCell (World.setCell (World.alloc w9 _) _ _) _ _) = wa at *
                    go_cut [10] from 49 to 206 (fun x10 wc => ∃ a3 l3 c3, x10 = .slice a3 l3 c3 ∧ Hid (l3 = (wt'.drop nn).length ∧ wa = wc ∧ Wr w.heap.size wa (.slice a3 l3 c3) (wt'.drop nn)))
                    case first =>
                      as_aux_lemma =>
                        have hwr := HP.out.wr
                        obtain ⟨ao, cp', e, hcp⟩ := hwr.shape
                        injection e with e1 e2 e3
                        subst e1 e3
                        have hcw : wl ≤ cv := by omega
                        have HCW := Lib.hid hcw
                        have HWR := Lib.hid hwr
                        have q30 : (nn ≤ wl) = True := eq_true hnw
                        have hll : (wt'.drop nn).length = wl - nn := by rw [List.length_drop, HQL.out]
                        have HLL := Lib.hid hll
                        clear hwr e2 hcp hll
                        by_cases hnc : nn < cv
                        · have q31 : (cv = nn) = False := eq_false (by omega)
                          have HNC := Lib.hid hnc
                          clear hnc
                          go_wp2_with fail
                          go_meet
                          case rel => exact ⟨_, _, _, rfl, ⟨HLL.out.symm, rfl, HWR.out.cut nn HLE.out HNC.out⟩⟩
                        · have hce : cv = nn := by omega
                          subst hce
                          clear hnc
                          go_wp2_with fail
                          go_meet
                          case rel => exact ⟨_, _, _, rfl, ⟨by have := HLL.out; omega, rfl, by have h := HWR.out.cut0 HLE.out; rw [show wl - cv = 0 from by omega, Nat.sub_self] at h; exact h⟩⟩
                    case rest =>
                      obtain ⟨a3, l3, c3, rfl, hW⟩ := hcut
                      have hwe := hW.out.2.1
                      subst hwe
                      have hne : n7 = l3 := HM7.out.2.trans hW.out.1.symm
                      subst hne
                      have HF := Lib.hid (show DeI w ⟨sx, nx, px, true⟩ b6 (A + nn) (wt'.drop nn) g' (wt'.drop nn) a7 m7 c7 d7 k7 e7 (.slice a3 n7 c3) wa from ⟨HP.out.wd, HP.out.hm, HP.out.bx, HP.out.lo, HP.out.xb, HP.out.fp, hW.out.2.2, HP.out.ok⟩)
                      have HAL : Hid (A + nn + n7 = A + wl) := Lib.hid (by have h1 := hW.out.1; rw [List.length_drop] at h1; have h2 := HQL.out; have := HLE.out; omega)
                      have hmg : m7 = if g' = true then 0 else 1 := by rw [HM7.out.1]; cases g' <;> rfl
                      have HEV : Hid (n7 = (wt'.drop nn).length) := Lib.hid hW.out.1
                      clear HP HM7 HQL hW HLE hnn
                      obtain ⟨w2, hw2⟩ : ∃ l, l = wt'.drop nn := ⟨_, rfl⟩
                      rw [← hw2] at HF HEV HLN
                      clear hw2
                      have HKB := Lib.hid (show A + wl ≤ k + 1 by have := HR8.out; omega)
                      obtain ⟨x0, x1, x2, x3⟩ := boxP4 HF.out.xb
                      obtain ⟨d0, d1⟩ := boxP2 HF.out.bx
                      have q40 : ((n7 : Int) != (n7 : Int)) = false := by simp
                      have q41 : (n7 != n7) = false := by simp
                      have HN8 := Lib.hid (show n7 ≤ 8 by rw [HEV.out]; exact HF.out.ok.len)
                      have hn8 := HN8.out
                      cases g' with
                      | false =>
                        as_aux_lemma =>
                          obtain rfl : m7 = 1 := by simpa using hmg
                          clear hmg
                          go_wp2_with fail
                          clear x0 x1 x2 x3 d0 d1 q40 q41
                          go_loopw [21] (fun kk wq => ∃ j : Nat, j ≤ n7 ∧ kk = .int .i64 j ∧ Hid (Fp Non wa wq)) (fun kk _ => n7 - (RowKit.intOf kk).toNat)
                          case atStart => exact ⟨0, Nat.zero_le _, rfl, Fp.refl _ _⟩
                          case round =>
                            obtain ⟨j, hj, rfl, hf⟩ := hrel
                            rename World => wq
                            have HFJ := Lib.hid (HF.out.non hf.out)
                            by_cases hjl : j < n7
                            · have hjw : j < w2.length := by rw [← HEV.out]; exact hjl
                              obtain ⟨gl, ol, cl, e, _, _, _, hcell⟩ := (show NsE wq (.slice l7 (evF ⟨sx, nx, px, true⟩ (((A + nn : Nat) : Int) + 1) w2).length f7) (evF ⟨sx, nx, px, true⟩ (((A + nn : Nat) : Int) + 1) w2) from by rw [evF_len, ← HEV.out]; exact HLN.out.non hf.out).at (by rw [evF_len]; omega)
                              injection e with e1 e2 e3
                              subst e1 e3
                              have hnd := hcell j (by rw [evF_len]; exact hjw)
                              rw [evF_get ⟨sx, nx, px, true⟩ _ w2 j (by rw [evF_len]; exact hjw) hjw] at hnd
                              obtain ⟨gw, ow, ew, hcw⟩ := HFJ.out.wr.cell (by omega)
                              subst ew
                              have hct := hcw j hjw
                              generalize w2[j] = tj at *
                              obtain ⟨x0, x1, x2, x3⟩ := boxP4 HFJ.out.xb
                              have q50 : ((j : Int) < (n7 : Int)) = True := eq_true (by omega)
                              have q51 : (j < n7) = True := eq_true hjl
                              have HJL := Lib.hid hjl
                              clear hcell hcw e2 hjw hjl HFJ
                              have c0 := hnd.c0
                              have c1 := hnd.c1
                              have c2 := hnd.c2
                              clear hnd
                              by_cases htj : tj = []
                              · subst htj
                                simp only [dk, if_true, strV] at c0 c1 c2
                                push_cast at c0
                                go_wp2_with fail
                                go_quiet (fail)
                                go_wp2
                                go_roundw
                                case rel => exact ⟨j + 1, by have := HJL.out; omega, by go_num, hf.out.drewN _⟩
                                case measure => have := HJL.out; simp [RowKit.intOf]; omega
                              · have e4 : (tj = []) = False := eq_false htj
                                have e5 : (tj == []) = false := beq_eq_false_iff_ne.2 htj
                                clear htj
                                simp only [dk, e4, if_false, strV] at c0 c1 c2
                                push_cast at c0
                                go_wp2_with fail
                                go_quiet (fail)
                                go_wp2
                                go_roundw
                                case rel => exact ⟨j + 1, by have := HJL.out; omega, by go_num, hf.out.drewN _⟩
                                case measure => have := HJL.out; simp [RowKit.intOf]; omega
                            · have hje : j = n7 := by omega
                              subst hje
                              have q50 : ((j : Int) < (j : Int)) = False := eq_false (by omega)
                              have HFE := HFJ
                              have hkn := HL.out
                              have hn61 : n ≤ 60 := hn60
                              clear hjl hj HFJ
                              go_wp2
                              go_roundw
                              case rel => exact ⟨k + 1, by omega, by go_num, false, rfl, a3, j, c3, A + nn, rfl, congrArg (Value.int .i64) (by have := HAL.out; omega), w2, a7, 1, c7, d7, k7, e7, ⟨⟨HEV.out, by have := HAL.out; have := HKB.out; omega⟩, HFE.out⟩⟩
                              case measure => simp [RowKit.intOf]; omega
                      | true =>
                        as_aux_lemma =>
                          obtain rfl : m7 = 0 := by simpa using hmg
                          clear hmg
                          go_wp2_with fail
                          clear x0 x1 x2 x3 d0 d1 q40 q41
                          go_loopw [21] (fun kk wq => ∃ j : Nat, j ≤ n7 ∧ kk = .int .i64 j ∧ Hid (Fp Non wa wq)) (fun kk _ => n7 - (RowKit.intOf kk).toNat)
                          case atStart => exact ⟨0, Nat.zero_le _, rfl, Fp.refl _ _⟩
                          case round =>
                            obtain ⟨j, hj, rfl, hf⟩ := hrel
                            rename World => wq
                            have HFJ := Lib.hid (HF.out.non hf.out)
                            by_cases hjl : j < n7
                            · have hjw : j < w2.length := by rw [← HEV.out]; exact hjl
                              obtain ⟨gl, ol, cl, e, _, _, _, hcell⟩ := (show NsE wq (.slice l7 (evF ⟨sx, nx, px, true⟩ (((A + nn : Nat) : Int) + 1) w2).length f7) (evF ⟨sx, nx, px, true⟩ (((A + nn : Nat) : Int) + 1) w2) from by rw [evF_len, ← HEV.out]; exact HLN.out.non hf.out).at (by rw [evF_len]; omega)
                              injection e with e1 e2 e3
                              subst e1 e3
                              have hnd := hcell j (by rw [evF_len]; exact hjw)
                              rw [evF_get ⟨sx, nx, px, true⟩ _ w2 j (by rw [evF_len]; exact hjw) hjw] at hnd
                              obtain ⟨gw, ow, ew, hcw⟩ := HFJ.out.wr.cell (by omega)
                              subst ew
                              have hct := hcw j hjw
                              generalize w2[j] = tj at *
                              obtain ⟨x0, x1, x2, x3⟩ := boxP4 HFJ.out.xb
                              have q50 : ((j : Int) < (n7 : Int)) = True := eq_true (by omega)
                              have q51 : (j < n7) = True := eq_true hjl
                              have HJL := Lib.hid hjl
                              clear hcell hcw e2 hjw hjl HFJ
                              have c0 := hnd.c0
                              have c1 := hnd.c1
                              have c2 := hnd.c2
                              clear hnd
                              by_cases htj : tj = []
                              · subst htj
                                simp only [dk, if_true, strV] at c0 c1 c2
                                push_cast at c0
                                go_wp2_with fail
                                go_quiet (fail)
                                go_wp2
                                go_roundw
                                case rel => exact ⟨j + 1, by have := HJL.out; omega, by go_num, hf.out.drewN _⟩
                                case measure => have := HJL.out; simp [RowKit.intOf]; omega
                              · have e4 : (tj = []) = False := eq_false htj
                                have e5 : (tj == []) = false := beq_eq_false_iff_ne.2 htj
                                clear htj
                                simp only [dk, e4, if_false, strV] at c0 c1 c2
                                push_cast at c0
                                go_wp2_with fail
                                go_quiet (fail)
                                go_wp2
                                go_roundw
                                case rel => exact ⟨j + 1, by have := HJL.out; omega, by go_num, hf.out.drewN _⟩
                                case measure => have := HJL.out; simp [RowKit.intOf]; omega
                            · have hje : j = n7 := by omega
                              subst hje
                              have q50 : ((j : Int) < (j : Int)) = False := eq_false (by omega)
                              have HFE := HFJ
                              have hkn := HL.out
                              have hn61 : n ≤ 60 := hn60
                              clear hjl hj HFJ
                              go_wp2
                              go_roundw
                              case rel => exact ⟨k + 1, by omega, by go_num, true, rfl, a3, j, c3, A + nn, rfl, congrArg (Value.int .i64) (by have := HAL.out; omega), w2, a7, 0, c7, d7, k7, e7, ⟨⟨HEV.out, by have := HAL.out; have := HKB.out; omega⟩, HFE.out⟩⟩
                              case measure => simp [RowKit.intOf]; omega
            · rw [if_neg hsp] at hE
              obtain ⟨hD, rfl⟩ := hE
              have HREL := Lib.hid (And.intro hR.out.1 R5.out)
              have hkn := HL.out
              clear hsp hD hR hC R5
              go_wp2
              go_roundw
              case rel => exact ⟨k + 1, by omega, by go_num, gb, rfl, av, wl, cv, A, rfl, rfl, wt, a, m, c, a2, m2, c2, ⟨⟨HREL.out.1.1, by have := HREL.out.1.2; omega⟩, HREL.out.2⟩⟩
              case measure => simp [RowKit.intOf]; omega
      · have hke : k = n := by omega
        subst hke
        have q5 : ((k : Int) < (k : Int)) = False := eq_false (by omega)
        have F5 := Lib.hid hR.out.2.fp
        clear hlt hk hR
        go_wp2
        go_ret
        exact ⟨rfl, F5.out⟩
end Go.Proofs.Ythkjknmfianmlaa
