/- Tell (gen_yu.py) -/
import Derived.Test.YtjdpbieifcjmiaaYt
namespace Go.Proofs.Ytjdpbieifcjmiaa
set_option maxRecDepth 20000
set_option linter.unusedVariables false
set_option linter.unusedSimpArgs false
open Go.RowKit Pm


theorem goes_tell {lo l2 N pb kb : Nat} {vw : Value} {ws : List Wt} {ss : List Se} {kd : Int} {p : Bs} (hk : 1 ≤ kd ∧ kd ≤ 3) (hp : (split p).isSome = true) (hw : RW ws) (hs : RS ss) (hn : ws.length ≤ 64) (hm : ss.length ≤ 30000) (hpl : p.length ≤ 1000000) (hwp : WSp ws) :
    Goes lo l2 ws (.func (.func 37) #[] #[.pointer (some ⟨pb, 0, none⟩), .pointer (some ⟨N, 0, none⟩), .pointer (some ⟨kb, 0, none⟩)]) (goT kd p ws ss) (fun i W => TeI lo l2 N pb kb vw ws ss kd p i W) where
  ex := ⟨_, _, _, rfl, enters_of Try.func37 (by kernel_rfl) rfl, fun i hi W hI hlo => tell1_c i hi hI (tell_rs hk hp hw.1 hs i (by omega)) (by have := tell_len kd p ws ss i (by omega); omega) hpl (hwp _ (List.getElem_mem hi)) ((rWt_iff _).1 (hw.1 _ (List.getElem_mem hi))).1 hlo⟩
  still := fun i W W' hI f => hI.still f
theorem tell_keep (kd : Int) (p : Bs) (ws : List Wt) (ss : List Se) (i : Nat) (h : i < ws.length) : (tellL kd p (ws.take (i + 1)) ss).1 = if goT kd p ws ss i = true then (tellL kd p (ws.take i) ss).1 else (tellL kd p (ws.take i) ss).1 ++ [ws[i]] := by
  rw [tell_succ _ _ _ _ i h]
  unfold tst goT
  rw [dif_pos h]
  by_cases ho : ofCh p ws[i] = true
  · rw [if_pos ho, if_pos ho]
    cases (ntf (seS (tellL kd p (ws.take i) ss).2 ws[i].s) ws[i] kd p).2 <;> simp
  · rw [if_neg ho, if_neg ho]; simp

set_option maxHeartbeats 8000000 in
theorem Tell_w (v : Value) (d : Wd) (kd : Int) (p : Bs) (w : World) (hv : WdR w v d) (hz : SzD d) (hpl : p.length ≤ 1000000) :
    Calls Try.prog 16 #[v, .int .i64 kd, .string (B p)] w (RetW (tellM d kd p).1 (tellM d kd p).2 w) := by
  obtain ⟨vw, vs, rfl, hw, hs⟩ := hv.ex
  have hri := fun W (f : Fp Non w W) => Right_w _ d W (hv.non f) hz
  have hcl := fun W (f : Fp Non w W) => clone_c _ d W (hv.non f) hz
  have hcon := fun W (f : Fp Non w W) (q : Wt → Bool) (fv : Value) (hq : PdW Non W fv q) => ContainsW_c vw fv d.ws q W (hw.non f) hz.wp hq (by have := hz.w; omega)
  have hpla := fun W (f : Fp Non w W) (ha : d.ss.Pairwise (fun a b => a.num < b.num)) (k : Int) => place_c vs d.ss k W (hs.non f) ha (by have := hz.s; omega)
  obtain ⟨aw, cw, rfl⟩ := hw.shape
  obtain ⟨at_, cs, rfl⟩ := hs.shape
  have hnb := hz.w
  have hmb := hz.s
  obtain ⟨br, hbr⟩ : ∃ b, rightW d = b := ⟨_, rfl⟩
  rw [hbr] at hri
  obtain ⟨n, hn⟩ : ∃ n, n = d.ws.length := ⟨_, rfl⟩
  obtain ⟨m, hm⟩ : ∃ n, n = d.ss.length := ⟨_, rfl⟩
  rw [← hn] at hw hnb hri hcl hcon ⊢
  rw [← hm] at hs hmb hri hcl hpla ⊢
  have HH := Lib.hid (And.intro hn (And.intro hm (And.intro hbr (And.intro hz (And.intro hw hs)))))
  have HRI := Lib.hid hri
  have HCL := Lib.hid hcl
  have HCON := Lib.hid hcon
  have HPLA := Lib.hid hpla
  have hadd : tellM d kd p = if br = true ∧ (1 ≤ kd ∧ kd ≤ 3) ∧ (split p).isSome = true then (⟨(tellL kd p d.ws d.ss).1, (tellL kd p d.ws d.ss).2⟩, 0) else (⟨[], []⟩, 1) := by unfold tellM; rw [hbr]
  have hrp := fun W => Right_g p W (sz_of hpl (by omega))
  obtain ⟨D, hD⟩ : ∃ D, D = tellM d kd p := ⟨_, rfl⟩
  rw [← hD]
  rw [hadd] at hD
  obtain ⟨b2, hb2⟩ : ∃ b, (split p).isSome = b := ⟨_, rfl⟩
  rw [hb2] at hD hrp
  have HD := Lib.hid hD
  have HB := Lib.hid (And.intro hb2 hpl)
  have HRP := Lib.hid hrp
  have f0 := (Fp.then (Fp.then (Fp.then (fp_alloc w (.cells #[.slice aw n cw, .slice at_ m cs] TD)) (fp_alloc _ (.cells #[.int .i64 kd] 3))) (fp_alloc _ (.cells #[.string (B p)] 9))) (fp_alloc _ (.cells #[.slice none 0 0, .slice none 0 0] TD)))
  have r0 := ((Fp.then (Fp.then (fp_alloc (World.alloc w (.cells #[.slice aw n cw, .slice at_ m cs] TD)) (.cells #[.int .i64 kd] 3)) (fp_alloc _ (.cells #[.string (B p)] 9))) (fp_alloc _ (.cells #[.slice none 0 0, .slice none 0 0] TD)))).heap (heap_alloc_new w (.cells #[.slice aw n cw, .slice at_ m cs] TD)) (fun h => h)
  have r1 := ((Fp.then (fp_alloc (World.alloc (World.alloc w (.cells #[.slice aw n cw, .slice at_ m cs] TD)) (.cells #[.int .i64 kd] 3)) (.cells #[.string (B p)] 9)) (fp_alloc _ (.cells #[.slice none 0 0, .slice none 0 0] TD)))).heap (heap_alloc_new (World.alloc w (.cells #[.slice aw n cw, .slice at_ m cs] TD)) (.cells #[.int .i64 kd] 3)) (fun h => h)
  have sz1 : ((World.alloc w (.cells #[.slice aw n cw, .slice at_ m cs] TD))).heap.size = w.heap.size + 1 := by simp
  rw [sz1] at r1
  have r2 := ((fp_alloc (World.alloc (World.alloc (World.alloc w (.cells #[.slice aw n cw, .slice at_ m cs] TD)) (.cells #[.int .i64 kd] 3)) (.cells #[.string (B p)] 9)) (.cells #[.slice none 0 0, .slice none 0 0] TD))).heap (heap_alloc_new (World.alloc (World.alloc w (.cells #[.slice aw n cw, .slice at_ m cs] TD)) (.cells #[.int .i64 kd] 3)) (.cells #[.string (B p)] 9)) (fun h => h)
  have sz2 : ((World.alloc (World.alloc w (.cells #[.slice aw n cw, .slice at_ m cs] TD)) (.cells #[.int .i64 kd] 3))).heap.size = w.heap.size + 1 + 1 := by simp
  rw [sz2] at r2
  have r3 := heap_alloc_new (World.alloc (World.alloc (World.alloc w (.cells #[.slice aw n cw, .slice at_ m cs] TD)) (.cells #[.int .i64 kd] 3)) (.cells #[.string (B p)] 9)) (.cells #[.slice none 0 0, .slice none 0 0] TD)
  have sz3 : ((World.alloc (World.alloc (World.alloc w (.cells #[.slice aw n cw, .slice at_ m cs] TD)) (.cells #[.int .i64 kd] 3)) (.cells #[.string (B p)] 9))).heap.size = w.heap.size + 1 + 1 + 1 := by simp
  rw [sz3] at r3
  have K0 := Lib.hid (Kp.and (Kp.fp f0) (Kp.and (Kp.row r0) (Kp.and (Kp.row r1) (Kp.and (Kp.row r2) (Kp.row r3)))))
  have HSZ := Lib.hid (show ((World.alloc (World.alloc (World.alloc (World.alloc w (.cells #[.slice aw n cw, .slice at_ m cs] TD)) (.cells #[.int .i64 kd] 3)) (.cells #[.string (B p)] 9)) (.cells #[.slice none 0 0, .slice none 0 0] TD))).heap.size = w.heap.size + 1 + 1 + 1 + 1 by simp)
  clear f0 r0 r1 r2 r3 sz1 sz2 sz3
  clear hD hv hz hw hs hri hcl hcon hpla hn hm hbr hb2 hadd hrp hpl
  obtain ⟨p0, p1⟩ := boxP2 K0.out.now.2.1
  go_enter Try.func16, Try.ntmps16
  go_wp2_with fail
  generalize hW0 : (World.alloc (World.alloc (World.alloc (World.alloc w (.cells #[.slice aw n cw, .slice at_ m cs] TD)) (.cells #[.int .i64 kd] 3)) (.cells #[.string (B p)] 9)) (.cells #[.slice none 0 0, .slice none 0 0] TD)) = W0 at *
  clear hW0
  refine (HRI.out _ K0.out.now.1).mono ?_
  rintro e w1 ⟨rfl, hf⟩
  have K1 := Lib.hid (K0.out.later hf)
  have HS1 := Lib.hid (show w.heap.size + 1 + 1 + 1 + 1 ≤ w1.heap.size by have := HSZ.out; have := hf.size; omega)
  clear hf p0 p1
  have kc := boxP1 K1.out.now.2.2.1
  cases br with
  | false =>
    obtain ⟨r0, r1, z0, z2, y1, z1, hz, hzf⟩ := two_set (K1.out.now.2.2.2.2) (.slice none 0 0) (.slice none 0 0)
    have HZ := Lib.hid (And.intro hz ((K1.out.now.1).trans hzf (fun j hj => .inr (by have hj : j = w.heap.size + 1 + 1 + 1 := hj; omega))))
    clear hz hzf
    go_wp2_with fail
    generalize (World.setCell (World.setCell w1 _ _) _ _) = wz at *
    obtain ⟨s0, s1⟩ := boxP2 HZ.out.1
    refine bodyPost_ret (v := .tuple #[.agg #[.slice none 0 0, .slice none 0 0], .int .i64 1]) (by simp [results, Try.results16, go_sem, s0, s1]) rfl ?_
    rw [show D = (⟨[], []⟩, 1) from by rw [HD.out]; first | (simp; done) | (rw [if_neg (fun h => by simp at h; omega)])]
    exact ⟨⟨_, _, rfl, NsW.nil _, Ses.nil _⟩, HZ.out.2⟩
  | true =>
    by_cases hk1 : kd < 1
    · have t1 : (kd < 1) = True := eq_true hk1
      have hnk : ¬ (1 ≤ kd) := by omega
      obtain ⟨r0, r1, z0, z2, y1, z1, hz, hzf⟩ := two_set (K1.out.now.2.2.2.2) (.slice none 0 0) (.slice none 0 0)
      have HZ := Lib.hid (And.intro hz ((K1.out.now.1).trans hzf (fun j hj => .inr (by have hj : j = w.heap.size + 1 + 1 + 1 := hj; omega))))
      clear hz hzf
      go_wp2_with fail
      generalize (World.setCell (World.setCell w1 _ _) _ _) = wz at *
      obtain ⟨s0, s1⟩ := boxP2 HZ.out.1
      refine bodyPost_ret (v := .tuple #[.agg #[.slice none 0 0, .slice none 0 0], .int .i64 1]) (by simp [results, Try.results16, go_sem, s0, s1]) rfl ?_
      rw [show D = (⟨[], []⟩, 1) from by rw [HD.out]; first | (simp; done) | (rw [if_neg (fun h => by simp at h; omega)])]
      exact ⟨⟨_, _, rfl, NsW.nil _, Ses.nil _⟩, HZ.out.2⟩
    · have t1 : (kd < 1) = False := eq_false hk1
      by_cases hk3 : 3 < kd
      · have t2 : (3 < kd) = True := eq_true hk3
        have hnk : ¬ (kd ≤ 3) := by omega
        obtain ⟨r0, r1, z0, z2, y1, z1, hz, hzf⟩ := two_set (K1.out.now.2.2.2.2) (.slice none 0 0) (.slice none 0 0)
        have HZ := Lib.hid (And.intro hz ((K1.out.now.1).trans hzf (fun j hj => .inr (by have hj : j = w.heap.size + 1 + 1 + 1 := hj; omega))))
        clear hz hzf
        go_wp2_with fail
        generalize (World.setCell (World.setCell w1 _ _) _ _) = wz at *
        obtain ⟨s0, s1⟩ := boxP2 HZ.out.1
        refine bodyPost_ret (v := .tuple #[.agg #[.slice none 0 0, .slice none 0 0], .int .i64 1]) (by simp [results, Try.results16, go_sem, s0, s1]) rfl ?_
        rw [show D = (⟨[], []⟩, 1) from by rw [HD.out]; first | (simp; done) | (rw [if_neg (fun h => by simp at h; omega)])]
        exact ⟨⟨_, _, rfl, NsW.nil _, Ses.nil _⟩, HZ.out.2⟩
      · have t2 : (3 < kd) = False := eq_false hk3
        have sc := boxP1 K1.out.now.2.2.2.1
        go_wp2_with fail
        refine (HRP.out _).mono ?_
        rintro e w4 ⟨rfl, hf⟩
        have K4 := Lib.hid (K1.out.later hf.fp)
        have HS4 := Lib.hid (show w.heap.size + 1 + 1 + 1 + 1 ≤ w4.heap.size from Nat.le_trans HS1.out hf.fp.size)
        clear hf kc sc
        cases b2 with
        | false =>
          obtain ⟨r0, r1, z0, z2, y1, z1, hz, hzf⟩ := two_set (K4.out.now.2.2.2.2) (.slice none 0 0) (.slice none 0 0)
          have HZ := Lib.hid (And.intro hz ((K4.out.now.1).trans hzf (fun j hj => .inr (by have hj : j = w.heap.size + 1 + 1 + 1 := hj; omega))))
          clear hz hzf
          go_wp2_with fail
          generalize (World.setCell (World.setCell w4 _ _) _ _) = wz at *
          obtain ⟨s0, s1⟩ := boxP2 HZ.out.1
          refine bodyPost_ret (v := .tuple #[.agg #[.slice none 0 0, .slice none 0 0], .int .i64 1]) (by simp [results, Try.results16, go_sem, s0, s1]) rfl ?_
          rw [show D = (⟨[], []⟩, 1) from by rw [HD.out]; first | (simp; done) | (rw [if_neg (fun h => by simp at h; omega)])]
          exact ⟨⟨_, _, rfl, NsW.nil _, Ses.nil _⟩, HZ.out.2⟩
        | true =>
          obtain ⟨p0, p1⟩ := boxP2 K4.out.now.2.1
          go_wp2_with fail
          refine (HCL.out _ K4.out.now.1).mono ?_
          rintro e w5 hC
          obtain ⟨vw5, vs5, L, rfl, hc1, hc2⟩ := hC.ex
          have K5 := Lib.hid (K4.out.later hC.fp)
          obtain ⟨a5, c5, rfl⟩ : ∃ a c, vw5 = .slice a n c := by rw [HH.out.1]; exact hc1.ownW.ns.shape
          obtain ⟨d5, e5, rfl⟩ : ∃ a c, vs5 = .slice a m c := by rw [HH.out.2.1, ← hc2, List.length_map]; exact hc1.ownV.ns.shape
          have hnf := fp_alloc w5 (.cells #[.slice a5 n c5, .slice d5 m e5] TD)
          have hwk : Wk w4.heap.size w5.heap.size (.slice a5 n c5) (.slice d5 m e5) d.ws L (w5.alloc (.cells #[.slice a5 n c5, .slice d5 m e5] TD)) := ⟨heap_alloc_new w5 _, hC.fp.size, hc1.non hnf⟩
          have K6 := Lib.hid (Kp.and (Kp.fp hnf) (K5.out.later hnf))
          have HWK := Lib.hid (And.intro hwk hc2)
          have HS6 := Lib.hid (show w4.heap.size ≤ (w5.alloc (.cells #[.slice a5 n c5, .slice d5 m e5] TD)).heap.size from Nat.le_trans hC.fp.size hnf.size)
          have hkk : 1 ≤ kd ∧ kd ≤ 3 := ⟨by omega, by omega⟩
          have hri := (right_iff d).1 HH.out.2.2.1
          have hI0 : TeI w4.heap.size (w5.alloc (.cells #[.slice a5 n c5, .slice d5 m e5] TD)).heap.size w5.heap.size (w.heap.size + 1 + 1) (w.heap.size + 1) (.slice a5 n c5) d.ws d.ss kd p 0 (w5.alloc (.cells #[.slice a5 n c5, .slice d5 m e5] TD)) :=
            ⟨⟨_, L, hwk, by rw [List.take_zero]; exact hc2⟩, K6.out.now.2.2.2.2.1, K6.out.now.2.2.2.1, hwk.cl.ownW.ltW⟩
          have hwo := without_c w4.heap.size (.slice a5 n c5) _ d.ws _ _ (fun i => (tellL kd p (d.ws.take i) d.ss).1) _ hwk.cl.ownW (goes_tell (N := w5.heap.size) hkk HB.out.1 hri.2.1 hri.2.2 hri.1 HH.out.2.2.2.1.s HB.out.2 HH.out.2.2.2.1.wp) hI0 (by simp [tellL]) (tell_keep kd p d.ws d.ss) (fun i hi => Nat.le_trans (tell_sub kd p d.ws d.ss i hi).length_le (by rw [List.length_take]; have := HH.out.1; omega)) (by have := HH.out.1; omega) HS6.out
          have HWO := Lib.hid hwo
          obtain ⟨u0, u1⟩ := boxP2 hwk.blk
          have HKK := Lib.hid hkk
          clear hC hc1 hc2 hnf hwk p0 p1 hI0 hwo hkk hri
          go_wp2_with fail
          refine HWO.out.mono ?_
          rintro e w7 hW7
          obtain ⟨v7, rfl, ho7⟩ := hW7.ex
          obtain ⟨vs7, L7, hwk7, hL7⟩ := hW7.inv.ex
          obtain ⟨g1, g3⟩ := hwk7.setW ho7
          obtain ⟨a7, m7, c7, rfl⟩ : ∃ a m c, v7 = .slice a m c := by obtain ⟨a, c, e⟩ := ho7.ns.shape; exact ⟨a, _, c, e⟩
          obtain ⟨a8, m8, c8, rfl⟩ : ∃ a m c, vs7 = .slice a m c := by obtain ⟨a, c, e⟩ := hwk7.cl.ownV.ns.shape; exact ⟨a, _, c, e⟩
          have hf7 : Fp Non w (World.setCell w7 ⟨w5.heap.size, 0, none⟩ (.slice a7 m7 c7)) := (K6.out.now.2.1.trans hW7.fp (fun k hk => .inr (by have := HS4.out; omega))).trans g3 (fun k hk => .inr (by have := HS4.out; omega))
          have hr7 : (World.setCell w7 ⟨w5.heap.size, 0, none⟩ (.slice a7 m7 c7)).heap[w.heap.size + 1 + 1 + 1]? = some (.cells #[.slice none 0 0, .slice none 0 0] TD (0, 0)) := Fp.heap g3 (Fp.heap hW7.fp K6.out.now.2.2.2.2.2 (fun e => by have := HS4.out; omega)) (fun e => by have := HS4.out; omega)
          obtain ⟨x0, x1⟩ := boxP2 hwk7.blk
          have x2 := frozen_at hwk7.blk 0
          obtain ⟨t0, t3⟩ := boxP2 g1.blk
          have K9 := Lib.hid (And.intro hf7 (And.intro hr7 hL7))
          have HF := Lib.hid (g1.cl.twoD hr7 (.slice a7 m7 c7) (.slice a8 m8 c8))
          clear hW7 ho7 g1 g3 hf7 hr7 u0 u1 hwk7 hL7
          obtain ⟨r0, r1, z0, z2, y1, z1, hz, hzf⟩ := two_set (K9.out.2.1) (.slice a7 m7 c7) (.slice a8 m8 c8)
          have HZ := Lib.hid (And.intro hz ((K9.out.1).trans hzf (fun j hj => .inr (by have hj : j = w.heap.size + 1 + 1 + 1 := hj; omega))))
          clear hz hzf
          go_wp2_with fail
          generalize (World.setCell (World.setCell (World.setCell w7 _ _) _ _) _ _) = wz at *
          obtain ⟨s0, s1⟩ := boxP2 HZ.out.1
          refine bodyPost_ret (v := .tuple #[.agg #[.slice a7 m7 c7, .slice a8 m8 c8], .int .i64 0]) (by simp [results, Try.results16, go_sem, s0, s1]) rfl ?_
          rw [show D = (⟨(tellL kd p d.ws d.ss).1, (tellL kd p d.ws d.ss).2⟩, 0) from by rw [HD.out]; simp [HKK.out]]
          have hns := HF.out.ownW.ns
          have hl := K9.out.2.2
          simp only [List.take_length] at hns hl
          exact ⟨⟨_, _, rfl, hns, ⟨L7, hl, HF.out.ownV.ns, fun y hy => (HF.out.ownE y hy).ns⟩⟩, HZ.out.2⟩
end Go.Proofs.Ytjdpbieifcjmiaa
