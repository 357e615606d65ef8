/- Close, Tell (gen_yt.py) -/
import Derived.Test.YtjdpbieifcjmiaaYs
namespace Go.Proofs.Ytjdpbieifcjmiaa
set_option maxRecDepth 20000
set_option linter.unusedVariables false
set_option linter.unusedSimpArgs false
open Go.RowKit Pm


theorem Wk.fw {lo l2 N : Nat} {vw vs : Value} {ws : List Wt} {L : List Sv} {W W' : World} (h : Wk lo N vw vs ws L W) (f : Fw l2 W W') (hlv : ∀ k, vw.ownBlock = some k → k < l2) : Wk lo N vw vs ws L W' := by
  have hne : ∀ {k : Nat} {cs : Array Value} {T : TypeId}, W.heap[k]? = some (.cells cs T (0, 0)) → T ≠ TW → ¬ (l2 ≤ k ∧ ∃ cs, W.heap[k]? = some (.cells cs TW (0, 0))) := fun ht hT hk => by
    obtain ⟨_, cs, h2⟩ := hk
    exact type_ne ht h2 hT
  refine ⟨Fp.heap f h.blk (hne h.blk (by decide)), h.low, h.cl.keep f (fun k hk e => ?_) (fun k hk => ?_) (fun y hy k hk => ?_)⟩
  · have := hlv k hk; have := e.1; omega
  · obtain ⟨cs, ht⟩ := h.cl.ownV.type hk; exact hne ht (by decide)
  · obtain ⟨cs, ht⟩ := (h.cl.ownE y hy).type hk; exact hne ht (by decide)
/-- Other watches of the call's own. -/
theorem Wk.setW {lo N : Nat} {vw vs v' : Value} {ws ws' : List Wt} {L : List Sv} {w : World} (h : Wk lo N vw vs ws L w) (o : OwW lo w v' ws') :
    Wk lo N v' vs ws' L (w.setCell ⟨N, 0, none⟩ v') ∧ Fp (fun k => lo ≤ k) w (w.setCell ⟨N, 0, none⟩ v') := by
  have hf := fp_cell w N 0 v'
  have hne : ∀ {cs : Array Value} {T : TypeId} {j : Nat}, w.heap[j]? = some (.cells cs T (0, 0)) → T ≠ TD → j ≠ N := fun ht hT e => by
    subst e
    exact type_ne ht h.blk hT
  refine ⟨⟨heap_setCell_same w N 0 _ TD v' h.blk, h.low, ⟨?_, ?_, fun x hx => ?_, h.cl.apart⟩⟩, hf.mono (fun k hk => by have hk : k = N := hk; rw [hk]; exact h.low)⟩
  · exact o.keep hf (fun k hk e => by obtain ⟨cs, ht⟩ := o.type hk; exact hne ht (by decide) e)
  · exact h.cl.ownV.keep hf (fun k hk e => by obtain ⟨cs, ht⟩ := h.cl.ownV.type hk; exact hne ht (by decide) e)
  · exact (h.cl.ownE x hx).keep hf (fun k hk e => by obtain ⟨cs, ht⟩ := (h.cl.ownE x hx).type hk; exact hne ht (by decide) e)
theorem take_filterW (l : List Wt) (k : Nat) (h : k < l.length) (q : Wt → Bool) : (l.take (k + 1)).filter q = (l.take k).filter q ++ if q l[k] = true then [l[k]] else [] := by
  rw [List.take_succ_eq_append_getElem h, List.filter_append]
  congr 1
  by_cases hq : q l[k] = true <;> simp [hq]
/-- Between two watches of Close. -/
structure ClI (lo l2 N : Nat) (vw vs : Value) (ws : List Wt) (L : List Sv) (g h : Nat) (s n : Int) (W : World) : Prop where
  wk : Wk lo N vw vs ws L W
  c1 : W.cell? ⟨g, 0, none⟩ = some (.int .i64 s)
  c2 : W.cell? ⟨h, 0, none⟩ = some (.int .i64 n)
  g1 : g < l2
  h1 : h < l2
  lv : ∀ k, vw.ownBlock = some k → k < l2
theorem goes_hit {lo l2 N : Nat} {vw vs : Value} {ws : List Wt} {L : List Sv} {g h : Nat} {s n : Int} :
    Goes lo l2 ws (.func (.func 43) #[] #[.pointer (some ⟨g, 0, none⟩), .pointer (some ⟨h, 0, none⟩)]) (fun i => if hi : i < ws.length then hit s n ws[i] else false) (fun _ W => ClI lo l2 N vw vs ws L g h s n W) where
  ex := ⟨_, _, _, rfl, enters_of Try.func43 (by kernel_rfl) rfl, fun i hi W hI _ => (numbered1_c ws[i] g h s n W hI.c1 hI.c2).mono (by
    rintro e W' ⟨rfl, hf⟩
    refine ⟨by rw [dif_pos hi], ⟨hI.wk.non hf, hf.cell hI.c1 (fun h => h), hf.cell hI.c2 (fun h => h), hI.g1, hI.h1, hI.lv⟩, hf.ft⟩)⟩
  still := fun i W W' hI f => ⟨hI.wk.fw f hI.lv, Fp.cell f hI.c1 (fun hk => by have h1 : l2 ≤ g := hk.1; have h2 := hI.g1; omega), Fp.cell f hI.c2 (fun hk => by have h1 : l2 ≤ h := hk.1; have h2 := hI.h1; omega), hI.g1, hI.h1, hI.lv⟩

set_option maxHeartbeats 8000000 in
theorem Close_w (v : Value) (d : Wd) (s k : Int) (w : World) (hv : WdR w v d) (hz : SzD d)  :
    Calls Try.prog 11 #[v, .int .i64 s, .int .i64 k] w (RetW (closeM d s k).1 (closeM d s k).2 w) := by
  obtain ⟨vw, vs, rfl, hw, hs⟩ := hv.ex
  have hri := fun W (f : Fp Non w W) => Right_w _ d W (hv.non f) hz
  have hcl := fun W (f : Fp Non w W) => clone_c _ d W (hv.non f) hz
  have hcon := fun W (f : Fp Non w W) (q : Wt → Bool) (fv : Value) (hq : PdW Non W fv q) => ContainsW_c vw fv d.ws q W (hw.non f) hz.wp hq (by have := hz.w; omega)
  have hpla := fun W (f : Fp Non w W) (ha : d.ss.Pairwise (fun a b => a.num < b.num)) (k : Int) => place_c vs d.ss k W (hs.non f) ha (by have := hz.s; omega)
  obtain ⟨aw, cw, rfl⟩ := hw.shape
  obtain ⟨at_, cs, rfl⟩ := hs.shape
  have hnb := hz.w
  have hmb := hz.s
  obtain ⟨br, hbr⟩ : ∃ b, rightW d = b := ⟨_, rfl⟩
  rw [hbr] at hri
  obtain ⟨n, hn⟩ : ∃ n, n = d.ws.length := ⟨_, rfl⟩
  obtain ⟨m, hm⟩ : ∃ n, n = d.ss.length := ⟨_, rfl⟩
  rw [← hn] at hw hnb hri hcl hcon ⊢
  rw [← hm] at hs hmb hri hcl hpla ⊢
  have HH := Lib.hid (And.intro hn (And.intro hm (And.intro hbr (And.intro hz (And.intro hw hs)))))
  have HRI := Lib.hid hri
  have HCL := Lib.hid hcl
  have HCON := Lib.hid hcon
  have HPLA := Lib.hid hpla
  have hadd : closeM d s k = if br = true then if d.ws.any (hit s k) then (⟨d.ws.filter (fun x => !hit s k x), d.ss⟩, 0) else (d, 62) else (⟨[], []⟩, 1) := by unfold closeM; rw [hbr]
  obtain ⟨D, hD⟩ : ∃ D, D = closeM d s k := ⟨_, rfl⟩
  rw [← hD]
  rw [hadd] at hD
  obtain ⟨b2, hb2⟩ : ∃ b, d.ws.any (hit s k) = b := ⟨_, rfl⟩
  rw [hb2] at hD
  have HD := Lib.hid hD
  have HB := Lib.hid hb2
  have f0 := (Fp.then (fp_alloc w (.cells #[.slice aw n cw, .slice at_ m cs] TD)) (fp_alloc _ (.cells #[.slice none 0 0, .slice none 0 0] TD)))
  have r0 := ((fp_alloc (World.alloc w (.cells #[.slice aw n cw, .slice at_ m cs] TD)) (.cells #[.slice none 0 0, .slice none 0 0] TD))).heap (heap_alloc_new w (.cells #[.slice aw n cw, .slice at_ m cs] TD)) (fun h => h)
  have r1 := heap_alloc_new (World.alloc w (.cells #[.slice aw n cw, .slice at_ m cs] TD)) (.cells #[.slice none 0 0, .slice none 0 0] TD)
  have sz1 : ((World.alloc w (.cells #[.slice aw n cw, .slice at_ m cs] TD))).heap.size = w.heap.size + 1 := by simp
  rw [sz1] at r1
  have K0 := Lib.hid (Kp.and (Kp.fp f0) (Kp.and (Kp.row r0) (Kp.row r1)))
  have HSZ := Lib.hid (show ((World.alloc (World.alloc w (.cells #[.slice aw n cw, .slice at_ m cs] TD)) (.cells #[.slice none 0 0, .slice none 0 0] TD))).heap.size = w.heap.size + 1 + 1 by simp)
  clear f0 r0 r1 sz1
  clear hD hv hz hw hs hri hcl hcon hpla hn hm hbr hb2 hadd
  obtain ⟨p0, p1⟩ := boxP2 K0.out.now.2.1
  go_enter Try.func11, Try.ntmps11
  go_wp2_with fail
  generalize hW0 : (World.alloc (World.alloc w (.cells #[.slice aw n cw, .slice at_ m cs] TD)) (.cells #[.slice none 0 0, .slice none 0 0] TD)) = W0 at *
  clear hW0
  refine (HRI.out _ K0.out.now.1).mono ?_
  rintro e w1 ⟨rfl, hf⟩
  have K1 := Lib.hid (K0.out.later hf)
  have HS1 := Lib.hid (show w.heap.size + 1 + 1 ≤ w1.heap.size by have := HSZ.out; have := hf.size; omega)
  clear hf p0 p1
  cases br with
  | false =>
    obtain ⟨r0, r1, z0, z2, y1, z1, hz, hzf⟩ := two_set (K1.out.now.2.2) (.slice none 0 0) (.slice none 0 0)
    have HZ := Lib.hid (And.intro hz ((K1.out.now.1).trans hzf (fun j hj => .inr (by have hj : j = w.heap.size + 1 := hj; omega))))
    clear hz hzf
    go_wp2_with fail
    generalize (World.setCell (World.setCell w1 _ _) _ _) = wz at *
    obtain ⟨s0, s1⟩ := boxP2 HZ.out.1
    refine bodyPost_ret (v := .tuple #[.agg #[.slice none 0 0, .slice none 0 0], .int .i64 1]) (by simp [results, Try.results11, go_sem, s0, s1]) rfl ?_
    rw [show D = (⟨[], []⟩, 1) from by rw [HD.out]; first | (simp; done) | (rw [if_neg (fun h => by simp at h; omega)])]
    exact ⟨⟨_, _, rfl, NsW.nil _, Ses.nil _⟩, HZ.out.2⟩
  | true =>
    go_wp2_with fail
    refine (numbered_c s k _).mono ?_
    rintro e w3 hN
    obtain ⟨h1, h2, rfl, hh1, hh2, hh3, hh4⟩ := hN.ex
    have K3 := Lib.hid (K1.out.later hN.fp)
    have HP := Lib.hid (And.intro (hit_pd w3 h1 h2 s k hh3 hh4 Non (fun h => h) (fun h => h)) (And.intro hh3 hh4))
    have HS3 := Lib.hid (show w.heap.size + 1 + 1 ≤ w3.heap.size from Nat.le_trans HS1.out hN.fp.size)
    clear hN hh1 hh2 hh3 hh4
    obtain ⟨p0, p1⟩ := boxP2 K3.out.now.2.1
    go_wp2_with fail
    refine (HCON.out _ K3.out.now.1 _ _ HP.out.1).mono ?_
    rintro e w4 ⟨rfl, hf⟩
    have K4 := Lib.hid (K3.out.later hf)
    have HS4 := Lib.hid (And.intro (show w.heap.size + 1 + 1 ≤ w4.heap.size from Nat.le_trans HS3.out hf.size) (And.intro (hf.cell HP.out.2.1 (fun h => h)) (hf.cell HP.out.2.2 (fun h => h))))
    rw [HB.out]
    clear hf p0 p1
    obtain ⟨p0, p1⟩ := boxP2 K4.out.now.2.1
    cases b2 with
    | false =>
      obtain ⟨r0, r1, z0, z2, y1, z1, hz, hzf⟩ := two_set (K4.out.now.2.2) (.slice aw n cw) (.slice at_ m cs)
      have HZ := Lib.hid (And.intro hz ((K4.out.now.1).trans hzf (fun j hj => .inr (by have hj : j = w.heap.size + 1 := hj; omega))))
      clear hz hzf
      go_wp2_with fail
      generalize (World.setCell (World.setCell w4 _ _) _ _) = wz at *
      obtain ⟨s0, s1⟩ := boxP2 HZ.out.1
      refine bodyPost_ret (v := .tuple #[.agg #[.slice aw n cw, .slice at_ m cs], .int .i64 62]) (by simp [results, Try.results11, go_sem, s0, s1]) rfl ?_
      rw [show D = (d, 62) from by rw [HD.out]; simp]
      exact ⟨⟨_, _, rfl, HH.out.2.2.2.2.1.non HZ.out.2, HH.out.2.2.2.2.2.non HZ.out.2⟩, HZ.out.2⟩
    | true =>
      go_wp2_with fail
      refine (HCL.out _ K4.out.now.1).mono ?_
      rintro e w5 hC
      obtain ⟨vw5, vs5, L, rfl, hc1, hc2⟩ := hC.ex
      have K5 := Lib.hid (K4.out.later hC.fp)
      obtain ⟨a5, c5, rfl⟩ : ∃ a c, vw5 = .slice a n c := by rw [HH.out.1]; exact hc1.ownW.ns.shape
      obtain ⟨d5, e5, rfl⟩ : ∃ a c, vs5 = .slice a m c := by rw [HH.out.2.1, ← hc2, List.length_map]; exact hc1.ownV.ns.shape
      have hnf := fp_alloc w5 (.cells #[.slice a5 n c5, .slice d5 m e5] TD)
      have hwk : Wk w4.heap.size w5.heap.size (.slice a5 n c5) (.slice d5 m e5) d.ws L (w5.alloc (.cells #[.slice a5 n c5, .slice d5 m e5] TD)) := ⟨heap_alloc_new w5 _, hC.fp.size, hc1.non hnf⟩
      have K6 := Lib.hid (Kp.and (Kp.fp hnf) (K5.out.later hnf))
      have HWK := Lib.hid (And.intro hwk hc2)
      have HS6 := Lib.hid (show w4.heap.size ≤ (w5.alloc (.cells #[.slice a5 n c5, .slice d5 m e5] TD)).heap.size from Nat.le_trans hC.fp.size hnf.size)
      have hI0 : ClI w4.heap.size (w5.alloc (.cells #[.slice a5 n c5, .slice d5 m e5] TD)).heap.size w5.heap.size (.slice a5 n c5) (.slice d5 m e5) d.ws L h1 h2 s k (w5.alloc (.cells #[.slice a5 n c5, .slice d5 m e5] TD)) := by
        have f1 := hC.fp.then hnf
        exact ⟨hwk, f1.cell HS4.out.2.1 (fun h => h), f1.cell HS4.out.2.2 (fun h => h), World.block_lt_of_cell? _ _ (f1.cell HS4.out.2.1 (fun h => h)), World.block_lt_of_cell? _ _ (f1.cell HS4.out.2.2 (fun h => h)), hwk.cl.ownW.ltW⟩
      have hwo := without_c w4.heap.size (.slice a5 n c5) _ d.ws _ _ (fun i => (d.ws.take i).filter (fun x => !hit s k x)) _ hwk.cl.ownW (goes_hit (N := w5.heap.size) (vs := .slice d5 m e5) (L := L)) hI0 (by simp) (fun i hi => by rw [take_filterW _ _ hi, dif_pos hi]; cases hit s k d.ws[i] <;> simp) (fun i hi => Nat.le_trans (List.length_filter_le _ _) (by rw [List.length_take]; have := HH.out.1; omega)) (by have := HH.out.1; omega) HS6.out
      have HWO := Lib.hid hwo
      obtain ⟨u0, u1⟩ := boxP2 hwk.blk
      clear hC hc1 hc2 hnf hwk p0 p1 hI0 hwo
      go_wp2_with fail
      refine HWO.out.mono ?_
      rintro e w7 hW7
      obtain ⟨v7, rfl, ho7⟩ := hW7.ex
      obtain ⟨g1, g3⟩ := hW7.inv.wk.setW ho7
      obtain ⟨a7, m7, c7, rfl⟩ : ∃ a m c, v7 = .slice a m c := by obtain ⟨a, c, e⟩ := ho7.ns.shape; exact ⟨a, _, c, e⟩
      have hf7 : Fp Non w (World.setCell w7 ⟨w5.heap.size, 0, none⟩ (.slice a7 m7 c7)) := (K6.out.now.2.1.trans hW7.fp (fun k hk => .inr (by have := HS4.out.1; omega))).trans g3 (fun k hk => .inr (by have := HS4.out.1; omega))
      have hr7 : (World.setCell w7 ⟨w5.heap.size, 0, none⟩ (.slice a7 m7 c7)).heap[w.heap.size + 1]? = some (.cells #[.slice none 0 0, .slice none 0 0] TD (0, 0)) := Fp.heap g3 (Fp.heap hW7.fp K6.out.now.2.2.2 (fun e => by have := HS4.out.1; omega)) (fun e => by have := HS4.out.1; omega)
      obtain ⟨x0, x1⟩ := boxP2 hW7.inv.wk.blk
      have x2 := frozen_at hW7.inv.wk.blk 0
      obtain ⟨t0, t1⟩ := boxP2 g1.blk
      have K9 := Lib.hid (And.intro hf7 hr7)
      have HF := Lib.hid (g1.cl.twoD hr7 (.slice a7 m7 c7) (.slice d5 m e5))
      clear hW7 ho7 g1 g3 hf7 hr7 u0 u1
      obtain ⟨r0, r1, z0, z2, y1, z1, hz, hzf⟩ := two_set (K9.out.2) (.slice a7 m7 c7) (.slice d5 m e5)
      have HZ := Lib.hid (And.intro hz ((K9.out.1).trans hzf (fun j hj => .inr (by have hj : j = w.heap.size + 1 := hj; omega))))
      clear hz hzf
      go_wp2_with fail
      generalize (World.setCell (World.setCell (World.setCell w7 _ _) _ _) _ _) = wz at *
      obtain ⟨s0, s1⟩ := boxP2 HZ.out.1
      refine bodyPost_ret (v := .tuple #[.agg #[.slice a7 m7 c7, .slice d5 m e5], .int .i64 0]) (by simp [results, Try.results11, go_sem, s0, s1]) rfl ?_
      rw [show D = (⟨d.ws.filter (fun x => !hit s k x), d.ss⟩, 0) from by rw [HD.out]; simp]
      have hns := HF.out.ownW.ns
      rw [List.take_length] at hns
      exact ⟨⟨_, _, rfl, hns, ⟨L, HWK.out.2, HF.out.ownV.ns, fun y hy => (HF.out.ownE y hy).ns⟩⟩, HZ.out.2⟩
end Go.Proofs.Ytjdpbieifcjmiaa
