/- Add (gen_ys.py) -/
import Derived.Test.YtjdpbieifcjmiaaYr
import Derived.Test.YtjdpbieifcjmiaaYg
namespace Go.Proofs.Ytjdpbieifcjmiaa
set_option maxRecDepth 20000
set_option linter.unusedVariables false
set_option linter.unusedSimpArgs false
open Go.RowKit Pm


/-- What a call on a Watched answers. -/
structure RetW (d : Wd) (err : Int) (w : World) (e : Ending) (w' : World) : Prop where
  ex : ∃ vw vs, e = .returned (.tuple #[.agg #[vw, vs], .int .i64 err]) ∧ NsW w' vw d.ws ∧ Ses w' vs d.ss
  fp : Fp Non w w'
theorem two_set {w : World} {R : Nat} {a b : Value} (h : w.heap[R]? = some (.cells #[a, b] TD (0, 0))) (v0 v1 : Value) : w.cell? ⟨R, 0, none⟩ = some a ∧ w.cell? ⟨R, 1, none⟩ = some b ∧ w.frozen? ⟨R, 0, none⟩ = false ∧ w.frozen? ⟨R, 1, none⟩ = false ∧ (w.setCell ⟨R, 0, none⟩ v0).cell? ⟨R, 1, none⟩ = some b ∧ (w.setCell ⟨R, 0, none⟩ v0).frozen? ⟨R, 1, none⟩ = false ∧ ((w.setCell ⟨R, 0, none⟩ v0).setCell ⟨R, 1, none⟩ v1).heap[R]? = some (.cells #[v0, v1] TD (0, 0)) ∧ Fp (fun k => k = R) w ((w.setCell ⟨R, 0, none⟩ v0).setCell ⟨R, 1, none⟩ v1) := by
  have h1 := heap_setCell_same w R 0 _ TD v0 h
  exact ⟨(boxP2 h).1, (boxP2 h).2, frozen_at h 0, frozen_at h 1, (boxP2 h1).2, frozen_at h1 1, heap_setCell_same _ R 1 _ TD v1 h1, (fp_cell w R 0 v0).same (fp_cell _ R 1 v1)⟩
theorem opl_put {ss : List Se} (h : ss.Pairwise (fun a b => a.num < b.num)) (n : Int) : opl ss n = putS ss (seS ss n) := by
  have h1 := opl_set h (seS ss n)
  rw [seS_num] at h1
  have h2 := opl_get h n
  rw [← h1, ← h2, List.set_getElem_self]
/-- Watches, one more behind them. -/
theorem Wk.app {lo N : Nat} {vw vs v' : Value} {ws ws' : List Wt} {L : List Sv} {w w' : World} (h : Wk lo N vw vs ws L w) (c : ChRW lo w vw ws' v' w') :
    Wk lo N v' vs ws' L (w'.setCell ⟨N, 0, none⟩ v') ∧ w'.heap[N]? = some (.cells #[vw, vs] TD (0, 0)) ∧ Fp (fun k => lo ≤ k) w (w'.setCell ⟨N, 0, none⟩ v') := by
  have hb := c.fp.heap h.blk (fun e => by obtain ⟨cs, ht⟩ := h.cl.ownW.type e; exact type_ne ht h.blk (by decide))
  have hf := fp_cell w' N 0 v'
  have hne : ∀ {cs : Array Value} {T : TypeId} {j : Nat}, w'.heap[j]? = some (.cells cs T (0, 0)) → T ≠ TD → j ≠ N := fun ht hT e => by
    subst e
    exact type_ne ht hb hT
  refine ⟨⟨heap_setCell_same w' N 0 _ TD v' hb, h.low, ⟨?_, ?_, fun x hx => ?_, h.cl.apart⟩⟩, hb, ?_⟩
  · exact c.own.keep hf (fun k hk e => by obtain ⟨cs, ht⟩ := c.own.type hk; exact hne ht (by decide) e)
  · have he := h.cl.ownV.keep c.fp (fun k hk e => by
      obtain ⟨cs, ht⟩ := h.cl.ownV.type hk
      obtain ⟨cs', ht'⟩ := h.cl.ownW.type e
      exact type_ne ht ht' (by decide))
    exact he.keep hf (fun k hk e => by obtain ⟨cs, ht⟩ := he.type hk; exact hne ht (by decide) e)
  · have he := (h.cl.ownE x hx).keep c.fp (fun k hk e => by
      obtain ⟨cs, ht⟩ := (h.cl.ownE x hx).type hk
      obtain ⟨cs', ht'⟩ := h.cl.ownW.type e
      exact type_ne ht ht' (by decide))
    exact he.keep hf (fun k hk e => by obtain ⟨cs, ht⟩ := he.type hk; exact hne ht (by decide) e)
  · exact (c.fp.mono (T := fun k => lo ≤ k) (fun k hk => h.cl.ownW.low k hk)).trans hf (fun k hk => .inl (by have hk : k = N := hk; rw [hk]; exact h.low))

set_option maxHeartbeats 8000000 in
theorem Add_w (v : Value) (d : Wd) (x : Wt) (w : World) (hv : WdR w v d) (hz : SzD d) (hxp : x.p.length ≤ 1000000) :
    Calls Try.prog 9 #[v, wtV x] w (RetW (addM d x).1 (addM d x).2 w) := by
  obtain ⟨vw, vs, rfl, hw, hs⟩ := hv.ex
  have hri := fun W (f : Fp Non w W) => Right_w _ d W (hv.non f) hz
  have hcl := fun W (f : Fp Non w W) => clone_c _ d W (hv.non f) hz
  have hcon := fun W (f : Fp Non w W) (q : Wt → Bool) (fv : Value) (hq : PdW Non W fv q) => ContainsW_c vw fv d.ws q W (hw.non f) hz.wp hq (by have := hz.w; omega)
  have hpla := fun W (f : Fp Non w W) (ha : d.ss.Pairwise (fun a b => a.num < b.num)) (k : Int) => place_c vs d.ss k W (hs.non f) ha (by have := hz.s; omega)
  obtain ⟨aw, cw, rfl⟩ := hw.shape
  obtain ⟨at_, cs, rfl⟩ := hs.shape
  have hnb := hz.w
  have hmb := hz.s
  obtain ⟨br, hbr⟩ : ∃ b, rightW d = b := ⟨_, rfl⟩
  rw [hbr] at hri
  obtain ⟨n, hn⟩ : ∃ n, n = d.ws.length := ⟨_, rfl⟩
  obtain ⟨m, hm⟩ : ∃ n, n = d.ss.length := ⟨_, rfl⟩
  rw [← hn] at hw hnb hri hcl hcon ⊢
  rw [← hm] at hs hmb hri hcl hpla ⊢
  have HH := Lib.hid (And.intro hn (And.intro hm (And.intro hbr (And.intro hz (And.intro hw hs)))))
  have HRI := Lib.hid hri
  have HCL := Lib.hid hcl
  have HCON := Lib.hid hcon
  have HPLA := Lib.hid hpla
  have hrw := fun W => rightWatch_c x W hxp
  have hopen := fun lo N vw vs ws L W (h : Wk lo N vw vs ws L W) (ha : (L.map Sv.s).Pairwise (fun a b => a.num < b.num)) (hl : L.length ≤ 39000) (hlo : lo ≤ W.heap.size) => open_c h x.s ha hl hlo
  have hadd : addM d x = if br = true ∧ rWt x = true then if d.ws.any (hit x.s x.n) then (d, 61) else if n = 64 then (d, 2) else (⟨d.ws ++ [x], putS d.ss (seS d.ss x.s)⟩, 0) else (⟨[], []⟩, 1) := by unfold addM; rw [hbr, ← hn]
  obtain ⟨D, hD⟩ : ∃ D, D = addM d x := ⟨_, rfl⟩
  rw [← hD]
  rw [hadd] at hD
  have f0 := ((fp_alloc w (.cells #[.slice aw n cw, .slice at_ m cs] TD)).then (fp_alloc _ (.cells #[.int .i64 x.s, .int .i64 x.n, .string (B x.p), .bool x.d] TW))).then (fp_alloc _ (.cells #[.slice none 0 0, .slice none 0 0] TD))
  obtain ⟨xs, xn, xp, xd⟩ := x
  unfold wtV strV at hrw ⊢
  simp only at hrw hopen f0 ⊢
  obtain ⟨b1, hb1⟩ : ∃ b, rWt ⟨xs, xn, xp, xd⟩ = b := ⟨_, rfl⟩
  obtain ⟨b2, hb2⟩ : ∃ b, d.ws.any (hit xs xn) = b := ⟨_, rfl⟩
  rw [hb1] at hrw hD
  rw [hb2] at hD
  have HD := Lib.hid hD
  have HRW := Lib.hid hrw
  have HOP := Lib.hid hopen
  have HB := Lib.hid (And.intro hb1 hb2)
  have r0 := (((fp_alloc (w.alloc (.cells #[.slice aw n cw, .slice at_ m cs] TD)) (.cells #[.int .i64 xs, .int .i64 xn, .string (B xp), .bool xd] TW)).then (fp_alloc _ (.cells #[.slice none 0 0, .slice none 0 0] TD)))).heap (heap_alloc_new w (.cells #[.slice aw n cw, .slice at_ m cs] TD)) (fun h => h)
  have r1 := (fp_alloc ((w.alloc (.cells #[.slice aw n cw, .slice at_ m cs] TD)).alloc (.cells #[.int .i64 xs, .int .i64 xn, .string (B xp), .bool xd] TW)) (.cells #[.slice none 0 0, .slice none 0 0] TD)).heap (heap_alloc_new (w.alloc (.cells #[.slice aw n cw, .slice at_ m cs] TD)) (.cells #[.int .i64 xs, .int .i64 xn, .string (B xp), .bool xd] TW)) (fun h => h)
  have r2 := heap_alloc_new ((w.alloc (.cells #[.slice aw n cw, .slice at_ m cs] TD)).alloc (.cells #[.int .i64 xs, .int .i64 xn, .string (B xp), .bool xd] TW)) (.cells #[.slice none 0 0, .slice none 0 0] TD)
  have sz1 : (w.alloc (.cells #[.slice aw n cw, .slice at_ m cs] TD)).heap.size = w.heap.size + 1 := by simp
  have sz2 : ((w.alloc (.cells #[.slice aw n cw, .slice at_ m cs] TD)).alloc (.cells #[.int .i64 xs, .int .i64 xn, .string (B xp), .bool xd] TW)).heap.size = w.heap.size + 1 + 1 := by simp
  rw [sz1] at r1
  rw [sz2] at r2
  have K0 := Lib.hid (Kp.and (Kp.fp f0) (Kp.and (Kp.row r0) (Kp.and (Kp.row r1) (Kp.row r2))))
  have HSZ := Lib.hid (show (((w.alloc (.cells #[.slice aw n cw, .slice at_ m cs] TD)).alloc (.cells #[.int .i64 xs, .int .i64 xn, .string (B xp), .bool xd] TW)).alloc (.cells #[.slice none 0 0, .slice none 0 0] TD)).heap.size = w.heap.size + 3 by simp)
  clear hD hv hz hw hs hri hcl hcon hpla hrw hopen hn hm hbr hb1 hb2 hadd f0 r0 r1 r2 sz1 sz2 hxp
  obtain ⟨p0, p1⟩ := boxP2 K0.out.now.2.1
  go_enter Try.func9, Try.ntmps9
  go_wp2_with fail
  generalize hW0 : (((w.alloc (.cells #[.slice aw n cw, .slice at_ m cs] TD)).alloc (.cells #[.int .i64 xs, .int .i64 xn, .string (B xp), .bool xd] TW)).alloc (.cells #[.slice none 0 0, .slice none 0 0] TD)) = W0 at *
  clear hW0
  refine (HRI.out _ K0.out.now.1).mono ?_
  rintro e w1 ⟨rfl, hf⟩
  have K1 := Lib.hid (K0.out.later hf)
  have HS1 := Lib.hid (show w.heap.size + 3 ≤ w1.heap.size by have := HSZ.out; have := hf.size; omega)
  clear hf p0 p1
  cases br with
  | false =>
    obtain ⟨r0, r1, z0, z2, y1, z1, hz, hzf⟩ := two_set (K1.out.now.2.2.2) (.slice none 0 0) (.slice none 0 0)
    have HZ := Lib.hid (And.intro hz ((K1.out.now.1).trans hzf (fun j hj => .inr (by have hj : j = w.heap.size + 1 + 1 := hj; omega))))
    clear hz hzf
    go_wp2_with fail
    generalize (World.setCell (World.setCell w1 _ _) _ _) = wz at *
    obtain ⟨s0, s1⟩ := boxP2 HZ.out.1
    refine bodyPost_ret (v := .tuple #[.agg #[.slice none 0 0, .slice none 0 0], .int .i64 1]) (by simp [results, Try.results9, go_sem, s0, s1]) rfl ?_
    rw [show D = (⟨[], []⟩, 1) from by rw [HD.out]; simp]
    exact ⟨⟨_, _, rfl, NsW.nil _, Ses.nil _⟩, HZ.out.2⟩
  | true =>
    obtain ⟨x0, x1, x2, x3⟩ := boxP4 K1.out.now.2.2.1
    go_wp2_with fail
    refine (HRW.out _).mono ?_
    rintro e w2 ⟨rfl, hf⟩
    have K2 := Lib.hid (K1.out.later hf)
    have HS2 := Lib.hid (show w.heap.size + 3 ≤ w2.heap.size by have := HS1.out; have := hf.size; omega)
    clear hf x0 x1 x2 x3
    cases b1 with
    | false =>
      obtain ⟨r0, r1, z0, z2, y1, z1, hz, hzf⟩ := two_set (K2.out.now.2.2.2) (.slice none 0 0) (.slice none 0 0)
      have HZ := Lib.hid (And.intro hz ((K2.out.now.1).trans hzf (fun j hj => .inr (by have hj : j = w.heap.size + 1 + 1 := hj; omega))))
      clear hz hzf
      go_wp2_with fail
      generalize (World.setCell (World.setCell w2 _ _) _ _) = wz at *
      obtain ⟨s0, s1⟩ := boxP2 HZ.out.1
      refine bodyPost_ret (v := .tuple #[.agg #[.slice none 0 0, .slice none 0 0], .int .i64 1]) (by simp [results, Try.results9, go_sem, s0, s1]) rfl ?_
      rw [show D = (⟨[], []⟩, 1) from by rw [HD.out]; simp]
      exact ⟨⟨_, _, rfl, NsW.nil _, Ses.nil _⟩, HZ.out.2⟩
    | true =>
      have Hq := Lib.hid (fun W (f : Fp Non w2 W) => And.intro (boxP2 (K2.out W f).2.1).1 (And.intro (boxP4 (K2.out W f).2.2.1).1 (boxP4 (K2.out W f).2.2.1).2.1))
      have HWD := Lib.hid (Fp.refl Non w2).drew
      go_wp2_with fail
      refine wp_region_held_drew (S := (fun W => W.cell? ⟨w.heap.size, 0, none⟩ = some (.slice aw n cw) ∧ W.cell? ⟨w.heap.size + 1, 0, none⟩ = some (.int .i64 xs) ∧ W.cell? ⟨w.heap.size + 1, 1, none⟩ = some (.int .i64 xn))) (by kernel_rfl) ?_ (fun hHeld => ?_)
      · exact Hq.out _ HWD.out
      refine tk 0 hHeld ?_
      refine tk 1 hHeld ?_
      refine tk 2 hHeld ?_
      refine tk 3 hHeld ?_
      refine tk 4 hHeld ?_
      refine tk 5 hHeld ?_
      refine rY 6 (fun K hK => ?_)
      go_simp
      refine (numbered_c xs xn _).mono ?_
      rintro e w3 hN
      obtain ⟨h1, h2, rfl, hh1, hh2, hh3, hh4⟩ := hN.ex
      have F3 := Lib.hid (HWD.out.then hN.fp)
      have HP := Lib.hid (hit_pd w3 h1 h2 xs xn hh3 hh4 Non (fun h => h) (fun h => h))
      clear hN hh1 hh2 hh3 hh4
      go_wp2_with fail
      refine hK.out _ _ (Hq.out _ F3.out) (fun hHeld => ?_)
      clear hK K
      try simp only [zP, zN, zS, zT, zU]
      refine rY 7 (fun K hK => ?_)
      go_simp
      refine (HCON.out _ (K2.out _ F3.out).1 _ _ HP.out).mono ?_
      rintro e w4 ⟨rfl, hf⟩
      have F4 := Lib.hid (F3.out.then hf)
      rw [HB.out.2]
      clear hf
      go_wp2_with fail
      refine hK.out _ _ (Hq.out _ F4.out) (fun hHeld => ?_)
      clear hK K
      try simp only [zP, zN, zS, zT, zU]
      refine yD ?_
      have K4 := Lib.hid (K2.out.later F4.out)
      have HS4 := Lib.hid (show w.heap.size + 3 ≤ w4.heap.size by have := HS2.out; have := F4.out.size; omega)
      obtain ⟨p0, p1⟩ := boxP2 K4.out.now.2.1
      cases b2 with
      | true =>
        obtain ⟨r0, r1, z0, z2, y1, z1, hz, hzf⟩ := two_set (K4.out.now.2.2.2) (.slice aw n cw) (.slice at_ m cs)
        have HZ := Lib.hid (And.intro hz ((K4.out.now.1).trans hzf (fun j hj => .inr (by have hj : j = w.heap.size + 1 + 1 := hj; omega))))
        clear hz hzf
        go_wp2_with fail
        generalize (World.setCell (World.setCell w4 _ _) _ _) = wz at *
        obtain ⟨s0, s1⟩ := boxP2 HZ.out.1
        refine bodyPost_ret (v := .tuple #[.agg #[.slice aw n cw, .slice at_ m cs], .int .i64 61]) (by simp [results, Try.results9, go_sem, s0, s1]) rfl ?_
        rw [show D = (d, 61) from by rw [HD.out]; simp]
        exact ⟨⟨_, _, rfl, HH.out.2.2.2.2.1.non HZ.out.2, HH.out.2.2.2.2.2.non HZ.out.2⟩, HZ.out.2⟩
      | false =>
        by_cases h64 : n = 64
        · subst h64
          obtain ⟨r0, r1, z0, z2, y1, z1, hz, hzf⟩ := two_set (K4.out.now.2.2.2) (.slice aw 64 cw) (.slice at_ m cs)
          have HZ := Lib.hid (And.intro hz ((K4.out.now.1).trans hzf (fun j hj => .inr (by have hj : j = w.heap.size + 1 + 1 := hj; omega))))
          clear hz hzf
          go_wp2_with fail
          generalize (World.setCell (World.setCell w4 _ _) _ _) = wz at *
          obtain ⟨s0, s1⟩ := boxP2 HZ.out.1
          refine bodyPost_ret (v := .tuple #[.agg #[.slice aw 64 cw, .slice at_ m cs], .int .i64 2]) (by simp [results, Try.results9, go_sem, s0, s1]) rfl ?_
          rw [show D = (d, 2) from by rw [HD.out]; simp]
          exact ⟨⟨_, _, rfl, HH.out.2.2.2.2.1.non HZ.out.2, HH.out.2.2.2.2.2.non HZ.out.2⟩, HZ.out.2⟩
        · have q1 : ((n : Int) == 64) = false := by rw [beq_eq_false_iff_ne]; omega
          have q2 : ((n : Int) = 64) = False := eq_false (by omega)
          have hD5 : D = (⟨d.ws ++ [⟨xs, xn, xp, xd⟩], putS d.ss (seS d.ss xs)⟩, 0) := by rw [HD.out]; simp [h64]
          have HD5 := Lib.hid hD5
          clear hD5
          go_wp2_with fail
          refine (HCL.out _ K4.out.now.1).mono ?_
          rintro e w5 hC
          obtain ⟨vw5, vs5, L, rfl, hc1, hc2⟩ := hC.ex
          have K5 := Lib.hid (K4.out.later hC.fp)
          obtain ⟨a5, c5, rfl⟩ : ∃ a c, vw5 = .slice a n c := by rw [HH.out.1]; exact hc1.ownW.ns.shape
          obtain ⟨d5, e5, rfl⟩ : ∃ a c, vs5 = .slice a m c := by rw [HH.out.2.1, ← hc2, List.length_map]; exact hc1.ownV.ns.shape
          have hnf := fp_alloc w5 (.cells #[.slice a5 n c5, .slice d5 m e5] TD)
          have hwk : Wk w4.heap.size w5.heap.size (.slice a5 n c5) (.slice d5 m e5) d.ws L (w5.alloc (.cells #[.slice a5 n c5, .slice d5 m e5] TD)) := ⟨heap_alloc_new w5 _, hC.fp.size, hc1.non hnf⟩
          have K6 := Lib.hid (Kp.and (Kp.fp hnf) (K5.out.later hnf))
          have HWK := Lib.hid (And.intro hwk hc2)
          have HS6 := Lib.hid (show w4.heap.size ≤ (w5.alloc (.cells #[.slice a5 n c5, .slice d5 m e5] TD)).heap.size from Nat.le_trans hC.fp.size hnf.size)
          obtain ⟨x0, x1, x2, x3⟩ := boxP4 K6.out.now.2.2.2.1
          clear hC hc1 hc2 hnf hwk p0 p1
          obtain ⟨Wn, hWn⟩ : ∃ Wn, Wn = w5.alloc (.cells #[.slice a5 n c5, .slice d5 m e5] TD) := ⟨_, rfl⟩
          have hap := fun ty => app_wt (w5.alloc (.cells #[.slice a5 n c5, .slice d5 m e5] TD)) w4.heap.size (.slice a5 n c5) d.ws ⟨xs, xn, xp, xd⟩ ty HWK.out.1.cl.ownW (by have := HH.out.1; omega) HS6.out
          have hsz : (w5.alloc (.cells #[.slice a5 n c5, .slice d5 m e5] TD)).heap.size = w5.heap.size + 1 := by simp
          rw [hsz] at hap
          have HAP := Lib.hid hap
          clear hap hsz hWn Wn
          go_wp2_with (at_builtin; go_must (refine wpList_app rfl _ _ _ _ rfl _ _ rfl rfl _ (HAP.out _) ?_))
          intro v7 w7 hR7
          have hwk7 := HWK.out.1.non (fp_alloc _ (.cells #[.int .i64 xs, .int .i64 xn, .string (B xp), .bool xd] TW))
          obtain ⟨g1, g2, g3⟩ := hwk7.app hR7
          have K7 := Lib.hid (K6.out.later (fp_alloc _ (.cells #[.int .i64 xs, .int .i64 xn, .string (B xp), .bool xd] TW)))
          obtain ⟨a7, c7, rfl⟩ : ∃ a c, v7 = .slice a (n + 1) c := by have := hR7.own.ns.shape; rw [List.length_append, ← HH.out.1] at this; exact this
          have HG := Lib.hid (And.intro g1 (And.intro g3 (K7.out.now.2.1)))
          have u0 := (boxP2 g2).1
          have u2 := frozen_at g2 0
          have hx7 : (World.setCell w7 ⟨w5.heap.size, 0, none⟩ (.slice a7 (n + 1) c7)).heap[w.heap.size + 1]? = some (.cells #[.int .i64 xs, .int .i64 xn, .string (B xp), .bool xd] TW (0, 0)) := Fp.heap g3 K7.out.now.2.2.2.1 (fun e => by have := HS4.out; omega)
          have hr7 : (World.setCell w7 ⟨w5.heap.size, 0, none⟩ (.slice a7 (n + 1) c7)).heap[w.heap.size + 1 + 1]? = some (.cells #[.slice none 0 0, .slice none 0 0] TD (0, 0)) := Fp.heap g3 K7.out.now.2.2.2.2 (fun e => by have := HS4.out; omega)
          obtain ⟨y0, y1, y2, y3⟩ := boxP4 hx7
          have HX7 := Lib.hid (And.intro hx7 hr7)
          clear hR7 hwk7 g1 g2 g3 x0 x1 x2 x3 hx7 hr7
          go_wp2_with fail
          generalize (World.setCell w7 _ _) = w8 at *
          have hrs := ((right_iff d).1 HH.out.2.2.1).2.2
          refine (HOP.out _ _ _ _ _ L w8 HG.out.1 (by rw [HWK.out.2]; exact hrs.2) (by have := congrArg List.length HWK.out.2; rw [List.length_map, ← HH.out.2.1] at this; omega) (Nat.le_trans HS6.out (Nat.le_trans (fp_alloc _ (.cells #[.int .i64 xs, .int .i64 xn, .string (B xp), .bool xd] TW)).size HG.out.2.1.size))).mono ?_
          rintro e w9 hO
          obtain ⟨G, m9, cap9, L9, rfl, hk9, hL9⟩ := hO.ex
          have hf9 : Fp Non w w9 := (HG.out.2.2.trans HG.out.2.1 (fun k hk => .inr (by have := HS4.out; omega))).trans hO.fp (fun k hk => .inr (by have := hk.1; have := HS4.out; omega))
          have hr9 : w9.heap[w.heap.size + 1 + 1]? = some (.cells #[.slice none 0 0, .slice none 0 0] TD (0, 0)) := Fp.heap hO.fp HX7.out.2 (fun hk => by have := hk.1; have := HS4.out; omega)
          have K9 := Lib.hid (And.intro hf9 hr9)
          obtain ⟨t0, t1⟩ := boxP2 hk9.blk
          have HF := Lib.hid (hk9.cl.twoD hr9 (.slice a7 (n + 1) c7) (.slice (some ⟨G, 0, none⟩) m9 cap9))
          have HL9 := Lib.hid (show L9.map Sv.s = putS d.ss (seS d.ss xs) by rw [hL9, HWK.out.2]; exact opl_put hrs.2 xs)
          clear hO hk9 hf9 hr9 hL9 hrs u0 u2 y0 y1 y2 y3
          obtain ⟨r0, r1, z0, z2, y1, z1, hz, hzf⟩ := two_set (K9.out.2) (.slice a7 (n + 1) c7) (.slice (some ⟨G, 0, none⟩) m9 cap9)
          have HZ := Lib.hid (And.intro hz ((K9.out.1).trans hzf (fun j hj => .inr (by have hj : j = w.heap.size + 1 + 1 := hj; omega))))
          clear hz hzf
          go_wp2_with fail
          generalize (World.setCell (World.setCell w9 _ _) _ _) = wz at *
          obtain ⟨s0, s1⟩ := boxP2 HZ.out.1
          refine bodyPost_ret (v := .tuple #[.agg #[.slice a7 (n + 1) c7, .slice (some ⟨G, 0, none⟩) m9 cap9], .int .i64 0]) (by simp [results, Try.results9, go_sem, s0, s1]) rfl ?_
          rw [HD5.out]
          exact ⟨⟨_, _, rfl, HF.out.ownW.ns, ⟨L9, HL9.out, HF.out.ownV.ns, fun y hy => (HF.out.ownE y hy).ns⟩⟩, HZ.out.2⟩
end Go.Proofs.Ytjdpbieifcjmiaa
