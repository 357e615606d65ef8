/- Take (gen_yv2.py) -/
import Derived.Test.YtjdpbieifcjmiaaYu
namespace Go.Proofs.Ytjdpbieifcjmiaa
set_option maxRecDepth 20000
set_option linter.unusedVariables false
set_option linter.unusedSimpArgs false
open Go.RowKit Pm


/-- What Take answers. -/
structure RetT (d : Wd) (es : List Ev) (err : Int) (w : World) (e : Ending) (w' : World) : Prop where
  ex : ∃ vw vs ve, e = .returned (.tuple #[.agg #[vw, vs], ve, .int .i64 err]) ∧ NsW w' vw d.ws ∧ Ses w' vs d.ss ∧ NsE w' ve es
  fp : Fp Non w w'
def takeO (d : Wd) (u : Int) : Option Se → Wd × List Ev × Int
  | none => (d, [], 62)
  | some s => (⟨d.ws, putS d.ss ⟨s.num, s.count, cutE u s.evs⟩⟩, cutE u s.evs, 0)
theorem takeM_eq (d : Wd) (k u : Int) : takeM d k u = if rightW d = true then takeO d u (getS d.ss k) else (⟨[], []⟩, [], 1) := by
  unfold takeM
  split
  · cases getS d.ss k <;> rfl
  · rfl
theorem opl_some {ss : List Se} {n : Int} (h : (getS ss n).isSome = true) : opl ss n = ss := by unfold opl; rw [if_pos h]
theorem Wk.put {lo N G n cap : Nat} {vw : Value} {ws : List Wt} {L : List Sv} {w w' : World} (h : Wk lo N vw (.slice (some ⟨G, 0, none⟩) n cap) ws L w) (i : Nat) (hi : i < L.length) (x : Sv) (hx : svC x = (svC L[i]).set 2 x.ev) (f : Fp (fun k => L[i].ev.ownBlock = some k) w w') (he : OwE lo w' x.ev x.s.evs) (hnew : ∀ k, x.ev.ownBlock = some k → L[i].ev.ownBlock = some k ∨ w.heap.size ≤ k) :
    Wk lo N vw (.slice (some ⟨G, 0, none⟩) n cap) ws (L.set i x) (w'.setCell ⟨G, i * 3 + 2, none⟩ x.ev) := by
  have hb := f.heap h.blk (fun e => by obtain ⟨cs, ht⟩ := (h.cl.ownE _ (List.getElem_mem hi)).type e; exact type_ne ht h.blk (by decide))
  refine ⟨(fp_cell w' G (i * 3 + 2) x.ev).heap hb (fun e => ?_), h.low, h.cl.put i hi x hx f he hnew⟩
  have e : N = G := e
  obtain ⟨cs, ht⟩ := h.cl.ownV.type (j := G) rfl
  subst e
  exact type_ne ht h.blk (by decide)
theorem Wk.cell2 {lo N G n cap : Nat} {vw : Value} {ws : List Wt} {L : List Sv} {w : World} (h : Wk lo N vw (.slice (some ⟨G, 0, none⟩) n cap) ws L w) (i : Nat) (hi : i < L.length) : w.cell? ⟨G, i * 3 + 2, none⟩ = some L[i].ev ∧ w.frozen? ⟨G, i * 3 + 2, none⟩ = false := by
  obtain ⟨h1, _, _⟩ := h.cl.nrV
  exact ⟨h1.cell i 2 hi (by omega), h1.frozen _⟩

set_option maxHeartbeats 8000000 in
theorem Take_w (v : Value) (d : Wd) (k u : Int) (w : World) (hv : WdR w v d) (hz : SzD d)  :
    Calls Try.prog 13 #[v, .int .i64 k, .int .i64 u] w (RetT (takeM d k u).1 (takeM d k u).2.1 (takeM d k u).2.2 w) := by
  obtain ⟨vw, vs, rfl, hw, hs⟩ := hv.ex
  have hri := fun W (f : Fp Non w W) => Right_w _ d W (hv.non f) hz
  have hcl := fun W (f : Fp Non w W) => clone_c _ d W (hv.non f) hz
  have hcon := fun W (f : Fp Non w W) (q : Wt → Bool) (fv : Value) (hq : PdW Non W fv q) => ContainsW_c vw fv d.ws q W (hw.non f) hz.wp hq (by have := hz.w; omega)
  have hpla := fun W (f : Fp Non w W) (ha : d.ss.Pairwise (fun a b => a.num < b.num)) (k : Int) => place_c vs d.ss k W (hs.non f) ha (by have := hz.s; omega)
  obtain ⟨aw, cw, rfl⟩ := hw.shape
  obtain ⟨at_, cs, rfl⟩ := hs.shape
  have hnb := hz.w
  have hmb := hz.s
  obtain ⟨br, hbr⟩ : ∃ b, rightW d = b := ⟨_, rfl⟩
  rw [hbr] at hri
  obtain ⟨n, hn⟩ : ∃ n, n = d.ws.length := ⟨_, rfl⟩
  obtain ⟨m, hm⟩ : ∃ n, n = d.ss.length := ⟨_, rfl⟩
  rw [← hn] at hw hnb hri hcl hcon ⊢
  rw [← hm] at hs hmb hri hcl hpla ⊢
  have HH := Lib.hid (And.intro hn (And.intro hm (And.intro hbr (And.intro hz (And.intro hw hs)))))
  have HRI := Lib.hid hri
  have HCL := Lib.hid hcl
  have HCON := Lib.hid hcon
  have HPLA := Lib.hid hpla
  have hadd := takeM_eq d k u
  rw [hbr] at hadd
  obtain ⟨D, hD⟩ : ∃ D, D = takeM d k u := ⟨_, rfl⟩
  rw [← hD]
  rw [hadd] at hD
  obtain ⟨og, hog⟩ : ∃ o, getS d.ss k = o := ⟨_, rfl⟩
  rw [hog] at hD
  have HD := Lib.hid hD
  have HB := Lib.hid hog
  have f0 := (Fp.then (Fp.then (fp_alloc w (.cells #[.slice aw n cw, .slice at_ m cs] TD)) (fp_alloc _ (.cells #[.int .i64 u] 2))) (fp_alloc _ (.cells #[.slice none 0 0, .slice none 0 0] TD)))
  have r0 := ((Fp.then (fp_alloc (World.alloc w (.cells #[.slice aw n cw, .slice at_ m cs] TD)) (.cells #[.int .i64 u] 2)) (fp_alloc _ (.cells #[.slice none 0 0, .slice none 0 0] TD)))).heap (heap_alloc_new w (.cells #[.slice aw n cw, .slice at_ m cs] TD)) (fun h => h)
  have r1 := ((fp_alloc (World.alloc (World.alloc w (.cells #[.slice aw n cw, .slice at_ m cs] TD)) (.cells #[.int .i64 u] 2)) (.cells #[.slice none 0 0, .slice none 0 0] TD))).heap (heap_alloc_new (World.alloc w (.cells #[.slice aw n cw, .slice at_ m cs] TD)) (.cells #[.int .i64 u] 2)) (fun h => h)
  have sz1 : ((World.alloc w (.cells #[.slice aw n cw, .slice at_ m cs] TD))).heap.size = w.heap.size + 1 := by simp
  rw [sz1] at r1
  have r2 := heap_alloc_new (World.alloc (World.alloc w (.cells #[.slice aw n cw, .slice at_ m cs] TD)) (.cells #[.int .i64 u] 2)) (.cells #[.slice none 0 0, .slice none 0 0] TD)
  have sz2 : ((World.alloc (World.alloc w (.cells #[.slice aw n cw, .slice at_ m cs] TD)) (.cells #[.int .i64 u] 2))).heap.size = w.heap.size + 1 + 1 := by simp
  rw [sz2] at r2
  have K0 := Lib.hid (Kp.and (Kp.fp f0) (Kp.and (Kp.row r0) (Kp.and (Kp.row r1) (Kp.row r2))))
  have HSZ := Lib.hid (show ((World.alloc (World.alloc (World.alloc w (.cells #[.slice aw n cw, .slice at_ m cs] TD)) (.cells #[.int .i64 u] 2)) (.cells #[.slice none 0 0, .slice none 0 0] TD))).heap.size = w.heap.size + 1 + 1 + 1 by simp)
  clear f0 r0 r1 r2 sz1 sz2
  clear hD hv hz hw hs hri hcl hcon hpla hn hm hbr hog hadd
  obtain ⟨p0, p1⟩ := boxP2 K0.out.now.2.1
  go_enter Try.func13, Try.ntmps13
  go_wp2_with fail
  generalize hW0 : (World.alloc (World.alloc (World.alloc w (.cells #[.slice aw n cw, .slice at_ m cs] TD)) (.cells #[.int .i64 u] 2)) (.cells #[.slice none 0 0, .slice none 0 0] TD)) = W0 at *
  clear hW0
  refine (HRI.out _ K0.out.now.1).mono ?_
  rintro e w1 ⟨rfl, hf⟩
  have K1 := Lib.hid (K0.out.later hf)
  have HS1 := Lib.hid (show w.heap.size + 1 + 1 + 1 ≤ w1.heap.size by have := HSZ.out; have := hf.size; omega)
  clear hf p0 p1
  cases br with
  | false =>
    obtain ⟨r0, r1, z0, z2, y1, z1, hz, hzf⟩ := two_set (K1.out.now.2.2.2) (.slice none 0 0) (.slice none 0 0)
    have HZ := Lib.hid (And.intro hz ((K1.out.now.1).trans hzf (fun j hj => .inr (by have hj : j = w.heap.size + 1 + 1 := hj; omega))))
    clear hz hzf
    go_wp2_with fail
    generalize (World.setCell (World.setCell w1 _ _) _ _) = wz at *
    obtain ⟨s0, s1⟩ := boxP2 HZ.out.1
    refine bodyPost_ret (v := .tuple #[.agg #[.slice none 0 0, .slice none 0 0], .slice none 0 0, .int .i64 1]) (by simp [results, Try.results13, go_sem, s0, s1]) rfl ?_
    rw [show D = (⟨[], []⟩, [], 1) from by rw [HD.out]; simp]
    exact ⟨⟨_, _, _, rfl, NsW.nil _, Ses.nil _, NsE.nil _⟩, HZ.out.2⟩
  | true =>
    have hrs := ((right_iff d).1 HH.out.2.2.1).2.2
    have HPL := Lib.hid (HPLA.out w1 K1.out.now.1 hrs.2 k)
    have HRS := Lib.hid hrs
    clear hrs
    obtain ⟨p0, p1⟩ := boxP2 K1.out.now.2.1
    go_wp2_with fail
    refine HPL.out.mono ?_
    rintro e w4 ⟨rfl, hf⟩
    have K4 := Lib.hid (K1.out.later hf)
    have HS4 := Lib.hid (show w.heap.size + 1 + 1 + 1 ≤ w4.heap.size from Nat.le_trans HS1.out hf.size)
    clear hf p0 p1
    rw [HB.out]
    obtain ⟨p0, p1⟩ := boxP2 K4.out.now.2.1
    cases og with
    | none =>
      simp only [Option.isSome_none]
      obtain ⟨r0, r1, z0, z2, y1, z1, hz, hzf⟩ := two_set (K4.out.now.2.2.2) (.slice aw n cw) (.slice at_ m cs)
      have HZ := Lib.hid (And.intro hz ((K4.out.now.1).trans hzf (fun j hj => .inr (by have hj : j = w.heap.size + 1 + 1 := hj; omega))))
      clear hz hzf
      go_wp2_with fail
      generalize (World.setCell (World.setCell w4 _ _) _ _) = wz at *
      obtain ⟨s0, s1⟩ := boxP2 HZ.out.1
      refine bodyPost_ret (v := .tuple #[.agg #[.slice aw n cw, .slice at_ m cs], .slice none 0 0, .int .i64 62]) (by simp [results, Try.results13, go_sem, s0, s1]) rfl ?_
      rw [show D = (d, [], 62) from by rw [HD.out]; simp [takeO]]
      exact ⟨⟨_, _, _, rfl, HH.out.2.2.2.2.1.non HZ.out.2, HH.out.2.2.2.2.2.non HZ.out.2, NsE.nil _⟩, HZ.out.2⟩
    | some s =>
      simp only [Option.isSome_some]
      go_wp2_with fail
      refine (HCL.out _ K4.out.now.1).mono ?_
      rintro e w5 hC
      obtain ⟨vw5, vs5, L, rfl, hc1, hc2⟩ := hC.ex
      have K5 := Lib.hid (K4.out.later hC.fp)
      obtain ⟨a5, c5, rfl⟩ : ∃ a c, vw5 = .slice a n c := by rw [HH.out.1]; exact hc1.ownW.ns.shape
      obtain ⟨d5, e5, rfl⟩ : ∃ a c, vs5 = .slice a m c := by rw [HH.out.2.1, ← hc2, List.length_map]; exact hc1.ownV.ns.shape
      have hnf := fp_alloc w5 (.cells #[.slice a5 n c5, .slice d5 m e5] TD)
      have hwk : Wk w4.heap.size w5.heap.size (.slice a5 n c5) (.slice d5 m e5) d.ws L (w5.alloc (.cells #[.slice a5 n c5, .slice d5 m e5] TD)) := ⟨heap_alloc_new w5 _, hC.fp.size, hc1.non hnf⟩
      have K6 := Lib.hid (Kp.and (Kp.fp hnf) (K5.out.later hnf))
      have HWK := Lib.hid (And.intro hwk hc2)
      have HS6 := Lib.hid (show w4.heap.size ≤ (w5.alloc (.cells #[.slice a5 n c5, .slice d5 m e5] TD)).heap.size from Nat.le_trans hC.fp.size hnf.size)
      have hsn : s.num = k := (getS_some HB.out).2
      have hlt := opl_lt HRS.out.2 k
      have hget := opl_get HRS.out.2 k
      have hse : seS d.ss k = s := by unfold seS; rw [HB.out]; rfl
      have hset := opl_set HRS.out.2 ⟨s.num, s.count, cutE u s.evs⟩
      rw [show (⟨s.num, s.count, cutE u s.evs⟩ : Se).num = k from hsn] at hset
      simp only [opl_some (show (getS d.ss k).isSome = true by rw [HB.out]; rfl)] at hlt hget hset
      rw [hse] at hget
      obtain ⟨at3, hat⟩ : ∃ a, a = plS d.ss k := ⟨_, rfl⟩
      simp only [← hat] at hlt hget hset
      have hatL : at3 < L.length := by have := congrArg List.length hc2; rw [List.length_map] at this; omega
      have hLs : L[at3].s = s := by rw [← hget]; simp only [← hc2, List.getElem_map]
      have hatm : at3 < m := by rw [HH.out.2.1]; exact hlt
      rw [← hat]
      obtain ⟨G, rfl⟩ : ∃ G, d5 = some ⟨G, 0, none⟩ := by
        rcases hwk.cl.ownV.ways with ⟨_, e⟩ | ⟨G, cap, e, _⟩
        · subst e; simp at hatL
        · injection e with e1; exact ⟨G, e1⟩
      obtain ⟨e0, e1⟩ := hwk.cell2 at3 hatL
      have hE := hwk.cl.ownE _ (List.getElem_mem hatL)
      obtain ⟨b0, b1⟩ := boxP2 hwk.blk
      have hub := boxP1 K6.out.now.2.2.2.1
      have hwe := withoutE_c L[at3].ev _ L[at3].s.evs _ (w5.alloc (.cells #[.slice a5 n c5, .slice (some ⟨G, 0, none⟩) m e5] TD)) hE.ns (take_pd _ _ u hub) (by rw [hLs]; exact (HH.out.2.2.2.1.sp s (getS_some HB.out).1).1)
      rw [cutE_eq] at hwe
      have hput := fun v' w' (h : OwRE (w5.alloc (.cells #[.slice a5 n c5, .slice (some ⟨G, 0, none⟩) m e5] TD)) (cutE u L[at3].s.evs) v' w') => h
      have q1 : (at3 < m) = True := eq_true hatm
      have q2 : ((at3 : Int) < (m : Int)) = True := eq_true (by omega)
      obtain ⟨x, hx⟩ : ∃ x, x = L[at3] := ⟨_, rfl⟩
      rw [← hx] at e0 hwe hLs
      obtain ⟨xs, xa, xc⟩ := x
      simp only at hLs
      subst hLs
      unfold Sv.ev at e0 hwe
      simp only at e0 hwe
      obtain ⟨xl, hxl⟩ : ∃ n, n = xs.evs.length := ⟨_, rfl⟩
      rw [← hxl] at e0 hwe
      have HSN := Lib.hid hsn
      have HWE := Lib.hid hwe
      have HP := Lib.hid (And.intro hset (And.intro hx (And.intro hatL (And.intro hxl hat))))
      have hmb2 : m ≤ 30000 := hmb
      clear hC hc1 hc2 hnf hwk p0 p1 hsn hlt hget hse hset hwe hput hE hatm hx hxl hat hub
      go_wp2_with fail
      refine HWE.out.mono ?_
      rintro e w7 ⟨v7, rfl, hR7⟩
      obtain ⟨a7, c7, e7⟩ := hR7.own.ns.shape
      obtain ⟨m7, hm7⟩ : ∃ n, n = (cutE u xs.evs).length := ⟨_, rfl⟩
      rw [← hm7] at e7
      subst e7
      have hev : (⟨⟨xs.num, xs.count, cutE u xs.evs⟩, a7, c7⟩ : Sv).ev = .slice a7 m7 c7 := by unfold Sv.ev; simp only; rw [← hm7]
      have hwk8 := HWK.out.1.put (w' := w7) at3 HP.out.2.2.1 ⟨⟨xs.num, xs.count, cutE u xs.evs⟩, a7, c7⟩ (by rw [← HP.out.2.1]; rfl) hR7.fp.any (by rw [hev]; exact hR7.own.lower HS6.out) (fun j hj => .inr (by rw [hev] at hj; exact hR7.own.low j hj))
      rw [hev] at hwk8
      have hL8 : (L.set at3 ⟨⟨xs.num, xs.count, cutE u xs.evs⟩, a7, c7⟩).map Sv.s = putS d.ss ⟨xs.num, xs.count, cutE u xs.evs⟩ := by
        rw [set_map, HWK.out.2]
        show d.ss.set at3 ⟨xs.num, xs.count, cutE u xs.evs⟩ = putS d.ss ⟨xs.num, xs.count, cutE u xs.evs⟩
        rw [HSN.out]
        exact HP.out.1
      obtain ⟨y0, y1⟩ := hwk8.cell2 at3 (by rw [List.length_set]; exact HP.out.2.2.1)
      rw [List.getElem_set_self, hev] at y0
      have hE8 := hwk8.cl.ownE _ (List.getElem_mem (by rw [List.length_set]; exact HP.out.2.2.1 : at3 < (L.set at3 ⟨⟨xs.num, xs.count, cutE u xs.evs⟩, a7, c7⟩).length))
      rw [List.getElem_set_self, hev] at hE8
      have hG4 : w4.heap.size ≤ G := hwk8.cl.nrV.2.1
      have hf8 := fp_cell w7 G (at3 * 3 + 2) (.slice a7 m7 c7)
      have hF8 : Fp Non w (World.setCell w7 ⟨G, at3 * 3 + 2, none⟩ (.slice a7 m7 c7)) := (K6.out.now.2.1.then hR7.fp).trans hf8 (fun k hk => .inr (by have hk : k = G := hk; have := HS4.out; omega))
      have hr8 : (World.setCell w7 ⟨G, at3 * 3 + 2, none⟩ (.slice a7 m7 c7)).heap[w.heap.size + 1 + 1]? = some (.cells #[.slice none 0 0, .slice none 0 0] TD (0, 0)) := hf8.heap (hR7.fp.heap K6.out.now.2.2.2.2 (fun h => h)) (fun e => by have e : w.heap.size + 1 + 1 = G := e; have := HS4.out; omega)
      have z0 := hR7.fp.cell e0 (fun h => h)
      have z1 : w7.frozen? ⟨G, at3 * 3 + 2, none⟩ = false := by
        obtain ⟨hrr, _, _⟩ := (HWK.out.1.non hR7.fp).cl.nrV
        exact hrr.frozen _
      have HE8 := Lib.hid (show NsE (World.setCell w7 ⟨G, at3 * 3 + 2, none⟩ (.slice a7 m7 c7)) (.slice a7 m7 c7) (cutE u xs.evs) from hE8.ns)
      have hml : (cutE u xs.evs).length ≤ 30000 := by
        refine Nat.le_trans (List.length_filter_le _ _) ?_
        exact (HH.out.2.2.2.1.sp xs (getS_some HB.out).1).1
      have H8 := Lib.hid (And.intro hwk8 (And.intro hL8 (And.intro hF8 (And.intro hr8 (And.intro y0 hml)))))
      clear hR7 hev hwk8 hL8 hE8 hG4 hf8 hF8 hr8 hm7 e0 e1 b0 b1 y0 y1 hml
      go_wp2_with fail
      generalize (World.setCell w7 ⟨G, at3 * 3 + 2, none⟩ _) = w8 at *
      clear z0 z1
      have Hq := Lib.hid (fun W (f : Fp Non w8 W) => And.intro (boxP2 ((H8.out.1.non f).blk)).1 (And.intro (boxP2 ((H8.out.1.non f).blk)).2 (f.cell H8.out.2.2.2.2.1 (fun h => h))))
      have HWD := Lib.hid (Fp.refl Non w8).drew
      refine wp_region_held_drew (S := (fun W => W.cell? ⟨w5.heap.size, 0, none⟩ = some (.slice a5 n c5) ∧ W.cell? ⟨w5.heap.size, 1, none⟩ = some (.slice (some ⟨G, 0, none⟩) m e5) ∧ W.cell? ⟨G, at3 * 3 + 2, none⟩ = some (.slice a7 m7 c7))) (by kernel_rfl) ?_ (fun hHeld => ?_)
      · exact Hq.out _ HWD.out
      refine tk 0 hHeld ?_
      refine tk 1 hHeld ?_
      refine tk 2 hHeld ?_
      refine tk 3 hHeld ?_
      refine tk 4 hHeld ?_
      refine rY 5 (fun K hK => ?_)
      go_simp
      refine (Clone_ownE _ _ _ (HE8.out.non HWD.out) (Nat.le_trans H8.out.2.2.2.2.2 (by omega))).mono ?_
      rintro e w9 ⟨v9, rfl, hR9⟩
      have F9 := Lib.hid (And.intro (HWD.out.then hR9.fp) hR9.own)
      obtain ⟨a9, m9, c9, rfl⟩ : ∃ a m c, v9 = .slice a m c := by obtain ⟨a, c, e⟩ := hR9.own.ns.shape; exact ⟨a, _, c, e⟩
      clear hR9
      go_wp2_with fail
      refine hK.out _ _ (Hq.out _ F9.out.1) (fun hHeld => ?_)
      clear hK K
      try simp only [zP, zN, zS, zT, zU]
      have hk9 := H8.out.1.non F9.out.1
      have hr9 := F9.out.1.heap H8.out.2.2.2.1 (fun h => h)
      have hf9 := H8.out.2.2.1.then F9.out.1
      have HF := Lib.hid (hk9.cl.twoD hr9 (.slice a5 n c5) (.slice (some ⟨G, 0, none⟩) m e5))
      obtain ⟨r0, r1, z0, z2, y1, z1, hz, hzf⟩ := two_set hr9 (.slice a5 n c5) (.slice (some ⟨G, 0, none⟩) m e5)
      have hN4 := H8.out.1.low
      have HRW := Lib.hid (show ∀ W, W = (World.setCell (World.setCell w9 ⟨w.heap.size + 1 + 1, 0, none⟩ (.slice a5 n c5)) ⟨w.heap.size + 1 + 1, 1, none⟩ (.slice (some ⟨G, 0, none⟩) m e5)) → (W.cell? ⟨w5.heap.size, 0, none⟩ = some (.slice a5 n c5) ∧ W.cell? ⟨w5.heap.size, 1, none⟩ = some (.slice (some ⟨G, 0, none⟩) m e5) ∧ W.cell? ⟨G, at3 * 3 + 2, none⟩ = some (.slice a7 m7 c7)) from fun W hW => by
        subst hW
        have hq := Hq.out _ F9.out.1
        have hG4 : w4.heap.size ≤ G := H8.out.1.cl.nrV.2.1
        have hs4 := HS4.out
        refine ⟨hzf.cell hq.1 (fun e => ?_), hzf.cell hq.2.1 (fun e => ?_), hzf.cell hq.2.2 (fun e => ?_)⟩
        · have e : w5.heap.size = w.heap.size + 1 + 1 := e; omega
        · have e : w5.heap.size = w.heap.size + 1 + 1 := e; omega
        · have e : G = w.heap.size + 1 + 1 := e; omega)
      have HZ := Lib.hid (And.intro hz (And.intro (hf9.trans hzf (fun j hj => .inr (by have hj : j = w.heap.size + 1 + 1 := hj; omega))) (show NsE (World.setCell (World.setCell w9 ⟨w.heap.size + 1 + 1, 0, none⟩ (.slice a5 n c5)) ⟨w.heap.size + 1 + 1, 1, none⟩ (.slice (some ⟨G, 0, none⟩) m e5)) (.slice a9 m9 c9) (cutE u xs.evs) from (F9.out.2.keep hzf (fun j hj e => by obtain ⟨cs, ht⟩ := F9.out.2.type hj; have e : j = w.heap.size + 1 + 1 := e; subst e; exact type_ne ht hr9 (by decide))).ns)))
      clear hk9 hr9 hf9 hz hzf hN4
      refine rY 6 (fun K hK => ?_)
      go_simp
      refine hK.out _ _ (HRW.out _ rfl) (fun hHeld => ?_)
      clear hK K HRW
      try simp only [zP, zN, zS, zT, zU]
      refine tk 7 hHeld ?_
      refine tk 8 hHeld ?_
      refine yD ?_
      clear r0 r1 z0 z2 y1 z1 hHeld
      generalize (World.setCell (World.setCell w9 _ _) _ _) = wz at *
      obtain ⟨s0, s1⟩ := boxP2 HZ.out.1
      go_wp2_with fail
      refine bodyPost_ret (v := .tuple #[.agg #[.slice a5 n c5, .slice (some ⟨G, 0, none⟩) m e5], .slice a9 m9 c9, .int .i64 0]) (by simp [results, Try.results13, go_sem, s0, s1]) rfl ?_
      rw [show D = (⟨d.ws, putS d.ss ⟨xs.num, xs.count, cutE u xs.evs⟩⟩, cutE u xs.evs, 0) from by rw [HD.out]; simp [takeO]]
      exact ⟨⟨_, _, _, rfl, HF.out.ownW.ns, ⟨_, H8.out.2.1, HF.out.ownV.ns, fun y hy => (HF.out.ownE y hy).ns⟩, HZ.out.2.2⟩, HZ.out.2.1⟩
end Go.Proofs.Ytjdpbieifcjmiaa
