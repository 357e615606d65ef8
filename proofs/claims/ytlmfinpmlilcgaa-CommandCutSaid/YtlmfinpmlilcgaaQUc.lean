/- A text of this proof. -/
import Derived.Test.YtlmfinpmlilcgaaYC
import Derived.Test.YtlmfinpmlilcgaaZN
import Derived.Test.YtlmfinpmlilcgaaYE
import Derived.Test.YtlmfinpmlilcgaaYF
set_option linter.unusedVariables false
set_option linter.unusedSimpArgs false
/- CommandCut: the law's walk. (gen_uc.py) -/
namespace Go.Proofs.Ytlmfinpmlilcgaa
set_option maxRecDepth 20000
set_option linter.unusedVariables false
set_option linter.unusedSimpArgs false
open Go.RowKit Pm
theorem Sl.upto {w : World} {g o len cap : Nat} {l : Bs} (h : Sl w (.slice (some ⟨g, o, none⟩) len cap) l) (n : Nat) (hn : n ≤ l.length) : Sl w (.slice (some ⟨g, o, none⟩) n cap) (l.take n) := by
  obtain ⟨ao, cap', e, h1, h2, h3⟩ := h.ex
  injection e with e1 e2 e3
  subst e1 e2 e3
  have hl : (l.take n).length = n := by rw [List.length_take]; omega
  refine ⟨_, cap, by rw [hl], by rw [hl]; omega, h2, ?_⟩
  rcases h3 with ⟨h0, _⟩ | ⟨g2, o2, e, hg, hc⟩
  · cases h0
  · injection e with e
    injection e with e1 e2
    subst e1 e2
    refine .inr ⟨g, o, rfl, hg, fun j hj => ?_⟩
    rw [hc j (by omega)]
    simp

theorem few9 {c : Cd} (h : CdR c) : (encCd c).length ≤ 900000 := by
  have o := h.ok
  have p1 := h.ps.1; have p2 := h.st.1; have p3 := h.st.2.1; have p4 := h.gone.1
  have f1 := encF_len (f := encPe) (k := 600) c.ps (fun x hx => by have := ps_ok h.ps x hx; have := encPe_len this.1; omega)
  have f2 := encF_len (f := encNd) (k := 400) c.st.nodes (fun x hx => by have := nd_ok h.st.2.2 x hx; have := encNd_len this.1; omega)
  have f3 := encF_len (f := encTu) (k := 200) c.st.turns (fun x hx => by have := tu_ok h.st.2.2 x hx; have := encTu_len this.1; omega)
  have f4 := encF_len (f := encT) (k := 200) c.gone (fun x hx => by have := go_ok h.gone x hx; have := encT_len (s := x) (by unfold M; omega); omega)
  have e1 := enc_len c.ps.length (by unfold M; omega); have e2 := enc_len c.st.nodes.length (by unfold M; omega); have e3 := enc_len c.st.turns.length (by unfold M; omega); have e4 := enc_len c.gone.length (by unfold M; omega)
  have a1 := encI_len o.kind.1; have a2 := encI_len o.id; have a3 := encI_len o.txn; have a4 := encI_len o.age; have a5 := encI_len (fl_num c.yes); have a6 := encI_len o.ep; have a7 := encI_len o.to.1
  have a8 := encI_len o.ws; have a9 := encI_len o.wn; have b1 := encI_len (fl_num c.deep)
  have b2 := isPe_len h.pre; have b3 := isPe_len h.wp
  have b4 := encT_len (s := c.pre) (by unfold M; omega); have b5 := encT_len (s := c.wp) (by unfold M; omega)
  rw [encCd_len, ← encS_T, encS_len, encS_len, encS_len, encS_len]
  have m1 : c.ps.length * 600 ≤ 16 * 600 := Nat.mul_le_mul_right _ p1
  have m2 : c.st.nodes.length * 400 ≤ 512 * 400 := Nat.mul_le_mul_right _ p2
  have m3 : c.st.turns.length * 200 ≤ 512 * 200 := Nat.mul_le_mul_right _ p3
  have m4 : c.gone.length * 200 ≤ 32 * 200 := Nat.mul_le_mul_right _ p4
  omega


set_option maxHeartbeats 32000000 in
theorem CommandCut_c (v : Value) (c : Cd) (v2 : Value) (d : Cd) (q m : Int) (w : World) (hv : CdW w v c) (hln : Ln c) (hv2 : CdW w v2 d) (hln2 : Ln d) (hq : 0 ≤ q ∧ q ≤ 65535) (hm : 0 ≤ m ∧ m ≤ 255) :
    Calls Try.prog 4 #[v, v2, .int .u16 q, .int .u8 m] w fun e w' => e = .returned (.bool true) ∧ Fp Non w w' := by
  obtain ⟨vp, vn, vt, vg, rfl, f1, f2, f3, f4⟩ := hv.ex
  obtain ⟨xp, xn, xt, xg, rfl, g1, g2, g3, g4⟩ := hv2.ex
  have hfa := (fp_alloc w (.cells (cdL c vp vn vt vg) TCD)).then (fp_alloc (w.alloc (.cells (cdL c vp vn vt vg) TCD)) (.cells (cdL d xp xn xt xg) TCD))
  have hb0 := (fp_alloc (w.alloc (.cells (cdL c vp vn vt vg) TCD)) (.cells (cdL d xp xn xt xg) TCD)).heap (heap_alloc_new w (.cells (cdL c vp vn vt vg) TCD)) (fun h => h)
  have hb1 := heap_alloc_new (w.alloc (.cells (cdL c vp vn vt vg) TCD)) (.cells (cdL d xp xn xt xg) TCD)
  rw [show (w.alloc (.cells (cdL c vp vn vt vg) TCD)).heap.size = w.heap.size + 1 from by simp] at hb1
  have hGc := fun W (f : Fp Non w W) => cGreat_c _ c W (hv.non f) hln
  have hGd := fun W (f : Fp Non w W) => cGreat_c _ d W (hv2.non f) hln2
  have hPc := fun W (f : Fp Non w W) (h : Fw c) => Put_c _ c W (hv.non f) h
  have hPd := fun W (f : Fp Non w W) (h : Fw d) => Put_c _ d W (hv2.non f) h
  have hSa := fun W (f : Fp Non w W) (h : Fw c) (h' : Fw d) => cSame_c _ _ c d W (hv.non f) (hv2.non f) h h'
  obtain ⟨w0, hw0⟩ : ∃ w0, w0 = (w.alloc (.cells (cdL c vp vn vt vg) TCD)).alloc (.cells (cdL d xp xn xt xg) TCD) := ⟨_, rfl⟩
  rw [← hw0] at hfa hb0 hb1
  have HH := Lib.hid (head_c w0)
  have H0 := Lib.hid (And.intro hb0 (And.intro hb1 hfa))
  have HC := Lib.hid (And.intro hGc (And.intro hGd (And.intro hPc (And.intro hPd hSa))))
  have HQ := Lib.hid (And.intro hq hm)
  clear f1 f2 f3 f4 g1 g2 g3 g4 hv hv2 hln hln2 hfa hb0 hb1 hGc hGd hPc hPd hSa hq hm
  go_enter Try.func4, Try.ntmps4
  go_wp2_with fail
  try rw [show (31 : TypeId) = TCD from rfl]
  rw [← hw0]
  clear hw0
  refine HH.out.mono ?_
  rintro e w1 ⟨rfl, g1⟩
  have hb0 := g1.heap H0.out.1 (fun h => h)
  have hb1 := g1.heap H0.out.2.1 (fun h => h)
  have HF1 := Lib.hid (H0.out.2.2.then g1)
  clear g1 HH
  go_wp2_with (refine wpList_ldC (by rfl) TCD _ rfl _ _ rfl (ld_cd (by assumption) rfl) ?_)
  refine (HC.out.1 _ HF1.out).mono ?_
  rintro e w2 ⟨g, rfl, hg, hf⟩
  have ha0 := hf.heap hb0 (fun h => h)
  have ha1 := hf.heap hb1 (fun h => h)
  have HF2 := Lib.hid (HF1.out.then hf)
  clear hf hb0 hb1
  cases g with
  | true =>
    clear hg ha0 ha1
    go_wp2
    go_ret
    exact ⟨rfl, HF2.out⟩
  | false =>
  have HW := Lib.hid (hg rfl)
  clear hg
  go_wp2_with (refine wpList_ldC (by rfl) TCD _ rfl _ _ rfl (ld_cd (by assumption) rfl) ?_)
  refine (HC.out.2.1 _ HF2.out).mono ?_
  rintro e w3 ⟨g, rfl, hg, hf⟩
  have hb0 := hf.heap ha0 (fun h => h)
  have hb1 := hf.heap ha1 (fun h => h)
  have HF3 := Lib.hid (HF2.out.then hf)
  clear hf ha0 ha1
  cases g with
  | true =>
    clear hg hb0 hb1
    go_wp2
    go_ret
    exact ⟨rfl, HF3.out⟩
  | false =>
  have HW2 := Lib.hid (hg rfl)
  clear hg
  go_wp2_with (refine wpList_ldC (by rfl) TCD _ rfl _ _ rfl (ld_cd (by assumption) rfl) ?_)
  refine (HC.out.2.2.1 _ HF3.out HW.out).mono ?_
  rintro e w4 ⟨vx, rfl, hx⟩
  obtain ⟨r, hr⟩ : ∃ r, rightC c = r := ⟨_, rfl⟩
  obtain ⟨ec, hec⟩ : ∃ e : Int, e = (if rightC c = true then 0 else 1) := ⟨_, rfl⟩
  obtain ⟨xl, hxl⟩ : ∃ l : Bs, l = (if rightC c = true then encCd c else []) := ⟨_, rfl⟩
  rw [← hxl] at hx
  rw [← hec]
  have HE1 := Lib.hid (And.intro hr (And.intro hec hxl))
  clear hr hec hxl
  have ha0 := hx.fp.heap hb0 (fun h => h)
  have ha1 := hx.fp.heap hb1 (fun h => h)
  have HF4 := Lib.hid (HF3.out.then hx.fp)
  have HX := Lib.hid hx.sl
  obtain ⟨xao, xcap, rfl⟩ := hx.shape
  clear hx hb0 hb1
  go_wp2_with (refine wpList_ldC (by rfl) TCD _ rfl _ _ rfl (ld_cd (by assumption) rfl) ?_)
  refine (HC.out.2.2.2.1 _ HF4.out HW2.out).mono ?_
  rintro e w5 ⟨vy, rfl, hy⟩
  obtain ⟨s, hs⟩ : ∃ s, rightC d = s := ⟨_, rfl⟩
  obtain ⟨ed, hed⟩ : ∃ e : Int, e = (if rightC d = true then 0 else 1) := ⟨_, rfl⟩
  obtain ⟨yl, hyl⟩ : ∃ l : Bs, l = (if rightC d = true then encCd d else []) := ⟨_, rfl⟩
  rw [← hyl] at hy
  rw [← hed]
  obtain ⟨hr, hec, hxl⟩ := HE1.out
  rw [hr] at hec hxl
  rw [hs] at hed hyl
  clear HE1
  have hb0 := hy.fp.heap ha0 (fun h => h)
  have hb1 := hy.fp.heap ha1 (fun h => h)
  have HF5 := Lib.hid (HF4.out.then hy.fp)
  have HX5 := Lib.hid (HX.out.keep hy.fp (fun _ _ h => h))
  have HY := Lib.hid hy.sl
  obtain ⟨yao, ycap, rfl⟩ := hy.shape
  clear hy ha0 ha1 HX
  cases r with
  | false =>
    clear hb0 hb1 hr hs hxl hyl
    obtain rfl : ec = 1 := hec
    cases s with
    | false =>
      obtain rfl : ed = 1 := hed
      go_wp2
      go_ret
      exact ⟨rfl, HF5.out⟩
    | true =>
      obtain rfl : ed = 0 := hed
      go_wp2
      go_ret
      exact ⟨rfl, HF5.out⟩
  | true =>
  obtain rfl : ec = 0 := hec
  cases s with
  | false =>
    clear hb0 hb1 hr hs hxl hyl
    obtain rfl : ed = 1 := hed
    go_wp2
    go_ret
    exact ⟨rfl, HF5.out⟩
  | true =>
  obtain rfl : ed = 0 := hed
  obtain rfl : xl = encCd c := hxl
  obtain rfl : yl = encCd d := hyl
  have HCR := Lib.hid ((rightC_iff c).1 hr)
  have HDR := Lib.hid ((rightC_iff d).1 hs)
  clear hr hs
  obtain ⟨n, hn⟩ : ∃ n, n = (encCd c).length := ⟨_, rfl⟩
  have hn0 : 0 < n := by rw [hn]; exact encCd_pos HCR.out.ok
  have hnb : n ≤ 900000 := by rw [hn]; exact few9 HCR.out
  have p1 : ((n : Int) == 0) = false := beq_eq_false_iff_ne.2 (by omega)
  have p2 : ((n : Int) = 0) = False := eq_false (by omega)
  have p3 : (n == 0) = false := beq_eq_false_iff_ne.2 (by omega)
  have p4 : (n = 0) = False := eq_false (by omega)
  rw [← hn] at HX5 ⊢
  obtain ⟨qn, hqn⟩ := Int.eq_ofNat_of_zero_le HQ.out.1.1
  obtain ⟨mn, hmn⟩ := Int.eq_ofNat_of_zero_le HQ.out.2.1
  have hmb : mn < 256 := by have := HQ.out.2.2; omega
  have hqb : qn ≤ 65535 := by have := HQ.out.1.2; omega
  subst hqn hmn
  obtain ⟨k, hk⟩ : ∃ k, k = qn % n := ⟨_, rfl⟩
  have hkn : k < n := by rw [hk]; exact Nat.mod_lt _ hn0
  have htm : ((wrap64 (qn : Int)).tmod (n : Int)) = (k : Int) := by
    rw [show wrap64 (qn : Int) = (qn : Int) from by unfold wrap64; omega, hk]; rfl
  obtain ⟨xo, xcap', he, h1, h2, h3⟩ := HX5.out.ex
  rw [← hn] at he h1
  injection he with e1 _ e3
  subst e1 e3
  rcases h3 with ⟨rfl, rfl⟩ | ⟨g, o, rfl, hgl, hcell⟩
  · omega
  have hup := Sl.upto HX5.out k (by omega)
  have hge := Get_c _ _ w5 hup (by rw [List.length_take]; omega)
  rw [get_cut HCR.out k (by omega)] at hge
  have HGE := Lib.hid hge
  have HN := Lib.hid (And.intro hn (And.intro hmb hkn))
  have hkc : ((k : Int) ≤ (xcap : Int)) = True := eq_true (by omega)
  have hkc2 : (k ≤ xcap) = True := eq_true (by omega)
  clear hup hge hcell hgl hn h1 h2 HQ hk hqb hmb
  go_wp2_with (refine wpList_stC rfl TCD _ _ rfl _ _ rfl rfl (stn_cd _ (by assumption)) ?_)
  refine HGE.out.mono ?_
  rintro e w6 ⟨vq, rfl, hcw, hf⟩
  obtain ⟨qp, qn', qt, qg, rfl, k1, k2, k3, k4⟩ := hcw.ex
  have hS := CdW.slc k1 k2 k3 k4
  have hfz := fp_alloc w6 (.cells (cdL zeroC qp qn' qt qg) TCD)
  have hfy := hf.then hfz
  have ha0 := hfy.heap hb0 (fun h => h)
  have ha1 := hfy.heap hb1 (fun h => h)
  have HF7 := Lib.hid (HF5.out.then hfy)
  have HX7 := Lib.hid (HX5.out.keep hfy (fun _ _ h => h))
  have HY7 := Lib.hid (HY.out.keep hfy (fun _ _ h => h))
  obtain ⟨w7, hw7⟩ : ∃ w7, w7 = w6.alloc (.cells (cdL zeroC qp qn' qt qg) TCD) := ⟨_, rfl⟩
  rw [← hw7] at ha0 ha1 HF7 HX7 HY7
  have happ := app_sl (w7.alloc (.cells #[] 5)) w7.heap.size (.slice (some ⟨w7.heap.size, 0, none⟩) 0 0) [] (encCd c) 32 _ (World.ownsRow_made w7 #[] 0 (Nat.le_refl _) (Nat.zero_le _) rfl) (HX7.out.keep ((Fp.refl Non _).alloc _) (fun _ _ h => h)) (by have := HN.out.1; simp; omega) (by simp)
  have hs7 : w7.heap.size = w6.heap.size + 1 := by rw [hw7]; simp
  have hlo7 : w.heap.size ≤ w7.heap.size := HF7.out.size
  simp only [List.nil_append] at happ
  have HA := Lib.hid happ
  have HS7 := Lib.hid (And.intro hs7 (And.intro HF7.out.size ((Fp.refl Non w7).alloc (.cells #[] 5))))
  have H7 := Lib.hid (And.intro ha0 ha1)
  rw [hs7, hw7] at HA
  clear happ hf hfz hfy k1 k2 k3 k4 hcw hb0 hb1 HGE htm hkc hkc2 hs7 hlo7 ha0 ha1
  go_wp2_with (first | (refine wpList_stC rfl TCD _ _ rfl _ _ rfl rfl (stn_cd _ (by assumption)) ?_) | (at_builtin; go_must (refine wpList_app rfl _ _ _ _ rfl _ _ rfl rfl _ HA.out ?_)))
  intro v1 w8 hR
  obtain ⟨ao1, n1, cap1, rfl⟩ := hR.shape
  rw [← hw7, ← HS7.out.1] at hR
  have hf8 : Fp Non w7 w8 := HS7.out.2.2.grown hR.grown (fun j hj => by
    right
    have e : w7.heap.size = j := by simpa [Value.ownBlock] using hj
    omega)
  have HLW := Lib.hid (fun k hk => (World.ownsRow.lt hR.own k hk).1)
  have happ2 := app_byte w8 w7.heap.size _ (encCd c) mn 32 HN.out.2.1 (by simpa using hR.own) (by have := HN.out.1; omega) hf8.size
  have HA2 := Lib.hid happ2
  have HF8 := Lib.hid hf8
  clear happ2 hR hf8 HA hw7
  go_wp2_with (at_builtin; go_must (refine wpList_app rfl _ _ _ _ rfl _ _ rfl rfl _ HA2.out ?_))
  intro v2 w9 hR
  obtain ⟨ao2, n2, cap2, rfl⟩ := hR.shape
  have hf9 : Fp Non w7 w9 := (HF8.out.then (fp_alloc w8 _)).grown hR.grown (fun k hk => by right; exact HLW.out k hk)
  have hge := Get_c _ _ w9 (Sl.of_owns hR.own) (by have := HN.out.1; rw [List.length_append]; simp only [List.length_cons, List.length_nil]; omega)
  rw [get_more HCR.out] at hge
  have HGE := Lib.hid hge
  have HF9 := Lib.hid hf9
  have HX9 := Lib.hid (HX7.out.keep hf9 (fun _ _ h => h))
  have HY9 := Lib.hid (HY7.out.keep hf9 (fun _ _ h => h))
  clear hge hR hf9 HA2
  go_wp2_with (refine wpList_stC rfl TCD _ _ rfl _ _ rfl rfl (stn_cd _ (by assumption)) ?_)
  refine HGE.out.mono ?_
  rintro e w10 ⟨vq', rfl, hcw, hf⟩
  obtain ⟨rp, rn, rt, rg, rfl, k1, k2, k3, k4⟩ := hcw.ex
  have hS' := CdW.slc k1 k2 k3 k4
  have hfz := fp_alloc w10 (.cells (cdL zeroC rp rn rt rg) TCD)
  have hfy := (HF9.out.then hf).then hfz
  have HF11 := Lib.hid (HF7.out.then hfy)
  have hds := ((Fp.refl Non (w10.alloc (.cells (cdL zeroC rp rn rt rg) TCD))).drew)
  have hS10 : ((w10.alloc (.cells (cdL zeroC rp rn rt rg) TCD)).drew.heap[w.heap.size]? = some (.cells (cdL c vp vn vt vg) TCD (0, 0)) ∧ (w10.alloc (.cells (cdL zeroC rp rn rt rg) TCD)).drew.heap[w.heap.size + 1]? = some (.cells (cdL d xp xn xt xg) TCD (0, 0)) ∧ Sl (w10.alloc (.cells (cdL zeroC rp rn rt rg) TCD)).drew (.slice (some ⟨g, o, none⟩) n xcap) (encCd c) ∧ Sl (w10.alloc (.cells (cdL zeroC rp rn rt rg) TCD)).drew (.slice yao (encCd d).length ycap) (encCd d)) :=
    ⟨hds.heap (hfy.heap H7.out.1 (fun h => h)) (fun h => h), hds.heap (hfy.heap H7.out.2 (fun h => h)) (fun h => h), (HX7.out.keep hfy (fun _ _ h => h)).keep hds (fun _ _ h => h), (HY7.out.keep hfy (fun _ _ h => h)).keep hds (fun _ _ h => h)⟩
  have HSD := Lib.hid hS10
  have HFD := Lib.hid (HF11.out.then hds)
  clear hf hfz hfy k1 k2 k3 k4 hcw HGE hds hS10 hS
  go_wp2_with (refine wpList_stC rfl TCD _ _ rfl _ _ rfl rfl (stn_cd _ (by assumption)) ?_)
  refine wp_region_held_drew (S := (fun w' => (w'.heap[w.heap.size]? = some (.cells (cdL c vp vn vt vg) TCD (0, 0)) ∧ w'.heap[w.heap.size + 1]? = some (.cells (cdL d xp xn xt xg) TCD (0, 0)) ∧ Sl w' (.slice (some ⟨g, o, none⟩) n xcap) (encCd c) ∧ Sl w' (.slice yao (encCd d).length ycap) (encCd d)))) (by kernel_rfl) ?_ (fun hHeld => ?_)
  · exact HSD.out
  try rw [show (31 : TypeId) = TCD from rfl]
  obtain ⟨wd, hwd⟩ : ∃ wd, wd = (w10.alloc (.cells (cdL zeroC rp rn rt rg) TCD)).drew := ⟨_, rfl⟩
  rw [← hwd] at HSD HFD ⊢
  clear hHeld hwd
  have hHeld := HSD.out
  refine wpAnyH_take (i := 0) (oi := ?oi101) (v := ?vi101) ?h101 (by kernel_rfl) (by kernel_rfl) (by kernel_rfl) ?q101 (Or.inl ⟨?w101, ?y101⟩) hHeld ?r101
  case h101 => first | (simp only [List.getElem?_toArray, List.getElem?_cons_zero]; done) | (simp only [List.getElem?_toArray, List.getElem?_cons_zero]; exact rfl)
  case q101 => exact fun _ _ _ h => h
  case w101 => rfl
  case y101 =>
    intro w hSw
    (try dsimp only at hSw)
    obtain ⟨s0, s1, s2, s3⟩ := hSw; have k2 := conv_sl w _ _ s2; have k3 := conv_sl w _ _ s3; clear s0 s1 s2 s3
    go_simp
    try with_reducible rfl
  try simp only [Act.put, List.setIfInBounds_toArray, List.set_cons_zero, List.set_cons_succ]
  refine wpAnyH_take (i := 1) (oi := ?oi102) (v := ?vi102) ?h102 (by kernel_rfl) (by kernel_rfl) (by kernel_rfl) ?q102 (Or.inl ⟨?w102, ?y102⟩) hHeld ?r102
  case h102 => first | (simp only [List.getElem?_toArray, List.getElem?_cons_zero, List.getElem?_cons_succ]; done) | (simp only [List.getElem?_toArray, List.getElem?_cons_zero, List.getElem?_cons_succ]; exact rfl)
  case q102 => exact fun _ _ _ h => h
  case w102 => rfl
  case y102 =>
    intro w hSw
    (try dsimp only at hSw)
    obtain ⟨s0, s1, s2, s3⟩ := hSw; have k2 := conv_sl w _ _ s2; have k3 := conv_sl w _ _ s3; clear s0 s1 s2 s3
    go_simp
    try with_reducible rfl
  try simp only [Act.put, List.setIfInBounds_toArray, List.set_cons_zero, List.set_cons_succ]
  refine wpAnyH_take (i := 2) (oi := ?oi103) (v := ?vi103) ?h103 (by kernel_rfl) (by kernel_rfl) (by kernel_rfl) ?q103 (Or.inl ⟨?w103, ?y103⟩) hHeld ?r103
  case h103 => first | (simp only [List.getElem?_toArray, List.getElem?_cons_zero, List.getElem?_cons_succ]; done) | (simp only [List.getElem?_toArray, List.getElem?_cons_zero, List.getElem?_cons_succ]; exact rfl)
  case q103 => exact fun _ _ _ h => h
  case w103 => rfl
  case y103 =>
    intro w hSw
    (try dsimp only at hSw)
    obtain ⟨s0, s1, s2, s3⟩ := hSw; have k2 := conv_sl w _ _ s2; have k3 := conv_sl w _ _ s3; clear s0 s1 s2 s3
    go_simp
    try with_reducible rfl
  try simp only [Act.put, List.setIfInBounds_toArray, List.set_cons_zero, List.set_cons_succ]
  refine wpAnyH_take (i := 3) (oi := ?oi104) (v := ?vi104) ?h104 (by kernel_rfl) (by kernel_rfl) (by kernel_rfl) ?q104 (Or.inl ⟨?w104, ?y104⟩) hHeld ?r104
  case h104 => first | (simp only [List.getElem?_toArray, List.getElem?_cons_zero, List.getElem?_cons_succ]; done) | (simp only [List.getElem?_toArray, List.getElem?_cons_zero, List.getElem?_cons_succ]; exact rfl)
  case q104 => exact fun _ _ _ h => h
  case w104 => rfl
  case y104 =>
    intro w hSw
    (try dsimp only at hSw)
    obtain ⟨s0, s1, s2, s3⟩ := hSw; have k2 := conv_sl w _ _ s2; have k3 := conv_sl w _ _ s3; clear s0 s1 s2 s3
    go_simp
    try with_reducible rfl
  try simp only [Act.put, List.setIfInBounds_toArray, List.set_cons_zero, List.set_cons_succ]
  refine wpAnyH_take (i := 4) (oi := ?oi105) (v := ?vi105) ?h105 (by kernel_rfl) (by kernel_rfl) (by kernel_rfl) ?q105 (Or.inl ⟨?w105, ?y105⟩) hHeld ?r105
  case h105 => first | (simp only [List.getElem?_toArray, List.getElem?_cons_zero, List.getElem?_cons_succ]; done) | (simp only [List.getElem?_toArray, List.getElem?_cons_zero, List.getElem?_cons_succ]; exact rfl)
  case q105 => exact fun _ _ _ h => h
  case w105 => rfl
  case y105 =>
    intro w hSw
    (try dsimp only at hSw)
    obtain ⟨s0, s1, s2, s3⟩ := hSw; have k2 := conv_sl w _ _ s2; have k3 := conv_sl w _ _ s3; clear s0 s1 s2 s3
    go_simp
    try with_reducible rfl
  try simp only [Act.put, List.setIfInBounds_toArray, List.set_cons_zero, List.set_cons_succ]
  refine wpAnyH_take (i := 5) (oi := ?oi106) (v := ?vi106) ?h106 (by kernel_rfl) (by kernel_rfl) (by kernel_rfl) ?q106 (Or.inl ⟨?w106, ?y106⟩) hHeld ?r106
  case h106 => first | (simp only [List.getElem?_toArray, List.getElem?_cons_zero, List.getElem?_cons_succ]; done) | (simp only [List.getElem?_toArray, List.getElem?_cons_zero, List.getElem?_cons_succ]; exact rfl)
  case q106 => exact fun _ _ _ h => h
  case w106 => rfl
  case y106 =>
    intro w hSw
    (try dsimp only at hSw)
    obtain ⟨s0, s1, s2, s3⟩ := hSw; have k2 := conv_sl w _ _ s2; have k3 := conv_sl w _ _ s3; clear s0 s1 s2 s3
    go_simp
    try with_reducible rfl
  try simp only [Act.put, List.setIfInBounds_toArray, List.set_cons_zero, List.set_cons_succ]
  refine wpAnyH_take (i := 6) (oi := ?oi107) (v := ?vi107) ?h107 (by kernel_rfl) (by kernel_rfl) (by kernel_rfl) ?q107 (Or.inl ⟨?w107, ?y107⟩) hHeld ?r107
  case h107 => first | (simp only [List.getElem?_toArray, List.getElem?_cons_zero, List.getElem?_cons_succ]; done) | (simp only [List.getElem?_toArray, List.getElem?_cons_zero, List.getElem?_cons_succ]; exact rfl)
  case q107 => exact fun _ _ _ h => h
  case w107 => rfl
  case y107 =>
    intro w hSw
    (try dsimp only at hSw)
    obtain ⟨s0, s1, s2, s3⟩ := hSw; have k2 := conv_sl w _ _ s2; have k3 := conv_sl w _ _ s3; clear s0 s1 s2 s3
    go_simp
    try with_reducible rfl
  try simp only [Act.put, List.setIfInBounds_toArray, List.set_cons_zero, List.set_cons_succ]
  refine wpAnyH_take (i := 7) (oi := ?oi108) (v := ?vi108) ?h108 (by kernel_rfl) (by kernel_rfl) (by kernel_rfl) ?q108 (Or.inl ⟨?w108, ?y108⟩) hHeld ?r108
  case h108 => first | (simp only [List.getElem?_toArray, List.getElem?_cons_zero, List.getElem?_cons_succ]; done) | (simp only [List.getElem?_toArray, List.getElem?_cons_zero, List.getElem?_cons_succ]; exact rfl)
  case q108 => exact fun _ _ _ h => h
  case w108 => rfl
  case y108 =>
    intro w hSw
    (try dsimp only at hSw)
    obtain ⟨s0, s1, s2, s3⟩ := hSw; have k2 := conv_sl w _ _ s2; have k3 := conv_sl w _ _ s3; clear s0 s1 s2 s3
    go_simp
    try with_reducible rfl
  try simp only [Act.put, List.setIfInBounds_toArray, List.set_cons_zero, List.set_cons_succ]
  refine wpAnyH_take (i := 8) (oi := ?oi109) (v := ?vi109) ?h109 (by kernel_rfl) (by kernel_rfl) (by kernel_rfl) ?q109 (Or.inl ⟨?w109, ?y109⟩) hHeld ?r109
  case h109 => first | (simp only [List.getElem?_toArray, List.getElem?_cons_zero, List.getElem?_cons_succ]; done) | (simp only [List.getElem?_toArray, List.getElem?_cons_zero, List.getElem?_cons_succ]; exact rfl)
  case q109 => exact fun _ _ _ h => h
  case w109 => rfl
  case y109 =>
    intro w hSw
    (try dsimp only at hSw)
    obtain ⟨s0, s1, s2, s3⟩ := hSw; have k2 := conv_sl w _ _ s2; have k3 := conv_sl w _ _ s3; clear s0 s1 s2 s3
    go_simp
    try with_reducible rfl
  try simp only [Act.put, List.setIfInBounds_toArray, List.set_cons_zero, List.set_cons_succ]
  refine wpAnyH_take (i := 9) (oi := ?oi110) (v := ?vi110) ?h110 (by kernel_rfl) (by kernel_rfl) (by kernel_rfl) ?q110 (Or.inl ⟨?w110, ?y110⟩) hHeld ?r110
  case h110 => first | (simp only [List.getElem?_toArray, List.getElem?_cons_zero, List.getElem?_cons_succ]; done) | (simp only [List.getElem?_toArray, List.getElem?_cons_zero, List.getElem?_cons_succ]; exact rfl)
  case q110 => exact fun _ _ _ h => h
  case w110 => rfl
  case y110 =>
    intro w hSw
    (try dsimp only at hSw)
    obtain ⟨s0, s1, s2, s3⟩ := hSw; have k2 := conv_sl w _ _ s2; have k3 := conv_sl w _ _ s3; clear s0 s1 s2 s3
    go_simp
    try with_reducible rfl
  try simp only [Act.put, List.setIfInBounds_toArray, List.set_cons_zero, List.set_cons_succ]
  refine wpAnyH_take (i := 10) (oi := ?oi111) (v := ?vi111) ?h111 (by kernel_rfl) (by kernel_rfl) (by kernel_rfl) ?q111 (Or.inl ⟨?w111, ?y111⟩) hHeld ?r111
  case h111 => first | (simp only [List.getElem?_toArray, List.getElem?_cons_zero, List.getElem?_cons_succ]; done) | (simp only [List.getElem?_toArray, List.getElem?_cons_zero, List.getElem?_cons_succ]; exact rfl)
  case q111 => exact fun _ _ _ h => h
  case w111 => rfl
  case y111 =>
    intro w hSw
    (try dsimp only at hSw)
    obtain ⟨s0, s1, s2, s3⟩ := hSw; have k2 := conv_sl w _ _ s2; have k3 := conv_sl w _ _ s3; clear s0 s1 s2 s3
    go_simp
    try with_reducible rfl
  try simp only [Act.put, List.setIfInBounds_toArray, List.set_cons_zero, List.set_cons_succ]
  refine wpAnyH_take (i := 11) (oi := ?oi112) (v := ?vi112) ?h112 (by kernel_rfl) (by kernel_rfl) (by kernel_rfl) ?q112 (Or.inl ⟨?w112, ?y112⟩) hHeld ?r112
  case h112 => first | (simp only [List.getElem?_toArray, List.getElem?_cons_zero, List.getElem?_cons_succ]; done) | (simp only [List.getElem?_toArray, List.getElem?_cons_zero, List.getElem?_cons_succ]; exact rfl)
  case q112 => exact fun _ _ _ h => h
  case w112 => rfl
  case y112 =>
    intro w hSw
    (try dsimp only at hSw)
    obtain ⟨s0, s1, s2, s3⟩ := hSw; have k2 := conv_sl w _ _ s2; have k3 := conv_sl w _ _ s3; clear s0 s1 s2 s3
    go_simp
    try with_reducible rfl
  try simp only [Act.put, List.setIfInBounds_toArray, List.set_cons_zero, List.set_cons_succ]
  refine wpAnyH_take (i := 12) (oi := ?oi113) (v := ?vi113) ?h113 (by kernel_rfl) (by kernel_rfl) (by kernel_rfl) ?q113 (Or.inl ⟨?w113, ?y113⟩) hHeld ?r113
  case h113 => first | (simp only [List.getElem?_toArray, List.getElem?_cons_zero, List.getElem?_cons_succ]; done) | (simp only [List.getElem?_toArray, List.getElem?_cons_zero, List.getElem?_cons_succ]; exact rfl)
  case q113 => exact fun _ _ _ h => h
  case w113 => rfl
  case y113 =>
    intro w hSw
    (try dsimp only at hSw)
    obtain ⟨s0, s1, s2, s3⟩ := hSw; have k2 := conv_sl w _ _ s2; have k3 := conv_sl w _ _ s3; clear s0 s1 s2 s3
    go_simp
    try with_reducible rfl
  try simp only [Act.put, List.setIfInBounds_toArray, List.set_cons_zero, List.set_cons_succ]
  refine wpAnyH_take (i := 13) (oi := ?oi114) (v := ?vi114) ?h114 (by kernel_rfl) (by kernel_rfl) (by kernel_rfl) ?q114 (Or.inl ⟨?w114, ?y114⟩) hHeld ?r114
  case h114 => first | (simp only [List.getElem?_toArray, List.getElem?_cons_zero, List.getElem?_cons_succ]; done) | (simp only [List.getElem?_toArray, List.getElem?_cons_zero, List.getElem?_cons_succ]; exact rfl)
  case q114 => exact fun _ _ _ h => h
  case w114 => rfl
  case y114 =>
    intro w hSw
    (try dsimp only at hSw)
    obtain ⟨s0, s1, s2, s3⟩ := hSw; have k2 := conv_sl w _ _ s2; have k3 := conv_sl w _ _ s3; clear s0 s1 s2 s3
    go_simp
    try with_reducible rfl
  try simp only [Act.put, List.setIfInBounds_toArray, List.set_cons_zero, List.set_cons_succ]
  refine wpAnyH_take (i := 14) (oi := ?oi115) (v := ?vi115) ?h115 (by kernel_rfl) (by kernel_rfl) (by kernel_rfl) ?q115 (Or.inl ⟨?w115, ?y115⟩) hHeld ?r115
  case h115 => first | (simp only [List.getElem?_toArray, List.getElem?_cons_zero, List.getElem?_cons_succ]; done) | (simp only [List.getElem?_toArray, List.getElem?_cons_zero, List.getElem?_cons_succ]; exact rfl)
  case q115 => exact fun _ _ _ h => h
  case w115 => rfl
  case y115 =>
    intro w hSw
    (try dsimp only at hSw)
    obtain ⟨s0, s1, s2, s3⟩ := hSw; have k2 := conv_sl w _ _ s2; have k3 := conv_sl w _ _ s3; clear s0 s1 s2 s3
    go_simp
    try with_reducible rfl
  try simp only [Act.put, List.setIfInBounds_toArray, List.set_cons_zero, List.set_cons_succ]
  refine wpAnyH_take (i := 15) (oi := ?oi116) (v := Value.agg (cdL c vp vn vt vg)) ?h116 (by kernel_rfl) (by kernel_rfl) (by kernel_rfl) ?q116 (Or.inl ⟨?w116, ?y116⟩) hHeld ?r116
  case h116 => first | (simp only [List.getElem?_toArray, List.getElem?_cons_zero, List.getElem?_cons_succ]; done) | (simp only [List.getElem?_toArray, List.getElem?_cons_zero, List.getElem?_cons_succ]; exact rfl)
  case q116 => exact fun _ _ _ h => h
  case w116 => rfl
  case y116 =>
    intro wq hSw
    (try dsimp only at hSw)
    obtain ⟨s0, s1, s2, s3⟩ := hSw
    exact run_ldC (t := TCD) (xv := .pointer (some ⟨w.heap.size, 0, none⟩)) rfl rfl (ld_cd s0 rfl)
  try simp only [Act.put, List.setIfInBounds_toArray, List.set_cons_zero, List.set_cons_succ]
  refine wpAnyH_take (i := 16) (oi := ?oi117) (v := Value.agg (cdL d xp xn xt xg)) ?h117 (by kernel_rfl) (by kernel_rfl) (by kernel_rfl) ?q117 (Or.inl ⟨?w117, ?y117⟩) hHeld ?r117
  case h117 => first | (simp only [List.getElem?_toArray, List.getElem?_cons_zero, List.getElem?_cons_succ]; done) | (simp only [List.getElem?_toArray, List.getElem?_cons_zero, List.getElem?_cons_succ]; exact rfl)
  case q117 => exact fun _ _ _ h => h
  case w117 => rfl
  case y117 =>
    intro wq hSw
    (try dsimp only at hSw)
    obtain ⟨s0, s1, s2, s3⟩ := hSw
    exact run_ldC (t := TCD) (xv := .pointer (some ⟨w.heap.size + 1, 0, none⟩)) rfl rfl (ld_cd s1 rfl)
  try simp only [Act.put, List.setIfInBounds_toArray, List.set_cons_zero, List.set_cons_succ]
  refine wpAnyH_ready (rs := [17]) (by kernel_rfl) (by simp) ?_
  refine AllReadyH.cons (o := ?ob118) ?hb118 (fun K hK => ?_) AllReadyH.nil
  case hb118 => first | (simp only [List.getElem?_toArray, List.getElem?_cons_zero, List.getElem?_cons_succ]; done) | (simp only [List.getElem?_toArray, List.getElem?_cons_zero, List.getElem?_cons_succ]; exact rfl)
  go_simp
  go_at_call 12
  refine (HC.out.2.2.2.2 _ HFD.out HW.out HW2.out).mono ?_
  rintro e w12 ⟨rfl, hf⟩
  have HF12 := Lib.hid (HFD.out.then hf)
  have HSE := Lib.hid (show (w12.heap[w.heap.size]? = some (.cells (cdL c vp vn vt vg) TCD (0, 0)) ∧ w12.heap[w.heap.size + 1]? = some (.cells (cdL d xp xn xt xg) TCD (0, 0)) ∧ Sl w12 (.slice (some ⟨g, o, none⟩) n xcap) (encCd c) ∧ Sl w12 (.slice yao (encCd d).length ycap) (encCd d)) from ⟨hf.heap HSD.out.1 (fun h => h), hf.heap HSD.out.2.1 (fun h => h), HSD.out.2.2.1.keep hf (fun _ _ h => h), HSD.out.2.2.2.keep hf (fun _ _ h => h)⟩)
  clear hf
  by_cases hcd : c = d
  · have e1 : decide (c = d) = true := decide_eq_true hcd
    rw [e1]
    have e2 : (encCd c = encCd d) = True := eq_true (by rw [hcd])
    have e3 : (encCd c == encCd d) = true := by rw [hcd]; simp
    clear hcd
    go_wp2_with fail
    refine hK.out _ _ HSE.out (fun hHeld => ?_)
    clear hK K
    try simp only [Act.put, List.setIfInBounds_toArray, List.set_cons_zero, List.set_cons_succ]
    refine wpAnyH_take (i := 18) (oi := ?oi119) (v := ?vi119) ?h119 (by kernel_rfl) (by kernel_rfl) (by kernel_rfl) ?q119 (Or.inl ⟨?w119, ?y119⟩) hHeld ?r119
    case h119 => first | (simp only [List.getElem?_toArray, List.getElem?_cons_zero, List.getElem?_cons_succ]; done) | (simp only [List.getElem?_toArray, List.getElem?_cons_zero, List.getElem?_cons_succ]; exact rfl)
    case q119 => exact fun _ _ _ h => h
    case w119 => rfl
    case y119 =>
      intro w hSw
      (try dsimp only at hSw)
      obtain ⟨s0, s1, s2, s3⟩ := hSw; have k2 := conv_sl w _ _ s2; have k3 := conv_sl w _ _ s3; clear s0 s1 s2 s3
      go_simp
      try with_reducible rfl
    try simp only [Act.put, List.setIfInBounds_toArray, List.set_cons_zero, List.set_cons_succ]
    refine wpAnyH_take (i := 19) (oi := ?oi120) (v := ?vi120) ?h120 (by kernel_rfl) (by kernel_rfl) (by kernel_rfl) ?q120 (Or.inl ⟨?w120, ?y120⟩) hHeld ?r120
    case h120 => first | (simp only [List.getElem?_toArray, List.getElem?_cons_zero, List.getElem?_cons_succ]; done) | (simp only [List.getElem?_toArray, List.getElem?_cons_zero, List.getElem?_cons_succ]; exact rfl)
    case q120 => exact fun _ _ _ h => h
    case w120 => rfl
    case y120 =>
      intro w hSw
      (try dsimp only at hSw)
      obtain ⟨s0, s1, s2, s3⟩ := hSw; have k2 := conv_sl w _ _ s2; have k3 := conv_sl w _ _ s3; clear s0 s1 s2 s3
      go_simp
      try with_reducible rfl
    try simp only [Act.put, List.setIfInBounds_toArray, List.set_cons_zero, List.set_cons_succ]
    refine wpAnyH_take (i := 20) (oi := ?oi121) (v := ?vi121) ?h121 (by kernel_rfl) (by kernel_rfl) (by kernel_rfl) ?q121 (Or.inl ⟨?w121, ?y121⟩) hHeld ?r121
    case h121 => first | (simp only [List.getElem?_toArray, List.getElem?_cons_zero, List.getElem?_cons_succ]; done) | (simp only [List.getElem?_toArray, List.getElem?_cons_zero, List.getElem?_cons_succ]; exact rfl)
    case q121 => exact fun _ _ _ h => h
    case w121 => rfl
    case y121 =>
      intro w hSw
      (try dsimp only at hSw)
      obtain ⟨s0, s1, s2, s3⟩ := hSw; have k2 := conv_sl w _ _ s2; have k3 := conv_sl w _ _ s3; clear s0 s1 s2 s3
      go_simp
      try with_reducible rfl
    try simp only [Act.put, List.setIfInBounds_toArray, List.set_cons_zero, List.set_cons_succ]
    refine wpAnyH_done (by kernel_rfl) ?_ _
    go_wp2
    go_ret
    exact ⟨rfl, HF12.out⟩
  · have e1 : decide (c = d) = false := decide_eq_false hcd
    rw [e1]
    have hne : encCd c ≠ encCd d := fun h => hcd ((encCd_inj HCR.out HDR.out).1 h)
    have e2 : (encCd c = encCd d) = False := eq_false hne
    have e3 : (encCd c == encCd d) = false := beq_eq_false_iff_ne.2 hne
    clear hcd hne
    go_wp2_with fail
    refine hK.out _ _ HSE.out (fun hHeld => ?_)
    clear hK K
    try simp only [Act.put, List.setIfInBounds_toArray, List.set_cons_zero, List.set_cons_succ]
    refine wpAnyH_take (i := 18) (oi := ?oi122) (v := ?vi122) ?h122 (by kernel_rfl) (by kernel_rfl) (by kernel_rfl) ?q122 (Or.inl ⟨?w122, ?y122⟩) hHeld ?r122
    case h122 => first | (simp only [List.getElem?_toArray, List.getElem?_cons_zero, List.getElem?_cons_succ]; done) | (simp only [List.getElem?_toArray, List.getElem?_cons_zero, List.getElem?_cons_succ]; exact rfl)
    case q122 => exact fun _ _ _ h => h
    case w122 => rfl
    case y122 =>
      intro w hSw
      (try dsimp only at hSw)
      obtain ⟨s0, s1, s2, s3⟩ := hSw; have k2 := conv_sl w _ _ s2; have k3 := conv_sl w _ _ s3; clear s0 s1 s2 s3
      go_simp
      try with_reducible rfl
    try simp only [Act.put, List.setIfInBounds_toArray, List.set_cons_zero, List.set_cons_succ]
    refine wpAnyH_take (i := 19) (oi := ?oi123) (v := ?vi123) ?h123 (by kernel_rfl) (by kernel_rfl) (by kernel_rfl) ?q123 (Or.inl ⟨?w123, ?y123⟩) hHeld ?r123
    case h123 => first | (simp only [List.getElem?_toArray, List.getElem?_cons_zero, List.getElem?_cons_succ]; done) | (simp only [List.getElem?_toArray, List.getElem?_cons_zero, List.getElem?_cons_succ]; exact rfl)
    case q123 => exact fun _ _ _ h => h
    case w123 => rfl
    case y123 =>
      intro w hSw
      (try dsimp only at hSw)
      obtain ⟨s0, s1, s2, s3⟩ := hSw; have k2 := conv_sl w _ _ s2; have k3 := conv_sl w _ _ s3; clear s0 s1 s2 s3
      go_simp
      try with_reducible rfl
    try simp only [Act.put, List.setIfInBounds_toArray, List.set_cons_zero, List.set_cons_succ]
    refine wpAnyH_take (i := 20) (oi := ?oi124) (v := ?vi124) ?h124 (by kernel_rfl) (by kernel_rfl) (by kernel_rfl) ?q124 (Or.inl ⟨?w124, ?y124⟩) hHeld ?r124
    case h124 => first | (simp only [List.getElem?_toArray, List.getElem?_cons_zero, List.getElem?_cons_succ]; done) | (simp only [List.getElem?_toArray, List.getElem?_cons_zero, List.getElem?_cons_succ]; exact rfl)
    case q124 => exact fun _ _ _ h => h
    case w124 => rfl
    case y124 =>
      intro w hSw
      (try dsimp only at hSw)
      obtain ⟨s0, s1, s2, s3⟩ := hSw; have k2 := conv_sl w _ _ s2; have k3 := conv_sl w _ _ s3; clear s0 s1 s2 s3
      go_simp
      try with_reducible rfl
    try simp only [Act.put, List.setIfInBounds_toArray, List.set_cons_zero, List.set_cons_succ]
    refine wpAnyH_done (by kernel_rfl) ?_ _
    go_wp2
    go_ret
    exact ⟨rfl, HF12.out⟩
end Go.Proofs.Ytlmfinpmlilcgaa
