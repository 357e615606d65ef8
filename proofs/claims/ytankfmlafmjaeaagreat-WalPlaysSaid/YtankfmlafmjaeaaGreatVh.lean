/- The document's Open. -/
import Derived.Test.YtankfmlafmjaeaaGreatVg
import Derived.Test.YtankfmlafmjaeaaGreatVc
namespace Go.Proofs.YtankfmlafmjaeaaGreat
open Go.RowKit Pm
set_option maxRecDepth 20000

/-- What it answers. -/
structure rOpR (lo : Nat) (p : At) (s : Dk) (w : World) (pv : Value) (w' : World) : Prop where
  d : RfS lo p (lOpen s).2.2 w w'
  no : (lOpen s).2.1 = none → pv = .pointer none
  yes : ∀ l, (lOpen s).2.1 = some l → ∃ q p' v D, pv = .pointer (some ⟨q, 0, none⟩) ∧ Du lo q p' v D (lOpen s).2.2 l w' ∧ p'.b = p.b ∧ ∀ k, ownD q p' v D k → own4 p k ∨ w.heap.size ≤ k
theorem rOpR.err {lo : Nat} {p : At} {s : Dk} {w w' : World} (h : Rf lo p s w) (x : Int) (e : lOpen s = (x, none, s)) (f : Fp Non w w') : rOpR lo p s w (.pointer none) w' := by
  refine ⟨?_, fun _ => rfl, fun l hl => ?_⟩
  · rw [e]; exact (RfS.refl h).later f
  · rw [e] at hl; cases hl
theorem Bo.low {lo lo' : Nat} {D : Nat → Prop} {w : World} {v : Value} {ls : List Bs} (h : Bo lo D w v ls) (hl : lo' ≤ lo) : Bo lo' D w v ls := by
  obtain ⟨xs, h1, h2, h3⟩ := h.ex
  refine ⟨xs, ⟨h1.1, ?_⟩, h2, h3⟩
  rcases h1.2 with hn | ⟨g, cap, cur, rfl, hb, rest⟩
  · exact .inl hn
  · exact .inr ⟨g, cap, cur, rfl, Nat.le_trans hl hb, rest⟩
/-- The log that is made at last. -/
theorem rOpR.log {lo : Nat} {p : At} {s s' : Dk} {w w1 w2 : World} {a : Nat} {rs : List Bs} {u : Value} (x : Int) (e : lOpen s = (x, some ⟨a, rs⟩, s')) (hlo : lo ≤ w.heap.size) (hp : ∀ k, own4 p k → k < w.heap.size) (f1 : Fp Non w w1) (hS : RfS lo p s' w1 w2) (hu : Bo w.heap.size (fun j => w.heap.size ≤ j ∧ j < w1.heap.size) w1 u rs) :
    rOpR lo p s w (.pointer (some ⟨w2.heap.size, 0, none⟩)) (w2.alloc (.cells #[.pointer (some ⟨p.b, 0, none⟩), .int .i64 (a : Int), u] TLR)) := by
  obtain ⟨p', hd, hb, hpn⟩ := hS.ex
  have f12 := hS.fp
  have f3 : Fp Non w2 (w2.alloc (.cells #[.pointer (some ⟨p.b, 0, none⟩), .int .i64 (a : Int), u] TLR)) := (Fp.refl Non w2).alloc _
  have hdl : ∀ k, own4 p' k → k < w2.heap.size := fun k hk => (hd.all k hk).2
  have hub := hu.block
  have s1 := f1.size
  have s2 := f12.size
  have s3 : (w2.alloc (.cells #[.pointer (some ⟨p.b, 0, none⟩), .int .i64 (a : Int), u] TLR)).heap.size = w2.heap.size + 1 := by simp
  have hno : ∀ k, w.heap.size ≤ k → ¬ own4 p k := fun k h1 h2 => by have := hp k h2; omega
  have hnp : ∀ k, w.heap.size ≤ k → k < w1.heap.size → ¬ own4 p' k := fun k h1 h2 ho => (hpn k ho).elim (hno k h1) (fun h3 => by omega)
  have hbo := (hu.keep f12 (fun k hk ho => hno k (hub k hk).1 ho) (fun k hk ho => hno k hk.1 ho)).keep f3 (fun _ _ h => h) (fun _ _ h => h)
  refine ⟨by rw [e]; exact (hS.non f1).later f3, fun hn => (by rw [e] at hn; cases hn), fun l hl => ?_⟩
  rw [e] at hl ⊢
  injection hl with hl
  subst hl
  refine ⟨w2.heap.size, p', u, fun j => w.heap.size ≤ j ∧ j < w1.heap.size, rfl, ⟨hd.keep f3 (fun _ _ h => h), by omega, ?_, hbo.low hlo, fun k hk => ⟨by omega, by omega, by omega, hnp k hk.1 hk.2⟩, fun k hk => ⟨by have := hub k hk; omega, hnp k (hub k hk).1 (hub k hk).2⟩, fun ho => by have := hdl _ ho; omega⟩, hb, fun k hk => ?_⟩
  · rw [hb]; exact heap_alloc_new w2 _
  · rcases hk with hk | hk | hk | hk
    · exact (hpn k hk).imp id (fun h1 => by omega)
    · exact .inr (by omega)
    · exact .inr (hub k hk).1
    · exact .inr hk.1
theorem rOpR.bad {lo : Nat} {p : At} {s s' : Dk} {w w' : World} (x : Int) (e : lOpen s = (x, none, s')) (hS : RfS lo p s' w w') : rOpR lo p s w (.pointer none) w' :=
  ⟨by rw [e]; exact hS, fun _ => rfl, fun l hl => by rw [e] at hl; cases hl⟩

theorem rOpen_off {lo : Nat} {p : At} {s : Dk} {w : World} (h : Rf lo p s w) (ho : s.off = true) :
    Calls Tryz.prog 9 #[.pointer (some ⟨p.b, 0, none⟩)] w fun e w' => ∃ pv, e = .returned (.tuple #[pv, .int .i64 (lOpen s).1]) ∧ rOpR lo p s w pv w' := by
  have e : lOpen s = (31, none, s) := by unfold lOpen; rw [if_pos ho]
  have hR := rOpR.err h 31 e (Fp.refl Non w)
  have c6 := h.c6
  rw [ho] at c6
  rw [e]
  have HR := Lib.hid hR
  clear h ho e hR
  go_enter Tryz.func9, Tryz.ntmps9
  go_wp2
  go_ret2
  exact ⟨.pointer none, rfl, HR.out⟩
theorem rOpen_small {lo : Nat} {p : At} {s : Dk} {w : World} (h : Rf lo p s w) (ho : s.off = false) (hh : hf s.cur < 16) :
    Calls Tryz.prog 9 #[.pointer (some ⟨p.b, 0, none⟩)] w fun e w' => ∃ pv, e = .returned (.tuple #[pv, .int .i64 (lOpen s).1]) ∧ rOpR lo p s w pv w' := by
  have e : lOpen s = (1, none, s) := by unfold lOpen; rw [if_neg (by rw [ho]; exact Bool.false_ne_true), if_pos hh]
  have hR := rOpR.err h 1 e (Fp.refl Non w)
  have c6 := h.c6
  have c0 := h.c0
  have hcl := h.rt.curlen
  rw [ho] at c6
  rw [e]
  have hlen : s.cur.length < 48 := by unfold hf at hh; omega
  have q1 : ((s.cur.length : Int) < 48) = True := eq_true (by omega)
  have HR := Lib.hid hR
  clear h ho e hR hh hlen hcl
  go_enter Tryz.func9, Tryz.ntmps9
  go_wp2
  go_ret2
  exact ⟨.pointer none, rfl, HR.out⟩
theorem con_len (c : Bs) (a : Nat) (h : st c a + hf c ≤ c.length) : (con c a).length = hf c := by unfold con; simp; omega
theorem con_drop (c : Bs) (a u : Nat) : (con c a).drop u = (c.drop (st c a + u)).take (hf c - u) := by
  unfold con; rw [List.drop_take, List.drop_drop]
theorem isZ_step (l : Bs) (k : Nat) (h : k < l.length) : isZ (l.take (k + 1)) = (isZ (l.take k) && (l[k] == 0)) := by
  rw [List.take_succ_eq_append_getElem h]; unfold isZ; rw [List.all_append]; simp

set_option maxHeartbeats 8000000 in
theorem rOpen_one {lo : Nat} {p : At} {s : Dk} {w : World} (h : Rf lo p s w) (hlo : lo ≤ w.heap.size) (ho : s.off = false) (hh : ¬ hf s.cur < 16) (f : Bs) (hf0 : f = s.cur.take 16) (b1 : ((B f).toList == (B (sgn 1)).toList) = true) (hsg : signed (s.cur.take 16) = some 1) (hac : s.acts ≤ 990000) :
    Calls Tryz.prog 9 #[.pointer (some ⟨p.b, 0, none⟩)] w fun e w' => ∃ pv, e = .returned (.tuple #[pv, .int .i64 (lOpen s).1]) ∧ rOpR lo p s w pv w' := by
  have c6 := h.c6
  have c0 := h.c0
  rw [ho] at c6
  obtain ⟨hcl, hw1, hw2⟩ := h.rt.curlen
  have hcap := h.cap.1
  have hhf := hf_hs s.cur
  have hsp := st_hs s.cur 1
  obtain ⟨ST, hST⟩ : ∃ ST, ST = st s.cur 1 := ⟨_, rfl⟩
  obtain ⟨H, hH⟩ : ∃ H, H = hs s.cur := ⟨_, rfl⟩
  obtain ⟨C, hC⟩ : ∃ C, C = con s.cur 1 := ⟨_, rfl⟩
  obtain ⟨rs, hrs⟩ : ∃ rs, rs = scan C 0 := ⟨_, rfl⟩
  obtain ⟨NN, hNN⟩ : ∃ NN, NN = nds rs := ⟨_, rfl⟩
  have hH1 : 1 ≤ H := by omega
  have hHb : H ≤ 2048 := by rw [hH]; exact hs_le _ (by omega)
  have hTl : ST + H * 16 ≤ s.cur.length := by
    rw [hST, hH, ← hhf]
    exact st_le s.cur 1 (by omega) (by omega)
  have hCl : C.length = H * 16 := by rw [hC, con_len _ _ (by rw [← hST, hhf, ← hH]; exact hTl), hhf, ← hH]
  have hun := usd_nds rs
  have hus : usd rs ≤ H * 16 := by rw [hrs, ← hCl]; exact (scan_le C 0 (by rw [hCl]; omega)).1
  obtain ⟨TT, hTT⟩ : ∃ TT, TT = ST + H * 16 := ⟨_, rfl⟩
  obtain ⟨F2, hF⟩ : ∃ F2, F2 = ST + NN * 16 := ⟨_, rfl⟩
  have hF2 : F2 ≤ TT := by omega
  have hTb : TT ≤ 70000 := by omega
  have hFNN : ((ST : Int) + (NN : Int) * 16) = (F2 : Int) := by omega
  have hNb : NN ≤ 5000 := by omega
  have hSb : ST ≤ 70000 := by omega
  have qg : (p.gc = ST) = False := eq_false (by omega)
  have q1 : ((s.cur.length : Int) < 48) = False := eq_false (by unfold hf at hh; omega)
  have q2 : ((16 : Int) ≤ (p.gc : Int)) = True := eq_true (by omega)
  have q3 : (16 ≤ p.gc) = True := eq_true (by omega)
  have q4 : ((ST : Int) + (H : Int) * 16 ≤ (p.gc : Int)) = True := eq_true (by omega)
  have q7 : (ST + H * 16 ≤ p.gc) = True := eq_true (by omega)
  have q8 : ST + H * 16 - ST = H * 16 := by omega
  have hsl := h.cur.sl h.cap.1.1 h.cap.1.2
  have k5 : (convert 22 9 (.slice (some ⟨p.g, 0, none⟩) 16 p.gc)).run Tryz.prog w = .ok (.string (B f)) w := by rw [hf0]; exact conv_sl _ _ _ (hsl.upto 16 (by omega))
  have hcon : Sl w (.slice (some ⟨p.g, ST, none⟩) (H * 16) (p.gc - ST)) C := by
    have := hsl.part ST (H * 16) hTl
    rw [Nat.zero_add] at this
    rw [hC]; unfold con; rw [← hST, hhf, ← hH]; exact this
  have hb2 : ∀ w2, Fp Non w w2 → ∀ k, (hk : k < s.cur.length) → w2.cell? ⟨p.g, k, none⟩ = some (.int .u8 ((s.cur[k]).toNat : Int)) := fun w2 f2 k hk => by
    have := f2.cell (h.cur.cell k (by simp [bcs, Lib.byteCells]; exact hk)) (fun h => h)
    rw [this]; simp [bcs, Lib.byteCells]
  have hzd : isZ ((con s.cur 1).drop (usd (scan (con s.cur 1) 0))) = isZ ((s.cur.drop F2).take (TT - F2)) := by
    rw [con_drop, ← hC, ← hrs, ← hST, hhf, ← hH, hun, ← hNN]
    rw [← hF, show H * 16 - NN * 16 = TT - F2 by omega]
  have hseq : seqF [wr (st s.cur 1 + usd (scan (con s.cur 1) 0)) (zr (hf s.cur - usd (scan (con s.cur 1) 0))), dSync] s = seqF [wr F2 (zr (TT - F2)), dSync] s := by
    rw [← hC, ← hrs, ← hST, hhf, ← hH, hun, ← hNN]
    rw [← hF, show H * 16 - NN * 16 = TT - F2 by omega]
  have hop : (isZ ((s.cur.drop F2).take (TT - F2)) = true → lOpen s = (0, some ⟨1, rs⟩, s)) ∧ (isZ ((s.cur.drop F2).take (TT - F2)) = false → lOpen s = if (seqF [wr F2 (zr (TT - F2)), dSync] s).1 = 0 then (0, some ⟨1, rs⟩, (seqF [wr F2 (zr (TT - F2)), dSync] s).2) else ((seqF [wr F2 (zr (TT - F2)), dSync] s).1, none, (seqF [wr F2 (zr (TT - F2)), dSync] s).2)) := by
    unfold lOpen
    rw [if_neg (by rw [ho]; exact Bool.false_ne_true), if_neg hh, hsg]
    simp only
    rw [hzd, hseq, ← hC, ← hrs]
    constructor
    · intro e; rw [if_pos e]
    · intro e; rw [if_neg (by rw [e]; exact Bool.false_ne_true)]
  have HOP := Lib.hid hop
  have HD := Lib.hid h
  have HLO := Lib.hid hlo
  have HC0 := Lib.hid c0
  have HV := Lib.hid (And.intro hST hH)
  have HCON := Lib.hid hcon
  have HCL := Lib.hid hCl
  have HRS := Lib.hid hrs
  have HRN := Lib.hid (show NN = nds (scan C 0) by rw [hNN, hrs])
  have HFN := Lib.hid hFNN
  have HTL := Lib.hid (show TT ≤ s.cur.length by omega)
  have HB2 := Lib.hid hb2
  have HAC := Lib.hid hac
  have HTF := Lib.hid (And.intro hTT hF)
  clear h hlo ho hh hf0 hsg hac hcl hw1 hw2 hcap hhf hsp hST hH hC hrs hNN hTl hCl hun hus hTT hF hFNN hsl hcon hb2 hzd hseq hop
  go_enter Tryz.func9, Tryz.ntmps9
  go_wp2_with fail
  refine (rsign_c 1 (by omega) w).mono ?_
  rintro e w1 ⟨u1, rfl, hN1⟩
  have kn1 := conv_sl _ _ _ hN1.sl
  have HN1 := Lib.hid hN1.fp
  obtain ⟨u1a, u1n, u1c, rfl⟩ := hN1.shape3
  clear hN1
  have HA := HN1
  have hbg := begin_c (HD.out.keep HA.out (fun _ _ h => h)) 1 (by omega)
  have hhf := half_c (HD.out.keep HA.out (fun _ _ h => h))
  rw [← HV.out.1] at hbg
  rw [← HV.out.2] at hhf
  have HBG := Lib.hid hbg
  have HHF := Lib.hid hhf
  clear hbg hhf
  have c0a := HA.out.cell HC0.out (fun h => h)
  go_wp2_with fail
  refine HBG.out.mono ?_
  rintro e w' ⟨rfl, hw'⟩
  obtain rfl := hw'.symm
  clear hw'
  go_wp2_with fail
  refine HHF.out.mono ?_
  rintro e w' ⟨rfl, hw'⟩
  obtain rfl := hw'.symm
  clear hw'
  have hcon := HCON.out.keep HA.out (fun _ _ h => h)
  have hsc := rscan_c p.g ST (p.gc - ST) C w1 (by rw [HCL.out]; exact hcon) (by rw [HCL.out]; omega) (by rw [HCL.out]; omega)
  rw [HCL.out] at hsc
  have HSC := Lib.hid hsc
  clear hcon hsc
  go_wp2_with fail
  refine HSC.out.mono ?_
  rintro e w2 ⟨u, rfl, hf2, hbo⟩
  have HF2 := Lib.hid (HA.out.then hf2)
  have HBO := Lib.hid (show Bo w.heap.size (fun j => w.heap.size ≤ j ∧ j < w2.heap.size) w2 u rs by rw [HRS.out]; exact (hbo.low HA.out.size).wide (fun j hj => ⟨Nat.le_trans HA.out.size hj.1, hj.2⟩))
  obtain ⟨uao, ucap, hu⟩ := hbo.shape
  have c02 := HF2.out.cell HC0.out (fun h => h)
  rw [← HRS.out] at hu
  rw [← HRN.out]
  subst hu
  clear hf2 hbo c0a
  go_wp2_with fail
  go_loopw [10, 11] (fun cv iv wr => ∃ k : Nat, F2 ≤ k ∧ k ≤ TT ∧ iv = .int .i64 (k : Int) ∧ cv = .bool (isZ ((s.cur.drop F2).take (k - F2))) ∧ wr = w2) (fun _ iv _ => TT - (RowKit.intOf iv).toNat)
  case atStart => exact ⟨F2, Nat.le_refl _, hF2, congrArg (Value.int .i64) HFN.out, by simp [isZ], rfl⟩
  case round =>
    obtain ⟨k, hk1, hk2, rfl, rfl, hwr⟩ := hrel
    obtain rfl := hwr.symm
    by_cases hlt : k < TT
    · have g1 : ((k : Int) < (ST : Int) + (H : Int) * 16) = True := eq_true (by have := HTF.out.1; omega)
      have hkl : k < s.cur.length := by have := HTL.out; omega
      have hcell := HB2.out w2 HF2.out k hkl
      have hz := isZ_step (s.cur.drop F2) (k - F2) (by rw [List.length_drop]; omega)
      rw [show k - F2 + 1 = k + 1 - F2 by omega] at hz
      have hgd : (s.cur.drop F2)[k - F2]'(by rw [List.length_drop]; omega) = s.cur[k] := by rw [List.getElem_drop]; congr 1; omega
      rw [hgd] at hz
      have q5 : (k < s.cur.length) = True := eq_true hkl
      have q6 : ((k : Int) < (s.cur.length : Int)) = True := eq_true (by omega)
      cases hzz : isZ ((s.cur.drop F2).take (k - F2)) with
      | true =>
        by_cases hc : s.cur[k] = 0
        · have e1 : (((s.cur[k]).toNat : Int) == 0) = true := by rw [hc]; rfl
          have e2 : (((s.cur[k]).toNat : Int) = 0) = True := eq_true (by rw [hc]; rfl)
          have hn : isZ ((s.cur.drop F2).take (k + 1 - F2)) = true := by rw [hz, hzz, hc]; rfl
          have HN := Lib.hid hn
          generalize (s.cur[k]).toNat = z at hcell e1 e2
          clear hz hgd hn hc hzz
          go_wp2
          go_roundw
          case rel => exact ⟨k + 1, by omega, by omega, by go_num, by rw [HN.out], (by first | trivial | rfl)⟩
          case measure => simp [RowKit.intOf]; omega
        · have hcn : ¬ (s.cur[k]).toNat = 0 := fun e => hc (by apply UInt8.toNat_inj.1; rw [e]; rfl)
          have e1 : (((s.cur[k]).toNat : Int) == 0) = false := beq_eq_false_iff_ne.2 (by omega)
          have e2 : (((s.cur[k]).toNat : Int) = 0) = False := eq_false (by omega)
          have hn : isZ ((s.cur.drop F2).take (k + 1 - F2)) = false := by rw [hz, hzz]; simp [hc]
          have HN := Lib.hid hn
          generalize (s.cur[k]).toNat = z at hcell e1 e2
          clear hz hgd hn hc hcn hzz
          go_wp2
          go_roundw
          case rel => exact ⟨k + 1, by omega, by omega, by go_num, by rw [HN.out], (by first | trivial | rfl)⟩
          case measure => simp [RowKit.intOf]; omega
      | false =>
        have hn : isZ ((s.cur.drop F2).take (k + 1 - F2)) = false := by rw [hz, hzz]; rfl
        have HN := Lib.hid hn
        clear hz hgd hn hzz hcell
        go_wp2
        go_roundw
        case rel => exact ⟨k + 1, by omega, by omega, by go_num, by rw [HN.out], (by first | trivial | rfl)⟩
        case measure => simp [RowKit.intOf]; omega
    · have hke : k = TT := by omega
      subst hke
      have g1 : ((k : Int) < (ST : Int) + (H : Int) * 16) = False := eq_false (by have := HTF.out.1; omega)
      cases hzz : isZ ((s.cur.drop F2).take (k - F2)) with
      | true =>
        have hop := HOP.out.1 hzz
        have HL := Lib.hid hop
        clear hop hzz hlt hk1 hk2
        go_wp2
        go_ret2
        exact ⟨.pointer (some ⟨w2.heap.size, 0, none⟩), by rw [HL.out]; rfl, rOpR.log 0 HL.out HLO.out (fun j hj => (HD.out.all j hj).2) HF2.out (RfS.refl (HD.out.keep HF2.out (fun _ _ h => h))) HBO.out⟩
      | false =>
        have hpos : F2 < k := by
          rcases (show F2 = k ∨ F2 < k by omega) with e | e
          · rw [e, Nat.sub_self, List.take_zero] at hzz; cases hzz
          · exact e
        have hop := HOP.out.2 hzz
        have hTTk := HTF.out
        have hmk := make_bytes w2 (k - F2) (by omega)
        rw [show ((k - F2 : Nat) : Int) = (ST : Int) + (H : Int) * 16 - ((ST : Int) + (NN : Int) * 16) by omega] at hmk
        have hNm := Nw.of_row (w := w2) (Rw.made w2 5 (List.replicate (k - F2) 0)) (Nat.le_refl _) (by rw [List.length_replicate]; unfold maxLen; omega) ((Fp.refl Non _).alloc _)
        rw [List.length_replicate] at hNm
        obtain ⟨x1, s1, hr⟩ : ∃ x y, (x, y) = wr F2 (List.replicate (k - F2) 0) s := ⟨_, _, rfl⟩
        have hw := rwrite_s ((HD.out.keep HF2.out (fun _ _ h => h)).keep hNm.fp (fun _ _ h => h)) F2 (by omega) _ _ hNm.sl (fun j hj ho => by have h1 := hNm.block j hj; have h2 := (HD.out.all j ho).2; have h3 := HF2.out.size; omega) (by rw [List.length_replicate]; omega) (by have := HAC.out; omega)
        rw [← hr, ← HFN.out] at hw
        have hac1 := wr_acts F2 (List.replicate (k - F2) 0) s
        rw [← hr] at hac1
        have HX1 := Lib.hid hr
        have HWR := Lib.hid hw
        have HNM := Lib.hid hNm.fp
        have HO := Lib.hid hop
        have HA1 := Lib.hid hac1
        clear hzz hlt hk1 hk2 hpos hop hTTk hNm hw hr hac1
        go_wp2_with fail
        clear hmk
        refine HWR.out.mono ?_
        rintro e w3 ⟨rfl, hS⟩
        have HS3 := Lib.hid (hS.non HNM.out)
        clear hS
        by_cases hx : x1 = 0
        · subst hx
          obtain ⟨pk, hdk, hbk, hnk⟩ := HS3.out.ex
          have hsy := rsync_s hdk (by have h1 : s1.acts ≤ s.acts + 1 := HA1.out; have h2 := HAC.out; omega)
          obtain ⟨x2, s2, hr⟩ : ∃ x y, (x, y) = dSync s1 := ⟨_, _, rfl⟩
          rw [hbk, ← hr] at hsy
          have HX2 := Lib.hid hr
          have HSY := Lib.hid hsy
          have HDK := Lib.hid (And.intro hbk hnk)
          have hsq : seqF [wr F2 (zr (k - F2)), dSync] s = (x2, s2) := by
            show seqF [wr F2 (List.replicate (k - F2) 0), dSync] s = _
            rw [seq_good (by rw [← HX1.out]), ← HX1.out, seq_last, hr]
          have HSQ := Lib.hid hsq
          clear hsy hdk hbk hnk hr hsq
          go_wp2_with fail
          refine HSY.out.mono ?_
          rintro e w4 ⟨rfl, hS⟩
          have HS4 := Lib.hid (RfS.then HDK.out.1 HDK.out.2 HS3.out.fp hS)
          clear hS
          by_cases hx : x2 = 0
          · subst hx
            have hl : lOpen s = (0, some ⟨1, rs⟩, s2) := by rw [HO.out, HSQ.out]; rfl
            have HL := Lib.hid hl
            clear hl
            go_wp2
            go_ret2
            exact ⟨.pointer (some ⟨w4.heap.size, 0, none⟩), by rw [HL.out]; rfl, rOpR.log 0 HL.out HLO.out (fun j hj => (HD.out.all j hj).2) HF2.out HS4.out HBO.out⟩
          · have hl : lOpen s = (x2, none, s2) := by rw [HO.out, HSQ.out, if_neg hx]
            have HL := Lib.hid hl
            have g1 : (x2 = 0) = False := eq_false hx
            have g2 : (x2 == 0) = false := beq_eq_false_iff_ne.2 hx
            clear hl hx
            go_wp2
            go_ret2
            exact ⟨.pointer none, by rw [HL.out]; rfl, rOpR.bad _ HL.out (HS4.out.non HF2.out)⟩
        · have hsq : seqF [wr F2 (zr (k - F2)), dSync] s = (x1, s1) := by
            show seqF [wr F2 (List.replicate (k - F2) 0), dSync] s = _
            rw [seq_bad (by rw [← HX1.out]; exact hx), ← HX1.out]
          have hl : lOpen s = (x1, none, s1) := by rw [HO.out, hsq, if_neg hx]
          have HL := Lib.hid hl
          have g1 : (x1 = 0) = False := eq_false hx
          have g2 : (x1 == 0) = false := beq_eq_false_iff_ne.2 hx
          clear hl hx hsq
          go_wp2
          go_ret2
          exact ⟨.pointer none, by rw [HL.out]; rfl, rOpR.bad _ HL.out (HS3.out.non HF2.out)⟩

set_option maxHeartbeats 8000000 in
theorem rOpen_o {lo : Nat} {p : At} {s : Dk} {w : World} (h : Rf lo p s w) (hlo : lo ≤ w.heap.size) (ho : s.off = false) (hh : ¬ hf s.cur < 16) (f : Bs) (hf0 : f = s.cur.take 16) (b1 : ((B f).toList == (B (sgn 1)).toList) = false) (b0 : ((B f).toList == (B (sgn 0)).toList) = true) (hsg : signed (s.cur.take 16) = some 0) (hac : s.acts ≤ 990000) :
    Calls Tryz.prog 9 #[.pointer (some ⟨p.b, 0, none⟩)] w fun e w' => ∃ pv, e = .returned (.tuple #[pv, .int .i64 (lOpen s).1]) ∧ rOpR lo p s w pv w' := by
  have c6 := h.c6
  have c0 := h.c0
  rw [ho] at c6
  obtain ⟨hcl, hw1, hw2⟩ := h.rt.curlen
  have hcap := h.cap.1
  have hhf := hf_hs s.cur
  have hsp := st_hs s.cur 0
  obtain ⟨ST, hST⟩ : ∃ ST, ST = st s.cur 0 := ⟨_, rfl⟩
  obtain ⟨H, hH⟩ : ∃ H, H = hs s.cur := ⟨_, rfl⟩
  obtain ⟨C, hC⟩ : ∃ C, C = con s.cur 0 := ⟨_, rfl⟩
  obtain ⟨rs, hrs⟩ : ∃ rs, rs = scan C 0 := ⟨_, rfl⟩
  obtain ⟨NN, hNN⟩ : ∃ NN, NN = nds rs := ⟨_, rfl⟩
  have hH1 : 1 ≤ H := by omega
  have hHb : H ≤ 2048 := by rw [hH]; exact hs_le _ (by omega)
  have hTl : ST + H * 16 ≤ s.cur.length := by
    rw [hST, hH, ← hhf]
    exact st_le s.cur 0 (by omega) (by omega)
  have hCl : C.length = H * 16 := by rw [hC, con_len _ _ (by rw [← hST, hhf, ← hH]; exact hTl), hhf, ← hH]
  have hun := usd_nds rs
  have hus : usd rs ≤ H * 16 := by rw [hrs, ← hCl]; exact (scan_le C 0 (by rw [hCl]; omega)).1
  obtain ⟨TT, hTT⟩ : ∃ TT, TT = ST + H * 16 := ⟨_, rfl⟩
  obtain ⟨F2, hF⟩ : ∃ F2, F2 = ST + NN * 16 := ⟨_, rfl⟩
  have hF2 : F2 ≤ TT := by omega
  have hTb : TT ≤ 70000 := by omega
  have hFNN : ((ST : Int) + (NN : Int) * 16) = (F2 : Int) := by omega
  have hNb : NN ≤ 5000 := by omega
  have hSb : ST ≤ 70000 := by omega
  have qg : (p.gc = ST) = False := eq_false (by omega)
  have q1 : ((s.cur.length : Int) < 48) = False := eq_false (by unfold hf at hh; omega)
  have q2 : ((16 : Int) ≤ (p.gc : Int)) = True := eq_true (by omega)
  have q3 : (16 ≤ p.gc) = True := eq_true (by omega)
  have q4 : ((ST : Int) + (H : Int) * 16 ≤ (p.gc : Int)) = True := eq_true (by omega)
  have q7 : (ST + H * 16 ≤ p.gc) = True := eq_true (by omega)
  have q8 : ST + H * 16 - ST = H * 16 := by omega
  have hsl := h.cur.sl h.cap.1.1 h.cap.1.2
  have k5 : (convert 22 9 (.slice (some ⟨p.g, 0, none⟩) 16 p.gc)).run Tryz.prog w = .ok (.string (B f)) w := by rw [hf0]; exact conv_sl _ _ _ (hsl.upto 16 (by omega))
  have hcon : Sl w (.slice (some ⟨p.g, ST, none⟩) (H * 16) (p.gc - ST)) C := by
    have := hsl.part ST (H * 16) hTl
    rw [Nat.zero_add] at this
    rw [hC]; unfold con; rw [← hST, hhf, ← hH]; exact this
  have hb2 : ∀ w2, Fp Non w w2 → ∀ k, (hk : k < s.cur.length) → w2.cell? ⟨p.g, k, none⟩ = some (.int .u8 ((s.cur[k]).toNat : Int)) := fun w2 f2 k hk => by
    have := f2.cell (h.cur.cell k (by simp [bcs, Lib.byteCells]; exact hk)) (fun h => h)
    rw [this]; simp [bcs, Lib.byteCells]
  have hzd : isZ ((con s.cur 0).drop (usd (scan (con s.cur 0) 0))) = isZ ((s.cur.drop F2).take (TT - F2)) := by
    rw [con_drop, ← hC, ← hrs, ← hST, hhf, ← hH, hun, ← hNN]
    rw [← hF, show H * 16 - NN * 16 = TT - F2 by omega]
  have hseq : seqF [wr (st s.cur 0 + usd (scan (con s.cur 0) 0)) (zr (hf s.cur - usd (scan (con s.cur 0) 0))), dSync] s = seqF [wr F2 (zr (TT - F2)), dSync] s := by
    rw [← hC, ← hrs, ← hST, hhf, ← hH, hun, ← hNN]
    rw [← hF, show H * 16 - NN * 16 = TT - F2 by omega]
  have hop : (isZ ((s.cur.drop F2).take (TT - F2)) = true → lOpen s = (0, some ⟨0, rs⟩, s)) ∧ (isZ ((s.cur.drop F2).take (TT - F2)) = false → lOpen s = if (seqF [wr F2 (zr (TT - F2)), dSync] s).1 = 0 then (0, some ⟨0, rs⟩, (seqF [wr F2 (zr (TT - F2)), dSync] s).2) else ((seqF [wr F2 (zr (TT - F2)), dSync] s).1, none, (seqF [wr F2 (zr (TT - F2)), dSync] s).2)) := by
    unfold lOpen
    rw [if_neg (by rw [ho]; exact Bool.false_ne_true), if_neg hh, hsg]
    simp only
    rw [hzd, hseq, ← hC, ← hrs]
    constructor
    · intro e; rw [if_pos e]
    · intro e; rw [if_neg (by rw [e]; exact Bool.false_ne_true)]
  have HOP := Lib.hid hop
  have HD := Lib.hid h
  have HLO := Lib.hid hlo
  have HC0 := Lib.hid c0
  have HV := Lib.hid (And.intro hST hH)
  have HCON := Lib.hid hcon
  have HCL := Lib.hid hCl
  have HRS := Lib.hid hrs
  have HRN := Lib.hid (show NN = nds (scan C 0) by rw [hNN, hrs])
  have HFN := Lib.hid hFNN
  have HTL := Lib.hid (show TT ≤ s.cur.length by omega)
  have HB2 := Lib.hid hb2
  have HAC := Lib.hid hac
  have HTF := Lib.hid (And.intro hTT hF)
  clear h hlo ho hh hf0 hsg hac hcl hw1 hw2 hcap hhf hsp hST hH hC hrs hNN hTl hCl hun hus hTT hF hFNN hsl hcon hb2 hzd hseq hop
  go_enter Tryz.func9, Tryz.ntmps9
  go_wp2_with fail
  refine (rsign_c 1 (by omega) w).mono ?_
  rintro e w1 ⟨u1, rfl, hN1⟩
  have kn1 := conv_sl _ _ _ hN1.sl
  have HN1 := Lib.hid hN1.fp
  obtain ⟨u1a, u1n, u1c, rfl⟩ := hN1.shape3
  clear hN1
  go_wp2_with fail
  refine (rsign_c 0 (by omega) w1).mono ?_
  rintro e w3 ⟨u3, rfl, hN3⟩
  have kn3 := conv_sl _ _ _ hN3.sl
  have HA := Lib.hid (HN1.out.then hN3.fp)
  obtain ⟨u3a, u3n, u3c, rfl⟩ := hN3.shape3
  clear hN3
  have hbg := begin_c (HD.out.keep HA.out (fun _ _ h => h)) 0 (by omega)
  have hhf := half_c (HD.out.keep HA.out (fun _ _ h => h))
  rw [← HV.out.1] at hbg
  rw [← HV.out.2] at hhf
  have HBG := Lib.hid hbg
  have HHF := Lib.hid hhf
  clear hbg hhf
  have c0a := HA.out.cell HC0.out (fun h => h)
  go_wp2_with fail
  refine HBG.out.mono ?_
  rintro e w' ⟨rfl, hw'⟩
  obtain rfl := hw'.symm
  clear hw'
  go_wp2_with fail
  refine HHF.out.mono ?_
  rintro e w' ⟨rfl, hw'⟩
  obtain rfl := hw'.symm
  clear hw'
  have hcon := HCON.out.keep HA.out (fun _ _ h => h)
  have hsc := rscan_c p.g ST (p.gc - ST) C w3 (by rw [HCL.out]; exact hcon) (by rw [HCL.out]; omega) (by rw [HCL.out]; omega)
  rw [HCL.out] at hsc
  have HSC := Lib.hid hsc
  clear hcon hsc
  go_wp2_with fail
  refine HSC.out.mono ?_
  rintro e w2 ⟨u, rfl, hf2, hbo⟩
  have HF2 := Lib.hid (HA.out.then hf2)
  have HBO := Lib.hid (show Bo w.heap.size (fun j => w.heap.size ≤ j ∧ j < w2.heap.size) w2 u rs by rw [HRS.out]; exact (hbo.low HA.out.size).wide (fun j hj => ⟨Nat.le_trans HA.out.size hj.1, hj.2⟩))
  obtain ⟨uao, ucap, hu⟩ := hbo.shape
  have c02 := HF2.out.cell HC0.out (fun h => h)
  rw [← HRS.out] at hu
  rw [← HRN.out]
  subst hu
  clear hf2 hbo c0a
  go_wp2_with fail
  go_loopw [10, 11] (fun cv iv wr => ∃ k : Nat, F2 ≤ k ∧ k ≤ TT ∧ iv = .int .i64 (k : Int) ∧ cv = .bool (isZ ((s.cur.drop F2).take (k - F2))) ∧ wr = w2) (fun _ iv _ => TT - (RowKit.intOf iv).toNat)
  case atStart => exact ⟨F2, Nat.le_refl _, hF2, congrArg (Value.int .i64) HFN.out, by simp [isZ], rfl⟩
  case round =>
    obtain ⟨k, hk1, hk2, rfl, rfl, hwr⟩ := hrel
    obtain rfl := hwr.symm
    by_cases hlt : k < TT
    · have g1 : ((k : Int) < (ST : Int) + (H : Int) * 16) = True := eq_true (by have := HTF.out.1; omega)
      have hkl : k < s.cur.length := by have := HTL.out; omega
      have hcell := HB2.out w2 HF2.out k hkl
      have hz := isZ_step (s.cur.drop F2) (k - F2) (by rw [List.length_drop]; omega)
      rw [show k - F2 + 1 = k + 1 - F2 by omega] at hz
      have hgd : (s.cur.drop F2)[k - F2]'(by rw [List.length_drop]; omega) = s.cur[k] := by rw [List.getElem_drop]; congr 1; omega
      rw [hgd] at hz
      have q5 : (k < s.cur.length) = True := eq_true hkl
      have q6 : ((k : Int) < (s.cur.length : Int)) = True := eq_true (by omega)
      cases hzz : isZ ((s.cur.drop F2).take (k - F2)) with
      | true =>
        by_cases hc : s.cur[k] = 0
        · have e1 : (((s.cur[k]).toNat : Int) == 0) = true := by rw [hc]; rfl
          have e2 : (((s.cur[k]).toNat : Int) = 0) = True := eq_true (by rw [hc]; rfl)
          have hn : isZ ((s.cur.drop F2).take (k + 1 - F2)) = true := by rw [hz, hzz, hc]; rfl
          have HN := Lib.hid hn
          generalize (s.cur[k]).toNat = z at hcell e1 e2
          clear hz hgd hn hc hzz
          go_wp2
          go_roundw
          case rel => exact ⟨k + 1, by omega, by omega, by go_num, by rw [HN.out], (by first | trivial | rfl)⟩
          case measure => simp [RowKit.intOf]; omega
        · have hcn : ¬ (s.cur[k]).toNat = 0 := fun e => hc (by apply UInt8.toNat_inj.1; rw [e]; rfl)
          have e1 : (((s.cur[k]).toNat : Int) == 0) = false := beq_eq_false_iff_ne.2 (by omega)
          have e2 : (((s.cur[k]).toNat : Int) = 0) = False := eq_false (by omega)
          have hn : isZ ((s.cur.drop F2).take (k + 1 - F2)) = false := by rw [hz, hzz]; simp [hc]
          have HN := Lib.hid hn
          generalize (s.cur[k]).toNat = z at hcell e1 e2
          clear hz hgd hn hc hcn hzz
          go_wp2
          go_roundw
          case rel => exact ⟨k + 1, by omega, by omega, by go_num, by rw [HN.out], (by first | trivial | rfl)⟩
          case measure => simp [RowKit.intOf]; omega
      | false =>
        have hn : isZ ((s.cur.drop F2).take (k + 1 - F2)) = false := by rw [hz, hzz]; rfl
        have HN := Lib.hid hn
        clear hz hgd hn hzz hcell
        go_wp2
        go_roundw
        case rel => exact ⟨k + 1, by omega, by omega, by go_num, by rw [HN.out], (by first | trivial | rfl)⟩
        case measure => simp [RowKit.intOf]; omega
    · have hke : k = TT := by omega
      subst hke
      have g1 : ((k : Int) < (ST : Int) + (H : Int) * 16) = False := eq_false (by have := HTF.out.1; omega)
      cases hzz : isZ ((s.cur.drop F2).take (k - F2)) with
      | true =>
        have hop := HOP.out.1 hzz
        have HL := Lib.hid hop
        clear hop hzz hlt hk1 hk2
        go_wp2
        go_ret2
        exact ⟨.pointer (some ⟨w2.heap.size, 0, none⟩), by rw [HL.out]; rfl, rOpR.log 0 HL.out HLO.out (fun j hj => (HD.out.all j hj).2) HF2.out (RfS.refl (HD.out.keep HF2.out (fun _ _ h => h))) HBO.out⟩
      | false =>
        have hpos : F2 < k := by
          rcases (show F2 = k ∨ F2 < k by omega) with e | e
          · rw [e, Nat.sub_self, List.take_zero] at hzz; cases hzz
          · exact e
        have hop := HOP.out.2 hzz
        have hTTk := HTF.out
        have hmk := make_bytes w2 (k - F2) (by omega)
        rw [show ((k - F2 : Nat) : Int) = (ST : Int) + (H : Int) * 16 - ((ST : Int) + (NN : Int) * 16) by omega] at hmk
        have hNm := Nw.of_row (w := w2) (Rw.made w2 5 (List.replicate (k - F2) 0)) (Nat.le_refl _) (by rw [List.length_replicate]; unfold maxLen; omega) ((Fp.refl Non _).alloc _)
        rw [List.length_replicate] at hNm
        obtain ⟨x1, s1, hr⟩ : ∃ x y, (x, y) = wr F2 (List.replicate (k - F2) 0) s := ⟨_, _, rfl⟩
        have hw := rwrite_s ((HD.out.keep HF2.out (fun _ _ h => h)).keep hNm.fp (fun _ _ h => h)) F2 (by omega) _ _ hNm.sl (fun j hj ho => by have h1 := hNm.block j hj; have h2 := (HD.out.all j ho).2; have h3 := HF2.out.size; omega) (by rw [List.length_replicate]; omega) (by have := HAC.out; omega)
        rw [← hr, ← HFN.out] at hw
        have hac1 := wr_acts F2 (List.replicate (k - F2) 0) s
        rw [← hr] at hac1
        have HX1 := Lib.hid hr
        have HWR := Lib.hid hw
        have HNM := Lib.hid hNm.fp
        have HO := Lib.hid hop
        have HA1 := Lib.hid hac1
        clear hzz hlt hk1 hk2 hpos hop hTTk hNm hw hr hac1
        go_wp2_with fail
        clear hmk
        refine HWR.out.mono ?_
        rintro e w3 ⟨rfl, hS⟩
        have HS3 := Lib.hid (hS.non HNM.out)
        clear hS
        by_cases hx : x1 = 0
        · subst hx
          obtain ⟨pk, hdk, hbk, hnk⟩ := HS3.out.ex
          have hsy := rsync_s hdk (by have h1 : s1.acts ≤ s.acts + 1 := HA1.out; have h2 := HAC.out; omega)
          obtain ⟨x2, s2, hr⟩ : ∃ x y, (x, y) = dSync s1 := ⟨_, _, rfl⟩
          rw [hbk, ← hr] at hsy
          have HX2 := Lib.hid hr
          have HSY := Lib.hid hsy
          have HDK := Lib.hid (And.intro hbk hnk)
          have hsq : seqF [wr F2 (zr (k - F2)), dSync] s = (x2, s2) := by
            show seqF [wr F2 (List.replicate (k - F2) 0), dSync] s = _
            rw [seq_good (by rw [← HX1.out]), ← HX1.out, seq_last, hr]
          have HSQ := Lib.hid hsq
          clear hsy hdk hbk hnk hr hsq
          go_wp2_with fail
          refine HSY.out.mono ?_
          rintro e w4 ⟨rfl, hS⟩
          have HS4 := Lib.hid (RfS.then HDK.out.1 HDK.out.2 HS3.out.fp hS)
          clear hS
          by_cases hx : x2 = 0
          · subst hx
            have hl : lOpen s = (0, some ⟨0, rs⟩, s2) := by rw [HO.out, HSQ.out]; rfl
            have HL := Lib.hid hl
            clear hl
            go_wp2
            go_ret2
            exact ⟨.pointer (some ⟨w4.heap.size, 0, none⟩), by rw [HL.out]; rfl, rOpR.log 0 HL.out HLO.out (fun j hj => (HD.out.all j hj).2) HF2.out HS4.out HBO.out⟩
          · have hl : lOpen s = (x2, none, s2) := by rw [HO.out, HSQ.out, if_neg hx]
            have HL := Lib.hid hl
            have g1 : (x2 = 0) = False := eq_false hx
            have g2 : (x2 == 0) = false := beq_eq_false_iff_ne.2 hx
            clear hl hx
            go_wp2
            go_ret2
            exact ⟨.pointer none, by rw [HL.out]; rfl, rOpR.bad _ HL.out (HS4.out.non HF2.out)⟩
        · have hsq : seqF [wr F2 (zr (k - F2)), dSync] s = (x1, s1) := by
            show seqF [wr F2 (List.replicate (k - F2) 0), dSync] s = _
            rw [seq_bad (by rw [← HX1.out]; exact hx), ← HX1.out]
          have hl : lOpen s = (x1, none, s1) := by rw [HO.out, hsq, if_neg hx]
          have HL := Lib.hid hl
          have g1 : (x1 = 0) = False := eq_false hx
          have g2 : (x1 == 0) = false := beq_eq_false_iff_ne.2 hx
          clear hl hx hsq
          go_wp2
          go_ret2
          exact ⟨.pointer none, by rw [HL.out]; rfl, rOpR.bad _ HL.out (HS3.out.non HF2.out)⟩

set_option maxHeartbeats 8000000 in
theorem rOpen_z {lo : Nat} {p : At} {s : Dk} {w : World} (h : Rf lo p s w) (hlo : lo ≤ w.heap.size) (ho : s.off = false) (hh : ¬ hf s.cur < 16) (f : Bs) (hf0 : f = s.cur.take 16) (b1 : ((B f).toList == (B (sgn 1)).toList) = false) (b0 : ((B f).toList == (B (sgn 0)).toList) = false) (bz : ((B f).toList == (B (zr 16)).toList) = true) (hsg : signed (s.cur.take 16) = some 0) (hac : s.acts ≤ 990000) :
    Calls Tryz.prog 9 #[.pointer (some ⟨p.b, 0, none⟩)] w fun e w' => ∃ pv, e = .returned (.tuple #[pv, .int .i64 (lOpen s).1]) ∧ rOpR lo p s w pv w' := by
  have c6 := h.c6
  have c0 := h.c0
  rw [ho] at c6
  obtain ⟨hcl, hw1, hw2⟩ := h.rt.curlen
  have hcap := h.cap.1
  have hhf := hf_hs s.cur
  have hsp := st_hs s.cur 0
  obtain ⟨ST, hST⟩ : ∃ ST, ST = st s.cur 0 := ⟨_, rfl⟩
  obtain ⟨H, hH⟩ : ∃ H, H = hs s.cur := ⟨_, rfl⟩
  obtain ⟨C, hC⟩ : ∃ C, C = con s.cur 0 := ⟨_, rfl⟩
  obtain ⟨rs, hrs⟩ : ∃ rs, rs = scan C 0 := ⟨_, rfl⟩
  obtain ⟨NN, hNN⟩ : ∃ NN, NN = nds rs := ⟨_, rfl⟩
  have hH1 : 1 ≤ H := by omega
  have hHb : H ≤ 2048 := by rw [hH]; exact hs_le _ (by omega)
  have hTl : ST + H * 16 ≤ s.cur.length := by
    rw [hST, hH, ← hhf]
    exact st_le s.cur 0 (by omega) (by omega)
  have hCl : C.length = H * 16 := by rw [hC, con_len _ _ (by rw [← hST, hhf, ← hH]; exact hTl), hhf, ← hH]
  have hun := usd_nds rs
  have hus : usd rs ≤ H * 16 := by rw [hrs, ← hCl]; exact (scan_le C 0 (by rw [hCl]; omega)).1
  obtain ⟨TT, hTT⟩ : ∃ TT, TT = ST + H * 16 := ⟨_, rfl⟩
  obtain ⟨F2, hF⟩ : ∃ F2, F2 = ST + NN * 16 := ⟨_, rfl⟩
  have hF2 : F2 ≤ TT := by omega
  have hTb : TT ≤ 70000 := by omega
  have hFNN : ((ST : Int) + (NN : Int) * 16) = (F2 : Int) := by omega
  have hNb : NN ≤ 5000 := by omega
  have hSb : ST ≤ 70000 := by omega
  have qg : (p.gc = ST) = False := eq_false (by omega)
  have q1 : ((s.cur.length : Int) < 48) = False := eq_false (by unfold hf at hh; omega)
  have q2 : ((16 : Int) ≤ (p.gc : Int)) = True := eq_true (by omega)
  have q3 : (16 ≤ p.gc) = True := eq_true (by omega)
  have q4 : ((ST : Int) + (H : Int) * 16 ≤ (p.gc : Int)) = True := eq_true (by omega)
  have q7 : (ST + H * 16 ≤ p.gc) = True := eq_true (by omega)
  have q8 : ST + H * 16 - ST = H * 16 := by omega
  have hsl := h.cur.sl h.cap.1.1 h.cap.1.2
  have k5 : (convert 22 9 (.slice (some ⟨p.g, 0, none⟩) 16 p.gc)).run Tryz.prog w = .ok (.string (B f)) w := by rw [hf0]; exact conv_sl _ _ _ (hsl.upto 16 (by omega))
  have hcon : Sl w (.slice (some ⟨p.g, ST, none⟩) (H * 16) (p.gc - ST)) C := by
    have := hsl.part ST (H * 16) hTl
    rw [Nat.zero_add] at this
    rw [hC]; unfold con; rw [← hST, hhf, ← hH]; exact this
  have hb2 : ∀ w2, Fp Non w w2 → ∀ k, (hk : k < s.cur.length) → w2.cell? ⟨p.g, k, none⟩ = some (.int .u8 ((s.cur[k]).toNat : Int)) := fun w2 f2 k hk => by
    have := f2.cell (h.cur.cell k (by simp [bcs, Lib.byteCells]; exact hk)) (fun h => h)
    rw [this]; simp [bcs, Lib.byteCells]
  have hzd : isZ ((con s.cur 0).drop (usd (scan (con s.cur 0) 0))) = isZ ((s.cur.drop F2).take (TT - F2)) := by
    rw [con_drop, ← hC, ← hrs, ← hST, hhf, ← hH, hun, ← hNN]
    rw [← hF, show H * 16 - NN * 16 = TT - F2 by omega]
  have hseq : seqF [wr (st s.cur 0 + usd (scan (con s.cur 0) 0)) (zr (hf s.cur - usd (scan (con s.cur 0) 0))), dSync] s = seqF [wr F2 (zr (TT - F2)), dSync] s := by
    rw [← hC, ← hrs, ← hST, hhf, ← hH, hun, ← hNN]
    rw [← hF, show H * 16 - NN * 16 = TT - F2 by omega]
  have hop : (isZ ((s.cur.drop F2).take (TT - F2)) = true → lOpen s = (0, some ⟨0, rs⟩, s)) ∧ (isZ ((s.cur.drop F2).take (TT - F2)) = false → lOpen s = if (seqF [wr F2 (zr (TT - F2)), dSync] s).1 = 0 then (0, some ⟨0, rs⟩, (seqF [wr F2 (zr (TT - F2)), dSync] s).2) else ((seqF [wr F2 (zr (TT - F2)), dSync] s).1, none, (seqF [wr F2 (zr (TT - F2)), dSync] s).2)) := by
    unfold lOpen
    rw [if_neg (by rw [ho]; exact Bool.false_ne_true), if_neg hh, hsg]
    simp only
    rw [hzd, hseq, ← hC, ← hrs]
    constructor
    · intro e; rw [if_pos e]
    · intro e; rw [if_neg (by rw [e]; exact Bool.false_ne_true)]
  have HOP := Lib.hid hop
  have HD := Lib.hid h
  have HLO := Lib.hid hlo
  have HC0 := Lib.hid c0
  have HV := Lib.hid (And.intro hST hH)
  have HCON := Lib.hid hcon
  have HCL := Lib.hid hCl
  have HRS := Lib.hid hrs
  have HRN := Lib.hid (show NN = nds (scan C 0) by rw [hNN, hrs])
  have HFN := Lib.hid hFNN
  have HTL := Lib.hid (show TT ≤ s.cur.length by omega)
  have HB2 := Lib.hid hb2
  have HAC := Lib.hid hac
  have HTF := Lib.hid (And.intro hTT hF)
  clear h hlo ho hh hf0 hsg hac hcl hw1 hw2 hcap hhf hsp hST hH hC hrs hNN hTl hCl hun hus hTT hF hFNN hsl hcon hb2 hzd hseq hop
  go_enter Tryz.func9, Tryz.ntmps9
  go_wp2_with fail
  refine (rsign_c 1 (by omega) w).mono ?_
  rintro e w1 ⟨u1, rfl, hN1⟩
  have kn1 := conv_sl _ _ _ hN1.sl
  have HN1 := Lib.hid hN1.fp
  obtain ⟨u1a, u1n, u1c, rfl⟩ := hN1.shape3
  clear hN1
  go_wp2_with fail
  refine (rsign_c 0 (by omega) w1).mono ?_
  rintro e w3 ⟨u3, rfl, hN3⟩
  have kn3 := conv_sl _ _ _ hN3.sl
  have hmz := make_bytes w3 16 (by omega)
  rw [show ((16 : Nat) : Int) = 16 from rfl] at hmz
  have hNz := Nw.of_row (w := w3) (Rw.made w3 5 (List.replicate 16 0)) (Nat.le_refl _) (by rw [List.length_replicate]; unfold maxLen; omega) ((Fp.refl Non _).alloc _)
  rw [List.length_replicate] at hNz
  obtain ⟨W4, hW4⟩ : ∃ W4, W4 = w3.alloc (.cells (Lib.byteCells (List.replicate 16 0)).toArray 5) := ⟨_, rfl⟩
  rw [← hW4] at hmz hNz
  have kn4 : (convert 22 9 (.slice (some ⟨w3.heap.size, 0, none⟩) 16 16)).run Tryz.prog W4 = .ok (.string (B (zr 16))) W4 := conv_sl _ _ _ hNz.sl
  have HA := Lib.hid ((HN1.out.then hN3.fp).then hNz.fp)
  obtain ⟨u3a, u3n, u3c, rfl⟩ := hN3.shape3
  clear hN3 hNz hW4
  have hbg := begin_c (HD.out.keep HA.out (fun _ _ h => h)) 0 (by omega)
  have hhf := half_c (HD.out.keep HA.out (fun _ _ h => h))
  rw [← HV.out.1] at hbg
  rw [← HV.out.2] at hhf
  have HBG := Lib.hid hbg
  have HHF := Lib.hid hhf
  clear hbg hhf
  have c0a := HA.out.cell HC0.out (fun h => h)
  go_wp2_with fail
  refine HBG.out.mono ?_
  rintro e w' ⟨rfl, hw'⟩
  obtain rfl := hw'.symm
  clear hw'
  go_wp2_with fail
  refine HHF.out.mono ?_
  rintro e w' ⟨rfl, hw'⟩
  obtain rfl := hw'.symm
  clear hw'
  have hcon := HCON.out.keep HA.out (fun _ _ h => h)
  have hsc := rscan_c p.g ST (p.gc - ST) C W4 (by rw [HCL.out]; exact hcon) (by rw [HCL.out]; omega) (by rw [HCL.out]; omega)
  rw [HCL.out] at hsc
  have HSC := Lib.hid hsc
  clear hcon hsc
  go_wp2_with fail
  refine HSC.out.mono ?_
  rintro e w2 ⟨u, rfl, hf2, hbo⟩
  have HF2 := Lib.hid (HA.out.then hf2)
  have HBO := Lib.hid (show Bo w.heap.size (fun j => w.heap.size ≤ j ∧ j < w2.heap.size) w2 u rs by rw [HRS.out]; exact (hbo.low HA.out.size).wide (fun j hj => ⟨Nat.le_trans HA.out.size hj.1, hj.2⟩))
  obtain ⟨uao, ucap, hu⟩ := hbo.shape
  have c02 := HF2.out.cell HC0.out (fun h => h)
  rw [← HRS.out] at hu
  rw [← HRN.out]
  subst hu
  clear hf2 hbo c0a
  go_wp2_with fail
  go_loopw [10, 11] (fun cv iv wr => ∃ k : Nat, F2 ≤ k ∧ k ≤ TT ∧ iv = .int .i64 (k : Int) ∧ cv = .bool (isZ ((s.cur.drop F2).take (k - F2))) ∧ wr = w2) (fun _ iv _ => TT - (RowKit.intOf iv).toNat)
  case atStart => exact ⟨F2, Nat.le_refl _, hF2, congrArg (Value.int .i64) HFN.out, by simp [isZ], rfl⟩
  case round =>
    obtain ⟨k, hk1, hk2, rfl, rfl, hwr⟩ := hrel
    obtain rfl := hwr.symm
    by_cases hlt : k < TT
    · have g1 : ((k : Int) < (ST : Int) + (H : Int) * 16) = True := eq_true (by have := HTF.out.1; omega)
      have hkl : k < s.cur.length := by have := HTL.out; omega
      have hcell := HB2.out w2 HF2.out k hkl
      have hz := isZ_step (s.cur.drop F2) (k - F2) (by rw [List.length_drop]; omega)
      rw [show k - F2 + 1 = k + 1 - F2 by omega] at hz
      have hgd : (s.cur.drop F2)[k - F2]'(by rw [List.length_drop]; omega) = s.cur[k] := by rw [List.getElem_drop]; congr 1; omega
      rw [hgd] at hz
      have q5 : (k < s.cur.length) = True := eq_true hkl
      have q6 : ((k : Int) < (s.cur.length : Int)) = True := eq_true (by omega)
      cases hzz : isZ ((s.cur.drop F2).take (k - F2)) with
      | true =>
        by_cases hc : s.cur[k] = 0
        · have e1 : (((s.cur[k]).toNat : Int) == 0) = true := by rw [hc]; rfl
          have e2 : (((s.cur[k]).toNat : Int) = 0) = True := eq_true (by rw [hc]; rfl)
          have hn : isZ ((s.cur.drop F2).take (k + 1 - F2)) = true := by rw [hz, hzz, hc]; rfl
          have HN := Lib.hid hn
          generalize (s.cur[k]).toNat = z at hcell e1 e2
          clear hz hgd hn hc hzz
          go_wp2
          go_roundw
          case rel => exact ⟨k + 1, by omega, by omega, by go_num, by rw [HN.out], (by first | trivial | rfl)⟩
          case measure => simp [RowKit.intOf]; omega
        · have hcn : ¬ (s.cur[k]).toNat = 0 := fun e => hc (by apply UInt8.toNat_inj.1; rw [e]; rfl)
          have e1 : (((s.cur[k]).toNat : Int) == 0) = false := beq_eq_false_iff_ne.2 (by omega)
          have e2 : (((s.cur[k]).toNat : Int) = 0) = False := eq_false (by omega)
          have hn : isZ ((s.cur.drop F2).take (k + 1 - F2)) = false := by rw [hz, hzz]; simp [hc]
          have HN := Lib.hid hn
          generalize (s.cur[k]).toNat = z at hcell e1 e2
          clear hz hgd hn hc hcn hzz
          go_wp2
          go_roundw
          case rel => exact ⟨k + 1, by omega, by omega, by go_num, by rw [HN.out], (by first | trivial | rfl)⟩
          case measure => simp [RowKit.intOf]; omega
      | false =>
        have hn : isZ ((s.cur.drop F2).take (k + 1 - F2)) = false := by rw [hz, hzz]; rfl
        have HN := Lib.hid hn
        clear hz hgd hn hzz hcell
        go_wp2
        go_roundw
        case rel => exact ⟨k + 1, by omega, by omega, by go_num, by rw [HN.out], (by first | trivial | rfl)⟩
        case measure => simp [RowKit.intOf]; omega
    · have hke : k = TT := by omega
      subst hke
      have g1 : ((k : Int) < (ST : Int) + (H : Int) * 16) = False := eq_false (by have := HTF.out.1; omega)
      cases hzz : isZ ((s.cur.drop F2).take (k - F2)) with
      | true =>
        have hop := HOP.out.1 hzz
        have HL := Lib.hid hop
        clear hop hzz hlt hk1 hk2
        go_wp2
        go_ret2
        exact ⟨.pointer (some ⟨w2.heap.size, 0, none⟩), by rw [HL.out]; rfl, rOpR.log 0 HL.out HLO.out (fun j hj => (HD.out.all j hj).2) HF2.out (RfS.refl (HD.out.keep HF2.out (fun _ _ h => h))) HBO.out⟩
      | false =>
        have hpos : F2 < k := by
          rcases (show F2 = k ∨ F2 < k by omega) with e | e
          · rw [e, Nat.sub_self, List.take_zero] at hzz; cases hzz
          · exact e
        have hop := HOP.out.2 hzz
        have hTTk := HTF.out
        have hmk := make_bytes w2 (k - F2) (by omega)
        rw [show ((k - F2 : Nat) : Int) = (ST : Int) + (H : Int) * 16 - ((ST : Int) + (NN : Int) * 16) by omega] at hmk
        have hNm := Nw.of_row (w := w2) (Rw.made w2 5 (List.replicate (k - F2) 0)) (Nat.le_refl _) (by rw [List.length_replicate]; unfold maxLen; omega) ((Fp.refl Non _).alloc _)
        rw [List.length_replicate] at hNm
        obtain ⟨x1, s1, hr⟩ : ∃ x y, (x, y) = wr F2 (List.replicate (k - F2) 0) s := ⟨_, _, rfl⟩
        have hw := rwrite_s ((HD.out.keep HF2.out (fun _ _ h => h)).keep hNm.fp (fun _ _ h => h)) F2 (by omega) _ _ hNm.sl (fun j hj ho => by have h1 := hNm.block j hj; have h2 := (HD.out.all j ho).2; have h3 := HF2.out.size; omega) (by rw [List.length_replicate]; omega) (by have := HAC.out; omega)
        rw [← hr, ← HFN.out] at hw
        have hac1 := wr_acts F2 (List.replicate (k - F2) 0) s
        rw [← hr] at hac1
        have HX1 := Lib.hid hr
        have HWR := Lib.hid hw
        have HNM := Lib.hid hNm.fp
        have HO := Lib.hid hop
        have HA1 := Lib.hid hac1
        clear hzz hlt hk1 hk2 hpos hop hTTk hNm hw hr hac1
        go_wp2_with fail
        clear hmk
        refine HWR.out.mono ?_
        rintro e w3 ⟨rfl, hS⟩
        have HS3 := Lib.hid (hS.non HNM.out)
        clear hS
        by_cases hx : x1 = 0
        · subst hx
          obtain ⟨pk, hdk, hbk, hnk⟩ := HS3.out.ex
          have hsy := rsync_s hdk (by have h1 : s1.acts ≤ s.acts + 1 := HA1.out; have h2 := HAC.out; omega)
          obtain ⟨x2, s2, hr⟩ : ∃ x y, (x, y) = dSync s1 := ⟨_, _, rfl⟩
          rw [hbk, ← hr] at hsy
          have HX2 := Lib.hid hr
          have HSY := Lib.hid hsy
          have HDK := Lib.hid (And.intro hbk hnk)
          have hsq : seqF [wr F2 (zr (k - F2)), dSync] s = (x2, s2) := by
            show seqF [wr F2 (List.replicate (k - F2) 0), dSync] s = _
            rw [seq_good (by rw [← HX1.out]), ← HX1.out, seq_last, hr]
          have HSQ := Lib.hid hsq
          clear hsy hdk hbk hnk hr hsq
          go_wp2_with fail
          refine HSY.out.mono ?_
          rintro e w4 ⟨rfl, hS⟩
          have HS4 := Lib.hid (RfS.then HDK.out.1 HDK.out.2 HS3.out.fp hS)
          clear hS
          by_cases hx : x2 = 0
          · subst hx
            have hl : lOpen s = (0, some ⟨0, rs⟩, s2) := by rw [HO.out, HSQ.out]; rfl
            have HL := Lib.hid hl
            clear hl
            go_wp2
            go_ret2
            exact ⟨.pointer (some ⟨w4.heap.size, 0, none⟩), by rw [HL.out]; rfl, rOpR.log 0 HL.out HLO.out (fun j hj => (HD.out.all j hj).2) HF2.out HS4.out HBO.out⟩
          · have hl : lOpen s = (x2, none, s2) := by rw [HO.out, HSQ.out, if_neg hx]
            have HL := Lib.hid hl
            have g1 : (x2 = 0) = False := eq_false hx
            have g2 : (x2 == 0) = false := beq_eq_false_iff_ne.2 hx
            clear hl hx
            go_wp2
            go_ret2
            exact ⟨.pointer none, by rw [HL.out]; rfl, rOpR.bad _ HL.out (HS4.out.non HF2.out)⟩
        · have hsq : seqF [wr F2 (zr (k - F2)), dSync] s = (x1, s1) := by
            show seqF [wr F2 (List.replicate (k - F2) 0), dSync] s = _
            rw [seq_bad (by rw [← HX1.out]; exact hx), ← HX1.out]
          have hl : lOpen s = (x1, none, s1) := by rw [HO.out, hsq, if_neg hx]
          have HL := Lib.hid hl
          have g1 : (x1 = 0) = False := eq_false hx
          have g2 : (x1 == 0) = false := beq_eq_false_iff_ne.2 hx
          clear hl hx hsq
          go_wp2
          go_ret2
          exact ⟨.pointer none, by rw [HL.out]; rfl, rOpR.bad _ HL.out (HS3.out.non HF2.out)⟩

set_option maxHeartbeats 2000000 in
theorem rOpen_corrupt {lo : Nat} {p : At} {s : Dk} {w : World} (h : Rf lo p s w) (ho : s.off = false) (hh : ¬ hf s.cur < 16) (f : Bs) (hf0 : f = s.cur.take 16) (b1 : ((B f).toList == (B (sgn 1)).toList) = false) (b0 : ((B f).toList == (B (sgn 0)).toList) = false) (bz : ((B f).toList == (B (zr 16)).toList) = false) (hsg : signed (s.cur.take 16) = none) :
    Calls Tryz.prog 9 #[.pointer (some ⟨p.b, 0, none⟩)] w fun e w' => ∃ pv, e = .returned (.tuple #[pv, .int .i64 (lOpen s).1]) ∧ rOpR lo p s w pv w' := by
  have e : lOpen s = (3, none, s) := by unfold lOpen; rw [if_neg (by rw [ho]; exact Bool.false_ne_true), if_neg hh, hsg]
  have hR := fun w' (g : Fp Non w w') => rOpR.err h 3 e g
  have c6 := h.c6
  have c0 := h.c0
  rw [ho] at c6
  rw [e]
  obtain ⟨hcl, hw1, hw2⟩ := h.rt.curlen
  have hcap := h.cap.1
  have q1 : ((s.cur.length : Int) < 48) = False := eq_false (by unfold hf at hh; omega)
  have q2 : ((16 : Int) ≤ (p.gc : Int)) = True := eq_true (by unfold hf at hh; omega)
  have q3 : (16 ≤ p.gc) = True := eq_true (by unfold hf at hh; omega)
  have k5 : (convert 22 9 (.slice (some ⟨p.g, 0, none⟩) 16 p.gc)).run Tryz.prog w = .ok (.string (B f)) w := by rw [hf0]; exact conv_sl _ _ _ ((h.cur.sl h.cap.1.1 h.cap.1.2).upto 16 (by unfold hf at hh; omega))
  have HR := Lib.hid hR
  clear h ho hh hf0 hsg hcl hw1 hw2 hcap e hR
  go_enter Tryz.func9, Tryz.ntmps9
  go_wp2_with fail
  refine (rsign_c 1 (by omega) w).mono ?_
  rintro e w1 ⟨u1, rfl, hN1⟩
  have kn1 := conv_sl _ _ _ hN1.sl
  have HN1 := Lib.hid hN1.fp
  obtain ⟨u1a, u1n, u1c, rfl⟩ := hN1.shape3
  clear hN1
  go_wp2_with fail
  refine (rsign_c 0 (by omega) w1).mono ?_
  rintro e w3 ⟨u3, rfl, hN3⟩
  have kn3 := conv_sl _ _ _ hN3.sl
  have hmz := make_bytes w3 16 (by omega)
  rw [show ((16 : Nat) : Int) = 16 from rfl] at hmz
  have hNz := Nw.of_row (w := w3) (Rw.made w3 5 (List.replicate 16 0)) (Nat.le_refl _) (by rw [List.length_replicate]; unfold maxLen; omega) ((Fp.refl Non _).alloc _)
  rw [List.length_replicate] at hNz
  obtain ⟨W4, hW4⟩ : ∃ W4, W4 = w3.alloc (.cells (Lib.byteCells (List.replicate 16 0)).toArray 5) := ⟨_, rfl⟩
  rw [← hW4] at hmz hNz
  have kn4 : (convert 22 9 (.slice (some ⟨w3.heap.size, 0, none⟩) 16 16)).run Tryz.prog W4 = .ok (.string (B (zr 16))) W4 := conv_sl _ _ _ hNz.sl
  have HA := Lib.hid ((HN1.out.then hN3.fp).then hNz.fp)
  obtain ⟨u3a, u3n, u3c, rfl⟩ := hN3.shape3
  clear hN3 hNz hW4
  go_wp2
  go_ret2
  exact ⟨.pointer none, rfl, HR.out _ HA.out⟩

theorem rOpen_c {lo : Nat} {p : At} {s : Dk} {w : World} (h : Rf lo p s w) (hlo : lo ≤ w.heap.size) (hac : s.acts ≤ 990000) :
    Calls Tryz.prog 9 #[.pointer (some ⟨p.b, 0, none⟩)] w fun e w' => ∃ pv, e = .returned (.tuple #[pv, .int .i64 (lOpen s).1]) ∧ rOpR lo p s w pv w' := by
  cases ho : s.off with
  | true => exact rOpen_off h ho
  | false =>
    by_cases hh : hf s.cur < 16
    · exact rOpen_small h ho hh
    · have hb : ∀ x y : Bs, ((B x).toList == (B y).toList) = decide (x = y) := fun x y => by rw [B_eq]
      have n01 : ¬ sgn 0 = sgn 1 := fun e => by simp [sgn] at e
      have nz1 : ¬ zr 16 = sgn 1 := fun e => by simp [sgn, zr, List.replicate] at e
      have nz0 : ¬ zr 16 = sgn 0 := fun e => by simp [sgn, zr, List.replicate] at e
      by_cases hz : s.cur.take 16 = zr 16
      · have hsg : signed (s.cur.take 16) = some 0 := by unfold signed; rw [if_pos hz]
        exact rOpen_z h hlo ho hh (zr 16) hz.symm (by rw [hb]; exact decide_eq_false nz1) (by rw [hb]; exact decide_eq_false nz0) (by rw [hb]; exact decide_eq_true rfl) hsg hac
      · by_cases h0 : s.cur.take 16 = sgn 0
        · have hsg : signed (s.cur.take 16) = some 0 := by unfold signed; rw [if_neg hz, if_pos h0]
          exact rOpen_o h hlo ho hh (sgn 0) h0.symm (by rw [hb]; exact decide_eq_false n01) (by rw [hb]; exact decide_eq_true rfl) hsg hac
        · by_cases h1 : s.cur.take 16 = sgn 1
          · have hsg : signed (s.cur.take 16) = some 1 := by unfold signed; rw [if_neg hz, if_neg h0, if_pos h1]
            exact rOpen_one h hlo ho hh (sgn 1) h1.symm (by rw [hb]; exact decide_eq_true rfl) hsg hac
          · have hsg : signed (s.cur.take 16) = none := by unfold signed; rw [if_neg hz, if_neg h0, if_neg h1]
            exact rOpen_corrupt h ho hh _ rfl (by rw [hb]; exact decide_eq_false h1) (by rw [hb]; exact decide_eq_false h0) (by rw [hb]; exact decide_eq_false hz) hsg
end Go.Proofs.YtankfmlafmjaeaaGreat
