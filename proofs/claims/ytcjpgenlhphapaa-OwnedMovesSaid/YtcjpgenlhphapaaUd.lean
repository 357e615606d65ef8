/- OwnedMoves: of two that keep ranges what is frozen at one, installed at the other with the next epoch, and dropped, is kept by just that one; it can go back likewise (gen_ud.py) -/
import Derived.Test.YtcjpgenlhphapaaOt
import Derived.Test.YtcjpgenlhphapaaRc
namespace Go.Proofs.Ytcjpgenlhphapaa
set_option maxRecDepth 20000
set_option linter.unusedVariables false
set_option linter.unusedSimpArgs false
open Go.RowKit Pm


/-- The pair in memory: cell j holds A, the other one B. -/
structure MvM (p : Bs) (k G : Nat) (w wr : World) : Prop where
  ex : ∃ A B, ∃ xa xb : Option Addr × Nat × Nat, MvI p k A B ∧ NsH wr (.slice xa.1 xa.2.1 xa.2.2) A ∧ NsH wr (.slice xb.1 xb.2.1 xb.2.2) B ∧
    wr.heap[G]? = some (.cells (if k % 2 = 0 then #[.slice xa.1 xa.2.1 xa.2.2, .slice xb.1 xb.2.1 xb.2.2] else #[.slice xb.1 xb.2.1 xb.2.2, .slice xa.1 xa.2.1 xa.2.2]) TLH (0, 0))
  fp : Fp Non w wr
theorem NsH.trip {w : World} {v : Value} {l : List Hl} (h : NsH w v l) : ∃ x : Option Addr × Nat × Nat, v = .slice x.1 x.2.1 x.2.2 ∧ x.2.1 = l.length := by
  obtain ⟨ao, cap, rfl⟩ := h.shape; exact ⟨(ao, l.length, cap), rfl, rfl⟩
theorem rowH_ns {w : World} {b : Nat} {x : Hl} (h : w.heap[b]? = some (.cells #[.string (B x.d), .int .i64 x.t, .int .i64 x.a] TH (0, 0))) : NsH w (.slice (some ⟨b, 0, none⟩) 1 1) [x] := by
  refine ⟨_, 1, rfl, Nat.le_refl _, by unfold maxLen; omega, .inr ⟨b, 0, rfl, (Array.getElem?_eq_some_iff.1 h).1, fun i hi => ?_⟩⟩
  have hi0 : i = 0 := by simpa using hi
  subst hi0
  exact ⟨by rw [cell_of_row _ _ _ _ _ _ h]; rfl, by rw [cell_of_row _ _ _ _ _ _ h]; rfl, by rw [cell_of_row _ _ _ _ _ _ h]; rfl⟩

set_option maxHeartbeats 16000000 in
theorem lawOwnedMoves_c (p : Bs) (ways : Int) (w : World) (hw : 0 ≤ ways ∧ ways ≤ 255) :
    Calls Try.prog 7 #[.string (B p), .int .u8 ways] w fun e w' => e = .returned (.bool true) ∧ Fp Non w w' := by
  obtain ⟨n, rfl⟩ := Int.eq_ofNat_of_zero_le hw.1
  obtain ⟨m, hm⟩ : ∃ m, m = n % 20 := ⟨_, rfl⟩
  have hmb : m < 20 := by omega
  have HM := Lib.hid hm
  clear hm
  have hpr := fun W (h : p.length ≤ 1000000) => rRight_g p W (sz_of h (by omega))
  have HPR := Lib.hid hpr
  clear hpr
  go_enter Try.func7, Try.ntmps7
  go_wp2_with fail
  refine (head_c _).mono ?_
  rintro e w1 ⟨rfl, hf1⟩
  have F1 := Lib.hid hf1
  clear hf1
  by_cases hp : 1000 < p.length
  · have q1 : ((1000 : Int) < (p.length : Int)) = True := eq_true (by omega)
    have q2 : (1000 < p.length) = True := eq_true hp
    clear hp
    go_wp2
    go_ret
    exact ⟨rfl, F1.out⟩
  have q1 : ((1000 : Int) < (p.length : Int)) = False := eq_false (by omega)
  have q2 : (1000 < p.length) = False := eq_false hp
  have hpb : p.length ≤ 1000000 := by omega
  have HPB := Lib.hid hpb
  clear hp hpb
  go_wp2_with fail
  refine (HPR.out _ HPB.out).mono ?_
  rintro e w2 ⟨rfl, hg⟩
  have F2 := Lib.hid (F1.out.then hg.fp)
  clear hg F1
  cases hok : (split p).isSome with
  | false =>
    clear hok
    go_wp2
    go_ret
    exact ⟨rfl, F2.out⟩
  | true =>
  have HOK := Lib.hid (show okP p = true from hok)
  clear hok
  obtain ⟨W3, hW3⟩ : ∃ W, W = ((w2.alloc (Obj.cells #[.string ⟨#[47]⟩, .int .i64 1, .int .i64 1] TH)).alloc (Obj.cells #[.string ⟨#[47]⟩, .int .i64 1, .int .i64 3] TH)).alloc (Obj.cells #[.slice (some ⟨w2.heap.size, 0, none⟩) 1 1, .slice (some ⟨w2.heap.size + 1, 0, none⟩) 1 1] TLH) := ⟨_, rfl⟩
  obtain ⟨G, hG⟩ : ∃ G, G = w2.heap.size + 1 + 1 := ⟨_, rfl⟩
  have hf3 : Fp Non w2 W3 := by rw [hW3]; exact ((fp_alloc _ _).alloc _).alloc _
  have hA3 : W3.heap[w2.heap.size]? = some (.cells #[.string ⟨#[47]⟩, .int .i64 1, .int .i64 1] TH (0, 0)) := by
    rw [hW3]; exact ((fp_alloc _ _).then (fp_alloc _ _)).heap (heap_alloc_new w2 _) (fun h => h)
  have hB3 : W3.heap[w2.heap.size + 1]? = some (.cells #[.string ⟨#[47]⟩, .int .i64 1, .int .i64 3] TH (0, 0)) := by
    rw [hW3]
    have := heap_alloc_new (w2.alloc (Obj.cells #[.string ⟨#[47]⟩, .int .i64 1, .int .i64 1] TH)) (Obj.cells #[.string ⟨#[47]⟩, .int .i64 1, .int .i64 3] TH)
    rw [World.size_alloc] at this
    exact (fp_alloc _ _).heap this (fun h => h)
  have hG3 : W3.heap[G]? = some (.cells #[.slice (some ⟨w2.heap.size, 0, none⟩) 1 1, .slice (some ⟨w2.heap.size + 1, 0, none⟩) 1 1] TLH (0, 0)) := by
    rw [hW3, hG]
    have := heap_alloc_new ((w2.alloc (Obj.cells #[.string ⟨#[47]⟩, .int .i64 1, .int .i64 1] TH)).alloc (Obj.cells #[.string ⟨#[47]⟩, .int .i64 1, .int .i64 3] TH)) (Obj.cells #[.slice (some ⟨w2.heap.size, 0, none⟩) 1 1, .slice (some ⟨w2.heap.size + 1, 0, none⟩) 1 1] TLH)
    rwa [World.size_alloc, World.size_alloc] at this
  have H0 : Hid (MvM p 0 G w W3) := ⟨⟨_, _, (some ⟨w2.heap.size, 0, none⟩, 1, 1), (some ⟨w2.heap.size + 1, 0, none⟩, 1, 1), mv_start HOK.out, rowH_ns (x := ⟨[47], 1, 1⟩) hA3, rowH_ns (x := ⟨[47], 1, 3⟩) hB3, by rw [if_pos rfl]; exact hG3⟩, F2.out.then hf3⟩
  have HGW := Lib.hid (show w.heap.size ≤ G by rw [hG]; have := F2.out.size; omega)
  clear hf3 hA3 hB3 hG3
  go_wp2_with fail
  rw [← hW3]
  simp only [← hG]
  clear hW3 hG F2
  go_loopw [7, 8] (fun ep i wr => ∃ k : Nat, k ≤ m ∧ i = .int .i64 k ∧ ep = .int .i64 ((k : Int) + 1) ∧ Hid (MvM p k G w wr)) (fun _ i _ => m - (RowKit.intOf i).toNat)
  case atStart => exact ⟨0, Nat.zero_le _, rfl, rfl, H0⟩
  case round =>
    clear H0
    obtain ⟨k, hk, rfl, rfl, hR⟩ := hrel
    rename_i wr _
    by_cases hlt : k < m
    · have q3 : ((k : Int) < (n : Int) % 20) = True := eq_true (by have := HM.out; omega)
      have hk20 : k < 20 := by omega
      obtain ⟨A, Bl, xa, xb, hI, hA, hB, hrow⟩ := hR.out.ex
      obtain ⟨a, b, c, hS⟩ := mv_step HOK.out hI hk20
      have h1 := fun W (f : Fp Non wr W) => Freeze_c _ A p W (hA.non f) hI.ra.szs HPB.out
      have h2 := fun W (f : Fp Non wr W) => Install_c _ Bl p ((k : Int) + 2) W (hB.non f) hI.rb.szs HPB.out
      have h3 := fun v W (h : NsH W v a) => Drop_c v a p ((k : Int) + 1) W h hS.ra.szs HPB.out
      have h4 := fun v W (h : NsH W v a) => StateH_c v a p W h hS.ra.szs HPB.out
      have h5 := fun v W (h : NsH W v b) => StateH_c v b p W h hS.rb.szs HPB.out
      have h6 := fun v W (h : NsH W v c) => StateH_c v c p W h hS.rc.szs HPB.out
      rw [hS.fa] at h1
      rw [hS.fb] at h2
      rw [hS.fc] at h3
      rw [hS.sa] at h4
      rw [hS.sb] at h5
      rw [hS.sc] at h6
      have H1 := Lib.hid h1
      have H2 := Lib.hid h2
      have H3 := Lib.hid h3
      have H4 := Lib.hid h4
      have H5 := Lib.hid h5
      have H6 := Lib.hid h6
      have HNX := Lib.hid (And.intro hS.nx (And.intro hlt hrow))
      have HFW := Lib.hid hR.out.fp
      have wk1 : IntKind.i64.wrap ((k : Int) + 1) = (k : Int) + 1 := by rw [IntKind.wrap_i64]; omega
      have wk2 : IntKind.i64.wrap ((k : Int) + 1 + 1) = (k : Int) + 2 := by rw [IntKind.wrap_i64]; omega
      have ek2 : (k : Int) + 1 + 1 = (k : Int) + 2 := by omega
      clear h1 h2 h3 h4 h5 h6 hS hI hA hB hlt hR hrow
      by_cases hpar : k % 2 = 0
      · have hmod : (k : Int) % 2 = 0 := by omega
        have hrow := HNX.out.2.2
        rw [if_pos hpar] at hrow
        have hpar1 : ¬ (k + 1) % 2 = 0 := by omega
        have HRW := Lib.hid hrow
        have HPR1 := Lib.hid hpar1
        have c0 := (c_row2 hrow).1
        have c1 := (c_row2 hrow).2.1
        clear hrow hpar hpar1
        go_wp2_with fail
        refine (H1.out _ (Fp.refl _ _)).mono ?_
        intro e w4 hR
        obtain ⟨va, rfl, na⟩ := hR.ex
        have K4 := Lib.hid (Kp.and (Kp.nsH na) (Kp.and (Kp.row (hR.fp.heap HRW.out (fun h => h))) (Kp.and (Kp.fp hR.fp) (Kp.fp hR.fp))))
        have d0 := (c_row2 K4.out.now.2.1).1
        have d1 := (c_row2 K4.out.now.2.1).2.1
        clear hR na c0 c1
        simp only [Option.isSome_some, Option.getD_some] at K4 ⊢
        go_wp2_with fail
        refine (H2.out _ K4.out.now.2.2.1).mono ?_
        intro e w5 hR
        obtain ⟨vb, rfl, nb⟩ := hR.ex
        have K5 := Lib.hid (Kp.and (Kp.nsH nb) (K4.out.later hR.fp))
        clear hR nb d0 d1 K4
        simp only [Option.isSome_some, Option.getD_some] at K5 ⊢
        go_wp2_with fail
        refine (H4.out _ _ K5.out.now.2.1).mono ?_
        rintro e w6 ⟨rfl, hf⟩
        have K6 := Lib.hid (K5.out.later hf)
        clear hf K5
        go_wp2_with fail
        refine (H5.out _ _ K6.out.now.1).mono ?_
        rintro e w7 ⟨rfl, hf⟩
        have K7 := Lib.hid (K6.out.later hf)
        clear hf K6
        go_wp2_with fail
        refine (H3.out _ _ K7.out.now.2.1).mono ?_
        intro e w8 hR
        obtain ⟨vc, rfl, nc⟩ := hR.ex
        have K8 := Lib.hid (Kp.and (Kp.nsH nc) (K7.out.later hR.fp))
        clear hR nc K7
        simp only [Option.isSome_some, Option.getD_some] at K8 ⊢
        go_wp2_with fail
        refine (H6.out _ _ K8.out.now.1).mono ?_
        rintro e w9 ⟨rfl, hf⟩
        have K9 := Lib.hid (K8.out.later hf)
        clear hf K8
        obtain ⟨yc, rfl, -⟩ := K9.out.now.1.trip
        obtain ⟨yb, rfl, -⟩ := K9.out.now.2.1.trip
        have r9 := K9.out.now.2.2.2.1
        have HR9 := Lib.hid r9
        obtain ⟨z0, z1, zf⟩ := c_row2 r9
        have r10 := st_same (v := .slice yc.1 yc.2.1 yc.2.2) r9
        obtain ⟨u0, u1, uf⟩ := c_row2 r10
        have r11 := st_same1 (v := .slice yb.1 yb.2.1 yb.2.2) r10
        have n10 := (K9.out.now.1.set (x0 := xa) (x1 := xb) r9 0 (.slice yc.1 yc.2.1 yc.2.2)).set (x0 := yc) (x1 := xb) r10 1 (.slice yb.1 yb.2.1 yb.2.2)
        have n11 := (K9.out.now.2.1.set (x0 := xa) (x1 := xb) r9 0 (.slice yc.1 yc.2.1 yc.2.2)).set (x0 := yc) (x1 := xb) r10 1 (.slice yb.1 yb.2.1 yb.2.2)
        have hfz : Fp Non w ((w9.setCell ⟨G, 0, none⟩ (.slice yc.1 yc.2.1 yc.2.2)).setCell ⟨G, 1, none⟩ (.slice yb.1 yb.2.1 yb.2.2)) := by
          have h0 := HGW.out
          exact ((HFW.out.then K9.out.now.2.2.2.2.1).setCell (p := ⟨G, 0, none⟩) (.inr h0) _).setCell (p := ⟨G, 1, none⟩) (.inr h0) _
        have hM := Lib.hid (show MvM p (k + 1) G w ((w9.setCell ⟨G, 0, none⟩ (.slice yc.1 yc.2.1 yc.2.2)).setCell ⟨G, 1, none⟩ (.slice yb.1 yb.2.1 yb.2.2)) from ⟨⟨b, c, yb, yc, HNX.out.1, n11, n10, by rw [if_neg HPR1.out]; exact r11⟩, hfz⟩)
        have hkn := HNX.out.2.1
        clear n10 n11 r9 r10 r11 hfz
        go_wp2
        go_roundw
        case rel => exact ⟨k + 1, by omega, by go_num, by rw [show (((k + 1 : Nat) : Int) + 1) = (k : Int) + 2 from by push_cast; omega], hM⟩
        case measure => simp [RowKit.intOf]; omega
      · have hmod : (k : Int) % 2 = 1 := by omega
        have hrow := HNX.out.2.2
        rw [if_neg hpar] at hrow
        have hpar1 : (k + 1) % 2 = 0 := by omega
        have HRW := Lib.hid hrow
        have HPR1 := Lib.hid hpar1
        have c0 := (c_row2 hrow).1
        have c1 := (c_row2 hrow).2.1
        clear hrow hpar hpar1
        go_wp2_with fail
        refine (H1.out _ (Fp.refl _ _)).mono ?_
        intro e w4 hR
        obtain ⟨va, rfl, na⟩ := hR.ex
        have K4 := Lib.hid (Kp.and (Kp.nsH na) (Kp.and (Kp.row (hR.fp.heap HRW.out (fun h => h))) (Kp.and (Kp.fp hR.fp) (Kp.fp hR.fp))))
        have d0 := (c_row2 K4.out.now.2.1).1
        have d1 := (c_row2 K4.out.now.2.1).2.1
        clear hR na c0 c1
        simp only [Option.isSome_some, Option.getD_some] at K4 ⊢
        go_wp2_with fail
        refine (H2.out _ K4.out.now.2.2.1).mono ?_
        intro e w5 hR
        obtain ⟨vb, rfl, nb⟩ := hR.ex
        have K5 := Lib.hid (Kp.and (Kp.nsH nb) (K4.out.later hR.fp))
        clear hR nb d0 d1 K4
        simp only [Option.isSome_some, Option.getD_some] at K5 ⊢
        go_wp2_with fail
        refine (H4.out _ _ K5.out.now.2.1).mono ?_
        rintro e w6 ⟨rfl, hf⟩
        have K6 := Lib.hid (K5.out.later hf)
        clear hf K5
        go_wp2_with fail
        refine (H5.out _ _ K6.out.now.1).mono ?_
        rintro e w7 ⟨rfl, hf⟩
        have K7 := Lib.hid (K6.out.later hf)
        clear hf K6
        go_wp2_with fail
        refine (H3.out _ _ K7.out.now.2.1).mono ?_
        intro e w8 hR
        obtain ⟨vc, rfl, nc⟩ := hR.ex
        have K8 := Lib.hid (Kp.and (Kp.nsH nc) (K7.out.later hR.fp))
        clear hR nc K7
        simp only [Option.isSome_some, Option.getD_some] at K8 ⊢
        go_wp2_with fail
        refine (H6.out _ _ K8.out.now.1).mono ?_
        rintro e w9 ⟨rfl, hf⟩
        have K9 := Lib.hid (K8.out.later hf)
        clear hf K8
        obtain ⟨yc, rfl, -⟩ := K9.out.now.1.trip
        obtain ⟨yb, rfl, -⟩ := K9.out.now.2.1.trip
        have r9 := K9.out.now.2.2.2.1
        have HR9 := Lib.hid r9
        obtain ⟨z0, z1, zf⟩ := c_row2 r9
        have r10 := st_same1 (v := .slice yc.1 yc.2.1 yc.2.2) r9
        obtain ⟨u0, u1, uf⟩ := c_row2 r10
        have r11 := st_same (v := .slice yb.1 yb.2.1 yb.2.2) r10
        have n10 := (K9.out.now.1.set (x0 := xb) (x1 := xa) r9 1 (.slice yc.1 yc.2.1 yc.2.2)).set (x0 := xb) (x1 := yc) r10 0 (.slice yb.1 yb.2.1 yb.2.2)
        have n11 := (K9.out.now.2.1.set (x0 := xb) (x1 := xa) r9 1 (.slice yc.1 yc.2.1 yc.2.2)).set (x0 := xb) (x1 := yc) r10 0 (.slice yb.1 yb.2.1 yb.2.2)
        have hfz : Fp Non w ((w9.setCell ⟨G, 1, none⟩ (.slice yc.1 yc.2.1 yc.2.2)).setCell ⟨G, 0, none⟩ (.slice yb.1 yb.2.1 yb.2.2)) := by
          have h0 := HGW.out
          exact ((HFW.out.then K9.out.now.2.2.2.2.1).setCell (p := ⟨G, 1, none⟩) (.inr h0) _).setCell (p := ⟨G, 0, none⟩) (.inr h0) _
        have hM := Lib.hid (show MvM p (k + 1) G w ((w9.setCell ⟨G, 1, none⟩ (.slice yc.1 yc.2.1 yc.2.2)).setCell ⟨G, 0, none⟩ (.slice yb.1 yb.2.1 yb.2.2)) from ⟨⟨b, c, yb, yc, HNX.out.1, n11, n10, by rw [if_pos HPR1.out]; exact r11⟩, hfz⟩)
        have hkn := HNX.out.2.1
        clear n10 n11 r9 r10 r11 hfz
        go_wp2
        go_roundw
        case rel => exact ⟨k + 1, by omega, by go_num, by rw [show (((k + 1 : Nat) : Int) + 1) = (k : Int) + 2 from by push_cast; omega], hM⟩
        case measure => simp [RowKit.intOf]; omega
    · have hke : k = m := by omega
      subst hke
      have q3 : ((k : Int) < (n : Int) % 20) = False := eq_false (by have := HM.out; omega)
      obtain ⟨A, Bl, xa, xb, hI, hA, hB, hrow⟩ := hR.out.ex
      have h1 := fun W (f : Fp Non wr W) => StateH_c _ A p W (hA.non f) hI.ra.szs HPB.out
      have h2 := fun W (f : Fp Non wr W) => StateH_c _ Bl p W (hB.non f) hI.rb.szs HPB.out
      have hs1 : stR A p = 1 := by obtain ⟨y, hy, hya, _⟩ := hI.pa; unfold stR; rw [hy]; exact hya
      rw [hs1] at h1
      rw [hI.sb] at h2
      have HFW := Lib.hid hR.out.fp
      have H12 := Lib.hid (And.intro h1 h2)
      clear h1 h2 hs1 hI hA hB hR hlt hk
      by_cases hpar : k % 2 = 0
      · have hmod : (IntKind.i64.wrap ((n : Int).tmod 20)).tmod 2 = 0 := by
          have := HM.out
          rw [Int.tmod_eq_emod_of_nonneg (by omega : (0 : Int) ≤ (n : Int)), IntKind.wrap_i64]
          have e : ∀ z : Int, 0 ≤ z → z < 20 → wrap64 z = z := fun z h1 h2 => by unfold wrap64; omega
          first | rw [e _ (by omega) (by omega)] | skip
          rw [Int.tmod_eq_emod_of_nonneg (by omega)]
          omega
        rw [if_pos hpar] at hrow
        have c0 := (c_row2 hrow).1
        have c1 := (c_row2 hrow).2.1
        have HS := Lib.hid H12.out.1
        clear hrow hpar H12
        go_wp2_with fail
        refine wp_region_held_drew (S := (fun w' => w'.cell? ⟨G, 0, none⟩ = some (.slice xa.1 xa.2.1 xa.2.2))) (by kernel_rfl) ?_ (fun hHeld => ?_)
        · exact c0
        try simp only [zP, zN, zS, zT, zU]
        refine tk 0 hHeld ?_
        refine tk 1 hHeld ?_
        refine tk 2 hHeld ?_
        refine tk 3 hHeld ?_
        refine tk 4 hHeld ?_
        refine tk 5 hHeld ?_
        refine tk 8 hHeld ?_
        refine tk 9 hHeld ?_
        refine tk 10 hHeld ?_
        refine tk 11 hHeld ?_
        refine wpAnyH_ready (rs := [6, 7]) (by kernel_rfl) (by simp) ?_
        refine AllReadyH.cons (o := ?_) (by simp only [zA, zB, zC] <;> exact rfl) (fun K hK => ?_) (AllReadyH.cons (o := ?_) (by simp only [zA, zB, zC] <;> exact rfl) (fun K hK => ?_) AllReadyH.nil)
        · go_simp
          go_at_call 21
          refine (HS.out _ (Fp.refl Non wr).drew).mono ?_
          rintro e w9 ⟨rfl, hf⟩
          have HS1 := Lib.hid (hf.cell hHeld (fun h => h))
          have F9 := Lib.hid ((HFW.out.drew).then hf)
          clear hf
          go_wp2_with fail
          refine hK.out _ _ HS1.out (fun hHeld => ?_)
          clear hK K
          try simp only [zP, zN, zS, zT, zU]
          refine rY 7 (fun K hK => ?_)
          go_simp
          have HZ := Lib.hid ((fp_alloc w9 (.cells #[.int .i64 1, .int .i64 3] 3)).cell HS1.out (fun h => h))
          have FZ := Lib.hid (F9.out.then (fp_alloc w9 (.cells #[.int .i64 1, .int .i64 3] 3)))
          go_wp2_with fail
          refine hK.out _ _ HZ.out (fun hHeld => ?_)
          clear hK K
          try simp only [zP, zN, zS, zT, zU]
          refine tk 12 hHeld ?_
          refine rY 13 (fun K hK => ?_)
          go_simp
          go_wp2_with fail
          refine hK.out _ _ HZ.out (fun hHeld => ?_)
          clear hK K
          try simp only [zP, zN, zS, zT, zU]
          refine tk 14 hHeld ?_
          refine tk 15 hHeld ?_
          refine tk 16 hHeld ?_
          refine yD ?_
          go_wp2
          go_ret
          exact ⟨rfl, FZ.out⟩
        · go_simp
          have HZ := Lib.hid ((fp_alloc wr.drew (.cells #[.int .i64 1, .int .i64 3] 3)).cell hHeld (fun h => h))
          have FZ := Lib.hid ((HFW.out.drew).then (fp_alloc wr.drew (.cells #[.int .i64 1, .int .i64 3] 3)))
          have HN := Lib.hid (heap_alloc_new wr.drew (.cells #[.int .i64 1, .int .i64 3] 3))
          go_wp2_with fail
          refine hK.out _ _ HZ.out (fun hHeld => ?_)
          clear hK K
          try simp only [zP, zN, zS, zT, zU]
          refine tk 12 hHeld ?_
          refine wpAnyH_ready (rs := [6, 13]) (by kernel_rfl) (by simp) ?_
          refine AllReadyH.cons (o := ?_) (by simp only [zA, zB, zC] <;> exact rfl) (fun K hK => ?_) (AllReadyH.cons (o := ?_) (by simp only [zA, zB, zC] <;> exact rfl) (fun K hK => ?_) AllReadyH.nil)
          · go_simp
            go_at_call 21
            refine (HS.out _ (((Fp.refl Non wr).drew).alloc _)).mono ?_
            rintro e w9 ⟨rfl, hf⟩
            have HS1 := Lib.hid (hf.cell hHeld (fun h => h))
            have F9 := Lib.hid (FZ.out.then hf)
            have rw9 : w9.heap[wr.heap.size]? = some (.cells #[.int .i64 1, .int .i64 3] 3 (0, 0)) := hf.heap HN.out (fun h => h)
            have u0 : w9.cell? ⟨wr.heap.size, 0, none⟩ = some (.int .i64 1) := by rw [cell_of_row _ _ _ _ _ _ rw9]; rfl
            have u1 : w9.cell? ⟨wr.heap.size, 1, none⟩ = some (.int .i64 3) := by rw [cell_of_row _ _ _ _ _ _ rw9]; rfl
            clear hf rw9
            go_wp2_with fail
            refine hK.out _ _ HS1.out (fun hHeld => ?_)
            clear hK K
            try simp only [zP, zN, zS, zT, zU]
            refine rY 13 (fun K hK => ?_)
            go_simp
            go_wp2_with fail
            refine hK.out _ _ HS1.out (fun hHeld => ?_)
            clear hK K
            try simp only [zP, zN, zS, zT, zU]
            refine tk 14 hHeld ?_
            refine tk 15 hHeld ?_
            refine tk 16 hHeld ?_
            refine yD ?_
            go_wp2
            go_ret
            exact ⟨rfl, F9.out⟩
          · go_simp
            go_wp2_with fail
            refine hK.out _ _ HZ.out (fun hHeld => ?_)
            clear hK K
            try simp only [zP, zN, zS, zT, zU]
            refine rY 6 (fun K hK => ?_)
            go_simp
            go_at_call 21
            refine (HS.out _ (((Fp.refl Non wr).drew).alloc _)).mono ?_
            rintro e w9 ⟨rfl, hf⟩
            have HS1 := Lib.hid (hf.cell hHeld (fun h => h))
            have F9 := Lib.hid (FZ.out.then hf)
            have rw9 : w9.heap[wr.heap.size]? = some (.cells #[.int .i64 1, .int .i64 3] 3 (0, 0)) := hf.heap HN.out (fun h => h)
            have u0 : w9.cell? ⟨wr.heap.size, 0, none⟩ = some (.int .i64 1) := by rw [cell_of_row _ _ _ _ _ _ rw9]; rfl
            have u1 : w9.cell? ⟨wr.heap.size, 1, none⟩ = some (.int .i64 3) := by rw [cell_of_row _ _ _ _ _ _ rw9]; rfl
            clear hf rw9
            go_wp2_with fail
            refine hK.out _ _ HS1.out (fun hHeld => ?_)
            clear hK K
            try simp only [zP, zN, zS, zT, zU]
            refine tk 14 hHeld ?_
            refine tk 15 hHeld ?_
            refine tk 16 hHeld ?_
            refine yD ?_
            go_wp2
            go_ret
            exact ⟨rfl, F9.out⟩
      · have hmod : (IntKind.i64.wrap ((n : Int).tmod 20)).tmod 2 = 1 := by
          have := HM.out
          rw [Int.tmod_eq_emod_of_nonneg (by omega : (0 : Int) ≤ (n : Int)), IntKind.wrap_i64]
          have e : ∀ z : Int, 0 ≤ z → z < 20 → wrap64 z = z := fun z h1 h2 => by unfold wrap64; omega
          first | rw [e _ (by omega) (by omega)] | skip
          rw [Int.tmod_eq_emod_of_nonneg (by omega)]
          omega
        rw [if_neg hpar] at hrow
        have c0 := (c_row2 hrow).1
        have c1 := (c_row2 hrow).2.1
        have HS := Lib.hid H12.out.2
        clear hrow hpar H12
        go_wp2_with fail
        refine wp_region_held_drew (S := (fun w' => w'.cell? ⟨G, 0, none⟩ = some (.slice xb.1 xb.2.1 xb.2.2))) (by kernel_rfl) ?_ (fun hHeld => ?_)
        · exact c0
        try simp only [zP, zN, zS, zT, zU]
        refine tk 0 hHeld ?_
        refine tk 1 hHeld ?_
        refine tk 2 hHeld ?_
        refine tk 3 hHeld ?_
        refine tk 4 hHeld ?_
        refine tk 5 hHeld ?_
        refine tk 8 hHeld ?_
        refine tk 9 hHeld ?_
        refine tk 10 hHeld ?_
        refine tk 11 hHeld ?_
        refine wpAnyH_ready (rs := [6, 7]) (by kernel_rfl) (by simp) ?_
        refine AllReadyH.cons (o := ?_) (by simp only [zA, zB, zC] <;> exact rfl) (fun K hK => ?_) (AllReadyH.cons (o := ?_) (by simp only [zA, zB, zC] <;> exact rfl) (fun K hK => ?_) AllReadyH.nil)
        · go_simp
          go_at_call 21
          refine (HS.out _ (Fp.refl Non wr).drew).mono ?_
          rintro e w9 ⟨rfl, hf⟩
          have HS1 := Lib.hid (hf.cell hHeld (fun h => h))
          have F9 := Lib.hid ((HFW.out.drew).then hf)
          clear hf
          go_wp2_with fail
          refine hK.out _ _ HS1.out (fun hHeld => ?_)
          clear hK K
          try simp only [zP, zN, zS, zT, zU]
          refine rY 7 (fun K hK => ?_)
          go_simp
          have HZ := Lib.hid ((fp_alloc w9 (.cells #[.int .i64 1, .int .i64 3] 3)).cell HS1.out (fun h => h))
          have FZ := Lib.hid (F9.out.then (fp_alloc w9 (.cells #[.int .i64 1, .int .i64 3] 3)))
          go_wp2_with fail
          refine hK.out _ _ HZ.out (fun hHeld => ?_)
          clear hK K
          try simp only [zP, zN, zS, zT, zU]
          refine tk 12 hHeld ?_
          refine rY 13 (fun K hK => ?_)
          go_simp
          go_wp2_with fail
          refine hK.out _ _ HZ.out (fun hHeld => ?_)
          clear hK K
          try simp only [zP, zN, zS, zT, zU]
          refine tk 14 hHeld ?_
          refine tk 15 hHeld ?_
          refine tk 16 hHeld ?_
          refine yD ?_
          go_wp2
          go_ret
          exact ⟨rfl, FZ.out⟩
        · go_simp
          have HZ := Lib.hid ((fp_alloc wr.drew (.cells #[.int .i64 1, .int .i64 3] 3)).cell hHeld (fun h => h))
          have FZ := Lib.hid ((HFW.out.drew).then (fp_alloc wr.drew (.cells #[.int .i64 1, .int .i64 3] 3)))
          have HN := Lib.hid (heap_alloc_new wr.drew (.cells #[.int .i64 1, .int .i64 3] 3))
          go_wp2_with fail
          refine hK.out _ _ HZ.out (fun hHeld => ?_)
          clear hK K
          try simp only [zP, zN, zS, zT, zU]
          refine tk 12 hHeld ?_
          refine wpAnyH_ready (rs := [6, 13]) (by kernel_rfl) (by simp) ?_
          refine AllReadyH.cons (o := ?_) (by simp only [zA, zB, zC] <;> exact rfl) (fun K hK => ?_) (AllReadyH.cons (o := ?_) (by simp only [zA, zB, zC] <;> exact rfl) (fun K hK => ?_) AllReadyH.nil)
          · go_simp
            go_at_call 21
            refine (HS.out _ (((Fp.refl Non wr).drew).alloc _)).mono ?_
            rintro e w9 ⟨rfl, hf⟩
            have HS1 := Lib.hid (hf.cell hHeld (fun h => h))
            have F9 := Lib.hid (FZ.out.then hf)
            have rw9 : w9.heap[wr.heap.size]? = some (.cells #[.int .i64 1, .int .i64 3] 3 (0, 0)) := hf.heap HN.out (fun h => h)
            have u0 : w9.cell? ⟨wr.heap.size, 0, none⟩ = some (.int .i64 1) := by rw [cell_of_row _ _ _ _ _ _ rw9]; rfl
            have u1 : w9.cell? ⟨wr.heap.size, 1, none⟩ = some (.int .i64 3) := by rw [cell_of_row _ _ _ _ _ _ rw9]; rfl
            clear hf rw9
            go_wp2_with fail
            refine hK.out _ _ HS1.out (fun hHeld => ?_)
            clear hK K
            try simp only [zP, zN, zS, zT, zU]
            refine rY 13 (fun K hK => ?_)
            go_simp
            go_wp2_with fail
            refine hK.out _ _ HS1.out (fun hHeld => ?_)
            clear hK K
            try simp only [zP, zN, zS, zT, zU]
            refine tk 14 hHeld ?_
            refine tk 15 hHeld ?_
            refine tk 16 hHeld ?_
            refine yD ?_
            go_wp2
            go_ret
            exact ⟨rfl, F9.out⟩
          · go_simp
            go_wp2_with fail
            refine hK.out _ _ HZ.out (fun hHeld => ?_)
            clear hK K
            try simp only [zP, zN, zS, zT, zU]
            refine rY 6 (fun K hK => ?_)
            go_simp
            go_at_call 21
            refine (HS.out _ (((Fp.refl Non wr).drew).alloc _)).mono ?_
            rintro e w9 ⟨rfl, hf⟩
            have HS1 := Lib.hid (hf.cell hHeld (fun h => h))
            have F9 := Lib.hid (FZ.out.then hf)
            have rw9 : w9.heap[wr.heap.size]? = some (.cells #[.int .i64 1, .int .i64 3] 3 (0, 0)) := hf.heap HN.out (fun h => h)
            have u0 : w9.cell? ⟨wr.heap.size, 0, none⟩ = some (.int .i64 1) := by rw [cell_of_row _ _ _ _ _ _ rw9]; rfl
            have u1 : w9.cell? ⟨wr.heap.size, 1, none⟩ = some (.int .i64 3) := by rw [cell_of_row _ _ _ _ _ _ rw9]; rfl
            clear hf rw9
            go_wp2_with fail
            refine hK.out _ _ HS1.out (fun hHeld => ?_)
            clear hK K
            try simp only [zP, zN, zS, zT, zU]
            refine tk 14 hHeld ?_
            refine tk 15 hHeld ?_
            refine tk 16 hHeld ?_
            refine yD ?_
            go_wp2
            go_ret
            exact ⟨rfl, F9.out⟩
end Go.Proofs.Ytcjpgenlhphapaa
