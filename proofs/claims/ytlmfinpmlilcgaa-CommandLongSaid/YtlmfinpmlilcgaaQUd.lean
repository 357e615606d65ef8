/- A text of this proof. -/
import Derived.Test.YtlmfinpmlilcgaaYC
import Derived.Test.YtlmfinpmlilcgaaZN
import Derived.Test.YtlmfinpmlilcgaaYF
import Derived.Test.YtlmfinpmlilcgaaZR
import Derived.Deep.CutRange
import Derived.Deep.RegionLaw
set_option linter.unusedVariables false
set_option linter.unusedSimpArgs false
/- CommandLong: the law's walk. (gen_ud.py) -/
namespace Go.Proofs.Ytlmfinpmlilcgaa
set_option maxRecDepth 20000
set_option linter.unusedVariables false
set_option linter.unusedSimpArgs false
open Go.RowKit Pm

/-- Ahead of a round. -/
structure LgS (c : Cd) (x : Pe) (vn vt vg : Value) (w : World) (L : List Pe) (vp bv : Value) (W : World) : Prop where
  fp : Fp Non w W
  box : W.heap[w.heap.size]? = some (.cells (cdL { c with ps := L } vp vn vt vg) TCD (0, 0))
  pb : W.heap[w.heap.size + 1]? = some (.cells #[.int .i64 x.op, .int .i64 x.p.kind, .string (B x.p.dir), .string (B x.p.path), .string (B x.p.data), .int .i64 x.p.ver, .int .i64 x.p.own, .bool x.p.turns] 48 (0, 0))
  ps : Sg peC 8 W vp L
  slc : Slc vp vn vt vg
  few : Fw { c with ps := L }
  bs : Sl W bv (if rightC { c with ps := L } = true then encCd { c with ps := L } else [])
/-- Pieces of the call's own, behind an append. -/
structure Ap1 (lo : Nat) (L : List Pe) (n : Nat) (W : World) (v' : Value) (w' : World) : Prop where
  own : OwG 48 peC 8 lo w' v' L
  fp : Fp (fun k => k = n) W w'
theorem app_all {W : World} {n lo : Nat} (hn : W.heap[n]? = some (.cells #[] 48 (0, 0))) (hlo : lo ≤ n) (hlW : lo ≤ W.heap.size) {vp : Value} {L : List Pe} (hp : Sg peC 8 W vp L) (hl : L.length ≤ 1000) (ty : TypeId) :
    ∃ v' w', (Builtin.append_ #[22, 22] ty #[.slice (some ⟨n, 0, none⟩) 0 0, vp]).run Try.prog W = .ok v' w' ∧ Ap1 lo L n W v' w' := by
  have ho : OwG 48 peC 8 lo W (.slice (some ⟨n, 0, none⟩) 0 0) [] := ⟨rfl, .inr ⟨n, 0, #[], rfl, hlo, hn, Nat.le_refl _, by unfold maxLen; omega, rfl, rfl⟩⟩
  obtain ⟨ao, cap, rfl, h3⟩ := hp.ex
  have hsome : ∀ a, (L = [] ∨ ∃ g o, a = (⟨g, o, none⟩ : Addr) ∧ ∀ i (h : i < L.length), ElAt peC W g (o + i * 8) L[i]) → ∃ v' w', (Builtin.append_ #[22, 22] ty #[.slice (some ⟨n, 0, none⟩) 0 0, .slice (some a) L.length cap]).run Try.prog W = .ok v' w' ∧ Ap1 lo L n W v' w' := fun a ha => by
    obtain ⟨v', w', hr, k1, k2, k3⟩ := app_ownG (enc := peC) peC_len peC_one (SL := 22) (T := 48) Try.underlying22 Try.infoPC rfl (by decide) (by decide) W lo _ [] L ty a L.length cap ho rfl (fun i hi j u hu => by
      rcases ha with rfl | ⟨g, o, rfl, hc⟩
      · simp at hi
      · have := (hc i hi).get j u hu
        rw [Addr.add_lit, ← Nat.add_assoc]; exact this) (by simp; omega) hlW
    refine ⟨v', w', hr, k1, (Fp.refl (fun k => k = n) W).grown k2 (fun k hk => .inl (by simpa [Value.ownBlock] using hk.symm))⟩
  rcases ao with _ | a
  · have h0 : L = [] := by
      rcases h3 with h | ⟨g, o, h, _⟩
      · exact h
      · cases h
    subst h0
    obtain ⟨i, hi, hz0, hsz, hb⟩ := info_parts Try.infoPC
    refine ⟨.slice (some ⟨n, 0, none⟩) 0 0, W, ?_, ho, Fp.refl _ _⟩
    exact run_append_nothing W _ _ _ _ i Try.underlying22 hi _ _ _ (Nat.le_refl _) _ (Src.ofNil W Try.underlying22 cap)
  · exact hsome a (by
      rcases h3 with h | ⟨g, o, h, hc⟩
      · exact .inl h
      · injection h with h; exact .inr ⟨g, o, h, hc⟩)
theorem app_oneAt {W : World} {m lo : Nat} {x : Pe} (hm : W.heap[m]? = some (.cells #[.int .i64 x.op, .int .i64 x.p.kind, .string (B x.p.dir), .string (B x.p.path), .string (B x.p.data), .int .i64 x.p.ver, .int .i64 x.p.own, .bool x.p.turns] 48 (0, 0))) (hlW : lo ≤ W.heap.size) {v : Value} {L : List Pe} (ho : OwG 48 peC 8 lo W v L) (hl : L.length ≤ 1000) (ty : TypeId) :
    ∃ v' w', (Builtin.append_ #[22, 22] ty #[v, .slice (some ⟨m, 0, none⟩) 1 1]).run Try.prog W = .ok v' w' ∧ ApG 48 peC 8 lo (L ++ [x]) W v' w' := by
  obtain ⟨v', w', hr, k1, k2, k3⟩ := app_ownG (enc := peC) peC_len peC_one (SL := 22) (T := 48) Try.underlying22 Try.infoPC rfl (by decide) (by decide) W lo v L [x] ty ⟨m, 0, none⟩ 1 1 ho rfl (fun i hi j u hu => by
    have hi0 : i = 0 := by simp at hi; omega
    subst hi0
    rw [Addr.add_lit, cell_of_row _ _ _ _ _ _ hm]
    rw [show 0 + (0 * 8 + j) = j from by omega]
    simpa [peC, ptC, strV] using hu) (by simp; omega) hlW
  exact ⟨v', w', hr, k1, (Fp.refl (fun j => lo ≤ j) W).grown k2 (fun j hj => .inl (ho.lt j hj).1)⟩

set_option maxHeartbeats 32000000 in
theorem CommandLong_c (v : Value) (c : Cd) (x : Pe) (w : World) (hv : CdW w v c) (hln : Ln c) :
    Calls Try.prog 6 #[v, .agg #[.int .i64 x.op, .int .i64 x.p.kind, .string (B x.p.dir), .string (B x.p.path), .string (B x.p.data), .int .i64 x.p.ver, .int .i64 x.p.own, .bool x.p.turns]] w fun e w' => e = .returned (.bool true) ∧ Fp Non w w' := by
  obtain ⟨vp, vn, vt, vg, rfl, f1, f2, f3, f4⟩ := hv.ex
  have hS := CdW.slc f1 f2 f3 f4
  have hfa := (fp_alloc w (.cells (cdL c vp vn vt vg) TCD)).then (fp_alloc (w.alloc (.cells (cdL c vp vn vt vg) TCD)) (.cells #[.int .i64 x.op, .int .i64 x.p.kind, .string (B x.p.dir), .string (B x.p.path), .string (B x.p.data), .int .i64 x.p.ver, .int .i64 x.p.own, .bool x.p.turns] 48))
  have hb0 := (fp_alloc (w.alloc (.cells (cdL c vp vn vt vg) TCD)) (.cells #[.int .i64 x.op, .int .i64 x.p.kind, .string (B x.p.dir), .string (B x.p.path), .string (B x.p.data), .int .i64 x.p.ver, .int .i64 x.p.own, .bool x.p.turns] 48)).heap (heap_alloc_new w (.cells (cdL c vp vn vt vg) TCD)) (fun h => h)
  have hb1 := heap_alloc_new (w.alloc (.cells (cdL c vp vn vt vg) TCD)) (.cells #[.int .i64 x.op, .int .i64 x.p.kind, .string (B x.p.dir), .string (B x.p.path), .string (B x.p.data), .int .i64 x.p.ver, .int .i64 x.p.own, .bool x.p.turns] 48)
  rw [show (w.alloc (.cells (cdL c vp vn vt vg) TCD)).heap.size = w.heap.size + 1 from by simp] at hb1
  have hGr := fun W (f : Fp Non w W) => cGreat_c _ c W (hv.non f) hln
  have hPu := fun W (f : Fp Non w W) (h : Fw c) => Put_c _ c W (hv.non f) h
  obtain ⟨w0, hw0⟩ : ∃ w0, w0 = (w.alloc (.cells (cdL c vp vn vt vg) TCD)).alloc (.cells #[.int .i64 x.op, .int .i64 x.p.kind, .string (B x.p.dir), .string (B x.p.path), .string (B x.p.data), .int .i64 x.p.ver, .int .i64 x.p.own, .bool x.p.turns] 48) := ⟨_, rfl⟩
  rw [← hw0] at hfa hb0 hb1
  have HH := Lib.hid (head_c w0)
  have H0 := Lib.hid (And.intro hb0 (And.intro hb1 hfa))
  have HC := Lib.hid (And.intro hGr hPu)
  have HV := Lib.hid (And.intro f1 (And.intro f2 (And.intro f3 (And.intro f4 hS))))
  clear f1 f2 f3 f4 hv hln hfa hb0 hb1 hGr hPu hS
  go_enter Try.func6, Try.ntmps6
  go_wp2_with fail
  try rw [show (31 : TypeId) = TCD from rfl]
  rw [← hw0]
  clear hw0
  refine HH.out.mono ?_
  rintro e w1 ⟨rfl, g1⟩
  have hb0 := g1.heap H0.out.1 (fun h => h)
  have HP1 := Lib.hid (g1.heap H0.out.2.1 (fun h => h))
  have HF1 := Lib.hid (H0.out.2.2.then g1)
  clear g1 HH
  go_wp2_with (refine wpList_ldC (by rfl) TCD _ rfl _ _ rfl (ld_cd (by assumption) rfl) ?_)
  refine (HC.out.1 _ HF1.out).mono ?_
  rintro e w2 ⟨g, rfl, hg, hf⟩
  have ha0 := hf.heap hb0 (fun h => h)
  have ha1 := hf.heap HP1.out (fun h => h)
  have HF2 := Lib.hid (HF1.out.then hf)
  have HP2 := Lib.hid ha1
  obtain ⟨p0, p1, p2, p3, p4, p5, p6, p7⟩ := boxP8 ha1
  clear hf hb0 ha1 HP1
  cases g with
  | true =>
    clear hg ha0
    go_wp2
    go_ret
    exact ⟨rfl, HF2.out⟩
  | false =>
  have HW := Lib.hid (hg rfl)
  have HGP := Lib.hid (GreatPs_c (.slice (some ⟨w2.heap.size, 0, none⟩) 1 1) [x] (w2.alloc (.cells #[.int .i64 x.op, .int .i64 x.p.kind, .string (B x.p.dir), .string (B x.p.path), .string (B x.p.data), .int .i64 x.p.ver, .int .i64 x.p.own, .bool x.p.turns] 48)) (Sg.block (l := [x]) peC_len (heap_alloc_new w2 (.cells #[.int .i64 x.op, .int .i64 x.p.kind, .string (B x.p.dir), .string (B x.p.path), .string (B x.p.data), .int .i64 x.p.ver, .int .i64 x.p.own, .bool x.p.turns] 48)) rfl 1) (by simp))
  clear hg
  go_wp2_with fail
  refine HGP.out.mono ?_
  rintro e w3 ⟨g, rfl, hg, hf⟩
  have hf3 := (fp_alloc w2 (.cells #[.int .i64 x.op, .int .i64 x.p.kind, .string (B x.p.dir), .string (B x.p.path), .string (B x.p.data), .int .i64 x.p.ver, .int .i64 x.p.own, .bool x.p.turns] 48)).then hf
  have hb0 := hf3.heap ha0 (fun h => h)
  have HP3 := Lib.hid (hf3.heap HP2.out (fun h => h))
  have HF3 := Lib.hid (HF2.out.then hf3)
  clear hf hf3 ha0 p0 p1 p2 p3 p4 p5 p6 p7 HGP
  cases g with
  | true =>
    clear hg hb0
    go_wp2
    go_ret
    exact ⟨rfl, HF3.out⟩
  | false =>
  have HX := Lib.hid ((hg rfl).2 x (by simp))
  clear hg
  go_wp2_with (refine wpList_ldC (by rfl) TCD _ rfl _ _ rfl (ld_cd (by assumption) rfl) ?_)
  refine (HC.out.2 _ HF3.out HW.out).mono ?_
  rintro e w4 ⟨vb, rfl, hx⟩
  obtain ⟨r0, hr0⟩ : ∃ r, rightC c = r := ⟨_, rfl⟩
  obtain ⟨ec, hec⟩ : ∃ e : Int, e = (if rightC c = true then 0 else 1) := ⟨_, rfl⟩
  have hL : LgS c x vn vt vg w c.ps vp vb w4 := ⟨HF3.out.then hx.fp, hx.fp.heap hb0 (fun h => h), hx.fp.heap HP3.out (fun h => h), HV.out.1.non (HF3.out.then hx.fp), HV.out.2.2.2.2, HW.out, hx.sl⟩
  rw [← hec]
  have hee : (r0 = true ∧ ec = 0) ∨ (r0 = false ∧ ec = 1) := by
    rw [hec, hr0]; cases r0
    · exact .inr ⟨rfl, rfl⟩
    · exact .inl ⟨rfl, rfl⟩
  have HL0 := Lib.hid (And.intro hr0 (And.intro hee hL))
  obtain ⟨xl, hxl⟩ : ∃ l : Bs, l = (if rightC c = true then encCd c else []) := ⟨_, rfl⟩
  rw [← hxl] at hx
  obtain ⟨bao, bcap, rfl⟩ := hx.shape
  clear hx hL hec hr0 hee hb0 hxl
  go_wp2_with fail
  go_loopw [6, 7, 8, 9] (fun la bv e i wr => ∃ j : Nat, j ≤ 20 ∧ i = .int .i64 j ∧ (∃ N : Nat, N ≤ 1000000 ∧ la = .int .i64 N) ∧ ∃ ec : Int, e = .int .i64 ec ∧ Hid (∃ r : Bool, ∃ L vp, rightC { c with ps := L } = r ∧ ((r = true ∧ ec = 0) ∨ (r = false ∧ ec = 1)) ∧ LgS c x vn vt vg w L vp bv wr)) (fun _ _ _ i _ => 20 - (RowKit.intOf i).toNat)
  case atStart => exact ⟨0, by omega, rfl, ⟨0, by omega, rfl⟩, ec, rfl, r0, c.ps, vp, HL0.out.1, HL0.out.2.1, HL0.out.2.2⟩
  case round =>
    clear HL0
    obtain ⟨j, hj, rfl, ⟨N, hN, rfl⟩, ec, rfl, hR⟩ := hrel
    obtain ⟨r, L, vp', hr, hre, hL⟩ := hR.out
    obtain ⟨bl, hbl⟩ : ∃ l : Bs, l = (if rightC { c with ps := L } = true then encCd { c with ps := L } else []) := ⟨_, rfl⟩
    obtain ⟨bao, bcap, hbv, _, _, _⟩ := hL.bs.ex
    rw [← hbl] at hbv
    subst hbv
    have HBL := Lib.hid hbl
    clear hbl
    have HL := Lib.hid (And.intro hr hL)
    clear hL hr hR
    by_cases hlt : j < 20
    rotate_left
    · have q3 : ((j : Int) < 20) = False := eq_false (by omega)
      have q4 : (j < 20) = False := eq_false hlt
      clear hlt hre
      go_wp2
      go_ret
      exact ⟨rfl, HL.out.2.fp⟩
    have q3 : ((j : Int) < 20) = True := eq_true (by omega)
    have q4 : (j < 20) = True := eq_true hlt
    rcases hre with ⟨rfl, rfl⟩ | ⟨rfl, rfl⟩
    rotate_left
    · clear hlt
      go_wp2
      go_ret
      exact ⟨rfl, HL.out.2.fp⟩
    have HT := Lib.hid ((rightC_iff _).1 HL.out.1)
    go_wp2_with fail
    go_cut [] from 34 to 41 (fun wc => Hid (∃ a k n, Sg peC 8 wc (.slice a k n) (L ++ [x]) ∧ wc.heap[w.heap.size]? = some (.cells (cdL { c with ps := L ++ [x] } (.slice a k n) vn vt vg) TCD (0, 0)) ∧ wc.heap[w.heap.size + 1]? = some (.cells #[.int .i64 x.op, .int .i64 x.p.kind, .string (B x.p.dir), .string (B x.p.path), .string (B x.p.data), .int .i64 x.p.ver, .int .i64 x.p.own, .bool x.p.turns] 48 (0, 0)) ∧ Fp Non w wc))
    case first =>
      obtain ⟨hLr, hL⟩ := HL.out
      obtain ⟨pa, pn, pc, hps⟩ := hL.slc.p
      subst hps
      have hd : Fp Non wr wr := Fp.refl Non wr
      have hsz : wr.heap.size = wr.heap.size := rfl
      have hbox := hd.heap hL.box (fun h => h)
      have hpb := hd.heap hL.pb (fun h => h)
      have hl16 : L.length ≤ 16 := HT.out.ps.1
      have hsg := hL.ps.non hd
      have f1 := fp_alloc wr (.cells #[] 48)
      have f2 := f1.then (fp_alloc (wr.alloc (.cells #[] 48)) (.cells #[.int .i64 x.op, .int .i64 x.p.kind, .string (B x.p.dir), .string (B x.p.path), .string (B x.p.data), .int .i64 x.p.ver, .int .i64 x.p.own, .bool x.p.turns] 48))
      have g1 := fp_alloc wr (.cells #[.int .i64 x.op, .int .i64 x.p.kind, .string (B x.p.dir), .string (B x.p.path), .string (B x.p.data), .int .i64 x.p.ver, .int .i64 x.p.own, .bool x.p.turns] 48)
      have f3 := g1.then (fp_alloc (wr.alloc (.cells #[.int .i64 x.op, .int .i64 x.p.kind, .string (B x.p.dir), .string (B x.p.path), .string (B x.p.data), .int .i64 x.p.ver, .int .i64 x.p.own, .bool x.p.turns] 48)) (.cells #[] 48))
      have n1 : (wr.alloc (.cells #[] 48)).heap.size = wr.heap.size + 1 := by simp
      have n2 : (wr.alloc (.cells #[.int .i64 x.op, .int .i64 x.p.kind, .string (B x.p.dir), .string (B x.p.path), .string (B x.p.data), .int .i64 x.p.ver, .int .i64 x.p.own, .bool x.p.turns] 48)).heap.size = wr.heap.size + 1 := by simp
      have hA1 := app_all (lo := wr.heap.size) (f1.drew.size |> fun _ => (Fp.refl Non (wr.alloc (.cells #[] 48))).drew.heap (heap_alloc_new wr (.cells #[] 48)) (fun h => h)) (Nat.le_refl _) f1.drew.size (hsg.non f1.drew) (by omega) 22
      have hA2 := app_all (lo := wr.heap.size) ((Fp.refl Non ((wr.alloc (.cells #[] 48)).alloc (.cells #[.int .i64 x.op, .int .i64 x.p.kind, .string (B x.p.dir), .string (B x.p.path), .string (B x.p.data), .int .i64 x.p.ver, .int .i64 x.p.own, .bool x.p.turns] 48))).drew.heap ((fp_alloc (wr.alloc (.cells #[] 48)) (.cells #[.int .i64 x.op, .int .i64 x.p.kind, .string (B x.p.dir), .string (B x.p.path), .string (B x.p.data), .int .i64 x.p.ver, .int .i64 x.p.own, .bool x.p.turns] 48)).heap (heap_alloc_new wr (.cells #[] 48)) (fun h => h)) (fun h => h)) (Nat.le_refl _) f2.drew.size (hsg.non f2.drew) (by omega) 22
      have hA3 := app_all (lo := wr.heap.size) ((Fp.refl Non ((wr.alloc (.cells #[.int .i64 x.op, .int .i64 x.p.kind, .string (B x.p.dir), .string (B x.p.path), .string (B x.p.data), .int .i64 x.p.ver, .int .i64 x.p.own, .bool x.p.turns] 48)).alloc (.cells #[] 48))).drew.heap (heap_alloc_new (wr.alloc (.cells #[.int .i64 x.op, .int .i64 x.p.kind, .string (B x.p.dir), .string (B x.p.path), .string (B x.p.data), .int .i64 x.p.ver, .int .i64 x.p.own, .bool x.p.turns] 48)) (.cells #[] 48)) (fun h => h)) g1.size f3.drew.size (hsg.non f3.drew) (by omega) 22
      rw [n2] at hA3
      have x2 := heap_alloc_new (wr.alloc (.cells #[] 48)) (.cells #[.int .i64 x.op, .int .i64 x.p.kind, .string (B x.p.dir), .string (B x.p.path), .string (B x.p.data), .int .i64 x.p.ver, .int .i64 x.p.own, .bool x.p.turns] 48)
      rw [n1] at x2
      have x3 := (fp_alloc (wr.alloc (.cells #[.int .i64 x.op, .int .i64 x.p.kind, .string (B x.p.dir), .string (B x.p.path), .string (B x.p.data), .int .i64 x.p.ver, .int .i64 x.p.own, .bool x.p.turns] 48)) (.cells #[] 48)).heap (heap_alloc_new wr (.cells #[.int .i64 x.op, .int .i64 x.p.kind, .string (B x.p.dir), .string (B x.p.path), .string (B x.p.data), .int .i64 x.p.ver, .int .i64 x.p.own, .bool x.p.turns] 48)) (fun h => h)
      have c50 : wr.cell? ⟨w.heap.size, 5, none⟩ = some (.slice pa pn pc) := by rw [cell_of_row _ _ _ _ _ _ hbox]; rfl
      obtain ⟨p0_0, p1_0, p2_0, p3_0, p4_0, p5_0, p6_0, p7_0⟩ := boxP8 hpb
      have c5a := (f1).cell c50 (fun h => h)
      have p0_a := (f1).cell p0_0 (fun h => h)
      have p1_a := (f1).cell p1_0 (fun h => h)
      have p2_a := (f1).cell p2_0 (fun h => h)
      have p3_a := (f1).cell p3_0 (fun h => h)
      have p4_a := (f1).cell p4_0 (fun h => h)
      have p5_a := (f1).cell p5_0 (fun h => h)
      have p6_a := (f1).cell p6_0 (fun h => h)
      have p7_a := (f1).cell p7_0 (fun h => h)
      have c5b := (f2).cell c50 (fun h => h)
      have p0_b := (f2).cell p0_0 (fun h => h)
      have p1_b := (f2).cell p1_0 (fun h => h)
      have p2_b := (f2).cell p2_0 (fun h => h)
      have p3_b := (f2).cell p3_0 (fun h => h)
      have p4_b := (f2).cell p4_0 (fun h => h)
      have p5_b := (f2).cell p5_0 (fun h => h)
      have p6_b := (f2).cell p6_0 (fun h => h)
      have p7_b := (f2).cell p7_0 (fun h => h)
      have c5c := (g1).cell c50 (fun h => h)
      have p0_c := (g1).cell p0_0 (fun h => h)
      have p1_c := (g1).cell p1_0 (fun h => h)
      have p2_c := (g1).cell p2_0 (fun h => h)
      have p3_c := (g1).cell p3_0 (fun h => h)
      have p4_c := (g1).cell p4_0 (fun h => h)
      have p5_c := (g1).cell p5_0 (fun h => h)
      have p6_c := (g1).cell p6_0 (fun h => h)
      have p7_c := (g1).cell p7_0 (fun h => h)
      have c5d := (f3).cell c50 (fun h => h)
      have p0_d := (f3).cell p0_0 (fun h => h)
      have p1_d := (f3).cell p1_0 (fun h => h)
      have p2_d := (f3).cell p2_0 (fun h => h)
      have p3_d := (f3).cell p3_0 (fun h => h)
      have p4_d := (f3).cell p4_0 (fun h => h)
      have p5_d := (f3).cell p5_0 (fun h => h)
      have p6_d := (f3).cell p6_0 (fun h => h)
      have p7_d := (f3).cell p7_0 (fun h => h)
      have HA1 := Lib.hid hA1
      have HA2 := Lib.hid hA2
      have HA3 := Lib.hid hA3
      have HQ := Lib.hid (And.intro f1.drew (And.intro f2.drew (And.intro f3.drew (And.intro ((Fp.refl Non ((wr.alloc (.cells #[] 48)).alloc (.cells #[.int .i64 x.op, .int .i64 x.p.kind, .string (B x.p.dir), .string (B x.p.path), .string (B x.p.data), .int .i64 x.p.ver, .int .i64 x.p.own, .bool x.p.turns] 48))).drew.heap x2 (fun h => h)) (And.intro ((Fp.refl Non ((wr.alloc (.cells #[.int .i64 x.op, .int .i64 x.p.kind, .string (B x.p.dir), .string (B x.p.path), .string (B x.p.data), .int .i64 x.p.ver, .int .i64 x.p.own, .bool x.p.turns] 48)).alloc (.cells #[] 48))).drew.heap x3 (fun h => h)) (And.intro hsz (And.intro hbox (And.intro hpb (And.intro (hL.fp.then hd) (And.intro hL.slc hl16))))))))))
      clear hA1 hA2 hA3 f1 f2 f3 g1 n1 n2 x2 x3 hsz hbox hpb hL hl16 hsg hd hLr
      go_wp2_with fail
      go_region_law (first
        | (refine step_app (R := Ap1 wr.heap.size L wr.heap.size _) rfl (.tmp 34) (.tmp 36) 22 22 rfl (.slice (some ⟨wr.heap.size, 0, none⟩) 0 0) (.slice pa pn pc) (by simp [Act.eval, Act.put]) (by simp [Act.eval, Act.put]) (hr := by with_reducible exact HA1.out) ?_
           intro v1 w1 hR1
           obtain ⟨a1, n1, k1, rfl⟩ := hR1.own.shape
           have hf1 : Fp Non wr w1 := HQ.out.1.over hR1.fp (fun k hk => by have hk : k = wr.heap.size := hk; omega)
           have hap := app_oneAt (x := x) (heap_alloc_new w1 (.cells #[.int .i64 x.op, .int .i64 x.p.kind, .string (B x.p.dir), .string (B x.p.path), .string (B x.p.data), .int .i64 x.p.ver, .int .i64 x.p.own, .bool x.p.turns] 48)) (Nat.le_trans hf1.size (fp_alloc w1 (.cells #[.int .i64 x.op, .int .i64 x.p.kind, .string (B x.p.dir), .string (B x.p.path), .string (B x.p.data), .int .i64 x.p.ver, .int .i64 x.p.own, .bool x.p.turns] 48)).size) (hR1.own.non (fp_alloc w1 (.cells #[.int .i64 x.op, .int .i64 x.p.kind, .string (B x.p.dir), .string (B x.p.path), .string (B x.p.data), .int .i64 x.p.ver, .int .i64 x.p.own, .bool x.p.turns] 48))) (by have := HQ.out.2.2.2.2.2.2.2.2.2.2; omega) 22
           have HB1 := Lib.hid hap
           have HFB := Lib.hid (hf1.then (fp_alloc w1 (.cells #[.int .i64 x.op, .int .i64 x.p.kind, .string (B x.p.dir), .string (B x.p.path), .string (B x.p.data), .int .i64 x.p.ver, .int .i64 x.p.own, .bool x.p.turns] 48)))
           have c5e := (hf1).cell c50 (fun h => h)
           have p0_e := (hf1).cell p0_0 (fun h => h)
           have p1_e := (hf1).cell p1_0 (fun h => h)
           have p2_e := (hf1).cell p2_0 (fun h => h)
           have p3_e := (hf1).cell p3_0 (fun h => h)
           have p4_e := (hf1).cell p4_0 (fun h => h)
           have p5_e := (hf1).cell p5_0 (fun h => h)
           have p6_e := (hf1).cell p6_0 (fun h => h)
           have p7_e := (hf1).cell p7_0 (fun h => h)
           have c5f := ((hf1.then (fp_alloc w1 (.cells #[.int .i64 x.op, .int .i64 x.p.kind, .string (B x.p.dir), .string (B x.p.path), .string (B x.p.data), .int .i64 x.p.ver, .int .i64 x.p.own, .bool x.p.turns] 48)))).cell c50 (fun h => h)
           have p0_f := ((hf1.then (fp_alloc w1 (.cells #[.int .i64 x.op, .int .i64 x.p.kind, .string (B x.p.dir), .string (B x.p.path), .string (B x.p.data), .int .i64 x.p.ver, .int .i64 x.p.own, .bool x.p.turns] 48)))).cell p0_0 (fun h => h)
           have p1_f := ((hf1.then (fp_alloc w1 (.cells #[.int .i64 x.op, .int .i64 x.p.kind, .string (B x.p.dir), .string (B x.p.path), .string (B x.p.data), .int .i64 x.p.ver, .int .i64 x.p.own, .bool x.p.turns] 48)))).cell p1_0 (fun h => h)
           have p2_f := ((hf1.then (fp_alloc w1 (.cells #[.int .i64 x.op, .int .i64 x.p.kind, .string (B x.p.dir), .string (B x.p.path), .string (B x.p.data), .int .i64 x.p.ver, .int .i64 x.p.own, .bool x.p.turns] 48)))).cell p2_0 (fun h => h)
           have p3_f := ((hf1.then (fp_alloc w1 (.cells #[.int .i64 x.op, .int .i64 x.p.kind, .string (B x.p.dir), .string (B x.p.path), .string (B x.p.data), .int .i64 x.p.ver, .int .i64 x.p.own, .bool x.p.turns] 48)))).cell p3_0 (fun h => h)
           have p4_f := ((hf1.then (fp_alloc w1 (.cells #[.int .i64 x.op, .int .i64 x.p.kind, .string (B x.p.dir), .string (B x.p.path), .string (B x.p.data), .int .i64 x.p.ver, .int .i64 x.p.own, .bool x.p.turns] 48)))).cell p4_0 (fun h => h)
           have p5_f := ((hf1.then (fp_alloc w1 (.cells #[.int .i64 x.op, .int .i64 x.p.kind, .string (B x.p.dir), .string (B x.p.path), .string (B x.p.data), .int .i64 x.p.ver, .int .i64 x.p.own, .bool x.p.turns] 48)))).cell p5_0 (fun h => h)
           have p6_f := ((hf1.then (fp_alloc w1 (.cells #[.int .i64 x.op, .int .i64 x.p.kind, .string (B x.p.dir), .string (B x.p.path), .string (B x.p.data), .int .i64 x.p.ver, .int .i64 x.p.own, .bool x.p.turns] 48)))).cell p6_0 (fun h => h)
           have p7_f := ((hf1.then (fp_alloc w1 (.cells #[.int .i64 x.op, .int .i64 x.p.kind, .string (B x.p.dir), .string (B x.p.path), .string (B x.p.data), .int .i64 x.p.ver, .int .i64 x.p.own, .bool x.p.turns] 48)))).cell p7_0 (fun h => h)
           clear hR1 hf1 hap)
        | (refine step_app (R := Ap1 wr.heap.size L wr.heap.size _) rfl (.tmp 34) (.tmp 36) 22 22 rfl (.slice (some ⟨wr.heap.size, 0, none⟩) 0 0) (.slice pa pn pc) (by simp [Act.eval, Act.put]) (by simp [Act.eval, Act.put]) (hr := by with_reducible exact HA2.out) ?_
           intro v1 w1 hR1
           obtain ⟨a1, n1, k1, rfl⟩ := hR1.own.shape
           have hf1 : Fp Non wr w1 := HQ.out.2.1.over hR1.fp (fun k hk => by have hk : k = wr.heap.size := hk; omega)
           have hap := app_oneAt (x := x) (hR1.fp.heap HQ.out.2.2.2.1 (fun hk => by have hk : wr.heap.size + 1 = wr.heap.size := hk; omega)) hf1.size hR1.own (by have := HQ.out.2.2.2.2.2.2.2.2.2.2; omega) 22
           have HB2 := Lib.hid hap
           have HFB := Lib.hid hf1
           have c5e := (hf1).cell c50 (fun h => h)
           have p0_e := (hf1).cell p0_0 (fun h => h)
           have p1_e := (hf1).cell p1_0 (fun h => h)
           have p2_e := (hf1).cell p2_0 (fun h => h)
           have p3_e := (hf1).cell p3_0 (fun h => h)
           have p4_e := (hf1).cell p4_0 (fun h => h)
           have p5_e := (hf1).cell p5_0 (fun h => h)
           have p6_e := (hf1).cell p6_0 (fun h => h)
           have p7_e := (hf1).cell p7_0 (fun h => h)
           clear hR1 hf1 hap)
        | (refine step_app (R := Ap1 wr.heap.size L (wr.heap.size + 1) _) rfl (.tmp 34) (.tmp 36) 22 22 rfl (.slice (some ⟨wr.heap.size + 1, 0, none⟩) 0 0) (.slice pa pn pc) (by simp [Act.eval, Act.put]) (by simp [Act.eval, Act.put]) (hr := by with_reducible exact HA3.out) ?_
           intro v1 w1 hR1
           obtain ⟨a1, n1, k1, rfl⟩ := hR1.own.shape
           have hf1 : Fp Non wr w1 := HQ.out.2.2.1.over hR1.fp (fun k hk => by have hk : k = wr.heap.size + 1 := hk; omega)
           have hap := app_oneAt (x := x) (hR1.fp.heap HQ.out.2.2.2.2.1 (fun hk => by have hk : wr.heap.size = wr.heap.size + 1 := hk; omega)) hf1.size hR1.own (by have := HQ.out.2.2.2.2.2.2.2.2.2.2; omega) 22
           have HB3 := Lib.hid hap
           have HFB := Lib.hid hf1
           have c5e := (hf1).cell c50 (fun h => h)
           have p0_e := (hf1).cell p0_0 (fun h => h)
           have p1_e := (hf1).cell p1_0 (fun h => h)
           have p2_e := (hf1).cell p2_0 (fun h => h)
           have p3_e := (hf1).cell p3_0 (fun h => h)
           have p4_e := (hf1).cell p4_0 (fun h => h)
           have p5_e := (hf1).cell p5_0 (fun h => h)
           have p6_e := (hf1).cell p6_0 (fun h => h)
           have p7_e := (hf1).cell p7_0 (fun h => h)
           clear hR1 hf1 hap)
        | (refine step_app (R := ApG 48 peC 8 wr.heap.size (L ++ [x]) _) rfl (.tmp 37) (.tmp 39) 22 22 rfl (.slice a1 n1 k1) (.slice (some ⟨w1.heap.size, 0, none⟩) 1 1) (by simp [Act.eval, Act.put]) (by simp [Act.eval, Act.put]) (hr := by with_reducible exact HB1.out) ?_
           intro v2 w2 hR2
           obtain ⟨a2, n2, k2, rfl⟩ := hR2.own.shape
           have hf2 : Fp Non wr w2 := HFB.out.over hR2.fp (fun k hk => hk)
           have cc := hf2.cell c50 (fun h => h)
           have cz := frz (hf2.heap HQ.out.2.2.2.2.2.2.1 (fun h => h)) 5
           have HR2 := Lib.hid (And.intro hR2.own hf2)
           clear hR2 hf2)
        | (refine step_app (R := ApG 48 peC 8 wr.heap.size (L ++ [x]) _) rfl (.tmp 37) (.tmp 39) 22 22 rfl (.slice a1 n1 k1) (.slice (some ⟨wr.heap.size + 1, 0, none⟩) 1 1) (by simp [Act.eval, Act.put]) (by simp [Act.eval, Act.put]) (hr := by with_reducible exact HB2.out) ?_
           intro v2 w2 hR2
           obtain ⟨a2, n2, k2, rfl⟩ := hR2.own.shape
           have hf2 : Fp Non wr w2 := HFB.out.over hR2.fp (fun k hk => hk)
           have cc := hf2.cell c50 (fun h => h)
           have cz := frz (hf2.heap HQ.out.2.2.2.2.2.2.1 (fun h => h)) 5
           have HR2 := Lib.hid (And.intro hR2.own hf2)
           clear hR2 hf2)
        | (refine step_app (R := ApG 48 peC 8 wr.heap.size (L ++ [x]) _) rfl (.tmp 37) (.tmp 39) 22 22 rfl (.slice a1 n1 k1) (.slice (some ⟨wr.heap.size, 0, none⟩) 1 1) (by simp [Act.eval, Act.put]) (by simp [Act.eval, Act.put]) (hr := by with_reducible exact HB3.out) ?_
           intro v2 w2 hR2
           obtain ⟨a2, n2, k2, rfl⟩ := hR2.own.shape
           have hf2 : Fp Non wr w2 := HFB.out.over hR2.fp (fun k hk => hk)
           have cc := hf2.cell c50 (fun h => h)
           have cz := frz (hf2.heap HQ.out.2.2.2.2.2.2.1 (fun h => h)) 5
           have HR2 := Lib.hid (And.intro hR2.own hf2)
           clear hR2 hf2))
      all_goals go_wp2
      all_goals
        have hlt1 : w.heap.size + 1 < wr.heap.size := (Array.getElem?_eq_some_iff.1 HQ.out.2.2.2.2.2.2.2.1).1
        have f5 := (Fp.refl (fun k => k = w.heap.size) w2).setCell (p := ⟨w.heap.size, 5, none⟩) (.inl rfl) (.slice a2 n2 k2)
        have hfin : Hid (∃ a k n, Sg peC 8 (w2.setCell ⟨w.heap.size, 5, none⟩ (.slice a2 n2 k2)) (.slice a k n) (L ++ [x]) ∧ (w2.setCell ⟨w.heap.size, 5, none⟩ (.slice a2 n2 k2)).heap[w.heap.size]? = some (.cells (cdL { c with ps := L ++ [x] } (.slice a k n) vn vt vg) TCD (0, 0)) ∧ (w2.setCell ⟨w.heap.size, 5, none⟩ (.slice a2 n2 k2)).heap[w.heap.size + 1]? = some (.cells #[.int .i64 x.op, .int .i64 x.p.kind, .string (B x.p.dir), .string (B x.p.path), .string (B x.p.data), .int .i64 x.p.ver, .int .i64 x.p.own, .bool x.p.turns] 48 (0, 0)) ∧ Fp Non w (w2.setCell ⟨w.heap.size, 5, none⟩ (.slice a2 n2 k2))) := by
          refine Lib.hid ⟨a2, n2, k2, ((HR2.out.1.keep f5 (fun j hj e => by omega)).sg peC_len), ?_, ?_, ?_⟩
          · rw [set_heap (HR2.out.2.heap HQ.out.2.2.2.2.2.2.1 (fun h => h)) 5 _]; rfl
          · exact f5.heap (HR2.out.2.heap HQ.out.2.2.2.2.2.2.2.1 (fun h => h)) (fun e => by omega)
          · exact (HQ.out.2.2.2.2.2.2.2.2.1.then HR2.out.2).over f5 (fun k hk => by have hk : k = w.heap.size := hk; omega)
        go_meet
        case rel => exact hfin
    case rest =>
      obtain ⟨qa, qn, qc, hsg, hbox, hpb, hfp⟩ := hcut.out
      obtain ⟨qa', qc', hq⟩ := hsg.shape
      injection hq with e1 e2 e3
      subst e1 e2 e3
      have hfew := HL.out.2.few
      have hl16 : L.length ≤ 16 := HT.out.ps.1
      obtain ⟨M, hM⟩ : ∃ M, M = (L ++ [x]).length := ⟨_, rfl⟩
      have hM1 : M = L.length + 1 := by rw [hM]; simp
      rw [← hM] at hsg hbox
      have hS2 : Slc (.slice qa M qc) vn vt vg := ⟨⟨_, _, _, rfl⟩, HL.out.2.slc.n, HL.out.2.slc.t, HL.out.2.slc.g⟩
      have hCW : CdW wc (.agg (cdL { c with ps := L ++ [x] } (.slice qa M qc) vn vt vg)) { c with ps := L ++ [x] } := ⟨_, _, _, _, rfl, hsg, HV.out.2.1.non hfp, HV.out.2.2.1.non hfp, HV.out.2.2.2.1.non hfp⟩
      have hFw' : Fw { c with ps := L ++ [x] } := ⟨hfew.pre, hfew.wp, by show (L ++ [x]).length ≤ 1000000; omega, (fun y hy => by
        rcases List.mem_append.1 hy with h | h
        · exact hfew.ps y h
        · have := HX.out; simp at h; subst h; omega), hfew.nn, hfew.nodes, hfew.tn, hfew.turns, hfew.gn, hfew.gone⟩
      have HPU := Lib.hid (Put_c _ _ wc hCW hFw')
      have HB := Lib.hid (And.intro hbox (And.intro hpb (And.intro hfp (And.intro hsg (And.intro hS2 hFw')))))
      have HMM := Lib.hid (And.intro hM (And.intro hM1 hl16))
      clear hsg hpb hfp hS2 hCW hFw' hfew hcut hM hM1 hl16
      go_wp2_with (refine wpList_ldC (by rfl) TCD _ rfl _ _ rfl (ld_cd (by assumption) rfl) ?_)
      refine HPU.out.mono ?_
      rintro e wd ⟨vb, rfl, hx⟩
      obtain ⟨r2, hr2⟩ : ∃ r, rightC { c with ps := L ++ [x] } = r := ⟨_, rfl⟩
      have hr2' := hr2
      obtain ⟨ec2, hec2⟩ : ∃ e : Int, e = (if rightC { c with ps := L ++ [x] } = true then 0 else 1) := ⟨_, rfl⟩
      rw [← hec2]
      have hbx := hx.fp.heap HB.out.1 (fun h => h)
      have hL2 : LgS c x vn vt vg w (L ++ [x]) (.slice qa M qc) vb wd := ⟨HB.out.2.2.1.then hx.fp, hbx, hx.fp.heap HB.out.2.1 (fun h => h), HB.out.2.2.2.1.non hx.fp, HB.out.2.2.2.2.1, HB.out.2.2.2.2.2, hx.sl⟩
      obtain ⟨b2, hb2⟩ : ∃ l : Bs, l = (if rightC { c with ps := L ++ [x] } = true then encCd { c with ps := L ++ [x] } else []) := ⟨_, rfl⟩
      rw [← hb2] at hx
      obtain ⟨b2ao, b2cap, rfl⟩ := hx.shape
      have hpc : wd.cell? ⟨w.heap.size, 5, none⟩ = some (.slice qa M qc) := by rw [cell_of_row _ _ _ _ _ _ hbx]; rfl
      have HL2 := Lib.hid (And.intro hr2' hL2)
      have hM17 : M ≤ 17 := by have h1 := HMM.out.2.1; have h2 := HMM.out.2.2; omega
      cases r2 with
      | true =>
        have hC2 : CdR { c with ps := L ++ [x] } := (rightC_iff _).1 hr2
        have hbl : bl.length < b2.length := by
          rw [HBL.out, HL.out.1, hb2, hr2]
          exact encCd_more hC2
        have hm : M ≤ 16 := by have := hC2.ps.1; rw [HMM.out.1]; exact this
        have he0 : ec2 = 0 := by rw [hec2, hr2]; rfl
        subst he0
        have q5 : ((b2.length : Int) ≤ (bl.length : Int)) = False := eq_false (by omega)
        have q6 : (b2.length ≤ bl.length) = False := eq_false (by omega)
        have q7 : ((16 : Int) < (M : Int)) = False := eq_false (by omega)
        have q8 : (16 < M) = False := eq_false (by omega)
        clear hx hL2 hec2 hb2 hbx hr2 hr2' hC2 hbl HPU
        go_wp2_with fail
        go_roundw
        case rel => exact ⟨j + 1, by omega, by go_num, ⟨M, by omega, rfl⟩, 0, rfl, Lib.hid ⟨true, L ++ [x], _, HL2.out.1, .inl ⟨rfl, rfl⟩, HL2.out.2⟩⟩
        case measure => simp [RowKit.intOf]; omega
      | false =>
        have he0 : ec2 = 1 := by rw [hec2, hr2]; rfl
        subst he0
        clear hx hL2 hec2 hb2 hbx hr2 hr2' HPU
        go_wp2_with fail
        go_roundw
        case rel => exact ⟨j + 1, by omega, by go_num, ⟨M, by omega, rfl⟩, 1, rfl, Lib.hid ⟨false, L ++ [x], _, HL2.out.1, .inr ⟨rfl, rfl⟩, HL2.out.2⟩⟩
        case measure => simp [RowKit.intOf]; omega
end Go.Proofs.Ytlmfinpmlilcgaa
