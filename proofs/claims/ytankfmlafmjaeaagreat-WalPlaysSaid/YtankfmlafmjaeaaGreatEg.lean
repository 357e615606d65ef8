/- The document's Crash. -/
import Derived.Test.YtankfmlafmjaeaaGreatEd
namespace Go.Proofs.YtankfmlafmjaeaaGreat
set_option maxRecDepth 20000
open Go.RowKit Pm

/-- The disk in the midst of a crash: its bytes are c. -/
structure RfC (p : At) (s : Dk) (c : Bs) (w : World) : Prop where
  blk : w.heap[p.b]? = some (.cells (rcells p s) TR (0, 0))
  cur : Cl w p.g (bcs c)
  old : Cl w p.o (bcs s.old)
  wet : Cl w p.t (wcs s.wet)
  len : c.length = s.cur.length

theorem RfC.c {p : At} {s : Dk} {c : Bs} {w : World} (h : RfC p s c w) (j : Nat) : w.cell? ⟨p.b, j, none⟩ = (rcells p s)[j]? := by simp [World.cell?, h.blk]
theorem RfC.c0 {p : At} {s : Dk} {c : Bs} {w : World} (h : RfC p s c w) : w.cell? ⟨p.b, 0, none⟩ = some (.slice (some ⟨p.g, 0, none⟩) s.cur.length p.gc) := h.c 0
theorem RfC.c1 {p : At} {s : Dk} {c : Bs} {w : World} (h : RfC p s c w) : w.cell? ⟨p.b, 1, none⟩ = some (.slice (some ⟨p.o, 0, none⟩) s.old.length p.oc) := h.c 1
/-- A byte stored. -/
theorem RfC.byte {p : At} {s : Dk} {c : Bs} {w : World} (h : RfC p s c w) (hn : p.b ≠ p.g ∧ p.g ≠ p.o ∧ p.g ≠ p.t) (j : Nat) (hj : j < c.length) (x : UInt8) :
    RfC p s (c.set j x) (w.setCell ⟨p.g, j, none⟩ (.int .u8 (x.toNat : Int))) := by
  have f1 := fp_set w p.g j (.int .u8 (x.toNat : Int))
  have c1 := h.cur.set j (by simp [bcs, Lib.byteCells]; exact hj) (.int .u8 (x.toNat : Int))
  rw [byteCells_set] at c1
  exact ⟨f1.heap h.blk hn.1, c1, h.old.keep f1 (fun e => hn.2.1 e.symm), h.wet.keep f1 (fun e => hn.2.2 e.symm), by rw [List.length_set]; exact h.len⟩
theorem RfC.keep {p : At} {s : Dk} {c : Bs} {w w' : World} (h : RfC p s c w) (f : Fp Non w w') : RfC p s c w' :=
  ⟨f.heap h.blk (fun h => h), h.cur.keep f (fun h => h), h.old.keep f (fun h => h), h.wet.keep f (fun h => h), h.len⟩

theorem crash_rt {s : Dk} (h : Rt s) (keep : List Bool) : Rt { s with cur := cr s.old keep (loose s.wet) 0 s.cur } := by
  have hl := cr_len s.old keep _ h.ol (loose s.wet) 0 s.cur (fun q hq => (mem_loose.1 hq).1) h.cl
  have hb := cr_blk s.old keep _ h.ol (loose s.wet) 0 s.cur (loose_nodup _) (fun q hq => (mem_loose.1 hq).1) h.cl
  refine ⟨h.lo, h.hi, hl, h.ol, h.f1, h.f2, fun i hi hw => ?_⟩
  have hn : i ∉ loose s.wet := fun hm => by
    obtain ⟨h1, h2⟩ := mem_loose.1 hm
    rw [h2] at hw; cases hw
  exact (hb.2 i hi hn).trans (h.dry i hi hw)

theorem cr_kept (old : Bs) (keep : List Bool) (L : List Nat) (k : Nat) (c : Bs) (h : k < L.length) (hk : keep.getD k false = true) : cr old keep (L.drop k) k c = cr old keep (L.drop (k + 1)) (k + 1) c := by
  rw [List.drop_eq_getElem_cons h]; simp only [cr, hk, if_true]
theorem cr_back (old : Bs) (keep : List Bool) (L : List Nat) (k : Nat) (c : Bs) (h : k < L.length) (hk : keep.getD k false = false) : cr old keep (L.drop k) k c = cr old keep (L.drop (k + 1)) (k + 1) (spl c (L[k] * 16) (blk old L[k])) := by
  rw [List.drop_eq_getElem_cons h]; simp only [cr, hk, Bool.false_eq_true, if_false]

theorem qlen (s : Dk) (h : Rt s) (q : Nat) (hq : q < s.wet.length) : q * 16 + 16 ≤ s.cur.length := by have := h.cl; omega
theorem oldlen (s : Dk) (h : Rt s) : s.old.length = s.cur.length := h.ol.trans h.cl.symm
theorem xbound (q j x : Nat) (hx : q * 16 + j = x) (hj : j < 16) (hq : q < 4096) : x < 70000 := by omega
theorem x_lt (q j x : Nat) (hx : q * 16 + j = x) (hj : j < 16) : x < (q + 1) * 16 := by omega
theorem take_blk (l : Bs) (q j : Nat) (h : j = 16) : (blk l q).take j = blk l q := List.take_of_length_le (by subst h; unfold blk; exact List.length_take_le _ _)
theorem j_16 (j : Nat) (h1 : j ≤ 16) (h2 : ¬ j < 16) : j = 16 := by omega
/-- The disk behind the loops, and behind all of it. -/
def cut (s : Dk) (keep : List Bool) : Dk := { s with cur := cr s.old keep (loose s.wet) 0 s.cur }
theorem RfC.rf {lo : Nat} {p : At} {s : Dk} {keep : List Bool} {w0 w : World} (h0 : Rf lo p s w0) (h : RfC p s (cr s.old keep (loose s.wet) 0 s.cur) w) : Rf lo p (cut s keep) w := by
  refine ⟨crash_rt h0.rt keep, h0.low, h0.ne, ⟨by show (cr s.old keep (loose s.wet) 0 s.cur).length ≤ _ ∧ _; rw [h.len]; exact h0.cap.1, h0.cap.2⟩, ?_, h.cur, h.old, h.wet⟩
  rw [h.blk]
  have : (cut s keep).cur.length = s.cur.length := h.len
  simp only [rcells, this]
  rfl
abbrev cr8 (p : At) (w : World) : World := ((w.setCell ⟨p.b, 4, none⟩ (.bool false)).setCell ⟨p.b, 5, none⟩ (.int .i64 0)).setCell ⟨p.b, 6, none⟩ (.bool false)
theorem reset {lo : Nat} {p : At} {s : Dk} {keep : List Bool} {w : World} (h : Rf lo p { cut s keep with old := (cut s keep).cur, wet := List.replicate (cut s keep).wet.length false } w) : Rf lo p (dCrash s keep) (cr8 p w) ∧ Fp (fun k => k = p.b) w (cr8 p w) := by
  have f : Fp (fun k => k = p.b) w (cr8 p w) := ((fp_set w p.b 4 (.bool false)).same (fp_set _ p.b 5 (.int .i64 0))).same (fp_set _ p.b 6 (.bool false))
  refine ⟨h.turn ?_ ⟨rfl, rfl, rfl⟩ f ?_, f⟩
  · have hr := h.rt
    exact ⟨hr.lo, hr.hi, hr.cl, hr.ol, by show (-1 : Int) ≤ -1; omega, by show (-1 : Int) ≤ 9223372036854775807; omega, hr.dry⟩
  · have k4 := heap_setCell_same w p.b 4 _ TR (.bool false) h.blk
    have k5 := heap_setCell_same _ p.b 5 _ TR (.int .i64 0) k4
    have k6 := heap_setCell_same _ p.b 6 _ TR (.bool false) k5
    rw [k6]
    rfl
theorem reset1 {lo : Nat} {p : At} {s : Dk} {keep : List Bool} {w : World} (S1 : Dk) (e : S1 = cut s keep) (h : Rf lo p { S1 with old := S1.cur, wet := List.replicate S1.wet.length false } w) : Rf lo p (dCrash s keep) (cr8 p w) ∧ Fp (fun k => k = p.b) w (cr8 p w) := by
  subst e; exact reset h
theorem pos_of (s : Dk) (h1 : s.cur.length = s.wet.length * 16) (h2 : 1 ≤ s.wet.length) : 0 < s.cur.length := by omega
theorem ne12 (b : Nat) : (⟨b, 1, none⟩ : Addr) ≠ ⟨b, 2, none⟩ := by intro e; injection e with _ e; omega
theorem v_start (q : Nat) : Value.int .i64 ((q : Int) * 16) = Value.int .i64 ((q * 16 + 0 : Nat) : Int) := by congr 1
theorem v_next (x : Nat) : Value.int .i64 ((x : Int) + 1) = Value.int .i64 ((x + 1 : Nat) : Int) := rfl
/-- The numbers of a byte's round. -/
theorem byte_facts (q j x L : Nat) (hx : x = q * 16 + j) (hj : j < 16) (hL : q * 16 + 16 ≤ L) : ((x : Int) < ((q : Int) + 1) * 16) = True ∧ ((x : Int) < (L : Int)) = True ∧ (x < L) = True :=
  ⟨eq_true (by omega), eq_true (by omega), eq_true (by omega)⟩
theorem byte_end (q x : Nat) (hx : x = q * 16 + 16) : ((x : Int) < ((q : Int) + 1) * 16) = False := eq_false (by omega)

theorem blk_at (l : Bs) (q j x : Nat) (hx : q * 16 + j = x) (hj : j < 16) (hl : x < l.length) (hl2 : j < (blk l q).length) : (blk l q)[j] = l[x] := by
  have := blk_get l q j hj
  rw [hx, List.getElem?_eq_getElem hl2, List.getElem?_eq_getElem hl] at this
  exact Option.some.inj this

attribute [local irreducible] wpStill

set_option maxHeartbeats 4000000 in
theorem RCrash_walk {lo : Nat} {p : At} {s : Dk} {w : World} (h : Rf lo p s w) (kv : Value) (keep : List Bool) (hk : Sb w kv keep) (hd : 0 < keep.length → ∀ k, kv.ownBlock = some k → ¬ own4 p k) :
    Calls Tryz.prog 14 #[.pointer (some ⟨p.b, 0, none⟩), kv] w fun e w' => ∃ p', e = .returned (.tuple #[]) ∧ Rf lo p' (dCrash s keep) w' ∧ Fp (own4 p) w w' ∧ p'.b = p.b ∧ (∀ k, own4 p' k → own4 p k ∨ w.heap.size ≤ k) := by
  obtain ⟨kao, kcap, rfl, hk1, _, hk3⟩ := hk.ex
  have hlo := RLoose_c h
  have HL := Lib.hid hlo
  have HH := Lib.hid (And.intro h (And.intro hd (And.intro hk1 hk3)))
  clear h hk hd hk1 hk3 hlo
  go_enter Tryz.func14, Tryz.ntmps14
  go_wp2_with fail
  refine HL.out.mono ?_
  rintro e w1 ⟨lv, rfl, hlv⟩
  obtain ⟨lao, lcap, rfl, hlc⟩ := hlv.cells
  have h1 := HH.out.1.keep hlv.fp (fun _ _ h => h)
  have H1 := Lib.hid (And.intro hlv.fp (And.intro hlc h1)); clear hlv hlc h1
  go_wp2_with fail
  go_loopw [5] (fun i wr => ∃ k : Nat, k ≤ (loose s.wet).length ∧ i = .int .i64 k ∧ ∃ c, Hid (RfC p s c wr ∧ cr s.old keep ((loose s.wet).drop k) k c = cr s.old keep (loose s.wet) 0 s.cur ∧ Fp (own4 p) w1 wr)) (fun i _ => (loose s.wet).length - (RowKit.intOf i).toNat)
  case atStart => exact ⟨0, Nat.zero_le _, rfl, s.cur, ⟨H1.out.2.2.blk, H1.out.2.2.cur, H1.out.2.2.old, H1.out.2.2.wet, rfl⟩, by rw [List.drop_zero], Fp.refl _ _⟩
  case round =>
    obtain ⟨k, hk, rfl, c, hR⟩ := hrel
    rename_i wr _
    by_cases hlt : k < (loose s.wet).length
    · obtain ⟨lg, rfl, hge, hlc⟩ := H1.out.2.1 (Nat.lt_of_le_of_lt (Nat.zero_le _) hlt)
      have hln : ¬ own4 p lg := fun ho => absurd (HH.out.1.all _ ho).2 (Nat.not_lt.2 hge)
      have hqm : (loose s.wet)[k] < s.wet.length := (mem_loose.1 (List.getElem_mem hlt)).1
      have hc0 := hlc k hlt
      have g1 : ((k : Int) < ((loose s.wet).length : Int)) = True := eq_true (Int.ofNat_lt.2 hlt)
      have g2 : (k < (loose s.wet).length) = True := eq_true hlt
      have hkept := cr_kept s.old keep (loose s.wet) k c hlt
      have hback := cr_back s.old keep (loose s.wet) k c hlt
      generalize (loose s.wet)[k] = q at *
      have hqb : q < 4096 := Nat.lt_of_lt_of_le hqm HH.out.1.rt.hi
      have hcl := hR.out.2.2.cell hc0 hln
      have hkb : k < 4096 := Nat.lt_of_lt_of_le hlt (Nat.le_trans (lt_len s.wet s.wet.length) HH.out.1.rt.hi)
      have HK := Lib.hid (And.intro hlt (And.intro hkept (And.intro hback (And.intro hqm (And.intro hln (And.intro hc0 (wrap_one' k hkb)))))))
      clear hkept hback hqm hlc hln hge hc0 hlt hk hkb
      by_cases hkk : k < keep.length
      · rcases HH.out.2.2.2 with hz | ⟨kg, ko, rfl, _, hkc⟩
        · exact absurd (Nat.lt_of_lt_of_le hkk (hz ▸ HH.out.2.2.1)) (Nat.not_lt_zero k)
        have hkn : ¬ own4 p kg := HH.out.2.1 (Nat.lt_of_le_of_lt (Nat.zero_le _) hkk) kg rfl
        have ck := ((Fp.any H1.out.1).same hR.out.2.2).cell (hkc k hkk) hkn
        have g3 : ((k : Int) < (keep.length : Int)) = True := eq_true (Int.ofNat_lt.2 hkk)
        have g4 : (k < keep.length) = True := eq_true hkk
        have hgd : keep.getD k false = keep[k] := by simp [List.getD, hkk]
        generalize keep[k] = x at ck hgd
        clear hkn hkc hkk
        cases x with
        | true =>
          have HB := Lib.hid (HK.out.2.1 hgd)
          clear hgd
          go_wp2
          go_roundw
          case rel => exact ⟨k + 1, HK.out.1, congrArg (Value.int .i64) HK.out.2.2.2.2.2.2, c, hR.out.1, HB.out.symm.trans hR.out.2.1, hR.out.2.2⟩
          case measure => have := HK.out.1; rw [HK.out.2.2.2.2.2.2]; simp [RowKit.intOf]; omega
        | false =>
          have hR2 : RfC p s (spl c (q * 16) ((blk s.old q).take 0)) wr := by rw [List.take_zero, spl_nil]; exact hR.out.1
          have HB := Lib.hid (And.intro (HK.out.2.2.1 hgd) (And.intro hR2 hR.out.2.2))
          clear hgd hR2
          go_wp2_with fail
          go_loopw [6] (fun x wr2 => ∃ j : Nat, j ≤ 16 ∧ x = .int .i64 ((q * 16 + j : Nat) : Int) ∧ Hid (RfC p s (spl c (q * 16) ((blk s.old q).take j)) wr2 ∧ Fp (own4 p) w1 wr2)) (fun x _ => (q + 1) * 16 - (RowKit.intOf x).toNat)
          case atStart => exact ⟨0, Nat.zero_le _, v_start q, HB.out.2.1, HB.out.2.2⟩
          case round =>
            obtain ⟨j, hj, rfl, hI⟩ := hrel
            have hcl2 := hI.out.2.cell HK.out.2.2.2.2.2.1 HK.out.2.2.2.2.1
            generalize hx : q * 16 + j = x
            by_cases hj16 : j < 16
            · have hLn : q * 16 + 16 ≤ s.cur.length := qlen s HH.out.1.rt q HK.out.2.2.2.1
              have hoe : s.old.length = s.cur.length := oldlen s HH.out.1.rt
              obtain ⟨g5, g6, g7⟩ := byte_facts q j x s.cur.length hx.symm hj16 hLn
              obtain ⟨_, g8, g9⟩ := byte_facts q j x s.old.length hx.symm hj16 (hoe ▸ hLn)
              have hxl : x < s.old.length := of_eq_true g9
              have hbl : (blk s.old q).length = 16 := blk_len _ _ (hoe ▸ hLn)
              have hsl : (spl c (q * 16) ((blk s.old q).take j)).length = s.cur.length := hI.out.1.len
              have c0 := hI.out.1.c0
              have c1 := hI.out.1.c1
              have co := hI.out.1.old.cell x (by simp [bcs, Lib.byteCells]; exact hxl)
              rw [show (bcs s.old)[x]'(by simp [bcs, Lib.byteCells]; exact hxl) = .int .u8 (s.old[x].toNat : Int) by simp [bcs, Lib.byteCells]] at co
              have cg : ∃ u, wr.cell? ⟨p.g, x, none⟩ = some u := ⟨_, hI.out.1.cur.cell x (by simp [bcs, Lib.byteCells]; rw [hsl]; exact of_eq_true g7)⟩
              obtain ⟨ug, cg⟩ := cg
              have fg := hI.out.1.cur.fz x
              have hby := hI.out.1.byte ⟨HH.out.1.ne.1.1, HH.out.1.ne.2.1, HH.out.1.ne.2.2.1⟩ x (by rw [hsl]; exact of_eq_true g7) s.old[x]
              have hst := spl_step c (q * 16) (blk s.old q) j (by rw [hbl, hR.out.1.len]; exact hLn) (by rw [hbl]; exact hj16)
              rw [blk_at s.old q j x hx hj16 hxl, hx] at hst
              rw [hst] at hby
              generalize s.old[x] = z at *
              have HI := Lib.hid (And.intro hj16 (And.intro hby (And.intro (show q * 16 + (j + 1) = x + 1 from congrArg Nat.succ hx) (And.intro (fp_set wr p.g x (.int .u8 (z.toNat : Int))) (x_lt q j x hx hj16)))))
              have hxb : x < 70000 := xbound q j x hx hj16 hqb
              clear hj hx hj16 hLn hoe hxl hbl hsl hby hst
              go_wp2_with fail
              refine wp_region_still_tail 12 (by kernel_rfl) (by kernel_rfl) ?_
              simp only [List.take_succ_cons, List.take_zero, List.drop_succ_cons, List.drop_zero]
              change wpStill _ _ wr.drew _ _ _
              repeat still_step
              refine wpStill_nil ?_
              change wpList _ _ _ _ _ wr.drew
              go_wp2_with fail
              go_roundw
              case rel => exact ⟨j + 1, HI.out.1, by rw [HI.out.2.2.1]; rfl, HI.out.2.1.keep (Fp.drew (Fp.refl Non _)), (hI.out.2.same (HI.out.2.2.2.1.mono (fun k hk => .inr (.inl hk)))).drew⟩
              case measure => have := HI.out.2.2.2.2; simp [RowKit.intOf]; omega
            · have hje := j_16 j hj hj16
              have g5 := byte_end q x (by rw [← hx, hje])
              have hfin : RfC p s (spl c (q * 16) (blk s.old q)) wr := by rw [← take_blk s.old q j hje]; exact hI.out.1
              have HF := Lib.hid hfin
              clear hfin hje hx hj hj16
              go_wp2
              go_roundw
              case rel => exact ⟨k + 1, HK.out.1, congrArg (Value.int .i64) HK.out.2.2.2.2.2.2, _, HF.out, HB.out.1.symm.trans hR.out.2.1, hI.out.2⟩
              case measure => have := HK.out.1; rw [HK.out.2.2.2.2.2.2]; simp [RowKit.intOf]; omega
      · have g3 : ((k : Int) < (keep.length : Int)) = False := eq_false (fun h => hkk (Int.ofNat_lt.1 h))
        have hgd : keep.getD k false = false := by simp [List.getD, Nat.not_lt.1 hkk]
        clear hkk
        have hR2 : RfC p s (spl c (q * 16) ((blk s.old q).take 0)) wr := by rw [List.take_zero, spl_nil]; exact hR.out.1
        have HB := Lib.hid (And.intro (HK.out.2.2.1 hgd) (And.intro hR2 hR.out.2.2))
        clear hgd hR2
        go_wp2_with fail
        go_loopw [6] (fun x wr2 => ∃ j : Nat, j ≤ 16 ∧ x = .int .i64 ((q * 16 + j : Nat) : Int) ∧ Hid (RfC p s (spl c (q * 16) ((blk s.old q).take j)) wr2 ∧ Fp (own4 p) w1 wr2)) (fun x _ => (q + 1) * 16 - (RowKit.intOf x).toNat)
        case atStart => exact ⟨0, Nat.zero_le _, v_start q, HB.out.2.1, HB.out.2.2⟩
        case round =>
          obtain ⟨j, hj, rfl, hI⟩ := hrel
          have hcl2 := hI.out.2.cell HK.out.2.2.2.2.2.1 HK.out.2.2.2.2.1
          generalize hx : q * 16 + j = x
          by_cases hj16 : j < 16
          · have hLn : q * 16 + 16 ≤ s.cur.length := qlen s HH.out.1.rt q HK.out.2.2.2.1
            have hoe : s.old.length = s.cur.length := oldlen s HH.out.1.rt
            obtain ⟨g5, g6, g7⟩ := byte_facts q j x s.cur.length hx.symm hj16 hLn
            obtain ⟨_, g8, g9⟩ := byte_facts q j x s.old.length hx.symm hj16 (hoe ▸ hLn)
            have hxl : x < s.old.length := of_eq_true g9
            have hbl : (blk s.old q).length = 16 := blk_len _ _ (hoe ▸ hLn)
            have hsl : (spl c (q * 16) ((blk s.old q).take j)).length = s.cur.length := hI.out.1.len
            have c0 := hI.out.1.c0
            have c1 := hI.out.1.c1
            have co := hI.out.1.old.cell x (by simp [bcs, Lib.byteCells]; exact hxl)
            rw [show (bcs s.old)[x]'(by simp [bcs, Lib.byteCells]; exact hxl) = .int .u8 (s.old[x].toNat : Int) by simp [bcs, Lib.byteCells]] at co
            have cg : ∃ u, wr.cell? ⟨p.g, x, none⟩ = some u := ⟨_, hI.out.1.cur.cell x (by simp [bcs, Lib.byteCells]; rw [hsl]; exact of_eq_true g7)⟩
            obtain ⟨ug, cg⟩ := cg
            have fg := hI.out.1.cur.fz x
            have hby := hI.out.1.byte ⟨HH.out.1.ne.1.1, HH.out.1.ne.2.1, HH.out.1.ne.2.2.1⟩ x (by rw [hsl]; exact of_eq_true g7) s.old[x]
            have hst := spl_step c (q * 16) (blk s.old q) j (by rw [hbl, hR.out.1.len]; exact hLn) (by rw [hbl]; exact hj16)
            rw [blk_at s.old q j x hx hj16 hxl, hx] at hst
            rw [hst] at hby
            generalize s.old[x] = z at *
            have HI := Lib.hid (And.intro hj16 (And.intro hby (And.intro (show q * 16 + (j + 1) = x + 1 from congrArg Nat.succ hx) (And.intro (fp_set wr p.g x (.int .u8 (z.toNat : Int))) (x_lt q j x hx hj16)))))
            have hxb : x < 70000 := xbound q j x hx hj16 hqb
            clear hj hx hj16 hLn hoe hxl hbl hsl hby hst
            go_wp2_with fail
            refine wp_region_still_tail 12 (by kernel_rfl) (by kernel_rfl) ?_
            simp only [List.take_succ_cons, List.take_zero, List.drop_succ_cons, List.drop_zero]
            change wpStill _ _ wr.drew _ _ _
            repeat still_step
            refine wpStill_nil ?_
            change wpList _ _ _ _ _ wr.drew
            go_wp2_with fail
            go_roundw
            case rel => exact ⟨j + 1, HI.out.1, by rw [HI.out.2.2.1]; rfl, HI.out.2.1.keep (Fp.drew (Fp.refl Non _)), (hI.out.2.same (HI.out.2.2.2.1.mono (fun k hk => .inr (.inl hk)))).drew⟩
            case measure => have := HI.out.2.2.2.2; simp [RowKit.intOf]; omega
          · have hje := j_16 j hj hj16
            have g5 := byte_end q x (by rw [← hx, hje])
            have hfin : RfC p s (spl c (q * 16) (blk s.old q)) wr := by rw [← take_blk s.old q j hje]; exact hI.out.1
            have HF := Lib.hid hfin
            clear hfin hje hx hj hj16
            go_wp2
            go_roundw
            case rel => exact ⟨k + 1, HK.out.1, congrArg (Value.int .i64) HK.out.2.2.2.2.2.2, _, HF.out, HB.out.1.symm.trans hR.out.2.1, hI.out.2⟩
            case measure => have := HK.out.1; rw [HK.out.2.2.2.2.2.2]; simp [RowKit.intOf]; omega
    · have hke : k = (loose s.wet).length := Nat.le_antisymm hk (Nat.not_lt.1 hlt)
      subst hke
      have g1 : (((loose s.wet).length : Int) < ((loose s.wet).length : Int)) = False := eq_false (Int.lt_irrefl _)
      have hce : c = cr s.old keep (loose s.wet) 0 s.cur := by
        have := hR.out.2.1
        rw [List.drop_length] at this
        exact this
      have hR1 := hR.out.1
      rw [hce] at hR1
      have h5 := hR1.rf HH.out.1
      have hfp := hR.out.2.2
      obtain ⟨S1, hS1⟩ : ∃ S1, S1 = cut s keep := ⟨_, rfl⟩
      rw [← hS1] at h5
      have hrt : Rt { S1 with old := S1.cur, wet := List.replicate S1.wet.length false } := h5.rt.synced S1.cur h5.rt.cl S1.fuse S1.off h5.rt.f1 h5.rt.f2
      have hcl1 := h5.rt.cl
      have hhi1 := h5.rt.hi
      have hlo1 := h5.rt.lo
      have HS := Lib.hid (And.intro h5 (And.intro hfp (And.intro hS1 (And.intro hrt (And.intro hhi1 (And.intro hcl1 hlo1))))))
      have c0 : (wr.alloc (.cells #[] 5)).cell? ⟨p.b, 0, none⟩ = some (.slice (some ⟨p.g, 0, none⟩) S1.cur.length p.gc) := ((Fp.refl Non wr).alloc _).cell h5.c0 (fun h => h)
      have happ := (Nw.made wr).more _ S1.cur 22 ((h5.cur.sl h5.cap.1.1 h5.cap.1.2).keep ((Fp.refl Non wr).alloc _) (fun _ _ h => h)) (by simp only [List.length_nil]; omega)
      rw [List.nil_append] at happ
      have HA := Lib.hid happ
      clear hk hlt hce hR1 h5 hfp hS1 hrt hhi1 hcl1 hlo1 happ
      go_wp2_with (at_builtin; go_must (refine wpList_app rfl _ _ _ _ rfl _ _ rfl rfl _ HA.out ?_))
      intro v2 w2 hN
      obtain ⟨g', cap', rfl, hcap, hge, hcl2⟩ := hN.at_new (pos_of S1 HS.out.2.2.2.2.2.1 HS.out.2.2.2.2.2.2)
      have h2 := HS.out.1.keep hN.fp (fun _ _ h => h)
      have f1 := h2.fz 1
      have cc1 := h2.c1
      have hrs := resync HS.out.1 hN.fp g' cap' hcap hge hcl2 HS.out.2.2.2.1
      have cc3 : (rs3 p w2 S1.cur.length g' cap').cell? ⟨p.b, 2, none⟩ = some (.slice (some ⟨p.t, 0, none⟩) S1.wet.length p.tc) := by
        rw [World.cell?_setCell_other _ _ _ _ (ne12 p.b)]; exact h2.c2
      have cc2 : (rs4 p w2 S1.cur.length g' cap' S1.wet.length).cell? ⟨p.b, 2, none⟩ = some (.slice (some ⟨p.t, 0, none⟩) S1.wet.length p.tc) := ((Fp.refl Non _).alloc _).cell cc3 (fun h => h)
      have f2 := h2.fz 2
      have f3 : (rs4 p w2 S1.cur.length g' cap' S1.wet.length).frozen? ⟨p.b, 2, none⟩ = false := by
        have k2 := (setCell_frozen w2 p.b 1 (.slice (some ⟨g', 0, none⟩) S1.cur.length cap') p.b 2).trans f2
        have k3 := ((Fp.refl Non (rs3 p w2 S1.cur.length g' cap')).alloc (.cells (Array.replicate S1.wet.length (.bool false)) 4)).block p.b (by simpa [World.setCell] using h2.lt) (fun h => h)
        exact (frozen_same k3 2).trans k2
      have c4 := hrs.1.c4
      have c5 := hrs.1.c5
      have c6 := hrs.1.c6
      have z4 := hrs.1.fz 4
      have z5 := hrs.1.fz 5
      have z6 := hrs.1.fz 6
      have hwb : S1.wet.length ≤ 4096 := HS.out.2.2.2.2.1
      have hmk := rs_make p w2 S1.cur.length g' cap' S1.wet.length hwb
      have hre := reset1 S1 HS.out.2.2.1 hrs.1
      have HD := Lib.hid (And.intro hre (And.intro (hN.fp.any (S := own4 p)) (And.intro hrs.2.1 hrs.2.2)))
      clear hrs hre hcap hge hcl2 hN h2 HA
      go_wp2
      go_end0
      refine ⟨rfl, _, HD.out.1.1, ?_, rfl, fun k hk => (HD.out.2.2.2 k hk).imp id (fun h => Nat.le_trans (Nat.le_trans H1.out.1.size HS.out.2.1.size) h)⟩
      have k1 : Fp (own4 p) w wr := (Fp.any H1.out.1).same HS.out.2.1
      have k2 := k1.same (HD.out.2.2.1.mono (fun k hk => (.inl hk : own4 p k)))
      exact k2.same (HD.out.1.2.mono (fun k hk => .inl hk))
end Go.Proofs.YtankfmlafmjaeaaGreat
