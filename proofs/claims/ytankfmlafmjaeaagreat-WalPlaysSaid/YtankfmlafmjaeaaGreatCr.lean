/- Crash. -/
import Derived.Test.YtankfmlafmjaeaaGreatKe
namespace Go.Proofs.YtankfmlafmjaeaaGreat
set_option maxRecDepth 20000
open Go.RowKit Pm

/-- A slice of bools that reads as l. -/
structure Sb (w : World) (v : Value) (l : List Bool) : Prop where
  ex : ∃ ao cap, v = .slice ao l.length cap ∧ l.length ≤ cap ∧ cap ≤ maxLen ∧
    (cap = 0 ∨ ∃ g o, ao = some ⟨g, o, none⟩ ∧ g < w.heap.size ∧ ∀ j (h : j < l.length), w.cell? ⟨g, o + j, none⟩ = some (.bool l[j]))
theorem Sb.keep {S : Nat → Prop} {a b : World} {v : Value} {l : List Bool} (h : Sb a v l) (f : Fp S a b) (hS : 0 < l.length → ∀ k, v.ownBlock = some k → ¬ S k) : Sb b v l := by
  obtain ⟨ao, cap, rfl, h1, h2, h3⟩ := h.ex
  refine ⟨ao, cap, rfl, h1, h2, ?_⟩
  rcases h3 with h3 | ⟨g, o, rfl, hg, hc⟩
  · exact .inl h3
  · exact .inr ⟨g, o, rfl, Nat.lt_of_lt_of_le hg f.size, fun j hj => f.cell (hc j hj) (hS (by omega) g rfl)⟩
theorem Sb.nil (w : World) : Sb w (.slice none 0 0) [] := ⟨none, 0, rfl, Nat.le_refl _, Nat.zero_le _, .inl rfl⟩

theorem Nl.cells {w w' : World} {v : Value} {l : List Nat} (h : Nl w w' v l) : ∃ ao cap, v = .slice ao l.length cap ∧ (0 < l.length → ∃ g, ao = some ⟨g, 0, none⟩ ∧ w.heap.size ≤ g ∧ ∀ j (hj : j < l.length), w'.cell? ⟨g, j, none⟩ = some (.int .i64 (l[j] : Int))) := by
  have hc := fun g hg => h.own.cells (g := g) hg
  rcases h.own.2 with ⟨rfl, h0⟩ | ⟨g, cap, cur, rfl, hb, hgg, r1, r2, r3⟩
  · exact ⟨none, 0, by rw [h0], fun h => by omega⟩
  · refine ⟨_, cap, rfl, fun _ => ⟨g, rfl, hb, fun j hj => ?_⟩⟩
    have := hc g rfl j (.int .i64 (l[j] : Int)) (by simp [hj])
    simpa [Addr.add_lit] using this

/-- What the loop has done so far. -/
structure CrAt (g m : Nat) (s : Dk) (keep : List Bool) (k : Nat) (c : Bs) (w wr : World) : Prop where
  row : Rw wr g TB c
  len : c.length = s.wet.length * 16
  rest : cr s.old keep ((loose s.wet).drop k) k c = cr s.old keep (loose s.wet) 0 s.cur
  fp : Fp (fun j => j = g) w wr

theorem cr_cons (old : Bs) (keep : List Bool) (q : Nat) (r : List Nat) (i : Nat) (c : Bs) : cr old keep (q :: r) i c = cr old keep r (i + 1) (if keep.getD i false then c else spl c (q * 16) (blk old q)) := rfl

theorem CrAt.next {g m : Nat} {s : Dk} {keep : List Bool} {k q : Nat} {c : Bs} {w wr : World} (h : CrAt g m s keep k c w wr) (hk : k < (loose s.wet).length) (hq : (loose s.wet)[k] = q) {w' : World} (f : Fp (fun j => j = g) wr w') (hq2 : q * 16 + 16 ≤ c.length) (ho : q * 16 + 16 ≤ s.old.length)
    (c' : Bs) (hc : c' = if keep.getD k false then c else spl c (q * 16) (blk s.old q)) (hr : Rw w' g TB c') : CrAt g m s keep (k + 1) c' w w' := by
  have hb := blk_len s.old q ho
  refine ⟨hr, ?_, ?_, h.fp.same f⟩
  · rw [hc]; split
    · exact h.len
    · rw [spl_len _ _ _ (by omega)]; exact h.len
  · have := h.rest
    rw [List.drop_eq_getElem_cons hk, hq, cr_cons] at this
    rw [hc]; exact this

theorem Dr.crashed {lo b g m : Nat} {s : Dk} {w w' : World} {c : Bs} (h : Dr lo b g m s w) (keep : List Bool) (hc : c = cr s.old keep (loose s.wet) 0 s.cur) (hr : Rw w' g TB c) (hm : ∀ n old, Mp w' m (List.replicate n false) old)
    (hb : w'.heap[b]? = some (.cells (dcells g m { s with fuse := -1, off := false }) TD (0, 0))) : Dr lo b g m (dCrash s keep) w' := by
  subst hc
  exact ⟨h.rt.crash keep, h.low, h.ne, by simpa [dcells, dCrash] using hb, hr, hm _ _⟩

theorem wpStill_neq {ops : Array Oper} {w : World} {Q : Act → Prop} {a : Act} {o : Oper} {rest : List Oper} (t2 : TypeId) (x y : Operand) (ho : o.op = .binOp .neq TB x y t2) (xs ys : Array Value) (r : Value) (hx : a.eval x = .agg xs) (hy : a.eval y = .agg ys) (hw : Region.wanted o (yielded ops a.tmps) = true)
    (hr : (binOp .neq TB (.agg xs) (.agg ys)).run Tryz.prog w = .ok r w) (h : wpStill Tryz.prog ops w Q rest (a.put o.dst r)) : wpStill Tryz.prog ops w Q (o :: rest) a := by
  refine wpStill_run r hw ?_ h
  have hm : Tryz.prog.eqGuardType Tryz.prog.depth TB = false := by kernel_rfl
  simp [execOp, ho, hx, hy, hr, run_eqGuard_agg _ _ _ _ _ _ _ hm, Result.andThen]

attribute [local irreducible] wpStill

set_option maxHeartbeats 4000000 in
theorem Crash_c {lo b g m : Nat} {s : Dk} {w : World} (h : Dr lo b g m s w) (kv : Value) (keep : List Bool) (hl : Sb w kv keep) (hd : 0 < keep.length → ∀ k, kv.ownBlock = some k → ¬ own3 b g m k) :
    Calls Tryz.prog 13 #[.pointer (some ⟨b, 0, none⟩), kv] w fun e w' => e = .returned (.tuple #[]) ∧ Dr lo b g m (dCrash s keep) w' ∧ Fp (own3 b g m) w w' := by
  obtain ⟨ao, cap, rfl, h1, h2, h3⟩ := hl.ex
  unfold maxLen at h2
  have hwl := h.rt.hi
  have hcl := h.rt.cl
  have hol := h.rt.ol
  have hbg := h.ne.1
  have hgm := h.ne.2.2
  have hgl := h.row.lt
  have hLL : (loose s.wet).length ≤ 4096 := Nat.le_trans (nodup_lt _ _ (loose_nodup _) (fun x hx => (mem_loose.1 hx).1)) hwl
  have HH := Lib.hid (And.intro h (And.intro hl (And.intro hd h3)))
  have HN := Lib.hid (And.intro h1 (And.intro h2 (And.intro hwl (And.intro hcl (And.intro hol (And.intro hbg (And.intro hgm hLL)))))))
  clear h hl hd h3 h1 hcl hol hwl h2 hgm
  go_enter Tryz.func13, Tryz.ntmps13
  go_wp2_with fail
  refine (Loose_c HH.out.1).mono ?_
  rintro e w1 ⟨lv, rfl, hN⟩
  obtain ⟨lao, lcap, rfl, hlc⟩ := hN.cells
  have hfL := hN.fp
  have HL := Lib.hid (And.intro hfL (And.intro hN hlc)); clear hN hlc hfL
  have hs0 : CrAt g m s keep 0 s.cur w1 w1 := ⟨HH.out.1.row.keep HL.out.1 (fun h => h), HN.out.2.2.2.1, by rw [List.drop_zero], Fp.refl _ _⟩
  have HS0 := Lib.hid hs0; clear hs0
  have hw1 := HL.out.1.size
  go_wp2_with fail
  go_loopw [11, 4, 5, 6, 7] (fun i _ _ _ _ wr => ∃ k : Nat, k ≤ (loose s.wet).length ∧ i = .int .i64 k ∧ ∃ c, Hid (CrAt g m s keep k c w1 wr)) (fun i _ _ _ _ _ => (loose s.wet).length - (RowKit.intOf i).toNat)
  case atStart => exact ⟨0, Nat.zero_le _, rfl, s.cur, HS0.out⟩
  case round =>
    obtain ⟨k, hk, rfl, c, hR⟩ := hrel
    rename_i wr _
    by_cases hlt : k < (loose s.wet).length
    · have q1 : ((k : Int) < ((loose s.wet).length : Int)) = True := eq_true (by omega)
      have q2 : (k < (loose s.wet).length) = True := eq_true hlt
      have hkb : k ≤ 4096 := Nat.le_trans hk HN.out.2.2.2.2.2.2.2
      obtain ⟨lg, rfl, hlg, hcells⟩ := HL.out.2.2 (by omega)
      obtain ⟨q, hq⟩ : ∃ q, (loose s.wet)[k] = q := ⟨_, rfl⟩
      obtain ⟨hqn, hqw⟩ : ∃ h : q < s.wet.length, s.wet[q] = true := by rw [← hq]; exact mem_loose.1 (List.getElem_mem hlt)
      have hlc : wr.cell? ⟨lg, k, none⟩ = some (.int .i64 (q : Int)) := by
        have := hR.out.fp.cell (hcells k hlt) (fun e => by have := HH.out.1.row.lt; simp at e; omega)
        rwa [hq] at this
      have hqb : q ≤ 4096 := by have := HN.out.2.2.1; omega
      have hcl := hR.out.len
      have hol := HN.out.2.2.2.2.1
      have d1 : wr.heap[b]? = _ := hR.out.fp.heap (HL.out.1.heap HH.out.1.blk (fun h => h)) HN.out.2.2.2.2.2.1
      have c0 : wr.cell? ⟨b, 0, none⟩ = some (.slice (some ⟨g, 0, none⟩) s.wet.length s.wet.length) := by simp [World.cell?, d1]
      have c1 : wr.cell? ⟨b, 1, none⟩ = some (.map (some m)) := by simp [World.cell?, d1]
      have hmp : Mp wr m s.wet s.old := (HH.out.1.mp.keep HL.out.1 (fun h => h)).keep hR.out.fp (fun e => HN.out.2.2.2.2.2.2.1 e.symm)
      obtain ⟨D, hmD⟩ := hmp
      obtain ⟨l, hl16, hlo, hlk⟩ := hmD.look q hqn HN.out.2.2.1 false
      obtain rfl := hlo hqw
      simp only [Bool.false_eq_true, if_false] at hlk
      have hst := store_at (Rw.made wr TB (List.replicate 16 0)) 0 (blk s.old q) hl16 (by simp)
      rw [zeros16] at hst
      have hfp : Fp Non wr ((wr.alloc (.cells #[.int .u8 0, .int .u8 0, .int .u8 0, .int .u8 0, .int .u8 0, .int .u8 0, .int .u8 0, .int .u8 0, .int .u8 0, .int .u8 0, .int .u8 0, .int .u8 0, .int .u8 0, .int .u8 0, .int .u8 0, .int .u8 0] TB)).setRow wr.heap.size (Lib.byteCells (spl (List.replicate 16 0) 0 (blk s.old q))).toArray) :=
        ((Fp.refl Non wr).alloc _).trans (fp_setRow _ _) (fun k hk => .inr (by omega))
      have hrn : Rw ((wr.alloc (.cells #[.int .u8 0, .int .u8 0, .int .u8 0, .int .u8 0, .int .u8 0, .int .u8 0, .int .u8 0, .int .u8 0, .int .u8 0, .int .u8 0, .int .u8 0, .int .u8 0, .int .u8 0, .int .u8 0, .int .u8 0, .int .u8 0] TB)).setRow wr.heap.size (Lib.byteCells (spl (List.replicate 16 0) 0 (blk s.old q))).toArray) wr.heap.size TB (blk s.old q) := by
        have := (Rw.made wr TB (List.replicate 16 0)).set (spl (List.replicate 16 0) 0 (blk s.old q))
        rw [zeros16] at this
        rwa [spl_all _ _ (by rw [hl16]; simp)] at this ⊢
      obtain ⟨W1, hW1⟩ : ∃ W1, W1 = (wr.alloc (.cells #[.int .u8 0, .int .u8 0, .int .u8 0, .int .u8 0, .int .u8 0, .int .u8 0, .int .u8 0, .int .u8 0, .int .u8 0, .int .u8 0, .int .u8 0, .int .u8 0, .int .u8 0, .int .u8 0, .int .u8 0, .int .u8 0] TB)).setRow wr.heap.size (Lib.byteCells (spl (List.replicate 16 0) 0 (blk s.old q))).toArray := ⟨_, rfl⟩
      rw [← hW1] at hst hfp hrn
      clear hW1
      have hrow1 : Rw W1 g TB c := hR.out.row.keep hfp (fun h => h)
      have d1' : W1.heap[b]? = _ := hfp.heap d1 (fun h => h)
      have e0 : W1.cell? ⟨b, 0, none⟩ = some (.slice (some ⟨g, 0, none⟩) s.wet.length s.wet.length) := by simp [World.cell?, d1']
      have hl1 : (Instr.loadAt TB (.pointer (some ⟨g, q * 16, none⟩))).run Tryz.prog W1.drew = .ok (agv (blk c q)) W1.drew := load_at (hrow1.keep (Fp.drew (Fp.refl Non W1)) (fun h => h)) (q * 16) (by omega)
      have hl2 : (Instr.loadAt TB (.pointer (some ⟨wr.heap.size, 0, none⟩))).run Tryz.prog W1.drew = .ok (agv (blk s.old q)) W1.drew := by
        have := load_at (hrn.keep (Fp.drew (Fp.refl Non W1)) (fun h => h)) 0 (by omega)
        rwa [List.drop_zero, List.take_of_length_le (by omega)] at this
      have hl3 : (Instr.loadAt TB (.pointer (some ⟨wr.heap.size, 0, none⟩))).run Tryz.prog W1.drew.drew = .ok (agv (blk s.old q)) W1.drew.drew := by
        have := load_at (hrn.keep (Fp.drew (Fp.drew (Fp.refl Non W1))) (fun h => h)) 0 (by omega)
        rwa [List.drop_zero, List.take_of_length_le (by omega)] at this
      have hbc := blk_len c q (by omega)
      have hne := neq_at W1.drew (blk c q) (blk s.old q) hbc hl16
      have hst2 := store_at (hrow1.keep (Fp.drew (Fp.drew (Fp.refl Non W1))) (fun h => h)) (q * 16) (blk s.old q) hl16 (by omega)
      have hnx : ∀ (c' : Bs) (w' : World), Fp (fun j => j = g) W1 w' → Rw w' g TB c' → (c' = if keep.getD k false then c else spl c (q * 16) (blk s.old q)) → CrAt g m s keep (k + 1) c' w1 w' := fun c' w' hf hr hc =>
        hR.out.next hlt hq ((hfp.any).same hf) (by omega) (by omega) c' hc hr
      have hfd : Fp (fun j => j = g) W1 W1.drew := (Fp.refl _ W1).drew
      have hrd : Rw W1.drew g TB c := hrow1.keep (Fp.drew (Fp.refl Non W1)) (fun h => h)
      have hstf : Fp (fun j => j = g) W1 (W1.drew.drew.setRow g (Lib.byteCells (spl c (q * 16) (blk s.old q))).toArray) := ((Fp.refl _ W1).drew.drew).same (fp_setRow g _)
      have hstr : Rw (W1.drew.drew.setRow g (Lib.byteCells (spl c (q * 16) (blk s.old q))).toArray) g TB (spl c (q * 16) (blk s.old q)) := Rw.set (hrow1.keep (Fp.drew (Fp.drew (Fp.refl Non W1))) (fun h => h)) _
      have hsame : blk c q = blk s.old q → spl c (q * 16) (blk s.old q) = c := fun e => by rw [← e]; exact spl_blk c q (by omega)
      have q3 : ((q : Int) < (s.wet.length : Int)) = True := eq_true (by omega)
      have q4 : (q < s.wet.length) = True := eq_true hqn
      have q13 : wrap64 ((k : Int) + 1) = ((k + 1 : Nat) : Int) := by unfold wrap64; omega
      have hkeep : 0 < keep.length → ∃ kg ko, ao = some ⟨kg, ko, none⟩ ∧ ∀ j (h : j < keep.length), wr.cell? ⟨kg, ko + j, none⟩ = some (.bool keep[j]) := fun h0 => by
        rcases HH.out.2.2.2 with h3 | ⟨kg, ko, rfl, hkg, hkc⟩
        · have := HN.out.1; omega
        · refine ⟨kg, ko, rfl, fun j hj => ?_⟩
          have hno := HH.out.2.2.1 h0 kg rfl
          exact hR.out.fp.cell (HL.out.1.cell (hkc j hj) (fun h => h)) (fun e => hno (.inr (.inl e)))
      have HK := Lib.hid (And.intro hlk (And.intro hst (And.intro hl1 (And.intro hl2 (And.intro hne (And.intro hst2 (And.intro hnx (And.intro hfd (And.intro hrd (And.intro hstf (And.intro hstr (And.intro hsame (And.intro hl3 q13)))))))))))))
      have HZ := Lib.hid (And.intro hlt (And.intro hk (And.intro hqn (And.intro hcells (And.intro hlg (And.intro hl16 hbc))))))
      clear hlk hst hl1 hl2 hl3 hne hst2 hnx hfd hrd hstf hstr hsame hlt hk hq hcells hlg hl16 hlo hqw hqn hmD hfp hrn hrow1 d1 d1' hcl hol hbc q13
      rcases hkv : keep.getD k false with _ | _
      · have HQ := Lib.hid hkv
        by_cases hkl : k < keep.length
        · obtain ⟨kg, ko, rfl, hkc⟩ := hkeep (by omega)
          have hkk := hkc k hkl
          rw [show keep[k] = false by simpa [List.getD, List.getElem?_eq_getElem hkl] using hkv] at hkk
          have q5 : ((k : Int) < (keep.length : Int)) = True := eq_true (by omega)
          have q6 : (k < keep.length) = True := eq_true hkl
          clear hkl hkc hkv hkeep
          by_cases he : blk c q = blk s.old q
          · have HNE := HK.out.2.2.2.2.1
            rw [show (!decide (blk c q = blk s.old q)) = false by simp [he]] at HNE
            have HNE := Lib.hid HNE
            have HE := Lib.hid he; clear he
            go_wp2_with (first
              | (at_lookup; refine wpList_lookup_run rfl TM _ _ _ rfl _ _ _ rfl rfl HK.out.1 ?_)
              | (refine wpList_store rfl TB _ _ rfl _ _ rfl rfl HK.out.2.1 ?_))
            refine wp_region_still_lit (by kernel_rfl) (by kernel_rfl) ?_
            repeat still_step
            refine wpStill_load TB _ rfl _ _ rfl rfl HK.out.2.2.1 ?_
            refine wpStill_load TB _ rfl _ _ rfl rfl HK.out.2.2.2.1 ?_
            refine wpStill_neq _ _ _ rfl _ _ _ rfl rfl rfl HNE.out ?_
            repeat still_step
            refine wpStill_nil ?_
            have q13 := HK.out.2.2.2.2.2.2.2.2.2.2.2.2.2
            go_wp2
            go_roundw
            case rel => exact ⟨k + 1, HZ.out.1, rfl, c, HK.out.2.2.2.2.2.2.1 c _ HK.out.2.2.2.2.2.2.2.1 HK.out.2.2.2.2.2.2.2.2.1 (by rw [HQ.out, if_neg Bool.false_ne_true]; exact (HK.out.2.2.2.2.2.2.2.2.2.2.2.1 HE.out).symm)⟩
            case measure => have hlt2 := HZ.out.1; simp [RowKit.intOf]; omega
          · have HNE := HK.out.2.2.2.2.1
            rw [show (!decide (blk c q = blk s.old q)) = true by simp [he]] at HNE
            have HNE := Lib.hid HNE
            have HE := Lib.hid he; clear he
            go_wp2_with (first
              | (at_lookup; refine wpList_lookup_run rfl TM _ _ _ rfl _ _ _ rfl rfl HK.out.1 ?_)
              | (refine wpList_store rfl TB _ _ rfl _ _ rfl rfl HK.out.2.1 ?_))
            refine wp_region_still_lit (by kernel_rfl) (by kernel_rfl) ?_
            repeat still_step
            refine wpStill_load TB _ rfl _ _ rfl rfl HK.out.2.2.1 ?_
            refine wpStill_load TB _ rfl _ _ rfl rfl HK.out.2.2.2.1 ?_
            refine wpStill_neq _ _ _ rfl _ _ _ rfl rfl rfl HNE.out ?_
            repeat still_step
            refine wpStill_nil ?_
            go_wp2_with fail
            refine wp_region_still_tail 7 (by kernel_rfl) (by kernel_rfl) ?_
            simp only [List.take_succ_cons, List.take_zero, List.drop_succ_cons, List.drop_zero]
            change wpStill _ _ W1.drew.drew _ _ _
            repeat still_step
            refine wpStill_load TB _ rfl _ _ rfl rfl HK.out.2.2.2.2.2.2.2.2.2.2.2.2.1 ?_
            repeat still_step
            refine wpStill_nil ?_
            change wpList _ _ _ _ _ W1.drew.drew
            go_wp2_with (refine wpList_store rfl TB _ _ rfl _ _ rfl rfl HK.out.2.2.2.2.2.1 ?_)
            have q13 := HK.out.2.2.2.2.2.2.2.2.2.2.2.2.2
            go_wp2
            go_roundw
            case rel => exact ⟨k + 1, HZ.out.1, rfl, _, HK.out.2.2.2.2.2.2.1 _ _ HK.out.2.2.2.2.2.2.2.2.2.1 HK.out.2.2.2.2.2.2.2.2.2.2.1 (by rw [HQ.out, if_neg Bool.false_ne_true])⟩
            case measure => have hlt2 := HZ.out.1; simp [RowKit.intOf]; omega
        · have q5 : ((k : Int) < (keep.length : Int)) = False := eq_false (by omega)
          have q6 : (k < keep.length) = False := eq_false hkl
          clear hkl hkv hkeep
          by_cases he : blk c q = blk s.old q
          · have HNE := HK.out.2.2.2.2.1
            rw [show (!decide (blk c q = blk s.old q)) = false by simp [he]] at HNE
            have HNE := Lib.hid HNE
            have HE := Lib.hid he; clear he
            go_wp2_with (first
              | (at_lookup; refine wpList_lookup_run rfl TM _ _ _ rfl _ _ _ rfl rfl HK.out.1 ?_)
              | (refine wpList_store rfl TB _ _ rfl _ _ rfl rfl HK.out.2.1 ?_))
            refine wp_region_still_lit (by kernel_rfl) (by kernel_rfl) ?_
            repeat still_step
            refine wpStill_load TB _ rfl _ _ rfl rfl HK.out.2.2.1 ?_
            refine wpStill_load TB _ rfl _ _ rfl rfl HK.out.2.2.2.1 ?_
            refine wpStill_neq _ _ _ rfl _ _ _ rfl rfl rfl HNE.out ?_
            repeat still_step
            refine wpStill_nil ?_
            have q13 := HK.out.2.2.2.2.2.2.2.2.2.2.2.2.2
            go_wp2
            go_roundw
            case rel => exact ⟨k + 1, HZ.out.1, rfl, c, HK.out.2.2.2.2.2.2.1 c _ HK.out.2.2.2.2.2.2.2.1 HK.out.2.2.2.2.2.2.2.2.1 (by rw [HQ.out, if_neg Bool.false_ne_true]; exact (HK.out.2.2.2.2.2.2.2.2.2.2.2.1 HE.out).symm)⟩
            case measure => have hlt2 := HZ.out.1; simp [RowKit.intOf]; omega
          · have HNE := HK.out.2.2.2.2.1
            rw [show (!decide (blk c q = blk s.old q)) = true by simp [he]] at HNE
            have HNE := Lib.hid HNE
            have HE := Lib.hid he; clear he
            go_wp2_with (first
              | (at_lookup; refine wpList_lookup_run rfl TM _ _ _ rfl _ _ _ rfl rfl HK.out.1 ?_)
              | (refine wpList_store rfl TB _ _ rfl _ _ rfl rfl HK.out.2.1 ?_))
            refine wp_region_still_lit (by kernel_rfl) (by kernel_rfl) ?_
            repeat still_step
            refine wpStill_load TB _ rfl _ _ rfl rfl HK.out.2.2.1 ?_
            refine wpStill_load TB _ rfl _ _ rfl rfl HK.out.2.2.2.1 ?_
            refine wpStill_neq _ _ _ rfl _ _ _ rfl rfl rfl HNE.out ?_
            repeat still_step
            refine wpStill_nil ?_
            go_wp2_with fail
            refine wp_region_still_tail 7 (by kernel_rfl) (by kernel_rfl) ?_
            simp only [List.take_succ_cons, List.take_zero, List.drop_succ_cons, List.drop_zero]
            change wpStill _ _ W1.drew.drew _ _ _
            repeat still_step
            refine wpStill_load TB _ rfl _ _ rfl rfl HK.out.2.2.2.2.2.2.2.2.2.2.2.2.1 ?_
            repeat still_step
            refine wpStill_nil ?_
            change wpList _ _ _ _ _ W1.drew.drew
            go_wp2_with (refine wpList_store rfl TB _ _ rfl _ _ rfl rfl HK.out.2.2.2.2.2.1 ?_)
            have q13 := HK.out.2.2.2.2.2.2.2.2.2.2.2.2.2
            go_wp2
            go_roundw
            case rel => exact ⟨k + 1, HZ.out.1, rfl, _, HK.out.2.2.2.2.2.2.1 _ _ HK.out.2.2.2.2.2.2.2.2.2.1 HK.out.2.2.2.2.2.2.2.2.2.2.1 (by rw [HQ.out, if_neg Bool.false_ne_true])⟩
            case measure => have hlt2 := HZ.out.1; simp [RowKit.intOf]; omega
      · have hkl : k < keep.length := by
          rcases Nat.lt_or_ge k keep.length with h | h
          · exact h
          · simp [List.getD, List.getElem?_eq_none h] at hkv
        obtain ⟨kg, ko, rfl, hkc⟩ := hkeep (by omega)
        have hkk := hkc k hkl
        rw [show keep[k] = true by simpa [List.getD, List.getElem?_eq_getElem hkl] using hkv] at hkk
        have q5 : ((k : Int) < (keep.length : Int)) = True := eq_true (by omega)
        have q6 : (k < keep.length) = True := eq_true hkl
        have HQ := Lib.hid hkv
        clear hkl hkc hkv hkeep
        go_wp2_with (first
          | (at_lookup; refine wpList_lookup_run rfl TM _ _ _ rfl _ _ _ rfl rfl HK.out.1 ?_)
          | (refine wpList_store rfl TB _ _ rfl _ _ rfl rfl HK.out.2.1 ?_))
        refine wp_region_still_lit (by kernel_rfl) (by kernel_rfl) ?_
        repeat still_step
        refine wpStill_nil ?_
        have q13 := HK.out.2.2.2.2.2.2.2.2.2.2.2.2.2
        go_wp2
        go_roundw
        case rel => exact ⟨k + 1, HZ.out.1, rfl, c, HK.out.2.2.2.2.2.2.1 c _ HK.out.2.2.2.2.2.2.2.1 HK.out.2.2.2.2.2.2.2.2.1 (by rw [HQ.out, if_pos rfl])⟩
        case measure => have hlt2 := HZ.out.1; simp [RowKit.intOf]; omega
    · have q1 : ((k : Int) < ((loose s.wet).length : Int)) = False := eq_false (by omega)
      have hrest := hR.out.rest
      rw [List.drop_eq_nil_of_le (by omega)] at hrest
      have hc : c = cr s.old keep (loose s.wet) 0 s.cur := hrest
      have d1 : wr.heap[b]? = _ := hR.out.fp.heap (HL.out.1.heap HH.out.1.blk (fun h => h)) HN.out.2.2.2.2.2.1
      have c1 : wr.cell? ⟨b, 1, none⟩ = some (.map (some m)) := by simp [World.cell?, d1]
      have hmp : Mp wr m s.wet s.old := (HH.out.1.mp.keep HL.out.1 (fun h => h)).keep hR.out.fp (fun e => HN.out.2.2.2.2.2.2.1 e.symm)
      have hcl := hmp.clear 0
      have HC := Lib.hid (And.intro hc (And.intro d1 (And.intro hlt hk)))
      have HCL := Lib.hid hcl
      clear hrest hc d1 hmp hcl hlt hk
      go_wp2_with (refine wpList_clear rfl _ _ rfl _ rfl _ HCL.out ?_; intro w2 hw2; have hb2 := hw2.fp.heap HC.out.2.1 HH.out.1.ne.2.1; have HW := Lib.hid (And.intro hw2 hb2); have f3 : w2.frozen? ⟨b, 3, none⟩ = false := (by simp [World.frozen?, hb2]); have f4 : w2.frozen? ⟨b, 4, none⟩ = false := (by simp [World.frozen?, hb2]); have e3 : w2.cell? ⟨b, 3, none⟩ = some (.int .i64 s.fuse) := (by simp [World.cell?, hb2]); have e4 : w2.cell? ⟨b, 4, none⟩ = some (.bool s.off) := (by simp [World.cell?, hb2]); clear hw2 hb2)
      go_end0
      have hb2 := HW.out.2
      have hf2 : Fp (fun j => j = b) w2 ((w2.setCell ⟨b, 3, none⟩ (.int .i64 (-1))).setCell ⟨b, 4, none⟩ (.bool false)) := (fp_cell w2 b 3 _).same (fp_cell _ b 4 _)
      have hne := HH.out.1.ne
      refine ⟨rfl, HH.out.1.crashed keep HC.out.1 ((hR.out.row.keep HW.out.1.fp (fun e => hne.2.2 e)).keep hf2 (fun e => hne.1 e.symm)) (fun n old => (HW.out.1.mp n old).keep hf2 (fun e => hne.2.1 e.symm)) (by simp [World.setCell, Array.getElem?_modify, hb2]), ?_⟩
      exact (((HL.out.1.any).same (hR.out.fp.mono (fun x hx => .inr (.inl hx)))).same (HW.out.1.fp.mono (fun x hx => .inr (.inr hx)))).same (hf2.mono (fun x hx => .inl hx))
end Go.Proofs.YtankfmlafmjaeaaGreat
