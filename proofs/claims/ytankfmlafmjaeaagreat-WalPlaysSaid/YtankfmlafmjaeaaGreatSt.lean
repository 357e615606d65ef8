/- Start. -/
import Derived.Test.YtankfmlafmjaeaaGreatAp
namespace Go.Proofs.YtankfmlafmjaeaaGreat
set_option maxRecDepth 20000
open Go.RowKit Pm

theorem step_make {P : Program} {ops : Array Oper} {o : Oper} {a : Act} {w w' : World} {K : Act → World → Prop} {Q : Exit → Act → World → Prop} {E : Prop} (hgd : o.guard = none) (t : TypeId) (x y : Operand) (ho : o.op = .makeSlice t x y) (xv yv r : Value) (hx : a.eval x = xv) (hy : a.eval y = yv)
    (hr : (Instr.makeSlice t xv yv).run P w = .ok r w') (h : K (a.put o.dst r) w') :
    if Region.wanted o (yielded ops a.tmps) = true then Oper.wp P o a w K Q else E := by
  have hw : Region.wanted o (yielded ops a.tmps) = true := by simp [Region.wanted, hgd]
  rw [if_pos hw]
  unfold Oper.wp
  simp [execOp, ho, hx, hy, hr, Result.andThen]
  exact h

/-- What stays while the steps are made ready. -/
structure StW (q b g m : Nat) (w w' : World) : Prop where
  fp : Fp Non w w'
  lt : ∀ k, own3 b g m k → k < w.heap.size
  hq : ¬ own3 b g m q
  c0 : w'.cell? ⟨q, 0, none⟩ = some (.pointer (some ⟨b, 0, none⟩))
section
variable {q b g m : Nat} {w w1 w2 : World}
theorem StW.step (h : StW q b g m w w1) (f : Fp Non w1 w2) : StW q b g m w w2 := ⟨h.fp.then f, h.lt, h.hq, f.cell h.c0 (fun h => h)⟩
theorem StW.after (h : StW q b g m w w1) (f : Fp (own3 b g m) w1 w2) : Fp (own3 b g m) w w2 ∧ w2.cell? ⟨q, 0, none⟩ = some (.pointer (some ⟨b, 0, none⟩)) :=
  ⟨(h.fp.any (S := own3 b g m)).same f, f.cell h.c0 h.hq⟩
theorem StW.d {lo : Nat} {s : Dk} (h : StW q b g m w w1) (hd : Dr lo b g m s w) : Dr lo b g m s w1 := hd.keep h.fp (fun _ _ h => h)
end

theorem seven_c {lo b g m : Nat} {s : Dk} {w : World} (hd : Dr lo b g m s w) (f0 f1 f2 f3 f4 f5 f6 : Value) (gs : Nat) (F0 F1 F2 F3 F4 F5 F6 : Dk → Int × Dk)
    (hh : w.heap[gs]? = some (.cells #[f0, f1, f2, f3, f4, f5, f6] 73)) (hgs : ¬ own3 b g m gs) (ha : s.acts ≤ 990000) (h0 : Step b g m w f0 F0) (h1 : Step b g m w f1 F1) (h2 : Step b g m w f2 F2) (h3 : Step b g m w f3 F3) (h4 : Step b g m w f4 F4) (h5 : Step b g m w f5 F5) (h6 : Step b g m w f6 F6) :
    Calls Tryz.prog 34 #[.slice (some ⟨gs, 0, none⟩) 7 7] w fun e w' => e = .returned (.int .i64 (seqF [F0, F1, F2, F3, F4, F5, F6] s).1) ∧ Dr lo b g m (seqF [F0, F1, F2, F3, F4, F5, F6] s).2 w' ∧ Fp (own3 b g m) w w' := by
  have hcell : ∀ k (h : k < [f0, f1, f2, f3, f4, f5, f6].length), w.cell? ⟨gs, k, none⟩ = some [f0, f1, f2, f3, f4, f5, f6][k] := fun k hk => by
    have hk7 : k < 7 := hk
    rw [cell_of_row _ _ _ _ _ _ hh]
    simp
  refine perform_c hd gs [f0, f1, f2, f3, f4, f5, f6] [F0, F1, F2, F3, F4, F5, F6] rfl (by show (7 : Nat) ≤ 100; omega) ha hgs hcell (fun k hk => ?_)
  have hk7 : k < 7 := hk
  rcases (show k = 0 ∨ k = 1 ∨ k = 2 ∨ k = 3 ∨ k = 4 ∨ k = 5 ∨ k = 6 by omega) with rfl | rfl | rfl | rfl | rfl | rfl | rfl
  · exact h0
  · exact h1
  · exact h2
  · exact h3
  · exact h4
  · exact h5
  · exact h6

/-- The log turned to the other area, with one record, in new memory. -/
theorem turn_log {lo q b g m : Nat} {l : Lg} {v : Value} {s' : Dk} {w w6 : World} {bs : Bs} (o : Nat) (hl : Lr lo q b l v w) (f : Fp (own3 b g m) w w6) (hd : Dr lo b g m s' w6) (hap : apart b g m q v) :
    w6.heap[q]? = some (.cells #[.pointer (some ⟨b, 0, none⟩), .int .i64 (l.ar : Int), v] TL (0, 0)) ∧
    LgR lo b g m q s' ⟨o, [bs]⟩ v w (((w6.alloc (.cells #[strV bs] 9)).setCell ⟨q, 1, none⟩ (.int .i64 (o : Int))).setCell ⟨q, 2, none⟩ (.slice (some ⟨w6.heap.size, 0, none⟩) 1 1)) := by
  have h6 : Lr lo q b l v w6 := hl.keep f (fun k hk ho => hap k ho hk)
  have f7 : Fp Non w6 (w6.alloc (.cells #[strV bs] 9)) := (Fp.refl Non w6).alloc _
  have hb7 := f7.heap h6.blk (fun h => h)
  have hrow : (w6.alloc (.cells #[strV bs] 9)).ownsRow lo 9 1 (.slice (some ⟨w6.heap.size, 0, none⟩) 1 1) 1 [strV bs] := World.ownsRow_lit w6 #[strV bs] 1 (Nat.le_trans hl.low (Nat.le_of_lt h6.lt)) (by unfold maxLen; omega) rfl
  have fs : Fp (fun k => k = q) (w6.alloc (.cells #[strV bs] 9)) (((w6.alloc (.cells #[strV bs] 9)).setCell ⟨q, 1, none⟩ (.int .i64 (o : Int))).setCell ⟨q, 2, none⟩ (.slice (some ⟨w6.heap.size, 0, none⟩) 1 1)) :=
    ((Fp.refl (fun k => k = q) _).setCell (p := ⟨q, 1, none⟩) (.inl rfl) _).setCell (p := ⟨q, 2, none⟩) (.inl rfl) _
  have hq6 := h6.lt
  have hne : ∀ k, (Value.slice (some ⟨w6.heap.size, 0, none⟩) 1 1).ownBlock = some k → k ≠ q := fun k hk e => by simp [Value.ownBlock] at hk; omega
  refine ⟨h6.blk, ⟨(hd.keep f7 (fun _ _ h => h)).keep fs (fun k hk e => hap k hk (.inl e)), ⟨_, ⟨hl.low, ?_, fs.owns hrow (fun k hk e => hne k hk e), hne⟩, .inr (fun k hk => ?_)⟩, ?_⟩⟩
  · simp [World.setCell, Array.getElem?_modify, hb7]
  · simp [Value.ownBlock] at hk; have := f.size; omega
  · exact ((f.mono (T := fun k => own3 b g m k ∨ ownL q v k) (fun k hk => .inl hk)).same f7.any).same (fs.mono (fun k hk => .inr (.inl hk)))

attribute [local irreducible] wpStill

set_option maxHeartbeats 4000000 in
theorem Start_bad {lo q b g m : Nat} {l : Lg} {v : Value} {s : Dk} {w : World} (hd : Dr lo b g m s w) (hl : Lr lo q b l v w) (hk : Lk s l) (bv : Value) (bs : Bs) (hb : Src b g m w bv bs) (hbad : 16384 < bs.length ∨ hf s.cur < ln bs.length) :
    Calls Tryz.prog 17 #[.pointer (some ⟨q, 0, none⟩), bv] w fun e w' => e = .returned (.int .i64 (lStart s l bs).1) ∧ LgR lo b g m q (lStart s l bs).2.2 (lStart s l bs).2.1 v w w' := by
  obtain ⟨bao, bcap, hbv⟩ := hb.sh
  have hfin : Hid (LgR lo b g m q s l v w w) := ⟨hd, ⟨v, hl, .inl rfl⟩, Fp.refl _ _⟩
  by_cases hbig : 16384 < bs.length
  · have e : lStart s l bs = (1, l, s) := by unfold lStart; rw [if_pos hbig]
    rw [e, hbv]
    have q1 : ((16384 : Int) < (bs.length : Int)) = True := eq_true (by omega)
    have HX := Lib.hid (And.intro hd (And.intro hl (And.intro hk (And.intro hb (And.intro hbad hbig)))))
    clear hd hl hk hb hbad hbig e hbv
    go_enter Tryz.func17, Tryz.ntmps17
    go_wp2
    go_ret
    exact ⟨rfl, hfin⟩
  · have hful : hf s.cur < ln bs.length := hbad.resolve_left hbig
    have e : lStart s l bs = (51, l, s) := by unfold lStart; rw [if_neg hbig, if_pos hful]
    rw [e, hbv]
    have q1 : ((16384 : Int) < (bs.length : Int)) = False := eq_false (by omega)
    have hs := size_c hd hl
    have hlc := length_c bs.length (by omega) w
    have hsb := (hk.few hd.rt).2
    have hlb : ln bs.length ≤ 100000 := by have := (up_le bs.length).2; unfold ln; omega
    generalize hf s.cur = S at *
    generalize ln bs.length = N at *
    have q2 : ((S : Int) < (N : Int)) = True := eq_true (by omega)
    have HS := Lib.hid hs
    have HL := Lib.hid hlc
    have HX := Lib.hid (And.intro hd (And.intro hl (And.intro hk (And.intro hb (And.intro hbad (And.intro hbig hful))))))
    clear hd hl hk hb hbad hbig e hbv hs hlc hful
    go_enter Tryz.func17, Tryz.ntmps17
    go_wp2_with (first | (go_at_call 46; refine HL.out.mono ?_; rintro e w' ⟨rfl, rfl⟩) | (go_at_call 28; refine HS.out.mono ?_; rintro e w' ⟨rfl, rfl⟩))
    go_ret
    exact ⟨rfl, hfin⟩

set_option maxHeartbeats 32000000 in
theorem Start_good {lo q b g m : Nat} {l : Lg} {v : Value} {s : Dk} {w : World} (hd : Dr lo b g m s w) (hl : Lr lo q b l v w) (hk : Lk s l) (hap : apart b g m q v) (bv : Value) (bs : Bs) (hb : Src b g m w bv bs) (ha : s.acts ≤ 990000)
    (hbig : ¬ 16384 < bs.length) (hful : ¬ hf s.cur < ln bs.length) (o : Nat) (ho : o = 1 - l.ar) (r : Int × Dk) (hr : r = seqF (stSteps s.cur o bs) s) :
    Calls Tryz.prog 17 #[.pointer (some ⟨q, 0, none⟩), bv] w fun e w' => e = .returned (.int .i64 r.1) ∧ (r.1 ≠ 0 → LgR lo b g m q r.2 l v w w') ∧ (r.1 = 0 → LgR lo b g m q r.2 ⟨o, [bs]⟩ v w w') := by
  obtain ⟨bao, bcap, hbv⟩ := hb.sh
  have hl0 := Lib.hid hl
  have hq : ¬ own3 b g m q := fun ho => hap q ho (.inl rfl)
  have hltd : ∀ k, own3 b g m k → k < w.heap.size := fun k hk => (hd.all k hk).2
  have c0 := hl.c0
  have c1 := hl.c1
  have HA0 : Hid (StW q b g m w w) := ⟨Fp.refl _ _, hltd, hq, c0⟩
  have HD0 := Lib.hid hd
  have HAC := Lib.hid ha
  rw [hbv]
  have q1 : ((16384 : Int) < (bs.length : Int)) = False := eq_false (by omega)
  have hsb := (hk.few hd.rt).2
  have hs := size_c hd hl
  have hsz := size_c (hd.keep (Fp.drew (Fp.refl Non w)) (fun _ _ h => h)) (hl.keep (Fp.drew (Fp.refl Non w)) (fun _ _ h => h))
  have ho2 : o < 2 := by omega
  have har := hk.ar
  have hoi : (1 : Int) - (l.ar : Int) = (o : Int) := by
    rcases (show l.ar = 0 ∨ l.ar = 1 by omega) with h | h <;> rw [ho, h] <;> rfl
  have hst := start_c hd hl o ho2
  have hlc := length_c bs.length (by omega) w
  have hlb : ln bs.length ≤ 100000 := by have := (up_le bs.length).2; unfold ln; omega
  have hAb : st s.cur o ≤ 900000 := by have := st_le s.cur o ho2 hk.big; have := hd.rt.curlen; omega
  have hbs : Src b g m w (.slice bao bs.length bcap) bs := by rw [← hbv]; exact hb
  have HBS := Lib.hid hbs
  have HX := Lib.hid (show bs.length ≤ 16384 by omega)
  have hnb := hbs
  have hbn := hbs
  have hr2 : r = seqF [wr (st s.cur o) (zr (hf s.cur)), wr (st s.cur o + 16) (pad bs), dSync, wr (st s.cur o) (hdr 0 bs), dSync, wr 0 (sgn o), dSync] s := hr
  have HRR := Lib.hid hr
  clear hr
  generalize st s.cur o = A at *
  obtain ⟨A2, hA2⟩ : ∃ A2, A2 = A + 16 := ⟨_, rfl⟩
  have q3 : IntKind.i64.wrap ((A : Int) + 16) = (A2 : Int) := by rw [IntKind.wrap_i64]; omega
  have HB := Lib.hid (And.intro hAb hA2)
  generalize hf s.cur = S at *
  generalize ln bs.length = N at *
  have q2 : ((S : Int) < (N : Int)) = False := eq_false (by omega)
  have hmk := make_bytes w.drew S (by omega)
  obtain ⟨W1, hW1⟩ : ∃ W1, W1 = w.drew.alloc (.cells (Lib.byteCells (List.replicate S 0)).toArray 5) := ⟨_, rfl⟩
  rw [← hW1] at hmk
  have hfW : Fp Non w W1 := by rw [hW1]; exact ((Fp.refl Non w).drew).alloc _
  have hA1 : Hid (StW q b g m w W1) := HA0.out.step hfW
  have hz : Sl W1 (.slice (some ⟨w.heap.size, 0, none⟩) S S) (zr S) := by
    have := Sl.of_row (Rw.made w.drew 5 (List.replicate S 0)) 0 S S (by simp) (Nat.le_refl _) (by unfold maxLen; omega)
    rw [List.drop_zero, List.take_of_length_le (by simp)] at this
    rw [hW1]; exact this
  have HZ := Lib.hid hz
  have HMK := Lib.hid hmk
  have HR := Lib.hid hr2
  have HS := Lib.hid hs
  have HSZ := Lib.hid hsz
  have HST := Lib.hid hst
  have HL := Lib.hid hlc
  have HO := Lib.hid ho2
  have HY := Lib.hid (And.intro hd (And.intro hl (And.intro hk (And.intro hb (And.intro hful (And.intro hap (And.intro hbn (And.intro hq (And.intro hltd (And.intro hbs (And.intro hnb (And.intro hbig (And.intro hW1 (And.intro hfW (And.intro ho har)))))))))))))))
  clear hd hl hk hb hbig hbv hs hlc hful hst hsz hap hbn hq hltd ha hbs hnb hr2 hA2 hmk hW1 hfW hz c0 ho har
  have c0 := hl0.out.c0
  have c1 := hl0.out.c1
  go_enter Tryz.func17, Tryz.ntmps17
  go_wp2_with (first | (go_at_call 46; refine HL.out.mono ?_; rintro e w' ⟨rfl, hw'⟩; obtain rfl := hw'.symm) | (go_at_call 28; refine HS.out.mono ?_; rintro e w' ⟨rfl, hw'⟩; obtain rfl := hw'.symm) | (go_at_call 30; refine HST.out.mono ?_; rintro e w' ⟨rfl, hw'⟩; obtain rfl := hw'.symm))
  refine wp_region_held_drew (S := (fun w' => w'.cell? ⟨q, 0, none⟩ = some (.pointer (some ⟨b, 0, none⟩)) ∧ w'.cell? ⟨q, 0, none⟩ = some (.pointer (some ⟨b, 0, none⟩)))) (by kernel_rfl) ?_ (fun hHeld => ?_)
  · exact ⟨HA0.out.c0, HA0.out.c0⟩
  refine wpAnyH_take (i := 0) (oi := ?oi101) (v := ?vi101) ?h101 (by kernel_rfl) (by kernel_rfl) (by kernel_rfl) ?q101 (Or.inl ⟨?w101, ?y101⟩) hHeld ?r101
  case h101 => first | (simp only [List.getElem?_toArray, List.getElem?_cons_zero]; done) | (simp only [List.getElem?_toArray, List.getElem?_cons_zero]; exact rfl)
  case q101 => exact fun _ _ _ h => h
  case w101 => rfl
  case y101 =>
    intro w hSw
    (try dsimp only at hSw)
    obtain ⟨hS1, hS2⟩ := hSw
    go_simp
    try with_reducible rfl
  try simp only [Act.put, List.setIfInBounds_toArray, List.set_cons_zero, List.set_cons_succ]
  refine wpAnyH_take (i := 1) (oi := ?oi102) (v := ?vi102) ?h102 (by kernel_rfl) (by kernel_rfl) (by kernel_rfl) ?q102 (Or.inl ⟨?w102, ?y102⟩) hHeld ?r102
  case h102 => first | (simp only [List.getElem?_toArray, List.getElem?_cons_zero, List.getElem?_cons_succ]; done) | (simp only [List.getElem?_toArray, List.getElem?_cons_zero, List.getElem?_cons_succ]; exact rfl)
  case q102 => exact fun _ _ _ h => h
  case w102 => rfl
  case y102 =>
    intro w hSw
    (try dsimp only at hSw)
    obtain ⟨hS1, hS2⟩ := hSw
    go_simp
    try with_reducible rfl
  try simp only [Act.put, List.setIfInBounds_toArray, List.set_cons_zero, List.set_cons_succ]
  refine wpAnyH_take (i := 2) (oi := ?oi103) (v := ?vi103) ?h103 (by kernel_rfl) (by kernel_rfl) (by kernel_rfl) ?q103 (Or.inl ⟨?w103, ?y103⟩) hHeld ?r103
  case h103 => first | (simp only [List.getElem?_toArray, List.getElem?_cons_zero, List.getElem?_cons_succ]; done) | (simp only [List.getElem?_toArray, List.getElem?_cons_zero, List.getElem?_cons_succ]; exact rfl)
  case q103 => exact fun _ _ _ h => h
  case w103 => rfl
  case y103 =>
    intro w hSw
    (try dsimp only at hSw)
    obtain ⟨hS1, hS2⟩ := hSw
    go_simp
    try with_reducible rfl
  try simp only [Act.put, List.setIfInBounds_toArray, List.set_cons_zero, List.set_cons_succ]
  refine wpAnyH_take (i := 6) (oi := ?oi104) (v := ?vi104) ?h104 (by kernel_rfl) (by kernel_rfl) (by kernel_rfl) ?q104 (Or.inl ⟨?w104, ?y104⟩) hHeld ?r104
  case h104 => first | (simp only [List.getElem?_toArray, List.getElem?_cons_zero, List.getElem?_cons_succ]; done) | (simp only [List.getElem?_toArray, List.getElem?_cons_zero, List.getElem?_cons_succ]; exact rfl)
  case q104 => exact fun _ _ _ h => h
  case w104 => rfl
  case y104 =>
    intro w hSw
    (try dsimp only at hSw)
    obtain ⟨hS1, hS2⟩ := hSw
    go_simp
    try with_reducible rfl
  try simp only [Act.put, List.setIfInBounds_toArray, List.set_cons_zero, List.set_cons_succ]
  refine wpAnyH_take (i := 7) (oi := ?oi105) (v := ?vi105) ?h105 (by kernel_rfl) (by kernel_rfl) (by kernel_rfl) ?q105 (Or.inl ⟨?w105, ?y105⟩) hHeld ?r105
  case h105 => first | (simp only [List.getElem?_toArray, List.getElem?_cons_zero, List.getElem?_cons_succ]; done) | (simp only [List.getElem?_toArray, List.getElem?_cons_zero, List.getElem?_cons_succ]; exact rfl)
  case q105 => exact fun _ _ _ h => h
  case w105 => rfl
  case y105 =>
    intro w hSw
    (try dsimp only at hSw)
    obtain ⟨hS1, hS2⟩ := hSw
    go_simp
    try with_reducible rfl
  try simp only [Act.put, List.setIfInBounds_toArray, List.set_cons_zero, List.set_cons_succ]
  refine wpAnyH_take (i := 8) (oi := ?oi106) (v := ?vi106) ?h106 (by kernel_rfl) (by kernel_rfl) (by kernel_rfl) ?q106 (Or.inl ⟨?w106, ?y106⟩) hHeld ?r106
  case h106 => first | (simp only [List.getElem?_toArray, List.getElem?_cons_zero, List.getElem?_cons_succ]; done) | (simp only [List.getElem?_toArray, List.getElem?_cons_zero, List.getElem?_cons_succ]; exact rfl)
  case q106 => exact fun _ _ _ h => h
  case w106 => rfl
  case y106 =>
    intro w hSw
    (try dsimp only at hSw)
    obtain ⟨hS1, hS2⟩ := hSw
    go_simp
    try with_reducible rfl
  try simp only [Act.put, List.setIfInBounds_toArray, List.set_cons_zero, List.set_cons_succ]
  refine wpAnyH_take (i := 9) (oi := ?oi107) (v := ?vi107) ?h107 (by kernel_rfl) (by kernel_rfl) (by kernel_rfl) ?q107 (Or.inl ⟨?w107, ?y107⟩) hHeld ?r107
  case h107 => first | (simp only [List.getElem?_toArray, List.getElem?_cons_zero, List.getElem?_cons_succ]; done) | (simp only [List.getElem?_toArray, List.getElem?_cons_zero, List.getElem?_cons_succ]; exact rfl)
  case q107 => exact fun _ _ _ h => h
  case w107 => rfl
  case y107 =>
    intro w hSw
    (try dsimp only at hSw)
    obtain ⟨hS1, hS2⟩ := hSw
    go_simp
    try with_reducible rfl
  try simp only [Act.put, List.setIfInBounds_toArray, List.set_cons_zero, List.set_cons_succ]
  refine wpAnyH_take (i := 12) (oi := ?oi108) (v := ?vi108) ?h108 (by kernel_rfl) (by kernel_rfl) (by kernel_rfl) ?q108 (Or.inl ⟨?w108, ?y108⟩) hHeld ?r108
  case h108 => first | (simp only [List.getElem?_toArray, List.getElem?_cons_zero, List.getElem?_cons_succ]; done) | (simp only [List.getElem?_toArray, List.getElem?_cons_zero, List.getElem?_cons_succ]; exact rfl)
  case q108 => exact fun _ _ _ h => h
  case w108 => rfl
  case y108 =>
    intro w hSw
    (try dsimp only at hSw)
    obtain ⟨hS1, hS2⟩ := hSw
    go_simp
    try with_reducible rfl
  try simp only [Act.put, List.setIfInBounds_toArray, List.set_cons_zero, List.set_cons_succ]
  refine wpAnyH_take (i := 13) (oi := ?oi109) (v := ?vi109) ?h109 (by kernel_rfl) (by kernel_rfl) (by kernel_rfl) ?q109 (Or.inl ⟨?w109, ?y109⟩) hHeld ?r109
  case h109 => first | (simp only [List.getElem?_toArray, List.getElem?_cons_zero, List.getElem?_cons_succ]; done) | (simp only [List.getElem?_toArray, List.getElem?_cons_zero, List.getElem?_cons_succ]; exact rfl)
  case q109 => exact fun _ _ _ h => h
  case w109 => rfl
  case y109 =>
    intro w hSw
    (try dsimp only at hSw)
    obtain ⟨hS1, hS2⟩ := hSw
    go_simp
    try with_reducible rfl
  try simp only [Act.put, List.setIfInBounds_toArray, List.set_cons_zero, List.set_cons_succ]
  refine wpAnyH_take (i := 14) (oi := ?oi110) (v := ?vi110) ?h110 (by kernel_rfl) (by kernel_rfl) (by kernel_rfl) ?q110 (Or.inl ⟨?w110, ?y110⟩) hHeld ?r110
  case h110 => first | (simp only [List.getElem?_toArray, List.getElem?_cons_zero, List.getElem?_cons_succ]; done) | (simp only [List.getElem?_toArray, List.getElem?_cons_zero, List.getElem?_cons_succ]; exact rfl)
  case q110 => exact fun _ _ _ h => h
  case w110 => rfl
  case y110 =>
    intro w hSw
    (try dsimp only at hSw)
    obtain ⟨hS1, hS2⟩ := hSw
    go_simp
    try with_reducible rfl
  try simp only [Act.put, List.setIfInBounds_toArray, List.set_cons_zero, List.set_cons_succ]
  refine wpAnyH_take (i := 15) (oi := ?oi111) (v := ?vi111) ?h111 (by kernel_rfl) (by kernel_rfl) (by kernel_rfl) ?q111 (Or.inl ⟨?w111, ?y111⟩) hHeld ?r111
  case h111 => first | (simp only [List.getElem?_toArray, List.getElem?_cons_zero, List.getElem?_cons_succ]; done) | (simp only [List.getElem?_toArray, List.getElem?_cons_zero, List.getElem?_cons_succ]; exact rfl)
  case q111 => exact fun _ _ _ h => h
  case w111 => rfl
  case y111 =>
    intro w hSw
    (try dsimp only at hSw)
    obtain ⟨hS1, hS2⟩ := hSw
    go_simp
    try with_reducible rfl
  try simp only [Act.put, List.setIfInBounds_toArray, List.set_cons_zero, List.set_cons_succ]
  refine wpAnyH_take (i := 16) (oi := ?oi112) (v := ?vi112) ?h112 (by kernel_rfl) (by kernel_rfl) (by kernel_rfl) ?q112 (Or.inl ⟨?w112, ?y112⟩) hHeld ?r112
  case h112 => first | (simp only [List.getElem?_toArray, List.getElem?_cons_zero, List.getElem?_cons_succ]; done) | (simp only [List.getElem?_toArray, List.getElem?_cons_zero, List.getElem?_cons_succ]; exact rfl)
  case q112 => exact fun _ _ _ h => h
  case w112 => rfl
  case y112 =>
    intro w hSw
    (try dsimp only at hSw)
    obtain ⟨hS1, hS2⟩ := hSw
    go_simp
    try with_reducible rfl
  try simp only [Act.put, List.setIfInBounds_toArray, List.set_cons_zero, List.set_cons_succ]
  refine wpAnyH_take (i := 17) (oi := ?oi113) (v := ?vi113) ?h113 (by kernel_rfl) (by kernel_rfl) (by kernel_rfl) ?q113 (Or.inl ⟨?w113, ?y113⟩) hHeld ?r113
  case h113 => first | (simp only [List.getElem?_toArray, List.getElem?_cons_zero, List.getElem?_cons_succ]; done) | (simp only [List.getElem?_toArray, List.getElem?_cons_zero, List.getElem?_cons_succ]; exact rfl)
  case q113 => exact fun _ _ _ h => h
  case w113 => rfl
  case y113 =>
    intro w hSw
    (try dsimp only at hSw)
    obtain ⟨hS1, hS2⟩ := hSw
    go_simp
    try with_reducible rfl
  try simp only [Act.put, List.setIfInBounds_toArray, List.set_cons_zero, List.set_cons_succ]
  refine wpAnyH_take (i := 18) (oi := ?oi114) (v := ?vi114) ?h114 (by kernel_rfl) (by kernel_rfl) (by kernel_rfl) ?q114 (Or.inl ⟨?w114, ?y114⟩) hHeld ?r114
  case h114 => first | (simp only [List.getElem?_toArray, List.getElem?_cons_zero, List.getElem?_cons_succ]; done) | (simp only [List.getElem?_toArray, List.getElem?_cons_zero, List.getElem?_cons_succ]; exact rfl)
  case q114 => exact fun _ _ _ h => h
  case w114 => rfl
  case y114 =>
    intro w hSw
    (try dsimp only at hSw)
    obtain ⟨hS1, hS2⟩ := hSw
    go_simp
    try with_reducible rfl
  try simp only [Act.put, List.setIfInBounds_toArray, List.set_cons_zero, List.set_cons_succ]
  refine wpAnyH_take (i := 19) (oi := ?oi115) (v := ?vi115) ?h115 (by kernel_rfl) (by kernel_rfl) (by kernel_rfl) ?q115 (Or.inl ⟨?w115, ?y115⟩) hHeld ?r115
  case h115 => first | (simp only [List.getElem?_toArray, List.getElem?_cons_zero, List.getElem?_cons_succ]; done) | (simp only [List.getElem?_toArray, List.getElem?_cons_zero, List.getElem?_cons_succ]; exact rfl)
  case q115 => exact fun _ _ _ h => h
  case w115 => rfl
  case y115 =>
    intro w hSw
    (try dsimp only at hSw)
    obtain ⟨hS1, hS2⟩ := hSw
    go_simp
    try with_reducible rfl
  try simp only [Act.put, List.setIfInBounds_toArray, List.set_cons_zero, List.set_cons_succ]
  refine wpAnyH_take (i := 22) (oi := ?oi116) (v := ?vi116) ?h116 (by kernel_rfl) (by kernel_rfl) (by kernel_rfl) ?q116 (Or.inl ⟨?w116, ?y116⟩) hHeld ?r116
  case h116 => first | (simp only [List.getElem?_toArray, List.getElem?_cons_zero, List.getElem?_cons_succ]; done) | (simp only [List.getElem?_toArray, List.getElem?_cons_zero, List.getElem?_cons_succ]; exact rfl)
  case q116 => exact fun _ _ _ h => h
  case w116 => rfl
  case y116 =>
    intro w hSw
    (try dsimp only at hSw)
    obtain ⟨hS1, hS2⟩ := hSw
    go_simp
    try with_reducible rfl
  try simp only [Act.put, List.setIfInBounds_toArray, List.set_cons_zero, List.set_cons_succ]
  refine wpAnyH_take (i := 23) (oi := ?oi117) (v := ?vi117) ?h117 (by kernel_rfl) (by kernel_rfl) (by kernel_rfl) ?q117 (Or.inl ⟨?w117, ?y117⟩) hHeld ?r117
  case h117 => first | (simp only [List.getElem?_toArray, List.getElem?_cons_zero, List.getElem?_cons_succ]; done) | (simp only [List.getElem?_toArray, List.getElem?_cons_zero, List.getElem?_cons_succ]; exact rfl)
  case q117 => exact fun _ _ _ h => h
  case w117 => rfl
  case y117 =>
    intro w hSw
    (try dsimp only at hSw)
    obtain ⟨hS1, hS2⟩ := hSw
    go_simp
    try with_reducible rfl
  try simp only [Act.put, List.setIfInBounds_toArray, List.set_cons_zero, List.set_cons_succ]
  refine wpAnyH_take (i := 24) (oi := ?oi118) (v := ?vi118) ?h118 (by kernel_rfl) (by kernel_rfl) (by kernel_rfl) ?q118 (Or.inl ⟨?w118, ?y118⟩) hHeld ?r118
  case h118 => first | (simp only [List.getElem?_toArray, List.getElem?_cons_zero, List.getElem?_cons_succ]; done) | (simp only [List.getElem?_toArray, List.getElem?_cons_zero, List.getElem?_cons_succ]; exact rfl)
  case q118 => exact fun _ _ _ h => h
  case w118 => rfl
  case y118 =>
    intro w hSw
    (try dsimp only at hSw)
    obtain ⟨hS1, hS2⟩ := hSw
    go_simp
    try with_reducible rfl
  try simp only [Act.put, List.setIfInBounds_toArray, List.set_cons_zero, List.set_cons_succ]
  refine wpAnyH_take (i := 25) (oi := ?oi119) (v := ?vi119) ?h119 (by kernel_rfl) (by kernel_rfl) (by kernel_rfl) ?q119 (Or.inl ⟨?w119, ?y119⟩) hHeld ?r119
  case h119 => first | (simp only [List.getElem?_toArray, List.getElem?_cons_zero, List.getElem?_cons_succ]; done) | (simp only [List.getElem?_toArray, List.getElem?_cons_zero, List.getElem?_cons_succ]; exact rfl)
  case q119 => exact fun _ _ _ h => h
  case w119 => rfl
  case y119 =>
    intro w hSw
    (try dsimp only at hSw)
    obtain ⟨hS1, hS2⟩ := hSw
    go_simp
    try with_reducible rfl
  try simp only [Act.put, List.setIfInBounds_toArray, List.set_cons_zero, List.set_cons_succ]
  refine wpAnyH_take (i := 26) (oi := ?oi120) (v := ?vi120) ?h120 (by kernel_rfl) (by kernel_rfl) (by kernel_rfl) ?q120 (Or.inl ⟨?w120, ?y120⟩) hHeld ?r120
  case h120 => first | (simp only [List.getElem?_toArray, List.getElem?_cons_zero, List.getElem?_cons_succ]; done) | (simp only [List.getElem?_toArray, List.getElem?_cons_zero, List.getElem?_cons_succ]; exact rfl)
  case q120 => exact fun _ _ _ h => h
  case w120 => rfl
  case y120 =>
    intro w hSw
    (try dsimp only at hSw)
    obtain ⟨hS1, hS2⟩ := hSw
    go_simp
    try with_reducible rfl
  try simp only [Act.put, List.setIfInBounds_toArray, List.set_cons_zero, List.set_cons_succ]
  refine wpAnyH_take (i := 27) (oi := ?oi121) (v := ?vi121) ?h121 (by kernel_rfl) (by kernel_rfl) (by kernel_rfl) ?q121 (Or.inl ⟨?w121, ?y121⟩) hHeld ?r121
  case h121 => first | (simp only [List.getElem?_toArray, List.getElem?_cons_zero, List.getElem?_cons_succ]; done) | (simp only [List.getElem?_toArray, List.getElem?_cons_zero, List.getElem?_cons_succ]; exact rfl)
  case q121 => exact fun _ _ _ h => h
  case w121 => rfl
  case y121 =>
    intro w hSw
    (try dsimp only at hSw)
    obtain ⟨hS1, hS2⟩ := hSw
    go_simp
    try with_reducible rfl
  try simp only [Act.put, List.setIfInBounds_toArray, List.set_cons_zero, List.set_cons_succ]
  refine wpAnyH_take (i := 28) (oi := ?oi122) (v := ?vi122) ?h122 (by kernel_rfl) (by kernel_rfl) (by kernel_rfl) ?q122 (Or.inl ⟨?w122, ?y122⟩) hHeld ?r122
  case h122 => first | (simp only [List.getElem?_toArray, List.getElem?_cons_zero, List.getElem?_cons_succ]; done) | (simp only [List.getElem?_toArray, List.getElem?_cons_zero, List.getElem?_cons_succ]; exact rfl)
  case q122 => exact fun _ _ _ h => h
  case w122 => rfl
  case y122 =>
    intro w hSw
    (try dsimp only at hSw)
    obtain ⟨hS1, hS2⟩ := hSw
    go_simp
    try with_reducible rfl
  try simp only [Act.put, List.setIfInBounds_toArray, List.set_cons_zero, List.set_cons_succ]
  refine wpAnyH_take (i := 31) (oi := ?oi123) (v := ?vi123) ?h123 (by kernel_rfl) (by kernel_rfl) (by kernel_rfl) ?q123 (Or.inl ⟨?w123, ?y123⟩) hHeld ?r123
  case h123 => first | (simp only [List.getElem?_toArray, List.getElem?_cons_zero, List.getElem?_cons_succ]; done) | (simp only [List.getElem?_toArray, List.getElem?_cons_zero, List.getElem?_cons_succ]; exact rfl)
  case q123 => exact fun _ _ _ h => h
  case w123 => rfl
  case y123 =>
    intro w hSw
    (try dsimp only at hSw)
    obtain ⟨hS1, hS2⟩ := hSw
    go_simp
    try with_reducible rfl
  try simp only [Act.put, List.setIfInBounds_toArray, List.set_cons_zero, List.set_cons_succ]
  refine wpAnyH_take (i := 32) (oi := ?oi124) (v := ?vi124) ?h124 (by kernel_rfl) (by kernel_rfl) (by kernel_rfl) ?q124 (Or.inl ⟨?w124, ?y124⟩) hHeld ?r124
  case h124 => first | (simp only [List.getElem?_toArray, List.getElem?_cons_zero, List.getElem?_cons_succ]; done) | (simp only [List.getElem?_toArray, List.getElem?_cons_zero, List.getElem?_cons_succ]; exact rfl)
  case q124 => exact fun _ _ _ h => h
  case w124 => rfl
  case y124 =>
    intro w hSw
    (try dsimp only at hSw)
    obtain ⟨hS1, hS2⟩ := hSw
    go_simp
    try with_reducible rfl
  try simp only [Act.put, List.setIfInBounds_toArray, List.set_cons_zero, List.set_cons_succ]
  refine wpAnyH_take (i := 33) (oi := ?oi125) (v := ?vi125) ?h125 (by kernel_rfl) (by kernel_rfl) (by kernel_rfl) ?q125 (Or.inl ⟨?w125, ?y125⟩) hHeld ?r125
  case h125 => first | (simp only [List.getElem?_toArray, List.getElem?_cons_zero, List.getElem?_cons_succ]; done) | (simp only [List.getElem?_toArray, List.getElem?_cons_zero, List.getElem?_cons_succ]; exact rfl)
  case q125 => exact fun _ _ _ h => h
  case w125 => rfl
  case y125 =>
    intro w hSw
    (try dsimp only at hSw)
    obtain ⟨hS1, hS2⟩ := hSw
    go_simp
    try with_reducible rfl
  try simp only [Act.put, List.setIfInBounds_toArray, List.set_cons_zero, List.set_cons_succ]
  refine wpAnyH_take (i := 34) (oi := ?oi126) (v := ?vi126) ?h126 (by kernel_rfl) (by kernel_rfl) (by kernel_rfl) ?q126 (Or.inl ⟨?w126, ?y126⟩) hHeld ?r126
  case h126 => first | (simp only [List.getElem?_toArray, List.getElem?_cons_zero, List.getElem?_cons_succ]; done) | (simp only [List.getElem?_toArray, List.getElem?_cons_zero, List.getElem?_cons_succ]; exact rfl)
  case q126 => exact fun _ _ _ h => h
  case w126 => rfl
  case y126 =>
    intro w hSw
    (try dsimp only at hSw)
    obtain ⟨hS1, hS2⟩ := hSw
    go_simp
    try with_reducible rfl
  try simp only [Act.put, List.setIfInBounds_toArray, List.set_cons_zero, List.set_cons_succ]
  refine wpAnyH_take (i := 35) (oi := ?oi127) (v := ?vi127) ?h127 (by kernel_rfl) (by kernel_rfl) (by kernel_rfl) ?q127 (Or.inl ⟨?w127, ?y127⟩) hHeld ?r127
  case h127 => first | (simp only [List.getElem?_toArray, List.getElem?_cons_zero, List.getElem?_cons_succ]; done) | (simp only [List.getElem?_toArray, List.getElem?_cons_zero, List.getElem?_cons_succ]; exact rfl)
  case q127 => exact fun _ _ _ h => h
  case w127 => rfl
  case y127 =>
    intro w hSw
    (try dsimp only at hSw)
    obtain ⟨hS1, hS2⟩ := hSw
    go_simp
    try with_reducible rfl
  try simp only [Act.put, List.setIfInBounds_toArray, List.set_cons_zero, List.set_cons_succ]
  refine wpAnyH_ready (rs := [3]) (by kernel_rfl) (by simp) ?_
  refine AllReadyH.cons (o := ?ob128) ?hb128 (fun K hK => ?_) AllReadyH.nil
  case hb128 => first | (simp only [List.getElem?_toArray, List.getElem?_cons_zero, List.getElem?_cons_succ]; done) | (simp only [List.getElem?_toArray, List.getElem?_cons_zero, List.getElem?_cons_succ]; exact rfl)
  go_simp
  go_at_call 28
  refine HSZ.out.mono ?_
  rintro e wx ⟨rfl, rfl⟩
  go_wp2_with fail
  refine hK.out _ _ ⟨HA0.out.c0, HA0.out.c0⟩ (fun hHeld => ?_)
  clear hK K
  try simp only [Act.put, List.setIfInBounds_toArray, List.set_cons_zero, List.set_cons_succ]
  refine wpAnyH_ready (rs := [4]) (by kernel_rfl) (by simp) ?_
  refine AllReadyH.cons (o := ?ob129) ?hb129 (fun K hK => ?_) AllReadyH.nil
  case hb129 => first | (simp only [List.getElem?_toArray, List.getElem?_cons_zero, List.getElem?_cons_succ]; done) | (simp only [List.getElem?_toArray, List.getElem?_cons_zero, List.getElem?_cons_succ]; exact rfl)
  refine step_make rfl 22 _ _ rfl _ _ _ rfl rfl HMK.out ?_
  have hw2 := write_c (w := W1) A (.slice (some ⟨w.heap.size, 0, none⟩) S S) (zr S) (by have := HB.out.1; omega) hA1.out.c0 HZ.out (fun k hk ho => by have h2 := HA0.out.lt k ho; simp [Value.ownBlock] at hk; omega) HA0.out.hq (fun k hk => Nat.lt_of_lt_of_le (HA0.out.lt k hk) hA1.out.fp.size)
  have HW2 := Lib.hid hw2
  clear hw2
  refine hK.out _ _ ⟨hA1.out.c0, hA1.out.c0⟩ (fun hHeld => ?_)
  clear hK K
  try simp only [Act.put, List.setIfInBounds_toArray, List.set_cons_zero, List.set_cons_succ]
  refine wpAnyH_ready (rs := [5]) (by kernel_rfl) (by simp) ?_
  refine AllReadyH.cons (o := ?ob130) ?hb130 (fun K hK => ?_) AllReadyH.nil
  case hb130 => first | (simp only [List.getElem?_toArray, List.getElem?_cons_zero, List.getElem?_cons_succ]; done) | (simp only [List.getElem?_toArray, List.getElem?_cons_zero, List.getElem?_cons_succ]; exact rfl)
  go_simp
  go_at_call 35
  refine HW2.out.mono ?_
  rintro e w2 ⟨v2, rfl, hf2, hst2⟩
  have hA2 : Hid (StW q b g m w w2) := hA1.out.step hf2
  obtain ⟨k2, fi2, cp2, rfl, _, _⟩ := hst2.ex
  have HS2 := Lib.hid hst2
  clear hf2 hst2
  go_wp2_with fail
  refine hK.out _ _ ⟨hA2.out.c0, hA2.out.c0⟩ (fun hHeld => ?_)
  clear hK K
  try simp only [Act.put, List.setIfInBounds_toArray, List.set_cons_zero, List.set_cons_succ]
  refine wpAnyH_ready (rs := [10]) (by kernel_rfl) (by simp) ?_
  refine AllReadyH.cons (o := ?ob131) ?hb131 (fun K hK => ?_) AllReadyH.nil
  case hb131 => first | (simp only [List.getElem?_toArray, List.getElem?_cons_zero, List.getElem?_cons_succ]; done) | (simp only [List.getElem?_toArray, List.getElem?_cons_zero, List.getElem?_cons_succ]; exact rfl)
  go_simp
  go_at_call 47
  refine (HBS.out.fl HX.out w2 (hA2.out.fp.any)).mono ?_
  rintro e w3 ⟨u3, rfl, hN3⟩
  have hA3 : Hid (StW q b g m w w3) := hA2.out.step hN3.fp
  have hw4 := write_c (w := w3) A2 u3 (pad bs) (by have := HB.out.1; have := HB.out.2; omega) hA3.out.c0 hN3.sl (fun k hk ho => by have h1 := hN3.block k hk; have h2 := HA0.out.lt k ho; have h3 : w.heap.size ≤ w2.heap.size := hA2.out.fp.size; omega) HA0.out.hq (fun k hk => Nat.lt_of_lt_of_le (HA0.out.lt k hk) hA3.out.fp.size)
  have HW4 := Lib.hid hw4
  have HS2 := Lib.hid (HS2.out.later hN3.fp)
  obtain ⟨ao3, n3, cap3, rfl⟩ := hN3.shape3
  clear hw4 hN3
  go_wp2_with fail
  refine hK.out _ _ ⟨hA3.out.c0, hA3.out.c0⟩ (fun hHeld => ?_)
  clear hK K
  try simp only [Act.put, List.setIfInBounds_toArray, List.set_cons_zero, List.set_cons_succ]
  refine wpAnyH_ready (rs := [11]) (by kernel_rfl) (by simp) ?_
  refine AllReadyH.cons (o := ?ob132) ?hb132 (fun K hK => ?_) AllReadyH.nil
  case hb132 => first | (simp only [List.getElem?_toArray, List.getElem?_cons_zero, List.getElem?_cons_succ]; done) | (simp only [List.getElem?_toArray, List.getElem?_cons_zero, List.getElem?_cons_succ]; exact rfl)
  go_simp
  go_at_call 35
  refine HW4.out.mono ?_
  rintro e w4 ⟨v4, rfl, hf4, hst4⟩
  have hA4 : Hid (StW q b g m w w4) := hA3.out.step hf4
  obtain ⟨k4, fi4, cp4, rfl, _, _⟩ := hst4.ex
  have HS4 := Lib.hid hst4
  have HS2 := Lib.hid (HS2.out.later hf4)
  clear hf4 hst4
  go_wp2_with fail
  refine hK.out _ _ ⟨hA4.out.c0, hA4.out.c0⟩ (fun hHeld => ?_)
  clear hK K
  try simp only [Act.put, List.setIfInBounds_toArray, List.set_cons_zero, List.set_cons_succ]
  refine wpAnyH_ready (rs := [20]) (by kernel_rfl) (by simp) ?_
  refine AllReadyH.cons (o := ?ob133) ?hb133 (fun K hK => ?_) AllReadyH.nil
  case hb133 => first | (simp only [List.getElem?_toArray, List.getElem?_cons_zero, List.getElem?_cons_succ]; done) | (simp only [List.getElem?_toArray, List.getElem?_cons_zero, List.getElem?_cons_succ]; exact rfl)
  go_simp
  go_at_call 48
  refine (HBS.out.hd HX.out 0 w4 (by omega) (hA4.out.fp.any)).mono ?_
  rintro e w5 ⟨u5, rfl, hN5⟩
  have hA5 : Hid (StW q b g m w w5) := hA4.out.step hN5.fp
  have hw6 := write_c (w := w5) A u5 (hdr 0 bs) (by have := HB.out.1; omega) hA5.out.c0 hN5.sl (fun k hk ho => by have h1 := hN5.block k hk; have h2 := HA0.out.lt k ho; have h3 : w.heap.size ≤ w4.heap.size := hA4.out.fp.size; omega) HA0.out.hq (fun k hk => Nat.lt_of_lt_of_le (HA0.out.lt k hk) hA5.out.fp.size)
  have HW6 := Lib.hid hw6
  have HS2 := Lib.hid (HS2.out.later hN5.fp)
  have HS4 := Lib.hid (HS4.out.later hN5.fp)
  obtain ⟨ao5, n5, cap5, rfl⟩ := hN5.shape3
  clear hw6 hN5
  go_wp2_with fail
  refine hK.out _ _ ⟨hA5.out.c0, hA5.out.c0⟩ (fun hHeld => ?_)
  clear hK K
  try simp only [Act.put, List.setIfInBounds_toArray, List.set_cons_zero, List.set_cons_succ]
  refine wpAnyH_ready (rs := [21]) (by kernel_rfl) (by simp) ?_
  refine AllReadyH.cons (o := ?ob134) ?hb134 (fun K hK => ?_) AllReadyH.nil
  case hb134 => first | (simp only [List.getElem?_toArray, List.getElem?_cons_zero, List.getElem?_cons_succ]; done) | (simp only [List.getElem?_toArray, List.getElem?_cons_zero, List.getElem?_cons_succ]; exact rfl)
  go_simp
  go_at_call 35
  refine HW6.out.mono ?_
  rintro e w6 ⟨v6, rfl, hf6, hst6⟩
  have hA6 : Hid (StW q b g m w w6) := hA5.out.step hf6
  obtain ⟨k6, fi6, cp6, rfl, _, _⟩ := hst6.ex
  have HS6 := Lib.hid hst6
  have HS2 := Lib.hid (HS2.out.later hf6)
  have HS4 := Lib.hid (HS4.out.later hf6)
  clear hf6 hst6
  go_wp2_with fail
  refine hK.out _ _ ⟨hA6.out.c0, hA6.out.c0⟩ (fun hHeld => ?_)
  clear hK K
  try simp only [Act.put, List.setIfInBounds_toArray, List.set_cons_zero, List.set_cons_succ]
  refine wpAnyH_ready (rs := [29]) (by kernel_rfl) (by simp) ?_
  refine AllReadyH.cons (o := ?ob135) ?hb135 (fun K hK => ?_) AllReadyH.nil
  case hb135 => first | (simp only [List.getElem?_toArray, List.getElem?_cons_zero, List.getElem?_cons_succ]; done) | (simp only [List.getElem?_toArray, List.getElem?_cons_zero, List.getElem?_cons_succ]; exact rfl)
  go_simp
  go_at_call 52
  refine (sign_c o HO.out w6).mono ?_
  rintro e w7 ⟨u7, rfl, hN7⟩
  have hA7 : Hid (StW q b g m w w7) := hA6.out.step hN7.fp
  have hw8 := write_c (w := w7) 0 u7 (sgn o) (by omega) hA7.out.c0 hN7.sl (fun k hk ho => by have h1 := hN7.block k hk; have h2 := HA0.out.lt k ho; have h3 : w.heap.size ≤ w6.heap.size := hA6.out.fp.size; omega) HA0.out.hq (fun k hk => Nat.lt_of_lt_of_le (HA0.out.lt k hk) hA7.out.fp.size)
  have HW8 := Lib.hid hw8
  have HS2 := Lib.hid (HS2.out.later hN7.fp)
  have HS4 := Lib.hid (HS4.out.later hN7.fp)
  have HS6 := Lib.hid (HS6.out.later hN7.fp)
  obtain ⟨ao7, n7, cap7, rfl⟩ := hN7.shape3
  clear hw8 hN7
  go_wp2_with fail
  refine hK.out _ _ ⟨hA7.out.c0, hA7.out.c0⟩ (fun hHeld => ?_)
  clear hK K
  try simp only [Act.put, List.setIfInBounds_toArray, List.set_cons_zero, List.set_cons_succ]
  refine wpAnyH_ready (rs := [30]) (by kernel_rfl) (by simp) ?_
  refine AllReadyH.cons (o := ?ob136) ?hb136 (fun K hK => ?_) AllReadyH.nil
  case hb136 => first | (simp only [List.getElem?_toArray, List.getElem?_cons_zero, List.getElem?_cons_succ]; done) | (simp only [List.getElem?_toArray, List.getElem?_cons_zero, List.getElem?_cons_succ]; exact rfl)
  go_simp
  go_at_call 35
  refine HW8.out.mono ?_
  rintro e w8 ⟨v8, rfl, hf8, hst8⟩
  have hA8 : Hid (StW q b g m w w8) := hA7.out.step hf8
  obtain ⟨k8, fi8, cp8, rfl, _, _⟩ := hst8.ex
  have HS8 := Lib.hid hst8
  have HS2 := Lib.hid (HS2.out.later hf8)
  have HS4 := Lib.hid (HS4.out.later hf8)
  have HS6 := Lib.hid (HS6.out.later hf8)
  clear hf8 hst8
  go_wp2_with fail
  refine hK.out _ _ ⟨hA8.out.c0, hA8.out.c0⟩ (fun hHeld => ?_)
  clear hK K
  try simp only [Act.put, List.setIfInBounds_toArray, List.set_cons_zero, List.set_cons_succ]
  refine wpAnyH_ready (rs := [36]) (by kernel_rfl) (by simp) ?_
  refine AllReadyH.cons (o := ?ob137) ?hb137 (fun K hK => ?_) AllReadyH.nil
  case hb137 => first | (simp only [List.getElem?_toArray, List.getElem?_cons_zero, List.getElem?_cons_succ]; done) | (simp only [List.getElem?_toArray, List.getElem?_cons_zero, List.getElem?_cons_succ]; exact rfl)
  go_simp
  have hf9 : Fp Non w8 (w8.alloc (.cells #[.func (.func k2) fi2 cp2, .func (.func k4) fi4 cp4, .func (.func 37) #[.pointer (some ⟨b, 0, none⟩)] #[], .func (.func k6) fi6 cp6, .func (.func 37) #[.pointer (some ⟨b, 0, none⟩)] #[], .func (.func k8) fi8 cp8, .func (.func 37) #[.pointer (some ⟨b, 0, none⟩)] #[]] 73)) := (Fp.refl Non w8).alloc _
  have hA9 := hA8.out.step hf9
  have hp9 := seven_c (hA9.d HD0.out) _ _ _ _ _ _ _ w8.heap.size _ _ _ _ _ _ _ (heap_alloc_new w8 _) (fun ho => by have := HA0.out.lt _ ho; have := hA8.out.fp.size; omega) HAC.out (HS2.out.later hf9) (HS4.out.later hf9) (sync_step b g m _) (HS6.out.later hf9) (sync_step b g m _) (HS8.out.later hf9) (sync_step b g m _)
  have HP9 := Lib.hid hp9
  have HA9 := Lib.hid hA9
  clear hf9 hA9 hp9
  refine hK.out _ _ ⟨HA9.out.c0, HA9.out.c0⟩ (fun hHeld => ?_)
  clear hK K
  try simp only [Act.put, List.setIfInBounds_toArray, List.set_cons_zero, List.set_cons_succ]
  refine wpAnyH_ready (rs := [37]) (by kernel_rfl) (by simp) ?_
  refine AllReadyH.cons (o := ?ob138) ?hb138 (fun K hK => ?_) AllReadyH.nil
  case hb138 => first | (simp only [List.getElem?_toArray, List.getElem?_cons_zero, List.getElem?_cons_succ]; done) | (simp only [List.getElem?_toArray, List.getElem?_cons_zero, List.getElem?_cons_succ]; exact rfl)
  go_simp
  go_at_call 34
  refine HP9.out.mono ?_
  rintro e w10 ⟨rfl, hd10, hf10⟩
  have HD10 := Lib.hid (And.intro hd10 (HA9.out.after hf10))
  clear hd10 hf10
  go_wp2_with fail
  refine hK.out _ _ ⟨HD10.out.2.2, HD10.out.2.2⟩ (fun hHeld => ?_)
  clear hK K
  try simp only [Act.put, List.setIfInBounds_toArray, List.set_cons_zero, List.set_cons_succ]
  refine wpAnyH_take (i := 38) (oi := ?oi139) (v := ?vi139) ?h139 (by kernel_rfl) (by kernel_rfl) (by kernel_rfl) ?q139 (Or.inl ⟨?w139, ?y139⟩) hHeld ?r139
  case h139 => first | (simp only [List.getElem?_toArray, List.getElem?_cons_zero, List.getElem?_cons_succ]; done) | (simp only [List.getElem?_toArray, List.getElem?_cons_zero, List.getElem?_cons_succ]; exact rfl)
  case q139 => exact fun _ _ _ h => h
  case w139 => rfl
  case y139 =>
    intro w hSw
    (try dsimp only at hSw)
    obtain ⟨hS1, hS2⟩ := hSw
    go_simp
    try with_reducible rfl
  try simp only [Act.put, List.setIfInBounds_toArray, List.set_cons_zero, List.set_cons_succ]
  refine wpAnyH_done (by kernel_rfl) ?_ _
  have hseq : seqF [wr A (zr S), wr A2 (pad bs), dSync, wr A (hdr 0 bs), dSync, wr 0 (sgn o), dSync] s = r := by rw [HR.out, HB.out.2]
  rw [hseq] at HD10 ⊢
  by_cases h0 : r.1 = 0
  · have hturn := turn_log (bs := bs) o hl0.out HD10.out.2.1 HD10.out.1 HY.out.2.2.2.2.2.1
    have hb10 := hturn.1
    have HT := Lib.hid hturn.2
    have k1 : (convert 22 9 (.slice bao bs.length bcap)).run Tryz.prog w10 = .ok (.string (B bs)) w10 :=
      HBS.out.cv _ HD10.out.2.1
    have hqlt : q < w10.heap.size := (Array.getElem?_eq_some_iff.1 hb10).1
    have hb11 : (w10.alloc (.cells #[.string (B bs)] 9)).heap[q]? = some (.cells #[.pointer (some ⟨b, 0, none⟩), .int .i64 (l.ar : Int), v] TL (0, 0)) := ((Fp.refl Non w10).alloc _).heap hb10 (fun h => h)
    have d1 : (w10.alloc (.cells #[.string (B bs)] 9)).cell? ⟨q, 1, none⟩ = some (.int .i64 (l.ar : Int)) := by simp [World.cell?, hb11]
    have f1 : (w10.alloc (.cells #[.string (B bs)] 9)).frozen? ⟨q, 1, none⟩ = false := by simp [World.frozen?, hb11]
    have hb12 : ((w10.alloc (.cells #[.string (B bs)] 9)).setCell ⟨q, 1, none⟩ (.int .i64 (o : Int))).heap[q]? = some (.cells #[.pointer (some ⟨b, 0, none⟩), .int .i64 (o : Int), v] TL (0, 0)) := by simp [World.setCell, Array.getElem?_modify, hb11]
    have d2 : ((w10.alloc (.cells #[.string (B bs)] 9)).setCell ⟨q, 1, none⟩ (.int .i64 (o : Int))).cell? ⟨q, 2, none⟩ = some v := by simp [World.cell?, hb12]
    have f2 : ((w10.alloc (.cells #[.string (B bs)] 9)).setCell ⟨q, 1, none⟩ (.int .i64 (o : Int))).frozen? ⟨q, 2, none⟩ = false := by simp [World.frozen?, hb12]
    unfold strV at HT
    have HH0 := Lib.hid h0
    rw [h0]
    clear hseq h0 hturn hb10 hb11 hb12 hqlt
    go_wp2
    go_ret
    exact ⟨by rw [HH0.out]; rfl, fun h => absurd HH0.out h, fun _ => HT.out⟩
  · have hfin : Hid (LgR lo b g m q r.2 l v w w10) := ⟨HD10.out.1, ⟨v, hl0.out.keep HD10.out.2.1 (fun k hk ho => HY.out.2.2.2.2.2.1 k ho hk), .inl rfl⟩, HD10.out.2.1.mono (fun k hk => .inl hk)⟩
    have HH0 := Lib.hid h0
    have q6 : (r.1 = 0) = False := eq_false h0
    have q7 : (r.1 == 0) = false := beq_eq_false_iff_ne.2 h0
    clear hseq h0
    go_wp2
    go_ret
    exact ⟨rfl, fun _ => hfin.out, fun h => absurd h HH0.out⟩

theorem Start_c {lo q b g m : Nat} {l : Lg} {v : Value} {s : Dk} {w : World} (hd : Dr lo b g m s w) (hl : Lr lo q b l v w) (hk : Lk s l) (hap : apart b g m q v) (bv : Value) (bs : Bs) (hb : Src b g m w bv bs) (ha : s.acts ≤ 990000) :
    Calls Tryz.prog 17 #[.pointer (some ⟨q, 0, none⟩), bv] w fun e w' => e = .returned (.int .i64 (lStart s l bs).1) ∧ LgR lo b g m q (lStart s l bs).2.2 (lStart s l bs).2.1 v w w' := by
  by_cases hbig : 16384 < bs.length
  · exact Start_bad hd hl hk bv bs hb (.inl hbig)
  · by_cases hful : hf s.cur < ln bs.length
    · exact Start_bad hd hl hk bv bs hb (.inr hful)
    · refine (Start_good hd hl hk hap bv bs hb ha hbig hful (1 - l.ar) rfl _ rfl).mono ?_
      rintro e w' ⟨rfl, h1, h2⟩
      unfold lStart
      rw [if_neg hbig, if_neg hful]
      refine ⟨rfl, ?_⟩
      split
      · rename_i h; exact h2 h
      · rename_i h; exact h1 h
end Go.Proofs.YtankfmlafmjaeaaGreat
