/- Append. -/
import Derived.Test.YtankfmlafmjaeaaGreatSx
import Derived.Deep.RegionLaw
import Derived.Deep.RegionHeld
namespace Go.Proofs.YtankfmlafmjaeaaGreat
set_option maxRecDepth 20000
open Go.RowKit Pm

theorem step_app {P : Program} {ops : Array Oper} {o : Oper} {a : Act} {w : World} {K : Act → World → Prop} {Q : Exit → Act → World → Prop} {E : Prop} (hgd : o.guard = none) (s x : Operand) (t u : TypeId)
    (ho : o.op = .call { callee := .builtin .append, args := #[s, x], argTypes := #[t, u] }) (v xv : Value) (hs : a.eval s = v) (hx : a.eval x = xv) (R : Value → World → Prop)
    (hr : ∃ v' w', (Builtin.append_ #[t, u] o.type #[v, xv]).run P w = .ok v' w' ∧ R v' w') (h : ∀ v' w', R v' w' → K (a.put o.dst v') w') :
    if Region.wanted o (yielded ops a.tmps) = true then Oper.wp P o a w K Q else E := by
  have hw : Region.wanted o (yielded ops a.tmps) = true := by simp [Region.wanted, hgd]
  rw [if_pos hw]
  obtain ⟨v', w', hr, h2⟩ := hr
  unfold Oper.wp execOp
  simp only [ho, resolve, invoke, builtin, Sem.run_bind, Sem.run_pure, Result.andThen_ok, List.map_toArray, List.map_cons, List.map_nil, hs, hx, hr]
  exact h v' w' h2

theorem Fp.fpd {w w' : World} (h : Fp Non w.drew w') : Fp Non w w' := ⟨h.os, h.tape, h.output, h.size, h.block⟩

/-- What stays while the steps are made ready. -/
structure ApW (q b g m : Nat) (rao : Option Addr) (rcap : Nat) (l : Lg) (w w' : World) : Prop where
  fp : Fp Non w w'
  lt : ∀ k, own3 b g m k → k < w.heap.size
  hq : ¬ own3 b g m q
  c0 : w'.cell? ⟨q, 0, none⟩ = some (.pointer (some ⟨b, 0, none⟩))
  c2 : w'.cell? ⟨q, 2, none⟩ = some (.slice rao l.rs.length rcap)
/-- .. and behind them. -/
structure ApX (q b g m : Nat) (rao : Option Addr) (rcap : Nat) (l : Lg) (w w' : World) : Prop where
  fp : Fp (own3 b g m) w w'
  c0 : w'.cell? ⟨q, 0, none⟩ = some (.pointer (some ⟨b, 0, none⟩))
  c2 : w'.cell? ⟨q, 2, none⟩ = some (.slice rao l.rs.length rcap)
section
variable {q b g m : Nat} {rao : Option Addr} {rcap : Nat} {l : Lg} {w w1 w2 : World}
theorem ApW.step (h : ApW q b g m rao rcap l w w1) (f : Fp Non w1 w2) : ApW q b g m rao rcap l w w2 :=
  ⟨h.fp.then f, h.lt, h.hq, f.cell h.c0 (fun h => h), f.cell h.c2 (fun h => h)⟩
theorem ApW.after (h : ApW q b g m rao rcap l w w1) (f : Fp (own3 b g m) w1 w2) : ApX q b g m rao rcap l w w2 :=
  ⟨(h.fp.any (S := own3 b g m)).same f, f.cell h.c0 h.hq, f.cell h.c2 h.hq⟩
theorem ApW.d {lo : Nat} {s : Dk} (h : ApW q b g m rao rcap l w w1) (hd : Dr lo b g m s w) : Dr lo b g m s w1 := hd.keep h.fp (fun _ _ h => h)
end

theorem four_c {lo b g m : Nat} {s : Dk} {w : World} (hd : Dr lo b g m s w) (f0 f1 f2 f3 : Value) (gs : Nat) (F0 F1 F2 F3 : Dk → Int × Dk)
    (hh : w.heap[gs]? = some (.cells #[f0, f1, f2, f3] 73)) (hgs : ¬ own3 b g m gs) (ha : s.acts ≤ 990000) (h0 : Step b g m w f0 F0) (h1 : Step b g m w f1 F1) (h2 : Step b g m w f2 F2) (h3 : Step b g m w f3 F3) :
    Calls Tryz.prog 34 #[.slice (some ⟨gs, 0, none⟩) 4 4] w fun e w' => e = .returned (.int .i64 (seqF [F0, F1, F2, F3] s).1) ∧ Dr lo b g m (seqF [F0, F1, F2, F3] s).2 w' ∧ Fp (own3 b g m) w w' := by
  have hcell : ∀ k (h : k < [f0, f1, f2, f3].length), w.cell? ⟨gs, k, none⟩ = some [f0, f1, f2, f3][k] := fun k hk => by
    have hk4 : k < 4 := hk
    rw [cell_of_row _ _ _ _ _ _ hh]
    simp
  refine perform_c hd gs [f0, f1, f2, f3] [F0, F1, F2, F3] rfl (by show (4 : Nat) ≤ 100; omega) ha hgs hcell (fun k hk => ?_)
  have hk4 : k < 4 := hk
  rcases (show k = 0 ∨ k = 1 ∨ k = 2 ∨ k = 3 by omega) with rfl | rfl | rfl | rfl
  · exact h0
  · exact h1
  · exact h2
  · exact h3

/-- Behind a call of a log. -/
structure LgR (lo b g m q : Nat) (s : Dk) (l : Lg) (v : Value) (w w' : World) : Prop where
  d : Dr lo b g m s w'
  l : ∃ v', Lr lo q b l v' w' ∧ (v'.ownBlock = v.ownBlock ∨ ∀ k, v'.ownBlock = some k → w.heap.size ≤ k)
  fp : Fp (fun k => own3 b g m k ∨ ownL q v k) w w'
def apart (b g m q : Nat) (v : Value) : Prop := ∀ k, own3 b g m k → ¬ ownL q v k
/-- A record more, in the log's own list. -/
theorem push_log {lo q b g m : Nat} {l : Lg} {v : Value} {s' : Dk} {w w6 w7 : World} {v' : Value} {bs : Bs} (hl : Lr lo q b l v w) (f : Fp (own3 b g m) w w6) (hd : Dr lo b g m s' w6) (hap : apart b g m q v) (hR : AppS lo w6.drew v (l.rs ++ [bs]) v' w7) :
    w7.heap[q]? = some (.cells #[.pointer (some ⟨b, 0, none⟩), .int .i64 (l.ar : Int), v] TL (0, 0)) ∧ LgR lo b g m q s' ⟨l.ar, l.rs ++ [bs]⟩ v w (w7.setCell ⟨q, 2, none⟩ v') := by
  have h6 : Lr lo q b l v w6 := hl.keep f (fun k hk ho => hap k ho hk)
  have f7 : Fp (fun k => v.ownBlock = some k) w6 w7 := hR.fp ((Fp.refl _ w6).drew) (fun k hk => .inl hk)
  have blk7 := f7.heap h6.blk (fun h => h6.ne q h rfl)
  have fs : Fp (fun k => k = q) w7 (w7.setCell ⟨q, 2, none⟩ v') := (Fp.refl (fun k => k = q) w7).setCell (p := ⟨q, 2, none⟩) (.inl rfl) v'
  have hq6 := h6.lt
  have hlq := hl.low
  have hv' : ∀ k, v'.ownBlock = some k → k ≠ q := fun k hk e => by
    rcases hR.at' with h | h
    · rw [h] at hk; exact h6.ne k hk e
    · have h1 : w6.heap.size ≤ k := h k hk
      omega
  refine ⟨blk7, ⟨(hd.keep f7 (fun k hk h => hap k hk (.inr h))).keep fs (fun k hk e => hap k hk (.inl e)), ⟨v', ⟨hl.low, ?_, hR.os.keep fs (fun k hk e => hv' k hk e), hv'⟩, ?_⟩, ?_⟩⟩
  · simp [World.setCell, Array.getElem?_modify, blk7]
  · rcases hR.at' with h | h
    · exact .inl h
    · refine .inr (fun k hk => Nat.le_trans f.size (h k hk))
  · exact ((f.mono (T := fun k => own3 b g m k ∨ ownL q v k) (fun k hk => .inl hk)).same (f7.mono (fun k hk => .inr (.inr hk)))).same (fs.mono (fun k hk => .inr (.inl hk)))

attribute [local irreducible] wpStill

set_option maxHeartbeats 4000000 in
theorem Append_bad {lo q b g m : Nat} {l : Lg} {v : Value} {s : Dk} {w : World} (hd : Dr lo b g m s w) (hl : Lr lo q b l v w) (hk : Lk s l) (bv : Value) (bs : Bs) (hb : Src b g m w bv bs) (hbad : 16384 < bs.length ∨ hf s.cur < usd l.rs + ln bs.length) :
    Calls Tryz.prog 15 #[.pointer (some ⟨q, 0, none⟩), bv] w fun e w' => e = .returned (.int .i64 (lAppend s l bs).1) ∧ LgR lo b g m q (lAppend s l bs).2.2 (lAppend s l bs).2.1 v w w' := by
  obtain ⟨bao, bcap, hbv⟩ := hb.sh
  have hfin : Hid (LgR lo b g m q s l v w w) := ⟨hd, ⟨v, hl, .inl rfl⟩, Fp.refl _ _⟩
  by_cases hbig : 16384 < bs.length
  · have e : lAppend s l bs = (1, l, s) := by unfold lAppend; rw [if_pos hbig]
    rw [e, hbv]
    have q1 : ((16384 : Int) < (bs.length : Int)) = True := eq_true (by omega)
    have HX := Lib.hid (And.intro hd (And.intro hl (And.intro hk (And.intro hb (And.intro hbad hbig)))))
    clear hd hl hk hb hbad hbig e hbv
    go_enter Tryz.func15, Tryz.ntmps15
    go_wp2
    go_ret
    exact ⟨rfl, hfin⟩
  · have hful : hf s.cur < usd l.rs + ln bs.length := hbad.resolve_left hbig
    have e : lAppend s l bs = (51, l, s) := by unfold lAppend; rw [if_neg hbig, if_pos hful]
    rw [e, hbv]
    have q1 : ((16384 : Int) < (bs.length : Int)) = False := eq_false (by omega)
    have hu := used_c hl (by have := hk.fit; have := (hk.few hd.rt).2; omega)
    have hs := size_c hd hl
    have hlc := length_c bs.length (by omega) w
    have hfit := hk.fit
    have hsb := (hk.few hd.rt).2
    have hlb : ln bs.length ≤ 100000 := by have := (up_le bs.length).2; unfold ln; omega
    generalize hf s.cur = S at *
    generalize usd l.rs = U at *
    generalize ln bs.length = N at *
    have q2 : ((S : Int) - (U : Int) < (N : Int)) = True := eq_true (by omega)
    have HU := Lib.hid hu
    have HS := Lib.hid hs
    have HL := Lib.hid hlc
    have HX := Lib.hid (And.intro hd (And.intro hl (And.intro hk (And.intro hb (And.intro hbad (And.intro hbig hful))))))
    clear hd hl hk hb hbad hbig e hbv hu hs hlc hful
    go_enter Tryz.func15, Tryz.ntmps15
    go_wp2_with (first | (go_at_call 46; refine HL.out.mono ?_; rintro e w' ⟨rfl, hw'⟩; obtain rfl := hw'.symm) | (go_at_call 28; refine HS.out.mono ?_; rintro e w' ⟨rfl, hw'⟩; obtain rfl := hw'.symm) | (go_at_call 32; refine HU.out.mono ?_; rintro e w' ⟨rfl, rfl⟩))
    go_ret
    exact ⟨rfl, hfin⟩

set_option maxHeartbeats 16000000 in
theorem Append_good {lo q b g m : Nat} {l : Lg} {v : Value} {s : Dk} {w : World} (hd : Dr lo b g m s w) (hl : Lr lo q b l v w) (hk : Lk s l) (hap : apart b g m q v) (bv : Value) (bs : Bs) (hb : Src b g m w bv bs) (ha : s.acts ≤ 990000)
    (hbig : ¬ 16384 < bs.length) (hful : ¬ hf s.cur < usd l.rs + ln bs.length) (r : Int × Dk) (hr : r = seqF (apSteps (st s.cur l.ar + usd l.rs) l.rs.length bs) s) :
    Calls Tryz.prog 15 #[.pointer (some ⟨q, 0, none⟩), bv] w fun e w' => e = .returned (.int .i64 r.1) ∧ (r.1 ≠ 0 → LgR lo b g m q r.2 l v w w') ∧ (r.1 = 0 → LgR lo b g m q r.2 ⟨l.ar, l.rs ++ [bs]⟩ v w w') := by
  obtain ⟨bao, bcap, hbv⟩ := hb.sh
  obtain ⟨rao, rcap, hvv⟩ := hl.os.shape
  have hl0 := Lib.hid hl
  have hq : ¬ own3 b g m q := fun ho => hap q ho (.inl rfl)
  have hltd : ∀ k, own3 b g m k → k < w.heap.size := fun k hk => (hd.all k hk).2
  have HA0 : Hid (ApW q b g m rao rcap l w w) := ⟨Fp.refl _ _, hltd, hq, hl.c0, by rw [hl.c2, hvv]⟩
  have HD0 := Lib.hid hd
  have HAC := Lib.hid ha
  rw [hbv]
  have q1 : ((16384 : Int) < (bs.length : Int)) = False := eq_false (by omega)
  have hfit := hk.fit
  have hsb := (hk.few hd.rt).2
  have hu := used_c hl (by omega)
  have hs := size_c hd hl
  have hen := end_c hd hl hk
  have hlc := length_c bs.length (by omega) w
  have hlb : ln bs.length ≤ 100000 := by have := (up_le bs.length).2; unfold ln; omega
  have hEb : st s.cur l.ar + usd l.rs ≤ 900000 := by have := st_le s.cur l.ar hk.ar hk.big; have := hd.rt.curlen; omega
  have hfl := hb.fl (by omega) w.drew (Fp.drew (Fp.refl _ w))
  rw [hbv] at hfl
  have HFL := Lib.hid hfl
  have hbs : Src b g m w (.slice bao bs.length bcap) bs := by rw [← hbv]; exact hb
  have HBS := Lib.hid hbs
  have HX := Lib.hid (And.intro (show bs.length ≤ 16384 by omega) (show l.rs.length ≤ 65535 by have := usd_ge l.rs; omega))
  have hnb := hbs
  have hbn := hbs
  generalize st s.cur l.ar + usd l.rs = E at *
  obtain ⟨E2, hE2⟩ : ∃ E2, E2 = E + 16 := ⟨_, rfl⟩
  have q3 : IntKind.i64.wrap ((E : Int) + 16) = (E2 : Int) := by rw [IntKind.wrap_i64]; omega
  have HB := Lib.hid (And.intro hEb hE2)
  have HR := Lib.hid hr
  generalize hf s.cur = S at *
  generalize usd l.rs = U at *
  generalize ln bs.length = N at *
  have q2 : ((S : Int) - (U : Int) < (N : Int)) = False := eq_false (by omega)
  have HU := Lib.hid hu
  have HS := Lib.hid hs
  have HE := Lib.hid hen
  have HL := Lib.hid hlc
  have HY := Lib.hid (And.intro hd (And.intro hl (And.intro hk (And.intro hb (And.intro hful (And.intro hap (And.intro hbn (And.intro hq (And.intro hltd (And.intro hvv (And.intro hbs (And.intro hnb hbig))))))))))))
  clear hd hl hk hb hbig hbv hu hs hlc hful hen hfl hap hbn hq hltd hvv ha hbs hnb hr hE2
  go_enter Tryz.func15, Tryz.ntmps15
  go_wp2_with (first | (go_at_call 46; refine HL.out.mono ?_; rintro e w' ⟨rfl, hw'⟩; obtain rfl := hw'.symm) | (go_at_call 28; refine HS.out.mono ?_; rintro e w' ⟨rfl, hw'⟩; obtain rfl := hw'.symm) | (go_at_call 32; refine HU.out.mono ?_; rintro e w' ⟨rfl, hw'⟩; obtain rfl := hw'.symm) | (go_at_call 36; refine HE.out.mono ?_; rintro e w' ⟨rfl, hw'⟩; obtain rfl := hw'.symm))
  refine wp_region_held_drew (S := (fun w' => w'.cell? ⟨q, 0, none⟩ = some (.pointer (some ⟨b, 0, none⟩)) ∧ w'.cell? ⟨q, 2, none⟩ = some (.slice rao l.rs.length rcap))) (by kernel_rfl) ?_ (fun hHeld => ?_)
  · exact ⟨HA0.out.c0, HA0.out.c2⟩
  refine wpAnyH_take (i := 0) (oi := ?oi101) (v := ?vi101) ?h101 (by kernel_rfl) (by kernel_rfl) (by kernel_rfl) ?q101 (Or.inl ⟨?w101, ?y101⟩) hHeld ?r101
  case h101 => first | (simp only [List.getElem?_toArray, List.getElem?_cons_zero]; done) | (simp only [List.getElem?_toArray, List.getElem?_cons_zero]; exact rfl)
  case q101 => exact fun _ _ _ h => h
  case w101 => rfl
  case y101 =>
    intro w hSw
    (try dsimp only at hSw)
    obtain ⟨hS1, hS2⟩ := hSw
    go_simp
    try with_reducible rfl
  try simp only [Act.put, List.setIfInBounds_toArray, List.set_cons_zero, List.set_cons_succ]
  refine wpAnyH_take (i := 1) (oi := ?oi102) (v := ?vi102) ?h102 (by kernel_rfl) (by kernel_rfl) (by kernel_rfl) ?q102 (Or.inl ⟨?w102, ?y102⟩) hHeld ?r102
  case h102 => first | (simp only [List.getElem?_toArray, List.getElem?_cons_zero, List.getElem?_cons_succ]; done) | (simp only [List.getElem?_toArray, List.getElem?_cons_zero, List.getElem?_cons_succ]; exact rfl)
  case q102 => exact fun _ _ _ h => h
  case w102 => rfl
  case y102 =>
    intro w hSw
    (try dsimp only at hSw)
    obtain ⟨hS1, hS2⟩ := hSw
    go_simp
    try with_reducible rfl
  try simp only [Act.put, List.setIfInBounds_toArray, List.set_cons_zero, List.set_cons_succ]
  refine wpAnyH_take (i := 2) (oi := ?oi103) (v := ?vi103) ?h103 (by kernel_rfl) (by kernel_rfl) (by kernel_rfl) ?q103 (Or.inl ⟨?w103, ?y103⟩) hHeld ?r103
  case h103 => first | (simp only [List.getElem?_toArray, List.getElem?_cons_zero, List.getElem?_cons_succ]; done) | (simp only [List.getElem?_toArray, List.getElem?_cons_zero, List.getElem?_cons_succ]; exact rfl)
  case q103 => exact fun _ _ _ h => h
  case w103 => rfl
  case y103 =>
    intro w hSw
    (try dsimp only at hSw)
    obtain ⟨hS1, hS2⟩ := hSw
    go_simp
    try with_reducible rfl
  try simp only [Act.put, List.setIfInBounds_toArray, List.set_cons_zero, List.set_cons_succ]
  refine wpAnyH_take (i := 3) (oi := ?oi104) (v := ?vi104) ?h104 (by kernel_rfl) (by kernel_rfl) (by kernel_rfl) ?q104 (Or.inl ⟨?w104, ?y104⟩) hHeld ?r104
  case h104 => first | (simp only [List.getElem?_toArray, List.getElem?_cons_zero, List.getElem?_cons_succ]; done) | (simp only [List.getElem?_toArray, List.getElem?_cons_zero, List.getElem?_cons_succ]; exact rfl)
  case q104 => exact fun _ _ _ h => h
  case w104 => rfl
  case y104 =>
    intro w hSw
    (try dsimp only at hSw)
    obtain ⟨hS1, hS2⟩ := hSw
    go_simp
    try with_reducible rfl
  try simp only [Act.put, List.setIfInBounds_toArray, List.set_cons_zero, List.set_cons_succ]
  refine wpAnyH_take (i := 6) (oi := ?oi105) (v := ?vi105) ?h105 (by kernel_rfl) (by kernel_rfl) (by kernel_rfl) ?q105 (Or.inl ⟨?w105, ?y105⟩) hHeld ?r105
  case h105 => first | (simp only [List.getElem?_toArray, List.getElem?_cons_zero, List.getElem?_cons_succ]; done) | (simp only [List.getElem?_toArray, List.getElem?_cons_zero, List.getElem?_cons_succ]; exact rfl)
  case q105 => exact fun _ _ _ h => h
  case w105 => rfl
  case y105 =>
    intro w hSw
    (try dsimp only at hSw)
    obtain ⟨hS1, hS2⟩ := hSw
    go_simp
    try with_reducible rfl
  try simp only [Act.put, List.setIfInBounds_toArray, List.set_cons_zero, List.set_cons_succ]
  refine wpAnyH_take (i := 7) (oi := ?oi106) (v := ?vi106) ?h106 (by kernel_rfl) (by kernel_rfl) (by kernel_rfl) ?q106 (Or.inl ⟨?w106, ?y106⟩) hHeld ?r106
  case h106 => first | (simp only [List.getElem?_toArray, List.getElem?_cons_zero, List.getElem?_cons_succ]; done) | (simp only [List.getElem?_toArray, List.getElem?_cons_zero, List.getElem?_cons_succ]; exact rfl)
  case q106 => exact fun _ _ _ h => h
  case w106 => rfl
  case y106 =>
    intro w hSw
    (try dsimp only at hSw)
    obtain ⟨hS1, hS2⟩ := hSw
    go_simp
    try with_reducible rfl
  try simp only [Act.put, List.setIfInBounds_toArray, List.set_cons_zero, List.set_cons_succ]
  refine wpAnyH_take (i := 8) (oi := ?oi107) (v := ?vi107) ?h107 (by kernel_rfl) (by kernel_rfl) (by kernel_rfl) ?q107 (Or.inl ⟨?w107, ?y107⟩) hHeld ?r107
  case h107 => first | (simp only [List.getElem?_toArray, List.getElem?_cons_zero, List.getElem?_cons_succ]; done) | (simp only [List.getElem?_toArray, List.getElem?_cons_zero, List.getElem?_cons_succ]; exact rfl)
  case q107 => exact fun _ _ _ h => h
  case w107 => rfl
  case y107 =>
    intro w hSw
    (try dsimp only at hSw)
    obtain ⟨hS1, hS2⟩ := hSw
    go_simp
    try with_reducible rfl
  try simp only [Act.put, List.setIfInBounds_toArray, List.set_cons_zero, List.set_cons_succ]
  refine wpAnyH_take (i := 9) (oi := ?oi108) (v := ?vi108) ?h108 (by kernel_rfl) (by kernel_rfl) (by kernel_rfl) ?q108 (Or.inl ⟨?w108, ?y108⟩) hHeld ?r108
  case h108 => first | (simp only [List.getElem?_toArray, List.getElem?_cons_zero, List.getElem?_cons_succ]; done) | (simp only [List.getElem?_toArray, List.getElem?_cons_zero, List.getElem?_cons_succ]; exact rfl)
  case q108 => exact fun _ _ _ h => h
  case w108 => rfl
  case y108 =>
    intro w hSw
    (try dsimp only at hSw)
    obtain ⟨hS1, hS2⟩ := hSw
    go_simp
    try with_reducible rfl
  try simp only [Act.put, List.setIfInBounds_toArray, List.set_cons_zero, List.set_cons_succ]
  refine wpAnyH_take (i := 10) (oi := ?oi109) (v := ?vi109) ?h109 (by kernel_rfl) (by kernel_rfl) (by kernel_rfl) ?q109 (Or.inl ⟨?w109, ?y109⟩) hHeld ?r109
  case h109 => first | (simp only [List.getElem?_toArray, List.getElem?_cons_zero, List.getElem?_cons_succ]; done) | (simp only [List.getElem?_toArray, List.getElem?_cons_zero, List.getElem?_cons_succ]; exact rfl)
  case q109 => exact fun _ _ _ h => h
  case w109 => rfl
  case y109 =>
    intro w hSw
    (try dsimp only at hSw)
    obtain ⟨hS1, hS2⟩ := hSw
    go_simp
    try with_reducible rfl
  try simp only [Act.put, List.setIfInBounds_toArray, List.set_cons_zero, List.set_cons_succ]
  refine wpAnyH_take (i := 11) (oi := ?oi110) (v := ?vi110) ?h110 (by kernel_rfl) (by kernel_rfl) (by kernel_rfl) ?q110 (Or.inl ⟨?w110, ?y110⟩) hHeld ?r110
  case h110 => first | (simp only [List.getElem?_toArray, List.getElem?_cons_zero, List.getElem?_cons_succ]; done) | (simp only [List.getElem?_toArray, List.getElem?_cons_zero, List.getElem?_cons_succ]; exact rfl)
  case q110 => exact fun _ _ _ h => h
  case w110 => rfl
  case y110 =>
    intro w hSw
    (try dsimp only at hSw)
    obtain ⟨hS1, hS2⟩ := hSw
    go_simp
    try with_reducible rfl
  try simp only [Act.put, List.setIfInBounds_toArray, List.set_cons_zero, List.set_cons_succ]
  refine wpAnyH_take (i := 12) (oi := ?oi111) (v := ?vi111) ?h111 (by kernel_rfl) (by kernel_rfl) (by kernel_rfl) ?q111 (Or.inl ⟨?w111, ?y111⟩) hHeld ?r111
  case h111 => first | (simp only [List.getElem?_toArray, List.getElem?_cons_zero, List.getElem?_cons_succ]; done) | (simp only [List.getElem?_toArray, List.getElem?_cons_zero, List.getElem?_cons_succ]; exact rfl)
  case q111 => exact fun _ _ _ h => h
  case w111 => rfl
  case y111 =>
    intro w hSw
    (try dsimp only at hSw)
    obtain ⟨hS1, hS2⟩ := hSw
    go_simp
    try with_reducible rfl
  try simp only [Act.put, List.setIfInBounds_toArray, List.set_cons_zero, List.set_cons_succ]
  refine wpAnyH_take (i := 13) (oi := ?oi112) (v := ?vi112) ?h112 (by kernel_rfl) (by kernel_rfl) (by kernel_rfl) ?q112 (Or.inl ⟨?w112, ?y112⟩) hHeld ?r112
  case h112 => first | (simp only [List.getElem?_toArray, List.getElem?_cons_zero, List.getElem?_cons_succ]; done) | (simp only [List.getElem?_toArray, List.getElem?_cons_zero, List.getElem?_cons_succ]; exact rfl)
  case q112 => exact fun _ _ _ h => h
  case w112 => rfl
  case y112 =>
    intro w hSw
    (try dsimp only at hSw)
    obtain ⟨hS1, hS2⟩ := hSw
    go_simp
    try with_reducible rfl
  try simp only [Act.put, List.setIfInBounds_toArray, List.set_cons_zero, List.set_cons_succ]
  refine wpAnyH_take (i := 14) (oi := ?oi113) (v := ?vi113) ?h113 (by kernel_rfl) (by kernel_rfl) (by kernel_rfl) ?q113 (Or.inl ⟨?w113, ?y113⟩) hHeld ?r113
  case h113 => first | (simp only [List.getElem?_toArray, List.getElem?_cons_zero, List.getElem?_cons_succ]; done) | (simp only [List.getElem?_toArray, List.getElem?_cons_zero, List.getElem?_cons_succ]; exact rfl)
  case q113 => exact fun _ _ _ h => h
  case w113 => rfl
  case y113 =>
    intro w hSw
    (try dsimp only at hSw)
    obtain ⟨hS1, hS2⟩ := hSw
    go_simp
    try with_reducible rfl
  try simp only [Act.put, List.setIfInBounds_toArray, List.set_cons_zero, List.set_cons_succ]
  refine wpAnyH_take (i := 15) (oi := ?oi114) (v := ?vi114) ?h114 (by kernel_rfl) (by kernel_rfl) (by kernel_rfl) ?q114 (Or.inl ⟨?w114, ?y114⟩) hHeld ?r114
  case h114 => first | (simp only [List.getElem?_toArray, List.getElem?_cons_zero, List.getElem?_cons_succ]; done) | (simp only [List.getElem?_toArray, List.getElem?_cons_zero, List.getElem?_cons_succ]; exact rfl)
  case q114 => exact fun _ _ _ h => h
  case w114 => rfl
  case y114 =>
    intro w hSw
    (try dsimp only at hSw)
    obtain ⟨hS1, hS2⟩ := hSw
    go_simp
    try with_reducible rfl
  try simp only [Act.put, List.setIfInBounds_toArray, List.set_cons_zero, List.set_cons_succ]
  refine wpAnyH_take (i := 16) (oi := ?oi115) (v := ?vi115) ?h115 (by kernel_rfl) (by kernel_rfl) (by kernel_rfl) ?q115 (Or.inl ⟨?w115, ?y115⟩) hHeld ?r115
  case h115 => first | (simp only [List.getElem?_toArray, List.getElem?_cons_zero, List.getElem?_cons_succ]; done) | (simp only [List.getElem?_toArray, List.getElem?_cons_zero, List.getElem?_cons_succ]; exact rfl)
  case q115 => exact fun _ _ _ h => h
  case w115 => rfl
  case y115 =>
    intro w hSw
    (try dsimp only at hSw)
    obtain ⟨hS1, hS2⟩ := hSw
    go_simp
    try with_reducible rfl
  try simp only [Act.put, List.setIfInBounds_toArray, List.set_cons_zero, List.set_cons_succ]
  refine wpAnyH_take (i := 17) (oi := ?oi116) (v := ?vi116) ?h116 (by kernel_rfl) (by kernel_rfl) (by kernel_rfl) ?q116 (Or.inl ⟨?w116, ?y116⟩) hHeld ?r116
  case h116 => first | (simp only [List.getElem?_toArray, List.getElem?_cons_zero, List.getElem?_cons_succ]; done) | (simp only [List.getElem?_toArray, List.getElem?_cons_zero, List.getElem?_cons_succ]; exact rfl)
  case q116 => exact fun _ _ _ h => h
  case w116 => rfl
  case y116 =>
    intro w hSw
    (try dsimp only at hSw)
    obtain ⟨hS1, hS2⟩ := hSw
    go_simp
    try with_reducible rfl
  try simp only [Act.put, List.setIfInBounds_toArray, List.set_cons_zero, List.set_cons_succ]
  refine wpAnyH_take (i := 18) (oi := ?oi117) (v := ?vi117) ?h117 (by kernel_rfl) (by kernel_rfl) (by kernel_rfl) ?q117 (Or.inl ⟨?w117, ?y117⟩) hHeld ?r117
  case h117 => first | (simp only [List.getElem?_toArray, List.getElem?_cons_zero, List.getElem?_cons_succ]; done) | (simp only [List.getElem?_toArray, List.getElem?_cons_zero, List.getElem?_cons_succ]; exact rfl)
  case q117 => exact fun _ _ _ h => h
  case w117 => rfl
  case y117 =>
    intro w hSw
    (try dsimp only at hSw)
    obtain ⟨hS1, hS2⟩ := hSw
    go_simp
    try with_reducible rfl
  try simp only [Act.put, List.setIfInBounds_toArray, List.set_cons_zero, List.set_cons_succ]
  refine wpAnyH_take (i := 21) (oi := ?oi118) (v := ?vi118) ?h118 (by kernel_rfl) (by kernel_rfl) (by kernel_rfl) ?q118 (Or.inl ⟨?w118, ?y118⟩) hHeld ?r118
  case h118 => first | (simp only [List.getElem?_toArray, List.getElem?_cons_zero, List.getElem?_cons_succ]; done) | (simp only [List.getElem?_toArray, List.getElem?_cons_zero, List.getElem?_cons_succ]; exact rfl)
  case q118 => exact fun _ _ _ h => h
  case w118 => rfl
  case y118 =>
    intro w hSw
    (try dsimp only at hSw)
    obtain ⟨hS1, hS2⟩ := hSw
    go_simp
    try with_reducible rfl
  try simp only [Act.put, List.setIfInBounds_toArray, List.set_cons_zero, List.set_cons_succ]
  refine wpAnyH_take (i := 22) (oi := ?oi119) (v := ?vi119) ?h119 (by kernel_rfl) (by kernel_rfl) (by kernel_rfl) ?q119 (Or.inl ⟨?w119, ?y119⟩) hHeld ?r119
  case h119 => first | (simp only [List.getElem?_toArray, List.getElem?_cons_zero, List.getElem?_cons_succ]; done) | (simp only [List.getElem?_toArray, List.getElem?_cons_zero, List.getElem?_cons_succ]; exact rfl)
  case q119 => exact fun _ _ _ h => h
  case w119 => rfl
  case y119 =>
    intro w hSw
    (try dsimp only at hSw)
    obtain ⟨hS1, hS2⟩ := hSw
    go_simp
    try with_reducible rfl
  try simp only [Act.put, List.setIfInBounds_toArray, List.set_cons_zero, List.set_cons_succ]
  refine wpAnyH_take (i := 23) (oi := ?oi120) (v := ?vi120) ?h120 (by kernel_rfl) (by kernel_rfl) (by kernel_rfl) ?q120 (Or.inl ⟨?w120, ?y120⟩) hHeld ?r120
  case h120 => first | (simp only [List.getElem?_toArray, List.getElem?_cons_zero, List.getElem?_cons_succ]; done) | (simp only [List.getElem?_toArray, List.getElem?_cons_zero, List.getElem?_cons_succ]; exact rfl)
  case q120 => exact fun _ _ _ h => h
  case w120 => rfl
  case y120 =>
    intro w hSw
    (try dsimp only at hSw)
    obtain ⟨hS1, hS2⟩ := hSw
    go_simp
    try with_reducible rfl
  try simp only [Act.put, List.setIfInBounds_toArray, List.set_cons_zero, List.set_cons_succ]
  refine wpAnyH_take (i := 24) (oi := ?oi121) (v := ?vi121) ?h121 (by kernel_rfl) (by kernel_rfl) (by kernel_rfl) ?q121 (Or.inl ⟨?w121, ?y121⟩) hHeld ?r121
  case h121 => first | (simp only [List.getElem?_toArray, List.getElem?_cons_zero, List.getElem?_cons_succ]; done) | (simp only [List.getElem?_toArray, List.getElem?_cons_zero, List.getElem?_cons_succ]; exact rfl)
  case q121 => exact fun _ _ _ h => h
  case w121 => rfl
  case y121 =>
    intro w hSw
    (try dsimp only at hSw)
    obtain ⟨hS1, hS2⟩ := hSw
    go_simp
    try with_reducible rfl
  try simp only [Act.put, List.setIfInBounds_toArray, List.set_cons_zero, List.set_cons_succ]
  refine wpAnyH_take (i := 25) (oi := ?oi122) (v := ?vi122) ?h122 (by kernel_rfl) (by kernel_rfl) (by kernel_rfl) ?q122 (Or.inl ⟨?w122, ?y122⟩) hHeld ?r122
  case h122 => first | (simp only [List.getElem?_toArray, List.getElem?_cons_zero, List.getElem?_cons_succ]; done) | (simp only [List.getElem?_toArray, List.getElem?_cons_zero, List.getElem?_cons_succ]; exact rfl)
  case q122 => exact fun _ _ _ h => h
  case w122 => rfl
  case y122 =>
    intro w hSw
    (try dsimp only at hSw)
    obtain ⟨hS1, hS2⟩ := hSw
    go_simp
    try with_reducible rfl
  try simp only [Act.put, List.setIfInBounds_toArray, List.set_cons_zero, List.set_cons_succ]
  refine wpAnyH_ready (rs := [4]) (by kernel_rfl) (by simp) ?_
  refine AllReadyH.cons (o := ?ob123) ?hb123 (fun K hK => ?_) AllReadyH.nil
  case hb123 => first | (simp only [List.getElem?_toArray, List.getElem?_cons_zero, List.getElem?_cons_succ]; done) | (simp only [List.getElem?_toArray, List.getElem?_cons_zero, List.getElem?_cons_succ]; exact rfl)
  go_simp
  go_at_call 47
  refine HFL.out.mono ?_
  rintro e w1 ⟨u1, rfl, hN1⟩
  have hA1 : Hid (ApW q b g m rao rcap l w w1) := HA0.out.step hN1.fp.fpd
  have hw1 := write_c (w := w1) E2 u1 (pad bs) (by have := HB.out.1; have := HB.out.2; omega) hA1.out.c0 hN1.sl (fun k hk ho => by have h1 := hN1.block k hk; have h2 := HA0.out.lt k ho; exact absurd (show w.heap.size ≤ k from h1) (by omega)) HA0.out.hq (fun k hk => Nat.lt_of_lt_of_le (HA0.out.lt k hk) hN1.fp.size)
  have HW1 := Lib.hid hw1
  obtain ⟨uao, un, ucap, rfl⟩ := hN1.shape3
  clear hw1 hN1
  go_wp2_with fail
  refine hK.out _ _ ⟨hA1.out.c0, hA1.out.c2⟩ (fun hHeld => ?_)
  clear hK K
  try simp only [Act.put, List.setIfInBounds_toArray, List.set_cons_zero, List.set_cons_succ]
  refine wpAnyH_ready (rs := [5]) (by kernel_rfl) (by simp) ?_
  refine AllReadyH.cons (o := ?ob124) ?hb124 (fun K hK => ?_) AllReadyH.nil
  case hb124 => first | (simp only [List.getElem?_toArray, List.getElem?_cons_zero, List.getElem?_cons_succ]; done) | (simp only [List.getElem?_toArray, List.getElem?_cons_zero, List.getElem?_cons_succ]; exact rfl)
  go_simp
  go_at_call 35
  refine HW1.out.mono ?_
  rintro e w2 ⟨v1, rfl, hf2, hst1⟩
  have hA2 : Hid (ApW q b g m rao rcap l w w2) := hA1.out.step hf2
  obtain ⟨k1, fi1, cp1, rfl, _, _⟩ := hst1.ex
  have hh2 := HBS.out.hd HX.out.1 l.rs.length w2 HX.out.2 (hA2.out.fp.any)
  have HH2 := Lib.hid hh2
  have HS1 := Lib.hid hst1
  clear hf2 hst1 hh2
  go_wp2_with fail
  refine hK.out _ _ ⟨hA2.out.c0, hA2.out.c2⟩ (fun hHeld => ?_)
  clear hK K
  try simp only [Act.put, List.setIfInBounds_toArray, List.set_cons_zero, List.set_cons_succ]
  refine wpAnyH_ready (rs := [19]) (by kernel_rfl) (by simp) ?_
  refine AllReadyH.cons (o := ?ob125) ?hb125 (fun K hK => ?_) AllReadyH.nil
  case hb125 => first | (simp only [List.getElem?_toArray, List.getElem?_cons_zero, List.getElem?_cons_succ]; done) | (simp only [List.getElem?_toArray, List.getElem?_cons_zero, List.getElem?_cons_succ]; exact rfl)
  go_simp
  go_at_call 48
  refine HH2.out.mono ?_
  rintro e w3 ⟨u3, rfl, hN3⟩
  have hA3 : Hid (ApW q b g m rao rcap l w w3) := hA2.out.step hN3.fp
  have hw3 := write_c (w := w3) E u3 (hdr l.rs.length bs) (by have := HB.out.1; omega) hA3.out.c0 hN3.sl (fun k hk ho => by have := hN3.block k hk; have := HA0.out.lt k ho; have := hA2.out.fp.size; omega) HA0.out.hq (fun k hk => Nat.lt_of_lt_of_le (HA0.out.lt k hk) hA3.out.fp.size)
  have HW3 := Lib.hid hw3
  have HS2 := Lib.hid (HS1.out.later hN3.fp)
  obtain ⟨xao, xn, xcap, rfl⟩ := hN3.shape3
  clear hw3 hN3
  go_wp2_with fail
  refine hK.out _ _ ⟨hA3.out.c0, hA3.out.c2⟩ (fun hHeld => ?_)
  clear hK K
  try simp only [Act.put, List.setIfInBounds_toArray, List.set_cons_zero, List.set_cons_succ]
  refine wpAnyH_ready (rs := [20]) (by kernel_rfl) (by simp) ?_
  refine AllReadyH.cons (o := ?ob126) ?hb126 (fun K hK => ?_) AllReadyH.nil
  case hb126 => first | (simp only [List.getElem?_toArray, List.getElem?_cons_zero, List.getElem?_cons_succ]; done) | (simp only [List.getElem?_toArray, List.getElem?_cons_zero, List.getElem?_cons_succ]; exact rfl)
  go_simp
  go_at_call 35
  refine HW3.out.mono ?_
  rintro e w4 ⟨v3, rfl, hf4, hst3⟩
  have hA4 : Hid (ApW q b g m rao rcap l w w4) := hA3.out.step hf4
  obtain ⟨k3, fi3, cp3, rfl, _, _⟩ := hst3.ex
  have HS3 := Lib.hid (HS2.out.later hf4)
  have HS4 := Lib.hid hst3
  clear hf4 hst3
  go_wp2_with fail
  refine hK.out _ _ ⟨hA4.out.c0, hA4.out.c2⟩ (fun hHeld => ?_)
  clear hK K
  try simp only [Act.put, List.setIfInBounds_toArray, List.set_cons_zero, List.set_cons_succ]
  refine wpAnyH_ready (rs := [26]) (by kernel_rfl) (by simp) ?_
  refine AllReadyH.cons (o := ?ob127) ?hb127 (fun K hK => ?_) AllReadyH.nil
  case hb127 => first | (simp only [List.getElem?_toArray, List.getElem?_cons_zero, List.getElem?_cons_succ]; done) | (simp only [List.getElem?_toArray, List.getElem?_cons_zero, List.getElem?_cons_succ]; exact rfl)
  go_simp
  have hf5 : Fp Non w4 (w4.alloc (.cells #[.func (.func k1) fi1 cp1, .func (.func 37) #[.pointer (some ⟨b, 0, none⟩)] #[], .func (.func k3) fi3 cp3, .func (.func 37) #[.pointer (some ⟨b, 0, none⟩)] #[]] 73)) := (Fp.refl Non w4).alloc _
  have hA5 := hA4.out.step hf5
  have hp5 := four_c (hA5.d HD0.out) _ _ _ _ w4.heap.size _ _ _ _ (heap_alloc_new w4 _) (fun ho => by have := HA0.out.lt _ ho; have := hA4.out.fp.size; omega) HAC.out (HS3.out.later hf5) (sync_step b g m _) (HS4.out.later hf5) (sync_step b g m _)
  have HP5 := Lib.hid hp5
  have HA5 := Lib.hid hA5
  clear hf5 hA5 hp5
  refine hK.out _ _ ⟨HA5.out.c0, HA5.out.c2⟩ (fun hHeld => ?_)
  clear hK K
  try simp only [Act.put, List.setIfInBounds_toArray, List.set_cons_zero, List.set_cons_succ]
  refine wpAnyH_ready (rs := [27]) (by kernel_rfl) (by simp) ?_
  refine AllReadyH.cons (o := ?ob128) ?hb128 (fun K hK => ?_) AllReadyH.nil
  case hb128 => first | (simp only [List.getElem?_toArray, List.getElem?_cons_zero, List.getElem?_cons_succ]; done) | (simp only [List.getElem?_toArray, List.getElem?_cons_zero, List.getElem?_cons_succ]; exact rfl)
  go_simp
  go_at_call 34
  refine HP5.out.mono ?_
  rintro e w6 ⟨rfl, hd6, hf6⟩
  have HD6 := Lib.hid (And.intro hd6 (HA5.out.after hf6))
  clear hd6 hf6
  go_wp2_with fail
  refine hK.out _ _ ⟨HD6.out.2.c0, HD6.out.2.c2⟩ (fun hHeld => ?_)
  clear hK K
  try simp only [Act.put, List.setIfInBounds_toArray, List.set_cons_zero, List.set_cons_succ]
  refine wpAnyH_take (i := 28) (oi := ?oi129) (v := ?vi129) ?h129 (by kernel_rfl) (by kernel_rfl) (by kernel_rfl) ?q129 (Or.inl ⟨?w129, ?y129⟩) hHeld ?r129
  case h129 => first | (simp only [List.getElem?_toArray, List.getElem?_cons_zero, List.getElem?_cons_succ]; done) | (simp only [List.getElem?_toArray, List.getElem?_cons_zero, List.getElem?_cons_succ]; exact rfl)
  case q129 => exact fun _ _ _ h => h
  case w129 => rfl
  case y129 =>
    intro w hSw
    (try dsimp only at hSw)
    obtain ⟨hS1, hS2⟩ := hSw
    go_simp
    try with_reducible rfl
  try simp only [Act.put, List.setIfInBounds_toArray, List.set_cons_zero, List.set_cons_succ]
  refine wpAnyH_done (by kernel_rfl) ?_ _
  have hseq : seqF [wr E2 (pad bs), dSync, wr E (hdr l.rs.length bs), dSync] s = r := by rw [HR.out, HB.out.2]; rfl
  rw [hseq] at HD6 ⊢
  by_cases h0 : r.1 = 0
  · have hpush : Hid (∀ v' w7, AppS lo w6.drew (.slice rao l.rs.length rcap) (l.rs ++ [bs]) v' w7 → w7.heap[q]? = some (.cells #[.pointer (some ⟨b, 0, none⟩), .int .i64 (l.ar : Int), .slice rao l.rs.length rcap] TL (0, 0)) ∧ LgR lo b g m q r.2 ⟨l.ar, l.rs ++ [bs]⟩ v w (w7.setCell ⟨q, 2, none⟩ v')) := fun v' w7 hR => by
      have hvv := HY.out.2.2.2.2.2.2.2.2.2.1
      rw [← hvv] at hR ⊢
      exact push_log hl0.out HD6.out.2.fp HD6.out.1 HY.out.2.2.2.2.2.1 hR
    have hos : Os lo w6.drew (.slice rao l.rs.length rcap) l.rs := by
      have hvv := HY.out.2.2.2.2.2.2.2.2.2.1
      rw [← hvv]
      exact (hl0.out.keep HD6.out.2.fp (fun k hk ho => HY.out.2.2.2.2.2.1 k ho hk)).os.keep (Fp.drew (Fp.refl Non w6)) (fun _ _ h => h)
    have k1 : (convert 22 9 (.slice bao bs.length bcap)).run Tryz.prog w6.drew = .ok (.string (B bs)) w6.drew :=
      HBS.out.cv _ HD6.out.2.fp.drew
    have hap := app_str w6.drew lo _ l.rs bs 64 hos (by have := HX.out.2; omega) (by have h1 := hl0.out.low; have h2 := hl0.out.lt; have h3 := HD6.out.2.fp.size; show lo ≤ w6.heap.size; omega)
    unfold strV at hap
    have HAP := Lib.hid hap
    have c2 := HD6.out.2.c2
    have c2b : (w6.alloc (.cells #[.string (B bs)] 9)).cell? ⟨q, 2, none⟩ = some (.slice rao l.rs.length rcap) := ((Fp.refl Non w6).alloc _).cell c2 (fun h => h)
    have hll : l.rs.length ≤ 65535 := HX.out.2
    have HH0 := Lib.hid h0
    rw [h0]
    clear hos hap h0 hseq
    go_wp2_with fail
    go_region_law (first
      | (refine step_app rfl _ _ _ _ rfl _ _ rfl rfl _ HAP.out ?_
         intro v' w7 hR
         have hp := hpush.out _ _ hR
         have d7 : w7.cell? ⟨q, 2, none⟩ = some (.slice rao l.rs.length rcap) := by simp [World.cell?, hp.1]
         have f7 : w7.frozen? ⟨q, 2, none⟩ = false := by simp [World.frozen?, hp.1]
         obtain ⟨ao7, cap7, rfl⟩ := hR.os.shape
         have HFIN := Lib.hid hp.2
         clear hR hp))
    all_goals go_wp2
    all_goals go_ret
    all_goals exact ⟨by rw [HH0.out]; rfl, fun h => absurd HH0.out h, fun _ => by have h := HFIN.out; rw [List.length_append] at h; exact h⟩
  · have hfin : Hid (LgR lo b g m q r.2 l v w w6) := ⟨HD6.out.1, ⟨v, hl0.out.keep HD6.out.2.fp (fun k hk ho => HY.out.2.2.2.2.2.1 k ho hk), .inl rfl⟩, HD6.out.2.fp.mono (fun k hk => .inl hk)⟩
    have HH0 := Lib.hid h0
    have q6 : (r.1 = 0) = False := eq_false h0
    have q7 : (r.1 == 0) = false := beq_eq_false_iff_ne.2 h0
    clear hseq h0
    go_wp2
    go_ret
    exact ⟨rfl, fun _ => hfin.out, fun h => absurd h HH0.out⟩

theorem Append_c {lo q b g m : Nat} {l : Lg} {v : Value} {s : Dk} {w : World} (hd : Dr lo b g m s w) (hl : Lr lo q b l v w) (hk : Lk s l) (hap : apart b g m q v) (bv : Value) (bs : Bs) (hb : Src b g m w bv bs) (ha : s.acts ≤ 990000) :
    Calls Tryz.prog 15 #[.pointer (some ⟨q, 0, none⟩), bv] w fun e w' => e = .returned (.int .i64 (lAppend s l bs).1) ∧ LgR lo b g m q (lAppend s l bs).2.2 (lAppend s l bs).2.1 v w w' := by
  by_cases hbig : 16384 < bs.length
  · exact Append_bad hd hl hk bv bs hb (.inl hbig)
  · by_cases hful : hf s.cur < usd l.rs + ln bs.length
    · exact Append_bad hd hl hk bv bs hb (.inr hful)
    · refine (Append_good hd hl hk hap bv bs hb ha hbig hful _ rfl).mono ?_
      rintro e w' ⟨rfl, h1, h2⟩
      unfold lAppend
      rw [if_neg hbig, if_neg hful]
      refine ⟨rfl, ?_⟩
      split
      · rename_i h; exact h2 h
      · rename_i h; exact h1 h
end Go.Proofs.YtankfmlafmjaeaaGreat
