/- The document's Start. -/
import Derived.Test.YtankfmlafmjaeaaGreatVf
namespace Go.Proofs.YtankfmlafmjaeaaGreat
open Go.RowKit Pm
set_option maxRecDepth 20000

theorem seq_app (L M : List (Dk → Int × Dk)) (s : Dk) : seqF (L ++ M) s = if (seqF L s).1 = 0 then seqF M (seqF L s).2 else seqF L s := by
  induction L generalizing s with
  | nil => rfl
  | cons f L ih =>
    rw [List.cons_append]
    by_cases h : (f s).1 = 0
    · rw [seq_good h, seq_good h, ih]
    · rw [seq_bad h, seq_bad h, if_neg h]
theorem ap_acts (a i : Nat) (b : Bs) (s : Dk) : (seqF (apSteps a i b) s).2.acts ≤ s.acts + 4 := by
  have one : ∀ (L : List (Dk → Int × Dk)), (∀ f ∈ L, ∀ s, (f s).2.acts ≤ s.acts + 1) → ∀ s, (seqF L s).2.acts ≤ s.acts + L.length := by
    intro L
    induction L with
    | nil => intro _ s; exact Nat.le_refl _
    | cons f L ih =>
      intro hL s
      have h1 := hL f (List.mem_cons_self ..) s
      have h2 := ih (fun g hg => hL g (List.mem_cons_of_mem _ hg)) (f s).2
      by_cases h : (f s).1 = 0
      · rw [seq_good h, List.length_cons]; omega
      · rw [seq_bad h, List.length_cons]; omega
  refine one (apSteps a i b) (fun f hf s => ?_) s
  simp only [apSteps, List.mem_cons, List.not_mem_nil, or_false] at hf
  rcases hf with rfl | rfl | rfl | rfl
  · exact wr_acts _ _ _
  · exact acts_sync _
  · exact wr_acts _ _ _
  · exact acts_sync _
theorem st_steps (c : Bs) (o : Nat) (b : Bs) : stSteps c o b = wr (st c o) (zr (hf c)) :: (apSteps (st c o) 0 b ++ [wr 0 (sgn o), dSync]) := rfl

/-- Another area, one record alone. -/
theorem Du.fresh {lo q : Nat} {p : At} {v : Value} {D : Nat → Prop} {s s' : Dk} {l : Lg} {w w4 : World} (h : Du lo q p v D s l w) (hS : RfS lo p s' w w4) (o : Nat) {w7 : World} {x7 : Value} {b : Bs} (hN : Nw (w4.setCell ⟨q, 1, none⟩ (.int .i64 (o : Int))) w7 x7 b) :
    (w7.alloc (.cells #[x7] 22)).cell? ⟨q, 2, none⟩ = some v ∧ (w7.alloc (.cells #[x7] 22)).frozen? ⟨q, 2, none⟩ = false ∧
      DuR lo q p v D s' ⟨o, [b]⟩ w ((w7.alloc (.cells #[x7] 22)).setCell ⟨q, 2, none⟩ (.slice (some ⟨w7.heap.size, 0, none⟩) 1 1)) := by
  obtain ⟨p', hd, hb, hp⟩ := hS.ex
  obtain ⟨h4, h4n⟩ := h.disk hd hS.fp hb hp
  have f5 : Fp (fun k => k = q) w4 (w4.setCell ⟨q, 1, none⟩ (.int .i64 (o : Int))) := fp_cell w4 q 1 _
  have hb5 := heap_setCell_same w4 q 1 _ TLR (.int .i64 (o : Int)) h4.blk
  have f7 := hN.fp
  have f8 : Fp Non w7 (w7.alloc (.cells #[x7] 22)) := (Fp.refl Non w7).alloc _
  have hb8 := f8.heap (f7.heap hb5 (fun h => h)) (fun h => h)
  have f9 : Fp (fun k => k = q) (w7.alloc (.cells #[x7] 22)) ((w7.alloc (.cells #[x7] 22)).setCell ⟨q, 2, none⟩ (.slice (some ⟨w7.heap.size, 0, none⟩) 1 1)) := fp_cell _ q 2 _
  have hql : q < w4.heap.size := h4.lt
  have e5 : w4.heap.size ≤ w7.heap.size := Nat.le_trans f5.size f7.size
  have e45 : w4.heap.size = (w4.setCell ⟨q, 1, none⟩ (.int .i64 (o : Int))).heap.size := by simp [World.setCell]
  have e4 := hS.fp.size
  have hwl := h.lt
  have hdl : ∀ k, own4 p' k → k < w4.heap.size := fun k hk => (hd.all k hk).2
  have hlo := h.low
  have hrow := World.ownsRow_lit (base := lo) (e := 22) (size := 1) w7 #[x7] 1 (by omega) (by unfold maxLen; omega) rfl
  have hsx : Sl ((w7.alloc (.cells #[x7] 22)).setCell ⟨q, 2, none⟩ (.slice (some ⟨w7.heap.size, 0, none⟩) 1 1)) x7 b := (hN.sl.keep f8 (fun _ _ h => h)).keep f9 (fun k hk e => by have := hN.block k hk; omega)
  have s8 : w7.heap.size < (w7.alloc (.cells #[x7] 22)).heap.size := by simp
  have s9 := f9.size
  refine ⟨by simp [World.cell?, hb8], by simp [World.frozen?, hb8], ⟨p', .slice (some ⟨w7.heap.size, 0, none⟩) 1 1, fun k => w4.heap.size ≤ k ∧ k < w7.heap.size, ⟨?_, h.low, ?_, ?_, fun k hk => ⟨by omega, by omega, by omega, fun ho => by have := hdl k ho; omega⟩, fun k hk => ?_, h4.qn⟩, hb, fun k hk => ?_⟩, ?_⟩
  · exact (((h4.d.keep f5 (fun k hk e => h4.qn (e ▸ hk))).keep f7 (fun _ _ h => h)).keep f8 (fun _ _ h => h)).keep f9 (fun k hk e => h4.qn (e ▸ hk))
  · rw [heap_setCell_same _ q 2 _ TLR _ hb8]; rfl
  · refine ⟨[x7], f9.owns hrow (fun k hk e => by simp [Value.ownBlock] at hk; omega), rfl, fun k hk => ?_⟩
    have hk0 : k = 0 := by simp at hk; exact hk
    subst hk0
    exact ⟨x7, rfl, hsx.se, fun _ j hj => ⟨⟨by have := hN.block j hj; omega, hN.sl.below j hj⟩, fun e => by have := hN.sl.below j hj; simp [Value.ownBlock] at e; omega⟩⟩
  · simp [Value.ownBlock] at hk
    exact ⟨by omega, fun ho => by have := hdl k ho; omega⟩
  · rcases hk with hk | hk | hk | hk
    · exact (hp k hk).elim (fun h1 => .inl (.inl h1)) .inr
    · exact .inl (.inr (.inl hk))
    · simp [Value.ownBlock] at hk
      exact .inr (by omega)
    · exact .inr (by omega)
  · have g1 : Fp (ownD q p v D) w w4 := hS.fp.mono (fun k hk => .inl hk)
    have g2 : Fp (ownD q p v D) w4 (w4.setCell ⟨q, 1, none⟩ (.int .i64 (o : Int))) := f5.mono (fun k hk => .inr (.inl hk))
    exact (((g1.same g2).then f7).then f8).same (f9.mono (fun k hk => .inr (.inl hk)))

theorem rStart_big {lo q : Nat} {p : At} {v : Value} {D : Nat → Prop} {s : Dk} {l : Lg} {w : World} (h : Du lo q p v D s l w) (bv : Value) (b : Bs) (hb : Se w bv b) (hbig : 16384 < b.length) :
    Calls Tryz.prog 18 #[.pointer (some ⟨q, 0, none⟩), bv] w fun e w' => e = .returned (.int .i64 1) ∧ DuR lo q p v D s l w w' := by
  obtain ⟨ao, cap, hv⟩ := hb.shape
  have r1 : ((16384 : Int) < (b.length : Int)) = True := eq_true (by omega)
  have HD := Lib.hid (h.same (Fp.refl Non w))
  rw [hv]
  clear h hb hv hbig
  go_enter Tryz.func18, Tryz.ntmps18
  go_wp2
  go_ret
  exact ⟨rfl, HD.out⟩

set_option maxHeartbeats 1000000 in
theorem rStart_full {lo q : Nat} {p : At} {v : Value} {D : Nat → Prop} {s : Dk} {l : Lg} {w : World} (h : Du lo q p v D s l w) (bv : Value) (b : Bs) (hb : Se w bv b) (hbig : ¬ 16384 < b.length) (hful : hf s.cur < ln b.length) :
    Calls Tryz.prog 18 #[.pointer (some ⟨q, 0, none⟩), bv] w fun e w' => e = .returned (.int .i64 51) ∧ DuR lo q p v D s l w w' := by
  obtain ⟨ao, cap, hv⟩ := hb.shape
  have hle := hs_le s.cur (by have := h.d.rt.curlen; omega)
  have hh : ∀ n, Calls Tryz.prog 40 #[.pointer (some ⟨p.b, 0, none⟩)] (w.drewN n) fun e w' => e = .returned (.int .i64 (hs s.cur : Int)) ∧ w' = w.drewN n := fun n => half_c (h.d.keep ((Fp.refl Non w).drewN n) (fun _ _ h => h))
  have c0 := h.c0
  have c1 := h.c1
  have hnd : ∀ w, Calls Tryz.prog 49 #[.int .i64 (b.length : Int)] w fun e w' => e = .returned (.int .i64 (nd b.length : Int)) ∧ w' = w := fun w => Need_c b.length (by omega) w
  have r1 : ((16384 : Int) < (b.length : Int)) = False := eq_false (by omega)
  have r2 : ((hs s.cur : Int) < (nd b.length : Int)) = True := eq_true (by have := (tests (s := s) (l := l) (b := b)).2.1 hful; omega)
  have r3 : (hs s.cur < nd b.length) = True := eq_true ((tests (s := s) (l := l) (b := b)).2.1 hful)
  generalize hs s.cur = H at *
  generalize nd b.length = N at *
  have HD := Lib.hid (fun w' (f : Fp Non w w') => h.same f)
  have HH := Lib.hid hh
  have HN := Lib.hid hnd
  rw [hv]
  clear h hb hv hbig hful hle hh hnd
  go_enter Tryz.func18, Tryz.ntmps18
  go_wp2_with fail
  go_quiet (first
    | (go_at_call 49; refine (HN.out _).mono ?_; rintro e w' ⟨rfl, rfl⟩; exact ⟨rfl, _, rfl⟩)
    | (go_at_call 40; refine (HH.out _).mono ?_; rintro e w' ⟨rfl, rfl⟩; exact ⟨rfl, _, rfl⟩))
  go_wp2
  go_ret
  exact ⟨rfl, HD.out _ ((Fp.refl Non w).drewN _)⟩

set_option maxHeartbeats 4000000 in
theorem rStart_good {lo q : Nat} {p : At} {v : Value} {D : Nat → Prop} {s : Dk} {l : Lg} {w : World} (h : Du lo q p v D s l w) (hk : Lk s l) (bv : Value) (b : Bs) (hb : Se w bv b) (hn : 0 < b.length → ∀ k, bv.ownBlock = some k → ¬ own4 p k) (hbw : 0 < b.length → ∀ k, bv.ownBlock = some k → ¬ w.heap.size ≤ k) (hbq : 0 < b.length → ∀ k, bv.ownBlock = some k → k ≠ q) (hac : s.acts ≤ 900000) (hbig : ¬ 16384 < b.length) (hful : ¬ hf s.cur < ln b.length) (o : Nat) (ho : o = 1 - l.ar) (T : Int × Dk) (hT : T = seqF (stSteps s.cur o b) s) :
    Calls Tryz.prog 18 #[.pointer (some ⟨q, 0, none⟩), bv] w fun e w' => e = .returned (.int .i64 T.1) ∧ (T.1 ≠ 0 → DuR lo q p v D T.2 l w w') ∧ (T.1 = 0 → DuR lo q p v D T.2 ⟨o, [b]⟩ w w') := by
  obtain ⟨ao, cap, hv⟩ := hb.shape
  have hle := hs_le s.cur (by have := h.d.rt.curlen; omega)
  have hh : ∀ n, Calls Tryz.prog 40 #[.pointer (some ⟨p.b, 0, none⟩)] (w.drewN n) fun e w' => e = .returned (.int .i64 (hs s.cur : Int)) ∧ w' = w.drewN n := fun n => half_c (h.d.keep ((Fp.refl Non w).drewN n) (fun _ _ h => h))
  have c0 := h.c0
  have c1 := h.c1
  have hnd : ∀ w, Calls Tryz.prog 49 #[.int .i64 (b.length : Int)] w fun e w' => e = .returned (.int .i64 (nd b.length : Int)) ∧ w' = w := fun w => Need_c b.length (by omega) w
  have r1 : ((16384 : Int) < (b.length : Int)) = False := eq_false (by omega)
  obtain ⟨vao, vcap, hvv⟩ := h.bo.shape
  subst hvv
  have har := hk.ar
  have hbg0 := hk.big
  have hst := st_le s.cur o (by omega) hk.big
  have hcl := h.d.rt.curlen
  have r2 : ((hs s.cur : Int) < (nd b.length : Int)) = False := eq_false (fun hc => hful ((tests (s := s) (l := l) (b := b)).2.2 (by omega)))
  have r3 : (hs s.cur < nd b.length) = False := eq_false (fun hc => hful ((tests (s := s) (l := l) (b := b)).2.2 hc))
  have qo : (1 : Int) - (l.ar : Int) = (o : Int) := by omega
  have hbeg : ∀ n, Calls Tryz.prog 39 #[.pointer (some ⟨p.b, 0, none⟩), .int .i64 (o : Int)] (w.drewN n) fun e w' => e = .returned (.int .i64 (st s.cur o : Int)) ∧ w' = w.drewN n := fun n => begin_c (h.d.keep ((Fp.refl Non w).drewN n) (fun _ _ h => h)) o (by omega)
  rw [st_steps] at hT
  have hhf := hf_hs s.cur
  obtain ⟨ST, hST⟩ : ∃ ST, ST = st s.cur o := ⟨_, rfl⟩
  obtain ⟨H, hH⟩ : ∃ H, H = hs s.cur := ⟨_, rfl⟩
  rw [← hST] at hT hbeg
  rw [← hH] at r2 r3 hh hle
  have hSTb : ST ≤ 900000 := by omega
  have hH1 : 1 ≤ H := by omega
  have HW := Lib.hid (And.intro h hk)
  have HB := Lib.hid (And.intro hb (And.intro hn (And.intro hv (And.intro (Nat.not_lt.1 hbig) hac))))
  have HV := Lib.hid (And.intro hH hST)
  have HQ0 := Lib.hid hT
  have HWH := Lib.hid (show IntKind.i64.wrap ((H : Int) * 16) = (H : Int) * 16 by rw [IntKind.wrap_i64]; omega)
  have HO := Lib.hid (And.intro ho har)
  have HZR := Lib.hid (show zr (hf s.cur) = List.replicate (H * 16) 0 by rw [hf_hs, ← hH]; rfl)
  have HBL := Lib.hid hbw
  have HBQ := Lib.hid hbq
  have HBE := Lib.hid hbeg
  have HR0 := Lib.hid (RfS.refl h.d)
  have HA0 := Lib.hid (show s.acts ≤ s.acts + 0 from Nat.le_refl _)
  generalize nd b.length = N at *
  have HH := Lib.hid hh
  have HN := Lib.hid hnd
  rw [hv]
  clear h hk hb hn hv hbw hbq hbig hful hh hnd hac hst hcl hST hH hT hhf hbeg ho hbg0
  have har1 : l.ar ≤ 1 := by omega
  clear har
  go_enter Tryz.func18, Tryz.ntmps18
  go_wp2_with fail
  go_quiet (first
    | (go_at_call 49; refine (HN.out _).mono ?_; rintro e w' ⟨rfl, rfl⟩; exact ⟨rfl, _, rfl⟩)
    | (go_at_call 40; refine (HH.out _).mono ?_; rintro e w' ⟨rfl, rfl⟩; exact ⟨rfl, _, rfl⟩))
  go_wp2_with fail
  refine (HBE.out _).mono ?_
  rintro e w' ⟨rfl, hw'⟩
  obtain rfl := hw'.symm
  clear hw'
  go_wp2_with fail
  have W0 : Fp Non w (w.drewN (nq + 1)) := (Fp.refl Non w).drewN (nq + 1)
  have kc : (w.drewN (nq + 1)).cell? ⟨q, 0, none⟩ = some (.pointer (some ⟨p.b, 0, none⟩)) := W0.cell c0 (fun h => h)
  have hha := half_c (HW.out.1.d.keep W0 (fun _ _ h => h))
  rw [← HV.out.1] at hha
  have hmk := make_bytes (w.drewN (nq + 1)) (H * 16) (by omega)
  rw [show ((H * 16 : Nat) : Int) = (H : Int) * 16 by omega] at hmk
  have hNm := Nw.of_row (w := (w.drewN (nq + 1))) (Rw.made (w.drewN (nq + 1)) 5 (List.replicate (H * 16) 0)) (Nat.le_refl _) (by rw [List.length_replicate]; unfold maxLen; omega) ((Fp.refl Non _).alloc _)
  rw [List.length_replicate] at hNm
  obtain ⟨x1, s1, hr⟩ : ∃ x y, (x, y) = wr ST (List.replicate (H * 16) 0) s := ⟨_, _, rfl⟩
  have hw := rwrite_s ((HW.out.1.d.keep W0 (fun _ _ h => h)).keep hNm.fp (fun _ _ h => h)) ST (by omega) _ _ hNm.sl (fun k hk ho => by have h1 := hNm.block k hk; have h2 := (HW.out.1.d.all k ho).2; have h3 := W0.size; omega) (by rw [List.length_replicate]; omega) (by have := HB.out.2.2.2.2; omega)
  rw [← hr] at hw
  have HX1 := Lib.hid hr
  have HHA := Lib.hid hha
  have HWR := Lib.hid hw
  have HNM := Lib.hid hNm
  have HW0 := Lib.hid W0
  clear hha hw hNm hr W0
  refine wp_region_held_drew (S := (fun w' => w'.cell? ⟨q, 0, none⟩ = some (.pointer (some ⟨p.b, 0, none⟩)))) (by kernel_rfl) ?_ (fun hHeld => ?_)
  · exact kc
  refine wpAnyH_take (i := 0) (oi := ?oi131) (v := ?vi131) ?h131 (by kernel_rfl) (by kernel_rfl) (by kernel_rfl) ?q131 (Or.inl ⟨?w131, ?y131⟩) hHeld ?r131
  case h131 => first | (simp only [List.getElem?_toArray, List.getElem?_cons_zero]; done) | (simp only [List.getElem?_toArray, List.getElem?_cons_zero]; exact rfl)
  case q131 => exact fun _ _ _ h => h
  case w131 => rfl
  case y131 =>
    intro w hSw
    (try dsimp only at hSw)
    skip
    go_simp
    try with_reducible rfl
  try simp only [Act.put, List.setIfInBounds_toArray, List.set_cons_zero, List.set_cons_succ]
  refine wpAnyH_take (i := 1) (oi := ?oi132) (v := ?vi132) ?h132 (by kernel_rfl) (by kernel_rfl) (by kernel_rfl) ?q132 (Or.inl ⟨?w132, ?y132⟩) hHeld ?r132
  case h132 => first | (simp only [List.getElem?_toArray, List.getElem?_cons_zero, List.getElem?_cons_succ]; done) | (simp only [List.getElem?_toArray, List.getElem?_cons_zero, List.getElem?_cons_succ]; exact rfl)
  case q132 => exact fun _ _ _ h => h
  case w132 => rfl
  case y132 =>
    intro w hSw
    (try dsimp only at hSw)
    skip
    go_simp
    try with_reducible rfl
  try simp only [Act.put, List.setIfInBounds_toArray, List.set_cons_zero, List.set_cons_succ]
  refine wpAnyH_take (i := 2) (oi := ?oi133) (v := ?vi133) ?h133 (by kernel_rfl) (by kernel_rfl) (by kernel_rfl) ?q133 (Or.inl ⟨?w133, ?y133⟩) hHeld ?r133
  case h133 => first | (simp only [List.getElem?_toArray, List.getElem?_cons_zero, List.getElem?_cons_succ]; done) | (simp only [List.getElem?_toArray, List.getElem?_cons_zero, List.getElem?_cons_succ]; exact rfl)
  case q133 => exact fun _ _ _ h => h
  case w133 => rfl
  case y133 =>
    intro w hSw
    (try dsimp only at hSw)
    skip
    go_simp
    try with_reducible rfl
  try simp only [Act.put, List.setIfInBounds_toArray, List.set_cons_zero, List.set_cons_succ]
  refine wpAnyH_take (i := 3) (oi := ?oi134) (v := ?vi134) ?h134 (by kernel_rfl) (by kernel_rfl) (by kernel_rfl) ?q134 (Or.inl ⟨?w134, ?y134⟩) hHeld ?r134
  case h134 => first | (simp only [List.getElem?_toArray, List.getElem?_cons_zero, List.getElem?_cons_succ]; done) | (simp only [List.getElem?_toArray, List.getElem?_cons_zero, List.getElem?_cons_succ]; exact rfl)
  case q134 => exact fun _ _ _ h => h
  case w134 => rfl
  case y134 =>
    intro w hSw
    (try dsimp only at hSw)
    skip
    go_simp
    try with_reducible rfl
  try simp only [Act.put, List.setIfInBounds_toArray, List.set_cons_zero, List.set_cons_succ]
  refine wpAnyH_take (i := 4) (oi := ?oi135) (v := ?vi135) ?h135 (by kernel_rfl) (by kernel_rfl) (by kernel_rfl) ?q135 (Or.inl ⟨?w135, ?y135⟩) hHeld ?r135
  case h135 => first | (simp only [List.getElem?_toArray, List.getElem?_cons_zero, List.getElem?_cons_succ]; done) | (simp only [List.getElem?_toArray, List.getElem?_cons_zero, List.getElem?_cons_succ]; exact rfl)
  case q135 => exact fun _ _ _ h => h
  case w135 => rfl
  case y135 =>
    intro w hSw
    (try dsimp only at hSw)
    skip
    go_simp
    try with_reducible rfl
  try simp only [Act.put, List.setIfInBounds_toArray, List.set_cons_zero, List.set_cons_succ]
  refine wpAnyH_take (i := 5) (oi := ?oi136) (v := ?vi136) ?h136 (by kernel_rfl) (by kernel_rfl) (by kernel_rfl) ?q136 (Or.inl ⟨?w136, ?y136⟩) hHeld ?r136
  case h136 => first | (simp only [List.getElem?_toArray, List.getElem?_cons_zero, List.getElem?_cons_succ]; done) | (simp only [List.getElem?_toArray, List.getElem?_cons_zero, List.getElem?_cons_succ]; exact rfl)
  case q136 => exact fun _ _ _ h => h
  case w136 => rfl
  case y136 =>
    intro w hSw
    (try dsimp only at hSw)
    skip
    go_simp
    try with_reducible rfl
  try simp only [Act.put, List.setIfInBounds_toArray, List.set_cons_zero, List.set_cons_succ]
  refine wpAnyH_take (i := 6) (oi := ?oi137) (v := ?vi137) ?h137 (by kernel_rfl) (by kernel_rfl) (by kernel_rfl) ?q137 (Or.inl ⟨?w137, ?y137⟩) hHeld ?r137
  case h137 => first | (simp only [List.getElem?_toArray, List.getElem?_cons_zero, List.getElem?_cons_succ]; done) | (simp only [List.getElem?_toArray, List.getElem?_cons_zero, List.getElem?_cons_succ]; exact rfl)
  case q137 => exact fun _ _ _ h => h
  case w137 => rfl
  case y137 =>
    intro w hSw
    (try dsimp only at hSw)
    skip
    go_simp
    try with_reducible rfl
  try simp only [Act.put, List.setIfInBounds_toArray, List.set_cons_zero, List.set_cons_succ]
  refine wpAnyH_take (i := 7) (oi := ?oi138) (v := ?vi138) ?h138 (by kernel_rfl) (by kernel_rfl) (by kernel_rfl) ?q138 (Or.inl ⟨?w138, ?y138⟩) hHeld ?r138
  case h138 => first | (simp only [List.getElem?_toArray, List.getElem?_cons_zero, List.getElem?_cons_succ]; done) | (simp only [List.getElem?_toArray, List.getElem?_cons_zero, List.getElem?_cons_succ]; exact rfl)
  case q138 => exact fun _ _ _ h => h
  case w138 => rfl
  case y138 =>
    intro w hSw
    (try dsimp only at hSw)
    skip
    go_simp
    try with_reducible rfl
  try simp only [Act.put, List.setIfInBounds_toArray, List.set_cons_zero, List.set_cons_succ]
  refine wpAnyH_take (i := 8) (oi := ?oi139) (v := ?vi139) ?h139 (by kernel_rfl) (by kernel_rfl) (by kernel_rfl) ?q139 (Or.inl ⟨?w139, ?y139⟩) hHeld ?r139
  case h139 => first | (simp only [List.getElem?_toArray, List.getElem?_cons_zero, List.getElem?_cons_succ]; done) | (simp only [List.getElem?_toArray, List.getElem?_cons_zero, List.getElem?_cons_succ]; exact rfl)
  case q139 => exact fun _ _ _ h => h
  case w139 => rfl
  case y139 =>
    intro w hSw
    (try dsimp only at hSw)
    skip
    go_simp
    try with_reducible rfl
  try simp only [Act.put, List.setIfInBounds_toArray, List.set_cons_zero, List.set_cons_succ]
  refine wpAnyH_ready (rs := [9]) (by kernel_rfl) (by simp) ?_
  refine AllReadyH.cons (o := ?ob140) ?hb140 (fun K hK => ?_) AllReadyH.nil
  case hb140 => first | (simp only [List.getElem?_toArray, List.getElem?_cons_zero, List.getElem?_cons_succ]; done) | (simp only [List.getElem?_toArray, List.getElem?_cons_zero, List.getElem?_cons_succ]; exact rfl)
  go_simp
  go_at_call 40
  refine HHA.out.mono ?_
  rintro e w' ⟨rfl, hw'⟩
  obtain rfl := hw'.symm
  clear hw'
  go_wp2_with fail
  refine hK.out _ _ kc (fun hHeld => ?_)
  clear hK K
  try simp only [Act.put, List.setIfInBounds_toArray, List.set_cons_zero, List.set_cons_succ]
  refine wpAnyH_take (i := 10) (oi := ?oi141) (v := ?vi141) ?h141 (by kernel_rfl) (by kernel_rfl) (by kernel_rfl) ?q141 (Or.inl ⟨?w141, ?y141⟩) hHeld ?r141
  case h141 => first | (simp only [List.getElem?_toArray, List.getElem?_cons_zero, List.getElem?_cons_succ]; done) | (simp only [List.getElem?_toArray, List.getElem?_cons_zero, List.getElem?_cons_succ]; exact rfl)
  case q141 => exact fun _ _ _ h => h
  case w141 => rfl
  case y141 =>
    intro w hSw
    (try dsimp only at hSw)
    skip
    go_simp
    try with_reducible rfl
  try simp only [Act.put, List.setIfInBounds_toArray, List.set_cons_zero, List.set_cons_succ]
  refine wpAnyH_ready (rs := [11]) (by kernel_rfl) (by simp) ?_
  refine AllReadyH.cons (o := ?ob142) ?hb142 (fun K hK => ?_) AllReadyH.nil
  case hb142 => first | (simp only [List.getElem?_toArray, List.getElem?_cons_zero, List.getElem?_cons_succ]; done) | (simp only [List.getElem?_toArray, List.getElem?_cons_zero, List.getElem?_cons_succ]; exact rfl)
  go_simp
  rw [HWH.out]
  rw [hmk]
  simp only [Result.andThen]
  rw [Oper.upon_value]
  have kc2 : ((w.drewN (nq + 1)).alloc (.cells (Lib.byteCells (List.replicate (H * 16) 0)).toArray 5)).cell? ⟨q, 0, none⟩ = some (.pointer (some ⟨p.b, 0, none⟩)) := HNM.out.fp.cell kc (fun h => h)
  clear kc hHeld hmk
  refine hK.out _ _ kc2 (fun hHeld => ?_)
  clear hK K
  try simp only [Act.put, List.setIfInBounds_toArray, List.set_cons_zero, List.set_cons_succ]
  refine wpAnyH_ready (rs := [12]) (by kernel_rfl) (by simp) ?_
  refine AllReadyH.cons (o := ?ob143) ?hb143 (fun K hK => ?_) AllReadyH.nil
  case hb143 => first | (simp only [List.getElem?_toArray, List.getElem?_cons_zero, List.getElem?_cons_succ]; done) | (simp only [List.getElem?_toArray, List.getElem?_cons_zero, List.getElem?_cons_succ]; exact rfl)
  go_simp
  go_at_call 42
  refine HWR.out.mono ?_
  rintro e w1 ⟨rfl, hS⟩
  have hS2 := hS.non (HW0.out.then HNM.out.fp)
  have c1' : w1.cell? ⟨q, 0, none⟩ = some (.pointer (some ⟨p.b, 0, none⟩)) := hS2.fp.cell HW.out.1.c0 HW.out.1.qn
  have HR1 := Lib.hid hS2
  clear hS hS2 kc2 hHeld
  go_wp2_with fail
  refine hK.out _ _ c1' (fun hHeld => ?_)
  clear hK K
  try simp only [Act.put, List.setIfInBounds_toArray, List.set_cons_zero, List.set_cons_succ]
  refine wpAnyH_take (i := 13) (oi := ?oi144) (v := ?vi144) ?h144 (by kernel_rfl) (by kernel_rfl) (by kernel_rfl) ?q144 (Or.inl ⟨?w144, ?y144⟩) hHeld ?r144
  case h144 => first | (simp only [List.getElem?_toArray, List.getElem?_cons_zero, List.getElem?_cons_succ]; done) | (simp only [List.getElem?_toArray, List.getElem?_cons_zero, List.getElem?_cons_succ]; exact rfl)
  case q144 => exact fun _ _ _ h => h
  case w144 => rfl
  case y144 =>
    intro w hSw
    (try dsimp only at hSw)
    skip
    go_simp
    try with_reducible rfl
  try simp only [Act.put, List.setIfInBounds_toArray, List.set_cons_zero, List.set_cons_succ]
  refine wpAnyH_done (by kernel_rfl) ?_ _
  by_cases hx : x1 = 0
  · subst hx
    have HQ1 := Lib.hid (show T = seqF _ s1 by rw [HQ0.out, seq_good (by rw [HZR.out, ← HX1.out]), HZR.out, ← HX1.out])
    have HA1 := Lib.hid (show s1.acts ≤ s.acts + 1 by have h1 := wr_acts ST (List.replicate (H * 16) 0) s; rw [← HX1.out] at h1; simp only at h1; have h2 := HA0.out; omega)
    go_wp2_with fail
    obtain ⟨pk, hdk, hbk, hnk⟩ := HR1.out.ex
    have hpt := put_c hdk (by rw [hbk]; exact c1') (fun ho => (hnk q ho).elim HW.out.1.qn (fun h1 => by have := HW.out.1.lt; omega)) ST 0 hSTb (by omega) _ b (HB.out.1.keep HR1.out.fp (fun h0 k hk => HB.out.2.1 h0 k hk)) (fun h0 k hk ho => (hnk k ho).elim (HB.out.2.1 h0 k hk) (fun h1 => HBL.out h0 k hk h1)) HB.out.2.2.2.1 (by have := HA1.out; have := HB.out.2.2.2.2; omega)
    obtain ⟨x2, s2, hr⟩ : ∃ x y, (x, y) = seqF (apSteps ST 0 b) s1 := ⟨_, _, rfl⟩
    rw [HB.out.2.2.1, ← hr] at hpt
    have HPT := Lib.hid hpt
    have HDK := Lib.hid (And.intro hbk hnk)
    have HX2 := Lib.hid hr
    clear hpt hdk hbk hnk hr
    go_wp2_with fail
    refine HPT.out.mono ?_
    rintro e w2 ⟨rfl, hS⟩
    have HR2 := Lib.hid (RfS.then HDK.out.1 HDK.out.2 HR1.out.fp hS)
    have c2' : w2.cell? ⟨q, 0, none⟩ = some (.pointer (some ⟨p.b, 0, none⟩)) := HR2.out.fp.cell HW.out.1.c0 HW.out.1.qn
    clear hS
    by_cases hx : x2 = 0
    · subst hx
      have HQ2 := Lib.hid (show T = seqF _ s2 by rw [HQ1.out, seq_app, if_pos (by rw [← HX2.out]), ← HX2.out])
      have HA2 := Lib.hid (show s2.acts ≤ s.acts + 5 by have h1 := ap_acts ST 0 b s1; rw [← HX2.out] at h1; simp only at h1; have h2 := HA1.out; omega)
      go_wp2_with fail
      obtain ⟨pk, hdk, hbk, hnk⟩ := HR2.out.ex
      have W0 : Fp Non w2 w2.drew := (Fp.refl Non w2).drew
      have kc : w2.drew.cell? ⟨q, 0, none⟩ = some (.pointer (some ⟨p.b, 0, none⟩)) := c2'
      have hsg := rsign_c o (by have := HO.out; omega) w2.drew
      obtain ⟨x3, s3, hr⟩ : ∃ x y, (x, y) = wr 0 (sgn o) s2 := ⟨_, _, rfl⟩
      have HSG := Lib.hid hsg
      have HDK := Lib.hid (And.intro (hdk.keep W0 (fun _ _ h => h)) (And.intro hbk (And.intro hnk W0)))
      have HX3 := Lib.hid hr
      clear hsg hdk hbk hnk hr W0
      refine wp_region_held_drew (S := (fun w' => w'.cell? ⟨q, 0, none⟩ = some (.pointer (some ⟨p.b, 0, none⟩)))) (by kernel_rfl) ?_ (fun hHeld => ?_)
      · exact kc
      refine wpAnyH_take (i := 0) (oi := ?oi123) (v := ?vi123) ?h123 (by kernel_rfl) (by kernel_rfl) (by kernel_rfl) ?q123 (Or.inl ⟨?w123, ?y123⟩) hHeld ?r123
      case h123 => first | (simp only [List.getElem?_toArray, List.getElem?_cons_zero]; done) | (simp only [List.getElem?_toArray, List.getElem?_cons_zero]; exact rfl)
      case q123 => exact fun _ _ _ h => h
      case w123 => rfl
      case y123 =>
        intro w hSw
        (try dsimp only at hSw)
        skip
        go_simp
        try with_reducible rfl
      try simp only [Act.put, List.setIfInBounds_toArray, List.set_cons_zero, List.set_cons_succ]
      refine wpAnyH_take (i := 1) (oi := ?oi124) (v := ?vi124) ?h124 (by kernel_rfl) (by kernel_rfl) (by kernel_rfl) ?q124 (Or.inl ⟨?w124, ?y124⟩) hHeld ?r124
      case h124 => first | (simp only [List.getElem?_toArray, List.getElem?_cons_zero, List.getElem?_cons_succ]; done) | (simp only [List.getElem?_toArray, List.getElem?_cons_zero, List.getElem?_cons_succ]; exact rfl)
      case q124 => exact fun _ _ _ h => h
      case w124 => rfl
      case y124 =>
        intro w hSw
        (try dsimp only at hSw)
        skip
        go_simp
        try with_reducible rfl
      try simp only [Act.put, List.setIfInBounds_toArray, List.set_cons_zero, List.set_cons_succ]
      refine wpAnyH_take (i := 2) (oi := ?oi125) (v := ?vi125) ?h125 (by kernel_rfl) (by kernel_rfl) (by kernel_rfl) ?q125 (Or.inl ⟨?w125, ?y125⟩) hHeld ?r125
      case h125 => first | (simp only [List.getElem?_toArray, List.getElem?_cons_zero, List.getElem?_cons_succ]; done) | (simp only [List.getElem?_toArray, List.getElem?_cons_zero, List.getElem?_cons_succ]; exact rfl)
      case q125 => exact fun _ _ _ h => h
      case w125 => rfl
      case y125 =>
        intro w hSw
        (try dsimp only at hSw)
        skip
        go_simp
        try with_reducible rfl
      try simp only [Act.put, List.setIfInBounds_toArray, List.set_cons_zero, List.set_cons_succ]
      refine wpAnyH_take (i := 3) (oi := ?oi126) (v := ?vi126) ?h126 (by kernel_rfl) (by kernel_rfl) (by kernel_rfl) ?q126 (Or.inl ⟨?w126, ?y126⟩) hHeld ?r126
      case h126 => first | (simp only [List.getElem?_toArray, List.getElem?_cons_zero, List.getElem?_cons_succ]; done) | (simp only [List.getElem?_toArray, List.getElem?_cons_zero, List.getElem?_cons_succ]; exact rfl)
      case q126 => exact fun _ _ _ h => h
      case w126 => rfl
      case y126 =>
        intro w hSw
        (try dsimp only at hSw)
        skip
        go_simp
        try with_reducible rfl
      try simp only [Act.put, List.setIfInBounds_toArray, List.set_cons_zero, List.set_cons_succ]
      refine wpAnyH_take (i := 4) (oi := ?oi127) (v := ?vi127) ?h127 (by kernel_rfl) (by kernel_rfl) (by kernel_rfl) ?q127 (Or.inl ⟨?w127, ?y127⟩) hHeld ?r127
      case h127 => first | (simp only [List.getElem?_toArray, List.getElem?_cons_zero, List.getElem?_cons_succ]; done) | (simp only [List.getElem?_toArray, List.getElem?_cons_zero, List.getElem?_cons_succ]; exact rfl)
      case q127 => exact fun _ _ _ h => h
      case w127 => rfl
      case y127 =>
        intro w hSw
        (try dsimp only at hSw)
        skip
        go_simp
        try with_reducible rfl
      try simp only [Act.put, List.setIfInBounds_toArray, List.set_cons_zero, List.set_cons_succ]
      refine wpAnyH_ready (rs := [5]) (by kernel_rfl) (by simp) ?_
      refine AllReadyH.cons (o := ?ob128) ?hb128 (fun K hK => ?_) AllReadyH.nil
      case hb128 => first | (simp only [List.getElem?_toArray, List.getElem?_cons_zero, List.getElem?_cons_succ]; done) | (simp only [List.getElem?_toArray, List.getElem?_cons_zero, List.getElem?_cons_succ]; exact rfl)
      go_simp
      go_at_call 38
      refine HSG.out.mono ?_
      rintro e v3 ⟨u, rfl, hN⟩
      have kc2 : v3.cell? ⟨q, 0, none⟩ = some (.pointer (some ⟨p.b, 0, none⟩)) := hN.fp.cell kc (fun h => h)
      have hw := rwrite_s (HDK.out.1.keep hN.fp (fun _ _ h => h)) 0 (by omega) _ _ hN.sl (fun k hk ho => by have h1 := hN.block k hk; have h2 := (HDK.out.1.all k ho).2; omega) (by simp [sgn, zr]) (by have := HA2.out; have := HB.out.2.2.2.2; omega)
      rw [HDK.out.2.1, ← HX3.out] at hw
      obtain ⟨uao, un, ucap, rfl⟩ := hN.shape3
      have HWR := Lib.hid hw
      have HNF := Lib.hid hN.fp
      clear hw hN kc hHeld
      go_wp2_with fail
      refine hK.out _ _ kc2 (fun hHeld => ?_)
      clear hK K
      try simp only [Act.put, List.setIfInBounds_toArray, List.set_cons_zero, List.set_cons_succ]
      refine wpAnyH_ready (rs := [6]) (by kernel_rfl) (by simp) ?_
      refine AllReadyH.cons (o := ?ob129) ?hb129 (fun K hK => ?_) AllReadyH.nil
      case hb129 => first | (simp only [List.getElem?_toArray, List.getElem?_cons_zero, List.getElem?_cons_succ]; done) | (simp only [List.getElem?_toArray, List.getElem?_cons_zero, List.getElem?_cons_succ]; exact rfl)
      go_simp
      go_at_call 42
      refine HWR.out.mono ?_
      rintro e w3 ⟨rfl, hS⟩
      have HR3 := Lib.hid (RfS.then HDK.out.2.1 HDK.out.2.2.1 HR2.out.fp (hS.non (HDK.out.2.2.2.then HNF.out)))
      have c3' : w3.cell? ⟨q, 0, none⟩ = some (.pointer (some ⟨p.b, 0, none⟩)) := HR3.out.fp.cell HW.out.1.c0 HW.out.1.qn
      clear hS kc2 hHeld
      go_wp2_with fail
      refine hK.out _ _ c3' (fun hHeld => ?_)
      clear hK K
      try simp only [Act.put, List.setIfInBounds_toArray, List.set_cons_zero, List.set_cons_succ]
      refine wpAnyH_take (i := 7) (oi := ?oi130) (v := ?vi130) ?h130 (by kernel_rfl) (by kernel_rfl) (by kernel_rfl) ?q130 (Or.inl ⟨?w130, ?y130⟩) hHeld ?r130
      case h130 => first | (simp only [List.getElem?_toArray, List.getElem?_cons_zero, List.getElem?_cons_succ]; done) | (simp only [List.getElem?_toArray, List.getElem?_cons_zero, List.getElem?_cons_succ]; exact rfl)
      case q130 => exact fun _ _ _ h => h
      case w130 => rfl
      case y130 =>
        intro w hSw
        (try dsimp only at hSw)
        skip
        go_simp
        try with_reducible rfl
      try simp only [Act.put, List.setIfInBounds_toArray, List.set_cons_zero, List.set_cons_succ]
      refine wpAnyH_done (by kernel_rfl) ?_ _
      by_cases hx : x3 = 0
      · subst hx
        have HQ3 := Lib.hid (show T = seqF _ s3 by rw [HQ2.out, seq_good (by rw [← HX3.out]), ← HX3.out])
        have HA3 := Lib.hid (show s3.acts ≤ s.acts + 6 by have h1 := wr_acts 0 (sgn o) s2; rw [← HX3.out] at h1; simp only at h1; have h2 := HA2.out; omega)
        go_wp2_with fail
        obtain ⟨pk, hdk, hbk, hnk⟩ := HR3.out.ex
        have hsy := rsync_s hdk (by have := HA3.out; have := HB.out.2.2.2.2; omega)
        obtain ⟨x4, s4, hr⟩ : ∃ x y, (x, y) = dSync s3 := ⟨_, _, rfl⟩
        rw [hbk, ← hr] at hsy
        have HSY := Lib.hid hsy
        have HDK := Lib.hid (And.intro hbk hnk)
        have HX4 := Lib.hid hr
        clear hsy hdk hbk hnk hr
        go_wp2_with fail
        refine HSY.out.mono ?_
        rintro e w4 ⟨rfl, hS⟩
        have HR4 := Lib.hid (RfS.then HDK.out.1 HDK.out.2 HR3.out.fp hS)
        clear hS
        by_cases hx : x4 = 0
        · subst hx
          have hQ : T = (0, s4) := by rw [HQ3.out, seq_last, ← HX4.out]
          have HQ := Lib.hid hQ
          obtain ⟨pk, hdk, hbk, hnk⟩ := HR4.out.ex
          have h4 := (HW.out.1.disk hdk HR4.out.fp hbk hnk).1
          have c41 := h4.c1
          have z41 := h4.fz 1
          have f5 := fp_cell w4 q 1 (.int .i64 (o : Int))
          have hse5 : Se (w4.setCell ⟨q, 1, none⟩ (.int .i64 (o : Int))) (.slice ao b.length cap) b := by
            have := (HB.out.1.keep HR4.out.fp (fun h0 k hk => HB.out.2.1 h0 k hk)).keep f5 (fun h0 k hk e => HBQ.out h0 k hk e)
            rwa [HB.out.2.2.1] at this
          have hin := (Nw.made (w4.setCell ⟨q, 1, none⟩ (.int .i64 (o : Int)))).plus (Fp.refl Non _) (hse5.keep (Nw.made _).fp (fun _ _ _ h => h)) (by simp only [List.length_nil]; have := HB.out.2.2.2.1; omega) 22
          rw [List.nil_append, show (w4.setCell ⟨q, 1, none⟩ (.int .i64 (o : Int))).heap.size = w4.heap.size by simp [World.setCell]] at hin
          have HIN := Lib.hid hin
          clear hQ hdk hbk hnk h4 hin hse5 f5
          go_wp2_with (at_builtin; go_must (refine wpList_app rfl _ _ _ _ rfl _ _ rfl rfl _ HIN.out ?_))
          intro x7 w7 hN7
          obtain ⟨c8, z8, hD⟩ := HW.out.1.fresh HR4.out o hN7
          obtain ⟨xao, xn, xcap, rfl⟩ := hN7.shape3
          have HFIN := Lib.hid hD
          clear hN7 hD
          go_wp2
          go_ret
          exact ⟨by rw [HQ.out]; rfl, fun h0 => absurd (by rw [HQ.out]) h0, fun _ => by rw [HQ.out]; exact HFIN.out⟩
        · have hQ : T = (x4, s4) := by rw [HQ3.out, seq_last, ← HX4.out]
          have HQ := Lib.hid hQ
          have g1 : (x4 = 0) = False := eq_false hx
          have g2 : (x4 == 0) = false := beq_eq_false_iff_ne.2 hx
          have HXX := Lib.hid hx
          clear hQ hx
          go_wp2
          go_ret
          exact ⟨by rw [HQ.out]; rfl, fun _ => by rw [HQ.out]; exact HW.out.1.turned HR4.out, fun h0 => absurd (by rw [HQ.out] at h0; exact h0) HXX.out⟩
      · have hQ : T = (x3, s3) := by rw [HQ2.out, seq_bad (by rw [← HX3.out]; exact hx), ← HX3.out]
        have HQ := Lib.hid hQ
        have g1 : (x3 = 0) = False := eq_false hx
        have g2 : (x3 == 0) = false := beq_eq_false_iff_ne.2 hx
        have HXX := Lib.hid hx
        clear hQ hx
        go_wp2
        go_ret
        exact ⟨by rw [HQ.out]; rfl, fun _ => by rw [HQ.out]; exact HW.out.1.turned HR3.out, fun h0 => absurd (by rw [HQ.out] at h0; exact h0) HXX.out⟩
    · have hQ : T = (x2, s2) := by rw [HQ1.out, seq_app, if_neg (by rw [← HX2.out]; exact hx), ← HX2.out]
      have HQ := Lib.hid hQ
      have g1 : (x2 = 0) = False := eq_false hx
      have g2 : (x2 == 0) = false := beq_eq_false_iff_ne.2 hx
      have HXX := Lib.hid hx
      clear hQ hx
      go_wp2
      go_ret
      exact ⟨by rw [HQ.out]; rfl, fun _ => by rw [HQ.out]; exact HW.out.1.turned HR2.out, fun h0 => absurd (by rw [HQ.out] at h0; exact h0) HXX.out⟩
  · have hQ : T = (x1, s1) := by rw [HQ0.out, seq_bad (by rw [HZR.out, ← HX1.out]; exact hx), HZR.out, ← HX1.out]
    have HQ := Lib.hid hQ
    have g1 : (x1 = 0) = False := eq_false hx
    have g2 : (x1 == 0) = false := beq_eq_false_iff_ne.2 hx
    have HXX := Lib.hid hx
    clear hQ hx
    go_wp2
    go_ret
    exact ⟨by rw [HQ.out]; rfl, fun _ => by rw [HQ.out]; exact HW.out.1.turned HR1.out, fun h0 => absurd (by rw [HQ.out] at h0; exact h0) HXX.out⟩

theorem Se.below {w : World} {v : Value} {l : Bs} (h : Se w v l) (h0 : 0 < l.length) : ∀ k, v.ownBlock = some k → k < w.heap.size := by
  rcases h with h | ⟨rfl, _⟩
  · exact h.below
  · simp at h0
theorem rStart_c {lo q : Nat} {p : At} {v : Value} {D : Nat → Prop} {s : Dk} {l : Lg} {w : World} (h : Du lo q p v D s l w) (hk : Lk s l) (bv : Value) (b : Bs) (hb : Se w bv b) (hn : 0 < b.length → ∀ k, bv.ownBlock = some k → ¬ ownD q p v D k) (hac : s.acts ≤ 900000) :
    Calls Tryz.prog 18 #[.pointer (some ⟨q, 0, none⟩), bv] w fun e w' => e = .returned (.int .i64 (lStart s l b).1) ∧ DuR lo q p v D (lStart s l b).2.2 (lStart s l b).2.1 w w' := by
  unfold lStart
  by_cases hbig : 16384 < b.length
  · rw [if_pos hbig]
    exact rStart_big h bv b hb hbig
  · rw [if_neg hbig]
    by_cases hful : hf s.cur < ln b.length
    · rw [if_pos hful]
      exact rStart_full h bv b hb hbig hful
    · rw [if_neg hful]
      refine (rStart_good h hk bv b hb (fun h0 k hk ho => hn h0 k hk (.inl ho)) (fun h0 k hk h1 => by have := hb.below h0 k hk; omega) (fun h0 k hk e => hn h0 k hk (.inr (.inl e))) hac hbig hful _ rfl _ rfl).mono ?_
      rintro e w' ⟨rfl, h1, h2⟩
      refine ⟨rfl, ?_⟩
      simp only
      split
      · rename_i h0; exact h2 h0
      · rename_i h0; exact h1 h0
end Go.Proofs.YtankfmlafmjaeaaGreat
