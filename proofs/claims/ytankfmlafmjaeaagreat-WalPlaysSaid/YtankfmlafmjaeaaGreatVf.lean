/- The document's Append. -/
import Derived.Test.YtankfmlafmjaeaaGreatVe
import Derived.Test.YtankfmlafmjaeaaGreatVd
namespace Go.Proofs.YtankfmlafmjaeaaGreat
open Go.RowKit Pm
set_option maxRecDepth 20000

/-- Behind a call of the document's log. -/
structure DuR (lo q : Nat) (p : At) (v : Value) (D : Nat → Prop) (s' : Dk) (l' : Lg) (w w' : World) : Prop where
  ex : ∃ p' v' D', Du lo q p' v' D' s' l' w' ∧ p'.b = p.b ∧ ∀ k, ownD q p' v' D' k → ownD q p v D k ∨ w.heap.size ≤ k
  fp : Fp (ownD q p v D) w w'
theorem Du.same {lo q : Nat} {p : At} {v : Value} {D : Nat → Prop} {s : Dk} {l : Lg} {w w' : World} (h : Du lo q p v D s l w) (f : Fp Non w w') : DuR lo q p v D s l w w' :=
  ⟨⟨p, v, D, h.non f, rfl, fun _ hk => .inl hk⟩, f.any⟩
/-- The disk alone has turned. -/
theorem Du.turned {lo q : Nat} {p : At} {v : Value} {D : Nat → Prop} {s s' : Dk} {l : Lg} {w w' : World} (h : Du lo q p v D s l w) (hS : RfS lo p s' w w') : DuR lo q p v D s' l w w' := by
  obtain ⟨p', hd, hb, hp⟩ := hS.ex
  obtain ⟨h1, h2⟩ := h.disk hd hS.fp hb hp
  exact ⟨⟨p', v, D, h1, hb, h2⟩, hS.fp.mono (fun k hk => .inl hk)⟩
/-- A record more. -/
theorem Du.push {lo q : Nat} {p : At} {v : Value} {D : Nat → Prop} {s s' : Dk} {l : Lg} {w w6 w7 w8 : World} {b : Bs} {v' : Value} (h : Du lo q p v D s l w) (hS : RfS lo p s' w w6) (f7 : Fp Non w6 w7)
    (hA : AppB lo (fun k => D k ∨ (w6.heap.size ≤ k ∧ k < w7.heap.size)) w7 v (l.rs ++ [b]) v' w8) :
    w8.cell? ⟨q, 2, none⟩ = some v ∧ w8.frozen? ⟨q, 2, none⟩ = false ∧ DuR lo q p v D s' ⟨l.ar, l.rs ++ [b]⟩ w (w8.setCell ⟨q, 2, none⟩ v') := by
  obtain ⟨p', hd, hb, hp⟩ := hS.ex
  obtain ⟨h6, h6n⟩ := h.disk hd hS.fp hb hp
  have h7 := h6.non f7
  have f8 : Fp (fun k => v.ownBlock = some k) w7 w8 := hA.fp (Fp.refl _ w7) (fun k hk => .inl hk)
  have hq8 : ¬ v.ownBlock = some q := fun e => (h6.vn q e).1 rfl
  have hblk8 := f8.heap h7.blk hq8
  have c8 : w8.cell? ⟨q, 2, none⟩ = some v := by simp [World.cell?, hblk8]
  have z8 : w8.frozen? ⟨q, 2, none⟩ = false := by simp [World.frozen?, hblk8]
  have fs : Fp (fun k => k = q) w8 (w8.setCell ⟨q, 2, none⟩ v') := fp_cell w8 q 2 v'
  have hdl : ∀ k, own4 p' k → k < w6.heap.size := fun k hk => (hd.all k hk).2
  have hql : q < w6.heap.size := h6.lt
  have hvn : ∀ k, v'.ownBlock = some k → k ≠ q ∧ ¬ own4 p' k := fun k hk => by
    rcases hA.at' with e | e
    · rw [e] at hk; exact h6.vn k hk
    · have h1 := e k hk
      have h2 := f7.size
      exact ⟨by omega, fun ho => by have := hdl k ho; omega⟩
  refine ⟨c8, z8, ⟨p', v', _, ⟨(h7.d.keep f8 (fun k hk e => (h6.vn k e).2 hk)).keep fs (fun k hk e => h6.qn (e ▸ hk)), h.low, ?_, hA.bo.keep fs (fun k hk e => (hvn k hk).1 e) (fun k hk e => ?_), fun k hk => ?_, hvn, h6.qn⟩, hb, fun k hk => ?_⟩, ?_⟩
  · have := heap_setCell_same w8 q 2 _ TLR v' hblk8
    rw [this]; rfl
  · rcases hk with hk | hk
    · exact (h6.dn k hk).2.2.1 e
    · omega
  · have e8 := f8.size
    have e9 := fs.size
    have e7 := f7.size
    rcases hk with hk | hk
    · have := h6.dn k hk
      exact ⟨this.1, by omega, this.2.2⟩
    · have e6 := hS.fp.size
      have := h.lt
      exact ⟨by have := h.low; omega, by omega, by omega, fun ho => by have := hdl k ho; omega⟩
  · rcases hk with hk | hk | hk | hk
    · exact (hp k hk).elim (fun h1 => .inl (.inl h1)) .inr
    · exact .inl (.inr (.inl hk))
    · rcases hA.at' with e | e
      · rw [e] at hk; exact .inl (.inr (.inr (.inl hk)))
      · have h1 := e k hk
        have h2 := f7.size
        have h3 := hS.fp.size
        exact .inr (by omega)
    · rcases hk with hk | hk
      · exact .inl (.inr (.inr (.inr hk)))
      · have h3 := hS.fp.size
        exact .inr (by omega)
  · have g1 : Fp (ownD q p v D) w w6 := hS.fp.mono (fun k hk => .inl hk)
    have g2 : Fp (ownD q p v D) w6 w8 := (f7.any).same (f8.mono (fun k hk => .inr (.inr (.inl hk))))
    exact (g1.same g2).same (fs.mono (fun k hk => .inr (.inl hk)))

theorem tests {s : Dk} {l : Lg} {b : Bs} : (hf s.cur < usd l.rs + ln b.length ↔ ((hs s.cur : Int) - (nds l.rs : Int) < (nd b.length : Int))) ∧ (hf s.cur < ln b.length ↔ hs s.cur < nd b.length) := by
  rw [hf_hs, usd_nds, ln_nd]
  omega

theorem rAppend_big {lo q : Nat} {p : At} {v : Value} {D : Nat → Prop} {s : Dk} {l : Lg} {w : World} (h : Du lo q p v D s l w) (bv : Value) (b : Bs) (hb : Se w bv b) (hbig : 16384 < b.length) :
    Calls Tryz.prog 16 #[.pointer (some ⟨q, 0, none⟩), bv] w fun e w' => e = .returned (.int .i64 1) ∧ DuR lo q p v D s l w w' := by
  obtain ⟨ao, cap, hv⟩ := hb.shape
  have r1 : ((16384 : Int) < (b.length : Int)) = True := eq_true (by omega)
  have HD := Lib.hid (h.same (Fp.refl Non w))
  rw [hv]
  clear h hb hv hbig
  go_enter Tryz.func16, Tryz.ntmps16
  go_wp2
  go_ret
  exact ⟨rfl, HD.out⟩

set_option maxHeartbeats 1000000 in
theorem rAppend_full {lo q : Nat} {p : At} {v : Value} {D : Nat → Prop} {s : Dk} {l : Lg} {w : World} (h : Du lo q p v D s l w) (hk : Lk s l) (bv : Value) (b : Bs) (hb : Se w bv b) (hbig : ¬ 16384 < b.length) (hful : hf s.cur < usd l.rs + ln b.length) :
    Calls Tryz.prog 16 #[.pointer (some ⟨q, 0, none⟩), bv] w fun e w' => e = .returned (.int .i64 51) ∧ DuR lo q p v D s l w w' := by
  obtain ⟨ao, cap, hv⟩ := hb.shape
  have hle := hs_le s.cur (by have := h.d.rt.curlen; omega)
  have hfew := hk.few h.d.rt
  have hunds := usd_nds l.rs
  have hnb : nds l.rs ≤ 4096 := by have := hk.fit; omega
  have hbv : Bv (fun _ => True) w v l.rs := h.bo.view (fun _ _ => trivial) (fun _ _ => trivial)
  have hu : ∀ n, Calls Tryz.prog 50 #[.pointer (some ⟨q, 0, none⟩)] (w.drewN n) fun e w' => e = .returned (.int .i64 (nds l.rs : Int)) ∧ w' = w.drewN n := fun n => rused_c h.c2 (hbv.keep ((Fp.refl Non w).drewN n) (fun _ _ h => h)) (by omega)
  have hh : ∀ n, Calls Tryz.prog 40 #[.pointer (some ⟨p.b, 0, none⟩)] (w.drewN n) fun e w' => e = .returned (.int .i64 (hs s.cur : Int)) ∧ w' = w.drewN n := fun n => half_c (h.d.keep ((Fp.refl Non w).drewN n) (fun _ _ h => h))
  have c0 := h.c0
  have hnd : ∀ w, Calls Tryz.prog 49 #[.int .i64 (b.length : Int)] w fun e w' => e = .returned (.int .i64 (nd b.length : Int)) ∧ w' = w := fun w => Need_c b.length (by omega) w
  have r1 : ((16384 : Int) < (b.length : Int)) = False := eq_false (by omega)
  have r2 : ((hs s.cur : Int) - (nds l.rs : Int) < (nd b.length : Int)) = True := eq_true (tests.1.1 hful)
  have hb1 : hs s.cur ≤ 2048 := hle
  have hb2 : nd b.length ≤ 2000 := by unfold nd; omega
  generalize hs s.cur = H at *
  generalize nds l.rs = U at *
  generalize nd b.length = N at *
  have HD := Lib.hid (fun w' (f : Fp Non w w') => h.same f)
  have HU := Lib.hid hu
  have HH := Lib.hid hh
  have HN := Lib.hid hnd
  rw [hv]
  clear h hk hb hv hbig hful hle hfew hunds hbv hu hh hnd
  go_enter Tryz.func16, Tryz.ntmps16
  go_wp2_with fail
  go_quiet (first
    | (go_at_call 49; refine (HN.out _).mono ?_; rintro e w' ⟨rfl, rfl⟩; exact ⟨rfl, _, rfl⟩)
    | (go_at_call 40; refine (HH.out _).mono ?_; rintro e w' ⟨rfl, rfl⟩; exact ⟨rfl, _, rfl⟩)
    | (go_at_call 50; refine (HU.out _).mono ?_; rintro e w' ⟨rfl, rfl⟩; exact ⟨rfl, _, rfl⟩))
  go_wp2
  go_ret
  exact ⟨rfl, HD.out _ ((Fp.refl Non w).drewN _)⟩

set_option maxHeartbeats 4000000 in
theorem rAppend_good {lo q : Nat} {p : At} {v : Value} {D : Nat → Prop} {s : Dk} {l : Lg} {w : World} (h : Du lo q p v D s l w) (hk : Lk s l) (bv : Value) (b : Bs) (hb : Se w bv b) (hn : 0 < b.length → ∀ k, bv.ownBlock = some k → ¬ own4 p k) (hac : s.acts ≤ 990000) (hbig : ¬ 16384 < b.length) (hful : ¬ hf s.cur < usd l.rs + ln b.length) (x : Int) (s6 : Dk) (hT : (x, s6) = seqF (apSteps (st s.cur l.ar + usd l.rs) l.rs.length b) s) :
    Calls Tryz.prog 16 #[.pointer (some ⟨q, 0, none⟩), bv] w fun e w' => e = .returned (.int .i64 x) ∧ (x ≠ 0 → DuR lo q p v D s6 l w w') ∧ (x = 0 → DuR lo q p v D s6 ⟨l.ar, l.rs ++ [b]⟩ w w') := by
  obtain ⟨ao, cap, hv⟩ := hb.shape
  have hle := hs_le s.cur (by have := h.d.rt.curlen; omega)
  have hfew := hk.few h.d.rt
  have hunds := usd_nds l.rs
  have hnb : nds l.rs ≤ 4096 := by have := hk.fit; omega
  have hbv : Bv (fun _ => True) w v l.rs := h.bo.view (fun _ _ => trivial) (fun _ _ => trivial)
  have hu : ∀ n, Calls Tryz.prog 50 #[.pointer (some ⟨q, 0, none⟩)] (w.drewN n) fun e w' => e = .returned (.int .i64 (nds l.rs : Int)) ∧ w' = w.drewN n := fun n => rused_c h.c2 (hbv.keep ((Fp.refl Non w).drewN n) (fun _ _ h => h)) (by omega)
  have hh : ∀ n, Calls Tryz.prog 40 #[.pointer (some ⟨p.b, 0, none⟩)] (w.drewN n) fun e w' => e = .returned (.int .i64 (hs s.cur : Int)) ∧ w' = w.drewN n := fun n => half_c (h.d.keep ((Fp.refl Non w).drewN n) (fun _ _ h => h))
  have c0 := h.c0
  obtain ⟨vao, vcap, hvv⟩ := h.bo.shape
  subst hvv
  have hnd : ∀ w, Calls Tryz.prog 49 #[.int .i64 (b.length : Int)] w fun e w' => e = .returned (.int .i64 (nd b.length : Int)) ∧ w' = w := fun w => Need_c b.length (by omega) w
  have r1 : ((16384 : Int) < (b.length : Int)) = False := eq_false (by omega)
  have r2 : ((hs s.cur : Int) - (nds l.rs : Int) < (nd b.length : Int)) = False := eq_false (fun hc => hful (tests.1.2 hc))
  have hb1 : hs s.cur ≤ 2048 := hle
  have hb2 : nd b.length ≤ 2000 := by unfold nd; omega
  have hst := st_le s.cur l.ar hk.ar hk.big
  have hcl := h.d.rt.curlen
  have hsm : usd l.rs ≤ 100000 := by omega
  have hll : l.rs.length ≤ 4096 := hfew.1
  obtain ⟨ST, hST⟩ : ∃ ST, ST = st s.cur l.ar := ⟨_, rfl⟩
  obtain ⟨U, hU⟩ : ∃ U, U = nds l.rs := ⟨_, rfl⟩
  rw [← hST, hunds, ← hU] at hT
  have hA : ST + U * 16 ≤ 900000 := by omega
  have HW := Lib.hid (And.intro h (And.intro hk hbv))
  have HB := Lib.hid (And.intro hb (And.intro hn (And.intro hv (And.intro (Nat.not_lt.1 hbig) hac))))
  have HSM := Lib.hid (And.intro hsm (And.intro hA (show l.rs.length ≤ 65535 by omega)))
  have HV := Lib.hid (And.intro hST hU)
  have HT := Lib.hid hT
  have HW1 := Lib.hid (show IntKind.i64.wrap ((U : Int) * 16) = (U : Int) * 16 by rw [IntKind.wrap_i64]; omega)
  have HW2 := Lib.hid (show IntKind.i64.wrap ((ST : Int) + (U : Int) * 16) = (ST : Int) + (U : Int) * 16 by rw [IntKind.wrap_i64]; omega)
  rw [← hU] at r2 hu hnb
  generalize hs s.cur = H at *
  generalize nd b.length = N at *
  have HU := Lib.hid hu
  have HH := Lib.hid hh
  have HN := Lib.hid hnd
  have HBG := Lib.hid hbig
  rw [hv]
  clear h hk hb hn hv hbig hful hle hfew hunds hbv hu hh hnd hac hst hcl hsm hST hU hT hA
  go_enter Tryz.func16, Tryz.ntmps16
  go_wp2_with fail
  go_quiet (first
    | (go_at_call 49; refine (HN.out _).mono ?_; rintro e w' ⟨rfl, rfl⟩; exact ⟨rfl, _, rfl⟩)
    | (go_at_call 40; refine (HH.out _).mono ?_; rintro e w' ⟨rfl, rfl⟩; exact ⟨rfl, _, rfl⟩)
    | (go_at_call 50; refine (HU.out _).mono ?_; rintro e w' ⟨rfl, rfl⟩; exact ⟨rfl, _, rfl⟩))
  go_wp2_with fail
  have f5 : Fp Non w (w.drewN nq).drew := ((Fp.refl Non w).drewN nq).drew
  have k5 := And.intro (f5.cell HW.out.1.c0 (fun h => h)) (And.intro (f5.cell HW.out.1.c1 (fun h => h)) (f5.cell HW.out.1.c2 (fun h => h)))
  have hbg := begin_c (HW.out.1.d.keep f5 (fun _ _ h => h)) l.ar HW.out.2.1.ar
  have hus := rused_c (f5.cell HW.out.1.c2 (fun h => h)) (HW.out.2.2.keep f5 (fun _ _ h => h)) HSM.out.1
  have hpt := put_c (HW.out.1.d.keep f5 (fun _ _ h => h)) (f5.cell HW.out.1.c0 (fun h => h)) HW.out.1.qn (ST + U * 16) l.rs.length HSM.out.2.1 HSM.out.2.2 _ b (HB.out.1.keep f5 (fun _ _ _ h => h)) HB.out.2.1 HB.out.2.2.2.1 HB.out.2.2.2.2
  rw [HB.out.2.2.1, show ((ST + U * 16 : Nat) : Int) = (ST : Int) + (U : Int) * 16 by omega, ← HT.out] at hpt
  rw [← HV.out.1] at hbg
  rw [← HV.out.2] at hus
  have HBG := Lib.hid hbg
  have HUS := Lib.hid hus
  have HPT := Lib.hid hpt
  have HF5 := Lib.hid f5
  clear hbg hus hpt f5
  refine wp_region_held_drew (S := (fun w' => w'.cell? ⟨q, 0, none⟩ = some (.pointer (some ⟨p.b, 0, none⟩)) ∧ w'.cell? ⟨q, 1, none⟩ = some (.int .i64 (l.ar : Int)) ∧ w'.cell? ⟨q, 2, none⟩ = some (.slice vao l.rs.length vcap))) (by kernel_rfl) ?_ (fun hHeld => ?_)
  · exact k5
  refine wpAnyH_take (i := 0) (oi := ?oi101) (v := ?vi101) ?h101 (by kernel_rfl) (by kernel_rfl) (by kernel_rfl) ?q101 (Or.inl ⟨?w101, ?y101⟩) hHeld ?r101
  case h101 => first | (simp only [List.getElem?_toArray, List.getElem?_cons_zero]; done) | (simp only [List.getElem?_toArray, List.getElem?_cons_zero]; exact rfl)
  case q101 => exact fun _ _ _ h => h
  case w101 => rfl
  case y101 =>
    intro w hSw
    (try dsimp only at hSw)
    obtain ⟨hS1, hS2, hS3⟩ := hSw
    go_simp
    try with_reducible rfl
  try simp only [Act.put, List.setIfInBounds_toArray, List.set_cons_zero, List.set_cons_succ]
  refine wpAnyH_take (i := 1) (oi := ?oi102) (v := ?vi102) ?h102 (by kernel_rfl) (by kernel_rfl) (by kernel_rfl) ?q102 (Or.inl ⟨?w102, ?y102⟩) hHeld ?r102
  case h102 => first | (simp only [List.getElem?_toArray, List.getElem?_cons_zero, List.getElem?_cons_succ]; done) | (simp only [List.getElem?_toArray, List.getElem?_cons_zero, List.getElem?_cons_succ]; exact rfl)
  case q102 => exact fun _ _ _ h => h
  case w102 => rfl
  case y102 =>
    intro w hSw
    (try dsimp only at hSw)
    obtain ⟨hS1, hS2, hS3⟩ := hSw
    go_simp
    try with_reducible rfl
  try simp only [Act.put, List.setIfInBounds_toArray, List.set_cons_zero, List.set_cons_succ]
  refine wpAnyH_take (i := 2) (oi := ?oi103) (v := ?vi103) ?h103 (by kernel_rfl) (by kernel_rfl) (by kernel_rfl) ?q103 (Or.inl ⟨?w103, ?y103⟩) hHeld ?r103
  case h103 => first | (simp only [List.getElem?_toArray, List.getElem?_cons_zero, List.getElem?_cons_succ]; done) | (simp only [List.getElem?_toArray, List.getElem?_cons_zero, List.getElem?_cons_succ]; exact rfl)
  case q103 => exact fun _ _ _ h => h
  case w103 => rfl
  case y103 =>
    intro w hSw
    (try dsimp only at hSw)
    obtain ⟨hS1, hS2, hS3⟩ := hSw
    go_simp
    try with_reducible rfl
  try simp only [Act.put, List.setIfInBounds_toArray, List.set_cons_zero, List.set_cons_succ]
  refine wpAnyH_take (i := 3) (oi := ?oi104) (v := ?vi104) ?h104 (by kernel_rfl) (by kernel_rfl) (by kernel_rfl) ?q104 (Or.inl ⟨?w104, ?y104⟩) hHeld ?r104
  case h104 => first | (simp only [List.getElem?_toArray, List.getElem?_cons_zero, List.getElem?_cons_succ]; done) | (simp only [List.getElem?_toArray, List.getElem?_cons_zero, List.getElem?_cons_succ]; exact rfl)
  case q104 => exact fun _ _ _ h => h
  case w104 => rfl
  case y104 =>
    intro w hSw
    (try dsimp only at hSw)
    obtain ⟨hS1, hS2, hS3⟩ := hSw
    go_simp
    try with_reducible rfl
  try simp only [Act.put, List.setIfInBounds_toArray, List.set_cons_zero, List.set_cons_succ]
  refine wpAnyH_take (i := 4) (oi := ?oi105) (v := ?vi105) ?h105 (by kernel_rfl) (by kernel_rfl) (by kernel_rfl) ?q105 (Or.inl ⟨?w105, ?y105⟩) hHeld ?r105
  case h105 => first | (simp only [List.getElem?_toArray, List.getElem?_cons_zero, List.getElem?_cons_succ]; done) | (simp only [List.getElem?_toArray, List.getElem?_cons_zero, List.getElem?_cons_succ]; exact rfl)
  case q105 => exact fun _ _ _ h => h
  case w105 => rfl
  case y105 =>
    intro w hSw
    (try dsimp only at hSw)
    obtain ⟨hS1, hS2, hS3⟩ := hSw
    go_simp
    try with_reducible rfl
  try simp only [Act.put, List.setIfInBounds_toArray, List.set_cons_zero, List.set_cons_succ]
  refine wpAnyH_take (i := 5) (oi := ?oi106) (v := ?vi106) ?h106 (by kernel_rfl) (by kernel_rfl) (by kernel_rfl) ?q106 (Or.inl ⟨?w106, ?y106⟩) hHeld ?r106
  case h106 => first | (simp only [List.getElem?_toArray, List.getElem?_cons_zero, List.getElem?_cons_succ]; done) | (simp only [List.getElem?_toArray, List.getElem?_cons_zero, List.getElem?_cons_succ]; exact rfl)
  case q106 => exact fun _ _ _ h => h
  case w106 => rfl
  case y106 =>
    intro w hSw
    (try dsimp only at hSw)
    obtain ⟨hS1, hS2, hS3⟩ := hSw
    go_simp
    try with_reducible rfl
  try simp only [Act.put, List.setIfInBounds_toArray, List.set_cons_zero, List.set_cons_succ]
  refine wpAnyH_take (i := 6) (oi := ?oi107) (v := ?vi107) ?h107 (by kernel_rfl) (by kernel_rfl) (by kernel_rfl) ?q107 (Or.inl ⟨?w107, ?y107⟩) hHeld ?r107
  case h107 => first | (simp only [List.getElem?_toArray, List.getElem?_cons_zero, List.getElem?_cons_succ]; done) | (simp only [List.getElem?_toArray, List.getElem?_cons_zero, List.getElem?_cons_succ]; exact rfl)
  case q107 => exact fun _ _ _ h => h
  case w107 => rfl
  case y107 =>
    intro w hSw
    (try dsimp only at hSw)
    obtain ⟨hS1, hS2, hS3⟩ := hSw
    go_simp
    try with_reducible rfl
  try simp only [Act.put, List.setIfInBounds_toArray, List.set_cons_zero, List.set_cons_succ]
  refine wpAnyH_take (i := 7) (oi := ?oi108) (v := ?vi108) ?h108 (by kernel_rfl) (by kernel_rfl) (by kernel_rfl) ?q108 (Or.inl ⟨?w108, ?y108⟩) hHeld ?r108
  case h108 => first | (simp only [List.getElem?_toArray, List.getElem?_cons_zero, List.getElem?_cons_succ]; done) | (simp only [List.getElem?_toArray, List.getElem?_cons_zero, List.getElem?_cons_succ]; exact rfl)
  case q108 => exact fun _ _ _ h => h
  case w108 => rfl
  case y108 =>
    intro w hSw
    (try dsimp only at hSw)
    obtain ⟨hS1, hS2, hS3⟩ := hSw
    go_simp
    try with_reducible rfl
  try simp only [Act.put, List.setIfInBounds_toArray, List.set_cons_zero, List.set_cons_succ]
  refine wpAnyH_take (i := 8) (oi := ?oi109) (v := ?vi109) ?h109 (by kernel_rfl) (by kernel_rfl) (by kernel_rfl) ?q109 (Or.inl ⟨?w109, ?y109⟩) hHeld ?r109
  case h109 => first | (simp only [List.getElem?_toArray, List.getElem?_cons_zero, List.getElem?_cons_succ]; done) | (simp only [List.getElem?_toArray, List.getElem?_cons_zero, List.getElem?_cons_succ]; exact rfl)
  case q109 => exact fun _ _ _ h => h
  case w109 => rfl
  case y109 =>
    intro w hSw
    (try dsimp only at hSw)
    obtain ⟨hS1, hS2, hS3⟩ := hSw
    go_simp
    try with_reducible rfl
  try simp only [Act.put, List.setIfInBounds_toArray, List.set_cons_zero, List.set_cons_succ]
  refine wpAnyH_take (i := 10) (oi := ?oi110) (v := ?vi110) ?h110 (by kernel_rfl) (by kernel_rfl) (by kernel_rfl) ?q110 (Or.inl ⟨?w110, ?y110⟩) hHeld ?r110
  case h110 => first | (simp only [List.getElem?_toArray, List.getElem?_cons_zero, List.getElem?_cons_succ]; done) | (simp only [List.getElem?_toArray, List.getElem?_cons_zero, List.getElem?_cons_succ]; exact rfl)
  case q110 => exact fun _ _ _ h => h
  case w110 => rfl
  case y110 =>
    intro w hSw
    (try dsimp only at hSw)
    obtain ⟨hS1, hS2, hS3⟩ := hSw
    go_simp
    try with_reducible rfl
  try simp only [Act.put, List.setIfInBounds_toArray, List.set_cons_zero, List.set_cons_succ]
  refine wpAnyH_take (i := 14) (oi := ?oi111) (v := ?vi111) ?h111 (by kernel_rfl) (by kernel_rfl) (by kernel_rfl) ?q111 (Or.inl ⟨?w111, ?y111⟩) hHeld ?r111
  case h111 => first | (simp only [List.getElem?_toArray, List.getElem?_cons_zero, List.getElem?_cons_succ]; done) | (simp only [List.getElem?_toArray, List.getElem?_cons_zero, List.getElem?_cons_succ]; exact rfl)
  case q111 => exact fun _ _ _ h => h
  case w111 => rfl
  case y111 =>
    intro w hSw
    (try dsimp only at hSw)
    obtain ⟨hS1, hS2, hS3⟩ := hSw
    go_simp
    try with_reducible rfl
  try simp only [Act.put, List.setIfInBounds_toArray, List.set_cons_zero, List.set_cons_succ]
  refine wpAnyH_take (i := 15) (oi := ?oi112) (v := ?vi112) ?h112 (by kernel_rfl) (by kernel_rfl) (by kernel_rfl) ?q112 (Or.inl ⟨?w112, ?y112⟩) hHeld ?r112
  case h112 => first | (simp only [List.getElem?_toArray, List.getElem?_cons_zero, List.getElem?_cons_succ]; done) | (simp only [List.getElem?_toArray, List.getElem?_cons_zero, List.getElem?_cons_succ]; exact rfl)
  case q112 => exact fun _ _ _ h => h
  case w112 => rfl
  case y112 =>
    intro w hSw
    (try dsimp only at hSw)
    obtain ⟨hS1, hS2, hS3⟩ := hSw
    go_simp
    try with_reducible rfl
  try simp only [Act.put, List.setIfInBounds_toArray, List.set_cons_zero, List.set_cons_succ]
  refine wpAnyH_take (i := 16) (oi := ?oi113) (v := ?vi113) ?h113 (by kernel_rfl) (by kernel_rfl) (by kernel_rfl) ?q113 (Or.inl ⟨?w113, ?y113⟩) hHeld ?r113
  case h113 => first | (simp only [List.getElem?_toArray, List.getElem?_cons_zero, List.getElem?_cons_succ]; done) | (simp only [List.getElem?_toArray, List.getElem?_cons_zero, List.getElem?_cons_succ]; exact rfl)
  case q113 => exact fun _ _ _ h => h
  case w113 => rfl
  case y113 =>
    intro w hSw
    (try dsimp only at hSw)
    obtain ⟨hS1, hS2, hS3⟩ := hSw
    go_simp
    try with_reducible rfl
  try simp only [Act.put, List.setIfInBounds_toArray, List.set_cons_zero, List.set_cons_succ]
  refine wpAnyH_take (i := 17) (oi := ?oi114) (v := ?vi114) ?h114 (by kernel_rfl) (by kernel_rfl) (by kernel_rfl) ?q114 (Or.inl ⟨?w114, ?y114⟩) hHeld ?r114
  case h114 => first | (simp only [List.getElem?_toArray, List.getElem?_cons_zero, List.getElem?_cons_succ]; done) | (simp only [List.getElem?_toArray, List.getElem?_cons_zero, List.getElem?_cons_succ]; exact rfl)
  case q114 => exact fun _ _ _ h => h
  case w114 => rfl
  case y114 =>
    intro w hSw
    (try dsimp only at hSw)
    obtain ⟨hS1, hS2, hS3⟩ := hSw
    go_simp
    try with_reducible rfl
  try simp only [Act.put, List.setIfInBounds_toArray, List.set_cons_zero, List.set_cons_succ]
  refine wpAnyH_take (i := 18) (oi := ?oi115) (v := ?vi115) ?h115 (by kernel_rfl) (by kernel_rfl) (by kernel_rfl) ?q115 (Or.inl ⟨?w115, ?y115⟩) hHeld ?r115
  case h115 => first | (simp only [List.getElem?_toArray, List.getElem?_cons_zero, List.getElem?_cons_succ]; done) | (simp only [List.getElem?_toArray, List.getElem?_cons_zero, List.getElem?_cons_succ]; exact rfl)
  case q115 => exact fun _ _ _ h => h
  case w115 => rfl
  case y115 =>
    intro w hSw
    (try dsimp only at hSw)
    obtain ⟨hS1, hS2, hS3⟩ := hSw
    go_simp
    try with_reducible rfl
  try simp only [Act.put, List.setIfInBounds_toArray, List.set_cons_zero, List.set_cons_succ]
  refine wpAnyH_take (i := 19) (oi := ?oi116) (v := ?vi116) ?h116 (by kernel_rfl) (by kernel_rfl) (by kernel_rfl) ?q116 (Or.inl ⟨?w116, ?y116⟩) hHeld ?r116
  case h116 => first | (simp only [List.getElem?_toArray, List.getElem?_cons_zero, List.getElem?_cons_succ]; done) | (simp only [List.getElem?_toArray, List.getElem?_cons_zero, List.getElem?_cons_succ]; exact rfl)
  case q116 => exact fun _ _ _ h => h
  case w116 => rfl
  case y116 =>
    intro w hSw
    (try dsimp only at hSw)
    obtain ⟨hS1, hS2, hS3⟩ := hSw
    go_simp
    try with_reducible rfl
  try simp only [Act.put, List.setIfInBounds_toArray, List.set_cons_zero, List.set_cons_succ]
  refine wpAnyH_ready (rs := [9]) (by kernel_rfl) (by simp) ?_
  refine AllReadyH.cons (o := ?ob117) ?hb117 (fun K hK => ?_) AllReadyH.nil
  case hb117 => first | (simp only [List.getElem?_toArray, List.getElem?_cons_zero, List.getElem?_cons_succ]; done) | (simp only [List.getElem?_toArray, List.getElem?_cons_zero, List.getElem?_cons_succ]; exact rfl)
  go_simp
  go_at_call 39
  refine HBG.out.mono ?_
  rintro e w' ⟨rfl, hw'⟩
  obtain rfl := hw'.symm
  clear hw'
  go_wp2_with fail
  refine hK.out _ _ k5 (fun hHeld => ?_)
  clear hK K
  try simp only [Act.put, List.setIfInBounds_toArray, List.set_cons_zero, List.set_cons_succ]
  refine wpAnyH_ready (rs := [11]) (by kernel_rfl) (by simp) ?_
  refine AllReadyH.cons (o := ?ob118) ?hb118 (fun K hK => ?_) AllReadyH.nil
  case hb118 => first | (simp only [List.getElem?_toArray, List.getElem?_cons_zero, List.getElem?_cons_succ]; done) | (simp only [List.getElem?_toArray, List.getElem?_cons_zero, List.getElem?_cons_succ]; exact rfl)
  go_simp
  go_at_call 50
  refine HUS.out.mono ?_
  rintro e w' ⟨rfl, hw'⟩
  obtain rfl := hw'.symm
  clear hw'
  go_wp2_with fail
  refine hK.out _ _ k5 (fun hHeld => ?_)
  clear hK K
  try simp only [Act.put, List.setIfInBounds_toArray, List.set_cons_zero, List.set_cons_succ]
  refine wpAnyH_take (i := 12) (oi := ?oi119) (v := ?vi119) ?h119 (by kernel_rfl) (by kernel_rfl) (by kernel_rfl) ?q119 (Or.inl ⟨?w119, ?y119⟩) hHeld ?r119
  case h119 => first | (simp only [List.getElem?_toArray, List.getElem?_cons_zero, List.getElem?_cons_succ]; done) | (simp only [List.getElem?_toArray, List.getElem?_cons_zero, List.getElem?_cons_succ]; exact rfl)
  case q119 => exact fun _ _ _ h => h
  case w119 => rfl
  case y119 =>
    intro w hSw
    (try dsimp only at hSw)
    obtain ⟨hS1, hS2, hS3⟩ := hSw
    go_simp
    try with_reducible rfl
  try simp only [Act.put, List.setIfInBounds_toArray, List.set_cons_zero, List.set_cons_succ]
  refine wpAnyH_take (i := 13) (oi := ?oi120) (v := ?vi120) ?h120 (by kernel_rfl) (by kernel_rfl) (by kernel_rfl) ?q120 (Or.inl ⟨?w120, ?y120⟩) hHeld ?r120
  case h120 => first | (simp only [List.getElem?_toArray, List.getElem?_cons_zero, List.getElem?_cons_succ]; done) | (simp only [List.getElem?_toArray, List.getElem?_cons_zero, List.getElem?_cons_succ]; exact rfl)
  case q120 => exact fun _ _ _ h => h
  case w120 => rfl
  case y120 =>
    intro w hSw
    (try dsimp only at hSw)
    obtain ⟨hS1, hS2, hS3⟩ := hSw
    go_simp
    try with_reducible rfl
  try simp only [Act.put, List.setIfInBounds_toArray, List.set_cons_zero, List.set_cons_succ]
  refine wpAnyH_ready (rs := [20]) (by kernel_rfl) (by simp) ?_
  refine AllReadyH.cons (o := ?ob121) ?hb121 (fun K hK => ?_) AllReadyH.nil
  case hb121 => first | (simp only [List.getElem?_toArray, List.getElem?_cons_zero, List.getElem?_cons_succ]; done) | (simp only [List.getElem?_toArray, List.getElem?_cons_zero, List.getElem?_cons_succ]; exact rfl)
  go_simp
  go_at_call 51
  rw [HW1.out, HW2.out]
  refine HPT.out.mono ?_
  rintro e w6 ⟨rfl, hS6⟩
  have hSS := hS6.non HF5.out
  have d6 := HW.out.1.turned hSS
  have kq := hSS.fp.heap HW.out.1.blk HW.out.1.qn
  have k6 : w6.cell? ⟨q, 0, none⟩ = some (.pointer (some ⟨p.b, 0, none⟩)) ∧ w6.cell? ⟨q, 1, none⟩ = some (.int .i64 (l.ar : Int)) ∧ w6.cell? ⟨q, 2, none⟩ = some (.slice vao l.rs.length vcap) :=
    ⟨by simp [World.cell?, kq], by simp [World.cell?, kq], by simp [World.cell?, kq]⟩
  have HD6 := Lib.hid (And.intro hSS d6)
  have HK6 := Lib.hid k6
  clear hS6 hSS d6 kq k5 hHeld
  go_wp2_with fail
  refine hK.out _ _ k6 (fun hHeld => ?_)
  clear hK K
  try simp only [Act.put, List.setIfInBounds_toArray, List.set_cons_zero, List.set_cons_succ]
  refine wpAnyH_take (i := 21) (oi := ?oi122) (v := ?vi122) ?h122 (by kernel_rfl) (by kernel_rfl) (by kernel_rfl) ?q122 (Or.inl ⟨?w122, ?y122⟩) hHeld ?r122
  case h122 => first | (simp only [List.getElem?_toArray, List.getElem?_cons_zero, List.getElem?_cons_succ]; done) | (simp only [List.getElem?_toArray, List.getElem?_cons_zero, List.getElem?_cons_succ]; exact rfl)
  case q122 => exact fun _ _ _ h => h
  case w122 => rfl
  case y122 =>
    intro w hSw
    (try dsimp only at hSw)
    obtain ⟨hS1, hS2, hS3⟩ := hSw
    go_simp
    try with_reducible rfl
  try simp only [Act.put, List.setIfInBounds_toArray, List.set_cons_zero, List.set_cons_succ]
  refine wpAnyH_done (by kernel_rfl) ?_ _
  by_cases hx : x = 0
  · subst hx
    have h6 := HW.out.1.disk HD6.out.1.ex.choose_spec.1 HD6.out.1.fp HD6.out.1.ex.choose_spec.2.1 HD6.out.1.ex.choose_spec.2.2
    have hse6 : Se w6.drew (.slice ao b.length cap) b := by
      have := (HB.out.1.keep HD6.out.1.fp (fun h0 k hk => HB.out.2.1 h0 k hk)).keep (Fp.refl Non w6).drew (fun _ _ _ h => h)
      rwa [HB.out.2.2.1] at this
    have hin := (Nw.made w6.drew).plus (Fp.refl Non _) (hse6.keep (Nw.made w6.drew).fp (fun _ _ _ h => h)) (by simp only [List.length_nil]; have := HB.out.2.2.2.1; omega) 22
    rw [List.nil_append] at hin
    have HG := Lib.hid (show ∀ x7 w7, Nw w6.drew w7 x7 b → ∃ v' w', (Builtin.append_ #[47, 47] 47 #[.slice vao l.rs.length vcap, .slice (some ⟨w7.heap.size, 0, none⟩) 1 1]).run Tryz.prog (w7.alloc (.cells #[x7] 22)) = .ok v' w' ∧ AppB lo (fun k => D k ∨ (w6.heap.size ≤ k ∧ k < w7.heap.size)) w7 (.slice vao l.rs.length vcap) (l.rs ++ [b]) v' w' from fun x7 w7 hN7 => by
      have f7 : Fp Non w6 w7 := (Fp.refl Non w6).drew.then hN7.fp
      have hbk := h6.1.bo.block
      refine app_bs w7 lo _ _ l.rs x7 b 47 (((h6.1.bo.keep f7 (fun _ _ h => h) (fun _ _ h => h))).wide (fun j hj => .inl hj)) hN7.sl.se (fun _ j hj => ⟨.inr ⟨hN7.block j hj, hN7.sl.below j hj⟩, fun e => ?_⟩) (by omega) (Nat.le_trans (Nat.le_trans h6.1.low (Nat.le_of_lt h6.1.lt)) f7.size) (fun j hj => ?_)
      · have h1 := (hbk j e).2
        have h2 : w6.heap.size ≤ j := hN7.block j hj
        omega
      · rcases hj with hj | hj
        · exact Nat.lt_of_lt_of_le (h6.1.dn j hj).2.1 f7.size
        · exact hj.2)
    have HPU := Lib.hid (show ∀ v' w7 w9, Fp Non w6 w7 → AppB lo (fun k => D k ∨ (w6.heap.size ≤ k ∧ k < w7.heap.size)) w7 (.slice vao l.rs.length vcap) (l.rs ++ [b]) v' w9 → _ from fun v' w7 w9 f7 hA => HW.out.1.push HD6.out.1 f7 hA)
    have HIN := Lib.hid hin
    have c26 := HK6.out.2.2
    have c26b := ((Fp.refl Non w6).alloc (.cells #[] 5)).cell c26 (fun h => h)
    clear hin h6 hse6 k6
    go_wp2_with fail
    go_region_law (first
      | (refine step_app rfl _ _ _ _ rfl _ _ rfl rfl _ HIN.out ?_
         intro x7 w7 hN7
         have f7 : Fp Non w6 w7 := (Fp.refl Non w6).drew.then hN7.fp
         have c27 := f7.cell HK6.out.2.2 (fun h => h)
         have hap := HG.out x7 w7 hN7
         have c27b := ((Fp.refl Non w7).alloc (.cells #[x7] 22)).cell c27 (fun h => h)
         obtain ⟨xao, xn, xcap, rfl⟩ := hN7.shape3
         have HAP := Lib.hid hap
         have HF7 := Lib.hid f7
         clear hN7 f7 hap)
      | (refine step_app rfl _ _ _ _ rfl _ _ rfl rfl _ HAP.out ?_
         intro v9 w9 hR9
         obtain ⟨c9, z9, hD9⟩ := HPU.out _ _ _ HF7.out hR9
         have HFIN := Lib.hid hD9
         obtain ⟨ao9, cap9, hv9⟩ := hR9.bo.shape
         subst hv9
         clear hR9 hD9))
    all_goals go_wp2
    all_goals go_ret
    all_goals exact ⟨rfl, by have h := HFIN.out; rw [List.length_append] at h; exact h⟩
  · have g1 : (x = 0) = False := eq_false hx
    have g2 : (x == 0) = false := beq_eq_false_iff_ne.2 hx
    have HXX := Lib.hid hx
    clear hx k6
    go_wp2
    go_ret
    exact ⟨rfl, fun _ => HD6.out.2, fun h => absurd h HXX.out⟩

theorem rAppend_c {lo q : Nat} {p : At} {v : Value} {D : Nat → Prop} {s : Dk} {l : Lg} {w : World} (h : Du lo q p v D s l w) (hk : Lk s l) (bv : Value) (b : Bs) (hb : Se w bv b) (hn : 0 < b.length → ∀ k, bv.ownBlock = some k → ¬ own4 p k) (hac : s.acts ≤ 990000) :
    Calls Tryz.prog 16 #[.pointer (some ⟨q, 0, none⟩), bv] w fun e w' => e = .returned (.int .i64 (lAppend s l b).1) ∧ DuR lo q p v D (lAppend s l b).2.2 (lAppend s l b).2.1 w w' := by
  unfold lAppend
  by_cases hbig : 16384 < b.length
  · rw [if_pos hbig]
    exact rAppend_big h bv b hb hbig
  · rw [if_neg hbig]
    by_cases hful : hf s.cur < usd l.rs + ln b.length
    · rw [if_pos hful]
      exact rAppend_full h hk bv b hb hbig hful
    · rw [if_neg hful]
      refine (rAppend_good h hk bv b hb hn hac hbig hful _ _ rfl).mono ?_
      rintro e w' ⟨rfl, h1, h2⟩
      refine ⟨rfl, ?_⟩
      simp only
      split
      · rename_i h0; exact h2 h0
      · rename_i h0; exact h1 h0
end Go.Proofs.YtankfmlafmjaeaaGreat
