/- The document's log: the records of an area. -/
import Derived.Test.YtankfmlafmjaeaaGreatVb
import Derived.Deep.RegionHeld3
namespace Go.Proofs.YtankfmlafmjaeaaGreat
open Go.RowKit Pm
set_option maxRecDepth 20000

theorem Sl.part {w : World} {g o n cap : Nat} {l : Bs} (h : Sl w (.slice (some ⟨g, o, none⟩) n cap) l) (p m : Nat) (hp : p + m ≤ l.length) : Sl w (.slice (some ⟨g, o + p, none⟩) m (cap - p)) ((l.drop p).take m) := by
  have hl : ((l.drop p).take m).length = m := by simp; omega
  obtain ⟨ao, cap', e, h1, h2, h3⟩ := h.ex
  injection e with e1 e2 e3
  subst e1 e2 e3
  refine ⟨_, cap - p, by rw [hl], by rw [hl]; omega, by omega, .inr ?_⟩
  rcases h3 with ⟨h0, _⟩ | ⟨g2, o2, e, hg, hc⟩
  · cases h0
  · injection e with e
    injection e with e1 e2
    subst e1 e2
    refine ⟨g, o + p, rfl, hg, fun j hj => ?_⟩
    rw [Nat.add_assoc, hc (p + j) (by omega)]
    simp
/-- In the midst of it. -/
structure RsM (w wr : World) (c : Bs) (acc : List Bs) (ov : Value) : Prop where
  fp : Fp Non w wr
  bo : Bo w.heap.size (fun j => w.heap.size ≤ j ∧ j < wr.heap.size) wr ov acc
  eq : scan c 0 = acc ++ scan (c.drop (usd acc)) acc.length
  le : usd acc ≤ c.length
theorem RsM.some {w wr w3 : World} {c b : Bs} {acc : List Bs} {ov ov' : Value} (h : RsM w wr c acc ov) (hm : c.length % 16 = 0) (hf : front (c.drop (usd acc)) acc.length = some b) (f : Fp Non w w3)
    (hb : Bo w.heap.size (fun j => w.heap.size ≤ j ∧ j < w3.heap.size) w3 ov' (acc ++ [b])) : RsM w w3 c (acc ++ [b]) ov' := by
  have hl : (c.drop (usd acc)).length = c.length - usd acc := List.length_drop ..
  have hum := usd_mod acc
  have h1 := front_ln (by rw [hl]; omega) hf
  have hle := h.le
  refine ⟨f, hb, ?_, by rw [usd_app, usd_cons, usd_nil]; omega⟩
  rw [h.eq, scan_some hf, List.drop_drop, usd_app, usd_cons, usd_nil, List.length_append, List.append_assoc]
  rfl
theorem RsM.none {w wr : World} {c : Bs} {acc : List Bs} {ov : Value} (h : RsM w wr c acc ov) (hf : front (c.drop (usd acc)) acc.length = none) : scan c 0 = acc := by rw [h.eq, scan_none hf, List.append_nil]

/-- What it answers. -/
structure RsR (w w' : World) (c : Bs) (u : Value) : Prop where
  fp : Fp Non w w'
  bo : Bo w.heap.size (fun j => w.heap.size ≤ j ∧ j < w'.heap.size) w' u (scan c 0)

theorem cnt_four (c : Bs) (A : Nat) (h : A + 16 ≤ c.length) : cnt ((c.drop A).take 16) = (((c.getD (A + 5) 0).toNat * 256 + (c.getD (A + 6) 0).toNat) * 256 + (c.getD (A + 7) 0).toNat) * 256 + (c.getD (A + 8) 0).toNat := by
  have hl : ((c.drop A).take 16).length = 16 := by simp; omega
  have hg : ∀ k, k < 4 → ∀ hh, (((c.drop A).take 16)[5 + k]'hh).toNat = (c.getD (A + (5 + k)) 0).toNat := fun k hk hh => by
    simp [List.getD, show A + (5 + k) < c.length by omega]
  rw [← ck_all _ hl, ck_step _ hl 3 (by omega), ck_step _ hl 2 (by omega), ck_step _ hl 1 (by omega), ck_step _ hl 0 (by omega), hg 3 (by omega), hg 2 (by omega), hg 1 (by omega), hg 0 (by omega)]
  simp [ck]

theorem or_add (a b : Nat) (i : Nat) (hb : b < 2 ^ i) : a * 2 ^ i ||| b = a * 2 ^ i + b := by
  have := Nat.shiftLeft_add_eq_or_of_lt hb a
  rw [Nat.shiftLeft_eq] at this
  exact this.symm
theorem or_four (a b c d : Nat) (ha : a < 256) (hb : b < 256) (hc : c < 256) (hd : d < 256) :
    bits .or .i64 (bits .or .i64 (bits .or .i64 ((a : Int) * 16777216) ((b : Int) * 65536)) ((c : Int) * 256)) (d : Int) = (((((a * 256 + b) * 256 + c) * 256 + d : Nat)) : Int) := by
  have e1 : (a : Int) * 16777216 = ((a * 2 ^ 24 : Nat) : Int) := by omega
  have e2 : (b : Int) * 65536 = ((b * 65536 : Nat) : Int) := by omega
  have e3 : (c : Int) * 256 = ((c * 256 : Nat) : Int) := by omega
  rw [e1, e2, e3, i64_or_nat _ _ (by omega) (by omega), or_add a (b * 65536) 24 (by omega), show a * 2 ^ 24 + b * 65536 = (a * 256 + b) * 2 ^ 16 by omega, i64_or_nat _ _ (by omega) (by omega), or_add _ (c * 256) 16 (by omega),
    show (a * 256 + b) * 2 ^ 16 + c * 256 = ((a * 256 + b) * 256 + c) * 2 ^ 8 by omega, i64_or_nat _ _ (by omega) (by omega), or_add _ d 8 (by omega)]

attribute [local irreducible] wpStill

set_option maxHeartbeats 4000000 in
theorem rscan_c (g o cap : Nat) (c : Bs) (w : World) (hv : Sl w (.slice (some ⟨g, o, none⟩) c.length cap) c) (hc : c.length ≤ 65536) (hm : c.length % 16 = 0) :
    Calls Tryz.prog 41 #[.slice (some ⟨g, o, none⟩) c.length cap] w fun e w' => ∃ u, e = .returned (.tuple #[u, .int .i64 (nds (scan c 0) : Int)]) ∧ RsR w w' c u := by
  have H0 : Hid (RsM w w c [] (.slice none 0 0)) := ⟨Fp.refl _ _, Bo.nil _ _ _, by simp [usd_nil], by simp [usd_nil]⟩
  obtain ⟨ao', cap', hve, h1, h2, h3⟩ := hv.ex
  injection hve with e1 e2 e3
  subst e3
  have hcl : c.length ≤ 9223372036854775807 := by omega
  have hcapl : cap ≤ 9223372036854775807 := by unfold maxLen at h2; omega
  have HV := Lib.hid (And.intro hv (And.intro hm hc))
  clear hv h3 h2 e1
  go_enter Tryz.func41, Tryz.ntmps41
  go_wp2_with fail
  go_loopw [4, 5] (fun ov av wr => ∃ acc, av = .int .i64 ((nds acc * 16 : Nat) : Int) ∧ Hid (RsM w wr c acc ov)) (fun _ av _ => c.length - (RowKit.intOf av).toNat)
  case atStart => exact ⟨[], rfl, H0⟩
  case round =>
    obtain ⟨acc, rfl, hR⟩ := hrel
    rename_i wr _
    obtain ⟨aao, acap, hov⟩ := hR.out.bo.shape
    have hun := usd_nds acc
    have hle := hR.out.le
    have hal := usd_ge acc
    obtain ⟨A, hA⟩ : ∃ A, A = nds acc * 16 := ⟨_, rfl⟩
    have hAu : usd acc = A := by omega
    have hAm : A % 16 = 0 := by omega
    rw [← hA]
    have hdl : (c.drop A).length = c.length - A := List.length_drop ..
    subst hov
    by_cases hlt : A + 16 ≤ c.length
    · have q1 : ((A : Int) + 16 ≤ (c.length : Int)) = True := eq_true (by omega)
      have q2 : (A + 16 ≤ c.length) = True := eq_true hlt
      have q3 : ((A : Int) + 16 ≤ (cap : Int)) = True := eq_true (by omega)
      have q4 : (A + 16 ≤ cap) = True := eq_true (by omega)
      have q5 : (cap = A) = False := eq_false (by omega)
      have q6 : A + 16 - A = 16 := by omega
      have hAb : A ≤ 65536 := by omega
      have hcell : ∀ j, j < 16 → wr.cell? ⟨g, o + A + j, none⟩ = some (.int .u8 ((c.getD (A + j) 0).toNat : Int)) := fun j hj => by
        rcases HV.out.1.keep hR.out.fp (fun _ _ h => h) |>.ex with ⟨ao2, cap2, e, _, _, ⟨h0, _⟩ | ⟨g2, o2, e3, _, hcc⟩⟩
        · injection e with e; rw [h0] at e; cases e
        · injection e with e; rw [e3] at e; injection e with e; injection e with e1 e2
          subst e1 e2
          have := hcc (A + j) (by omega)
          rw [← Nat.add_assoc] at this
          rw [this]; simp [List.getD, show A + j < c.length by omega]
      have hc5 := hcell 5 (by omega)
      have hc6 := hcell 6 (by omega)
      have hc7 := hcell 7 (by omega)
      have hc8 := hcell 8 (by omega)
      generalize hx5 : (c.getD (A + 5) 0).toNat = x5 at hc5
      generalize hx6 : (c.getD (A + 6) 0).toNat = x6 at hc6
      generalize hx7 : (c.getD (A + 7) 0).toNat = x7 at hc7
      generalize hx8 : (c.getD (A + 8) 0).toNat = x8 at hc8
      have hb5 : x5 < 256 := by rw [← hx5]; exact UInt8.toNat_lt _
      have hb6 : x6 < 256 := by rw [← hx6]; exact UInt8.toNat_lt _
      have hb7 : x7 < 256 := by rw [← hx7]; exact UInt8.toNat_lt _
      have hb8 : x8 < 256 := by rw [← hx8]; exact UInt8.toNat_lt _
      have HX8 := Lib.hid (And.intro hx5 (And.intro hx6 (And.intro hx7 hx8)))
      have HY := Lib.hid (And.intro hdl (And.intro hun (And.intro hle (And.intro hal (And.intro hA (And.intro hAu hAm))))))
      clear hcell hx5 hx6 hx7 hx8 hdl hun hle hal hA hAu hAm
      have HQ0 := Lib.hid (or_four x5 x6 x7 x8 hb5 hb6 hb7 hb8)
      have hcn := cnt_four c A hlt
      rw [HX8.out.1, HX8.out.2.1, HX8.out.2.2.1, HX8.out.2.2.2] at hcn
      obtain ⟨n, hn⟩ : ∃ n, n = ((x5 * 256 + x6) * 256 + x7) * 256 + x8 := ⟨_, rfl⟩
      rw [← hn] at HQ0 hcn
      have hnb : n < 4294967296 := by omega
      have hfr : front (c.drop A) acc.length = if 16384 < n ∨ c.length - A - 16 < n ∨ (c.drop A).take 16 ≠ hdr acc.length ((c.drop (A + 16)).take n) then none else some ((c.drop (A + 16)).take n) := by
        unfold front
        rw [if_neg (by rw [HY.out.1]; omega), hcn, HY.out.1, List.drop_drop]
      have t1 : (A : Int).tdiv 16 = ((nds acc : Nat) : Int) := by have := HY.out.2.2.2.2.1; rw [Int.tdiv_eq_ediv_of_nonneg (by omega)]; omega
      have t2 : (A : Int) / 16 = ((nds acc : Nat) : Int) := by have := HY.out.2.2.2.2.1; omega
      have HF := Lib.hid (And.intro hfr (And.intro hcn hn))
      clear hfr hcn hn
      have hnone : front (c.drop A) acc.length = none → scan c 0 = acc := fun h => hR.out.none (by rw [HY.out.2.2.2.2.2.1]; exact h)
      have HNO := Lib.hid hnone
      clear hnone
      by_cases hbig : 16384 < n
      · have r1 : ((16384 : Int) < (n : Int)) = True := eq_true (by omega)
        have hend := HNO.out (by rw [HF.out.1, if_pos (.inl hbig)])
        have HE := Lib.hid (And.intro hend hbig)
        clear hend hbig
        have qn := HQ0.out
        go_wp2_with fail
        go_quiet (fail)
        clear qn
        go_wp2
        all_goals (go_ret2; exact ⟨.slice aao acc.length acap, by rw [HE.out.1]; rfl, hR.out.fp.drewN _, by rw [HE.out.1]; exact hR.out.bo.keep ((Fp.refl Non wr).drewN _) (fun _ _ h => h) (fun _ _ h => h)⟩)
      · have r1 : ((16384 : Int) < (n : Int)) = False := eq_false (by omega)
        have hnd : ∀ w, Calls Tryz.prog 49 #[.int .i64 (n : Int)] w fun e w' => e = .returned (.int .i64 (nd n : Int)) ∧ w' = w := fun w => Need_c n (by omega) w
        obtain ⟨m, hm2⟩ : ∃ m, m = nd n := ⟨_, rfl⟩
        rw [← hm2] at hnd
        have hmb : m ≤ 10000 := by rw [hm2]; unfold nd; omega
        have hmn : m * 16 = ln n := by rw [ln_nd, hm2]
        have HND := Lib.hid hnd
        clear hnd
        by_cases hfit : c.length - A - 16 < n
        · have r2 : ((c.length : Int) - (A : Int) < (m : Int) * 16) = True := eq_true (by have := HY.out.2.2.2.2.2.2; unfold ln up at hmn; omega)
          have hend := HNO.out (by rw [HF.out.1, if_pos (.inr (.inl hfit))])
          have HE := Lib.hid (And.intro hend (And.intro hfit (And.intro hmn hm2)))
          clear hend hfit hmn hm2
          have qn := HQ0.out
          go_wp2_with fail
          go_quiet (fail)
          clear qn
          go_wp2_with fail
          refine (HND.out _).mono ?_
          rintro e w1 ⟨rfl, rfl⟩
          go_wp2
          all_goals (go_ret2; exact ⟨.slice aao acc.length acap, by rw [HE.out.1]; rfl, hR.out.fp.drewN _, by rw [HE.out.1]; exact hR.out.bo.keep ((Fp.refl Non wr).drewN _) (fun _ _ h => h) (fun _ _ h => h)⟩)
        · have r2 : ((c.length : Int) - (A : Int) < (m : Int) * 16) = False := eq_false (by have := HY.out.2.2.2.2.2.2; unfold ln up at hmn; omega)
          have HE0 := Lib.hid (And.intro hfit (And.intro hmn hm2))
          obtain ⟨data, hdata⟩ : ∃ data, data = ((c.drop (A + 16)).take n) := ⟨_, rfl⟩
          obtain ⟨h16, hh16⟩ : ∃ h16, h16 = ((c.drop A).take 16) := ⟨_, rfl⟩
          obtain ⟨hd, hhd⟩ : ∃ hd, hd = hdr acc.length data := ⟨_, rfl⟩
          have hdl : data.length = n := by rw [hdata, List.length_take, List.length_drop]; omega
          have hal : acc.length ≤ 65535 := by have := HY.out.2.2.1; have := HY.out.2.2.2.1; omega
          have HL2 := Lib.hid (show data.length ≤ 16384 ∧ acc.length ≤ 65535 from ⟨by omega, hal⟩)
          have HL3 := Lib.hid hhd
          have HL4 := Lib.hid (And.intro hdata (And.intro hh16 hdl))
          have r3 : ((A : Int) + 16 + (n : Int) ≤ (cap : Int)) = True := eq_true (by omega)
          have r4 : (A + 16 + n ≤ cap) = True := eq_true (by omega)
          have hfr2 : front (c.drop A) acc.length = if h16 ≠ hd then none else some data := by
            rw [HF.out.1, hhd, hh16, hdata]
            by_cases hx : (c.drop A).take 16 ≠ hdr acc.length ((c.drop (A + 16)).take n)
            · rw [if_pos (.inr (.inr hx)), if_pos hx]
            · rw [if_neg (fun h => by rcases h with h | h | h <;> first | exact hbig h | exact HE0.out.1 h | exact hx h), if_neg hx]
          have HFR := Lib.hid hfr2
          have hpart := HV.out.1.keep hR.out.fp (fun _ _ h => h)
          have hh := hpart.part A 16 hlt
          rw [← hh16] at hh
          by_cases hca : cap = A + 16
          · have hn0 : n = 0 := by omega
            have hse : Se wr (.slice (some ⟨g, o, none⟩) n 0) data := by
              have hnil : data = [] := List.eq_nil_of_length_eq_zero (by omega)
              rw [hnil, hn0]
              exact .inr ⟨rfl, _, _, rfl⟩
            rw [show cap - A = 16 by omega] at hh
            have HH := Lib.hid hh
            have HS := Lib.hid hse
            have HCA := Lib.hid hca
            clear hfit hmn hm2 hdata hh16 hhd hdl hal hfr2 hpart hh hse hn0 hca
            by_cases heq : h16 = hd
            · have hsome : front (c.drop A) acc.length = some data := by rw [HFR.out, if_neg (fun h => h heq)]
              have HE := Lib.hid hsome
              clear hsome
              have qn := HQ0.out
              go_wp2_with fail
              go_quiet (fail)
              clear qn
              go_wp2_with fail
              refine (HND.out _).mono ?_
              rintro e w1 ⟨rfl, rfl⟩
              go_wp2_with fail
              case inl =>
                have hcap := HCA.out
                subst hcap
                have W1f : Fp Non wr (wr.drewN nq).drew := ((Fp.refl Non wr).drewN nq).drew
                have k1 : (convert 22 9 (.slice (some ⟨g, o + A, none⟩) 16 16)).run Tryz.prog (wr.drewN nq).drew = .ok (.string (B h16)) (wr.drewN nq).drew := conv_sl _ _ _ (HH.out.keep W1f (fun _ _ h => h))
                have hcall := rhead_c acc.length _ data (wr.drewN nq).drew (HS.out.keep W1f (fun _ _ _ h => h)) HL2.out.1 HL2.out.2
                have HCALL := Lib.hid hcall
                have HW1 := Lib.hid W1f
                clear hcall W1f
                refine wp_region_held_drew (S := (fun w' => (convert 22 9 (.slice (some ⟨g, o + A, none⟩) 16 16)).run Tryz.prog w' = .ok (.string (B h16)) w')) (by kernel_rfl) ?_ (fun hHeld => ?_)
                · exact k1
                refine wpAnyH_take (i := 0) (oi := ?oi101) (v := ?vi101) ?h101 (by kernel_rfl) (by kernel_rfl) (by kernel_rfl) ?q101 (Or.inl ⟨?w101, ?y101⟩) hHeld ?r101
                case h101 => first | (simp only [List.getElem?_toArray, List.getElem?_cons_zero]; done) | (simp only [List.getElem?_toArray, List.getElem?_cons_zero]; exact rfl)
                case q101 => exact fun _ _ _ h => h
                case w101 => rfl
                case y101 =>
                  intro w hSw
                  (try dsimp only at hSw)
                  skip
                  go_simp
                  try with_reducible rfl
                try simp only [Act.put, List.setIfInBounds_toArray, List.set_cons_zero, List.set_cons_succ]
                refine wpAnyH_take (i := 1) (oi := ?oi102) (v := ?vi102) ?h102 (by kernel_rfl) (by kernel_rfl) (by kernel_rfl) ?q102 (Or.inl ⟨?w102, ?y102⟩) hHeld ?r102
                case h102 => first | (simp only [List.getElem?_toArray, List.getElem?_cons_zero, List.getElem?_cons_succ]; done) | (simp only [List.getElem?_toArray, List.getElem?_cons_zero, List.getElem?_cons_succ]; exact rfl)
                case q102 => exact fun _ _ _ h => h
                case w102 => rfl
                case y102 =>
                  intro w hSw
                  (try dsimp only at hSw)
                  skip
                  go_simp
                  try with_reducible rfl
                try simp only [Act.put, List.setIfInBounds_toArray, List.set_cons_zero, List.set_cons_succ]
                refine wpAnyH_take (i := 2) (oi := ?oi103) (v := ?vi103) ?h103 (by kernel_rfl) (by kernel_rfl) (by kernel_rfl) ?q103 (Or.inl ⟨?w103, ?y103⟩) hHeld ?r103
                case h103 => first | (simp only [List.getElem?_toArray, List.getElem?_cons_zero, List.getElem?_cons_succ]; done) | (simp only [List.getElem?_toArray, List.getElem?_cons_zero, List.getElem?_cons_succ]; exact rfl)
                case q103 => exact fun _ _ _ h => h
                case w103 => rfl
                case y103 =>
                  intro w hSw
                  (try dsimp only at hSw)
                  skip
                  go_simp
                  try with_reducible rfl
                try simp only [Act.put, List.setIfInBounds_toArray, List.set_cons_zero, List.set_cons_succ]
                refine wpAnyH_take (i := 5) (oi := ?oi104) (v := ?vi104) ?h104 (by kernel_rfl) (by kernel_rfl) (by kernel_rfl) ?q104 (Or.inl ⟨?w104, ?y104⟩) hHeld ?r104
                case h104 => first | (simp only [List.getElem?_toArray, List.getElem?_cons_zero, List.getElem?_cons_succ]; done) | (simp only [List.getElem?_toArray, List.getElem?_cons_zero, List.getElem?_cons_succ]; exact rfl)
                case q104 => exact fun _ _ _ h => h
                case w104 => rfl
                case y104 =>
                  intro w hSw
                  (try dsimp only at hSw)
                  skip
                  go_simp
                  try with_reducible rfl
                try simp only [Act.put, List.setIfInBounds_toArray, List.set_cons_zero, List.set_cons_succ]
                refine wpAnyH_take (i := 6) (oi := ?oi105) (v := ?vi105) ?h105 (by kernel_rfl) (by kernel_rfl) (by kernel_rfl) ?q105 (Or.inl ⟨?w105, ?y105⟩) hHeld ?r105
                case h105 => first | (simp only [List.getElem?_toArray, List.getElem?_cons_zero, List.getElem?_cons_succ]; done) | (simp only [List.getElem?_toArray, List.getElem?_cons_zero, List.getElem?_cons_succ]; exact rfl)
                case q105 => exact fun _ _ _ h => h
                case w105 => rfl
                case y105 =>
                  intro w hSw
                  (try dsimp only at hSw)
                  skip
                  go_simp
                  try with_reducible rfl
                try simp only [Act.put, List.setIfInBounds_toArray, List.set_cons_zero, List.set_cons_succ]
                refine wpAnyH_ready (rs := [3]) (by kernel_rfl) (by simp) ?_
                refine AllReadyH.cons (o := ?ob106) ?hb106 (fun K hK => ?_) AllReadyH.nil
                case hb106 => first | (simp only [List.getElem?_toArray, List.getElem?_cons_zero, List.getElem?_cons_succ]; done) | (simp only [List.getElem?_toArray, List.getElem?_cons_zero, List.getElem?_cons_succ]; exact rfl)
                go_simp
                go_at_call 62
                refine HCALL.out.mono ?_
                rintro e w2 ⟨u, rfl, hN⟩
                have hf2 : Fp Non wr w2 := HW1.out.then hN.fp
                have s2 := hN.sl
                obtain ⟨vao, vlen, vcap, rfl⟩ := hN.shape3
                have k2 : (convert 22 9 (.slice vao vlen vcap)).run Tryz.prog w2 = .ok (.string (B hd)) w2 := conv_sl _ _ _ (by rw [HL3.out]; exact s2)
                have k3 : (convert 22 9 (.slice (some ⟨g, o + A, none⟩) 16 16)).run Tryz.prog w2 = .ok (.string (B h16)) w2 := conv_sl _ _ _ (HH.out.keep hf2 (fun _ _ h => h))
                have HF2 := Lib.hid hf2
                clear hN hf2 s2 k1 hHeld
                go_wp2_with fail
                refine hK.out _ _ k3 (fun hHeld => ?_)
                clear hK K
                try simp only [Act.put, List.setIfInBounds_toArray, List.set_cons_zero, List.set_cons_succ]
                refine wpAnyH_ready (rs := [4]) (by kernel_rfl) (by simp) ?_
                refine AllReadyH.cons (o := ?ob107) ?hb107 (fun K hK => ?_) AllReadyH.nil
                case hb107 => first | (simp only [List.getElem?_toArray, List.getElem?_cons_zero, List.getElem?_cons_succ]; done) | (simp only [List.getElem?_toArray, List.getElem?_cons_zero, List.getElem?_cons_succ]; exact rfl)
                go_simp
                refine hK.out _ _ k3 (fun hHeld => ?_)
                clear hK K
                try simp only [Act.put, List.setIfInBounds_toArray, List.set_cons_zero, List.set_cons_succ]
                refine wpAnyH_take (i := 7) (oi := ?oi108) (v := ?vi108) ?h108 (by kernel_rfl) (by kernel_rfl) (by kernel_rfl) ?q108 (Or.inl ⟨?w108, ?y108⟩) hHeld ?r108
                case h108 => first | (simp only [List.getElem?_toArray, List.getElem?_cons_zero, List.getElem?_cons_succ]; done) | (simp only [List.getElem?_toArray, List.getElem?_cons_zero, List.getElem?_cons_succ]; exact rfl)
                case q108 => exact fun _ _ _ h => h
                case w108 => rfl
                case y108 =>
                  intro w hSw
                  (try dsimp only at hSw)
                  skip
                  go_simp
                  try with_reducible rfl
                try simp only [Act.put, List.setIfInBounds_toArray, List.set_cons_zero, List.set_cons_succ]
                refine wpAnyH_done (by kernel_rfl) ?_ _
                have happ := (Nw.made w2).plus (Fp.refl Non _) ((HS.out.keep HF2.out (fun _ _ _ h => h)).keep (Nw.made w2).fp (fun _ _ _ h => h)) (by simp only [List.length_nil]; have := HL2.out.1; omega) 22
                rw [List.nil_append] at happ
                have HA := Lib.hid happ
                clear happ
                go_wp2_with (at_builtin; go_must (refine wpList_app rfl _ _ _ _ rfl _ _ rfl rfl _ HA.out ?_))
                intro v3 w3 hN3
                have hf3 : Fp Non wr w3 := HF2.out.then hN3.fp
                have hbk := hR.out.bo.block
                have hbo2 := (hR.out.bo.keep hf3 (fun _ _ h => h) (fun _ _ h => h)).wide (E := fun j => w.heap.size ≤ j ∧ j < w3.heap.size) (fun j hj => ⟨hj.1, Nat.lt_of_lt_of_le hj.2 hf3.size⟩)
                have hap := app_bs w3 w.heap.size _ _ acc v3 data 47 hbo2 hN3.sl.se (fun _ j hj => ⟨⟨Nat.le_trans (Nat.le_trans hR.out.fp.size HF2.out.size) (hN3.block j hj), hN3.sl.below j hj⟩, fun e => by have h1 := (hbk j e).2; have h2 := hN3.block j hj; have h3 := HF2.out.size; omega⟩) (by have := HL2.out.2; omega) (Nat.le_trans hR.out.fp.size hf3.size) (fun j hj => hj.2)
                obtain ⟨xao, xn, xcap, rfl⟩ := hN3.shape3
                have HAP := Lib.hid hap
                have HF3 := Lib.hid (And.intro hf3 hbk)
                clear hap hf3 hbk hbo2 hN3 HA
                go_wp2_with (at_builtin; go_must (refine wpList_app rfl _ _ _ _ rfl _ _ rfl rfl _ HAP.out ?_))
                intro v4 w4 hR4
                have hM : Hid (RsM w w4 c (acc ++ [data]) v4) := by
                  have hf4 : Fp Non w w4 := hR4.fp (hR.out.fp.then HF3.out.1) (fun j hj => .inr (HF3.out.2 j hj).1)
                  have hf34 : w3.heap.size ≤ w4.heap.size := (hR4.fp (S := fun _ => True) (Fp.refl _ w3) (fun _ _ => .inl trivial)).size
                  exact hR.out.some hm (by rw [HY.out.2.2.2.2.2.1]; exact HE.out) hf4 (hR4.bo.wide (fun j hj => ⟨hj.1, Nat.lt_of_lt_of_le hj.2 hf34⟩))
                obtain ⟨vao4, vcap4, rfl⟩ := hR4.bo.shape
                have hnx : A + m * 16 = nds (acc ++ [data]) * 16 := by
                  rw [nds_app, nds_cons, nds_nil, HL4.out.2.2, ← HE0.out.2.2]; have := HY.out.2.2.2.2.1; omega
                have HNX := Lib.hid hnx
                have hnx2 : ((A : Int) + (m : Int) * 16) = ((nds (acc ++ [data]) * 16 : Nat) : Int) := by rw [← hnx]; omega
                have HN2 := Lib.hid hnx2
                have hm1 : 1 ≤ m := by rw [HE0.out.2.2]; unfold nd; omega
                rw [List.length_append] at hM
                clear hR4 hnx hnx2
                go_wp2_with fail
                refine (HND.out _).mono ?_
                rintro e w5 ⟨rfl, rfl⟩
                go_wp2
                go_roundw
                case rel => exact ⟨acc ++ [data], congrArg (Value.int .i64) HN2.out, by simpa using hM⟩
                case measure => simp [RowKit.intOf]; omega
            · have hne : ((B hd).toList == (B h16).toList) = false := by rw [B_eq]; exact decide_eq_false (fun e => heq e.symm)
              have hend := HNO.out (by rw [HFR.out, if_pos heq])
              have HE := Lib.hid (And.intro hend heq)
              clear hend heq
              have qn := HQ0.out
              go_wp2_with fail
              go_quiet (fail)
              clear qn
              go_wp2_with fail
              refine (HND.out _).mono ?_
              rintro e w1 ⟨rfl, rfl⟩
              go_wp2_with fail
              case inl =>
                have hcap := HCA.out
                subst hcap
                have W1f : Fp Non wr (wr.drewN nq).drew := ((Fp.refl Non wr).drewN nq).drew
                have k1 : (convert 22 9 (.slice (some ⟨g, o + A, none⟩) 16 16)).run Tryz.prog (wr.drewN nq).drew = .ok (.string (B h16)) (wr.drewN nq).drew := conv_sl _ _ _ (HH.out.keep W1f (fun _ _ h => h))
                have hcall := rhead_c acc.length _ data (wr.drewN nq).drew (HS.out.keep W1f (fun _ _ _ h => h)) HL2.out.1 HL2.out.2
                have HCALL := Lib.hid hcall
                have HW1 := Lib.hid W1f
                clear hcall W1f
                refine wp_region_held_drew (S := (fun w' => (convert 22 9 (.slice (some ⟨g, o + A, none⟩) 16 16)).run Tryz.prog w' = .ok (.string (B h16)) w')) (by kernel_rfl) ?_ (fun hHeld => ?_)
                · exact k1
                refine wpAnyH_take (i := 0) (oi := ?oi109) (v := ?vi109) ?h109 (by kernel_rfl) (by kernel_rfl) (by kernel_rfl) ?q109 (Or.inl ⟨?w109, ?y109⟩) hHeld ?r109
                case h109 => first | (simp only [List.getElem?_toArray, List.getElem?_cons_zero]; done) | (simp only [List.getElem?_toArray, List.getElem?_cons_zero]; exact rfl)
                case q109 => exact fun _ _ _ h => h
                case w109 => rfl
                case y109 =>
                  intro w hSw
                  (try dsimp only at hSw)
                  skip
                  go_simp
                  try with_reducible rfl
                try simp only [Act.put, List.setIfInBounds_toArray, List.set_cons_zero, List.set_cons_succ]
                refine wpAnyH_take (i := 1) (oi := ?oi110) (v := ?vi110) ?h110 (by kernel_rfl) (by kernel_rfl) (by kernel_rfl) ?q110 (Or.inl ⟨?w110, ?y110⟩) hHeld ?r110
                case h110 => first | (simp only [List.getElem?_toArray, List.getElem?_cons_zero, List.getElem?_cons_succ]; done) | (simp only [List.getElem?_toArray, List.getElem?_cons_zero, List.getElem?_cons_succ]; exact rfl)
                case q110 => exact fun _ _ _ h => h
                case w110 => rfl
                case y110 =>
                  intro w hSw
                  (try dsimp only at hSw)
                  skip
                  go_simp
                  try with_reducible rfl
                try simp only [Act.put, List.setIfInBounds_toArray, List.set_cons_zero, List.set_cons_succ]
                refine wpAnyH_take (i := 2) (oi := ?oi111) (v := ?vi111) ?h111 (by kernel_rfl) (by kernel_rfl) (by kernel_rfl) ?q111 (Or.inl ⟨?w111, ?y111⟩) hHeld ?r111
                case h111 => first | (simp only [List.getElem?_toArray, List.getElem?_cons_zero, List.getElem?_cons_succ]; done) | (simp only [List.getElem?_toArray, List.getElem?_cons_zero, List.getElem?_cons_succ]; exact rfl)
                case q111 => exact fun _ _ _ h => h
                case w111 => rfl
                case y111 =>
                  intro w hSw
                  (try dsimp only at hSw)
                  skip
                  go_simp
                  try with_reducible rfl
                try simp only [Act.put, List.setIfInBounds_toArray, List.set_cons_zero, List.set_cons_succ]
                refine wpAnyH_take (i := 5) (oi := ?oi112) (v := ?vi112) ?h112 (by kernel_rfl) (by kernel_rfl) (by kernel_rfl) ?q112 (Or.inl ⟨?w112, ?y112⟩) hHeld ?r112
                case h112 => first | (simp only [List.getElem?_toArray, List.getElem?_cons_zero, List.getElem?_cons_succ]; done) | (simp only [List.getElem?_toArray, List.getElem?_cons_zero, List.getElem?_cons_succ]; exact rfl)
                case q112 => exact fun _ _ _ h => h
                case w112 => rfl
                case y112 =>
                  intro w hSw
                  (try dsimp only at hSw)
                  skip
                  go_simp
                  try with_reducible rfl
                try simp only [Act.put, List.setIfInBounds_toArray, List.set_cons_zero, List.set_cons_succ]
                refine wpAnyH_take (i := 6) (oi := ?oi113) (v := ?vi113) ?h113 (by kernel_rfl) (by kernel_rfl) (by kernel_rfl) ?q113 (Or.inl ⟨?w113, ?y113⟩) hHeld ?r113
                case h113 => first | (simp only [List.getElem?_toArray, List.getElem?_cons_zero, List.getElem?_cons_succ]; done) | (simp only [List.getElem?_toArray, List.getElem?_cons_zero, List.getElem?_cons_succ]; exact rfl)
                case q113 => exact fun _ _ _ h => h
                case w113 => rfl
                case y113 =>
                  intro w hSw
                  (try dsimp only at hSw)
                  skip
                  go_simp
                  try with_reducible rfl
                try simp only [Act.put, List.setIfInBounds_toArray, List.set_cons_zero, List.set_cons_succ]
                refine wpAnyH_ready (rs := [3]) (by kernel_rfl) (by simp) ?_
                refine AllReadyH.cons (o := ?ob114) ?hb114 (fun K hK => ?_) AllReadyH.nil
                case hb114 => first | (simp only [List.getElem?_toArray, List.getElem?_cons_zero, List.getElem?_cons_succ]; done) | (simp only [List.getElem?_toArray, List.getElem?_cons_zero, List.getElem?_cons_succ]; exact rfl)
                go_simp
                go_at_call 62
                refine HCALL.out.mono ?_
                rintro e w2 ⟨u, rfl, hN⟩
                have hf2 : Fp Non wr w2 := HW1.out.then hN.fp
                have s2 := hN.sl
                obtain ⟨vao, vlen, vcap, rfl⟩ := hN.shape3
                have k2 : (convert 22 9 (.slice vao vlen vcap)).run Tryz.prog w2 = .ok (.string (B hd)) w2 := conv_sl _ _ _ (by rw [HL3.out]; exact s2)
                have k3 : (convert 22 9 (.slice (some ⟨g, o + A, none⟩) 16 16)).run Tryz.prog w2 = .ok (.string (B h16)) w2 := conv_sl _ _ _ (HH.out.keep hf2 (fun _ _ h => h))
                have HF2 := Lib.hid hf2
                clear hN hf2 s2 k1 hHeld
                go_wp2_with fail
                refine hK.out _ _ k3 (fun hHeld => ?_)
                clear hK K
                try simp only [Act.put, List.setIfInBounds_toArray, List.set_cons_zero, List.set_cons_succ]
                refine wpAnyH_ready (rs := [4]) (by kernel_rfl) (by simp) ?_
                refine AllReadyH.cons (o := ?ob115) ?hb115 (fun K hK => ?_) AllReadyH.nil
                case hb115 => first | (simp only [List.getElem?_toArray, List.getElem?_cons_zero, List.getElem?_cons_succ]; done) | (simp only [List.getElem?_toArray, List.getElem?_cons_zero, List.getElem?_cons_succ]; exact rfl)
                go_simp
                refine hK.out _ _ k3 (fun hHeld => ?_)
                clear hK K
                try simp only [Act.put, List.setIfInBounds_toArray, List.set_cons_zero, List.set_cons_succ]
                refine wpAnyH_take (i := 7) (oi := ?oi116) (v := ?vi116) ?h116 (by kernel_rfl) (by kernel_rfl) (by kernel_rfl) ?q116 (Or.inl ⟨?w116, ?y116⟩) hHeld ?r116
                case h116 => first | (simp only [List.getElem?_toArray, List.getElem?_cons_zero, List.getElem?_cons_succ]; done) | (simp only [List.getElem?_toArray, List.getElem?_cons_zero, List.getElem?_cons_succ]; exact rfl)
                case q116 => exact fun _ _ _ h => h
                case w116 => rfl
                case y116 =>
                  intro w hSw
                  (try dsimp only at hSw)
                  skip
                  go_simp
                  try with_reducible rfl
                try simp only [Act.put, List.setIfInBounds_toArray, List.set_cons_zero, List.set_cons_succ]
                refine wpAnyH_done (by kernel_rfl) ?_ _
                go_wp2
                all_goals (go_ret2; exact ⟨.slice aao acc.length acap, by rw [HE.out.1]; rfl, hR.out.fp.then HF2.out, by rw [HE.out.1]; exact (hR.out.bo.keep HF2.out (fun _ _ h => h) (fun _ _ h => h)).wide (fun j hj => ⟨hj.1, Nat.lt_of_lt_of_le hj.2 HF2.out.size⟩)⟩)
          · have hse : Se wr (.slice (some ⟨g, o + (A + 16), none⟩) n (cap - (A + 16))) data := by
              rw [hdata]
              exact (hpart.part (A + 16) n (by omega)).se
            have HH := Lib.hid hh
            have HS := Lib.hid hse
            have HCA := Lib.hid hca
            clear hfit hmn hm2 hdata hh16 hhd hdl hal hfr2 hpart hh hse hca
            by_cases heq : h16 = hd
            · have hsome : front (c.drop A) acc.length = some data := by rw [HFR.out, if_neg (fun h => h heq)]
              have HE := Lib.hid hsome
              clear hsome
              have qn := HQ0.out
              go_wp2_with fail
              go_quiet (fail)
              clear qn
              go_wp2_with fail
              refine (HND.out _).mono ?_
              rintro e w1 ⟨rfl, rfl⟩
              go_wp2_with fail
              case inr =>
                have W1f : Fp Non wr (wr.drewN nq).drew := ((Fp.refl Non wr).drewN nq).drew
                have k1 : (convert 22 9 (.slice (some ⟨g, o + A, none⟩) 16 (cap - A))).run Tryz.prog (wr.drewN nq).drew = .ok (.string (B h16)) (wr.drewN nq).drew := conv_sl _ _ _ (HH.out.keep W1f (fun _ _ h => h))
                have hcall := rhead_c acc.length _ data (wr.drewN nq).drew (HS.out.keep W1f (fun _ _ _ h => h)) HL2.out.1 HL2.out.2
                have HCALL := Lib.hid hcall
                have HW1 := Lib.hid W1f
                clear hcall W1f
                refine wp_region_held_drew (S := (fun w' => (convert 22 9 (.slice (some ⟨g, o + A, none⟩) 16 (cap - A))).run Tryz.prog w' = .ok (.string (B h16)) w')) (by kernel_rfl) ?_ (fun hHeld => ?_)
                · exact k1
                refine wpAnyH_take (i := 0) (oi := ?oi117) (v := ?vi117) ?h117 (by kernel_rfl) (by kernel_rfl) (by kernel_rfl) ?q117 (Or.inl ⟨?w117, ?y117⟩) hHeld ?r117
                case h117 => first | (simp only [List.getElem?_toArray, List.getElem?_cons_zero]; done) | (simp only [List.getElem?_toArray, List.getElem?_cons_zero]; exact rfl)
                case q117 => exact fun _ _ _ h => h
                case w117 => rfl
                case y117 =>
                  intro w hSw
                  (try dsimp only at hSw)
                  skip
                  go_simp
                  try with_reducible rfl
                try simp only [Act.put, List.setIfInBounds_toArray, List.set_cons_zero, List.set_cons_succ]
                refine wpAnyH_take (i := 1) (oi := ?oi118) (v := ?vi118) ?h118 (by kernel_rfl) (by kernel_rfl) (by kernel_rfl) ?q118 (Or.inl ⟨?w118, ?y118⟩) hHeld ?r118
                case h118 => first | (simp only [List.getElem?_toArray, List.getElem?_cons_zero, List.getElem?_cons_succ]; done) | (simp only [List.getElem?_toArray, List.getElem?_cons_zero, List.getElem?_cons_succ]; exact rfl)
                case q118 => exact fun _ _ _ h => h
                case w118 => rfl
                case y118 =>
                  intro w hSw
                  (try dsimp only at hSw)
                  skip
                  go_simp
                  try with_reducible rfl
                try simp only [Act.put, List.setIfInBounds_toArray, List.set_cons_zero, List.set_cons_succ]
                refine wpAnyH_take (i := 2) (oi := ?oi119) (v := ?vi119) ?h119 (by kernel_rfl) (by kernel_rfl) (by kernel_rfl) ?q119 (Or.inl ⟨?w119, ?y119⟩) hHeld ?r119
                case h119 => first | (simp only [List.getElem?_toArray, List.getElem?_cons_zero, List.getElem?_cons_succ]; done) | (simp only [List.getElem?_toArray, List.getElem?_cons_zero, List.getElem?_cons_succ]; exact rfl)
                case q119 => exact fun _ _ _ h => h
                case w119 => rfl
                case y119 =>
                  intro w hSw
                  (try dsimp only at hSw)
                  skip
                  go_simp
                  try with_reducible rfl
                try simp only [Act.put, List.setIfInBounds_toArray, List.set_cons_zero, List.set_cons_succ]
                refine wpAnyH_take (i := 5) (oi := ?oi120) (v := ?vi120) ?h120 (by kernel_rfl) (by kernel_rfl) (by kernel_rfl) ?q120 (Or.inl ⟨?w120, ?y120⟩) hHeld ?r120
                case h120 => first | (simp only [List.getElem?_toArray, List.getElem?_cons_zero, List.getElem?_cons_succ]; done) | (simp only [List.getElem?_toArray, List.getElem?_cons_zero, List.getElem?_cons_succ]; exact rfl)
                case q120 => exact fun _ _ _ h => h
                case w120 => rfl
                case y120 =>
                  intro w hSw
                  (try dsimp only at hSw)
                  skip
                  go_simp
                  try with_reducible rfl
                try simp only [Act.put, List.setIfInBounds_toArray, List.set_cons_zero, List.set_cons_succ]
                refine wpAnyH_take (i := 6) (oi := ?oi121) (v := ?vi121) ?h121 (by kernel_rfl) (by kernel_rfl) (by kernel_rfl) ?q121 (Or.inl ⟨?w121, ?y121⟩) hHeld ?r121
                case h121 => first | (simp only [List.getElem?_toArray, List.getElem?_cons_zero, List.getElem?_cons_succ]; done) | (simp only [List.getElem?_toArray, List.getElem?_cons_zero, List.getElem?_cons_succ]; exact rfl)
                case q121 => exact fun _ _ _ h => h
                case w121 => rfl
                case y121 =>
                  intro w hSw
                  (try dsimp only at hSw)
                  skip
                  go_simp
                  try with_reducible rfl
                try simp only [Act.put, List.setIfInBounds_toArray, List.set_cons_zero, List.set_cons_succ]
                refine wpAnyH_ready (rs := [3]) (by kernel_rfl) (by simp) ?_
                refine AllReadyH.cons (o := ?ob122) ?hb122 (fun K hK => ?_) AllReadyH.nil
                case hb122 => first | (simp only [List.getElem?_toArray, List.getElem?_cons_zero, List.getElem?_cons_succ]; done) | (simp only [List.getElem?_toArray, List.getElem?_cons_zero, List.getElem?_cons_succ]; exact rfl)
                go_simp
                go_at_call 62
                refine HCALL.out.mono ?_
                rintro e w2 ⟨u, rfl, hN⟩
                have hf2 : Fp Non wr w2 := HW1.out.then hN.fp
                have s2 := hN.sl
                obtain ⟨vao, vlen, vcap, rfl⟩ := hN.shape3
                have k2 : (convert 22 9 (.slice vao vlen vcap)).run Tryz.prog w2 = .ok (.string (B hd)) w2 := conv_sl _ _ _ (by rw [HL3.out]; exact s2)
                have k3 : (convert 22 9 (.slice (some ⟨g, o + A, none⟩) 16 (cap - A))).run Tryz.prog w2 = .ok (.string (B h16)) w2 := conv_sl _ _ _ (HH.out.keep hf2 (fun _ _ h => h))
                have HF2 := Lib.hid hf2
                clear hN hf2 s2 k1 hHeld
                go_wp2_with fail
                refine hK.out _ _ k3 (fun hHeld => ?_)
                clear hK K
                try simp only [Act.put, List.setIfInBounds_toArray, List.set_cons_zero, List.set_cons_succ]
                refine wpAnyH_ready (rs := [4]) (by kernel_rfl) (by simp) ?_
                refine AllReadyH.cons (o := ?ob123) ?hb123 (fun K hK => ?_) AllReadyH.nil
                case hb123 => first | (simp only [List.getElem?_toArray, List.getElem?_cons_zero, List.getElem?_cons_succ]; done) | (simp only [List.getElem?_toArray, List.getElem?_cons_zero, List.getElem?_cons_succ]; exact rfl)
                go_simp
                refine hK.out _ _ k3 (fun hHeld => ?_)
                clear hK K
                try simp only [Act.put, List.setIfInBounds_toArray, List.set_cons_zero, List.set_cons_succ]
                refine wpAnyH_take (i := 7) (oi := ?oi124) (v := ?vi124) ?h124 (by kernel_rfl) (by kernel_rfl) (by kernel_rfl) ?q124 (Or.inl ⟨?w124, ?y124⟩) hHeld ?r124
                case h124 => first | (simp only [List.getElem?_toArray, List.getElem?_cons_zero, List.getElem?_cons_succ]; done) | (simp only [List.getElem?_toArray, List.getElem?_cons_zero, List.getElem?_cons_succ]; exact rfl)
                case q124 => exact fun _ _ _ h => h
                case w124 => rfl
                case y124 =>
                  intro w hSw
                  (try dsimp only at hSw)
                  skip
                  go_simp
                  try with_reducible rfl
                try simp only [Act.put, List.setIfInBounds_toArray, List.set_cons_zero, List.set_cons_succ]
                refine wpAnyH_done (by kernel_rfl) ?_ _
                have happ := (Nw.made w2).plus (Fp.refl Non _) ((HS.out.keep HF2.out (fun _ _ _ h => h)).keep (Nw.made w2).fp (fun _ _ _ h => h)) (by simp only [List.length_nil]; have := HL2.out.1; omega) 22
                rw [List.nil_append] at happ
                have HA := Lib.hid happ
                clear happ
                go_wp2_with (at_builtin; go_must (refine wpList_app rfl _ _ _ _ rfl _ _ rfl rfl _ HA.out ?_))
                intro v3 w3 hN3
                have hf3 : Fp Non wr w3 := HF2.out.then hN3.fp
                have hbk := hR.out.bo.block
                have hbo2 := (hR.out.bo.keep hf3 (fun _ _ h => h) (fun _ _ h => h)).wide (E := fun j => w.heap.size ≤ j ∧ j < w3.heap.size) (fun j hj => ⟨hj.1, Nat.lt_of_lt_of_le hj.2 hf3.size⟩)
                have hap := app_bs w3 w.heap.size _ _ acc v3 data 47 hbo2 hN3.sl.se (fun _ j hj => ⟨⟨Nat.le_trans (Nat.le_trans hR.out.fp.size HF2.out.size) (hN3.block j hj), hN3.sl.below j hj⟩, fun e => by have h1 := (hbk j e).2; have h2 := hN3.block j hj; have h3 := HF2.out.size; omega⟩) (by have := HL2.out.2; omega) (Nat.le_trans hR.out.fp.size hf3.size) (fun j hj => hj.2)
                obtain ⟨xao, xn, xcap, rfl⟩ := hN3.shape3
                have HAP := Lib.hid hap
                have HF3 := Lib.hid (And.intro hf3 hbk)
                clear hap hf3 hbk hbo2 hN3 HA
                go_wp2_with (at_builtin; go_must (refine wpList_app rfl _ _ _ _ rfl _ _ rfl rfl _ HAP.out ?_))
                intro v4 w4 hR4
                have hM : Hid (RsM w w4 c (acc ++ [data]) v4) := by
                  have hf4 : Fp Non w w4 := hR4.fp (hR.out.fp.then HF3.out.1) (fun j hj => .inr (HF3.out.2 j hj).1)
                  have hf34 : w3.heap.size ≤ w4.heap.size := (hR4.fp (S := fun _ => True) (Fp.refl _ w3) (fun _ _ => .inl trivial)).size
                  exact hR.out.some hm (by rw [HY.out.2.2.2.2.2.1]; exact HE.out) hf4 (hR4.bo.wide (fun j hj => ⟨hj.1, Nat.lt_of_lt_of_le hj.2 hf34⟩))
                obtain ⟨vao4, vcap4, rfl⟩ := hR4.bo.shape
                have hnx : A + m * 16 = nds (acc ++ [data]) * 16 := by
                  rw [nds_app, nds_cons, nds_nil, HL4.out.2.2, ← HE0.out.2.2]; have := HY.out.2.2.2.2.1; omega
                have HNX := Lib.hid hnx
                have hnx2 : ((A : Int) + (m : Int) * 16) = ((nds (acc ++ [data]) * 16 : Nat) : Int) := by rw [← hnx]; omega
                have HN2 := Lib.hid hnx2
                have hm1 : 1 ≤ m := by rw [HE0.out.2.2]; unfold nd; omega
                rw [List.length_append] at hM
                clear hR4 hnx hnx2
                go_wp2_with fail
                refine (HND.out _).mono ?_
                rintro e w5 ⟨rfl, rfl⟩
                go_wp2
                go_roundw
                case rel => exact ⟨acc ++ [data], congrArg (Value.int .i64) HN2.out, by simpa using hM⟩
                case measure => simp [RowKit.intOf]; omega
            · have hne : ((B hd).toList == (B h16).toList) = false := by rw [B_eq]; exact decide_eq_false (fun e => heq e.symm)
              have hend := HNO.out (by rw [HFR.out, if_pos heq])
              have HE := Lib.hid (And.intro hend heq)
              clear hend heq
              have qn := HQ0.out
              go_wp2_with fail
              go_quiet (fail)
              clear qn
              go_wp2_with fail
              refine (HND.out _).mono ?_
              rintro e w1 ⟨rfl, rfl⟩
              go_wp2_with fail
              case inr =>
                have W1f : Fp Non wr (wr.drewN nq).drew := ((Fp.refl Non wr).drewN nq).drew
                have k1 : (convert 22 9 (.slice (some ⟨g, o + A, none⟩) 16 (cap - A))).run Tryz.prog (wr.drewN nq).drew = .ok (.string (B h16)) (wr.drewN nq).drew := conv_sl _ _ _ (HH.out.keep W1f (fun _ _ h => h))
                have hcall := rhead_c acc.length _ data (wr.drewN nq).drew (HS.out.keep W1f (fun _ _ _ h => h)) HL2.out.1 HL2.out.2
                have HCALL := Lib.hid hcall
                have HW1 := Lib.hid W1f
                clear hcall W1f
                refine wp_region_held_drew (S := (fun w' => (convert 22 9 (.slice (some ⟨g, o + A, none⟩) 16 (cap - A))).run Tryz.prog w' = .ok (.string (B h16)) w')) (by kernel_rfl) ?_ (fun hHeld => ?_)
                · exact k1
                refine wpAnyH_take (i := 0) (oi := ?oi125) (v := ?vi125) ?h125 (by kernel_rfl) (by kernel_rfl) (by kernel_rfl) ?q125 (Or.inl ⟨?w125, ?y125⟩) hHeld ?r125
                case h125 => first | (simp only [List.getElem?_toArray, List.getElem?_cons_zero]; done) | (simp only [List.getElem?_toArray, List.getElem?_cons_zero]; exact rfl)
                case q125 => exact fun _ _ _ h => h
                case w125 => rfl
                case y125 =>
                  intro w hSw
                  (try dsimp only at hSw)
                  skip
                  go_simp
                  try with_reducible rfl
                try simp only [Act.put, List.setIfInBounds_toArray, List.set_cons_zero, List.set_cons_succ]
                refine wpAnyH_take (i := 1) (oi := ?oi126) (v := ?vi126) ?h126 (by kernel_rfl) (by kernel_rfl) (by kernel_rfl) ?q126 (Or.inl ⟨?w126, ?y126⟩) hHeld ?r126
                case h126 => first | (simp only [List.getElem?_toArray, List.getElem?_cons_zero, List.getElem?_cons_succ]; done) | (simp only [List.getElem?_toArray, List.getElem?_cons_zero, List.getElem?_cons_succ]; exact rfl)
                case q126 => exact fun _ _ _ h => h
                case w126 => rfl
                case y126 =>
                  intro w hSw
                  (try dsimp only at hSw)
                  skip
                  go_simp
                  try with_reducible rfl
                try simp only [Act.put, List.setIfInBounds_toArray, List.set_cons_zero, List.set_cons_succ]
                refine wpAnyH_take (i := 2) (oi := ?oi127) (v := ?vi127) ?h127 (by kernel_rfl) (by kernel_rfl) (by kernel_rfl) ?q127 (Or.inl ⟨?w127, ?y127⟩) hHeld ?r127
                case h127 => first | (simp only [List.getElem?_toArray, List.getElem?_cons_zero, List.getElem?_cons_succ]; done) | (simp only [List.getElem?_toArray, List.getElem?_cons_zero, List.getElem?_cons_succ]; exact rfl)
                case q127 => exact fun _ _ _ h => h
                case w127 => rfl
                case y127 =>
                  intro w hSw
                  (try dsimp only at hSw)
                  skip
                  go_simp
                  try with_reducible rfl
                try simp only [Act.put, List.setIfInBounds_toArray, List.set_cons_zero, List.set_cons_succ]
                refine wpAnyH_take (i := 5) (oi := ?oi128) (v := ?vi128) ?h128 (by kernel_rfl) (by kernel_rfl) (by kernel_rfl) ?q128 (Or.inl ⟨?w128, ?y128⟩) hHeld ?r128
                case h128 => first | (simp only [List.getElem?_toArray, List.getElem?_cons_zero, List.getElem?_cons_succ]; done) | (simp only [List.getElem?_toArray, List.getElem?_cons_zero, List.getElem?_cons_succ]; exact rfl)
                case q128 => exact fun _ _ _ h => h
                case w128 => rfl
                case y128 =>
                  intro w hSw
                  (try dsimp only at hSw)
                  skip
                  go_simp
                  try with_reducible rfl
                try simp only [Act.put, List.setIfInBounds_toArray, List.set_cons_zero, List.set_cons_succ]
                refine wpAnyH_take (i := 6) (oi := ?oi129) (v := ?vi129) ?h129 (by kernel_rfl) (by kernel_rfl) (by kernel_rfl) ?q129 (Or.inl ⟨?w129, ?y129⟩) hHeld ?r129
                case h129 => first | (simp only [List.getElem?_toArray, List.getElem?_cons_zero, List.getElem?_cons_succ]; done) | (simp only [List.getElem?_toArray, List.getElem?_cons_zero, List.getElem?_cons_succ]; exact rfl)
                case q129 => exact fun _ _ _ h => h
                case w129 => rfl
                case y129 =>
                  intro w hSw
                  (try dsimp only at hSw)
                  skip
                  go_simp
                  try with_reducible rfl
                try simp only [Act.put, List.setIfInBounds_toArray, List.set_cons_zero, List.set_cons_succ]
                refine wpAnyH_ready (rs := [3]) (by kernel_rfl) (by simp) ?_
                refine AllReadyH.cons (o := ?ob130) ?hb130 (fun K hK => ?_) AllReadyH.nil
                case hb130 => first | (simp only [List.getElem?_toArray, List.getElem?_cons_zero, List.getElem?_cons_succ]; done) | (simp only [List.getElem?_toArray, List.getElem?_cons_zero, List.getElem?_cons_succ]; exact rfl)
                go_simp
                go_at_call 62
                refine HCALL.out.mono ?_
                rintro e w2 ⟨u, rfl, hN⟩
                have hf2 : Fp Non wr w2 := HW1.out.then hN.fp
                have s2 := hN.sl
                obtain ⟨vao, vlen, vcap, rfl⟩ := hN.shape3
                have k2 : (convert 22 9 (.slice vao vlen vcap)).run Tryz.prog w2 = .ok (.string (B hd)) w2 := conv_sl _ _ _ (by rw [HL3.out]; exact s2)
                have k3 : (convert 22 9 (.slice (some ⟨g, o + A, none⟩) 16 (cap - A))).run Tryz.prog w2 = .ok (.string (B h16)) w2 := conv_sl _ _ _ (HH.out.keep hf2 (fun _ _ h => h))
                have HF2 := Lib.hid hf2
                clear hN hf2 s2 k1 hHeld
                go_wp2_with fail
                refine hK.out _ _ k3 (fun hHeld => ?_)
                clear hK K
                try simp only [Act.put, List.setIfInBounds_toArray, List.set_cons_zero, List.set_cons_succ]
                refine wpAnyH_ready (rs := [4]) (by kernel_rfl) (by simp) ?_
                refine AllReadyH.cons (o := ?ob131) ?hb131 (fun K hK => ?_) AllReadyH.nil
                case hb131 => first | (simp only [List.getElem?_toArray, List.getElem?_cons_zero, List.getElem?_cons_succ]; done) | (simp only [List.getElem?_toArray, List.getElem?_cons_zero, List.getElem?_cons_succ]; exact rfl)
                go_simp
                refine hK.out _ _ k3 (fun hHeld => ?_)
                clear hK K
                try simp only [Act.put, List.setIfInBounds_toArray, List.set_cons_zero, List.set_cons_succ]
                refine wpAnyH_take (i := 7) (oi := ?oi132) (v := ?vi132) ?h132 (by kernel_rfl) (by kernel_rfl) (by kernel_rfl) ?q132 (Or.inl ⟨?w132, ?y132⟩) hHeld ?r132
                case h132 => first | (simp only [List.getElem?_toArray, List.getElem?_cons_zero, List.getElem?_cons_succ]; done) | (simp only [List.getElem?_toArray, List.getElem?_cons_zero, List.getElem?_cons_succ]; exact rfl)
                case q132 => exact fun _ _ _ h => h
                case w132 => rfl
                case y132 =>
                  intro w hSw
                  (try dsimp only at hSw)
                  skip
                  go_simp
                  try with_reducible rfl
                try simp only [Act.put, List.setIfInBounds_toArray, List.set_cons_zero, List.set_cons_succ]
                refine wpAnyH_done (by kernel_rfl) ?_ _
                go_wp2
                all_goals (go_ret2; exact ⟨.slice aao acc.length acap, by rw [HE.out.1]; rfl, hR.out.fp.then HF2.out, by rw [HE.out.1]; exact (hR.out.bo.keep HF2.out (fun _ _ h => h) (fun _ _ h => h)).wide (fun j hj => ⟨hj.1, Nat.lt_of_lt_of_le hj.2 HF2.out.size⟩)⟩)
    · have hf : front (c.drop A) acc.length = none := by unfold front; rw [if_pos (by omega)]
      have q1 : ((A : Int) + 16 ≤ (c.length : Int)) = False := eq_false (by omega)
      have hAb : A ≤ 65536 := by omega
      have hend : scan c 0 = acc := hR.out.none (by rw [hAu]; exact hf)
      have t1 : (A : Int).tdiv 16 = ((nds acc : Nat) : Int) := by rw [Int.tdiv_eq_ediv_of_nonneg (by omega)]; omega
      have t2 : (A : Int) / 16 = ((nds acc : Nat) : Int) := by omega
      have HE := Lib.hid (And.intro hend (And.intro hf (And.intro hAu (And.intro hdl (And.intro hun (And.intro hle (And.intro hal hA)))))))
      clear hend hf hdl hlt hle hal hun hAu hA
      go_wp2
      go_ret2
      exact ⟨.slice aao acc.length acap, by rw [HE.out.1]; rfl, hR.out.fp, by rw [HE.out.1]; exact hR.out.bo⟩
end Go.Proofs.YtankfmlafmjaeaaGreat
