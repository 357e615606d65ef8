/- WalPlays: the law's walk. -/
import Derived.Test.YtankfmlafmjaeaaGreatVi
import Derived.Deep.RegionHeld3
namespace Go.Proofs.YtankfmlafmjaeaaGreat
open Go.RowKit Pm
set_option maxRecDepth 20000

set_option maxHeartbeats 1000000 in
theorem ROf_none (w : World) (v : Value) (l : Bs) (hl : Sl w v l) (h : ¬ (1 ≤ l.length / 16 ∧ l.length / 16 ≤ 4096 ∧ l.length % 16 = 0)) (hs : l.length ≤ 5000) :
    Calls Tryz.prog 7 #[v] w fun e w' => e = .returned (.pointer none) ∧ w = w' := by
  obtain ⟨ao, cap, rfl, _, _, _⟩ := hl.ex
  clear hl
  by_cases h0 : l.length = 0
  · have q1 : ((l.length : Int) == 0) = true := beq_iff_eq.2 (by omega)
    clear h h0
    go_enter Tryz.func7, Tryz.ntmps7
    go_wp2
    go_ret
    exact ⟨rfl, rfl⟩
  · have q1 : ((l.length : Int) == 0) = false := beq_eq_false_iff_ne.2 (by omega)
    have q2 : ((l.length : Int) % 16 == 0) = false := beq_eq_false_iff_ne.2 (by omega)
    have q3 : ((l.length : Int) % 16 = 0) = False := eq_false (by omega)
    clear h h0
    go_enter Tryz.func7, Tryz.ntmps7
    go_wp2
    go_ret
    exact ⟨rfl, rfl⟩

/-- The box of the call at hand. -/
structure Bx4 (w : World) (o : Nat) (a b c d : Value) : Prop where
  c0 : w.cell? ⟨o, 0, none⟩ = some a
  c1 : w.cell? ⟨o, 1, none⟩ = some b
  c2 : w.cell? ⟨o, 2, none⟩ = some c
  c3 : w.cell? ⟨o, 3, none⟩ = some d
theorem Bx4.keep {w w' : World} {o : Nat} {a b c d : Value} (h : Bx4 w o a b c d) {S : Nat → Prop} (f : Fp S w w') (hS : ¬ S o) : Bx4 w' o a b c d := ⟨f.cell h.c0 hS, f.cell h.c1 hS, f.cell h.c2 hS, f.cell h.c3 hS⟩
theorem Bx4.new (w : World) (a b c d : Value) (T : TypeId) : Bx4 (w.alloc (.cells #[a, b, c, d] T)) w.heap.size a b c d :=
  ⟨by rw [cell_of_row _ _ _ _ _ _ (heap_alloc_new w _)]; rfl, by rw [cell_of_row _ _ _ _ _ _ (heap_alloc_new w _)]; rfl, by rw [cell_of_row _ _ _ _ _ _ (heap_alloc_new w _)]; rfl, by rw [cell_of_row _ _ _ _ _ _ (heap_alloc_new w _)]; rfl⟩
theorem shape_out {ao ao' : Option Addr} {n n' c c' : Nat} (h : (Value.slice ao n c) = .slice ao' n' c') : ao = ao' ∧ n = n' ∧ c = c' := by injection h with h1 h2 h3; exact ⟨h1, h2, h3⟩

set_option maxHeartbeats 1000000 in
theorem Plays_long (v : Value) (l : Bs) (qv : Value) (q : List Oq) (w : World) (hl : Sl w v l) (hq : Oqs w w.heap.size qv q) (h : 5000 < l.length) :
    Calls Tryz.prog 3 #[v, qv] w fun e w' => e = .returned (.bool true) ∧ Fp Non w w' := by
  obtain ⟨qao, qcap, hqv, _, _, _⟩ := hq.ex
  obtain ⟨ao, cap, hv, _, _, _⟩ := hl.ex
  have HL := Lib.hid (And.intro hl hq)
  rw [hv, hqv]
  have q1 : ((5000 : Int) < (l.length : Int)) = True := eq_true (by omega)
  clear hl hq h
  go_enter Tryz.func3, Tryz.ntmps3
  go_wp2_with fail
  refine (head_c w).mono ?_
  rintro e w1 ⟨rfl, hf⟩
  have hgr := Great_c w.heap.size qv q w1 (HL.out.2.keep_ hf (fun _ h => h.elim))
  rw [hqv] at hgr
  have HG := Lib.hid (And.intro hf hgr); clear hgr hf
  go_wp2_with fail
  refine HG.out.2.mono ?_
  rintro e w3 ⟨gr, rfl, hgl, hf3⟩
  have H3 := Lib.hid (HG.out.1.then hf3); clear hf3 hgl
  cases gr with
  | true =>
    go_wp2
    go_ret
    exact ⟨rfl, H3.out⟩
  | false =>
    go_wp2
    go_ret
    exact ⟨rfl, H3.out⟩

set_option maxHeartbeats 1000000 in
theorem Plays_none (v : Value) (l : Bs) (qv : Value) (q : List Oq) (w : World) (hl : Sl w v l) (hq : Oqs w w.heap.size qv q) (hs : l.length ≤ 5000) (h : ¬ (1 ≤ l.length / 16 ∧ l.length / 16 ≤ 4096 ∧ l.length % 16 = 0)) :
    Calls Tryz.prog 3 #[v, qv] w fun e w' => e = .returned (.bool true) ∧ Fp Non w w' := by
  obtain ⟨qao, qcap, hqv, _, _, _⟩ := hq.ex
  obtain ⟨ao, cap, hv, _, _, _⟩ := hl.ex
  have HL := Lib.hid (And.intro hl (And.intro hq (And.intro hs h)))
  rw [hv, hqv]
  have q1 : ((5000 : Int) < (l.length : Int)) = False := eq_false (by omega)
  clear hl hq h hs
  go_enter Tryz.func3, Tryz.ntmps3
  go_wp2_with fail
  refine (head_c w).mono ?_
  rintro e w1 ⟨rfl, hf⟩
  have hgr := Great_c w.heap.size qv q w1 (HL.out.2.1.keep_ hf (fun _ h => h.elim))
  rw [hqv] at hgr
  have HG := Lib.hid (And.intro hf hgr); clear hgr hf
  go_wp2_with fail
  refine HG.out.2.mono ?_
  rintro e w3 ⟨gr, rfl, hgl, hf3⟩
  have H3 := Lib.hid (HG.out.1.then hf3); clear hf3 hgl
  cases gr with
  | true =>
    go_wp2
    go_ret
    exact ⟨rfl, H3.out⟩
  | false =>
    have hn := Of_none w3 v l (HL.out.1.keep H3.out (fun _ _ h => h)) HL.out.2.2.2
    have hr := ROf_none w3 v l (HL.out.1.keep H3.out (fun _ _ h => h)) HL.out.2.2.2 HL.out.2.2.1
    rw [hv] at hn hr
    have HO := Lib.hid (And.intro hn hr); clear hn hr
    go_wp2_with fail
    refine HO.out.1.mono ?_
    rintro e w4 ⟨rfl, rfl⟩
    go_wp2_with fail
    refine HO.out.2.mono ?_
    rintro e w5 ⟨rfl, rfl⟩
    go_wp2
    go_ret
    exact ⟨rfl, H3.out⟩

set_option maxHeartbeats 32000000 in
theorem Plays_some (v : Value) (l : Bs) (qv : Value) (q : List Oq) (w : World) (hl : Sl w v l) (hq : Oqs w w.heap.size qv q) (N : Nat) (h1 : 1 ≤ N) (h2 : N ≤ 4096) (hln : l.length = N * 16) (h : l.length ≤ 5000) :
    Calls Tryz.prog 3 #[v, qv] w fun e w' => e = .returned (.bool true) ∧ Fp Non w w' := by
  obtain ⟨qao, qcap, hqv, hq1, _, hq3⟩ := hq.ex
  obtain ⟨ao, cap, hv, _, _, _⟩ := hl.ex
  have HL := Lib.hid (And.intro hl hq)
  have HN := Lib.hid (And.intro h1 (And.intro h2 (And.intro hln h)))
  rw [hv, hqv]
  have q1 : ((5000 : Int) < (l.length : Int)) = False := eq_false (by omega)
  have HQ3 := Lib.hid (And.intro hq1 hq3)
  clear hl hq h h1 h2 hln hq1 hq3
  go_enter Tryz.func3, Tryz.ntmps3
  go_wp2_with fail
  refine (head_c w).mono ?_
  rintro e w1 ⟨rfl, hf⟩
  have hq1 := HL.out.2.keep_ hf (fun _ h => h.elim)
  have hgr := Great_c w.heap.size qv q w1 hq1
  rw [hqv] at hgr
  have HG := Lib.hid (And.intro hf (And.intro hq1 hgr)); clear hq1 hgr hf
  go_wp2_with fail
  refine HG.out.2.2.mono ?_
  rintro e w3 ⟨gr, rfl, hgl, hf3⟩
  have H3 := Lib.hid (And.intro (HG.out.1.then hf3) hgl); clear hf3 hgl
  cases gr with
  | true =>
    go_wp2
    go_ret
    exact ⟨rfl, H3.out.1⟩
  | false =>
    have hn := Of_c w.heap.size w3 v l (HL.out.1.keep H3.out.1 (fun _ _ h => h)) N HN.out.1 HN.out.2.1 HN.out.2.2.1 H3.out.1.size
    rw [hv] at hn
    have HOf := Lib.hid hn; clear hn
    go_wp2_with fail
    refine HOf.out.mono ?_
    rintro e w4 ⟨b, g, m, rfl, hd, hf4, hown⟩
    have H4 := Lib.hid (And.intro hd (And.intro (H3.out.1.then hf4) hown)); clear hd hf4 hown
    have hr := ROf_c w.heap.size w4 v l (HL.out.1.keep H4.out.2.1 (fun _ _ h => h)) N HN.out.1 HN.out.2.1 HN.out.2.2.1 H4.out.2.1.size
    rw [hv] at hr
    have HRf := Lib.hid hr; clear hr
    go_wp2_with fail
    refine HRf.out.mono ?_
    rintro e w5 ⟨p, rfl, hr5, hf5, hown5⟩
    have hq300 : q.length ≤ 300 := H3.out.2 trivial
    have h0 : Tw b g m p (dOf l) w w5 := ⟨H4.out.1.keep hf5 (fun _ _ h => h), hr5, H4.out.2.1.then hf5, fun k hk ho => absurd (H4.out.1.all k hk).2 (Nat.not_lt.2 (hown5 k ho))⟩
    obtain ⟨pb, hpb⟩ : ∃ pb, pb = p.b := ⟨_, rfl⟩
    rw [← hpb]
    have HT := Lib.hid h0
    have hop := Open_c h0.d (Nat.zero_le _)
    obtain ⟨E0, hE0⟩ : ∃ E0, E0 = (lOpen (dOf l)).1 := ⟨_, rfl⟩
    rw [← hE0] at hop
    have HE0 := Lib.hid hE0
    have HOP := Lib.hid hop
    have HPB := Lib.hid hpb
    clear hr5 hf5 hown5 h0 hpb hop hE0
    go_wp2_with fail
    refine HOP.out.mono ?_
    rintro e wa ⟨pv, rfl, hO⟩
    have hr2 := rOpen_c (HT.out.mid hO.fp) (Nat.le_trans HT.out.fp.size hO.fp.size) (Nat.zero_le _)
    rw [← HPB.out, ← HE0.out] at hr2
    have HR2 := Lib.hid hr2
    have HO := Lib.hid hO
    clear hr2 hO
    go_wp2_with fail
    refine HR2.out.mono ?_
    rintro e wb ⟨vv, rfl, hR2⟩
    obtain ⟨p1, ht1, hl1, hpb1⟩ := HT.out.opened HO.out hR2
    have H0 : Hid (Tw b g m p1 (lOpen (dOf l)).2.2 w wb ∧ Lgs b g m p1 (lOpen (dOf l)).2.2 w pv vv wb ∧ (lOpen (dOf l)).2.2.acts ≤ 8 * 0 + 8 ∧ pb = p1.b) := ⟨ht1, hl1, by have := open_acts (dOf l); have h0 : (dOf l).acts = 0 := rfl; omega, HPB.out.trans hpb1.symm⟩
    clear hR2 ht1 hl1 hpb1
    go_wp2_with fail
    go_loopw [8, 9, 10, 11, 12] (fun wv ev vv fv iv wr => ∃ k : Nat, k ≤ q.length ∧ iv = .int .i64 (k : Int) ∧ ∃ (E : Int) (s : Dk) (p' : At), ev = .int .i64 E ∧ fv = .int .i64 E ∧ Hid (Tw b g m p' s w wr ∧ Lgs b g m p' s w wv vv wr ∧ s.acts ≤ 8 * k + 8 ∧ pb = p'.b)) (fun _ _ _ _ iv _ => q.length - (RowKit.intOf iv).toNat)
    case atStart => exact ⟨0, Nat.zero_le _, rfl, E0, _, p1, rfl, rfl, H0⟩
    case round =>
      obtain ⟨k, hk, rfl, E, s, p', rfl, rfl, hR⟩ := hrel
      rename_i wr _
      have hlg := hR.out.2.1
      have hcell3 := hR.out.1.r.c3
      have hcell0 := hR.out.1.r.c0
      rw [← hR.out.2.2.2] at hcell3 hcell0
      have HD3 := Lib.hid hcell3
      have HD0 := Lib.hid hcell0
      clear hcell3 hcell0
      by_cases hlt : k < q.length
      · have g1 : ((k : Int) < (q.length : Int)) = True := eq_true (by omega)
        have g2 : (k < q.length) = True := eq_true hlt
        have HQW := Lib.hid (show wrap64 ((k : Int) + 1) = ((k + 1 : Nat) : Int) by unfold wrap64; omega)
        rcases HQ3.out.2 with h0 | ⟨qg, qo, hqe, hqg, hqc⟩
        · have := HQ3.out.1; omega
        subst hqe
        have hit := (hqc k hlt).keep_ hR.out.1.fp.drew (fun _ h => h.elim) hqg
        generalize q[k] = x at hit
        have c0 := hit.c0
        have c1 := hit.c1
        have c2 := hit.c2
        have c3 := hit.c3
        obtain ⟨xao, xcap, exb, _, _, _⟩ := hit.sb.ex
        obtain ⟨yao, ycap, eyb, _, _, _⟩ := hit.sk.ex
        rw [exb] at c1
        rw [eyb] at c3
        have hAc := hR.out.2.2.1
        have HAC := Lib.hid (show s.acts ≤ 8 * k + 8 ∧ k ≤ 300 from ⟨hAc, by omega⟩)
        have HZ := Lib.hid (And.intro hlt (And.intro hk (And.intro hit (And.intro exb eyb))))
        have HT := Lib.hid (hR.out.1.keep ((Fp.refl Non wr).drew.alloc (.cells #[.int .i64 x.what, .slice xao x.b.length xcap, .int .i64 x.n, .slice yao x.keep.length ycap] 42)))
        have HBX := Lib.hid (show Bx4 (wr.drew.alloc (.cells #[.int .i64 x.what, .slice xao x.b.length xcap, .int .i64 x.n, .slice yao x.keep.length ycap] 42)) wr.heap.size (.int .i64 x.what) (.slice xao x.b.length xcap) (.int .i64 x.n) (.slice yao x.keep.length ycap) from Bx4.new wr.drew (.int .i64 x.what) (.slice xao x.b.length xcap) (.int .i64 x.n) (.slice yao x.keep.length ycap) 42)
        have hsb := hit.sb.keep ((Fp.refl Non wr.drew).alloc (.cells #[.int .i64 x.what, .slice xao x.b.length xcap, .int .i64 x.n, .slice yao x.keep.length ycap] 42)) (fun _ _ _ h => h)
        have hsk := hit.sk.keep ((Fp.refl Non wr.drew).alloc (.cells #[.int .i64 x.what, .slice xao x.b.length xcap, .int .i64 x.n, .slice yao x.keep.length ycap] 42)) (fun _ _ _ h => h)
        rw [exb] at hsb
        rw [eyb] at hsk
        have HSB := Lib.hid hsb
        have HSK := Lib.hid hsk
        have HLB := Lib.hid (show 0 < x.b.length → ∀ j, (Value.slice xao x.b.length xcap).ownBlock = some j → j < w.heap.size from fun h0 j hj => hit.lb h0 j (by rw [exb]; exact hj))
        have HLK := Lib.hid (show 0 < x.keep.length → ∀ j, (Value.slice yao x.keep.length ycap).ownBlock = some j → j < w.heap.size from fun h0 j hj => hit.lk h0 j (by rw [eyb]; exact hj))
        have HNB := Lib.hid (show ∀ j, own3 b g m j ∨ own4 p' j → j ≠ wr.heap.size from fun j hj => hj.elim (fun h1 => by have := (hR.out.1.d.all j h1).2; omega) (fun h1 => by have := (hR.out.1.r.all j h1).2; omega))
        have HLG := Lib.hid (hlg.keep ((Fp.refl Non wr).drew.alloc (.cells #[.int .i64 x.what, .slice xao x.b.length xcap, .int .i64 x.n, .slice yao x.keep.length ycap] 42)))
        clear hit exb eyb hqc hqg hk hlt hAc hsb hsk
        rcases hlg with ⟨ew, ev⟩ | ⟨q1, v1, q2, v2, D, lg, ew, ev, hL⟩
        · subst ew ev
          have k3 : wr.drew.cell? ⟨pb, 3, none⟩ = some (.int .i64 (s.acts : Int)) := HD3.out
          have HAc := Lib.hid (Acts_c (hR.out.1.d.keep (Fp.drew (Fp.refl Non wr)) (fun _ _ h => h)))
          go_wp2_with fail
          refine wp_region_noPanic ?_
          refine wp_region_held_drew (S := (fun w' => w'.cell? ⟨pb, 3, none⟩ = some (.int .i64 (s.acts : Int)))) (by kernel_rfl) ?_ (fun hHeld => ?_)
          · exact k3
          refine wpAnyH_take (i := 0) (oi := ?oi121) (v := ?vi121) ?h121 (by kernel_rfl) (by kernel_rfl) (by kernel_rfl) ?q121 (Or.inl ⟨?w121, ?y121⟩) hHeld ?r121
          case h121 => first | (simp only [List.getElem?_toArray, List.getElem?_cons_zero]; done) | (simp only [List.getElem?_toArray, List.getElem?_cons_zero]; exact rfl)
          case q121 => exact fun _ _ _ h => h
          case w121 => rfl
          case y121 =>
            intro w hSw
            (try dsimp only at hSw)
            skip
            go_simp
            try with_reducible rfl
          try simp only [Act.put, List.setIfInBounds_toArray, List.set_cons_zero, List.set_cons_succ]
          refine wpAnyH_take (i := 1) (oi := ?oi122) (v := ?vi122) ?h122 (by kernel_rfl) (by kernel_rfl) (by kernel_rfl) ?q122 (Or.inl ⟨?w122, ?y122⟩) hHeld ?r122
          case h122 => first | (simp only [List.getElem?_toArray, List.getElem?_cons_zero, List.getElem?_cons_succ]; done) | (simp only [List.getElem?_toArray, List.getElem?_cons_zero, List.getElem?_cons_succ]; exact rfl)
          case q122 => exact fun _ _ _ h => h
          case w122 => rfl
          case y122 =>
            intro w hSw
            (try dsimp only at hSw)
            skip
            go_simp
            try with_reducible rfl
          try simp only [Act.put, List.setIfInBounds_toArray, List.set_cons_zero, List.set_cons_succ]
          refine wpAnyH_take (i := 2) (oi := ?oi123) (v := ?vi123) ?h123 (by kernel_rfl) (by kernel_rfl) (by kernel_rfl) ?q123 (Or.inl ⟨?w123, ?y123⟩) hHeld ?r123
          case h123 => first | (simp only [List.getElem?_toArray, List.getElem?_cons_zero, List.getElem?_cons_succ]; done) | (simp only [List.getElem?_toArray, List.getElem?_cons_zero, List.getElem?_cons_succ]; exact rfl)
          case q123 => exact fun _ _ _ h => h
          case w123 => rfl
          case y123 =>
            intro w hSw
            (try dsimp only at hSw)
            skip
            go_simp
            try with_reducible rfl
          try simp only [Act.put, List.setIfInBounds_toArray, List.set_cons_zero, List.set_cons_succ]
          refine wpAnyH_take (i := 3) (oi := ?oi124) (v := ?vi124) ?h124 (by kernel_rfl) (by kernel_rfl) (by kernel_rfl) ?q124 (Or.inl ⟨?w124, ?y124⟩) hHeld ?r124
          case h124 => first | (simp only [List.getElem?_toArray, List.getElem?_cons_zero, List.getElem?_cons_succ]; done) | (simp only [List.getElem?_toArray, List.getElem?_cons_zero, List.getElem?_cons_succ]; exact rfl)
          case q124 => exact fun _ _ _ h => h
          case w124 => rfl
          case y124 =>
            intro w hSw
            (try dsimp only at hSw)
            skip
            go_simp
            try with_reducible rfl
          try simp only [Act.put, List.setIfInBounds_toArray, List.set_cons_zero, List.set_cons_succ]
          refine wpAnyH_take (i := 4) (oi := ?oi125) (v := ?vi125) ?h125 (by kernel_rfl) (by kernel_rfl) (by kernel_rfl) ?q125 (Or.inl ⟨?w125, ?y125⟩) hHeld ?r125
          case h125 => first | (simp only [List.getElem?_toArray, List.getElem?_cons_zero, List.getElem?_cons_succ]; done) | (simp only [List.getElem?_toArray, List.getElem?_cons_zero, List.getElem?_cons_succ]; exact rfl)
          case q125 => exact fun _ _ _ h => h
          case w125 => rfl
          case y125 =>
            intro w hSw
            (try dsimp only at hSw)
            skip
            go_simp
            try with_reducible rfl
          try simp only [Act.put, List.setIfInBounds_toArray, List.set_cons_zero, List.set_cons_succ]
          refine wpAnyH_take (i := 5) (oi := ?oi126) (v := ?vi126) ?h126 (by kernel_rfl) (by kernel_rfl) (by kernel_rfl) ?q126 (Or.inl ⟨?w126, ?y126⟩) hHeld ?r126
          case h126 => first | (simp only [List.getElem?_toArray, List.getElem?_cons_zero, List.getElem?_cons_succ]; done) | (simp only [List.getElem?_toArray, List.getElem?_cons_zero, List.getElem?_cons_succ]; exact rfl)
          case q126 => exact fun _ _ _ h => h
          case w126 => rfl
          case y126 =>
            intro w hSw
            (try dsimp only at hSw)
            skip
            go_simp
            try with_reducible rfl
          try simp only [Act.put, List.setIfInBounds_toArray, List.set_cons_zero, List.set_cons_succ]
          refine wpAnyH_take (i := 6) (oi := ?oi127) (v := ?vi127) ?h127 (by kernel_rfl) (by kernel_rfl) (by kernel_rfl) ?q127 (Or.inl ⟨?w127, ?y127⟩) hHeld ?r127
          case h127 => first | (simp only [List.getElem?_toArray, List.getElem?_cons_zero, List.getElem?_cons_succ]; done) | (simp only [List.getElem?_toArray, List.getElem?_cons_zero, List.getElem?_cons_succ]; exact rfl)
          case q127 => exact fun _ _ _ h => h
          case w127 => rfl
          case y127 =>
            intro w hSw
            (try dsimp only at hSw)
            skip
            go_simp
            try with_reducible rfl
          try simp only [Act.put, List.setIfInBounds_toArray, List.set_cons_zero, List.set_cons_succ]
          refine wpAnyH_take (i := 7) (oi := ?oi128) (v := ?vi128) ?h128 (by kernel_rfl) (by kernel_rfl) (by kernel_rfl) ?q128 (Or.inl ⟨?w128, ?y128⟩) hHeld ?r128
          case h128 => first | (simp only [List.getElem?_toArray, List.getElem?_cons_zero, List.getElem?_cons_succ]; done) | (simp only [List.getElem?_toArray, List.getElem?_cons_zero, List.getElem?_cons_succ]; exact rfl)
          case q128 => exact fun _ _ _ h => h
          case w128 => rfl
          case y128 =>
            intro w hSw
            (try dsimp only at hSw)
            skip
            go_simp
            try with_reducible rfl
          try simp only [Act.put, List.setIfInBounds_toArray, List.set_cons_zero, List.set_cons_succ]
          refine wpAnyH_take (i := 8) (oi := ?oi129) (v := ?vi129) ?h129 (by kernel_rfl) (by kernel_rfl) (by kernel_rfl) ?q129 (Or.inl ⟨?w129, ?y129⟩) hHeld ?r129
          case h129 => first | (simp only [List.getElem?_toArray, List.getElem?_cons_zero, List.getElem?_cons_succ]; done) | (simp only [List.getElem?_toArray, List.getElem?_cons_zero, List.getElem?_cons_succ]; exact rfl)
          case q129 => exact fun _ _ _ h => h
          case w129 => rfl
          case y129 =>
            intro w hSw
            (try dsimp only at hSw)
            skip
            go_simp
            try with_reducible rfl
          try simp only [Act.put, List.setIfInBounds_toArray, List.set_cons_zero, List.set_cons_succ]
          refine wpAnyH_take (i := 9) (oi := ?oi130) (v := ?vi130) ?h130 (by kernel_rfl) (by kernel_rfl) (by kernel_rfl) ?q130 (Or.inl ⟨?w130, ?y130⟩) hHeld ?r130
          case h130 => first | (simp only [List.getElem?_toArray, List.getElem?_cons_zero, List.getElem?_cons_succ]; done) | (simp only [List.getElem?_toArray, List.getElem?_cons_zero, List.getElem?_cons_succ]; exact rfl)
          case q130 => exact fun _ _ _ h => h
          case w130 => rfl
          case y130 =>
            intro w hSw
            (try dsimp only at hSw)
            skip
            go_simp
            try with_reducible rfl
          try simp only [Act.put, List.setIfInBounds_toArray, List.set_cons_zero, List.set_cons_succ]
          refine wpAnyH_take (i := 10) (oi := ?oi131) (v := ?vi131) ?h131 (by kernel_rfl) (by kernel_rfl) (by kernel_rfl) ?q131 (Or.inl ⟨?w131, ?y131⟩) hHeld ?r131
          case h131 => first | (simp only [List.getElem?_toArray, List.getElem?_cons_zero, List.getElem?_cons_succ]; done) | (simp only [List.getElem?_toArray, List.getElem?_cons_zero, List.getElem?_cons_succ]; exact rfl)
          case q131 => exact fun _ _ _ h => h
          case w131 => rfl
          case y131 =>
            intro w hSw
            (try dsimp only at hSw)
            skip
            go_simp
            try with_reducible rfl
          try simp only [Act.put, List.setIfInBounds_toArray, List.set_cons_zero, List.set_cons_succ]
          refine wpAnyH_take (i := 11) (oi := ?oi132) (v := ?vi132) ?h132 (by kernel_rfl) (by kernel_rfl) (by kernel_rfl) ?q132 (Or.inl ⟨?w132, ?y132⟩) hHeld ?r132
          case h132 => first | (simp only [List.getElem?_toArray, List.getElem?_cons_zero, List.getElem?_cons_succ]; done) | (simp only [List.getElem?_toArray, List.getElem?_cons_zero, List.getElem?_cons_succ]; exact rfl)
          case q132 => exact fun _ _ _ h => h
          case w132 => rfl
          case y132 =>
            intro w hSw
            (try dsimp only at hSw)
            skip
            go_simp
            try with_reducible rfl
          try simp only [Act.put, List.setIfInBounds_toArray, List.set_cons_zero, List.set_cons_succ]
          refine wpAnyH_take (i := 13) (oi := ?oi133) (v := ?vi133) ?h133 (by kernel_rfl) (by kernel_rfl) (by kernel_rfl) ?q133 (Or.inl ⟨?w133, ?y133⟩) hHeld ?r133
          case h133 => first | (simp only [List.getElem?_toArray, List.getElem?_cons_zero, List.getElem?_cons_succ]; done) | (simp only [List.getElem?_toArray, List.getElem?_cons_zero, List.getElem?_cons_succ]; exact rfl)
          case q133 => exact fun _ _ _ h => h
          case w133 => rfl
          case y133 =>
            intro w hSw
            (try dsimp only at hSw)
            skip
            go_simp
            try with_reducible rfl
          try simp only [Act.put, List.setIfInBounds_toArray, List.set_cons_zero, List.set_cons_succ]
          refine wpAnyH_take (i := 14) (oi := ?oi134) (v := ?vi134) ?h134 (by kernel_rfl) (by kernel_rfl) (by kernel_rfl) ?q134 (Or.inl ⟨?w134, ?y134⟩) hHeld ?r134
          case h134 => first | (simp only [List.getElem?_toArray, List.getElem?_cons_zero, List.getElem?_cons_succ]; done) | (simp only [List.getElem?_toArray, List.getElem?_cons_zero, List.getElem?_cons_succ]; exact rfl)
          case q134 => exact fun _ _ _ h => h
          case w134 => rfl
          case y134 =>
            intro w hSw
            (try dsimp only at hSw)
            skip
            go_simp
            try with_reducible rfl
          try simp only [Act.put, List.setIfInBounds_toArray, List.set_cons_zero, List.set_cons_succ]
          refine wpAnyH_take (i := 15) (oi := ?oi135) (v := ?vi135) ?h135 (by kernel_rfl) (by kernel_rfl) (by kernel_rfl) ?q135 (Or.inl ⟨?w135, ?y135⟩) hHeld ?r135
          case h135 => first | (simp only [List.getElem?_toArray, List.getElem?_cons_zero, List.getElem?_cons_succ]; done) | (simp only [List.getElem?_toArray, List.getElem?_cons_zero, List.getElem?_cons_succ]; exact rfl)
          case q135 => exact fun _ _ _ h => h
          case w135 => rfl
          case y135 =>
            intro w hSw
            (try dsimp only at hSw)
            skip
            go_simp
            try with_reducible rfl
          try simp only [Act.put, List.setIfInBounds_toArray, List.set_cons_zero, List.set_cons_succ]
          refine wpAnyH_take (i := 16) (oi := ?oi136) (v := ?vi136) ?h136 (by kernel_rfl) (by kernel_rfl) (by kernel_rfl) ?q136 (Or.inl ⟨?w136, ?y136⟩) hHeld ?r136
          case h136 => first | (simp only [List.getElem?_toArray, List.getElem?_cons_zero, List.getElem?_cons_succ]; done) | (simp only [List.getElem?_toArray, List.getElem?_cons_zero, List.getElem?_cons_succ]; exact rfl)
          case q136 => exact fun _ _ _ h => h
          case w136 => rfl
          case y136 =>
            intro w hSw
            (try dsimp only at hSw)
            skip
            go_simp
            try with_reducible rfl
          try simp only [Act.put, List.setIfInBounds_toArray, List.set_cons_zero, List.set_cons_succ]
          refine wpAnyH_ready (rs := [12]) (by kernel_rfl) (by simp) ?_
          refine AllReadyH.cons (o := ?ob137) ?hb137 (fun K hK => ?_) AllReadyH.nil
          case hb137 => first | (simp only [List.getElem?_toArray, List.getElem?_cons_zero, List.getElem?_cons_succ]; done) | (simp only [List.getElem?_toArray, List.getElem?_cons_zero, List.getElem?_cons_succ]; exact rfl)
          go_simp
          go_at_call 10
          refine HAc.out.mono ?_
          rintro e wx ⟨rfl, hwx⟩
          obtain rfl := hwx.symm
          clear hwx
          go_wp2_with fail
          refine hK.out _ _ k3 (fun hHeld => ?_)
          clear hK K
          try simp only [Act.put, List.setIfInBounds_toArray, List.set_cons_zero, List.set_cons_succ]
          refine wpAnyH_take (i := 17) (oi := ?oi138) (v := ?vi138) ?h138 (by kernel_rfl) (by kernel_rfl) (by kernel_rfl) ?q138 (Or.inl ⟨?w138, ?y138⟩) hHeld ?r138
          case h138 => first | (simp only [List.getElem?_toArray, List.getElem?_cons_zero, List.getElem?_cons_succ]; done) | (simp only [List.getElem?_toArray, List.getElem?_cons_zero, List.getElem?_cons_succ]; exact rfl)
          case q138 => exact fun _ _ _ h => h
          case w138 => rfl
          case y138 =>
            intro w hSw
            (try dsimp only at hSw)
            skip
            go_simp
            try with_reducible rfl
          try simp only [Act.put, List.setIfInBounds_toArray, List.set_cons_zero, List.set_cons_succ]
          refine wpAnyH_take (i := 18) (oi := ?oi139) (v := ?vi139) ?h139 (by kernel_rfl) (by kernel_rfl) (by kernel_rfl) ?q139 (Or.inl ⟨?w139, ?y139⟩) hHeld ?r139
          case h139 => first | (simp only [List.getElem?_toArray, List.getElem?_cons_zero, List.getElem?_cons_succ]; done) | (simp only [List.getElem?_toArray, List.getElem?_cons_zero, List.getElem?_cons_succ]; exact rfl)
          case q139 => exact fun _ _ _ h => h
          case w139 => rfl
          case y139 =>
            intro w hSw
            (try dsimp only at hSw)
            skip
            go_simp
            try with_reducible rfl
          try simp only [Act.put, List.setIfInBounds_toArray, List.set_cons_zero, List.set_cons_succ]
          refine wpAnyH_done (by kernel_rfl) ?_ _
          refine NoPanic.normal ?_
          clear k3
          by_cases h5 : x.what = 5
          · have t0 : (x.what == 0) = false := beq_eq_false_iff_ne.2 (by omega)
            have u0 : (x.what = 0) = False := eq_false (by omega)
            have t1 : (x.what == 1) = false := beq_eq_false_iff_ne.2 (by omega)
            have u1 : (x.what = 1) = False := eq_false (by omega)
            have t2 : (x.what == 2) = false := beq_eq_false_iff_ne.2 (by omega)
            have u2 : (x.what = 2) = False := eq_false (by omega)
            have t3 : (x.what == 3) = false := beq_eq_false_iff_ne.2 (by omega)
            have u3 : (x.what = 3) = False := eq_false (by omega)
            have t4 : (x.what == 4) = false := beq_eq_false_iff_ne.2 (by omega)
            have u4 : (x.what = 4) = False := eq_false (by omega)
            have t6 : (x.what == 6) = false := beq_eq_false_iff_ne.2 (by omega)
            have u6 : (x.what = 6) = False := eq_false (by omega)
            have t5 : (x.what == 5) = true := beq_iff_eq.2 h5
            have u5 : (x.what = 5) = True := eq_true h5
            clear h5
            have co0 := HBX.out.c0
            have co2 := HBX.out.c2
            have HA1 := Lib.hid (Fuse_c HT.out.d x.n HZ.out.2.2.1.hn.2)
            go_wp2_with fail
            refine HA1.out.mono ?_
            rintro e wa ⟨rfl, hda, hfa⟩
            have HBX2 := Lib.hid (HBX.out.keep hfa (fun e => HNB.out _ (.inl (.inl e)) rfl))
            have cb2 := HBX2.out.c2
            have hfa3 : Fp (own3 b g m) _ wa := hfa.mono (fun k hk => .inl hk)
            have h2 := RFuse_c (HT.out.mid hfa3) x.n HZ.out.2.2.1.hn.2
            rw [← hR.out.2.2.2] at h2
            have HA2 := Lib.hid h2
            have HDA := Lib.hid (And.intro hda (And.intro hfa hfa3))
            clear h2 hda hfa hfa3 co0 co2
            go_wp2_with fail
            refine HA2.out.mono ?_
            rintro e wb ⟨rfl, hrb, hfb⟩
            have hT2 := HT.out.step HDA.out.1 HDA.out.2.2 hrb (hfb.mono (fun k hk => (.inl (hk.trans hR.out.2.2.2) : own4 p' k))) (fun k hk => .inl hk)
            have hL2 := HLG.out.fuse x.n HDA.out.2.1 hrb (hfb.mono (fun k hk => hk.trans hR.out.2.2.2))
            have HF := Lib.hid (And.intro hT2 hL2)
            clear hT2 hL2 hrb hfb cb2
            go_wp2
            go_roundw
            case rel => exact ⟨k + 1, HZ.out.1, congrArg (Value.int .i64) HQW.out, E, dFuse s x.n, p', rfl, rfl, HF.out.1, HF.out.2, (by have h1 : s.acts ≤ 8 * k + 8 := HAC.out.1; show s.acts ≤ _; omega), hR.out.2.2.2⟩
            case measure => have := HZ.out.1; rw [HQW.out]; simp [RowKit.intOf]; omega
          · by_cases h6 : x.what = 6
            · have t0 : (x.what == 0) = false := beq_eq_false_iff_ne.2 (by omega)
              have u0 : (x.what = 0) = False := eq_false (by omega)
              have t1 : (x.what == 1) = false := beq_eq_false_iff_ne.2 (by omega)
              have u1 : (x.what = 1) = False := eq_false (by omega)
              have t2 : (x.what == 2) = false := beq_eq_false_iff_ne.2 (by omega)
              have u2 : (x.what = 2) = False := eq_false (by omega)
              have t3 : (x.what == 3) = false := beq_eq_false_iff_ne.2 (by omega)
              have u3 : (x.what = 3) = False := eq_false (by omega)
              have t4 : (x.what == 4) = false := beq_eq_false_iff_ne.2 (by omega)
              have u4 : (x.what = 4) = False := eq_false (by omega)
              have t5 : (x.what == 5) = false := beq_eq_false_iff_ne.2 (by omega)
              have u5 : (x.what = 5) = False := eq_false (by omega)
              have t6 : (x.what == 6) = true := beq_iff_eq.2 h6
              have u6 : (x.what = 6) = True := eq_true h6
              clear h5 h6
              have co0 := HBX.out.c0
              have co3 := HBX.out.c3
              have HA1 := Lib.hid (Crash_c HT.out.d _ x.keep HSK.out (fun h0 j hj ho => by have h1 := HLK.out h0 j hj; have h2 := (hR.out.1.d.all j ho).1; omega))
              go_wp2_with fail
              refine HA1.out.mono ?_
              rintro e wa ⟨rfl, hda, hfa⟩
              have HBX2 := Lib.hid (HBX.out.keep hfa (fun e => HNB.out _ (.inl e) rfl))
              have ca0 := HBX2.out.c0
              have ca3 := HBX2.out.c3
              have h2 := RCrash_walk (HT.out.mid hfa) _ x.keep (HSK.out.keep hfa (fun h0 j hj ho => by have h1 := HLK.out h0 j hj; have h2 := (hR.out.1.d.all j ho).1; omega)) (fun h0 j hj ho => by have h1 := HLK.out h0 j hj; have h2 := (hR.out.1.r.all j ho).1; omega)
              rw [← hR.out.2.2.2] at h2
              have HA2 := Lib.hid h2
              have HDA := Lib.hid (And.intro hda hfa)
              clear h2 hda hfa co0 co3
              go_wp2_with fail
              refine HA2.out.mono ?_
              rintro e wb ⟨p2, rfl, hrb, hfb, hpe, hop⟩
              have HBX3 := Lib.hid (HBX2.out.keep hfb (fun e => HNB.out _ (.inr e) rfl))
              have cb0 := HBX3.out.c0
              have HT3 := Lib.hid (HT.out.step HDA.out.1 HDA.out.2 hrb hfb hop)
              have HPC := Lib.hid (And.intro (hpe.trans hR.out.2.2.2) trivial)
              clear hrb hfb hpe hop ca0 ca3
              have hop := Open_c HT3.out.d (by have := HAC.out; have h5 : (dCrash s x.keep).acts = s.acts := rfl; omega)
              obtain ⟨E1, hE1⟩ : ∃ E1, E1 = (lOpen (dCrash s x.keep)).1 := ⟨_, rfl⟩
              rw [← hE1] at hop
              have HE1 := Lib.hid hE1
              have HOP1 := Lib.hid hop
              clear hop hE1
              go_wp2_with fail
              refine HOP1.out.mono ?_
              rintro e wc ⟨pv1, rfl, hO⟩
              have hr2 := rOpen_c (HT3.out.mid hO.fp) (Nat.le_trans HT3.out.fp.size hO.fp.size) (by have := HAC.out; have h5 : (dCrash s x.keep).acts = s.acts := rfl; omega)
              rw [HPC.out.1, ← hR.out.2.2.2, ← HE1.out] at hr2
              have HOR := Lib.hid hr2
              have HOO := Lib.hid hO
              clear hr2 hO
              go_wp2_with fail
              refine HOR.out.mono ?_
              rintro e wd ⟨vv1, rfl, hR2⟩
              obtain ⟨p3, ht3, hl3, hpb3⟩ := HT3.out.opened HOO.out hR2
              have HF := Lib.hid (And.intro ht3 (And.intro hl3 hpb3))
              clear hR2 ht3 hl3 hpb3
              go_wp2
              go_roundw
              case rel => exact ⟨k + 1, HZ.out.1, congrArg (Value.int .i64) HQW.out, E1, (lOpen (dCrash s x.keep)).2.2, p3, rfl, rfl, HF.out.1, HF.out.2.1, (by have h1 := open_acts (dCrash s x.keep); have h2 := HAC.out.1; have h5 : (dCrash s x.keep).acts = s.acts := rfl; omega), (hR.out.2.2.2.trans HPC.out.1.symm).trans HF.out.2.2.symm⟩
              case measure => have := HZ.out.1; rw [HQW.out]; simp [RowKit.intOf]; omega
            · by_cases h4 : x.what = 4
              · have t0 : (x.what == 0) = false := beq_eq_false_iff_ne.2 (by omega)
                have u0 : (x.what = 0) = False := eq_false (by omega)
                have t1 : (x.what == 1) = false := beq_eq_false_iff_ne.2 (by omega)
                have u1 : (x.what = 1) = False := eq_false (by omega)
                have t2 : (x.what == 2) = false := beq_eq_false_iff_ne.2 (by omega)
                have u2 : (x.what = 2) = False := eq_false (by omega)
                have t3 : (x.what == 3) = false := beq_eq_false_iff_ne.2 (by omega)
                have u3 : (x.what = 3) = False := eq_false (by omega)
                have t5 : (x.what == 5) = false := beq_eq_false_iff_ne.2 (by omega)
                have u5 : (x.what = 5) = False := eq_false (by omega)
                have t6 : (x.what == 6) = false := beq_eq_false_iff_ne.2 (by omega)
                have u6 : (x.what = 6) = False := eq_false (by omega)
                have t4 : (x.what == 4) = true := beq_iff_eq.2 h4
                have u4 : (x.what = 4) = True := eq_true h4
                clear h5 h6 h4
                have co0 := HBX.out.c0
                have hop := Open_c HT.out.d (by have := HAC.out; skip; omega)
                obtain ⟨E1, hE1⟩ : ∃ E1, E1 = (lOpen s).1 := ⟨_, rfl⟩
                rw [← hE1] at hop
                have HE1 := Lib.hid hE1
                have HOP1 := Lib.hid hop
                clear hop hE1
                go_wp2_with fail
                refine HOP1.out.mono ?_
                rintro e wc ⟨pv1, rfl, hO⟩
                have hr2 := rOpen_c (HT.out.mid hO.fp) (Nat.le_trans HT.out.fp.size hO.fp.size) (by have := HAC.out; skip; omega)
                rw [← hR.out.2.2.2, ← HE1.out] at hr2
                have HOR := Lib.hid hr2
                have HOO := Lib.hid hO
                clear hr2 hO
                go_wp2_with fail
                refine HOR.out.mono ?_
                rintro e wd ⟨vv1, rfl, hR2⟩
                obtain ⟨p3, ht3, hl3, hpb3⟩ := HT.out.opened HOO.out hR2
                have HF := Lib.hid (And.intro ht3 (And.intro hl3 hpb3))
                clear hR2 ht3 hl3 hpb3
                go_wp2
                go_roundw
                case rel => exact ⟨k + 1, HZ.out.1, congrArg (Value.int .i64) HQW.out, E1, (lOpen s).2.2, p3, rfl, rfl, HF.out.1, HF.out.2.1, (by have h1 := open_acts s; have h2 := HAC.out.1; skip; omega), hR.out.2.2.2.trans HF.out.2.2.symm⟩
                case measure => have := HZ.out.1; rw [HQW.out]; simp [RowKit.intOf]; omega
              · have t5 : (x.what == 5) = false := beq_eq_false_iff_ne.2 h5
                have u5 : (x.what = 5) = False := eq_false h5
                have t6 : (x.what == 6) = false := beq_eq_false_iff_ne.2 h6
                have u6 : (x.what = 6) = False := eq_false h6
                have t4 : (x.what == 4) = false := beq_eq_false_iff_ne.2 h4
                have u4 : (x.what = 4) = False := eq_false h4
                clear h5 h6 h4
                have co0 := HBX.out.c0
                go_wp2
                go_roundw
                case rel => exact ⟨k + 1, HZ.out.1, congrArg (Value.int .i64) HQW.out, E, s, p', rfl, rfl, HT.out, HLG.out, (by have h1 := HAC.out.1; omega), hR.out.2.2.2⟩
                case measure => have := HZ.out.1; rw [HQW.out]; simp [RowKit.intOf]; omega
        · subst ew ev
          have HL2 := Lib.hid (hL.keep ((Fp.refl Non wr).drew.alloc (.cells #[.int .i64 x.what, .slice xao x.b.length xcap, .int .i64 x.n, .slice yao x.keep.length ycap] 42)))
          have HNL := Lib.hid (show ∀ j, ownL q1 v1 j ∨ ownD q2 p' v2 D j → j ≠ wr.heap.size from fun j hj => hj.elim (fun h1 => by have := (hL.pr.all j h1).2; omega) (fun h1 => by have := (hL.du.all j h1).2; omega))
          clear hL
          have k3 : wr.drew.cell? ⟨pb, 3, none⟩ = some (.int .i64 (s.acts : Int)) := HD3.out
          have HAc := Lib.hid (Acts_c (hR.out.1.d.keep (Fp.drew (Fp.refl Non wr)) (fun _ _ h => h)))
          go_wp2_with fail
          refine wp_region_noPanic ?_
          refine wp_region_held_drew (S := (fun w' => w'.cell? ⟨pb, 3, none⟩ = some (.int .i64 (s.acts : Int)))) (by kernel_rfl) ?_ (fun hHeld => ?_)
          · exact k3
          refine wpAnyH_take (i := 0) (oi := ?oi140) (v := ?vi140) ?h140 (by kernel_rfl) (by kernel_rfl) (by kernel_rfl) ?q140 (Or.inl ⟨?w140, ?y140⟩) hHeld ?r140
          case h140 => first | (simp only [List.getElem?_toArray, List.getElem?_cons_zero]; done) | (simp only [List.getElem?_toArray, List.getElem?_cons_zero]; exact rfl)
          case q140 => exact fun _ _ _ h => h
          case w140 => rfl
          case y140 =>
            intro w hSw
            (try dsimp only at hSw)
            skip
            go_simp
            try with_reducible rfl
          try simp only [Act.put, List.setIfInBounds_toArray, List.set_cons_zero, List.set_cons_succ]
          refine wpAnyH_take (i := 1) (oi := ?oi141) (v := ?vi141) ?h141 (by kernel_rfl) (by kernel_rfl) (by kernel_rfl) ?q141 (Or.inl ⟨?w141, ?y141⟩) hHeld ?r141
          case h141 => first | (simp only [List.getElem?_toArray, List.getElem?_cons_zero, List.getElem?_cons_succ]; done) | (simp only [List.getElem?_toArray, List.getElem?_cons_zero, List.getElem?_cons_succ]; exact rfl)
          case q141 => exact fun _ _ _ h => h
          case w141 => rfl
          case y141 =>
            intro w hSw
            (try dsimp only at hSw)
            skip
            go_simp
            try with_reducible rfl
          try simp only [Act.put, List.setIfInBounds_toArray, List.set_cons_zero, List.set_cons_succ]
          refine wpAnyH_take (i := 2) (oi := ?oi142) (v := ?vi142) ?h142 (by kernel_rfl) (by kernel_rfl) (by kernel_rfl) ?q142 (Or.inl ⟨?w142, ?y142⟩) hHeld ?r142
          case h142 => first | (simp only [List.getElem?_toArray, List.getElem?_cons_zero, List.getElem?_cons_succ]; done) | (simp only [List.getElem?_toArray, List.getElem?_cons_zero, List.getElem?_cons_succ]; exact rfl)
          case q142 => exact fun _ _ _ h => h
          case w142 => rfl
          case y142 =>
            intro w hSw
            (try dsimp only at hSw)
            skip
            go_simp
            try with_reducible rfl
          try simp only [Act.put, List.setIfInBounds_toArray, List.set_cons_zero, List.set_cons_succ]
          refine wpAnyH_take (i := 3) (oi := ?oi143) (v := ?vi143) ?h143 (by kernel_rfl) (by kernel_rfl) (by kernel_rfl) ?q143 (Or.inl ⟨?w143, ?y143⟩) hHeld ?r143
          case h143 => first | (simp only [List.getElem?_toArray, List.getElem?_cons_zero, List.getElem?_cons_succ]; done) | (simp only [List.getElem?_toArray, List.getElem?_cons_zero, List.getElem?_cons_succ]; exact rfl)
          case q143 => exact fun _ _ _ h => h
          case w143 => rfl
          case y143 =>
            intro w hSw
            (try dsimp only at hSw)
            skip
            go_simp
            try with_reducible rfl
          try simp only [Act.put, List.setIfInBounds_toArray, List.set_cons_zero, List.set_cons_succ]
          refine wpAnyH_take (i := 4) (oi := ?oi144) (v := ?vi144) ?h144 (by kernel_rfl) (by kernel_rfl) (by kernel_rfl) ?q144 (Or.inl ⟨?w144, ?y144⟩) hHeld ?r144
          case h144 => first | (simp only [List.getElem?_toArray, List.getElem?_cons_zero, List.getElem?_cons_succ]; done) | (simp only [List.getElem?_toArray, List.getElem?_cons_zero, List.getElem?_cons_succ]; exact rfl)
          case q144 => exact fun _ _ _ h => h
          case w144 => rfl
          case y144 =>
            intro w hSw
            (try dsimp only at hSw)
            skip
            go_simp
            try with_reducible rfl
          try simp only [Act.put, List.setIfInBounds_toArray, List.set_cons_zero, List.set_cons_succ]
          refine wpAnyH_take (i := 5) (oi := ?oi145) (v := ?vi145) ?h145 (by kernel_rfl) (by kernel_rfl) (by kernel_rfl) ?q145 (Or.inl ⟨?w145, ?y145⟩) hHeld ?r145
          case h145 => first | (simp only [List.getElem?_toArray, List.getElem?_cons_zero, List.getElem?_cons_succ]; done) | (simp only [List.getElem?_toArray, List.getElem?_cons_zero, List.getElem?_cons_succ]; exact rfl)
          case q145 => exact fun _ _ _ h => h
          case w145 => rfl
          case y145 =>
            intro w hSw
            (try dsimp only at hSw)
            skip
            go_simp
            try with_reducible rfl
          try simp only [Act.put, List.setIfInBounds_toArray, List.set_cons_zero, List.set_cons_succ]
          refine wpAnyH_take (i := 6) (oi := ?oi146) (v := ?vi146) ?h146 (by kernel_rfl) (by kernel_rfl) (by kernel_rfl) ?q146 (Or.inl ⟨?w146, ?y146⟩) hHeld ?r146
          case h146 => first | (simp only [List.getElem?_toArray, List.getElem?_cons_zero, List.getElem?_cons_succ]; done) | (simp only [List.getElem?_toArray, List.getElem?_cons_zero, List.getElem?_cons_succ]; exact rfl)
          case q146 => exact fun _ _ _ h => h
          case w146 => rfl
          case y146 =>
            intro w hSw
            (try dsimp only at hSw)
            skip
            go_simp
            try with_reducible rfl
          try simp only [Act.put, List.setIfInBounds_toArray, List.set_cons_zero, List.set_cons_succ]
          refine wpAnyH_take (i := 7) (oi := ?oi147) (v := ?vi147) ?h147 (by kernel_rfl) (by kernel_rfl) (by kernel_rfl) ?q147 (Or.inl ⟨?w147, ?y147⟩) hHeld ?r147
          case h147 => first | (simp only [List.getElem?_toArray, List.getElem?_cons_zero, List.getElem?_cons_succ]; done) | (simp only [List.getElem?_toArray, List.getElem?_cons_zero, List.getElem?_cons_succ]; exact rfl)
          case q147 => exact fun _ _ _ h => h
          case w147 => rfl
          case y147 =>
            intro w hSw
            (try dsimp only at hSw)
            skip
            go_simp
            try with_reducible rfl
          try simp only [Act.put, List.setIfInBounds_toArray, List.set_cons_zero, List.set_cons_succ]
          refine wpAnyH_take (i := 8) (oi := ?oi148) (v := ?vi148) ?h148 (by kernel_rfl) (by kernel_rfl) (by kernel_rfl) ?q148 (Or.inl ⟨?w148, ?y148⟩) hHeld ?r148
          case h148 => first | (simp only [List.getElem?_toArray, List.getElem?_cons_zero, List.getElem?_cons_succ]; done) | (simp only [List.getElem?_toArray, List.getElem?_cons_zero, List.getElem?_cons_succ]; exact rfl)
          case q148 => exact fun _ _ _ h => h
          case w148 => rfl
          case y148 =>
            intro w hSw
            (try dsimp only at hSw)
            skip
            go_simp
            try with_reducible rfl
          try simp only [Act.put, List.setIfInBounds_toArray, List.set_cons_zero, List.set_cons_succ]
          refine wpAnyH_take (i := 9) (oi := ?oi149) (v := ?vi149) ?h149 (by kernel_rfl) (by kernel_rfl) (by kernel_rfl) ?q149 (Or.inl ⟨?w149, ?y149⟩) hHeld ?r149
          case h149 => first | (simp only [List.getElem?_toArray, List.getElem?_cons_zero, List.getElem?_cons_succ]; done) | (simp only [List.getElem?_toArray, List.getElem?_cons_zero, List.getElem?_cons_succ]; exact rfl)
          case q149 => exact fun _ _ _ h => h
          case w149 => rfl
          case y149 =>
            intro w hSw
            (try dsimp only at hSw)
            skip
            go_simp
            try with_reducible rfl
          try simp only [Act.put, List.setIfInBounds_toArray, List.set_cons_zero, List.set_cons_succ]
          refine wpAnyH_take (i := 10) (oi := ?oi150) (v := ?vi150) ?h150 (by kernel_rfl) (by kernel_rfl) (by kernel_rfl) ?q150 (Or.inl ⟨?w150, ?y150⟩) hHeld ?r150
          case h150 => first | (simp only [List.getElem?_toArray, List.getElem?_cons_zero, List.getElem?_cons_succ]; done) | (simp only [List.getElem?_toArray, List.getElem?_cons_zero, List.getElem?_cons_succ]; exact rfl)
          case q150 => exact fun _ _ _ h => h
          case w150 => rfl
          case y150 =>
            intro w hSw
            (try dsimp only at hSw)
            skip
            go_simp
            try with_reducible rfl
          try simp only [Act.put, List.setIfInBounds_toArray, List.set_cons_zero, List.set_cons_succ]
          refine wpAnyH_take (i := 11) (oi := ?oi151) (v := ?vi151) ?h151 (by kernel_rfl) (by kernel_rfl) (by kernel_rfl) ?q151 (Or.inl ⟨?w151, ?y151⟩) hHeld ?r151
          case h151 => first | (simp only [List.getElem?_toArray, List.getElem?_cons_zero, List.getElem?_cons_succ]; done) | (simp only [List.getElem?_toArray, List.getElem?_cons_zero, List.getElem?_cons_succ]; exact rfl)
          case q151 => exact fun _ _ _ h => h
          case w151 => rfl
          case y151 =>
            intro w hSw
            (try dsimp only at hSw)
            skip
            go_simp
            try with_reducible rfl
          try simp only [Act.put, List.setIfInBounds_toArray, List.set_cons_zero, List.set_cons_succ]
          refine wpAnyH_take (i := 13) (oi := ?oi152) (v := ?vi152) ?h152 (by kernel_rfl) (by kernel_rfl) (by kernel_rfl) ?q152 (Or.inl ⟨?w152, ?y152⟩) hHeld ?r152
          case h152 => first | (simp only [List.getElem?_toArray, List.getElem?_cons_zero, List.getElem?_cons_succ]; done) | (simp only [List.getElem?_toArray, List.getElem?_cons_zero, List.getElem?_cons_succ]; exact rfl)
          case q152 => exact fun _ _ _ h => h
          case w152 => rfl
          case y152 =>
            intro w hSw
            (try dsimp only at hSw)
            skip
            go_simp
            try with_reducible rfl
          try simp only [Act.put, List.setIfInBounds_toArray, List.set_cons_zero, List.set_cons_succ]
          refine wpAnyH_take (i := 14) (oi := ?oi153) (v := ?vi153) ?h153 (by kernel_rfl) (by kernel_rfl) (by kernel_rfl) ?q153 (Or.inl ⟨?w153, ?y153⟩) hHeld ?r153
          case h153 => first | (simp only [List.getElem?_toArray, List.getElem?_cons_zero, List.getElem?_cons_succ]; done) | (simp only [List.getElem?_toArray, List.getElem?_cons_zero, List.getElem?_cons_succ]; exact rfl)
          case q153 => exact fun _ _ _ h => h
          case w153 => rfl
          case y153 =>
            intro w hSw
            (try dsimp only at hSw)
            skip
            go_simp
            try with_reducible rfl
          try simp only [Act.put, List.setIfInBounds_toArray, List.set_cons_zero, List.set_cons_succ]
          refine wpAnyH_take (i := 15) (oi := ?oi154) (v := ?vi154) ?h154 (by kernel_rfl) (by kernel_rfl) (by kernel_rfl) ?q154 (Or.inl ⟨?w154, ?y154⟩) hHeld ?r154
          case h154 => first | (simp only [List.getElem?_toArray, List.getElem?_cons_zero, List.getElem?_cons_succ]; done) | (simp only [List.getElem?_toArray, List.getElem?_cons_zero, List.getElem?_cons_succ]; exact rfl)
          case q154 => exact fun _ _ _ h => h
          case w154 => rfl
          case y154 =>
            intro w hSw
            (try dsimp only at hSw)
            skip
            go_simp
            try with_reducible rfl
          try simp only [Act.put, List.setIfInBounds_toArray, List.set_cons_zero, List.set_cons_succ]
          refine wpAnyH_take (i := 16) (oi := ?oi155) (v := ?vi155) ?h155 (by kernel_rfl) (by kernel_rfl) (by kernel_rfl) ?q155 (Or.inl ⟨?w155, ?y155⟩) hHeld ?r155
          case h155 => first | (simp only [List.getElem?_toArray, List.getElem?_cons_zero, List.getElem?_cons_succ]; done) | (simp only [List.getElem?_toArray, List.getElem?_cons_zero, List.getElem?_cons_succ]; exact rfl)
          case q155 => exact fun _ _ _ h => h
          case w155 => rfl
          case y155 =>
            intro w hSw
            (try dsimp only at hSw)
            skip
            go_simp
            try with_reducible rfl
          try simp only [Act.put, List.setIfInBounds_toArray, List.set_cons_zero, List.set_cons_succ]
          refine wpAnyH_ready (rs := [12]) (by kernel_rfl) (by simp) ?_
          refine AllReadyH.cons (o := ?ob156) ?hb156 (fun K hK => ?_) AllReadyH.nil
          case hb156 => first | (simp only [List.getElem?_toArray, List.getElem?_cons_zero, List.getElem?_cons_succ]; done) | (simp only [List.getElem?_toArray, List.getElem?_cons_zero, List.getElem?_cons_succ]; exact rfl)
          go_simp
          go_at_call 10
          refine HAc.out.mono ?_
          rintro e wx ⟨rfl, hwx⟩
          obtain rfl := hwx.symm
          clear hwx
          go_wp2_with fail
          refine hK.out _ _ k3 (fun hHeld => ?_)
          clear hK K
          try simp only [Act.put, List.setIfInBounds_toArray, List.set_cons_zero, List.set_cons_succ]
          refine wpAnyH_take (i := 17) (oi := ?oi157) (v := ?vi157) ?h157 (by kernel_rfl) (by kernel_rfl) (by kernel_rfl) ?q157 (Or.inl ⟨?w157, ?y157⟩) hHeld ?r157
          case h157 => first | (simp only [List.getElem?_toArray, List.getElem?_cons_zero, List.getElem?_cons_succ]; done) | (simp only [List.getElem?_toArray, List.getElem?_cons_zero, List.getElem?_cons_succ]; exact rfl)
          case q157 => exact fun _ _ _ h => h
          case w157 => rfl
          case y157 =>
            intro w hSw
            (try dsimp only at hSw)
            skip
            go_simp
            try with_reducible rfl
          try simp only [Act.put, List.setIfInBounds_toArray, List.set_cons_zero, List.set_cons_succ]
          refine wpAnyH_take (i := 18) (oi := ?oi158) (v := ?vi158) ?h158 (by kernel_rfl) (by kernel_rfl) (by kernel_rfl) ?q158 (Or.inl ⟨?w158, ?y158⟩) hHeld ?r158
          case h158 => first | (simp only [List.getElem?_toArray, List.getElem?_cons_zero, List.getElem?_cons_succ]; done) | (simp only [List.getElem?_toArray, List.getElem?_cons_zero, List.getElem?_cons_succ]; exact rfl)
          case q158 => exact fun _ _ _ h => h
          case w158 => rfl
          case y158 =>
            intro w hSw
            (try dsimp only at hSw)
            skip
            go_simp
            try with_reducible rfl
          try simp only [Act.put, List.setIfInBounds_toArray, List.set_cons_zero, List.set_cons_succ]
          refine wpAnyH_done (by kernel_rfl) ?_ _
          refine NoPanic.normal ?_
          clear k3
          by_cases h5 : x.what = 5
          · have t0 : (x.what == 0) = false := beq_eq_false_iff_ne.2 (by omega)
            have u0 : (x.what = 0) = False := eq_false (by omega)
            have t1 : (x.what == 1) = false := beq_eq_false_iff_ne.2 (by omega)
            have u1 : (x.what = 1) = False := eq_false (by omega)
            have t2 : (x.what == 2) = false := beq_eq_false_iff_ne.2 (by omega)
            have u2 : (x.what = 2) = False := eq_false (by omega)
            have t3 : (x.what == 3) = false := beq_eq_false_iff_ne.2 (by omega)
            have u3 : (x.what = 3) = False := eq_false (by omega)
            have t4 : (x.what == 4) = false := beq_eq_false_iff_ne.2 (by omega)
            have u4 : (x.what = 4) = False := eq_false (by omega)
            have t6 : (x.what == 6) = false := beq_eq_false_iff_ne.2 (by omega)
            have u6 : (x.what = 6) = False := eq_false (by omega)
            have t5 : (x.what == 5) = true := beq_iff_eq.2 h5
            have u5 : (x.what = 5) = True := eq_true h5
            clear h5
            have co0 := HBX.out.c0
            have co2 := HBX.out.c2
            have HA1 := Lib.hid (Fuse_c HT.out.d x.n HZ.out.2.2.1.hn.2)
            go_wp2_with fail
            refine HA1.out.mono ?_
            rintro e wa ⟨rfl, hda, hfa⟩
            have HBX2 := Lib.hid (HBX.out.keep hfa (fun e => HNB.out _ (.inl (.inl e)) rfl))
            have cb2 := HBX2.out.c2
            have hfa3 : Fp (own3 b g m) _ wa := hfa.mono (fun k hk => .inl hk)
            have h2 := RFuse_c (HT.out.mid hfa3) x.n HZ.out.2.2.1.hn.2
            rw [← hR.out.2.2.2] at h2
            have HA2 := Lib.hid h2
            have HDA := Lib.hid (And.intro hda (And.intro hfa hfa3))
            clear h2 hda hfa hfa3 co0 co2
            go_wp2_with fail
            refine HA2.out.mono ?_
            rintro e wb ⟨rfl, hrb, hfb⟩
            have hT2 := HT.out.step HDA.out.1 HDA.out.2.2 hrb (hfb.mono (fun k hk => (.inl (hk.trans hR.out.2.2.2) : own4 p' k))) (fun k hk => .inl hk)
            have hL2 := HLG.out.fuse x.n HDA.out.2.1 hrb (hfb.mono (fun k hk => hk.trans hR.out.2.2.2))
            have HF := Lib.hid (And.intro hT2 hL2)
            clear hT2 hL2 hrb hfb cb2
            go_wp2
            go_roundw
            case rel => exact ⟨k + 1, HZ.out.1, congrArg (Value.int .i64) HQW.out, E, dFuse s x.n, p', rfl, rfl, HF.out.1, HF.out.2, (by have h1 : s.acts ≤ 8 * k + 8 := HAC.out.1; show s.acts ≤ _; omega), hR.out.2.2.2⟩
            case measure => have := HZ.out.1; rw [HQW.out]; simp [RowKit.intOf]; omega
          · by_cases h6 : x.what = 6
            · have t0 : (x.what == 0) = false := beq_eq_false_iff_ne.2 (by omega)
              have u0 : (x.what = 0) = False := eq_false (by omega)
              have t1 : (x.what == 1) = false := beq_eq_false_iff_ne.2 (by omega)
              have u1 : (x.what = 1) = False := eq_false (by omega)
              have t2 : (x.what == 2) = false := beq_eq_false_iff_ne.2 (by omega)
              have u2 : (x.what = 2) = False := eq_false (by omega)
              have t3 : (x.what == 3) = false := beq_eq_false_iff_ne.2 (by omega)
              have u3 : (x.what = 3) = False := eq_false (by omega)
              have t4 : (x.what == 4) = false := beq_eq_false_iff_ne.2 (by omega)
              have u4 : (x.what = 4) = False := eq_false (by omega)
              have t5 : (x.what == 5) = false := beq_eq_false_iff_ne.2 (by omega)
              have u5 : (x.what = 5) = False := eq_false (by omega)
              have t6 : (x.what == 6) = true := beq_iff_eq.2 h6
              have u6 : (x.what = 6) = True := eq_true h6
              clear h5 h6
              have co0 := HBX.out.c0
              have co3 := HBX.out.c3
              have HA1 := Lib.hid (Crash_c HT.out.d _ x.keep HSK.out (fun h0 j hj ho => by have h1 := HLK.out h0 j hj; have h2 := (hR.out.1.d.all j ho).1; omega))
              go_wp2_with fail
              refine HA1.out.mono ?_
              rintro e wa ⟨rfl, hda, hfa⟩
              have HBX2 := Lib.hid (HBX.out.keep hfa (fun e => HNB.out _ (.inl e) rfl))
              have ca0 := HBX2.out.c0
              have ca3 := HBX2.out.c3
              have h2 := RCrash_walk (HT.out.mid hfa) _ x.keep (HSK.out.keep hfa (fun h0 j hj ho => by have h1 := HLK.out h0 j hj; have h2 := (hR.out.1.d.all j ho).1; omega)) (fun h0 j hj ho => by have h1 := HLK.out h0 j hj; have h2 := (hR.out.1.r.all j ho).1; omega)
              rw [← hR.out.2.2.2] at h2
              have HA2 := Lib.hid h2
              have HDA := Lib.hid (And.intro hda hfa)
              clear h2 hda hfa co0 co3
              go_wp2_with fail
              refine HA2.out.mono ?_
              rintro e wb ⟨p2, rfl, hrb, hfb, hpe, hop⟩
              have HBX3 := Lib.hid (HBX2.out.keep hfb (fun e => HNB.out _ (.inr e) rfl))
              have cb0 := HBX3.out.c0
              have HT3 := Lib.hid (HT.out.step HDA.out.1 HDA.out.2 hrb hfb hop)
              have HPC := Lib.hid (And.intro (hpe.trans hR.out.2.2.2) trivial)
              clear hrb hfb hpe hop ca0 ca3
              have hop := Open_c HT3.out.d (by have := HAC.out; have h5 : (dCrash s x.keep).acts = s.acts := rfl; omega)
              obtain ⟨E1, hE1⟩ : ∃ E1, E1 = (lOpen (dCrash s x.keep)).1 := ⟨_, rfl⟩
              rw [← hE1] at hop
              have HE1 := Lib.hid hE1
              have HOP1 := Lib.hid hop
              clear hop hE1
              go_wp2_with fail
              refine HOP1.out.mono ?_
              rintro e wc ⟨pv1, rfl, hO⟩
              have hr2 := rOpen_c (HT3.out.mid hO.fp) (Nat.le_trans HT3.out.fp.size hO.fp.size) (by have := HAC.out; have h5 : (dCrash s x.keep).acts = s.acts := rfl; omega)
              rw [HPC.out.1, ← hR.out.2.2.2, ← HE1.out] at hr2
              have HOR := Lib.hid hr2
              have HOO := Lib.hid hO
              clear hr2 hO
              go_wp2_with fail
              refine HOR.out.mono ?_
              rintro e wd ⟨vv1, rfl, hR2⟩
              obtain ⟨p3, ht3, hl3, hpb3⟩ := HT3.out.opened HOO.out hR2
              have HF := Lib.hid (And.intro ht3 (And.intro hl3 hpb3))
              clear hR2 ht3 hl3 hpb3
              go_wp2
              go_roundw
              case rel => exact ⟨k + 1, HZ.out.1, congrArg (Value.int .i64) HQW.out, E1, (lOpen (dCrash s x.keep)).2.2, p3, rfl, rfl, HF.out.1, HF.out.2.1, (by have h1 := open_acts (dCrash s x.keep); have h2 := HAC.out.1; have h5 : (dCrash s x.keep).acts = s.acts := rfl; omega), (hR.out.2.2.2.trans HPC.out.1.symm).trans HF.out.2.2.symm⟩
              case measure => have := HZ.out.1; rw [HQW.out]; simp [RowKit.intOf]; omega
            · by_cases h4 : x.what = 4
              · have t0 : (x.what == 0) = false := beq_eq_false_iff_ne.2 (by omega)
                have u0 : (x.what = 0) = False := eq_false (by omega)
                have t1 : (x.what == 1) = false := beq_eq_false_iff_ne.2 (by omega)
                have u1 : (x.what = 1) = False := eq_false (by omega)
                have t2 : (x.what == 2) = false := beq_eq_false_iff_ne.2 (by omega)
                have u2 : (x.what = 2) = False := eq_false (by omega)
                have t3 : (x.what == 3) = false := beq_eq_false_iff_ne.2 (by omega)
                have u3 : (x.what = 3) = False := eq_false (by omega)
                have t5 : (x.what == 5) = false := beq_eq_false_iff_ne.2 (by omega)
                have u5 : (x.what = 5) = False := eq_false (by omega)
                have t6 : (x.what == 6) = false := beq_eq_false_iff_ne.2 (by omega)
                have u6 : (x.what = 6) = False := eq_false (by omega)
                have t4 : (x.what == 4) = true := beq_iff_eq.2 h4
                have u4 : (x.what = 4) = True := eq_true h4
                clear h5 h6 h4
                have co0 := HBX.out.c0
                have hop := Open_c HT.out.d (by have := HAC.out; skip; omega)
                obtain ⟨E1, hE1⟩ : ∃ E1, E1 = (lOpen s).1 := ⟨_, rfl⟩
                rw [← hE1] at hop
                have HE1 := Lib.hid hE1
                have HOP1 := Lib.hid hop
                clear hop hE1
                go_wp2_with fail
                refine HOP1.out.mono ?_
                rintro e wc ⟨pv1, rfl, hO⟩
                have hr2 := rOpen_c (HT.out.mid hO.fp) (Nat.le_trans HT.out.fp.size hO.fp.size) (by have := HAC.out; skip; omega)
                rw [← hR.out.2.2.2, ← HE1.out] at hr2
                have HOR := Lib.hid hr2
                have HOO := Lib.hid hO
                clear hr2 hO
                go_wp2_with fail
                refine HOR.out.mono ?_
                rintro e wd ⟨vv1, rfl, hR2⟩
                obtain ⟨p3, ht3, hl3, hpb3⟩ := HT.out.opened HOO.out hR2
                have HF := Lib.hid (And.intro ht3 (And.intro hl3 hpb3))
                clear hR2 ht3 hl3 hpb3
                go_wp2
                go_roundw
                case rel => exact ⟨k + 1, HZ.out.1, congrArg (Value.int .i64) HQW.out, E1, (lOpen s).2.2, p3, rfl, rfl, HF.out.1, HF.out.2.1, (by have h1 := open_acts s; have h2 := HAC.out.1; skip; omega), hR.out.2.2.2.trans HF.out.2.2.symm⟩
                case measure => have := HZ.out.1; rw [HQW.out]; simp [RowKit.intOf]; omega
              · by_cases h0 : x.what = 0
                · have t1 : (x.what == 1) = false := beq_eq_false_iff_ne.2 (by omega)
                  have u1 : (x.what = 1) = False := eq_false (by omega)
                  have t2 : (x.what == 2) = false := beq_eq_false_iff_ne.2 (by omega)
                  have u2 : (x.what = 2) = False := eq_false (by omega)
                  have t3 : (x.what == 3) = false := beq_eq_false_iff_ne.2 (by omega)
                  have u3 : (x.what = 3) = False := eq_false (by omega)
                  have t4 : (x.what == 4) = false := beq_eq_false_iff_ne.2 (by omega)
                  have u4 : (x.what = 4) = False := eq_false (by omega)
                  have t5 : (x.what == 5) = false := beq_eq_false_iff_ne.2 (by omega)
                  have u5 : (x.what = 5) = False := eq_false (by omega)
                  have t6 : (x.what == 6) = false := beq_eq_false_iff_ne.2 (by omega)
                  have u6 : (x.what = 6) = False := eq_false (by omega)
                  have t0 : (x.what == 0) = true := beq_iff_eq.2 h0
                  have u0 : (x.what = 0) = True := eq_true h0
                  clear h5 h6 h4 h0
                  have co0 := HBX.out.c0
                  have co1 := HBX.out.c1
                  obtain ⟨X, hX⟩ : ∃ X, X = (lAppend s lg x.b).1 := ⟨_, rfl⟩
                  obtain ⟨s1, hs1⟩ : ∃ s1, s1 = (lAppend s lg x.b).2.2 := ⟨_, rfl⟩
                  obtain ⟨l1, hl1⟩ : ∃ l1, l1 = (lAppend s lg x.b).2.1 := ⟨_, rfl⟩
                  have hmk := append_mk HL2.out.lk x.b
                  have hc1 := Append_c HT.out.d HL2.out.pr HL2.out.lk HL2.out.ap1 _ x.b (Src.of_se HSB.out.se (fun h0 j hj ho => by have h1 := HLB.out h0 j hj; have h2 := (hR.out.1.d.all j ho).1; omega)) (by have := HAC.out; omega)
                  rw [← hX, ← hs1, ← hl1] at hc1
                  rw [← hs1, ← hl1] at hmk
                  have HMK := Lib.hid hmk
                  have HA1 := Lib.hid hc1
                  have HXX := Lib.hid (And.intro hX (And.intro hs1 hl1))
                  clear hc1 hmk hX hs1 hl1
                  go_wp2_with fail
                  refine HA1.out.mono ?_
                  rintro e wa ⟨rfl, hLA⟩
                  have HBX2 := Lib.hid (HBX.out.keep hLA.fp (fun e => e.elim (fun e => HNB.out _ (.inl e) rfl) (fun e => HNL.out _ (.inl e) rfl)))
                  have ca1 := HBX2.out.c1
                  have hc2 := rAppend_c (HL2.out.du.keep hLA.fp (fun j hj ho => HL2.out.ap2 j ho hj)) HL2.out.lk _ x.b (HSB.out.se.keep hLA.fp (fun h0 j hj ho => by
                    have h1 := HLB.out h0 j hj
                    rcases ho with ho | ho
                    · have h2 := (hR.out.1.d.all j ho).1; omega
                    · have h2 := (HL2.out.pr.all j ho).1; omega)) (fun h0 j hj ho => by have h1 := HLB.out h0 j hj; have h2 := (HT.out.r.all j ho).1; omega) (by have := HAC.out; omega)
                  rw [← HXX.out.1, ← HXX.out.2.1, ← HXX.out.2.2] at hc2
                  have HA2 := Lib.hid hc2
                  have HLA := Lib.hid hLA
                  clear hc2 hLA co0 co1
                  go_wp2_with fail
                  refine HA2.out.mono ?_
                  rintro e wb ⟨rfl, hDR⟩
                  obtain ⟨p2, z1, z2, DZ, ht2, hlo2, hpb2⟩ := HL2.out.called HT.out HLA.out hDR HMK.out.lk
                  obtain ⟨zao, zcap, hz2⟩ := hlo2.du.bo.shape
                  have HC := Lib.hid (And.intro ht2 hlo2)
                  have HZV := Lib.hid hz2
                  have HPC := Lib.hid hpb2
                  clear hDR ht2 hlo2 hpb2 hz2 ca1
                  have k2 : wb.drew.cell? ⟨q2, 2, none⟩ = some (.slice zao l1.rs.length zcap) := by have := HC.out.2.du.c2; rw [HZV.out] at this; exact this
                  have hfw := HC.out.2.lk.few HC.out.1.d.rt
                  have husd : usd l1.rs ≤ 100000 := by have := HC.out.2.lk.fit; omega
                  have hrc := Records_c (HC.out.2.pr.keep (Fp.drew (Fp.refl Non wb)) (fun _ _ h => h)) husd
                  have HRC := Lib.hid hrc
                  have HFW := Lib.hid hfw
                  clear hrc hfw husd
                  go_wp2_with fail
                  refine wp_region_noPanic ?_
                  refine wp_region_held_drew (S := (fun w' => w'.cell? ⟨q2, 2, none⟩ = some (.slice zao l1.rs.length zcap))) (by kernel_rfl) ?_ (fun hHeld => ?_)
                  · exact k2
                  refine wpAnyH_take (i := 0) (oi := ?oi159) (v := ?vi159) ?h159 (by kernel_rfl) (by kernel_rfl) (by kernel_rfl) ?q159 (Or.inl ⟨?w159, ?y159⟩) hHeld ?r159
                  case h159 => first | (simp only [List.getElem?_toArray, List.getElem?_cons_zero]; done) | (simp only [List.getElem?_toArray, List.getElem?_cons_zero]; exact rfl)
                  case q159 => exact fun _ _ _ h => h
                  case w159 => rfl
                  case y159 =>
                    intro w hSw
                    (try dsimp only at hSw)
                    skip
                    go_simp
                    try with_reducible rfl
                  try simp only [Act.put, List.setIfInBounds_toArray, List.set_cons_zero, List.set_cons_succ]
                  refine wpAnyH_take (i := 1) (oi := ?oi160) (v := ?vi160) ?h160 (by kernel_rfl) (by kernel_rfl) (by kernel_rfl) ?q160 (Or.inl ⟨?w160, ?y160⟩) hHeld ?r160
                  case h160 => first | (simp only [List.getElem?_toArray, List.getElem?_cons_zero, List.getElem?_cons_succ]; done) | (simp only [List.getElem?_toArray, List.getElem?_cons_zero, List.getElem?_cons_succ]; exact rfl)
                  case q160 => exact fun _ _ _ h => h
                  case w160 => rfl
                  case y160 =>
                    intro w hSw
                    (try dsimp only at hSw)
                    skip
                    go_simp
                    try with_reducible rfl
                  try simp only [Act.put, List.setIfInBounds_toArray, List.set_cons_zero, List.set_cons_succ]
                  refine wpAnyH_take (i := 2) (oi := ?oi161) (v := ?vi161) ?h161 (by kernel_rfl) (by kernel_rfl) (by kernel_rfl) ?q161 (Or.inl ⟨?w161, ?y161⟩) hHeld ?r161
                  case h161 => first | (simp only [List.getElem?_toArray, List.getElem?_cons_zero, List.getElem?_cons_succ]; done) | (simp only [List.getElem?_toArray, List.getElem?_cons_zero, List.getElem?_cons_succ]; exact rfl)
                  case q161 => exact fun _ _ _ h => h
                  case w161 => rfl
                  case y161 =>
                    intro w hSw
                    (try dsimp only at hSw)
                    skip
                    go_simp
                    try with_reducible rfl
                  try simp only [Act.put, List.setIfInBounds_toArray, List.set_cons_zero, List.set_cons_succ]
                  refine wpAnyH_take (i := 3) (oi := ?oi162) (v := ?vi162) ?h162 (by kernel_rfl) (by kernel_rfl) (by kernel_rfl) ?q162 (Or.inl ⟨?w162, ?y162⟩) hHeld ?r162
                  case h162 => first | (simp only [List.getElem?_toArray, List.getElem?_cons_zero, List.getElem?_cons_succ]; done) | (simp only [List.getElem?_toArray, List.getElem?_cons_zero, List.getElem?_cons_succ]; exact rfl)
                  case q162 => exact fun _ _ _ h => h
                  case w162 => rfl
                  case y162 =>
                    intro w hSw
                    (try dsimp only at hSw)
                    skip
                    go_simp
                    try with_reducible rfl
                  try simp only [Act.put, List.setIfInBounds_toArray, List.set_cons_zero, List.set_cons_succ]
                  refine wpAnyH_take (i := 4) (oi := ?oi163) (v := ?vi163) ?h163 (by kernel_rfl) (by kernel_rfl) (by kernel_rfl) ?q163 (Or.inl ⟨?w163, ?y163⟩) hHeld ?r163
                  case h163 => first | (simp only [List.getElem?_toArray, List.getElem?_cons_zero, List.getElem?_cons_succ]; done) | (simp only [List.getElem?_toArray, List.getElem?_cons_zero, List.getElem?_cons_succ]; exact rfl)
                  case q163 => exact fun _ _ _ h => h
                  case w163 => rfl
                  case y163 =>
                    intro w hSw
                    (try dsimp only at hSw)
                    skip
                    go_simp
                    try with_reducible rfl
                  try simp only [Act.put, List.setIfInBounds_toArray, List.set_cons_zero, List.set_cons_succ]
                  refine wpAnyH_take (i := 6) (oi := ?oi164) (v := ?vi164) ?h164 (by kernel_rfl) (by kernel_rfl) (by kernel_rfl) ?q164 (Or.inl ⟨?w164, ?y164⟩) hHeld ?r164
                  case h164 => first | (simp only [List.getElem?_toArray, List.getElem?_cons_zero, List.getElem?_cons_succ]; done) | (simp only [List.getElem?_toArray, List.getElem?_cons_zero, List.getElem?_cons_succ]; exact rfl)
                  case q164 => exact fun _ _ _ h => h
                  case w164 => rfl
                  case y164 =>
                    intro w hSw
                    (try dsimp only at hSw)
                    skip
                    go_simp
                    try with_reducible rfl
                  try simp only [Act.put, List.setIfInBounds_toArray, List.set_cons_zero, List.set_cons_succ]
                  refine wpAnyH_take (i := 7) (oi := ?oi165) (v := ?vi165) ?h165 (by kernel_rfl) (by kernel_rfl) (by kernel_rfl) ?q165 (Or.inl ⟨?w165, ?y165⟩) hHeld ?r165
                  case h165 => first | (simp only [List.getElem?_toArray, List.getElem?_cons_zero, List.getElem?_cons_succ]; done) | (simp only [List.getElem?_toArray, List.getElem?_cons_zero, List.getElem?_cons_succ]; exact rfl)
                  case q165 => exact fun _ _ _ h => h
                  case w165 => rfl
                  case y165 =>
                    intro w hSw
                    (try dsimp only at hSw)
                    skip
                    go_simp
                    try with_reducible rfl
                  try simp only [Act.put, List.setIfInBounds_toArray, List.set_cons_zero, List.set_cons_succ]
                  refine wpAnyH_take (i := 8) (oi := ?oi166) (v := ?vi166) ?h166 (by kernel_rfl) (by kernel_rfl) (by kernel_rfl) ?q166 (Or.inl ⟨?w166, ?y166⟩) hHeld ?r166
                  case h166 => first | (simp only [List.getElem?_toArray, List.getElem?_cons_zero, List.getElem?_cons_succ]; done) | (simp only [List.getElem?_toArray, List.getElem?_cons_zero, List.getElem?_cons_succ]; exact rfl)
                  case q166 => exact fun _ _ _ h => h
                  case w166 => rfl
                  case y166 =>
                    intro w hSw
                    (try dsimp only at hSw)
                    skip
                    go_simp
                    try with_reducible rfl
                  try simp only [Act.put, List.setIfInBounds_toArray, List.set_cons_zero, List.set_cons_succ]
                  refine wpAnyH_take (i := 9) (oi := ?oi167) (v := ?vi167) ?h167 (by kernel_rfl) (by kernel_rfl) (by kernel_rfl) ?q167 (Or.inl ⟨?w167, ?y167⟩) hHeld ?r167
                  case h167 => first | (simp only [List.getElem?_toArray, List.getElem?_cons_zero, List.getElem?_cons_succ]; done) | (simp only [List.getElem?_toArray, List.getElem?_cons_zero, List.getElem?_cons_succ]; exact rfl)
                  case q167 => exact fun _ _ _ h => h
                  case w167 => rfl
                  case y167 =>
                    intro w hSw
                    (try dsimp only at hSw)
                    skip
                    go_simp
                    try with_reducible rfl
                  try simp only [Act.put, List.setIfInBounds_toArray, List.set_cons_zero, List.set_cons_succ]
                  refine wpAnyH_ready (rs := [5]) (by kernel_rfl) (by simp) ?_
                  refine AllReadyH.cons (o := ?ob168) ?hb168 (fun K hK => ?_) AllReadyH.nil
                  case hb168 => first | (simp only [List.getElem?_toArray, List.getElem?_cons_zero, List.getElem?_cons_succ]; done) | (simp only [List.getElem?_toArray, List.getElem?_cons_zero, List.getElem?_cons_succ]; exact rfl)
                  go_simp
                  go_at_call 20
                  refine HRC.out.mono ?_
                  rintro e wm ⟨u, rfl, hfm, hbm⟩
                  have fdm : Fp Non wb wm := (Fp.refl Non wb).drew.then hfm
                  have km : wm.cell? ⟨q2, 2, none⟩ = some (.slice zao l1.rs.length zcap) := hfm.cell k2 (fun h => h)
                  have hsm := Same_c u (.slice zao l1.rs.length zcap) l1.rs l1.rs wm (hbm.view (E := fun _ => True) (fun _ _ => trivial) (fun _ _ => trivial)) (by have := (HC.out.2.du.bo.view (E := fun _ => True) (fun _ _ => trivial) (fun _ _ => trivial)).keep fdm (fun _ _ h => h); rw [HZV.out] at this; exact this) (by have := HFW.out.1; omega)
                  rw [show decide (l1.rs = l1.rs) = true from decide_eq_true rfl] at hsm
                  obtain ⟨uao, ucap, hu⟩ := hbm.shape
                  subst hu
                  have HSM := Lib.hid hsm
                  have HDM := Lib.hid fdm
                  clear hsm hfm hbm fdm k2 hHeld
                  go_wp2_with fail
                  refine hK.out _ _ km (fun hHeld => ?_)
                  clear hK K
                  try simp only [Act.put, List.setIfInBounds_toArray, List.set_cons_zero, List.set_cons_succ]
                  refine wpAnyH_ready (rs := [10]) (by kernel_rfl) (by simp) ?_
                  refine AllReadyH.cons (o := ?ob169) ?hb169 (fun K hK => ?_) AllReadyH.nil
                  case hb169 => first | (simp only [List.getElem?_toArray, List.getElem?_cons_zero, List.getElem?_cons_succ]; done) | (simp only [List.getElem?_toArray, List.getElem?_cons_zero, List.getElem?_cons_succ]; exact rfl)
                  go_simp
                  go_at_call 19
                  refine HSM.out.mono ?_
                  rintro e wn ⟨rfl, hfn⟩
                  have kn : wn.cell? ⟨q2, 2, none⟩ = some (.slice zao l1.rs.length zcap) := hfn.cell km (fun h => h)
                  have hdn := HDM.out.then hfn
                  have HRo := Lib.hid (Room_c (HC.out.1.d.keep hdn (fun _ _ h => h)) (HC.out.2.pr.keep hdn (fun _ _ h => h)) HC.out.2.lk)
                  have HRr := Lib.hid (rRoom_c (HC.out.2.du.non hdn) HC.out.2.lk)
                  have HDN := Lib.hid hdn
                  clear hfn hdn km hHeld
                  go_wp2_with fail
                  refine hK.out _ _ kn (fun hHeld => ?_)
                  clear hK K
                  try simp only [Act.put, List.setIfInBounds_toArray, List.set_cons_zero, List.set_cons_succ]
                  refine wpAnyH_take (i := 11) (oi := ?oi170) (v := ?vi170) ?h170 (by kernel_rfl) (by kernel_rfl) (by kernel_rfl) ?q170 (Or.inl ⟨?w170, ?y170⟩) hHeld ?r170
                  case h170 => first | (simp only [List.getElem?_toArray, List.getElem?_cons_zero, List.getElem?_cons_succ]; done) | (simp only [List.getElem?_toArray, List.getElem?_cons_zero, List.getElem?_cons_succ]; exact rfl)
                  case q170 => exact fun _ _ _ h => h
                  case w170 => rfl
                  case y170 =>
                    intro w hSw
                    (try dsimp only at hSw)
                    skip
                    go_simp
                    try with_reducible rfl
                  try simp only [Act.put, List.setIfInBounds_toArray, List.set_cons_zero, List.set_cons_succ]
                  refine wpAnyH_take (i := 12) (oi := ?oi171) (v := ?vi171) ?h171 (by kernel_rfl) (by kernel_rfl) (by kernel_rfl) ?q171 (Or.inl ⟨?w171, ?y171⟩) hHeld ?r171
                  case h171 => first | (simp only [List.getElem?_toArray, List.getElem?_cons_zero, List.getElem?_cons_succ]; done) | (simp only [List.getElem?_toArray, List.getElem?_cons_zero, List.getElem?_cons_succ]; exact rfl)
                  case q171 => exact fun _ _ _ h => h
                  case w171 => rfl
                  case y171 =>
                    intro w hSw
                    (try dsimp only at hSw)
                    skip
                    go_simp
                    try with_reducible rfl
                  try simp only [Act.put, List.setIfInBounds_toArray, List.set_cons_zero, List.set_cons_succ]
                  refine wpAnyH_take (i := 13) (oi := ?oi172) (v := ?vi172) ?h172 (by kernel_rfl) (by kernel_rfl) (by kernel_rfl) ?q172 (Or.inl ⟨?w172, ?y172⟩) hHeld ?r172
                  case h172 => first | (simp only [List.getElem?_toArray, List.getElem?_cons_zero, List.getElem?_cons_succ]; done) | (simp only [List.getElem?_toArray, List.getElem?_cons_zero, List.getElem?_cons_succ]; exact rfl)
                  case q172 => exact fun _ _ _ h => h
                  case w172 => rfl
                  case y172 =>
                    intro w hSw
                    (try dsimp only at hSw)
                    skip
                    go_simp
                    try with_reducible rfl
                  try simp only [Act.put, List.setIfInBounds_toArray, List.set_cons_zero, List.set_cons_succ]
                  refine wpAnyH_take (i := 14) (oi := ?oi173) (v := ?vi173) ?h173 (by kernel_rfl) (by kernel_rfl) (by kernel_rfl) ?q173 (Or.inl ⟨?w173, ?y173⟩) hHeld ?r173
                  case h173 => first | (simp only [List.getElem?_toArray, List.getElem?_cons_zero, List.getElem?_cons_succ]; done) | (simp only [List.getElem?_toArray, List.getElem?_cons_zero, List.getElem?_cons_succ]; exact rfl)
                  case q173 => exact fun _ _ _ h => h
                  case w173 => rfl
                  case y173 =>
                    intro w hSw
                    (try dsimp only at hSw)
                    skip
                    go_simp
                    try with_reducible rfl
                  try simp only [Act.put, List.setIfInBounds_toArray, List.set_cons_zero, List.set_cons_succ]
                  refine wpAnyH_take (i := 16) (oi := ?oi174) (v := ?vi174) ?h174 (by kernel_rfl) (by kernel_rfl) (by kernel_rfl) ?q174 (Or.inl ⟨?w174, ?y174⟩) hHeld ?r174
                  case h174 => first | (simp only [List.getElem?_toArray, List.getElem?_cons_zero, List.getElem?_cons_succ]; done) | (simp only [List.getElem?_toArray, List.getElem?_cons_zero, List.getElem?_cons_succ]; exact rfl)
                  case q174 => exact fun _ _ _ h => h
                  case w174 => rfl
                  case y174 =>
                    intro w hSw
                    (try dsimp only at hSw)
                    skip
                    go_simp
                    try with_reducible rfl
                  try simp only [Act.put, List.setIfInBounds_toArray, List.set_cons_zero, List.set_cons_succ]
                  refine wpAnyH_ready (rs := [15]) (by kernel_rfl) (by simp) ?_
                  refine AllReadyH.cons (o := ?ob175) ?hb175 (fun K hK => ?_) AllReadyH.nil
                  case hb175 => first | (simp only [List.getElem?_toArray, List.getElem?_cons_zero, List.getElem?_cons_succ]; done) | (simp only [List.getElem?_toArray, List.getElem?_cons_zero, List.getElem?_cons_succ]; exact rfl)
                  go_simp
                  go_at_call 21
                  refine HRo.out.mono ?_
                  rintro e w' ⟨rfl, hw'⟩
                  obtain rfl := hw'.symm
                  clear hw'
                  go_wp2_with fail
                  refine hK.out _ _ kn (fun hHeld => ?_)
                  clear hK K
                  try simp only [Act.put, List.setIfInBounds_toArray, List.set_cons_zero, List.set_cons_succ]
                  refine wpAnyH_ready (rs := [17]) (by kernel_rfl) (by simp) ?_
                  refine AllReadyH.cons (o := ?ob176) ?hb176 (fun K hK => ?_) AllReadyH.nil
                  case hb176 => first | (simp only [List.getElem?_toArray, List.getElem?_cons_zero, List.getElem?_cons_succ]; done) | (simp only [List.getElem?_toArray, List.getElem?_cons_zero, List.getElem?_cons_succ]; exact rfl)
                  go_simp
                  go_at_call 22
                  refine HRr.out.mono ?_
                  rintro e w' ⟨rfl, hw'⟩
                  obtain rfl := hw'.symm
                  clear hw'
                  go_wp2_with fail
                  refine hK.out _ _ kn (fun hHeld => ?_)
                  clear hK K
                  try simp only [Act.put, List.setIfInBounds_toArray, List.set_cons_zero, List.set_cons_succ]
                  refine wpAnyH_take (i := 18) (oi := ?oi177) (v := ?vi177) ?h177 (by kernel_rfl) (by kernel_rfl) (by kernel_rfl) ?q177 (Or.inl ⟨?w177, ?y177⟩) hHeld ?r177
                  case h177 => first | (simp only [List.getElem?_toArray, List.getElem?_cons_zero, List.getElem?_cons_succ]; done) | (simp only [List.getElem?_toArray, List.getElem?_cons_zero, List.getElem?_cons_succ]; exact rfl)
                  case q177 => exact fun _ _ _ h => h
                  case w177 => rfl
                  case y177 =>
                    intro w hSw
                    (try dsimp only at hSw)
                    skip
                    go_simp
                    try with_reducible rfl
                  try simp only [Act.put, List.setIfInBounds_toArray, List.set_cons_zero, List.set_cons_succ]
                  refine wpAnyH_take (i := 19) (oi := ?oi178) (v := ?vi178) ?h178 (by kernel_rfl) (by kernel_rfl) (by kernel_rfl) ?q178 (Or.inl ⟨?w178, ?y178⟩) hHeld ?r178
                  case h178 => first | (simp only [List.getElem?_toArray, List.getElem?_cons_zero, List.getElem?_cons_succ]; done) | (simp only [List.getElem?_toArray, List.getElem?_cons_zero, List.getElem?_cons_succ]; exact rfl)
                  case q178 => exact fun _ _ _ h => h
                  case w178 => rfl
                  case y178 =>
                    intro w hSw
                    (try dsimp only at hSw)
                    skip
                    go_simp
                    try with_reducible rfl
                  try simp only [Act.put, List.setIfInBounds_toArray, List.set_cons_zero, List.set_cons_succ]
                  refine wpAnyH_done (by kernel_rfl) ?_ _
                  refine NoPanic.normal ?_
                  clear kn
                  go_wp2
                  go_roundw
                  case rel => exact ⟨k + 1, HZ.out.1, congrArg (Value.int .i64) HQW.out, E, s1, p2, rfl, rfl, HC.out.1.keep HDN.out, .inr ⟨q1, z1, q2, _, _, l1, rfl, rfl, HC.out.2.keep HDN.out⟩, (by have h1 := HMK.out.acts; have h2 := HAC.out.1; omega), hR.out.2.2.2.trans HPC.out.symm⟩
                  case measure => have := HZ.out.1; rw [HQW.out]; simp [RowKit.intOf]; omega
                · by_cases h1 : x.what = 1
                  · have t0 : (x.what == 0) = false := beq_eq_false_iff_ne.2 (by omega)
                    have u0 : (x.what = 0) = False := eq_false (by omega)
                    have t2 : (x.what == 2) = false := beq_eq_false_iff_ne.2 (by omega)
                    have u2 : (x.what = 2) = False := eq_false (by omega)
                    have t3 : (x.what == 3) = false := beq_eq_false_iff_ne.2 (by omega)
                    have u3 : (x.what = 3) = False := eq_false (by omega)
                    have t4 : (x.what == 4) = false := beq_eq_false_iff_ne.2 (by omega)
                    have u4 : (x.what = 4) = False := eq_false (by omega)
                    have t5 : (x.what == 5) = false := beq_eq_false_iff_ne.2 (by omega)
                    have u5 : (x.what = 5) = False := eq_false (by omega)
                    have t6 : (x.what == 6) = false := beq_eq_false_iff_ne.2 (by omega)
                    have u6 : (x.what = 6) = False := eq_false (by omega)
                    have t1 : (x.what == 1) = true := beq_iff_eq.2 h1
                    have u1 : (x.what = 1) = True := eq_true h1
                    clear h5 h6 h4 h0 h1
                    have co0 := HBX.out.c0
                    have co1 := HBX.out.c1
                    obtain ⟨X, hX⟩ : ∃ X, X = (lAppend s lg x.b).1 := ⟨_, rfl⟩
                    obtain ⟨s1, hs1⟩ : ∃ s1, s1 = (lAppend s lg x.b).2.2 := ⟨_, rfl⟩
                    obtain ⟨l1, hl1⟩ : ∃ l1, l1 = (lAppend s lg x.b).2.1 := ⟨_, rfl⟩
                    have hmk := append_mk HL2.out.lk x.b
                    have hc1 := Append_c HT.out.d HL2.out.pr HL2.out.lk HL2.out.ap1 _ x.b (Src.of_se HSB.out.se (fun h0 j hj ho => by have h1 := HLB.out h0 j hj; have h2 := (hR.out.1.d.all j ho).1; omega)) (by have := HAC.out; omega)
                    rw [← hX, ← hs1, ← hl1] at hc1
                    rw [← hs1, ← hl1] at hmk
                    have HMK := Lib.hid hmk
                    have HA1 := Lib.hid hc1
                    have HXX := Lib.hid (And.intro hX (And.intro hs1 hl1))
                    clear hc1 hmk hX hs1 hl1
                    go_wp2_with fail
                    refine HA1.out.mono ?_
                    rintro e wa ⟨rfl, hLA⟩
                    have HBX2 := Lib.hid (HBX.out.keep hLA.fp (fun e => e.elim (fun e => HNB.out _ (.inl e) rfl) (fun e => HNL.out _ (.inl e) rfl)))
                    have ca1 := HBX2.out.c1
                    have hc2 := rAppend_c (HL2.out.du.keep hLA.fp (fun j hj ho => HL2.out.ap2 j ho hj)) HL2.out.lk _ x.b (HSB.out.se.keep hLA.fp (fun h0 j hj ho => by
                      have h1 := HLB.out h0 j hj
                      rcases ho with ho | ho
                      · have h2 := (hR.out.1.d.all j ho).1; omega
                      · have h2 := (HL2.out.pr.all j ho).1; omega)) (fun h0 j hj ho => by have h1 := HLB.out h0 j hj; have h2 := (HT.out.r.all j ho).1; omega) (by have := HAC.out; omega)
                    rw [← HXX.out.1, ← HXX.out.2.1, ← HXX.out.2.2] at hc2
                    have HA2 := Lib.hid hc2
                    have HLA := Lib.hid hLA
                    clear hc2 hLA co0 co1
                    go_wp2_with fail
                    refine HA2.out.mono ?_
                    rintro e wb ⟨rfl, hDR⟩
                    obtain ⟨p2, z1, z2, DZ, ht2, hlo2, hpb2⟩ := HL2.out.called HT.out HLA.out hDR HMK.out.lk
                    obtain ⟨zao, zcap, hz2⟩ := hlo2.du.bo.shape
                    have HC := Lib.hid (And.intro ht2 hlo2)
                    have HZV := Lib.hid hz2
                    have HPC := Lib.hid hpb2
                    clear hDR ht2 hlo2 hpb2 hz2 ca1
                    have k2 : wb.drew.cell? ⟨q2, 2, none⟩ = some (.slice zao l1.rs.length zcap) := by have := HC.out.2.du.c2; rw [HZV.out] at this; exact this
                    have hfw := HC.out.2.lk.few HC.out.1.d.rt
                    have husd : usd l1.rs ≤ 100000 := by have := HC.out.2.lk.fit; omega
                    have hrc := Records_c (HC.out.2.pr.keep (Fp.drew (Fp.refl Non wb)) (fun _ _ h => h)) husd
                    have HRC := Lib.hid hrc
                    have HFW := Lib.hid hfw
                    clear hrc hfw husd
                    go_wp2_with fail
                    refine wp_region_noPanic ?_
                    refine wp_region_held_drew (S := (fun w' => w'.cell? ⟨q2, 2, none⟩ = some (.slice zao l1.rs.length zcap))) (by kernel_rfl) ?_ (fun hHeld => ?_)
                    · exact k2
                    refine wpAnyH_take (i := 0) (oi := ?oi179) (v := ?vi179) ?h179 (by kernel_rfl) (by kernel_rfl) (by kernel_rfl) ?q179 (Or.inl ⟨?w179, ?y179⟩) hHeld ?r179
                    case h179 => first | (simp only [List.getElem?_toArray, List.getElem?_cons_zero]; done) | (simp only [List.getElem?_toArray, List.getElem?_cons_zero]; exact rfl)
                    case q179 => exact fun _ _ _ h => h
                    case w179 => rfl
                    case y179 =>
                      intro w hSw
                      (try dsimp only at hSw)
                      skip
                      go_simp
                      try with_reducible rfl
                    try simp only [Act.put, List.setIfInBounds_toArray, List.set_cons_zero, List.set_cons_succ]
                    refine wpAnyH_take (i := 1) (oi := ?oi180) (v := ?vi180) ?h180 (by kernel_rfl) (by kernel_rfl) (by kernel_rfl) ?q180 (Or.inl ⟨?w180, ?y180⟩) hHeld ?r180
                    case h180 => first | (simp only [List.getElem?_toArray, List.getElem?_cons_zero, List.getElem?_cons_succ]; done) | (simp only [List.getElem?_toArray, List.getElem?_cons_zero, List.getElem?_cons_succ]; exact rfl)
                    case q180 => exact fun _ _ _ h => h
                    case w180 => rfl
                    case y180 =>
                      intro w hSw
                      (try dsimp only at hSw)
                      skip
                      go_simp
                      try with_reducible rfl
                    try simp only [Act.put, List.setIfInBounds_toArray, List.set_cons_zero, List.set_cons_succ]
                    refine wpAnyH_take (i := 2) (oi := ?oi181) (v := ?vi181) ?h181 (by kernel_rfl) (by kernel_rfl) (by kernel_rfl) ?q181 (Or.inl ⟨?w181, ?y181⟩) hHeld ?r181
                    case h181 => first | (simp only [List.getElem?_toArray, List.getElem?_cons_zero, List.getElem?_cons_succ]; done) | (simp only [List.getElem?_toArray, List.getElem?_cons_zero, List.getElem?_cons_succ]; exact rfl)
                    case q181 => exact fun _ _ _ h => h
                    case w181 => rfl
                    case y181 =>
                      intro w hSw
                      (try dsimp only at hSw)
                      skip
                      go_simp
                      try with_reducible rfl
                    try simp only [Act.put, List.setIfInBounds_toArray, List.set_cons_zero, List.set_cons_succ]
                    refine wpAnyH_take (i := 3) (oi := ?oi182) (v := ?vi182) ?h182 (by kernel_rfl) (by kernel_rfl) (by kernel_rfl) ?q182 (Or.inl ⟨?w182, ?y182⟩) hHeld ?r182
                    case h182 => first | (simp only [List.getElem?_toArray, List.getElem?_cons_zero, List.getElem?_cons_succ]; done) | (simp only [List.getElem?_toArray, List.getElem?_cons_zero, List.getElem?_cons_succ]; exact rfl)
                    case q182 => exact fun _ _ _ h => h
                    case w182 => rfl
                    case y182 =>
                      intro w hSw
                      (try dsimp only at hSw)
                      skip
                      go_simp
                      try with_reducible rfl
                    try simp only [Act.put, List.setIfInBounds_toArray, List.set_cons_zero, List.set_cons_succ]
                    refine wpAnyH_take (i := 4) (oi := ?oi183) (v := ?vi183) ?h183 (by kernel_rfl) (by kernel_rfl) (by kernel_rfl) ?q183 (Or.inl ⟨?w183, ?y183⟩) hHeld ?r183
                    case h183 => first | (simp only [List.getElem?_toArray, List.getElem?_cons_zero, List.getElem?_cons_succ]; done) | (simp only [List.getElem?_toArray, List.getElem?_cons_zero, List.getElem?_cons_succ]; exact rfl)
                    case q183 => exact fun _ _ _ h => h
                    case w183 => rfl
                    case y183 =>
                      intro w hSw
                      (try dsimp only at hSw)
                      skip
                      go_simp
                      try with_reducible rfl
                    try simp only [Act.put, List.setIfInBounds_toArray, List.set_cons_zero, List.set_cons_succ]
                    refine wpAnyH_take (i := 6) (oi := ?oi184) (v := ?vi184) ?h184 (by kernel_rfl) (by kernel_rfl) (by kernel_rfl) ?q184 (Or.inl ⟨?w184, ?y184⟩) hHeld ?r184
                    case h184 => first | (simp only [List.getElem?_toArray, List.getElem?_cons_zero, List.getElem?_cons_succ]; done) | (simp only [List.getElem?_toArray, List.getElem?_cons_zero, List.getElem?_cons_succ]; exact rfl)
                    case q184 => exact fun _ _ _ h => h
                    case w184 => rfl
                    case y184 =>
                      intro w hSw
                      (try dsimp only at hSw)
                      skip
                      go_simp
                      try with_reducible rfl
                    try simp only [Act.put, List.setIfInBounds_toArray, List.set_cons_zero, List.set_cons_succ]
                    refine wpAnyH_take (i := 7) (oi := ?oi185) (v := ?vi185) ?h185 (by kernel_rfl) (by kernel_rfl) (by kernel_rfl) ?q185 (Or.inl ⟨?w185, ?y185⟩) hHeld ?r185
                    case h185 => first | (simp only [List.getElem?_toArray, List.getElem?_cons_zero, List.getElem?_cons_succ]; done) | (simp only [List.getElem?_toArray, List.getElem?_cons_zero, List.getElem?_cons_succ]; exact rfl)
                    case q185 => exact fun _ _ _ h => h
                    case w185 => rfl
                    case y185 =>
                      intro w hSw
                      (try dsimp only at hSw)
                      skip
                      go_simp
                      try with_reducible rfl
                    try simp only [Act.put, List.setIfInBounds_toArray, List.set_cons_zero, List.set_cons_succ]
                    refine wpAnyH_take (i := 8) (oi := ?oi186) (v := ?vi186) ?h186 (by kernel_rfl) (by kernel_rfl) (by kernel_rfl) ?q186 (Or.inl ⟨?w186, ?y186⟩) hHeld ?r186
                    case h186 => first | (simp only [List.getElem?_toArray, List.getElem?_cons_zero, List.getElem?_cons_succ]; done) | (simp only [List.getElem?_toArray, List.getElem?_cons_zero, List.getElem?_cons_succ]; exact rfl)
                    case q186 => exact fun _ _ _ h => h
                    case w186 => rfl
                    case y186 =>
                      intro w hSw
                      (try dsimp only at hSw)
                      skip
                      go_simp
                      try with_reducible rfl
                    try simp only [Act.put, List.setIfInBounds_toArray, List.set_cons_zero, List.set_cons_succ]
                    refine wpAnyH_take (i := 9) (oi := ?oi187) (v := ?vi187) ?h187 (by kernel_rfl) (by kernel_rfl) (by kernel_rfl) ?q187 (Or.inl ⟨?w187, ?y187⟩) hHeld ?r187
                    case h187 => first | (simp only [List.getElem?_toArray, List.getElem?_cons_zero, List.getElem?_cons_succ]; done) | (simp only [List.getElem?_toArray, List.getElem?_cons_zero, List.getElem?_cons_succ]; exact rfl)
                    case q187 => exact fun _ _ _ h => h
                    case w187 => rfl
                    case y187 =>
                      intro w hSw
                      (try dsimp only at hSw)
                      skip
                      go_simp
                      try with_reducible rfl
                    try simp only [Act.put, List.setIfInBounds_toArray, List.set_cons_zero, List.set_cons_succ]
                    refine wpAnyH_ready (rs := [5]) (by kernel_rfl) (by simp) ?_
                    refine AllReadyH.cons (o := ?ob188) ?hb188 (fun K hK => ?_) AllReadyH.nil
                    case hb188 => first | (simp only [List.getElem?_toArray, List.getElem?_cons_zero, List.getElem?_cons_succ]; done) | (simp only [List.getElem?_toArray, List.getElem?_cons_zero, List.getElem?_cons_succ]; exact rfl)
                    go_simp
                    go_at_call 20
                    refine HRC.out.mono ?_
                    rintro e wm ⟨u, rfl, hfm, hbm⟩
                    have fdm : Fp Non wb wm := (Fp.refl Non wb).drew.then hfm
                    have km : wm.cell? ⟨q2, 2, none⟩ = some (.slice zao l1.rs.length zcap) := hfm.cell k2 (fun h => h)
                    have hsm := Same_c u (.slice zao l1.rs.length zcap) l1.rs l1.rs wm (hbm.view (E := fun _ => True) (fun _ _ => trivial) (fun _ _ => trivial)) (by have := (HC.out.2.du.bo.view (E := fun _ => True) (fun _ _ => trivial) (fun _ _ => trivial)).keep fdm (fun _ _ h => h); rw [HZV.out] at this; exact this) (by have := HFW.out.1; omega)
                    rw [show decide (l1.rs = l1.rs) = true from decide_eq_true rfl] at hsm
                    obtain ⟨uao, ucap, hu⟩ := hbm.shape
                    subst hu
                    have HSM := Lib.hid hsm
                    have HDM := Lib.hid fdm
                    clear hsm hfm hbm fdm k2 hHeld
                    go_wp2_with fail
                    refine hK.out _ _ km (fun hHeld => ?_)
                    clear hK K
                    try simp only [Act.put, List.setIfInBounds_toArray, List.set_cons_zero, List.set_cons_succ]
                    refine wpAnyH_ready (rs := [10]) (by kernel_rfl) (by simp) ?_
                    refine AllReadyH.cons (o := ?ob189) ?hb189 (fun K hK => ?_) AllReadyH.nil
                    case hb189 => first | (simp only [List.getElem?_toArray, List.getElem?_cons_zero, List.getElem?_cons_succ]; done) | (simp only [List.getElem?_toArray, List.getElem?_cons_zero, List.getElem?_cons_succ]; exact rfl)
                    go_simp
                    go_at_call 19
                    refine HSM.out.mono ?_
                    rintro e wn ⟨rfl, hfn⟩
                    have kn : wn.cell? ⟨q2, 2, none⟩ = some (.slice zao l1.rs.length zcap) := hfn.cell km (fun h => h)
                    have hdn := HDM.out.then hfn
                    have HRo := Lib.hid (Room_c (HC.out.1.d.keep hdn (fun _ _ h => h)) (HC.out.2.pr.keep hdn (fun _ _ h => h)) HC.out.2.lk)
                    have HRr := Lib.hid (rRoom_c (HC.out.2.du.non hdn) HC.out.2.lk)
                    have HDN := Lib.hid hdn
                    clear hfn hdn km hHeld
                    go_wp2_with fail
                    refine hK.out _ _ kn (fun hHeld => ?_)
                    clear hK K
                    try simp only [Act.put, List.setIfInBounds_toArray, List.set_cons_zero, List.set_cons_succ]
                    refine wpAnyH_take (i := 11) (oi := ?oi190) (v := ?vi190) ?h190 (by kernel_rfl) (by kernel_rfl) (by kernel_rfl) ?q190 (Or.inl ⟨?w190, ?y190⟩) hHeld ?r190
                    case h190 => first | (simp only [List.getElem?_toArray, List.getElem?_cons_zero, List.getElem?_cons_succ]; done) | (simp only [List.getElem?_toArray, List.getElem?_cons_zero, List.getElem?_cons_succ]; exact rfl)
                    case q190 => exact fun _ _ _ h => h
                    case w190 => rfl
                    case y190 =>
                      intro w hSw
                      (try dsimp only at hSw)
                      skip
                      go_simp
                      try with_reducible rfl
                    try simp only [Act.put, List.setIfInBounds_toArray, List.set_cons_zero, List.set_cons_succ]
                    refine wpAnyH_take (i := 12) (oi := ?oi191) (v := ?vi191) ?h191 (by kernel_rfl) (by kernel_rfl) (by kernel_rfl) ?q191 (Or.inl ⟨?w191, ?y191⟩) hHeld ?r191
                    case h191 => first | (simp only [List.getElem?_toArray, List.getElem?_cons_zero, List.getElem?_cons_succ]; done) | (simp only [List.getElem?_toArray, List.getElem?_cons_zero, List.getElem?_cons_succ]; exact rfl)
                    case q191 => exact fun _ _ _ h => h
                    case w191 => rfl
                    case y191 =>
                      intro w hSw
                      (try dsimp only at hSw)
                      skip
                      go_simp
                      try with_reducible rfl
                    try simp only [Act.put, List.setIfInBounds_toArray, List.set_cons_zero, List.set_cons_succ]
                    refine wpAnyH_take (i := 13) (oi := ?oi192) (v := ?vi192) ?h192 (by kernel_rfl) (by kernel_rfl) (by kernel_rfl) ?q192 (Or.inl ⟨?w192, ?y192⟩) hHeld ?r192
                    case h192 => first | (simp only [List.getElem?_toArray, List.getElem?_cons_zero, List.getElem?_cons_succ]; done) | (simp only [List.getElem?_toArray, List.getElem?_cons_zero, List.getElem?_cons_succ]; exact rfl)
                    case q192 => exact fun _ _ _ h => h
                    case w192 => rfl
                    case y192 =>
                      intro w hSw
                      (try dsimp only at hSw)
                      skip
                      go_simp
                      try with_reducible rfl
                    try simp only [Act.put, List.setIfInBounds_toArray, List.set_cons_zero, List.set_cons_succ]
                    refine wpAnyH_take (i := 14) (oi := ?oi193) (v := ?vi193) ?h193 (by kernel_rfl) (by kernel_rfl) (by kernel_rfl) ?q193 (Or.inl ⟨?w193, ?y193⟩) hHeld ?r193
                    case h193 => first | (simp only [List.getElem?_toArray, List.getElem?_cons_zero, List.getElem?_cons_succ]; done) | (simp only [List.getElem?_toArray, List.getElem?_cons_zero, List.getElem?_cons_succ]; exact rfl)
                    case q193 => exact fun _ _ _ h => h
                    case w193 => rfl
                    case y193 =>
                      intro w hSw
                      (try dsimp only at hSw)
                      skip
                      go_simp
                      try with_reducible rfl
                    try simp only [Act.put, List.setIfInBounds_toArray, List.set_cons_zero, List.set_cons_succ]
                    refine wpAnyH_take (i := 16) (oi := ?oi194) (v := ?vi194) ?h194 (by kernel_rfl) (by kernel_rfl) (by kernel_rfl) ?q194 (Or.inl ⟨?w194, ?y194⟩) hHeld ?r194
                    case h194 => first | (simp only [List.getElem?_toArray, List.getElem?_cons_zero, List.getElem?_cons_succ]; done) | (simp only [List.getElem?_toArray, List.getElem?_cons_zero, List.getElem?_cons_succ]; exact rfl)
                    case q194 => exact fun _ _ _ h => h
                    case w194 => rfl
                    case y194 =>
                      intro w hSw
                      (try dsimp only at hSw)
                      skip
                      go_simp
                      try with_reducible rfl
                    try simp only [Act.put, List.setIfInBounds_toArray, List.set_cons_zero, List.set_cons_succ]
                    refine wpAnyH_ready (rs := [15]) (by kernel_rfl) (by simp) ?_
                    refine AllReadyH.cons (o := ?ob195) ?hb195 (fun K hK => ?_) AllReadyH.nil
                    case hb195 => first | (simp only [List.getElem?_toArray, List.getElem?_cons_zero, List.getElem?_cons_succ]; done) | (simp only [List.getElem?_toArray, List.getElem?_cons_zero, List.getElem?_cons_succ]; exact rfl)
                    go_simp
                    go_at_call 21
                    refine HRo.out.mono ?_
                    rintro e w' ⟨rfl, hw'⟩
                    obtain rfl := hw'.symm
                    clear hw'
                    go_wp2_with fail
                    refine hK.out _ _ kn (fun hHeld => ?_)
                    clear hK K
                    try simp only [Act.put, List.setIfInBounds_toArray, List.set_cons_zero, List.set_cons_succ]
                    refine wpAnyH_ready (rs := [17]) (by kernel_rfl) (by simp) ?_
                    refine AllReadyH.cons (o := ?ob196) ?hb196 (fun K hK => ?_) AllReadyH.nil
                    case hb196 => first | (simp only [List.getElem?_toArray, List.getElem?_cons_zero, List.getElem?_cons_succ]; done) | (simp only [List.getElem?_toArray, List.getElem?_cons_zero, List.getElem?_cons_succ]; exact rfl)
                    go_simp
                    go_at_call 22
                    refine HRr.out.mono ?_
                    rintro e w' ⟨rfl, hw'⟩
                    obtain rfl := hw'.symm
                    clear hw'
                    go_wp2_with fail
                    refine hK.out _ _ kn (fun hHeld => ?_)
                    clear hK K
                    try simp only [Act.put, List.setIfInBounds_toArray, List.set_cons_zero, List.set_cons_succ]
                    refine wpAnyH_take (i := 18) (oi := ?oi197) (v := ?vi197) ?h197 (by kernel_rfl) (by kernel_rfl) (by kernel_rfl) ?q197 (Or.inl ⟨?w197, ?y197⟩) hHeld ?r197
                    case h197 => first | (simp only [List.getElem?_toArray, List.getElem?_cons_zero, List.getElem?_cons_succ]; done) | (simp only [List.getElem?_toArray, List.getElem?_cons_zero, List.getElem?_cons_succ]; exact rfl)
                    case q197 => exact fun _ _ _ h => h
                    case w197 => rfl
                    case y197 =>
                      intro w hSw
                      (try dsimp only at hSw)
                      skip
                      go_simp
                      try with_reducible rfl
                    try simp only [Act.put, List.setIfInBounds_toArray, List.set_cons_zero, List.set_cons_succ]
                    refine wpAnyH_take (i := 19) (oi := ?oi198) (v := ?vi198) ?h198 (by kernel_rfl) (by kernel_rfl) (by kernel_rfl) ?q198 (Or.inl ⟨?w198, ?y198⟩) hHeld ?r198
                    case h198 => first | (simp only [List.getElem?_toArray, List.getElem?_cons_zero, List.getElem?_cons_succ]; done) | (simp only [List.getElem?_toArray, List.getElem?_cons_zero, List.getElem?_cons_succ]; exact rfl)
                    case q198 => exact fun _ _ _ h => h
                    case w198 => rfl
                    case y198 =>
                      intro w hSw
                      (try dsimp only at hSw)
                      skip
                      go_simp
                      try with_reducible rfl
                    try simp only [Act.put, List.setIfInBounds_toArray, List.set_cons_zero, List.set_cons_succ]
                    refine wpAnyH_done (by kernel_rfl) ?_ _
                    refine NoPanic.normal ?_
                    clear kn
                    go_wp2
                    go_roundw
                    case rel => exact ⟨k + 1, HZ.out.1, congrArg (Value.int .i64) HQW.out, E, s1, p2, rfl, rfl, HC.out.1.keep HDN.out, .inr ⟨q1, z1, q2, _, _, l1, rfl, rfl, HC.out.2.keep HDN.out⟩, (by have h1 := HMK.out.acts; have h2 := HAC.out.1; omega), hR.out.2.2.2.trans HPC.out.symm⟩
                    case measure => have := HZ.out.1; rw [HQW.out]; simp [RowKit.intOf]; omega
                  · by_cases h2 : x.what = 2
                    · have t0 : (x.what == 0) = false := beq_eq_false_iff_ne.2 (by omega)
                      have u0 : (x.what = 0) = False := eq_false (by omega)
                      have t1 : (x.what == 1) = false := beq_eq_false_iff_ne.2 (by omega)
                      have u1 : (x.what = 1) = False := eq_false (by omega)
                      have t3 : (x.what == 3) = false := beq_eq_false_iff_ne.2 (by omega)
                      have u3 : (x.what = 3) = False := eq_false (by omega)
                      have t4 : (x.what == 4) = false := beq_eq_false_iff_ne.2 (by omega)
                      have u4 : (x.what = 4) = False := eq_false (by omega)
                      have t5 : (x.what == 5) = false := beq_eq_false_iff_ne.2 (by omega)
                      have u5 : (x.what = 5) = False := eq_false (by omega)
                      have t6 : (x.what == 6) = false := beq_eq_false_iff_ne.2 (by omega)
                      have u6 : (x.what = 6) = False := eq_false (by omega)
                      have t2 : (x.what == 2) = true := beq_iff_eq.2 h2
                      have u2 : (x.what = 2) = True := eq_true h2
                      clear h5 h6 h4 h0 h1 h2
                      have co0 := HBX.out.c0
                      have co1 := HBX.out.c1
                      obtain ⟨X, hX⟩ : ∃ X, X = (lAppend s lg x.b).1 := ⟨_, rfl⟩
                      obtain ⟨s1, hs1⟩ : ∃ s1, s1 = (lAppend s lg x.b).2.2 := ⟨_, rfl⟩
                      obtain ⟨l1, hl1⟩ : ∃ l1, l1 = (lAppend s lg x.b).2.1 := ⟨_, rfl⟩
                      have hmk := append_mk HL2.out.lk x.b
                      have hc1 := Append_c HT.out.d HL2.out.pr HL2.out.lk HL2.out.ap1 _ x.b (Src.of_se HSB.out.se (fun h0 j hj ho => by have h1 := HLB.out h0 j hj; have h2 := (hR.out.1.d.all j ho).1; omega)) (by have := HAC.out; omega)
                      rw [← hX, ← hs1, ← hl1] at hc1
                      rw [← hs1, ← hl1] at hmk
                      have HMK := Lib.hid hmk
                      have HA1 := Lib.hid hc1
                      have HXX := Lib.hid (And.intro hX (And.intro hs1 hl1))
                      clear hc1 hmk hX hs1 hl1
                      go_wp2_with fail
                      refine HA1.out.mono ?_
                      rintro e wa ⟨rfl, hLA⟩
                      have HBX2 := Lib.hid (HBX.out.keep hLA.fp (fun e => e.elim (fun e => HNB.out _ (.inl e) rfl) (fun e => HNL.out _ (.inl e) rfl)))
                      have ca1 := HBX2.out.c1
                      have hc2 := rAppend_c (HL2.out.du.keep hLA.fp (fun j hj ho => HL2.out.ap2 j ho hj)) HL2.out.lk _ x.b (HSB.out.se.keep hLA.fp (fun h0 j hj ho => by
                        have h1 := HLB.out h0 j hj
                        rcases ho with ho | ho
                        · have h2 := (hR.out.1.d.all j ho).1; omega
                        · have h2 := (HL2.out.pr.all j ho).1; omega)) (fun h0 j hj ho => by have h1 := HLB.out h0 j hj; have h2 := (HT.out.r.all j ho).1; omega) (by have := HAC.out; omega)
                      rw [← HXX.out.1, ← HXX.out.2.1, ← HXX.out.2.2] at hc2
                      have HA2 := Lib.hid hc2
                      have HLA := Lib.hid hLA
                      clear hc2 hLA co0 co1
                      go_wp2_with fail
                      refine HA2.out.mono ?_
                      rintro e wb ⟨rfl, hDR⟩
                      obtain ⟨p2, z1, z2, DZ, ht2, hlo2, hpb2⟩ := HL2.out.called HT.out HLA.out hDR HMK.out.lk
                      obtain ⟨zao, zcap, hz2⟩ := hlo2.du.bo.shape
                      have HC := Lib.hid (And.intro ht2 hlo2)
                      have HZV := Lib.hid hz2
                      have HPC := Lib.hid hpb2
                      clear hDR ht2 hlo2 hpb2 hz2 ca1
                      have k2 : wb.drew.cell? ⟨q2, 2, none⟩ = some (.slice zao l1.rs.length zcap) := by have := HC.out.2.du.c2; rw [HZV.out] at this; exact this
                      have hfw := HC.out.2.lk.few HC.out.1.d.rt
                      have husd : usd l1.rs ≤ 100000 := by have := HC.out.2.lk.fit; omega
                      have hrc := Records_c (HC.out.2.pr.keep (Fp.drew (Fp.refl Non wb)) (fun _ _ h => h)) husd
                      have HRC := Lib.hid hrc
                      have HFW := Lib.hid hfw
                      clear hrc hfw husd
                      go_wp2_with fail
                      refine wp_region_noPanic ?_
                      refine wp_region_held_drew (S := (fun w' => w'.cell? ⟨q2, 2, none⟩ = some (.slice zao l1.rs.length zcap))) (by kernel_rfl) ?_ (fun hHeld => ?_)
                      · exact k2
                      refine wpAnyH_take (i := 0) (oi := ?oi199) (v := ?vi199) ?h199 (by kernel_rfl) (by kernel_rfl) (by kernel_rfl) ?q199 (Or.inl ⟨?w199, ?y199⟩) hHeld ?r199
                      case h199 => first | (simp only [List.getElem?_toArray, List.getElem?_cons_zero]; done) | (simp only [List.getElem?_toArray, List.getElem?_cons_zero]; exact rfl)
                      case q199 => exact fun _ _ _ h => h
                      case w199 => rfl
                      case y199 =>
                        intro w hSw
                        (try dsimp only at hSw)
                        skip
                        go_simp
                        try with_reducible rfl
                      try simp only [Act.put, List.setIfInBounds_toArray, List.set_cons_zero, List.set_cons_succ]
                      refine wpAnyH_take (i := 1) (oi := ?oi200) (v := ?vi200) ?h200 (by kernel_rfl) (by kernel_rfl) (by kernel_rfl) ?q200 (Or.inl ⟨?w200, ?y200⟩) hHeld ?r200
                      case h200 => first | (simp only [List.getElem?_toArray, List.getElem?_cons_zero, List.getElem?_cons_succ]; done) | (simp only [List.getElem?_toArray, List.getElem?_cons_zero, List.getElem?_cons_succ]; exact rfl)
                      case q200 => exact fun _ _ _ h => h
                      case w200 => rfl
                      case y200 =>
                        intro w hSw
                        (try dsimp only at hSw)
                        skip
                        go_simp
                        try with_reducible rfl
                      try simp only [Act.put, List.setIfInBounds_toArray, List.set_cons_zero, List.set_cons_succ]
                      refine wpAnyH_take (i := 2) (oi := ?oi201) (v := ?vi201) ?h201 (by kernel_rfl) (by kernel_rfl) (by kernel_rfl) ?q201 (Or.inl ⟨?w201, ?y201⟩) hHeld ?r201
                      case h201 => first | (simp only [List.getElem?_toArray, List.getElem?_cons_zero, List.getElem?_cons_succ]; done) | (simp only [List.getElem?_toArray, List.getElem?_cons_zero, List.getElem?_cons_succ]; exact rfl)
                      case q201 => exact fun _ _ _ h => h
                      case w201 => rfl
                      case y201 =>
                        intro w hSw
                        (try dsimp only at hSw)
                        skip
                        go_simp
                        try with_reducible rfl
                      try simp only [Act.put, List.setIfInBounds_toArray, List.set_cons_zero, List.set_cons_succ]
                      refine wpAnyH_take (i := 3) (oi := ?oi202) (v := ?vi202) ?h202 (by kernel_rfl) (by kernel_rfl) (by kernel_rfl) ?q202 (Or.inl ⟨?w202, ?y202⟩) hHeld ?r202
                      case h202 => first | (simp only [List.getElem?_toArray, List.getElem?_cons_zero, List.getElem?_cons_succ]; done) | (simp only [List.getElem?_toArray, List.getElem?_cons_zero, List.getElem?_cons_succ]; exact rfl)
                      case q202 => exact fun _ _ _ h => h
                      case w202 => rfl
                      case y202 =>
                        intro w hSw
                        (try dsimp only at hSw)
                        skip
                        go_simp
                        try with_reducible rfl
                      try simp only [Act.put, List.setIfInBounds_toArray, List.set_cons_zero, List.set_cons_succ]
                      refine wpAnyH_take (i := 4) (oi := ?oi203) (v := ?vi203) ?h203 (by kernel_rfl) (by kernel_rfl) (by kernel_rfl) ?q203 (Or.inl ⟨?w203, ?y203⟩) hHeld ?r203
                      case h203 => first | (simp only [List.getElem?_toArray, List.getElem?_cons_zero, List.getElem?_cons_succ]; done) | (simp only [List.getElem?_toArray, List.getElem?_cons_zero, List.getElem?_cons_succ]; exact rfl)
                      case q203 => exact fun _ _ _ h => h
                      case w203 => rfl
                      case y203 =>
                        intro w hSw
                        (try dsimp only at hSw)
                        skip
                        go_simp
                        try with_reducible rfl
                      try simp only [Act.put, List.setIfInBounds_toArray, List.set_cons_zero, List.set_cons_succ]
                      refine wpAnyH_take (i := 6) (oi := ?oi204) (v := ?vi204) ?h204 (by kernel_rfl) (by kernel_rfl) (by kernel_rfl) ?q204 (Or.inl ⟨?w204, ?y204⟩) hHeld ?r204
                      case h204 => first | (simp only [List.getElem?_toArray, List.getElem?_cons_zero, List.getElem?_cons_succ]; done) | (simp only [List.getElem?_toArray, List.getElem?_cons_zero, List.getElem?_cons_succ]; exact rfl)
                      case q204 => exact fun _ _ _ h => h
                      case w204 => rfl
                      case y204 =>
                        intro w hSw
                        (try dsimp only at hSw)
                        skip
                        go_simp
                        try with_reducible rfl
                      try simp only [Act.put, List.setIfInBounds_toArray, List.set_cons_zero, List.set_cons_succ]
                      refine wpAnyH_take (i := 7) (oi := ?oi205) (v := ?vi205) ?h205 (by kernel_rfl) (by kernel_rfl) (by kernel_rfl) ?q205 (Or.inl ⟨?w205, ?y205⟩) hHeld ?r205
                      case h205 => first | (simp only [List.getElem?_toArray, List.getElem?_cons_zero, List.getElem?_cons_succ]; done) | (simp only [List.getElem?_toArray, List.getElem?_cons_zero, List.getElem?_cons_succ]; exact rfl)
                      case q205 => exact fun _ _ _ h => h
                      case w205 => rfl
                      case y205 =>
                        intro w hSw
                        (try dsimp only at hSw)
                        skip
                        go_simp
                        try with_reducible rfl
                      try simp only [Act.put, List.setIfInBounds_toArray, List.set_cons_zero, List.set_cons_succ]
                      refine wpAnyH_take (i := 8) (oi := ?oi206) (v := ?vi206) ?h206 (by kernel_rfl) (by kernel_rfl) (by kernel_rfl) ?q206 (Or.inl ⟨?w206, ?y206⟩) hHeld ?r206
                      case h206 => first | (simp only [List.getElem?_toArray, List.getElem?_cons_zero, List.getElem?_cons_succ]; done) | (simp only [List.getElem?_toArray, List.getElem?_cons_zero, List.getElem?_cons_succ]; exact rfl)
                      case q206 => exact fun _ _ _ h => h
                      case w206 => rfl
                      case y206 =>
                        intro w hSw
                        (try dsimp only at hSw)
                        skip
                        go_simp
                        try with_reducible rfl
                      try simp only [Act.put, List.setIfInBounds_toArray, List.set_cons_zero, List.set_cons_succ]
                      refine wpAnyH_take (i := 9) (oi := ?oi207) (v := ?vi207) ?h207 (by kernel_rfl) (by kernel_rfl) (by kernel_rfl) ?q207 (Or.inl ⟨?w207, ?y207⟩) hHeld ?r207
                      case h207 => first | (simp only [List.getElem?_toArray, List.getElem?_cons_zero, List.getElem?_cons_succ]; done) | (simp only [List.getElem?_toArray, List.getElem?_cons_zero, List.getElem?_cons_succ]; exact rfl)
                      case q207 => exact fun _ _ _ h => h
                      case w207 => rfl
                      case y207 =>
                        intro w hSw
                        (try dsimp only at hSw)
                        skip
                        go_simp
                        try with_reducible rfl
                      try simp only [Act.put, List.setIfInBounds_toArray, List.set_cons_zero, List.set_cons_succ]
                      refine wpAnyH_ready (rs := [5]) (by kernel_rfl) (by simp) ?_
                      refine AllReadyH.cons (o := ?ob208) ?hb208 (fun K hK => ?_) AllReadyH.nil
                      case hb208 => first | (simp only [List.getElem?_toArray, List.getElem?_cons_zero, List.getElem?_cons_succ]; done) | (simp only [List.getElem?_toArray, List.getElem?_cons_zero, List.getElem?_cons_succ]; exact rfl)
                      go_simp
                      go_at_call 20
                      refine HRC.out.mono ?_
                      rintro e wm ⟨u, rfl, hfm, hbm⟩
                      have fdm : Fp Non wb wm := (Fp.refl Non wb).drew.then hfm
                      have km : wm.cell? ⟨q2, 2, none⟩ = some (.slice zao l1.rs.length zcap) := hfm.cell k2 (fun h => h)
                      have hsm := Same_c u (.slice zao l1.rs.length zcap) l1.rs l1.rs wm (hbm.view (E := fun _ => True) (fun _ _ => trivial) (fun _ _ => trivial)) (by have := (HC.out.2.du.bo.view (E := fun _ => True) (fun _ _ => trivial) (fun _ _ => trivial)).keep fdm (fun _ _ h => h); rw [HZV.out] at this; exact this) (by have := HFW.out.1; omega)
                      rw [show decide (l1.rs = l1.rs) = true from decide_eq_true rfl] at hsm
                      obtain ⟨uao, ucap, hu⟩ := hbm.shape
                      subst hu
                      have HSM := Lib.hid hsm
                      have HDM := Lib.hid fdm
                      clear hsm hfm hbm fdm k2 hHeld
                      go_wp2_with fail
                      refine hK.out _ _ km (fun hHeld => ?_)
                      clear hK K
                      try simp only [Act.put, List.setIfInBounds_toArray, List.set_cons_zero, List.set_cons_succ]
                      refine wpAnyH_ready (rs := [10]) (by kernel_rfl) (by simp) ?_
                      refine AllReadyH.cons (o := ?ob209) ?hb209 (fun K hK => ?_) AllReadyH.nil
                      case hb209 => first | (simp only [List.getElem?_toArray, List.getElem?_cons_zero, List.getElem?_cons_succ]; done) | (simp only [List.getElem?_toArray, List.getElem?_cons_zero, List.getElem?_cons_succ]; exact rfl)
                      go_simp
                      go_at_call 19
                      refine HSM.out.mono ?_
                      rintro e wn ⟨rfl, hfn⟩
                      have kn : wn.cell? ⟨q2, 2, none⟩ = some (.slice zao l1.rs.length zcap) := hfn.cell km (fun h => h)
                      have hdn := HDM.out.then hfn
                      have HRo := Lib.hid (Room_c (HC.out.1.d.keep hdn (fun _ _ h => h)) (HC.out.2.pr.keep hdn (fun _ _ h => h)) HC.out.2.lk)
                      have HRr := Lib.hid (rRoom_c (HC.out.2.du.non hdn) HC.out.2.lk)
                      have HDN := Lib.hid hdn
                      clear hfn hdn km hHeld
                      go_wp2_with fail
                      refine hK.out _ _ kn (fun hHeld => ?_)
                      clear hK K
                      try simp only [Act.put, List.setIfInBounds_toArray, List.set_cons_zero, List.set_cons_succ]
                      refine wpAnyH_take (i := 11) (oi := ?oi210) (v := ?vi210) ?h210 (by kernel_rfl) (by kernel_rfl) (by kernel_rfl) ?q210 (Or.inl ⟨?w210, ?y210⟩) hHeld ?r210
                      case h210 => first | (simp only [List.getElem?_toArray, List.getElem?_cons_zero, List.getElem?_cons_succ]; done) | (simp only [List.getElem?_toArray, List.getElem?_cons_zero, List.getElem?_cons_succ]; exact rfl)
                      case q210 => exact fun _ _ _ h => h
                      case w210 => rfl
                      case y210 =>
                        intro w hSw
                        (try dsimp only at hSw)
                        skip
                        go_simp
                        try with_reducible rfl
                      try simp only [Act.put, List.setIfInBounds_toArray, List.set_cons_zero, List.set_cons_succ]
                      refine wpAnyH_take (i := 12) (oi := ?oi211) (v := ?vi211) ?h211 (by kernel_rfl) (by kernel_rfl) (by kernel_rfl) ?q211 (Or.inl ⟨?w211, ?y211⟩) hHeld ?r211
                      case h211 => first | (simp only [List.getElem?_toArray, List.getElem?_cons_zero, List.getElem?_cons_succ]; done) | (simp only [List.getElem?_toArray, List.getElem?_cons_zero, List.getElem?_cons_succ]; exact rfl)
                      case q211 => exact fun _ _ _ h => h
                      case w211 => rfl
                      case y211 =>
                        intro w hSw
                        (try dsimp only at hSw)
                        skip
                        go_simp
                        try with_reducible rfl
                      try simp only [Act.put, List.setIfInBounds_toArray, List.set_cons_zero, List.set_cons_succ]
                      refine wpAnyH_take (i := 13) (oi := ?oi212) (v := ?vi212) ?h212 (by kernel_rfl) (by kernel_rfl) (by kernel_rfl) ?q212 (Or.inl ⟨?w212, ?y212⟩) hHeld ?r212
                      case h212 => first | (simp only [List.getElem?_toArray, List.getElem?_cons_zero, List.getElem?_cons_succ]; done) | (simp only [List.getElem?_toArray, List.getElem?_cons_zero, List.getElem?_cons_succ]; exact rfl)
                      case q212 => exact fun _ _ _ h => h
                      case w212 => rfl
                      case y212 =>
                        intro w hSw
                        (try dsimp only at hSw)
                        skip
                        go_simp
                        try with_reducible rfl
                      try simp only [Act.put, List.setIfInBounds_toArray, List.set_cons_zero, List.set_cons_succ]
                      refine wpAnyH_take (i := 14) (oi := ?oi213) (v := ?vi213) ?h213 (by kernel_rfl) (by kernel_rfl) (by kernel_rfl) ?q213 (Or.inl ⟨?w213, ?y213⟩) hHeld ?r213
                      case h213 => first | (simp only [List.getElem?_toArray, List.getElem?_cons_zero, List.getElem?_cons_succ]; done) | (simp only [List.getElem?_toArray, List.getElem?_cons_zero, List.getElem?_cons_succ]; exact rfl)
                      case q213 => exact fun _ _ _ h => h
                      case w213 => rfl
                      case y213 =>
                        intro w hSw
                        (try dsimp only at hSw)
                        skip
                        go_simp
                        try with_reducible rfl
                      try simp only [Act.put, List.setIfInBounds_toArray, List.set_cons_zero, List.set_cons_succ]
                      refine wpAnyH_take (i := 16) (oi := ?oi214) (v := ?vi214) ?h214 (by kernel_rfl) (by kernel_rfl) (by kernel_rfl) ?q214 (Or.inl ⟨?w214, ?y214⟩) hHeld ?r214
                      case h214 => first | (simp only [List.getElem?_toArray, List.getElem?_cons_zero, List.getElem?_cons_succ]; done) | (simp only [List.getElem?_toArray, List.getElem?_cons_zero, List.getElem?_cons_succ]; exact rfl)
                      case q214 => exact fun _ _ _ h => h
                      case w214 => rfl
                      case y214 =>
                        intro w hSw
                        (try dsimp only at hSw)
                        skip
                        go_simp
                        try with_reducible rfl
                      try simp only [Act.put, List.setIfInBounds_toArray, List.set_cons_zero, List.set_cons_succ]
                      refine wpAnyH_ready (rs := [15]) (by kernel_rfl) (by simp) ?_
                      refine AllReadyH.cons (o := ?ob215) ?hb215 (fun K hK => ?_) AllReadyH.nil
                      case hb215 => first | (simp only [List.getElem?_toArray, List.getElem?_cons_zero, List.getElem?_cons_succ]; done) | (simp only [List.getElem?_toArray, List.getElem?_cons_zero, List.getElem?_cons_succ]; exact rfl)
                      go_simp
                      go_at_call 21
                      refine HRo.out.mono ?_
                      rintro e w' ⟨rfl, hw'⟩
                      obtain rfl := hw'.symm
                      clear hw'
                      go_wp2_with fail
                      refine hK.out _ _ kn (fun hHeld => ?_)
                      clear hK K
                      try simp only [Act.put, List.setIfInBounds_toArray, List.set_cons_zero, List.set_cons_succ]
                      refine wpAnyH_ready (rs := [17]) (by kernel_rfl) (by simp) ?_
                      refine AllReadyH.cons (o := ?ob216) ?hb216 (fun K hK => ?_) AllReadyH.nil
                      case hb216 => first | (simp only [List.getElem?_toArray, List.getElem?_cons_zero, List.getElem?_cons_succ]; done) | (simp only [List.getElem?_toArray, List.getElem?_cons_zero, List.getElem?_cons_succ]; exact rfl)
                      go_simp
                      go_at_call 22
                      refine HRr.out.mono ?_
                      rintro e w' ⟨rfl, hw'⟩
                      obtain rfl := hw'.symm
                      clear hw'
                      go_wp2_with fail
                      refine hK.out _ _ kn (fun hHeld => ?_)
                      clear hK K
                      try simp only [Act.put, List.setIfInBounds_toArray, List.set_cons_zero, List.set_cons_succ]
                      refine wpAnyH_take (i := 18) (oi := ?oi217) (v := ?vi217) ?h217 (by kernel_rfl) (by kernel_rfl) (by kernel_rfl) ?q217 (Or.inl ⟨?w217, ?y217⟩) hHeld ?r217
                      case h217 => first | (simp only [List.getElem?_toArray, List.getElem?_cons_zero, List.getElem?_cons_succ]; done) | (simp only [List.getElem?_toArray, List.getElem?_cons_zero, List.getElem?_cons_succ]; exact rfl)
                      case q217 => exact fun _ _ _ h => h
                      case w217 => rfl
                      case y217 =>
                        intro w hSw
                        (try dsimp only at hSw)
                        skip
                        go_simp
                        try with_reducible rfl
                      try simp only [Act.put, List.setIfInBounds_toArray, List.set_cons_zero, List.set_cons_succ]
                      refine wpAnyH_take (i := 19) (oi := ?oi218) (v := ?vi218) ?h218 (by kernel_rfl) (by kernel_rfl) (by kernel_rfl) ?q218 (Or.inl ⟨?w218, ?y218⟩) hHeld ?r218
                      case h218 => first | (simp only [List.getElem?_toArray, List.getElem?_cons_zero, List.getElem?_cons_succ]; done) | (simp only [List.getElem?_toArray, List.getElem?_cons_zero, List.getElem?_cons_succ]; exact rfl)
                      case q218 => exact fun _ _ _ h => h
                      case w218 => rfl
                      case y218 =>
                        intro w hSw
                        (try dsimp only at hSw)
                        skip
                        go_simp
                        try with_reducible rfl
                      try simp only [Act.put, List.setIfInBounds_toArray, List.set_cons_zero, List.set_cons_succ]
                      refine wpAnyH_done (by kernel_rfl) ?_ _
                      refine NoPanic.normal ?_
                      clear kn
                      go_wp2
                      go_roundw
                      case rel => exact ⟨k + 1, HZ.out.1, congrArg (Value.int .i64) HQW.out, E, s1, p2, rfl, rfl, HC.out.1.keep HDN.out, .inr ⟨q1, z1, q2, _, _, l1, rfl, rfl, HC.out.2.keep HDN.out⟩, (by have h1 := HMK.out.acts; have h2 := HAC.out.1; omega), hR.out.2.2.2.trans HPC.out.symm⟩
                      case measure => have := HZ.out.1; rw [HQW.out]; simp [RowKit.intOf]; omega
                    · by_cases h3 : x.what = 3
                      · have t0 : (x.what == 0) = false := beq_eq_false_iff_ne.2 (by omega)
                        have u0 : (x.what = 0) = False := eq_false (by omega)
                        have t1 : (x.what == 1) = false := beq_eq_false_iff_ne.2 (by omega)
                        have u1 : (x.what = 1) = False := eq_false (by omega)
                        have t2 : (x.what == 2) = false := beq_eq_false_iff_ne.2 (by omega)
                        have u2 : (x.what = 2) = False := eq_false (by omega)
                        have t4 : (x.what == 4) = false := beq_eq_false_iff_ne.2 (by omega)
                        have u4 : (x.what = 4) = False := eq_false (by omega)
                        have t5 : (x.what == 5) = false := beq_eq_false_iff_ne.2 (by omega)
                        have u5 : (x.what = 5) = False := eq_false (by omega)
                        have t6 : (x.what == 6) = false := beq_eq_false_iff_ne.2 (by omega)
                        have u6 : (x.what = 6) = False := eq_false (by omega)
                        have t3 : (x.what == 3) = true := beq_iff_eq.2 h3
                        have u3 : (x.what = 3) = True := eq_true h3
                        clear h5 h6 h4 h0 h1 h2 h3
                        have co0 := HBX.out.c0
                        have co1 := HBX.out.c1
                        obtain ⟨X, hX⟩ : ∃ X, X = (lStart s lg x.b).1 := ⟨_, rfl⟩
                        obtain ⟨s1, hs1⟩ : ∃ s1, s1 = (lStart s lg x.b).2.2 := ⟨_, rfl⟩
                        obtain ⟨l1, hl1⟩ : ∃ l1, l1 = (lStart s lg x.b).2.1 := ⟨_, rfl⟩
                        have hmk := start_mk HL2.out.lk x.b
                        have hc1 := Start_c HT.out.d HL2.out.pr HL2.out.lk HL2.out.ap1 _ x.b (Src.of_se HSB.out.se (fun h0 j hj ho => by have h1 := HLB.out h0 j hj; have h2 := (hR.out.1.d.all j ho).1; omega)) (by have := HAC.out; omega)
                        rw [← hX, ← hs1, ← hl1] at hc1
                        rw [← hs1, ← hl1] at hmk
                        have HMK := Lib.hid hmk
                        have HA1 := Lib.hid hc1
                        have HXX := Lib.hid (And.intro hX (And.intro hs1 hl1))
                        clear hc1 hmk hX hs1 hl1
                        go_wp2_with fail
                        refine HA1.out.mono ?_
                        rintro e wa ⟨rfl, hLA⟩
                        have HBX2 := Lib.hid (HBX.out.keep hLA.fp (fun e => e.elim (fun e => HNB.out _ (.inl e) rfl) (fun e => HNL.out _ (.inl e) rfl)))
                        have ca1 := HBX2.out.c1
                        have hc2 := rStart_c (HL2.out.du.keep hLA.fp (fun j hj ho => HL2.out.ap2 j ho hj)) HL2.out.lk _ x.b (HSB.out.se.keep hLA.fp (fun h0 j hj ho => by
                          have h1 := HLB.out h0 j hj
                          rcases ho with ho | ho
                          · have h2 := (hR.out.1.d.all j ho).1; omega
                          · have h2 := (HL2.out.pr.all j ho).1; omega)) (fun h0 j hj ho => by have h1 := HLB.out h0 j hj; have h2 := (HL2.out.du.all j ho).1; omega) (by have := HAC.out; omega)
                        rw [← HXX.out.1, ← HXX.out.2.1, ← HXX.out.2.2] at hc2
                        have HA2 := Lib.hid hc2
                        have HLA := Lib.hid hLA
                        clear hc2 hLA co0 co1
                        go_wp2_with fail
                        refine HA2.out.mono ?_
                        rintro e wb ⟨rfl, hDR⟩
                        obtain ⟨p2, z1, z2, DZ, ht2, hlo2, hpb2⟩ := HL2.out.called HT.out HLA.out hDR HMK.out.lk
                        obtain ⟨zao, zcap, hz2⟩ := hlo2.du.bo.shape
                        have HC := Lib.hid (And.intro ht2 hlo2)
                        have HZV := Lib.hid hz2
                        have HPC := Lib.hid hpb2
                        clear hDR ht2 hlo2 hpb2 hz2 ca1
                        have k2 : wb.drew.cell? ⟨q2, 2, none⟩ = some (.slice zao l1.rs.length zcap) := by have := HC.out.2.du.c2; rw [HZV.out] at this; exact this
                        have hfw := HC.out.2.lk.few HC.out.1.d.rt
                        have husd : usd l1.rs ≤ 100000 := by have := HC.out.2.lk.fit; omega
                        have hrc := Records_c (HC.out.2.pr.keep (Fp.drew (Fp.refl Non wb)) (fun _ _ h => h)) husd
                        have HRC := Lib.hid hrc
                        have HFW := Lib.hid hfw
                        clear hrc hfw husd
                        go_wp2_with fail
                        refine wp_region_noPanic ?_
                        refine wp_region_held_drew (S := (fun w' => w'.cell? ⟨q2, 2, none⟩ = some (.slice zao l1.rs.length zcap))) (by kernel_rfl) ?_ (fun hHeld => ?_)
                        · exact k2
                        refine wpAnyH_take (i := 0) (oi := ?oi219) (v := ?vi219) ?h219 (by kernel_rfl) (by kernel_rfl) (by kernel_rfl) ?q219 (Or.inl ⟨?w219, ?y219⟩) hHeld ?r219
                        case h219 => first | (simp only [List.getElem?_toArray, List.getElem?_cons_zero]; done) | (simp only [List.getElem?_toArray, List.getElem?_cons_zero]; exact rfl)
                        case q219 => exact fun _ _ _ h => h
                        case w219 => rfl
                        case y219 =>
                          intro w hSw
                          (try dsimp only at hSw)
                          skip
                          go_simp
                          try with_reducible rfl
                        try simp only [Act.put, List.setIfInBounds_toArray, List.set_cons_zero, List.set_cons_succ]
                        refine wpAnyH_take (i := 1) (oi := ?oi220) (v := ?vi220) ?h220 (by kernel_rfl) (by kernel_rfl) (by kernel_rfl) ?q220 (Or.inl ⟨?w220, ?y220⟩) hHeld ?r220
                        case h220 => first | (simp only [List.getElem?_toArray, List.getElem?_cons_zero, List.getElem?_cons_succ]; done) | (simp only [List.getElem?_toArray, List.getElem?_cons_zero, List.getElem?_cons_succ]; exact rfl)
                        case q220 => exact fun _ _ _ h => h
                        case w220 => rfl
                        case y220 =>
                          intro w hSw
                          (try dsimp only at hSw)
                          skip
                          go_simp
                          try with_reducible rfl
                        try simp only [Act.put, List.setIfInBounds_toArray, List.set_cons_zero, List.set_cons_succ]
                        refine wpAnyH_take (i := 2) (oi := ?oi221) (v := ?vi221) ?h221 (by kernel_rfl) (by kernel_rfl) (by kernel_rfl) ?q221 (Or.inl ⟨?w221, ?y221⟩) hHeld ?r221
                        case h221 => first | (simp only [List.getElem?_toArray, List.getElem?_cons_zero, List.getElem?_cons_succ]; done) | (simp only [List.getElem?_toArray, List.getElem?_cons_zero, List.getElem?_cons_succ]; exact rfl)
                        case q221 => exact fun _ _ _ h => h
                        case w221 => rfl
                        case y221 =>
                          intro w hSw
                          (try dsimp only at hSw)
                          skip
                          go_simp
                          try with_reducible rfl
                        try simp only [Act.put, List.setIfInBounds_toArray, List.set_cons_zero, List.set_cons_succ]
                        refine wpAnyH_take (i := 3) (oi := ?oi222) (v := ?vi222) ?h222 (by kernel_rfl) (by kernel_rfl) (by kernel_rfl) ?q222 (Or.inl ⟨?w222, ?y222⟩) hHeld ?r222
                        case h222 => first | (simp only [List.getElem?_toArray, List.getElem?_cons_zero, List.getElem?_cons_succ]; done) | (simp only [List.getElem?_toArray, List.getElem?_cons_zero, List.getElem?_cons_succ]; exact rfl)
                        case q222 => exact fun _ _ _ h => h
                        case w222 => rfl
                        case y222 =>
                          intro w hSw
                          (try dsimp only at hSw)
                          skip
                          go_simp
                          try with_reducible rfl
                        try simp only [Act.put, List.setIfInBounds_toArray, List.set_cons_zero, List.set_cons_succ]
                        refine wpAnyH_take (i := 4) (oi := ?oi223) (v := ?vi223) ?h223 (by kernel_rfl) (by kernel_rfl) (by kernel_rfl) ?q223 (Or.inl ⟨?w223, ?y223⟩) hHeld ?r223
                        case h223 => first | (simp only [List.getElem?_toArray, List.getElem?_cons_zero, List.getElem?_cons_succ]; done) | (simp only [List.getElem?_toArray, List.getElem?_cons_zero, List.getElem?_cons_succ]; exact rfl)
                        case q223 => exact fun _ _ _ h => h
                        case w223 => rfl
                        case y223 =>
                          intro w hSw
                          (try dsimp only at hSw)
                          skip
                          go_simp
                          try with_reducible rfl
                        try simp only [Act.put, List.setIfInBounds_toArray, List.set_cons_zero, List.set_cons_succ]
                        refine wpAnyH_take (i := 6) (oi := ?oi224) (v := ?vi224) ?h224 (by kernel_rfl) (by kernel_rfl) (by kernel_rfl) ?q224 (Or.inl ⟨?w224, ?y224⟩) hHeld ?r224
                        case h224 => first | (simp only [List.getElem?_toArray, List.getElem?_cons_zero, List.getElem?_cons_succ]; done) | (simp only [List.getElem?_toArray, List.getElem?_cons_zero, List.getElem?_cons_succ]; exact rfl)
                        case q224 => exact fun _ _ _ h => h
                        case w224 => rfl
                        case y224 =>
                          intro w hSw
                          (try dsimp only at hSw)
                          skip
                          go_simp
                          try with_reducible rfl
                        try simp only [Act.put, List.setIfInBounds_toArray, List.set_cons_zero, List.set_cons_succ]
                        refine wpAnyH_take (i := 7) (oi := ?oi225) (v := ?vi225) ?h225 (by kernel_rfl) (by kernel_rfl) (by kernel_rfl) ?q225 (Or.inl ⟨?w225, ?y225⟩) hHeld ?r225
                        case h225 => first | (simp only [List.getElem?_toArray, List.getElem?_cons_zero, List.getElem?_cons_succ]; done) | (simp only [List.getElem?_toArray, List.getElem?_cons_zero, List.getElem?_cons_succ]; exact rfl)
                        case q225 => exact fun _ _ _ h => h
                        case w225 => rfl
                        case y225 =>
                          intro w hSw
                          (try dsimp only at hSw)
                          skip
                          go_simp
                          try with_reducible rfl
                        try simp only [Act.put, List.setIfInBounds_toArray, List.set_cons_zero, List.set_cons_succ]
                        refine wpAnyH_take (i := 8) (oi := ?oi226) (v := ?vi226) ?h226 (by kernel_rfl) (by kernel_rfl) (by kernel_rfl) ?q226 (Or.inl ⟨?w226, ?y226⟩) hHeld ?r226
                        case h226 => first | (simp only [List.getElem?_toArray, List.getElem?_cons_zero, List.getElem?_cons_succ]; done) | (simp only [List.getElem?_toArray, List.getElem?_cons_zero, List.getElem?_cons_succ]; exact rfl)
                        case q226 => exact fun _ _ _ h => h
                        case w226 => rfl
                        case y226 =>
                          intro w hSw
                          (try dsimp only at hSw)
                          skip
                          go_simp
                          try with_reducible rfl
                        try simp only [Act.put, List.setIfInBounds_toArray, List.set_cons_zero, List.set_cons_succ]
                        refine wpAnyH_take (i := 9) (oi := ?oi227) (v := ?vi227) ?h227 (by kernel_rfl) (by kernel_rfl) (by kernel_rfl) ?q227 (Or.inl ⟨?w227, ?y227⟩) hHeld ?r227
                        case h227 => first | (simp only [List.getElem?_toArray, List.getElem?_cons_zero, List.getElem?_cons_succ]; done) | (simp only [List.getElem?_toArray, List.getElem?_cons_zero, List.getElem?_cons_succ]; exact rfl)
                        case q227 => exact fun _ _ _ h => h
                        case w227 => rfl
                        case y227 =>
                          intro w hSw
                          (try dsimp only at hSw)
                          skip
                          go_simp
                          try with_reducible rfl
                        try simp only [Act.put, List.setIfInBounds_toArray, List.set_cons_zero, List.set_cons_succ]
                        refine wpAnyH_ready (rs := [5]) (by kernel_rfl) (by simp) ?_
                        refine AllReadyH.cons (o := ?ob228) ?hb228 (fun K hK => ?_) AllReadyH.nil
                        case hb228 => first | (simp only [List.getElem?_toArray, List.getElem?_cons_zero, List.getElem?_cons_succ]; done) | (simp only [List.getElem?_toArray, List.getElem?_cons_zero, List.getElem?_cons_succ]; exact rfl)
                        go_simp
                        go_at_call 20
                        refine HRC.out.mono ?_
                        rintro e wm ⟨u, rfl, hfm, hbm⟩
                        have fdm : Fp Non wb wm := (Fp.refl Non wb).drew.then hfm
                        have km : wm.cell? ⟨q2, 2, none⟩ = some (.slice zao l1.rs.length zcap) := hfm.cell k2 (fun h => h)
                        have hsm := Same_c u (.slice zao l1.rs.length zcap) l1.rs l1.rs wm (hbm.view (E := fun _ => True) (fun _ _ => trivial) (fun _ _ => trivial)) (by have := (HC.out.2.du.bo.view (E := fun _ => True) (fun _ _ => trivial) (fun _ _ => trivial)).keep fdm (fun _ _ h => h); rw [HZV.out] at this; exact this) (by have := HFW.out.1; omega)
                        rw [show decide (l1.rs = l1.rs) = true from decide_eq_true rfl] at hsm
                        obtain ⟨uao, ucap, hu⟩ := hbm.shape
                        subst hu
                        have HSM := Lib.hid hsm
                        have HDM := Lib.hid fdm
                        clear hsm hfm hbm fdm k2 hHeld
                        go_wp2_with fail
                        refine hK.out _ _ km (fun hHeld => ?_)
                        clear hK K
                        try simp only [Act.put, List.setIfInBounds_toArray, List.set_cons_zero, List.set_cons_succ]
                        refine wpAnyH_ready (rs := [10]) (by kernel_rfl) (by simp) ?_
                        refine AllReadyH.cons (o := ?ob229) ?hb229 (fun K hK => ?_) AllReadyH.nil
                        case hb229 => first | (simp only [List.getElem?_toArray, List.getElem?_cons_zero, List.getElem?_cons_succ]; done) | (simp only [List.getElem?_toArray, List.getElem?_cons_zero, List.getElem?_cons_succ]; exact rfl)
                        go_simp
                        go_at_call 19
                        refine HSM.out.mono ?_
                        rintro e wn ⟨rfl, hfn⟩
                        have kn : wn.cell? ⟨q2, 2, none⟩ = some (.slice zao l1.rs.length zcap) := hfn.cell km (fun h => h)
                        have hdn := HDM.out.then hfn
                        have HRo := Lib.hid (Room_c (HC.out.1.d.keep hdn (fun _ _ h => h)) (HC.out.2.pr.keep hdn (fun _ _ h => h)) HC.out.2.lk)
                        have HRr := Lib.hid (rRoom_c (HC.out.2.du.non hdn) HC.out.2.lk)
                        have HDN := Lib.hid hdn
                        clear hfn hdn km hHeld
                        go_wp2_with fail
                        refine hK.out _ _ kn (fun hHeld => ?_)
                        clear hK K
                        try simp only [Act.put, List.setIfInBounds_toArray, List.set_cons_zero, List.set_cons_succ]
                        refine wpAnyH_take (i := 11) (oi := ?oi230) (v := ?vi230) ?h230 (by kernel_rfl) (by kernel_rfl) (by kernel_rfl) ?q230 (Or.inl ⟨?w230, ?y230⟩) hHeld ?r230
                        case h230 => first | (simp only [List.getElem?_toArray, List.getElem?_cons_zero, List.getElem?_cons_succ]; done) | (simp only [List.getElem?_toArray, List.getElem?_cons_zero, List.getElem?_cons_succ]; exact rfl)
                        case q230 => exact fun _ _ _ h => h
                        case w230 => rfl
                        case y230 =>
                          intro w hSw
                          (try dsimp only at hSw)
                          skip
                          go_simp
                          try with_reducible rfl
                        try simp only [Act.put, List.setIfInBounds_toArray, List.set_cons_zero, List.set_cons_succ]
                        refine wpAnyH_take (i := 12) (oi := ?oi231) (v := ?vi231) ?h231 (by kernel_rfl) (by kernel_rfl) (by kernel_rfl) ?q231 (Or.inl ⟨?w231, ?y231⟩) hHeld ?r231
                        case h231 => first | (simp only [List.getElem?_toArray, List.getElem?_cons_zero, List.getElem?_cons_succ]; done) | (simp only [List.getElem?_toArray, List.getElem?_cons_zero, List.getElem?_cons_succ]; exact rfl)
                        case q231 => exact fun _ _ _ h => h
                        case w231 => rfl
                        case y231 =>
                          intro w hSw
                          (try dsimp only at hSw)
                          skip
                          go_simp
                          try with_reducible rfl
                        try simp only [Act.put, List.setIfInBounds_toArray, List.set_cons_zero, List.set_cons_succ]
                        refine wpAnyH_take (i := 13) (oi := ?oi232) (v := ?vi232) ?h232 (by kernel_rfl) (by kernel_rfl) (by kernel_rfl) ?q232 (Or.inl ⟨?w232, ?y232⟩) hHeld ?r232
                        case h232 => first | (simp only [List.getElem?_toArray, List.getElem?_cons_zero, List.getElem?_cons_succ]; done) | (simp only [List.getElem?_toArray, List.getElem?_cons_zero, List.getElem?_cons_succ]; exact rfl)
                        case q232 => exact fun _ _ _ h => h
                        case w232 => rfl
                        case y232 =>
                          intro w hSw
                          (try dsimp only at hSw)
                          skip
                          go_simp
                          try with_reducible rfl
                        try simp only [Act.put, List.setIfInBounds_toArray, List.set_cons_zero, List.set_cons_succ]
                        refine wpAnyH_take (i := 14) (oi := ?oi233) (v := ?vi233) ?h233 (by kernel_rfl) (by kernel_rfl) (by kernel_rfl) ?q233 (Or.inl ⟨?w233, ?y233⟩) hHeld ?r233
                        case h233 => first | (simp only [List.getElem?_toArray, List.getElem?_cons_zero, List.getElem?_cons_succ]; done) | (simp only [List.getElem?_toArray, List.getElem?_cons_zero, List.getElem?_cons_succ]; exact rfl)
                        case q233 => exact fun _ _ _ h => h
                        case w233 => rfl
                        case y233 =>
                          intro w hSw
                          (try dsimp only at hSw)
                          skip
                          go_simp
                          try with_reducible rfl
                        try simp only [Act.put, List.setIfInBounds_toArray, List.set_cons_zero, List.set_cons_succ]
                        refine wpAnyH_take (i := 16) (oi := ?oi234) (v := ?vi234) ?h234 (by kernel_rfl) (by kernel_rfl) (by kernel_rfl) ?q234 (Or.inl ⟨?w234, ?y234⟩) hHeld ?r234
                        case h234 => first | (simp only [List.getElem?_toArray, List.getElem?_cons_zero, List.getElem?_cons_succ]; done) | (simp only [List.getElem?_toArray, List.getElem?_cons_zero, List.getElem?_cons_succ]; exact rfl)
                        case q234 => exact fun _ _ _ h => h
                        case w234 => rfl
                        case y234 =>
                          intro w hSw
                          (try dsimp only at hSw)
                          skip
                          go_simp
                          try with_reducible rfl
                        try simp only [Act.put, List.setIfInBounds_toArray, List.set_cons_zero, List.set_cons_succ]
                        refine wpAnyH_ready (rs := [15]) (by kernel_rfl) (by simp) ?_
                        refine AllReadyH.cons (o := ?ob235) ?hb235 (fun K hK => ?_) AllReadyH.nil
                        case hb235 => first | (simp only [List.getElem?_toArray, List.getElem?_cons_zero, List.getElem?_cons_succ]; done) | (simp only [List.getElem?_toArray, List.getElem?_cons_zero, List.getElem?_cons_succ]; exact rfl)
                        go_simp
                        go_at_call 21
                        refine HRo.out.mono ?_
                        rintro e w' ⟨rfl, hw'⟩
                        obtain rfl := hw'.symm
                        clear hw'
                        go_wp2_with fail
                        refine hK.out _ _ kn (fun hHeld => ?_)
                        clear hK K
                        try simp only [Act.put, List.setIfInBounds_toArray, List.set_cons_zero, List.set_cons_succ]
                        refine wpAnyH_ready (rs := [17]) (by kernel_rfl) (by simp) ?_
                        refine AllReadyH.cons (o := ?ob236) ?hb236 (fun K hK => ?_) AllReadyH.nil
                        case hb236 => first | (simp only [List.getElem?_toArray, List.getElem?_cons_zero, List.getElem?_cons_succ]; done) | (simp only [List.getElem?_toArray, List.getElem?_cons_zero, List.getElem?_cons_succ]; exact rfl)
                        go_simp
                        go_at_call 22
                        refine HRr.out.mono ?_
                        rintro e w' ⟨rfl, hw'⟩
                        obtain rfl := hw'.symm
                        clear hw'
                        go_wp2_with fail
                        refine hK.out _ _ kn (fun hHeld => ?_)
                        clear hK K
                        try simp only [Act.put, List.setIfInBounds_toArray, List.set_cons_zero, List.set_cons_succ]
                        refine wpAnyH_take (i := 18) (oi := ?oi237) (v := ?vi237) ?h237 (by kernel_rfl) (by kernel_rfl) (by kernel_rfl) ?q237 (Or.inl ⟨?w237, ?y237⟩) hHeld ?r237
                        case h237 => first | (simp only [List.getElem?_toArray, List.getElem?_cons_zero, List.getElem?_cons_succ]; done) | (simp only [List.getElem?_toArray, List.getElem?_cons_zero, List.getElem?_cons_succ]; exact rfl)
                        case q237 => exact fun _ _ _ h => h
                        case w237 => rfl
                        case y237 =>
                          intro w hSw
                          (try dsimp only at hSw)
                          skip
                          go_simp
                          try with_reducible rfl
                        try simp only [Act.put, List.setIfInBounds_toArray, List.set_cons_zero, List.set_cons_succ]
                        refine wpAnyH_take (i := 19) (oi := ?oi238) (v := ?vi238) ?h238 (by kernel_rfl) (by kernel_rfl) (by kernel_rfl) ?q238 (Or.inl ⟨?w238, ?y238⟩) hHeld ?r238
                        case h238 => first | (simp only [List.getElem?_toArray, List.getElem?_cons_zero, List.getElem?_cons_succ]; done) | (simp only [List.getElem?_toArray, List.getElem?_cons_zero, List.getElem?_cons_succ]; exact rfl)
                        case q238 => exact fun _ _ _ h => h
                        case w238 => rfl
                        case y238 =>
                          intro w hSw
                          (try dsimp only at hSw)
                          skip
                          go_simp
                          try with_reducible rfl
                        try simp only [Act.put, List.setIfInBounds_toArray, List.set_cons_zero, List.set_cons_succ]
                        refine wpAnyH_done (by kernel_rfl) ?_ _
                        refine NoPanic.normal ?_
                        clear kn
                        go_wp2
                        go_roundw
                        case rel => exact ⟨k + 1, HZ.out.1, congrArg (Value.int .i64) HQW.out, E, s1, p2, rfl, rfl, HC.out.1.keep HDN.out, .inr ⟨q1, z1, q2, _, _, l1, rfl, rfl, HC.out.2.keep HDN.out⟩, (by have h1 := HMK.out.acts; have h2 := HAC.out.1; omega), hR.out.2.2.2.trans HPC.out.symm⟩
                        case measure => have := HZ.out.1; rw [HQW.out]; simp [RowKit.intOf]; omega
                      · have t5 : (x.what == 5) = false := beq_eq_false_iff_ne.2 h5
                        have u5 : (x.what = 5) = False := eq_false h5
                        have t6 : (x.what == 6) = false := beq_eq_false_iff_ne.2 h6
                        have u6 : (x.what = 6) = False := eq_false h6
                        have t4 : (x.what == 4) = false := beq_eq_false_iff_ne.2 h4
                        have u4 : (x.what = 4) = False := eq_false h4
                        have t0 : (x.what == 0) = false := beq_eq_false_iff_ne.2 h0
                        have u0 : (x.what = 0) = False := eq_false h0
                        have t1 : (x.what == 1) = false := beq_eq_false_iff_ne.2 h1
                        have u1 : (x.what = 1) = False := eq_false h1
                        have t2 : (x.what == 2) = false := beq_eq_false_iff_ne.2 h2
                        have u2 : (x.what = 2) = False := eq_false h2
                        have t3 : (x.what == 3) = false := beq_eq_false_iff_ne.2 h3
                        have u3 : (x.what = 3) = False := eq_false h3
                        clear h5 h6 h4 h0 h1 h2 h3
                        have co0 := HBX.out.c0
                        obtain ⟨W, hW⟩ : ∃ W, W = wr.drew.alloc (.cells #[.int .i64 x.what, .slice xao x.b.length xcap, .int .i64 x.n, .slice yao x.keep.length ycap] 42) := ⟨_, rfl⟩
                        have hc := And.intro HT.out HL2.out
                        obtain ⟨zao, zcap, hz2⟩ := hc.2.du.bo.shape
                        have HC := Lib.hid hc
                        have HZV := Lib.hid hz2
                        clear hc hz2 hW W
                        have k2 : ((wr.drew.alloc (.cells #[.int .i64 x.what, .slice xao x.b.length xcap, .int .i64 x.n, .slice yao x.keep.length ycap] 42))).drew.cell? ⟨q2, 2, none⟩ = some (.slice zao lg.rs.length zcap) := by have := HC.out.2.du.c2; rw [HZV.out] at this; exact this
                        have hfw := HC.out.2.lk.few HC.out.1.d.rt
                        have husd : usd lg.rs ≤ 100000 := by have := HC.out.2.lk.fit; omega
                        have hrc := Records_c (HC.out.2.pr.keep (Fp.drew (Fp.refl Non (wr.drew.alloc (.cells #[.int .i64 x.what, .slice xao x.b.length xcap, .int .i64 x.n, .slice yao x.keep.length ycap] 42)))) (fun _ _ h => h)) husd
                        have HRC := Lib.hid hrc
                        have HFW := Lib.hid hfw
                        clear hrc hfw husd
                        go_wp2_with fail
                        refine wp_region_noPanic ?_
                        refine wp_region_held_drew (S := (fun w' => w'.cell? ⟨q2, 2, none⟩ = some (.slice zao lg.rs.length zcap))) (by kernel_rfl) ?_ (fun hHeld => ?_)
                        · exact k2
                        refine wpAnyH_take (i := 0) (oi := ?oi101) (v := ?vi101) ?h101 (by kernel_rfl) (by kernel_rfl) (by kernel_rfl) ?q101 (Or.inl ⟨?w101, ?y101⟩) hHeld ?r101
                        case h101 => first | (simp only [List.getElem?_toArray, List.getElem?_cons_zero]; done) | (simp only [List.getElem?_toArray, List.getElem?_cons_zero]; exact rfl)
                        case q101 => exact fun _ _ _ h => h
                        case w101 => rfl
                        case y101 =>
                          intro w hSw
                          (try dsimp only at hSw)
                          skip
                          go_simp
                          try with_reducible rfl
                        try simp only [Act.put, List.setIfInBounds_toArray, List.set_cons_zero, List.set_cons_succ]
                        refine wpAnyH_take (i := 1) (oi := ?oi102) (v := ?vi102) ?h102 (by kernel_rfl) (by kernel_rfl) (by kernel_rfl) ?q102 (Or.inl ⟨?w102, ?y102⟩) hHeld ?r102
                        case h102 => first | (simp only [List.getElem?_toArray, List.getElem?_cons_zero, List.getElem?_cons_succ]; done) | (simp only [List.getElem?_toArray, List.getElem?_cons_zero, List.getElem?_cons_succ]; exact rfl)
                        case q102 => exact fun _ _ _ h => h
                        case w102 => rfl
                        case y102 =>
                          intro w hSw
                          (try dsimp only at hSw)
                          skip
                          go_simp
                          try with_reducible rfl
                        try simp only [Act.put, List.setIfInBounds_toArray, List.set_cons_zero, List.set_cons_succ]
                        refine wpAnyH_take (i := 2) (oi := ?oi103) (v := ?vi103) ?h103 (by kernel_rfl) (by kernel_rfl) (by kernel_rfl) ?q103 (Or.inl ⟨?w103, ?y103⟩) hHeld ?r103
                        case h103 => first | (simp only [List.getElem?_toArray, List.getElem?_cons_zero, List.getElem?_cons_succ]; done) | (simp only [List.getElem?_toArray, List.getElem?_cons_zero, List.getElem?_cons_succ]; exact rfl)
                        case q103 => exact fun _ _ _ h => h
                        case w103 => rfl
                        case y103 =>
                          intro w hSw
                          (try dsimp only at hSw)
                          skip
                          go_simp
                          try with_reducible rfl
                        try simp only [Act.put, List.setIfInBounds_toArray, List.set_cons_zero, List.set_cons_succ]
                        refine wpAnyH_take (i := 3) (oi := ?oi104) (v := ?vi104) ?h104 (by kernel_rfl) (by kernel_rfl) (by kernel_rfl) ?q104 (Or.inl ⟨?w104, ?y104⟩) hHeld ?r104
                        case h104 => first | (simp only [List.getElem?_toArray, List.getElem?_cons_zero, List.getElem?_cons_succ]; done) | (simp only [List.getElem?_toArray, List.getElem?_cons_zero, List.getElem?_cons_succ]; exact rfl)
                        case q104 => exact fun _ _ _ h => h
                        case w104 => rfl
                        case y104 =>
                          intro w hSw
                          (try dsimp only at hSw)
                          skip
                          go_simp
                          try with_reducible rfl
                        try simp only [Act.put, List.setIfInBounds_toArray, List.set_cons_zero, List.set_cons_succ]
                        refine wpAnyH_take (i := 4) (oi := ?oi105) (v := ?vi105) ?h105 (by kernel_rfl) (by kernel_rfl) (by kernel_rfl) ?q105 (Or.inl ⟨?w105, ?y105⟩) hHeld ?r105
                        case h105 => first | (simp only [List.getElem?_toArray, List.getElem?_cons_zero, List.getElem?_cons_succ]; done) | (simp only [List.getElem?_toArray, List.getElem?_cons_zero, List.getElem?_cons_succ]; exact rfl)
                        case q105 => exact fun _ _ _ h => h
                        case w105 => rfl
                        case y105 =>
                          intro w hSw
                          (try dsimp only at hSw)
                          skip
                          go_simp
                          try with_reducible rfl
                        try simp only [Act.put, List.setIfInBounds_toArray, List.set_cons_zero, List.set_cons_succ]
                        refine wpAnyH_take (i := 6) (oi := ?oi106) (v := ?vi106) ?h106 (by kernel_rfl) (by kernel_rfl) (by kernel_rfl) ?q106 (Or.inl ⟨?w106, ?y106⟩) hHeld ?r106
                        case h106 => first | (simp only [List.getElem?_toArray, List.getElem?_cons_zero, List.getElem?_cons_succ]; done) | (simp only [List.getElem?_toArray, List.getElem?_cons_zero, List.getElem?_cons_succ]; exact rfl)
                        case q106 => exact fun _ _ _ h => h
                        case w106 => rfl
                        case y106 =>
                          intro w hSw
                          (try dsimp only at hSw)
                          skip
                          go_simp
                          try with_reducible rfl
                        try simp only [Act.put, List.setIfInBounds_toArray, List.set_cons_zero, List.set_cons_succ]
                        refine wpAnyH_take (i := 7) (oi := ?oi107) (v := ?vi107) ?h107 (by kernel_rfl) (by kernel_rfl) (by kernel_rfl) ?q107 (Or.inl ⟨?w107, ?y107⟩) hHeld ?r107
                        case h107 => first | (simp only [List.getElem?_toArray, List.getElem?_cons_zero, List.getElem?_cons_succ]; done) | (simp only [List.getElem?_toArray, List.getElem?_cons_zero, List.getElem?_cons_succ]; exact rfl)
                        case q107 => exact fun _ _ _ h => h
                        case w107 => rfl
                        case y107 =>
                          intro w hSw
                          (try dsimp only at hSw)
                          skip
                          go_simp
                          try with_reducible rfl
                        try simp only [Act.put, List.setIfInBounds_toArray, List.set_cons_zero, List.set_cons_succ]
                        refine wpAnyH_take (i := 8) (oi := ?oi108) (v := ?vi108) ?h108 (by kernel_rfl) (by kernel_rfl) (by kernel_rfl) ?q108 (Or.inl ⟨?w108, ?y108⟩) hHeld ?r108
                        case h108 => first | (simp only [List.getElem?_toArray, List.getElem?_cons_zero, List.getElem?_cons_succ]; done) | (simp only [List.getElem?_toArray, List.getElem?_cons_zero, List.getElem?_cons_succ]; exact rfl)
                        case q108 => exact fun _ _ _ h => h
                        case w108 => rfl
                        case y108 =>
                          intro w hSw
                          (try dsimp only at hSw)
                          skip
                          go_simp
                          try with_reducible rfl
                        try simp only [Act.put, List.setIfInBounds_toArray, List.set_cons_zero, List.set_cons_succ]
                        refine wpAnyH_take (i := 9) (oi := ?oi109) (v := ?vi109) ?h109 (by kernel_rfl) (by kernel_rfl) (by kernel_rfl) ?q109 (Or.inl ⟨?w109, ?y109⟩) hHeld ?r109
                        case h109 => first | (simp only [List.getElem?_toArray, List.getElem?_cons_zero, List.getElem?_cons_succ]; done) | (simp only [List.getElem?_toArray, List.getElem?_cons_zero, List.getElem?_cons_succ]; exact rfl)
                        case q109 => exact fun _ _ _ h => h
                        case w109 => rfl
                        case y109 =>
                          intro w hSw
                          (try dsimp only at hSw)
                          skip
                          go_simp
                          try with_reducible rfl
                        try simp only [Act.put, List.setIfInBounds_toArray, List.set_cons_zero, List.set_cons_succ]
                        refine wpAnyH_ready (rs := [5]) (by kernel_rfl) (by simp) ?_
                        refine AllReadyH.cons (o := ?ob110) ?hb110 (fun K hK => ?_) AllReadyH.nil
                        case hb110 => first | (simp only [List.getElem?_toArray, List.getElem?_cons_zero, List.getElem?_cons_succ]; done) | (simp only [List.getElem?_toArray, List.getElem?_cons_zero, List.getElem?_cons_succ]; exact rfl)
                        go_simp
                        go_at_call 20
                        refine HRC.out.mono ?_
                        rintro e wm ⟨u, rfl, hfm, hbm⟩
                        have fdm : Fp Non (wr.drew.alloc (.cells #[.int .i64 x.what, .slice xao x.b.length xcap, .int .i64 x.n, .slice yao x.keep.length ycap] 42)) wm := (Fp.refl Non (wr.drew.alloc (.cells #[.int .i64 x.what, .slice xao x.b.length xcap, .int .i64 x.n, .slice yao x.keep.length ycap] 42))).drew.then hfm
                        have km : wm.cell? ⟨q2, 2, none⟩ = some (.slice zao lg.rs.length zcap) := hfm.cell k2 (fun h => h)
                        have hsm := Same_c u (.slice zao lg.rs.length zcap) lg.rs lg.rs wm (hbm.view (E := fun _ => True) (fun _ _ => trivial) (fun _ _ => trivial)) (by have := (HC.out.2.du.bo.view (E := fun _ => True) (fun _ _ => trivial) (fun _ _ => trivial)).keep fdm (fun _ _ h => h); rw [HZV.out] at this; exact this) (by have := HFW.out.1; omega)
                        rw [show decide (lg.rs = lg.rs) = true from decide_eq_true rfl] at hsm
                        obtain ⟨uao, ucap, hu⟩ := hbm.shape
                        subst hu
                        have HSM := Lib.hid hsm
                        have HDM := Lib.hid fdm
                        clear hsm hfm hbm fdm k2 hHeld
                        go_wp2_with fail
                        refine hK.out _ _ km (fun hHeld => ?_)
                        clear hK K
                        try simp only [Act.put, List.setIfInBounds_toArray, List.set_cons_zero, List.set_cons_succ]
                        refine wpAnyH_ready (rs := [10]) (by kernel_rfl) (by simp) ?_
                        refine AllReadyH.cons (o := ?ob111) ?hb111 (fun K hK => ?_) AllReadyH.nil
                        case hb111 => first | (simp only [List.getElem?_toArray, List.getElem?_cons_zero, List.getElem?_cons_succ]; done) | (simp only [List.getElem?_toArray, List.getElem?_cons_zero, List.getElem?_cons_succ]; exact rfl)
                        go_simp
                        go_at_call 19
                        refine HSM.out.mono ?_
                        rintro e wn ⟨rfl, hfn⟩
                        have kn : wn.cell? ⟨q2, 2, none⟩ = some (.slice zao lg.rs.length zcap) := hfn.cell km (fun h => h)
                        have hdn := HDM.out.then hfn
                        have HRo := Lib.hid (Room_c (HC.out.1.d.keep hdn (fun _ _ h => h)) (HC.out.2.pr.keep hdn (fun _ _ h => h)) HC.out.2.lk)
                        have HRr := Lib.hid (rRoom_c (HC.out.2.du.non hdn) HC.out.2.lk)
                        have HDN := Lib.hid hdn
                        clear hfn hdn km hHeld
                        go_wp2_with fail
                        refine hK.out _ _ kn (fun hHeld => ?_)
                        clear hK K
                        try simp only [Act.put, List.setIfInBounds_toArray, List.set_cons_zero, List.set_cons_succ]
                        refine wpAnyH_take (i := 11) (oi := ?oi112) (v := ?vi112) ?h112 (by kernel_rfl) (by kernel_rfl) (by kernel_rfl) ?q112 (Or.inl ⟨?w112, ?y112⟩) hHeld ?r112
                        case h112 => first | (simp only [List.getElem?_toArray, List.getElem?_cons_zero, List.getElem?_cons_succ]; done) | (simp only [List.getElem?_toArray, List.getElem?_cons_zero, List.getElem?_cons_succ]; exact rfl)
                        case q112 => exact fun _ _ _ h => h
                        case w112 => rfl
                        case y112 =>
                          intro w hSw
                          (try dsimp only at hSw)
                          skip
                          go_simp
                          try with_reducible rfl
                        try simp only [Act.put, List.setIfInBounds_toArray, List.set_cons_zero, List.set_cons_succ]
                        refine wpAnyH_take (i := 12) (oi := ?oi113) (v := ?vi113) ?h113 (by kernel_rfl) (by kernel_rfl) (by kernel_rfl) ?q113 (Or.inl ⟨?w113, ?y113⟩) hHeld ?r113
                        case h113 => first | (simp only [List.getElem?_toArray, List.getElem?_cons_zero, List.getElem?_cons_succ]; done) | (simp only [List.getElem?_toArray, List.getElem?_cons_zero, List.getElem?_cons_succ]; exact rfl)
                        case q113 => exact fun _ _ _ h => h
                        case w113 => rfl
                        case y113 =>
                          intro w hSw
                          (try dsimp only at hSw)
                          skip
                          go_simp
                          try with_reducible rfl
                        try simp only [Act.put, List.setIfInBounds_toArray, List.set_cons_zero, List.set_cons_succ]
                        refine wpAnyH_take (i := 13) (oi := ?oi114) (v := ?vi114) ?h114 (by kernel_rfl) (by kernel_rfl) (by kernel_rfl) ?q114 (Or.inl ⟨?w114, ?y114⟩) hHeld ?r114
                        case h114 => first | (simp only [List.getElem?_toArray, List.getElem?_cons_zero, List.getElem?_cons_succ]; done) | (simp only [List.getElem?_toArray, List.getElem?_cons_zero, List.getElem?_cons_succ]; exact rfl)
                        case q114 => exact fun _ _ _ h => h
                        case w114 => rfl
                        case y114 =>
                          intro w hSw
                          (try dsimp only at hSw)
                          skip
                          go_simp
                          try with_reducible rfl
                        try simp only [Act.put, List.setIfInBounds_toArray, List.set_cons_zero, List.set_cons_succ]
                        refine wpAnyH_take (i := 14) (oi := ?oi115) (v := ?vi115) ?h115 (by kernel_rfl) (by kernel_rfl) (by kernel_rfl) ?q115 (Or.inl ⟨?w115, ?y115⟩) hHeld ?r115
                        case h115 => first | (simp only [List.getElem?_toArray, List.getElem?_cons_zero, List.getElem?_cons_succ]; done) | (simp only [List.getElem?_toArray, List.getElem?_cons_zero, List.getElem?_cons_succ]; exact rfl)
                        case q115 => exact fun _ _ _ h => h
                        case w115 => rfl
                        case y115 =>
                          intro w hSw
                          (try dsimp only at hSw)
                          skip
                          go_simp
                          try with_reducible rfl
                        try simp only [Act.put, List.setIfInBounds_toArray, List.set_cons_zero, List.set_cons_succ]
                        refine wpAnyH_take (i := 16) (oi := ?oi116) (v := ?vi116) ?h116 (by kernel_rfl) (by kernel_rfl) (by kernel_rfl) ?q116 (Or.inl ⟨?w116, ?y116⟩) hHeld ?r116
                        case h116 => first | (simp only [List.getElem?_toArray, List.getElem?_cons_zero, List.getElem?_cons_succ]; done) | (simp only [List.getElem?_toArray, List.getElem?_cons_zero, List.getElem?_cons_succ]; exact rfl)
                        case q116 => exact fun _ _ _ h => h
                        case w116 => rfl
                        case y116 =>
                          intro w hSw
                          (try dsimp only at hSw)
                          skip
                          go_simp
                          try with_reducible rfl
                        try simp only [Act.put, List.setIfInBounds_toArray, List.set_cons_zero, List.set_cons_succ]
                        refine wpAnyH_ready (rs := [15]) (by kernel_rfl) (by simp) ?_
                        refine AllReadyH.cons (o := ?ob117) ?hb117 (fun K hK => ?_) AllReadyH.nil
                        case hb117 => first | (simp only [List.getElem?_toArray, List.getElem?_cons_zero, List.getElem?_cons_succ]; done) | (simp only [List.getElem?_toArray, List.getElem?_cons_zero, List.getElem?_cons_succ]; exact rfl)
                        go_simp
                        go_at_call 21
                        refine HRo.out.mono ?_
                        rintro e w' ⟨rfl, hw'⟩
                        obtain rfl := hw'.symm
                        clear hw'
                        go_wp2_with fail
                        refine hK.out _ _ kn (fun hHeld => ?_)
                        clear hK K
                        try simp only [Act.put, List.setIfInBounds_toArray, List.set_cons_zero, List.set_cons_succ]
                        refine wpAnyH_ready (rs := [17]) (by kernel_rfl) (by simp) ?_
                        refine AllReadyH.cons (o := ?ob118) ?hb118 (fun K hK => ?_) AllReadyH.nil
                        case hb118 => first | (simp only [List.getElem?_toArray, List.getElem?_cons_zero, List.getElem?_cons_succ]; done) | (simp only [List.getElem?_toArray, List.getElem?_cons_zero, List.getElem?_cons_succ]; exact rfl)
                        go_simp
                        go_at_call 22
                        refine HRr.out.mono ?_
                        rintro e w' ⟨rfl, hw'⟩
                        obtain rfl := hw'.symm
                        clear hw'
                        go_wp2_with fail
                        refine hK.out _ _ kn (fun hHeld => ?_)
                        clear hK K
                        try simp only [Act.put, List.setIfInBounds_toArray, List.set_cons_zero, List.set_cons_succ]
                        refine wpAnyH_take (i := 18) (oi := ?oi119) (v := ?vi119) ?h119 (by kernel_rfl) (by kernel_rfl) (by kernel_rfl) ?q119 (Or.inl ⟨?w119, ?y119⟩) hHeld ?r119
                        case h119 => first | (simp only [List.getElem?_toArray, List.getElem?_cons_zero, List.getElem?_cons_succ]; done) | (simp only [List.getElem?_toArray, List.getElem?_cons_zero, List.getElem?_cons_succ]; exact rfl)
                        case q119 => exact fun _ _ _ h => h
                        case w119 => rfl
                        case y119 =>
                          intro w hSw
                          (try dsimp only at hSw)
                          skip
                          go_simp
                          try with_reducible rfl
                        try simp only [Act.put, List.setIfInBounds_toArray, List.set_cons_zero, List.set_cons_succ]
                        refine wpAnyH_take (i := 19) (oi := ?oi120) (v := ?vi120) ?h120 (by kernel_rfl) (by kernel_rfl) (by kernel_rfl) ?q120 (Or.inl ⟨?w120, ?y120⟩) hHeld ?r120
                        case h120 => first | (simp only [List.getElem?_toArray, List.getElem?_cons_zero, List.getElem?_cons_succ]; done) | (simp only [List.getElem?_toArray, List.getElem?_cons_zero, List.getElem?_cons_succ]; exact rfl)
                        case q120 => exact fun _ _ _ h => h
                        case w120 => rfl
                        case y120 =>
                          intro w hSw
                          (try dsimp only at hSw)
                          skip
                          go_simp
                          try with_reducible rfl
                        try simp only [Act.put, List.setIfInBounds_toArray, List.set_cons_zero, List.set_cons_succ]
                        refine wpAnyH_done (by kernel_rfl) ?_ _
                        refine NoPanic.normal ?_
                        clear kn
                        go_wp2
                        go_roundw
                        case rel => exact ⟨k + 1, HZ.out.1, congrArg (Value.int .i64) HQW.out, E, s, p', rfl, rfl, HC.out.1.keep HDN.out, .inr ⟨q1, v1, q2, _, _, lg, rfl, rfl, HC.out.2.keep HDN.out⟩, (by have h2 := HAC.out.1; omega), hR.out.2.2.2⟩
                        case measure => have := HZ.out.1; rw [HQW.out]; simp [RowKit.intOf]; omega
      · have hke : k = q.length := Nat.le_antisymm hk (Nat.not_lt.1 hlt)
        subst hke
        have g1 : ((q.length : Int) < (q.length : Int)) = False := eq_false (Int.lt_irrefl _)
        clear hk hlt
        rcases hlg with ⟨ew, ev⟩ | ⟨q1, v1, q2, v2, D, lg, ew, ev, hL⟩
        · subst ew ev
          have slB := (hR.out.1.r.cur.sl hR.out.1.r.cap.1.1 hR.out.1.r.cap.1.2).keep (Fp.drew (Fp.refl Non wr)) (fun _ _ h => h)
          have k1 : wr.drew.cell? ⟨pb, 0, none⟩ = some (.slice (some ⟨p'.g, 0, none⟩) s.cur.length p'.gc) ∧ (convert 22 9 (.slice (some ⟨p'.g, 0, none⟩) s.cur.length p'.gc)).run Tryz.prog wr.drew = .ok (.string (B s.cur)) wr.drew := ⟨HD0.out, conv_sl _ _ _ slB⟩
          have HB := Lib.hid (Bytes_c (hR.out.1.d.keep (Fp.drew (Fp.refl Non wr)) (fun _ _ h => h)))
          have HA := Lib.hid (And.intro slB HD0.out)
          clear slB
          go_wp2_with fail
          refine wp_region_noPanic ?_
          refine wp_region_held_drew (S := (fun w' => w'.cell? ⟨pb, 0, none⟩ = some (.slice (some ⟨p'.g, 0, none⟩) s.cur.length p'.gc) ∧ (convert 22 9 (.slice (some ⟨p'.g, 0, none⟩) s.cur.length p'.gc)).run Tryz.prog w' = .ok (.string (B s.cur)) w')) (by kernel_rfl) ?_ (fun hHeld => ?_)
          · exact k1
          refine wpAnyH_take (i := 0) (oi := ?oi239) (v := ?vi239) ?h239 (by kernel_rfl) (by kernel_rfl) (by kernel_rfl) ?q239 (Or.inl ⟨?w239, ?y239⟩) hHeld ?r239
          case h239 => first | (simp only [List.getElem?_toArray, List.getElem?_cons_zero]; done) | (simp only [List.getElem?_toArray, List.getElem?_cons_zero]; exact rfl)
          case q239 => exact fun _ _ _ h => h
          case w239 => rfl
          case y239 =>
            intro w hSw
            (try dsimp only at hSw)
            obtain ⟨hS1, hS2⟩ := hSw
            go_simp
            try with_reducible rfl
          try simp only [Act.put, List.setIfInBounds_toArray, List.set_cons_zero, List.set_cons_succ]
          refine wpAnyH_take (i := 1) (oi := ?oi240) (v := ?vi240) ?h240 (by kernel_rfl) (by kernel_rfl) (by kernel_rfl) ?q240 (Or.inl ⟨?w240, ?y240⟩) hHeld ?r240
          case h240 => first | (simp only [List.getElem?_toArray, List.getElem?_cons_zero, List.getElem?_cons_succ]; done) | (simp only [List.getElem?_toArray, List.getElem?_cons_zero, List.getElem?_cons_succ]; exact rfl)
          case q240 => exact fun _ _ _ h => h
          case w240 => rfl
          case y240 =>
            intro w hSw
            (try dsimp only at hSw)
            obtain ⟨hS1, hS2⟩ := hSw
            go_simp
            try with_reducible rfl
          try simp only [Act.put, List.setIfInBounds_toArray, List.set_cons_zero, List.set_cons_succ]
          refine wpAnyH_take (i := 2) (oi := ?oi241) (v := ?vi241) ?h241 (by kernel_rfl) (by kernel_rfl) (by kernel_rfl) ?q241 (Or.inl ⟨?w241, ?y241⟩) hHeld ?r241
          case h241 => first | (simp only [List.getElem?_toArray, List.getElem?_cons_zero, List.getElem?_cons_succ]; done) | (simp only [List.getElem?_toArray, List.getElem?_cons_zero, List.getElem?_cons_succ]; exact rfl)
          case q241 => exact fun _ _ _ h => h
          case w241 => rfl
          case y241 =>
            intro w hSw
            (try dsimp only at hSw)
            obtain ⟨hS1, hS2⟩ := hSw
            go_simp
            try with_reducible rfl
          try simp only [Act.put, List.setIfInBounds_toArray, List.set_cons_zero, List.set_cons_succ]
          refine wpAnyH_take (i := 3) (oi := ?oi242) (v := ?vi242) ?h242 (by kernel_rfl) (by kernel_rfl) (by kernel_rfl) ?q242 (Or.inl ⟨?w242, ?y242⟩) hHeld ?r242
          case h242 => first | (simp only [List.getElem?_toArray, List.getElem?_cons_zero, List.getElem?_cons_succ]; done) | (simp only [List.getElem?_toArray, List.getElem?_cons_zero, List.getElem?_cons_succ]; exact rfl)
          case q242 => exact fun _ _ _ h => h
          case w242 => rfl
          case y242 =>
            intro w hSw
            (try dsimp only at hSw)
            obtain ⟨hS1, hS2⟩ := hSw
            go_simp
            try with_reducible rfl
          try simp only [Act.put, List.setIfInBounds_toArray, List.set_cons_zero, List.set_cons_succ]
          refine wpAnyH_take (i := 4) (oi := ?oi243) (v := ?vi243) ?h243 (by kernel_rfl) (by kernel_rfl) (by kernel_rfl) ?q243 (Or.inl ⟨?w243, ?y243⟩) hHeld ?r243
          case h243 => first | (simp only [List.getElem?_toArray, List.getElem?_cons_zero, List.getElem?_cons_succ]; done) | (simp only [List.getElem?_toArray, List.getElem?_cons_zero, List.getElem?_cons_succ]; exact rfl)
          case q243 => exact fun _ _ _ h => h
          case w243 => rfl
          case y243 =>
            intro w hSw
            (try dsimp only at hSw)
            obtain ⟨hS1, hS2⟩ := hSw
            go_simp
            try with_reducible rfl
          try simp only [Act.put, List.setIfInBounds_toArray, List.set_cons_zero, List.set_cons_succ]
          refine wpAnyH_take (i := 5) (oi := ?oi244) (v := ?vi244) ?h244 (by kernel_rfl) (by kernel_rfl) (by kernel_rfl) ?q244 (Or.inl ⟨?w244, ?y244⟩) hHeld ?r244
          case h244 => first | (simp only [List.getElem?_toArray, List.getElem?_cons_zero, List.getElem?_cons_succ]; done) | (simp only [List.getElem?_toArray, List.getElem?_cons_zero, List.getElem?_cons_succ]; exact rfl)
          case q244 => exact fun _ _ _ h => h
          case w244 => rfl
          case y244 =>
            intro w hSw
            (try dsimp only at hSw)
            obtain ⟨hS1, hS2⟩ := hSw
            go_simp
            try with_reducible rfl
          try simp only [Act.put, List.setIfInBounds_toArray, List.set_cons_zero, List.set_cons_succ]
          refine wpAnyH_take (i := 6) (oi := ?oi245) (v := ?vi245) ?h245 (by kernel_rfl) (by kernel_rfl) (by kernel_rfl) ?q245 (Or.inl ⟨?w245, ?y245⟩) hHeld ?r245
          case h245 => first | (simp only [List.getElem?_toArray, List.getElem?_cons_zero, List.getElem?_cons_succ]; done) | (simp only [List.getElem?_toArray, List.getElem?_cons_zero, List.getElem?_cons_succ]; exact rfl)
          case q245 => exact fun _ _ _ h => h
          case w245 => rfl
          case y245 =>
            intro w hSw
            (try dsimp only at hSw)
            obtain ⟨hS1, hS2⟩ := hSw
            go_simp
            try with_reducible rfl
          try simp only [Act.put, List.setIfInBounds_toArray, List.set_cons_zero, List.set_cons_succ]
          refine wpAnyH_take (i := 7) (oi := ?oi246) (v := ?vi246) ?h246 (by kernel_rfl) (by kernel_rfl) (by kernel_rfl) ?q246 (Or.inl ⟨?w246, ?y246⟩) hHeld ?r246
          case h246 => first | (simp only [List.getElem?_toArray, List.getElem?_cons_zero, List.getElem?_cons_succ]; done) | (simp only [List.getElem?_toArray, List.getElem?_cons_zero, List.getElem?_cons_succ]; exact rfl)
          case q246 => exact fun _ _ _ h => h
          case w246 => rfl
          case y246 =>
            intro w hSw
            (try dsimp only at hSw)
            obtain ⟨hS1, hS2⟩ := hSw
            go_simp
            try with_reducible rfl
          try simp only [Act.put, List.setIfInBounds_toArray, List.set_cons_zero, List.set_cons_succ]
          refine wpAnyH_take (i := 8) (oi := ?oi247) (v := ?vi247) ?h247 (by kernel_rfl) (by kernel_rfl) (by kernel_rfl) ?q247 (Or.inl ⟨?w247, ?y247⟩) hHeld ?r247
          case h247 => first | (simp only [List.getElem?_toArray, List.getElem?_cons_zero, List.getElem?_cons_succ]; done) | (simp only [List.getElem?_toArray, List.getElem?_cons_zero, List.getElem?_cons_succ]; exact rfl)
          case q247 => exact fun _ _ _ h => h
          case w247 => rfl
          case y247 =>
            intro w hSw
            (try dsimp only at hSw)
            obtain ⟨hS1, hS2⟩ := hSw
            go_simp
            try with_reducible rfl
          try simp only [Act.put, List.setIfInBounds_toArray, List.set_cons_zero, List.set_cons_succ]
          refine wpAnyH_take (i := 9) (oi := ?oi248) (v := ?vi248) ?h248 (by kernel_rfl) (by kernel_rfl) (by kernel_rfl) ?q248 (Or.inl ⟨?w248, ?y248⟩) hHeld ?r248
          case h248 => first | (simp only [List.getElem?_toArray, List.getElem?_cons_zero, List.getElem?_cons_succ]; done) | (simp only [List.getElem?_toArray, List.getElem?_cons_zero, List.getElem?_cons_succ]; exact rfl)
          case q248 => exact fun _ _ _ h => h
          case w248 => rfl
          case y248 =>
            intro w hSw
            (try dsimp only at hSw)
            obtain ⟨hS1, hS2⟩ := hSw
            go_simp
            try with_reducible rfl
          try simp only [Act.put, List.setIfInBounds_toArray, List.set_cons_zero, List.set_cons_succ]
          refine wpAnyH_take (i := 10) (oi := ?oi249) (v := ?vi249) ?h249 (by kernel_rfl) (by kernel_rfl) (by kernel_rfl) ?q249 (Or.inl ⟨?w249, ?y249⟩) hHeld ?r249
          case h249 => first | (simp only [List.getElem?_toArray, List.getElem?_cons_zero, List.getElem?_cons_succ]; done) | (simp only [List.getElem?_toArray, List.getElem?_cons_zero, List.getElem?_cons_succ]; exact rfl)
          case q249 => exact fun _ _ _ h => h
          case w249 => rfl
          case y249 =>
            intro w hSw
            (try dsimp only at hSw)
            obtain ⟨hS1, hS2⟩ := hSw
            go_simp
            try with_reducible rfl
          try simp only [Act.put, List.setIfInBounds_toArray, List.set_cons_zero, List.set_cons_succ]
          refine wpAnyH_take (i := 11) (oi := ?oi250) (v := ?vi250) ?h250 (by kernel_rfl) (by kernel_rfl) (by kernel_rfl) ?q250 (Or.inl ⟨?w250, ?y250⟩) hHeld ?r250
          case h250 => first | (simp only [List.getElem?_toArray, List.getElem?_cons_zero, List.getElem?_cons_succ]; done) | (simp only [List.getElem?_toArray, List.getElem?_cons_zero, List.getElem?_cons_succ]; exact rfl)
          case q250 => exact fun _ _ _ h => h
          case w250 => rfl
          case y250 =>
            intro w hSw
            (try dsimp only at hSw)
            obtain ⟨hS1, hS2⟩ := hSw
            go_simp
            try with_reducible rfl
          try simp only [Act.put, List.setIfInBounds_toArray, List.set_cons_zero, List.set_cons_succ]
          refine wpAnyH_take (i := 12) (oi := ?oi251) (v := ?vi251) ?h251 (by kernel_rfl) (by kernel_rfl) (by kernel_rfl) ?q251 (Or.inl ⟨?w251, ?y251⟩) hHeld ?r251
          case h251 => first | (simp only [List.getElem?_toArray, List.getElem?_cons_zero, List.getElem?_cons_succ]; done) | (simp only [List.getElem?_toArray, List.getElem?_cons_zero, List.getElem?_cons_succ]; exact rfl)
          case q251 => exact fun _ _ _ h => h
          case w251 => rfl
          case y251 =>
            intro w hSw
            (try dsimp only at hSw)
            obtain ⟨hS1, hS2⟩ := hSw
            go_simp
            try with_reducible rfl
          try simp only [Act.put, List.setIfInBounds_toArray, List.set_cons_zero, List.set_cons_succ]
          refine wpAnyH_take (i := 13) (oi := ?oi252) (v := ?vi252) ?h252 (by kernel_rfl) (by kernel_rfl) (by kernel_rfl) ?q252 (Or.inl ⟨?w252, ?y252⟩) hHeld ?r252
          case h252 => first | (simp only [List.getElem?_toArray, List.getElem?_cons_zero, List.getElem?_cons_succ]; done) | (simp only [List.getElem?_toArray, List.getElem?_cons_zero, List.getElem?_cons_succ]; exact rfl)
          case q252 => exact fun _ _ _ h => h
          case w252 => rfl
          case y252 =>
            intro w hSw
            (try dsimp only at hSw)
            obtain ⟨hS1, hS2⟩ := hSw
            go_simp
            try with_reducible rfl
          try simp only [Act.put, List.setIfInBounds_toArray, List.set_cons_zero, List.set_cons_succ]
          refine wpAnyH_take (i := 14) (oi := ?oi253) (v := ?vi253) ?h253 (by kernel_rfl) (by kernel_rfl) (by kernel_rfl) ?q253 (Or.inl ⟨?w253, ?y253⟩) hHeld ?r253
          case h253 => first | (simp only [List.getElem?_toArray, List.getElem?_cons_zero, List.getElem?_cons_succ]; done) | (simp only [List.getElem?_toArray, List.getElem?_cons_zero, List.getElem?_cons_succ]; exact rfl)
          case q253 => exact fun _ _ _ h => h
          case w253 => rfl
          case y253 =>
            intro w hSw
            (try dsimp only at hSw)
            obtain ⟨hS1, hS2⟩ := hSw
            go_simp
            try with_reducible rfl
          try simp only [Act.put, List.setIfInBounds_toArray, List.set_cons_zero, List.set_cons_succ]
          refine wpAnyH_take (i := 17) (oi := ?oi254) (v := ?vi254) ?h254 (by kernel_rfl) (by kernel_rfl) (by kernel_rfl) ?q254 (Or.inl ⟨?w254, ?y254⟩) hHeld ?r254
          case h254 => first | (simp only [List.getElem?_toArray, List.getElem?_cons_zero, List.getElem?_cons_succ]; done) | (simp only [List.getElem?_toArray, List.getElem?_cons_zero, List.getElem?_cons_succ]; exact rfl)
          case q254 => exact fun _ _ _ h => h
          case w254 => rfl
          case y254 =>
            intro w hSw
            (try dsimp only at hSw)
            obtain ⟨hS1, hS2⟩ := hSw
            go_simp
            try with_reducible rfl
          try simp only [Act.put, List.setIfInBounds_toArray, List.set_cons_zero, List.set_cons_succ]
          refine wpAnyH_take (i := 18) (oi := ?oi255) (v := ?vi255) ?h255 (by kernel_rfl) (by kernel_rfl) (by kernel_rfl) ?q255 (Or.inl ⟨?w255, ?y255⟩) hHeld ?r255
          case h255 => first | (simp only [List.getElem?_toArray, List.getElem?_cons_zero, List.getElem?_cons_succ]; done) | (simp only [List.getElem?_toArray, List.getElem?_cons_zero, List.getElem?_cons_succ]; exact rfl)
          case q255 => exact fun _ _ _ h => h
          case w255 => rfl
          case y255 =>
            intro w hSw
            (try dsimp only at hSw)
            obtain ⟨hS1, hS2⟩ := hSw
            go_simp
            try with_reducible rfl
          try simp only [Act.put, List.setIfInBounds_toArray, List.set_cons_zero, List.set_cons_succ]
          refine wpAnyH_take (i := 19) (oi := ?oi256) (v := ?vi256) ?h256 (by kernel_rfl) (by kernel_rfl) (by kernel_rfl) ?q256 (Or.inl ⟨?w256, ?y256⟩) hHeld ?r256
          case h256 => first | (simp only [List.getElem?_toArray, List.getElem?_cons_zero, List.getElem?_cons_succ]; done) | (simp only [List.getElem?_toArray, List.getElem?_cons_zero, List.getElem?_cons_succ]; exact rfl)
          case q256 => exact fun _ _ _ h => h
          case w256 => rfl
          case y256 =>
            intro w hSw
            (try dsimp only at hSw)
            obtain ⟨hS1, hS2⟩ := hSw
            go_simp
            try with_reducible rfl
          try simp only [Act.put, List.setIfInBounds_toArray, List.set_cons_zero, List.set_cons_succ]
          refine wpAnyH_take (i := 20) (oi := ?oi257) (v := ?vi257) ?h257 (by kernel_rfl) (by kernel_rfl) (by kernel_rfl) ?q257 (Or.inl ⟨?w257, ?y257⟩) hHeld ?r257
          case h257 => first | (simp only [List.getElem?_toArray, List.getElem?_cons_zero, List.getElem?_cons_succ]; done) | (simp only [List.getElem?_toArray, List.getElem?_cons_zero, List.getElem?_cons_succ]; exact rfl)
          case q257 => exact fun _ _ _ h => h
          case w257 => rfl
          case y257 =>
            intro w hSw
            (try dsimp only at hSw)
            obtain ⟨hS1, hS2⟩ := hSw
            go_simp
            try with_reducible rfl
          try simp only [Act.put, List.setIfInBounds_toArray, List.set_cons_zero, List.set_cons_succ]
          refine wpAnyH_take (i := 21) (oi := ?oi258) (v := ?vi258) ?h258 (by kernel_rfl) (by kernel_rfl) (by kernel_rfl) ?q258 (Or.inl ⟨?w258, ?y258⟩) hHeld ?r258
          case h258 => first | (simp only [List.getElem?_toArray, List.getElem?_cons_zero, List.getElem?_cons_succ]; done) | (simp only [List.getElem?_toArray, List.getElem?_cons_zero, List.getElem?_cons_succ]; exact rfl)
          case q258 => exact fun _ _ _ h => h
          case w258 => rfl
          case y258 =>
            intro w hSw
            (try dsimp only at hSw)
            obtain ⟨hS1, hS2⟩ := hSw
            go_simp
            try with_reducible rfl
          try simp only [Act.put, List.setIfInBounds_toArray, List.set_cons_zero, List.set_cons_succ]
          refine wpAnyH_ready (rs := [15]) (by kernel_rfl) (by simp) ?_
          refine AllReadyH.cons (o := ?ob259) ?hb259 (fun K hK => ?_) AllReadyH.nil
          case hb259 => first | (simp only [List.getElem?_toArray, List.getElem?_cons_zero, List.getElem?_cons_succ]; done) | (simp only [List.getElem?_toArray, List.getElem?_cons_zero, List.getElem?_cons_succ]; exact rfl)
          go_simp
          go_at_call 23
          refine HB.out.mono ?_
          rintro e wB ⟨v2, rfl, hNB⟩
          have hf2 : Fp Non w wB := hR.out.1.fp.drew.then hNB.fp
          have s2 := hNB.sl
          obtain ⟨vao, vlen, vcap, rfl⟩ := hNB.shape3
          have k2 : (convert 22 9 (.slice vao vlen vcap)).run Tryz.prog wB = .ok (.string (B s.cur)) wB := conv_sl _ _ _ s2
          have k3 : wB.cell? ⟨pb, 0, none⟩ = some (.slice (some ⟨p'.g, 0, none⟩) s.cur.length p'.gc) ∧ (convert 22 9 (.slice (some ⟨p'.g, 0, none⟩) s.cur.length p'.gc)).run Tryz.prog wB = .ok (.string (B s.cur)) wB := ⟨hNB.fp.cell HA.out.2 (fun h => h), conv_sl _ _ _ (HA.out.1.keep hNB.fp (fun _ _ h => h))⟩
          have HFIN := Lib.hid hf2
          clear hNB hf2 s2 hHeld k1
          go_wp2_with fail
          refine hK.out _ _ k3 (fun hHeld => ?_)
          clear hK K
          try simp only [Act.put, List.setIfInBounds_toArray, List.set_cons_zero, List.set_cons_succ]
          refine wpAnyH_ready (rs := [16]) (by kernel_rfl) (by simp) ?_
          refine AllReadyH.cons (o := ?ob260) ?hb260 (fun K hK => ?_) AllReadyH.nil
          case hb260 => first | (simp only [List.getElem?_toArray, List.getElem?_cons_zero, List.getElem?_cons_succ]; done) | (simp only [List.getElem?_toArray, List.getElem?_cons_zero, List.getElem?_cons_succ]; exact rfl)
          go_simp
          refine hK.out _ _ k3 (fun hHeld => ?_)
          clear hK K
          try simp only [Act.put, List.setIfInBounds_toArray, List.set_cons_zero, List.set_cons_succ]
          refine wpAnyH_take (i := 22) (oi := ?oi261) (v := ?vi261) ?h261 (by kernel_rfl) (by kernel_rfl) (by kernel_rfl) ?q261 (Or.inl ⟨?w261, ?y261⟩) hHeld ?r261
          case h261 => first | (simp only [List.getElem?_toArray, List.getElem?_cons_zero, List.getElem?_cons_succ]; done) | (simp only [List.getElem?_toArray, List.getElem?_cons_zero, List.getElem?_cons_succ]; exact rfl)
          case q261 => exact fun _ _ _ h => h
          case w261 => rfl
          case y261 =>
            intro w hSw
            (try dsimp only at hSw)
            obtain ⟨hS1, hS2⟩ := hSw
            go_simp
            try with_reducible rfl
          try simp only [Act.put, List.setIfInBounds_toArray, List.set_cons_zero, List.set_cons_succ]
          refine wpAnyH_take (i := 23) (oi := ?oi262) (v := ?vi262) ?h262 (by kernel_rfl) (by kernel_rfl) (by kernel_rfl) ?q262 (Or.inl ⟨?w262, ?y262⟩) hHeld ?r262
          case h262 => first | (simp only [List.getElem?_toArray, List.getElem?_cons_zero, List.getElem?_cons_succ]; done) | (simp only [List.getElem?_toArray, List.getElem?_cons_zero, List.getElem?_cons_succ]; exact rfl)
          case q262 => exact fun _ _ _ h => h
          case w262 => rfl
          case y262 =>
            intro w hSw
            (try dsimp only at hSw)
            obtain ⟨hS1, hS2⟩ := hSw
            go_simp
            try with_reducible rfl
          try simp only [Act.put, List.setIfInBounds_toArray, List.set_cons_zero, List.set_cons_succ]
          refine wpAnyH_take (i := 24) (oi := ?oi263) (v := ?vi263) ?h263 (by kernel_rfl) (by kernel_rfl) (by kernel_rfl) ?q263 (Or.inl ⟨?w263, ?y263⟩) hHeld ?r263
          case h263 => first | (simp only [List.getElem?_toArray, List.getElem?_cons_zero, List.getElem?_cons_succ]; done) | (simp only [List.getElem?_toArray, List.getElem?_cons_zero, List.getElem?_cons_succ]; exact rfl)
          case q263 => exact fun _ _ _ h => h
          case w263 => rfl
          case y263 =>
            intro w hSw
            (try dsimp only at hSw)
            obtain ⟨hS1, hS2⟩ := hSw
            go_simp
            try with_reducible rfl
          try simp only [Act.put, List.setIfInBounds_toArray, List.set_cons_zero, List.set_cons_succ]
          refine wpAnyH_done (by kernel_rfl) ?_ _
          refine NoPanic.normal ?_
          go_wp2
          go_ret
          exact ⟨rfl, HFIN.out⟩
        · subst ew ev
          clear hL
          have slB := (hR.out.1.r.cur.sl hR.out.1.r.cap.1.1 hR.out.1.r.cap.1.2).keep (Fp.drew (Fp.refl Non wr)) (fun _ _ h => h)
          have k1 : wr.drew.cell? ⟨pb, 0, none⟩ = some (.slice (some ⟨p'.g, 0, none⟩) s.cur.length p'.gc) ∧ (convert 22 9 (.slice (some ⟨p'.g, 0, none⟩) s.cur.length p'.gc)).run Tryz.prog wr.drew = .ok (.string (B s.cur)) wr.drew := ⟨HD0.out, conv_sl _ _ _ slB⟩
          have HB := Lib.hid (Bytes_c (hR.out.1.d.keep (Fp.drew (Fp.refl Non wr)) (fun _ _ h => h)))
          have HA := Lib.hid (And.intro slB HD0.out)
          clear slB
          go_wp2_with fail
          refine wp_region_noPanic ?_
          refine wp_region_held_drew (S := (fun w' => w'.cell? ⟨pb, 0, none⟩ = some (.slice (some ⟨p'.g, 0, none⟩) s.cur.length p'.gc) ∧ (convert 22 9 (.slice (some ⟨p'.g, 0, none⟩) s.cur.length p'.gc)).run Tryz.prog w' = .ok (.string (B s.cur)) w')) (by kernel_rfl) ?_ (fun hHeld => ?_)
          · exact k1
          refine wpAnyH_take (i := 0) (oi := ?oi264) (v := ?vi264) ?h264 (by kernel_rfl) (by kernel_rfl) (by kernel_rfl) ?q264 (Or.inl ⟨?w264, ?y264⟩) hHeld ?r264
          case h264 => first | (simp only [List.getElem?_toArray, List.getElem?_cons_zero]; done) | (simp only [List.getElem?_toArray, List.getElem?_cons_zero]; exact rfl)
          case q264 => exact fun _ _ _ h => h
          case w264 => rfl
          case y264 =>
            intro w hSw
            (try dsimp only at hSw)
            obtain ⟨hS1, hS2⟩ := hSw
            go_simp
            try with_reducible rfl
          try simp only [Act.put, List.setIfInBounds_toArray, List.set_cons_zero, List.set_cons_succ]
          refine wpAnyH_take (i := 1) (oi := ?oi265) (v := ?vi265) ?h265 (by kernel_rfl) (by kernel_rfl) (by kernel_rfl) ?q265 (Or.inl ⟨?w265, ?y265⟩) hHeld ?r265
          case h265 => first | (simp only [List.getElem?_toArray, List.getElem?_cons_zero, List.getElem?_cons_succ]; done) | (simp only [List.getElem?_toArray, List.getElem?_cons_zero, List.getElem?_cons_succ]; exact rfl)
          case q265 => exact fun _ _ _ h => h
          case w265 => rfl
          case y265 =>
            intro w hSw
            (try dsimp only at hSw)
            obtain ⟨hS1, hS2⟩ := hSw
            go_simp
            try with_reducible rfl
          try simp only [Act.put, List.setIfInBounds_toArray, List.set_cons_zero, List.set_cons_succ]
          refine wpAnyH_take (i := 2) (oi := ?oi266) (v := ?vi266) ?h266 (by kernel_rfl) (by kernel_rfl) (by kernel_rfl) ?q266 (Or.inl ⟨?w266, ?y266⟩) hHeld ?r266
          case h266 => first | (simp only [List.getElem?_toArray, List.getElem?_cons_zero, List.getElem?_cons_succ]; done) | (simp only [List.getElem?_toArray, List.getElem?_cons_zero, List.getElem?_cons_succ]; exact rfl)
          case q266 => exact fun _ _ _ h => h
          case w266 => rfl
          case y266 =>
            intro w hSw
            (try dsimp only at hSw)
            obtain ⟨hS1, hS2⟩ := hSw
            go_simp
            try with_reducible rfl
          try simp only [Act.put, List.setIfInBounds_toArray, List.set_cons_zero, List.set_cons_succ]
          refine wpAnyH_take (i := 3) (oi := ?oi267) (v := ?vi267) ?h267 (by kernel_rfl) (by kernel_rfl) (by kernel_rfl) ?q267 (Or.inl ⟨?w267, ?y267⟩) hHeld ?r267
          case h267 => first | (simp only [List.getElem?_toArray, List.getElem?_cons_zero, List.getElem?_cons_succ]; done) | (simp only [List.getElem?_toArray, List.getElem?_cons_zero, List.getElem?_cons_succ]; exact rfl)
          case q267 => exact fun _ _ _ h => h
          case w267 => rfl
          case y267 =>
            intro w hSw
            (try dsimp only at hSw)
            obtain ⟨hS1, hS2⟩ := hSw
            go_simp
            try with_reducible rfl
          try simp only [Act.put, List.setIfInBounds_toArray, List.set_cons_zero, List.set_cons_succ]
          refine wpAnyH_take (i := 4) (oi := ?oi268) (v := ?vi268) ?h268 (by kernel_rfl) (by kernel_rfl) (by kernel_rfl) ?q268 (Or.inl ⟨?w268, ?y268⟩) hHeld ?r268
          case h268 => first | (simp only [List.getElem?_toArray, List.getElem?_cons_zero, List.getElem?_cons_succ]; done) | (simp only [List.getElem?_toArray, List.getElem?_cons_zero, List.getElem?_cons_succ]; exact rfl)
          case q268 => exact fun _ _ _ h => h
          case w268 => rfl
          case y268 =>
            intro w hSw
            (try dsimp only at hSw)
            obtain ⟨hS1, hS2⟩ := hSw
            go_simp
            try with_reducible rfl
          try simp only [Act.put, List.setIfInBounds_toArray, List.set_cons_zero, List.set_cons_succ]
          refine wpAnyH_take (i := 5) (oi := ?oi269) (v := ?vi269) ?h269 (by kernel_rfl) (by kernel_rfl) (by kernel_rfl) ?q269 (Or.inl ⟨?w269, ?y269⟩) hHeld ?r269
          case h269 => first | (simp only [List.getElem?_toArray, List.getElem?_cons_zero, List.getElem?_cons_succ]; done) | (simp only [List.getElem?_toArray, List.getElem?_cons_zero, List.getElem?_cons_succ]; exact rfl)
          case q269 => exact fun _ _ _ h => h
          case w269 => rfl
          case y269 =>
            intro w hSw
            (try dsimp only at hSw)
            obtain ⟨hS1, hS2⟩ := hSw
            go_simp
            try with_reducible rfl
          try simp only [Act.put, List.setIfInBounds_toArray, List.set_cons_zero, List.set_cons_succ]
          refine wpAnyH_take (i := 6) (oi := ?oi270) (v := ?vi270) ?h270 (by kernel_rfl) (by kernel_rfl) (by kernel_rfl) ?q270 (Or.inl ⟨?w270, ?y270⟩) hHeld ?r270
          case h270 => first | (simp only [List.getElem?_toArray, List.getElem?_cons_zero, List.getElem?_cons_succ]; done) | (simp only [List.getElem?_toArray, List.getElem?_cons_zero, List.getElem?_cons_succ]; exact rfl)
          case q270 => exact fun _ _ _ h => h
          case w270 => rfl
          case y270 =>
            intro w hSw
            (try dsimp only at hSw)
            obtain ⟨hS1, hS2⟩ := hSw
            go_simp
            try with_reducible rfl
          try simp only [Act.put, List.setIfInBounds_toArray, List.set_cons_zero, List.set_cons_succ]
          refine wpAnyH_take (i := 7) (oi := ?oi271) (v := ?vi271) ?h271 (by kernel_rfl) (by kernel_rfl) (by kernel_rfl) ?q271 (Or.inl ⟨?w271, ?y271⟩) hHeld ?r271
          case h271 => first | (simp only [List.getElem?_toArray, List.getElem?_cons_zero, List.getElem?_cons_succ]; done) | (simp only [List.getElem?_toArray, List.getElem?_cons_zero, List.getElem?_cons_succ]; exact rfl)
          case q271 => exact fun _ _ _ h => h
          case w271 => rfl
          case y271 =>
            intro w hSw
            (try dsimp only at hSw)
            obtain ⟨hS1, hS2⟩ := hSw
            go_simp
            try with_reducible rfl
          try simp only [Act.put, List.setIfInBounds_toArray, List.set_cons_zero, List.set_cons_succ]
          refine wpAnyH_take (i := 8) (oi := ?oi272) (v := ?vi272) ?h272 (by kernel_rfl) (by kernel_rfl) (by kernel_rfl) ?q272 (Or.inl ⟨?w272, ?y272⟩) hHeld ?r272
          case h272 => first | (simp only [List.getElem?_toArray, List.getElem?_cons_zero, List.getElem?_cons_succ]; done) | (simp only [List.getElem?_toArray, List.getElem?_cons_zero, List.getElem?_cons_succ]; exact rfl)
          case q272 => exact fun _ _ _ h => h
          case w272 => rfl
          case y272 =>
            intro w hSw
            (try dsimp only at hSw)
            obtain ⟨hS1, hS2⟩ := hSw
            go_simp
            try with_reducible rfl
          try simp only [Act.put, List.setIfInBounds_toArray, List.set_cons_zero, List.set_cons_succ]
          refine wpAnyH_take (i := 9) (oi := ?oi273) (v := ?vi273) ?h273 (by kernel_rfl) (by kernel_rfl) (by kernel_rfl) ?q273 (Or.inl ⟨?w273, ?y273⟩) hHeld ?r273
          case h273 => first | (simp only [List.getElem?_toArray, List.getElem?_cons_zero, List.getElem?_cons_succ]; done) | (simp only [List.getElem?_toArray, List.getElem?_cons_zero, List.getElem?_cons_succ]; exact rfl)
          case q273 => exact fun _ _ _ h => h
          case w273 => rfl
          case y273 =>
            intro w hSw
            (try dsimp only at hSw)
            obtain ⟨hS1, hS2⟩ := hSw
            go_simp
            try with_reducible rfl
          try simp only [Act.put, List.setIfInBounds_toArray, List.set_cons_zero, List.set_cons_succ]
          refine wpAnyH_take (i := 10) (oi := ?oi274) (v := ?vi274) ?h274 (by kernel_rfl) (by kernel_rfl) (by kernel_rfl) ?q274 (Or.inl ⟨?w274, ?y274⟩) hHeld ?r274
          case h274 => first | (simp only [List.getElem?_toArray, List.getElem?_cons_zero, List.getElem?_cons_succ]; done) | (simp only [List.getElem?_toArray, List.getElem?_cons_zero, List.getElem?_cons_succ]; exact rfl)
          case q274 => exact fun _ _ _ h => h
          case w274 => rfl
          case y274 =>
            intro w hSw
            (try dsimp only at hSw)
            obtain ⟨hS1, hS2⟩ := hSw
            go_simp
            try with_reducible rfl
          try simp only [Act.put, List.setIfInBounds_toArray, List.set_cons_zero, List.set_cons_succ]
          refine wpAnyH_take (i := 11) (oi := ?oi275) (v := ?vi275) ?h275 (by kernel_rfl) (by kernel_rfl) (by kernel_rfl) ?q275 (Or.inl ⟨?w275, ?y275⟩) hHeld ?r275
          case h275 => first | (simp only [List.getElem?_toArray, List.getElem?_cons_zero, List.getElem?_cons_succ]; done) | (simp only [List.getElem?_toArray, List.getElem?_cons_zero, List.getElem?_cons_succ]; exact rfl)
          case q275 => exact fun _ _ _ h => h
          case w275 => rfl
          case y275 =>
            intro w hSw
            (try dsimp only at hSw)
            obtain ⟨hS1, hS2⟩ := hSw
            go_simp
            try with_reducible rfl
          try simp only [Act.put, List.setIfInBounds_toArray, List.set_cons_zero, List.set_cons_succ]
          refine wpAnyH_take (i := 12) (oi := ?oi276) (v := ?vi276) ?h276 (by kernel_rfl) (by kernel_rfl) (by kernel_rfl) ?q276 (Or.inl ⟨?w276, ?y276⟩) hHeld ?r276
          case h276 => first | (simp only [List.getElem?_toArray, List.getElem?_cons_zero, List.getElem?_cons_succ]; done) | (simp only [List.getElem?_toArray, List.getElem?_cons_zero, List.getElem?_cons_succ]; exact rfl)
          case q276 => exact fun _ _ _ h => h
          case w276 => rfl
          case y276 =>
            intro w hSw
            (try dsimp only at hSw)
            obtain ⟨hS1, hS2⟩ := hSw
            go_simp
            try with_reducible rfl
          try simp only [Act.put, List.setIfInBounds_toArray, List.set_cons_zero, List.set_cons_succ]
          refine wpAnyH_take (i := 13) (oi := ?oi277) (v := ?vi277) ?h277 (by kernel_rfl) (by kernel_rfl) (by kernel_rfl) ?q277 (Or.inl ⟨?w277, ?y277⟩) hHeld ?r277
          case h277 => first | (simp only [List.getElem?_toArray, List.getElem?_cons_zero, List.getElem?_cons_succ]; done) | (simp only [List.getElem?_toArray, List.getElem?_cons_zero, List.getElem?_cons_succ]; exact rfl)
          case q277 => exact fun _ _ _ h => h
          case w277 => rfl
          case y277 =>
            intro w hSw
            (try dsimp only at hSw)
            obtain ⟨hS1, hS2⟩ := hSw
            go_simp
            try with_reducible rfl
          try simp only [Act.put, List.setIfInBounds_toArray, List.set_cons_zero, List.set_cons_succ]
          refine wpAnyH_take (i := 14) (oi := ?oi278) (v := ?vi278) ?h278 (by kernel_rfl) (by kernel_rfl) (by kernel_rfl) ?q278 (Or.inl ⟨?w278, ?y278⟩) hHeld ?r278
          case h278 => first | (simp only [List.getElem?_toArray, List.getElem?_cons_zero, List.getElem?_cons_succ]; done) | (simp only [List.getElem?_toArray, List.getElem?_cons_zero, List.getElem?_cons_succ]; exact rfl)
          case q278 => exact fun _ _ _ h => h
          case w278 => rfl
          case y278 =>
            intro w hSw
            (try dsimp only at hSw)
            obtain ⟨hS1, hS2⟩ := hSw
            go_simp
            try with_reducible rfl
          try simp only [Act.put, List.setIfInBounds_toArray, List.set_cons_zero, List.set_cons_succ]
          refine wpAnyH_take (i := 17) (oi := ?oi279) (v := ?vi279) ?h279 (by kernel_rfl) (by kernel_rfl) (by kernel_rfl) ?q279 (Or.inl ⟨?w279, ?y279⟩) hHeld ?r279
          case h279 => first | (simp only [List.getElem?_toArray, List.getElem?_cons_zero, List.getElem?_cons_succ]; done) | (simp only [List.getElem?_toArray, List.getElem?_cons_zero, List.getElem?_cons_succ]; exact rfl)
          case q279 => exact fun _ _ _ h => h
          case w279 => rfl
          case y279 =>
            intro w hSw
            (try dsimp only at hSw)
            obtain ⟨hS1, hS2⟩ := hSw
            go_simp
            try with_reducible rfl
          try simp only [Act.put, List.setIfInBounds_toArray, List.set_cons_zero, List.set_cons_succ]
          refine wpAnyH_take (i := 18) (oi := ?oi280) (v := ?vi280) ?h280 (by kernel_rfl) (by kernel_rfl) (by kernel_rfl) ?q280 (Or.inl ⟨?w280, ?y280⟩) hHeld ?r280
          case h280 => first | (simp only [List.getElem?_toArray, List.getElem?_cons_zero, List.getElem?_cons_succ]; done) | (simp only [List.getElem?_toArray, List.getElem?_cons_zero, List.getElem?_cons_succ]; exact rfl)
          case q280 => exact fun _ _ _ h => h
          case w280 => rfl
          case y280 =>
            intro w hSw
            (try dsimp only at hSw)
            obtain ⟨hS1, hS2⟩ := hSw
            go_simp
            try with_reducible rfl
          try simp only [Act.put, List.setIfInBounds_toArray, List.set_cons_zero, List.set_cons_succ]
          refine wpAnyH_take (i := 19) (oi := ?oi281) (v := ?vi281) ?h281 (by kernel_rfl) (by kernel_rfl) (by kernel_rfl) ?q281 (Or.inl ⟨?w281, ?y281⟩) hHeld ?r281
          case h281 => first | (simp only [List.getElem?_toArray, List.getElem?_cons_zero, List.getElem?_cons_succ]; done) | (simp only [List.getElem?_toArray, List.getElem?_cons_zero, List.getElem?_cons_succ]; exact rfl)
          case q281 => exact fun _ _ _ h => h
          case w281 => rfl
          case y281 =>
            intro w hSw
            (try dsimp only at hSw)
            obtain ⟨hS1, hS2⟩ := hSw
            go_simp
            try with_reducible rfl
          try simp only [Act.put, List.setIfInBounds_toArray, List.set_cons_zero, List.set_cons_succ]
          refine wpAnyH_take (i := 20) (oi := ?oi282) (v := ?vi282) ?h282 (by kernel_rfl) (by kernel_rfl) (by kernel_rfl) ?q282 (Or.inl ⟨?w282, ?y282⟩) hHeld ?r282
          case h282 => first | (simp only [List.getElem?_toArray, List.getElem?_cons_zero, List.getElem?_cons_succ]; done) | (simp only [List.getElem?_toArray, List.getElem?_cons_zero, List.getElem?_cons_succ]; exact rfl)
          case q282 => exact fun _ _ _ h => h
          case w282 => rfl
          case y282 =>
            intro w hSw
            (try dsimp only at hSw)
            obtain ⟨hS1, hS2⟩ := hSw
            go_simp
            try with_reducible rfl
          try simp only [Act.put, List.setIfInBounds_toArray, List.set_cons_zero, List.set_cons_succ]
          refine wpAnyH_take (i := 21) (oi := ?oi283) (v := ?vi283) ?h283 (by kernel_rfl) (by kernel_rfl) (by kernel_rfl) ?q283 (Or.inl ⟨?w283, ?y283⟩) hHeld ?r283
          case h283 => first | (simp only [List.getElem?_toArray, List.getElem?_cons_zero, List.getElem?_cons_succ]; done) | (simp only [List.getElem?_toArray, List.getElem?_cons_zero, List.getElem?_cons_succ]; exact rfl)
          case q283 => exact fun _ _ _ h => h
          case w283 => rfl
          case y283 =>
            intro w hSw
            (try dsimp only at hSw)
            obtain ⟨hS1, hS2⟩ := hSw
            go_simp
            try with_reducible rfl
          try simp only [Act.put, List.setIfInBounds_toArray, List.set_cons_zero, List.set_cons_succ]
          refine wpAnyH_ready (rs := [15]) (by kernel_rfl) (by simp) ?_
          refine AllReadyH.cons (o := ?ob284) ?hb284 (fun K hK => ?_) AllReadyH.nil
          case hb284 => first | (simp only [List.getElem?_toArray, List.getElem?_cons_zero, List.getElem?_cons_succ]; done) | (simp only [List.getElem?_toArray, List.getElem?_cons_zero, List.getElem?_cons_succ]; exact rfl)
          go_simp
          go_at_call 23
          refine HB.out.mono ?_
          rintro e wB ⟨v2, rfl, hNB⟩
          have hf2 : Fp Non w wB := hR.out.1.fp.drew.then hNB.fp
          have s2 := hNB.sl
          obtain ⟨vao, vlen, vcap, rfl⟩ := hNB.shape3
          have k2 : (convert 22 9 (.slice vao vlen vcap)).run Tryz.prog wB = .ok (.string (B s.cur)) wB := conv_sl _ _ _ s2
          have k3 : wB.cell? ⟨pb, 0, none⟩ = some (.slice (some ⟨p'.g, 0, none⟩) s.cur.length p'.gc) ∧ (convert 22 9 (.slice (some ⟨p'.g, 0, none⟩) s.cur.length p'.gc)).run Tryz.prog wB = .ok (.string (B s.cur)) wB := ⟨hNB.fp.cell HA.out.2 (fun h => h), conv_sl _ _ _ (HA.out.1.keep hNB.fp (fun _ _ h => h))⟩
          have HFIN := Lib.hid hf2
          clear hNB hf2 s2 hHeld k1
          go_wp2_with fail
          refine hK.out _ _ k3 (fun hHeld => ?_)
          clear hK K
          try simp only [Act.put, List.setIfInBounds_toArray, List.set_cons_zero, List.set_cons_succ]
          refine wpAnyH_ready (rs := [16]) (by kernel_rfl) (by simp) ?_
          refine AllReadyH.cons (o := ?ob285) ?hb285 (fun K hK => ?_) AllReadyH.nil
          case hb285 => first | (simp only [List.getElem?_toArray, List.getElem?_cons_zero, List.getElem?_cons_succ]; done) | (simp only [List.getElem?_toArray, List.getElem?_cons_zero, List.getElem?_cons_succ]; exact rfl)
          go_simp
          refine hK.out _ _ k3 (fun hHeld => ?_)
          clear hK K
          try simp only [Act.put, List.setIfInBounds_toArray, List.set_cons_zero, List.set_cons_succ]
          refine wpAnyH_take (i := 22) (oi := ?oi286) (v := ?vi286) ?h286 (by kernel_rfl) (by kernel_rfl) (by kernel_rfl) ?q286 (Or.inl ⟨?w286, ?y286⟩) hHeld ?r286
          case h286 => first | (simp only [List.getElem?_toArray, List.getElem?_cons_zero, List.getElem?_cons_succ]; done) | (simp only [List.getElem?_toArray, List.getElem?_cons_zero, List.getElem?_cons_succ]; exact rfl)
          case q286 => exact fun _ _ _ h => h
          case w286 => rfl
          case y286 =>
            intro w hSw
            (try dsimp only at hSw)
            obtain ⟨hS1, hS2⟩ := hSw
            go_simp
            try with_reducible rfl
          try simp only [Act.put, List.setIfInBounds_toArray, List.set_cons_zero, List.set_cons_succ]
          refine wpAnyH_take (i := 23) (oi := ?oi287) (v := ?vi287) ?h287 (by kernel_rfl) (by kernel_rfl) (by kernel_rfl) ?q287 (Or.inl ⟨?w287, ?y287⟩) hHeld ?r287
          case h287 => first | (simp only [List.getElem?_toArray, List.getElem?_cons_zero, List.getElem?_cons_succ]; done) | (simp only [List.getElem?_toArray, List.getElem?_cons_zero, List.getElem?_cons_succ]; exact rfl)
          case q287 => exact fun _ _ _ h => h
          case w287 => rfl
          case y287 =>
            intro w hSw
            (try dsimp only at hSw)
            obtain ⟨hS1, hS2⟩ := hSw
            go_simp
            try with_reducible rfl
          try simp only [Act.put, List.setIfInBounds_toArray, List.set_cons_zero, List.set_cons_succ]
          refine wpAnyH_take (i := 24) (oi := ?oi288) (v := ?vi288) ?h288 (by kernel_rfl) (by kernel_rfl) (by kernel_rfl) ?q288 (Or.inl ⟨?w288, ?y288⟩) hHeld ?r288
          case h288 => first | (simp only [List.getElem?_toArray, List.getElem?_cons_zero, List.getElem?_cons_succ]; done) | (simp only [List.getElem?_toArray, List.getElem?_cons_zero, List.getElem?_cons_succ]; exact rfl)
          case q288 => exact fun _ _ _ h => h
          case w288 => rfl
          case y288 =>
            intro w hSw
            (try dsimp only at hSw)
            obtain ⟨hS1, hS2⟩ := hSw
            go_simp
            try with_reducible rfl
          try simp only [Act.put, List.setIfInBounds_toArray, List.set_cons_zero, List.set_cons_succ]
          refine wpAnyH_done (by kernel_rfl) ?_ _
          refine NoPanic.normal ?_
          go_wp2
          go_ret
          exact ⟨rfl, HFIN.out⟩

theorem WalPlays_c (v : Value) (l : Bs) (qv : Value) (q : List Oq) (w : World) (hl : Sl w v l) (hq : Oqs w w.heap.size qv q) :
    Calls Tryz.prog 3 #[v, qv] w fun e w' => e = .returned (.bool true) ∧ Fp Non w w' := by
  by_cases h5 : l.length ≤ 5000
  · by_cases h : 1 ≤ l.length / 16 ∧ l.length / 16 ≤ 4096 ∧ l.length % 16 = 0
    · exact Plays_some v l qv q w hl hq (l.length / 16) h.1 h.2.1 (by omega) h5
    · exact Plays_none v l qv q w hl hq h5 h
  · exact Plays_long v l qv q w hl hq (by omega)
end Go.Proofs.YtankfmlafmjaeaaGreat
