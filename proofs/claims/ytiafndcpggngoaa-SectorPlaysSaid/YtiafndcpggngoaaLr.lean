/- SectorReads: the law's walk. -/
import Derived.Test.YtiafndcpggngoaaHd
namespace Go.Proofs.Ytiafndcpggngoaa
open Go.RowKit Pm

theorem conv_sl (w : World) (v : Value) (l : Bs) (h : Sl w v l) : (convert 22 9 v).run Try.prog w = .ok (.string (B l)) w := by
  obtain ⟨ao, cap, rfl, h1, h2, h3⟩ := h.ex
  rcases h3 with ⟨rfl, rfl⟩ | ⟨g, o, rfl, hg, hc⟩
  · have h0 : l = [] := List.eq_nil_of_length_eq_zero (by omega)
    subst h0
    rw [run_convert_bytes_nil w 22 5 Try.underlying22 Try.underlying5 _ _ 9 Try.underlying9]
    rfl
  · rw [run_convert_bytes_arg w 22 5 Try.underlying22 Try.underlying5 g o l.length cap (l.map fun x => (x.toNat : Int)) (by simp) ?_ 9 Try.underlying9]
    · have : strOfNums (l.map fun x => (x.toNat : Int)) = B l := by
        apply ByteArray.ext; apply Array.toList_inj.1
        rw [strOfNums_data]
        show _ = l
        rw [List.map_map]
        conv => rhs; rw [← List.map_id l]
        apply List.map_congr_left
        intro x _
        simp
      rw [this]
    · intro i hi
      rw [hc i hi]
      simp [List.getD, hi]

theorem small (p : Nat) (h : p ≤ 1000000) : wrap64 (p : Int) = (p : Int) ∧ IntKind.i64.wrap (p : Int) = (p : Int) := by
  constructor
  · unfold wrap64; omega
  · rw [IntKind.wrap_i64]; omega
theorem Sl.below {w : World} {v : Value} {l : Bs} (h : Sl w v l) : ∀ k, v.ownBlock = some k → k < w.heap.size := by
  obtain ⟨ao, cap, rfl, h1, h2, h3⟩ := h.ex
  rcases h3 with ⟨rfl, rfl⟩ | ⟨g, o, rfl, hg, hc⟩
  · intro k hk; cases hk
  · intro k hk; simp [Value.ownBlock] at hk; omega
theorem Sl.upto {w : World} {g o len cap : Nat} {l : Bs} (h : Sl w (.slice (some ⟨g, o, none⟩) len cap) l) (n : Nat) (hn : n ≤ l.length) : Sl w (.slice (some ⟨g, o, none⟩) n cap) (l.take n) := by
  obtain ⟨ao, cap', e, h1, h2, h3⟩ := h.ex
  injection e with e1 e2 e3
  subst e1 e2 e3
  have hl : (l.take n).length = n := by rw [List.length_take]; omega
  refine ⟨_, cap, by rw [hl], by rw [hl]; omega, h2, ?_⟩
  rcases h3 with ⟨h0, _⟩ | ⟨g2, o2, e, hg, hc⟩
  · cases h0
  · injection e with e
    injection e with e1 e2
    subst e1 e2
    refine .inr ⟨g, o, rfl, hg, fun j hj => ?_⟩
    rw [hc j (by omega)]
    simp

theorem pw_new (l : Bs) : pw (dOf l) = dOf l := by simp [pw, dOf]
theorem spl_take (l : Bs) (a : Nat) (b : Bs) (h : a ≤ l.length) : (spl l a b).take a = l.take a := by
  unfold spl; rw [List.take_append_of_le_length (by simp; omega), List.take_of_length_le (List.length_take_le _ _)]
theorem spl_drop (l : Bs) (a : Nat) (b : Bs) (h : a + b.length ≤ l.length) : (spl l a b).drop (a + b.length) = l.drop (a + b.length) := by
  unfold spl
  rw [← List.append_assoc, List.drop_append_of_le_length (by simp; omega), List.drop_eq_nil_of_le (by simp; omega), List.nil_append]
theorem spl_mid (l : Bs) (a : Nat) (b : Bs) (h : a + b.length ≤ l.length) : ((spl l a b).drop a).take b.length = b := by
  unfold spl
  rw [List.drop_append_of_le_length (by simp; omega), List.drop_eq_nil_of_le (List.length_take_le _ _), List.nil_append, List.take_append_of_le_length (Nat.le_refl _), List.take_of_length_le (Nat.le_refl _)]

abbrev FR : Nat := 8

set_option maxHeartbeats 1000000 in
theorem Reads_none (v : Value) (l : Bs) (a : Int) (bv : Value) (w : World) (hl : Sl w v l) (h : ¬ (1 ≤ l.length / 16 ∧ l.length / 16 ≤ 4096 ∧ l.length % 16 = 0)) :
    Calls Try.prog 8 #[v, .int .u16 a, bv] w fun e w' => e = .returned (.bool true) ∧ Fp Non w w' := by
  have HL := Lib.hid (And.intro hl h); clear hl h
  go_enter Try.func8, Try.ntmps8
  go_wp2_with fail
  refine (head_c w).mono ?_
  rintro e w1 ⟨rfl, hf⟩
  have hn := Of_none w1 v l (HL.out.1.keep hf (fun _ _ h => h)) HL.out.2
  have HF := Lib.hid (And.intro hf hn); clear hf hn
  go_wp2_with fail
  refine HF.out.2.mono ?_
  rintro e w2 ⟨rfl, rfl⟩
  go_wp2
  go_ret
  exact ⟨rfl, HF.out.1⟩

set_option maxHeartbeats 1000000 in
theorem Reads_long (v : Value) (l : Bs) (a : Int) (bv : Value) (bl : Bs) (w : World) (hl : Sl w v l) (hb : Sl w bv bl) (n : Nat) (h1 : 1 ≤ n) (h2 : n ≤ 4096) (hln : l.length = n * 16) (h : 5000 < l.length ∨ (l.length ≤ 5000 ∧ 5000 < bl.length)) :
    Calls Try.prog 8 #[v, .int .u16 a, bv] w fun e w' => e = .returned (.bool true) ∧ Fp Non w w' := by
  obtain ⟨bao, bcap, rfl, _, _, _⟩ := hb.ex
  obtain ⟨ao, cap, hv, _, _, _⟩ := hl.ex
  have HL := Lib.hid hl
  have HN := Lib.hid (And.intro h1 (And.intro h2 hln))
  rw [hv]
  rcases h with h | ⟨h, h'⟩
  · have q1 : ((5000 : Int) < (l.length : Int)) = True := eq_true (by omega)
    clear hl hb h h1 h2 hln
    go_enter Try.func8, Try.ntmps8
    go_wp2_with fail
    refine (head_c w).mono ?_
    rintro e w1 ⟨rfl, hf⟩
    have hn := Of_c w1.heap.size w1 v l (HL.out.keep hf (fun _ _ h => h)) n HN.out.1 HN.out.2.1 HN.out.2.2 (Nat.le_refl _)
    rw [hv] at hn
    have HF := Lib.hid (And.intro hf hn); clear hf hn
    go_wp2_with fail
    refine HF.out.2.mono ?_
    rintro e w2 ⟨b, g, m, rfl, hd, hf2, _⟩
    have H2 := Lib.hid hf2; clear hf2 hd
    go_wp2
    go_ret
    exact ⟨rfl, HF.out.1.then H2.out⟩
  · have q1 : ((5000 : Int) < (l.length : Int)) = False := eq_false (by omega)
    have q2 : ((5000 : Int) < (bl.length : Int)) = True := eq_true (by omega)
    clear hl hb h h' h1 h2 hln
    go_enter Try.func8, Try.ntmps8
    go_wp2_with fail
    refine (head_c w).mono ?_
    rintro e w1 ⟨rfl, hf⟩
    have hn := Of_c w1.heap.size w1 v l (HL.out.keep hf (fun _ _ h => h)) n HN.out.1 HN.out.2.1 HN.out.2.2 (Nat.le_refl _)
    rw [hv] at hn
    have HF := Lib.hid (And.intro hf hn); clear hf hn
    go_wp2_with fail
    refine HF.out.2.mono ?_
    rintro e w2 ⟨b, g, m, rfl, hd, hf2, _⟩
    have H2 := Lib.hid hf2; clear hf2 hd
    go_wp2
    go_ret
    exact ⟨rfl, HF.out.1.then H2.out⟩

theorem Sl.from {w : World} {g o cap : Nat} {l : Bs} (h : Sl w (.slice (some ⟨g, o, none⟩) l.length cap) l) (n : Nat) (hn : n ≤ l.length) :
    Sl w (.slice (if cap = n then some ⟨g, o, none⟩ else some ⟨g, o + n, none⟩) (l.length - n) (cap - n)) (l.drop n) := by
  by_cases hc : cap = n
  · rw [if_pos hc]
    obtain ⟨ao, c, e, h1, h2, h3⟩ := h.ex
    injection e with e1 _ e3
    subst e1 e3
    have hl : l.drop n = [] := List.drop_eq_nil_of_le (by omega)
    rw [hl]
    rcases h3 with ⟨h0, _⟩ | ⟨g2, o2, e, hg, _⟩
    · cases h0
    · injection e with e
      injection e with e1 e2
      subst e1 e2
      exact ⟨some ⟨g, o, none⟩, cap - n, by simp; omega, by simp, by omega, .inr ⟨g, o, rfl, hg, fun j hj => by simp at hj⟩⟩
  · rw [if_neg hc]; exact h.drop n hn
/-- What is known once the disk was written, read, and its bytes taken. -/
structure ReadsAt (w w6 : World) (v bv xv av : Value) (l bl xl al : Bs) : Prop where
  fp : Fp Non w w6
  sl : Sl w6 v l
  sb : Sl w6 bv bl
  sx : Sl w6 xv xl
  sa : Sl w6 av al

attribute [local irreducible] wpStill

set_option maxHeartbeats 2000000 in
theorem Reads_some (v : Value) (l : Bs) (a k : Nat) (bv : Value) (bl : Bs) (w : World) (hl : Sl w v l) (hb : Sl w bv bl) (n : Nat) (h1 : 1 ≤ n) (h2 : n ≤ 4096) (hln : l.length = n * 16) (hL : l.length ≤ 5000) (hB : bl.length ≤ 5000) (ha : a ≤ 65535) (hk : k = a % (l.length + 20)) :
    Calls Try.prog 8 #[v, .int .u16 (a : Int), bv] w fun e w' => e = .returned (.bool true) ∧ Fp Non w w' := by
  obtain ⟨bao, bcap, hbv, hb1, hb2, hb3⟩ := hb.ex
  obtain ⟨ao, cap, hv, hc1, hc2, hc3⟩ := hl.ex
  unfold maxLen at hb2 hc2
  have HL := Lib.hid (And.intro hl hb)
  have HN := Lib.hid (And.intro h1 (And.intro h2 hln))
  have hkl : k < l.length + 20 := by rw [hk]; exact Nat.mod_lt _ (by omega)
  have t1 : ((a : Int)).tmod ((l.length : Int) + 20) = (k : Int) := by
    rw [Int.tmod_eq_emod_of_nonneg (by omega), hk]; simp
  have t2 : ((a : Int)) % ((l.length : Int) + 20) = (k : Int) := by
    rw [hk]; simp
  have q1 : ((5000 : Int) < (l.length : Int)) = False := eq_false (by omega)
  have q2 : ((5000 : Int) < (bl.length : Int)) = False := eq_false (by omega)
  have q3 : ((l.length : Int) + 20 = 0) = False := eq_false (by omega)
  rw [hv, hbv]
  have HX := Lib.hid (And.intro hk (And.intro hb3 hc3))
  clear hl hb h1 h2 hln hk hb3 hc3
  go_enter Try.func8, Try.ntmps8
  go_wp2_with fail
  refine (head_c w).mono ?_
  rintro e w1 ⟨rfl, hf⟩
  have hn := Of_c w1.heap.size w1 v l (HL.out.1.keep hf (fun _ _ h => h)) n HN.out.1 HN.out.2.1 HN.out.2.2 (Nat.le_refl _)
  rw [hv] at hn
  have HF := Lib.hid (And.intro hf hn); clear hf hn
  go_wp2_with fail
  refine HF.out.2.mono ?_
  rintro e w2 ⟨b, g, m, rfl, hd, hf2, hown⟩
  have hs1 := HF.out.1.size
  have hbw := Write_c hd (k : Int) (by omega) bv bl ((HL.out.2.keep HF.out.1 (fun _ _ h => h)).keep hf2 (fun _ _ h => h)).zero (fun _ j hj ho => by have := HL.out.2.below j hj; have := hown j ho; omega) (by show (0 : Nat) ≤ _; omega)
  rw [hbv] at hbw
  have HD := Lib.hid (And.intro hd (And.intro hf2 hown))
  have HW := Lib.hid hbw
  clear hd hf2 hown hbw hs1
  go_wp2_with fail
  refine HW.out.mono ?_
  rintro e w3 ⟨rfl, hd3, hf3⟩
  have H3 := Lib.hid (And.intro hd3 hf3); clear hd3 hf3
  go_wp2_with fail
  refine (Read_c H3.out.1 (k : Int) (bl.length : Int) (by omega)).mono ?_
  rintro e w4 ⟨xv, rfl, hx⟩
  have hd4 := H3.out.1.keep hx.fp (fun _ _ h => h)
  obtain ⟨xao, xlen, xcap, rfl⟩ := hx.shape3
  have H4 := Lib.hid (And.intro hx hd4); clear hx hd4
  go_wp2_with fail
  refine (Bytes_c H4.out.2).mono ?_
  rintro e w6 ⟨av, rfl, hN⟩
  have hz : ∀ j, own3 b g m j → False ∨ w.heap.size ≤ j := fun j hj => .inr (by have := HD.out.2.2 j hj; have := HF.out.1.size; omega)
  have h12 := HF.out.1.then HD.out.2.1
  have h13 := h12.trans H3.out.2 hz
  have h16 := (h13.then H4.out.1.fp).then hN.fp
  have HR : Hid (ReadsAt w w6 v bv (.slice xao xlen xcap) av l bl (dRead (dWrite (dOf l) k bl).2 k bl.length).1 (dWrite (dOf l) k bl).2.cur) := ⟨h16, HL.out.1.keep h16 (fun _ _ h => h), HL.out.2.keep h16 (fun _ _ h => h), H4.out.1.sl.keep hN.fp (fun _ _ h => h), hN.sl⟩
  obtain ⟨aao, alen, acap, rfl⟩ := hN.shape3
  clear hN hz h12 h13 h16
  by_cases hfit : k + bl.length ≤ l.length
  · have hfs : fits (dOf l) (k : Int) (bl.length : Int) := ⟨by omega, by omega, by show _ ≤ (l.length : Int) - _; omega⟩
    have ew : dWrite (dOf l) k bl = (0, did (put (dOf l) k bl)) := by
      unfold dWrite; rw [pw_new, if_neg (show ¬ (dOf l).off = true from fun h => by cases h), if_pos hfs, Int.toNat_natCast]
    have hcur : (did (put (dOf l) k bl)).cur = spl l k bl := rfl
    have hsl : (spl l k bl).length = l.length := spl_len _ _ _ hfit
    have er : dRead (did (put (dOf l) k bl)) k bl.length = (bl, 0) := by
      have hf2 : fits (did (put (dOf l) k bl)) (k : Int) (bl.length : Int) := ⟨by omega, by omega, by rw [hcur, hsl]; omega⟩
      unfold dRead
      rw [if_neg (show ¬ (did (put (dOf l) k bl)).off = true from fun h => by cases h), if_pos hf2, Int.toNat_natCast, Int.toNat_natCast, hcur, spl_mid _ _ _ hfit]
    rw [ew] at HR ⊢
    rw [er] at HR ⊢
    rw [hcur] at HR
    obtain ⟨aao2, acap2, ea, ha1, ha2, ha3⟩ := HR.out.sa.ex
    injection ea with ea1 ea2 ea3
    subst ea1 ea3
    rw [hsl] at ea2 ha1
    subst ea2
    have hnn := HN.out
    rcases ha3 with ⟨h0, h00⟩ | ⟨ag, ao2, rfl, _, _⟩
    · omega
    rcases HX.out.2.2 with ⟨h0, h00⟩ | ⟨lg, lo2, rfl, _, _⟩
    · omega
    have hd : Fp Non w6 w6.drew := (Fp.refl Non w6).drew
    have k1 : (convert 22 9 (.slice xao xlen xcap)).run Try.prog w6.drew = .ok (.string (B bl)) w6.drew := conv_sl _ _ _ (HR.out.sx.keep hd (fun _ _ h => h))
    have k2 : (convert 22 9 (.slice bao bl.length bcap)).run Try.prog w6.drew = .ok (.string (B bl)) w6.drew := by rw [← hbv]; exact conv_sl _ _ _ (HR.out.sb.keep hd (fun _ _ h => h))
    have sa6 := HR.out.sa.keep hd (fun _ _ h => h)
    have sl6 := HR.out.sl.keep hd (fun _ _ h => h)
    rw [hv] at sl6
    have sa7 : Sl w6.drew (.slice (some ⟨ag, ao2, none⟩) (spl l k bl).length acap) (spl l k bl) := by rw [hsl]; exact sa6
    have k3 : (convert 22 9 (.slice (some ⟨ag, ao2, none⟩) k acap)).run Try.prog w6.drew = .ok (.string (B (l.take k))) w6.drew := by
      have := conv_sl _ _ _ (sa7.upto k (by rw [hsl]; omega))
      rwa [spl_take _ _ _ (by omega)] at this
    have k4 : (convert 22 9 (.slice (some ⟨lg, lo2, none⟩) k cap)).run Try.prog w6.drew = .ok (.string (B (l.take k))) w6.drew := conv_sl _ _ _ (sl6.upto k (by omega))
    obtain ⟨p, hp⟩ : ∃ p, p = k + bl.length := ⟨_, rfl⟩
    have k5 : (convert 22 9 (.slice (if acap = p then some ⟨ag, ao2, none⟩ else some ⟨ag, ao2 + p, none⟩) (l.length - p) (acap - p))).run Try.prog w6.drew = .ok (.string (B (l.drop p))) w6.drew := by
      have := conv_sl _ _ _ (sa7.from p (by rw [hsl]; omega))
      rw [hsl, hp, spl_drop _ _ _ hfit, ← hp] at this
      exact this
    have k6 : (convert 22 9 (.slice (if cap = p then some ⟨lg, lo2, none⟩ else some ⟨lg, lo2 + p, none⟩) (l.length - p) (cap - p))).run Try.prog w6.drew = .ok (.string (B (l.drop p))) w6.drew := conv_sl _ _ _ (sl6.from p (by omega))
    have hpl : p ≤ l.length := hp ▸ hfit
    have hkp : k ≤ l.length := Nat.le_trans (Nat.le_add_right _ _) hfit
    have hka : k ≤ acap := Nat.le_trans hkp ha1
    have hkc : k ≤ cap := Nat.le_trans hkp hc1
    have hps : p ≤ 1000000 := Nat.le_trans hpl (Nat.le_trans hL (by decide))
    have q4 : ((k : Int) ≤ (l.length : Int)) = True := eq_true (Int.ofNat_le.2 hkp)
    have q5 : (k ≤ l.length) = True := eq_true hkp
    have q6 : (k : Int) + (bl.length : Int) = (p : Int) := by rw [hp]; rfl
    have q7 : ((p : Int) ≤ (l.length : Int)) = True := eq_true (Int.ofNat_le.2 hpl)
    have q8 : wrap64 (p : Int) = (p : Int) := (small p hps).1
    have q9 : IntKind.i64.wrap (p : Int) = (p : Int) := (small p hps).2
    have q10 : (p ≤ l.length) = True := eq_true hpl
    have q11 : ((k : Int) ≤ (acap : Int)) = True := eq_true (Int.ofNat_le.2 hka)
    have q12 : ((k : Int) ≤ (cap : Int)) = True := eq_true (Int.ofNat_le.2 hkc)
    have q13 : (k ≤ acap) = True := eq_true hka
    have q14 : (k ≤ cap) = True := eq_true hkc
    have HZ := Lib.hid (And.intro hfs (And.intro ew (And.intro er (And.intro hcur (And.intro hsl hp)))))
    clear hpl hkp hka hkc hps hfs ew er hcur hsl sa6 sl6 sa7 hd hfit hnn hp hkl hL hB ha hb1 hc1 ha1 ha2 hb2 hc2
    go_wp2_with fail
    refine wp_region_still_lit (by kernel_rfl) (by kernel_rfl) ?_
    change wpStill _ _ w6.drew _ _ _
    repeat still_step
    refine wpStill_nil ?_
    go_wp2
    all_goals (go_ret; exact ⟨rfl, HR.out.fp.drew⟩)
  · have hnf : ¬ fits (dOf l) (k : Int) (bl.length : Int) := fun h => hfit (by have := h.2.2; show _; have e : (dOf l).cur = l := rfl; rw [e] at this; omega)
    have ew : dWrite (dOf l) k bl = (1, dOf l) := by
      unfold dWrite; rw [pw_new, if_neg (show ¬ (dOf l).off = true from fun h => by cases h), if_neg hnf]
    have er : dRead (dOf l) k bl.length = ([], 1) := by
      unfold dRead; rw [if_neg (show ¬ (dOf l).off = true from fun h => by cases h), if_neg hnf]
    rw [ew] at HR ⊢
    rw [er] at HR ⊢
    obtain ⟨_, _, ex, _⟩ := HR.out.sx.ex
    injection ex with _ ex _
    rw [show ([] : Bs).length = 0 from rfl] at ex
    subst ex
    have k1 : (convert 22 9 (.slice aao alen acap)).run Try.prog w6 = .ok (.string (B l)) w6 := conv_sl _ _ _ HR.out.sa
    have k2 : (convert 22 9 (.slice ao l.length cap)).run Try.prog w6 = .ok (.string (B l)) w6 := by rw [← hv]; exact conv_sl _ _ _ HR.out.sl
    have q6 : ((k : Int) + (bl.length : Int) ≤ (l.length : Int)) = False := eq_false (by omega)
    have q8 : wrap64 ((k : Int) + (bl.length : Int)) = (k : Int) + (bl.length : Int) := by unfold wrap64; omega
    have HZ := Lib.hid (And.intro hnf (And.intro ew (And.intro er hfit)))
    by_cases hkk : k ≤ l.length
    · have q4 : ((k : Int) ≤ (l.length : Int)) = True := eq_true (by omega)
      clear hnf ew er hfit hkk hb1 hc1 hb2 hc2 ha
      go_wp2
      go_ret
      exact ⟨rfl, HR.out.fp⟩
    · have q4 : ((k : Int) ≤ (l.length : Int)) = False := eq_false (by omega)
      clear hnf ew er hfit hkk hb1 hc1 hb2 hc2 ha
      go_wp2
      go_ret
      exact ⟨rfl, HR.out.fp⟩

theorem SectorReads_c (v : Value) (l : Bs) (a : Int) (bv : Value) (bl : Bs) (w : World) (hl : Sl w v l) (ha : 0 ≤ a ∧ a ≤ 65535) (hb : Sl w bv bl) :
    Calls Try.prog 8 #[v, .int .u16 a, bv] w fun e w' => e = .returned (.bool true) ∧ Fp Non w w' := by
  by_cases h : 1 ≤ l.length / 16 ∧ l.length / 16 ≤ 4096 ∧ l.length % 16 = 0
  · by_cases h5 : l.length ≤ 5000 ∧ bl.length ≤ 5000
    · obtain ⟨a, rfl⟩ := Int.eq_ofNat_of_zero_le ha.1
      exact Reads_some v l a (a % (l.length + 20)) bv bl w hl hb (l.length / 16) h.1 h.2.1 (by omega) h5.1 h5.2 (by omega) rfl
    · exact Reads_long v l a bv bl w hl hb (l.length / 16) h.1 h.2.1 (by omega) (by omega)
  · exact Reads_none v l a bv w hl h
end Go.Proofs.Ytiafndcpggngoaa
