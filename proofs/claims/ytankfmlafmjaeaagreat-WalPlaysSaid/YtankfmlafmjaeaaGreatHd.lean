/- The live question. -/
import Derived.Test.YtankfmlafmjaeaaGreatLa
import Derived.Lib.SlBytesConst
namespace Go.Proofs.YtankfmlafmjaeaaGreat
set_option maxRecDepth 20000
open Go.RowKit Pm

theorem signed_one {b : Bs} (h : signed b = some 1) : b = sgn 1 := by
  unfold signed at h
  split at h
  · cases h
  · split at h
    · cases h
    · split at h
      · assumption
      · cases h
theorem hf13 : hf (zr (13 * 16)) = 96 := by unfold hf; rw [zr_len]
theorem made_sl (w : World) (n : Nat) (hn : n ≤ 1000000) : Sl (w.alloc (.cells (Lib.byteCells (List.replicate n 0)).toArray 5)) (.slice (some ⟨w.heap.size, 0, none⟩) n n) (zr n) := by
  have := Sl.of_row (Rw.made w 5 (List.replicate n 0)) 0 n n (by simp) (Nat.le_refl _) (by unfold maxLen; omega)
  rw [List.drop_zero, List.take_of_length_le (by simp)] at this
  exact this

/-- A constant's bytes. -/
theorem const_sl (w : World) (l : Bs) (hl : l.length ≤ 1000) (fz : Nat × Nat) : Sl (w.alloc (.cells (Lib.byteCells l).toArray 5 fz)) (.slice (some ⟨w.heap.size, 0, none⟩) l.length l.length) l := by
  refine ⟨_, l.length, rfl, Nat.le_refl _, by unfold maxLen; omega, .inr ⟨w.heap.size, 0, rfl, by simp, fun j hj => ?_⟩⟩
  rw [Nat.zero_add, cell_of_row _ _ _ _ _ _ (heap_alloc_new w _)]
  simpa using byteCells_get l j hj
/-- In the midst of head: where all lies, above lo. -/
structure HdM (lo : Nat) (w0 w : World) : Prop where
  fp : Fp Non w0 w
  lo' : lo = w0.heap.size
theorem LgS.non {b g m q : Nat} {s : Dk} {l l' : Lg} {v : Value} {w0 w w' : World} {n : Nat} (h : LgS w0.heap.size b g m q s l v w l' n w') (hl : Lw w0.heap.size b g m q s l v w) (f : Fp Non w0 w) : Fp Non w0 w' :=
  f.trans h.fp (fun k hk => .inr (by
    rcases hk with hk | hk
    · exact (hl.d.all k hk).1
    · exact (hl.lg.all k hk).1))

set_option maxHeartbeats 8000000 in
theorem head_c (w : World) : Calls Tryz.prog 4 #[] w fun e w' => e = .returned (.bool true) ∧ Fp Non w w' := by
  go_enter Tryz.func4, Tryz.ntmps4
  go_wp2_with fail
  refine (lstart_c 13 (by omega) (by omega) w).mono ?_
  rintro e w1 ⟨b, g, m, q, v0, rfl, hl1, hf1⟩
  have hmk := make_bytes w1 17 (by omega)
  obtain ⟨W1, hW1⟩ : ∃ W1, W1 = w1.alloc (.cells (Lib.byteCells (List.replicate 17 0)).toArray 5) := ⟨_, rfl⟩
  have hz := made_sl w1 17 (by omega)
  rw [← hW1] at hmk hz
  have hfw : Fp Non w1 W1 := by rw [hW1]; exact (Fp.refl Non w1).alloc _
  have hl1' := hl1.non hfw
  have hall := hl1.d.all
  have ha := hl1'.append _ (zr 17) (Src.of_sl hz (fun k hk ho => by have := (hall k ho).2; simp [Value.ownBlock] at hk; omega)) (by show (0 : Nat) ≤ _; omega) (by simp [zr_len])
  have HA := Lib.hid ha
  have HMK := Lib.hid hmk
  have H1 := Lib.hid (And.intro hl1' (hf1.then hfw))
  clear hl1 hf1 hmk hW1 hz hfw hl1' hall ha
  go_wp2_with (refine wpList_make_run rfl 22 _ _ rfl _ _ _ rfl rfl HMK.out ?_)
  refine HA.out.mono ?_
  rintro e w2 (⟨hful, rfl, _⟩ | ⟨_, rfl, hS⟩)
  · exfalso
    have h1 : hf (zr (13 * 16)) < 0 + ln (zr 17).length := hful
    rw [hf13, zr_len] at h1
    exact absurd h1 (by decide)
  obtain ⟨s2, v2, hl2, ha2, hc2, _⟩ := hS.ex
  have hf2 := hS.non H1.out.1 H1.out.2
  have hh2 : hf s2.cur = 96 := by rw [hf_len hc2]; exact hf13
  have ha2' : s2.acts ≤ 4 := ha2
  have ha := hl2.append (.slice none 0 0) [] (Src.of_empty _ _ _ _ none 0) (by omega) (by show (0 : Nat) ≤ _; omega)
  have HA2 := Lib.hid ha
  have H2 := Lib.hid (And.intro hl2 (And.intro hf2 (And.intro ha2' (And.intro hc2 hh2))))
  clear ha hl2 hf2 ha2 ha2' hc2 hh2 hS
  go_wp2_with fail
  refine HA2.out.mono ?_
  rintro e w3 (⟨hful, rfl, _⟩ | ⟨_, rfl, hS⟩)
  · exfalso
    rw [H2.out.2.2.2.2] at hful
    have h1 : 96 < ln (zr 17).length + 0 + ln 0 := hful
    rw [zr_len] at h1
    exact absurd h1 (by decide)
  obtain ⟨s3, v3, hl3, ha3, hc3, _⟩ := hS.ex
  have hf3 := hS.non H2.out.1 H2.out.2.1
  have hh3 : hf s3.cur = 96 := by rw [hf_len hc3]; exact H2.out.2.2.2.2
  have ha3' : s3.acts ≤ 8 := by have := H2.out.2.2.1; omega
  have hmk := make_bytes w3 40 (by omega)
  obtain ⟨W3, hW3⟩ : ∃ W3, W3 = w3.alloc (.cells (Lib.byteCells (List.replicate 40 0)).toArray 5) := ⟨_, rfl⟩
  have hz := made_sl w3 40 (by omega)
  rw [← hW3] at hmk hz
  have hfw : Fp Non w3 W3 := by rw [hW3]; exact (Fp.refl Non w3).alloc _
  have hall := hl3.d.all
  have hl3' := hl3.non hfw
  have ha := hl3'.append _ (zr 40) (Src.of_sl hz (fun k hk ho => by have := (hall k ho).2; simp [Value.ownBlock] at hk; omega)) (by omega) (by simp [zr_len])
  have HA3 := Lib.hid ha
  have HMK3 := Lib.hid hmk
  have H3 := Lib.hid (And.intro hl3' (And.intro (hf3.then hfw) (And.intro ha3' (And.intro (hc3.trans H2.out.2.2.2.1) hh3))))
  clear ha hl3 hf3 ha3 ha3' hc3 hh3 hS hmk hW3 hz hfw hall hl3'
  go_wp2_with (refine wpList_make_run rfl 22 _ _ rfl _ _ _ rfl rfl HMK3.out ?_)
  refine HA3.out.mono ?_
  rintro e w4 (⟨_, rfl, hS⟩ | ⟨hful, rfl, _⟩)
  rotate_left
  · exfalso
    rw [H3.out.2.2.2.2] at hful
    have h1 : ln (zr 17).length + (ln 0 + 0) + ln (zr 40).length ≤ 96 := hful
    rw [zr_len, zr_len] at h1
    exact absurd h1 (by decide)
  obtain ⟨s4, v4, hl4, ha4, hc4, _⟩ := hS.ex
  have hf4 := hS.non H3.out.1 H3.out.2.1
  have hh4 : hf s4.cur = 96 := by rw [hf_len hc4]; exact H3.out.2.2.2.2
  have ha4' : s4.acts ≤ 12 := by have := H3.out.2.2.1; omega
  have ho := open_s hl4.d hl4.gd.dry hl4.gd.has (by omega)
  have HO := Lib.hid ho
  have H4 := Lib.hid (And.intro hl4 (And.intro hf4 (And.intro ha4' (And.intro (hc4.trans H3.out.2.2.2.1) hh4))))
  clear ho hl4 hf4 ha4 ha4' hc4 hh4 hS
  go_wp2_with fail
  refine HO.out.mono ?_
  rintro e w5 ⟨⟨q5, s5, v5, rfl, hl5, hq5, _, _, hs5⟩, hf5⟩
  have hse := hs5 H4.out.1.gd
  subst hse
  have h45 : Fp Non w w5 := H4.out.2.1.trans hf5 (fun k hk => .inr (H4.out.1.d.all k hk).1)
  have hr5 := H4.out.1.lg.keep hf5 (fun k hk ho => H4.out.1.ap k ho hk)
  obtain ⟨W5, hW5⟩ : ∃ W5, W5 = w5.alloc (.cells #[.int .u8 122] 5 (1, 2)) := ⟨_, rfl⟩
  have hfw : Fp Non w5 W5 := by rw [hW5]; exact (Fp.refl Non w5).alloc _
  have hz : Sl W5 (.slice (some ⟨w5.heap.size, 0, none⟩) 1 1) [122] := by rw [hW5]; exact const_sl w5 [122] (by show 1 ≤ 1000; omega) (1, 2)
  have hall := hl5.d.all
  have hl5' := hl5.non hfw
  have hst := hl5'.start _ [122] (Src.of_sl hz (fun k hk ho => by have := (hall k ho).2; simp [Value.ownBlock] at hk; omega)) (by have := H4.out.2.2.1; omega) (by show 1 ≤ 16384; omega)
  rw [hW5] at hst
  have kc := fun (w : World) (C : Array Value) (n c : Nat) => Lib.run_convert_bytes_const (P := Tryz.prog) w 22 5 C n c Tryz.underlying22 Tryz.underlying5
  have HST := Lib.hid hst
  have H5 := Lib.hid (And.intro hl5' (And.intro (h45.then hfw) (And.intro (hr5.keep hfw (fun _ _ h => h)) (And.intro hW5 (fun k hk => hq5 k hk)))))
  clear hst hl5 hq5 hf5 hs5 h45 hr5 hfw hz hall hl5'
  go_wp2_with fail
  refine HST.out.mono ?_
  rintro e w6 (⟨hful, rfl, _⟩ | ⟨_, rfl, hS⟩)
  · exfalso
    rw [H4.out.2.2.2.2] at hful
    have h1 : 96 < ln 1 := hful
    exact absurd h1 (by decide)
  rw [← H5.out.2.2.2.1] at hS
  obtain ⟨s6, v6, hl6, ha6, hc6, _⟩ := hS.ex
  have hf6 := hS.non H5.out.1 H5.out.2.1
  have hr6 := H5.out.2.2.1.keep hS.fp (fun k hk ho => by
    rcases ho with ho | ho
    · exact H4.out.1.ap k ho hk
    · have h1 := H5.out.2.2.2.2 k ho
      have h2 := (H4.out.1.lg.all k hk).2
      omega)
  have hrc := Records_c hl6.lg (by show ln 1 + 0 ≤ _; decide)
  have HRC := Lib.hid hrc
  have H6 := Lib.hid (And.intro hl6 (And.intro hf6 (And.intro hr6 hc6)))
  clear hS hl6 ha6 hc6 hf6 hr6 hrc
  go_wp2_with fail
  refine HRC.out.mono ?_
  rintro e w7 ⟨u7, rfl, hf7, hb7⟩
  have hl7 := H6.out.1.non hf7
  have hr7 := H6.out.2.2.1.keep hf7 (fun _ _ h => h)
  have hrd := Read_c hl7.d 0 2 (by omega)
  have hcl : s6.cur.length = 208 := by rw [H6.out.2.2.2, H4.out.2.2.2.1]; exact zr_len _
  have hsg : s6.cur.take 16 = sgn 1 := signed_one H6.out.1.gd.has.sg
  have hrv : dRead s6 0 2 = ([87, 1], 0) := by
    unfold dRead
    rw [if_neg (by rw [H6.out.1.gd.dry.on]; exact Bool.false_ne_true), if_pos (by unfold fits; omega)]
    have : (s6.cur.drop 0).take 2 = (s6.cur.take 16).take 2 := by rw [List.drop_zero, List.take_take]; rfl
    show ((s6.cur.drop 0).take 2, (0 : Int)) = _
    rw [this, hsg]; rfl
  rw [hrv] at hrd
  have HRD := Lib.hid hrd
  have H7 := Lib.hid (And.intro hl7 (And.intro hr7 (And.intro hb7 (And.intro (H6.out.2.1.then hf7) hcl))))
  obtain ⟨uao, ucap, rfl⟩ := hb7.shape
  clear hf7 hb7 hl7 hr7 hrd hcl hsg hrv
  go_wp2_with fail
  refine HRD.out.mono ?_
  rintro e w8 ⟨rv, rfl, hN8⟩
  have hl8 := H7.out.1.non hN8.fp
  have hr8 := H7.out.2.1.keep hN8.fp (fun _ _ h => h)
  have hh6 : hf s6.cur = 96 := by unfold hf; rw [H7.out.2.2.2.2]
  have hlk : Lk s6 ⟨0, [] ++ [zr 17] ++ [[]]⟩ := ⟨by rw [hh6]; decide, by decide, by rw [hh6]; show ln (zr 17).length + (ln 0 + 0) ≤ 96; rw [zr_len]; decide, fun r hr => by
    rcases (show r = zr 17 ∨ r = [] by simpa using hr) with rfl | rfl
    · rw [zr_len]; decide
    · decide⟩
  have hroom := Room_c hl8.d hr8 hlk
  have hrv2 : lRoom s6 ⟨0, [] ++ [zr 17] ++ [[]]⟩ = 16 := by
    unfold lRoom
    rw [hh6]
    have : usd [zr 17, []] = 64 := by show ln (zr 17).length + (ln 0 + 0) = 64; rw [zr_len]; decide
    show max 0 (min (((96 : Nat) : Int) - ((usd [zr 17, []] : Nat) : Int) - 16) 16384) = 16
    rw [this]; decide
  rw [hrv2] at hroom
  have HRM := Lib.hid hroom
  have HR8 := Lib.hid (And.intro hl8 (And.intro hr8 (And.intro hlk hN8)))
  have hsl8 := hN8.sl
  obtain ⟨rg, ro, rcap, rfl, _, _, _⟩ := hsl8.at (by decide)
  clear hl8 hr8 hlk hN8 hroom hrv2 hh6 hsl8
  go_wp2_with fail
  refine HRM.out.mono ?_
  rintro e w' ⟨rfl, hw'⟩
  obtain rfl := hw'.symm
  clear hw'
  have hrc := Records_c HR8.out.2.1 (by show ln (zr 17).length + (ln 0 + 0) ≤ _; rw [zr_len]; decide)
  have HRC8 := Lib.hid hrc
  clear hrc
  go_wp2_with fail
  refine HRC8.out.mono ?_
  rintro e w9 ⟨u9, rfl, hf9, hb9⟩
  obtain ⟨nao, ncap, rfl⟩ := hb9.shape
  have h79 : Fp Non w7 w9 := HR8.out.2.2.2.fp.then hf9
  have hbv := (H7.out.2.2.1.view (E := fun _ => True) (fun _ _ => trivial) (fun _ _ => trivial)).keep h79 (fun _ _ h => h)
  obtain ⟨ao9, cap9, he9, hc9⟩ := hbv.ex
  obtain ⟨g9, o9, rfl, _, hcell9⟩ := hc9 (by decide)
  injection he9 with he1 _ he3
  subst he1 he3
  obtain ⟨x9, hx9, hsx, _⟩ := hcell9 0 (by decide)
  have k9 := conv_se w9 x9 _ hsx
  have hxx : w9.cell? ⟨g9, o9, none⟩ = some x9 := hx9
  have hsl9 := HR8.out.2.2.2.sl.keep hf9 (fun _ _ h => h)
  obtain ⟨xao, xcap, rfl⟩ := hsx.shape
  have k10 : (convert 22 9 (.slice xao 1 xcap)).run Tryz.prog w9 = .ok (.string { data := #[122] }) w9 := k9
  have hx10 : w9.cell? ⟨g9, o9, none⟩ = some (.slice xao 1 xcap) := hxx
  clear k9 hxx
  obtain ⟨_, _, ee, _, _, hcc⟩ := hsl9.ex
  injection ee with ee1 _ _
  rcases hcc with ⟨h0, _⟩ | ⟨gg, oo, e2, _, hc1⟩
  · rw [h0] at ee1; cases ee1
  rw [e2] at ee1
  injection ee1 with ee1
  injection ee1 with ee1 ee2 _
  subst ee1 ee2
  have hc2 : w9.cell? ⟨rg, ro + 1, none⟩ = some (.int .u8 1) := hc1 1 (by decide)
  have HFF := Lib.hid (H7.out.2.2.2.1.then h79)
  clear hf9 hb9 h79 hbv hc9 hcell9 hx9 hsx hsl9 hc1
  go_wp2
  go_ret
  exact ⟨rfl, HFF.out⟩
end Go.Proofs.YtankfmlafmjaeaaGreat
