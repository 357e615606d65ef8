/- The document's log: a record's bytes, a header, a sign. -/
import Derived.Test.YtankfmlafmjaeaaGreatVa
namespace Go.Proofs.YtankfmlafmjaeaaGreat
open Go.RowKit Pm

set_option maxRecDepth 20000

/-- append(v, x...), of an empty x nothing is known. -/
theorem app_se (w : World) (lo : Nat) (v : Value) (l s : Bs) (ty : TypeId) (x : Value) (ho : w.ownsRow lo 5 1 v l.length (Lib.byteCells l)) (hx : Se w x s) (hn : l.length + s.length ≤ 100000000) (hlo : lo ≤ w.heap.size) :
    ∃ v' w', (Builtin.append_ #[22, 22] ty #[v, x]).run Tryz.prog w = .ok v' w' ∧ AppR lo v (l ++ s) w v' w' := by
  rcases hx with hx | ⟨rfl, ao, cap, rfl⟩
  · exact app_sl w lo v l s ty x ho hx hn hlo
  · have hs : Go.Src Tryz.prog 1 22 (.slice ao 0 cap) 0 [] w := by
      cases ao with
      | none => exact Go.Src.ofNil w Tryz.underlying22 cap
      | some a => exact Go.Src.ofSlice w Tryz.underlying22 a 0 cap [] (by simp) (fun j u hu => by simp at hu) (fun u hu => by simp at hu)
    exact ⟨v, w, app_nothing w lo v l ho _ _ _ hs, by rw [List.append_nil]; exact ho, ⟨rfl, rfl, rfl, Nat.le_refl _, fun _ _ _ => rfl⟩, .inl rfl⟩
/-- More bytes behind those of the call's own. -/
theorem Nw.plus {w wr w1 : World} {u x : Value} {l s : Bs} (h : Nw w wr u l) (f : Fp Non wr w1) (hx : Se w1 x s) (hn : l.length + s.length ≤ 100000000) (ty : TypeId) :
    ∃ v' w', (Builtin.append_ #[22, 22] ty #[u, x]).run Tryz.prog w1 = .ok v' w' ∧ Nw w w' v' (l ++ s) := by
  obtain ⟨v', w', hr, hA⟩ := app_se w1 w.heap.size u l s ty x (f.owns h.own (fun _ _ h => h)) hx hn (Nat.le_trans h.fp.size f.size)
  exact ⟨v', w', hr, hA.own, (h.fp.then f).grown hA.grown (fun k hk => .inr (h.block k hk))⟩
theorem Nw.three {w w' : World} {v : Value} {l : Bs} (h : Nw w w' v l) : ∃ ao n cap, v = .slice ao n cap := h.shape3

set_option maxHeartbeats 1000000 in
theorem RSum_e (s : Nat) (ao : Option Addr) (cap : Nat) (l : Bs) (w : World) (hs : s < 65536) (hl : l = []) :
    Calls Tryz.prog 75 #[.int .u16 (s : Int), .slice ao l.length cap] w fun e w' => e = .returned (.int .u32 ((sum s l : Nat) : Int)) ∧ w = w' := by
  have hl0 : l.length = 0 := by rw [hl]; rfl
  have hlm : l.length ≤ 9223372036854775807 := by omega
  go_enter Tryz.func75, Tryz.ntmps75
  go_wp2_with fail
  go_loop [5, 6, 7] (fun x y i => ∃ k : Nat, k ≤ l.length ∧ i = .int .i64 k ∧ x = .int .i64 ((sumOf s (l.take k)).1 : Int) ∧ y = .int .i64 ((sumOf s (l.take k)).2 : Int)) (fun _ _ i => l.length - (RowKit.intOf i).toNat)
  case atStart =>
    exact ⟨0, Nat.zero_le _, rfl, by rw [List.take_zero]; simp [sumOf, sumF], by rw [List.take_zero]; simp [sumOf, sumF]⟩
  case round =>
    obtain ⟨k, hk, rfl, rfl, rfl⟩ := hrel
    have hb := sumOf_lt s (l.take k)
    by_cases hlt : k < l.length
    · exact absurd hlt (by omega)
    · have hke : k = l.length := by omega
      subst hke
      rw [List.take_length] at *
      generalize hS : sumOf s l = S at *
      obtain ⟨x, y⟩ := S
      obtain ⟨hx, hy⟩ := hb
      simp only at hx hy ⊢
      have q1 : ((l.length : Int) < (l.length : Int)) = False := eq_false (by omega)
      clear hk hlt hl0 hl
      go_wp2
      go_ret
      exact ⟨ret_int (by unfold sum; rw [hS]; simp), rfl⟩
theorem RSum_se (s : Nat) (v : Value) (l : Bs) (w : World) (hs : s < 65536) (h : Se w v l) :
    Calls Tryz.prog 75 #[.int .u16 (s : Int), v] w fun e w' => e = .returned (.int .u32 ((sum s l : Nat) : Int)) ∧ w = w' := by
  rcases h with h | ⟨rfl, ao, cap, rfl⟩
  · exact RSum_c s v l w hs h
  · exact RSum_e s ao cap [] w hs rfl

theorem up_tmod (b : Bs) (k n : Nat) (hn : n = b.length + k) :
    (k < up b.length - b.length → (((n : Nat) : Int).tmod 16 == 0) = false ∧ (((n : Nat) : Int).tmod 16 = 0) = False ∧ (((n : Nat) : Int) % 16 = 0) = False ∧ (((n : Nat) : Int) % 16 != 0) = true) ∧
    (k = up b.length - b.length → (((n : Nat) : Int).tmod 16 == 0) = true ∧ (((n : Nat) : Int).tmod 16 = 0) = True ∧ (((n : Nat) : Int) % 16 = 0) = True ∧ (((n : Nat) : Int) % 16 != 0) = false) := by
  have hu : up b.length = (b.length + 15) / 16 * 16 := rfl
  have e : ((n : Nat) : Int).tmod 16 = (n : Int) % 16 := Int.tmod_eq_emod_of_nonneg (by omega)
  rw [e]
  constructor
  · intro h
    have : ¬ (n : Int) % 16 = 0 := by omega
    exact ⟨beq_eq_false_iff_ne.2 this, eq_false this, eq_false this, by simp [this]⟩
  · intro h
    have : (n : Int) % 16 = 0 := by omega
    exact ⟨beq_iff_eq.2 this, eq_true this, eq_true this, by simp [this]⟩
theorem zr_snoc (k : Nat) : zr k ++ [0] = zr (k + 1) := by unfold zr; rw [List.replicate_succ']

set_option maxHeartbeats 1000000 in
theorem padded_c (v : Value) (b : Bs) (w : World) (h : Se w v b) (hb : b.length ≤ 100000) :
    Calls Tryz.prog 68 #[v] w fun e w' => ∃ u, e = .returned u ∧ Nw w w' u (pad b) := by
  obtain ⟨ao, cap, hv⟩ := h.shape
  have hm := Nw.made w
  have happ := hm.plus (Fp.refl Non _) (h.keep hm.fp (fun _ _ _ h => h)) (by simp only [List.length_nil]; omega) 22
  rw [List.nil_append, hv] at happ
  have HA := Lib.hid happ
  have HX := Lib.hid (And.intro h hv)
  rw [hv]
  clear happ hm h hv
  go_enter Tryz.func68, Tryz.ntmps68
  go_wp2_with (at_builtin; go_must (refine wpList_app rfl _ _ _ _ rfl _ _ rfl rfl _ HA.out ?_))
  intro u w1 hN
  obtain ⟨uao, un, ucap, hu⟩ := hN.shape3
  have HN0 := Lib.hid hN
  subst hu
  clear hN
  have hup := up_le b.length
  go_wp2_with fail
  go_loopw [3] (fun u wr => ∃ k : Nat, k ≤ up b.length - b.length ∧ Hid (Nw w wr u (b ++ zr k))) (fun u _ => up b.length - lenOf u)
  case atStart => exact ⟨0, Nat.zero_le _, by rw [show zr 0 = [] from rfl, List.append_nil]; exact HN0⟩
  case round =>
    obtain ⟨k, hk, hR⟩ := hrel
    rename_i wr _
    obtain ⟨rao, rcap, hrv⟩ := hR.out.shape
    have hl : (b ++ zr k).length = b.length + k := by simp [zr]
    rw [hl] at hrv
    obtain ⟨n, hn⟩ : ∃ n, n = b.length + k := ⟨_, rfl⟩
    have hmods := up_tmod b k n hn
    rw [← hn] at hrv hl
    by_cases hlt : k < up b.length - b.length
    · obtain ⟨q1, q2, q3, q4⟩ := hmods.1 hlt
      have hpl := hR.out.plus ((Fp.refl Non wr).alloc (.cells #[.int .u8 0] 5)) (Sl.lit wr [0] (by show 1 ≤ 1000; omega)).se (by rw [hl]; show _ + 1 ≤ _; omega) 22
      rw [List.append_assoc, zr_snoc] at hpl
      have HP := Lib.hid hpl
      subst hrv
      have HL := Lib.hid (And.intro hn (And.intro hlt (And.intro hk hup)))
      clear hpl hmods hl hlt hk hup hn
      go_wp2_with (at_builtin; go_must (refine wpList_app rfl _ _ _ _ rfl _ _ rfl rfl _ HP.out ?_))
      intro u' w' hN'
      obtain ⟨uao', ucap', hu'⟩ := hN'.shape
      have hl' : (b ++ zr (k + 1)).length = b.length + (k + 1) := by simp [zr]
      rw [hl'] at hu'
      obtain ⟨n', hn'⟩ : ∃ n', n' = b.length + (k + 1) := ⟨_, rfl⟩
      rw [← hn'] at hu'
      have HN' := Lib.hid hN'
      have HM' := Lib.hid hn'
      subst hu'
      clear hN' hl' hn'
      go_wp2
      go_roundw
      case rel => exact ⟨k + 1, by have := HL.out.2.1; omega, HN'⟩
      case measure =>
        have h1 := HL.out.1
        have h2 := HL.out.2.1
        have h3 := HM'.out
        show up b.length - n' < up b.length - n
        omega
    · have hke : k = up b.length - b.length := by omega
      obtain ⟨q1, q2, q3, q4⟩ := hmods.2 hke
      have hp : b ++ zr k = pad b := by rw [hke]; rfl
      have hR2 := hR.out
      rw [hp] at hR2
      have HP := Lib.hid hR2
      subst hrv
      clear hmods hlt hke hk hp hup hn hl hR2
      go_wp2
      go_ret
      exact ⟨_, rfl, HP.out⟩

set_option maxHeartbeats 1000000 in
theorem rhead_c (i : Nat) (v : Value) (b : Bs) (w : World) (h : Se w v b) (hb : b.length ≤ 16384) (hi : i ≤ 65535) :
    Calls Tryz.prog 62 #[.int .i64 (i : Int), v] w fun e w' => ∃ u, e = .returned u ∧ Nw w w' u (hdr i b) := by
  obtain ⟨ao, cap, hv⟩ := h.shape
  have hlit : Fp Non w (w.alloc (.cells #[.int .u8 82] 5)) := (Fp.refl Non w).alloc _
  have hN0 : Nw w (w.alloc (.cells #[.int .u8 82] 5)) (.slice (some ⟨w.heap.size, 0, none⟩) 1 1) [82] := ⟨World.ownsRow_lit w #[.int .u8 82] 1 (Nat.le_refl _) (by unfold maxLen; simp) rfl, hlit⟩
  have hlb : b.length < 4294967296 := by omega
  have hib : i < 4294967296 := by omega
  have t1 : (i : Int).tmod 65536 = (i : Int) := by rw [Int.tmod_eq_emod_of_nonneg (by omega)]; omega
  have t2 : (i : Int) % 65536 = (i : Int) := by omega
  have HX := Lib.hid (And.intro h hv)
  have H0 := Lib.hid hN0
  have hsl := sum_lt i b
  rw [hv]
  clear h hv hN0 hlit
  go_enter Tryz.func62, Tryz.ntmps62
  go_wp2_with fail
  refine (four_r i hib _).mono ?_
  rintro e w1 ⟨u1, rfl, hN1⟩
  have hp1 := H0.out.plus hN1.fp hN1.sl.se (by show 1 + 4 ≤ _; omega) 22
  obtain ⟨a1, n1, k1, rfl⟩ := hN1.shape3
  have HP1 := Lib.hid hp1
  clear hp1 hN1
  go_wp2_with (at_builtin; go_must (refine wpList_app rfl _ _ _ _ rfl _ _ rfl rfl _ HP1.out ?_))
  intro v1 w2 hM1
  obtain ⟨b1, m1, j1, rfl⟩ := hM1.shape3
  have HM1 := Lib.hid hM1
  clear hM1
  go_wp2_with fail
  refine (four_r b.length hlb _).mono ?_
  rintro e w3 ⟨u2, rfl, hN2⟩
  have hp2 := HM1.out.plus hN2.fp hN2.sl.se (by show 5 + 4 ≤ _; omega) 22
  obtain ⟨a2, n2, k2, rfl⟩ := hN2.shape3
  have HP2 := Lib.hid hp2
  clear hp2 hN2
  go_wp2_with (at_builtin; go_must (refine wpList_app rfl _ _ _ _ rfl _ _ rfl rfl _ HP2.out ?_))
  intro v2 w4 hM2
  obtain ⟨b2, m2, j2, rfl⟩ := hM2.shape3
  have hsm := RSum_se i _ b w4 (by omega) (HX.out.1.keep hM2.fp (fun _ _ _ h => h))
  rw [HX.out.2] at hsm
  obtain ⟨S, hS⟩ : ∃ S, S = sum i b := ⟨_, rfl⟩
  rw [← hS] at hsm hsl
  have HM2 := Lib.hid hM2
  have HSm := Lib.hid hsm
  have HS := Lib.hid hS
  clear hM2 hsm hS
  go_wp2_with fail
  refine HSm.out.mono ?_
  rintro e w5 ⟨rfl, rfl⟩
  go_wp2_with fail
  refine (four_r S hsl _).mono ?_
  rintro e w6 ⟨u3, rfl, hN3⟩
  have hp3 := HM2.out.plus hN3.fp hN3.sl.se (by show 9 + 4 ≤ _; omega) 22
  obtain ⟨a3, n3, k3, rfl⟩ := hN3.shape3
  have HP3 := Lib.hid hp3
  clear hp3 hN3
  go_wp2_with (at_builtin; go_must (refine wpList_app rfl _ _ _ _ rfl _ _ rfl rfl _ HP3.out ?_))
  intro v3 w7 hM3
  obtain ⟨b3, m3, j3, rfl⟩ := hM3.shape3
  have hp4 := hM3.plus ((Fp.refl Non w7).alloc (.cells #[.int .u8 0, .int .u8 0, .int .u8 0] 5)) (Sl.lit w7 [0, 0, 0] (by show 3 ≤ 1000; omega)).se (by show 13 + 3 ≤ _; omega) 22
  have HP4 := Lib.hid hp4
  clear hp4 hM3
  go_wp2_with (at_builtin; go_must (refine wpList_app rfl _ _ _ _ rfl _ _ rfl rfl _ HP4.out ?_))
  intro v4 w8 hM4
  obtain ⟨b4, m4, j4, rfl⟩ := hM4.shape3
  have hfin : [82] ++ be4 i ++ be4 b.length ++ be4 S ++ [0, 0, 0] = hdr i b := by
    rw [HS.out]
    unfold hdr
    rw [Nat.mod_eq_of_lt (show i < 65536 by omega)]
    simp
  have HM4 := Lib.hid (And.intro hfin hM4)
  clear hM4 hfin
  go_wp2
  go_ret
  exact ⟨_, rfl, by rw [← HM4.out.1]; exact HM4.out.2⟩

theorem rsign_one (a : Nat) (c : UInt8) (hc : ((c.toNat : Nat) : Int) = (a : Int)) (hab : a ≤ 1) (hl : ((List.replicate 16 (0 : UInt8)).set 0 87).set 1 c = sgn a) (w : World) :
    Calls Tryz.prog 38 #[.int .i64 (a : Int)] w fun e w' => ∃ u, e = .returned u ∧ Nw w w' u (sgn a) := by
  have hmk := make_bytes w 16 (by omega)
  rw [show ((16 : Nat) : Int) = 16 from rfl] at hmk
  have r0 := Rw.made w 5 (List.replicate 16 0)
  have hfp0 : Fp Non w (w.alloc (.cells (Lib.byteCells (List.replicate 16 0)).toArray 5)) := (Fp.refl Non w).alloc _
  obtain ⟨W0, hW0⟩ : ∃ W0, W0 = w.alloc (.cells (Lib.byteCells (List.replicate 16 0)).toArray 5) := ⟨_, rfl⟩
  rw [← hW0] at hmk r0 hfp0
  have e87 : (((87 : UInt8).toNat : Nat) : Int) = 87 := rfl
  have hls : (sgn a).length = 16 := by simp [sgn, zr]
  have r1 := r0.byte 0 87
  have r2 := r1.byte 1 c
  have c0 := r0.cell 0 (by simp)
  have f0 := r0.frozen 0
  have c1 := r1.cell 1 (by simp)
  have f1 := r1.frozen 1
  rw [hl] at r2
  rw [e87] at r2 c1 f1
  rw [hc] at r2
  have hN := Nw.of_row (w := w) r2 (Nat.le_refl _) (by rw [hls]; unfold maxLen; omega) ((hfp0.setCell (p := ⟨w.heap.size, 0, none⟩) (.inr (Nat.le_refl _)) _).setCell (p := ⟨w.heap.size, 1, none⟩) (.inr (Nat.le_refl _)) _)
  rw [hls] at hN
  generalize hv0 : (List.replicate 16 (0 : UInt8))[0].toNat = z0 at c0
  generalize hv1 : ((List.replicate 16 (0 : UInt8)).set 0 87)[1].toNat = z1 at c1
  have HM := Lib.hid hmk
  have HN := Lib.hid hN
  clear hN r0 r1 r2 hfp0 hW0 hl hmk hc hls e87 hv0 hv1
  go_enter Tryz.func38, Tryz.ntmps38
  go_wp2_with (refine wpList_make_run rfl 22 _ _ rfl _ _ _ rfl rfl HM.out ?_)
  go_wp2
  go_ret
  exact ⟨_, rfl, HN.out⟩
theorem rsign_c (a : Nat) (ha : a < 2) (w : World) :
    Calls Tryz.prog 38 #[.int .i64 (a : Int)] w fun e w' => ∃ u, e = .returned u ∧ Nw w w' u (sgn a) := by
  rcases (show a = 0 ∨ a = 1 by omega) with rfl | rfl
  · exact rsign_one 0 0 rfl (by omega) rfl w
  · exact rsign_one 1 1 rfl (by omega) rfl w
end Go.Proofs.YtankfmlafmjaeaaGreat
