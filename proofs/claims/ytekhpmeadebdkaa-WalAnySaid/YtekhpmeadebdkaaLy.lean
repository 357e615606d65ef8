/- WalAny: the law's walk. -/
import Derived.Test.YtekhpmeadebdkaaHd
namespace Go.Proofs.Ytekhpmeadebdkaa
set_option maxRecDepth 20000
open Go.RowKit Pm

/-- What the records have, as the law reckons it. -/
def sm (rs : List Bs) : Nat := (rs.map fun r => 16 + r.length).sum
theorem sm_cons (r : Bs) (rs : List Bs) : sm (r :: rs) = 16 + r.length + sm rs := by simp [sm]
theorem sm_app (l m : List Bs) : sm (l ++ m) = sm l + sm m := by simp [sm]
theorem sm_le (rs : List Bs) : sm rs ≤ usd rs := by
  induction rs with
  | nil => exact Nat.le_refl _
  | cons r rs ih => rw [sm_cons, usd_cons]; have := (up_le r.length).1; unfold ln; omega
theorem sm_take (l : List Bs) (k : Nat) (h : k < l.length) : sm (l.take (k + 1)) = sm (l.take k) + (16 + l[k].length) := by
  rw [List.take_succ_eq_append_getElem h, sm_app, sm_cons]; simp [sm]
theorem sm_take_le (l : List Bs) (k : Nat) : sm (l.take k) ≤ sm l := by
  conv => rhs; rw [← List.take_append_drop k l, sm_app]
  omega
theorem dry_of (l : Bs) (n : Nat) (h1 : 1 ≤ n) (h2 : n ≤ 4096) (hl : l.length = n * 16) : Dry (dOf l) := ⟨Rt.of l n h1 h2 hl, rfl, rfl, rfl⟩

set_option maxHeartbeats 4000000 in
theorem Any_none (v : Value) (l : Bs) (rv : Value) (r : Bs) (w : World) (hl : Sl w v l) (_hr : Sl w rv r) (h : ¬ (1 ≤ l.length / 16 ∧ l.length / 16 ≤ 4096 ∧ l.length % 16 = 0)) :
    Calls Try.prog 6 #[v, rv] w fun e w' => e = .returned (.bool true) ∧ Fp Non w w' := by
  have HL := Lib.hid (And.intro hl h); clear hl h
  go_enter Try.func6, Try.ntmps6
  go_wp2_with fail
  refine (head_c w).mono ?_
  rintro e w1 ⟨rfl, hf⟩
  have hn := Of_none w1 v l (HL.out.1.keep hf (fun _ _ h => h)) HL.out.2
  have HF := Lib.hid (And.intro hf hn); clear hf hn
  go_wp2_with fail
  refine HF.out.2.mono ?_
  rintro e w2 ⟨rfl, rfl⟩
  go_wp2
  go_ret
  exact ⟨rfl, HF.out.1⟩

set_option maxHeartbeats 4000000 in
theorem Any_long (v : Value) (l : Bs) (rv : Value) (r : Bs) (w : World) (hl : Sl w v l) (hr : Sl w rv r) (n : Nat) (h1 : 1 ≤ n) (h2 : n ≤ 4096) (hln : l.length = n * 16) (h : 9000 < l.length ∨ (l.length ≤ 9000 ∧ 6000 < r.length)) :
    Calls Try.prog 6 #[v, rv] w fun e w' => e = .returned (.bool true) ∧ Fp Non w w' := by
  obtain ⟨rao, rcap, rfl, _, _, _⟩ := hr.ex
  obtain ⟨ao, cap, hv, _, _, _⟩ := hl.ex
  have HL := Lib.hid hl
  have HN := Lib.hid (And.intro h1 (And.intro h2 hln))
  rw [hv]
  rcases h with h | ⟨h, h'⟩
  · have q1 : ((9000 : Int) < (l.length : Int)) = True := eq_true (by omega)
    clear hl hr h h1 h2 hln
    go_enter Try.func6, Try.ntmps6
    go_wp2_with fail
    refine (head_c w).mono ?_
    rintro e w1 ⟨rfl, hf⟩
    have hn := Of_c w1.heap.size w1 v l (HL.out.keep hf (fun _ _ h => h)) n HN.out.1 HN.out.2.1 HN.out.2.2 (Nat.le_refl _)
    rw [hv] at hn
    have HF := Lib.hid (And.intro hf hn); clear hf hn
    go_wp2_with fail
    refine HF.out.2.mono ?_
    rintro e w2 ⟨b, g, m, rfl, hd, hf2, _⟩
    have H2 := Lib.hid hf2; clear hf2 hd
    go_wp2
    go_ret
    exact ⟨rfl, HF.out.1.then H2.out⟩
  · have q1 : ((9000 : Int) < (l.length : Int)) = False := eq_false (by omega)
    have q2 : ((6000 : Int) < (r.length : Int)) = True := eq_true (by omega)
    clear hl hr h h' h1 h2 hln
    go_enter Try.func6, Try.ntmps6
    go_wp2_with fail
    refine (head_c w).mono ?_
    rintro e w1 ⟨rfl, hf⟩
    have hn := Of_c w1.heap.size w1 v l (HL.out.keep hf (fun _ _ h => h)) n HN.out.1 HN.out.2.1 HN.out.2.2 (Nat.le_refl _)
    rw [hv] at hn
    have HF := Lib.hid (And.intro hf hn); clear hf hn
    go_wp2_with fail
    refine HF.out.2.mono ?_
    rintro e w2 ⟨b, g, m, rfl, hd, hf2, _⟩
    have H2 := Lib.hid hf2; clear hf2 hd
    go_wp2
    go_ret
    exact ⟨rfl, HF.out.1.then H2.out⟩

set_option maxHeartbeats 4000000 in
theorem Any_bad (v : Value) (l : Bs) (rv : Value) (r : Bs) (w : World) (hl : Sl w v l) (hr : Sl w rv r) (n : Nat) (h1 : 1 ≤ n) (h2 : n ≤ 4096) (hln : l.length = n * 16) (hL : l.length ≤ 9000) (hR : r.length ≤ 6000) (c : Int) (hc : c = 1 ∨ c = 3) (ho : lOpen (dOf l) = (c, none, dOf l)) :
    Calls Try.prog 6 #[v, rv] w fun e w' => e = .returned (.bool true) ∧ Fp Non w w' := by
  obtain ⟨rao, rcap, hrv, _, _, _⟩ := hr.ex
  obtain ⟨ao, cap, hv, _, _, _⟩ := hl.ex
  have HL := Lib.hid (And.intro hl hr)
  have HN := Lib.hid (And.intro h1 (And.intro h2 hln))
  rw [hv, hrv]
  have q1 : ((9000 : Int) < (l.length : Int)) = False := eq_false (by omega)
  have q2 : ((6000 : Int) < (r.length : Int)) = False := eq_false (by omega)
  have HX := Lib.hid (And.intro hL hR)
  have HO := Lib.hid ho
  clear hl hr hL hR h1 h2 hln ho
  go_enter Try.func6, Try.ntmps6
  go_wp2_with fail
  refine (head_c w).mono ?_
  rintro e w1 ⟨rfl, hf⟩
  have hn := Of_c w1.heap.size w1 v l (HL.out.1.keep hf (fun _ _ h => h)) n HN.out.1 HN.out.2.1 HN.out.2.2 (Nat.le_refl _)
  rw [hv] at hn
  have HF := Lib.hid (And.intro hf hn); clear hf hn
  go_wp2_with fail
  refine HF.out.2.mono ?_
  rintro e w2 ⟨b, g, m, rfl, hd, hf2, hown⟩
  have hop := Open_c hd (by show (0 : Nat) ≤ _; omega)
  rw [HO.out] at hop
  have HOP := Lib.hid hop
  have HF2 := Lib.hid (And.intro hf2 (And.intro hd hown))
  clear hop hf2 hd hown
  go_wp2_with fail
  refine HOP.out.mono ?_
  rintro e w3 ⟨pv, rfl, hR⟩
  obtain rfl := hR.no (by rw [HO.out])
  have hf3 := hR.fp
  have HF3 := Lib.hid (((HF.out.1.then HF2.out.1)).trans hf3 (fun k hk => .inr (by have h1 := HF2.out.2.2 k hk; have h2 := HF.out.1.size; omega)))
  clear hf3 hR
  rcases hc with rfl | rfl
  · dsimp only
    go_wp2
    all_goals go_ret
    all_goals exact ⟨rfl, HF3.out⟩
  · dsimp only
    go_wp2
    all_goals go_ret
    all_goals exact ⟨rfl, HF3.out⟩

set_option maxHeartbeats 16000000 in
theorem Any_good (v : Value) (l : Bs) (rv : Value) (r : Bs) (w : World) (hl : Sl w v l) (hr : Sl w rv r) (n : Nat) (h1 : 1 ≤ n) (h2 : n ≤ 4096) (hln : l.length = n * 16) (hL : l.length ≤ 9000) (hR : r.length ≤ 6000) (a : Nat) (rs : List Bs) (ho : Has l a rs) :
    Calls Try.prog 6 #[v, rv] w fun e w' => e = .returned (.bool true) ∧ Fp Non w w' := by
  obtain ⟨rao, rcap, hrv, _, _, _⟩ := hr.ex
  obtain ⟨ao, cap, hv, _, _, _⟩ := hl.ex
  have HL := Lib.hid (And.intro hl hr)
  have HN := Lib.hid (And.intro h1 (And.intro h2 hln))
  rw [hv, hrv]
  have q1 : ((9000 : Int) < (l.length : Int)) = False := eq_false (by omega)
  have q2 : ((6000 : Int) < (r.length : Int)) = False := eq_false (by omega)
  have HX := Lib.hid (And.intro hL hR)
  have HO := Lib.hid ho
  clear hl hr hL hR h1 h2 hln ho
  go_enter Try.func6, Try.ntmps6
  go_wp2_with fail
  refine (head_c w).mono ?_
  rintro e w1 ⟨rfl, hf⟩
  have hn := Of_c w1.heap.size w1 v l (HL.out.1.keep hf (fun _ _ h => h)) n HN.out.1 HN.out.2.1 HN.out.2.2 (Nat.le_refl _)
  rw [hv] at hn
  have HF := Lib.hid (And.intro hf hn); clear hf hn
  go_wp2_with fail
  refine HF.out.2.mono ?_
  rintro e w2 ⟨b, g, m, rfl, hd, hf2, hown⟩
  have hop := open_s hd (dry_of l n HN.out.1 HN.out.2.1 HN.out.2.2) HO.out (by show (0 : Nat) ≤ _; omega)
  have HOP := Lib.hid hop
  have HF2 := Lib.hid (And.intro hf2 hown)
  clear hop hf2 hd hown
  go_wp2_with fail
  refine HOP.out.mono ?_
  rintro e w3 ⟨⟨q, s3, v3, rfl, hl3, hq3, ha3, hc3, _⟩, hf3⟩
  have hus : usd rs ≤ l.length := Nat.le_trans HO.out.fits.1 (hf_le l)
  have hrc := Records_c hl3.lg (by show usd rs ≤ _; have := HX.out.1; omega)
  have HRC := Lib.hid hrc
  have hf13 : Fp Non w w3 := (HF.out.1.then HF2.out.1).trans hf3 (fun k hk => .inr (by have h1 := HF2.out.2 k hk; have h2 := HF.out.1.size; omega))
  have ha3' : s3.acts ≤ 2 := ha3
  have H3 := Lib.hid (And.intro hl3 (And.intro hf13 (And.intro ha3' hus)))
  clear hrc hl3 hf3 hq3 ha3 hc3 hf13 ha3' hus
  go_wp2_with fail
  refine HRC.out.mono ?_
  rintro e w4 ⟨u4, rfl, hf4, hb4⟩
  have hbv := hb4.view (E := fun _ => True) (fun _ _ => trivial) (fun _ _ => trivial)
  obtain ⟨uao, ucap, hue, hcell⟩ := hbv.ex
  have hu4 : u4 = .slice uao rs.length ucap := hue
  have hl4 := H3.out.1.non hf4
  have hsz : sm rs ≤ l.length := Nat.le_trans (sm_le rs) H3.out.2.2.2
  have hlen : rs.length ≤ 10000 := by have h1 := usd_ge rs; have h2 := H3.out.2.2.2; have h3 := HX.out.1; omega
  have hsb : sm rs ≤ 10000 := by have := HX.out.1; omega
  have HC4 := Lib.hid hcell
  have hown3 : ∀ k, own3 b g m k ∨ ownL q v3 k → k < w3.heap.size := fun k hk => by
    rcases hk with hk | hk
    · exact (H3.out.1.d.all k hk).2
    · exact (H3.out.1.lg.all k hk).2
  have H4 := Lib.hid (And.intro hl4 (And.intro hb4 (And.intro (H3.out.2.1.then hf4) (And.intro hsz hown3))))
  have hRB : r.length ≤ 6000 := HX.out.2
  have hLB : l.length ≤ 9000 := HX.out.1
  have HW34 := Lib.hid hf4.size
  rw [hu4] at H4 ⊢
  clear hf4 hb4 hbv hue hu4 hl4 hsz hcell hown3
  go_wp2_with fail
  go_loopw [10, 11] (fun x i wr => ∃ j : Nat, j ≤ rs.length ∧ i = .int .i64 j ∧ x = .int .i64 (sm (rs.take j) : Int) ∧ wr = w4) (fun _ i _ => rs.length - (RowKit.intOf i).toNat)
  case atStart => exact ⟨0, Nat.zero_le _, rfl, rfl, rfl⟩
  case round =>
    obtain ⟨j, hj, rfl, rfl, rfl⟩ := hrel
    have hsj := sm_take_le rs j
    by_cases hlt : j < rs.length
    · obtain ⟨cg, co, rfl, _, hcl⟩ := HC4.out (show 0 < rs.length by omega)
      obtain ⟨x, hx, hsx, _⟩ := hcl j hlt
      have hst := sm_take rs j hlt
      have hs1 := sm_take_le rs (j + 1)
      obtain ⟨xao, xcap, rfl, _, _, _⟩ := hsx.ex
      have hxl : (rs[j]).length ≤ 10000 := by omega
      have hx2 : wr.cell? ⟨cg, co + j, none⟩ = some (.slice xao (rs[j]).length xcap) := hx
      obtain ⟨XL, hXL⟩ : ∃ XL, XL = (rs[j]).length := ⟨_, rfl⟩
      rw [← hXL] at hst hx2 hxl
      clear hsx hx hXL
      have hpb : sm (rs.take j) ≤ 10000 := by omega
      have HST := Lib.hid (And.intro hst (And.intro hs1 hsj))
      obtain ⟨P, hP⟩ : ∃ P, P = sm (rs.take j) := ⟨_, rfl⟩
      rw [← hP] at HST hpb ⊢
      clear hP
      have q3 : ((j : Int) < (rs.length : Int)) = True := eq_true (by omega)
      clear hcl hst hs1 hsj
      go_wp2
      go_roundw
      case rel => exact ⟨j + 1, by omega, by go_num, by rw [HST.out.1]; exact congrArg (Value.int .i64) (by omega), trivial⟩
      case measure => simp [RowKit.intOf]; omega
    · have hje : j = rs.length := by omega
      subst hje
      rw [List.take_length]
      have q3 : ((rs.length : Int) < (rs.length : Int)) = False := eq_false (by omega)
      have hrw : Sl _ rv r := HL.out.2.keep H4.out.2.2.1 (fun _ _ h => h)
      have hrb := HL.out.2.below
      have happ := H4.out.1.append _ _ hrw (fun k hk ho => by have h1 := hrb k hk; have h2 := (H3.out.1.d.all k ho).1; have h3 := HF.out.1.size; omega) (by have := H3.out.2.2.1; omega) (by omega)
      rw [hrv] at happ
      have HA := Lib.hid happ
      have HRW := Lib.hid (And.intro hrw hrb)
      have q9 : ((sm rs : Int) ≤ (l.length : Int)) = True := eq_true (by have := H4.out.2.2.2.1; omega)
      have HSJ := Lib.hid hsj
      clear happ hrw hrb hlt hj hsj
      go_wp2_with fail
      refine HA.out.mono ?_
      rintro e w5 (⟨_, rfl, hS⟩ | ⟨_, rfl, hS⟩)
      · obtain ⟨s6, v6, hl6, hac6, _, _⟩ := hS.ex
        have hac : s6.acts ≤ 6 := by have := H3.out.2.2.1; omega
        have hf6 : Fp Non w w5 := H4.out.2.2.1.trans hS.fp (fun k hk => .inr (by
          rcases hk with hk | hk
          · exact Nat.le_trans HF.out.1.size (H3.out.1.d.all k hk).1
          · exact Nat.le_trans HF.out.1.size (H3.out.1.lg.all k hk).1))
        have hb5 := H4.out.2.1.keep hS.fp (fun k hk ho => by have h1 := (H4.out.2.1.block k hk).1; have h2 := H4.out.2.2.2.2 k ho; omega) (fun k hk ho => by have h1 := hk.1; have h2 := H4.out.2.2.2.2 k ho; omega)
        have hu6 : Bv (fun k => w3.heap.size ≤ k) w5 (.slice uao rs.length ucap) rs := hb5.view (fun k hk => hk.1) (fun k hk => (hb5.block k hk).1)
        have hv6 : ∀ k, w3.heap.size ≤ k → ¬ own3 b g m k := fun k hk ho => by have h2 := H4.out.2.2.2.2 k (.inl ho); omega
        clear hS hb5 hac6
        have hos := open_s hl6.d hl6.gd.dry hl6.gd.has (by omega)
        have HOS := Lib.hid hos
        have H6 := Lib.hid (And.intro hl6 (And.intro hf6 (And.intro hv6 hu6)))
        clear hos hl6 hf6 hv6 hu6
        go_wp2_with fail
        refine HOS.out.mono ?_
        rintro e w7 ⟨⟨q7, s7, v7, rfl, hl7, hq7, _, _, hs7⟩, hf7⟩
        obtain rfl := (hs7 H6.out.1.gd).symm
        have hrc := Records_c hl7.lg (by show usd rs ≤ _; have h1 := hl7.gd.has.fits.1; have h2 := (hl7.gd.lk.few hl7.gd.dry.rt).2; have h3 : usd rs ≤ hf s6.cur := h1; omega)
        have HRC7 := Lib.hid hrc
        have hf17 : Fp Non w w7 := H6.out.2.1.trans hf7 (fun k hk => .inr (Nat.le_trans (Nat.le_trans HF.out.1.size (Nat.le_refl _)) (H6.out.1.d.all k hk).1))
        have HF7 := Lib.hid (And.intro hf7 hf17)
        clear hrc hl7 hq7 hf7 hs7 hf17
        go_wp2_with fail
        refine HRC7.out.mono ?_
        rintro e w8 ⟨u8, rfl, hf8, hb8⟩
        obtain ⟨xao, xcap, rfl⟩ := hb8.shape
        have hvw : Bv (fun _ => True) w8 (.slice xao rs.length xcap) rs := hb8.view (fun _ _ => trivial) (fun _ _ => trivial)
        have hu8 := (H6.out.2.2.2.keep HF7.out.1 (fun k hk ho => H6.out.2.2.1 k hk ho)).keep hf8 (fun _ _ h => h)
        obtain ⟨yao, ycap, hye⟩ := hu8.shape
        skip
        have hsame := Same_c _ _ _ _ w8 hvw hu8 (by have h1 := usd_ge rs; have h2 := H6.out.1.gd.has.fits.1; have h3 := (H6.out.1.gd.lk.few H6.out.1.gd.dry.rt).2; have h4 : usd rs ≤ hf s6.cur := h2; omega)
        have hdt : decide (rs = rs) = true := decide_eq_true rfl
        rw [hdt] at hsame
        skip
        have HSM := Lib.hid hsame
        have HF8 := Lib.hid (HF7.out.2.then hf8)
        clear hvw hu8 hsame hf8 hb8 hye hdt
        skip
        go_wp2_with fail
        refine HSM.out.mono ?_
        rintro e w9 ⟨rfl, hf9⟩
        have HF9 := Lib.hid hf9
        clear hf9
        go_wp2
        all_goals go_ret
        all_goals exact ⟨rfl, HF8.out.then HF9.out⟩
      · obtain ⟨s6, v6, hl6, hac6, _, hat6⟩ := hS.ex
        have HAT := Lib.hid hat6
        clear hat6
        have hac : s6.acts ≤ 6 := by have := H3.out.2.2.1; omega
        have hf6 : Fp Non w w5 := H4.out.2.2.1.trans hS.fp (fun k hk => .inr (by
          rcases hk with hk | hk
          · exact Nat.le_trans HF.out.1.size (H3.out.1.d.all k hk).1
          · exact Nat.le_trans HF.out.1.size (H3.out.1.lg.all k hk).1))
        have hb5 := H4.out.2.1.keep hS.fp (fun k hk ho => by have h1 := (H4.out.2.1.block k hk).1; have h2 := H4.out.2.2.2.2 k ho; omega) (fun k hk ho => by have h1 := hk.1; have h2 := H4.out.2.2.2.2 k ho; omega)
        have hw45 : wr.heap.size ≤ w5.heap.size := hS.fp.size
        have h34 := HW34.out
        have hww5 : w.heap.size ≤ w3.heap.size := H3.out.2.1.size
        have hr5 : Sl w5 (.slice rao r.length rcap) r := by rw [← hrv]; exact HL.out.2.keep hf6 (fun _ _ h => h)
        have hrb5 : ∀ j, (Value.slice rao r.length rcap).ownBlock = some j → j < w.heap.size := by rw [← hrv]; exact HRW.out.2
        have hb6 := hb5.wide (E := fun j => j < w.heap.size ∨ (w3.heap.size ≤ j ∧ j < w5.heap.size)) (fun j hj => .inr ⟨hj.1, by omega⟩)
        have hap := app_bs w5 w3.heap.size _ _ _ _ _ 23 hb6 hr5 (fun j hj => ⟨.inl (hrb5 j hj), fun e => by have h1 := hrb5 j hj; have h2 := (hb5.block j e).1; omega⟩) (by omega) (Nat.le_trans h34 hw45) (fun k hk => by rcases hk with hk | hk <;> omega)
        have HAP := Lib.hid hap
        have hblk := fun k hk => (hb5.block k hk).1
        have HB5 := Lib.hid (And.intro hl6 (And.intro hf6 (And.intro hww5 hblk)))
        clear hS hb5 hac6 hb6 hap hr5 hrb5 hw45 h34 hl6 hf6 hww5 hblk
        go_wp2_with (at_builtin; go_must (refine wpList_app rfl _ _ _ _ rfl _ _ rfl rfl _ HAP.out ?_))
        intro u6 w6 hR6
        have hu6 : Bv (fun k => k < w.heap.size ∨ w3.heap.size ≤ k) w6 u6 (rs ++ [r]) := hR6.bo.view (fun k hk => hk.imp id (fun h => h.1)) (fun k hk => .inr (hR6.bo.block k hk).1)
        have hf56 : Fp (fun k => (Value.slice uao rs.length ucap).ownBlock = some k) w5 w6 := hR6.fp (Fp.refl _ w5) (fun k hk => .inl hk)
        have hl6 : Lw w1.heap.size b g m q s6 ⟨a, rs ++ [r]⟩ v6 w6 := HB5.out.1.keep hf56 (fun k hk ho => by have h1 := HB5.out.2.2.2 k ho; have h2 := H4.out.2.2.2.2 k (.inl hk); omega) (fun k hk ho => by
          have h1 := HB5.out.2.2.2 k ho
          have h2 := (H4.out.2.1.block k ho).2
          rcases hk with hk | hk
          · have h3 := H4.out.2.2.2.2 k (.inr (.inl hk)); omega
          · rcases HAT.out with e | e
            · rw [e] at hk
              have h3 := H4.out.2.2.2.2 k (.inr (.inr hk)); omega
            · have h3 := e k hk; omega)
        have hf6 : Fp Non w w6 := HB5.out.2.1.trans hf56 (fun k hk => .inr (by have h1 := HB5.out.2.2.2 k hk; have h2 := HB5.out.2.2.1; omega))
        have hv6 : ∀ k, (k < w.heap.size ∨ w3.heap.size ≤ k) → ¬ own3 b g m k := fun k hk ho => by
          have h2 := H4.out.2.2.2.2 k (.inl ho)
          have h3 := (H3.out.1.d.all k ho).1
          have h4 := HF.out.1.size
          rcases hk with hk | hk <;> omega
        obtain ⟨zao, zcap, rfl⟩ := hR6.bo.shape
        clear hR6 hf56
        have hos := open_s hl6.d hl6.gd.dry hl6.gd.has (by omega)
        have HOS := Lib.hid hos
        have H6 := Lib.hid (And.intro hl6 (And.intro hf6 (And.intro hv6 hu6)))
        clear hos hl6 hf6 hv6 hu6
        go_wp2_with fail
        refine HOS.out.mono ?_
        rintro e w7 ⟨⟨q7, s7, v7, rfl, hl7, hq7, _, _, hs7⟩, hf7⟩
        obtain rfl := (hs7 H6.out.1.gd).symm
        have hrc := Records_c hl7.lg (by show usd (rs ++ [r]) ≤ _; have h1 := hl7.gd.has.fits.1; have h2 := (hl7.gd.lk.few hl7.gd.dry.rt).2; have h3 : usd (rs ++ [r]) ≤ hf s6.cur := h1; omega)
        have HRC7 := Lib.hid hrc
        have hf17 : Fp Non w w7 := H6.out.2.1.trans hf7 (fun k hk => .inr (Nat.le_trans (Nat.le_trans HF.out.1.size (Nat.le_refl _)) (H6.out.1.d.all k hk).1))
        have HF7 := Lib.hid (And.intro hf7 hf17)
        clear hrc hl7 hq7 hf7 hs7 hf17
        go_wp2_with fail
        refine HRC7.out.mono ?_
        rintro e w8 ⟨u8, rfl, hf8, hb8⟩
        obtain ⟨xao, xcap, rfl⟩ := hb8.shape
        have hvw : Bv (fun _ => True) w8 (.slice xao (rs ++ [r]).length xcap) (rs ++ [r]) := hb8.view (fun _ _ => trivial) (fun _ _ => trivial)
        have hu8 := (H6.out.2.2.2.keep HF7.out.1 (fun k hk ho => H6.out.2.2.1 k hk ho)).keep hf8 (fun _ _ h => h)
        obtain ⟨yao, ycap, hye⟩ := hu8.shape
        skip
        have hsame := Same_c _ _ _ _ w8 hvw hu8 (by have h1 := usd_ge (rs ++ [r]); have h2 := H6.out.1.gd.has.fits.1; have h3 := (H6.out.1.gd.lk.few H6.out.1.gd.dry.rt).2; have h4 : usd (rs ++ [r]) ≤ hf s6.cur := h2; omega)
        have hdt : decide ((rs ++ [r]) = (rs ++ [r])) = true := decide_eq_true rfl
        rw [hdt] at hsame
        simp only [List.length_append, List.length_cons, List.length_nil, Nat.zero_add] at hsame
        have HSM := Lib.hid hsame
        have HF8 := Lib.hid (HF7.out.2.then hf8)
        clear hvw hu8 hsame hf8 hb8 hye hdt
        skip
        go_wp2_with fail
        refine HSM.out.mono ?_
        rintro e w9 ⟨rfl, hf9⟩
        have HF9 := Lib.hid hf9
        clear hf9
        go_wp2
        all_goals go_ret
        all_goals exact ⟨rfl, HF8.out.then HF9.out⟩
theorem WalAny_c (v : Value) (l : Bs) (rv : Value) (r : Bs) (w : World) (hl : Sl w v l) (hr : Sl w rv r) :
    Calls Try.prog 6 #[v, rv] w fun e w' => e = .returned (.bool true) ∧ Fp Non w w' := by
  by_cases h : 1 ≤ l.length / 16 ∧ l.length / 16 ≤ 4096 ∧ l.length % 16 = 0
  · by_cases h5 : l.length ≤ 9000 ∧ r.length ≤ 6000
    · by_cases hh : hf l < 16
      · exact Any_bad v l rv r w hl hr (l.length / 16) h.1 h.2.1 (by omega) h5.1 h5.2 1 (.inl rfl) (by
          unfold lOpen; rw [if_neg (show ¬ (dOf l).off = true from fun h => by cases h), if_pos (show hf (dOf l).cur < 16 from hh)])
      · cases hsg : signed (l.take 16) with
        | none => exact Any_bad v l rv r w hl hr (l.length / 16) h.1 h.2.1 (by omega) h5.1 h5.2 3 (.inr rfl) (by
            unfold lOpen; rw [if_neg (show ¬ (dOf l).off = true from fun h => by cases h), if_neg (show ¬ hf (dOf l).cur < 16 from hh), show (dOf l).cur.take 16 = l.take 16 from rfl, hsg])
        | some a => exact Any_good v l rv r w hl hr (l.length / 16) h.1 h.2.1 (by omega) h5.1 h5.2 a _ ⟨signed_lt hsg, by omega, hsg, rfl⟩
    · exact Any_long v l rv r w hl hr (l.length / 16) h.1 h.2.1 (by omega) (by omega)
  · exact Any_none v l rv r w hl hr h
end Go.Proofs.Ytekhpmeadebdkaa
