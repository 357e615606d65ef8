/- What the laws go by: a log on a disk, good; Same; start. -/
import Derived.Test.YtankfmlafmjaeaaGreatRe
import Derived.Test.YtankfmlafmjaeaaGreatCr
import Derived.OwnWalk
namespace Go.Proofs.YtankfmlafmjaeaaGreat
set_option maxRecDepth 20000
open Go.RowKit Pm

attribute [local irreducible] wpStill

set_option maxHeartbeats 2000000 in
theorem Same_c {D E : Nat → Prop} (v u : Value) (a b : List Bs) (w : World) (hv : Bv D w v a) (hu : Bv E w u b) (ha : a.length ≤ 1000000) :
    Calls Tryz.prog 19 #[v, u] w fun e w' => e = .returned (.bool (decide (a = b))) ∧ Fp Non w w' := by
  obtain ⟨ao, acap, rfl, hca⟩ := hv.ex
  obtain ⟨bo, bcap, rfl, hcb⟩ := hu.ex
  by_cases hl : a.length = b.length
  · have q1 : ((a.length : Int) = (b.length : Int)) = True := eq_true (by omega)
    obtain ⟨r, hr⟩ : ∃ r, r = decide (a = b) := ⟨_, rfl⟩
    rw [← hr]
    have HR0 := Lib.hid hr
    have HX := Lib.hid (And.intro hv (And.intro hu hl))
    have HA := Lib.hid hca
    have HB := Lib.hid hcb
    obtain ⟨n, hn⟩ : ∃ n, n = a.length := ⟨_, rfl⟩
    have hnb : n = b.length := by omega
    rw [← hn, ← hnb]
    have HN := Lib.hid (And.intro hn hnb)
    have hn6 : n ≤ 1000000 := by omega
    clear hv hu hl hr hca hcb q1 hn hnb ha
    go_enter Tryz.func19, Tryz.ntmps19
    go_wp2_with fail
    go_loopw [5] (fun d wr => ∃ k : Nat, k ≤ n ∧ d = .int .i64 k ∧ Hid (Fp Non w wr ∧ ∀ j, j < k → a[j]? = b[j]?)) (fun d _ => n - (RowKit.intOf d).toNat)
    case atStart => exact ⟨0, Nat.zero_le _, rfl, Fp.refl _ _, fun j hj => absurd hj (Nat.not_lt_zero j)⟩
    case round =>
      obtain ⟨k, hk, rfl, hR⟩ := hrel
      rename_i wr _
      by_cases hlt : k < n
      · have hka : k < a.length := by rw [← HN.out.1]; exact hlt
        have hkb : k < b.length := by rw [← HN.out.2]; exact hlt
        obtain ⟨ga, oa, rfl, _, hcella⟩ := HA.out (by omega)
        obtain ⟨gb, ob, rfl, _, hcellb⟩ := HB.out (by omega)
        obtain ⟨xa, hxa, hsa, _⟩ := hcella k hka
        obtain ⟨xb, hxb, hsb, _⟩ := hcellb k hkb
        have hf := hR.out.1.drew
        have c1 : wr.cell? ⟨ga, oa + k, none⟩ = some xa := hR.out.1.cell hxa (fun h => h)
        have c2 : wr.cell? ⟨gb, ob + k, none⟩ = some xb := hR.out.1.cell hxb (fun h => h)
        have k1 := conv_se wr.drew xa _ (hsa.keep hf (fun _ _ _ h => h))
        have k2 := conv_se wr.drew xb _ (hsb.keep hf (fun _ _ _ h => h))
        have hga : a[k]? = some a[k] := List.getElem?_eq_getElem hka
        have hgb : b[k]? = some b[k] := List.getElem?_eq_getElem hkb
        obtain ⟨xao, xac, rfl⟩ := hsa.shape
        obtain ⟨yao, yac, rfl⟩ := hsb.shape
        generalize a[k] = x at *
        generalize b[k] = y at *
        have q1 : ((k : Int) < (n : Int)) = True := eq_true (by omega)
        have q2 : (k < n) = True := eq_true hlt
        have HF := Lib.hid hf
        by_cases hxy : x = y
        · subst hxy
          have hM : Hid (Fp Non w wr.drew ∧ ∀ j, j < k + 1 → a[j]? = b[j]?) := ⟨hf, fun j hj => by
            rcases (show j < k ∨ j = k by omega) with h | rfl
            · exact hR.out.2 j h
            · rw [hga, hgb]⟩
          clear hf hcella hcellb hxa hxb hsa hsb hga hgb hka hkb
          go_wp2_with fail
          refine wp_region_still_lit (by kernel_rfl) (by kernel_rfl) ?_
          change wpStill _ _ wr.drew _ _ _
          repeat still_step
          refine wpStill_nil ?_
          go_wp2
          go_roundw
          case rel => exact ⟨k + 1, by omega, by go_num, hM⟩
          case measure => simp [RowKit.intOf]; omega
        · have hne : ((B x).toList == (B y).toList) = false := by rw [B_eq]; exact decide_eq_false hxy
          have hrf : r = false := by
            rw [HR0.out]
            refine decide_eq_false (fun e => ?_)
            subst e
            rw [hga] at hgb; injection hgb with hgb; exact hxy hgb
          have HRF := Lib.hid hrf
          clear hf hcella hcellb hxa hxb hsa hsb hga hgb hka hkb hrf hxy
          go_wp2_with fail
          refine wp_region_still_lit (by kernel_rfl) (by kernel_rfl) ?_
          change wpStill _ _ wr.drew _ _ _
          repeat still_step
          refine wpStill_nil ?_
          go_wp2
          go_ret
          exact ⟨by rw [HRF.out]; rfl, HF.out⟩
      · have hke : k = n := by omega
        subst hke
        have hrt : r = true := by
          rw [HR0.out]
          refine decide_eq_true (List.ext_getElem? (fun j => ?_))
          by_cases hj : j < k
          · exact hR.out.2 j hj
          · rw [List.getElem?_eq_none (by rw [← HN.out.1]; omega), List.getElem?_eq_none (by rw [← HN.out.2]; omega)]
        have HRT := Lib.hid hrt
        have q1 : ((k : Int) < (k : Int)) = False := eq_false (by omega)
        clear hlt hk hrt
        go_wp2
        go_ret
        exact ⟨by rw [HRT.out]; rfl, hR.out.1⟩
  · have hr : decide (a = b) = false := decide_eq_false (fun e => hl (by rw [e]))
    rw [hr]
    have q1 : ((a.length : Int) = (b.length : Int)) = False := eq_false (by omega)
    have q2 : ((a.length : Int) == (b.length : Int)) = false := beq_eq_false_iff_ne.2 (by omega)
    have q3 : (a.length = b.length) = False := eq_false hl
    have HX := Lib.hid (And.intro hv hu)
    clear hv hu hca hcb hl hr
    go_enter Tryz.func19, Tryz.ntmps19
    go_wp2
    go_ret
    exact ⟨rfl, Fp.refl _ _⟩

/-- A good log on a good disk, both in memory from lo on. -/
structure Lw (lo b g m q : Nat) (s : Dk) (l : Lg) (v : Value) (w : World) : Prop where
  d : Dr lo b g m s w
  lg : Lr lo q b l v w
  ap : apart b g m q v
  gd : Gd s l
theorem Pm.Gd.lk {s : Dk} {l : Lg} (h : Gd s l) : Lk s l := ⟨h.has.big, h.has.ar, h.has.fits.1, h.has.fits.2⟩
section
variable {lo b g m q : Nat} {s : Dk} {l : Lg} {v : Value} {w w' : World}
theorem Lw.keep (h : Lw lo b g m q s l v w) {S : Nat → Prop} (f : Fp S w w') (hd : ∀ k, own3 b g m k → ¬ S k) (hl : ∀ k, ownL q v k → ¬ S k) : Lw lo b g m q s l v w' :=
  ⟨h.d.keep f hd, h.lg.keep f hl, h.ap, h.gd⟩
theorem Lw.non (h : Lw lo b g m q s l v w) (f : Fp Non w w') : Lw lo b g m q s l v w' := h.keep f (fun _ _ h => h) (fun _ _ h => h)
end
def above (lo : Nat) : Nat → Prop := fun k => lo ≤ k

/-- Behind a call of a log, as the laws use it. -/
structure LgS (lo b g m q : Nat) (s : Dk) (l : Lg) (v : Value) (w : World) (l' : Lg) (n : Nat) (w' : World) : Prop where
  ex : ∃ s' v', Lw lo b g m q s' l' v' w' ∧ s'.acts ≤ s.acts + n ∧ s'.cur.length = s.cur.length ∧ (v'.ownBlock = v.ownBlock ∨ ∀ k, v'.ownBlock = some k → w.heap.size ≤ k)
  fp : Fp (fun k => own3 b g m k ∨ ownL q v k) w w'
theorem LgR.apart {b g m q : Nat} {v v' : Value} {w : World} (h : apart b g m q v) (hd : ∀ k, own3 b g m k → k < w.heap.size) (ha : v'.ownBlock = v.ownBlock ∨ ∀ k, v'.ownBlock = some k → w.heap.size ≤ k) : apart b g m q v' := fun k hk ho => by
  rcases ho with rfl | ho
  · exact h k hk (.inl rfl)
  · rcases ha with e | e
    · rw [e] at ho; exact h k hk (.inr ho)
    · have := e k ho; have := hd k hk; omega

theorem Lw.append {lo b g m q : Nat} {s : Dk} {l : Lg} {v : Value} {w : World} (h : Lw lo b g m q s l v w) (bv : Value) (bs : Bs) (hb : Src b g m w bv bs) (ha : s.acts ≤ 900000) (hs : bs.length ≤ 16384) :
    Calls Tryz.prog 15 #[.pointer (some ⟨q, 0, none⟩), bv] w fun e w' =>
      (hf s.cur < usd l.rs + ln bs.length ∧ e = .returned (.int .i64 51) ∧ LgS lo b g m q s l v w l 4 w') ∨ (usd l.rs + ln bs.length ≤ hf s.cur ∧ e = .returned (.int .i64 0) ∧ LgS lo b g m q s l v w ⟨l.ar, l.rs ++ [bs]⟩ 4 w') := by
  refine (Append_c h.d h.lg h.gd.lk h.ap bv bs hb (by omega)).mono ?_
  rintro e w' ⟨rfl, hR⟩
  have hd0 : ∀ k, own3 b g m k → k < w.heap.size := fun k hk => (h.d.all k hk).2
  obtain ⟨v', hl', hat⟩ := hR.l
  by_cases hful : hf s.cur < usd l.rs + ln bs.length
  · have e := append_full (s := s) (l := l) bs hs hful
    rw [e] at hR hl' ⊢
    exact .inl ⟨hful, rfl, ⟨⟨s, v', ⟨hR.d, hl', LgR.apart h.ap hd0 hat, h.gd⟩, by omega, rfl, hat⟩, hR.fp⟩⟩
  · have hc := append_cut h.gd ⟨h.gd.dry.rt, h.gd.dry.on⟩ rfl h.gd.dry.dry bs hs (by omega)
    rcases hc.ways with ⟨h0, h1, h2, _⟩ | ⟨_, _, h2, _⟩
    · have hg := h2 h.gd.dry.fz
      rw [h1] at hR hl'
      refine .inr ⟨by omega, by rw [h0], ⟨⟨_, v', ⟨hR.d, hl', LgR.apart h.ap hd0 hat, hg⟩, hc.acts, hc.len, hat⟩, hR.fp⟩⟩
    · exact absurd h.gd.dry.fz h2

theorem Lw.start {lo b g m q : Nat} {s : Dk} {l : Lg} {v : Value} {w : World} (h : Lw lo b g m q s l v w) (bv : Value) (bs : Bs) (hb : Src b g m w bv bs) (ha : s.acts ≤ 900000) (hs : bs.length ≤ 16384) :
    Calls Tryz.prog 17 #[.pointer (some ⟨q, 0, none⟩), bv] w fun e w' =>
      (hf s.cur < ln bs.length ∧ e = .returned (.int .i64 51) ∧ LgS lo b g m q s l v w l 7 w') ∨ (ln bs.length ≤ hf s.cur ∧ e = .returned (.int .i64 0) ∧ LgS lo b g m q s l v w ⟨1 - l.ar, [bs]⟩ 7 w') := by
  refine (Start_c h.d h.lg h.gd.lk h.ap bv bs hb (by omega)).mono ?_
  rintro e w' ⟨rfl, hR⟩
  have hd0 : ∀ k, own3 b g m k → k < w.heap.size := fun k hk => (h.d.all k hk).2
  obtain ⟨v', hl', hat⟩ := hR.l
  by_cases hful : hf s.cur < ln bs.length
  · have e := start_full (s := s) (l := l) bs hs hful
    rw [e] at hR hl' ⊢
    exact .inl ⟨hful, rfl, ⟨⟨s, v', ⟨hR.d, hl', LgR.apart h.ap hd0 hat, h.gd⟩, by omega, rfl, hat⟩, hR.fp⟩⟩
  · have hc := start_cut h.gd ⟨h.gd.dry.rt, h.gd.dry.on⟩ rfl h.gd.dry.dry bs hs (by omega)
    rcases hc.ways with ⟨h0, h1, h2, _⟩ | ⟨_, _, h2, _⟩
    · have hg := h2 h.gd.dry.fz
      rw [h1] at hR hl'
      refine .inr ⟨by omega, by rw [h0], ⟨⟨_, v', ⟨hR.d, hl', LgR.apart h.ap hd0 hat, hg⟩, hc.acts, hc.len, hat⟩, hR.fp⟩⟩
    · exact absurd h.gd.dry.fz h2

theorem Lr.low' {lo lo' q b : Nat} {l : Lg} {v : Value} {w : World} (h : Lr lo' q b l v w) (hl : lo ≤ lo') : Lr lo q b l v w := ⟨Nat.le_trans hl h.low, h.blk, h.os.low hl, h.ne⟩

/-- Open, of a disk with a good log. -/
structure OpS (lo b g m : Nat) (s : Dk) (a : Nat) (rs : List Bs) (w : World) (e : Ending) (w' : World) : Prop where
  ex : ∃ q s' v, e = .returned (.tuple #[.pointer (some ⟨q, 0, none⟩), .int .i64 0]) ∧ Lw lo b g m q s' ⟨a, rs⟩ v w' ∧ (∀ k, ownL q v k → w.heap.size ≤ k) ∧ s'.acts ≤ s.acts + 2 ∧ s'.cur.length = s.cur.length ∧ (Gd s ⟨a, rs⟩ → s' = s)
  fp : Fp (own3 b g m) w w'
theorem open_s {lo b g m : Nat} {s : Dk} {a : Nat} {rs : List Bs} {w : World} (hd : Dr lo b g m s w) (hdry : Dry s) (hh : Has s.cur a rs) (ha : s.acts ≤ 900000) :
    Calls Tryz.prog 8 #[.pointer (some ⟨b, 0, none⟩)] w (OpS lo b g m s a rs w) := by
  obtain ⟨s', e, hg, hac, hlen⟩ := open_dry hdry hh
  refine (Open_c hd (by omega)).mono ?_
  rintro e' w' ⟨pv, rfl, hR⟩
  obtain ⟨q, v, rfl, hl⟩ := hR.yes ⟨a, rs⟩ (by rw [e])
  have hd2 := hR.d
  have hall := hd.all
  rw [e] at hd2 ⊢
  have hlb := hd.low.1
  have hlt := (hd.all b (.inl rfl)).2
  refine ⟨⟨q, s', v, rfl, ⟨hd2, hl.low' (by omega), fun k hk ho => by have h1 := (hl.all k ho).1; have h2 := (hall k hk).2; omega, hg⟩, fun k hk => (hl.all k hk).1, hac, hlen, fun h => ?_⟩, hR.fp⟩
  have := open_gd h
  rw [e] at this
  injection this with _ h2
  injection h2 with _ h3

set_option maxHeartbeats 1000000 in
theorem lstart_c (n : Nat) (h1 : 3 ≤ n) (h2 : n ≤ 4096) (w : World) :
    Calls Tryz.prog 24 #[.int .i64 (n : Int)] w fun e w' => ∃ b g m q v, e = .returned (.tuple #[.pointer (some ⟨b, 0, none⟩), .pointer (some ⟨q, 0, none⟩), .bool true]) ∧ Lw w.heap.size b g m q (dOf (zr (n * 16))) ⟨0, []⟩ v w' ∧ Fp Non w w' := by
  have hn := New_c w.heap.size w n (by omega) h2 (Nat.le_refl _)
  have hg := open_new n h1 h2
  have HN := Lib.hid hn
  have HG := Lib.hid hg
  clear hn hg
  go_enter Tryz.func24, Tryz.ntmps24
  go_wp2_with fail
  refine HN.out.mono ?_
  rintro e w1 ⟨b, g, m, rfl, hd, hf1, hown⟩
  have ho := open_s (rs := []) (a := 0) hd HG.out.dry HG.out.has (by show (0 : Nat) ≤ _; omega)
  have HO := Lib.hid ho
  have HF := Lib.hid (And.intro hf1 hown)
  clear ho hd hf1 hown
  go_wp2_with fail
  refine HO.out.mono ?_
  rintro e w2 ⟨⟨q, s', v, rfl, hl, hq, _, _, hs⟩, hf2⟩
  have hse := hs HG.out
  subst hse
  have HL := Lib.hid (And.intro hl (HF.out.1.trans hf2 (fun k hk => .inr (HF.out.2 k hk))))
  clear hl hq hf2 hs
  go_wp2
  all_goals (go_ret3; exact ⟨b, g, m, q, v, rfl, HL.out.1, HL.out.2⟩)
end Go.Proofs.YtankfmlafmjaeaaGreat
