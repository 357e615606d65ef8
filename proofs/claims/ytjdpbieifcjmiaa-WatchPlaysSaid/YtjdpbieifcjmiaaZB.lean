/- Texts of this proof, merged. -/
import Derived.Test.YtjdpbieifcjmiaaZA
import Derived.Deep.CutRange
import Derived.Deep.Upon
/- The document's put (gen_zt.py) -/
namespace Go.Proofs.Ytjdpbieifcjmiaa
set_option maxRecDepth 20000
set_option linter.unusedVariables false
set_option linter.unusedSimpArgs false
open Go.RowKit Pm


/-- What put answers. -/
structure PuR (d : Wd) (s : Se) (w : World) (e : Ending) (w' : World) : Prop where
  ex : ∃ u, e = .returned u ∧ WdR w' u ⟨d.ws, putS d.ss s⟩
  fp : Fp Non w w'
/-- Between two rounds: what is out lies in a row of the call's own. -/
structure PuI (W0 : World) (L : List Sv) (s : Sv) (a : List Sv × Bool) (out : Value) (W : World) : Prop where
  own : OwV W0.heap.size W out a.1
  fp : Fp Non W0 W
theorem PuI.app {W0 : World} {L : List Sv} {s : Sv} {a a2 : List Sv × Bool} {out : Value} {W : World} (h : PuI W0 L s a out W) (x : Sv) (hn : a.1.length ≤ 50000) (h2 : a2.1 = a.1 ++ [x]) (ty : TypeId) :
    ∃ v' w', (Builtin.append_ #[TLV, TLV] ty #[out, .slice (some ⟨W.heap.size, 0, none⟩) 1 1]).run Try.prog (W.alloc (.cells #[.int .i64 x.s.num, .int .i64 x.s.count, x.ev] TV)) = .ok v' w' ∧ PuI W0 L s a2 v' w' := by
  obtain ⟨v', w', hr, ho, hf⟩ := app_sv W W0.heap.size out a.1 x ty h.own hn h.fp.size
  exact ⟨v', w', hr, by rw [h2]; exact ho, h.fp.over hf (fun k hk => h.own.low k hk)⟩
theorem PuI.to {W0 : World} {L : List Sv} {s : Sv} {a a2 : List Sv × Bool} {out : Value} {W W' : World} (h : PuI W0 L s a out W) (f : Fp Non W W') (h2 : a2.1 = a.1) : PuI W0 L s a2 out W' :=
  ⟨by rw [h2]; exact h.own.non f, h.fp.then f⟩

/-- What put answers, and where it lies. -/
structure PuX (vw : Value) (L : List Sv) (s : Sv) (ss : List Se) (w : World) (e : Ending) (w' : World) : Prop where
  ex : ∃ out L', e = .returned (.agg #[vw, out]) ∧ L'.map Sv.s = putS ss s.s ∧ NsV w' out L' ∧ (∀ k, out.ownBlock = some k → w.heap.size ≤ k) ∧ ∀ y ∈ L', y = s ∨ y ∈ L
  fp : Fp Non w w'

set_option maxHeartbeats 16000000 in
theorem rput_x (vw vs : Value) (d : Wd) (L : List Sv) (s : Sv) (w : World) (hw : NsW w vw d.ws) (hL : L.map Sv.s = d.ss) (hV : NsV w vs L) (hE : ∀ x ∈ L, NsE w x.ev x.s.evs) (hs : NsE w s.ev s.s.evs) (ha : d.ss.Pairwise (fun a b => a.num < b.num)) (hz : d.ss.length ≤ 20000) :
    Calls Try.prog 30 #[.agg #[vw, vs], .agg #[.int .i64 s.s.num, .int .i64 s.s.count, s.ev]] w (PuX vw L s d.ss w) := by
  obtain ⟨aw, cw, rfl⟩ := hw.shape
  obtain ⟨at_, cs, rfl⟩ := hV.shape
  obtain ⟨⟨sn, sk, se⟩, sa, sc⟩ := s
  unfold Sv.ev at hs ⊢
  simp only at hs ⊢
  obtain ⟨n, hn⟩ : ∃ n, n = d.ws.length := ⟨_, rfl⟩
  obtain ⟨m, hm⟩ : ∃ n, n = L.length := ⟨_, rfl⟩
  obtain ⟨sl, hsl⟩ : ∃ n, n = se.length := ⟨_, rfl⟩
  have hmb : m ≤ 20000 := by rw [hm]; rw [← hL, List.length_map] at hz; exact hz
  rw [← hn] at hw ⊢
  rw [← hm] at hV ⊢
  rw [← hsl] at hs ⊢
  have HX := Lib.hid (And.intro hm (And.intro hL (And.intro hw (And.intro hV (And.intro hE (And.intro hs (And.intro ha (And.intro hn hsl))))))))
  have f0 := (Fp.then (Fp.then (fp_alloc w (.cells #[.slice aw n cw, .slice at_ m cs] TD)) (fp_alloc _ (.cells #[.int .i64 sn, .int .i64 sk, .slice sa sl sc] TV))) (fp_alloc _ (.cells #[.slice none 0 0, .slice none 0 0] TD)))
  have r0 := ((Fp.then (fp_alloc (World.alloc w (.cells #[.slice aw n cw, .slice at_ m cs] TD)) (.cells #[.int .i64 sn, .int .i64 sk, .slice sa sl sc] TV)) (fp_alloc _ (.cells #[.slice none 0 0, .slice none 0 0] TD)))).heap (heap_alloc_new w (.cells #[.slice aw n cw, .slice at_ m cs] TD)) (fun h => h)
  have r1 := ((fp_alloc (World.alloc (World.alloc w (.cells #[.slice aw n cw, .slice at_ m cs] TD)) (.cells #[.int .i64 sn, .int .i64 sk, .slice sa sl sc] TV)) (.cells #[.slice none 0 0, .slice none 0 0] TD))).heap (heap_alloc_new (World.alloc w (.cells #[.slice aw n cw, .slice at_ m cs] TD)) (.cells #[.int .i64 sn, .int .i64 sk, .slice sa sl sc] TV)) (fun h => h)
  have sz1 : ((World.alloc w (.cells #[.slice aw n cw, .slice at_ m cs] TD))).heap.size = w.heap.size + 1 := by simp
  rw [sz1] at r1
  have r2 := heap_alloc_new (World.alloc (World.alloc w (.cells #[.slice aw n cw, .slice at_ m cs] TD)) (.cells #[.int .i64 sn, .int .i64 sk, .slice sa sl sc] TV)) (.cells #[.slice none 0 0, .slice none 0 0] TD)
  have sz2 : ((World.alloc (World.alloc w (.cells #[.slice aw n cw, .slice at_ m cs] TD)) (.cells #[.int .i64 sn, .int .i64 sk, .slice sa sl sc] TV))).heap.size = w.heap.size + 1 + 1 := by simp
  rw [sz2] at r2
  have K0 := Lib.hid (Kp.and (Kp.row r0) (Kp.and (Kp.row r1) (Kp.and (Kp.row r2) (Kp.fp f0))))
  have HSZ := Lib.hid (show ((World.alloc (World.alloc (World.alloc w (.cells #[.slice aw n cw, .slice at_ m cs] TD)) (.cells #[.int .i64 sn, .int .i64 sk, .slice sa sl sc] TV)) (.cells #[.slice none 0 0, .slice none 0 0] TD))).heap.size = w.heap.size + 1 + 1 + 1 by simp)
  clear f0 r0 r1 r2 sz1 sz2
  clear hw hV hE hL hs ha hz hn hm hsl
  obtain ⟨p0, p1⟩ := boxP2 K0.out.now.1
  go_enter Try.func30, Try.ntmps30
  go_wp2_with fail
  generalize (World.alloc (World.alloc (World.alloc w (.cells #[.slice aw n cw, .slice at_ m cs] TD)) (.cells #[.int .i64 sn, .int .i64 sk, .slice sa sl sc] TV)) (.cells #[.slice none 0 0, .slice none 0 0] TD)) = W0 at *
  go_loopw [5, 6, 7] (fun o dn i wr => ∃ k : Nat, k ≤ m ∧ i = .int .i64 k ∧ ∃ ol : List Sv, ∃ db : Bool, dn = .bool db ∧ ∃ oa om oc, o = .slice oa om oc ∧ Hid ((L.take k).foldl (stp ⟨⟨sn, sk, se⟩, sa, sc⟩) ([], false) = (ol, db) ∧ PuI W0 L ⟨⟨sn, sk, se⟩, sa, sc⟩ (ol, db) (.slice oa om oc) wr)) (fun _ _ i _ => m - (RowKit.intOf i).toNat)
  case atStart => exact ⟨0, Nat.zero_le _, rfl, [], false, rfl, none, 0, 0, rfl, by simp, OwV.nil _ _, Fp.refl _ _⟩
  case round =>
    clear p0 p1
    obtain ⟨k, hk, rfl, ol, db, rfl, oa, om, oc, rfl, hR⟩ := hrel
    rename_i wr _
    have HK := Lib.hid (K0.out.later hR.out.2.fp)
    obtain ⟨p0, p1⟩ := boxP2 HK.out.now.1
    obtain ⟨s0, s1, s2⟩ := boxP3 HK.out.now.2.1
    by_cases hlt : k < m
    · have hkL : k < L.length := by rw [← HX.out.1]; exact hlt
      obtain ⟨g, o, c1, e, _, _, _, hcell⟩ := HX.out.2.2.2.1.at (by omega)
      injection e with e1 e2 e3
      subst e1 e3
      clear e2
      have hndw := hcell k hkL
      have hln := stp_len ⟨⟨sn, sk, se⟩, sa, sc⟩ L k (Nat.le_of_lt hkL)
      have hnx := stp_next ⟨⟨sn, sk, se⟩, sa, sc⟩ L k hkL
      rw [hR.out.1] at hln hnx
      have HNX := Lib.hid hnx
      have HLN := Lib.hid (show ol.length ≤ 40000 by simp only at hln; omega)
      have HL := Lib.hid hlt
      clear hcell hnx hln
      generalize L[k] = x at *
      clear hkL
      obtain ⟨⟨xs, xk, xe⟩, xa, xc⟩ := x
      have HND := Lib.hid hndw
      have hnd := hndw.keep HK.out.now.2.2.2 (fun h => h)
      obtain ⟨xl, hxl⟩ : ∃ n, n = xe.length := ⟨_, rfl⟩
      have c0 := hnd.c0; have c1' := hnd.c1; have c2 := hnd.c2
      unfold Sv.ev at c2
      simp only at c0 c1' c2
      rw [← hxl] at c2
      have HXL := Lib.hid hxl
      have q3 : ((k : Int) < (m : Int)) = True := eq_true (by omega)
      have q4 : (k < m) = True := eq_true hlt
      clear hnd hndw hlt hxl
      cases db with
      | true =>
        by_cases hle : sn ≤ xs
        · by_cases hne : xs = sn
          · have hst : stp ⟨⟨sn, sk, se⟩, sa, sc⟩ (ol, true) ⟨⟨xs, xk, xe⟩, xa, xc⟩ = (ol, true) := by
              unfold stp
              simp [hle, hne]
            have HST := Lib.hid (HNX.out.trans hst)
            clear hst HNX
            have t1 : (sn ≤ xs) = True := eq_true hle
            have t2 : (xs == sn) = true := beq_iff_eq.2 hne
            have t3 : (xs = sn) = True := eq_true hne
            have t4 : (xs != sn) = false := by simp [hne]
            clear hle hne
            go_wp2_with fail
            go_quiet (fail)
            have HI0 := Lib.hid hR.out.2
            go_wp2_with fail
            go_quiet (fail)
            have HI5 := Lib.hid (fun q => And.intro HST.out (hR.out.2.to (a2 := (ol, true)) ((Fp.refl Non wr).drewN q) rfl))
            have hkn := HL.out
            go_wp2
            go_roundw
            case rel => exact ⟨k + 1, by omega, by go_num, _, _, rfl, _, _, _, rfl, HI5.out _⟩
            case measure => simp [RowKit.intOf]; omega
          · have hst : stp ⟨⟨sn, sk, se⟩, sa, sc⟩ (ol, true) ⟨⟨xs, xk, xe⟩, xa, xc⟩ = (ol ++ [⟨⟨xs, xk, xe⟩, xa, xc⟩], true) := by
              unfold stp
              simp [hle, hne]
            have HST := Lib.hid (HNX.out.trans hst)
            clear hst HNX
            have t1 : (sn ≤ xs) = True := eq_true hle
            have t2 : (xs == sn) = false := beq_eq_false_iff_ne.2 hne
            have t3 : (xs = sn) = False := eq_false hne
            have t4 : (xs != sn) = true := by simp [hne]
            clear hle hne
            go_wp2_with fail
            go_quiet (fail)
            have HI0 := Lib.hid hR.out.2
            go_wp2_with fail
            go_quiet (fail)
            have HAQ := Lib.hid (fun q => (hR.out.2.to (a2 := (ol, true)) ((Fp.refl Non wr).drewN q) rfl).app (a2 := (ol ++ [⟨⟨xs, xk, xe⟩, xa, xc⟩], true)) ⟨⟨xs, xk, xe⟩, xa, xc⟩ (by have := HLN.out; simp; omega) (by simp) TLV)
            unfold Sv.ev at HAQ
            simp only at HAQ
            rw [← HXL.out] at HAQ
            go_wp2_with (at_builtin; go_must (refine wpList_app rfl _ _ _ _ rfl _ _ rfl rfl _ (HAQ.out _) ?_))
            intro v5 w5 hR5
            obtain ⟨oa5, om5, oc5, rfl⟩ : ∃ a n c, v5 = .slice a n c := by obtain ⟨a, c, e⟩ := hR5.own.ns.shape; exact ⟨a, _, c, e⟩
            have HI5 := Lib.hid (And.intro HST.out hR5)
            clear hR5 HAQ
            have hkn := HL.out
            go_wp2
            go_roundw
            case rel => exact ⟨k + 1, by omega, by go_num, _, _, rfl, _, _, _, rfl, HI5⟩
            case measure => simp [RowKit.intOf]; omega
        · have hne : ¬ xs = sn := by omega
          have hst : stp ⟨⟨sn, sk, se⟩, sa, sc⟩ (ol, true) ⟨⟨xs, xk, xe⟩, xa, xc⟩ = (ol ++ [⟨⟨xs, xk, xe⟩, xa, xc⟩], true) := by
            unfold stp
            simp [hle, hne]
          have HST := Lib.hid (HNX.out.trans hst)
          clear hst HNX
          have t1 : (sn ≤ xs) = False := eq_false hle
          have t2 : (xs == sn) = false := beq_eq_false_iff_ne.2 hne
          have t3 : (xs = sn) = False := eq_false hne
          have t4 : (xs != sn) = true := by simp [hne]
          clear hle hne
          go_wp2_with fail
          go_quiet (fail)
          have HI0 := Lib.hid hR.out.2
          go_wp2_with fail
          go_quiet (fail)
          have HAQ := Lib.hid (fun q => (hR.out.2.to (a2 := (ol, true)) ((Fp.refl Non wr).drewN q) rfl).app (a2 := (ol ++ [⟨⟨xs, xk, xe⟩, xa, xc⟩], true)) ⟨⟨xs, xk, xe⟩, xa, xc⟩ (by have := HLN.out; simp; omega) (by simp) TLV)
          unfold Sv.ev at HAQ
          simp only at HAQ
          rw [← HXL.out] at HAQ
          go_wp2_with (at_builtin; go_must (refine wpList_app rfl _ _ _ _ rfl _ _ rfl rfl _ (HAQ.out _) ?_))
          intro v5 w5 hR5
          obtain ⟨oa5, om5, oc5, rfl⟩ : ∃ a n c, v5 = .slice a n c := by obtain ⟨a, c, e⟩ := hR5.own.ns.shape; exact ⟨a, _, c, e⟩
          have HI5 := Lib.hid (And.intro HST.out hR5)
          clear hR5 HAQ
          have hkn := HL.out
          go_wp2
          go_roundw
          case rel => exact ⟨k + 1, by omega, by go_num, _, _, rfl, _, _, _, rfl, HI5⟩
          case measure => simp [RowKit.intOf]; omega
      | false =>
        by_cases hle : sn ≤ xs
        · by_cases hne : xs = sn
          · have hst : stp ⟨⟨sn, sk, se⟩, sa, sc⟩ (ol, false) ⟨⟨xs, xk, xe⟩, xa, xc⟩ = (ol ++ [⟨⟨sn, sk, se⟩, sa, sc⟩], true) := by
              unfold stp
              simp [hle, hne]
            have HST := Lib.hid (HNX.out.trans hst)
            clear hst HNX
            have t1 : (sn ≤ xs) = True := eq_true hle
            have t2 : (xs == sn) = true := beq_iff_eq.2 hne
            have t3 : (xs = sn) = True := eq_true hne
            have t4 : (xs != sn) = false := by simp [hne]
            clear hle hne
            go_wp2_with fail
            go_quiet (fail)
            have HI0 := Lib.hid hR.out.2
            have HAP := Lib.hid (fun q => (hR.out.2.to (a2 := (ol, false)) ((Fp.refl Non wr).drewN q) rfl).app (a2 := (ol ++ [⟨⟨sn, sk, se⟩, sa, sc⟩], true)) ⟨⟨sn, sk, se⟩, sa, sc⟩ (by have := HLN.out; simp only; omega) rfl TLV)
            unfold Sv.ev at HAP
            simp only at HAP
            rw [← HX.out.2.2.2.2.2.2.2.2] at HAP
            go_wp2_with (at_builtin; go_must (refine wpList_app rfl _ _ _ _ rfl _ _ rfl rfl _ (HAP.out _) ?_))
            intro v4 w4 hR4
            obtain ⟨oa4, om4, oc4, rfl⟩ : ∃ a n c, v4 = .slice a n c := by obtain ⟨a, c, e⟩ := hR4.own.ns.shape; exact ⟨a, _, c, e⟩
            have HI4 := Lib.hid hR4
            clear hR4 HAP p0 p1 s0 s1 s2 c0 c1' c2
            have HK4 := Lib.hid (K0.out.later HI4.out.fp)
            obtain ⟨p0, p1⟩ := boxP2 HK4.out.now.1
            obtain ⟨s0, s1, s2⟩ := boxP3 HK4.out.now.2.1
            have hnd := HND.out.keep HK4.out.now.2.2.2 (fun h => h)
            have c0 := hnd.c0; have c1' := hnd.c1; have c2 := hnd.c2
            unfold Sv.ev at c2
            simp only at c0 c1' c2
            rw [← HXL.out] at c2
            clear hnd
            go_wp2_with fail
            go_quiet (fail)
            have HI5 := Lib.hid (fun q => And.intro HST.out (HI4.out.to (a2 := (ol ++ [⟨⟨sn, sk, se⟩, sa, sc⟩], true)) ((Fp.refl Non w4).drewN q) rfl))
            have hkn := HL.out
            go_wp2
            go_roundw
            case rel => exact ⟨k + 1, by omega, by go_num, _, _, rfl, _, _, _, rfl, HI5.out _⟩
            case measure => simp [RowKit.intOf]; omega
          · have hst : stp ⟨⟨sn, sk, se⟩, sa, sc⟩ (ol, false) ⟨⟨xs, xk, xe⟩, xa, xc⟩ = (ol ++ [⟨⟨sn, sk, se⟩, sa, sc⟩, ⟨⟨xs, xk, xe⟩, xa, xc⟩], true) := by
              unfold stp
              simp [hle, hne]
            have HST := Lib.hid (HNX.out.trans hst)
            clear hst HNX
            have t1 : (sn ≤ xs) = True := eq_true hle
            have t2 : (xs == sn) = false := beq_eq_false_iff_ne.2 hne
            have t3 : (xs = sn) = False := eq_false hne
            have t4 : (xs != sn) = true := by simp [hne]
            clear hle hne
            go_wp2_with fail
            go_quiet (fail)
            have HI0 := Lib.hid hR.out.2
            have HAP := Lib.hid (fun q => (hR.out.2.to (a2 := (ol, false)) ((Fp.refl Non wr).drewN q) rfl).app (a2 := (ol ++ [⟨⟨sn, sk, se⟩, sa, sc⟩], true)) ⟨⟨sn, sk, se⟩, sa, sc⟩ (by have := HLN.out; simp only; omega) rfl TLV)
            unfold Sv.ev at HAP
            simp only at HAP
            rw [← HX.out.2.2.2.2.2.2.2.2] at HAP
            go_wp2_with (at_builtin; go_must (refine wpList_app rfl _ _ _ _ rfl _ _ rfl rfl _ (HAP.out _) ?_))
            intro v4 w4 hR4
            obtain ⟨oa4, om4, oc4, rfl⟩ : ∃ a n c, v4 = .slice a n c := by obtain ⟨a, c, e⟩ := hR4.own.ns.shape; exact ⟨a, _, c, e⟩
            have HI4 := Lib.hid hR4
            clear hR4 HAP p0 p1 s0 s1 s2 c0 c1' c2
            have HK4 := Lib.hid (K0.out.later HI4.out.fp)
            obtain ⟨p0, p1⟩ := boxP2 HK4.out.now.1
            obtain ⟨s0, s1, s2⟩ := boxP3 HK4.out.now.2.1
            have hnd := HND.out.keep HK4.out.now.2.2.2 (fun h => h)
            have c0 := hnd.c0; have c1' := hnd.c1; have c2 := hnd.c2
            unfold Sv.ev at c2
            simp only at c0 c1' c2
            rw [← HXL.out] at c2
            clear hnd
            go_wp2_with fail
            go_quiet (fail)
            have HAQ := Lib.hid (fun q => (HI4.out.to (a2 := (ol ++ [⟨⟨sn, sk, se⟩, sa, sc⟩], true)) ((Fp.refl Non w4).drewN q) rfl).app (a2 := (ol ++ [⟨⟨sn, sk, se⟩, sa, sc⟩, ⟨⟨xs, xk, xe⟩, xa, xc⟩], true)) ⟨⟨xs, xk, xe⟩, xa, xc⟩ (by have := HLN.out; simp; omega) (by simp) TLV)
            unfold Sv.ev at HAQ
            simp only at HAQ
            rw [← HXL.out] at HAQ
            go_wp2_with (at_builtin; go_must (refine wpList_app rfl _ _ _ _ rfl _ _ rfl rfl _ (HAQ.out _) ?_))
            intro v5 w5 hR5
            obtain ⟨oa5, om5, oc5, rfl⟩ : ∃ a n c, v5 = .slice a n c := by obtain ⟨a, c, e⟩ := hR5.own.ns.shape; exact ⟨a, _, c, e⟩
            have HI5 := Lib.hid (And.intro HST.out hR5)
            clear hR5 HAQ
            have hkn := HL.out
            go_wp2
            go_roundw
            case rel => exact ⟨k + 1, by omega, by go_num, _, _, rfl, _, _, _, rfl, HI5⟩
            case measure => simp [RowKit.intOf]; omega
        · have hne : ¬ xs = sn := by omega
          have hst : stp ⟨⟨sn, sk, se⟩, sa, sc⟩ (ol, false) ⟨⟨xs, xk, xe⟩, xa, xc⟩ = (ol ++ [⟨⟨xs, xk, xe⟩, xa, xc⟩], false) := by
            unfold stp
            simp [hle, hne]
          have HST := Lib.hid (HNX.out.trans hst)
          clear hst HNX
          have t1 : (sn ≤ xs) = False := eq_false hle
          have t2 : (xs == sn) = false := beq_eq_false_iff_ne.2 hne
          have t3 : (xs = sn) = False := eq_false hne
          have t4 : (xs != sn) = true := by simp [hne]
          clear hle hne
          go_wp2_with fail
          go_quiet (fail)
          have HI0 := Lib.hid hR.out.2
          go_wp2_with fail
          go_quiet (fail)
          have HAQ := Lib.hid (fun q => (hR.out.2.to (a2 := (ol, false)) ((Fp.refl Non wr).drewN q) rfl).app (a2 := (ol ++ [⟨⟨xs, xk, xe⟩, xa, xc⟩], false)) ⟨⟨xs, xk, xe⟩, xa, xc⟩ (by have := HLN.out; simp; omega) (by simp) TLV)
          unfold Sv.ev at HAQ
          simp only at HAQ
          rw [← HXL.out] at HAQ
          go_wp2_with (at_builtin; go_must (refine wpList_app rfl _ _ _ _ rfl _ _ rfl rfl _ (HAQ.out _) ?_))
          intro v5 w5 hR5
          obtain ⟨oa5, om5, oc5, rfl⟩ : ∃ a n c, v5 = .slice a n c := by obtain ⟨a, c, e⟩ := hR5.own.ns.shape; exact ⟨a, _, c, e⟩
          have HI5 := Lib.hid (And.intro HST.out hR5)
          clear hR5 HAQ
          have hkn := HL.out
          go_wp2
          go_roundw
          case rel => exact ⟨k + 1, by omega, by go_num, _, _, rfl, _, _, _, rfl, HI5⟩
          case measure => simp [RowKit.intOf]; omega
    · have hke : k = m := by omega
      subst hke
      have q3 : ((k : Int) < (k : Int)) = False := eq_false (by omega)
      have hfo := hR.out.1
      rw [HX.out.1, List.take_length] at hfo
      have hpm := fold_put ⟨⟨sn, sk, se⟩, sa, sc⟩ L [] (by rw [HX.out.2.1]; exact HX.out.2.2.2.2.2.2.1)
      have hmm := stp_mem ⟨⟨sn, sk, se⟩, sa, sc⟩ L ([], false)
      rw [hfo] at hpm hmm
      rw [HX.out.2.1, List.map_nil, List.nil_append] at hpm
      have hln := stp_len ⟨⟨sn, sk, se⟩, sa, sc⟩ L L.length (Nat.le_refl _)
      rw [List.take_length, hfo] at hln
      have HPM := Lib.hid (And.intro hpm hmm)
      have HLN := Lib.hid (show ol.length ≤ 40000 by have := HX.out.1; simp only at hln; omega)
      clear hfo hpm hmm hln hlt hk
      cases db with
      | true =>
        have HI := Lib.hid hR.out.2
        have row2 := HK.out.now.1
        have row4 := HK.out.now.2.2.1
        have z1 := frozen_at row2 1
        have hx1 := heap_setCell_same wr w.heap.size 1 _ TD (.slice oa om oc) row2
        have f1 := fp_cell wr w.heap.size 1 (.slice oa om oc)
        obtain ⟨v0, v1⟩ := boxP2 hx1
        have g4 := f1.heap row4 (fun e => by have e : w.heap.size + 1 + 1 = w.heap.size := e; omega)
        obtain ⟨t0, t1, t2, t3, t4, t5, hz4, hf4⟩ := two_set g4 (.slice aw n cw) (.slice oa om oc)
        have hfp := (HK.out.now.2.2.2.over f1 (fun j hj => by have hj : j = w.heap.size := hj; omega)).over hf4 (fun j hj => by have hj : j = w.heap.size + 1 + 1 := hj; omega)
        have hov := (HI.out.own.keep f1 (fun j hj e => by have e : j = w.heap.size := e; have := HI.out.own.low j hj; have := HSZ.out; omega)).keep hf4 (fun j hj e => by have e : j = w.heap.size + 1 + 1 := e; have := HI.out.own.low j hj; have := HSZ.out; omega)
        have hwd := And.intro (show List.map Sv.s (ol) = putS d.ss ⟨sn, sk, se⟩ from by have h := HPM.out.1; simpa [fin9] using h) (And.intro hov.ns (And.intro (show ∀ k, (Value.slice oa om oc).ownBlock = some k → w.heap.size ≤ k from fun k hk => by have h1 := HI.out.own.low k hk; have h2 := HSZ.out; omega) (show ∀ y ∈ ol, y = ⟨⟨sn, sk, se⟩, sa, sc⟩ ∨ y ∈ L from fun y hy => by
          have h := HPM.out.2 y
          simp only [List.mem_append, List.mem_singleton, List.not_mem_nil, false_or] at h
          exact h hy)))
        have HE := Lib.hid (And.intro hz4 (And.intro hwd hfp))
        clear hx1 f1 g4 hz4 hf4 hfp hov hwd row2 row4 HI HPM
        go_wp2_with fail
        generalize (World.setCell (World.setCell _ _ _) _ _) = wz at *
        obtain ⟨e0, e1⟩ := boxP2 HE.out.1
        refine bodyPost_ret (v := (.agg #[.slice aw n cw, .slice oa om oc])) (by simp [results, Try.results30, go_sem, e0, e1]) rfl ?_
        exact ⟨⟨_, _, rfl, HE.out.2.1.1, HE.out.2.1.2.1, HE.out.2.1.2.2.1, HE.out.2.1.2.2.2⟩, HE.out.2.2⟩
      | false =>
        have HAP := Lib.hid (hR.out.2.app (a2 := (ol ++ [⟨⟨sn, sk, se⟩, sa, sc⟩], true)) ⟨⟨sn, sk, se⟩, sa, sc⟩ (by have := HLN.out; simp only; omega) rfl TLV)
        unfold Sv.ev at HAP
        simp only at HAP
        rw [← HX.out.2.2.2.2.2.2.2.2] at HAP
        go_wp2_with (at_builtin; go_must (refine wpList_app rfl _ _ _ _ rfl _ _ rfl rfl _ (HAP.out) ?_))
        intro v4 w4 hR4
        obtain ⟨oa4, om4, oc4, rfl⟩ : ∃ a n c, v4 = .slice a n c := by obtain ⟨a, c, e⟩ := hR4.own.ns.shape; exact ⟨a, _, c, e⟩
        have HI4 := Lib.hid hR4
        clear hR4 HAP p0 p1 s0 s1 s2
        have HK4 := Lib.hid (K0.out.later HI4.out.fp)
        obtain ⟨p0, p1⟩ := boxP2 HK4.out.now.1
        have HI := Lib.hid HI4.out
        have row2 := HK4.out.now.1
        have row4 := HK4.out.now.2.2.1
        have z1 := frozen_at row2 1
        have hx1 := heap_setCell_same w4 w.heap.size 1 _ TD (.slice oa4 om4 oc4) row2
        have f1 := fp_cell w4 w.heap.size 1 (.slice oa4 om4 oc4)
        obtain ⟨v0, v1⟩ := boxP2 hx1
        have g4 := f1.heap row4 (fun e => by have e : w.heap.size + 1 + 1 = w.heap.size := e; omega)
        obtain ⟨t0, t1, t2, t3, t4, t5, hz4, hf4⟩ := two_set g4 (.slice aw n cw) (.slice oa4 om4 oc4)
        have hfp := (HK4.out.now.2.2.2.over f1 (fun j hj => by have hj : j = w.heap.size := hj; omega)).over hf4 (fun j hj => by have hj : j = w.heap.size + 1 + 1 := hj; omega)
        have hov := (HI.out.own.keep f1 (fun j hj e => by have e : j = w.heap.size := e; have := HI.out.own.low j hj; have := HSZ.out; omega)).keep hf4 (fun j hj e => by have e : j = w.heap.size + 1 + 1 := e; have := HI.out.own.low j hj; have := HSZ.out; omega)
        have hwd := And.intro (show List.map Sv.s ((ol ++ [⟨⟨sn, sk, se⟩, sa, sc⟩])) = putS d.ss ⟨sn, sk, se⟩ from by have h := HPM.out.1; simpa [fin9] using h) (And.intro hov.ns (And.intro (show ∀ k, (Value.slice oa4 om4 oc4).ownBlock = some k → w.heap.size ≤ k from fun k hk => by have h1 := HI.out.own.low k hk; have h2 := HSZ.out; omega) (show ∀ y ∈ (ol ++ [⟨⟨sn, sk, se⟩, sa, sc⟩]), y = ⟨⟨sn, sk, se⟩, sa, sc⟩ ∨ y ∈ L from fun y hy => by
          have h := HPM.out.2 y
          simp only [List.mem_append, List.mem_singleton, List.not_mem_nil, false_or] at h hy
          rcases hy with hy | hy
          · exact h hy
          · exact .inl hy)))
        have HE := Lib.hid (And.intro hz4 (And.intro hwd hfp))
        clear hx1 f1 g4 hz4 hf4 hfp hov hwd row2 row4 HI HPM
        go_wp2_with fail
        generalize (World.setCell (World.setCell _ _ _) _ _) = wz at *
        obtain ⟨e0, e1⟩ := boxP2 HE.out.1
        refine bodyPost_ret (v := (.agg #[.slice aw n cw, .slice oa4 om4 oc4])) (by simp [results, Try.results30, go_sem, e0, e1]) rfl ?_
        exact ⟨⟨_, _, rfl, HE.out.2.1.1, HE.out.2.1.2.1, HE.out.2.1.2.2.1, HE.out.2.1.2.2.2⟩, HE.out.2.2⟩
theorem rput_c (v : Value) (d : Wd) (s : Sv) (w : World) (hv : WdR w v d) (hs : NsE w s.ev s.s.evs) (ha : d.ss.Pairwise (fun a b => a.num < b.num)) (hz : d.ss.length ≤ 20000) :
    Calls Try.prog 30 #[v, .agg #[.int .i64 s.s.num, .int .i64 s.s.count, s.ev]] w (PuR d s.s w) := by
  obtain ⟨vw, vs, rfl, hw, L, hL, hV, hE⟩ := hv.ex
  refine (rput_x vw vs d L s w hw hL hV hE hs ha hz).mono (fun e w' h => ?_)
  obtain ⟨out, L', rfl, h1, h2, _, h4⟩ := h.ex
  refine ⟨⟨_, rfl, _, _, rfl, hw.non h.fp, L', h1, h2, fun y hy => ?_⟩, h.fp⟩
  rcases h4 y hy with rfl | hy2
  · exact hs.non h.fp
  · exact (hE y hy2).non h.fp
end Go.Proofs.Ytjdpbieifcjmiaa

/- The document's Take (gen_zu.py) -/
namespace Go.Proofs.Ytjdpbieifcjmiaa
set_option maxRecDepth 20000
set_option linter.unusedVariables false
set_option linter.unusedSimpArgs false
open Go.RowKit Pm


/-- Between two rounds: the events that are left lie in a row of the call's own. -/
structure TaI (W0 : World) (l : List Ev) (out : Value) (W : World) : Prop where
  own : OwE W0.heap.size W out l
  fp : Fp Non W0 W
theorem TaI.app {W0 : World} {l : List Ev} {out : Value} {W : World} (h : TaI W0 l out W) (x : Ev) (hn : l.length ≤ 50000) (ty : TypeId) :
    ∃ v' w', (Builtin.append_ #[TLE, TLE] ty #[out, .slice (some ⟨W.heap.size, 0, none⟩) 1 1]).run Try.prog (W.alloc (.cells #[.int .i64 x.num, .int .i64 x.kind, .string (B x.p), .int .i64 x.wt] TE)) = .ok v' w' ∧ TaI W0 (l ++ [x]) v' w' := by
  obtain ⟨v', w', hr, hc⟩ := app_ev W W0.heap.size out l x ty h.own hn h.fp.size
  exact ⟨v', w', hr, hc.own, (h.fp.then (fp_alloc W _)).over hc.fp (fun k hk => h.own.low k hk)⟩
theorem cut_next (u : Int) (l : List Ev) (k : Nat) (hk : k < l.length) : cutE u (l.take (k + 1)) = cutE u (l.take k) ++ if u < l[k].num then [l[k]] else [] := by
  unfold cutE
  rw [List.take_succ_eq_append_getElem hk, List.filter_append]
  congr 1
  by_cases h : u < l[k].num <;> simp [h]

set_option maxHeartbeats 16000000 in
theorem rTake_w (v : Value) (d : Wd) (k u : Int) (w : World) (hv : WdR w v d) (hz : SzD d) (hz2 : d.ss.length ≤ 20000) :
    Calls Try.prog 14 #[v, .int .i64 k, .int .i64 u] w (RetT (takeM d k u).1 (takeM d k u).2.1 (takeM d k u).2.2 w) := by
  obtain ⟨aw, cw, at_, cs, rfl⟩ := hv.vals
  obtain ⟨n, hnn⟩ : ∃ n, n = d.ws.length := ⟨_, rfl⟩
  obtain ⟨m, hmm⟩ : ∃ m, m = d.ss.length := ⟨_, rfl⟩
  rw [← hnn, ← hmm] at hv ⊢
  have f1 := fp_alloc w (.cells #[.slice aw n cw, .slice at_ m cs] TD)
  have f2 := fp_alloc (w.alloc (.cells #[.slice aw n cw, .slice at_ m cs] TD)) (.cells #[.slice none 0 0, .slice none 0 0] TD)
  have r0 := f2.heap (heap_alloc_new w (.cells #[.slice aw n cw, .slice at_ m cs] TD)) (fun h => h)
  have r1 := heap_alloc_new (w.alloc (.cells #[.slice aw n cw, .slice at_ m cs] TD)) (.cells #[.slice none 0 0, .slice none 0 0] TD)
  have sz1 : (w.alloc (.cells #[.slice aw n cw, .slice at_ m cs] TD)).heap.size = w.heap.size + 1 := by simp
  rw [sz1] at r1
  have K0 := Lib.hid (Kp.and (Kp.row r0) (Kp.and (Kp.row r1) (Kp.and (Kp.wd (hv.non (f1.then f2))) (Kp.fp (f1.then f2)))))
  have hrr := fun W (hW : WdR W (.agg #[.slice aw n cw, .slice at_ m cs]) d) => rRight_w (.agg #[.slice aw n cw, .slice at_ m cs]) d W hW hz
  obtain ⟨br, hbr⟩ : ∃ b, rightW d = b := ⟨_, rfl⟩
  rw [hbr] at hrr
  have HRR := Lib.hid hrr
  have HB := Lib.hid (And.intro hbr (And.intro hz (And.intro hz2 (And.intro hnn hmm))))
  obtain ⟨T, hT⟩ : ∃ T, T = takeM d k u := ⟨_, rfl⟩
  rw [← hT]
  have HT := Lib.hid hT
  clear hv hz hz2 hnn hmm r0 r1 sz1 f1 f2 hrr hbr hT
  obtain ⟨p0, p1⟩ := boxP2 K0.out.now.1
  go_enter Try.func14, Try.ntmps14
  go_wp2_with fail
  generalize ((w.alloc (.cells #[.slice aw n cw, .slice at_ m cs] TD)).alloc (.cells #[.slice none 0 0, .slice none 0 0] TD)) = W0 at *
  refine (HRR.out _ K0.out.now.2.2.1).mono ?_
  rintro e w1 ⟨rfl, hf⟩
  have K1 := Lib.hid (K0.out.later hf)
  clear hf p0 p1 HRR
  cases br with
  | false =>
    obtain ⟨t0, t1, t2, t3, t4, t5, hz4, hf4⟩ := two_set K1.out.now.2.1 (.slice none 0 0) (.slice none 0 0)
    have HE := Lib.hid (And.intro hz4 (And.intro (K1.out.now.2.2.2.over hf4 (fun j hj => by have hj : j = w.heap.size + 1 := hj; omega)) hf4))
    clear hz4 hf4
    go_wp2_with fail
    generalize (World.setCell (World.setCell w1 _ _) _ _) = wz at *
    obtain ⟨e0, e1⟩ := boxP2 HE.out.1
    refine bodyPost_ret (v := .tuple #[.agg #[.slice none 0 0, .slice none 0 0], .slice none 0 0, .int .i64 1]) (by simp [results, Try.results14, go_sem, e0, e1]) rfl ?_
    have hT : T = (⟨[], []⟩, [], 1) := by rw [HT.out]; unfold takeM; rw [HB.out.1]; rfl
    rw [hT]
    exact ⟨⟨_, _, _, rfl, NsW.nil _, Ses.nil _, NsE.nil _⟩, HE.out.2.1⟩
  | true =>
    obtain ⟨p0, p1⟩ := boxP2 K1.out.now.1
    go_wp2_with fail
    refine (Find_c (.agg #[.slice aw n cw, .slice at_ m cs]) d k w1 K1.out.now.2.2.1 (by have := HB.out.2.2.1; omega)).mono ?_
    rintro e w2 hR
    have hff := hR.fp
    obtain ⟨ev, rfl, hne⟩ := hR.ex
    obtain ⟨sa, sc, rfl⟩ := hne.shape
    cases hg : getS d.ss k with
    | none =>
      have hT : T = (d, [], 62) := by rw [HT.out]; exact take_none HB.out.1 hg
      have HTT := Lib.hid hT
      have K2 := Lib.hid ((K1.out.later hff).later (fp_alloc w2 (.cells #[.int .i64 (seS d.ss k).num, .int .i64 (seS d.ss k).count, .slice sa (seS d.ss k).evs.length sc] TV)))
      clear hR hne hff K1 p0 p1 hT hg
      generalize seS d.ss k = sq at *
      obtain ⟨p0, p1⟩ := boxP2 K2.out.now.1
      simp only [Option.isSome_none]
      obtain ⟨t0, t1, t2, t3, t4, t5, hz4, hf4⟩ := two_set K2.out.now.2.1 (.slice aw n cw) (.slice at_ m cs)
      have HE := Lib.hid (And.intro hz4 (And.intro (K2.out.now.2.2.2.over hf4 (fun j hj => by have hj : j = w.heap.size + 1 := hj; omega)) hf4))
      clear hz4 hf4
      go_wp2_with fail
      generalize (World.setCell (World.setCell (World.alloc w2 _) _ _) _ _) = wz at *
      obtain ⟨e0, e1⟩ := boxP2 HE.out.1
      refine bodyPost_ret (v := .tuple #[.agg #[.slice aw n cw, .slice at_ m cs], .slice none 0 0, .int .i64 62]) (by simp [results, Try.results14, go_sem, e0, e1]) rfl ?_
      rw [HTT.out]
      obtain ⟨vw, vs, he, h1, h2⟩ := (K2.out.now.2.2.1.off K2.out.now.2.1 HE.out.2.2).ex
      injection he with he
      injection he with he
      simp only [List.cons.injEq, and_true] at he
      obtain ⟨rfl, rfl⟩ := he
      exact ⟨⟨_, _, _, rfl, h1, h2, NsE.nil _⟩, HE.out.2.1⟩
    | some s =>
      have hse := seS_of hg
      have hT := HT.out.trans (take_some (u := u) HB.out.1 hg)
      have hsr := ((right_iff d).1 HB.out.1).2.2.1 s (getS_some hg).1
      have he8 := ((rSe_iff s).1 hsr).2.1.2.2.1
      rw [hse] at hne ⊢
      obtain ⟨sn, sk, se⟩ := s
      simp only at hne he8 hT ⊢
      obtain ⟨sl, hsl⟩ : ∃ n, n = se.length := ⟨_, rfl⟩
      rw [← hsl] at hne ⊢
      have HS := Lib.hid (And.intro hsl (And.intro he8 hT))
      have hbx := heap_alloc_new w2 (.cells #[.int .i64 sn, .int .i64 sk, .slice sa sl sc] TV)
      have K2 := Lib.hid (Kp.and (Kp.row hbx) (Kp.and (Kp.ne (hne.non (fp_alloc w2 (.cells #[.int .i64 sn, .int .i64 sk, .slice sa sl sc] TV)))) ((K1.out.later hff).later (fp_alloc w2 (.cells #[.int .i64 sn, .int .i64 sk, .slice sa sl sc] TV)))))
      have KW := Lib.hid (K1.out.later hff)
      have HA := Lib.hid (fp_alloc w2 (.cells #[.int .i64 sn, .int .i64 sk, .slice sa sl sc] TV))
      have HW2 := Lib.hid (show w.heap.size + 1 < w2.heap.size from (Array.getElem?_eq_some_iff.1 (K1.out.later hff).now.2.1).1)
      clear hR hne hff K1 p0 p1 hT hg hse hsr he8 hsl hbx
      simp only [Option.isSome_some]
      go_wp2_with fail
      generalize (World.alloc w2 _) = W2 at *
      go_loopw [11, 12] (fun o i wr => ∃ j : Nat, j ≤ sl ∧ i = .int .i64 j ∧ ∃ oa om oc, o = .slice oa om oc ∧ Hid (TaI W2 (cutE u (se.take j)) (.slice oa om oc) wr)) (fun _ i _ => sl - (RowKit.intOf i).toNat)
      case atStart => exact ⟨0, Nat.zero_le _, rfl, none, 0, 0, rfl, OwE.nil _ _, Fp.refl _ _⟩
      case round =>
        obtain ⟨j, hj, rfl, oa, om, oc, rfl, hR⟩ := hrel
        rename_i wr _
        have HK := Lib.hid (K2.out.later hR.out.fp)
        obtain ⟨y0, y1, y2⟩ := boxP3 HK.out.now.1
        by_cases hlt : j < sl
        · have hjl : j < se.length := by rw [← HS.out.1]; exact hlt
          obtain ⟨g, o, cap', e, _, _, _, hcell⟩ := (show NsE wr (.slice sa se.length sc) se from by rw [← HS.out.1]; exact HK.out.now.2.1).at (by omega)
          injection e with e1 e2 e3
          subst e1 e3
          clear e2
          have hnd := hcell j hjl
          have hcn := cut_next u se j hjl
          have hcl : (cutE u (se.take j)).length ≤ (se.take j).length := List.length_filter_le _ _
          have HCN := Lib.hid hcn
          have HCL := Lib.hid (show (cutE u (se.take j)).length ≤ 50000 by have := List.length_take_le j se; have := HS.out.2.1; omega)
          clear hcell hcn hcl
          generalize se[j] = x at *
          clear hjl
          obtain ⟨xn, xk, xp, xw⟩ := x
          have c0 := hnd.c0; have c1 := hnd.c1; have c2 := hnd.c2; have c3 := hnd.c3
          unfold strV at c2
          simp only at c0 c1 c2 c3
          have q3 : ((j : Int) < (sl : Int)) = True := eq_true (by omega)
          have q4 : (j < sl) = True := eq_true hlt
          have HL := Lib.hid hlt
          have hjb : sl ≤ 8 := by have := HS.out.2.1; have := HS.out.1; omega
          clear hnd hlt
          by_cases hu : u < xn
          · have q5 : (u < xn) = True := eq_true hu
            have hap := hR.out.app ⟨xn, xk, xp, xw⟩ HCL.out TLE
            have HAP := Lib.hid hap
            simp only [if_pos hu] at HCN
            clear hap hu
            go_wp2_with (at_builtin; go_must (refine wpList_app rfl _ _ _ _ rfl _ _ rfl rfl _ HAP.out ?_))
            intro v4 w4 hR4
            obtain ⟨oa4, om4, oc4, rfl⟩ : ∃ a n c, v4 = .slice a n c := by obtain ⟨a, c, e⟩ := hR4.own.ns.shape; exact ⟨a, _, c, e⟩
            rw [← HCN.out] at hR4
            have HI4 := Lib.hid hR4
            have hjn := HL.out
            clear hR4 HAP
            go_wp2
            go_roundw
            case rel => exact ⟨j + 1, by omega, by go_num, _, _, _, rfl, HI4⟩
            case measure => simp [RowKit.intOf]; omega
          · have q5 : (u < xn) = False := eq_false hu
            simp only [if_neg hu, List.append_nil] at HCN
            have HI4 := Lib.hid (show TaI W2 (cutE u (se.take (j + 1))) (.slice oa om oc) wr by rw [HCN.out]; exact hR.out)
            have hjn := HL.out
            clear hu
            go_wp2
            go_roundw
            case rel => exact ⟨j + 1, by omega, by go_num, _, _, _, rfl, HI4⟩
            case measure => simp [RowKit.intOf]; omega
        · have hje : j = sl := by omega
          subst hje
          have q3 : ((j : Int) < (j : Int)) = False := eq_false (by omega)
          have hcu := hR.out
          rw [show se.take j = se from by rw [HS.out.1, List.take_length]] at hcu
          obtain ⟨_, _, hsh⟩ := hcu.own.ns.shape
          injection hsh with h1 h2 h3
          subst h1 h3
          have row9 := HK.out.now.1
          have hb9 := (Array.getElem?_eq_some_iff.1 K2.out.now.1).1
          have hx1 := heap_setCell_same wr w2.heap.size 2 _ TV (.slice oa om oc) row9
          have f1 := fp_cell wr w2.heap.size 2 (.slice oa om oc)
          have z1 := frozen_at row9 2
          have hf3 := (HA.out.then hcu.fp).over f1 (fun j hj => by have hj : j = w2.heap.size := hj; omega)
          have how := hcu.own.keep f1 (fun j hj e => by have e : j = w2.heap.size := e; have := hcu.own.low j hj; omega)
          have K3 := Lib.hid (KW.out.later hf3)
          have hpu := rput_c (.agg #[.slice aw n cw, .slice at_ m cs]) d ⟨⟨sn, sk, cutE u se⟩, oa, oc⟩ _ K3.out.now.2.2.1 (show NsE _ (.slice oa (cutE u se).length oc) (cutE u se) by rw [← h2]; exact how.ns) ((right_iff d).1 HB.out.1).2.2.2 HB.out.2.2.1
          unfold Sv.ev at hpu
          simp only at hpu
          rw [← h2] at hpu
          have HPU := Lib.hid hpu
          have HOW := Lib.hid (And.intro how (And.intro hb9 h2))
          obtain ⟨v0, v1, v2⟩ := boxP3 hx1
          obtain ⟨p0, p1⟩ := boxP2 K3.out.now.1
          clear hlt hj hcu h2 row9 hb9 hx1 f1 hf3 how hpu
          go_wp2_with fail
          clear v0 v1 v2 p0 p1 y0 y1 y2 z1
          generalize (World.setCell wr _ _) = w3 at *
          refine HPU.out.mono ?_
          rintro e w5 hP
          have hpf := hP.fp
          obtain ⟨uv, rfl, hu⟩ := hP.ex
          obtain ⟨a5, m5, c5, d5, k5, e5, rfl, hm5⟩ : ∃ a m c a2 m2 c2, uv = .agg #[.slice a m c, .slice a2 m2 c2] ∧ True := by
            obtain ⟨a, c, a2, c2, e⟩ := hu.vals
            exact ⟨a, _, c, a2, _, c2, e, trivial⟩
          have row0 := (K3.out.later hpf).now.1
          have row1 := (K3.out.later hpf).now.2.1
          obtain ⟨g0, g1, g2, g3, g4, g5, hz3, hf3⟩ := two_set row0 (.slice a5 m5 c5) (.slice d5 k5 e5)
          have row1' := hf3.heap row1 (fun e => by have e : w.heap.size + 1 = w.heap.size := e; omega)
          obtain ⟨v0, v1⟩ := boxP2 hz3
          have hfp := (K3.out.later hpf).now.2.2.2.over hf3 (fun j hj => by have hj : j = w.heap.size := hj; omega)
          have hlo : ∀ j, (Value.slice oa om oc).ownBlock = some j → w.heap.size + 1 < j := fun j hj => by have := HOW.out.1.low j hj; have := HOW.out.2.1; have := HW2.out; omega
          have ho5 := (HOW.out.1.non hpf).keep hf3 (fun j hj e => by have e : j = w.heap.size := e; have := hlo j hj; omega)
          have HO := Lib.hid (And.intro ho5 (And.intro hlo (hu.off row0 hf3)))
          have HFP := Lib.hid hfp
          have HR1 := Lib.hid row1'
          clear hP hpf hu row0 row1 hz3 hf3 row1' hfp hlo ho5 hm5
          obtain ⟨t0, t1, t2, t3, t4, t5, hz4, hf4⟩ := two_set HR1.out (.slice a5 m5 c5) (.slice d5 k5 e5)
          have HE := Lib.hid (And.intro hz4 (And.intro (HFP.out.over hf4 (fun j hj => by have hj : j = w.heap.size + 1 := hj; omega)) hf4))
          clear hz4 hf4
          go_wp2_with fail
          generalize (World.setCell (World.setCell (World.setCell (World.setCell w5 _ _) _ _) _ _) _ _) = wz at *
          obtain ⟨e0, e1⟩ := boxP2 HE.out.1
          refine bodyPost_ret (v := .tuple #[.agg #[.slice a5 m5 c5, .slice d5 k5 e5], .slice oa om oc, .int .i64 0]) (by simp [results, Try.results14, go_sem, e0, e1]) rfl ?_
          rw [HS.out.2.2]
          obtain ⟨vw, vs, he, h1, h2⟩ := (HO.out.2.2.off HR1.out HE.out.2.2).ex
          injection he with he
          injection he with he
          simp only [List.cons.injEq, and_true] at he
          obtain ⟨rfl, rfl⟩ := he
          exact ⟨⟨_, _, _, rfl, h1, h2, (HO.out.1.keep HE.out.2.2 (fun j hj e => by have e : j = w.heap.size + 1 := e; have := HO.out.2.1 j hj; omega)).ns⟩, HE.out.2.1⟩
end Go.Proofs.Ytjdpbieifcjmiaa

/- The document's Add (gen_zv.py) -/
namespace Go.Proofs.Ytjdpbieifcjmiaa
set_option maxRecDepth 20000
set_option linter.unusedVariables false
set_option linter.unusedSimpArgs false
open Go.RowKit Pm


theorem app_emptyO {w : World} {g lo : Nat} {v : Value} {l : List Wt} (hg : w.heap[g]? = some (.cells #[] TW (0, 0))) (hlo : lo ≤ g) (hv : NsW w v l) (hl : l.length ≤ 100000) (ty : TypeId) :
    ∃ v' w', (Builtin.append_ #[TLW, TLW] ty #[.slice (some ⟨g, 0, none⟩) 0 0, v]).run Try.prog w = .ok v' w' ∧ OwW lo w' v' l ∧ Fp (fun k => k = g) w w' := by
  have hlt : g < w.heap.size := (Array.getElem?_eq_some_iff.1 hg).1
  have hown : OwW lo w (.slice (some ⟨g, 0, none⟩) 0 0) [] := ⟨rfl, .inr ⟨g, 0, #[], rfl, hlo, hg, Nat.le_refl _, Nat.zero_le _, rfl, rfl⟩⟩
  obtain ⟨ao, cap, rfl, h1, h2, h3⟩ := hv.ex
  cases ao with
  | none =>
    obtain rfl : l = [] := by
      rcases h3 with h | ⟨_, _, h, _⟩
      · exact h
      · cases h
    obtain ⟨i, hi, hz, hsz, hby⟩ := info_parts Try.infoW
    exact ⟨_, _, run_append_nothing w TLW TLW ty TW i Try.underlying22 hi _ 0 0 (Nat.le_refl _) _ (Src.ofNil w Try.underlying22 cap), hown, Fp.refl _ _⟩
  | some a =>
    have hx : ∀ i (h : i < l.length) j u, (wtC l[i])[j]? = some u → w.cell? (a.add (i * 4 + j)) = some u := fun i hi j u hu => by
      rcases h3 with h | ⟨g', o, e, _, hc⟩
      · subst h; simp at hi
      · injection e with e; subst e
        have := (hc i hi).get j u hu
        rw [Addr.add_lit] at this ⊢
        rwa [Nat.add_assoc] at this
    obtain ⟨v', w', hr, ho, hgr, _⟩ := app_ownW w lo _ [] l ty a l.length cap hown rfl hx (by simp; omega) (Nat.le_trans hlo (Nat.le_of_lt hlt))
    exact ⟨v', w', hr, ho, (Fp.refl _ w).grown hgr (fun k hk => .inl (by simp [Value.ownBlock] at hk; exact hk.symm))⟩

/-- What stands while the watches are copied, and one added. -/
structure Ast (w0 : World) (ws : List Wt) (x : Wt) (e1 : Option Nat) (r1 : Option Value) (bq : Option Nat) (W : World) : Prop where
  f : Fp Non w0 W
  e1 : ∀ g, e1 = some g → W.heap[g]? = some (.cells #[] TW (0, 0)) ∧ w0.heap.size ≤ g
  r1 : ∀ v, r1 = some v → OwW w0.heap.size W v ws
  bq : ∀ g, bq = some g → W.heap[g]? = some (.cells #[.int .i64 x.s, .int .i64 x.n, .string (B x.p), .bool x.d] TW (0, 0))
theorem Ast.start (w0 : World) (ws : List Wt) (x : Wt) : Ast w0 ws x none none none w0 := ⟨Fp.refl _ _, fun _ h => (by cases h), fun _ h => (by cases h), fun _ h => (by cases h)⟩
theorem Ast.non {w0 : World} {ws : List Wt} {x : Wt} {e1 : Option Nat} {r1 : Option Value} {bq : Option Nat} {W W' : World} (h : Ast w0 ws x e1 r1 bq W) (f : Fp Non W W') : Ast w0 ws x e1 r1 bq W' :=
  ⟨h.f.then f, fun g e => ⟨f.heap (h.e1 g e).1 (fun h => h), (h.e1 g e).2⟩, fun v e => (h.r1 v e).non f, fun g e => f.heap (h.bq g e) (fun h => h)⟩
theorem Ast.b1 {w0 : World} {ws : List Wt} {x : Wt} {r1 : Option Value} {bq : Option Nat} {W : World} (h : Ast w0 ws x none r1 bq W) : Ast w0 ws x (some W.heap.size) r1 bq (W.alloc (.cells #[] TW)) := by
  have k := h.non (fp_alloc W (.cells #[] TW))
  exact ⟨k.f, fun g e => by injection e with e; subst e; exact ⟨heap_alloc_new W (.cells #[] TW), h.f.size⟩, k.r1, k.bq⟩
theorem Ast.b2 {w0 : World} {ws : List Wt} {x : Wt} {e1 : Option Nat} {r1 : Option Value} {W : World} (h : Ast w0 ws x e1 r1 none W) : Ast w0 ws x e1 r1 (some W.heap.size) (W.alloc (.cells #[.int .i64 x.s, .int .i64 x.n, .string (B x.p), .bool x.d] TW)) := by
  have k := h.non (fp_alloc W (.cells #[.int .i64 x.s, .int .i64 x.n, .string (B x.p), .bool x.d] TW))
  exact ⟨k.f, k.e1, k.r1, fun g e => by injection e with e; subst e; exact heap_alloc_new W (.cells #[.int .i64 x.s, .int .i64 x.n, .string (B x.p), .bool x.d] TW)⟩
theorem Ast.a1 {w0 : World} {ws : List Wt} {x : Wt} {g : Nat} {bq : Option Nat} {W : World} (h : Ast w0 ws x (some g) none bq W) {vw : Value} (hv : NsW w0 vw ws) (hl : ws.length ≤ 100000) (ty : TypeId) :
    ∃ v' w', (Builtin.append_ #[TLW, TLW] ty #[.slice (some ⟨g, 0, none⟩) 0 0, vw]).run Try.prog W = .ok v' w' ∧ (∃ a c, v' = .slice a ws.length c) ∧ Ast w0 ws x none (some v') bq w' := by
  obtain ⟨hg, hge⟩ := h.e1 g rfl
  obtain ⟨v', w', hr, hn, hf⟩ := app_emptyO hg hge (hv.non h.f) hl ty
  exact ⟨v', w', hr, hn.ns.shape, h.f.over hf (fun k hk => by have hk : k = g := hk; omega), fun _ h => (by cases h), fun v e => (by injection e with e; subst e; exact hn), fun g2 e => hf.heap (h.bq g2 e) (row_ne hg (h.bq g2 e) (.inl (by simp)))⟩
theorem Ast.a2 {w0 : World} {ws : List Wt} {x : Wt} {v1 : Value} {b : Nat} {W : World} (h : Ast w0 ws x none (some v1) (some b) W) (hl : ws.length ≤ 50000) (ty : TypeId) :
    ∃ v' w', (Builtin.append_ #[TLW, TLW] ty #[v1, .slice (some ⟨b, 0, none⟩) 1 1]).run Try.prog W = .ok v' w' ∧ OwW w0.heap.size w' v' (ws ++ [x]) ∧ Fp Non w0 w' := by
  have hb := h.bq b rfl
  have ho := h.r1 v1 rfl
  obtain ⟨v', w', hr, h1, h2, _⟩ := app_ownW W w0.heap.size v1 ws [x] ty ⟨b, 0, none⟩ 1 1 ho rfl (fun i hi j u hu => by
    have hi0 : i = 0 := by simp at hi; omega
    subst hi0
    rw [Addr.add_lit, cell_of_row _ _ _ _ _ _ hb]
    rw [show 0 + (0 * 4 + j) = j from by omega]
    simpa [wtC, strV] using hu) (by simp; omega) h.f.size
  exact ⟨v', w', hr, h1, h.f.over ((Fp.refl (fun k => v1.ownBlock = some k) W).grown h2 (fun k hk => .inl hk)) (fun k hk => ho.low k hk)⟩

set_option maxHeartbeats 16000000 in
theorem rAdd_w (v : Value) (d : Wd) (x : Wt) (w : World) (hv : WdR w v d) (hz : SzD d) (hz2 : d.ss.length ≤ 20000) (hxp : x.p.length ≤ 1000000) :
    Calls Try.prog 10 #[v, wtV x] w (RetW (addM d x).1 (addM d x).2 w) := by
  obtain ⟨aw, cw, at_, cs, rfl⟩ := hv.vals
  obtain ⟨sx, nx, px, dx⟩ := x
  obtain ⟨n, hnn⟩ : ∃ n, n = d.ws.length := ⟨_, rfl⟩
  obtain ⟨m, hmm⟩ : ∃ m, m = d.ss.length := ⟨_, rfl⟩
  rw [← hnn, ← hmm] at hv ⊢
  have f1 := fp_alloc w (.cells #[.slice aw n cw, .slice at_ m cs] TD)
  have f2 := fp_alloc (w.alloc (.cells #[.slice aw n cw, .slice at_ m cs] TD)) (.cells #[.int .i64 sx, .int .i64 nx, .string (B px), .bool dx] TW)
  have f3 := fp_alloc ((w.alloc (.cells #[.slice aw n cw, .slice at_ m cs] TD)).alloc (.cells #[.int .i64 sx, .int .i64 nx, .string (B px), .bool dx] TW)) (.cells #[.slice none 0 0, .slice none 0 0] TD)
  have r0 := (f2.then f3).heap (heap_alloc_new w (.cells #[.slice aw n cw, .slice at_ m cs] TD)) (fun h => h)
  have r1 := f3.heap (heap_alloc_new (w.alloc (.cells #[.slice aw n cw, .slice at_ m cs] TD)) (.cells #[.int .i64 sx, .int .i64 nx, .string (B px), .bool dx] TW)) (fun h => h)
  have r2 := heap_alloc_new ((w.alloc (.cells #[.slice aw n cw, .slice at_ m cs] TD)).alloc (.cells #[.int .i64 sx, .int .i64 nx, .string (B px), .bool dx] TW)) (.cells #[.slice none 0 0, .slice none 0 0] TD)
  have sz1 : ((w.alloc (.cells #[.slice aw n cw, .slice at_ m cs] TD))).heap.size = w.heap.size + 1 := by simp
  have sz2 : (((w.alloc (.cells #[.slice aw n cw, .slice at_ m cs] TD)).alloc (.cells #[.int .i64 sx, .int .i64 nx, .string (B px), .bool dx] TW))).heap.size = w.heap.size + 1 + 1 := by simp
  rw [sz1] at r1
  rw [sz2] at r2
  have K0 := Lib.hid (Kp.and (Kp.row r0) (Kp.and (Kp.row r1) (Kp.and (Kp.row r2) (Kp.and (Kp.wd (hv.non ((f1.then f2).then f3))) (Kp.fp ((f1.then f2).then f3))))))
  have hrr := fun W (hW : WdR W (.agg #[.slice aw n cw, .slice at_ m cs]) d) => rRight_w (.agg #[.slice aw n cw, .slice at_ m cs]) d W hW hz
  have hrp := fun W => rRight_g px W (sz_of (show px.length ≤ 1000000 from hxp) (by omega))
  obtain ⟨T, hT⟩ : ∃ T, T = addM d ⟨sx, nx, px, dx⟩ := ⟨_, rfl⟩
  rw [← hT]
  unfold addM rWt at hT
  simp only at hT
  obtain ⟨br, hbr⟩ : ∃ b, rightW d = b := ⟨_, rfl⟩
  obtain ⟨q1, hq1⟩ : ∃ b, isN sx = b := ⟨_, rfl⟩
  obtain ⟨q2, hq2⟩ : ∃ b, isN nx = b := ⟨_, rfl⟩
  obtain ⟨q3, hq3⟩ : ∃ b, (split px).isSome = b := ⟨_, rfl⟩
  rw [hbr, hq1, hq2, hq3] at hT
  rw [hbr] at hrr
  rw [hq3] at hrp
  have hn1 := fun W => number_c sx W
  have hn2 := fun W => number_c nx W
  rw [hq1] at hn1
  rw [hq2] at hn2
  have HRR := Lib.hid hrr
  have HRP := Lib.hid hrp
  have HN1 := Lib.hid hn1
  have HN2 := Lib.hid hn2
  have HB := Lib.hid (And.intro hbr (And.intro hz (And.intro hz2 (And.intro hnn hmm))))
  have HT := Lib.hid hT
  clear hv hz hz2 hnn hmm r0 r1 r2 sz1 sz2 f1 f2 f3 hrr hrp hn1 hn2 hbr hq1 hq2 hq3 hT hxp
  obtain ⟨p0, p1⟩ := boxP2 K0.out.now.1
  unfold wtV strV
  go_enter Try.func10, Try.ntmps10
  go_wp2_with fail
  refine (HRR.out _ K0.out.now.2.2.2.1).mono ?_
  rintro e w1 ⟨rfl, hf⟩
  have K1 := Lib.hid (K0.out.later hf)
  clear hf p0 p1 HRR
  cases br with
  | false =>
    obtain ⟨t0, t1, t2, t3, t4, t5, hz4, hf4⟩ := two_set K1.out.now.2.2.1 (.slice none 0 0) (.slice none 0 0)
    have HE := Lib.hid (And.intro hz4 (And.intro (K1.out.now.2.2.2.2.over hf4 (fun j hj => by have hj : j = w.heap.size + 1 + 1 := hj; omega)) hf4))
    clear hz4 hf4
    go_wp2_with fail
    generalize (World.setCell (World.setCell _ _ _) _ _) = wz at *
    obtain ⟨e0, e1⟩ := boxP2 HE.out.1
    refine bodyPost_ret (v := .tuple #[.agg #[.slice none 0 0, .slice none 0 0], .int .i64 1]) (by simp [results, Try.results10, go_sem, e0, e1]) rfl ?_
    rw [show T = (⟨[], []⟩, 1) from by rw [HT.out]; simp]
    exact ⟨⟨_, _, rfl, NsW.nil _, Ses.nil _⟩, HE.out.2.1⟩
  | true =>
    obtain ⟨x0, x1, x2, x3⟩ := boxP4 K1.out.now.2.1
    go_wp2_with fail
    refine (HN1.out _).mono ?_
    rintro e wa ⟨rfl, rfl⟩
    cases q1 with
    | false =>
      obtain ⟨t0, t1, t2, t3, t4, t5, hz4, hf4⟩ := two_set K1.out.now.2.2.1 (.slice none 0 0) (.slice none 0 0)
      have HE := Lib.hid (And.intro hz4 (And.intro (K1.out.now.2.2.2.2.over hf4 (fun j hj => by have hj : j = w.heap.size + 1 + 1 := hj; omega)) hf4))
      clear hz4 hf4
      go_wp2_with fail
      generalize (World.setCell (World.setCell _ _ _) _ _) = wz at *
      obtain ⟨e0, e1⟩ := boxP2 HE.out.1
      refine bodyPost_ret (v := .tuple #[.agg #[.slice none 0 0, .slice none 0 0], .int .i64 1]) (by simp [results, Try.results10, go_sem, e0, e1]) rfl ?_
      rw [show T = (⟨[], []⟩, 1) from by rw [HT.out]; simp]
      exact ⟨⟨_, _, rfl, NsW.nil _, Ses.nil _⟩, HE.out.2.1⟩
    | true =>
      go_wp2_with fail
      refine (HN2.out _).mono ?_
      rintro e wa ⟨rfl, rfl⟩
      cases q2 with
      | false =>
        obtain ⟨t0, t1, t2, t3, t4, t5, hz4, hf4⟩ := two_set K1.out.now.2.2.1 (.slice none 0 0) (.slice none 0 0)
        have HE := Lib.hid (And.intro hz4 (And.intro (K1.out.now.2.2.2.2.over hf4 (fun j hj => by have hj : j = w.heap.size + 1 + 1 := hj; omega)) hf4))
        clear hz4 hf4
        go_wp2_with fail
        generalize (World.setCell (World.setCell _ _ _) _ _) = wz at *
        obtain ⟨e0, e1⟩ := boxP2 HE.out.1
        refine bodyPost_ret (v := .tuple #[.agg #[.slice none 0 0, .slice none 0 0], .int .i64 1]) (by simp [results, Try.results10, go_sem, e0, e1]) rfl ?_
        rw [show T = (⟨[], []⟩, 1) from by rw [HT.out]; simp]
        exact ⟨⟨_, _, rfl, NsW.nil _, Ses.nil _⟩, HE.out.2.1⟩
      | true =>
        go_wp2_with fail
        refine (HRP.out _).mono ?_
        rintro e w2 ⟨rfl, hf⟩
        have K2 := Lib.hid (K1.out.later hf.fp)
        clear hf x0 x1 x2 x3 K1
        cases q3 with
        | false =>
          obtain ⟨t0, t1, t2, t3, t4, t5, hz4, hf4⟩ := two_set K2.out.now.2.2.1 (.slice none 0 0) (.slice none 0 0)
          have HE := Lib.hid (And.intro hz4 (And.intro (K2.out.now.2.2.2.2.over hf4 (fun j hj => by have hj : j = w.heap.size + 1 + 1 := hj; omega)) hf4))
          clear hz4 hf4
          go_wp2_with fail
          generalize (World.setCell (World.setCell w2 _ _) _ _) = wz at *
          obtain ⟨e0, e1⟩ := boxP2 HE.out.1
          refine bodyPost_ret (v := .tuple #[.agg #[.slice none 0 0, .slice none 0 0], .int .i64 1]) (by simp [results, Try.results10, go_sem, e0, e1]) rfl ?_
          rw [show T = (⟨[], []⟩, 1) from by rw [HT.out]; simp]
          exact ⟨⟨_, _, rfl, NsW.nil _, Ses.nil _⟩, HE.out.2.1⟩
        | true =>
          obtain ⟨p0, p1⟩ := boxP2 K2.out.now.1
          obtain ⟨x0, x1, x2, x3⟩ := boxP4 K2.out.now.2.1
          have hfi := rfind_c (.agg #[.slice aw n cw, .slice at_ m cs]) d sx nx w2 K2.out.now.2.2.2.1 (by have := HB.out.2.1.w; omega)
          have HFI := Lib.hid hfi
          clear hfi
          go_wp2_with fail
          refine HFI.out.mono ?_
          rintro e w3 hR
          have K3 := Lib.hid (K2.out.later hR.fp)
          have h64 := ((right_iff d).1 HB.out.1).1
          rcases hR.ex with ⟨hany, rfl⟩ | ⟨i, hi, rfl, hit_⟩
          · have HAN := Lib.hid hany
            clear hany
            clear hR HFI K2 p0 p1 x0 x1 x2 x3
            obtain ⟨p0, p1⟩ := boxP2 K3.out.now.1
            by_cases h6 : n = 64
            · have HTT := Lib.hid (show T = (d, 2) from by rw [HT.out]; simp only [HAN.out, ← HB.out.2.2.2.1, h6]; simp)
              have w9 : ((64 : Int) ≤ (n : Int)) = True := eq_true (by omega)
              have w8 : (64 ≤ n) = True := eq_true (by omega)
              clear h6 h64
              obtain ⟨t0, t1, t2, t3, t4, t5, hz4, hf4⟩ := two_set K3.out.now.2.2.1 (.slice aw n cw) (.slice at_ m cs)
              have HE := Lib.hid (And.intro hz4 (And.intro (K3.out.now.2.2.2.2.over hf4 (fun j hj => by have hj : j = w.heap.size + 1 + 1 := hj; omega)) hf4))
              clear hz4 hf4
              go_wp2_with fail
              generalize (World.setCell (World.setCell _ _ _) _ _) = wz at *
              obtain ⟨e0, e1⟩ := boxP2 HE.out.1
              refine bodyPost_ret (v := .tuple #[.agg #[.slice aw n cw, .slice at_ m cs], .int .i64 2]) (by simp [results, Try.results10, go_sem, e0, e1]) rfl ?_
              rw [HTT.out]
              obtain ⟨vw, vs, he, h1, h2⟩ := (K3.out.now.2.2.2.1.off K3.out.now.2.2.1 HE.out.2.2).ex
              injection he with he
              injection he with he
              simp only [List.cons.injEq, and_true] at he
              obtain ⟨rfl, rfl⟩ := he
              exact ⟨⟨_, _, rfl, h1, h2⟩, HE.out.2.1⟩
            · have HTT := Lib.hid (show T = (⟨d.ws ++ [⟨sx, nx, px, dx⟩], putS d.ss (seS d.ss sx)⟩, 0) from by rw [HT.out]; simp only [HAN.out, ← HB.out.2.2.2.1, h6]; simp)
              have w9 : ((64 : Int) ≤ (n : Int)) = False := eq_false (by have := HB.out.2.2.2.1; omega)
              have w8 : (64 ≤ n) = False := eq_false (by have := HB.out.2.2.2.1; omega)
              have HN6 := Lib.hid (show n < 64 by have := HB.out.2.2.2.1; omega)
              clear h6 h64
              obtain ⟨x0, x1, x2, x3⟩ := boxP4 K3.out.now.2.1
              go_wp2_with fail
              refine (Find_c (.agg #[.slice aw n cw, .slice at_ m cs]) d sx w3 K3.out.now.2.2.2.1 (by have := HB.out.2.2.1; omega)).mono ?_
              rintro e w4 hR
              have hff := hR.fp
              obtain ⟨ev, rfl, hne⟩ := hR.ex
              obtain ⟨sa, sc, rfl⟩ := hne.shape
              obtain ⟨is, his⟩ : ∃ b, (getS d.ss sx).isSome = b := ⟨_, rfl⟩
              rw [his]
              obtain ⟨S, hS⟩ : ∃ S, S = seS d.ss sx := ⟨_, rfl⟩
              rw [← hS] at hne ⊢
              have HS := Lib.hid hS
              obtain ⟨sn, sk, se⟩ := S
              simp only at hne ⊢
              obtain ⟨sl, hsl⟩ : ∃ n, n = se.length := ⟨_, rfl⟩
              rw [← hsl] at hne ⊢
              have HSL := Lib.hid hsl
              have hbx := heap_alloc_new w4 (.cells #[.int .i64 sn, .int .i64 sk, .slice sa sl sc] TV)
              have K4 := Lib.hid (Kp.and (Kp.row hbx) ((Kp.and (Kp.ne hne) (K3.out.later hff)).later (fp_alloc w4 (.cells #[.int .i64 sn, .int .i64 sk, .slice sa sl sc] TV))))
              clear hR hne hff hS his hbx hsl K3 p0 p1 x0 x1 x2 x3
              obtain ⟨y0, y1, y2⟩ := boxP3 K4.out.now.1
              obtain ⟨p0, p1⟩ := boxP2 K4.out.now.2.2.1
              have hpu := fun W (hW : WdR W (.agg #[.slice aw n cw, .slice at_ m cs]) d) (hE : NsE W (.slice sa sl sc) se) => rput_c (.agg #[.slice aw n cw, .slice at_ m cs]) d ⟨⟨sn, sk, se⟩, sa, sc⟩ W hW (show NsE _ (.slice sa se.length sc) se by rw [← HSL.out]; exact hE) ((right_iff d).1 HB.out.1).2.2.2 HB.out.2.2.1
              unfold Sv.ev at hpu
              simp only at hpu
              rw [← HSL.out] at hpu
              have HPU := Lib.hid hpu
              clear hpu
              go_wp2_with fail
              refine (HPU.out _ K4.out.now.2.2.2.2.2.1 K4.out.now.2.1).mono ?_
              rintro e w5 hP
              have hpf := hP.fp
              obtain ⟨uv, rfl, hu⟩ := hP.ex
              obtain ⟨a5, m5, c5, d5, k5, e5, rfl, hm5⟩ : ∃ a m c a2 m2 c2, uv = .agg #[.slice a m c, .slice a2 m2 c2] ∧ m = n := by
                obtain ⟨a, c, a2, c2, e⟩ := hu.vals
                exact ⟨a, _, c, a2, _, c2, e, HB.out.2.2.2.1.symm⟩
              have K5 := Lib.hid (K4.out.later hpf)
              obtain ⟨g0, g1, g2, g3, g4, g5, hz3, hf3⟩ := two_set K5.out.now.2.2.1 (.slice a5 m5 c5) (.slice d5 k5 e5)
              have row1 := hf3.heap K5.out.now.2.2.2.1 (fun e => by have e : w.heap.size + 1 = w.heap.size := e; omega)
              have row2 := hf3.heap K5.out.now.2.2.2.2.1 (fun e => by have e : w.heap.size + 1 + 1 = w.heap.size := e; omega)
              have hfp := K5.out.now.2.2.2.2.2.2.over hf3 (fun j hj => by have hj : j = w.heap.size := hj; omega)
              have hwd := hu.off K5.out.now.2.2.1 hf3
              have K6 := Lib.hid (Kp.and (Kp.row hz3) (Kp.and (Kp.row row1) (Kp.and (Kp.row row2) (Kp.and (Kp.wd hwd) (Kp.fp hfp)))))
              have HM5 := Lib.hid hm5
              clear hP hpf hu hm5 K4 K5 hz3 hf3 row1 row2 hfp hwd y0 y1 y2 p0 p1
              go_upto_region 9 with (fail)
              generalize (World.setCell (World.setCell w5 _ _) _ _) = w6 at *
              have KD := Lib.hid (K6.out.later ((Fp.refl Non w6).drew))
              have HSZ := Lib.hid (show w.heap.size + 1 + 1 < w6.drew.heap.size from (Array.getElem?_eq_some_iff.1 KD.out.now.2.2.1).1)
              have Hq := Lib.hid (fun W (f : Fp Non w6.drew W) => And.intro (boxP2 (KD.out.later f).now.1).1 (boxP4 (KD.out.later f).now.2.1))
              obtain ⟨vw, vs, evv, hvw, hvs⟩ := KD.out.now.2.2.2.1.ex
              injection evv with evv
              injection evv with evv
              simp only [List.cons.injEq, and_true] at evv
              obtain ⟨rfl, rfl⟩ := evv
              have HVW := Lib.hid hvw
              have HNW : Hid (n = d.ws.length) := HB.out.2.2.2.1
              have HLW := Lib.hid (show d.ws.length ≤ 100000 by have := HB.out.2.1.w; omega)
              have ST0 := Lib.hid (Ast.start w6.drew d.ws ⟨sx, nx, px, dx⟩)
              clear hvw hvs
              go_wp2_with fail
              refine wp_region_held_drew (S := (fun w' => w'.cell? ⟨w.heap.size + 1, 0, none⟩ = some (.int .i64 sx) ∧ w'.cell? ⟨w.heap.size + 1, 1, none⟩ = some (.int .i64 nx) ∧ w'.cell? ⟨w.heap.size + 1, 2, none⟩ = some (.string (B px)) ∧ w'.cell? ⟨w.heap.size + 1, 3, none⟩ = some (.bool dx))) (by kernel_rfl) ?_ (fun hHeld => ?_)
              · exact (Hq.out _ (Fp.refl _ _)).2
              generalize w6.drew = q0 at *
              refine tk 1 hHeld ?_
              refine tk 4 hHeld ?_
              refine wpAnyH_ready (rs := [0, 2, 5]) (by kernel_rfl) (by simp) ?_
              refine (AllReadyH.cons (o := ?_) (by simp only [zA, zB, zC] <;> exact rfl) (fun K hK => ?_) (AllReadyH.cons (o := ?_) (by simp only [zA, zB, zC] <;> exact rfl) (fun K hK => ?_) (AllReadyH.cons (o := ?_) (by simp only [zA, zB, zC] <;> exact rfl) (fun K hK => ?_) AllReadyH.nil)))
              · go_simp
                have ST1 := Lib.hid ST0.out.b1
                refine hK.out _ _ (Hq.out _ ST1.out.f).2 (fun hHeld => ?_)
                clear hK K
                try simp only [zP, zN, zS, zT, zU]
                obtain ⟨g1, hg1⟩ : ∃ q, q0.heap.size = q := ⟨_, rfl⟩
                rw [hg1] at ST1 ⊢
                clear hg1
                generalize (q0.alloc (.cells #[] TW)) = z1w at *
                refine wpAnyH_ready (rs := [2, 5]) (by kernel_rfl) (by simp) ?_
                refine (AllReadyH.cons (o := ?_) (by simp only [zA, zB, zC] <;> exact rfl) (fun K hK => ?_) (AllReadyH.cons (o := ?_) (by simp only [zA, zB, zC] <;> exact rfl) (fun K hK => ?_) AllReadyH.nil))
                · have l0 := (Hq.out _ ST1.out.f).1
                  go_simp
                  refine hK.out _ _ (Hq.out _ ST1.out.f).2 (fun hHeld => ?_)
                  clear hK K l0
                  try simp only [zP, zN, zS, zT, zU]
                  refine wpAnyH_ready (rs := [3, 5]) (by kernel_rfl) (by simp) ?_
                  refine (AllReadyH.cons (o := ?_) (by simp only [zA, zB, zC] <;> exact rfl) (fun K hK => ?_) (AllReadyH.cons (o := ?_) (by simp only [zA, zB, zC] <;> exact rfl) (fun K hK => ?_) AllReadyH.nil))
                  · refine step_app rfl _ _ TLW TLW rfl (.slice (some ⟨g1, 0, none⟩) 0 0) (.slice a5 m5 c5) (by first | rfl | simp [Act.eval, Act.put]) (by first | rfl | simp [Act.eval, Act.put]) _ (ST1.out.a1 HVW.out HLW.out _) ?_
                    rintro v3 z3w ⟨⟨a9, c9, rfl⟩, hR⟩
                    rw [← HNW.out] at hR ⊢
                    have ST3 := Lib.hid hR
                    clear hR
                    refine hK.out _ _ (Hq.out _ ST3.out.f).2 (fun hHeld => ?_)
                    clear hK K
                    try simp only [zP, zN, zS, zT, zU]
                    refine wpAnyH_ready (rs := [5]) (by kernel_rfl) (by simp) ?_
                    refine (AllReadyH.cons (o := ?_) (by simp only [zA, zB, zC] <;> exact rfl) (fun K hK => ?_) AllReadyH.nil)
                    go_simp
                    have ST4 := Lib.hid ST3.out.b2
                    refine hK.out _ _ (Hq.out _ ST4.out.f).2 (fun hHeld => ?_)
                    clear hK K
                    try simp only [zP, zN, zS, zT, zU]
                    obtain ⟨bq, hbq⟩ : ∃ q, z3w.heap.size = q := ⟨_, rfl⟩
                    rw [hbq] at ST4 ⊢
                    clear hbq
                    generalize (z3w.alloc (.cells #[.int .i64 sx, .int .i64 nx, .string (B px), .bool dx] TW)) = z4w at *
                    refine wpAnyH_ready (rs := [6]) (by kernel_rfl) (by simp) ?_
                    refine (AllReadyH.cons (o := ?_) (by simp only [zA, zB, zC] <;> exact rfl) (fun K hK => ?_) AllReadyH.nil)
                    refine step_app rfl _ _ TLW TLW rfl (.slice a9 n c9) (.slice (some ⟨bq, 0, none⟩) 1 1) (by first | rfl | simp [Act.eval, Act.put]) (by first | rfl | simp [Act.eval, Act.put]) _ (ST4.out.a2 (by have := HLW.out; have := HN6.out; have := HNW.out; omega) _) ?_
                    rintro v8 w8 ⟨hO8, hF8⟩
                    obtain ⟨a8, m8, c8, rfl⟩ : ∃ a m c, v8 = .slice a m c := by obtain ⟨a, c, e⟩ := hO8.ns.shape; exact ⟨a, _, c, e⟩
                    have HO8 := Lib.hid hO8
                    have HF8 := Lib.hid hF8
                    clear hO8 hF8
                    refine hK.out _ _ (Hq.out _ HF8.out).2 (fun hHeld => ?_)
                    clear hK K
                    try simp only [zP, zN, zS, zT, zU]
                    have K8 := Lib.hid (KD.out.later HF8.out)
                    have rowb := K8.out.now.1
                    have y0 := (boxP2 rowb).1
                    have z0 := frozen_at rowb 0
                    have hx1 := heap_setCell_same w8 w.heap.size 0 _ TD (.slice a8 m8 c8) rowb
                    have f8 := fp_cell w8 w.heap.size 0 (.slice a8 m8 c8)
                    have row2 := f8.heap K8.out.now.2.2.1 (fun e => by have e : w.heap.size + 1 + 1 = w.heap.size := e; omega)
                    have hfp := K8.out.now.2.2.2.2.over f8 (fun j hj => by have hj : j = w.heap.size := hj; omega)
                    have hlo : ∀ j, (Value.slice a8 m8 c8).ownBlock = some j → w.heap.size + 1 + 1 < j := fun j hj => by have h1 := HO8.out.low j hj; have h2 := HSZ.out; omega
                    have how := HO8.out.keep f8 (fun j hj e => by have e : j = w.heap.size := e; have := hlo j hj; omega)
                    have hss := (K8.out.now.2.2.2.1.off rowb f8)
                    have rx := f8.heap K8.out.now.2.1 (fun e => by have e : w.heap.size + 1 = w.heap.size := e; omega)
                    have HXC := Lib.hid (boxP4 rx)
                    have HX := Lib.hid (And.intro hx1 (And.intro row2 (And.intro hfp (And.intro hlo (And.intro how hss)))))
                    clear rx rowb hx1 row2 hfp hlo how hss f8
                    refine tk 7 hHeld ?_
                    refine wpAnyH_ready (rs := [8]) (by kernel_rfl) (by simp) ?_
                    refine (AllReadyH.cons (o := ?_) (by simp only [zA, zB, zC] <;> exact rfl) (fun K hK => ?_) AllReadyH.nil)
                    go_simp
                    refine hK.out _ _ HXC.out (fun hHeld => ?_)
                    clear hK K y0 z0
                    try simp only [zP, zN, zS, zT, zU]
                    refine yD ?_
                    generalize (World.setCell w8 _ _) = w9 at *
                    obtain ⟨v0, v1⟩ := boxP2 HX.out.1
                    obtain ⟨t0, t1, t2, t3, t4, t5, hz4, hf4⟩ := two_set HX.out.2.1 (.slice a8 m8 c8) (.slice d5 k5 e5)
                    have HE := Lib.hid (And.intro hz4 (And.intro (HX.out.2.2.1.over hf4 (fun j hj => by have hj : j = w.heap.size + 1 + 1 := hj; omega)) hf4))
                    clear hz4 hf4
                    go_wp2_with fail
                    generalize (World.setCell (World.setCell w9 _ _) _ _) = wz at *
                    obtain ⟨e0, e1⟩ := boxP2 HE.out.1
                    refine bodyPost_ret (v := .tuple #[.agg #[.slice a8 m8 c8, .slice d5 k5 e5], .int .i64 0]) (by simp [results, Try.results10, go_sem, e0, e1]) rfl ?_
                    rw [HTT.out]
                    obtain ⟨vw2, vs2, he, h1, h2⟩ := (HX.out.2.2.2.2.2.off HX.out.2.1 HE.out.2.2).ex
                    injection he with he
                    injection he with he
                    simp only [List.cons.injEq, and_true] at he
                    obtain ⟨rfl, rfl⟩ := he
                    rw [← HS.out]
                    exact ⟨⟨_, _, rfl, (HX.out.2.2.2.2.1.keep HE.out.2.2 (fun j hj e => by have e : j = w.heap.size + 1 + 1 := e; have := HX.out.2.2.2.1 j hj; omega)).ns, h2⟩, HE.out.2.1⟩
                  · go_simp
                    have ST5 := Lib.hid ST1.out.b2
                    refine hK.out _ _ (Hq.out _ ST5.out.f).2 (fun hHeld => ?_)
                    clear hK K
                    try simp only [zP, zN, zS, zT, zU]
                    obtain ⟨bq, hbq⟩ : ∃ q, z1w.heap.size = q := ⟨_, rfl⟩
                    rw [hbq] at ST5 ⊢
                    clear hbq
                    generalize (z1w.alloc (.cells #[.int .i64 sx, .int .i64 nx, .string (B px), .bool dx] TW)) = z5w at *
                    refine wpAnyH_ready (rs := [3]) (by kernel_rfl) (by simp) ?_
                    refine (AllReadyH.cons (o := ?_) (by simp only [zA, zB, zC] <;> exact rfl) (fun K hK => ?_) AllReadyH.nil)
                    refine step_app rfl _ _ TLW TLW rfl (.slice (some ⟨g1, 0, none⟩) 0 0) (.slice a5 m5 c5) (by first | rfl | simp [Act.eval, Act.put]) (by first | rfl | simp [Act.eval, Act.put]) _ (ST5.out.a1 HVW.out HLW.out _) ?_
                    rintro v6 z6w ⟨⟨a9, c9, rfl⟩, hR⟩
                    rw [← HNW.out] at hR ⊢
                    have ST6 := Lib.hid hR
                    clear hR
                    refine hK.out _ _ (Hq.out _ ST6.out.f).2 (fun hHeld => ?_)
                    clear hK K
                    try simp only [zP, zN, zS, zT, zU]
                    refine wpAnyH_ready (rs := [6]) (by kernel_rfl) (by simp) ?_
                    refine (AllReadyH.cons (o := ?_) (by simp only [zA, zB, zC] <;> exact rfl) (fun K hK => ?_) AllReadyH.nil)
                    refine step_app rfl _ _ TLW TLW rfl (.slice a9 n c9) (.slice (some ⟨bq, 0, none⟩) 1 1) (by first | rfl | simp [Act.eval, Act.put]) (by first | rfl | simp [Act.eval, Act.put]) _ (ST6.out.a2 (by have := HLW.out; have := HN6.out; have := HNW.out; omega) _) ?_
                    rintro v8 w8 ⟨hO8, hF8⟩
                    obtain ⟨a8, m8, c8, rfl⟩ : ∃ a m c, v8 = .slice a m c := by obtain ⟨a, c, e⟩ := hO8.ns.shape; exact ⟨a, _, c, e⟩
                    have HO8 := Lib.hid hO8
                    have HF8 := Lib.hid hF8
                    clear hO8 hF8
                    refine hK.out _ _ (Hq.out _ HF8.out).2 (fun hHeld => ?_)
                    clear hK K
                    try simp only [zP, zN, zS, zT, zU]
                    have K8 := Lib.hid (KD.out.later HF8.out)
                    have rowb := K8.out.now.1
                    have y0 := (boxP2 rowb).1
                    have z0 := frozen_at rowb 0
                    have hx1 := heap_setCell_same w8 w.heap.size 0 _ TD (.slice a8 m8 c8) rowb
                    have f8 := fp_cell w8 w.heap.size 0 (.slice a8 m8 c8)
                    have row2 := f8.heap K8.out.now.2.2.1 (fun e => by have e : w.heap.size + 1 + 1 = w.heap.size := e; omega)
                    have hfp := K8.out.now.2.2.2.2.over f8 (fun j hj => by have hj : j = w.heap.size := hj; omega)
                    have hlo : ∀ j, (Value.slice a8 m8 c8).ownBlock = some j → w.heap.size + 1 + 1 < j := fun j hj => by have h1 := HO8.out.low j hj; have h2 := HSZ.out; omega
                    have how := HO8.out.keep f8 (fun j hj e => by have e : j = w.heap.size := e; have := hlo j hj; omega)
                    have hss := (K8.out.now.2.2.2.1.off rowb f8)
                    have rx := f8.heap K8.out.now.2.1 (fun e => by have e : w.heap.size + 1 = w.heap.size := e; omega)
                    have HXC := Lib.hid (boxP4 rx)
                    have HX := Lib.hid (And.intro hx1 (And.intro row2 (And.intro hfp (And.intro hlo (And.intro how hss)))))
                    clear rx rowb hx1 row2 hfp hlo how hss f8
                    refine tk 7 hHeld ?_
                    refine wpAnyH_ready (rs := [8]) (by kernel_rfl) (by simp) ?_
                    refine (AllReadyH.cons (o := ?_) (by simp only [zA, zB, zC] <;> exact rfl) (fun K hK => ?_) AllReadyH.nil)
                    go_simp
                    refine hK.out _ _ HXC.out (fun hHeld => ?_)
                    clear hK K y0 z0
                    try simp only [zP, zN, zS, zT, zU]
                    refine yD ?_
                    generalize (World.setCell w8 _ _) = w9 at *
                    obtain ⟨v0, v1⟩ := boxP2 HX.out.1
                    obtain ⟨t0, t1, t2, t3, t4, t5, hz4, hf4⟩ := two_set HX.out.2.1 (.slice a8 m8 c8) (.slice d5 k5 e5)
                    have HE := Lib.hid (And.intro hz4 (And.intro (HX.out.2.2.1.over hf4 (fun j hj => by have hj : j = w.heap.size + 1 + 1 := hj; omega)) hf4))
                    clear hz4 hf4
                    go_wp2_with fail
                    generalize (World.setCell (World.setCell w9 _ _) _ _) = wz at *
                    obtain ⟨e0, e1⟩ := boxP2 HE.out.1
                    refine bodyPost_ret (v := .tuple #[.agg #[.slice a8 m8 c8, .slice d5 k5 e5], .int .i64 0]) (by simp [results, Try.results10, go_sem, e0, e1]) rfl ?_
                    rw [HTT.out]
                    obtain ⟨vw2, vs2, he, h1, h2⟩ := (HX.out.2.2.2.2.2.off HX.out.2.1 HE.out.2.2).ex
                    injection he with he
                    injection he with he
                    simp only [List.cons.injEq, and_true] at he
                    obtain ⟨rfl, rfl⟩ := he
                    rw [← HS.out]
                    exact ⟨⟨_, _, rfl, (HX.out.2.2.2.2.1.keep HE.out.2.2 (fun j hj e => by have e : j = w.heap.size + 1 + 1 := e; have := HX.out.2.2.2.1 j hj; omega)).ns, h2⟩, HE.out.2.1⟩
                · go_simp
                  have ST7 := Lib.hid ST1.out.b2
                  refine hK.out _ _ (Hq.out _ ST7.out.f).2 (fun hHeld => ?_)
                  clear hK K
                  try simp only [zP, zN, zS, zT, zU]
                  obtain ⟨bq, hbq⟩ : ∃ q, z1w.heap.size = q := ⟨_, rfl⟩
                  rw [hbq] at ST7 ⊢
                  clear hbq
                  generalize (z1w.alloc (.cells #[.int .i64 sx, .int .i64 nx, .string (B px), .bool dx] TW)) = z7w at *
                  refine wpAnyH_ready (rs := [2]) (by kernel_rfl) (by simp) ?_
                  refine (AllReadyH.cons (o := ?_) (by simp only [zA, zB, zC] <;> exact rfl) (fun K hK => ?_) AllReadyH.nil)
                  have l0 := (Hq.out _ ST7.out.f).1
                  go_simp
                  refine hK.out _ _ (Hq.out _ ST7.out.f).2 (fun hHeld => ?_)
                  clear hK K l0
                  try simp only [zP, zN, zS, zT, zU]
                  refine wpAnyH_ready (rs := [3]) (by kernel_rfl) (by simp) ?_
                  refine (AllReadyH.cons (o := ?_) (by simp only [zA, zB, zC] <;> exact rfl) (fun K hK => ?_) AllReadyH.nil)
                  refine step_app rfl _ _ TLW TLW rfl (.slice (some ⟨g1, 0, none⟩) 0 0) (.slice a5 m5 c5) (by first | rfl | simp [Act.eval, Act.put]) (by first | rfl | simp [Act.eval, Act.put]) _ (ST7.out.a1 HVW.out HLW.out _) ?_
                  rintro v9 z9w ⟨⟨a9, c9, rfl⟩, hR⟩
                  rw [← HNW.out] at hR ⊢
                  have ST9 := Lib.hid hR
                  clear hR
                  refine hK.out _ _ (Hq.out _ ST9.out.f).2 (fun hHeld => ?_)
                  clear hK K
                  try simp only [zP, zN, zS, zT, zU]
                  refine wpAnyH_ready (rs := [6]) (by kernel_rfl) (by simp) ?_
                  refine (AllReadyH.cons (o := ?_) (by simp only [zA, zB, zC] <;> exact rfl) (fun K hK => ?_) AllReadyH.nil)
                  refine step_app rfl _ _ TLW TLW rfl (.slice a9 n c9) (.slice (some ⟨bq, 0, none⟩) 1 1) (by first | rfl | simp [Act.eval, Act.put]) (by first | rfl | simp [Act.eval, Act.put]) _ (ST9.out.a2 (by have := HLW.out; have := HN6.out; have := HNW.out; omega) _) ?_
                  rintro v8 w8 ⟨hO8, hF8⟩
                  obtain ⟨a8, m8, c8, rfl⟩ : ∃ a m c, v8 = .slice a m c := by obtain ⟨a, c, e⟩ := hO8.ns.shape; exact ⟨a, _, c, e⟩
                  have HO8 := Lib.hid hO8
                  have HF8 := Lib.hid hF8
                  clear hO8 hF8
                  refine hK.out _ _ (Hq.out _ HF8.out).2 (fun hHeld => ?_)
                  clear hK K
                  try simp only [zP, zN, zS, zT, zU]
                  have K8 := Lib.hid (KD.out.later HF8.out)
                  have rowb := K8.out.now.1
                  have y0 := (boxP2 rowb).1
                  have z0 := frozen_at rowb 0
                  have hx1 := heap_setCell_same w8 w.heap.size 0 _ TD (.slice a8 m8 c8) rowb
                  have f8 := fp_cell w8 w.heap.size 0 (.slice a8 m8 c8)
                  have row2 := f8.heap K8.out.now.2.2.1 (fun e => by have e : w.heap.size + 1 + 1 = w.heap.size := e; omega)
                  have hfp := K8.out.now.2.2.2.2.over f8 (fun j hj => by have hj : j = w.heap.size := hj; omega)
                  have hlo : ∀ j, (Value.slice a8 m8 c8).ownBlock = some j → w.heap.size + 1 + 1 < j := fun j hj => by have h1 := HO8.out.low j hj; have h2 := HSZ.out; omega
                  have how := HO8.out.keep f8 (fun j hj e => by have e : j = w.heap.size := e; have := hlo j hj; omega)
                  have hss := (K8.out.now.2.2.2.1.off rowb f8)
                  have rx := f8.heap K8.out.now.2.1 (fun e => by have e : w.heap.size + 1 = w.heap.size := e; omega)
                  have HXC := Lib.hid (boxP4 rx)
                  have HX := Lib.hid (And.intro hx1 (And.intro row2 (And.intro hfp (And.intro hlo (And.intro how hss)))))
                  clear rx rowb hx1 row2 hfp hlo how hss f8
                  refine tk 7 hHeld ?_
                  refine wpAnyH_ready (rs := [8]) (by kernel_rfl) (by simp) ?_
                  refine (AllReadyH.cons (o := ?_) (by simp only [zA, zB, zC] <;> exact rfl) (fun K hK => ?_) AllReadyH.nil)
                  go_simp
                  refine hK.out _ _ HXC.out (fun hHeld => ?_)
                  clear hK K y0 z0
                  try simp only [zP, zN, zS, zT, zU]
                  refine yD ?_
                  generalize (World.setCell w8 _ _) = w9 at *
                  obtain ⟨v0, v1⟩ := boxP2 HX.out.1
                  obtain ⟨t0, t1, t2, t3, t4, t5, hz4, hf4⟩ := two_set HX.out.2.1 (.slice a8 m8 c8) (.slice d5 k5 e5)
                  have HE := Lib.hid (And.intro hz4 (And.intro (HX.out.2.2.1.over hf4 (fun j hj => by have hj : j = w.heap.size + 1 + 1 := hj; omega)) hf4))
                  clear hz4 hf4
                  go_wp2_with fail
                  generalize (World.setCell (World.setCell w9 _ _) _ _) = wz at *
                  obtain ⟨e0, e1⟩ := boxP2 HE.out.1
                  refine bodyPost_ret (v := .tuple #[.agg #[.slice a8 m8 c8, .slice d5 k5 e5], .int .i64 0]) (by simp [results, Try.results10, go_sem, e0, e1]) rfl ?_
                  rw [HTT.out]
                  obtain ⟨vw2, vs2, he, h1, h2⟩ := (HX.out.2.2.2.2.2.off HX.out.2.1 HE.out.2.2).ex
                  injection he with he
                  injection he with he
                  simp only [List.cons.injEq, and_true] at he
                  obtain ⟨rfl, rfl⟩ := he
                  rw [← HS.out]
                  exact ⟨⟨_, _, rfl, (HX.out.2.2.2.2.1.keep HE.out.2.2 (fun j hj e => by have e : j = w.heap.size + 1 + 1 := e; have := HX.out.2.2.2.1 j hj; omega)).ns, h2⟩, HE.out.2.1⟩
              · have l0 := (Hq.out _ ST0.out.f).1
                go_simp
                refine hK.out _ _ (Hq.out _ ST0.out.f).2 (fun hHeld => ?_)
                clear hK K l0
                try simp only [zP, zN, zS, zT, zU]
                refine wpAnyH_ready (rs := [0, 5]) (by kernel_rfl) (by simp) ?_
                refine (AllReadyH.cons (o := ?_) (by simp only [zA, zB, zC] <;> exact rfl) (fun K hK => ?_) (AllReadyH.cons (o := ?_) (by simp only [zA, zB, zC] <;> exact rfl) (fun K hK => ?_) AllReadyH.nil))
                · go_simp
                  have ST11 := Lib.hid ST0.out.b1
                  refine hK.out _ _ (Hq.out _ ST11.out.f).2 (fun hHeld => ?_)
                  clear hK K
                  try simp only [zP, zN, zS, zT, zU]
                  obtain ⟨g1, hg1⟩ : ∃ q, q0.heap.size = q := ⟨_, rfl⟩
                  rw [hg1] at ST11 ⊢
                  clear hg1
                  generalize (q0.alloc (.cells #[] TW)) = z11w at *
                  refine wpAnyH_ready (rs := [3, 5]) (by kernel_rfl) (by simp) ?_
                  refine (AllReadyH.cons (o := ?_) (by simp only [zA, zB, zC] <;> exact rfl) (fun K hK => ?_) (AllReadyH.cons (o := ?_) (by simp only [zA, zB, zC] <;> exact rfl) (fun K hK => ?_) AllReadyH.nil))
                  · refine step_app rfl _ _ TLW TLW rfl (.slice (some ⟨g1, 0, none⟩) 0 0) (.slice a5 m5 c5) (by first | rfl | simp [Act.eval, Act.put]) (by first | rfl | simp [Act.eval, Act.put]) _ (ST11.out.a1 HVW.out HLW.out _) ?_
                    rintro v12 z12w ⟨⟨a9, c9, rfl⟩, hR⟩
                    rw [← HNW.out] at hR ⊢
                    have ST12 := Lib.hid hR
                    clear hR
                    refine hK.out _ _ (Hq.out _ ST12.out.f).2 (fun hHeld => ?_)
                    clear hK K
                    try simp only [zP, zN, zS, zT, zU]
                    refine wpAnyH_ready (rs := [5]) (by kernel_rfl) (by simp) ?_
                    refine (AllReadyH.cons (o := ?_) (by simp only [zA, zB, zC] <;> exact rfl) (fun K hK => ?_) AllReadyH.nil)
                    go_simp
                    have ST13 := Lib.hid ST12.out.b2
                    refine hK.out _ _ (Hq.out _ ST13.out.f).2 (fun hHeld => ?_)
                    clear hK K
                    try simp only [zP, zN, zS, zT, zU]
                    obtain ⟨bq, hbq⟩ : ∃ q, z12w.heap.size = q := ⟨_, rfl⟩
                    rw [hbq] at ST13 ⊢
                    clear hbq
                    generalize (z12w.alloc (.cells #[.int .i64 sx, .int .i64 nx, .string (B px), .bool dx] TW)) = z13w at *
                    refine wpAnyH_ready (rs := [6]) (by kernel_rfl) (by simp) ?_
                    refine (AllReadyH.cons (o := ?_) (by simp only [zA, zB, zC] <;> exact rfl) (fun K hK => ?_) AllReadyH.nil)
                    refine step_app rfl _ _ TLW TLW rfl (.slice a9 n c9) (.slice (some ⟨bq, 0, none⟩) 1 1) (by first | rfl | simp [Act.eval, Act.put]) (by first | rfl | simp [Act.eval, Act.put]) _ (ST13.out.a2 (by have := HLW.out; have := HN6.out; have := HNW.out; omega) _) ?_
                    rintro v8 w8 ⟨hO8, hF8⟩
                    obtain ⟨a8, m8, c8, rfl⟩ : ∃ a m c, v8 = .slice a m c := by obtain ⟨a, c, e⟩ := hO8.ns.shape; exact ⟨a, _, c, e⟩
                    have HO8 := Lib.hid hO8
                    have HF8 := Lib.hid hF8
                    clear hO8 hF8
                    refine hK.out _ _ (Hq.out _ HF8.out).2 (fun hHeld => ?_)
                    clear hK K
                    try simp only [zP, zN, zS, zT, zU]
                    have K8 := Lib.hid (KD.out.later HF8.out)
                    have rowb := K8.out.now.1
                    have y0 := (boxP2 rowb).1
                    have z0 := frozen_at rowb 0
                    have hx1 := heap_setCell_same w8 w.heap.size 0 _ TD (.slice a8 m8 c8) rowb
                    have f8 := fp_cell w8 w.heap.size 0 (.slice a8 m8 c8)
                    have row2 := f8.heap K8.out.now.2.2.1 (fun e => by have e : w.heap.size + 1 + 1 = w.heap.size := e; omega)
                    have hfp := K8.out.now.2.2.2.2.over f8 (fun j hj => by have hj : j = w.heap.size := hj; omega)
                    have hlo : ∀ j, (Value.slice a8 m8 c8).ownBlock = some j → w.heap.size + 1 + 1 < j := fun j hj => by have h1 := HO8.out.low j hj; have h2 := HSZ.out; omega
                    have how := HO8.out.keep f8 (fun j hj e => by have e : j = w.heap.size := e; have := hlo j hj; omega)
                    have hss := (K8.out.now.2.2.2.1.off rowb f8)
                    have rx := f8.heap K8.out.now.2.1 (fun e => by have e : w.heap.size + 1 = w.heap.size := e; omega)
                    have HXC := Lib.hid (boxP4 rx)
                    have HX := Lib.hid (And.intro hx1 (And.intro row2 (And.intro hfp (And.intro hlo (And.intro how hss)))))
                    clear rx rowb hx1 row2 hfp hlo how hss f8
                    refine tk 7 hHeld ?_
                    refine wpAnyH_ready (rs := [8]) (by kernel_rfl) (by simp) ?_
                    refine (AllReadyH.cons (o := ?_) (by simp only [zA, zB, zC] <;> exact rfl) (fun K hK => ?_) AllReadyH.nil)
                    go_simp
                    refine hK.out _ _ HXC.out (fun hHeld => ?_)
                    clear hK K y0 z0
                    try simp only [zP, zN, zS, zT, zU]
                    refine yD ?_
                    generalize (World.setCell w8 _ _) = w9 at *
                    obtain ⟨v0, v1⟩ := boxP2 HX.out.1
                    obtain ⟨t0, t1, t2, t3, t4, t5, hz4, hf4⟩ := two_set HX.out.2.1 (.slice a8 m8 c8) (.slice d5 k5 e5)
                    have HE := Lib.hid (And.intro hz4 (And.intro (HX.out.2.2.1.over hf4 (fun j hj => by have hj : j = w.heap.size + 1 + 1 := hj; omega)) hf4))
                    clear hz4 hf4
                    go_wp2_with fail
                    generalize (World.setCell (World.setCell w9 _ _) _ _) = wz at *
                    obtain ⟨e0, e1⟩ := boxP2 HE.out.1
                    refine bodyPost_ret (v := .tuple #[.agg #[.slice a8 m8 c8, .slice d5 k5 e5], .int .i64 0]) (by simp [results, Try.results10, go_sem, e0, e1]) rfl ?_
                    rw [HTT.out]
                    obtain ⟨vw2, vs2, he, h1, h2⟩ := (HX.out.2.2.2.2.2.off HX.out.2.1 HE.out.2.2).ex
                    injection he with he
                    injection he with he
                    simp only [List.cons.injEq, and_true] at he
                    obtain ⟨rfl, rfl⟩ := he
                    rw [← HS.out]
                    exact ⟨⟨_, _, rfl, (HX.out.2.2.2.2.1.keep HE.out.2.2 (fun j hj e => by have e : j = w.heap.size + 1 + 1 := e; have := HX.out.2.2.2.1 j hj; omega)).ns, h2⟩, HE.out.2.1⟩
                  · go_simp
                    have ST14 := Lib.hid ST11.out.b2
                    refine hK.out _ _ (Hq.out _ ST14.out.f).2 (fun hHeld => ?_)
                    clear hK K
                    try simp only [zP, zN, zS, zT, zU]
                    obtain ⟨bq, hbq⟩ : ∃ q, z11w.heap.size = q := ⟨_, rfl⟩
                    rw [hbq] at ST14 ⊢
                    clear hbq
                    generalize (z11w.alloc (.cells #[.int .i64 sx, .int .i64 nx, .string (B px), .bool dx] TW)) = z14w at *
                    refine wpAnyH_ready (rs := [3]) (by kernel_rfl) (by simp) ?_
                    refine (AllReadyH.cons (o := ?_) (by simp only [zA, zB, zC] <;> exact rfl) (fun K hK => ?_) AllReadyH.nil)
                    refine step_app rfl _ _ TLW TLW rfl (.slice (some ⟨g1, 0, none⟩) 0 0) (.slice a5 m5 c5) (by first | rfl | simp [Act.eval, Act.put]) (by first | rfl | simp [Act.eval, Act.put]) _ (ST14.out.a1 HVW.out HLW.out _) ?_
                    rintro v15 z15w ⟨⟨a9, c9, rfl⟩, hR⟩
                    rw [← HNW.out] at hR ⊢
                    have ST15 := Lib.hid hR
                    clear hR
                    refine hK.out _ _ (Hq.out _ ST15.out.f).2 (fun hHeld => ?_)
                    clear hK K
                    try simp only [zP, zN, zS, zT, zU]
                    refine wpAnyH_ready (rs := [6]) (by kernel_rfl) (by simp) ?_
                    refine (AllReadyH.cons (o := ?_) (by simp only [zA, zB, zC] <;> exact rfl) (fun K hK => ?_) AllReadyH.nil)
                    refine step_app rfl _ _ TLW TLW rfl (.slice a9 n c9) (.slice (some ⟨bq, 0, none⟩) 1 1) (by first | rfl | simp [Act.eval, Act.put]) (by first | rfl | simp [Act.eval, Act.put]) _ (ST15.out.a2 (by have := HLW.out; have := HN6.out; have := HNW.out; omega) _) ?_
                    rintro v8 w8 ⟨hO8, hF8⟩
                    obtain ⟨a8, m8, c8, rfl⟩ : ∃ a m c, v8 = .slice a m c := by obtain ⟨a, c, e⟩ := hO8.ns.shape; exact ⟨a, _, c, e⟩
                    have HO8 := Lib.hid hO8
                    have HF8 := Lib.hid hF8
                    clear hO8 hF8
                    refine hK.out _ _ (Hq.out _ HF8.out).2 (fun hHeld => ?_)
                    clear hK K
                    try simp only [zP, zN, zS, zT, zU]
                    have K8 := Lib.hid (KD.out.later HF8.out)
                    have rowb := K8.out.now.1
                    have y0 := (boxP2 rowb).1
                    have z0 := frozen_at rowb 0
                    have hx1 := heap_setCell_same w8 w.heap.size 0 _ TD (.slice a8 m8 c8) rowb
                    have f8 := fp_cell w8 w.heap.size 0 (.slice a8 m8 c8)
                    have row2 := f8.heap K8.out.now.2.2.1 (fun e => by have e : w.heap.size + 1 + 1 = w.heap.size := e; omega)
                    have hfp := K8.out.now.2.2.2.2.over f8 (fun j hj => by have hj : j = w.heap.size := hj; omega)
                    have hlo : ∀ j, (Value.slice a8 m8 c8).ownBlock = some j → w.heap.size + 1 + 1 < j := fun j hj => by have h1 := HO8.out.low j hj; have h2 := HSZ.out; omega
                    have how := HO8.out.keep f8 (fun j hj e => by have e : j = w.heap.size := e; have := hlo j hj; omega)
                    have hss := (K8.out.now.2.2.2.1.off rowb f8)
                    have rx := f8.heap K8.out.now.2.1 (fun e => by have e : w.heap.size + 1 = w.heap.size := e; omega)
                    have HXC := Lib.hid (boxP4 rx)
                    have HX := Lib.hid (And.intro hx1 (And.intro row2 (And.intro hfp (And.intro hlo (And.intro how hss)))))
                    clear rx rowb hx1 row2 hfp hlo how hss f8
                    refine tk 7 hHeld ?_
                    refine wpAnyH_ready (rs := [8]) (by kernel_rfl) (by simp) ?_
                    refine (AllReadyH.cons (o := ?_) (by simp only [zA, zB, zC] <;> exact rfl) (fun K hK => ?_) AllReadyH.nil)
                    go_simp
                    refine hK.out _ _ HXC.out (fun hHeld => ?_)
                    clear hK K y0 z0
                    try simp only [zP, zN, zS, zT, zU]
                    refine yD ?_
                    generalize (World.setCell w8 _ _) = w9 at *
                    obtain ⟨v0, v1⟩ := boxP2 HX.out.1
                    obtain ⟨t0, t1, t2, t3, t4, t5, hz4, hf4⟩ := two_set HX.out.2.1 (.slice a8 m8 c8) (.slice d5 k5 e5)
                    have HE := Lib.hid (And.intro hz4 (And.intro (HX.out.2.2.1.over hf4 (fun j hj => by have hj : j = w.heap.size + 1 + 1 := hj; omega)) hf4))
                    clear hz4 hf4
                    go_wp2_with fail
                    generalize (World.setCell (World.setCell w9 _ _) _ _) = wz at *
                    obtain ⟨e0, e1⟩ := boxP2 HE.out.1
                    refine bodyPost_ret (v := .tuple #[.agg #[.slice a8 m8 c8, .slice d5 k5 e5], .int .i64 0]) (by simp [results, Try.results10, go_sem, e0, e1]) rfl ?_
                    rw [HTT.out]
                    obtain ⟨vw2, vs2, he, h1, h2⟩ := (HX.out.2.2.2.2.2.off HX.out.2.1 HE.out.2.2).ex
                    injection he with he
                    injection he with he
                    simp only [List.cons.injEq, and_true] at he
                    obtain ⟨rfl, rfl⟩ := he
                    rw [← HS.out]
                    exact ⟨⟨_, _, rfl, (HX.out.2.2.2.2.1.keep HE.out.2.2 (fun j hj e => by have e : j = w.heap.size + 1 + 1 := e; have := HX.out.2.2.2.1 j hj; omega)).ns, h2⟩, HE.out.2.1⟩
                · go_simp
                  have ST16 := Lib.hid ST0.out.b2
                  refine hK.out _ _ (Hq.out _ ST16.out.f).2 (fun hHeld => ?_)
                  clear hK K
                  try simp only [zP, zN, zS, zT, zU]
                  obtain ⟨bq, hbq⟩ : ∃ q, q0.heap.size = q := ⟨_, rfl⟩
                  rw [hbq] at ST16 ⊢
                  clear hbq
                  generalize (q0.alloc (.cells #[.int .i64 sx, .int .i64 nx, .string (B px), .bool dx] TW)) = z16w at *
                  refine wpAnyH_ready (rs := [0]) (by kernel_rfl) (by simp) ?_
                  refine (AllReadyH.cons (o := ?_) (by simp only [zA, zB, zC] <;> exact rfl) (fun K hK => ?_) AllReadyH.nil)
                  go_simp
                  have ST17 := Lib.hid ST16.out.b1
                  refine hK.out _ _ (Hq.out _ ST17.out.f).2 (fun hHeld => ?_)
                  clear hK K
                  try simp only [zP, zN, zS, zT, zU]
                  obtain ⟨g1, hg1⟩ : ∃ q, z16w.heap.size = q := ⟨_, rfl⟩
                  rw [hg1] at ST17 ⊢
                  clear hg1
                  generalize (z16w.alloc (.cells #[] TW)) = z17w at *
                  refine wpAnyH_ready (rs := [3]) (by kernel_rfl) (by simp) ?_
                  refine (AllReadyH.cons (o := ?_) (by simp only [zA, zB, zC] <;> exact rfl) (fun K hK => ?_) AllReadyH.nil)
                  refine step_app rfl _ _ TLW TLW rfl (.slice (some ⟨g1, 0, none⟩) 0 0) (.slice a5 m5 c5) (by first | rfl | simp [Act.eval, Act.put]) (by first | rfl | simp [Act.eval, Act.put]) _ (ST17.out.a1 HVW.out HLW.out _) ?_
                  rintro v18 z18w ⟨⟨a9, c9, rfl⟩, hR⟩
                  rw [← HNW.out] at hR ⊢
                  have ST18 := Lib.hid hR
                  clear hR
                  refine hK.out _ _ (Hq.out _ ST18.out.f).2 (fun hHeld => ?_)
                  clear hK K
                  try simp only [zP, zN, zS, zT, zU]
                  refine wpAnyH_ready (rs := [6]) (by kernel_rfl) (by simp) ?_
                  refine (AllReadyH.cons (o := ?_) (by simp only [zA, zB, zC] <;> exact rfl) (fun K hK => ?_) AllReadyH.nil)
                  refine step_app rfl _ _ TLW TLW rfl (.slice a9 n c9) (.slice (some ⟨bq, 0, none⟩) 1 1) (by first | rfl | simp [Act.eval, Act.put]) (by first | rfl | simp [Act.eval, Act.put]) _ (ST18.out.a2 (by have := HLW.out; have := HN6.out; have := HNW.out; omega) _) ?_
                  rintro v8 w8 ⟨hO8, hF8⟩
                  obtain ⟨a8, m8, c8, rfl⟩ : ∃ a m c, v8 = .slice a m c := by obtain ⟨a, c, e⟩ := hO8.ns.shape; exact ⟨a, _, c, e⟩
                  have HO8 := Lib.hid hO8
                  have HF8 := Lib.hid hF8
                  clear hO8 hF8
                  refine hK.out _ _ (Hq.out _ HF8.out).2 (fun hHeld => ?_)
                  clear hK K
                  try simp only [zP, zN, zS, zT, zU]
                  have K8 := Lib.hid (KD.out.later HF8.out)
                  have rowb := K8.out.now.1
                  have y0 := (boxP2 rowb).1
                  have z0 := frozen_at rowb 0
                  have hx1 := heap_setCell_same w8 w.heap.size 0 _ TD (.slice a8 m8 c8) rowb
                  have f8 := fp_cell w8 w.heap.size 0 (.slice a8 m8 c8)
                  have row2 := f8.heap K8.out.now.2.2.1 (fun e => by have e : w.heap.size + 1 + 1 = w.heap.size := e; omega)
                  have hfp := K8.out.now.2.2.2.2.over f8 (fun j hj => by have hj : j = w.heap.size := hj; omega)
                  have hlo : ∀ j, (Value.slice a8 m8 c8).ownBlock = some j → w.heap.size + 1 + 1 < j := fun j hj => by have h1 := HO8.out.low j hj; have h2 := HSZ.out; omega
                  have how := HO8.out.keep f8 (fun j hj e => by have e : j = w.heap.size := e; have := hlo j hj; omega)
                  have hss := (K8.out.now.2.2.2.1.off rowb f8)
                  have rx := f8.heap K8.out.now.2.1 (fun e => by have e : w.heap.size + 1 = w.heap.size := e; omega)
                  have HXC := Lib.hid (boxP4 rx)
                  have HX := Lib.hid (And.intro hx1 (And.intro row2 (And.intro hfp (And.intro hlo (And.intro how hss)))))
                  clear rx rowb hx1 row2 hfp hlo how hss f8
                  refine tk 7 hHeld ?_
                  refine wpAnyH_ready (rs := [8]) (by kernel_rfl) (by simp) ?_
                  refine (AllReadyH.cons (o := ?_) (by simp only [zA, zB, zC] <;> exact rfl) (fun K hK => ?_) AllReadyH.nil)
                  go_simp
                  refine hK.out _ _ HXC.out (fun hHeld => ?_)
                  clear hK K y0 z0
                  try simp only [zP, zN, zS, zT, zU]
                  refine yD ?_
                  generalize (World.setCell w8 _ _) = w9 at *
                  obtain ⟨v0, v1⟩ := boxP2 HX.out.1
                  obtain ⟨t0, t1, t2, t3, t4, t5, hz4, hf4⟩ := two_set HX.out.2.1 (.slice a8 m8 c8) (.slice d5 k5 e5)
                  have HE := Lib.hid (And.intro hz4 (And.intro (HX.out.2.2.1.over hf4 (fun j hj => by have hj : j = w.heap.size + 1 + 1 := hj; omega)) hf4))
                  clear hz4 hf4
                  go_wp2_with fail
                  generalize (World.setCell (World.setCell w9 _ _) _ _) = wz at *
                  obtain ⟨e0, e1⟩ := boxP2 HE.out.1
                  refine bodyPost_ret (v := .tuple #[.agg #[.slice a8 m8 c8, .slice d5 k5 e5], .int .i64 0]) (by simp [results, Try.results10, go_sem, e0, e1]) rfl ?_
                  rw [HTT.out]
                  obtain ⟨vw2, vs2, he, h1, h2⟩ := (HX.out.2.2.2.2.2.off HX.out.2.1 HE.out.2.2).ex
                  injection he with he
                  injection he with he
                  simp only [List.cons.injEq, and_true] at he
                  obtain ⟨rfl, rfl⟩ := he
                  rw [← HS.out]
                  exact ⟨⟨_, _, rfl, (HX.out.2.2.2.2.1.keep HE.out.2.2 (fun j hj e => by have e : j = w.heap.size + 1 + 1 := e; have := HX.out.2.2.2.1 j hj; omega)).ns, h2⟩, HE.out.2.1⟩
              · go_simp
                have ST19 := Lib.hid ST0.out.b2
                refine hK.out _ _ (Hq.out _ ST19.out.f).2 (fun hHeld => ?_)
                clear hK K
                try simp only [zP, zN, zS, zT, zU]
                obtain ⟨bq, hbq⟩ : ∃ q, q0.heap.size = q := ⟨_, rfl⟩
                rw [hbq] at ST19 ⊢
                clear hbq
                generalize (q0.alloc (.cells #[.int .i64 sx, .int .i64 nx, .string (B px), .bool dx] TW)) = z19w at *
                refine wpAnyH_ready (rs := [0, 2]) (by kernel_rfl) (by simp) ?_
                refine (AllReadyH.cons (o := ?_) (by simp only [zA, zB, zC] <;> exact rfl) (fun K hK => ?_) (AllReadyH.cons (o := ?_) (by simp only [zA, zB, zC] <;> exact rfl) (fun K hK => ?_) AllReadyH.nil))
                · go_simp
                  have ST20 := Lib.hid ST19.out.b1
                  refine hK.out _ _ (Hq.out _ ST20.out.f).2 (fun hHeld => ?_)
                  clear hK K
                  try simp only [zP, zN, zS, zT, zU]
                  obtain ⟨g1, hg1⟩ : ∃ q, z19w.heap.size = q := ⟨_, rfl⟩
                  rw [hg1] at ST20 ⊢
                  clear hg1
                  generalize (z19w.alloc (.cells #[] TW)) = z20w at *
                  refine wpAnyH_ready (rs := [2]) (by kernel_rfl) (by simp) ?_
                  refine (AllReadyH.cons (o := ?_) (by simp only [zA, zB, zC] <;> exact rfl) (fun K hK => ?_) AllReadyH.nil)
                  have l0 := (Hq.out _ ST20.out.f).1
                  go_simp
                  refine hK.out _ _ (Hq.out _ ST20.out.f).2 (fun hHeld => ?_)
                  clear hK K l0
                  try simp only [zP, zN, zS, zT, zU]
                  refine wpAnyH_ready (rs := [3]) (by kernel_rfl) (by simp) ?_
                  refine (AllReadyH.cons (o := ?_) (by simp only [zA, zB, zC] <;> exact rfl) (fun K hK => ?_) AllReadyH.nil)
                  refine step_app rfl _ _ TLW TLW rfl (.slice (some ⟨g1, 0, none⟩) 0 0) (.slice a5 m5 c5) (by first | rfl | simp [Act.eval, Act.put]) (by first | rfl | simp [Act.eval, Act.put]) _ (ST20.out.a1 HVW.out HLW.out _) ?_
                  rintro v22 z22w ⟨⟨a9, c9, rfl⟩, hR⟩
                  rw [← HNW.out] at hR ⊢
                  have ST22 := Lib.hid hR
                  clear hR
                  refine hK.out _ _ (Hq.out _ ST22.out.f).2 (fun hHeld => ?_)
                  clear hK K
                  try simp only [zP, zN, zS, zT, zU]
                  refine wpAnyH_ready (rs := [6]) (by kernel_rfl) (by simp) ?_
                  refine (AllReadyH.cons (o := ?_) (by simp only [zA, zB, zC] <;> exact rfl) (fun K hK => ?_) AllReadyH.nil)
                  refine step_app rfl _ _ TLW TLW rfl (.slice a9 n c9) (.slice (some ⟨bq, 0, none⟩) 1 1) (by first | rfl | simp [Act.eval, Act.put]) (by first | rfl | simp [Act.eval, Act.put]) _ (ST22.out.a2 (by have := HLW.out; have := HN6.out; have := HNW.out; omega) _) ?_
                  rintro v8 w8 ⟨hO8, hF8⟩
                  obtain ⟨a8, m8, c8, rfl⟩ : ∃ a m c, v8 = .slice a m c := by obtain ⟨a, c, e⟩ := hO8.ns.shape; exact ⟨a, _, c, e⟩
                  have HO8 := Lib.hid hO8
                  have HF8 := Lib.hid hF8
                  clear hO8 hF8
                  refine hK.out _ _ (Hq.out _ HF8.out).2 (fun hHeld => ?_)
                  clear hK K
                  try simp only [zP, zN, zS, zT, zU]
                  have K8 := Lib.hid (KD.out.later HF8.out)
                  have rowb := K8.out.now.1
                  have y0 := (boxP2 rowb).1
                  have z0 := frozen_at rowb 0
                  have hx1 := heap_setCell_same w8 w.heap.size 0 _ TD (.slice a8 m8 c8) rowb
                  have f8 := fp_cell w8 w.heap.size 0 (.slice a8 m8 c8)
                  have row2 := f8.heap K8.out.now.2.2.1 (fun e => by have e : w.heap.size + 1 + 1 = w.heap.size := e; omega)
                  have hfp := K8.out.now.2.2.2.2.over f8 (fun j hj => by have hj : j = w.heap.size := hj; omega)
                  have hlo : ∀ j, (Value.slice a8 m8 c8).ownBlock = some j → w.heap.size + 1 + 1 < j := fun j hj => by have h1 := HO8.out.low j hj; have h2 := HSZ.out; omega
                  have how := HO8.out.keep f8 (fun j hj e => by have e : j = w.heap.size := e; have := hlo j hj; omega)
                  have hss := (K8.out.now.2.2.2.1.off rowb f8)
                  have rx := f8.heap K8.out.now.2.1 (fun e => by have e : w.heap.size + 1 = w.heap.size := e; omega)
                  have HXC := Lib.hid (boxP4 rx)
                  have HX := Lib.hid (And.intro hx1 (And.intro row2 (And.intro hfp (And.intro hlo (And.intro how hss)))))
                  clear rx rowb hx1 row2 hfp hlo how hss f8
                  refine tk 7 hHeld ?_
                  refine wpAnyH_ready (rs := [8]) (by kernel_rfl) (by simp) ?_
                  refine (AllReadyH.cons (o := ?_) (by simp only [zA, zB, zC] <;> exact rfl) (fun K hK => ?_) AllReadyH.nil)
                  go_simp
                  refine hK.out _ _ HXC.out (fun hHeld => ?_)
                  clear hK K y0 z0
                  try simp only [zP, zN, zS, zT, zU]
                  refine yD ?_
                  generalize (World.setCell w8 _ _) = w9 at *
                  obtain ⟨v0, v1⟩ := boxP2 HX.out.1
                  obtain ⟨t0, t1, t2, t3, t4, t5, hz4, hf4⟩ := two_set HX.out.2.1 (.slice a8 m8 c8) (.slice d5 k5 e5)
                  have HE := Lib.hid (And.intro hz4 (And.intro (HX.out.2.2.1.over hf4 (fun j hj => by have hj : j = w.heap.size + 1 + 1 := hj; omega)) hf4))
                  clear hz4 hf4
                  go_wp2_with fail
                  generalize (World.setCell (World.setCell w9 _ _) _ _) = wz at *
                  obtain ⟨e0, e1⟩ := boxP2 HE.out.1
                  refine bodyPost_ret (v := .tuple #[.agg #[.slice a8 m8 c8, .slice d5 k5 e5], .int .i64 0]) (by simp [results, Try.results10, go_sem, e0, e1]) rfl ?_
                  rw [HTT.out]
                  obtain ⟨vw2, vs2, he, h1, h2⟩ := (HX.out.2.2.2.2.2.off HX.out.2.1 HE.out.2.2).ex
                  injection he with he
                  injection he with he
                  simp only [List.cons.injEq, and_true] at he
                  obtain ⟨rfl, rfl⟩ := he
                  rw [← HS.out]
                  exact ⟨⟨_, _, rfl, (HX.out.2.2.2.2.1.keep HE.out.2.2 (fun j hj e => by have e : j = w.heap.size + 1 + 1 := e; have := HX.out.2.2.2.1 j hj; omega)).ns, h2⟩, HE.out.2.1⟩
                · have l0 := (Hq.out _ ST19.out.f).1
                  go_simp
                  refine hK.out _ _ (Hq.out _ ST19.out.f).2 (fun hHeld => ?_)
                  clear hK K l0
                  try simp only [zP, zN, zS, zT, zU]
                  refine wpAnyH_ready (rs := [0]) (by kernel_rfl) (by simp) ?_
                  refine (AllReadyH.cons (o := ?_) (by simp only [zA, zB, zC] <;> exact rfl) (fun K hK => ?_) AllReadyH.nil)
                  go_simp
                  have ST24 := Lib.hid ST19.out.b1
                  refine hK.out _ _ (Hq.out _ ST24.out.f).2 (fun hHeld => ?_)
                  clear hK K
                  try simp only [zP, zN, zS, zT, zU]
                  obtain ⟨g1, hg1⟩ : ∃ q, z19w.heap.size = q := ⟨_, rfl⟩
                  rw [hg1] at ST24 ⊢
                  clear hg1
                  generalize (z19w.alloc (.cells #[] TW)) = z24w at *
                  refine wpAnyH_ready (rs := [3]) (by kernel_rfl) (by simp) ?_
                  refine (AllReadyH.cons (o := ?_) (by simp only [zA, zB, zC] <;> exact rfl) (fun K hK => ?_) AllReadyH.nil)
                  refine step_app rfl _ _ TLW TLW rfl (.slice (some ⟨g1, 0, none⟩) 0 0) (.slice a5 m5 c5) (by first | rfl | simp [Act.eval, Act.put]) (by first | rfl | simp [Act.eval, Act.put]) _ (ST24.out.a1 HVW.out HLW.out _) ?_
                  rintro v25 z25w ⟨⟨a9, c9, rfl⟩, hR⟩
                  rw [← HNW.out] at hR ⊢
                  have ST25 := Lib.hid hR
                  clear hR
                  refine hK.out _ _ (Hq.out _ ST25.out.f).2 (fun hHeld => ?_)
                  clear hK K
                  try simp only [zP, zN, zS, zT, zU]
                  refine wpAnyH_ready (rs := [6]) (by kernel_rfl) (by simp) ?_
                  refine (AllReadyH.cons (o := ?_) (by simp only [zA, zB, zC] <;> exact rfl) (fun K hK => ?_) AllReadyH.nil)
                  refine step_app rfl _ _ TLW TLW rfl (.slice a9 n c9) (.slice (some ⟨bq, 0, none⟩) 1 1) (by first | rfl | simp [Act.eval, Act.put]) (by first | rfl | simp [Act.eval, Act.put]) _ (ST25.out.a2 (by have := HLW.out; have := HN6.out; have := HNW.out; omega) _) ?_
                  rintro v8 w8 ⟨hO8, hF8⟩
                  obtain ⟨a8, m8, c8, rfl⟩ : ∃ a m c, v8 = .slice a m c := by obtain ⟨a, c, e⟩ := hO8.ns.shape; exact ⟨a, _, c, e⟩
                  have HO8 := Lib.hid hO8
                  have HF8 := Lib.hid hF8
                  clear hO8 hF8
                  refine hK.out _ _ (Hq.out _ HF8.out).2 (fun hHeld => ?_)
                  clear hK K
                  try simp only [zP, zN, zS, zT, zU]
                  have K8 := Lib.hid (KD.out.later HF8.out)
                  have rowb := K8.out.now.1
                  have y0 := (boxP2 rowb).1
                  have z0 := frozen_at rowb 0
                  have hx1 := heap_setCell_same w8 w.heap.size 0 _ TD (.slice a8 m8 c8) rowb
                  have f8 := fp_cell w8 w.heap.size 0 (.slice a8 m8 c8)
                  have row2 := f8.heap K8.out.now.2.2.1 (fun e => by have e : w.heap.size + 1 + 1 = w.heap.size := e; omega)
                  have hfp := K8.out.now.2.2.2.2.over f8 (fun j hj => by have hj : j = w.heap.size := hj; omega)
                  have hlo : ∀ j, (Value.slice a8 m8 c8).ownBlock = some j → w.heap.size + 1 + 1 < j := fun j hj => by have h1 := HO8.out.low j hj; have h2 := HSZ.out; omega
                  have how := HO8.out.keep f8 (fun j hj e => by have e : j = w.heap.size := e; have := hlo j hj; omega)
                  have hss := (K8.out.now.2.2.2.1.off rowb f8)
                  have rx := f8.heap K8.out.now.2.1 (fun e => by have e : w.heap.size + 1 = w.heap.size := e; omega)
                  have HXC := Lib.hid (boxP4 rx)
                  have HX := Lib.hid (And.intro hx1 (And.intro row2 (And.intro hfp (And.intro hlo (And.intro how hss)))))
                  clear rx rowb hx1 row2 hfp hlo how hss f8
                  refine tk 7 hHeld ?_
                  refine wpAnyH_ready (rs := [8]) (by kernel_rfl) (by simp) ?_
                  refine (AllReadyH.cons (o := ?_) (by simp only [zA, zB, zC] <;> exact rfl) (fun K hK => ?_) AllReadyH.nil)
                  go_simp
                  refine hK.out _ _ HXC.out (fun hHeld => ?_)
                  clear hK K y0 z0
                  try simp only [zP, zN, zS, zT, zU]
                  refine yD ?_
                  generalize (World.setCell w8 _ _) = w9 at *
                  obtain ⟨v0, v1⟩ := boxP2 HX.out.1
                  obtain ⟨t0, t1, t2, t3, t4, t5, hz4, hf4⟩ := two_set HX.out.2.1 (.slice a8 m8 c8) (.slice d5 k5 e5)
                  have HE := Lib.hid (And.intro hz4 (And.intro (HX.out.2.2.1.over hf4 (fun j hj => by have hj : j = w.heap.size + 1 + 1 := hj; omega)) hf4))
                  clear hz4 hf4
                  go_wp2_with fail
                  generalize (World.setCell (World.setCell w9 _ _) _ _) = wz at *
                  obtain ⟨e0, e1⟩ := boxP2 HE.out.1
                  refine bodyPost_ret (v := .tuple #[.agg #[.slice a8 m8 c8, .slice d5 k5 e5], .int .i64 0]) (by simp [results, Try.results10, go_sem, e0, e1]) rfl ?_
                  rw [HTT.out]
                  obtain ⟨vw2, vs2, he, h1, h2⟩ := (HX.out.2.2.2.2.2.off HX.out.2.1 HE.out.2.2).ex
                  injection he with he
                  injection he with he
                  simp only [List.cons.injEq, and_true] at he
                  obtain ⟨rfl, rfl⟩ := he
                  rw [← HS.out]
                  exact ⟨⟨_, _, rfl, (HX.out.2.2.2.2.1.keep HE.out.2.2 (fun j hj e => by have e : j = w.heap.size + 1 + 1 := e; have := HX.out.2.2.2.1 j hj; omega)).ns, h2⟩, HE.out.2.1⟩
          · have hany : d.ws.any (hit sx nx) = true := List.any_eq_true.2 ⟨_, List.getElem_mem hi, hit_⟩
            have HTT := Lib.hid (show T = (d, 61) from by rw [HT.out]; simp only [hany]; simp)
            have w9 : ((0 : Int) ≤ (i : Int)) = True := eq_true (by omega)
            clear hR hany hit_ hi h64 K2 HFI p0 p1 x0 x1 x2 x3
            obtain ⟨p0, p1⟩ := boxP2 K3.out.now.1
            obtain ⟨t0, t1, t2, t3, t4, t5, hz4, hf4⟩ := two_set K3.out.now.2.2.1 (.slice aw n cw) (.slice at_ m cs)
            have HE := Lib.hid (And.intro hz4 (And.intro (K3.out.now.2.2.2.2.over hf4 (fun j hj => by have hj : j = w.heap.size + 1 + 1 := hj; omega)) hf4))
            clear hz4 hf4
            go_wp2_with fail
            generalize (World.setCell (World.setCell w3 _ _) _ _) = wz at *
            obtain ⟨e0, e1⟩ := boxP2 HE.out.1
            refine bodyPost_ret (v := .tuple #[.agg #[.slice aw n cw, .slice at_ m cs], .int .i64 61]) (by simp [results, Try.results10, go_sem, e0, e1]) rfl ?_
            rw [HTT.out]
            obtain ⟨vw, vs, he, h1, h2⟩ := (K3.out.now.2.2.2.1.off K3.out.now.2.2.1 HE.out.2.2).ex
            injection he with he
            injection he with he
            simp only [List.cons.injEq, and_true] at he
            obtain ⟨rfl, rfl⟩ := he
            exact ⟨⟨_, _, rfl, h1, h2⟩, HE.out.2.1⟩
end Go.Proofs.Ytjdpbieifcjmiaa

/- append(append([]Event{}, l...), e) (gen_vd.py) -/
namespace Go.Proofs.Ytjdpbieifcjmiaa
set_option maxRecDepth 20000
set_option linter.unusedVariables false
set_option linter.unusedSimpArgs false
open Go.RowKit Pm

theorem app_emptyQ {w : World} {g lo : Nat} {v : Value} {l : List Ev} (hg : w.heap[g]? = some (.cells #[] TE (0, 0))) (hlo : lo ≤ g) (hv : NsE w v l) (hl : l.length ≤ 100000) (ty : TypeId) :
    ∃ v' w', (Builtin.append_ #[TLE, TLE] ty #[.slice (some ⟨g, 0, none⟩) 0 0, v]).run Try.prog w = .ok v' w' ∧ OwE lo w' v' l ∧ Fp (fun k => k = g) w w' := by
  have hlt : g < w.heap.size := (Array.getElem?_eq_some_iff.1 hg).1
  have hown : OwE lo w (.slice (some ⟨g, 0, none⟩) 0 0) [] := ⟨rfl, .inr ⟨g, 0, #[], rfl, hlo, hg, Nat.le_refl _, Nat.zero_le _, rfl, rfl⟩⟩
  obtain ⟨ao, cap, rfl, h1, h2, h3⟩ := hv.ex
  cases ao with
  | none =>
    obtain rfl : l = [] := by
      rcases h3 with h | ⟨_, _, h, _⟩
      · exact h
      · cases h
    obtain ⟨i, hi, hz, hsz, hby⟩ := info_parts Try.infoE
    exact ⟨_, _, run_append_nothing w TLE TLE ty TE i Try.underlying38 hi _ 0 0 (Nat.le_refl _) _ (Src.ofNil w Try.underlying38 cap), hown, Fp.refl _ _⟩
  | some a =>
    have hx : ∀ i (h : i < l.length) j u, (evC l[i])[j]? = some u → w.cell? (a.add (i * 4 + j)) = some u := fun i hi j u hu => by
      rcases h3 with h | ⟨g', o, e, _, hc⟩
      · subst h; simp at hi
      · injection e with e; subst e
        have := (hc i hi).get j u hu
        rw [Addr.add_lit] at this ⊢
        rwa [Nat.add_assoc] at this
    obtain ⟨v', w', hr, ho, hgr, _⟩ := app_ownE w lo _ [] l ty a l.length cap hown rfl hx (by simp; omega) (Nat.le_trans hlo (Nat.le_of_lt hlt))
    exact ⟨v', w', hr, ho, (Fp.refl _ w).grown hgr (fun k hk => .inl (by simp [Value.ownBlock] at hk; exact hk.symm))⟩

/-- What stands while the events are copied, and one added. -/
structure Est (w0 : World) (ws : List Ev) (x : Ev) (e1 : Option Nat) (r1 : Option Value) (bq : Option Nat) (W : World) : Prop where
  f : Fp Non w0 W
  e1 : ∀ g, e1 = some g → W.heap[g]? = some (.cells #[] TE (0, 0)) ∧ w0.heap.size ≤ g
  r1 : ∀ v, r1 = some v → OwE w0.heap.size W v ws
  bq : ∀ g, bq = some g → W.heap[g]? = some (.cells #[.int .i64 x.num, .int .i64 x.kind, .string (B x.p), .int .i64 x.wt] TE (0, 0))
theorem Est.start (w0 : World) (ws : List Ev) (x : Ev) : Est w0 ws x none none none w0 := ⟨Fp.refl _ _, fun _ h => (by cases h), fun _ h => (by cases h), fun _ h => (by cases h)⟩
theorem Est.non {w0 : World} {ws : List Ev} {x : Ev} {e1 : Option Nat} {r1 : Option Value} {bq : Option Nat} {W W' : World} (h : Est w0 ws x e1 r1 bq W) (f : Fp Non W W') : Est w0 ws x e1 r1 bq W' :=
  ⟨h.f.then f, fun g e => ⟨f.heap (h.e1 g e).1 (fun h => h), (h.e1 g e).2⟩, fun v e => (h.r1 v e).non f, fun g e => f.heap (h.bq g e) (fun h => h)⟩
theorem Est.b1 {w0 : World} {ws : List Ev} {x : Ev} {r1 : Option Value} {bq : Option Nat} {W : World} (h : Est w0 ws x none r1 bq W) : Est w0 ws x (some W.heap.size) r1 bq (W.alloc (.cells #[] TE)) := by
  have k := h.non (fp_alloc W (.cells #[] TE))
  exact ⟨k.f, fun g e => by injection e with e; subst e; exact ⟨heap_alloc_new W (.cells #[] TE), h.f.size⟩, k.r1, k.bq⟩
theorem Est.b2 {w0 : World} {ws : List Ev} {x : Ev} {e1 : Option Nat} {r1 : Option Value} {W : World} (h : Est w0 ws x e1 r1 none W) : Est w0 ws x e1 r1 (some W.heap.size) (W.alloc (.cells #[.int .i64 x.num, .int .i64 x.kind, .string (B x.p), .int .i64 x.wt] TE)) := by
  have k := h.non (fp_alloc W (.cells #[.int .i64 x.num, .int .i64 x.kind, .string (B x.p), .int .i64 x.wt] TE))
  exact ⟨k.f, k.e1, k.r1, fun g e => by injection e with e; subst e; exact heap_alloc_new W (.cells #[.int .i64 x.num, .int .i64 x.kind, .string (B x.p), .int .i64 x.wt] TE)⟩
theorem Est.a1 {w0 : World} {ws : List Ev} {x : Ev} {g : Nat} {bq : Option Nat} {W : World} (h : Est w0 ws x (some g) none bq W) {vw : Value} (hv : NsE w0 vw ws) (hl : ws.length ≤ 100000) (ty : TypeId) :
    ∃ v' w', (Builtin.append_ #[TLE, TLE] ty #[.slice (some ⟨g, 0, none⟩) 0 0, vw]).run Try.prog W = .ok v' w' ∧ (∃ a c, v' = .slice a ws.length c) ∧ Est w0 ws x none (some v') bq w' := by
  obtain ⟨hg, hge⟩ := h.e1 g rfl
  obtain ⟨v', w', hr, hn, hf⟩ := app_emptyQ hg hge (hv.non h.f) hl ty
  exact ⟨v', w', hr, hn.ns.shape, h.f.over hf (fun k hk => by have hk : k = g := hk; omega), fun _ h => (by cases h), fun v e => (by injection e with e; subst e; exact hn), fun g2 e => hf.heap (h.bq g2 e) (row_ne hg (h.bq g2 e) (.inl (by simp)))⟩
theorem Est.a2 {w0 : World} {ws : List Ev} {x : Ev} {v1 : Value} {b : Nat} {W : World} (h : Est w0 ws x none (some v1) (some b) W) (hl : ws.length ≤ 50000) (ty : TypeId) :
    ∃ v' w', (Builtin.append_ #[TLE, TLE] ty #[v1, .slice (some ⟨b, 0, none⟩) 1 1]).run Try.prog W = .ok v' w' ∧ OwE w0.heap.size w' v' (ws ++ [x]) ∧ Fp Non w0 w' := by
  have hb := h.bq b rfl
  have ho := h.r1 v1 rfl
  obtain ⟨v', w', hr, h1, h2, _⟩ := app_ownE W w0.heap.size v1 ws [x] ty ⟨b, 0, none⟩ 1 1 ho rfl (fun i hi j u hu => by
    have hi0 : i = 0 := by simp at hi; omega
    subst hi0
    rw [Addr.add_lit, cell_of_row _ _ _ _ _ _ hb]
    rw [show 0 + (0 * 4 + j) = j from by omega]
    simpa [evC, strV] using hu) (by simp; omega) h.f.size
  exact ⟨v', w', hr, h1, h.f.over ((Fp.refl (fun k => v1.ownBlock = some k) W).grown h2 (fun k hk => .inl hk)) (fun k hk => ho.low k hk)⟩

end Go.Proofs.Ytjdpbieifcjmiaa

