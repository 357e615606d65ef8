/- PackBack: the law's walk. -/
import Derived.Test.YtidkihadlhkbkaaSm
namespace Go.Proofs.Ytidkihadlhkbkaa
open Go.RowKit Pm

set_option maxHeartbeats 4000000 in
set_option maxRecDepth 20000 in
theorem PackBack_f (vl : Value) (l : List It) (w : World) (hl : Its2 w w.heap.size vl l) :
    Calls Try.prog 5 #[vl] w fun e w' => e = .returned (.bool true) ∧ Fp Non w w' := by
  obtain ⟨aol, capl, rfl, _, _, hcell⟩ := hl.its.ex
  have HV0 := Lib.hid hl; clear hl
  go_enter Try.func5, Try.ntmps5
  go_wp2_with fail
  refine (head_c w).mono ?_
  rintro e w0 ⟨rfl, hf⟩
  have hl1 := HV0.out.keep hf (fun _ h => h.elim)
  have HF := Lib.hid hf; clear hf
  have HV1 := Lib.hid hl1; clear hl1
  go_wp2_with fail
  refine (Great_c _ _ _ _ HV1.out).mono ?_
  rintro e w1 ⟨g, rfl, hg, hf2⟩
  have hfw := HF.out.then hf2
  have hs1 := hfw.size
  have HG := Lib.hid (And.intro hg hfw); clear hg hf2 hfw
  cases g with
  | true =>
    go_wp2
    go_ret
    exact ⟨rfl, HG.out.2⟩
  | false =>
    have HTOT := Lib.hid (HG.out.1 rfl)
    have hll : l.length ≤ 20000 := by have := HTOT.out; omega
    have x0 := Wr.new TW w1.heap.size w1 (Nat.le_refl _)
    have hfx := HG.out.2.alloc (.cells #[.slice none 0 0, .bool false] TW)
    have HX0 := Lib.hid (And.intro x0 hfx); clear x0 hfx
    go_wp2_with fail
    go_loopw [5] (fun i wr => ∃ (k : Nat) (vx : Value), k ≤ l.length ∧ i = .int .i64 k ∧ Wr TW w1.heap.size w1.heap.size vx (encIs (l.take k)) false wr ∧ Fp Non w wr ∧ Hid (∀ j (hj : j < l.length), j < k → okI l[j])) (fun i _ => l.length - (intOf i).toNat)
    case atStart => exact ⟨0, .slice none 0 0, Nat.zero_le _, rfl, HX0.out.1, HX0.out.2, fun j _ h => by omega⟩
    case round =>
      obtain ⟨k, vx, hk, rfl, hx, hfr, hoks⟩ := hrel
      have HH := Lib.hid (And.intro hx hfr); clear hx hfr
      by_cases hkl : k < l.length
      · have q1 : ((k : Int) < (l.length : Int)) = True := eq_true (by omega)
        have q2 : (k < l.length) = True := eq_true hkl
        rcases hcell with hcell | ⟨gi, oi, rfl, hgi, hcell⟩
        · omega
        have hit := (hcell k hkl).keep HH.out.2 (fun _ h => h.elim) hgi
        have hLl : (encIs (l.take k)).length ≤ 50000000 := by
          have := encIs_len l HTOT.out k hk hoks.out
          have := tot_take_le l k hk
          have := HTOT.out; omega
        have hsz := tot_get l k hkl
        generalize hxx : l[k] = x at hit hsz
        have HX := Lib.hid hxx; clear hxx
        have HLL := encIs_len l HTOT.out k hk hoks.out
        have HSZ := Lib.hid (show gsz x + (encIs (l.take k)).length ≤ 200000 by
          have := tot_take_le l k hk
          have := HTOT.out; omega)
        clear HLL
        generalize hLL : encIs (l.take k) = L at HH hLl HSZ
        have HL := Lib.hid hLL; clear hLL
        have c0 := hit.c0
        have c1 := hit.c1
        have c2 := hit.c2
        have c3 := hit.c3
        have HIT := Lib.hid hit; clear hit hsz hcell
        obtain ⟨al3, capl3, hlv, _, _, _⟩ := HIT.out.ss.ex
        clear hlv
        by_cases h0 : x.what = 0
        · have t0 : (x.what == 0) = true := beq_iff_eq.2 h0
          by_cases hlo : x.n < 0
          · have n1 : (x.n < 0) = True := eq_true hlo
            clear hlo h0
            go_wp2
            go_ret
            exact ⟨rfl, HH.out.2⟩
          · have n1 : (x.n < 0) = False := eq_false hlo
            by_cases hhi : 281474976710656 < x.n
            · have n2 : ((281474976710656 : Int) < x.n) = True := eq_true hhi
              clear hlo hhi h0
              go_wp2
              go_ret
              exact ⟨rfl, HH.out.2⟩
            · have n2 : ((281474976710656 : Int) < x.n) = False := eq_false hhi
              obtain ⟨nn, hnn⟩ := Int.eq_ofNat_of_zero_le (show 0 ≤ x.n by omega)
              have hnM : nn ≤ M := by unfold M; omega
              have he : encI x = enc nn := by unfold encI; rw [if_pos h0, hnn]; rfl
              have hok : okI x := fun _ => by unfold M; omega
              have HV := Lib.hid (And.intro hnM hLl)
              have HOK := Lib.hid (show ∀ j (hj : j < l.length), j < k + 1 → okI l[j] by
                intro j hj hj2
                by_cases hjk : j = k
                · subst hjk; rw [HX.out]; exact hok
                · exact hoks.out j hj (by omega))
              have HE := Lib.hid (show encIs (l.take (k + 1)) = L ++ enc nn by rw [encIs_take_succ l k hkl, HX.out, he, HL.out])
              rw [hnn] at c1 n1 n2
              clear hlo hhi h0 hok he hnM hLl hnn
              go_wp2_with fail
              refine (Num_ok _ _ _ _ _ nn _ HH.out.1 HV.out.1 HV.out.2).mono ?_
              rintro e w5 ⟨rfl, vx', hx', hfx, hvx⟩
              have hfw : Fp Non w w5 := HH.out.2.trans hfx (fun j hj => .inr (by have := (HH.out.1.all j hj).1; omega))
              have HZ := Lib.hid (And.intro hx' hfw); clear hx' hfw hfx hvx
              go_wp2
              go_roundw
              case rel => exact ⟨k + 1, vx', by omega, by go_num, by rw [HE.out]; exact HZ.out.1, HZ.out.2, HOK.out⟩
              case measure => simp [intOf]; omega
        · have t0 : (x.what == 0) = false := beq_eq_false_iff_ne.2 h0
          have hok : okI x := fun h => absurd h h0
          have HOK := Lib.hid (show ∀ j (hj : j < l.length), j < k + 1 → okI l[j] by
            intro j hj hj2
            by_cases hjk : j = k
            · subst hjk; rw [HX.out]; exact hok
            · exact hoks.out j hj (by omega))
          by_cases h1 : x.what = 1
          · have t1 : (x.what == 1) = true := beq_iff_eq.2 h1
            have HE := Lib.hid (show encIs (l.take (k + 1)) = L ++ encT x.s by rw [encIs_take_succ l k hkl, HX.out, HL.out]; unfold encI; rw [if_neg h0, if_pos h1])
            have HV := Lib.hid (show L.length + x.s.length ≤ 50000000 by have := HSZ.out; unfold gsz at this; omega)
            rw [h1] at c0
            clear h0 h1 hok hLl t0 t1
            go_wp2_with fail
            refine (Text_c _ _ _ _ x.s _ _ HH.out.1 HV.out).mono ?_
            rintro e w5 ⟨rfl, vx', hx', hfx, hvx⟩
            have hfw : Fp Non w w5 := HH.out.2.trans hfx (fun j hj => .inr (by have := (HH.out.1.all j hj).1; omega))
            have HZ := Lib.hid (And.intro hx' hfw); clear hx' hfw hfx hvx
            go_wp2
            go_roundw
            case rel => exact ⟨k + 1, vx', by omega, by go_num, by rw [HE.out]; exact HZ.out.1, HZ.out.2, HOK.out⟩
            case measure => simp [intOf]; omega
          · have t1 : (x.what == 1) = false := beq_eq_false_iff_ne.2 h1
            by_cases h2 : x.what = 2
            · have t2 : (x.what == 2) = true := beq_iff_eq.2 h2
              have HE := Lib.hid (show encIs (l.take (k + 1)) = L ++ encTs x.ps by rw [encIs_take_succ l k hkl, HX.out, HL.out]; unfold encI; rw [if_neg h0, if_neg h1, if_pos h2])
              have HV := Lib.hid (show Ss wr x.lv x.ps ∧ (0 < x.ps.length → ∀ k, x.lv.ownBlock = some k → k < w1.heap.size) ∧ L.length + 8 * (x.ps.length + szs x.ps) ≤ 40000000 from ⟨HIT.out.ss, fun h k hk => by have := HIT.out.low h k hk; omega, by have := HSZ.out; unfold gsz at this; omega⟩)
              rw [h2] at c0
              clear h0 h1 h2 hok hLl t0 t1 t2
              go_wp2_with fail
              refine (Texts_c _ _ _ _ _ x.lv x.ps _ HH.out.1 HV.out.1 HV.out.2.1 HV.out.2.2).mono ?_
              rintro e w5 ⟨rfl, vx', hx', hfx, hvx⟩
              have hfw : Fp Non w w5 := HH.out.2.trans hfx (fun j hj => .inr (by have := (HH.out.1.all j hj).1; omega))
              have HZ := Lib.hid (And.intro hx' hfw); clear hx' hfw hfx hvx
              go_wp2
              go_roundw
              case rel => exact ⟨k + 1, vx', by omega, by go_num, by rw [HE.out]; exact HZ.out.1, HZ.out.2, HOK.out⟩
              case measure => simp [intOf]; omega
            · have t2 : (x.what == 2) = false := beq_eq_false_iff_ne.2 h2
              have HE := Lib.hid (show encIs (l.take (k + 1)) = L by rw [encIs_take_succ l k hkl, HX.out, HL.out]; unfold encI; rw [if_neg h0, if_neg h1, if_neg h2, List.append_nil])
              clear h0 h1 h2 hok hLl
              go_wp2
              go_roundw
              case rel => exact ⟨k + 1, vx, by omega, by go_num, by rw [HE.out]; exact HH.out.1, HH.out.2, HOK.out⟩
              case measure => simp [intOf]; omega
      · have q1 : ((k : Int) < (l.length : Int)) = False := eq_false (by omega)
        have q2 : (k < l.length) = False := eq_false hkl
        have hke : k = l.length := by omega
        have hL := HH.out
        rw [hke, List.take_length] at hL
        have hlen := encIs_len l HTOT.out k hk hoks.out
        rw [hke, List.take_length] at hlen
        have HB := Lib.hid hL; clear hL
        have HOKS := Lib.hid (show ∀ j (hj : j < l.length), okI l[j] from fun j hj => hoks.out j hj (by omega))
        have HLN := Lib.hid (show (encIs l).length ≤ 200000 by have := HTOT.out; omega)
        clear hlen hke hkl hk hoks HH
        go_wp2_with fail
        refine (Bytes_c _ _ _ _ _ _ HB.out.1 (by have := HLN.out; omega)).mono ?_
        rintro e w4 ⟨vc, rfl, hc⟩
        simp only [Bool.false_eq_true, if_false] at hc ⊢
        have hfw := HB.out.2.then hc.fp
        have hs4 := hfw.size
        obtain ⟨aoc, capc, rfl⟩ := hc.shape
        have HC := Lib.hid (And.intro hc.sl hfw); clear hc hfw
        go_wp2_with fail
        refine (New_c w4.heap.size _ _ _ HC.out.1 (Nat.le_refl _)).mono ?_
        rintro e w5 ⟨br, rfl, hbr, hr, hf5⟩
        have hfw := HC.out.2.then hf5
        have HR := Lib.hid (And.intro hr hfw); clear hr hfw hf5
        go_wp2_with fail
        go_loopw [9] (fun i wr => ∃ k : Nat, k ≤ l.length ∧ i = .int .i64 k ∧ Hid (Rr w4.heap.size br (encIs (l.drop k), 0) wr ∧ Fp Non w wr)) (fun i _ => l.length - (intOf i).toNat)
        case atStart => exact ⟨0, Nat.zero_le _, rfl, by rw [List.drop_zero]; exact HR.out⟩
        case round =>
          obtain ⟨k, hk, rfl, HQ⟩ := hrel
          by_cases hkl : k < l.length
          · have q3 : ((k : Int) < (l.length : Int)) = True := eq_true (by omega)
            have q4 : (k < l.length) = True := eq_true hkl
            rcases hcell with hcell | ⟨gi, oi, rfl, hgi, hcell⟩
            · omega
            have hgw := hgi
            have hit := (hcell k hkl).keep HQ.out.2 (fun _ h => h.elim) hgi
            have HIC := Lib.hid hcell; clear hcell
            have hsz := tot_get l k hkl
            have hdl : (encIs (l.drop k)).length ≤ 1000000 := by
              have h1 := HLN.out
              have h2 : encIs l = encIs (l.take k) ++ encIs (l.drop k) := by unfold encIs; rw [← List.flatten_append, ← List.map_append, List.take_append_drop]
              rw [h2, List.length_append] at h1; omega
            have HQL := Lib.hid hdl; clear hdl
            generalize hxx : l[k] = x at hit hsz
            have HX := Lib.hid hxx; clear hxx
            have HSZ := Lib.hid (show gsz x ≤ 20000 by have := HTOT.out; omega)
            have c0 := hit.c0
            have c1 := hit.c1
            clear hit hsz
            by_cases h0 : x.what = 0
            · have hok := HOKS.out k hkl
              rw [HX.out] at hok
              obtain ⟨nn, hnn⟩ := Int.eq_ofNat_of_zero_le (hok h0).1
              have hnM : nn ≤ M := by have := (hok h0).2; omega
              have HNN := Lib.hid hnn
              have HE := Lib.hid (show rNum (encIs (l.drop k), 0) x.n = (nn, (encIs (l.drop (k + 1)), 0)) by
                rw [encIs_drop l k hkl, HX.out]; unfold encI; rw [if_pos h0, hnn]; exact rNum_enc nn hnM _ _ (by omega))
              rw [h0] at c0
              rw [hnn] at c1 HE
              clear h0 hok hnM hnn
              go_wp2_with fail
              refine (RNum_c _ _ _ _ _ HQ.out.1 HQL.out).mono ?_
              rintro e u1 ⟨rfl, k1⟩
              rw [HE.out] at k1 ⊢
              have hfw : Fp Non w u1 := HQ.out.2.trans k1.2 (fun j hj => .inr (by omega))
              have hit1 := (HIC.out k hkl).keep hfw (fun _ h => h.elim) hgw
              rw [HX.out] at hit1
              have d1 := hit1.c1
              rw [HNN.out] at d1
              have HZ := Lib.hid (And.intro k1.1 hfw); clear k1 hfw hit1
              go_wp2
              go_roundw
              case rel => exact ⟨k + 1, by omega, by go_num, HZ.out⟩
              case measure => simp [intOf]; omega
            · by_cases h1 : x.what = 1
              · have HE := Lib.hid (show rText (encIs (l.drop k), 0) = (x.s, (encIs (l.drop (k + 1)), 0)) by
                  rw [encIs_drop l k hkl, HX.out]; unfold encI; rw [if_neg h0, if_pos h1]; exact rText_enc x.s _ (by have := HSZ.out; unfold gsz at this; unfold M; omega))
                rw [h1] at c0
                clear h0 h1
                go_wp2_with fail
                refine (RText_c _ _ _ _ HQ.out.1 HQL.out).mono ?_
                rintro e u1 ⟨rfl, k1⟩
                rw [HE.out] at k1 ⊢
                have hfw : Fp Non w u1 := HQ.out.2.trans k1.2 (fun j hj => .inr (by omega))
                have hit1 := (HIC.out k hkl).keep hfw (fun _ h => h.elim) hgw
                rw [HX.out] at hit1
                have d2 := hit1.c2
                have HZ := Lib.hid (And.intro k1.1 hfw); clear k1 hfw hit1
                go_wp2
                go_roundw
                case rel => exact ⟨k + 1, by omega, by go_num, HZ.out⟩
                case measure => simp [intOf]; omega
              · by_cases h2 : x.what = 2
                · have HPL := Lib.hid (show x.ps.length ≤ 1000000 by have := HSZ.out; unfold gsz at this; omega)
                  have HE := Lib.hid (show rTexts (encIs (l.drop k), 0) = (x.ps, (encIs (l.drop (k + 1)), 0)) by
                    rw [encIs_drop l k hkl, HX.out]; unfold encI; rw [if_neg h0, if_neg h1, if_pos h2]
                    refine rTexts_enc x.ps _ (fun p hp => ?_) (by have := HPL.out; unfold M; omega)
                    obtain ⟨j, hj, rfl⟩ := List.getElem_of_mem hp
                    have := szs_get x.ps j hj
                    have := HSZ.out; unfold gsz at this; unfold M; omega)
                  rw [h2] at c0
                  clear h0 h1 h2
                  go_wp2_with fail
                  refine (RTexts_c _ _ _ _ HQ.out.1 HQL.out).mono ?_
                  rintro e u1 ⟨vt, rfl, ho, k1⟩
                  rw [HE.out] at k1 ho
                  have hfw : Fp Non w u1 := HQ.out.2.trans k1.2 (fun j hj => .inr (by omega))
                  have hit1 := (HIC.out k hkl).keep hfw (fun _ h => h.elim) hgw
                  rw [HX.out] at hit1
                  have d3 := hit1.c3
                  have HS1 := Lib.hid (And.intro ho.ss hit1.ss)
                  obtain ⟨at1, nt1, ct1, rfl⟩ := ho.shape
                  have HZ := Lib.hid (And.intro k1.1 hfw); clear k1 hfw hit1 ho
                  go_wp2_with fail
                  refine (Same_c _ _ x.ps _ HS1.out.1 HS1.out.2 HPL.out).mono ?_
                  rintro e u2 ⟨rfl, hf2⟩
                  have hz2 : Rr w4.heap.size br (encIs (l.drop (k + 1)), 0) u2 ∧ Fp Non w u2 := ⟨HZ.out.1.keep hf2 (fun h => h), HZ.out.2.then hf2⟩
                  have HZ2 := Lib.hid hz2; clear hz2 hf2
                  go_wp2
                  go_roundw
                  case rel => exact ⟨k + 1, by omega, by go_num, HZ2.out⟩
                  case measure => simp [intOf]; omega
                · have t0 : (x.what == 0) = false := beq_eq_false_iff_ne.2 h0
                  have t1 : (x.what == 1) = false := beq_eq_false_iff_ne.2 h1
                  have t2 : (x.what == 2) = false := beq_eq_false_iff_ne.2 h2
                  have HE := Lib.hid (show encIs (l.drop k) = encIs (l.drop (k + 1)) by rw [encIs_drop l k hkl, HX.out]; unfold encI; rw [if_neg h0, if_neg h1, if_neg h2, List.nil_append])
                  clear h0 h1 h2
                  go_wp2
                  go_roundw
                  case rel => exact ⟨k + 1, by omega, by go_num, by have := HQ.out; rw [HE.out] at this; exact this⟩
                  case measure => simp [intOf]; omega
          · have q3 : ((k : Int) < (l.length : Int)) = False := eq_false (by omega)
            have q4 : (k < l.length) = False := eq_false hkl
            have hq := HQ.out
            rw [show l.drop k = [] from List.drop_of_length_le (by omega)] at hq
            have HQ2 := Lib.hid hq
            clear hq hkl hk
            go_wp2_with fail
            refine (REnd_c _ _ _ _ HQ2.out.1).mono ?_
            rintro e u1 ⟨rfl, rfl⟩
            have est : stEnd (encIs [], 0) = true := rfl
            rw [est]
            go_wp2_with fail
            refine (RNum_c _ _ _ _ _ HQ2.out.1 (by simp [encIs])).mono ?_
            rintro e u2 ⟨rfl, k2⟩
            have e7 : rNum (encIs [], 0) 281474976710656 = (0, ([], 21)) := rfl
            rw [e7] at k2
            have hfw := HQ2.out.2.trans k2.2 (fun j hj => .inr (by omega))
            have HZ := Lib.hid (And.intro k2.1 hfw); clear k2 hfw
            go_wp2_with fail
            refine (RErr_c _ _ _ _ HZ.out.1).mono ?_
            rintro e u3 ⟨rfl, rfl⟩
            go_wp2
            go_ret
            exact ⟨rfl, HZ.out.2⟩

theorem PackBack_c (vl : Value) (l : List It) (w : World) (hl : Its2 w w.heap.size vl l) :
    Calls Try.prog 5 #[vl] w fun e w' => e = .returned (.bool true) ∧ Below w.heap.size w w' :=
  (PackBack_f vl l w hl).mono fun _ _ h => ⟨h.1, h.2.below (fun _ h => h.elim) (Nat.le_refl _)⟩
end Go.Proofs.Ytidkihadlhkbkaa
