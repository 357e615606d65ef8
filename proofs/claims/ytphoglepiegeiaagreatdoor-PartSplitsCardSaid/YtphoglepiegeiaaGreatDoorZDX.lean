/- A text of this proof. -/
import Derived.Ground.SlsfProg
import Derived.Shelf.SlSortCmp.NoneTotal
import Derived.Shelf.SlSortCmp.WholeK
import Derived.Test.YtphoglepiegeiaaGreatDoorProg
import Derived.Test.YtphoglepiegeiaaGreatDoorZDD
import Derived.Test.YtphoglepiegeiaaGreatDoorZDG
import Derived.Test.YtphoglepiegeiaaGreatDoorZDH
import Derived.Test.YtphoglepiegeiaaGreatDoorZDM
import Derived.Test.YtphoglepiegeiaaGreatDoorZDN
import Derived.Test.YtphoglepiegeiaaGreatDoorZDW
set_option linter.unusedSimpArgs false
set_option linter.unusedVariables false
namespace Go.Proofs.YtphoglepiegeiaaGreatDoor
set_option maxRecDepth 20000
open Go.RowKit Pm
def atB (l : List Nd) (p : Bs) : Bool := if h : place l p < l.length then decide ((l[place l p]).path = p) else false
set_option maxHeartbeats 2000000 in
theorem SearchW_c (v : Value) (l : List Nd) (p : Bs) (w : World) (hv : Ns w v l) (ha : AscW l) (hn : l.length ≤ 1000000) :
  Calls Tryz.prog 150 #[v, .string (B p), .func (.func 151) #[] #[]] w fun e w' => e = .returned (.tuple #[.int .i64 (place l p), .bool (atB l p)]) ∧ Fp Non w w' := by
 obtain ⟨ao, cap, rfl⟩ := hv.shape
 obtain ⟨n, hnn⟩ : ∃ n, n = l.length := ⟨_, rfl⟩
 have HX := Lib.hid (And.intro hnn (And.intro hv ha))
 have H0 : Hid (BsM l p w 0 n w) := ⟨Fp.refl _ _, fun x _ h => absurd h (Nat.not_lt_zero x), fun x h1 h2 => by omega, Nat.zero_le _, by omega⟩
 rw [← hnn]
 have hnb : n ≤ 1000000 := by omega
 clear hv ha hn hnn
 go_enter Tryz.func150, Tryz.ntmps150
 go_wp2_with fail
 go_loopw [9, 10] (fun i j wr => ∃ a b : Nat, a ≤ n ∧ b ≤ n ∧ i = .int .i64 a ∧ j = .int .i64 b ∧ Hid (BsM l p w a b wr)) (fun i j _ => (RowKit.intOf j).toNat - (RowKit.intOf i).toNat)
 case atStart => exact ⟨0, n, Nat.zero_le _, Nat.le_refl _, rfl, rfl, H0⟩
 obtain ⟨a, b, han, hbn, rfl, rfl, hR⟩ := hrel
 rename_i wr _
 by_cases hlt : a < b
 ·obtain ⟨h, hh⟩ : ∃ h, h = (a + b) / 2 := ⟨_, rfl⟩
  have hab : a ≤ h ∧ h < b := by omega
  have he : ((a : Int) + (b : Int)) / 2 = (h : Int) := by omega
  have hhl : h < l.length := by rw [← HX.out.1]; omega
  have q5 : (h < n) = True := eq_true (by omega)
  have q6 : ((h : Int) < (n : Int)) = True := eq_true (by omega)
  obtain ⟨g, o, cap', e, _, _, _, hcell⟩ := HX.out.2.1.at (by omega)
  injection e with e1 e2 e3
  subst e1 e3
  have hnd := (hcell h hhl).keep hR.out.fp id
  have hdn : lt l[h].path p = true → ∀ x (hx : x < l.length), x < h + 1 → lt l[x].path p = true := fun k x hx hxh => by
   rcases Nat.lt_or_eq_of_le (show x ≤ h by omega) with e | e
   ·exact lt_of_le_lt (HX.out.2.2 x h hx hhl e) k
   subst e; exact k
  have hup : lt l[h].path p = false → ∀ x (hx : x < l.length), h ≤ x → lt l[x].path p = false := fun k x hx hxh => by
   rcases Nat.lt_or_eq_of_le hxh with e | e
   ·cases c : lt l[x].path p with
    | false => rfl
    | true => rw [lt_of_le_lt (HX.out.2.2 h x hhl hx e) c] at k; cases k
   subst e; exact k
  have hpc := fun w => placeP1_c l[h] p w
  have HB := Lib.hid (And.intro hdn hup)
  have HA := Lib.hid (And.intro hab (And.intro han hbn))
  clear hcell hdn hup hh han hbn
  generalize l[h] = y at *
  have c0 := hnd.c0; have c1 := hnd.c1; have c2 := hnd.c2; have c3 := hnd.c3; have c4 := hnd.c4
  unfold strV at c0 c1
  unfold ndV strV at hpc
  have q3 : ((a : Int) < (b : Int)) = True := eq_true (by omega)
  have q4 : (a < b) = True := eq_true hlt
  have hcmp : ∃ z, cmpI y.path p = z := ⟨_, rfl⟩
  obtain ⟨z, hz⟩ := hcmp
  rw [hz] at hpc
  have HPC := Lib.hid hpc
  have hhb : h ≤ 1000000 := by have := HA.out; omega
  clear hnd hpc hhl hlt hab
  by_cases hlo : lt y.path p = true
  ·have z0 : (z < 0) = True := eq_true (by rw [← hz]; unfold cmpI; rw [if_pos hlo]; decide)
   have HLo := Lib.hid hlo
   clear hz hlo
   go_wp2_with fail
   refine (HPC.out _).mono ?_
   rintro e w2 ⟨rfl, hf2⟩
   have hM : Hid (BsM l p w (h + 1) b w2) := ⟨hR.out.fp.then hf2, HB.out.1 HLo.out, hR.out.hi, by have := HA.out.1; omega, hR.out.jn⟩
   clear hf2
   go_wp2
   go_roundw
   case rel => exact ⟨h + 1, b, by have := HA.out; omega, HA.out.2.2, by go_num, rfl, hM⟩
   case measure => have := HA.out; simp [RowKit.intOf]; omega
  have hlo' : lt y.path p = false := by simpa using hlo
  have z0 : (z < 0) = False := eq_false (by rw [← hz]; unfold cmpI; rw [if_neg hlo]; split <;> decide)
  have HLo := Lib.hid hlo'
  clear hz hlo hlo'
  go_wp2_with fail
  refine (HPC.out _).mono ?_
  rintro e w2 ⟨rfl, hf2⟩
  have hM : Hid (BsM l p w a h w2) := ⟨hR.out.fp.then hf2, hR.out.lo, HB.out.2 HLo.out, by have := HA.out.1; omega, by have := HA.out.1; have := hR.out.jn; omega⟩
  clear hf2
  go_wp2
  go_roundw
  case rel => exact ⟨a, h, HA.out.2.1, by have := HA.out; omega, rfl, rfl, hM⟩
  case measure => have := HA.out; simp [RowKit.intOf]; omega
 have hab : a = b := by have := hR.out.ij; omega
 subst hab
 have hpl : place l p = a := place_of hR.out.jn hR.out.lo hR.out.hi
 have q3 : ((a : Int) < (a : Int)) = False := eq_false (by omega)
 have hfp : atB l p = if h : place l p < l.length then decide ((l[place l p]).path = p) else false := rfl
 rw [hpl] at hfp
 have HP := Lib.hid hpl
 by_cases hal : a < n
 ·have hal' : a < l.length := by rw [← HX.out.1]; exact hal
  rw [dif_pos hal'] at hfp
  obtain ⟨g, o, cap', e, _, _, _, hcell⟩ := HX.out.2.1.at (by omega)
  injection e with e1 e2 e3
  subst e1 e3
  have hnd := (hcell a hal').keep hR.out.fp id
  have hpc := fun w => placeP1_c l[a] p w
  have hnl := hR.out.hi a hal' (Nat.le_refl _)
  clear hcell
  generalize l[a] = y at *
  have c0 := hnd.c0; have c1 := hnd.c1; have c2 := hnd.c2; have c3 := hnd.c3; have c4 := hnd.c4
  unfold strV at c0 c1
  unfold ndV strV at hpc
  have q5 : ((a : Int) < (n : Int)) = True := eq_true (by omega)
  have q6 : (a < n) = True := eq_true hal
  obtain ⟨z, hz⟩ : ∃ z, cmpI y.path p = z := ⟨_, rfl⟩
  have hze : (z == 0) = (atB l p) := by
   rw [hfp, ← hz]; unfold cmpI
   rw [if_neg (by rw [hnl]; exact Bool.false_ne_true)]
   by_cases e : y.path = p
   ·rw [if_pos e, decide_eq_true e]; rfl
   rw [if_neg e, decide_eq_false e]; rfl
  rw [hz] at hpc
  have HPC := Lib.hid hpc
  have HZ := Lib.hid hze
  clear hnd hpc hz hze hfp hnl hal hal' hpl han hbn
  go_wp2_with fail
  refine (HPC.out _).mono ?_
  rintro e w2 ⟨rfl, hf2⟩
  have HF := Lib.hid (hR.out.fp.then hf2)
  clear hf2
  go_wp2
  go_ret2
  exact ⟨by rw [HP.out, ← HZ.out]; rfl, HF.out⟩
 have q5 : ((a : Int) < (n : Int)) = False := eq_false (by omega)
 have q6 : (a < n) = False := eq_false hal
 rw [dif_neg (by rw [← HX.out.1]; exact hal)] at hfp
 have HFN := Lib.hid hfp
 clear hfp hpl hal hlt han hbn
 go_wp2
 go_ret2
 exact ⟨by rw [HP.out, HFN.out]; rfl, hR.out.fp⟩
set_option maxHeartbeats 1000000 in
theorem placeW_c (v : Value) (l : List Nd) (p : Bs) (w : World) (hv : Ns w v l) (ha : AscW l) (hn : l.length ≤ 1000000) :
  Calls Tryz.prog 107 #[v, .string (B p)] w fun e w' => e = .returned (.tuple #[.int .i64 (place l p), .bool (atB l p)]) ∧ Fp Non w w' := by
 have hs := SearchW_c v l p w hv ha hn
 obtain ⟨ao, cap, rfl⟩ := hv.shape
 generalize l.length = n at *
 have HS := Lib.hid hs
 clear hs hv hn ha
 go_enter Tryz.func107, Tryz.ntmps107
 go_wp2_with fail
 refine HS.out.mono ?_
 rintro e w1 ⟨rfl, hf⟩
 have HF := Lib.hid hf
 clear hf
 go_wp2
 go_ret2
 exact ⟨rfl, HF.out⟩
structure TtR (lo : Nat) (vl : Value) (A : List Nd) (ts : List Tu) (w : World) (e : Ending) (w' : World) : Prop where
 ex : ∃ b, e = .returned (.bool b) ∧ ((b = true ∧ ∃ m, giveAll A ts = some m ∧ Ow lo w' vl m) ∨ (b = false ∧ giveAll A ts = none))
 fp : Fp (fun k => vl.ownBlock = some k) w w'
theorem give_step {A m : List Nd} {ts : List Tu} {k : Nat} (hk : k < ts.length) (h : giveAll A (ts.take k) = some m) : giveAll A (ts.take (k + 1)) = give m ts[k] := by
 rw [List.take_succ_eq_append_getElem hk, giveAll_app, h, Option.bind_some, giveAll_one]
theorem give_stop {A m : List Nd} {ts : List Tu} {k : Nat} (hk : k < ts.length) (h : giveAll A (ts.take k) = some m) (hn : give m ts[k] = none) : giveAll A ts = none := by
 have e : ts = ts.take (k + 1) ++ ts.drop (k + 1) := (List.take_append_drop _ _).symm
 rw [e, giveAll_app, give_step hk h, hn]; rfl
theorem give_at {m : List Nd} {t : Tu} : give m t = if atB m t.dir = true then (if h : place m t.dir < m.length then (if (m[place m t.dir]).turn = 0 then some (m.set (place m t.dir) { m[place m t.dir] with turn := t.next }) else none) else none) else none := by
 unfold give atB
 by_cases h : place m t.dir < m.length
 ·simp only [dif_pos h, decide_eq_true_eq]
  by_cases e : (m[place m t.dir]).path = t.dir
  ·simp only [e, if_true, true_and]
  simp only [e, if_false, false_and]
 simp only [dif_neg h]; simp
set_option maxHeartbeats 8000000 in
theorem takeTurns_c {lo : Nat} {vl vt : Value} {A : List Nd} {ts : List Tu} {w : World} (h : Ow lo w vl A) (ht : Ts w vt ts) (hap : 0 < ts.length → ∀ k, vt.ownBlock = some k → vl.ownBlock ≠ some k) (ha : AscW A) (hA : A.length ≤ 100000) (hT : ts.length ≤ 100000) :
  Calls Tryz.prog 74 #[vl, vt] w (TtR lo vl A ts w) := by
 obtain ⟨ao, cap, rfl⟩ := h.ns.shape
 obtain ⟨at_, ct, rfl⟩ := ht.shape
 obtain ⟨n, hn⟩ : ∃ n, n = ts.length := ⟨_, rfl⟩
 obtain ⟨na, hna⟩ : ∃ na, na = A.length := ⟨_, rfl⟩
 rw [← hn, ← hna]
 have hnb : n ≤ 100000 := by omega
 have H0 : Hid (∃ m, giveAll A (ts.take 0) = some m ∧ Ow lo w (.slice ao na cap) m ∧ Fp (fun k => (Value.slice ao na cap).ownBlock = some k) w w) := ⟨A, rfl, by rw [hna]; exact h, Fp.refl _ _⟩
 have HX := Lib.hid (And.intro hn (And.intro hna (And.intro ht (And.intro ha (And.intro hA hap)))))
 clear h ht hap ha hA hT hn hna
 go_enter Tryz.func74, Tryz.ntmps74
 go_wp2_with fail
 go_loopw [11] (fun i wr => ∃ k : Nat, k ≤ n ∧ i = .int .i64 k ∧ Hid (∃ m, giveAll A (ts.take k) = some m ∧ Ow lo wr (.slice ao na cap) m ∧ Fp (fun k => (Value.slice ao na cap).ownBlock = some k) w wr)) (fun i _ => n - (RowKit.intOf i).toNat)
 case atStart => exact ⟨0, Nat.zero_le _, rfl, H0⟩
 clear H0
 obtain ⟨k, hk, rfl, hR⟩ := hrel
 rename_i wr _
 obtain ⟨m, hg, hO, hF⟩ := hR.out
 clear hR
 by_cases hlt : k < n
 ·have hkl : k < ts.length := by rw [← HX.out.1]; exact hlt
  obtain ⟨g, o, ct', e9, _, _, _, hcell⟩ := HX.out.2.2.1.at (by omega)
  injection e9 with e1 e2 e3
  subst e1 e3
  have hnd := (hcell k hkl).keep hF (fun e => HX.out.2.2.2.2.2 (by omega) g rfl (by rw [HX.out.2.1] at e; exact e))
  have hst := give_step hkl hg
  have hsp := fun hz => give_stop hkl hg hz
  have hkn := giveAll_kn hg
  have hml : m.length = A.length := by have := congrArg List.length hkn; simpa using this
  have hmw := HX.out.2.2.2.1.kn hkn
  obtain ⟨t, htt⟩ : ∃ t, ts[k] = t := ⟨_, rfl⟩
  rw [htt] at hnd hst hsp
  rw [give_at] at hst hsp
  obtain ⟨td, tx⟩ := t
  simp only at hst hsp
  have c0 := hnd.c0; have c1 := hnd.c1
  unfold strV at c0
  simp only at c0 c1
  have hpl := placeW_c (.slice ao na cap) m td
  have HPL := Lib.hid (fun W (hW : Ns W (.slice ao na cap) m) => hpl W hW hmw (by have := HX.out.2.2.2.2.1; omega))
  obtain ⟨q, hq⟩ : ∃ q, place m td = q := ⟨_, rfl⟩
  simp only [hq] at hst hsp HPL
  have q3 : ((k : Int) < (n : Int)) = True := eq_true (by omega)
  have q4 : (k < n) = True := eq_true hlt
  have HL := Lib.hid hlt
  have hbx := heap_alloc_new wr (.cells #[.string (B td), .int .i64 tx] TU)
  have K0 := Lib.hid (Kp.and (Kp.row hbx) (Kp.and (Kp.fp (fp_alloc wr (.cells #[.string (B td), .int .i64 tx] TU))) (fun W' f => hO.non ((fp_alloc wr (.cells #[.string (B td), .int .i64 tx] TU)).then f))))
  have hqb : atB m td = true → ∃ h : q < m.length, (m[q]).path = td := fun hb => by
   unfold atB at hb
   rw [hq] at hb
   by_cases h : q < m.length
   ·rw [dif_pos h] at hb; exact ⟨h, by simpa using hb⟩
   rw [dif_neg h] at hb; cases hb
  obtain ⟨ab, hab⟩ : ∃ ab, atB m td = ab := ⟨_, rfl⟩
  rw [hab] at hqb
  simp only [hab] at hst hsp HPL
  have HF := Lib.hid (And.intro hF hml)
  clear hcell hnd hg hO hF hkn hml hmw htt hkl hpl hbx hab hlt
  cases ab with
  | false =>
   simp only [Bool.false_eq_true, if_false] at hsp
   have HS := Lib.hid (hsp (by first | rfl | trivial))
   clear hst hsp hqb
   go_wp2_with fail
   obtain ⟨b0, b1⟩ := boxP2 K0.out.now.1
   refine (HPL.out _ K0.out.now.2.2.ns).mono ?_
   rintro e w2 ⟨rfl, hf⟩
   have F2 := Lib.hid ((HF.out.1.then K0.out.now.2.1).then hf)
   clear hf b0 b1
   go_wp2
   go_ret
   exact ⟨⟨false, rfl, .inr ⟨rfl, HS.out⟩⟩, F2.out⟩
  | true => ?_
  obtain ⟨hqm, hqp⟩ := hqb rfl
  simp only [if_true, dif_pos hqm] at hst hsp
  have hways := K0.out.now.2.2.ways
  rcases hways with ⟨_, e0⟩ | ⟨G, cp, e0, hr0, hlo⟩
  ·rw [e0] at hqm; simp at hqm
  injection e0 with e1 e2 e3
  subst e1 e3
  have hna : na = m.length := by rw [HF.out.2, HX.out.2.1]
  have q5 : ((q : Int) < (na : Int)) = True := eq_true (by omega)
  have q6 : (q < na) = True := eq_true (by omega)
  have hqb2 : q ≤ 100000 := by have := HX.out.2.2.2.2.1; have := HF.out.2; omega
  obtain ⟨x3, hx3⟩ : ∃ z, (m[q]).turn = z := ⟨_, rfl⟩
  have hxr : ∀ W, Nr W G cap m → W.cell? ⟨G, q * 5 + 3, none⟩ = some (.int .i64 x3) := fun W hW => by have := (hW.nd q hqm).c3; rw [hx3, Nat.zero_add] at this; exact this
  have HXR := Lib.hid hxr
  have HLO := Lib.hid hlo
  have hr0' : ∀ W, Ow lo W (.slice (some ⟨G, 0, none⟩) na cap) m → Nr W G cap m := fun W hW => by
   rcases hW.ways with ⟨e, _⟩ | ⟨G', cp', e, hr, _⟩
   ·cases e
   injection e with e1 e2 e3
   injection e1 with e1
   injection e1 with e1
   subst e1 e3
   exact hr
  have HNR := Lib.hid hr0'
  have HNA := Lib.hid hna
  clear hr0 hxr hlo hr0' e2 hna
  by_cases hz : x3 = 0
  ·have q7 : (x3 != 0) = false := by simp [hz]
   rw [if_pos (by rw [hx3]; exact hz)] at hst
   have HST := Lib.hid hst
   have HQM := Lib.hid hqm
   clear hst hsp hz hx3 hqp hqb
   go_wp2_with fail
   obtain ⟨b0, b1⟩ := boxP2 K0.out.now.1
   refine (HPL.out _ K0.out.now.2.2.ns).mono ?_
   rintro e w2 ⟨rfl, hf⟩
   have K2 := Lib.hid (K0.out.later hf)
   clear hf b0 b1
   have hnr := HNR.out _ K2.out.now.2.2
   have c3 := HXR.out _ hnr
   have z3 := hnr.frozen (q * 5 + 3)
   have b1 := (boxP2 K2.out.now.1).2
   have htn := hnr.turn q HQM.out tx
   have hfs : Fp (fun j => (Value.slice (some ⟨G, 0, none⟩) na cap).ownBlock = some j) w2 (w2.setCell ⟨G, q * 5 + 3, none⟩ (.int .i64 tx)) := (Fp.refl (fun j => (Value.slice (some ⟨G, 0, none⟩) na cap).ownBlock = some j) w2).setCell (p := ⟨G, q * 5 + 3, none⟩) (.inl rfl) _
   have hM : Hid (∃ m, giveAll A (ts.take (k + 1)) = some m ∧ Ow lo (w2.setCell ⟨G, q * 5 + 3, none⟩ (.int .i64 tx)) (.slice (some ⟨G, 0, none⟩) na cap) m ∧ Fp (fun j => (Value.slice (some ⟨G, 0, none⟩) na cap).ownBlock = some j) w (w2.setCell ⟨G, q * 5 + 3, none⟩ (.int .i64 tx))) := by
    refine ⟨_, HST.out, ?_, ((HF.out.1.then K2.out.now.2.1)).same hfs⟩
    have := Ow.row (lo := lo) htn HLO.out
    rw [List.length_set] at this
    rw [HNA.out]; exact this
   clear hnr htn hfs
   have hj1 := HL.out
   go_wp2
   go_roundw
   case rel => exact ⟨k + 1, by omega, by go_num, hM⟩
   case measure => simp [RowKit.intOf]; omega
  have q7 : (x3 != 0) = true := by simpa using hz
  have HS := Lib.hid (hsp (by rw [if_neg (by rw [hx3]; exact hz)]))
  clear hst hsp hz hx3 hqp
  go_wp2_with fail
  obtain ⟨b0, b1⟩ := boxP2 K0.out.now.1
  refine (HPL.out _ K0.out.now.2.2.ns).mono ?_
  rintro e w2 ⟨rfl, hf⟩
  have K2 := Lib.hid (K0.out.later hf)
  clear hf b0 b1
  have c3 := HXR.out _ (HNR.out _ K2.out.now.2.2)
  have F2 := Lib.hid (HF.out.1.then K2.out.now.2.1)
  go_wp2
  go_ret
  exact ⟨⟨false, rfl, .inr ⟨rfl, HS.out⟩⟩, F2.out⟩
 have hke : k = n := by omega
 subst hke
 have q3 : ((k : Int) < (k : Int)) = False := eq_false (by omega)
 rw [HX.out.1, List.take_length] at hg
 have HF := Lib.hid (And.intro hg (And.intro hO hF))
 clear hlt hk hg hO hF
 go_wp2
 go_ret
 exact ⟨⟨true, rfl, .inl ⟨rfl, m, HF.out.1, HF.out.2.1⟩⟩, HF.out.2.2⟩
end Go.Proofs.YtphoglepiegeiaaGreatDoor
namespace Go.Proofs
open Go.Shelf
def Tryz.sortN_ren : Go.Shelf.Ren := ⟨fun | 6 => 71 | 15 => 105 | 14 => 104 | 28 => 147 | 29 => 148 | 20 => 139 | 21 => 140 | 22 => 141 | 23 => 142 | 24 => 143 | 25 => 144 | 26 => 145 | 27 => 146 | 46 => 171 | 47 => 172 | 48 => 173 | 49 => 174 | 50 => 175 | 57 => 187 | n => n, fun | 22 => 22 | 24 => 79 | 25 => 102 | 3 => 3 | 39 => 127 | 0 => 0 | 53 => 161 | 55 => 163 | 4 => 4 | 46 => 155 | 45 => 154 | 50 => 128 | 5 => 5 | 9 => 9 | 66 => 176 | 70 => 180 | 76 => 189 | 77 => 190 | n => n, fun | n => n⟩
theorem Tryz.sortN : Go.Proofs.SlLaysF0.n6 Tryz.prog Tryz.sortN_ren := {
 mixed := by kernel_rfl
 f6 := ⟨Tryz.f71.name, by decide, Tryz.func71.trans (congrArg some (by kernel_rfl))⟩
 f14 := ⟨Tryz.f104.name, by decide, Tryz.func104.trans (congrArg some (by kernel_rfl))⟩
 f15 := Tryz.func105.trans (congrArg some (by kernel_rfl))
 f20 := ⟨Tryz.f139.name, by decide, Tryz.func139.trans (congrArg some (by kernel_rfl))⟩
 f21 := ⟨Tryz.f140.name, by decide, Tryz.func140.trans (congrArg some (by kernel_rfl))⟩
 f22 := ⟨Tryz.f141.name, by decide, Tryz.func141.trans (congrArg some (by kernel_rfl))⟩
 f23 := ⟨Tryz.f142.name, by decide, Tryz.func142.trans (congrArg some (by kernel_rfl))⟩
 f24 := ⟨Tryz.f143.name, by decide, Tryz.func143.trans (congrArg some (by kernel_rfl))⟩
 f25 := ⟨Tryz.f144.name, by decide, Tryz.func144.trans (congrArg some (by kernel_rfl))⟩
 f26 := ⟨Tryz.f145.name, by decide, Tryz.func145.trans (congrArg some (by kernel_rfl))⟩
 f27 := ⟨Tryz.f146.name, by decide, Tryz.func146.trans (congrArg some (by kernel_rfl))⟩
 f28 := Tryz.func147.trans (congrArg some (by kernel_rfl))
 f29 := Tryz.func148.trans (congrArg some (by kernel_rfl))
 f46 := ⟨Tryz.f171.name, by decide, Tryz.func171.trans (congrArg some (by kernel_rfl))⟩
 f47 := Tryz.func172.trans (congrArg some (by kernel_rfl))
 f48 := Tryz.func173.trans (congrArg some (by kernel_rfl))
 f49 := ⟨Tryz.f174.name, by decide, Tryz.func174.trans (congrArg some (by kernel_rfl))⟩
 f50 := ⟨Tryz.f175.name, by decide, Tryz.func175.trans (congrArg some (by kernel_rfl))⟩
 f57 := ⟨Tryz.f187.name, by decide, Tryz.func187.trans (congrArg some (by kernel_rfl))⟩
 t0 := Tryz.underlying0
 a0 := Tryz.isAgg0
 z0 := Tryz.sizeOf0
 v0 := Tryz.zeroValue0
 t3 := Tryz.underlying3
 a3 := Tryz.isAgg3
 z3 := Tryz.sizeOf3
 v3 := Tryz.zeroValue3
 t4 := Tryz.underlying4
 a4 := Tryz.isAgg4
 z4 := Tryz.sizeOf4
 v4 := Tryz.zeroValue4
 t5 := Tryz.underlying5
 a5 := Tryz.isAgg5
 z5 := Tryz.sizeOf5
 v5 := Tryz.zeroValue5
 t9 := Tryz.underlying9
 a9 := Tryz.isAgg9
 z9 := Tryz.sizeOf9
 v9 := Tryz.zeroValue9
 t22 := Tryz.underlying22
 a22 := Tryz.isAgg22
 z22 := Tryz.sizeOf22
 v22 := Tryz.zeroValue22
 t25 := Tryz.underlying102
 a25 := Tryz.isAgg102
 z25 := Tryz.sizeOf102
 v25 := Tryz.zeroValue102
 t39 := Tryz.underlying127
 a39 := Tryz.isAgg127
 z39 := Tryz.sizeOf127
 v39 := Tryz.zeroValue127
 t45 := Tryz.underlying154
 a45 := Tryz.isAgg154
 z45 := Tryz.sizeOf154
 v45 := Tryz.zeroValue154
 t46 := Tryz.underlying155
 a46 := Tryz.isAgg155
 z46 := Tryz.sizeOf155
 v46 := Tryz.zeroValue155
 t50 := Tryz.underlying128
 a50 := Tryz.isAgg128
 z50 := Tryz.sizeOf128
 v50 := Tryz.zeroValue128
 t53 := Tryz.underlying161
 a53 := Tryz.isAgg161
 z53 := Tryz.sizeOf161
 v53 := Tryz.zeroValue161
 t55 := Tryz.underlying163
 a55 := Tryz.isAgg163
 z55 := Tryz.sizeOf163
 v55 := Tryz.zeroValue163
 t66 := Tryz.underlying176
 a66 := Tryz.isAgg176
 z66 := Tryz.sizeOf176
 v66 := Tryz.zeroValue176
 t70 := Tryz.underlying180
 a70 := Tryz.isAgg180
 z70 := Tryz.sizeOf180
 v70 := Tryz.zeroValue180
 t76 := Tryz.underlying189
 a76 := Tryz.isAgg189
 z76 := Tryz.sizeOf189
 v76 := Tryz.zeroValue189
 t77 := Tryz.underlying190
 a77 := Tryz.isAgg190
 z77 := Tryz.sizeOf190
 v77 := Tryz.zeroValue190 }
end Go.Proofs
namespace Go.Proofs.YtphoglepiegeiaaGreatDoor
set_option maxRecDepth 20000
open Go.RowKit Pm Go.Sort
instance : Inhabited Nd := ⟨⟨[], [], 0, 0, 0⟩⟩
def cfN (a b : Nd) : Int := cmpI a.path b.path
theorem cfN_lt (a b : Nd) : ltOf cfN a b = lt a.path b.path := by
 unfold ltOf cfN cmpI
 cases h : lt a.path b.path with
 | true => simp
 | false => ?_
 simp only [Bool.false_eq_true, if_false]
 split <;> simp
theorem cfN_swo : SWO (ltOf cfN) where
 irrefl x := by rw [cfN_lt]; exact lt_irrefl _
 trans x y z h1 h2 := by rw [cfN_lt] at *; exact lt_trans h1 h2
 ntrans x y z h1 h2 := by
  rw [cfN_lt] at *
  cases h : lt x.path z.path with
  | false => rfl
  | true => ?_
  have := lt_le_trans h h2
  rw [h1] at this; cases this
theorem putRows (l : List Nd) (dk : Array Nd) (rest : List Value) (hs : dk.size = l.length) : putCells id 0 (flatK ndC 5 dk) (rows l ++ rest).toArray = (rows dk.toList ++ rest).toArray := by
 apply Array.ext
 ·simp [putCells, rows_len, hs]
 intro i h1 h2
 simp only [putCells, Array.getElem_mapIdx, List.getElem_toArray, size_flatK, id, Nat.zero_add, Nat.sub_zero, Nat.zero_le, true_and]
 by_cases hi : i < dk.size * 5
 ·have h5 : i / 5 < dk.size := by omega
  have h6 := rows_get dk.toList (i / 5) (i % 5) (by simpa using h5) (by omega)
  rw [show i / 5 * 5 + i % 5 = i by omega] at h6
  rw [if_pos hi, get_flatK _ _ _ _ hi, List.getElem_append_left (by rw [rows_len]; simpa using hi)]
  rw [List.getElem?_eq_getElem (by rw [rows_len]; simpa using hi)] at h6
  simp only [Array.getElem_toList] at h6
  rw [getElem!_pos dk (i / 5) h5, List.getElem!_eq_getElem?_getD, ← h6]; rfl
 rw [if_neg hi, List.getElem_append_right (by rw [rows_len]; omega), List.getElem_append_right (by rw [rows_len]; simp; omega)]
 simp [rows_len, hs]
theorem sort_nr {w : World} {G cap : Nat} {l : List Nd} (h : Nr w G cap l) (m : Nat) (dk : Array Nd) (os : Array Obj) (hs : dk.size = l.length) : Nr (sortWorldK ndC 5 w G 0 m dk os) G cap dk.toList := by
 obtain ⟨rest, h1, h2⟩ := h.ex
 have hG := h.lt
 refine ⟨⟨rest, ?_, by simp [hs]; omega⟩, by simp [hs]; exact h.room, h.most⟩
 unfold sortWorldK grow putRowK putRow mapBlock Go.Sort.ahead
 simp only
 rw [Array.getElem?_append_left (by simpa using hG), Array.getElem?_modify, if_pos rfl, h1]
 simp only [Option.map_some, onCells]
 rw [putRows l dk rest hs]
theorem sort_fp {w : World} {G : Nat} (m : Nat) (dk : Array Nd) (os : Array Obj) : Fp (fun k => k = G) w (sortWorldK ndC 5 w G 0 m dk os) := by
 refine ⟨rfl, rfl, rfl, ?_, fun k hk hS => ?_⟩
 ·unfold sortWorldK grow putRowK putRow mapBlock Go.Sort.ahead; simp
 unfold sortWorldK grow putRowK putRow mapBlock Go.Sort.ahead
 simp only
 rw [Array.getElem?_append_left (by simpa using hk), Array.getElem?_modify, if_neg (fun e => hS e.symm)]
theorem holds_nr {w : World} {G cap : Nat} {l : List Nd} (h : Nr w G cap l) : HoldsK ndC 5 w G 0 l.toArray := by
 intro j hj
 simp only [size_flatK, List.size_toArray] at hj
 rw [Nat.zero_add]
 refine ⟨?_, h.frozen j⟩
 have h5 : j / 5 < l.length := by omega
 have h6 := h.cell (j / 5) (j % 5) h5 (by omega)
 rw [show j / 5 * 5 + j % 5 = j by omega] at h6
 rw [h6, get_flatK _ _ _ _ (by simpa using hj)]
 simp only [id]
 rw [getElem!_pos l.toArray (j / 5) (by simpa using h5)]
 simp only [List.getElem_toArray]
 rw [List.getElem!_eq_getElem?_getD]
 have h7 : j % 5 < (ndC l[j / 5]).length := by rw [ndC_len]; omega
 rw [List.getElem?_eq_getElem h7]; rfl
theorem sorted_ascW {l : List Nd} {d' : Array Nd} (hs : d'.size = l.length) (h : SortedIn (ltOf cfN) 0 l.length d') : AscW d'.toList := by
 intro i j hi hj hij
 have hi' : i < d'.size := by simpa using hi
 have hj' : j < d'.size := by simpa using hj
 have := h i j (Nat.zero_le _) hij (by omega)
 rw [cfN_lt, getElem!_pos d' j hj', getElem!_pos d' i hi'] at this
 simpa using this
theorem perm_in {l : List Nd} {d' : Array Nd} (h : PermIn 0 l.toArray.size l.toArray d') : d'.size = l.length ∧ d'.toList.Perm l := by
 obtain ⟨h1, _, h3⟩ := h
 have h1' : d'.size = l.length := by simpa using h1
 refine ⟨h1', ?_⟩
 have e1 : (d'.extract 0 l.toArray.size) = d' := by rw [show l.toArray.size = d'.size by simp [h1']]; simp
 have e2 : (l.toArray.extract 0 l.toArray.size) = l.toArray := by simp
 rw [e1, e2] at h3
 exact h3
theorem B_data (l : Bs) : (B l).data.toList = l := by unfold B; rfl
set_option maxHeartbeats 1000000 in
theorem treeCmp_c (x y : Nd) (W : World) :
  Calls Tryz.prog 72 #[ndV x, ndV y] W fun e w' => e = .returned (.int .i64 (cfN x y)) ∧ ∃ q os', w' = grow (W.drewN q) os' := by
 obtain ⟨np, d, v, t, o⟩ := x
 obtain ⟨np', d', v', t', o'⟩ := y
 unfold ndV strV cfN
 have hc := fun w => Tryz.strings_Compare (B np) (B np') w
 simp only [B_data, cmp_eq] at hc
 have HC := Lib.hid hc
 clear hc
 go_enter Tryz.func72, Tryz.ntmps72
 go_wp2_with fail
 refine (HC.out _).mono ?_
 rintro e w1 ⟨rfl, rfl⟩
 go_wp2
 go_ret
 exact ⟨rfl, 0, _, by rw [alloc_eq_grow, alloc_eq_grow, grow_grow]; rfl⟩
structure SoR (w : World) (G cap : Nat) (l : List Nd) (w' : World) : Prop where
 ex : ∃ l', Nr w' G cap l' ∧ l'.Perm l ∧ AscW l'
 fp : Fp (fun k => k = G) w w'
theorem sort_c (w : World) (G cap : Nat) (l : List Nd) (h : Nr w G cap l) (hl : l.length ≤ 1000000) :
  Calls Tryz.prog 71 #[.slice (some ⟨G, 0, none⟩) l.length cap, .func (.func 72) #[] #[]] w fun e w' => e = .returned (.tuple #[]) ∧ SoR w G cap l w' := by
 have eg : ∀ args w, (callFunc 72 args).run Tryz.prog w = .ok (.enter 72 args) w := enters_of Tryz.func72 (by kernel_rfl) rfl
 have hcmp : CmpLays Tryz.prog 72 #[] ndC 5 cfN G 0 l.toArray.size w := fun _ _ _ _ x y => treeCmp_c x y _
 have h1 : ∀ x, ∀ v ∈ ndC x, v.oneCell' = true := fun x v hv => by
  simp only [ndC, List.mem_cons, List.not_mem_nil, or_false] at hv
  rcases hv with rfl | rfl | rfl | rfl | rfl <;> rfl
 have hcon := AnyQ.slices_SortFunc Tryz.sortN 5 Tryz.isAgg79 Tryz.sizeOf79 ndC ndC_len h1 cfN cfN_swo 72 #[] G 0 cap l.toArray w eg hcmp (holds_nr h) h.lt (by simp; omega)
 simp only [List.size_toArray] at hcon
 refine Calls.mono (show Calls Tryz.prog 71 _ _ _ from hcon) ?_
 rintro e w' ⟨he, d', n, os, hp, hs, rfl⟩
 have hp' : PermIn 0 l.toArray.size l.toArray d' := by simpa using hp
 obtain ⟨k1, k2⟩ := perm_in hp'
 exact ⟨he, ⟨d'.toList, sort_nr h n d' os k1, k2, sorted_ascW k1 hs⟩, sort_fp n d' os⟩
theorem sort_none (w : World) (fv : Value) :
  Calls Tryz.prog 71 #[.slice none 0 0, fv] w fun e w' => e = .returned (.tuple #[]) ∧ w' = w :=
 AnyF.slices_SortFunc_none Tryz.sortN none 0 fv w
end Go.Proofs.YtphoglepiegeiaaGreatDoor
namespace Go.Proofs.YtphoglepiegeiaaGreatDoor
set_option maxRecDepth 20000
open Go.RowKit Pm
section
variable {α : Type} {enc : α → List Value} {k : Nat}
def rowsG (enc : α → List Value) (l : List α) : List Value := l.flatMap enc
theorem rowsG_cons (x : α) (l : List α) : rowsG enc (x :: l) = enc x ++ rowsG enc l := by simp [rowsG]
theorem rowsG_app (a b : List α) : rowsG enc (a ++ b) = rowsG enc a ++ rowsG enc b := by simp [rowsG]
theorem rowsG_len (hk : ∀ x, (enc x).length = k) (l : List α) : (rowsG enc l).length = l.length * k := by
 induction l with
 | nil => simp [rowsG]
 | cons x l ih => rw [rowsG_cons, List.length_append, hk, ih, List.length_cons, Nat.add_mul, Nat.one_mul, Nat.add_comm]
theorem rowsG_get (hk : ∀ x, (enc x).length = k) (l : List α) (i j : Nat) (hi : i < l.length) (hj : j < k) : (rowsG enc l)[i * k + j]? = (enc l[i])[j]? := by
 induction l generalizing i with
 | nil => simp at hi
 | cons x l ih =>
  rw [rowsG_cons]
  cases i with
  | zero => rw [List.getElem?_append_left (by rw [hk]; omega)]; simp
  | succ i => ?_
  have e : (i + 1) * k + j = k + (i * k + j) := by rw [Nat.add_mul, Nat.one_mul]; omega
  rw [List.getElem?_append_right (by rw [hk, e]; omega), hk, e, Nat.add_sub_cancel_left, ih i (by simpa using hi)]
  simp
structure ElAt (enc : α → List Value) (w : World) (g o : Nat) (x : α) : Prop where
 get : ∀ j v, (enc x)[j]? = some v → w.cell? ⟨g, o + j, none⟩ = some v
theorem ElAt.keep {w w' : World} {g o : Nat} {x : α} (h : ElAt enc w g o x) {S : Nat → Prop} (f : Fp S w w') (hS : ¬ S g) : ElAt enc w' g o x := ⟨fun j v hv => f.cell (h.get j v hv) hS⟩
structure Sg (enc : α → List Value) (k : Nat) (w : World) (v : Value) (l : List α) : Prop where
 ex : ∃ ao cap, v = .slice ao l.length cap ∧ (l = [] ∨ ∃ g o, ao = some ⟨g, o, none⟩ ∧ ∀ i (h : i < l.length), ElAt enc w g (o + i * k) l[i])
theorem Sg.non {w w' : World} {v : Value} {l : List α} (h : Sg enc k w v l) (f : Fp Non w w') : Sg enc k w' v l := by
 obtain ⟨ao, cap, rfl, h3⟩ := h.ex
 refine ⟨ao, cap, rfl, ?_⟩
 rcases h3 with h3 | ⟨g, o, rfl, hc⟩
 ·exact .inl h3
 exact .inr ⟨g, o, rfl, fun i hi => (hc i hi).keep f id⟩
theorem Sg.shape {w : World} {v : Value} {l : List α} (h : Sg enc k w v l) : ∃ ao cap, v = .slice ao l.length cap := by
 obtain ⟨ao, cap, rfl, _⟩ := h.ex; exact ⟨ao, cap, rfl⟩
theorem Sg.nil (w : World) : Sg enc k w (.slice none 0 0) [] := ⟨none, 0, rfl, .inl rfl⟩
theorem Sg.at {w : World} {v : Value} {l : List α} (h : Sg enc k w v l) (h0 : 0 < l.length) : ∃ g o cap, v = .slice (some ⟨g, o, none⟩) l.length cap ∧ ∀ i (h : i < l.length), ElAt enc w g (o + i * k) l[i] := by
 obtain ⟨ao, cap, rfl, h3⟩ := h.ex
 rcases h3 with h3 | ⟨g, o, rfl, hc⟩
 ·subst h3; simp at h0
 exact ⟨g, o, cap, rfl, hc⟩
def OwG (T : TypeId) (enc : α → List Value) (k : Nat) (lo : Nat) (w : World) (v : Value) (l : List α) : Prop := w.ownsRow lo T k v l.length (rowsG enc l)
variable {T : TypeId}
theorem OwG.nil (lo : Nat) (w : World) : OwG T enc k lo w (.slice none 0 0) [] := ⟨by simp [rowsG], .inl ⟨rfl, rfl⟩⟩
theorem OwG.non {lo : Nat} {w w' : World} {v : Value} {l : List α} (h : OwG T enc k lo w v l) (f : Fp Non w w') : OwG T enc k lo w' v l := f.owns h (fun _ _ h => h)
theorem OwG.lt {lo : Nat} {w : World} {v : Value} {l : List α} (h : OwG T enc k lo w v l) : ∀ j, v.ownBlock = some j → lo ≤ j ∧ j < w.heap.size := fun j hj => World.ownsRow.lt h j hj
end
theorem ptC_len (x : Pt) : (ptC x).length = 7 := rfl
end Go.Proofs.YtphoglepiegeiaaGreatDoor
