/- MetaRoutes (gen_e4.py) -/
import Derived.Test.YtdfnfkknbjageaaZT
set_option linter.unusedVariables false
set_option linter.unusedSimpArgs false
namespace Go.Proofs.Ytdfnfkknbjageaa
set_option maxRecDepth 20000
set_option linter.unusedVariables false
set_option linter.unusedSimpArgs false
open Go.RowKit Pm

theorem sg_offR {w w' : World} {q : Nat} {l : List Mt} {v : Value} {g : List Int} (h : MeW w q l) (hv : Sg inC 1 w v g) (f : Fp (fun k => k = q) w w') : Sg inC 1 w' v g := by
  obtain ⟨u, h1, h2⟩ := h.ex
  obtain ⟨a, n, c, rfl⟩ : ∃ a n c, u = .slice a n c := by obtain ⟨a, c, e⟩ := h2.shape; exact ⟨a, _, c, e⟩
  by_cases h0 : g = []
  · subst h0
    obtain ⟨ao, cap, e⟩ := hv.shape
    exact ⟨ao, cap, e, .inl rfl⟩
  · have h00 := List.length_pos_iff.2 h0
    obtain ⟨k, o, cap, rfl, hc⟩ := hv.at h00
    have hk : ¬ k = q := by
      rintro rfl
      have c0 := (hc 0 h00).get 0 _ rfl
      rw [cell_of_row _ _ _ _ _ _ h1] at c0
      cases ho : o + 0 * 1 + 0 with
      | zero => rw [ho] at c0; simp at c0
      | succ j => rw [ho] at c0; simp at c0
    exact ⟨_, cap, rfl, .inr ⟨k, o, rfl, fun i hi => (hc i hi).keep f hk⟩⟩

theorem inC_oneR : ∀ x : Int, ∀ u ∈ inC x, u.oneCell' = true := by
  intro x u hu
  simp only [inC, List.mem_cons, List.not_mem_nil, or_false] at hu
  subst hu; rfl
/-- Behind an append. -/
structure ApI (lo : Nat) (w0 : World) (g : List Int) (v' : Value) (w' : World) : Prop where
  ow : OwG TIN inC 1 lo w' v' g
  fp : Fp Non w0 w'
theorem app_int {w : World} {lo : Nat} {v : Value} {g : List Int} {z : Int} {w0 : World} (h : OwG TIN inC 1 lo w v g) (hf : Fp Non w0 w) (h0 : w0.heap.size ≤ lo) (hlo : lo ≤ w.heap.size) (hg : g.length ≤ 50000) :
    ∀ ty, ∃ v' w', (Builtin.append_ #[TLI, TLI] ty #[v, .slice (some ⟨w.heap.size, 0, none⟩) 1 1]).run Try.prog (w.alloc (.cells #[.int .i64 z] TIN)) = .ok v' w' ∧ ApI lo w0 (g ++ [z]) v' w' := fun ty => by
  have fa := fp_alloc w (.cells #[.int .i64 z] TIN)
  obtain ⟨v', w', hr, ho, hgr, _⟩ := app_ownG (enc := inC) (k := 1) inC_len inC_oneR (SL := TLI) (T := TIN) Try.underlying48 Try.infoI rfl (by decide) (by decide) (w.alloc (.cells #[.int .i64 z] TIN)) lo v g [z] ty ⟨w.heap.size, 0, none⟩ 1 1 (OwG.non h fa) rfl (fun i hi j u hu => by
    have hi0 : i = 0 := by simp at hi; omega
    subst hi0
    have := c1new w TIN (.int .i64 z) j u hu
    simpa using this) (by simp; omega) (by simp; omega)
  exact ⟨v', w', hr, ho, (hf.then fa).grown hgr (fun k hk => .inr (by have := (h.lt k hk).1; omega))⟩
/-- In the midst of the document's Route. -/
structure RoJ (l : List Mt) (ds : List Bs) (w : World) (k : Nat) (v : Value) (wr : World) : Prop where
  fp : Fp Non w wr
  ow : OwG TIN inC 1 w.heap.size wr v ((ds.take k).map (fun d => (gkM l d).1))
  ok : ∀ d ∈ ds.take k, okP d = true
theorem rtB_all {l : List Mt} {ds : List Bs} (h : RtM l) (ha : ∀ d ∈ ds, okP d = true) : rtB l ds = true ∧ rtL l ds = ds.map (fun d => (gkM l d).1) := by
  have e : rtB l ds = true := by unfold rtB; rw [(right_ifft l).2 h, Bool.true_and, List.all_eq_true]; exact ha
  exact ⟨e, by unfold rtL; rw [e, if_pos rfl]⟩
theorem rtB_ok {l : List Mt} {ds : List Bs} (h : rtB l ds = true) : RtM l ∧ ∀ d ∈ ds, okP d = true := by
  unfold rtB at h
  simp only [Bool.and_eq_true, List.all_eq_true] at h
  exact ⟨(right_ifft l).1 h.1, h.2⟩
theorem rtB_no {l : List Mt} {ds : List Bs} {d : Bs} (hd : d ∈ ds) (h : okP d = false) : rtB l ds = false := by
  cases e : rtB l ds with
  | false => rfl
  | true => have := (rtB_ok e).2 d hd; rw [h] at this; cases this
set_option maxHeartbeats 8000000 in
theorem rRoute_c (v vd : Value) (l : List Mt) (ds : List Bs) (w : World) (hv : NsM w v l) (hd : Tx w vd ds) (hs : SzM l) (hsd : ∀ d ∈ ds, d.length ≤ 140737488355328) (hdn : ds.length ≤ 50000) :
    Calls Try.prog 15 #[v, vd] w (RtR l ds w) := by
  have h1 := rRightM_c v l w hv hs.p hs.n
  have hof := fun W d (f : Fp Non w W) (h : d.length ≤ 140737488355328) => rOf_c v l d W (hv.non f) hs h
  obtain ⟨ao, cap, rfl⟩ := hv.shape
  obtain ⟨ad, cd, rfl⟩ := hd.shape
  obtain ⟨n, hn⟩ : ∃ n, n = l.length := ⟨_, rfl⟩
  obtain ⟨m, hm⟩ : ∃ m, m = ds.length := ⟨_, rfl⟩
  rw [← hn] at h1 hof ⊢
  rw [← hm]
  have H1 := Lib.hid h1
  have HX := Lib.hid (And.intro hn (And.intro hm (And.intro hv (And.intro hd (And.intro hsd (And.intro hdn hof))))))
  have hmb : m ≤ 50000 := by omega
  clear h1 hof hn hm hv hd hs hsd hdn
  go_enter Try.func15, Try.ntmps15
  go_wp2_with fail
  refine H1.out.mono ?_
  rintro e w1 ⟨rfl, hf⟩
  have F1 := Lib.hid hf
  clear hf H1
  cases hr : rightM l with
  | false =>
    have HR := Lib.hid (rt_no (l := l) (ds := ds) (by unfold rtB; rw [hr]; rfl))
    clear hr
    go_wp2
    exact bodyPost_ret (v := .tuple #[.slice none 0 0, .bool false]) (by simp [results, Try.results15, go_sem]) rfl ⟨⟨_, by rw [HR.out.1], by rw [HR.out.2]; exact Sg.nil _⟩, F1.out⟩
  | true =>
    have HR := Lib.hid ((right_ifft l).1 hr)
    clear hr
    go_wp2_with fail
    go_loopw [6, 7] (fun x i wr => ∃ k : Nat, k ≤ m ∧ i = .int .i64 k ∧ ∃ (b : Option Addr) (c : Nat), x = .slice b k c ∧ Hid (RoJ l ds w k (.slice b k c) wr)) (fun _ i _ => m - (RowKit.intOf i).toNat)
    case atStart => exact ⟨0, Nat.zero_le _, rfl, none, 0, rfl, ⟨F1.out, OwG.nil _ _, fun d h => by simp at h⟩⟩
    case round =>
      clear F1
      obtain ⟨k, hk, rfl, b, c, rfl, hR⟩ := hrel
      rename World => wr
      by_cases hlt : k < m
      · have hkl : k < ds.length := by rw [← HX.out.2.1]; exact hlt
        have q3 : ((k : Int) < (m : Int)) = True := eq_true (by omega)
        have q4 : (k < m) = True := eq_true hlt
        obtain ⟨g, o, cap', e, hcell⟩ := HX.out.2.2.2.1.at (by omega)
        rw [← HX.out.2.1] at e
        injection e with e1 e2 e3
        subst e1 e3
        have c0 := hR.out.fp.cell (hcell k hkl) (fun h => h)
        have hmem := List.getElem_mem hkl
        have hdl := HX.out.2.2.2.2.1 _ hmem
        have htk : ds.take (k + 1) = ds.take k ++ [ds[k]] := List.take_succ_eq_append_getElem hkl
        obtain ⟨d, hdd⟩ : ∃ d, d = ds[k] := ⟨_, rfl⟩
        rw [← hdd] at c0 hmem hdl htk
        have hrr := rRight_g d wr (sz_of hdl (by omega))
        have HRR := Lib.hid hrr
        have HD := Lib.hid (And.intro hmem (And.intro hdl (And.intro htk (And.intro hlt hk))))
        clear hcell hmem hdl htk hdd hrr hkl hlt hk e2
        go_wp2_with fail
        refine HRR.out.mono ?_
        rintro e w2 ⟨rfl, hg⟩
        have F2 := Lib.hid hg.fp
        have c0 := F2.out.cell c0 (fun h => h)
        clear hg HRR
        cases hok : (split d).isSome with
        | false =>
          have HN := Lib.hid (rt_no (rtB_no (l := l) HD.out.1 hok))
          clear hok
          go_wp2
          exact bodyPost_ret (v := .tuple #[.slice none 0 0, .bool false]) (by simp [results, Try.results15, go_sem]) rfl ⟨⟨_, by rw [HN.out.1], by rw [HN.out.2]; exact Sg.nil _⟩, hR.out.fp.then F2.out⟩
        | true =>
          obtain ⟨kk, y, hp⟩ := pkM HR.out hok
          have hof := HX.out.2.2.2.2.2.2 w2 d (hR.out.fp.then F2.out) HD.out.2.1
          rw [hp.ko] at hof
          have HOF := Lib.hid hof
          have HP := Lib.hid hp
          have HOK := Lib.hid hok
          clear hof hp hok
          go_wp2_with fail
          refine HOF.out.mono ?_
          rintro e w3 ⟨rfl, hf⟩
          simp only [idx]
          obtain ⟨g', o', cap'', e, _, _, _, hcq⟩ := HX.out.2.2.1.at HR.out.pos
          rw [← HX.out.1] at e
          injection e with e1 e2 e3
          subst e1 e3
          have c1 := ((hcq kk HP.out.kl).keep ((hR.out.fp.then F2.out).then hf) (fun h => h)).c1
          rw [← HP.out.get] at c1
          have hkn : kk < n := by rw [HX.out.1]; exact HP.out.kl
          have hnb : n ≤ 32 := by rw [HX.out.1]; exact HR.out.len
          have q5 : ((kk : Int) < (n : Int)) = True := eq_true (by omega)
          have q6 : (kk < n) = True := eq_true hkn
          have hkb : kk ≤ 1000 := by omega
          have hap := app_int (z := y.g) (OwG.non hR.out.ow (F2.out.then hf)) ((hR.out.fp.then F2.out).then hf) (Nat.le_refl _) (((hR.out.fp.then F2.out).then hf).size) (by rw [List.length_map, List.length_take]; have := HX.out.2.2.2.2.2.1; omega)
          obtain ⟨gs, hgs⟩ : ∃ gs, gs = (ds.take k).map (fun d => (gkM l d).1) := ⟨_, rfl⟩
          rw [← hgs] at hap
          have HGS := Lib.hid hgs
          have HAP := Lib.hid (hap TLI)
          have HG := Lib.hid (show (gkM l d).1 = y.g from by unfold gkM; rw [HP.out.kp])
          clear hf hcq hkn hap hgs e2 HOF hnb
          go_wp2_with (at_builtin; go_must (refine wpList_app rfl _ _ _ _ rfl _ _ rfl rfl (ApI w.heap.size w (gs ++ [y.g])) HAP.out ?_))
          intro v' w4 hA
          have hsg := OwG.sg inC_len hA.ow
          obtain ⟨b2, c2, hv'⟩ : ∃ b c, v' = Value.slice b (k + 1) c := by
            obtain ⟨b, c, e⟩ := hsg.shape
            refine ⟨b, c, ?_⟩
            rw [e]; congr 1
            rw [HGS.out, List.length_append, List.length_map, List.length_take, List.length_singleton]
            have := HD.out.2.2.2.1; have := HX.out.2.1; omega
          subst hv'
          have HJ := Lib.hid (show RoJ l ds w (k + 1) (.slice b2 (k + 1) c2) w4 from ⟨hA.fp, by rw [HD.out.2.2.1, List.map_append, List.map_cons, List.map_nil, HG.out, ← HGS.out]; exact hA.ow, fun d' hd' => by
            rw [HD.out.2.2.1] at hd'
            rcases List.mem_append.1 hd' with h | h
            · exact hR.out.ok d' h
            · simp at h; subst h; exact HOK.out⟩)
          have hj := HD.out.2.2.2
          clear hA hsg HAP c1 q5 q6
          go_wp2
          go_roundw
          case rel => exact ⟨k + 1, by omega, by go_num, b2, c2, rfl, HJ⟩
          case measure => simp [RowKit.intOf]; omega
      · have hke : k = m := by omega
        subst hke
        have q3 : ((k : Int) < (k : Int)) = False := eq_false (by omega)
        have hal := rtB_all (ds := ds) HR.out (fun d hd => hR.out.ok d (by rw [List.take_of_length_le (by rw [← HX.out.2.1]; exact Nat.le_refl _)]; exact hd))
        have how := OwG.sg inC_len hR.out.ow
        rw [List.take_of_length_le (by rw [← HX.out.2.1]; exact Nat.le_refl _)] at how
        have HAL := Lib.hid (And.intro hal how)
        clear hal how hlt hk
        go_wp2
        exact bodyPost_ret (v := .tuple #[.slice b k c, .bool true]) (by simp [results, Try.results15, go_sem]) rfl ⟨⟨_, by rw [HAL.out.1.1], by rw [HAL.out.1.2]; exact HAL.out.2⟩, hR.out.fp⟩

/-- A Begin changes no directory's group. -/
structure RkW (l : List Mt) (ds : List Bs) (d : List Mt × Int × List Mt) : Prop where
  rt : RtM d.1
  b : rtB d.1 ds = true
  l : rtL d.1 ds = rtL l ds
  one : d.2.1 ≠ 0 ∨ 1 ≤ d.2.2.length
theorem rkW {l : List Mt} {ds : List Bs} (h : rtB l ds = true) (p : Bs) (tt : Int) : RkW l ds (bgM l p tt) := by
  obtain ⟨hr, ha⟩ := rtB_ok h
  by_cases h0 : (bgn l p tt).e = 0
  · rw [bgM_yes h0]
    have hb := (beg (bgW l p tt) h0).rt
    refine ⟨hb, (rtB_all hb ha).1, ?_, .inr (by simp)⟩
    rw [(rtB_all hb ha).2, (rtB_all hr ha).2]
    refine List.map_congr_left fun d hd => ?_
    obtain ⟨k, w, hp⟩ := pkM hr (ha d hd)
    obtain ⟨k2, y, hy, hg⟩ := (keep_begin (bgW l p tt) h0 (ha d hd) hp).ex
    unfold gkM
    rw [hy.kp, hp.kp]; exact hg
  · rw [bgM_no h0]
    exact ⟨hr, h, rfl, .inl h0⟩
theorem rtL_len {l : List Mt} {ds : List Bs} (h : rtB l ds = true) : (rtL l ds).length = ds.length := by unfold rtL; rw [h, if_pos rfl, List.length_map]
theorem rtL_le (l : List Mt) (ds : List Bs) : (rtL l ds).length ≤ ds.length := by unfold rtL; split <;> simp

set_option maxHeartbeats 16000000 in
theorem MetaRoutes_c (v vd : Value) (l : List Mt) (ds : List Bs) (p : Bs) (tt : Int) (w : World) (hv : NsM w v l) (hs : SzM l) (hd : Tx w vd ds) (hdn : ds.length ≤ 140737488355328 ∧ ∀ d ∈ ds, d.length ≤ 140737488355328) (hp : p.length ≤ 140737488355328) :
    Calls Try.prog 4 #[v, vd, .string (B p), .int .i64 tt] w fun e w' => e = .returned (.bool true) ∧ Fp Non w w' := by
  have hnew := fun W (f : Fp Non w W) => NewM_c v l W (hv.non f) hs
  have hg := fun W (f : Fp Non w W) => greatM_c v (.slice none 0 0) l [] W (hv.non f) hs.n (CdsW.nil W) (by simp) (fun _ h => by cases h)
  have hro := fun W (f : Fp Non w W) (h : ds.length ≤ 50000) => Route_c v vd l ds W (hv.non f) (hd.non f) hs hdn.2 h
  have hrr := fun W (f : Fp Non w W) (h : ds.length ≤ 50000) => rRoute_c v vd l ds W (hv.non f) (hd.non f) hs hdn.2 h
  have hr2 := fun (l' : List Mt) v' W (f : Fp Non w W) (h : ds.length ≤ 50000) (h1 : NsM W v' l') (h2 : SzM l') => Route_c v' vd l' ds W h1 (hd.non f) h2 hdn.2 h
  obtain ⟨ao, cap, rfl⟩ := hv.shape
  obtain ⟨ad, cd, rfl⟩ := hd.shape
  obtain ⟨n, hn⟩ : ∃ n, n = l.length := ⟨_, rfl⟩
  obtain ⟨m, hm⟩ : ∃ m, m = ds.length := ⟨_, rfl⟩
  rw [← hn] at hnew hg hro hrr ⊢
  simp only [← hm] at hro hrr hr2 ⊢
  have HNEW := Lib.hid hnew
  have HG := Lib.hid hg
  have HRO := Lib.hid (And.intro hro (And.intro hrr hr2))
  have HX := Lib.hid (And.intro hm (And.intro hd hp))
  have hmb : m ≤ 140737488355328 := by rw [hm]; exact hdn.1
  clear hnew hg hro hrr hr2 hv hs hd hn hm hdn hp
  go_enter Try.func4, Try.ntmps4
  go_wp2_with fail
  refine (headM_c _).mono ?_
  rintro e w1 ⟨rfl, hf1⟩
  have F1 := Lib.hid hf1
  clear hf1
  go_wp2_with fail
  go_loopw [10, 11] (fun x i wr => ∃ k : Nat, k ≤ m ∧ i = .int .i64 k ∧ ∃ N : Int, x = .int .i64 N ∧ ((m : Int) ≤ N) ∧ (N ≤ 562949953421312) ∧ Hid (Fp Non w wr)) (fun _ i _ => m - (RowKit.intOf i).toNat)
  case atStart => exact ⟨0, Nat.zero_le _, rfl, (m : Int), by go_num, Int.le_refl _, by omega, F1⟩
  case round =>
    clear F1
    obtain ⟨k, hk, rfl, N, rfl, hN, hNN, hR⟩ := hrel
    rename World => wr
    by_cases hlt : k < m ∧ N < 3000
    · obtain ⟨hlt, hN3⟩ := hlt
      have hkl : k < ds.length := by rw [← HX.out.1]; exact hlt
      have q3 : ((k : Int) < (m : Int)) = True := eq_true (by omega)
      have q4 : (k < m) = True := eq_true hlt
      have q5 : (N < 3000) = True := eq_true hN3
      obtain ⟨g, o, cap', e, hcell⟩ := HX.out.2.1.at (by omega)
      rw [← HX.out.1] at e
      injection e with e1 e2 e3
      subst e1 e3
      have c0 := hR.out.cell (hcell k hkl) (fun h => h)
      have HL := Lib.hid (And.intro hlt (And.intro hN3 hN))
      obtain ⟨d, hdd⟩ : ∃ d, d = ds[k] := ⟨_, rfl⟩
      rw [← hdd] at c0
      have hb3 := minM d.length
      have HB3 := Lib.hid hb3
      have hN0 : 0 ≤ N := by omega
      clear hcell hdd hkl hlt hN3 hN hb3 e2
      go_wp2_with fail
      try go_quiet (fail)
      go_wp2_with fail
      have hb := HB3.out
      have hj := HL.out
      refine ⟨⟨k + 1, by omega, by go_num, _, rfl, by omega, by omega, hR.out.then (by first | exact Fp.refl _ _ | exact (Fp.refl _ _).drew | exact (Fp.refl _ _).drewN _)⟩, ?_⟩
      simp [RowKit.intOf]; omega
    · have hgr := HG.out wr hR.out
      by_cases h30 : N < 3000
      · have hke : k = m := by
          rcases Nat.lt_or_eq_of_le hk with h | h
          · exact absurd ⟨h, h30⟩ hlt
          · exact h
        subst hke
        have q3 : ((k : Int) < (k : Int)) = False := eq_false (by omega)
        have q5 : (N < 3000) = True := eq_true h30
        have p5 : ((3000 : Int) ≤ N) = False := eq_false (by omega)
        have HK5 := Lib.hid (show k ≤ 50000 from by omega)
        have HGR := Lib.hid hgr
        clear hgr hlt hk hN h30 hNN
        go_wp2_with fail
        refine HGR.out.mono ?_
        rintro e w3 ⟨⟨g, rfl⟩, hf⟩
        have F3 := Lib.hid (hR.out.then hf)
        clear hf HGR
        cases g with
        | true =>
          go_wp2
          go_ret
          exact ⟨rfl, F3.out⟩
        | false =>
          by_cases hp0 : 1000 < p.length
          · have q10 : ((1000 : Int) < (p.length : Int)) = True := eq_true (by omega)
            have q20 : (1000 < p.length) = True := eq_true hp0
            clear hp0
            go_wp2
            go_ret
            exact ⟨rfl, F3.out⟩
          have q10 : ((1000 : Int) < (p.length : Int)) = False := eq_false (by omega)
          have q20 : (1000 < p.length) = False := eq_false hp0
          have HPB0 := Lib.hid (show p.length ≤ 140737488355328 by omega)
          clear hp0
          go_wp2_with fail
          clear p5 q5
          refine (HRO.out.1 _ F3.out HK5.out).mono ?_
          intro e w4 hRR
          obtain ⟨va, rfl, hS⟩ := hRR.ex
          have F4 := Lib.hid (F3.out.then hRR.fp)
          have SA := Lib.hid hS
          clear hRR hS
          obtain ⟨aa, ca, hva⟩ := SA.out.shape
          obtain ⟨na, hna⟩ : ∃ n, n = (rtL l ds).length := ⟨_, rfl⟩
          rw [← hna] at hva
          subst hva
          have HNA := Lib.hid hna
          clear hna
          go_wp2_with fail
          refine (HRO.out.2.1 _ F4.out HK5.out).mono ?_
          intro e w5 hRR
          obtain ⟨vb, rfl, hS⟩ := hRR.ex
          have F5 := Lib.hid (F4.out.then hRR.fp)
          have SA5 := Lib.hid (SA.out.non hRR.fp)
          have hsi := rSameI_c _ _ (rtL l ds) (rtL l ds) w5 SA5.out hS (by have := rtL_le l ds; have := HX.out.1; omega) (by have := rtL_le l ds; have := HX.out.1; omega)
          rw [decide_eq_true rfl] at hsi
          obtain ⟨ab, cb, hvb⟩ := hS.shape
          obtain ⟨nb, hnb⟩ : ∃ n, n = (rtL l ds).length := ⟨_, rfl⟩
          rw [← hnb] at hvb
          subst hvb
          have HSI := Lib.hid hsi
          clear hRR hS hsi hnb SA
          go_wp2_with fail
          refine HSI.out.mono ?_
          rintro e w6 ⟨rfl, hf⟩
          have F6 := Lib.hid (F5.out.then hf)
          have SA6 := Lib.hid (SA5.out.non hf)
          clear hf HSI SA5
          obtain ⟨is, his⟩ : ∃ b, b = rtB l ds := ⟨_, rfl⟩
          rw [← his]
          have HIS := Lib.hid his
          clear his
          have hbb : (is != is) = false := by cases is <;> rfl
          have hb2 : (is == is) = true := by cases is <;> rfl
          cases is with
          | false =>
            go_wp2_with fail
            refine (HNEW.out _ F6.out).mono ?_
            intro e w7 hR7
            have F7 := Lib.hid (F6.out.then hR7.fp)
            rcases hR7.way with ⟨hr, rfl⟩ | ⟨hr, q, rfl, hM, hq⟩
            · clear hR7 hr
              go_wp2
              go_ret
              exact ⟨rfl, F7.out⟩
            · clear hR7 hr hM hq
              go_wp2
              go_ret
              exact ⟨rfl, F7.out⟩
          | true =>
            go_wp2_with fail
            refine (HNEW.out _ F6.out).mono ?_
            intro e w7 hR7
            have F7 := Lib.hid (F6.out.then hR7.fp)
            have SA7 := Lib.hid (SA6.out.non hR7.fp)
            rcases hR7.way with ⟨hr, rfl⟩ | ⟨hr, q, rfl, hM, hq⟩
            · clear hR7 hr
              go_wp2
              go_ret
              exact ⟨rfl, F7.out⟩
            have HM := Lib.hid hM
            have HQ := Lib.hid (show w.heap.size ≤ q from Nat.le_trans F6.out.size hq)
            have HRT := Lib.hid ((right_ifft l).1 hr)
            clear hR7 hr hM hq hbb hb2
            have hdo := doL_c q l 11 p 0 tt w7 HM.out HRT.out HX.out.2.2
            rw [doM_begin] at hdo
            have hrk := rkW HIS.out.symm p tt
            obtain ⟨d, hd⟩ : ∃ d, bgM l p tt = d := ⟨_, rfl⟩
            rw [hd] at hdo hrk
            obtain ⟨l', er, ms⟩ := d
            simp only at hdo
            have HDO := Lib.hid hdo
            have HRK := Lib.hid hrk
            clear hdo hrk hd
            go_wp2_with fail
            refine HDO.out.mono ?_
            intro e w8 hR
            obtain ⟨v8, rfl, hN⟩ := hR.ex
            obtain ⟨n8, hn8⟩ : ∃ n, n = ms.length := ⟨_, rfl⟩
            obtain ⟨a8, c8, rfl⟩ : ∃ a c, v8 = Value.slice a n8 c := by obtain ⟨a, c, e⟩ := hN.shape; rw [hn8]; exact ⟨a, c, e⟩
            have HN8 := Lib.hid hn8
            have fa := fp_alloc w8 (.cells (anL er (.slice a8 n8 c8)) TAN)
            have I8 := Lib.hid (And.intro ((((KQ.fp F7.out HQ.out).later hR.fp).now).then fa) (And.intro (heap_alloc_new w8 (.cells (anL er (.slice a8 n8 c8)) TAN)) (And.intro ((sg_offR HM.out SA7.out hR.fp).non fa) (hR.me.non fa))))
            clear hR hN hn8 fa HDO
            go_wp2_with (refine wpList_stC rfl TAN _ _ rfl _ _ rfl rfl (stn_any stAN _ rfl rfl (anL_one ⟨_, _, _, rfl⟩)) ?_)
            obtain ⟨b, hb⟩ : ∃ b, b = w8.heap.size := ⟨_, rfl⟩
            rw [← hb] at I8 ⊢
            clear hb
            generalize (World.alloc w8 (.cells (anL er (.slice a8 n8 c8)) TAN)) = w9 at *
            refine (Mounts_c q l' _ I8.out.2.2.2 (by have := HRK.out.rt.len; simp only at this; omega)).mono ?_
            rintro e wa ⟨vm, rfl, hO⟩
            have IA := Lib.hid (And.intro (I8.out.1.then hO.fp) (And.intro (hO.fp.heap I8.out.2.1 (fun h => h)) (I8.out.2.2.1.non hO.fp)))
            have hr2 := HRO.out.2.2 l' vm wa IA.out.1 HK5.out hO.own.ns HRK.out.rt.szs
            obtain ⟨am, cm, hvm⟩ := hO.own.ns.shape
            obtain ⟨nm, hnm⟩ : ∃ n, n = l'.length := ⟨_, rfl⟩
            rw [← hnm] at hvm
            subst hvm
            have HR2 := Lib.hid hr2
            clear hO hr2 hnm I8
            go_wp2_with fail
            refine HR2.out.mono ?_
            intro e wb hRR
            obtain ⟨vc, rfl, hS⟩ := hRR.ex
            have e1 : rtB l' ds = true := HRK.out.b
            have e2 : rtL l' ds = rtL l ds := HRK.out.l
            rw [e1]
            rw [e2] at hS
            have IB := Lib.hid (And.intro (IA.out.1.then hRR.fp) (And.intro (hRR.fp.heap IA.out.2.1 (fun h => h)) (IA.out.2.2.non hRR.fp)))
            have hsi := rSameI_c _ _ (rtL l ds) (rtL l ds) wb hS IB.out.2.2 (by have := rtL_le l ds; have := HX.out.1; omega) (by have := rtL_le l ds; have := HX.out.1; omega)
            rw [decide_eq_true rfl] at hsi
            obtain ⟨ac, cc, hvc⟩ := hS.shape
            rw [show (rtL l ds).length = k from by rw [rtL_len HIS.out.symm, HX.out.1]] at hvc
            subst hvc
            have HSI := Lib.hid hsi
            clear hRR hS hsi e1 e2 IA HR2
            go_wp2_with fail
            refine HSI.out.mono ?_
            rintro e wc ⟨rfl, hf⟩
            have FC := Lib.hid (IB.out.1.then hf)
            have hrow := hf.heap IB.out.2.1 (fun h => h)
            have x0 := (boxA hrow).1
            have x8 := (boxA hrow).2.2.2.2.2.2.2.2.1
            have hone := HRK.out.one
            simp only at hone
            rw [← HN8.out] at hone
            clear hf hrow HSI IB
            by_cases h0 : er = 0
            · have r1 : (er == 0) = true := beq_iff_eq.2 h0
              have r2 : (er = 0) = True := eq_true h0
              have r3 : (er != 0) = false := by simp [bne, r1]
              have h1 : 1 ≤ n8 := by
                rcases hone with h | h
                · exact absurd h0 h
                · exact h
              have r4 : ((1 : Int) ≤ (n8 : Int)) = True := eq_true (by omega)
              have r5 : (1 ≤ n8) = True := eq_true h1
              have r6 : (0 < n8) = True := eq_true (by omega)
              have r7 : ((0 : Int) < (n8 : Int)) = True := eq_true (by omega)
              clear h0 hone h1
              go_wp2
              go_ret
              exact ⟨rfl, FC.out⟩
            · have r1 : (er == 0) = false := beq_eq_false_iff_ne.2 h0
              have r2 : (er = 0) = False := eq_false h0
              have r3 : (er != 0) = true := by simp [bne, r1]
              clear h0 hone
              go_wp2
              go_ret
              exact ⟨rfl, FC.out⟩
      · have p5 : ((3000 : Int) ≤ N) = True := eq_true (by omega)
        have q5 : (N < 3000) = False := eq_false h30
        have HGR := Lib.hid hgr
        by_cases hk3 : k < m
        · have q3 : ((k : Int) < (m : Int)) = True := eq_true (by omega)
          have q4 : (k < m) = True := eq_true hk3
          clear hgr hlt hk hN h30 hNN hk3
          go_wp2_with fail
          refine HGR.out.mono ?_
          rintro e w3 ⟨⟨g, rfl⟩, hf⟩
          have F3 := Lib.hid (hR.out.then hf)
          clear hf HGR
          cases g with
          | true =>
            go_wp2
            go_ret
            exact ⟨rfl, F3.out⟩
          | false =>
            go_wp2
            go_ret
            exact ⟨rfl, F3.out⟩
        · have q3 : ((k : Int) < (m : Int)) = False := eq_false (by omega)
          have q4 : (k < m) = False := eq_false hk3
          clear hgr hlt hk hN h30 hNN hk3
          go_wp2_with fail
          refine HGR.out.mono ?_
          rintro e w3 ⟨⟨g, rfl⟩, hf⟩
          have F3 := Lib.hid (hR.out.then hf)
          clear hf HGR
          cases g with
          | true =>
            go_wp2
            go_ret
            exact ⟨rfl, F3.out⟩
          | false =>
            go_wp2
            go_ret
            exact ⟨rfl, F3.out⟩
end Go.Proofs.Ytdfnfkknbjageaa
