/- locks.may, Take -/
import Derived.Test.YtenaggleepoclaaGreatJr
import Derived.Test.YtenaggleepoclaaGreatJq
namespace Go.Proofs.YtenaggleepoclaaGreat
set_option maxRecDepth 20000
set_option linter.unusedVariables false
set_option linter.unusedSimpArgs false
open Go.RowKit Pm

theorem any_all (l : List Hl) (t a : Int) : (!l.any (fun x => decide (x.t = t ∧ x.a ≠ a))) = l.all (fun x => decide (x.t = t → x.a = a)) := by
  induction l with
  | nil => rfl
  | cons x l ih =>
    rw [List.any_cons, List.all_cons, Bool.not_or, ih]
    congr 1
    by_cases h1 : x.t = t <;> by_cases h2 : x.a = a <;> simp [h1, h2]
set_option maxHeartbeats 4000000 in
theorem may_c (v vd : Value) (l : List Hl) (t a : Int) (ds : List Bs) (w : World) (hv : NsH w v l) (hs : HSp l) (hd : Tx w vd ds) (hsd : SSp ds) (hn : l.length ≤ 1000000) (hm : ds.length ≤ 1000000) :
    Calls Tryz.prog 25 #[v, .int .i64 t, .int .i64 a, vd] w fun e w' => e = .returned (.bool (mayH l t a ds)) ∧ Fp Non w w' := by
  obtain ⟨ao, cap, rfl⟩ := hv.shape
  obtain ⟨ad, cd, rfl⟩ := hd.shape
  have f1 := fp_alloc w (.cells #[.int .i64 t] TI)
  have r1 := heap_alloc_new w (.cells #[.int .i64 t] TI)
  have f2 := fp_alloc (w.alloc (.cells #[.int .i64 t] TI)) (.cells #[.int .i64 a] TI)
  have r2 := heap_alloc_new (w.alloc (.cells #[.int .i64 t] TI)) (.cells #[.int .i64 a] TI)
  have sz : (w.alloc (.cells #[.int .i64 t] TI)).heap.size = w.heap.size + 1 := by simp
  rw [sz] at r2
  have F2 := Lib.hid (f1.then f2)
  have k1 := box_cell (f2.heap r1 (fun h => h))
  have k2 := box_cell r2
  have hcs := fun W (f : Fp Non w W) => ContainsS_c _ ds W (hd.non f) hsd hm
  have hch := fun W (f : Fp Non ((w.alloc (.cells #[.int .i64 t] TI)).alloc (.cells #[.int .i64 a] TI)) W) => ContainsH_c _ _ l _ W (hv.non (F2.out.then f)) hs (may_pd W w.heap.size (w.heap.size + 1) t a (f.cell k1 (fun h => h)) (f.cell k2 (fun h => h)) Non (fun h => h) (fun h => h)) hn
  have e : mayH l t a ds = (isN t && isN a && ds.all okP && !l.any (fun x => decide (x.t = t ∧ x.a ≠ a))) := by rw [any_all]; rfl
  rw [e]
  generalize l.length = n at *
  generalize ds.length = m at *
  generalize ds.all okP = b3 at *
  generalize l.any (fun x => decide (x.t = t ∧ x.a ≠ a)) = b4 at *
  have HC := Lib.hid (And.intro hcs hch)
  have h1 := fun W => isNum_c t W
  have h2 := fun W => isNum_c a W
  generalize isN t = b1 at *
  generalize isN a = b2 at *
  have HN := Lib.hid (And.intro h1 h2)
  clear h1 h2 hcs hch hv hd hs hsd hn hm e f1 r1 f2 r2 sz
  go_enter Tryz.func25, Tryz.ntmps25
  go_wp2_with fail
  refine (HN.out.1 _).mono ?_
  rintro e w1 ⟨rfl, rfl⟩
  cases b1 with
  | false =>
    go_wp2
    go_ret
    exact ⟨rfl, F2.out⟩
  | true =>
    go_wp2_with fail
    refine (HN.out.2 _).mono ?_
    rintro e w1 ⟨rfl, rfl⟩
    cases b2 with
    | false =>
      go_wp2
      go_ret
      exact ⟨rfl, F2.out⟩
    | true =>
      go_wp2_with fail
      refine (HC.out.1 _ F2.out).mono ?_
      rintro e w2 ⟨rfl, hf⟩
      have HF := Lib.hid hf
      clear hf
      cases b3 with
      | false =>
        go_wp2
        go_ret
        exact ⟨rfl, F2.out.then HF.out⟩
      | true =>
        go_wp2_with fail
        refine (HC.out.2 _ HF.out).mono ?_
        rintro e w3 ⟨rfl, hf⟩
        have HG := Lib.hid ((F2.out.then HF.out).then hf)
        clear hf
        go_wp2
        go_ret
        exact ⟨rfl, HG.out⟩

theorem path_len {p : Bs} (h : okP p = true) : p.length ≤ 100 := by
  obtain ⟨ps, hps⟩ := Option.isSome_iff_exists.1 h
  obtain ⟨hP, e⟩ := (split_iff _ _).1 hps
  have h1 := hP.lens
  have h2 := hP.1
  rw [← e]
  have : (joinP ps).length ≤ 1 + ps.length + Pm.lens ps := by
    cases ps with
    | nil => simp [joinP, jn]
    | cons a r => rw [joinP_cons, flat_len]; omega
  omega
theorem Pm.RtH.sp {l : List Hl} (h : RtH l) : HSp l := fun x hx => by
  have h1 := h.ok x hx
  unfold okH at h1
  simp only [Bool.and_eq_true] at h1
  have := path_len h1.1.1
  omega
/-- What Take answers. -/
structure TkR (l : List Hl) (t a : Int) (ds : List Bs) (w : World) (e : Ending) (w' : World) : Prop where
  ex : ∃ v' vn, e = .returned (.tuple #[v', vn, .bool (takeH l t a ds).2.2]) ∧ NsH w' v' (takeH l t a ds).1 ∧ Nm w' vn (takeH l t a ds).2.1
  fp : Fp Non w w'
theorem take_sp (l : List Hl) (t a : Int) (ds : List Bs) : HSp (takeH l t a ds).1 := by
  unfold takeH
  split
  · rename_i h
    have hr := (right_iff l).1 h.1
    split
    · rename_i hw
      exact (puts_right hr h.2 hw).sp
    · exact hr.sp
  · intro x hx; cases hx
theorem way_mem {l : List Hl} {t : Int} {ds : List Bs} {x : Hl} (h : x ∈ wayH l t ds) : x ∈ l := (List.mem_filter.1 h).1
theorem way_ord (l : List Hl) (t : Int) (ds : List Bs) : wayH l t (ordB ds) = wayH l t ds := by
  unfold wayH
  refine List.filter_congr fun x _ => ?_
  rw [Bool.eq_iff_iff, decide_eq_true_eq, decide_eq_true_eq, mem_ordB]
theorem puts_ord {l : List Hl} {t a : Int} {ds : List Bs} (hu : UpH l) (ho : ∀ y ∈ l, y.d ∈ ds → y = ⟨y.d, t, a⟩) : putsH l t a (ordB ds) = putsH l t a ds :=
  puts_eq hu ho (puts_up hu) (fun x => by rw [mem_puts (fun y hy hd => ho y hy (mem_ordB.1 hd)), mem_ordB])
theorem ord_len (ds : List Bs) : (ordB ds).length ≤ ds.length :=
  sub_len ((ordB_up ds).imp (fun h => lt_ne h)) (fun x hx => mem_ordB.1 hx)
set_option maxHeartbeats 4000000 in
theorem Take_c (v vd : Value) (l : List Hl) (t a : Int) (ds : List Bs) (w : World) (hv : NsH w v l) (hs : HSp l) (hd : Tx w vd ds) (hsd : SSp ds) (hn : l.length ≤ 30000) (hm : ds.length ≤ 30000) :
    Calls Tryz.prog 11 #[v, .int .i64 t, .int .i64 a, vd] w (TkR l t a ds w) := by
  obtain ⟨ao, cap, rfl⟩ := hv.shape
  obtain ⟨ad, cd, rfl⟩ := hd.shape
  have hri := fun W (f : Fp Non w W) => RightH_c _ l W (hv.non f) hs (by omega)
  have hma := fun W (f : Fp Non w W) => may_c _ _ l t a ds W (hv.non f) hs (hd.non f) hsd (by omega) (by omega)
  have hcl := fun W (f : Fp Non w W) => CloneS_c _ ds W (hd.non f) (by omega)
  obtain ⟨br, hbr⟩ : ∃ b, rightH l = b := ⟨_, rfl⟩
  obtain ⟨bm, hbm⟩ : ∃ b, mayH l t a ds = b := ⟨_, rfl⟩
  rw [hbr] at hri
  rw [hbm] at hma
  have hth : takeH l t a ds = if br = true ∧ bm = true then (if wayH l t ds = [] then (putsH l t a ds, [], true) else (l, wndH l t a ds, false)) else ([], [], false) := by unfold takeH; rw [hbr, hbm]
  obtain ⟨n, hnn⟩ : ∃ n, n = l.length := ⟨_, rfl⟩
  obtain ⟨m, hmm⟩ : ∃ m, m = ds.length := ⟨_, rfl⟩
  rw [← hnn] at hv hri hma ⊢
  rw [← hmm] at hd hma hcl ⊢
  have HX := Lib.hid (And.intro hnn (And.intro hmm (And.intro hv (And.intro hd (And.intro hbr hbm)))))
  have HT := Lib.hid hth
  have HC := Lib.hid (And.intro hri (And.intro hma hcl))
  have hnb : n ≤ 30000 ∧ m ≤ 30000 := by omega
  have HSP := Lib.hid hs
  clear hv hs hd hsd hn hm hnn hmm hri hma hcl hth hbr hbm
  go_enter Tryz.func11, Tryz.ntmps11
  go_wp2_with fail
  refine (HC.out.1 _ (Fp.refl _ _)).mono ?_
  rintro e w1 ⟨rfl, hf1⟩
  have F1 := Lib.hid hf1
  clear hf1
  cases br with
  | false =>
    have hR : Hid (TkR l t a ds w (.returned (.tuple #[.slice none 0 0, .slice none 0 0, .bool false])) w1) := ⟨by rw [HT.out, if_neg (fun h => by cases h.1)]; exact ⟨_, _, rfl, NsH.nil w1, Sg.nil w1⟩, F1.out⟩
    clear HT
    go_wp2
    refine bodyPost_ret (v := .tuple #[.slice none 0 0, .slice none 0 0, .bool false]) (by simp [results, Tryz.results11, go_sem]) rfl ?_
    exact hR.out
  | true =>
    go_wp2_with fail
    refine (HC.out.2.1 _ F1.out).mono ?_
    rintro e w2 ⟨rfl, hf2⟩
    have F2 := Lib.hid (F1.out.then hf2)
    clear hf2
    cases bm with
    | false =>
      have hR : Hid (TkR l t a ds w (.returned (.tuple #[.slice none 0 0, .slice none 0 0, .bool false])) w2) := ⟨by rw [HT.out, if_neg (fun h => by cases h.2)]; exact ⟨_, _, rfl, NsH.nil w2, Sg.nil w2⟩, F2.out⟩
      clear HT
      go_wp2
      refine bodyPost_ret (v := .tuple #[.slice none 0 0, .slice none 0 0, .bool false]) (by simp [results, Tryz.results11, go_sem]) rfl ?_
      exact hR.out
    | true =>
      have hrt : RtH l := (right_iff l).1 HX.out.2.2.2.2.1
      have HR := Lib.hid hrt
      clear hrt
      go_wp2_with fail
      refine (HC.out.2.2 _ F2.out).mono ?_
      rintro e w3 ⟨v3, rfl, h3⟩
      have hin := inOrder_c h3.own (by have := HX.out.2.1; omega)
      have hol := h3.own.lt
      have H3 := Lib.hid (And.intro hin (And.intro hol (F2.out.then h3.fp)))
      have hlo := F2.out.size
      clear hin hol h3
      go_wp2_with fail
      refine H3.out.1.mono ?_
      rintro e w4 ⟨v4, rfl, h4⟩
      have hf4 : Fp Non w w4 := H3.out.2.2.trans h4.fp (fun j hj => .inr (Nat.le_trans hlo (H3.out.2.1 j hj).1))
      have htx : Tx w4 v4 (ordB ds) := OwG.sg txC_len h4.own
      have hot := others_c _ v4 l t (ordB ds) w4 (HX.out.2.2.1.non hf4 |> fun h => by rw [HX.out.1] at h; exact h) htx (ordB_up ds) (by have := HX.out.1; omega) (by have := ord_len ds; have := HX.out.2.1; omega)
      rw [way_ord, ← HX.out.1] at hot
      have H4 := Lib.hid (And.intro hf4 (And.intro htx hot))
      clear hf4 htx hot h4 hlo
      go_wp2_with fail
      refine H4.out.2.2.mono ?_
      rintro e w5 ⟨v5, rfl, h5⟩
      have hns5 := h5.own.ns
      have hf5 := H4.out.1.then h5.fp
      obtain ⟨a5, c5, rfl⟩ := hns5.shape
      have h5fp := h5.fp
      have H5 := Lib.hid (And.intro hns5 hf5)
      obtain ⟨k5, hk5⟩ : ∃ k, k = (wayH l t ds).length := ⟨_, rfl⟩
      rw [← hk5]
      clear h5 hf5
      by_cases hw : wayH l t ds = []
      · have hk0 : k5 = 0 := by rw [hk5, hw]; rfl
        subst hk0
        have hwi := with_c _ v4 l t a (ordB ds) w5 (HX.out.2.2.1.non H5.out.2 |> fun h => by rw [HX.out.1] at h; exact h) (H4.out.2.1.non h5fp) HR.out.up (ordB_up ds) (fun y hy hd => own_of HX.out.2.2.2.2.2 hw y hy (mem_ordB.1 hd)) (by have := HX.out.1; omega) (by have := ord_len ds; have := HX.out.2.1; omega)
        rw [puts_ord HR.out.up (own_of HX.out.2.2.2.2.2 hw), ← HX.out.1] at hwi
        have HW := Lib.hid (And.intro hwi hw)
        clear hwi hw hk5 hns5 h5fp
        go_wp2_with fail
        refine HW.out.1.mono ?_
        rintro e w6 ⟨v6, rfl, h6⟩
        have hR : Hid (TkR l t a ds w (.returned (.tuple #[v6, .slice none 0 0, .bool true])) w6) := ⟨by rw [HT.out, if_pos (by simp), if_pos HW.out.2]; exact ⟨_, _, rfl, h6.own.ns, Sg.nil w6⟩, H5.out.2.then h6.fp⟩
        clear h6 HT
        go_wp2
        refine bodyPost_ret (v := .tuple #[v6, .slice none 0 0, .bool true]) (by simp [results, Tryz.results11, go_sem]) rfl ?_
        exact hR.out
      · have hk0 : (0 < k5) = True := eq_true (by rw [hk5]; exact List.length_pos_iff.2 hw)
        have hk1 : ((0 : Int) < (k5 : Int)) = True := eq_true (by have := of_eq_true hk0; omega)
        have HW := Lib.hid (And.intro hw hk5)
        clear hw hk5 hns5 h5fp
        go_wp2_with fail
        refine (youngerThan_c t a w5).mono ?_
        intro e w6 h6
        obtain ⟨kf, fi, fc, rfl, hpd⟩ := h6.pd
        have hf6 := h6.fp
        have hokt : ∀ x ∈ wayH l t ds, isN x.t = true := fun x hx => by
          have h := HR.out.ok x (way_mem hx)
          unfold okH at h
          simp only [Bool.and_eq_true] at h
          exact h.1.2
        have hwo := wounded_c _ _ (wayH l t ds) _ w6 (H5.out.1.non hf6) (fun x hx => HR.out.sp x (way_mem hx)) hpd hokt (by have := List.length_filter_le (fun x : Hl => decide (x.d ∈ ds ∧ x.t ≠ t)) l; have := HX.out.1; unfold wayH; omega)
        rw [← HW.out.2] at hwo
        have heq : ordI (((wayH l t ds).filter (fun x => newer x.a x.t a t)).map Hl.t) = wndH l t a ds := by
          unfold wndH
          congr 2
          refine List.filter_congr fun x hx => ?_
          have h := HR.out.ok x (way_mem hx)
          unfold okH at h
          simp only [Bool.and_eq_true] at h
          obtain ⟨k1, k2, _⟩ := (may_iff _ _ _ _).1 HX.out.2.2.2.2.2
          exact newer_yng x k1 k2 h.1.2 h.2
        rw [heq] at hwo
        have H6 := Lib.hid (And.intro hwo (H5.out.2.then hf6))
        clear hwo hf6 hpd hokt heq h6
        go_wp2_with fail
        refine H6.out.1.mono ?_
        rintro e w7 ⟨v7, rfl, h7⟩
        have hR : Hid (TkR l t a ds w (.returned (.tuple #[.slice ao n cap, v7, .bool false])) w7) := ⟨by rw [HT.out, if_pos (by simp), if_neg HW.out.1]; exact ⟨_, _, rfl, HX.out.2.2.1.non (H6.out.2.then h7.fp), OwG.sg nmC_len h7.own⟩, H6.out.2.then h7.fp⟩
        clear h7 HT
        go_wp2
        refine bodyPost_ret (v := .tuple #[.slice ao n cap, v7, .bool false]) (by simp [results, Tryz.results11, go_sem]) rfl ?_
        exact hR.out
end Go.Proofs.YtenaggleepoclaaGreat
