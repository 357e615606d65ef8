/- The document's Take (gen_kd.py) -/
import Derived.Test.YtenaggleepoclaaGreatKc
import Derived.Test.YtenaggleepoclaaGreatJz
namespace Go.Proofs.YtenaggleepoclaaGreat
set_option maxRecDepth 20000
set_option linter.unusedVariables false
set_option linter.unusedSimpArgs false
open Go.RowKit Pm


theorem ordI_snoc (L : List Int) (n : Int) : ordI (L ++ [n]) = insI (ordI L) n := by unfold ordI; rw [List.foldl_append]; rfl
theorem puts_take (l : List Hl) (t a : Int) (ds : List Bs) (k : Nat) (h : k < ds.length) : putsH l t a (ds.take (k + 1)) = insH (putsH l t a (ds.take k)) ⟨ds[k], t, a⟩ := by
  unfold putsH
  rw [List.take_succ_eq_append_getElem h, List.foldl_append]; rfl
theorem puts_len2 {l : List Hl} {t a : Int} {ds : List Bs} (hu : UpH l) (ho : ∀ y ∈ l, y.d ∈ ds → y = ⟨y.d, t, a⟩) : (putsH l t a ds).length ≤ l.length + ds.length := by
  have h1 : ((putsH l t a ds).map Hl.d).length ≤ (l.map Hl.d ++ ds).length := sub_len ((map_up (puts_up hu)).imp (fun h => lt_ne h)) (fun x hx => by
    obtain ⟨y, hy, rfl⟩ := List.mem_map.1 hx
    rw [mem_puts ho] at hy
    rcases hy with hy | ⟨hy, _⟩
    · exact List.mem_append.2 (.inl (List.mem_map.2 ⟨y, hy, rfl⟩))
    · exact List.mem_append.2 (.inr hy))
  rw [List.length_map, List.length_append, List.length_map] at h1
  exact h1
/-- In the midst of Take: who is in the way, and who is wounded, of the first ones. -/
structure TkSt (l : List Hl) (t a : Int) (ds : List Bs) (k : Nat) (fb : Bool) (ws : List Int) : Prop where
  fr : fb = true ↔ wayH (l.take k) t ds = []
  wn : ws = ordI (((wayH (l.take k) t ds).filter (yng t a)).map Hl.t)
  ag : ∀ x ∈ l.take k, x.t = t → x.a = a
structure AskT (b : Bool) (p : Bs) (ds : List Bs) : Prop where
  iff : b = true ↔ p ∈ ds
theorem TkSt.wslen {l : List Hl} {t a : Int} {ds : List Bs} {k : Nat} {fb : Bool} {ws : List Int} (h : TkSt l t a ds k fb ws) : UpI ws ∧ ws.length ≤ l.length := by
  rw [h.wn]
  refine ⟨ordI_up _, ?_⟩
  have h1 := sub_len (l := ordI (((wayH (l.take k) t ds).filter (yng t a)).map Hl.t)) (m := l.map Hl.t) ((ordI_up _).imp (fun {a b} (h : a < b) => by omega)) (fun x hx => by
    rw [mem_ordI] at hx
    obtain ⟨y, hy, rfl⟩ := List.mem_map.1 hx
    exact List.mem_map.2 ⟨y, List.take_subset _ _ (List.mem_filter.1 (List.mem_filter.1 hy).1).1, rfl⟩)
  rwa [List.length_map] at h1
theorem TkSt.start (l : List Hl) (t a : Int) (ds : List Bs) : TkSt l t a ds 0 true [] := ⟨by simp [wayH], rfl, fun x hx => by simp at hx⟩
theorem TkSt.skip {l : List Hl} {t a : Int} {ds : List Bs} {k : Nat} {fb : Bool} {ws : List Int} (h : TkSt l t a ds k fb ws) (hk : k < l.length) (hag : l[k].t = t → l[k].a = a) (c : ¬ (l[k].d ∈ ds ∧ l[k].t ≠ t)) : TkSt l t a ds (k + 1) fb ws := by
  have e : wayH (l.take (k + 1)) t ds = wayH (l.take k) t ds := by rw [way_take l t ds k hk, if_neg c, List.append_nil]
  refine ⟨by rw [e]; exact h.fr, by rw [e]; exact h.wn, fun x hx e => ?_⟩
  rw [List.take_succ_eq_append_getElem hk] at hx
  rcases List.mem_append.1 hx with hx | hx
  · exact h.ag x hx e
  · rw [List.mem_singleton] at hx; subst hx; exact hag e
theorem TkSt.old {l : List Hl} {t a : Int} {ds : List Bs} {k : Nat} {fb : Bool} {ws : List Int} (h : TkSt l t a ds k fb ws) (hk : k < l.length) (c : l[k].d ∈ ds ∧ l[k].t ≠ t) (y : yng t a l[k] = false) : TkSt l t a ds (k + 1) false ws := by
  have e : wayH (l.take (k + 1)) t ds = wayH (l.take k) t ds ++ [l[k]] := by rw [way_take l t ds k hk, if_pos c]
  refine ⟨by rw [e]; simp, ?_, fun x hx e => ?_⟩
  · rw [e, List.filter_append, List.filter_cons_of_neg (by rw [y]; exact Bool.false_ne_true), List.filter_nil, List.append_nil]; exact h.wn
  · rw [List.take_succ_eq_append_getElem hk] at hx
    rcases List.mem_append.1 hx with hx | hx
    · exact h.ag x hx e
    · rw [List.mem_singleton] at hx; subst hx; exact absurd e c.2
theorem TkSt.young {l : List Hl} {t a : Int} {ds : List Bs} {k : Nat} {fb : Bool} {ws : List Int} (h : TkSt l t a ds k fb ws) (hk : k < l.length) (c : l[k].d ∈ ds ∧ l[k].t ≠ t) (y : yng t a l[k] = true) : TkSt l t a ds (k + 1) false (insI ws l[k].t) := by
  have e : wayH (l.take (k + 1)) t ds = wayH (l.take k) t ds ++ [l[k]] := by rw [way_take l t ds k hk, if_pos c]
  refine ⟨by rw [e]; simp, ?_, fun x hx e => ?_⟩
  · rw [e, List.filter_append, List.filter_cons_of_pos y, List.filter_nil, List.map_append, List.map_cons, List.map_nil, ordI_snoc, ← h.wn]
  · rw [List.take_succ_eq_append_getElem hk] at hx
    rcases List.mem_append.1 hx with hx | hx
    · exact h.ag x hx e
    · rw [List.mem_singleton] at hx; subst hx; exact absurd e c.2

set_option maxHeartbeats 8000000 in
theorem rTake_c (v vd : Value) (l : List Hl) (t a : Int) (ds : List Bs) (w : World) (hv : NsH w v l) (hs : HSp l) (hd : Tx w vd ds) (hsd : SSp ds) (hn : l.length ≤ 10000) (hm : ds.length ≤ 10000) :
    Calls Tryz.prog 12 #[v, .int .i64 t, .int .i64 a, vd] w (TkR l t a ds w) := by
  obtain ⟨ao, cap, rfl⟩ := hv.shape
  obtain ⟨ad, cd, rfl⟩ := hd.shape
  have hrr := rRight_c _ l w hv hs (by omega)
  obtain ⟨br, hbr⟩ : ∃ b, rightH l = b := ⟨_, rfl⟩
  rw [hbr] at hrr
  obtain ⟨b1, hb1⟩ : ∃ b, isN t = b := ⟨_, rfl⟩
  obtain ⟨b2, hb2⟩ : ∃ b, isN a = b := ⟨_, rfl⟩
  have hno : ¬ (br = true ∧ b1 = true ∧ b2 = true ∧ (∀ d ∈ ds, okP d = true) ∧ ∀ x ∈ l, x.t = t → x.a = a) → takeH l t a ds = ([], [], false) := fun h => by
    unfold takeH
    rw [if_neg]
    rintro ⟨h1, h2⟩
    obtain ⟨k1, k2, k3, k4⟩ := (may_iff _ _ _ _).1 h2
    exact h ⟨by rw [← hbr]; exact h1, by rw [← hb1]; exact k1, by rw [← hb2]; exact k2, k3, k4⟩
  have hyes : br = true → b1 = true → b2 = true → (∀ d ∈ ds, okP d = true) → (∀ x ∈ l, x.t = t → x.a = a) → (RtH l ∧ mayH l t a ds = true) := fun h1 h2 h3 h4 h5 => ⟨(right_iff l).1 (by rw [hbr]; exact h1), (may_iff _ _ _ _).2 ⟨by rw [hb1]; exact h2, by rw [hb2]; exact h3, h4, h5⟩⟩
  have hrt : br = true → RtH l := fun h => (right_iff l).1 (by rw [hbr]; exact h)
  have hnt := fun W => number_c t W
  rw [hb1] at hnt
  have hna := fun W => number_c a W
  rw [hb2] at hna
  obtain ⟨n, hnn⟩ : ∃ n, n = l.length := ⟨_, rfl⟩
  obtain ⟨m, hmm⟩ : ∃ m, m = ds.length := ⟨_, rfl⟩
  rw [← hnn] at hv hrr ⊢
  rw [← hmm] at hd ⊢
  have HX := Lib.hid (And.intro hnn (And.intro hmm (And.intro hv (And.intro hd (And.intro hs hsd)))))
  have HTH := Lib.hid (fun h => hno h)
  have HY := Lib.hid (And.intro hyes (And.intro hb1 (And.intro hb2 hrt)))
  have HC := Lib.hid (And.intro hrr (And.intro hnt hna))
  have hnb : n ≤ 10000 ∧ m ≤ 10000 := by omega
  clear hv hs hd hsd hn hm hnn hmm hrr hno hyes hnt hna hbr hb1 hb2 hrt
  go_enter Tryz.func12, Tryz.ntmps12
  go_wp2_with fail
  refine HC.out.1.mono ?_
  rintro e w1 ⟨rfl, hf1⟩
  have F1 := Lib.hid hf1
  clear hf1
  cases br with
  | false =>
    have HTH := Lib.hid (HTH.out (fun h => by cases h.1))
    have hR9 : Hid (TkR l t a ds w (.returned (.tuple #[.slice none 0 0, .slice none 0 0, .bool false])) w1) := ⟨by rw [HTH.out]; exact ⟨_, _, rfl, NsH.nil w1, Sg.nil w1⟩, F1.out⟩
    go_wp2
    refine bodyPost_ret (v := .tuple #[.slice none 0 0, .slice none 0 0, .bool false]) (by simp [results, Tryz.results12, go_sem]) rfl ?_
    exact hR9.out
  | true =>
  go_wp2_with fail
  refine (HC.out.2.1 _).mono ?_
  rintro e w2 ⟨rfl, rfl⟩
  cases b1 with
  | false =>
    have HTH := Lib.hid (HTH.out (fun h => by cases h.2.1))
    have hR9 : Hid (TkR l t a ds w (.returned (.tuple #[.slice none 0 0, .slice none 0 0, .bool false])) _) := ⟨by rw [HTH.out]; exact ⟨_, _, rfl, NsH.nil _, Sg.nil _⟩, F1.out⟩
    go_wp2
    refine bodyPost_ret (v := .tuple #[.slice none 0 0, .slice none 0 0, .bool false]) (by simp [results, Tryz.results12, go_sem]) rfl ?_
    exact hR9.out
  | true =>
  go_wp2_with fail
  refine (HC.out.2.2 _).mono ?_
  rintro e w2 ⟨rfl, rfl⟩
  cases b2 with
  | false =>
    have HTH := Lib.hid (HTH.out (fun h => by cases h.2.2.1))
    have hR9 : Hid (TkR l t a ds w (.returned (.tuple #[.slice none 0 0, .slice none 0 0, .bool false])) _) := ⟨by rw [HTH.out]; exact ⟨_, _, rfl, NsH.nil _, Sg.nil _⟩, F1.out⟩
    go_wp2
    refine bodyPost_ret (v := .tuple #[.slice none 0 0, .slice none 0 0, .bool false]) (by simp [results, Tryz.results12, go_sem]) rfl ?_
    exact hR9.out
  | true =>
  go_wp2_with fail
  go_loopw [11] (fun i wr => ∃ k : Nat, k ≤ m ∧ i = .int .i64 k ∧ Hid (Fp Non w wr ∧ ∀ d ∈ ds.take k, okP d = true)) (fun i _ => m - (RowKit.intOf i).toNat)
  case atStart => exact ⟨0, Nat.zero_le _, rfl, F1.out, fun x hx => by simp at hx⟩
  case round =>
    clear F1
    obtain ⟨k, hk, rfl, hR⟩ := hrel
    rename World => wr
    by_cases hlt : k < m
    · have hkl : k < ds.length := by rw [← HX.out.2.1]; exact hlt
      obtain ⟨g, o, cap', e, hcell⟩ := HX.out.2.2.2.1.txs (by omega)
      rw [← HX.out.2.1] at e
      injection e with e1 e2 e3
      subst e1 e3
      have c0 := hR.out.1.cell (hcell k hkl) (fun h => h)
      have htk : ds.take (k + 1) = ds.take k ++ [ds[k]] := List.take_succ_eq_append_getElem hkl
      have hin : ds[k] ∈ ds := List.getElem_mem hkl
      obtain ⟨p, hp⟩ : ∃ p, p = ds[k] := ⟨_, rfl⟩
      rw [← hp] at c0 htk hin
      clear hp hcell hkl
      have hri := rRight_g p wr (sz_of (HX.out.2.2.2.2.2 p hin) (by omega))
      obtain ⟨bp, hbp⟩ : ∃ b, (split p).isSome = b := ⟨_, rfl⟩
      rw [hbp] at hri
      have HP := Lib.hid (And.intro hri (And.intro hbp (And.intro hin (And.intro htk hlt))))
      have q3 : ((k : Int) < (m : Int)) = True := eq_true (by omega)
      have q4 : (k < m) = True := eq_true hlt
      clear hri hbp hin htk hlt
      go_wp2_with fail
      refine HP.out.1.mono ?_
      rintro e w3 ⟨rfl, hf⟩
      have HF := Lib.hid (hR.out.1.then hf.fp)
      clear hf
      cases bp with
      | false =>
        have HTH := Lib.hid (HTH.out (fun h => by have := h.2.2.2.1 p HP.out.2.2.1; unfold okP at this; rw [HP.out.2.1] at this; cases this))
        have hR9 : Hid (TkR l t a ds w (.returned (.tuple #[.slice none 0 0, .slice none 0 0, .bool false])) w3) := ⟨by rw [HTH.out]; exact ⟨_, _, rfl, NsH.nil w3, Sg.nil w3⟩, HF.out⟩
        go_wp2
        refine bodyPost_ret (v := .tuple #[.slice none 0 0, .slice none 0 0, .bool false]) (by simp [results, Tryz.results12, go_sem]) rfl ?_
        exact hR9.out
      | true =>
        have hM : Hid (Fp Non w w3 ∧ ∀ d ∈ ds.take (k + 1), okP d = true) := ⟨HF.out, fun d hd => by
          rw [HP.out.2.2.2.1] at hd
          rcases List.mem_append.1 hd with hd | hd
          · exact hR.out.2 d hd
          · rw [List.mem_singleton] at hd; subst hd; exact HP.out.2.1⟩
        have hkn := HP.out.2.2.2.2
        go_wp2
        go_roundw
        case rel => exact ⟨k + 1, by omega, by go_num, hM⟩
        case measure => simp [RowKit.intOf]; omega
    · have hke : k = m := by omega
      subst hke
      have q3 : ((k : Int) < (k : Int)) = False := eq_false (by omega)
      have hok := hR.out.2
      rw [HX.out.2.1, List.take_length] at hok
      have HOK := Lib.hid hok
      have hF0 := hR.out.1
      have H0 := Lib.hid hF0
      clear hlt hk hok hF0
      go_wp2_with fail
      go_loopw [12, 13, 14] (fun f x i wq => ∃ j : Nat, j ≤ n ∧ i = .int .i64 j ∧ ∃ fb : Bool, f = .bool fb ∧ ∃ xa_ xm xc, x = .slice xa_ xm xc ∧ ∃ ws, Hid (TkSt l t a ds j fb ws ∧ xm = ws.length ∧ Nm wq (.slice xa_ xm xc) ws ∧ Fp Non w wq)) (fun _ _ i _ => n - (RowKit.intOf i).toNat)
      case atStart => exact ⟨0, Nat.zero_le _, rfl, true, rfl, none, 0, 0, rfl, [], TkSt.start l t a ds, rfl, Sg.nil _, H0.out⟩
      case round =>
        clear H0
        obtain ⟨j, hj, rfl, fb, rfl, y0, ym, yc, rfl, ws, hT⟩ := hrel
        rename World => wq
        by_cases hlj : j < n
        · have hjl : j < l.length := by rw [← HX.out.1]; exact hlj
          obtain ⟨g2, o2, cap2, e, _, _, _, hcell2⟩ := HX.out.2.2.1.at (by omega)
          rw [← HX.out.1] at e
          injection e with e1 e2 e3
          subst e1 e3
          have hnd0 := fun W (f : Fp Non wq W) => (hcell2 j hjl).keep (hT.out.2.2.2.then f) (fun h => h)
          have hsk := fun hag c => hT.out.1.skip hjl hag c
          have hol := fun c y => hT.out.1.old hjl c y
          have hyo := fun c y => hT.out.1.young hjl c y
          have hxk : okH l[j] = true := (HY.out.2.2.2 (by simp)).ok _ (List.getElem_mem hjl)
          have hmem : l[j] ∈ l := List.getElem_mem hjl
          obtain ⟨x, hx⟩ : ∃ x, x = l[j] := ⟨_, rfl⟩
          rw [← hx] at hsk hol hyo hxk hmem
          have hnd : ∀ W, Fp Non wq W → NdAtH W g2 (o2 + j * 3) x := fun W f => by rw [hx]; exact hnd0 W f
          clear hnd0 hx hcell2 hjl
          obtain ⟨xd, xt, xa⟩ := x
          simp only at hsk hol hyo
          have hn0 := hnd wq (Fp.refl _ _)
          have c0 := hn0.c0; have c1 := hn0.c1; have c2 := hn0.c2
          unfold strV at c0
          simp only at c0 c1 c2
          have p13 : ((j : Int) < (n : Int)) = True := eq_true (by omega)
          have p14 : (j < n) = True := eq_true hlj
          have HL := Lib.hid (And.intro hlj (And.intro hsk (And.intro hol (And.intro hyo (And.intro hxk (And.intro hmem hnd))))))
          clear hlj hsk hol hyo hxk hmem hnd hn0
          by_cases hag : xt = t → xa = a
          · have hbad : ¬ (xt = t ∧ xa ≠ a) := fun h => h.2 (hag h.1)
            have HAG := Lib.hid hag
            clear hag
            by_cases hxt : xt = t
            · have hxa : xa = a := HAG.out hxt
              have r1 : (xt == t) = true := beq_iff_eq.2 hxt
              have r2 : (xa != a) = false := by simp [hxa]
              have r3 : (xa == a) = true := beq_iff_eq.2 hxa
              have HXT := Lib.hid hxt
              clear hxt hxa hbad
              go_wp2_with fail
              go_loopw [15, 16] (fun b i wz => ∃ q : Nat, q ≤ k ∧ i = .int .i64 q ∧ ∃ bb : Bool, b = .bool bb ∧ Hid (AskT bb xd (ds.take q) ∧ Fp Non wq wz)) (fun _ i _ => k - (RowKit.intOf i).toNat)
              case atStart => exact ⟨0, Nat.zero_le _, rfl, false, rfl, ⟨by simp⟩, Fp.refl _ _⟩
              case round =>
                obtain ⟨q, hq, rfl, bb, rfl, hB⟩ := hrel
                rename World => wz
                have hnz := HL.out.2.2.2.2.2.2 wz hB.out.2
                have z0 := hnz.c0; have z1 := hnz.c1; have z2 := hnz.c2
                unfold strV at z0
                simp only at z0 z1 z2
                clear hnz
                have r16 : (j < n) = True := eq_true HL.out.1
                have r17 : ((j : Int) < (n : Int)) = True := eq_true (by have := HL.out.1; omega)
                by_cases hlq : q < k
                · have hql : q < ds.length := by rw [← HX.out.2.1]; exact hlq
                  obtain ⟨g3, o3, cap3, e, hcell3⟩ := HX.out.2.2.2.1.txs (by omega)
                  rw [← HX.out.2.1] at e
                  injection e with e1 e2 e3
                  subst e1 e3
                  have d0 := (hT.out.2.2.2.then hB.out.2).cell (hcell3 q hql) (fun h => h)
                  have hts : ds.take (q + 1) = ds.take q ++ [ds[q]] := List.take_succ_eq_append_getElem hql
                  obtain ⟨p, hp⟩ : ∃ p, p = ds[q] := ⟨_, rfl⟩
                  rw [← hp] at d0 hts
                  clear hp hcell3 hql
                  have r13 : ((q : Int) < (k : Int)) = True := eq_true (by omega)
                  have r14 : (q < k) = True := eq_true hlq
                  have HLq := Lib.hid (And.intro hlq hts)
                  clear hlq hts
                  cases bb with
                  | true =>
                    have hM : Hid (AskT true xd (ds.take (q + 1)) ∧ Fp Non wq wz) := ⟨⟨by rw [HLq.out.2]; exact ⟨fun _ => List.mem_append.2 (.inl (hB.out.1.iff.1 rfl)), fun _ => rfl⟩⟩, hB.out.2⟩
                    have hkn := HLq.out.1
                    go_wp2_with fail
                    go_quiet (fail)
                    go_wp2_with fail
                    go_roundw
                    case rel => exact ⟨q + 1, by omega, by go_num, true, rfl, hM.out.1, hM.out.2.drewN _⟩
                    case measure => simp [RowKit.intOf]; omega
                  | false =>
                    by_cases hpe : p = xd
                    · have s1 : (p == xd) = true := beq_iff_eq.2 hpe
                      have s2 : (p = xd) = True := eq_true hpe
                      have hM : Hid (AskT true xd (ds.take (q + 1)) ∧ Fp Non wq wz) := ⟨⟨by rw [HLq.out.2]; exact ⟨fun _ => List.mem_append.2 (.inr (by simp [hpe])), fun _ => rfl⟩⟩, hB.out.2⟩
                      have hkn := HLq.out.1
                      clear hpe
                      go_wp2_with fail
                      go_quiet (fail)
                      go_wp2_with fail
                      go_roundw
                      case rel => exact ⟨q + 1, by omega, by go_num, true, rfl, hM.out.1, hM.out.2.drewN _⟩
                      case measure => simp [RowKit.intOf]; omega
                    · have s1 : (p == xd) = false := beq_eq_false_iff_ne.2 hpe
                      have s2 : (p = xd) = False := eq_false hpe
                      have hM : Hid (AskT false xd (ds.take (q + 1)) ∧ Fp Non wq wz) := ⟨⟨by
                        rw [HLq.out.2]
                        refine ⟨fun h => (Bool.noConfusion h), fun h => ?_⟩
                        rcases List.mem_append.1 h with h | h
                        · exact hB.out.1.iff.2 h
                        · rw [List.mem_singleton] at h; exact absurd h.symm hpe⟩, hB.out.2⟩
                      have hkn := HLq.out.1
                      clear hpe
                      go_wp2_with fail
                      go_quiet (fail)
                      go_wp2_with fail
                      go_roundw
                      case rel => exact ⟨q + 1, by omega, by go_num, false, rfl, hM.out.1, hM.out.2.drewN _⟩
                      case measure => simp [RowKit.intOf]; omega
                · have hqe : q = k := by omega
                  subst hqe
                  have r13 : ((q : Int) < (q : Int)) = False := eq_false (by omega)
                  have hbb : bb = true ↔ xd ∈ ds := by have := hB.out.1.iff; rw [HX.out.2.1, List.take_length] at this; exact this
                  have HF := Lib.hid hB.out.2
                  clear hlq hq hB
                  cases bb with
                  | false =>
                    have hM : Hid (TkSt l t a ds (j + 1) fb ws ∧ ym = ws.length ∧ Nm wz (.slice y0 ym yc) ws ∧ Fp Non w wz) := ⟨HL.out.2.1 HAG.out (fun h => by have := hbb.2 h.1; cases this), hT.out.2.1, hT.out.2.2.1.non HF.out, hT.out.2.2.2.then HF.out⟩
                    have hkn := HL.out.1
                    clear hbb
                    go_wp2
                    go_roundw
                    case rel => exact ⟨j + 1, by omega, by go_num, fb, rfl, y0, ym, yc, rfl, ws, hM⟩
                    case measure => simp [RowKit.intOf]; omega
                  | true =>
                    have hM : Hid (TkSt l t a ds (j + 1) fb ws ∧ ym = ws.length ∧ Nm wz (.slice y0 ym yc) ws ∧ Fp Non w wz) := ⟨HL.out.2.1 HAG.out (fun h => h.2 HXT.out), hT.out.2.1, hT.out.2.2.1.non HF.out, hT.out.2.2.2.then HF.out⟩
                    have hkn := HL.out.1
                    clear hbb
                    go_wp2
                    go_roundw
                    case rel => exact ⟨j + 1, by omega, by go_num, fb, rfl, y0, ym, yc, rfl, ws, hM⟩
                    case measure => simp [RowKit.intOf]; omega
            · have r1 : (xt == t) = false := beq_eq_false_iff_ne.2 hxt
              have HXT := Lib.hid hxt
              clear hxt hbad
              go_wp2_with fail
              go_loopw [15, 16] (fun b i wz => ∃ q : Nat, q ≤ k ∧ i = .int .i64 q ∧ ∃ bb : Bool, b = .bool bb ∧ Hid (AskT bb xd (ds.take q) ∧ Fp Non wq wz)) (fun _ i _ => k - (RowKit.intOf i).toNat)
              case atStart => exact ⟨0, Nat.zero_le _, rfl, false, rfl, ⟨by simp⟩, Fp.refl _ _⟩
              case round =>
                obtain ⟨q, hq, rfl, bb, rfl, hB⟩ := hrel
                rename World => wz
                have hnz := HL.out.2.2.2.2.2.2 wz hB.out.2
                have z0 := hnz.c0; have z1 := hnz.c1; have z2 := hnz.c2
                unfold strV at z0
                simp only at z0 z1 z2
                clear hnz
                have r16 : (j < n) = True := eq_true HL.out.1
                have r17 : ((j : Int) < (n : Int)) = True := eq_true (by have := HL.out.1; omega)
                by_cases hlq : q < k
                · have hql : q < ds.length := by rw [← HX.out.2.1]; exact hlq
                  obtain ⟨g3, o3, cap3, e, hcell3⟩ := HX.out.2.2.2.1.txs (by omega)
                  rw [← HX.out.2.1] at e
                  injection e with e1 e2 e3
                  subst e1 e3
                  have d0 := (hT.out.2.2.2.then hB.out.2).cell (hcell3 q hql) (fun h => h)
                  have hts : ds.take (q + 1) = ds.take q ++ [ds[q]] := List.take_succ_eq_append_getElem hql
                  obtain ⟨p, hp⟩ : ∃ p, p = ds[q] := ⟨_, rfl⟩
                  rw [← hp] at d0 hts
                  clear hp hcell3 hql
                  have r13 : ((q : Int) < (k : Int)) = True := eq_true (by omega)
                  have r14 : (q < k) = True := eq_true hlq
                  have HLq := Lib.hid (And.intro hlq hts)
                  clear hlq hts
                  cases bb with
                  | true =>
                    have hM : Hid (AskT true xd (ds.take (q + 1)) ∧ Fp Non wq wz) := ⟨⟨by rw [HLq.out.2]; exact ⟨fun _ => List.mem_append.2 (.inl (hB.out.1.iff.1 rfl)), fun _ => rfl⟩⟩, hB.out.2⟩
                    have hkn := HLq.out.1
                    go_wp2_with fail
                    go_quiet (fail)
                    go_wp2_with fail
                    go_roundw
                    case rel => exact ⟨q + 1, by omega, by go_num, true, rfl, hM.out.1, hM.out.2.drewN _⟩
                    case measure => simp [RowKit.intOf]; omega
                  | false =>
                    by_cases hpe : p = xd
                    · have s1 : (p == xd) = true := beq_iff_eq.2 hpe
                      have s2 : (p = xd) = True := eq_true hpe
                      have hM : Hid (AskT true xd (ds.take (q + 1)) ∧ Fp Non wq wz) := ⟨⟨by rw [HLq.out.2]; exact ⟨fun _ => List.mem_append.2 (.inr (by simp [hpe])), fun _ => rfl⟩⟩, hB.out.2⟩
                      have hkn := HLq.out.1
                      clear hpe
                      go_wp2_with fail
                      go_quiet (fail)
                      go_wp2_with fail
                      go_roundw
                      case rel => exact ⟨q + 1, by omega, by go_num, true, rfl, hM.out.1, hM.out.2.drewN _⟩
                      case measure => simp [RowKit.intOf]; omega
                    · have s1 : (p == xd) = false := beq_eq_false_iff_ne.2 hpe
                      have s2 : (p = xd) = False := eq_false hpe
                      have hM : Hid (AskT false xd (ds.take (q + 1)) ∧ Fp Non wq wz) := ⟨⟨by
                        rw [HLq.out.2]
                        refine ⟨fun h => (Bool.noConfusion h), fun h => ?_⟩
                        rcases List.mem_append.1 h with h | h
                        · exact hB.out.1.iff.2 h
                        · rw [List.mem_singleton] at h; exact absurd h.symm hpe⟩, hB.out.2⟩
                      have hkn := HLq.out.1
                      clear hpe
                      go_wp2_with fail
                      go_quiet (fail)
                      go_wp2_with fail
                      go_roundw
                      case rel => exact ⟨q + 1, by omega, by go_num, false, rfl, hM.out.1, hM.out.2.drewN _⟩
                      case measure => simp [RowKit.intOf]; omega
                · have hqe : q = k := by omega
                  subst hqe
                  have r13 : ((q : Int) < (q : Int)) = False := eq_false (by omega)
                  have hbb : bb = true ↔ xd ∈ ds := by have := hB.out.1.iff; rw [HX.out.2.1, List.take_length] at this; exact this
                  have HF := Lib.hid hB.out.2
                  clear hlq hq hB
                  cases bb with
                  | false =>
                    have hM : Hid (TkSt l t a ds (j + 1) fb ws ∧ ym = ws.length ∧ Nm wz (.slice y0 ym yc) ws ∧ Fp Non w wz) := ⟨HL.out.2.1 HAG.out (fun h => by have := hbb.2 h.1; cases this), hT.out.2.1, hT.out.2.2.1.non HF.out, hT.out.2.2.2.then HF.out⟩
                    have hkn := HL.out.1
                    clear hbb
                    go_wp2
                    go_roundw
                    case rel => exact ⟨j + 1, by omega, by go_num, fb, rfl, y0, ym, yc, rfl, ws, hM⟩
                    case measure => simp [RowKit.intOf]; omega
                  | true =>
                    have HIN := Lib.hid (hbb.1 rfl)
                    clear hbb
                    have hk0 := HL.out.2.2.2.2.1
                    unfold okH at hk0
                    simp only [Bool.and_eq_true] at hk0
                    have hny := newer_yng ⟨xd, xt, xa⟩ HY.out.2.1 HY.out.2.2.1 hk0.1.2 hk0.2
                    obtain ⟨yb, hyb⟩ : ∃ b, yng t a ⟨xd, xt, xa⟩ = b := ⟨_, rfl⟩
                    have hne := fun W => RNewer_c xa xt a t W
                    simp only at hny
                    rw [hny, hyb] at hne
                    have HNE := Lib.hid (And.intro hne (And.intro hyb hk0.1.2))
                    have HD := Lib.hid (fun W (f : Fp Non wz W) => And.intro (f.cell z1 (fun h => h)) (f.cell z2 (fun h => h)))
                    have HFD := Lib.hid ((Fp.refl Non wz).drew)
                    clear hk0 hny hyb hne
                    go_wp2_with fail
                    refine wp_region_held_drew (S := (fun W => W.cell? ⟨g2, o2 + j * 3 + 1, none⟩ = some (.int .i64 xt) ∧ W.cell? ⟨g2, o2 + j * 3 + 2, none⟩ = some (.int .i64 xa))) (by kernel_rfl) ?_ (fun hHeld => ?_)
                    · exact HD.out _ HFD.out
                    refine tk 0 hHeld ?_
                    refine tk 1 hHeld ?_
                    refine tk 2 hHeld ?_
                    refine tk 3 hHeld ?_
                    refine tk 4 hHeld ?_
                    refine tk 5 hHeld ?_
                    refine tk 6 hHeld ?_
                    refine tk 7 hHeld ?_
                    refine tk 8 hHeld ?_
                    refine tk 9 hHeld ?_
                    refine tk 10 hHeld ?_
                    refine tk 11 hHeld ?_
                    refine rY 12 (fun K hK => ?_)
                    go_simp
                    refine (HNE.out.1 _).mono ?_
                    rintro e w5 ⟨rfl, rfl⟩
                    go_wp2_with fail
                    refine hK.out _ _ (HD.out _ HFD.out) (fun hHeld => ?_)
                    clear hK K
                    try simp only [zP, zN, zS, zT, zU]
                    refine yD ?_
                    obtain ⟨z1', z2'⟩ := HD.out _ HFD.out
                    have HF5 := Lib.hid (HF.out.then HFD.out)
                    cases yb with
                    | false =>
                      have hM : Hid (TkSt l t a ds (j + 1) false ws ∧ ym = ws.length ∧ Nm wz.drew (.slice y0 ym yc) ws ∧ Fp Non w wz.drew) := ⟨HL.out.2.2.1 ⟨HIN.out, HXT.out⟩ HNE.out.2.1, hT.out.2.1, hT.out.2.2.1.non HF5.out, hT.out.2.2.2.then HF5.out⟩
                      have hkn := HL.out.1
                      go_wp2
                      go_roundw
                      case rel => exact ⟨j + 1, by omega, by go_num, false, rfl, y0, ym, yc, rfl, ws, hM⟩
                      case measure => simp [RowKit.intOf]; omega
                    | true =>
                      have hws := hT.out.1.wslen
                      have hwo := wound_r (.slice y0 ym yc) ws xt wz.drew (hT.out.2.2.1.non HF5.out) (hws.1.imp (fun {a b} (h : a < b) => by unfold ltI; simpa using h)) (by have := hws.2; have := HX.out.1; omega)
                      have HW := Lib.hid hwo
                      clear hws hwo
                      go_wp2_with fail
                      refine HW.out.mono ?_
                      rintro e w6 ⟨v6, rfl, h6⟩
                      have n6 := OwG.sg nmC_len h6.own
                      obtain ⟨x6, c6, rfl⟩ := n6.shape
                      obtain ⟨n7, hn7⟩ : ∃ k, k = (insI ws xt).length := ⟨_, rfl⟩
                      have hM : Hid (TkSt l t a ds (j + 1) false (insI ws xt) ∧ n7 = (insI ws xt).length ∧ Nm w6 (.slice x6 n7 c6) (insI ws xt) ∧ Fp Non w w6) := ⟨HL.out.2.2.2.1 ⟨HIN.out, HXT.out⟩ HNE.out.2.1, hn7, by rw [hn7]; exact n6, (hT.out.2.2.2.then HF5.out).then h6.fp⟩
                      rw [← hn7]
                      have hkn := HL.out.1
                      clear h6 n6 hn7
                      go_wp2
                      go_roundw
                      case rel => exact ⟨j + 1, by omega, by go_num, false, rfl, x6, n7, c6, rfl, _, hM⟩
                      case measure => simp [RowKit.intOf]; omega
          · have hxt : xt = t := Classical.byContradiction fun h => hag (fun e => absurd e h)
            have hxa : xa ≠ a := fun h => hag (fun _ => h)
            have r1 : (xt == t) = true := beq_iff_eq.2 hxt
            have r2 : (xa != a) = true := by simp [hxa]
            have r3 : (xa == a) = false := beq_eq_false_iff_ne.2 hxa
            have HTH := Lib.hid (HTH.out (fun h => hag (h.2.2.2.2 _ HL.out.2.2.2.2.2.1)))
            have HF := Lib.hid hT.out.2.2.2
            clear hag hxt hxa
            have hR9 : Hid (TkR l t a ds w (.returned (.tuple #[.slice none 0 0, .slice none 0 0, .bool false])) wq) := ⟨by rw [HTH.out]; exact ⟨_, _, rfl, NsH.nil wq, Sg.nil wq⟩, HF.out⟩
            go_wp2
            refine bodyPost_ret (v := .tuple #[.slice none 0 0, .slice none 0 0, .bool false]) (by simp [results, Tryz.results12, go_sem]) rfl ?_
            exact hR9.out
        · have hje : j = n := by omega
          subst hje
          have p13 : ((j : Int) < (j : Int)) = False := eq_false (by omega)
          have hfr := hT.out.1.fr
          have hwn := hT.out.1.wn
          have hag := hT.out.1.ag
          rw [HX.out.1, List.take_length] at hfr hwn hag
          obtain ⟨hrt, hmay⟩ := HY.out.1 (by simp) (by simp) (by simp) HOK.out hag
          have hth : takeH l t a ds = if wayH l t ds = [] then (putsH l t a ds, [], true) else (l, wndH l t a ds, false) := by
            unfold takeH; rw [if_pos ⟨(right_iff l).2 hrt, hmay⟩]
          clear hlj hj hag
          cases fb with
          | false =>
            have hne : wayH l t ds ≠ [] := fun h => by have := hfr.2 h; cases this
            rw [if_neg hne] at hth
            have hR9 : Hid (TkR l t a ds w (.returned (.tuple #[.slice ao j cap, .slice y0 ym yc, .bool false])) wq) := ⟨by rw [hth]; exact ⟨_, _, rfl, HX.out.2.2.1.non hT.out.2.2.2, by have h := hT.out.2.2.1; rw [hwn] at h; exact h⟩, hT.out.2.2.2⟩
            clear hfr hwn hrt hmay hth hne
            go_wp2
            refine bodyPost_ret (v := .tuple #[.slice ao j cap, .slice y0 ym yc, .bool false]) (by simp [results, Tryz.results12, go_sem]) rfl ?_
            exact hR9.out
          | true =>
            have he : wayH l t ds = [] := hfr.1 rfl
            rw [if_pos he] at hth
            have ho := own_of hmay he
            have HQ := Lib.hid (And.intro hth (And.intro ho hrt.up))
            have HF := Lib.hid hT.out.2.2.2
            clear hfr hwn hrt hmay hth ho he hT
            go_wp2_with fail
            go_loopw [0, 17] (fun x i wz => ∃ q : Nat, q ≤ k ∧ i = .int .i64 q ∧ ∃ za zm zc, x = .slice za zm zc ∧ Hid (zm = (putsH l t a (ds.take q)).length ∧ NsH wz (.slice za zm zc) (putsH l t a (ds.take q)) ∧ Fp Non w wz)) (fun _ i _ => k - (RowKit.intOf i).toNat)
            case atStart => exact ⟨0, Nat.zero_le _, rfl, ao, j, cap, rfl, HX.out.1, HX.out.2.2.1.non HF.out, HF.out⟩
            case round =>
              obtain ⟨q, hq, rfl, za, zm, zc, rfl, hZ⟩ := hrel
              rename World => wz
              by_cases hlq : q < k
              · have hql : q < ds.length := by rw [← HX.out.2.1]; exact hlq
                obtain ⟨g3, o3, cap3, e, hcell3⟩ := HX.out.2.2.2.1.txs (by omega)
                rw [← HX.out.2.1] at e
                injection e with e1 e2 e3
                subst e1 e3
                have d0 := hZ.out.2.2.cell (hcell3 q hql) (fun h => h)
                have hst := puts_take l t a ds q hql
                have hlen : (putsH l t a (ds.take q)).length ≤ 20000 := Nat.le_trans (puts_len2 HQ.out.2.2 (fun y hy h => HQ.out.2.1 y hy (List.take_subset _ _ h))) (by rw [List.length_take]; have := HX.out.1; omega)
                obtain ⟨p, hp⟩ : ∃ p, p = ds[q] := ⟨_, rfl⟩
                rw [← hp] at d0 hst
                clear hp hcell3 hql
                have hpu := put_r (.slice za zm zc) _ p t a wz hZ.out.2.1 (puts_up HQ.out.2.2) (by omega)
                rw [← hst] at hpu
                have HP := Lib.hid (And.intro hpu (And.intro hlq hZ.out.2.2))
                have r13 : ((q : Int) < (k : Int)) = True := eq_true (by omega)
                have r14 : (q < k) = True := eq_true hlq
                clear hpu hst hlen hlq hZ
                go_wp2_with fail
                refine HP.out.1.mono ?_
                rintro e w8 ⟨v8, rfl, h8⟩
                have n8 := h8.own.ns
                obtain ⟨x8, c8, rfl⟩ := n8.shape
                obtain ⟨n9, hn9⟩ : ∃ k, k = (putsH l t a (ds.take (q + 1))).length := ⟨_, rfl⟩
                have hM : Hid (n9 = (putsH l t a (ds.take (q + 1))).length ∧ NsH w8 (.slice x8 n9 c8) (putsH l t a (ds.take (q + 1))) ∧ Fp Non w w8) := ⟨hn9, by rw [hn9]; exact n8, HP.out.2.2.then h8.fp⟩
                rw [← hn9]
                have hkn := HP.out.2.1
                clear h8 n8 hn9
                go_wp2
                go_roundw
                case rel => exact ⟨q + 1, by omega, by go_num, x8, n9, c8, rfl, hM⟩
                case measure => simp [RowKit.intOf]; omega
              · have hqe : q = k := by omega
                subst hqe
                have r13 : ((q : Int) < (q : Int)) = False := eq_false (by omega)
                have hz := hZ.out
                rw [HX.out.2.1, List.take_length] at hz
                have hR9 : Hid (TkR l t a ds w (.returned (.tuple #[.slice za zm zc, .slice none 0 0, .bool true])) wz) := ⟨by rw [HQ.out.1]; exact ⟨_, _, rfl, hz.2.1, Sg.nil wz⟩, hz.2.2⟩
                clear hz hlq hq hZ
                go_wp2
                refine bodyPost_ret (v := .tuple #[.slice za zm zc, .slice none 0 0, .bool true]) (by simp [results, Tryz.results12, go_sem]) rfl ?_
                exact hR9.out
end Go.Proofs.YtenaggleepoclaaGreat
