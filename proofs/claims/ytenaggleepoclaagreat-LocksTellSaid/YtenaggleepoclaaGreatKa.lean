/- The document's with, wound, put: one more in its place; Free, Held (gen_ka.py) -/
import Derived.Test.YtenaggleepoclaaGreatJy
import Derived.Test.YtenaggleepoclaaGreatJq
namespace Go.Proofs.YtenaggleepoclaaGreat
set_option maxRecDepth 20000
set_option linter.unusedVariables false
set_option linter.unusedSimpArgs false
open Go.RowKit Pm


/-- One more in its place, in the midst. -/
structure InsSt {α β : Type} (r : β → β → Bool) (key : α → β) (l : List α) (s : α) (k : Nat) (out : List α) (b : Bool) : Prop where
  no : b = false → out = l.take k ∧ ∀ x ∈ l.take k, r (key x) (key s) = true
  yes : b = true → out = (l.take k).filter (fun x => r (key x) (key s)) ++ s :: (l.take k).filter (fun x => r (key s) (key x)) ∧ ∃ x ∈ l.take k, r (key x) (key s) = false
section
variable {α β : Type} {r : β → β → Bool} {key : α → β} {l : List α} {s : α} {k : Nat} {out : List α}
theorem InsSt.start : InsSt r key l s 0 [] false := ⟨fun _ => ⟨rfl, fun x hx => by simp at hx⟩, fun h => by cases h⟩
theorem InsSt.low (h : InsSt r key l s k out false) (hk : k < l.length) (c : r (key l[k]) (key s) = true) : InsSt r key l s (k + 1) (out ++ [l[k]]) false := by
  obtain ⟨h1, h2⟩ := h.no rfl
  refine ⟨fun _ => ⟨?_, fun x hx => ?_⟩, fun h => by cases h⟩
  · rw [List.take_succ_eq_append_getElem hk, h1]
  · rw [List.take_succ_eq_append_getElem hk] at hx
    rcases List.mem_append.1 hx with hx | hx
    · exact h2 x hx
    · rw [List.mem_singleton] at hx; subst hx; exact c
theorem filt_all {p : α → Bool} {l : List α} (h : ∀ x ∈ l, p x = true) : l.filter p = l := List.filter_eq_self.2 h
theorem filt_no {p : α → Bool} {l : List α} (h : ∀ x ∈ l, p x = false) : l.filter p = [] := List.filter_eq_nil_iff.2 (fun x hx => by rw [h x hx]; exact Bool.false_ne_true)
theorem InsSt.hit (asy : ∀ a b, r a b = true → r b a = false) (ir : ∀ a, r a a = false) (h : InsSt r key l s k out false) (hk : k < l.length) (c : key l[k] = key s) : InsSt r key l s (k + 1) (out ++ [s]) true := by
  obtain ⟨h1, h2⟩ := h.no rfl
  refine ⟨fun h => Bool.noConfusion h, fun _ => ⟨?_, l[k], ?_, by rw [c]; exact ir _⟩⟩
  · rw [List.take_succ_eq_append_getElem hk, List.filter_append, List.filter_append, filt_all h2, filt_no (fun x hx => asy _ _ (h2 x hx)), List.filter_cons_of_neg (by rw [c, ir]; exact Bool.false_ne_true), List.filter_cons_of_neg (by rw [c, ir]; exact Bool.false_ne_true), h1]
    simp
  · rw [List.take_succ_eq_append_getElem hk]; exact List.mem_append.2 (.inr (List.mem_singleton.2 rfl))
theorem InsSt.over (asy : ∀ a b, r a b = true → r b a = false) (h : InsSt r key l s k out false) (hk : k < l.length) (c : r (key s) (key l[k]) = true) : InsSt r key l s (k + 1) (out ++ [s, l[k]]) true := by
  obtain ⟨h1, h2⟩ := h.no rfl
  refine ⟨fun h => Bool.noConfusion h, fun _ => ⟨?_, l[k], ?_, asy _ _ c⟩⟩
  · rw [List.take_succ_eq_append_getElem hk, List.filter_append, List.filter_append, filt_all h2, filt_no (fun x hx => asy _ _ (h2 x hx)), List.filter_cons_of_neg (by rw [asy _ _ c]; exact Bool.false_ne_true), List.filter_cons_of_pos (p := fun x => r (key s) (key x)) c, h1]
    simp
  · rw [List.take_succ_eq_append_getElem hk]; exact List.mem_append.2 (.inr (List.mem_singleton.2 rfl))
theorem InsSt.more (asy : ∀ a b, r a b = true → r b a = false) (tr : ∀ a b c, r b a = false → r b c = true → r a c = true) (hu : l.Pairwise (fun a b => r (key a) (key b) = true)) (h : InsSt r key l s k out true) (hk : k < l.length) : r (key s) (key l[k]) = true ∧ InsSt r key l s (k + 1) (out ++ [l[k]]) true := by
  obtain ⟨h1, x, hx, h2⟩ := h.yes rfl
  have hxl : r (key x) (key l[k]) = true := by
    obtain ⟨j, hj, rfl⟩ := List.getElem_of_mem hx
    rw [List.length_take] at hj
    rw [List.getElem_take]
    exact List.pairwise_iff_getElem.1 hu j k (by omega) hk (by omega)
  have c : r (key s) (key l[k]) = true := tr _ _ _ h2 hxl
  refine ⟨c, fun h => Bool.noConfusion h, fun _ => ⟨?_, x, ?_, h2⟩⟩
  · rw [List.take_succ_eq_append_getElem hk, List.filter_append, List.filter_append, List.filter_cons_of_neg (by rw [asy _ _ c]; exact Bool.false_ne_true), List.filter_cons_of_pos (p := fun x => r (key s) (key x)) c, h1]
    simp
  · rw [List.take_succ_eq_append_getElem hk]; exact List.mem_append.2 (.inl hx)
theorem InsSt.fin (asy : ∀ a b, r a b = true → r b a = false) {b : Bool} (h : InsSt r key l s k out b) (hk : k = l.length) : (l.filter (fun x => r (key x) (key s)) ++ s :: l.filter (fun x => r (key s) (key x))) = if b = true then out else out ++ [s] := by
  subst hk
  cases b with
  | true => rw [if_pos rfl, (h.yes rfl).1, List.take_length]
  | false =>
    obtain ⟨h1, h2⟩ := h.no rfl
    rw [List.take_length] at h1 h2
    rw [if_neg Bool.false_ne_true, filt_all h2, filt_no (fun x hx => asy _ _ (h2 x hx)), h1]
end
theorem lt_as (a b : Bs) (h : lt a b = true) : lt b a = false := lt_asymm h
theorem lt_tr (a b c : Bs) (h : lt b a = false) (k : lt b c = true) : lt a c = true := lt_of_le_lt h k
def ltI (a b : Int) : Bool := decide (a < b)
theorem ltI_as (a b : Int) (h : ltI a b = true) : ltI b a = false := by unfold ltI at *; rw [decide_eq_true_eq] at h; rw [decide_eq_false_iff_not]; omega
theorem ltI_tr (a b c : Int) (h : ltI b a = false) (k : ltI b c = true) : ltI a c = true := by unfold ltI at *; rw [decide_eq_false_iff_not] at h; rw [decide_eq_true_eq] at *; omega
theorem ltI_ir (a : Int) : ltI a a = false := by unfold ltI; rw [decide_eq_false_iff_not]; omega
theorem Tryz.infoNm : (Tryz.prog.info? TI).map (fun i => (i.zero, i.size, i.bytes)) = some (some (.int .i64 0), 1, 8) := by kernel_rfl
abbrev TLI : TypeId := 28
/-- Behind one number more. -/
structure ApI (lo : Nat) (w : World) (v : Value) (l : List Int) (v' : Value) (w' : World) : Prop where
  own : OwI lo w' v' l
  fp : Fp (fun k => v.ownBlock = some k) w w'
theorem app_oneI (w : World) (lo : Nat) (v : Value) (l : List Int) (s : Int) (ty : TypeId) (hv : OwI lo w v l) (h6 : l.length ≤ 99999) (hlo : lo ≤ w.heap.size) :
    ∃ v' w', (Builtin.append_ #[TLI, TLI] ty #[v, .slice (some ⟨w.heap.size, 0, none⟩) 1 1]).run Tryz.prog (w.alloc (.cells #[.int .i64 s] TI)) = .ok v' w' ∧ ApI lo w v (l ++ [s]) v' w' := by
  have hf : Fp Non w (w.alloc (.cells #[.int .i64 s] TI)) := fp_alloc w _
  obtain ⟨v', w', hr, h1, h2, h3⟩ := app_ownG nmC_len nmC_one (SL := TLI) (T := TI) Tryz.underlying28 Tryz.infoNm rfl (by omega) (by omega) (w.alloc (.cells #[.int .i64 s] TI)) lo v l [s] ty ⟨w.heap.size, 0, none⟩ 1 1 (hv.non hf) rfl (fun i hi j u hu => by
    have : i = 0 := by simpa using hi
    subst this
    rw [Addr.add_lit, cell_of_row _ _ _ _ _ _ (heap_alloc_new w _)]
    rw [show 0 + (0 * 1 + j) = j from by omega]
    simpa [nmC] using hu) (by simp; omega) (Nat.le_trans hlo hf.size)
  exact ⟨v', w', hr, h1, hf.any.grown h2 (fun k hk => .inl hk)⟩

set_option maxHeartbeats 8000000 in
theorem with_r (v : Value) (l : List Bs) (s : Bs) (w : World) (hv : Tx w v l) (hu : l.Pairwise (fun a b => lt (id a) (id b) = true)) (hn : l.length ≤ 40000) :
    Calls Tryz.prog 44 #[v, .string (B s)] w fun e w' => ∃ v', e = .returned v' ∧ TxR w (insB l s) v' w' := by
  obtain ⟨ao, cap, rfl⟩ := hv.shape
  obtain ⟨n, hnn⟩ : ∃ n, n = l.length := ⟨_, rfl⟩
  have HX := Lib.hid (And.intro hnn (And.intro hv hu))
  rw [← hnn]
  have hnb : n ≤ 40000 := by omega
  have H0 : Hid (OwS w.heap.size w (.slice none 0 0) [] ∧ Fp Non w w ∧ InsSt lt id l s 0 [] false) := ⟨OwG.nil _ _, Fp.refl _ _, InsSt.start⟩
  clear hv hu hn hnn
  go_enter Tryz.func44, Tryz.ntmps44
  go_wp2_with fail
  go_loopw [5, 6, 7] (fun z b i wr => ∃ k : Nat, k ≤ n ∧ i = .int .i64 k ∧ ∃ bb : Bool, b = .bool bb ∧ ∃ out, Hid (OwS w.heap.size wr z out ∧ Fp Non w wr ∧ InsSt lt id l s k out bb)) (fun _ _ i _ => n - (RowKit.intOf i).toNat)
  case atStart => exact ⟨0, Nat.zero_le _, rfl, false, rfl, [], H0.out⟩
  case round =>
    clear H0
    obtain ⟨k, hk, rfl, bb, rfl, out, hR⟩ := hrel
    rename_i wr _
    by_cases hlt : k < n
    · have hkl : k < l.length := by rw [← HX.out.1]; exact hlt
      obtain ⟨g, o, cap', e, hcell⟩ := HX.out.2.1.txs (by omega)
      injection e with e1 e2 e3
      subst e1 e3
      clear e2
      have hnd := fun W (f : Fp Non w W) => f.cell (hcell k hkl) (fun h => h)
      have hol : out.length ≤ 2 * k + 2 := by
        cases bb with
        | false => rw [(hR.out.2.2.no rfl).1, List.length_take]; omega
        | true =>
          rw [(hR.out.2.2.yes rfl).1, List.length_append, List.length_cons]
          have h1 := List.length_filter_le (fun x => lt (id x) (id s)) (l.take k)
          have h2 := List.length_filter_le (fun x => lt (id s) (id x)) (l.take k)
          rw [List.length_take] at h1 h2
          omega
      have hlow := fun (h : bb = false) (c : lt (id l[k]) (id s) = true) => (show InsSt lt id l s k out false from h ▸ hR.out.2.2).low hkl c
      have hhit := fun (h : bb = false) (c : id l[k] = id s) => (show InsSt lt id l s k out false from h ▸ hR.out.2.2).hit lt_as lt_irrefl hkl c
      have hover := fun (h : bb = false) (c : lt (id s) (id l[k]) = true) => (show InsSt lt id l s k out false from h ▸ hR.out.2.2).over lt_as hkl c
      have hmore := fun (h : bb = true) => (show InsSt lt id l s k out true from h ▸ hR.out.2.2).more lt_as lt_tr HX.out.2.2 hkl
      obtain ⟨x, hx⟩ : ∃ x, x = l[k] := ⟨_, rfl⟩
      simp only [← hx] at hnd hlow hhit hover hmore
      clear hx hcell hkl
      have HC := Lib.hid hnd
      have c0 := hnd _ hR.out.2.1
      clear hnd
      have q3 : ((k : Int) < (n : Int)) = True := eq_true (by omega)
      have q4 : (k < n) = True := eq_true hlt
      have HL := Lib.hid (And.intro hlt (And.intro hol (And.intro hlow (And.intro hhit (And.intro hover hmore)))))
      have HO := Lib.hid (And.intro hR.out.1 hR.out.2.1)
      clear hlt hol hlow hhit hover hmore
      cases bb with
      | true =>
        obtain ⟨hgt, hst⟩ := HL.out.2.2.2.2.2 rfl
        have hxne : x ≠ s := (lt_ne hgt).symm
        have e3 : (x != s) = true := by simp [hxne]
        have e4 : (x == s) = false := beq_eq_false_iff_ne.2 hxne
        clear hxne
        have HST := Lib.hid hst
        clear hgt hst hR
        have hap := app_oneS wr w.heap.size u5 out x TLS HO.out.1 (by have := HL.out.2.1; omega) (HO.out.2).size
        have hlw := (HO.out.1).lt
        have HA4 := Lib.hid (And.intro hap (And.intro hlw (HO.out.2)))
        clear hap hlw 
        go_wp2_with (at_builtin; go_must (refine wpList_app rfl _ _ _ _ rfl _ _ rfl rfl _ HA4.out.1 ?_))
        intro v4 w4 hA4
        have F4 := Lib.hid (HA4.out.2.2.trans hA4.fp (fun j hj => .inr ((HA4.out.2.1 j hj).1)))
        have O4 := Lib.hid hA4.own
        clear hA4 HA4
        have hM : Hid (OwS w.heap.size w4 v4 (out ++ [x]) ∧ Fp Non w w4 ∧ InsSt lt id l s (k + 1) (out ++ [x]) true) := ⟨O4.out, F4.out, HST.out⟩
        have hkn := HL.out.1
        go_wp2
        go_roundw
        case rel => exact ⟨k + 1, by omega, by go_num, true, rfl, _, hM⟩
        case measure => simp [RowKit.intOf]; omega
      | false =>
        by_cases c1 : lt x s = true
        · have e1 : Op.bytesLess x s = true := c1
          have e2 : (!Op.bytesLess x s) = false := by rw [e1]; rfl
          have hxne : x ≠ s := lt_ne c1
          have e3 : (x != s) = true := by simp [hxne]
          have e4 : (x == s) = false := beq_eq_false_iff_ne.2 hxne
          clear hxne
          have HST := Lib.hid (HL.out.2.2.1 rfl c1)
          clear c1 hR
          have hap := app_oneS wr w.heap.size u5 out x TLS HO.out.1 (by have := HL.out.2.1; omega) (HO.out.2).size
          have hlw := (HO.out.1).lt
          have HA4 := Lib.hid (And.intro hap (And.intro hlw (HO.out.2)))
          clear hap hlw 
          go_wp2_with (at_builtin; go_must (refine wpList_app rfl _ _ _ _ rfl _ _ rfl rfl _ HA4.out.1 ?_))
          intro v4 w4 hA4
          have F4 := Lib.hid (HA4.out.2.2.trans hA4.fp (fun j hj => .inr ((HA4.out.2.1 j hj).1)))
          have O4 := Lib.hid hA4.own
          clear hA4 HA4
          have hM : Hid (OwS w.heap.size w4 v4 (out ++ [x]) ∧ Fp Non w w4 ∧ InsSt lt id l s (k + 1) (out ++ [x]) false) := ⟨O4.out, F4.out, HST.out⟩
          have hkn := HL.out.1
          go_wp2
          go_roundw
          case rel => exact ⟨k + 1, by omega, by go_num, false, rfl, _, hM⟩
          case measure => simp [RowKit.intOf]; omega
        · by_cases c2 : x = s
          · have e1 : Op.bytesLess x s = false := by rw [c2]; exact lt_irrefl s
            have e2 : (!Op.bytesLess x s) = true := by rw [e1]; rfl
            have e3 : (x != s) = false := by simp [c2]
            have e4 : (x == s) = true := beq_iff_eq.2 c2
            have HST := Lib.hid (HL.out.2.2.2.1 rfl c2)
            clear c1 c2 hR
            have hap := app_oneS wr w.heap.size u5 out s TLS HO.out.1 (by have := HL.out.2.1; omega) (HO.out.2).size
            have hlw := (HO.out.1).lt
            have HA4 := Lib.hid (And.intro hap (And.intro hlw (HO.out.2)))
            clear hap hlw 
            go_wp2_with (at_builtin; go_must (refine wpList_app rfl _ _ _ _ rfl _ _ rfl rfl _ HA4.out.1 ?_))
            intro v4 w4 hA4
            have F4 := Lib.hid (HA4.out.2.2.trans hA4.fp (fun j hj => .inr ((HA4.out.2.1 j hj).1)))
            have O4 := Lib.hid hA4.own
            clear hA4 HA4
            have c0n := HC.out _ F4.out
            have hM : Hid (OwS w.heap.size w4 v4 (out ++ [s]) ∧ Fp Non w w4 ∧ InsSt lt id l s (k + 1) (out ++ [s]) true) := ⟨O4.out, F4.out, HST.out⟩
            have hkn := HL.out.1
            go_wp2
            go_roundw
            case rel => exact ⟨k + 1, by omega, by go_num, true, rfl, _, hM⟩
            case measure => simp [RowKit.intOf]; omega
          · have c3 : lt s x = true := lt_of (by simpa using c1) c2
            have e1 : Op.bytesLess x s = false := lt_asymm c3
            have e2 : (!Op.bytesLess x s) = true := by rw [e1]; rfl
            have e3 : (x != s) = true := by simp [c2]
            have e4 : (x == s) = false := beq_eq_false_iff_ne.2 c2
            have HST := Lib.hid (HL.out.2.2.2.2.1 rfl c3)
            clear c1 c2 c3 hR
            have hap := app_oneS wr w.heap.size u5 out s TLS HO.out.1 (by have := HL.out.2.1; omega) (HO.out.2).size
            have hlw := (HO.out.1).lt
            have HA4 := Lib.hid (And.intro hap (And.intro hlw (HO.out.2)))
            clear hap hlw 
            go_wp2_with (at_builtin; go_must (refine wpList_app rfl _ _ _ _ rfl _ _ rfl rfl _ HA4.out.1 ?_))
            intro v4 w4 hA4
            have F4 := Lib.hid (HA4.out.2.2.trans hA4.fp (fun j hj => .inr ((HA4.out.2.1 j hj).1)))
            have O4 := Lib.hid hA4.own
            clear hA4 HA4
            have c0n := HC.out _ F4.out
            have hap := app_oneS w4 w.heap.size v4 (out ++ [s]) x TLS O4.out (by have := HL.out.2.1; simp; omega) (F4.out).size
            have hlw := (O4.out).lt
            have HA5 := Lib.hid (And.intro hap (And.intro hlw (F4.out)))
            clear hap hlw 
            go_wp2_with (at_builtin; go_must (refine wpList_app rfl _ _ _ _ rfl _ _ rfl rfl _ HA5.out.1 ?_))
            intro v5 w5 hA5
            have F5 := Lib.hid (HA5.out.2.2.trans hA5.fp (fun j hj => .inr ((HA5.out.2.1 j hj).1)))
            have O5 := Lib.hid hA5.own
            clear hA5 HA5
            have hM : Hid (OwS w.heap.size w5 v5 (out ++ [s, x]) ∧ Fp Non w w5 ∧ InsSt lt id l s (k + 1) (out ++ [s, x]) true) := ⟨O5.out, F5.out, HST.out⟩
            have hkn := HL.out.1
            go_wp2
            go_roundw
            case rel => exact ⟨k + 1, by omega, by go_num, true, rfl, _, hM⟩
            case measure => simp [RowKit.intOf]; omega
    · have hke : k = n := by omega
      subst hke
      have q3 : ((k : Int) < (k : Int)) = False := eq_false (by omega)
      have hfi := hR.out.2.2.fin lt_as HX.out.1
      have HO := Lib.hid (And.intro hR.out.1 hR.out.2.1)
      have hol : out.length ≤ 2 * k + 2 := by
        cases bb with
        | false => rw [(hR.out.2.2.no rfl).1, List.length_take]; omega
        | true =>
          rw [(hR.out.2.2.yes rfl).1, List.length_append, List.length_cons]
          have h1 := List.length_filter_le (fun x => lt (id x) (id s)) (l.take k)
          have h2 := List.length_filter_le (fun x => lt (id s) (id x)) (l.take k)
          rw [List.length_take] at h1 h2
          omega
      clear hlt hk hR
      cases bb with
      | true =>
        rw [if_pos rfl] at hfi
        have HR : Hid (TxR w (insB l s) u5 wr) := ⟨by show OwS _ _ _ (l.filter (fun x => lt (id x) (id s)) ++ s :: l.filter (fun x => lt (id s) (id x))); rw [hfi]; exact HO.out.1, HO.out.2⟩
        clear hfi
        go_wp2
        go_ret
        exact ⟨_, rfl, HR.out⟩
      | false =>
        rw [if_neg Bool.false_ne_true] at hfi
        have HFI := Lib.hid hfi
        have hap := app_oneS wr w.heap.size u5 out s TLS HO.out.1 (by omega) (HO.out.2).size
        have hlw := (HO.out.1).lt
        have HA4 := Lib.hid (And.intro hap (And.intro hlw (HO.out.2)))
        clear hap hlw hfi
        go_wp2_with (at_builtin; go_must (refine wpList_app rfl _ _ _ _ rfl _ _ rfl rfl _ HA4.out.1 ?_))
        intro v4 w4 hA4
        have F4 := Lib.hid (HA4.out.2.2.trans hA4.fp (fun j hj => .inr ((HA4.out.2.1 j hj).1)))
        have O4 := Lib.hid hA4.own
        clear hA4 HA4
        have HR : Hid (TxR w (insB l s) v4 w4) := ⟨by show OwS _ _ _ (l.filter (fun x => lt (id x) (id s)) ++ s :: l.filter (fun x => lt (id s) (id x))); rw [HFI.out]; exact O4.out, F4.out⟩
        go_wp2
        go_ret
        exact ⟨_, rfl, HR.out⟩

set_option maxHeartbeats 8000000 in
theorem wound_r (v : Value) (l : List Int) (s : Int) (w : World) (hv : Nm w v l) (hu : l.Pairwise (fun a b => ltI (id a) (id b) = true)) (hn : l.length ≤ 40000) :
    Calls Tryz.prog 35 #[v, .int .i64 s] w fun e w' => ∃ v', e = .returned v' ∧ NmR w (insI l s) v' w' := by
  obtain ⟨ao, cap, rfl⟩ := hv.shape
  obtain ⟨n, hnn⟩ : ∃ n, n = l.length := ⟨_, rfl⟩
  have HX := Lib.hid (And.intro hnn (And.intro hv hu))
  rw [← hnn]
  have hnb : n ≤ 40000 := by omega
  have H0 : Hid (OwI w.heap.size w (.slice none 0 0) [] ∧ Fp Non w w ∧ InsSt ltI id l s 0 [] false) := ⟨OwG.nil _ _, Fp.refl _ _, InsSt.start⟩
  clear hv hu hn hnn
  go_enter Tryz.func35, Tryz.ntmps35
  go_wp2_with fail
  go_loopw [5, 6, 7] (fun z b i wr => ∃ k : Nat, k ≤ n ∧ i = .int .i64 k ∧ ∃ bb : Bool, b = .bool bb ∧ ∃ out, Hid (OwI w.heap.size wr z out ∧ Fp Non w wr ∧ InsSt ltI id l s k out bb)) (fun _ _ i _ => n - (RowKit.intOf i).toNat)
  case atStart => exact ⟨0, Nat.zero_le _, rfl, false, rfl, [], H0.out⟩
  case round =>
    clear H0
    obtain ⟨k, hk, rfl, bb, rfl, out, hR⟩ := hrel
    rename_i wr _
    by_cases hlt : k < n
    · have hkl : k < l.length := by rw [← HX.out.1]; exact hlt
      obtain ⟨g, o, cap', e, hcell⟩ := HX.out.2.1.at (by omega)
      injection e with e1 e2 e3
      subst e1 e3
      clear e2
      have hnd := fun W (f : Fp Non w W) => ((hcell k hkl).keep f (fun h => h)).nm
      have hol : out.length ≤ 2 * k + 2 := by
        cases bb with
        | false => rw [(hR.out.2.2.no rfl).1, List.length_take]; omega
        | true =>
          rw [(hR.out.2.2.yes rfl).1, List.length_append, List.length_cons]
          have h1 := List.length_filter_le (fun x => ltI (id x) (id s)) (l.take k)
          have h2 := List.length_filter_le (fun x => ltI (id s) (id x)) (l.take k)
          rw [List.length_take] at h1 h2
          omega
      have hlow := fun (h : bb = false) (c : ltI (id l[k]) (id s) = true) => (show InsSt ltI id l s k out false from h ▸ hR.out.2.2).low hkl c
      have hhit := fun (h : bb = false) (c : id l[k] = id s) => (show InsSt ltI id l s k out false from h ▸ hR.out.2.2).hit ltI_as ltI_ir hkl c
      have hover := fun (h : bb = false) (c : ltI (id s) (id l[k]) = true) => (show InsSt ltI id l s k out false from h ▸ hR.out.2.2).over ltI_as hkl c
      have hmore := fun (h : bb = true) => (show InsSt ltI id l s k out true from h ▸ hR.out.2.2).more ltI_as ltI_tr HX.out.2.2 hkl
      obtain ⟨x, hx⟩ : ∃ x, x = l[k] := ⟨_, rfl⟩
      simp only [← hx] at hnd hlow hhit hover hmore
      clear hx hcell hkl
      have HC := Lib.hid hnd
      have c0 := hnd _ hR.out.2.1
      clear hnd
      have q3 : ((k : Int) < (n : Int)) = True := eq_true (by omega)
      have q4 : (k < n) = True := eq_true hlt
      have HL := Lib.hid (And.intro hlt (And.intro hol (And.intro hlow (And.intro hhit (And.intro hover hmore)))))
      have HO := Lib.hid (And.intro hR.out.1 hR.out.2.1)
      clear hlt hol hlow hhit hover hmore
      cases bb with
      | true =>
        obtain ⟨hgt, hst⟩ := HL.out.2.2.2.2.2 rfl
        have hxne : x ≠ s := by unfold ltI at hgt; simp at hgt; omega
        have e3 : (x != s) = true := by simp [hxne]
        have e4 : (x == s) = false := beq_eq_false_iff_ne.2 hxne
        clear hxne
        have HST := Lib.hid hst
        clear hgt hst hR
        have hap := app_oneI wr w.heap.size u5 out x TLI HO.out.1 (by have := HL.out.2.1; omega) (HO.out.2).size
        have hlw := (HO.out.1).lt
        have HA4 := Lib.hid (And.intro hap (And.intro hlw (HO.out.2)))
        clear hap hlw 
        go_wp2_with (at_builtin; go_must (refine wpList_app rfl _ _ _ _ rfl _ _ rfl rfl _ HA4.out.1 ?_))
        intro v4 w4 hA4
        have F4 := Lib.hid (HA4.out.2.2.trans hA4.fp (fun j hj => .inr ((HA4.out.2.1 j hj).1)))
        have O4 := Lib.hid hA4.own
        clear hA4 HA4
        have hM : Hid (OwI w.heap.size w4 v4 (out ++ [x]) ∧ Fp Non w w4 ∧ InsSt ltI id l s (k + 1) (out ++ [x]) true) := ⟨O4.out, F4.out, HST.out⟩
        have hkn := HL.out.1
        go_wp2
        go_roundw
        case rel => exact ⟨k + 1, by omega, by go_num, true, rfl, _, hM⟩
        case measure => simp [RowKit.intOf]; omega
      | false =>
        by_cases c1 : ltI x s = true
        · have e1 : (s ≤ x) = False := eq_false (by unfold ltI at *; simp at *; omega)
          have hxne : x ≠ s := by unfold ltI at c1; simp at c1; omega
          have e3 : (x != s) = true := by simp [hxne]
          have e4 : (x == s) = false := beq_eq_false_iff_ne.2 hxne
          clear hxne
          have HST := Lib.hid (HL.out.2.2.1 rfl c1)
          clear c1 hR
          have hap := app_oneI wr w.heap.size u5 out x TLI HO.out.1 (by have := HL.out.2.1; omega) (HO.out.2).size
          have hlw := (HO.out.1).lt
          have HA4 := Lib.hid (And.intro hap (And.intro hlw (HO.out.2)))
          clear hap hlw 
          go_wp2_with (at_builtin; go_must (refine wpList_app rfl _ _ _ _ rfl _ _ rfl rfl _ HA4.out.1 ?_))
          intro v4 w4 hA4
          have F4 := Lib.hid (HA4.out.2.2.trans hA4.fp (fun j hj => .inr ((HA4.out.2.1 j hj).1)))
          have O4 := Lib.hid hA4.own
          clear hA4 HA4
          have hM : Hid (OwI w.heap.size w4 v4 (out ++ [x]) ∧ Fp Non w w4 ∧ InsSt ltI id l s (k + 1) (out ++ [x]) false) := ⟨O4.out, F4.out, HST.out⟩
          have hkn := HL.out.1
          go_wp2
          go_roundw
          case rel => exact ⟨k + 1, by omega, by go_num, false, rfl, _, hM⟩
          case measure => simp [RowKit.intOf]; omega
        · by_cases c2 : x = s
          · have e1 : (s ≤ x) = True := eq_true (by omega)
            have e3 : (x != s) = false := by simp [c2]
            have e4 : (x == s) = true := beq_iff_eq.2 c2
            have HST := Lib.hid (HL.out.2.2.2.1 rfl c2)
            clear c1 c2 hR
            have hap := app_oneI wr w.heap.size u5 out s TLI HO.out.1 (by have := HL.out.2.1; omega) (HO.out.2).size
            have hlw := (HO.out.1).lt
            have HA4 := Lib.hid (And.intro hap (And.intro hlw (HO.out.2)))
            clear hap hlw 
            go_wp2_with (at_builtin; go_must (refine wpList_app rfl _ _ _ _ rfl _ _ rfl rfl _ HA4.out.1 ?_))
            intro v4 w4 hA4
            have F4 := Lib.hid (HA4.out.2.2.trans hA4.fp (fun j hj => .inr ((HA4.out.2.1 j hj).1)))
            have O4 := Lib.hid hA4.own
            clear hA4 HA4
            have c0n := HC.out _ F4.out
            have hM : Hid (OwI w.heap.size w4 v4 (out ++ [s]) ∧ Fp Non w w4 ∧ InsSt ltI id l s (k + 1) (out ++ [s]) true) := ⟨O4.out, F4.out, HST.out⟩
            have hkn := HL.out.1
            go_wp2
            go_roundw
            case rel => exact ⟨k + 1, by omega, by go_num, true, rfl, _, hM⟩
            case measure => simp [RowKit.intOf]; omega
          · have c3 : ltI s x = true := by unfold ltI at *; rw [decide_eq_true_eq] at *; omega
            have e1 : (s ≤ x) = True := eq_true (by unfold ltI at *; simp at *; omega)
            have e3 : (x != s) = true := by simp [c2]
            have e4 : (x == s) = false := beq_eq_false_iff_ne.2 c2
            have HST := Lib.hid (HL.out.2.2.2.2.1 rfl c3)
            clear c1 c2 c3 hR
            have hap := app_oneI wr w.heap.size u5 out s TLI HO.out.1 (by have := HL.out.2.1; omega) (HO.out.2).size
            have hlw := (HO.out.1).lt
            have HA4 := Lib.hid (And.intro hap (And.intro hlw (HO.out.2)))
            clear hap hlw 
            go_wp2_with (at_builtin; go_must (refine wpList_app rfl _ _ _ _ rfl _ _ rfl rfl _ HA4.out.1 ?_))
            intro v4 w4 hA4
            have F4 := Lib.hid (HA4.out.2.2.trans hA4.fp (fun j hj => .inr ((HA4.out.2.1 j hj).1)))
            have O4 := Lib.hid hA4.own
            clear hA4 HA4
            have c0n := HC.out _ F4.out
            have hap := app_oneI w4 w.heap.size v4 (out ++ [s]) x TLI O4.out (by have := HL.out.2.1; simp; omega) (F4.out).size
            have hlw := (O4.out).lt
            have HA5 := Lib.hid (And.intro hap (And.intro hlw (F4.out)))
            clear hap hlw 
            go_wp2_with (at_builtin; go_must (refine wpList_app rfl _ _ _ _ rfl _ _ rfl rfl _ HA5.out.1 ?_))
            intro v5 w5 hA5
            have F5 := Lib.hid (HA5.out.2.2.trans hA5.fp (fun j hj => .inr ((HA5.out.2.1 j hj).1)))
            have O5 := Lib.hid hA5.own
            clear hA5 HA5
            have hM : Hid (OwI w.heap.size w5 v5 (out ++ [s, x]) ∧ Fp Non w w5 ∧ InsSt ltI id l s (k + 1) (out ++ [s, x]) true) := ⟨O5.out, F5.out, HST.out⟩
            have hkn := HL.out.1
            go_wp2
            go_roundw
            case rel => exact ⟨k + 1, by omega, by go_num, true, rfl, _, hM⟩
            case measure => simp [RowKit.intOf]; omega
    · have hke : k = n := by omega
      subst hke
      have q3 : ((k : Int) < (k : Int)) = False := eq_false (by omega)
      have hfi := hR.out.2.2.fin ltI_as HX.out.1
      have HO := Lib.hid (And.intro hR.out.1 hR.out.2.1)
      have hol : out.length ≤ 2 * k + 2 := by
        cases bb with
        | false => rw [(hR.out.2.2.no rfl).1, List.length_take]; omega
        | true =>
          rw [(hR.out.2.2.yes rfl).1, List.length_append, List.length_cons]
          have h1 := List.length_filter_le (fun x => ltI (id x) (id s)) (l.take k)
          have h2 := List.length_filter_le (fun x => ltI (id s) (id x)) (l.take k)
          rw [List.length_take] at h1 h2
          omega
      clear hlt hk hR
      cases bb with
      | true =>
        rw [if_pos rfl] at hfi
        have HR : Hid (NmR w (insI l s) u5 wr) := ⟨by show OwI _ _ _ (l.filter (fun x => ltI (id x) (id s)) ++ s :: l.filter (fun x => ltI (id s) (id x))); rw [hfi]; exact HO.out.1, HO.out.2⟩
        clear hfi
        go_wp2
        go_ret
        exact ⟨_, rfl, HR.out⟩
      | false =>
        rw [if_neg Bool.false_ne_true] at hfi
        have HFI := Lib.hid hfi
        have hap := app_oneI wr w.heap.size u5 out s TLI HO.out.1 (by omega) (HO.out.2).size
        have hlw := (HO.out.1).lt
        have HA4 := Lib.hid (And.intro hap (And.intro hlw (HO.out.2)))
        clear hap hlw hfi
        go_wp2_with (at_builtin; go_must (refine wpList_app rfl _ _ _ _ rfl _ _ rfl rfl _ HA4.out.1 ?_))
        intro v4 w4 hA4
        have F4 := Lib.hid (HA4.out.2.2.trans hA4.fp (fun j hj => .inr ((HA4.out.2.1 j hj).1)))
        have O4 := Lib.hid hA4.own
        clear hA4 HA4
        have HR : Hid (NmR w (insI l s) v4 w4) := ⟨by show OwI _ _ _ (l.filter (fun x => ltI (id x) (id s)) ++ s :: l.filter (fun x => ltI (id s) (id x))); rw [HFI.out]; exact O4.out, F4.out⟩
        go_wp2
        go_ret
        exact ⟨_, rfl, HR.out⟩
end Go.Proofs.YtenaggleepoclaaGreat
