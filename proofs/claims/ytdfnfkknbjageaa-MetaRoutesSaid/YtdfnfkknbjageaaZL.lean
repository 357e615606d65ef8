/- Texts of this proof, merged. -/
import Derived.Test.YtdfnfkknbjageaaZK
import Derived.Deep.CutRange
set_option linter.unusedVariables false
set_option linter.unusedSimpArgs false
/- begin (gen_d4.py) -/
namespace Go.Proofs.Ytdfnfkknbjageaa
set_option maxRecDepth 20000
set_option linter.unusedVariables false
set_option linter.unusedSimpArgs false
open Go.RowKit Pm


attribute [local irreducible] wpStill

/-- Two are ready, three are ready. -/
theorem rYY {P : Program} {ops : Array Oper} {Q : Exit → Act → World → Prop} {md : Region.Mode} {S : World → Prop} (i j : Nat) {o o' : Oper} {fuel : Nat} {listed : Array Bool} {a : Act} {w : World}
    (h : ∀ K' : Act → World → Prop, Shut (∀ a w, S w → (S w → wpAnyH P md ops Q S fuel (listed.setIfInBounds i true) a w) → K' a w) → if Region.wanted o (yielded ops a.tmps) = true then Oper.wp P o a w K' Q else K' (a.put o.dst undef) w)
    (h' : ∀ K' : Act → World → Prop, Shut (∀ a w, S w → (S w → wpAnyH P md ops Q S fuel (listed.setIfInBounds j true) a w) → K' a w) → if Region.wanted o' (yielded ops a.tmps) = true then Oper.wp P o' a w K' Q else K' (a.put o'.dst undef) w)
    (ho : ops[i]? = some o := by simp only [zA, zB, zC] <;> exact rfl) (ho' : ops[j]? = some o' := by simp only [zA, zB, zC] <;> exact rfl) (hr : Region.ready md ops listed = [i, j] := by kernel_rfl) : wpAnyH P md ops Q S (fuel + 1) listed a w := wpAnyH_ready hr (by simp) (AllReadyH.cons ho h (AllReadyH.cons ho' h' AllReadyH.nil))

theorem stTM : StT TM 4 := stT (by kernel_rfl) Try.underlying55 (fun w => by unfold isAgg; simp [run_underlying Try.underlying55])
abbrev zMT : Array Value := #[.string ⟨#[]⟩, .int .i64 0, .int .i64 0, .int .i64 0]
abbrev mtL (x : Mt) : Array Value := #[.string (B x.d), .int .i64 x.g, .int .i64 x.e, .int .i64 x.t]
theorem mtL_one (x : Mt) : ∀ u ∈ (mtL x).toList, u.oneCell' = true := by
  intro u hu
  simp only [mtL, List.mem_cons, List.not_mem_nil, or_false] at hu
  rcases hu with rfl | rfl | rfl | rfl <;> rfl
theorem bgW_l {l : List Mt} {p : Bs} {tt : Int} {r : Bg} (h : BgW l p tt r) (hr : RtM l) : r.l = [] ∨ RtM r.l := by
  cases h with
  | arg _ => exact .inl rfl
  | again _ _ _ _ _ => exact .inr hr
  | no _ _ _ => exact .inr hr
  | new y a b c d => exact .inr (beg (BgW.new y a b c d) rfl).rt
theorem rt_ne {m : List Mt} (h : m = [] ∨ RtM m) : ∀ x ∈ m, x.d ≠ [] := by
  rcases h with rfl | h
  · intro x hx; cases hx
  · intro x hx e
    have := (okM_p (h.ok x hx)).1
    rw [e] at this; exact absurd this (by decide)
/-- Mounts don't lie in the box of no mount. -/
theorem NsM.zero {w w' : World} {b : Nat} {T : TypeId} {v : Value} {m : List Mt} (hv : NsM w v m) (hm : ∀ x ∈ m, x.d ≠ []) (h1 : w.heap[b]? = some (.cells zMT T (0, 0))) (f : Fp (fun k => k = b) w w') : NsM w' v m := by
  by_cases h0 : m = []
  · subst h0
    obtain ⟨ao, cap, rfl, k1, k2, _⟩ := hv.ex
    exact ⟨ao, cap, rfl, k1, k2, .inl rfl⟩
  · obtain ⟨g, o, cap, rfl, _, _, _, hc⟩ := hv.at (List.length_pos_iff.2 h0)
    refine hv.keep f (fun k hk e => ?_)
    have hk : g = k := by simpa [Value.ownBlock] using hk
    subst hk
    have e : g = b := e
    subst e
    have hne := hm (m[0]'(List.length_pos_iff.2 h0)) (List.getElem_mem (List.length_pos_iff.2 h0))
    have c0 := (hc 0 (List.length_pos_iff.2 h0)).c0
    rw [cell_of_row _ _ _ _ _ _ h1] at c0
    generalize (m[0]'(List.length_pos_iff.2 h0)) = x at *
    cases ho : o + 0 * 4 with
    | zero => rw [ho] at c0; simp [strV, B] at c0; exact hne c0
    | succ j =>
      rw [ho] at c0
      by_cases hj : 3 ≤ j
      · rw [Array.getElem?_eq_none (by simp; omega)] at c0; cases c0
      · have : j = 0 ∨ j = 1 ∨ j = 2 := by omega
        rcases this with rfl | rfl | rfl <;> simp [strV] at c0
theorem MeW.zero {w w' : World} {q b : Nat} {T : TypeId} {l : List Mt} (h : MeW w q l) (hr : RtM l) (h1 : w.heap[b]? = some (.cells zMT T (0, 0))) (hne : q ≠ b) (f : Fp (fun k => k = b) w w') : MeW w' q l := by
  obtain ⟨v, h2, h3⟩ := h.ex
  exact ⟨v, f.heap h2 hne, h3.zero (rt_ne (.inr hr)) h1 f⟩
/-- What Begin's answer leaves. -/
structure BgM (w : World) (q : Nat) (l : List Mt) (c : Cd) (vp vn vt vg : Value) (r : Bg) (b6 : Nat) (v1 : Value) (W : World) : Prop where
  fr : Fr w c vp vn vt vg W
  fp : Fp Non w W
  me : MeW W q l
  bx : BxM W b6 r.m
  lt : w.heap.size + 1 < b6
  ns : NsM W v1 r.l
theorem BgM.end {w V : World} {q : Nat} {l : List Mt} {c : Cd} {vp vn vt vg : Value} {r : Bg} {b6 : Nat} {v1 : Value} (h1 : Fr w c vp vn vt vg V) (h2 : Fp Non w V) (h3 : MeW V q l) (h4 : V.heap[b6]? = some (.cells zMT TM (0, 0))) (h5 : w.heap.size + 1 < b6) (h6 : NsM V v1 r.l) (hr : RtM l) (hq : q < w.heap.size) (hm : r.l = [] ∨ RtM r.l) :
    BgM w q l c vp vn vt vg r b6 v1 (V.setRow b6 (mtL r.m)) := by
  have g := fp_setRow V b6 (mtL r.m)
  exact ⟨⟨g.heap h1.cb (by omega), g.heap h1.rs (by omega)⟩, h2.trans g (fun k hk => .inr (by have hk : k = b6 := hk; omega)), h3.zero hr h4 (by omega) g, setRow_same h4, h5, h6.zero (rt_ne hm) h4 g⟩
/-- What a Begin makes of a committee. -/
def bgM (l : List Mt) (p : Bs) (tt : Int) : List Mt × Int × List Mt := if (bgn l p tt).e = 0 then ((bgn l p tt).l, 0, (bgn l p tt).m :: below (bgn l p tt).l (bgn l p tt).m.d) else (l, (bgn l p tt).e, [])
theorem one_row {W : World} {b : Nat} {x : Mt} (h : W.heap[b]? = some (.cells (mtL x) TM (0, 0))) : NrM W b 1 [x] :=
  ⟨⟨[], by rw [h]; rfl, rfl⟩, Nat.le_refl _, by unfold maxLen; omega⟩
/-- The answer's mounts. -/
structure ApA (lo : Nat) (w : World) (m : List Mt) (v' : Value) (w' : World) : Prop where
  ns : NsM w' v' m
  fp : Fp (fun k => k = lo) w w'
  sl : ∃ a n c, v' = .slice a n c
theorem app_bel {w : World} {bs G cap : Nat} {x : Mt} {m : List Mt} (h : NrM w bs 1 [x]) (hb : NrM w G cap m) (hm : m.length ≤ 1000) :
    ∀ ty, ∃ v' w', (Builtin.append_ #[TLM, TLM] ty #[.slice (some ⟨bs, 0, none⟩) 1 1, .slice (some ⟨G, 0, none⟩) m.length cap]).run Try.prog w = .ok v' w' ∧ ApA bs w (x :: m) v' w' := fun ty => by
  have hlt := h.lt
  obtain ⟨v', w', hr, ho, hg, _⟩ := app_ownM w 0 (.slice (some ⟨bs, 0, none⟩) 1 1) [x] m ty ⟨G, 0, none⟩ m.length cap (OwM.row h (Nat.zero_le _)) rfl (fun i hi j u hu => by
    have hj : j < 4 := by rw [← mtC_len m[i]]; exact (List.getElem?_eq_some_iff.1 hu).1
    rw [Addr.add_lit, Nat.zero_add, hb.cell i j hi hj]; exact hu) (by simp; omega) (Nat.zero_le _)
  obtain ⟨a, c, e⟩ := ho.ns.shape
  exact ⟨v', w', hr, ho.ns, (Fp.refl _ w).grown hg (fun k hk => .inl (by have : bs = k := by simpa [Value.ownBlock] using hk
                                                                         exact this.symm)), ⟨a, _, c, e⟩⟩
/-- What the append leaves. -/
structure EndM (w : World) (q : Nat) (l : List Mt) (x : Mt) (m : List Mt) (b6 : Nat) (v : Value) (W : World) : Prop where
  rs : W.heap[w.heap.size + 1]? = some (.cells zAN TAN (0, 0))
  fp : Fp (fun k => k = q) w W
  me : MeW W q l
  bx : BxM W b6 x
  ns : NsM W v m
theorem EndM.of {w V W : World} {q b6 : Nat} {l k m : List Mt} {x : Mt} {c : Cd} {vp vn vt vg u v : Value} (h : Fr w c vp vn vt vg V ∧ Fp (fun k => k = q) w V ∧ MeW V q l ∧ BxM V b6 x ∧ NsM V u k) (g : Fp Non V W) (hv : NsM W v m) : EndM w q l x m b6 v W :=
  ⟨(h.1.non g).rs, h.2.1.same g.any, h.2.2.1.non g, h.2.2.2.1.non g, hv⟩
set_option maxHeartbeats 8000000 in
theorem begin_c (q : Nat) (l : List Mt) (c : Cd) (vp vn vt vg : Value) (w : World) (hm : MeW w q l) (hr : RtM l) (hsl : Slc vp vn vt vg) (hp : c.pre.length ≤ 140737488355328) :
    Calls Try.prog 24 #[.pointer (some ⟨q, 0, none⟩), .agg (cdL c vp vn vt vg)] w (DoR q (bgM l c.pre c.to).1 (bgM l c.pre c.to).2.1 (bgM l c.pre c.to).2.2 w) := by
  obtain ⟨v, hq, hv⟩ := hm.ex
  obtain ⟨hF, hf⟩ := Fr.made w c vp vn vt vg
  have hs2 : ((w.alloc (.cells (cdL c vp vn vt vg) TCD)).alloc (.cells zAN TAN)).heap.size = w.heap.size + 2 := by simp
  obtain ⟨W2, hW2⟩ : ∃ W2, W2 = (w.alloc (.cells (cdL c vp vn vt vg) TCD)).alloc (.cells zAN TAN) := ⟨_, rfl⟩
  rw [← hW2] at hF hf hs2
  have hfl := fun W (f : Fp Non w W) => Begin_c v l c.pre c.to W (hv.non f) hr.szs hp
  have hbw := bgW l c.pre c.to
  have hyes : (bgn l c.pre c.to).e = 0 → bgM l c.pre c.to = ((bgn l c.pre c.to).l, 0, (bgn l c.pre c.to).m :: below (bgn l c.pre c.to).l (bgn l c.pre c.to).m.d) := fun h => by unfold bgM; rw [if_pos h]
  have hno : (bgn l c.pre c.to).e ≠ 0 → bgM l c.pre c.to = (l, (bgn l c.pre c.to).e, []) := fun h => by unfold bgM; rw [if_neg h]
  have hcx := fun W (f : Fp Non W2 W) (F : Fr w c vp vn vt vg W) => And.intro (show W.cell? ⟨q, 0, none⟩ = some v from by rw [cell_of_row _ _ _ _ _ _ ((hf.then f).heap hq (fun h => h))]; rfl) (And.intro (cbj F.cb 6 rfl) (cbj F.cb 8 rfl))
  obtain ⟨r, hrr⟩ : ∃ r, bgn l c.pre c.to = r := ⟨_, rfl⟩
  obtain ⟨d, hd⟩ : ∃ d, bgM l c.pre c.to = d := ⟨_, rfl⟩
  rw [hrr] at hfl hyes hno hbw
  rw [hd] at hyes hno ⊢
  obtain ⟨ao, cap, rfl⟩ := hv.shape
  obtain ⟨n, hn⟩ : ∃ n, n = l.length := ⟨_, rfl⟩
  rw [← hn] at hfl hcx hq
  have HP := Lib.hid (And.intro hm.lt (And.intro hq (And.intro hyes (And.intro hno (And.intro hr (And.intro (bgW_l hbw hr) hbw))))))
  have HM := Lib.hid (hm.non hf)
  have HC := Lib.hid hfl
  have HX := Lib.hid hcx
  have F0 := Lib.hid (And.intro hF (And.intro hf hs2))
  clear hm hv hfl hyes hno hcx hq hn hrr hd hp hr hF hf hbw hs2
  go_enter Try.func24, Try.ntmps24
  go_wp2_with fail
  rw [← hW2]
  clear hW2
  go_cut [5, 6, 7] from 8 to 20 (fun x5 x6 x7 wc => ∃ (b6 : Nat) (d1 : Option Addr) (d2 d3 : Nat), x5 = .slice d1 d2 d3 ∧ x6 = .pointer (some ⟨b6, 0, none⟩) ∧ x7 = .int .i64 r.e ∧ Hid (BgM w q l c vp vn vt vg r b6 (.slice d1 d2 d3) wc))
  case first =>
    have G := Lib.hid ((Fp.refl Non W2).drew)
    have FR := Lib.hid (F0.out.1.non ((Fp.refl Non W2).drew))
    have FP := Lib.hid (F0.out.2.1.then ((Fp.refl Non W2).drew))
    have ME := Lib.hid (HM.out.non ((Fp.refl Non W2).drew))
    refine wp_region_held_drew (S := (fun w' => w'.cell? ⟨q, 0, none⟩ = some (.slice ao n cap) ∧ w'.cell? ⟨w.heap.size, 6, none⟩ = some (.string (B c.pre)) ∧ w'.cell? ⟨w.heap.size, 8, none⟩ = some (.int .i64 c.to))) (by kernel_rfl) ?_ (fun hHeld => ?_)
    · exact HX.out _ G.out FR.out
    refine tkt 0 hHeld ?_
    refine tkt 1 hHeld ?_
    refine tkt 2 hHeld ?_
    refine tkt 3 hHeld ?_
    refine tkt 4 hHeld ?_
    refine tkt 5 hHeld ?_
    refine tkt 6 hHeld ?_
    refine tkt 7 hHeld ?_
    refine rYY 8 13 (fun K hK => ?_) (fun K hK => ?_)
    · go_simp
      go_at_call 42
      refine (HC.out _ FP.out).mono ?_
      intro e w1 hR
      obtain ⟨v1, rfl, hN⟩ := hR.ex
      obtain ⟨d1, d2, d3, rfl⟩ : ∃ a n c, v1 = Value.slice a n c := by obtain ⟨a, c, e⟩ := hN.shape; exact ⟨a, _, c, e⟩
      have N1 := Lib.hid hN
      have f1 := Lib.hid hR.fp
      have G := Lib.hid (G.out.then (f1.out))
      have FR := Lib.hid (FR.out.non (f1.out))
      have FP := Lib.hid (FP.out.then (f1.out))
      have ME := Lib.hid (ME.out.non (f1.out))
      unfold mtV strV
      clear hR hN f1
      go_wp2_with fail
      refine hK.out _ _ (HX.out _ G.out FR.out) (fun hHeld => ?_)
      clear hK K
      try simp only [zP, zN, zS, zT, zU]
      refine tkt 9 hHeld ?_
      refine tkt 10 hHeld ?_
      refine tkt 11 hHeld ?_
      refine tkt 12 hHeld ?_
      refine rY 13 (fun K hK => ?_)
      go_simp
      have R6 := Lib.hid (show (World.alloc w1 (.cells zMT TM)).heap[w1.heap.size]? = _ from heap_alloc_new w1 (.cells zMT TM))
      have hl6 := Lib.hid (show w.heap.size + 1 < w1.heap.size from by have h := F0.out.2.2; have h2 := G.out.size; omega)
      have f1 := Lib.hid (fp_alloc w1 (.cells zMT TM))
      have N1 := Lib.hid (N1.out.non f1.out)
      have G := Lib.hid (G.out.then (f1.out))
      have FR := Lib.hid (FR.out.non (f1.out))
      have FP := Lib.hid (FP.out.then (f1.out))
      have ME := Lib.hid (ME.out.non (f1.out))
      clear f1
      go_wp2_with fail
      refine hK.out _ _ (HX.out _ G.out FR.out) (fun hHeld => ?_)
      clear hK K
      try simp only [zP, zN, zS, zT, zU]
      generalize (World.alloc w1 (.cells zMT TM)) = w2 at *
      refine tkt 14 hHeld ?_
      refine rY 15 (fun K hK => ?_)
      refine step_st rfl TM _ _ rfl _ _ rfl rfl (st_any stTM (cs := mtL r.m) R6.out rfl rfl (mtL_one r.m)) ?_
      have MM := Lib.hid (BgM.end (r := r) FR.out FP.out ME.out R6.out hl6.out N1.out HP.out.2.2.2.2.1 HP.out.1 HP.out.2.2.2.2.2.1)
      have hgx := fp_setRow w2 w1.heap.size (mtL r.m)
      have hql := HP.out.1
      have hlx := hl6.out
      refine hK.out _ _ (And.intro (hgx.cell hHeld.1 (by show ¬ q = _; omega)) (And.intro (hgx.cell hHeld.2.1 (by show ¬ w.heap.size = _; omega)) (hgx.cell hHeld.2.2 (by show ¬ w.heap.size = _; omega)))) (fun hHeld => ?_)
      clear hK K hgx hql hlx
      try simp only [zP, zN, zS, zT, zU]
      refine tkt 16 hHeld ?_
      refine yD ?_
      go_wp2_with fail
      go_meet
      case rel => exact ⟨_, _, _, _, rfl, rfl, rfl, MM⟩
    · go_simp
      have R6 := Lib.hid (show ((World.alloc W2 (.cells zMT TM)).drew).heap[W2.heap.size]? = _ from heap_alloc_new W2 (.cells zMT TM))
      have hl6 := Lib.hid (show w.heap.size + 1 < W2.heap.size from by have h := F0.out.2.2; have h2 := G.out.size; omega)
      have f1 := Lib.hid ((fp_alloc W2 (.cells zMT TM)).drew)
      have G := Lib.hid f1.out
      have FR := Lib.hid (F0.out.1.non f1.out)
      have FP := Lib.hid (F0.out.2.1.then f1.out)
      have ME := Lib.hid (HM.out.non f1.out)
      clear f1
      go_wp2_with fail
      refine hK.out _ _ (HX.out _ G.out FR.out) (fun hHeld => ?_)
      clear hK K
      try simp only [zP, zN, zS, zT, zU]
      generalize ((World.alloc W2 (.cells zMT TM)).drew) = w1 at *
      refine rY 8 (fun K hK => ?_)
      go_simp
      go_at_call 42
      refine (HC.out _ FP.out).mono ?_
      intro e w2 hR
      obtain ⟨v1, rfl, hN⟩ := hR.ex
      obtain ⟨d1, d2, d3, rfl⟩ : ∃ a n c, v1 = Value.slice a n c := by obtain ⟨a, c, e⟩ := hN.shape; exact ⟨a, _, c, e⟩
      have N1 := Lib.hid hN
      have f1 := Lib.hid hR.fp
      have R6 := Lib.hid (f1.out.heap R6.out (fun h => h))
      have G := Lib.hid (G.out.then (f1.out))
      have FR := Lib.hid (FR.out.non (f1.out))
      have FP := Lib.hid (FP.out.then (f1.out))
      have ME := Lib.hid (ME.out.non (f1.out))
      unfold mtV strV
      clear hR hN f1
      go_wp2_with fail
      refine hK.out _ _ (HX.out _ G.out FR.out) (fun hHeld => ?_)
      clear hK K
      try simp only [zP, zN, zS, zT, zU]
      refine tkt 9 hHeld ?_
      refine tkt 10 hHeld ?_
      refine tkt 11 hHeld ?_
      refine tkt 12 hHeld ?_
      refine tkt 14 hHeld ?_
      refine rY 15 (fun K hK => ?_)
      refine step_st rfl TM _ _ rfl _ _ rfl rfl (st_any stTM (cs := mtL r.m) R6.out rfl rfl (mtL_one r.m)) ?_
      have MM := Lib.hid (BgM.end (r := r) FR.out FP.out ME.out R6.out hl6.out N1.out HP.out.2.2.2.2.1 HP.out.1 HP.out.2.2.2.2.2.1)
      have hgx := fp_setRow w2 W2.heap.size (mtL r.m)
      have hql := HP.out.1
      have hlx := hl6.out
      refine hK.out _ _ (And.intro (hgx.cell hHeld.1 (by show ¬ q = _; omega)) (And.intro (hgx.cell hHeld.2.1 (by show ¬ w.heap.size = _; omega)) (hgx.cell hHeld.2.2 (by show ¬ w.heap.size = _; omega)))) (fun hHeld => ?_)
      clear hK K hgx hql hlx
      try simp only [zP, zN, zS, zT, zU]
      refine tkt 16 hHeld ?_
      refine yD ?_
      go_wp2_with fail
      go_meet
      case rel => exact ⟨_, _, _, _, rfl, rfl, rfl, MM⟩
  case rest =>
    obtain ⟨b6, d1, d2, d3, rfl, rfl, rfl, MM⟩ := hcut
    clear HX HC HM
    by_cases h0 : r.e = 0
    · have q5 : (r.e == 0) = true := beq_iff_eq.2 h0
      have q6 : (r.e = 0) = True := eq_true h0
      have q7 : (r.e != 0) = false := by simp [bne, q5]
      have HY := Lib.hid (HP.out.2.2.1 h0)
      have hB := beg HP.out.2.2.2.2.2.2 h0
      have hrow := MM.out.fp.heap HP.out.2.1 (fun h => h)
      have k0 : wc.cell? ⟨q, 0, none⟩ = some (.slice ao n cap) := by rw [cell_of_row _ _ _ _ _ _ hrow]; rfl
      have k1 : wc.frozen? ⟨q, 0, none⟩ = false := by simp [World.frozen?, hrow]
      have hg : Fp (fun k => k = q) wc (wc.setCell ⟨q, 0, none⟩ (.slice d1 d2 d3)) := Fp.setCell (S := fun k => k = q) (Fp.refl _ wc) (p := ⟨q, 0, none⟩) (.inl rfl) _
      have hns := MM.out.me.off MM.out.ns hg
      have hms : MeW (wc.setCell ⟨q, 0, none⟩ (.slice d1 d2 d3)) q r.l := by
        refine ⟨.slice d1 d2 d3, ?_, hns⟩
        have := heap_setCell_same wc q 0 _ TME (.slice d1 d2 d3) hrow
        rw [this]; simp
      have hql := HP.out.1
      have hl6 := MM.out.lt
      have hF2 := MM.out.fr.keep hg (fun k hk e => by have e : k = q := e; omega)
      have hbx : BxM (wc.setCell ⟨q, 0, none⟩ (.slice d1 d2 d3)) b6 r.m := hg.heap MM.out.bx (by omega)
      have K2 := Lib.hid (And.intro hF2 (And.intro (show Fp (fun k => k = q) w (wc.setCell ⟨q, 0, none⟩ (.slice d1 d2 d3)) from MM.out.fp.any.same hg) (And.intro hms (And.intro hbx hns))))
      have HB := Lib.hid (show (∀ W, NsM W (.slice d1 d2 d3) r.l → Calls Try.prog 43 #[.slice d1 d2 d3, .string (B r.m.d)] W (BlR W (below r.l r.m.d))) ∧ (below r.l r.m.d).length ≤ 1000 from
        ⟨fun W h => below_c _ r.l r.m.d W h hB.rt.pos (by have := hB.rt.len; omega) hB.rt.szs.p (by rw [hB.d]; have := okP_len hB.okp; omega), Nat.le_trans (List.length_filter_le _ _) (by have := hB.rt.len; omega)⟩)
      clear hrow hg hms hns hql hF2 hbx hB h0
      go_wp2_with fail
      clear k0 k1
      generalize World.setCell wc ⟨q, 0, none⟩ (.slice d1 d2 d3) = w2 at *
      have HB6 := Lib.hid hl6
      clear hl6
      refine wp_region_held_drew (S := (fun w' => w'.cell? ⟨b6, 0, none⟩ = some (.string (B r.m.d)) ∧ w'.cell? ⟨b6, 1, none⟩ = some (.int .i64 r.m.g) ∧ w'.cell? ⟨b6, 2, none⟩ = some (.int .i64 r.m.e) ∧ w'.cell? ⟨b6, 3, none⟩ = some (.int .i64 r.m.t))) (by kernel_rfl) ?_ (fun hHeld => ?_)
      · exact (K2.out.2.2.2.1.non ((Fp.refl Non w2).drew)).at
      refine tkt 0 hHeld ?_
      refine tkt 2 hHeld ?_
      refine tkt 3 hHeld ?_
      refine tkt 4 hHeld ?_
      refine rYY 1 5 (fun K hK => ?_) (fun K hK => ?_)
      · go_simp
        have R1 := Lib.hid (one_row (show ((World.alloc w2 (.cells (mtL r.m) TM)).drew).heap[w2.heap.size]? = _ from heap_alloc_new w2 (.cells (mtL r.m) TM)))
        have ZF := Lib.hid (And.intro ((fp_alloc w2 (.cells (mtL r.m) TM)).drew) (Nat.le_refl w2.heap.size))
        go_wp2_with fail
        refine hK.out _ _ (K2.out.2.2.2.1.non ZF.out.1).at (fun hHeld => ?_)
        clear hK K
        try simp only [zP, zN, zS, zT, zU]
        generalize ((World.alloc w2 (.cells (mtL r.m) TM)).drew) = w3 at *
        refine rY 5 (fun K hK => ?_)
        go_simp
        go_at_call 43
        refine (HB.out.1 _ (K2.out.2.2.2.2.non ZF.out.1)).mono ?_
        intro e w4 hR
        obtain ⟨G, gc, rfl, hN, hG⟩ := hR.ex
        have NG := Lib.hid hN
        have f1 := Lib.hid hR.fp
        have R1 := Lib.hid (R1.out.keep f1.out (fun h => h))
        have ZF := Lib.hid (And.intro (ZF.out.1.then f1.out) ZF.out.2)
        obtain ⟨m, hm⟩ : ∃ m, m = below r.l r.m.d := ⟨_, rfl⟩
        have HMM := Lib.hid (And.intro hm (show m.length ≤ 1000 from by rw [hm]; exact HB.out.2))
        rw [← hm] at NG ⊢
        clear hR hN hG f1 hm
        go_wp2_with fail
        refine hK.out _ _ (K2.out.2.2.2.1.non ZF.out.1).at (fun hHeld => ?_)
        clear hK K
        try simp only [zP, zN, zS, zT, zU]
        refine rY 6 (fun K hK => ?_)
        refine step_app rfl _ _ _ _ rfl _ _ rfl rfl (ApA w2.heap.size w4 (r.m :: m)) (app_bel R1.out NG.out HMM.out.2 _) ?_
        intro v4 w5 hR
        obtain ⟨a4, n4, c4, rfl⟩ := hR.sl
        have FE := Lib.hid (EndM.of K2.out (ZF.out.1.trans hR.fp (fun k hk => .inr (by have hk : k = w2.heap.size := hk; have h := ZF.out.2; omega))) hR.ns)
        clear hR
        refine hK.out _ _ FE.out.bx.at (fun hHeld => ?_)
        clear hK K
        try simp only [zP, zN, zS, zT, zU]
        refine tkt 7 hHeld ?_
        refine rY 8 (fun K hK => ?_)
        refine step_st rfl TAN _ _ rfl _ _ rfl rfl (st_any stAN (cs := anL 0 (.slice a4 n4 c4)) FE.out.rs rfl rfl (anL_one ⟨_, _, _, rfl⟩)) ?_
        obtain ⟨z0, z1, z2, z3, z4, z5, z6, z7, z8, z9⟩ := boxA (setRow_same (cs := anL 0 (.slice a4 n4 c4)) FE.out.rs)
        have HE := Lib.hid (DoR.fin (er := 0) FE.out.fp FE.out.rs zAN_dull (Nat.le_succ _) HP.out.1 FE.out.me FE.out.ns)
        have hgx := fp_setRow w5 (w.heap.size + 1) (anL 0 (.slice a4 n4 c4))
        have hb6 : ¬ b6 = w.heap.size + 1 := by have h := HB6.out; omega
        refine hK.out _ _ (And.intro (hgx.cell hHeld.1 hb6) (And.intro (hgx.cell hHeld.2.1 hb6) (And.intro (hgx.cell hHeld.2.2.1 hb6) (hgx.cell hHeld.2.2.2 hb6)))) (fun hHeld => ?_)
        clear hK K hgx hb6
        try simp only [zP, zN, zS, zT, zU]
        refine yD ?_
        generalize World.setRow w5 (w.heap.size + 1) (anL 0 (.slice a4 n4 c4)) = wz at *
        go_wp2
        refine bodyPost_ret (v := .agg (anL 0 (.slice a4 n4 c4))) (by simp [results, Try.results24, go_sem, z0, z1, z2, z3, z4, z5, z6, z7, z8, z9]) rfl ?_
        rw [HY.out, ← HMM.out.1]
        exact HE.out
      · go_simp
        go_at_call 43
        refine (HB.out.1 _ (K2.out.2.2.2.2.non ((Fp.refl Non w2).drew))).mono ?_
        intro e w3 hR
        obtain ⟨G, gc, rfl, hN, hG⟩ := hR.ex
        have NG := Lib.hid hN
        have f1 := Lib.hid hR.fp
        have K3 := Lib.hid (And.intro (K2.out.1.non (((Fp.refl Non w2).drew).then f1.out)) (And.intro (K2.out.2.1.same (((Fp.refl Non w2).drew).then f1.out).any) (And.intro (K2.out.2.2.1.non (((Fp.refl Non w2).drew).then f1.out)) (And.intro (K2.out.2.2.2.1.non (((Fp.refl Non w2).drew).then f1.out)) (K2.out.2.2.2.2.non (((Fp.refl Non w2).drew).then f1.out))))))
        obtain ⟨m, hm⟩ : ∃ m, m = below r.l r.m.d := ⟨_, rfl⟩
        have HMM := Lib.hid (And.intro hm (show m.length ≤ 1000 from by rw [hm]; exact HB.out.2))
        rw [← hm] at NG ⊢
        clear hR hN hG f1 hm
        go_wp2_with fail
        refine hK.out _ _ K3.out.2.2.2.1.at (fun hHeld => ?_)
        clear hK K
        try simp only [zP, zN, zS, zT, zU]
        refine rY 1 (fun K hK => ?_)
        go_simp
        have R1 := Lib.hid (one_row (show (World.alloc w3 (.cells (mtL r.m) TM)).heap[w3.heap.size]? = _ from heap_alloc_new w3 (.cells (mtL r.m) TM)))
        have ZF := Lib.hid (And.intro (fp_alloc w3 (.cells (mtL r.m) TM)) (Nat.le_refl w3.heap.size))
        have NG := Lib.hid (NG.out.keep (fp_alloc w3 (.cells (mtL r.m) TM)) (fun h => h))
        go_wp2_with fail
        refine hK.out _ _ (K3.out.2.2.2.1.non ZF.out.1).at (fun hHeld => ?_)
        clear hK K
        try simp only [zP, zN, zS, zT, zU]
        generalize (World.alloc w3 (.cells (mtL r.m) TM)) = w4 at *
        refine rY 6 (fun K hK => ?_)
        refine step_app rfl _ _ _ _ rfl _ _ rfl rfl (ApA w3.heap.size w4 (r.m :: m)) (app_bel R1.out NG.out HMM.out.2 _) ?_
        intro v4 w5 hR
        obtain ⟨a4, n4, c4, rfl⟩ := hR.sl
        have FE := Lib.hid (EndM.of K3.out (ZF.out.1.trans hR.fp (fun k hk => .inr (by have hk : k = w3.heap.size := hk; have h := ZF.out.2; omega))) hR.ns)
        clear hR
        refine hK.out _ _ FE.out.bx.at (fun hHeld => ?_)
        clear hK K
        try simp only [zP, zN, zS, zT, zU]
        refine tkt 7 hHeld ?_
        refine rY 8 (fun K hK => ?_)
        refine step_st rfl TAN _ _ rfl _ _ rfl rfl (st_any stAN (cs := anL 0 (.slice a4 n4 c4)) FE.out.rs rfl rfl (anL_one ⟨_, _, _, rfl⟩)) ?_
        obtain ⟨z0, z1, z2, z3, z4, z5, z6, z7, z8, z9⟩ := boxA (setRow_same (cs := anL 0 (.slice a4 n4 c4)) FE.out.rs)
        have HE := Lib.hid (DoR.fin (er := 0) FE.out.fp FE.out.rs zAN_dull (Nat.le_succ _) HP.out.1 FE.out.me FE.out.ns)
        have hgx := fp_setRow w5 (w.heap.size + 1) (anL 0 (.slice a4 n4 c4))
        have hb6 : ¬ b6 = w.heap.size + 1 := by have h := HB6.out; omega
        refine hK.out _ _ (And.intro (hgx.cell hHeld.1 hb6) (And.intro (hgx.cell hHeld.2.1 hb6) (And.intro (hgx.cell hHeld.2.2.1 hb6) (hgx.cell hHeld.2.2.2 hb6)))) (fun hHeld => ?_)
        clear hK K hgx hb6
        try simp only [zP, zN, zS, zT, zU]
        refine yD ?_
        generalize World.setRow w5 (w.heap.size + 1) (anL 0 (.slice a4 n4 c4)) = wz at *
        go_wp2
        refine bodyPost_ret (v := .agg (anL 0 (.slice a4 n4 c4))) (by simp [results, Try.results24, go_sem, z0, z1, z2, z3, z4, z5, z6, z7, z8, z9]) rfl ?_
        rw [HY.out, ← HMM.out.1]
        exact HE.out
    · have q5 : (r.e == 0) = false := beq_eq_false_iff_ne.2 h0
      have q6 : (r.e = 0) = False := eq_false h0
      have q7 : (r.e != 0) = true := by simp [bne, q5]
      have HY := Lib.hid (HP.out.2.2.2.1 h0)
      have FQ := Lib.hid (show Fp (fun k => k = q) w wc from MM.out.fp.any)
      have ME := Lib.hid MM.out.me
      have F2 := Lib.hid MM.out.fr
      clear h0
      go_wp2_with fail
      refine (refusedM_c r.e _).mono ?_
      rintro e w9 ⟨rfl, f9⟩
      have F9 := Lib.hid (F2.out.non f9)
      have Q9 := Lib.hid (FQ.out.same f9.any)
      have M9 := Lib.hid (ME.out.non f9)
      clear f9
      go_wp2_with (refine wpList_stC rfl TAN _ _ rfl _ _ rfl rfl (st_any stAN (cs := anL r.e (.slice none 0 0)) F9.out.rs rfl rfl (anL_one ⟨none, 0, 0, rfl⟩)) ?_)
      obtain ⟨z0, z1, z2, z3, z4, z5, z6, z7, z8, z9⟩ := boxA (setRow_same (cs := anL r.e (.slice none 0 0)) F9.out.rs)
      have HE := Lib.hid (DoR.fin (er := r.e) Q9.out F9.out.rs zAN_dull (Nat.le_succ _) HP.out.1 M9.out (NsM.nil _))
      generalize World.setRow w9 (w.heap.size + 1) (anL r.e (.slice none 0 0)) = wz at *
      go_wp2
      refine bodyPost_ret (v := .agg (anL r.e (.slice none 0 0))) (by simp [results, Try.results24, go_sem, z0, z1, z2, z3, z4, z5, z6, z7, z8, z9]) rfl ?_
      rw [HY.out]
      exact HE.out
end Go.Proofs.Ytdfnfkknbjageaa

