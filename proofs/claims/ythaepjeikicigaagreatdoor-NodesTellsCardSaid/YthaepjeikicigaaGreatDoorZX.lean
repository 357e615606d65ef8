/- Texts of this proof, merged. -/
import Derived.Test.YthaepjeikicigaaGreatDoorZW
import Derived.Test.YthaepjeikicigaaGreatDoorZF
import Derived.Test.YthaepjeikicigaaGreatDoorZH
/- The document's create. -/
namespace Go.Proofs.YthaepjeikicigaaGreatDoor
set_option linter.unusedSimpArgs false
set_option linter.unusedVariables false
set_option maxRecDepth 20000
set_option linter.unusedVariables false
set_option linter.unusedSimpArgs false
open Go.RowKit Pm
namespace Pm
theorem put_up {l : List Nd} (h : Tr l) {u : Bs} {x : Nd} (hx : find l u = some x) (t : Int) : put l { x with turn := t } = l.set (place l u) { x with turn := t } := by
  obtain ⟨hk, e⟩ := find_at h.asc hx
  have hp := (find_mem hx).2
  have hk2 : place l x.path < l.length := by rw [hp]; exact hk
  have e2 : l[place l x.path]'hk2 = x := by simp only [hp]; exact e
  have := put_set h.asc { x with turn := t } hk2 (by rw [e2])
  rw [this]; simp only [hp]
theorem put_new {l : List Nd} (h : Tr l) {u q : Bs} {x : Nd} (hx : find l u = some x) (hq : find l q = none) (t : Int) (y : Nd) (hy : y.path = q) :
    put (l.set (place l u) { x with turn := t }) y = ins (l.set (place l u) { x with turn := t }) (place l q) y := by
  obtain ⟨hk, e⟩ := find_at h.asc hx
  have hp := (find_mem hx).2
  have hA := h.asc.set hk { x with turn := t } (by rw [e])
  have hf := find_set h.asc hk { x with turn := t } (by rw [e]) q
  rw [if_neg (by
    intro e2
    have e2 : q = x.path := e2
    rw [e2, hp, hx] at hq; cases hq)] at hf
  subst hy
  rw [put_ins hA y (by rw [hf]; exact hq), place_set hk _ (by rw [e])]
end Pm
theorem frozen_at {w : World} {b : Nat} {cs : Array Value} {T : TypeId} (h : w.heap[b]? = some (.cells cs T (0, 0))) (j : Nat) : w.frozen? ⟨b, j, none⟩ = false := by
  unfold World.frozen?; simp only [h]; simp
theorem fp5k {w : World} {b : Nat} {T : TypeId} {a0 a1 a2 a3 a4 : Value} (h : w.heap[b]? = some (.cells #[a0, a1, a2, a3, a4] T (0, 0))) (v0 v1 v2 v3 v4 : Value) :
    Fp (fun k => k = b) w (((((w.setCell ⟨b, 0, none⟩ v0).setCell ⟨b, 1, none⟩ v1).setCell ⟨b, 2, none⟩ v2).setCell ⟨b, 3, none⟩ v3).setCell ⟨b, 4, none⟩ v4) :=
  fp5 (S := fun k => k = b) (Fp.refl _ w) (.inl rfl) v0 v1 v2 v3 v4
/-- Behind create: where its nodes lie. -/
structure ApB (w : World) (v0 : Value) (l' : List Nd) (r : Res) (e : Ending) (w' : World) : Prop where
  ex : ∃ v' nv, e = .returned (.tuple #[v', .agg #[.int .i64 r.err, strV r.path, strV r.data, .int .i64 r.ver, nv]]) ∧ Ns w' v' l' ∧ Own w.heap.size w' nv r.names ∧ (∀ k, v'.ownBlock = some k → v0.ownBlock = some k ∨ w.heap.size ≤ k)
  fp : Fp Non w w'
theorem res_badB {w w' : World} {v : Value} {l : List Nd} {e : Int} (hn : Ns w' v l) (hf : Fp Non w w') : ApB w v l (.bad e) (.returned (.tuple #[v, .agg #[.int .i64 e, .string ⟨#[]⟩, .string ⟨#[]⟩, .int .i64 0, .slice none 0 0]])) w' :=
  ⟨⟨v, .slice none 0 0, rfl, hn, Own.nil _ _, fun _ h => .inl h⟩, hf⟩
theorem res_bad {w w' : World} {v : Value} {l : List Nd} {e : Int} (hn : Ns w' v l) (hf : Fp Non w w') : ApR w l (.bad e) (.returned (.tuple #[v, .agg #[.int .i64 e, .string ⟨#[]⟩, .string ⟨#[]⟩, .int .i64 0, .slice none 0 0]])) w' :=
  ⟨⟨v, .slice none 0 0, rfl, hn, Own.nil _ _⟩, hf⟩
set_option maxHeartbeats 16000000 in
theorem rCreate_c (v : Value) (l : List Nd) (o : Opn) (w : World) (hv : Ns w v l) (hT : Tr l) (hm : may o = true) (hk : o.kind = 1) :
    Calls Tryz.prog 21 #[v, opV o] w (ApB w v (create l o).1 (create l o).2) := by
  obtain ⟨ao, cap, rfl⟩ := hv.shape
  obtain ⟨u, hu⟩ := may_parent hm (.inl hk)
  obtain ⟨_, _, _, hul, _, hol, _⟩ := parent_some hu
  have hpa := fun w => rParent_g o.path w (sz_of hol (by omega))
  rw [hu] at hpa
  simp only [Option.getD_some, Option.isSome_some] at hpa
  have hnm := fun t w h0 h1 => rNamed_c o u t w hu h0 h1
  have hsp := (tr_few hT).2
  have hfd := fun q w' hv => rFind_c (.slice ao l.length cap) l q w' hv (tr_few hT).1
  have hcr : create l o = (match find l u with
    | none => (l, .bad 62)
    | some x => if x.own ≠ 0 then (l, .bad 65) else match named o u x.turn with
      | none => (l, .bad 66)
      | some p => if (find l p).isSome = true then (l, .bad 61) else if l.length = 512 then (l, .bad 2) else
          (ins (if o.turns = true then l.set (place l u) { x with turn := x.turn + 1 } else l) (place l p) ⟨p, o.data, 0, 0, o.own⟩, ⟨0, p, [], 0, []⟩)) := by
    unfold create; rw [hu]; rfl
  rw [hcr]
  have hmd := may_own hm
  obtain ⟨kk, p, d, vv, ow, tt⟩ := o
  have hb0 := Bx.made w kk p d vv ow tt
  have hf0 : Fp Non w ((w.alloc (.cells #[.int .i64 kk, .string (B p), .string (B d), .int .i64 vv, .int .i64 ow, .bool tt] TO_)).alloc (.cells #[.int .i64 0, .string ⟨#[]⟩, .string ⟨#[]⟩, .int .i64 0, .slice none 0 0] TR)) := (fp_alloc w _).then (fp_alloc _ _)
  have HF0 := Lib.hid (Kp.and (fun W' f => hb0.non f : Kp (Bx w kk p d vv ow tt) ((w.alloc (.cells #[.int .i64 kk, .string (B p), .string (B d), .int .i64 vv, .int .i64 ow, .bool tt] TO_)).alloc (.cells #[.int .i64 0, .string ⟨#[]⟩, .string ⟨#[]⟩, .int .i64 0, .slice none 0 0] TR))) (Kp.and (Kp.fp hf0) (Kp.ns (hv.non hf0))))
  have HVV := Lib.hid hv
  have HPA := Lib.hid hpa
  have HNM := Lib.hid hnm
  have HFD := Lib.hid hfd
  have HT := Lib.hid hT
  have HU := Lib.hid hu
  unfold opV strV at HNM ⊢
  simp only at HPA HNM ⊢
  clear hpa hnm hfd hf0 hb0 hv hcr hm hk hul hol hsp hT hu hmd
  cases hfu : find l u with
  | none =>
    have hf1 := HFD.out u
    rw [hfu] at hf1
    simp only [Option.getD_none, Option.isSome_none, ndV, strV, zeroNd] at hf1 ⊢
    obtain ⟨n, hnn⟩ : ∃ n, n = l.length := ⟨_, rfl⟩
    rw [← hnn] at HVV hf1 HF0 ⊢
    have HF1 := Lib.hid hf1
    clear hf1 HFD HNM hnn
    go_enter Tryz.func21, Tryz.ntmps21
    go_wp2_with fail
    refine (HPA.out _).mono ?_
    rintro e w1 ⟨rfl, g1⟩
    have K1 := Lib.hid (HF0.out.later g1.fp)
    clear g1
    go_wp2_with fail
    refine (HF1.out _ K1.out.now.2.2).mono ?_
    rintro e w2 ⟨rfl, hf⟩
    have K2 := Lib.hid (K1.out.later (hf.alloc (.cells #[.string (B []), .string (B []), .int .i64 0, .int .i64 0, .int .i64 0] TN)))
    clear hf
    have hbr := K2.out.now.1
    have hfw := K2.out.now.2.1
    obtain ⟨r0, r1, r2, r3, r4⟩ := hbr.r
    have z0 := hbr.fz 0; have z1 := hbr.fz 1; have z2 := hbr.fz 2; have z3 := hbr.fz 3; have z4 := hbr.fz 4
    have HE := Lib.hid (And.intro hbr.res hfw)
    clear hbr hfw
    go_wp2
    have hw9 := set5 HE.out.1 (.int .i64 62) (.string ⟨#[]⟩) (.string ⟨#[]⟩) (.int .i64 0) (.slice none 0 0)
    have hfz := fp5 (S := Non) HE.out.2 (b := w.heap.size + 1) (.inr (by omega)) (.int .i64 62) (.string ⟨#[]⟩) (.string ⟨#[]⟩) (.int .i64 0) (.slice none 0 0)
    have hfk := fp5k HE.out.1 (.int .i64 62) (.string ⟨#[]⟩) (.string ⟨#[]⟩) (.int .i64 0) (.slice none 0 0)
    generalize (((((World.setCell _ _ _).setCell _ _).setCell _ _).setCell _ _).setCell _ _) = wz at *
    have s0 := cell_of_row _ (w.heap.size + 1) 0 _ _ _ hw9
    have s1 := cell_of_row _ (w.heap.size + 1) 1 _ _ _ hw9
    have s2 := cell_of_row _ (w.heap.size + 1) 2 _ _ _ hw9
    have s3 := cell_of_row _ (w.heap.size + 1) 3 _ _ _ hw9
    have s4 := cell_of_row _ (w.heap.size + 1) 4 _ _ _ hw9
    simp only [zA, zB, zC] at s0 s1 s2 s3 s4
    exact bodyPost_ret (v := .tuple #[.slice ao n cap, .agg #[.int .i64 62, .string ⟨#[]⟩, .string ⟨#[]⟩, .int .i64 0, .slice none 0 0]]) (by simp [results, Tryz.results21, go_sem, s0, s1, s2, s3, s4]) rfl (res_badB (HVV.out.non hfz) hfz)
  | some x =>
    have hxm := find_mem hfu
    have hft := (fits_iff x).1 (HT.out.fit x hxm.1)
    have hf1 := HFD.out u
    rw [hfu] at hf1
    simp only [Option.getD_some, Option.isSome_some, ndV, strV] at hf1 ⊢
    have HF1 := Lib.hid hf1
    have HX := Lib.hid (And.intro hft hfu)
    have hxt : 0 ≤ x.turn ∧ x.turn ≤ 10000 := by omega
    clear hf1 hxm hft hfu
    by_cases h0 : x.own = 0
    · rw [if_neg (by simpa using h0)]
      have q0 : (x.own == 0) = true := beq_iff_eq.2 h0
      have q1 : (x.own != 0) = false := by simp [h0]
      have q2 : (x.own = 0) = True := eq_true h0
      clear h0
      have hn1 := fun w => HNM.out x.turn w hxt.1 hxt.2
      cases hnm : named ⟨kk, p, d, vv, ow, tt⟩ u x.turn with
      | none =>
        rw [hnm] at hn1
        simp only [Option.getD_none, Option.isSome_none] at hn1 ⊢
        obtain ⟨n, hnn⟩ : ∃ n, n = l.length := ⟨_, rfl⟩
        rw [← hnn] at HVV HF1 HF0 ⊢
        have HN1 := Lib.hid hn1
        clear hn1 HFD HNM hnn
        go_enter Tryz.func21, Tryz.ntmps21
        go_wp2_with fail
        refine (HPA.out _).mono ?_
        rintro e w1 ⟨rfl, g1⟩
        have K1 := Lib.hid (HF0.out.later g1.fp)
        have HS01 := Lib.hid (show w.heap.size + 2 ≤ w1.heap.size from K1.out.now.1.sz)
        clear g1
        go_wp2_with fail
        refine (HF1.out _ K1.out.now.2.2).mono ?_
        rintro e w2 ⟨rfl, hf⟩
        have HS12 := Lib.hid hf.size
        have hbx := heap_alloc_new w2 (.cells #[.string (B x.path), .string (B x.data), .int .i64 x.ver, .int .i64 x.turn, .int .i64 x.own] TN)
        have K2 := Lib.hid (Kp.and (Kp.row hbx) (K1.out.later (hf.alloc (.cells #[.string (B x.path), .string (B x.data), .int .i64 x.ver, .int .i64 x.turn, .int .i64 x.own] TN))))
        clear hf hbx
        obtain ⟨y0, y1, y2, y3, y4⟩ := box5 K2.out.now.1
        obtain ⟨o0, o1, o2, o3, o4, o5⟩ := box6 K2.out.now.2.1.op
        go_wp2_with fail
        refine (HN1.out _).mono ?_
        rintro e w3 ⟨rfl, hf⟩
        have K4 := Lib.hid (K2.out.later hf)
        clear hf y0 y1 y2 y3 y4 o0 o1 o2 o3 o4 o5
        have hbr := K4.out.now.2.1
        have hfw := K4.out.now.2.2.1
        obtain ⟨r0, r1, r2, r3, r4⟩ := hbr.r
        have z0 := hbr.fz 0; have z1 := hbr.fz 1; have z2 := hbr.fz 2; have z3 := hbr.fz 3; have z4 := hbr.fz 4
        have HE := Lib.hid (And.intro hbr.res hfw)
        clear hbr hfw
        go_wp2
        have hw9 := set5 HE.out.1 (.int .i64 66) (.string ⟨#[]⟩) (.string ⟨#[]⟩) (.int .i64 0) (.slice none 0 0)
        have hfz := fp5 (S := Non) HE.out.2 (b := w.heap.size + 1) (.inr (by omega)) (.int .i64 66) (.string ⟨#[]⟩) (.string ⟨#[]⟩) (.int .i64 0) (.slice none 0 0)
        have hfk := fp5k HE.out.1 (.int .i64 66) (.string ⟨#[]⟩) (.string ⟨#[]⟩) (.int .i64 0) (.slice none 0 0)
        generalize (((((World.setCell _ _ _).setCell _ _).setCell _ _).setCell _ _).setCell _ _) = wz at *
        have s0 := cell_of_row _ (w.heap.size + 1) 0 _ _ _ hw9
        have s1 := cell_of_row _ (w.heap.size + 1) 1 _ _ _ hw9
        have s2 := cell_of_row _ (w.heap.size + 1) 2 _ _ _ hw9
        have s3 := cell_of_row _ (w.heap.size + 1) 3 _ _ _ hw9
        have s4 := cell_of_row _ (w.heap.size + 1) 4 _ _ _ hw9
        simp only [zA, zB, zC] at s0 s1 s2 s3 s4
        exact bodyPost_ret (v := .tuple #[.slice ao n cap, .agg #[.int .i64 66, .string ⟨#[]⟩, .string ⟨#[]⟩, .int .i64 0, .slice none 0 0]]) (by simp [results, Tryz.results21, go_sem, s0, s1, s2, s3, s4]) rfl (res_badB (HVV.out.non hfz) hfz)
      | some q =>
        rw [hnm] at hn1
        simp only [Option.getD_some, Option.isSome_some] at hn1 ⊢
        have hqp := named_parent HU.out hnm
        obtain ⟨_, _, _, _, _, hql, _⟩ := parent_some hqp
        have HN1 := Lib.hid hn1
        have hf2 := HFD.out q
        have HQ := Lib.hid (And.intro hqp hnm)
        clear hn1 HNM hnm hqp hql
        cases hfq : find l q with
        | some z =>
          rw [if_pos (by simp)]
          rw [hfq] at hf2
          simp only [Option.getD_some, Option.isSome_some, ndV, strV] at hf2 ⊢
          obtain ⟨n, hnn⟩ : ∃ n, n = l.length := ⟨_, rfl⟩
          rw [← hnn] at HVV hf2 HF1 HF0 ⊢
          have HF2 := Lib.hid hf2
          clear hf2 HFD hnn hfq
          go_enter Tryz.func21, Tryz.ntmps21
          go_wp2_with fail
          refine (HPA.out _).mono ?_
          rintro e w1 ⟨rfl, g1⟩
          have K1 := Lib.hid (HF0.out.later g1.fp)
          have HS01 := Lib.hid (show w.heap.size + 2 ≤ w1.heap.size from K1.out.now.1.sz)
          clear g1
          go_wp2_with fail
          refine (HF1.out _ K1.out.now.2.2).mono ?_
          rintro e w2 ⟨rfl, hf⟩
          have HS12 := Lib.hid hf.size
          have hbx := heap_alloc_new w2 (.cells #[.string (B x.path), .string (B x.data), .int .i64 x.ver, .int .i64 x.turn, .int .i64 x.own] TN)
          have K2 := Lib.hid (Kp.and (Kp.row hbx) (K1.out.later (hf.alloc (.cells #[.string (B x.path), .string (B x.data), .int .i64 x.ver, .int .i64 x.turn, .int .i64 x.own] TN))))
          clear hf hbx
          obtain ⟨y0, y1, y2, y3, y4⟩ := box5 K2.out.now.1
          obtain ⟨o0, o1, o2, o3, o4, o5⟩ := box6 K2.out.now.2.1.op
          go_wp2_with fail
          refine (HN1.out _).mono ?_
          rintro e w3 ⟨rfl, hf⟩
          have K4 := Lib.hid (K2.out.later hf)
          clear hf y0 y1 y2 y3 y4 o0 o1 o2 o3 o4 o5
          go_wp2_with fail
          refine (HF2.out _ K4.out.now.2.2.2).mono ?_
          rintro e w5 ⟨rfl, hf⟩
          have K5 := Lib.hid (K4.out.later (hf.alloc (.cells #[.string (B z.path), .string (B z.data), .int .i64 z.ver, .int .i64 z.turn, .int .i64 z.own] TN)))
          clear hf
          have hbr := K5.out.now.2.1
          have hfw := K5.out.now.2.2.1
          obtain ⟨r0, r1, r2, r3, r4⟩ := hbr.r
          have z0 := hbr.fz 0; have z1 := hbr.fz 1; have z2 := hbr.fz 2; have z3 := hbr.fz 3; have z4 := hbr.fz 4
          have HE := Lib.hid (And.intro hbr.res hfw)
          clear hbr hfw
          go_wp2
          have hw9 := set5 HE.out.1 (.int .i64 61) (.string ⟨#[]⟩) (.string ⟨#[]⟩) (.int .i64 0) (.slice none 0 0)
          have hfz := fp5 (S := Non) HE.out.2 (b := w.heap.size + 1) (.inr (by omega)) (.int .i64 61) (.string ⟨#[]⟩) (.string ⟨#[]⟩) (.int .i64 0) (.slice none 0 0)
          have hfk := fp5k HE.out.1 (.int .i64 61) (.string ⟨#[]⟩) (.string ⟨#[]⟩) (.int .i64 0) (.slice none 0 0)
          generalize (((((World.setCell _ _ _).setCell _ _).setCell _ _).setCell _ _).setCell _ _) = wz at *
          have s0 := cell_of_row _ (w.heap.size + 1) 0 _ _ _ hw9
          have s1 := cell_of_row _ (w.heap.size + 1) 1 _ _ _ hw9
          have s2 := cell_of_row _ (w.heap.size + 1) 2 _ _ _ hw9
          have s3 := cell_of_row _ (w.heap.size + 1) 3 _ _ _ hw9
          have s4 := cell_of_row _ (w.heap.size + 1) 4 _ _ _ hw9
          simp only [zA, zB, zC] at s0 s1 s2 s3 s4
          exact bodyPost_ret (v := .tuple #[.slice ao n cap, .agg #[.int .i64 61, .string ⟨#[]⟩, .string ⟨#[]⟩, .int .i64 0, .slice none 0 0]]) (by simp [results, Tryz.results21, go_sem, s0, s1, s2, s3, s4]) rfl (res_badB (HVV.out.non hfz) hfz)
        | none =>
          rw [if_neg (by simp)]
          rw [hfq] at hf2
          simp only [Option.getD_none, Option.isSome_none, ndV, strV, zeroNd] at hf2 ⊢
          have HF2 := Lib.hid hf2
          have HQN := Lib.hid hfq
          clear hf2 hfq
          by_cases hl : l.length = 512
          · rw [if_pos hl]
            have p0 : ((512 : Int) ≤ (l.length : Int)) = True := eq_true (by omega)
            have p1 : (512 ≤ l.length) = True := eq_true (by omega)
            obtain ⟨n, hnn⟩ : ∃ n, n = l.length := ⟨_, rfl⟩
            rw [← hnn] at HVV HF2 HF1 HF0 p0 p1 ⊢
            clear HFD hnn hl
            go_enter Tryz.func21, Tryz.ntmps21
            go_wp2_with fail
            refine (HPA.out _).mono ?_
            rintro e w1 ⟨rfl, g1⟩
            have K1 := Lib.hid (HF0.out.later g1.fp)
            have HS01 := Lib.hid (show w.heap.size + 2 ≤ w1.heap.size from K1.out.now.1.sz)
            clear g1
            go_wp2_with fail
            refine (HF1.out _ K1.out.now.2.2).mono ?_
            rintro e w2 ⟨rfl, hf⟩
            have HS12 := Lib.hid hf.size
            have hbx := heap_alloc_new w2 (.cells #[.string (B x.path), .string (B x.data), .int .i64 x.ver, .int .i64 x.turn, .int .i64 x.own] TN)
            have K2 := Lib.hid (Kp.and (Kp.row hbx) (K1.out.later (hf.alloc (.cells #[.string (B x.path), .string (B x.data), .int .i64 x.ver, .int .i64 x.turn, .int .i64 x.own] TN))))
            clear hf hbx
            obtain ⟨y0, y1, y2, y3, y4⟩ := box5 K2.out.now.1
            obtain ⟨o0, o1, o2, o3, o4, o5⟩ := box6 K2.out.now.2.1.op
            go_wp2_with fail
            refine (HN1.out _).mono ?_
            rintro e w3 ⟨rfl, hf⟩
            have K4 := Lib.hid (K2.out.later hf)
            clear hf y0 y1 y2 y3 y4 o0 o1 o2 o3 o4 o5
            go_wp2_with fail
            refine (HF2.out _ K4.out.now.2.2.2).mono ?_
            rintro e w5 ⟨rfl, hf⟩
            have K5 := Lib.hid (K4.out.later (hf.alloc (.cells #[.string (B []), .string (B []), .int .i64 0, .int .i64 0, .int .i64 0] TN)))
            clear hf
            have hbr := K5.out.now.2.1
            have hfw := K5.out.now.2.2.1
            obtain ⟨r0, r1, r2, r3, r4⟩ := hbr.r
            have z0 := hbr.fz 0; have z1 := hbr.fz 1; have z2 := hbr.fz 2; have z3 := hbr.fz 3; have z4 := hbr.fz 4
            have HE := Lib.hid (And.intro hbr.res hfw)
            clear hbr hfw
            go_wp2
            have hw9 := set5 HE.out.1 (.int .i64 2) (.string ⟨#[]⟩) (.string ⟨#[]⟩) (.int .i64 0) (.slice none 0 0)
            have hfz := fp5 (S := Non) HE.out.2 (b := w.heap.size + 1) (.inr (by omega)) (.int .i64 2) (.string ⟨#[]⟩) (.string ⟨#[]⟩) (.int .i64 0) (.slice none 0 0)
            have hfk := fp5k HE.out.1 (.int .i64 2) (.string ⟨#[]⟩) (.string ⟨#[]⟩) (.int .i64 0) (.slice none 0 0)
            generalize (((((World.setCell _ _ _).setCell _ _).setCell _ _).setCell _ _).setCell _ _) = wz at *
            have s0 := cell_of_row _ (w.heap.size + 1) 0 _ _ _ hw9
            have s1 := cell_of_row _ (w.heap.size + 1) 1 _ _ _ hw9
            have s2 := cell_of_row _ (w.heap.size + 1) 2 _ _ _ hw9
            have s3 := cell_of_row _ (w.heap.size + 1) 3 _ _ _ hw9
            have s4 := cell_of_row _ (w.heap.size + 1) 4 _ _ _ hw9
            simp only [zA, zB, zC] at s0 s1 s2 s3 s4
            exact bodyPost_ret (v := .tuple #[.slice ao n cap, .agg #[.int .i64 2, .string ⟨#[]⟩, .string ⟨#[]⟩, .int .i64 0, .slice none 0 0]]) (by simp [results, Tryz.results21, go_sem, s0, s1, s2, s3, s4]) rfl (res_badB (HVV.out.non hfz) hfz)
          · rw [if_neg hl]
            have hlm := HT.out.most
            have p0 : ((512 : Int) ≤ (l.length : Int)) = False := eq_false (by omega)
            have p1 : (512 ≤ l.length) = False := eq_false (by omega)
            cases tt with
            | false =>
              have hpt := rPut_c (.slice ao l.length cap) l ⟨q, d, 0, 0, ow⟩
              rw [put_ins HT.out.asc (⟨q, d, 0, 0, ow⟩ : Nd) HQN.out] at hpt
              simp only [Bool.false_eq_true, if_false] at hpt ⊢
              generalize hr : ins l (place l q) ⟨q, d, 0, 0, ow⟩ = R at *
              have hlb : l.length ≤ 2000 := by omega
              obtain ⟨n, hnn⟩ : ∃ n, n = l.length := ⟨_, rfl⟩
              have HPT := Lib.hid (fun w' h => hpt w' h hlb)
              rw [← hnn] at HVV HF2 HF1 HF0 p0 p1 HPT ⊢
              clear HFD hnn hl hlm hpt hlb
              go_enter Tryz.func21, Tryz.ntmps21
              go_wp2_with fail
              refine (HPA.out _).mono ?_
              rintro e w1 ⟨rfl, g1⟩
              have K1 := Lib.hid (HF0.out.later g1.fp)
              have HS01 := Lib.hid (show w.heap.size + 2 ≤ w1.heap.size from K1.out.now.1.sz)
              clear g1
              go_wp2_with fail
              refine (HF1.out _ K1.out.now.2.2).mono ?_
              rintro e w2 ⟨rfl, hf⟩
              have HS12 := Lib.hid hf.size
              have hbx := heap_alloc_new w2 (.cells #[.string (B x.path), .string (B x.data), .int .i64 x.ver, .int .i64 x.turn, .int .i64 x.own] TN)
              have K2 := Lib.hid (Kp.and (Kp.row hbx) (K1.out.later (hf.alloc (.cells #[.string (B x.path), .string (B x.data), .int .i64 x.ver, .int .i64 x.turn, .int .i64 x.own] TN))))
              clear hf hbx
              obtain ⟨y0, y1, y2, y3, y4⟩ := box5 K2.out.now.1
              obtain ⟨o0, o1, o2, o3, o4, o5⟩ := box6 K2.out.now.2.1.op
              go_wp2_with fail
              refine (HN1.out _).mono ?_
              rintro e w3 ⟨rfl, hf⟩
              have K4 := Lib.hid (K2.out.later hf)
              clear hf y0 y1 y2 y3 y4 o0 o1 o2 o3 o4 o5
              have HW2 := Lib.hid (show w.heap.size ≤ w2.heap.size by have h1 := HS01.out; have h2 := HS12.out; omega)
              have HW1 := Lib.hid (show w.heap.size + 2 ≤ w2.heap.size by have h1 := HS01.out; have h2 := HS12.out; omega)
              go_wp2_with fail
              refine (HF2.out _ K4.out.now.2.2.2).mono ?_
              rintro e w5 ⟨rfl, hf⟩
              have K5 := Lib.hid (K4.out.later (hf.alloc (.cells #[.string (B []), .string (B []), .int .i64 0, .int .i64 0, .int .i64 0] TN)))
              clear hf
              obtain ⟨o0, o1, o2, o3, o4, o5⟩ := box6 K5.out.now.2.1.op
              go_wp2_with fail
              refine (HPT.out _ K5.out.now.2.2.2).mono ?_
              rintro e w6 ⟨v6, rfl, ho, hf⟩
              have HO6 := Lib.hid (And.intro ho K5.out.now.2.1.sz)
              have K6 := Lib.hid (K5.out.later hf)
              clear ho hf o0 o1 o2 o3 o4 o5
              have hbr := K6.out.now.2.1
              have hfw := K6.out.now.2.2.1
              obtain ⟨r0, r1, r2, r3, r4⟩ := hbr.r
              have z0 := hbr.fz 0; have z1 := hbr.fz 1; have z2 := hbr.fz 2; have z3 := hbr.fz 3; have z4 := hbr.fz 4
              have HE := Lib.hid (And.intro hbr.res hfw)
              clear hbr hfw
              go_wp2
              have hw9 := set5 HE.out.1 (.int .i64 0) (.string (B q)) (.string ⟨#[]⟩) (.int .i64 0) (.slice none 0 0)
              have hfz := fp5 (S := Non) HE.out.2 (b := w.heap.size + 1) (.inr (by omega)) (.int .i64 0) (.string (B q)) (.string ⟨#[]⟩) (.int .i64 0) (.slice none 0 0)
              have hfk := fp5k HE.out.1 (.int .i64 0) (.string (B q)) (.string ⟨#[]⟩) (.int .i64 0) (.slice none 0 0)
              generalize (((((World.setCell _ _ _).setCell _ _).setCell _ _).setCell _ _).setCell _ _) = wz at *
              have s0 := cell_of_row _ (w.heap.size + 1) 0 _ _ _ hw9
              have s1 := cell_of_row _ (w.heap.size + 1) 1 _ _ _ hw9
              have s2 := cell_of_row _ (w.heap.size + 1) 2 _ _ _ hw9
              have s3 := cell_of_row _ (w.heap.size + 1) 3 _ _ _ hw9
              have s4 := cell_of_row _ (w.heap.size + 1) 4 _ _ _ hw9
              simp only [zA, zB, zC] at s0 s1 s2 s3 s4
              exact bodyPost_ret (v := .tuple #[v6, .agg #[.int .i64 0, .string (B q), .string ⟨#[]⟩, .int .i64 0, .slice none 0 0]]) (by simp [results, Tryz.results21, go_sem, s0, s1, s2, s3, s4]) rfl (⟨⟨v6, .slice none 0 0, rfl, HO6.out.1.ns.keep hfk (fun k hk e => by have h1 := (HO6.out.1.lt k hk).1; have h2 := HO6.out.2; omega), Own.nil _ _, fun k hk => .inr (by have h1 := (HO6.out.1.lt k hk).1; have h2 := HO6.out.2; omega)⟩, hfz⟩)
            | true =>
              have hpt := fun v' w' h1 h2 => rPut_c v' (l.set (place l u) { x with turn := x.turn + 1 }) ⟨q, d, 0, 0, ow⟩ w' h1 h2
              rw [put_new HT.out HX.out.2 HQN.out (x.turn + 1) ⟨q, d, 0, 0, ow⟩ rfl] at hpt
              have hpu := rPut_c (.slice ao l.length cap) l { x with turn := x.turn + 1 }
              rw [put_up HT.out HX.out.2 (x.turn + 1)] at hpu
              have hl2 : (l.set (place l u) { x with turn := x.turn + 1 }).length ≤ 2000 := by rw [List.length_set]; omega
              simp only [if_true] at hpt ⊢
              generalize hr : ins (l.set (place l u) { x with turn := x.turn + 1 }) (place l q) ⟨q, d, 0, 0, ow⟩ = R at *
              generalize hr2 : l.set (place l u) { x with turn := x.turn + 1 } = L2 at *
              have hlb : l.length ≤ 2000 := by omega
              obtain ⟨n, hnn⟩ : ∃ n, n = l.length := ⟨_, rfl⟩
              have HPU := Lib.hid (fun w' h => hpu w' h hlb)
              have HPT := Lib.hid (fun v' w' h1 => hpt v' w' h1 hl2)
              rw [← hnn] at HVV HF2 HF1 HF0 p0 p1 HPU ⊢
              clear HFD hnn hl hlm hpt hpu hlb hl2
              go_enter Tryz.func21, Tryz.ntmps21
              go_wp2_with fail
              refine (HPA.out _).mono ?_
              rintro e w1 ⟨rfl, g1⟩
              have K1 := Lib.hid (HF0.out.later g1.fp)
              have HS01 := Lib.hid (show w.heap.size + 2 ≤ w1.heap.size from K1.out.now.1.sz)
              clear g1
              go_wp2_with fail
              refine (HF1.out _ K1.out.now.2.2).mono ?_
              rintro e w2 ⟨rfl, hf⟩
              have HS12 := Lib.hid hf.size
              have hbx := heap_alloc_new w2 (.cells #[.string (B x.path), .string (B x.data), .int .i64 x.ver, .int .i64 x.turn, .int .i64 x.own] TN)
              have K2 := Lib.hid (Kp.and (Kp.row hbx) (K1.out.later (hf.alloc (.cells #[.string (B x.path), .string (B x.data), .int .i64 x.ver, .int .i64 x.turn, .int .i64 x.own] TN))))
              clear hf hbx
              obtain ⟨y0, y1, y2, y3, y4⟩ := box5 K2.out.now.1
              obtain ⟨o0, o1, o2, o3, o4, o5⟩ := box6 K2.out.now.2.1.op
              go_wp2_with fail
              refine (HN1.out _).mono ?_
              rintro e w3 ⟨rfl, hf⟩
              have K4 := Lib.hid (K2.out.later hf)
              clear hf y0 y1 y2 y3 y4 o0 o1 o2 o3 o4 o5
              have HW2 := Lib.hid (show w.heap.size ≤ w2.heap.size by have h1 := HS01.out; have h2 := HS12.out; omega)
              have HW1 := Lib.hid (show w.heap.size + 2 ≤ w2.heap.size by have h1 := HS01.out; have h2 := HS12.out; omega)
              go_wp2_with fail
              refine (HF2.out _ K4.out.now.2.2.2).mono ?_
              rintro e w5 ⟨rfl, hf⟩
              have K5 := Lib.hid (K4.out.later (hf.alloc (.cells #[.string (B []), .string (B []), .int .i64 0, .int .i64 0, .int .i64 0] TN)))
              clear hf
              obtain ⟨o0, o1, o2, o3, o4, o5⟩ := box6 K5.out.now.2.1.op
              obtain ⟨y0, y1, y2, y3, y4⟩ := box5 K5.out.now.1
              have fz := frozen_at K5.out.now.1
              have f3 := fz 3
              have hset := heap_setCell_same _ w2.heap.size 3 _ TN (.int .i64 (x.turn + 1)) K5.out.now.1
              have hlow : w.heap.size ≤ w2.heap.size := HW2.out
              have hfs : Fp (fun k => k = w2.heap.size) (w5.alloc (.cells #[.string (B []), .string (B []), .int .i64 0, .int .i64 0, .int .i64 0] TN)) ((w5.alloc (.cells #[.string (B []), .string (B []), .int .i64 0, .int .i64 0, .int .i64 0] TN)).setCell ⟨w2.heap.size, 3, none⟩ (.int .i64 (x.turn + 1))) := (Fp.refl (fun k => k = w2.heap.size) _).setCell (p := ⟨w2.heap.size, 3, none⟩) (.inl rfl) _
              have hfw := K5.out.now.2.2.1.setCell (p := ⟨w2.heap.size, 3, none⟩) (.inr hlow) (.int .i64 (x.turn + 1))
              have hns : Ns ((w5.alloc (.cells #[.string (B []), .string (B []), .int .i64 0, .int .i64 0, .int .i64 0] TN)).setCell ⟨w2.heap.size, 3, none⟩ (.int .i64 (x.turn + 1))) (.slice ao n cap) l := HVV.out.non hfw
              have hop := K5.out.now.2.1.keep hfs (fun k hk => .inr (by have := HW1.out; omega))
              obtain ⟨s0, s1, s2, s3, s4⟩ := box5 hset
              have K6 := Lib.hid (Kp.and (fun W' f => hop.non f : Kp (Bx w kk p d vv ow true) _) (Kp.and (Kp.fp hfw) (Kp.ns hns)))
              clear fz hset hlow hfs hfw hns hop
              go_wp2_with fail
              refine (HPU.out _ K6.out.now.2.2).mono ?_
              rintro e w6 ⟨v6, rfl, ho, hf⟩
              obtain ⟨a6, c6, rfl⟩ := ho.shape
              have K7 := Lib.hid (Kp.and (Kp.ns ho.ns) (K6.out.later hf))
              clear ho hf o0 o1 o2 o3 o4 o5 y0 y1 y2 y3 y4 s0 s1 s2 s3 s4
              obtain ⟨o0, o1, o2, o3, o4, o5⟩ := box6 K7.out.now.2.1.op
              go_wp2_with fail
              refine (HPT.out _ _ K7.out.now.1).mono ?_
              rintro e w7 ⟨v7, rfl, ho, hf⟩
              have HO7 := Lib.hid (And.intro ho K7.out.now.2.1.sz)
              have K8 := Lib.hid (K7.out.later hf)
              clear ho hf o0 o1 o2 o3 o4 o5
              have hbr := K8.out.now.2.1
              have hfw := K8.out.now.2.2.1
              obtain ⟨r0, r1, r2, r3, r4⟩ := hbr.r
              have z0 := hbr.fz 0; have z1 := hbr.fz 1; have z2 := hbr.fz 2; have z3 := hbr.fz 3; have z4 := hbr.fz 4
              have HE := Lib.hid (And.intro hbr.res hfw)
              clear hbr hfw
              go_wp2
              have hw9 := set5 HE.out.1 (.int .i64 0) (.string (B q)) (.string ⟨#[]⟩) (.int .i64 0) (.slice none 0 0)
              have hfz := fp5 (S := Non) HE.out.2 (b := w.heap.size + 1) (.inr (by omega)) (.int .i64 0) (.string (B q)) (.string ⟨#[]⟩) (.int .i64 0) (.slice none 0 0)
              have hfk := fp5k HE.out.1 (.int .i64 0) (.string (B q)) (.string ⟨#[]⟩) (.int .i64 0) (.slice none 0 0)
              generalize (((((World.setCell _ _ _).setCell _ _).setCell _ _).setCell _ _).setCell _ _) = wz at *
              have s0 := cell_of_row _ (w.heap.size + 1) 0 _ _ _ hw9
              have s1 := cell_of_row _ (w.heap.size + 1) 1 _ _ _ hw9
              have s2 := cell_of_row _ (w.heap.size + 1) 2 _ _ _ hw9
              have s3 := cell_of_row _ (w.heap.size + 1) 3 _ _ _ hw9
              have s4 := cell_of_row _ (w.heap.size + 1) 4 _ _ _ hw9
              simp only [zA, zB, zC] at s0 s1 s2 s3 s4
              exact bodyPost_ret (v := .tuple #[v7, .agg #[.int .i64 0, .string (B q), .string ⟨#[]⟩, .int .i64 0, .slice none 0 0]]) (by simp [results, Tryz.results21, go_sem, s0, s1, s2, s3, s4]) rfl (⟨⟨v7, .slice none 0 0, rfl, HO7.out.1.ns.keep hfk (fun k hk e => by have h1 := (HO7.out.1.lt k hk).1; have h2 := HO7.out.2; omega), Own.nil _ _, fun k hk => .inr (by have h1 := (HO7.out.1.lt k hk).1; have h2 := HO7.out.2; omega)⟩, hfz⟩)
    · rw [if_pos h0]
      have q0 : (x.own == 0) = false := beq_eq_false_iff_ne.2 h0
      have q1 : (x.own != 0) = true := by simpa using h0
      have q2 : (x.own = 0) = False := eq_false h0
      obtain ⟨n, hnn⟩ : ∃ n, n = l.length := ⟨_, rfl⟩
      rw [← hnn] at HVV HF1 HF0 ⊢
      clear h0 HFD HNM hnn
      go_enter Tryz.func21, Tryz.ntmps21
      go_wp2_with fail
      refine (HPA.out _).mono ?_
      rintro e w1 ⟨rfl, g1⟩
      have K1 := Lib.hid (HF0.out.later g1.fp)
      clear g1
      go_wp2_with fail
      refine (HF1.out _ K1.out.now.2.2).mono ?_
      rintro e w2 ⟨rfl, hf⟩
      have K2 := Lib.hid (K1.out.later (hf.alloc (.cells #[.string (B x.path), .string (B x.data), .int .i64 x.ver, .int .i64 x.turn, .int .i64 x.own] TN)))
      clear hf
      obtain ⟨y0, y1, y2, y3, y4⟩ := (NdAt.box w2 x).five
      have hbr := K2.out.now.1
      have hfw := K2.out.now.2.1
      obtain ⟨r0, r1, r2, r3, r4⟩ := hbr.r
      have z0 := hbr.fz 0; have z1 := hbr.fz 1; have z2 := hbr.fz 2; have z3 := hbr.fz 3; have z4 := hbr.fz 4
      have HE := Lib.hid (And.intro hbr.res hfw)
      clear hbr hfw
      go_wp2
      have hw9 := set5 HE.out.1 (.int .i64 65) (.string ⟨#[]⟩) (.string ⟨#[]⟩) (.int .i64 0) (.slice none 0 0)
      have hfz := fp5 (S := Non) HE.out.2 (b := w.heap.size + 1) (.inr (by omega)) (.int .i64 65) (.string ⟨#[]⟩) (.string ⟨#[]⟩) (.int .i64 0) (.slice none 0 0)
      have hfk := fp5k HE.out.1 (.int .i64 65) (.string ⟨#[]⟩) (.string ⟨#[]⟩) (.int .i64 0) (.slice none 0 0)
      generalize (((((World.setCell _ _ _).setCell _ _).setCell _ _).setCell _ _).setCell _ _) = wz at *
      have s0 := cell_of_row _ (w.heap.size + 1) 0 _ _ _ hw9
      have s1 := cell_of_row _ (w.heap.size + 1) 1 _ _ _ hw9
      have s2 := cell_of_row _ (w.heap.size + 1) 2 _ _ _ hw9
      have s3 := cell_of_row _ (w.heap.size + 1) 3 _ _ _ hw9
      have s4 := cell_of_row _ (w.heap.size + 1) 4 _ _ _ hw9
      simp only [zA, zB, zC] at s0 s1 s2 s3 s4
      exact bodyPost_ret (v := .tuple #[.slice ao n cap, .agg #[.int .i64 65, .string ⟨#[]⟩, .string ⟨#[]⟩, .int .i64 0, .slice none 0 0]]) (by simp [results, Tryz.results21, go_sem, s0, s1, s2, s3, s4]) rfl (res_badB (HVV.out.non hfz) hfz)
end Go.Proofs.YthaepjeikicigaaGreatDoor
