/- The document's Put (gen_kc.py) -/
import Derived.Test.YtcjpgenlhphapaaKb
namespace Go.Proofs.Ytcjpgenlhphapaa
set_option maxRecDepth 20000
set_option linter.unusedVariables false
set_option linter.unusedSimpArgs false
open Go.RowKit Pm


/-- Behind an append, since the world w. -/
structure ApX (lo : Nat) (w : World) (u : Value) (m : List Hl) (v' : Value) (w' : World) : Prop where
  own : OwH lo w' v' m
  fp : Fp (fun k => u.ownBlock = some k) w w'
theorem app_X (w : World) (lo : Nat) (u : Value) (l : List Hl) (ho : OwH lo w u l) (h6 : l.length ≤ 90000) (hlo : lo ≤ w.heap.size) (x : Hl) (W : World) (X : Nat) (ty : TypeId) (f : Fp Non w W) (hX : W.heap[X]? = some (.cells #[.string (B x.d), .int .i64 x.t, .int .i64 x.a] TH (0, 0))) :
    ∃ v' w', (Builtin.append_ #[TLH, TLH] ty #[u, .slice (some ⟨X, 0, none⟩) 1 1]).run Try.prog W = .ok v' w' ∧ ApX lo w u (l ++ [x]) v' w' := by
  obtain ⟨v', w', hr, h1, h2, h3⟩ := app_ownH W lo u l [x] ty ⟨X, 0, none⟩ 1 1 (ho.non f) rfl (fun i hi j c hc => by
    have hi0 : i = 0 := by simp at hi; omega
    subst hi0
    rw [Addr.add_lit, cell_of_row _ _ _ _ _ _ hX]
    have : (hlC x)[j]? = some c := hc
    simpa [hlC, strV] using this) (by simp; omega) (Nat.le_trans hlo f.size)
  exact ⟨v', w', hr, h1, f.any.grown h2 (fun k hk => .inl hk)⟩

/-- Ahead of a round of Put: what is there, and what comes. -/
structure PuI (l : List Hl) (x : Hl) (k : Nat) (d : Bool) (out : List Hl) : Prop where
  eq : out ++ (if d = true then l.drop k else putH (l.drop k) x) = putH l x
  gt : d = true → ∀ j (h : j < l.length), k ≤ j → lt x.d l[j].d = true
  len : out.length ≤ k + 1
theorem pu_done {l : List Hl} {x : Hl} {k : Nat} {out : List Hl} (h : PuI l x k true out) (hk : k < l.length) : PuI l x (k + 1) true (out ++ [l[k]]) ∧ lt x.d l[k].d = true := by
  refine ⟨⟨?_, fun hd j hj hkj => h.gt rfl j hj (by omega), by simp; have := h.len; omega⟩, h.gt rfl k hk (Nat.le_refl _)⟩
  have := h.eq
  rw [if_pos rfl, List.drop_eq_getElem_cons hk] at this
  rw [if_pos rfl, List.append_assoc]; exact this
theorem pu_less {l : List Hl} {x : Hl} {k : Nat} {out : List Hl} (h : PuI l x k false out) (hk : k < l.length) (c : lt l[k].d x.d = true) : PuI l x (k + 1) false (out ++ [l[k]]) := by
  refine ⟨?_, fun hd => (by cases hd), by simp; have := h.len; omega⟩
  have := h.eq
  rw [if_neg Bool.false_ne_true, List.drop_eq_getElem_cons hk] at this
  simp only [putH, if_pos c] at this
  rw [if_neg Bool.false_ne_true, List.append_assoc]; exact this
theorem pu_same {l : List Hl} {x : Hl} {k : Nat} {out : List Hl} (hu : UpH l) (h : PuI l x k false out) (hl : out.length ≤ k) (hk : k < l.length) (c : l[k].d = x.d) : PuI l x (k + 1) true (out ++ [x]) := by
  refine ⟨?_, fun _ j hj hkj => by rw [← c]; exact hu.at hk hj (by omega), by simp; omega⟩
  have := h.eq
  rw [if_neg Bool.false_ne_true, List.drop_eq_getElem_cons hk] at this
  simp only [putH, c, lt_irrefl, Bool.false_eq_true, if_false, if_true] at this
  rw [if_pos rfl, List.append_assoc]; exact this
theorem pu_more {l : List Hl} {x : Hl} {k : Nat} {out : List Hl} (hu : UpH l) (h : PuI l x k false out) (hk : k < l.length) (c : lt l[k].d x.d = false) (c2 : l[k].d ≠ x.d) (hl : out.length ≤ k) : PuI l x (k + 1) true (out ++ [x] ++ [l[k]]) := by
  have c3 : lt x.d l[k].d = true := lt_of c c2
  refine ⟨?_, fun _ j hj hkj => lt_trans c3 (hu.at hk hj (by omega)), by simp; omega⟩
  have := h.eq
  rw [if_neg Bool.false_ne_true, List.drop_eq_getElem_cons hk] at this
  simp only [putH, c, Bool.false_eq_true, if_false, c2] at this
  rw [if_pos rfl, List.append_assoc, List.append_assoc]; exact this
structure PuM (l : List Hl) (x : Hl) (W0 : World) (k : Nat) (u : Value) (d : Bool) (wr : World) : Prop where
  ex : ∃ out, OwH W0.heap.size wr u out ∧ PuI l x k d out ∧ (d = false → out.length ≤ k)
  fp : Fp Non W0 wr

set_option maxHeartbeats 8000000 in
theorem rPut_c (v : Value) (l : List Hl) (x : Hl) (w : World) (hv : NsH w v l) (hu : UpH l) (hn : l.length ≤ 80000) :
    Calls Try.prog 34 #[v, hlV x] w fun e w' => ∃ v', e = .returned v' ∧ NsH w' v' (putH l x) ∧ Fp Non w w' := by
  obtain ⟨xd, xt, xa⟩ := x
  obtain ⟨ao, cap, rfl⟩ := hv.shape
  obtain ⟨n, hnn⟩ : ∃ n, n = l.length := ⟨_, rfl⟩
  obtain ⟨W0, hW0⟩ : ∃ W, W = w.alloc (Obj.cells #[.string (B xd), .int .i64 xt, .int .i64 xa] TH) := ⟨_, rfl⟩
  have f0 : Fp Non w W0 := by rw [hW0]; exact fp_alloc w _
  have b0 : W0.heap[w.heap.size]? = some (.cells #[.string (B xd), .int .i64 xt, .int .i64 xa] TH (0, 0)) := by rw [hW0]; exact heap_alloc_new w _
  have HX := Lib.hid (And.intro hnn (And.intro hv hu))
  have H0 := Lib.hid (And.intro f0 b0)
  have hsz0 : W0.heap.size = w.heap.size + 1 := by rw [hW0]; simp
  have hnb : n ≤ 80000 := by omega
  rw [← hnn]
  have hI : Hid (PuM l ⟨xd, xt, xa⟩ W0 0 (.slice none 0 0) false W0) := ⟨⟨[], OwH.nil _ _, ⟨by simp, fun h => (by cases h), by simp⟩, fun _ => by simp⟩, Fp.refl _ _⟩
  unfold hlV strV
  have HSZ := Lib.hid hsz0
  clear hv hu hn hnn f0 b0 hsz0
  simp only
  go_enter Try.func34, Try.ntmps34
  go_wp2_with fail
  rw [← hW0]
  clear hW0
  go_loopw [5, 6, 7] (fun u d i wr => ∃ k : Nat, k ≤ n ∧ i = .int .i64 k ∧ ∃ b : Bool, d = .bool b ∧ Hid (PuM l ⟨xd, xt, xa⟩ W0 k u b wr)) (fun _ _ i _ => n - (RowKit.intOf i).toNat)
  case atStart => exact ⟨0, Nat.zero_le _, rfl, false, rfl, hI⟩
  case round =>
    clear hI
    obtain ⟨k, hk, rfl, b, rfl, hR⟩ := hrel
    rename_i wr _
    obtain ⟨out, hO, hI, hol⟩ := hR.out.ex
    have hfw := hR.out.fp
    have bx := hfw.heap H0.out.2 (fun h => h)
    have e0 : wr.cell? ⟨w.heap.size, 0, none⟩ = some (.string (B xd)) := by rw [cell_of_row _ _ _ _ _ _ bx]; rfl
    have e1 : wr.cell? ⟨w.heap.size, 1, none⟩ = some (.int .i64 xt) := by rw [cell_of_row _ _ _ _ _ _ bx]; rfl
    have e2 : wr.cell? ⟨w.heap.size, 2, none⟩ = some (.int .i64 xa) := by rw [cell_of_row _ _ _ _ _ _ bx]; rfl
    have HFW := Lib.hid (And.intro hfw bx)
    by_cases hlt : k < n
    · have hkl : k < l.length := by rw [← HX.out.1]; exact hlt
      obtain ⟨g, o, cap', e, _, _, _, hcell⟩ := HX.out.2.1.at (by omega)
      rw [← HX.out.1] at e
      injection e with e1' e2' e3'
      subst e1' e3'
      clear e2'
      have hnd := (hcell k hkl).keep (H0.out.1.then hfw) (fun h => h)
      have q5 : ((k : Int) < (n : Int)) = True := eq_true (by omega)
      have q6 : (k < n) = True := eq_true hlt
      have hol2 : out.length ≤ 80001 := by have := hI.len; omega
      have ha1 := fun x W X f h => app_X wr W0.heap.size _ out hO (by omega) hfw.size x W X TLH f h
      have hy1 : b = true → _ := fun h => pu_done (h ▸ hI) hkl
      have hy2 : b = false → lt l[k].d xd = true → _ := fun h c => pu_less (h ▸ hI) hkl c
      have hy3 : b = false → l[k].d = xd → _ := fun h c => pu_same HX.out.2.2 (h ▸ hI) (hol h) hkl c
      have hy4 : b = false → lt l[k].d xd = false → l[k].d ≠ xd → _ := fun h c c2 => pu_more HX.out.2.2 (h ▸ hI) hkl c c2 (hol h)
      obtain ⟨y, hy⟩ : ∃ y, y = l[k] := ⟨_, rfl⟩
      rw [← hy] at hnd hy1 hy2 hy3 hy4
      obtain ⟨yd, yt, ya⟩ := y
      have c0 := hnd.c0; have c1 := hnd.c1; have c2 := hnd.c2
      unfold strV at c0
      simp only at c0 c1 c2 hy1 hy2 hy3 hy4
      have HA := Lib.hid (And.intro ha1 (And.intro hO (And.intro hol hol2)))
      have HY := Lib.hid (And.intro hy1 (And.intro hy2 (And.intro hy3 hy4)))
      have HK := Lib.hid hlt
      have HND := Lib.hid hnd
      have hgw : g < w.heap.size := by assumption
      have HB0 := Lib.hid (show w.heap.size < W0.heap.size ∧ g < W0.heap.size by have := HSZ.out; omega)
      have hszn := szNH
      clear hcell hy hnd ha1 hy1 hy2 hy3 hy4 hI hO hol hol2 hlt hR hfw bx hkl
      cases b with
      | true =>
        obtain ⟨hP, hgt⟩ := HY.out.1 (by trivial)
        have q7 : (yd == xd) = false := beq_eq_false_iff_ne.2 (fun e => by rw [e, lt_irrefl] at hgt; cases hgt)
        have q8 : (yd != xd) = true := by simp [bne, q7]
        have HP := Lib.hid hP
        clear hP hgt
        go_wp2_with fail
        go_quiet (fail)
        go_wp2_with fail
        go_quiet (fail)
        go_wp2_with (at_builtin; go_must (refine wpList_app rfl _ _ _ _ rfl _ _ rfl rfl (ApX W0.heap.size wr u5 (out ++ [(⟨yd, yt, ya⟩ : Hl)])) (HA.out.1 ⟨yd, yt, ya⟩ _ _ (((Fp.refl Non wr).drewN _).alloc _) (heap_alloc_new (World.drewN wr _) _)) ?_))
        intro v2 w2 hR2
        have hM := Lib.hid (show PuM l ⟨xd, xt, xa⟩ W0 (k + 1) v2 true w2 from ⟨⟨_, hR2.own, HP.out, fun h => by cases h⟩, HFW.out.1.trans hR2.fp (fun j hj => .inr (HA.out.2.1.low j hj))⟩)
        have hkn := HK.out
        clear hR2
        go_wp2
        go_roundw
        case rel => exact ⟨k + 1, by omega, by go_num, true, rfl, hM⟩
        case measure => simp [RowKit.intOf]; omega
      | false =>
        cases hc : lt yd xd with
        | true =>
          have hP := HY.out.2.1 (by trivial) hc
          have q7 : (yd == xd) = false := beq_eq_false_iff_ne.2 (lt_ne hc)
          have q8 : (yd != xd) = true := by simp [bne, q7]
          have q9 : Op.bytesLess yd xd = true := hc
          have HP := Lib.hid hP
          have HOL := Lib.hid (HA.out.2.2.1 (by trivial))
          clear hP hc
          go_wp2_with fail
          go_quiet (fail)
          go_wp2_with fail
          go_quiet (fail)
          go_wp2_with (at_builtin; go_must (refine wpList_app rfl _ _ _ _ rfl _ _ rfl rfl (ApX W0.heap.size wr u5 (out ++ [(⟨yd, yt, ya⟩ : Hl)])) (HA.out.1 ⟨yd, yt, ya⟩ _ _ (((Fp.refl Non wr).drewN _).alloc _) (heap_alloc_new (World.drewN wr _) _)) ?_))
          intro v2 w2 hR2
          have hM := Lib.hid (show PuM l ⟨xd, xt, xa⟩ W0 (k + 1) v2 false w2 from ⟨⟨_, hR2.own, HP.out, fun _ => by have := HOL.out; simp; omega⟩, HFW.out.1.trans hR2.fp (fun j hj => .inr (HA.out.2.1.low j hj))⟩)
          have hkn := HK.out
          clear hR2
          go_wp2
          go_roundw
          case rel => exact ⟨k + 1, by omega, by go_num, false, rfl, hM⟩
          case measure => simp [RowKit.intOf]; omega
        | false =>
          have q9 : Op.bytesLess yd xd = false := hc
          by_cases hd : yd = xd
          · have hP := HY.out.2.2.1 (by trivial) hd
            have q7 : (yd == xd) = true := beq_iff_eq.2 hd
            have q8 : (yd != xd) = false := by simp [bne, q7]
            have HP := Lib.hid hP
            clear hP hc hd
            go_wp2_with fail
            go_quiet (fail)
            go_wp2_with (at_builtin; go_must (refine wpList_app rfl _ _ _ _ rfl _ _ rfl rfl (ApX W0.heap.size wr u5 (out ++ [(⟨xd, xt, xa⟩ : Hl)])) (HA.out.1 ⟨xd, xt, xa⟩ _ _ (((Fp.refl Non wr).drewN _).alloc _) (heap_alloc_new (World.drewN wr _) _)) ?_))
            intro v2 w2 hR2
            have hM := Lib.hid (fun W (f : Fp Non w2 W) => (show PuM l ⟨xd, xt, xa⟩ W0 (k + 1) v2 true W from ⟨⟨_, hR2.own.non f, HP.out, fun h => by cases h⟩, (HFW.out.1.trans hR2.fp (fun j hj => .inr (HA.out.2.1.low j hj))).then f⟩))
            have hf2 : Fp (fun k => u5.ownBlock = some k) wr w2 := hR2.fp
            have hlow : ∀ j, u5.ownBlock = some j → W0.heap.size ≤ j := fun j hj => HA.out.2.1.low j hj
            have hyc := HND.out.keep hf2 (fun h => by have := hlow _ h; have := HB0.out.2; omega)
            have bx2 := hf2.heap HFW.out.2 (fun h => by have := hlow _ h; have := HB0.out.1; omega)
            have g0 : w2.cell? ⟨w.heap.size, 0, none⟩ = some (.string (B xd)) := by rw [cell_of_row _ _ _ _ _ _ bx2]; rfl
            have y0 := hyc.c0
            unfold strV at y0
            simp only at y0
            have hkn := HK.out
            clear hR2 hf2 hlow hyc bx2 c0 e0
            go_wp2_with fail
            go_quiet (fail)
            go_wp2
            go_roundw
            case rel => exact ⟨k + 1, by omega, by go_num, true, rfl, hM.out _ (by first | exact Fp.refl _ _ | exact (Fp.refl _ _).drew | exact (Fp.refl _ _).drewN _)⟩
            case measure => simp [RowKit.intOf]; omega
          · have hP := HY.out.2.2.2 (by trivial) hc hd
            have q7 : (yd == xd) = false := beq_eq_false_iff_ne.2 hd
            have q8 : (yd != xd) = true := by simp [bne, q7]
            have HP := Lib.hid hP
            clear hP hc hd
            go_wp2_with fail
            go_quiet (fail)
            go_wp2_with (at_builtin; go_must (refine wpList_app rfl _ _ _ _ rfl _ _ rfl rfl (ApX W0.heap.size wr u5 (out ++ [(⟨xd, xt, xa⟩ : Hl)])) (HA.out.1 ⟨xd, xt, xa⟩ _ _ (((Fp.refl Non wr).drewN _).alloc _) (heap_alloc_new (World.drewN wr _) _)) ?_))
            intro v2 w2 hR2
            have HF2 := Lib.hid (HFW.out.1.trans hR2.fp (fun j hj => .inr (HA.out.2.1.low j hj)))
            have hf2 : Fp (fun k => u5.ownBlock = some k) wr w2 := hR2.fp
            have hlow : ∀ j, u5.ownBlock = some j → W0.heap.size ≤ j := fun j hj => HA.out.2.1.low j hj
            have hyc := HND.out.keep hf2 (fun h => by have := hlow _ h; have := HB0.out.2; omega)
            have bx2 := hf2.heap HFW.out.2 (fun h => by have := hlow _ h; have := HB0.out.1; omega)
            have g0 : w2.cell? ⟨w.heap.size, 0, none⟩ = some (.string (B xd)) := by rw [cell_of_row _ _ _ _ _ _ bx2]; rfl
            have y0 := hyc.c0; have y1 := hyc.c1; have y2 := hyc.c2
            unfold strV at y0
            simp only at y0 y1 y2
            have ha2 := fun x W X f h => app_X w2 W0.heap.size _ _ hR2.own (by have := HA.out.2.2.2; simp; omega) HF2.out.size x W X TLH f h
            have HA2 := Lib.hid (And.intro ha2 hR2.own)
            have hkn := HK.out
            clear hR2 hf2 hlow hyc bx2 ha2 c0 c1 c2 e0 e1 e2
            go_wp2_with fail
            go_quiet (fail)
            go_wp2_with (at_builtin; go_must (refine wpList_app rfl _ _ _ _ rfl _ _ rfl rfl (ApX W0.heap.size w2 v2 (out ++ [(⟨xd, xt, xa⟩ : Hl)] ++ [(⟨yd, yt, ya⟩ : Hl)])) (HA2.out.1 ⟨yd, yt, ya⟩ _ _ (((Fp.refl Non w2).drewN _).alloc _) (heap_alloc_new (World.drewN w2 _) _)) ?_))
            intro v3 w3 hR3
            have hM := Lib.hid (show PuM l ⟨xd, xt, xa⟩ W0 (k + 1) v3 true w3 from ⟨⟨_, hR3.own, (by first | exact HP.out | (rw [List.append_cons]; exact HP.out)), fun h => by cases h⟩, HF2.out.trans hR3.fp (fun j hj => .inr (HA2.out.2.low j hj))⟩)
            clear hR3
            go_wp2
            go_roundw
            case rel => exact ⟨k + 1, by omega, by go_num, true, rfl, hM⟩
            case measure => simp [RowKit.intOf]; omega
    · have hke : k = n := by omega
      subst hke
      have q5 : ((k : Int) < (k : Int)) = False := eq_false (by omega)
      have hdr : l.drop k = [] := List.drop_of_length_le (by have := HX.out.1; omega)
      have heq := hI.eq
      rw [hdr] at heq
      have hol2 : out.length ≤ 80001 := by have := hI.len; omega
      have ha1 := fun x W X f h => app_X wr W0.heap.size _ out hO (by omega) hfw.size x W X TLH f h
      have HA := Lib.hid (And.intro ha1 hO)
      clear ha1 hO hI hol hol2 hdr hfw bx hlt hk hR
      cases b with
      | true =>
        have HE := Lib.hid (show out = putH l ⟨xd, xt, xa⟩ by rw [if_pos rfl, List.append_nil] at heq; exact heq)
        clear heq
        go_wp2
        go_ret
        exact ⟨_, rfl, by rw [← HE.out]; exact HA.out.2.ns, H0.out.1.then HFW.out.1⟩
      | false =>
        have HE := Lib.hid (show out ++ [⟨xd, xt, xa⟩] = putH l ⟨xd, xt, xa⟩ by rw [if_neg Bool.false_ne_true] at heq; exact heq)
        clear heq
        go_wp2_with (at_builtin; go_must (refine wpList_app rfl _ _ _ _ rfl _ _ rfl rfl (ApX W0.heap.size wr u5 (out ++ [(⟨xd, xt, xa⟩ : Hl)])) (HA.out.1 ⟨xd, xt, xa⟩ _ _ (fp_alloc wr _) (heap_alloc_new wr _)) ?_))
        intro v2 w2 hR2
        have HN := Lib.hid (And.intro hR2.own.ns (H0.out.1.then (HFW.out.1.trans hR2.fp (fun j hj => .inr (HA.out.2.low j hj)))))
        clear hR2
        go_wp2
        go_ret
        exact ⟨_, rfl, by rw [← HE.out]; exact HN.out.1, HN.out.2⟩
end Go.Proofs.Ytcjpgenlhphapaa
