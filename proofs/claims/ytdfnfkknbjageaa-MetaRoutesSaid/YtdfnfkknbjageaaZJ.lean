/- Texts of this proof, merged. -/
import Derived.Test.YtdfnfkknbjageaaZI
import Derived.Test.YtdfnfkknbjageaaZB
set_option linter.unusedVariables false
set_option linter.unusedSimpArgs false
/- mounts.Begin (gen_be.py) -/
namespace Go.Proofs.Ytdfnfkknbjageaa
set_option maxRecDepth 20000
set_option linter.unusedVariables false
set_option linter.unusedSimpArgs false
open Go.RowKit Pm


/-- What Begin answers. -/
structure BgR (w : World) (b : Bg) (e : Ending) (w' : World) : Prop where
  ex : ∃ v', e = .returned (.tuple #[v', mtV b.m, .int .i64 b.e]) ∧ NsM w' v' b.l
  fp : Fp Non w w'
theorem BxM.set {W : World} {b : Nat} {z : Mt} (h : BxM W b z) (x : Mt) :
    BxM ((((W.setCell ⟨b, 0, none⟩ (.string (B x.d))).setCell ⟨b, 1, none⟩ (.int .i64 x.g)).setCell ⟨b, 2, none⟩ (.int .i64 x.e)).setCell ⟨b, 3, none⟩ (.int .i64 x.t)) b x := by
  unfold BxM at h ⊢
  have h1 := heap_setCell_same W b 0 _ TM (.string (B x.d)) h
  have h2 := heap_setCell_same _ b 1 _ TM (.int .i64 x.g) h1
  have h3 := heap_setCell_same _ b 2 _ TM (.int .i64 x.e) h2
  have h4 := heap_setCell_same _ b 3 _ TM (.int .i64 x.t) h3
  rw [h4]; simp
theorem BxM.fz {W : World} {b : Nat} {z : Mt} (h : BxM W b z) (o : Nat) : W.frozen? ⟨b, o, none⟩ = false := by unfold BxM at h; simp [World.frozen?, h]
theorem fp_set4 {a W : World} (f : Fp Non a W) {b : Nat} (hb : a.heap.size ≤ b) (v0 v1 v2 v3 : Value) :
    Fp Non a ((((W.setCell ⟨b, 0, none⟩ v0).setCell ⟨b, 1, none⟩ v1).setCell ⟨b, 2, none⟩ v2).setCell ⟨b, 3, none⟩ v3) := fp_putM (S := Non) f (.inr hb) 0 v0 v1 v2 v3
theorem bgn_no {l : List Mt} {p : Bs} {to : Int} (h : mayM l p to = false) : bgn l p to = ⟨[], mt0, 1⟩ := by unfold bgn; rw [if_neg (by rw [h]; exact Bool.false_ne_true)]
theorem bgn_again {l : List Mt} {p : Bs} {to : Int} {y : Mt} (h : mayM l p to = true) (hy : getM l p = some y) (hm : mvM y = true) (ht : y.t = to) : bgn l p to = ⟨l, y, 0⟩ := by
  unfold bgn; rw [if_pos h, hy]; simp only; rw [if_pos ⟨hm, ht⟩]
theorem bgn_new {l : List Mt} {p : Bs} {to : Int} (h : mayM l p to = true) (hn : ∀ y, getM l p = some y → ¬ (mvM y = true ∧ y.t = to)) : bgn l p to = if rfs l p to = 0 then ⟨putM l (newM l p to), newM l p to, 0⟩ else ⟨l, mt0, rfs l p to⟩ := by
  unfold bgn
  rw [if_pos h]
  cases e : getM l p with
  | none => rfl
  | some y => simp only; rw [if_neg (hn y e)]

set_option maxHeartbeats 8000000 in
theorem Begin_c (v : Value) (l : List Mt) (p : Bs) (to : Int) (w : World) (hv : NsM w v l) (hs : SzM l) (hp : p.length ≤ 140737488355328) :
    Calls Try.prog 42 #[v, .string (B p), .int .i64 to] w fun e w' => BgR w (bgn l p to) e w' := by
  have hmy := fun W (f : Fp Non w W) => may_c v l p to W (hv.non f) hs hp
  have hex := fun W (f : Fp Non w W) => exact_c v l p W (hv.non f) hs.p hs.n
  have hrf := fun W (f : Fp Non w W) (h : mayM l p to = true) => refusal_c v l p to W (hv.non f) hs hp ((right_ifft l).1 (by unfold mayM at h; simp only [Bool.and_eq_true] at h; exact h.1.1)) (by unfold mayM at h; simp only [Bool.and_eq_true] at h; exact h.1.2)
  have hmo := fun W (f : Fp Non w W) => mountOf_c v l p W (hv.non f) hs.n hs.p hp
  have hpk : mayM l p to = true → RtM l ∧ ∃ k, ∃ hk : k < l.length, bk l p l.length = some k ∧ newM l p to = ⟨p, (l[k]).g, (l[k]).e, to⟩ := fun h => by
    unfold mayM at h; simp only [Bool.and_eq_true] at h
    obtain ⟨k, hk, h1, _, h2⟩ := pick_yes ((right_ifft l).1 h.1.1) h.1.2
    exact ⟨(right_ifft l).1 h.1.1, k, hk, h1, by unfold newM; rw [h2]⟩
  have hwi := fun W x (f : Fp Non w W) (h : RtM l) (hx : x.d = p) => with_c v l x W (hv.non f) h.up h.pos h.len hs.p (by rw [hx]; exact hp)
  have hnsw := fun W (f : Fp Non w W) => hv.non f
  obtain ⟨r, hr⟩ : ∃ r, bgn l p to = r := ⟨_, rfl⟩
  have hno := bgn_no (l := l) (p := p) (to := to)
  have hag := fun y => bgn_again (l := l) (p := p) (to := to) (y := y)
  have hnew := bgn_new (l := l) (p := p) (to := to)
  rw [hr] at hno hnew ⊢
  simp only [hr] at hag
  obtain ⟨er, her⟩ : ∃ er, rfs l p to = er := ⟨_, rfl⟩
  rw [her] at hrf hnew
  obtain ⟨my, hmm⟩ : ∃ b, mayM l p to = b := ⟨_, rfl⟩
  rw [hmm] at hmy hno hnew hpk hrf
  simp only [hmm] at hag
  obtain ⟨n, hn⟩ : ∃ n, n = l.length := ⟨_, rfl⟩
  obtain ⟨ao, cap, rfl⟩ := hv.shape
  have HAT := Lib.hid (fun k (hk : k < l.length) => (show ∃ g o, ao = some ⟨g, o, none⟩ ∧ NdAtM w g (o + k * 4) l[k] from by
    obtain ⟨g, o, cap', e, _, _, _, hcell⟩ := hv.at (by omega)
    injection e with e1 _ _
    exact ⟨g, o, e1, hcell k hk⟩))
  have hnb : n ≤ 140737488355328 := by have := hs.n; omega
  rw [← hn] at hmy hex hrf hmo hwi hnsw ⊢
  have HN := Lib.hid (And.intro hn hnsw)
  have HMY := Lib.hid hmy
  have HEX := Lib.hid hex
  have HRF := Lib.hid hrf
  have HMO := Lib.hid hmo
  have HWI := Lib.hid hwi
  have HPK := Lib.hid hpk
  have HNO := Lib.hid hno
  have HAG := Lib.hid hag
  have HNEW := Lib.hid hnew
  have hz : BxM (w.alloc (.cells #[.string ⟨#[]⟩, .int .i64 0, .int .i64 0, .int .i64 0] TM)) w.heap.size mt0 := BxM.new w mt0
  have H0 := Lib.hid (And.intro (fp_alloc w (.cells #[.string ⟨#[]⟩, .int .i64 0, .int .i64 0, .int .i64 0] TM)) hz)
  clear hmy hex hrf hmo hwi hpk hno hag hnew hz hnsw hv hs hp hr hn hmm her
  go_enter Try.func42, Try.ntmps42
  go_wp2_with fail
  refine (HMY.out _ H0.out.1).mono ?_
  rintro e w1 ⟨rfl, hf⟩
  have K1 := Lib.hid (And.intro (H0.out.1.then hf) (H0.out.2.non hf))
  clear hf H0
  cases my with
  | false =>
    have HE := Lib.hid (HNO.out (by first | rfl | trivial))
    have zz := K1.out.2.at
    have z0 : _ = some (Value.string ⟨#[]⟩) := zz.1; have z1 : _ = some (Value.int .i64 0) := zz.2.1; have z2 : _ = some (Value.int .i64 0) := zz.2.2.1; have z3 : _ = some (Value.int .i64 0) := zz.2.2.2
    have y0 := K1.out.2.fz 0; have y1 := K1.out.2.fz 1; have y2 := K1.out.2.fz 2; have y3 := K1.out.2.fz 3
    clear zz
    have HS := Lib.hid (show BxM ((((World.setCell w1 ⟨w.heap.size, 0, none⟩ (Value.string ⟨#[]⟩)).setCell ⟨w.heap.size, 1, none⟩ (Value.int .i64 0)).setCell ⟨w.heap.size, 2, none⟩ (Value.int .i64 0)).setCell ⟨w.heap.size, 3, none⟩ (Value.int .i64 0)) w.heap.size mt0 ∧ Fp Non w ((((World.setCell w1 ⟨w.heap.size, 0, none⟩ (Value.string ⟨#[]⟩)).setCell ⟨w.heap.size, 1, none⟩ (Value.int .i64 0)).setCell ⟨w.heap.size, 2, none⟩ (Value.int .i64 0)).setCell ⟨w.heap.size, 3, none⟩ (Value.int .i64 0)) from ⟨K1.out.2.set mt0, fp_set4 K1.out.1 (b := w.heap.size) (Nat.le_refl _) (Value.string ⟨#[]⟩) (Value.int .i64 0) (Value.int .i64 0) (Value.int .i64 0)⟩)
    go_wp2_with fail
    generalize ((((World.setCell w1 _ _).setCell _ _).setCell _ _).setCell _ _) = wz at *
    have ss := HS.out.1.at
    have s0 : _ = some (Value.string ⟨#[]⟩) := ss.1; have s1 : _ = some (Value.int .i64 0) := ss.2.1; have s2 : _ = some (Value.int .i64 0) := ss.2.2.1; have s3 : _ = some (Value.int .i64 0) := ss.2.2.2
    exact bodyPost_ret (v := .tuple #[(.slice none 0 0), .agg #[(Value.string ⟨#[]⟩), (Value.int .i64 0), (Value.int .i64 0), (Value.int .i64 0)], .int .i64 1]) (by simp [results, Try.results42, go_sem, s0, s1, s2, s3]) rfl (by rw [HE.out]; exact ⟨⟨_, rfl, NsM.nil _⟩, HS.out.2⟩)
  | true =>
  obtain ⟨hrt, k, hk, hbk, hnw⟩ := HPK.out (by first | rfl | trivial)
  obtain ⟨g0, o0, hao, hyk⟩ := HAT.out k hk
  subst hao
  have hmk := HMO.out
  rw [HN.out.1, hbk, ← HN.out.1] at hmk
  have HMK := Lib.hid hmk
  have hwx := fun W (f : Fp Non w W) => HWI.out W ⟨p, (l[k]).g, (l[k]).e, to⟩ f hrt rfl
  obtain ⟨y, hy⟩ : ∃ y, y = l[k] := ⟨_, rfl⟩
  rw [← hy] at hnw hyk hwx
  unfold mtV strV at hwx
  simp only at hwx
  have HWX := Lib.hid hwx
  have HY := Lib.hid hyk
  have hkn : k < n := by rw [HN.out.1]; exact hk
  have q1 : ((k : Int) < (n : Int)) = True := eq_true (by omega)
  have q2 : (k < n) = True := eq_true hkn
  have hkb : k ≤ 140737488355328 := by omega
  clear hmk hwx hyk hy hbk hrt hkn HPK HMO HWI hk
  go_wp2_with fail
  refine (HEX.out _ K1.out.1).mono ?_
  rintro e w2 ⟨rfl, hf⟩
  have K2 := Lib.hid (And.intro (K1.out.1.then hf) (K1.out.2.non hf))
  clear hf
  cases hex : exM l p with
  | none =>
    have HNW := Lib.hid (HNEW.out (by first | rfl | trivial) (fun y h => by rw [exM_no hex] at h; cases h))
    simp only [idx]
    clear HAG HNEW hex
    go_wp2_with fail
    refine (HRF.out _ K2.out.1 (by first | rfl | trivial)).mono ?_
    rintro e w5 ⟨rfl, hf⟩
    have K5 := Lib.hid (And.intro (K2.out.1.then hf) (K2.out.2.non hf))
    clear hf
    by_cases h0 : er = 0
    · subst h0
      have HE := Lib.hid (show r = ⟨putM l ⟨p, y.g, y.e, to⟩, ⟨p, y.g, y.e, to⟩, 0⟩ from by rw [HNW.out, if_pos rfl, hnw])
      go_wp2_with fail
      refine (HMK.out _ K5.out.1).mono ?_
      rintro e w6 ⟨rfl, hf⟩
      simp only [idx]
      have K6 := Lib.hid (And.intro (K5.out.1.then hf) (K5.out.2.non hf))
      have hnd := HY.out.keep K6.out.1 (fun h => h)
      have c0 := hnd.c0; have c1 := hnd.c1; have c2 := hnd.c2; have c3 := hnd.c3
      unfold strV at c0
      clear hf hnd
      go_wp2_with fail
      generalize hW7 : World.alloc w6 _ = w7
      have hb7 : BxM w7 w6.heap.size ⟨p, y.g, y.e, to⟩ := by rw [← hW7]; exact BxM.new w6 ⟨p, y.g, y.e, to⟩
      have hf7 : Fp Non w w7 := by rw [← hW7]; exact K6.out.1.then (fp_alloc w6 _)
      have hz7 : BxM w7 w.heap.size mt0 := by rw [← hW7]; exact K6.out.2.non (fp_alloc w6 _)
      have hlt6 := K6.out.2.lt
      have K7 := Lib.hid (And.intro (hf7.drew) (And.intro (hz7.non (Fp.refl Non w7).drew) (And.intro (hb7.non (Fp.refl Non w7).drew) hlt6)))
      clear hW7 hb7 hf7 hz7 c0 c1 c2 c3 hlt6
      refine wp_region_held_drew (S := (fun w' => w'.cell? ⟨w6.heap.size, 0, none⟩ = some (.string (B p)) ∧ w'.cell? ⟨w6.heap.size, 1, none⟩ = some (.int .i64 y.g) ∧ w'.cell? ⟨w6.heap.size, 2, none⟩ = some (.int .i64 y.e) ∧ w'.cell? ⟨w6.heap.size, 3, none⟩ = some (.int .i64 to))) (by kernel_rfl) ?_ (fun hHeld => ?_)
      · exact K7.out.2.2.1.at
      try simp only [zP, zN, zS, zT, zU]
      refine tkt 0 hHeld ?_
      refine tkt 1 hHeld ?_
      refine tkt 3 hHeld ?_
      refine rY 2 (fun K hK => ?_)
      go_simp
      go_at_call 62
      refine (HWX.out _ K7.out.1).mono ?_
      intro e w8 hM
      obtain ⟨v8, rfl, hN8, hnew8⟩ := hM.ex
      have K8 := Lib.hid (And.intro (K7.out.1.then hM.fp) (And.intro (K7.out.2.1.non hM.fp) (And.intro (K7.out.2.2.1.non hM.fp) (And.intro hN8 (fun k hk => by have h1 := hnew8 k hk; have h2 := K7.out.2.1.lt; omega : ∀ k, v8.ownBlock = some k → k ≠ w.heap.size)))))
      clear hM hN8 hnew8
      go_wp2_with fail
      refine hK.out _ _ K8.out.2.2.1.at (fun hHeld => ?_)
      clear hK K
      try simp only [zP, zN, zS, zT, zU]
      refine tkt 4 hHeld ?_
      have zz := K8.out.2.1.at
      have z0 : _ = some (Value.string ⟨#[]⟩) := zz.1; have z1 : _ = some (Value.int .i64 0) := zz.2.1; have z2 : _ = some (Value.int .i64 0) := zz.2.2.1; have z3 : _ = some (Value.int .i64 0) := zz.2.2.2
      have y0 := K8.out.2.1.fz 0; have y1 := K8.out.2.1.fz 1; have y2 := K8.out.2.1.fz 2; have y3 := K8.out.2.1.fz 3
      clear zz
      have HS := Lib.hid (show BxM ((((World.setCell w8 ⟨w.heap.size, 0, none⟩ (Value.string (B p))).setCell ⟨w.heap.size, 1, none⟩ (Value.int .i64 y.g)).setCell ⟨w.heap.size, 2, none⟩ (Value.int .i64 y.e)).setCell ⟨w.heap.size, 3, none⟩ (Value.int .i64 to)) w.heap.size ⟨p, y.g, y.e, to⟩ ∧ Fp Non w ((((World.setCell w8 ⟨w.heap.size, 0, none⟩ (Value.string (B p))).setCell ⟨w.heap.size, 1, none⟩ (Value.int .i64 y.g)).setCell ⟨w.heap.size, 2, none⟩ (Value.int .i64 y.e)).setCell ⟨w.heap.size, 3, none⟩ (Value.int .i64 to)) from ⟨K8.out.2.1.set ⟨p, y.g, y.e, to⟩, fp_set4 K8.out.1 (b := w.heap.size) (Nat.le_refl _) (Value.string (B p)) (Value.int .i64 y.g) (Value.int .i64 y.e) (Value.int .i64 to)⟩)
      have hN9 := Lib.hid (show NsM ((((World.setCell w8 ⟨w.heap.size, 0, none⟩ (Value.string (B p))).setCell ⟨w.heap.size, 1, none⟩ (Value.int .i64 y.g)).setCell ⟨w.heap.size, 2, none⟩ (Value.int .i64 y.e)).setCell ⟨w.heap.size, 3, none⟩ (Value.int .i64 to)) v8 (putM l ⟨p, y.g, y.e, to⟩) from K8.out.2.2.2.1.keep (S := fun k => k = w.heap.size) (fp_putM (S := fun k => k = w.heap.size) (Fp.refl _ w8) (.inl rfl) 0 _ _ _ _) (fun k hk e => K8.out.2.2.2.2 k hk e))
      have HB9 := Lib.hid (show BxM ((((World.setCell w8 ⟨w.heap.size, 0, none⟩ (Value.string (B p))).setCell ⟨w.heap.size, 1, none⟩ (Value.int .i64 y.g)).setCell ⟨w.heap.size, 2, none⟩ (Value.int .i64 y.e)).setCell ⟨w.heap.size, 3, none⟩ (Value.int .i64 to)) w6.heap.size ⟨p, y.g, y.e, to⟩ from (fp_putM (S := fun k => k = w.heap.size) (Fp.refl _ w8) (.inl rfl) 0 _ _ _ _).heap K8.out.2.2.1 (fun e => by have h := K7.out.2.2.2; have e : w6.heap.size = w.heap.size := e; omega))
      refine rY 5 (fun K hK => ?_)
      go_simp
      refine hK.out _ _ HB9.out.at (fun hHeld => ?_)
      clear hK K
      try simp only [zP, zN, zS, zT, zU]
      refine tkt 6 hHeld ?_
      refine yD ?_
      clear z0 z1 z2 z3 y0 y1 y2 y3
      generalize ((((World.setCell w8 _ _).setCell _ _).setCell _ _).setCell _ _) = wz at *
      go_wp2_with fail
      have ss := HS.out.1.at
      have s0 : _ = some (Value.string (B p)) := ss.1; have s1 : _ = some (Value.int .i64 y.g) := ss.2.1; have s2 : _ = some (Value.int .i64 y.e) := ss.2.2.1; have s3 : _ = some (Value.int .i64 to) := ss.2.2.2
      exact bodyPost_ret (v := .tuple #[v8, .agg #[(Value.string (B p)), (Value.int .i64 y.g), (Value.int .i64 y.e), (Value.int .i64 to)], .int .i64 0]) (by simp [results, Try.results42, go_sem, s0, s1, s2, s3]) rfl (by rw [HE.out]; exact ⟨⟨_, rfl, hN9.out⟩, HS.out.2⟩)
    have q20 : (er == 0) = false := beq_eq_false_iff_ne.2 h0
    have q21 : (er = 0) = False := eq_false h0
    have q22 : (er != 0) = true := by simp [bne, q20]
    have HE := Lib.hid (show r = ⟨l, mt0, er⟩ from by rw [HNW.out, if_neg h0])
    clear h0
    have zz := K5.out.2.at
    have z0 : _ = some (Value.string ⟨#[]⟩) := zz.1; have z1 : _ = some (Value.int .i64 0) := zz.2.1; have z2 : _ = some (Value.int .i64 0) := zz.2.2.1; have z3 : _ = some (Value.int .i64 0) := zz.2.2.2
    have y0 := K5.out.2.fz 0; have y1 := K5.out.2.fz 1; have y2 := K5.out.2.fz 2; have y3 := K5.out.2.fz 3
    clear zz
    have HS := Lib.hid (show BxM ((((World.setCell w5 ⟨w.heap.size, 0, none⟩ (Value.string ⟨#[]⟩)).setCell ⟨w.heap.size, 1, none⟩ (Value.int .i64 0)).setCell ⟨w.heap.size, 2, none⟩ (Value.int .i64 0)).setCell ⟨w.heap.size, 3, none⟩ (Value.int .i64 0)) w.heap.size mt0 ∧ Fp Non w ((((World.setCell w5 ⟨w.heap.size, 0, none⟩ (Value.string ⟨#[]⟩)).setCell ⟨w.heap.size, 1, none⟩ (Value.int .i64 0)).setCell ⟨w.heap.size, 2, none⟩ (Value.int .i64 0)).setCell ⟨w.heap.size, 3, none⟩ (Value.int .i64 0)) from ⟨K5.out.2.set mt0, fp_set4 K5.out.1 (b := w.heap.size) (Nat.le_refl _) (Value.string ⟨#[]⟩) (Value.int .i64 0) (Value.int .i64 0) (Value.int .i64 0)⟩)
    go_wp2_with fail
    generalize ((((World.setCell w5 _ _).setCell _ _).setCell _ _).setCell _ _) = wz at *
    have ss := HS.out.1.at
    have s0 : _ = some (Value.string ⟨#[]⟩) := ss.1; have s1 : _ = some (Value.int .i64 0) := ss.2.1; have s2 : _ = some (Value.int .i64 0) := ss.2.2.1; have s3 : _ = some (Value.int .i64 0) := ss.2.2.2
    exact bodyPost_ret (v := .tuple #[(.slice (some ⟨g0, o0, none⟩) n cap), .agg #[(Value.string ⟨#[]⟩), (Value.int .i64 0), (Value.int .i64 0), (Value.int .i64 0)], .int .i64 er]) (by simp [results, Try.results42, go_sem, s0, s1, s2, s3]) rfl (by rw [HE.out]; exact ⟨⟨_, rfl, HN.out.2 _ HS.out.2⟩, HS.out.2⟩)
  | some j =>
    obtain ⟨hj, hjd⟩ := exM_some hex
    have hget := exM_at hex
    obtain ⟨g, o, hao, hxk⟩ := HAT.out j hj
    injection hao with hao
    injection hao with hg hoo
    subst hg hoo
    obtain ⟨x, hx⟩ : ∃ x, x = l[j] := ⟨_, rfl⟩
    rw [← hx] at hget hxk
    have HJ := Lib.hid hxk
    have HGET := Lib.hid hget
    have hjn : j < n := by rw [HN.out.1]; exact hj
    have q3 : ((j : Int) < (n : Int)) = True := eq_true (by omega)
    have q4 : (j < n) = True := eq_true hjn
    have hjb : j ≤ 140737488355328 := by omega
    have q5 : ((j : Int) == -1) = false := beq_eq_false_iff_ne.2 (by omega)
    have q6 : ((j : Int) = -1) = False := eq_false (by omega)
    have q7 : ((j : Int) != -1) = true := by simp [bne, q5]
    have hnd := HJ.out.keep K2.out.1 (fun h => h)
    have c0 := hnd.c0; have c1 := hnd.c1; have c2 := hnd.c2; have c3 := hnd.c3
    unfold strV at c0
    have hmv := fun W => moving_c x W
    unfold mtV strV at hmv
    obtain ⟨mv, hmvv⟩ : ∃ b, mvM x = b := ⟨_, rfl⟩
    rw [hmvv] at hmv
    have HMV := Lib.hid hmv
    have HMVV := Lib.hid hmvv
    simp only [idx]
    clear hget hxk hjn hnd hmv hmvv hx hj hex hjd
    go_wp2_with fail
    refine (HMV.out _).mono ?_
    rintro e w3 ⟨rfl, hf⟩
    have K3 := Lib.hid (And.intro (K2.out.1.then hf) (K2.out.2.non hf))
    clear hf c0 c1 c2 c3
    have hnd := HJ.out.keep K3.out.1 (fun h => h)
    have c0 := hnd.c0; have c1 := hnd.c1; have c2 := hnd.c2; have c3 := hnd.c3
    unfold strV at c0
    clear hnd
    cases mv with
    | false =>
      have HNW := Lib.hid (HNEW.out (by first | rfl | trivial) (fun y h => by rw [HGET.out] at h; injection h with h; subst h; rw [HMVV.out]; exact fun h => by cases h.1))
      clear HAG HNEW c0 c1 c2 c3
      go_wp2_with fail
      refine (HRF.out _ K3.out.1 (by first | rfl | trivial)).mono ?_
      rintro e w5 ⟨rfl, hf⟩
      have K5 := Lib.hid (And.intro (K3.out.1.then hf) (K3.out.2.non hf))
      clear hf
      by_cases h0 : er = 0
      · subst h0
        have HE := Lib.hid (show r = ⟨putM l ⟨p, y.g, y.e, to⟩, ⟨p, y.g, y.e, to⟩, 0⟩ from by rw [HNW.out, if_pos rfl, hnw])
        go_wp2_with fail
        refine (HMK.out _ K5.out.1).mono ?_
        rintro e w6 ⟨rfl, hf⟩
        simp only [idx]
        have K6 := Lib.hid (And.intro (K5.out.1.then hf) (K5.out.2.non hf))
        have hnd := HY.out.keep K6.out.1 (fun h => h)
        have c0 := hnd.c0; have c1 := hnd.c1; have c2 := hnd.c2; have c3 := hnd.c3
        unfold strV at c0
        clear hf hnd
        go_wp2_with fail
        generalize hW7 : World.alloc w6 _ = w7
        have hb7 : BxM w7 w6.heap.size ⟨p, y.g, y.e, to⟩ := by rw [← hW7]; exact BxM.new w6 ⟨p, y.g, y.e, to⟩
        have hf7 : Fp Non w w7 := by rw [← hW7]; exact K6.out.1.then (fp_alloc w6 _)
        have hz7 : BxM w7 w.heap.size mt0 := by rw [← hW7]; exact K6.out.2.non (fp_alloc w6 _)
        have hlt6 := K6.out.2.lt
        have K7 := Lib.hid (And.intro (hf7.drew) (And.intro (hz7.non (Fp.refl Non w7).drew) (And.intro (hb7.non (Fp.refl Non w7).drew) hlt6)))
        clear hW7 hb7 hf7 hz7 c0 c1 c2 c3 hlt6
        refine wp_region_held_drew (S := (fun w' => w'.cell? ⟨w6.heap.size, 0, none⟩ = some (.string (B p)) ∧ w'.cell? ⟨w6.heap.size, 1, none⟩ = some (.int .i64 y.g) ∧ w'.cell? ⟨w6.heap.size, 2, none⟩ = some (.int .i64 y.e) ∧ w'.cell? ⟨w6.heap.size, 3, none⟩ = some (.int .i64 to))) (by kernel_rfl) ?_ (fun hHeld => ?_)
        · exact K7.out.2.2.1.at
        try simp only [zP, zN, zS, zT, zU]
        refine tkt 0 hHeld ?_
        refine tkt 1 hHeld ?_
        refine tkt 3 hHeld ?_
        refine rY 2 (fun K hK => ?_)
        go_simp
        go_at_call 62
        refine (HWX.out _ K7.out.1).mono ?_
        intro e w8 hM
        obtain ⟨v8, rfl, hN8, hnew8⟩ := hM.ex
        have K8 := Lib.hid (And.intro (K7.out.1.then hM.fp) (And.intro (K7.out.2.1.non hM.fp) (And.intro (K7.out.2.2.1.non hM.fp) (And.intro hN8 (fun k hk => by have h1 := hnew8 k hk; have h2 := K7.out.2.1.lt; omega : ∀ k, v8.ownBlock = some k → k ≠ w.heap.size)))))
        clear hM hN8 hnew8
        go_wp2_with fail
        refine hK.out _ _ K8.out.2.2.1.at (fun hHeld => ?_)
        clear hK K
        try simp only [zP, zN, zS, zT, zU]
        refine tkt 4 hHeld ?_
        have zz := K8.out.2.1.at
        have z0 : _ = some (Value.string ⟨#[]⟩) := zz.1; have z1 : _ = some (Value.int .i64 0) := zz.2.1; have z2 : _ = some (Value.int .i64 0) := zz.2.2.1; have z3 : _ = some (Value.int .i64 0) := zz.2.2.2
        have y0 := K8.out.2.1.fz 0; have y1 := K8.out.2.1.fz 1; have y2 := K8.out.2.1.fz 2; have y3 := K8.out.2.1.fz 3
        clear zz
        have HS := Lib.hid (show BxM ((((World.setCell w8 ⟨w.heap.size, 0, none⟩ (Value.string (B p))).setCell ⟨w.heap.size, 1, none⟩ (Value.int .i64 y.g)).setCell ⟨w.heap.size, 2, none⟩ (Value.int .i64 y.e)).setCell ⟨w.heap.size, 3, none⟩ (Value.int .i64 to)) w.heap.size ⟨p, y.g, y.e, to⟩ ∧ Fp Non w ((((World.setCell w8 ⟨w.heap.size, 0, none⟩ (Value.string (B p))).setCell ⟨w.heap.size, 1, none⟩ (Value.int .i64 y.g)).setCell ⟨w.heap.size, 2, none⟩ (Value.int .i64 y.e)).setCell ⟨w.heap.size, 3, none⟩ (Value.int .i64 to)) from ⟨K8.out.2.1.set ⟨p, y.g, y.e, to⟩, fp_set4 K8.out.1 (b := w.heap.size) (Nat.le_refl _) (Value.string (B p)) (Value.int .i64 y.g) (Value.int .i64 y.e) (Value.int .i64 to)⟩)
        have hN9 := Lib.hid (show NsM ((((World.setCell w8 ⟨w.heap.size, 0, none⟩ (Value.string (B p))).setCell ⟨w.heap.size, 1, none⟩ (Value.int .i64 y.g)).setCell ⟨w.heap.size, 2, none⟩ (Value.int .i64 y.e)).setCell ⟨w.heap.size, 3, none⟩ (Value.int .i64 to)) v8 (putM l ⟨p, y.g, y.e, to⟩) from K8.out.2.2.2.1.keep (S := fun k => k = w.heap.size) (fp_putM (S := fun k => k = w.heap.size) (Fp.refl _ w8) (.inl rfl) 0 _ _ _ _) (fun k hk e => K8.out.2.2.2.2 k hk e))
        have HB9 := Lib.hid (show BxM ((((World.setCell w8 ⟨w.heap.size, 0, none⟩ (Value.string (B p))).setCell ⟨w.heap.size, 1, none⟩ (Value.int .i64 y.g)).setCell ⟨w.heap.size, 2, none⟩ (Value.int .i64 y.e)).setCell ⟨w.heap.size, 3, none⟩ (Value.int .i64 to)) w6.heap.size ⟨p, y.g, y.e, to⟩ from (fp_putM (S := fun k => k = w.heap.size) (Fp.refl _ w8) (.inl rfl) 0 _ _ _ _).heap K8.out.2.2.1 (fun e => by have h := K7.out.2.2.2; have e : w6.heap.size = w.heap.size := e; omega))
        refine rY 5 (fun K hK => ?_)
        go_simp
        refine hK.out _ _ HB9.out.at (fun hHeld => ?_)
        clear hK K
        try simp only [zP, zN, zS, zT, zU]
        refine tkt 6 hHeld ?_
        refine yD ?_
        clear z0 z1 z2 z3 y0 y1 y2 y3
        generalize ((((World.setCell w8 _ _).setCell _ _).setCell _ _).setCell _ _) = wz at *
        go_wp2_with fail
        have ss := HS.out.1.at
        have s0 : _ = some (Value.string (B p)) := ss.1; have s1 : _ = some (Value.int .i64 y.g) := ss.2.1; have s2 : _ = some (Value.int .i64 y.e) := ss.2.2.1; have s3 : _ = some (Value.int .i64 to) := ss.2.2.2
        exact bodyPost_ret (v := .tuple #[v8, .agg #[(Value.string (B p)), (Value.int .i64 y.g), (Value.int .i64 y.e), (Value.int .i64 to)], .int .i64 0]) (by simp [results, Try.results42, go_sem, s0, s1, s2, s3]) rfl (by rw [HE.out]; exact ⟨⟨_, rfl, hN9.out⟩, HS.out.2⟩)
      have q20 : (er == 0) = false := beq_eq_false_iff_ne.2 h0
      have q21 : (er = 0) = False := eq_false h0
      have q22 : (er != 0) = true := by simp [bne, q20]
      have HE := Lib.hid (show r = ⟨l, mt0, er⟩ from by rw [HNW.out, if_neg h0])
      clear h0
      have zz := K5.out.2.at
      have z0 : _ = some (Value.string ⟨#[]⟩) := zz.1; have z1 : _ = some (Value.int .i64 0) := zz.2.1; have z2 : _ = some (Value.int .i64 0) := zz.2.2.1; have z3 : _ = some (Value.int .i64 0) := zz.2.2.2
      have y0 := K5.out.2.fz 0; have y1 := K5.out.2.fz 1; have y2 := K5.out.2.fz 2; have y3 := K5.out.2.fz 3
      clear zz
      have HS := Lib.hid (show BxM ((((World.setCell w5 ⟨w.heap.size, 0, none⟩ (Value.string ⟨#[]⟩)).setCell ⟨w.heap.size, 1, none⟩ (Value.int .i64 0)).setCell ⟨w.heap.size, 2, none⟩ (Value.int .i64 0)).setCell ⟨w.heap.size, 3, none⟩ (Value.int .i64 0)) w.heap.size mt0 ∧ Fp Non w ((((World.setCell w5 ⟨w.heap.size, 0, none⟩ (Value.string ⟨#[]⟩)).setCell ⟨w.heap.size, 1, none⟩ (Value.int .i64 0)).setCell ⟨w.heap.size, 2, none⟩ (Value.int .i64 0)).setCell ⟨w.heap.size, 3, none⟩ (Value.int .i64 0)) from ⟨K5.out.2.set mt0, fp_set4 K5.out.1 (b := w.heap.size) (Nat.le_refl _) (Value.string ⟨#[]⟩) (Value.int .i64 0) (Value.int .i64 0) (Value.int .i64 0)⟩)
      go_wp2_with fail
      generalize ((((World.setCell w5 _ _).setCell _ _).setCell _ _).setCell _ _) = wz at *
      have ss := HS.out.1.at
      have s0 : _ = some (Value.string ⟨#[]⟩) := ss.1; have s1 : _ = some (Value.int .i64 0) := ss.2.1; have s2 : _ = some (Value.int .i64 0) := ss.2.2.1; have s3 : _ = some (Value.int .i64 0) := ss.2.2.2
      exact bodyPost_ret (v := .tuple #[(.slice (some ⟨g0, o0, none⟩) n cap), .agg #[(Value.string ⟨#[]⟩), (Value.int .i64 0), (Value.int .i64 0), (Value.int .i64 0)], .int .i64 er]) (by simp [results, Try.results42, go_sem, s0, s1, s2, s3]) rfl (by rw [HE.out]; exact ⟨⟨_, rfl, HN.out.2 _ HS.out.2⟩, HS.out.2⟩)
    | true =>
      by_cases ht : x.t = to
      · have q8 : (x.t == to) = true := beq_iff_eq.2 ht
        have q9 : (x.t = to) = True := eq_true ht
        have HE := Lib.hid (HAG.out x (by first | rfl | trivial) HGET.out HMVV.out ht)
        clear ht HAG HNEW
        go_wp2_with fail
        have hnd4 := HJ.out.keep (K3.out.1.drew) (fun h => h)
        have K4 := Lib.hid (And.intro (K3.out.1.drew) (And.intro (K3.out.2.non (Fp.refl Non w3).drew) hnd4))
        clear c0 c1 c2 c3 hnd4
        refine wp_region_held_drew (S := (fun w' => w'.cell? ⟨g0, o0 + j * 4, none⟩ = some (.string (B x.d)) ∧ w'.cell? ⟨g0, o0 + j * 4 + 1, none⟩ = some (.int .i64 x.g) ∧ w'.cell? ⟨g0, o0 + j * 4 + 2, none⟩ = some (.int .i64 x.e) ∧ w'.cell? ⟨g0, o0 + j * 4 + 3, none⟩ = some (.int .i64 x.t))) (by kernel_rfl) ?_ (fun hHeld => ?_)
        · exact ⟨K4.out.2.2.c0, K4.out.2.2.c1, K4.out.2.2.c2, K4.out.2.2.c3⟩
        try simp only [zP, zN, zS, zT, zU]
        refine tkt 0 hHeld ?_
        refine tkt 1 hHeld ?_
        refine tkt 2 hHeld ?_
        refine tkt 3 hHeld ?_
        refine tkt 4 hHeld ?_
        refine tkt 5 hHeld ?_
        generalize World.drew w3 = w4 at *
        have zz := K4.out.2.1.at
        have z0 : _ = some (Value.string ⟨#[]⟩) := zz.1; have z1 : _ = some (Value.int .i64 0) := zz.2.1; have z2 : _ = some (Value.int .i64 0) := zz.2.2.1; have z3 : _ = some (Value.int .i64 0) := zz.2.2.2
        have y0 := K4.out.2.1.fz 0; have y1 := K4.out.2.1.fz 1; have y2 := K4.out.2.1.fz 2; have y3 := K4.out.2.1.fz 3
        clear zz
        have HS := Lib.hid (show BxM ((((World.setCell w4 ⟨w.heap.size, 0, none⟩ (Value.string (B x.d))).setCell ⟨w.heap.size, 1, none⟩ (Value.int .i64 x.g)).setCell ⟨w.heap.size, 2, none⟩ (Value.int .i64 x.e)).setCell ⟨w.heap.size, 3, none⟩ (Value.int .i64 x.t)) w.heap.size x ∧ Fp Non w ((((World.setCell w4 ⟨w.heap.size, 0, none⟩ (Value.string (B x.d))).setCell ⟨w.heap.size, 1, none⟩ (Value.int .i64 x.g)).setCell ⟨w.heap.size, 2, none⟩ (Value.int .i64 x.e)).setCell ⟨w.heap.size, 3, none⟩ (Value.int .i64 x.t)) from ⟨K4.out.2.1.set x, fp_set4 K4.out.1 (b := w.heap.size) (Nat.le_refl _) (Value.string (B x.d)) (Value.int .i64 x.g) (Value.int .i64 x.e) (Value.int .i64 x.t)⟩)
        have HB9 := Lib.hid (show NdAtM ((((World.setCell w4 ⟨w.heap.size, 0, none⟩ (Value.string (B x.d))).setCell ⟨w.heap.size, 1, none⟩ (Value.int .i64 x.g)).setCell ⟨w.heap.size, 2, none⟩ (Value.int .i64 x.e)).setCell ⟨w.heap.size, 3, none⟩ (Value.int .i64 x.t)) g0 (o0 + j * 4) x from HJ.out.keep HS.out.2 (fun h => h))
        refine rY 6 (fun K hK => ?_)
        go_simp
        refine hK.out _ _ ⟨HB9.out.c0, HB9.out.c1, HB9.out.c2, HB9.out.c3⟩ (fun hHeld => ?_)
        clear hK K
        try simp only [zP, zN, zS, zT, zU]
        refine tkt 7 hHeld ?_
        refine yD ?_
        clear z0 z1 z2 z3 y0 y1 y2 y3
        generalize ((((World.setCell w4 _ _).setCell _ _).setCell _ _).setCell _ _) = wz at *
        go_wp2_with fail
        have ss := HS.out.1.at
        have s0 : _ = some (Value.string (B x.d)) := ss.1; have s1 : _ = some (Value.int .i64 x.g) := ss.2.1; have s2 : _ = some (Value.int .i64 x.e) := ss.2.2.1; have s3 : _ = some (Value.int .i64 x.t) := ss.2.2.2
        exact bodyPost_ret (v := .tuple #[(.slice (some ⟨g0, o0, none⟩) n cap), .agg #[(Value.string (B x.d)), (Value.int .i64 x.g), (Value.int .i64 x.e), (Value.int .i64 x.t)], .int .i64 0]) (by simp [results, Try.results42, go_sem, s0, s1, s2, s3]) rfl (by rw [HE.out]; exact ⟨⟨_, rfl, HN.out.2 _ HS.out.2⟩, HS.out.2⟩)
      · have q8 : (x.t == to) = false := beq_eq_false_iff_ne.2 ht
        have q9 : (x.t = to) = False := eq_false ht
        have HNW := Lib.hid (HNEW.out (by first | rfl | trivial) (fun y h => by rw [HGET.out] at h; injection h with h; subst h; exact fun h => ht h.2))
        clear ht HAG HNEW
        go_wp2_with fail
        refine (HRF.out _ K3.out.1 (by first | rfl | trivial)).mono ?_
        rintro e w5 ⟨rfl, hf⟩
        have K5 := Lib.hid (And.intro (K3.out.1.then hf) (K3.out.2.non hf))
        clear hf
        by_cases h0 : er = 0
        · subst h0
          have HE := Lib.hid (show r = ⟨putM l ⟨p, y.g, y.e, to⟩, ⟨p, y.g, y.e, to⟩, 0⟩ from by rw [HNW.out, if_pos rfl, hnw])
          go_wp2_with fail
          refine (HMK.out _ K5.out.1).mono ?_
          rintro e w6 ⟨rfl, hf⟩
          simp only [idx]
          have K6 := Lib.hid (And.intro (K5.out.1.then hf) (K5.out.2.non hf))
          have hnd := HY.out.keep K6.out.1 (fun h => h)
          have c0 := hnd.c0; have c1 := hnd.c1; have c2 := hnd.c2; have c3 := hnd.c3
          unfold strV at c0
          clear hf hnd
          go_wp2_with fail
          generalize hW7 : World.alloc w6 _ = w7
          have hb7 : BxM w7 w6.heap.size ⟨p, y.g, y.e, to⟩ := by rw [← hW7]; exact BxM.new w6 ⟨p, y.g, y.e, to⟩
          have hf7 : Fp Non w w7 := by rw [← hW7]; exact K6.out.1.then (fp_alloc w6 _)
          have hz7 : BxM w7 w.heap.size mt0 := by rw [← hW7]; exact K6.out.2.non (fp_alloc w6 _)
          have hlt6 := K6.out.2.lt
          have K7 := Lib.hid (And.intro (hf7.drew) (And.intro (hz7.non (Fp.refl Non w7).drew) (And.intro (hb7.non (Fp.refl Non w7).drew) hlt6)))
          clear hW7 hb7 hf7 hz7 c0 c1 c2 c3 hlt6
          refine wp_region_held_drew (S := (fun w' => w'.cell? ⟨w6.heap.size, 0, none⟩ = some (.string (B p)) ∧ w'.cell? ⟨w6.heap.size, 1, none⟩ = some (.int .i64 y.g) ∧ w'.cell? ⟨w6.heap.size, 2, none⟩ = some (.int .i64 y.e) ∧ w'.cell? ⟨w6.heap.size, 3, none⟩ = some (.int .i64 to))) (by kernel_rfl) ?_ (fun hHeld => ?_)
          · exact K7.out.2.2.1.at
          try simp only [zP, zN, zS, zT, zU]
          refine tkt 0 hHeld ?_
          refine tkt 1 hHeld ?_
          refine tkt 3 hHeld ?_
          refine rY 2 (fun K hK => ?_)
          go_simp
          go_at_call 62
          refine (HWX.out _ K7.out.1).mono ?_
          intro e w8 hM
          obtain ⟨v8, rfl, hN8, hnew8⟩ := hM.ex
          have K8 := Lib.hid (And.intro (K7.out.1.then hM.fp) (And.intro (K7.out.2.1.non hM.fp) (And.intro (K7.out.2.2.1.non hM.fp) (And.intro hN8 (fun k hk => by have h1 := hnew8 k hk; have h2 := K7.out.2.1.lt; omega : ∀ k, v8.ownBlock = some k → k ≠ w.heap.size)))))
          clear hM hN8 hnew8
          go_wp2_with fail
          refine hK.out _ _ K8.out.2.2.1.at (fun hHeld => ?_)
          clear hK K
          try simp only [zP, zN, zS, zT, zU]
          refine tkt 4 hHeld ?_
          have zz := K8.out.2.1.at
          have z0 : _ = some (Value.string ⟨#[]⟩) := zz.1; have z1 : _ = some (Value.int .i64 0) := zz.2.1; have z2 : _ = some (Value.int .i64 0) := zz.2.2.1; have z3 : _ = some (Value.int .i64 0) := zz.2.2.2
          have y0 := K8.out.2.1.fz 0; have y1 := K8.out.2.1.fz 1; have y2 := K8.out.2.1.fz 2; have y3 := K8.out.2.1.fz 3
          clear zz
          have HS := Lib.hid (show BxM ((((World.setCell w8 ⟨w.heap.size, 0, none⟩ (Value.string (B p))).setCell ⟨w.heap.size, 1, none⟩ (Value.int .i64 y.g)).setCell ⟨w.heap.size, 2, none⟩ (Value.int .i64 y.e)).setCell ⟨w.heap.size, 3, none⟩ (Value.int .i64 to)) w.heap.size ⟨p, y.g, y.e, to⟩ ∧ Fp Non w ((((World.setCell w8 ⟨w.heap.size, 0, none⟩ (Value.string (B p))).setCell ⟨w.heap.size, 1, none⟩ (Value.int .i64 y.g)).setCell ⟨w.heap.size, 2, none⟩ (Value.int .i64 y.e)).setCell ⟨w.heap.size, 3, none⟩ (Value.int .i64 to)) from ⟨K8.out.2.1.set ⟨p, y.g, y.e, to⟩, fp_set4 K8.out.1 (b := w.heap.size) (Nat.le_refl _) (Value.string (B p)) (Value.int .i64 y.g) (Value.int .i64 y.e) (Value.int .i64 to)⟩)
          have hN9 := Lib.hid (show NsM ((((World.setCell w8 ⟨w.heap.size, 0, none⟩ (Value.string (B p))).setCell ⟨w.heap.size, 1, none⟩ (Value.int .i64 y.g)).setCell ⟨w.heap.size, 2, none⟩ (Value.int .i64 y.e)).setCell ⟨w.heap.size, 3, none⟩ (Value.int .i64 to)) v8 (putM l ⟨p, y.g, y.e, to⟩) from K8.out.2.2.2.1.keep (S := fun k => k = w.heap.size) (fp_putM (S := fun k => k = w.heap.size) (Fp.refl _ w8) (.inl rfl) 0 _ _ _ _) (fun k hk e => K8.out.2.2.2.2 k hk e))
          have HB9 := Lib.hid (show BxM ((((World.setCell w8 ⟨w.heap.size, 0, none⟩ (Value.string (B p))).setCell ⟨w.heap.size, 1, none⟩ (Value.int .i64 y.g)).setCell ⟨w.heap.size, 2, none⟩ (Value.int .i64 y.e)).setCell ⟨w.heap.size, 3, none⟩ (Value.int .i64 to)) w6.heap.size ⟨p, y.g, y.e, to⟩ from (fp_putM (S := fun k => k = w.heap.size) (Fp.refl _ w8) (.inl rfl) 0 _ _ _ _).heap K8.out.2.2.1 (fun e => by have h := K7.out.2.2.2; have e : w6.heap.size = w.heap.size := e; omega))
          refine rY 5 (fun K hK => ?_)
          go_simp
          refine hK.out _ _ HB9.out.at (fun hHeld => ?_)
          clear hK K
          try simp only [zP, zN, zS, zT, zU]
          refine tkt 6 hHeld ?_
          refine yD ?_
          clear z0 z1 z2 z3 y0 y1 y2 y3
          generalize ((((World.setCell w8 _ _).setCell _ _).setCell _ _).setCell _ _) = wz at *
          go_wp2_with fail
          have ss := HS.out.1.at
          have s0 : _ = some (Value.string (B p)) := ss.1; have s1 : _ = some (Value.int .i64 y.g) := ss.2.1; have s2 : _ = some (Value.int .i64 y.e) := ss.2.2.1; have s3 : _ = some (Value.int .i64 to) := ss.2.2.2
          exact bodyPost_ret (v := .tuple #[v8, .agg #[(Value.string (B p)), (Value.int .i64 y.g), (Value.int .i64 y.e), (Value.int .i64 to)], .int .i64 0]) (by simp [results, Try.results42, go_sem, s0, s1, s2, s3]) rfl (by rw [HE.out]; exact ⟨⟨_, rfl, hN9.out⟩, HS.out.2⟩)
        have q20 : (er == 0) = false := beq_eq_false_iff_ne.2 h0
        have q21 : (er = 0) = False := eq_false h0
        have q22 : (er != 0) = true := by simp [bne, q20]
        have HE := Lib.hid (show r = ⟨l, mt0, er⟩ from by rw [HNW.out, if_neg h0])
        clear h0
        have zz := K5.out.2.at
        have z0 : _ = some (Value.string ⟨#[]⟩) := zz.1; have z1 : _ = some (Value.int .i64 0) := zz.2.1; have z2 : _ = some (Value.int .i64 0) := zz.2.2.1; have z3 : _ = some (Value.int .i64 0) := zz.2.2.2
        have y0 := K5.out.2.fz 0; have y1 := K5.out.2.fz 1; have y2 := K5.out.2.fz 2; have y3 := K5.out.2.fz 3
        clear zz
        have HS := Lib.hid (show BxM ((((World.setCell w5 ⟨w.heap.size, 0, none⟩ (Value.string ⟨#[]⟩)).setCell ⟨w.heap.size, 1, none⟩ (Value.int .i64 0)).setCell ⟨w.heap.size, 2, none⟩ (Value.int .i64 0)).setCell ⟨w.heap.size, 3, none⟩ (Value.int .i64 0)) w.heap.size mt0 ∧ Fp Non w ((((World.setCell w5 ⟨w.heap.size, 0, none⟩ (Value.string ⟨#[]⟩)).setCell ⟨w.heap.size, 1, none⟩ (Value.int .i64 0)).setCell ⟨w.heap.size, 2, none⟩ (Value.int .i64 0)).setCell ⟨w.heap.size, 3, none⟩ (Value.int .i64 0)) from ⟨K5.out.2.set mt0, fp_set4 K5.out.1 (b := w.heap.size) (Nat.le_refl _) (Value.string ⟨#[]⟩) (Value.int .i64 0) (Value.int .i64 0) (Value.int .i64 0)⟩)
        go_wp2_with fail
        generalize ((((World.setCell w5 _ _).setCell _ _).setCell _ _).setCell _ _) = wz at *
        have ss := HS.out.1.at
        have s0 : _ = some (Value.string ⟨#[]⟩) := ss.1; have s1 : _ = some (Value.int .i64 0) := ss.2.1; have s2 : _ = some (Value.int .i64 0) := ss.2.2.1; have s3 : _ = some (Value.int .i64 0) := ss.2.2.2
        exact bodyPost_ret (v := .tuple #[(.slice (some ⟨g0, o0, none⟩) n cap), .agg #[(Value.string ⟨#[]⟩), (Value.int .i64 0), (Value.int .i64 0), (Value.int .i64 0)], .int .i64 er]) (by simp [results, Try.results42, go_sem, s0, s1, s2, s3]) rfl (by rw [HE.out]; exact ⟨⟨_, rfl, HN.out.2 _ HS.out.2⟩, HS.out.2⟩)

end Go.Proofs.Ytdfnfkknbjageaa

/- mounts.Flip (gen_bk.py) -/
namespace Go.Proofs.Ytdfnfkknbjageaa
set_option maxRecDepth 20000
set_option linter.unusedVariables false
set_option linter.unusedSimpArgs false
open Go.RowKit Pm


/-- What Flip answers. -/
structure FlR (w : World) (b : Fl) (e : Ending) (w' : World) : Prop where
  ex : ∃ v', e = .returned (.tuple #[v', .int .i64 b.e]) ∧ NsM w' v' b.l
  fp : Fp Non w w'
theorem BxM.set12 {W : World} {b : Nat} {z : Mt} (h : BxM W b z) (g e : Int) :
    BxM ((W.setCell ⟨b, 1, none⟩ (.int .i64 g)).setCell ⟨b, 2, none⟩ (.int .i64 e)) b ⟨z.d, g, e, z.t⟩ := by
  unfold BxM at h ⊢
  have h1 := heap_setCell_same W b 1 _ TM (.int .i64 g) h
  have h4 := heap_setCell_same _ b 2 _ TM (.int .i64 e) h1
  rw [h4]; simp
theorem flp_no {l : List Mt} {p : Bs} {ep to : Int} (h : mayM l p to = false) : flp l p ep to = ⟨[], 1⟩ := by unfold flp; rw [if_neg (by rw [h]; exact Bool.false_ne_true)]
theorem flp_none {l : List Mt} {p : Bs} {ep to : Int} (h : mayM l p to = true) (hg : getM l p = none) : flp l p ep to = ⟨l, 133⟩ := by unfold flp; rw [if_pos h, hg]
theorem flp_some {l : List Mt} {p : Bs} {ep to : Int} {y : Mt} (h : mayM l p to = true) (hg : getM l p = some y) : flp l p ep to = if y.t = to then (if mvM y = true ∧ y.e = ep ∧ ep < mxN then ⟨putM l ⟨p, to, ep + 1, to⟩, 0⟩ else if mvM y = false ∧ y.e = ep + 1 then ⟨l, 0⟩ else ⟨l, 133⟩) else ⟨l, 133⟩ := by unfold flp; rw [if_pos h, hg]

set_option maxHeartbeats 8000000 in
theorem Flip_c (v : Value) (l : List Mt) (p : Bs) (ep to : Int) (w : World) (hv : NsM w v l) (hs : SzM l) (hp : p.length ≤ 140737488355328) (hep : -9223372036854775808 ≤ ep ∧ ep ≤ 9223372036854775807) :
    Calls Try.prog 44 #[v, .string (B p), .int .i64 ep, .int .i64 to] w fun e w' => FlR w (flp l p ep to) e w' := by
  have hmy := fun W (f : Fp Non w W) => may_c v l p to W (hv.non f) hs hp
  have hex := fun W (f : Fp Non w W) => exact_c v l p W (hv.non f) hs.p hs.n
  have hrt : mayM l p to = true → RtM l := fun h => by
    unfold mayM at h; simp only [Bool.and_eq_true] at h; exact (right_ifft l).1 h.1.1
  have hwi := fun W x (f : Fp Non w W) (h : RtM l) (hx : x.d = p) => with_c v l x W (hv.non f) h.up h.pos h.len hs.p (by rw [hx]; exact hp)
  have hnsw := fun W (f : Fp Non w W) => hv.non f
  obtain ⟨r, hr⟩ : ∃ r, flp l p ep to = r := ⟨_, rfl⟩
  have hno := flp_no (l := l) (p := p) (ep := ep) (to := to)
  have hnn := flp_none (l := l) (p := p) (ep := ep) (to := to)
  have hss := fun y => flp_some (l := l) (p := p) (ep := ep) (to := to) (y := y)
  rw [hr] at hno hnn ⊢
  simp only [hr] at hss
  obtain ⟨my, hmm⟩ : ∃ b, mayM l p to = b := ⟨_, rfl⟩
  rw [hmm] at hmy hno hnn hrt
  simp only [hmm] at hss
  obtain ⟨n, hn⟩ : ∃ n, n = l.length := ⟨_, rfl⟩
  obtain ⟨ao, cap, rfl⟩ := hv.shape
  have HAT := Lib.hid (fun k (hk : k < l.length) => (show ∃ g o, ao = some ⟨g, o, none⟩ ∧ NdAtM w g (o + k * 4) l[k] from by
    obtain ⟨g, o, cap', e, _, _, _, hcell⟩ := hv.at (by omega)
    injection e with e1 _ _
    exact ⟨g, o, e1, hcell k hk⟩))
  have hnb : n ≤ 140737488355328 := by have := hs.n; omega
  rw [← hn] at hmy hex hwi hnsw ⊢
  have HN := Lib.hid (And.intro hn hnsw)
  have HMY := Lib.hid hmy
  have HEX := Lib.hid hex
  have HWI := Lib.hid hwi
  have HNO := Lib.hid hno
  have HNN := Lib.hid hnn
  have HSS := Lib.hid hss
  have HRT := Lib.hid hrt
  have HEP := Lib.hid hep
  clear hmy hex hwi hno hnn hss hnsw hv hs hp hr hn hmm hrt
  go_enter Try.func44, Try.ntmps44
  go_wp2_with fail
  refine (HMY.out _ (Fp.refl _ _)).mono ?_
  rintro e w1 ⟨rfl, hf⟩
  have K1 := Lib.hid hf
  clear hf
  cases my with
  | false =>
    have HE := Lib.hid (HNO.out (by first | rfl | trivial))
    clear hep
    go_wp2
    go_ret2
    rw [HE.out]
    exact ⟨⟨_, rfl, NsM.nil _⟩, K1.out⟩
  | true =>
  have hrt := HRT.out (by first | rfl | trivial)
  go_wp2_with fail
  refine (HEX.out _ K1.out).mono ?_
  rintro e w2 ⟨rfl, hf⟩
  have K2 := Lib.hid (K1.out.then hf)
  clear hf
  cases hex : exM l p with
  | none =>
    have HE := Lib.hid (HNN.out (by first | rfl | trivial) (exM_no hex))
    simp only [idx]
    clear hex hrt hep
    go_wp2
    go_ret2
    rw [HE.out]
    exact ⟨⟨_, rfl, HN.out.2 _ K2.out⟩, K2.out⟩
  | some j =>
  obtain ⟨hj, hjd⟩ := exM_some hex
  have hss := HSS.out _ (by first | rfl | trivial) (exM_at hex)
  obtain ⟨g, o, hao, hxk⟩ := HAT.out j hj
  subst hao
  obtain ⟨y, hy⟩ : ∃ y, y = l[j] := ⟨_, rfl⟩
  have hye : 0 ≤ y.e ∧ y.e ≤ 281474976710656 := by
    have h1 := hrt.ok y (by rw [hy]; exact List.getElem_mem hj)
    unfold okM okE mxN at h1
    simp only [Bool.and_eq_true, decide_eq_true_eq] at h1
    exact h1.2
  rw [← hy] at hss hxk hjd
  have hwx := fun W t' (f : Fp Non w W) => HWI.out W ⟨y.d, to, ep + 1, t'⟩ f hrt hjd
  unfold mtV strV at hwx
  simp only at hwx
  have HWX := Lib.hid hwx
  have HJ := Lib.hid hxk
  have HS := Lib.hid hss
  have HD := Lib.hid hjd
  have hjn : j < n := by rw [HN.out.1]; exact hj
  have q3 : ((j : Int) < (n : Int)) = True := eq_true (by omega)
  have q4 : (j < n) = True := eq_true hjn
  have hjb : j ≤ 140737488355328 := by omega
  have q5 : ((j : Int) == -1) = false := beq_eq_false_iff_ne.2 (by omega)
  have q6 : ((j : Int) = -1) = False := eq_false (by omega)
  have hnd := HJ.out.keep K2.out (fun h => h)
  have c0 := hnd.c0; have c1 := hnd.c1; have c2 := hnd.c2; have c3 := hnd.c3
  unfold strV at c0
  have hmv := fun W => moving_c y W
  unfold mtV strV at hmv
  obtain ⟨mv, hmvv⟩ : ∃ b, mvM y = b := ⟨_, rfl⟩
  rw [hmvv] at hmv
  have HMV := Lib.hid hmv
  have HMVV := Lib.hid hmvv
  have hwr : (y.e == IntKind.i64.wrap (ep + 1)) = decide (y.e = ep + 1) := by
    have hw : (ep ≤ 9223372036854775806 ∧ IntKind.i64.wrap (ep + 1) = ep + 1) ∨ (ep = 9223372036854775807 ∧ IntKind.i64.wrap (ep + 1) = ep + 1 - 18446744073709551616) := by rw [IntKind.wrap_i64]; omega
    rw [Bool.eq_iff_iff, beq_iff_eq, decide_eq_true_eq]
    constructor
    · intro h; rcases hw with h1 | h1 <;> omega
    · intro h; rcases hw with h1 | h1 <;> omega
  have hwp : ep < 281474976710656 → y.e = ep → IntKind.i64.wrap (ep + 1) = ep + 1 := fun h1 h2 => by rw [IntKind.wrap_i64]; omega
  have HWR := Lib.hid (And.intro hwr hwp)
  simp only [idx]
  clear hss hxk hjn hnd hmv hmvv hy hj hex hjd hwx hrt HNO HNN HSS HRT HWI HEX HMY hwr hwp hye hep
  by_cases ht : ¬ y.t = to
  · have q8 : (y.t == to) = false := beq_eq_false_iff_ne.2 ht
    have q9 : (y.t = to) = False := eq_false ht
    have q10 : (y.t != to) = true := by simp [bne, q8]
    have HE := Lib.hid (show r = ⟨l, 133⟩ from by rw [HS.out, if_neg ht])
    clear ht
    go_wp2
    go_ret2
    rw [HE.out]
    exact ⟨⟨_, rfl, HN.out.2 _ K2.out⟩, K2.out⟩
  have ht := Decidable.not_not.1 ht
  have q8 : (y.t == to) = true := beq_iff_eq.2 ht
  have q9 : (y.t = to) = True := eq_true ht
  have q10 : (y.t != to) = false := by simp [bne, q8]
  have HT := Lib.hid ht
  have HBX := Lib.hid (And.intro (BxM.new w2 y) (K2.out.then (fp_alloc w2 (.cells #[.string (B y.d), .int .i64 y.g, .int .i64 y.e, .int .i64 y.t] TM))))
  clear ht
  go_wp2_with fail
  refine (HMV.out _).mono ?_
  rintro e w3 ⟨rfl, hf⟩
  have K3 := Lib.hid (And.intro (HBX.out.2.then hf) (HBX.out.1.non hf))
  clear hf HBX c0 c1 c2 c3
  have cc := K3.out.2.at
  have c0 := cc.1; have c1 := cc.2.1; have c2 := cc.2.2.1; have c3 := cc.2.2.2
  clear cc
  cases mv with
  | false =>
    go_wp2_with fail
    refine (HMV.out _).mono ?_
    rintro e w4 ⟨rfl, hf⟩
    have K4 := Lib.hid (And.intro (K3.out.1.then hf) (K3.out.2.non hf))
    clear hf c0 c1 c2 c3
    have cc := K4.out.2.at
    have c2 := cc.2.2.1
    clear cc
    cases hde : decide (y.e = ep + 1) with
    | true =>
      have q11 := HWR.out.1
      rw [hde] at q11
      rw [show IntKind.i64.wrap (ep + 1) = wrap64 (ep + 1) from by rw [IntKind.wrap_i64]; unfold wrap64; rfl] at q11
      have HE := Lib.hid (show r = ⟨l, 0⟩ from by rw [HS.out, if_pos HT.out, if_neg (fun h => by rw [HMVV.out] at h; cases h.1), if_pos ⟨HMVV.out, of_decide_eq_true hde⟩])
      clear hde
      go_wp2
      go_ret2
      rw [HE.out]
      exact ⟨⟨_, rfl, HN.out.2 _ K4.out.1⟩, K4.out.1⟩
    | false =>
      have q11 := HWR.out.1
      rw [hde] at q11
      rw [show IntKind.i64.wrap (ep + 1) = wrap64 (ep + 1) from by rw [IntKind.wrap_i64]; unfold wrap64; rfl] at q11
      have HE := Lib.hid (show r = ⟨l, 133⟩ from by rw [HS.out, if_pos HT.out, if_neg (fun h => by rw [HMVV.out] at h; cases h.1), if_neg (fun h => of_decide_eq_false hde h.2)])
      clear hde
      go_wp2
      go_ret2
      rw [HE.out]
      exact ⟨⟨_, rfl, HN.out.2 _ K4.out.1⟩, K4.out.1⟩
  | true =>
    by_cases he : y.e = ep
    · have q12 : (y.e == ep) = true := beq_iff_eq.2 he
      have q13 : (y.e = ep) = True := eq_true he
      by_cases hm : ep < 281474976710656
      · have q14 : (ep < 281474976710656) = True := eq_true hm
        have hwp := HWR.out.2 hm he
        have HE := Lib.hid (show r = ⟨putM l ⟨p, to, ep + 1, to⟩, 0⟩ from by rw [HS.out, if_pos HT.out, if_pos ⟨HMVV.out, he, hm⟩])
        have HB5 := Lib.hid ((K3.out.2.set12 to (ep + 1)))
        have HF5 := Lib.hid ((K3.out.1.setCell (p := ⟨w2.heap.size, 1, none⟩) (.inr K2.out.size) (.int .i64 to)).setCell (p := ⟨w2.heap.size, 2, none⟩) (.inr K2.out.size) (.int .i64 (ep + 1)))
        have f1 := K3.out.2.fz 1; have f2 := K3.out.2.fz 2
        clear he hm
        go_wp2_with fail
        refine (HWX.out _ _ HF5.out).mono ?_
        intro e w6 hM
        obtain ⟨v6, rfl, hN6, _⟩ := hM.ex
        have HZ := Lib.hid (And.intro hN6 (HF5.out.then hM.fp))
        clear hM hN6
        go_wp2
        go_ret2
        rw [HE.out]
        refine ⟨⟨_, rfl, ?_⟩, HZ.out.2⟩
        have h1 := HZ.out.1
        rw [HD.out, HT.out] at h1
        exact h1
      · have q14 : (ep < 281474976710656) = False := eq_false hm
        have HE := Lib.hid (show r = ⟨l, 133⟩ from by rw [HS.out, if_pos HT.out, if_neg (fun h => hm h.2.2), if_neg (fun h => by rw [HMVV.out] at h; cases h.1)])
        clear he hm
        go_wp2_with fail
        refine (HMV.out _).mono ?_
        rintro e w4 ⟨rfl, hf⟩
        have K4 := Lib.hid (And.intro (K3.out.1.then hf) (K3.out.2.non hf))
        clear hf c0 c1 c2 c3
        go_wp2
        go_ret2
        rw [HE.out]
        exact ⟨⟨_, rfl, HN.out.2 _ K4.out.1⟩, K4.out.1⟩
    · have q12 : (y.e == ep) = false := beq_eq_false_iff_ne.2 he
      have q13 : (y.e = ep) = False := eq_false he
      have HE := Lib.hid (show r = ⟨l, 133⟩ from by rw [HS.out, if_pos HT.out, if_neg (fun h => he h.2.1), if_neg (fun h => by rw [HMVV.out] at h; cases h.1)])
      clear he
      go_wp2_with fail
      refine (HMV.out _).mono ?_
      rintro e w4 ⟨rfl, hf⟩
      have K4 := Lib.hid (And.intro (K3.out.1.then hf) (K3.out.2.non hf))
      clear hf c0 c1 c2 c3
      go_wp2
      go_ret2
      rw [HE.out]
      exact ⟨⟨_, rfl, HN.out.2 _ K4.out.1⟩, K4.out.1⟩

end Go.Proofs.Ytdfnfkknbjageaa

/- Plain facts of the laws of layer 14. Nothing of the program. -/
namespace Go.Proofs.Ytdfnfkknbjageaa
set_option maxRecDepth 20000
set_option linter.unusedVariables false
set_option linter.unusedSimpArgs false
namespace Pm

theorem okP_len {p : Bs} (h : okP p = true) : p.length ≤ 100 := by
  unfold okP at h
  obtain ⟨ps, hs⟩ := Option.isSome_iff_exists.1 h
  obtain ⟨hP, rfl⟩ := (split_iff p ps).1 hs
  exact joinP_len hP
theorem okM_p {x : Mt} (h : okM x = true) : okP x.d = true ∧ okG x.g = true ∧ okG x.t = true ∧ okE x.e = true := by
  unfold okM at h; simp only [Bool.and_eq_true] at h; exact ⟨h.1.1.1, h.1.1.2, h.1.2, h.2⟩
theorem okM_mk {x : Mt} (h1 : okP x.d = true) (h2 : okG x.g = true) (h3 : okG x.t = true) (h4 : okE x.e = true) : okM x = true := by
  unfold okM; rw [h1, h2, h3, h4]; rfl
theorem in_self {p : Bs} (h : okP p = true) : inB p p = true := by
  obtain ⟨ps, hs⟩ := Option.isSome_iff_exists.1 h; exact in_refl hs
/-- Of two that have the same in them the longer one is in the shorter one. -/
theorem in_chain {d p q : Bs} (hp : inB d p = true) (hq : inB d q = true) (hl : p.length ≤ q.length) : inB q p = true := by
  obtain ⟨a, b, ha, hb, hab⟩ := in_some hp
  obtain ⟨a', c, ha', hc, hac⟩ := in_some hq
  rw [ha] at ha'
  injection ha' with ha'
  subst ha'
  rcases List.prefix_or_prefix_of_prefix hab hac with h | h
  · exact in_of hc hb h
  · have h2 := in_of hb hc h
    rcases chain hp hq hl with e | e
    · subst e; exact h2
    · exfalso
      obtain ⟨t, rfl⟩ := h
      have e1 := (split_joinP hb).1
      have e2 := (split_joinP hc).1
      have : q.length ≤ p.length := by
        rw [e1, e2]
        cases c with
        | nil => simp [joinP, jn]
        | cons z c => rw [List.cons_append, joinP_cons, joinP_cons]; unfold flat; simp
      omega
theorem bk_max {l : List Mt} {d : Bs} {n i : Nat} (h : bk l d n = some i) : ∀ j, i < j → j < n → inx l d j = false := by
  induction n with
  | zero => cases h
  | succ n ih =>
    unfold bk at h
    intro j hj hn
    by_cases e : inx l d n = true
    · rw [if_pos e] at h; cases h; omega
    · rw [if_neg e] at h
      rcases Nat.lt_or_eq_of_le (show j ≤ n by omega) with e2 | e2
      · exact ih h j hj e2
      · subst e2; simpa using e
/-- What of a directory's mount is so. -/
structure PkM (l : List Mt) (d : Bs) (k : Nat) (y : Mt) : Prop where
  kl : k < l.length
  tt : l[k]? = some y
  kb : bk l d l.length = some k
  ko : ofR l d = some k
  kp : pick l d = some y
  ki : inB d y.d = true
  kz : ∀ j, k < j → j < l.length → inx l d j = false
theorem PkM.mem {l : List Mt} {d : Bs} {k : Nat} {y : Mt} (h : PkM l d k y) : y ∈ l := List.mem_of_getElem? h.tt
theorem PkM.get {l : List Mt} {d : Bs} {k : Nat} {y : Mt} (h : PkM l d k y) : y = l[k]'h.kl := by
  have := h.tt; rw [List.getElem?_eq_getElem h.kl] at this; injection this with this; exact this.symm
theorem pkM {l : List Mt} (h : RtM l) {d : Bs} (hd : okP d = true) : ∃ k y, PkM l d k y := by
  obtain ⟨ps, hs⟩ := Option.isSome_iff_exists.1 hd
  have hne : pick l d ≠ none := by
    rw [pick_filter h]
    obtain ⟨x, r, rfl, hx⟩ := h.root
    rw [List.filter_cons, hx, if_pos (in_root hs)]
    intro hn
    rw [List.getLast?_eq_none_iff] at hn
    cases hn
  cases ho : ofR l d with
  | none => exact absurd (pick_none ho) hne
  | some k =>
    have hb := ho
    unfold ofR at hb
    rw [if_pos ((right_ifft l).2 h)] at hb
    have hk := ofR_lt ho
    have h2 := (bk_some hb).2
    rw [inx_at hk] at h2
    exact ⟨k, l[k], hk, List.getElem?_eq_getElem hk, hb, ho, pick_at ho, h2, bk_max hb⟩
/-- Whatever has it in it begins no greater. -/
theorem PkM.great {l : List Mt} (h : RtM l) {d : Bs} {k : Nat} {y x : Mt} (hy : PkM l d k y) (hx : x ∈ l) (hi : inB d x.d = true) : x = y ∨ lt x.d y.d = true := by
  obtain ⟨j, hj, rfl⟩ := List.getElem_of_mem hx
  have hk := hy.kl
  rcases Nat.lt_trichotomy j k with e | e | e
  · right; rw [hy.get]; exact h.up.at hj hk e
  · left; subst e; rw [hy.get]
  · have := hy.kz j e hj; rw [inx_at hj, hi] at this; cases this
/-- A mount of that very prefix is the prefix's mount. -/
theorem pick_of_get {l : List Mt} (h : RtM l) {p : Bs} {y : Mt} (hg : getM l p = some y) : pick l p = some y := by
  obtain ⟨hm, hd⟩ := getM_some hg
  have hok := (okM_p (h.ok y hm)).1
  rw [hd] at hok
  obtain ⟨k, z, hz⟩ := pkM h hok
  have hin : inB p y.d = true := by rw [hd]; exact in_self hok
  rcases hz.great h hm hin with e | e
  · rw [e]; exact hz.kp
  · exfalso
    have h1 := chain_lt hin hz.ki e
    have h2 := in_chain (in_self hok) hz.ki (by rw [hd] at h1; omega)
    have := in_anti hz.ki h2
    rw [hd] at e; rw [← this, lt_irrefl] at e; cases e
theorem may_ok {l : List Mt} {p : Bs} {to : Int} (h : mayM l p to = true) : RtM l ∧ okP p = true ∧ okG to = true := by
  unfold mayM at h; simp only [Bool.and_eq_true] at h; exact ⟨(right_ifft l).1 h.1.1, h.1.2, h.2⟩
theorem may_mk {l : List Mt} {p : Bs} {to : Int} (h1 : RtM l) (h2 : okP p = true) (h3 : okG to = true) : mayM l p to = true := by
  unfold mayM; rw [(right_ifft l).2 h1, h2, h3]; rfl
/-- The ways of Begin. -/
inductive BgW (l : List Mt) (p : Bs) (to : Int) : Bg → Prop where
  | arg : mayM l p to = false → BgW l p to ⟨[], mt0, 1⟩
  | again (y : Mt) : mayM l p to = true → getM l p = some y → mvM y = true → y.t = to → BgW l p to ⟨l, y, 0⟩
  | no : mayM l p to = true → rfs l p to ≠ 0 → (∀ y, getM l p = some y → ¬ (mvM y = true ∧ y.t = to)) → BgW l p to ⟨l, mt0, rfs l p to⟩
  | new (y : Mt) : mayM l p to = true → rfs l p to = 0 → pick l p = some y → (∀ y, getM l p = some y → ¬ (mvM y = true ∧ y.t = to)) → BgW l p to ⟨putM l ⟨p, y.g, y.e, to⟩, ⟨p, y.g, y.e, to⟩, 0⟩
theorem bgW (l : List Mt) (p : Bs) (to : Int) : BgW l p to (bgn l p to) := by
  unfold bgn
  by_cases hm : mayM l p to = true
  · rw [if_pos hm]
    have hnew : ∀ (hn : ∀ y, getM l p = some y → ¬ (mvM y = true ∧ y.t = to)), BgW l p to (if rfs l p to = 0 then ⟨putM l (newM l p to), newM l p to, 0⟩ else ⟨l, mt0, rfs l p to⟩) := by
      intro hn
      by_cases h0 : rfs l p to = 0
      · rw [if_pos h0]
        obtain ⟨k, y, hy⟩ := pkM (may_ok hm).1 (may_ok hm).2.1
        have : newM l p to = ⟨p, y.g, y.e, to⟩ := by unfold newM; rw [hy.kp]
        rw [this]
        exact .new y hm h0 hy.kp hn
      · rw [if_neg h0]; exact .no hm h0 hn
    cases hg : getM l p with
    | none => exact hnew (fun y h => by rw [hg] at h; cases h)
    | some y =>
      simp only
      by_cases h : mvM y = true ∧ y.t = to
      · rw [if_pos h]; exact .again y hm hg h.1 h.2
      · rw [if_neg h]; exact hnew (fun z hz => by rw [hg] at hz; injection hz with hz; subst hz; exact h)
  · rw [if_neg hm]; exact .arg (by simpa using hm)
theorem rfs_zero {l : List Mt} {p : Bs} {to : Int} {y : Mt} (hp : pick l p = some y) (h : rfs l p to = 0) : nearM l p = false ∧ y.g ≠ to ∧ ¬ ((getM l p).isNone = true ∧ l.length = 32) ∧ y.e ≠ mxN := by
  unfold rfs at h
  rw [hp] at h
  simp only at h
  cases hn : nearM l p with
  | true => rw [if_pos hn] at h; cases h
  | false =>
    rw [if_neg (by rw [hn]; exact Bool.false_ne_true)] at h
    by_cases hg : y.g = to
    · rw [if_pos hg] at h; cases h
    · rw [if_neg hg] at h
      by_cases hc : (getM l p).isNone = true ∧ l.length = 32 ∨ y.e = mxN
      · rw [if_pos hc] at h; cases h
      · exact ⟨rfl, hg, fun h => hc (.inl h), fun h => hc (.inr h)⟩
/-- What has begun. -/
structure Beg (l : List Mt) (p : Bs) (to : Int) (m : List Mt) (x : Mt) : Prop where
  was : RtM l
  okp : okP p = true
  okt : okG to = true
  rt : RtM m
  get : getM m p = some x
  d : x.d = p
  t : x.t = to
  mv : mvM x = true
  e : okE x.e = true
  put : m = putM l x
  len : l.length ≤ m.length
  own : ∃ y, pick l p = some y ∧ x.g = y.g ∧ x.e = y.e
theorem get_put_own {l : List Mt} (hu : UpM l) {x : Mt} (h : getM l x.d = some x) : putM l x = l := by
  have h1 := put_sett hu (x := x) (by rw [h]; rfl)
  rw [h1.2]
  rw [getM_place hu, dif_pos h1.1] at h
  split at h
  · injection h with h
    refine List.ext_getElem (by simp) (fun i h2 h3 => ?_)
    rw [List.getElem_set]
    split
    · next e => subst e; exact h.symm
    · rfl
  · cases h
theorem beg {l : List Mt} {p : Bs} {to : Int} {r : Bg} (h : BgW l p to r) (h0 : r.e = 0) : Beg l p to r.l r.m := by
  cases h with
  | arg h => cases h0
  | no h h1 h2 => exact absurd h0 h1
  | again y h hg hm ht =>
    obtain ⟨h1, h2, h3⟩ := may_ok h
    obtain ⟨hy, hd⟩ := getM_some hg
    exact ⟨h1, h2, h3, h1, hg, hd, ht, hm, (okM_p (h1.ok y hy)).2.2.2, (get_put_own h1.up (by rw [hd]; exact hg)).symm, Nat.le_refl _, y, pick_of_get h1 hg, rfl, rfl⟩
  | new y h hr hp hn =>
    obtain ⟨h1, h2, h3⟩ := may_ok h
    obtain ⟨k, z, hz⟩ := pkM h1 h2
    have hzy : z = y := by have := hz.kp; rw [hp] at this; injection this with this; exact this.symm
    subst hzy
    have hok := okM_p (h1.ok z hz.mem)
    obtain ⟨_, r2, r3, r4⟩ := rfs_zero hp hr
    have hx : okM (⟨p, z.g, z.e, to⟩ : Mt) = true := okM_mk h2 hok.2.1 h3 hok.2.2.2
    have hroom : (getM l p).isSome = true ∨ l.length < 32 := by
      cases hg : getM l p with
      | some _ => exact .inl rfl
      | none => right; have := h1.len; rw [hg] at r3; have : l.length ≠ 32 := fun e => r3 ⟨rfl, e⟩; omega
    exact ⟨h1, h2, h3, right_put h1 hx hroom, get_put h1.up _, rfl, rfl, by unfold mvM; simp; exact Ne.symm r2, hok.2.2.2, rfl, by simp only [len_put h1.up]; split <;> omega, z, hp, rfl, rfl⟩
theorem begN {l : List Mt} {p : Bs} {to : Int} {r : Bg} (h : BgW l p to r) (h0 : r.e ≠ 0) : r.e = 1 ∨ r.l = l := by
  cases h with
  | arg h => exact .inl rfl
  | no h h1 h2 => exact .inr rfl
  | again y h hg hm ht => exact absurd rfl h0
  | new y h hr hp hn => exact absurd rfl h0
theorem Beg.twice {l m : List Mt} {p : Bs} {to : Int} {x : Mt} (h : Beg l p to m x) : bgn m p to = ⟨m, x, 0⟩ := by
  unfold bgn
  rw [if_pos (may_mk h.rt h.okp h.okt), h.get]
  simp only
  rw [if_pos ⟨h.mv, h.t⟩]
theorem Beg.flip {l m : List Mt} {p : Bs} {to : Int} {x : Mt} (h : Beg l p to m x) (ep : Int) : flp m p ep to = if x.e = ep ∧ ep < mxN then ⟨putM m ⟨p, to, ep + 1, to⟩, 0⟩ else ⟨m, 133⟩ := by
  unfold flp
  rw [if_pos (may_mk h.rt h.okp h.okt), h.get]
  simp only
  rw [if_pos h.t]
  by_cases hc : x.e = ep ∧ ep < mxN
  · rw [if_pos ⟨h.mv, hc.1, hc.2⟩, if_pos hc]
  · rw [if_neg (fun k => hc k.2), if_neg hc, if_neg (fun k => by rw [h.mv] at k; cases k.1)]
theorem okE_iff {e : Int} : okE e = true ↔ 0 ≤ e ∧ e ≤ mxN := by unfold okE; rw [decide_eq_true_eq]
/-- What was flipped. -/
theorem Beg.flipped {l m : List Mt} {p : Bs} {to : Int} {x : Mt} (h : Beg l p to m x) (hx : x.e < mxN) :
    RtM (putM m ⟨p, to, x.e + 1, to⟩) ∧ getM (putM m ⟨p, to, x.e + 1, to⟩) p = some ⟨p, to, x.e + 1, to⟩ ∧ flp (putM m ⟨p, to, x.e + 1, to⟩) p x.e to = ⟨putM m ⟨p, to, x.e + 1, to⟩, 0⟩ := by
  have he := okE_iff.1 h.e
  have hr := right_put h.rt (x := ⟨p, to, x.e + 1, to⟩) (okM_mk h.okp h.okt h.okt (okE_iff.2 ⟨by simp only; omega, by simp only; omega⟩)) (.inl (by simp only [h.get]; rfl))
  have hg := get_put h.rt.up (⟨p, to, x.e + 1, to⟩ : Mt)
  refine ⟨hr, hg, ?_⟩
  unfold flp
  rw [if_pos (may_mk hr h.okp h.okt)]
  simp only at hg
  rw [hg]
  simp only
  rw [if_pos (by trivial), if_neg (fun k => by have := k.2.1; omega), if_pos (by simp [mvM])]
/-! ### MountsKeep -/
structure Kept (l m : List Mt) (d : Bs) (w : Mt) : Prop where
  rt : RtM m
  ex : ∃ k y, PkM m d k y ∧ y.g = w.g
theorem keep_begin {l : List Mt} {p d : Bs} {to : Int} {r : Bg} (h : BgW l p to r) (h0 : r.e = 0) (hd : okP d = true) {k : Nat} {w : Mt} (hw : PkM l d k w) : Kept l r.l d w := by
  have hb := beg h h0
  obtain ⟨k2, y, hy⟩ := pkM hb.rt hd
  refine ⟨hb.rt, k2, y, hy, ?_⟩
  obtain ⟨z, hz, hzg, hze⟩ := hb.own
  have hpp := pick_put hb.was (x := r.m) (by rw [← hb.put]; exact hb.rt) d
  rw [← hb.put, hy.kp, hw.kp] at hpp
  simp only at hpp
  by_cases hi : inB d r.m.d = true
  · rw [if_pos hi] at hpp
    by_cases hl : lt r.m.d w.d = true
    · rw [if_pos hl] at hpp; injection hpp with e; rw [e]
    · rw [if_neg hl] at hpp
      injection hpp with e
      rw [e, hzg]
      -- the prefix's mount is the directory's
      obtain ⟨kp, z', hz'⟩ := pkM hb.was hb.okp
      have e2 : z' = z := by have := hz'.kp; rw [hz] at this; injection this with this; exact this.symm
      subst e2
      rw [hb.d] at hi hl
      have hin : inB d z'.d = true := in_trans hi hz'.ki
      have hwp : inB p w.d = true := in_chain hw.ki hi (by
        by_cases e3 : w.d = p
        · rw [e3]; exact Nat.le_refl _
        · have := chain_lt hw.ki hi (lt_of (by simpa using hl) (Ne.symm e3)); omega)
      rcases hw.great hb.was hz'.mem hin with e3 | e3
      · rw [e3]
      · rcases hz'.great hb.was hw.mem hwp with e4 | e4
        · rw [e4]
        · rw [lt_asymm e3] at e4; cases e4
  · rw [if_neg hi] at hpp; injection hpp with e; rw [e]
structure KeptF (l m : List Mt) (p d : Bs) (to : Int) (w : Mt) : Prop where
  rt : RtM m
  ex : ∃ k y, PkM m d k y ∧ y.d = w.d ∧ (w.d ≠ p → y = w) ∧ (w.d = p → y.g = to)
theorem keep_flip {l : List Mt} {p d : Bs} {ep to : Int} (h0 : (flp l p ep to).e = 0) (hd : okP d = true) {k : Nat} {w : Mt} (hw : PkM l d k w) : KeptF l (flp l p ep to).l p d to w := by
  by_cases hm : mayM l p to = true
  · obtain ⟨h1, h2, h3⟩ := may_ok hm
    cases hg : getM l p with
    | none => unfold flp at h0; rw [if_pos hm, hg] at h0; cases h0
    | some y =>
      have hf : flp l p ep to = if y.t = to then (if mvM y = true ∧ y.e = ep ∧ ep < mxN then ⟨putM l ⟨p, to, ep + 1, to⟩, 0⟩ else if mvM y = false ∧ y.e = ep + 1 then ⟨l, 0⟩ else ⟨l, 133⟩) else ⟨l, 133⟩ := by
        unfold flp; rw [if_pos hm, hg]
      rw [hf] at h0 ⊢
      by_cases ht : y.t = to
      · rw [if_pos ht] at h0 ⊢
        obtain ⟨hym, hyd⟩ := getM_some hg
        by_cases hc : mvM y = true ∧ y.e = ep ∧ ep < mxN
        · rw [if_pos hc] at h0 ⊢
          simp only
          have hye := okE_iff.1 (okM_p (h1.ok y hym)).2.2.2
          have hrt : RtM (putM l ⟨p, to, ep + 1, to⟩) := right_put h1 (x := ⟨p, to, ep + 1, to⟩) (okM_mk h2 h3 h3 (okE_iff.2 ⟨by simp only; omega, by simp only; omega⟩)) (.inl (by simp only [hg]; rfl))
          obtain ⟨k2, z, hz⟩ := pkM hrt hd
          have hpp := pick_put h1 hrt d
          rw [hz.kp, hw.kp] at hpp
          simp only at hpp
          by_cases hi : inB d p = true
          · rw [if_pos hi] at hpp
            by_cases hl : lt p w.d = true
            · rw [if_pos hl] at hpp
              injection hpp with e
              subst e
              exact ⟨hrt, k2, z, hz, rfl, fun _ => rfl, fun e => by rw [e, lt_irrefl] at hl; cases hl⟩
            · rw [if_neg hl] at hpp
              injection hpp with e
              have hwp : w.d = p := by
                rcases hw.great h1 hym (by rw [hyd]; exact hi) with e2 | e2
                · rw [← e2]; exact hyd
                · rw [hyd] at e2; exact absurd e2 hl
              exact ⟨hrt, k2, z, hz, by rw [e, hwp], fun h => absurd hwp h, fun _ => by rw [e]⟩
          · rw [if_neg hi] at hpp
            injection hpp with e
            subst e
            exact ⟨hrt, k2, z, hz, rfl, fun _ => rfl, fun e => absurd hw.ki (by rw [e]; exact hi)⟩
        · rw [if_neg hc] at h0 ⊢
          by_cases hc2 : mvM y = false ∧ y.e = ep + 1
          · rw [if_pos hc2] at h0 ⊢
            refine ⟨h1, k, w, hw, rfl, fun _ => rfl, fun e => ?_⟩
            have h4 := getM_mem h1.up hw.mem
            rw [e, hg] at h4
            injection h4 with h4
            rw [← h4]
            have := hc2.1
            unfold mvM at this
            simp at this
            rw [← this]; exact ht
          · rw [if_neg hc2] at h0; cases h0
      · rw [if_neg ht] at h0; cases h0
  · unfold flp at h0; rw [if_neg hm] at h0; cases h0
/-! ### MountsApart -/
/-! ### MountsOne -/
end Pm
end Go.Proofs.Ytdfnfkknbjageaa

