/- mounts.Begin (gen_be.py) -/
import Derived.Test.YtajgjhkienhpjaaBd
namespace Go.Proofs.Ytajgjhkienhpjaa
set_option maxRecDepth 20000
set_option linter.unusedVariables false
set_option linter.unusedSimpArgs false
open Go.RowKit Pm


/-- What Begin answers. -/
structure BgR (w : World) (b : Bg) (e : Ending) (w' : World) : Prop where
  ex : ∃ v', e = .returned (.tuple #[v', mtV b.m, .int .i64 b.e]) ∧ NsM w' v' b.l
  fp : Fp Non w w'
theorem BxM.set {W : World} {b : Nat} {z : Mt} (h : BxM W b z) (x : Mt) :
    BxM ((((W.setCell ⟨b, 0, none⟩ (.string (B x.d))).setCell ⟨b, 1, none⟩ (.int .i64 x.g)).setCell ⟨b, 2, none⟩ (.int .i64 x.e)).setCell ⟨b, 3, none⟩ (.int .i64 x.t)) b x := by
  unfold BxM at h ⊢
  have h1 := heap_setCell_same W b 0 _ TM (.string (B x.d)) h
  have h2 := heap_setCell_same _ b 1 _ TM (.int .i64 x.g) h1
  have h3 := heap_setCell_same _ b 2 _ TM (.int .i64 x.e) h2
  have h4 := heap_setCell_same _ b 3 _ TM (.int .i64 x.t) h3
  rw [h4]; simp
theorem BxM.set2 {W : World} {b : Nat} {z : Mt} (h : BxM W b z) (p : Bs) (to : Int) :
    BxM ((W.setCell ⟨b, 0, none⟩ (.string (B p))).setCell ⟨b, 3, none⟩ (.int .i64 to)) b ⟨p, z.g, z.e, to⟩ := by
  unfold BxM at h ⊢
  have h1 := heap_setCell_same W b 0 _ TM (.string (B p)) h
  have h4 := heap_setCell_same _ b 3 _ TM (.int .i64 to) h1
  rw [h4]; simp
theorem BxM.fz {W : World} {b : Nat} {z : Mt} (h : BxM W b z) (o : Nat) : W.frozen? ⟨b, o, none⟩ = false := by unfold BxM at h; simp [World.frozen?, h]
theorem fp_set4 {a W : World} (f : Fp Non a W) {b : Nat} (hb : a.heap.size ≤ b) (v0 v1 v2 v3 : Value) :
    Fp Non a ((((W.setCell ⟨b, 0, none⟩ v0).setCell ⟨b, 1, none⟩ v1).setCell ⟨b, 2, none⟩ v2).setCell ⟨b, 3, none⟩ v3) := fp_putM (S := Non) f (.inr hb) 0 v0 v1 v2 v3
theorem NsM.at4 {W : World} {a : Option Addr} {n c : Nat} {l : List Mt} {b : Nat} (h : NsM W (.slice a n c) l) (hb : ∀ k, (Value.slice a n c).ownBlock = some k → k ≠ b) (v0 v1 v2 v3 : Value) :
    NsM ((((W.setCell ⟨b, 0, none⟩ v0).setCell ⟨b, 1, none⟩ v1).setCell ⟨b, 2, none⟩ v2).setCell ⟨b, 3, none⟩ v3) (.slice a n c) l :=
  h.keep (S := fun k => k = b) (fp_putM (S := fun k => k = b) (Fp.refl _ W) (.inl rfl) 0 v0 v1 v2 v3) hb

theorem bgn_no {l : List Mt} {p : Bs} {to : Int} (h : mayM l p to = false) : bgn l p to = ⟨[], mt0, 1⟩ := by unfold bgn; rw [if_neg (by rw [h]; exact Bool.false_ne_true)]
theorem bgn_again {l : List Mt} {p : Bs} {to : Int} {y : Mt} (h : mayM l p to = true) (hy : getM l p = some y) (hm : mvM y = true) (ht : y.t = to) : bgn l p to = ⟨l, y, 0⟩ := by
  unfold bgn; rw [if_pos h, hy]; simp only; rw [if_pos ⟨hm, ht⟩]
theorem bgn_new {l : List Mt} {p : Bs} {to : Int} (h : mayM l p to = true) (hn : ∀ y, getM l p = some y → ¬ (mvM y = true ∧ y.t = to)) : bgn l p to = if rfs l p to = 0 then ⟨putM l (newM l p to), newM l p to, 0⟩ else ⟨l, mt0, rfs l p to⟩ := by
  unfold bgn
  rw [if_pos h]
  cases e : getM l p with
  | none => rfl
  | some y => simp only; rw [if_neg (hn y e)]

set_option maxHeartbeats 8000000 in
theorem Begin_c (v : Value) (l : List Mt) (p : Bs) (to : Int) (w : World) (hv : NsM w v l) (hs : SzM l) (hp : p.length ≤ 1000000) :
    Calls Try.prog 12 #[v, .string (B p), .int .i64 to] w fun e w' => BgR w (bgn l p to) e w' := by
  have hmy := fun W (f : Fp Non w W) => may_c v l p to W (hv.non f) hs hp
  have hex := fun W (f : Fp Non w W) => exact_c v l p W (hv.non f) hs.p hs.n
  have hrf := fun W (f : Fp Non w W) (h : mayM l p to = true) => refusal_c v l p to W (hv.non f) hs hp ((right_iff l).1 (by unfold mayM at h; simp only [Bool.and_eq_true] at h; exact h.1.1)) (by unfold mayM at h; simp only [Bool.and_eq_true] at h; exact h.1.2)
  have hmo := fun W (f : Fp Non w W) => mountOf_c v l p W (hv.non f) hs.n hs.p hp
  have hpk : mayM l p to = true → RtM l ∧ ∃ k, ∃ hk : k < l.length, bk l p l.length = some k ∧ newM l p to = ⟨p, (l[k]).g, (l[k]).e, to⟩ := fun h => by
    unfold mayM at h; simp only [Bool.and_eq_true] at h
    obtain ⟨k, hk, h1, _, h2⟩ := pick_yes ((right_iff l).1 h.1.1) h.1.2
    exact ⟨(right_iff l).1 h.1.1, k, hk, h1, by unfold newM; rw [h2]⟩
  have hwi := fun W x (f : Fp Non w W) (h : RtM l) (hx : x.d = p) => with_c v l x W (hv.non f) h.up h.pos h.len hs.p (by rw [hx]; exact hp)
  have hnsw := fun W (f : Fp Non w W) => hv.non f
  obtain ⟨r, hr⟩ : ∃ r, bgn l p to = r := ⟨_, rfl⟩
  have hno := bgn_no (l := l) (p := p) (to := to)
  have hag := fun y => bgn_again (l := l) (p := p) (to := to) (y := y)
  have hnew := bgn_new (l := l) (p := p) (to := to)
  rw [hr] at hno hnew ⊢
  simp only [hr] at hag
  obtain ⟨er, her⟩ : ∃ er, rfs l p to = er := ⟨_, rfl⟩
  rw [her] at hrf hnew
  obtain ⟨my, hmm⟩ : ∃ b, mayM l p to = b := ⟨_, rfl⟩
  rw [hmm] at hmy hno hnew hpk hrf
  simp only [hmm] at hag
  obtain ⟨n, hn⟩ : ∃ n, n = l.length := ⟨_, rfl⟩
  obtain ⟨ao, cap, rfl⟩ := hv.shape
  have HAT := Lib.hid (fun k (hk : k < l.length) => (show ∃ g o, ao = some ⟨g, o, none⟩ ∧ NdAtM w g (o + k * 4) l[k] from by
    obtain ⟨g, o, cap', e, _, _, _, hcell⟩ := hv.at (by omega)
    injection e with e1 _ _
    exact ⟨g, o, e1, hcell k hk⟩))
  have hnb : n ≤ 1000000 := by have := hs.n; omega
  rw [← hn] at hmy hex hrf hmo hwi hnsw ⊢
  have HN := Lib.hid (And.intro hn hnsw)
  have HMY := Lib.hid hmy
  have HEX := Lib.hid hex
  have HRF := Lib.hid hrf
  have HMO := Lib.hid hmo
  have HWI := Lib.hid hwi
  have HPK := Lib.hid hpk
  have HNO := Lib.hid hno
  have HAG := Lib.hid hag
  have HNEW := Lib.hid hnew
  have hz : BxM (w.alloc (.cells #[.string ⟨#[]⟩, .int .i64 0, .int .i64 0, .int .i64 0] TM)) w.heap.size mt0 := BxM.new w mt0
  have H0 := Lib.hid (And.intro (fp_alloc w (.cells #[.string ⟨#[]⟩, .int .i64 0, .int .i64 0, .int .i64 0] TM)) hz)
  clear hmy hex hrf hmo hwi hpk hno hag hnew hz hnsw hv hs hp hr hn hmm her
  go_enter Try.func12, Try.ntmps12
  go_wp2_with fail
  refine (HMY.out _ H0.out.1).mono ?_
  rintro e w1 ⟨rfl, hf⟩
  have K1 := Lib.hid (And.intro (H0.out.1.then hf) (H0.out.2.non hf))
  clear hf H0
  cases my with
  | false =>
    have HE := Lib.hid (HNO.out (by first | rfl | trivial))
    have zz := K1.out.2.at
    have z0 : _ = some (Value.string ⟨#[]⟩) := zz.1; have z1 : _ = some (Value.int .i64 0) := zz.2.1; have z2 : _ = some (Value.int .i64 0) := zz.2.2.1; have z3 : _ = some (Value.int .i64 0) := zz.2.2.2
    have y0 := K1.out.2.fz 0; have y1 := K1.out.2.fz 1; have y2 := K1.out.2.fz 2; have y3 := K1.out.2.fz 3
    clear zz
    have HS := Lib.hid (show BxM ((((World.setCell w1 ⟨w.heap.size, 0, none⟩ (Value.string ⟨#[]⟩)).setCell ⟨w.heap.size, 1, none⟩ (Value.int .i64 0)).setCell ⟨w.heap.size, 2, none⟩ (Value.int .i64 0)).setCell ⟨w.heap.size, 3, none⟩ (Value.int .i64 0)) w.heap.size mt0 ∧ Fp Non w ((((World.setCell w1 ⟨w.heap.size, 0, none⟩ (Value.string ⟨#[]⟩)).setCell ⟨w.heap.size, 1, none⟩ (Value.int .i64 0)).setCell ⟨w.heap.size, 2, none⟩ (Value.int .i64 0)).setCell ⟨w.heap.size, 3, none⟩ (Value.int .i64 0)) from ⟨K1.out.2.set mt0, fp_set4 K1.out.1 (b := w.heap.size) (Nat.le_refl _) (Value.string ⟨#[]⟩) (Value.int .i64 0) (Value.int .i64 0) (Value.int .i64 0)⟩)
    go_wp2_with fail
    generalize ((((World.setCell w1 _ _).setCell _ _).setCell _ _).setCell _ _) = wz at *
    have ss := HS.out.1.at
    have s0 : _ = some (Value.string ⟨#[]⟩) := ss.1; have s1 : _ = some (Value.int .i64 0) := ss.2.1; have s2 : _ = some (Value.int .i64 0) := ss.2.2.1; have s3 : _ = some (Value.int .i64 0) := ss.2.2.2
    exact bodyPost_ret (v := .tuple #[(.slice none 0 0), .agg #[(Value.string ⟨#[]⟩), (Value.int .i64 0), (Value.int .i64 0), (Value.int .i64 0)], .int .i64 1]) (by simp [results, Try.results12, go_sem, s0, s1, s2, s3]) rfl (by rw [HE.out]; exact ⟨⟨_, rfl, NsM.nil _⟩, HS.out.2⟩)
  | true =>
  obtain ⟨hrt, k, hk, hbk, hnw⟩ := HPK.out (by first | rfl | trivial)
  obtain ⟨g0, o0, hao, hyk⟩ := HAT.out k hk
  subst hao
  have hmk := HMO.out
  rw [HN.out.1, hbk, ← HN.out.1] at hmk
  have HMK := Lib.hid hmk
  have hwx := fun W (f : Fp Non w W) => HWI.out W ⟨p, (l[k]).g, (l[k]).e, to⟩ f hrt rfl
  obtain ⟨y, hy⟩ : ∃ y, y = l[k] := ⟨_, rfl⟩
  rw [← hy] at hnw hyk hwx
  unfold mtV strV at hwx
  simp only at hwx
  have HWX := Lib.hid hwx
  have HY := Lib.hid hyk
  have hkn : k < n := by rw [HN.out.1]; exact hk
  have q1 : ((k : Int) < (n : Int)) = True := eq_true (by omega)
  have q2 : (k < n) = True := eq_true hkn
  have hkb : k ≤ 1000000 := by omega
  clear hmk hwx hyk hy hbk hrt hkn HPK HMO HWI hk
  go_wp2_with fail
  refine (HEX.out _ K1.out.1).mono ?_
  rintro e w2 ⟨rfl, hf⟩
  have K2 := Lib.hid (And.intro (K1.out.1.then hf) (K1.out.2.non hf))
  clear hf
  cases hex : exM l p with
  | none =>
    have HNW := Lib.hid (HNEW.out (by first | rfl | trivial) (fun y h => by rw [exM_no hex] at h; cases h))
    simp only [idx]
    clear HAG HNEW hex
    go_wp2_with fail
    refine (HRF.out _ K2.out.1 (by first | rfl | trivial)).mono ?_
    rintro e w5 ⟨rfl, hf⟩
    have K5 := Lib.hid (And.intro (K2.out.1.then hf) (K2.out.2.non hf))
    clear hf
    by_cases h0 : er = 0
    · subst h0
      have HE := Lib.hid (show r = ⟨putM l ⟨p, y.g, y.e, to⟩, ⟨p, y.g, y.e, to⟩, 0⟩ from by rw [HNW.out, if_pos rfl, hnw])
      go_wp2_with fail
      refine (HMK.out _ K5.out.1).mono ?_
      rintro e w6 ⟨rfl, hf⟩
      simp only [idx]
      have K6 := Lib.hid (And.intro (K5.out.1.then hf) (K5.out.2.non hf))
      have hnd := HY.out.keep K6.out.1 (fun h => h)
      have c0 := hnd.c0; have c1 := hnd.c1; have c2 := hnd.c2; have c3 := hnd.c3
      unfold strV at c0
      clear hf hnd
      go_wp2_with fail
      generalize hW7 : World.alloc w6 _ = w7
      have hb7 : BxM w7 w6.heap.size ⟨p, y.g, y.e, to⟩ := by rw [← hW7]; exact BxM.new w6 ⟨p, y.g, y.e, to⟩
      have hf7 : Fp Non w w7 := by rw [← hW7]; exact K6.out.1.then (fp_alloc w6 _)
      have hz7 : BxM w7 w.heap.size mt0 := by rw [← hW7]; exact K6.out.2.non (fp_alloc w6 _)
      have hlt6 := K6.out.2.lt
      have K7 := Lib.hid (And.intro (hf7.drew) (And.intro (hz7.non (Fp.refl Non w7).drew) (And.intro (hb7.non (Fp.refl Non w7).drew) hlt6)))
      clear hW7 hb7 hf7 hz7 c0 c1 c2 c3 hlt6
      refine wp_region_held_drew (S := (fun w' => w'.cell? ⟨w6.heap.size, 0, none⟩ = some (.string (B p)) ∧ w'.cell? ⟨w6.heap.size, 1, none⟩ = some (.int .i64 y.g) ∧ w'.cell? ⟨w6.heap.size, 2, none⟩ = some (.int .i64 y.e) ∧ w'.cell? ⟨w6.heap.size, 3, none⟩ = some (.int .i64 to))) (by kernel_rfl) ?_ (fun hHeld => ?_)
      · exact K7.out.2.2.1.at
      try simp only [zP, zN, zS, zT, zU]
      refine tk 0 hHeld ?_
      refine tk 1 hHeld ?_
      refine tk 3 hHeld ?_
      refine rY 2 (fun K hK => ?_)
      go_simp
      go_at_call 28
      refine (HWX.out _ K7.out.1).mono ?_
      intro e w8 hM
      obtain ⟨v8, rfl, hN8, hnew8⟩ := hM.ex
      have K8 := Lib.hid (And.intro (K7.out.1.then hM.fp) (And.intro (K7.out.2.1.non hM.fp) (And.intro (K7.out.2.2.1.non hM.fp) (And.intro hN8 (fun k hk => by have h1 := hnew8 k hk; have h2 := K7.out.2.1.lt; omega : ∀ k, v8.ownBlock = some k → k ≠ w.heap.size)))))
      clear hM hN8 hnew8
      go_wp2_with fail
      refine hK.out _ _ K8.out.2.2.1.at (fun hHeld => ?_)
      clear hK K
      try simp only [zP, zN, zS, zT, zU]
      refine tk 4 hHeld ?_
      have zz := K8.out.2.1.at
      have z0 : _ = some (Value.string ⟨#[]⟩) := zz.1; have z1 : _ = some (Value.int .i64 0) := zz.2.1; have z2 : _ = some (Value.int .i64 0) := zz.2.2.1; have z3 : _ = some (Value.int .i64 0) := zz.2.2.2
      have y0 := K8.out.2.1.fz 0; have y1 := K8.out.2.1.fz 1; have y2 := K8.out.2.1.fz 2; have y3 := K8.out.2.1.fz 3
      clear zz
      have HS := Lib.hid (show BxM ((((World.setCell w8 ⟨w.heap.size, 0, none⟩ (Value.string (B p))).setCell ⟨w.heap.size, 1, none⟩ (Value.int .i64 y.g)).setCell ⟨w.heap.size, 2, none⟩ (Value.int .i64 y.e)).setCell ⟨w.heap.size, 3, none⟩ (Value.int .i64 to)) w.heap.size ⟨p, y.g, y.e, to⟩ ∧ Fp Non w ((((World.setCell w8 ⟨w.heap.size, 0, none⟩ (Value.string (B p))).setCell ⟨w.heap.size, 1, none⟩ (Value.int .i64 y.g)).setCell ⟨w.heap.size, 2, none⟩ (Value.int .i64 y.e)).setCell ⟨w.heap.size, 3, none⟩ (Value.int .i64 to)) from ⟨K8.out.2.1.set ⟨p, y.g, y.e, to⟩, fp_set4 K8.out.1 (b := w.heap.size) (Nat.le_refl _) (Value.string (B p)) (Value.int .i64 y.g) (Value.int .i64 y.e) (Value.int .i64 to)⟩)
      have hN9 := Lib.hid (show NsM ((((World.setCell w8 ⟨w.heap.size, 0, none⟩ (Value.string (B p))).setCell ⟨w.heap.size, 1, none⟩ (Value.int .i64 y.g)).setCell ⟨w.heap.size, 2, none⟩ (Value.int .i64 y.e)).setCell ⟨w.heap.size, 3, none⟩ (Value.int .i64 to)) v8 (putM l ⟨p, y.g, y.e, to⟩) from K8.out.2.2.2.1.keep (S := fun k => k = w.heap.size) (fp_putM (S := fun k => k = w.heap.size) (Fp.refl _ w8) (.inl rfl) 0 _ _ _ _) (fun k hk e => K8.out.2.2.2.2 k hk e))
      have HB9 := Lib.hid (show BxM ((((World.setCell w8 ⟨w.heap.size, 0, none⟩ (Value.string (B p))).setCell ⟨w.heap.size, 1, none⟩ (Value.int .i64 y.g)).setCell ⟨w.heap.size, 2, none⟩ (Value.int .i64 y.e)).setCell ⟨w.heap.size, 3, none⟩ (Value.int .i64 to)) w6.heap.size ⟨p, y.g, y.e, to⟩ from (fp_putM (S := fun k => k = w.heap.size) (Fp.refl _ w8) (.inl rfl) 0 _ _ _ _).heap K8.out.2.2.1 (fun e => by have h := K7.out.2.2.2; have e : w6.heap.size = w.heap.size := e; omega))
      refine rY 5 (fun K hK => ?_)
      go_simp
      refine hK.out _ _ HB9.out.at (fun hHeld => ?_)
      clear hK K
      try simp only [zP, zN, zS, zT, zU]
      refine tk 6 hHeld ?_
      refine yD ?_
      clear z0 z1 z2 z3 y0 y1 y2 y3
      generalize ((((World.setCell w8 _ _).setCell _ _).setCell _ _).setCell _ _) = wz at *
      go_wp2_with fail
      have ss := HS.out.1.at
      have s0 : _ = some (Value.string (B p)) := ss.1; have s1 : _ = some (Value.int .i64 y.g) := ss.2.1; have s2 : _ = some (Value.int .i64 y.e) := ss.2.2.1; have s3 : _ = some (Value.int .i64 to) := ss.2.2.2
      exact bodyPost_ret (v := .tuple #[v8, .agg #[(Value.string (B p)), (Value.int .i64 y.g), (Value.int .i64 y.e), (Value.int .i64 to)], .int .i64 0]) (by simp [results, Try.results12, go_sem, s0, s1, s2, s3]) rfl (by rw [HE.out]; exact ⟨⟨_, rfl, hN9.out⟩, HS.out.2⟩)
    have q20 : (er == 0) = false := beq_eq_false_iff_ne.2 h0
    have q21 : (er = 0) = False := eq_false h0
    have q22 : (er != 0) = true := by simp [bne, q20]
    have HE := Lib.hid (show r = ⟨l, mt0, er⟩ from by rw [HNW.out, if_neg h0])
    clear h0
    have zz := K5.out.2.at
    have z0 : _ = some (Value.string ⟨#[]⟩) := zz.1; have z1 : _ = some (Value.int .i64 0) := zz.2.1; have z2 : _ = some (Value.int .i64 0) := zz.2.2.1; have z3 : _ = some (Value.int .i64 0) := zz.2.2.2
    have y0 := K5.out.2.fz 0; have y1 := K5.out.2.fz 1; have y2 := K5.out.2.fz 2; have y3 := K5.out.2.fz 3
    clear zz
    have HS := Lib.hid (show BxM ((((World.setCell w5 ⟨w.heap.size, 0, none⟩ (Value.string ⟨#[]⟩)).setCell ⟨w.heap.size, 1, none⟩ (Value.int .i64 0)).setCell ⟨w.heap.size, 2, none⟩ (Value.int .i64 0)).setCell ⟨w.heap.size, 3, none⟩ (Value.int .i64 0)) w.heap.size mt0 ∧ Fp Non w ((((World.setCell w5 ⟨w.heap.size, 0, none⟩ (Value.string ⟨#[]⟩)).setCell ⟨w.heap.size, 1, none⟩ (Value.int .i64 0)).setCell ⟨w.heap.size, 2, none⟩ (Value.int .i64 0)).setCell ⟨w.heap.size, 3, none⟩ (Value.int .i64 0)) from ⟨K5.out.2.set mt0, fp_set4 K5.out.1 (b := w.heap.size) (Nat.le_refl _) (Value.string ⟨#[]⟩) (Value.int .i64 0) (Value.int .i64 0) (Value.int .i64 0)⟩)
    go_wp2_with fail
    generalize ((((World.setCell w5 _ _).setCell _ _).setCell _ _).setCell _ _) = wz at *
    have ss := HS.out.1.at
    have s0 : _ = some (Value.string ⟨#[]⟩) := ss.1; have s1 : _ = some (Value.int .i64 0) := ss.2.1; have s2 : _ = some (Value.int .i64 0) := ss.2.2.1; have s3 : _ = some (Value.int .i64 0) := ss.2.2.2
    exact bodyPost_ret (v := .tuple #[(.slice (some ⟨g0, o0, none⟩) n cap), .agg #[(Value.string ⟨#[]⟩), (Value.int .i64 0), (Value.int .i64 0), (Value.int .i64 0)], .int .i64 er]) (by simp [results, Try.results12, go_sem, s0, s1, s2, s3]) rfl (by rw [HE.out]; exact ⟨⟨_, rfl, HN.out.2 _ HS.out.2⟩, HS.out.2⟩)
  | some j =>
    obtain ⟨hj, hjd⟩ := exM_some hex
    have hget := exM_at hex
    obtain ⟨g, o, hao, hxk⟩ := HAT.out j hj
    injection hao with hao
    injection hao with hg hoo
    subst hg hoo
    obtain ⟨x, hx⟩ : ∃ x, x = l[j] := ⟨_, rfl⟩
    rw [← hx] at hget hxk
    have HJ := Lib.hid hxk
    have HGET := Lib.hid hget
    have hjn : j < n := by rw [HN.out.1]; exact hj
    have q3 : ((j : Int) < (n : Int)) = True := eq_true (by omega)
    have q4 : (j < n) = True := eq_true hjn
    have hjb : j ≤ 1000000 := by omega
    have q5 : ((j : Int) == -1) = false := beq_eq_false_iff_ne.2 (by omega)
    have q6 : ((j : Int) = -1) = False := eq_false (by omega)
    have q7 : ((j : Int) != -1) = true := by simp [bne, q5]
    have hnd := HJ.out.keep K2.out.1 (fun h => h)
    have c0 := hnd.c0; have c1 := hnd.c1; have c2 := hnd.c2; have c3 := hnd.c3
    unfold strV at c0
    have hmv := fun W => moving_c x W
    unfold mtV strV at hmv
    obtain ⟨mv, hmvv⟩ : ∃ b, mvM x = b := ⟨_, rfl⟩
    rw [hmvv] at hmv
    have HMV := Lib.hid hmv
    have HMVV := Lib.hid hmvv
    simp only [idx]
    clear hget hxk hjn hnd hmv hmvv hx hj hex hjd
    go_wp2_with fail
    refine (HMV.out _).mono ?_
    rintro e w3 ⟨rfl, hf⟩
    have K3 := Lib.hid (And.intro (K2.out.1.then hf) (K2.out.2.non hf))
    clear hf c0 c1 c2 c3
    have hnd := HJ.out.keep K3.out.1 (fun h => h)
    have c0 := hnd.c0; have c1 := hnd.c1; have c2 := hnd.c2; have c3 := hnd.c3
    unfold strV at c0
    clear hnd
    cases mv with
    | false =>
      have HNW := Lib.hid (HNEW.out (by first | rfl | trivial) (fun y h => by rw [HGET.out] at h; injection h with h; subst h; rw [HMVV.out]; exact fun h => by cases h.1))
      clear HAG HNEW c0 c1 c2 c3
      go_wp2_with fail
      refine (HRF.out _ K3.out.1 (by first | rfl | trivial)).mono ?_
      rintro e w5 ⟨rfl, hf⟩
      have K5 := Lib.hid (And.intro (K3.out.1.then hf) (K3.out.2.non hf))
      clear hf
      by_cases h0 : er = 0
      · subst h0
        have HE := Lib.hid (show r = ⟨putM l ⟨p, y.g, y.e, to⟩, ⟨p, y.g, y.e, to⟩, 0⟩ from by rw [HNW.out, if_pos rfl, hnw])
        go_wp2_with fail
        refine (HMK.out _ K5.out.1).mono ?_
        rintro e w6 ⟨rfl, hf⟩
        simp only [idx]
        have K6 := Lib.hid (And.intro (K5.out.1.then hf) (K5.out.2.non hf))
        have hnd := HY.out.keep K6.out.1 (fun h => h)
        have c0 := hnd.c0; have c1 := hnd.c1; have c2 := hnd.c2; have c3 := hnd.c3
        unfold strV at c0
        clear hf hnd
        go_wp2_with fail
        generalize hW7 : World.alloc w6 _ = w7
        have hb7 : BxM w7 w6.heap.size ⟨p, y.g, y.e, to⟩ := by rw [← hW7]; exact BxM.new w6 ⟨p, y.g, y.e, to⟩
        have hf7 : Fp Non w w7 := by rw [← hW7]; exact K6.out.1.then (fp_alloc w6 _)
        have hz7 : BxM w7 w.heap.size mt0 := by rw [← hW7]; exact K6.out.2.non (fp_alloc w6 _)
        have hlt6 := K6.out.2.lt
        have K7 := Lib.hid (And.intro (hf7.drew) (And.intro (hz7.non (Fp.refl Non w7).drew) (And.intro (hb7.non (Fp.refl Non w7).drew) hlt6)))
        clear hW7 hb7 hf7 hz7 c0 c1 c2 c3 hlt6
        refine wp_region_held_drew (S := (fun w' => w'.cell? ⟨w6.heap.size, 0, none⟩ = some (.string (B p)) ∧ w'.cell? ⟨w6.heap.size, 1, none⟩ = some (.int .i64 y.g) ∧ w'.cell? ⟨w6.heap.size, 2, none⟩ = some (.int .i64 y.e) ∧ w'.cell? ⟨w6.heap.size, 3, none⟩ = some (.int .i64 to))) (by kernel_rfl) ?_ (fun hHeld => ?_)
        · exact K7.out.2.2.1.at
        try simp only [zP, zN, zS, zT, zU]
        refine tk 0 hHeld ?_
        refine tk 1 hHeld ?_
        refine tk 3 hHeld ?_
        refine rY 2 (fun K hK => ?_)
        go_simp
        go_at_call 28
        refine (HWX.out _ K7.out.1).mono ?_
        intro e w8 hM
        obtain ⟨v8, rfl, hN8, hnew8⟩ := hM.ex
        have K8 := Lib.hid (And.intro (K7.out.1.then hM.fp) (And.intro (K7.out.2.1.non hM.fp) (And.intro (K7.out.2.2.1.non hM.fp) (And.intro hN8 (fun k hk => by have h1 := hnew8 k hk; have h2 := K7.out.2.1.lt; omega : ∀ k, v8.ownBlock = some k → k ≠ w.heap.size)))))
        clear hM hN8 hnew8
        go_wp2_with fail
        refine hK.out _ _ K8.out.2.2.1.at (fun hHeld => ?_)
        clear hK K
        try simp only [zP, zN, zS, zT, zU]
        refine tk 4 hHeld ?_
        have zz := K8.out.2.1.at
        have z0 : _ = some (Value.string ⟨#[]⟩) := zz.1; have z1 : _ = some (Value.int .i64 0) := zz.2.1; have z2 : _ = some (Value.int .i64 0) := zz.2.2.1; have z3 : _ = some (Value.int .i64 0) := zz.2.2.2
        have y0 := K8.out.2.1.fz 0; have y1 := K8.out.2.1.fz 1; have y2 := K8.out.2.1.fz 2; have y3 := K8.out.2.1.fz 3
        clear zz
        have HS := Lib.hid (show BxM ((((World.setCell w8 ⟨w.heap.size, 0, none⟩ (Value.string (B p))).setCell ⟨w.heap.size, 1, none⟩ (Value.int .i64 y.g)).setCell ⟨w.heap.size, 2, none⟩ (Value.int .i64 y.e)).setCell ⟨w.heap.size, 3, none⟩ (Value.int .i64 to)) w.heap.size ⟨p, y.g, y.e, to⟩ ∧ Fp Non w ((((World.setCell w8 ⟨w.heap.size, 0, none⟩ (Value.string (B p))).setCell ⟨w.heap.size, 1, none⟩ (Value.int .i64 y.g)).setCell ⟨w.heap.size, 2, none⟩ (Value.int .i64 y.e)).setCell ⟨w.heap.size, 3, none⟩ (Value.int .i64 to)) from ⟨K8.out.2.1.set ⟨p, y.g, y.e, to⟩, fp_set4 K8.out.1 (b := w.heap.size) (Nat.le_refl _) (Value.string (B p)) (Value.int .i64 y.g) (Value.int .i64 y.e) (Value.int .i64 to)⟩)
        have hN9 := Lib.hid (show NsM ((((World.setCell w8 ⟨w.heap.size, 0, none⟩ (Value.string (B p))).setCell ⟨w.heap.size, 1, none⟩ (Value.int .i64 y.g)).setCell ⟨w.heap.size, 2, none⟩ (Value.int .i64 y.e)).setCell ⟨w.heap.size, 3, none⟩ (Value.int .i64 to)) v8 (putM l ⟨p, y.g, y.e, to⟩) from K8.out.2.2.2.1.keep (S := fun k => k = w.heap.size) (fp_putM (S := fun k => k = w.heap.size) (Fp.refl _ w8) (.inl rfl) 0 _ _ _ _) (fun k hk e => K8.out.2.2.2.2 k hk e))
        have HB9 := Lib.hid (show BxM ((((World.setCell w8 ⟨w.heap.size, 0, none⟩ (Value.string (B p))).setCell ⟨w.heap.size, 1, none⟩ (Value.int .i64 y.g)).setCell ⟨w.heap.size, 2, none⟩ (Value.int .i64 y.e)).setCell ⟨w.heap.size, 3, none⟩ (Value.int .i64 to)) w6.heap.size ⟨p, y.g, y.e, to⟩ from (fp_putM (S := fun k => k = w.heap.size) (Fp.refl _ w8) (.inl rfl) 0 _ _ _ _).heap K8.out.2.2.1 (fun e => by have h := K7.out.2.2.2; have e : w6.heap.size = w.heap.size := e; omega))
        refine rY 5 (fun K hK => ?_)
        go_simp
        refine hK.out _ _ HB9.out.at (fun hHeld => ?_)
        clear hK K
        try simp only [zP, zN, zS, zT, zU]
        refine tk 6 hHeld ?_
        refine yD ?_
        clear z0 z1 z2 z3 y0 y1 y2 y3
        generalize ((((World.setCell w8 _ _).setCell _ _).setCell _ _).setCell _ _) = wz at *
        go_wp2_with fail
        have ss := HS.out.1.at
        have s0 : _ = some (Value.string (B p)) := ss.1; have s1 : _ = some (Value.int .i64 y.g) := ss.2.1; have s2 : _ = some (Value.int .i64 y.e) := ss.2.2.1; have s3 : _ = some (Value.int .i64 to) := ss.2.2.2
        exact bodyPost_ret (v := .tuple #[v8, .agg #[(Value.string (B p)), (Value.int .i64 y.g), (Value.int .i64 y.e), (Value.int .i64 to)], .int .i64 0]) (by simp [results, Try.results12, go_sem, s0, s1, s2, s3]) rfl (by rw [HE.out]; exact ⟨⟨_, rfl, hN9.out⟩, HS.out.2⟩)
      have q20 : (er == 0) = false := beq_eq_false_iff_ne.2 h0
      have q21 : (er = 0) = False := eq_false h0
      have q22 : (er != 0) = true := by simp [bne, q20]
      have HE := Lib.hid (show r = ⟨l, mt0, er⟩ from by rw [HNW.out, if_neg h0])
      clear h0
      have zz := K5.out.2.at
      have z0 : _ = some (Value.string ⟨#[]⟩) := zz.1; have z1 : _ = some (Value.int .i64 0) := zz.2.1; have z2 : _ = some (Value.int .i64 0) := zz.2.2.1; have z3 : _ = some (Value.int .i64 0) := zz.2.2.2
      have y0 := K5.out.2.fz 0; have y1 := K5.out.2.fz 1; have y2 := K5.out.2.fz 2; have y3 := K5.out.2.fz 3
      clear zz
      have HS := Lib.hid (show BxM ((((World.setCell w5 ⟨w.heap.size, 0, none⟩ (Value.string ⟨#[]⟩)).setCell ⟨w.heap.size, 1, none⟩ (Value.int .i64 0)).setCell ⟨w.heap.size, 2, none⟩ (Value.int .i64 0)).setCell ⟨w.heap.size, 3, none⟩ (Value.int .i64 0)) w.heap.size mt0 ∧ Fp Non w ((((World.setCell w5 ⟨w.heap.size, 0, none⟩ (Value.string ⟨#[]⟩)).setCell ⟨w.heap.size, 1, none⟩ (Value.int .i64 0)).setCell ⟨w.heap.size, 2, none⟩ (Value.int .i64 0)).setCell ⟨w.heap.size, 3, none⟩ (Value.int .i64 0)) from ⟨K5.out.2.set mt0, fp_set4 K5.out.1 (b := w.heap.size) (Nat.le_refl _) (Value.string ⟨#[]⟩) (Value.int .i64 0) (Value.int .i64 0) (Value.int .i64 0)⟩)
      go_wp2_with fail
      generalize ((((World.setCell w5 _ _).setCell _ _).setCell _ _).setCell _ _) = wz at *
      have ss := HS.out.1.at
      have s0 : _ = some (Value.string ⟨#[]⟩) := ss.1; have s1 : _ = some (Value.int .i64 0) := ss.2.1; have s2 : _ = some (Value.int .i64 0) := ss.2.2.1; have s3 : _ = some (Value.int .i64 0) := ss.2.2.2
      exact bodyPost_ret (v := .tuple #[(.slice (some ⟨g0, o0, none⟩) n cap), .agg #[(Value.string ⟨#[]⟩), (Value.int .i64 0), (Value.int .i64 0), (Value.int .i64 0)], .int .i64 er]) (by simp [results, Try.results12, go_sem, s0, s1, s2, s3]) rfl (by rw [HE.out]; exact ⟨⟨_, rfl, HN.out.2 _ HS.out.2⟩, HS.out.2⟩)
    | true =>
      by_cases ht : x.t = to
      · have q8 : (x.t == to) = true := beq_iff_eq.2 ht
        have q9 : (x.t = to) = True := eq_true ht
        have HE := Lib.hid (HAG.out x (by first | rfl | trivial) HGET.out HMVV.out ht)
        clear ht HAG HNEW
        go_wp2_with fail
        have hnd4 := HJ.out.keep (K3.out.1.drew) (fun h => h)
        have K4 := Lib.hid (And.intro (K3.out.1.drew) (And.intro (K3.out.2.non (Fp.refl Non w3).drew) hnd4))
        clear c0 c1 c2 c3 hnd4
        refine wp_region_held_drew (S := (fun w' => w'.cell? ⟨g0, o0 + j * 4, none⟩ = some (.string (B x.d)) ∧ w'.cell? ⟨g0, o0 + j * 4 + 1, none⟩ = some (.int .i64 x.g) ∧ w'.cell? ⟨g0, o0 + j * 4 + 2, none⟩ = some (.int .i64 x.e) ∧ w'.cell? ⟨g0, o0 + j * 4 + 3, none⟩ = some (.int .i64 x.t))) (by kernel_rfl) ?_ (fun hHeld => ?_)
        · exact ⟨K4.out.2.2.c0, K4.out.2.2.c1, K4.out.2.2.c2, K4.out.2.2.c3⟩
        try simp only [zP, zN, zS, zT, zU]
        refine tk 0 hHeld ?_
        refine tk 1 hHeld ?_
        refine tk 2 hHeld ?_
        refine tk 3 hHeld ?_
        refine tk 4 hHeld ?_
        refine tk 5 hHeld ?_
        generalize World.drew w3 = w4 at *
        have zz := K4.out.2.1.at
        have z0 : _ = some (Value.string ⟨#[]⟩) := zz.1; have z1 : _ = some (Value.int .i64 0) := zz.2.1; have z2 : _ = some (Value.int .i64 0) := zz.2.2.1; have z3 : _ = some (Value.int .i64 0) := zz.2.2.2
        have y0 := K4.out.2.1.fz 0; have y1 := K4.out.2.1.fz 1; have y2 := K4.out.2.1.fz 2; have y3 := K4.out.2.1.fz 3
        clear zz
        have HS := Lib.hid (show BxM ((((World.setCell w4 ⟨w.heap.size, 0, none⟩ (Value.string (B x.d))).setCell ⟨w.heap.size, 1, none⟩ (Value.int .i64 x.g)).setCell ⟨w.heap.size, 2, none⟩ (Value.int .i64 x.e)).setCell ⟨w.heap.size, 3, none⟩ (Value.int .i64 x.t)) w.heap.size x ∧ Fp Non w ((((World.setCell w4 ⟨w.heap.size, 0, none⟩ (Value.string (B x.d))).setCell ⟨w.heap.size, 1, none⟩ (Value.int .i64 x.g)).setCell ⟨w.heap.size, 2, none⟩ (Value.int .i64 x.e)).setCell ⟨w.heap.size, 3, none⟩ (Value.int .i64 x.t)) from ⟨K4.out.2.1.set x, fp_set4 K4.out.1 (b := w.heap.size) (Nat.le_refl _) (Value.string (B x.d)) (Value.int .i64 x.g) (Value.int .i64 x.e) (Value.int .i64 x.t)⟩)
        have HB9 := Lib.hid (show NdAtM ((((World.setCell w4 ⟨w.heap.size, 0, none⟩ (Value.string (B x.d))).setCell ⟨w.heap.size, 1, none⟩ (Value.int .i64 x.g)).setCell ⟨w.heap.size, 2, none⟩ (Value.int .i64 x.e)).setCell ⟨w.heap.size, 3, none⟩ (Value.int .i64 x.t)) g0 (o0 + j * 4) x from HJ.out.keep HS.out.2 (fun h => h))
        refine rY 6 (fun K hK => ?_)
        go_simp
        refine hK.out _ _ ⟨HB9.out.c0, HB9.out.c1, HB9.out.c2, HB9.out.c3⟩ (fun hHeld => ?_)
        clear hK K
        try simp only [zP, zN, zS, zT, zU]
        refine tk 7 hHeld ?_
        refine yD ?_
        clear z0 z1 z2 z3 y0 y1 y2 y3
        generalize ((((World.setCell w4 _ _).setCell _ _).setCell _ _).setCell _ _) = wz at *
        go_wp2_with fail
        have ss := HS.out.1.at
        have s0 : _ = some (Value.string (B x.d)) := ss.1; have s1 : _ = some (Value.int .i64 x.g) := ss.2.1; have s2 : _ = some (Value.int .i64 x.e) := ss.2.2.1; have s3 : _ = some (Value.int .i64 x.t) := ss.2.2.2
        exact bodyPost_ret (v := .tuple #[(.slice (some ⟨g0, o0, none⟩) n cap), .agg #[(Value.string (B x.d)), (Value.int .i64 x.g), (Value.int .i64 x.e), (Value.int .i64 x.t)], .int .i64 0]) (by simp [results, Try.results12, go_sem, s0, s1, s2, s3]) rfl (by rw [HE.out]; exact ⟨⟨_, rfl, HN.out.2 _ HS.out.2⟩, HS.out.2⟩)
      · have q8 : (x.t == to) = false := beq_eq_false_iff_ne.2 ht
        have q9 : (x.t = to) = False := eq_false ht
        have HNW := Lib.hid (HNEW.out (by first | rfl | trivial) (fun y h => by rw [HGET.out] at h; injection h with h; subst h; exact fun h => ht h.2))
        clear ht HAG HNEW
        go_wp2_with fail
        refine (HRF.out _ K3.out.1 (by first | rfl | trivial)).mono ?_
        rintro e w5 ⟨rfl, hf⟩
        have K5 := Lib.hid (And.intro (K3.out.1.then hf) (K3.out.2.non hf))
        clear hf
        by_cases h0 : er = 0
        · subst h0
          have HE := Lib.hid (show r = ⟨putM l ⟨p, y.g, y.e, to⟩, ⟨p, y.g, y.e, to⟩, 0⟩ from by rw [HNW.out, if_pos rfl, hnw])
          go_wp2_with fail
          refine (HMK.out _ K5.out.1).mono ?_
          rintro e w6 ⟨rfl, hf⟩
          simp only [idx]
          have K6 := Lib.hid (And.intro (K5.out.1.then hf) (K5.out.2.non hf))
          have hnd := HY.out.keep K6.out.1 (fun h => h)
          have c0 := hnd.c0; have c1 := hnd.c1; have c2 := hnd.c2; have c3 := hnd.c3
          unfold strV at c0
          clear hf hnd
          go_wp2_with fail
          generalize hW7 : World.alloc w6 _ = w7
          have hb7 : BxM w7 w6.heap.size ⟨p, y.g, y.e, to⟩ := by rw [← hW7]; exact BxM.new w6 ⟨p, y.g, y.e, to⟩
          have hf7 : Fp Non w w7 := by rw [← hW7]; exact K6.out.1.then (fp_alloc w6 _)
          have hz7 : BxM w7 w.heap.size mt0 := by rw [← hW7]; exact K6.out.2.non (fp_alloc w6 _)
          have hlt6 := K6.out.2.lt
          have K7 := Lib.hid (And.intro (hf7.drew) (And.intro (hz7.non (Fp.refl Non w7).drew) (And.intro (hb7.non (Fp.refl Non w7).drew) hlt6)))
          clear hW7 hb7 hf7 hz7 c0 c1 c2 c3 hlt6
          refine wp_region_held_drew (S := (fun w' => w'.cell? ⟨w6.heap.size, 0, none⟩ = some (.string (B p)) ∧ w'.cell? ⟨w6.heap.size, 1, none⟩ = some (.int .i64 y.g) ∧ w'.cell? ⟨w6.heap.size, 2, none⟩ = some (.int .i64 y.e) ∧ w'.cell? ⟨w6.heap.size, 3, none⟩ = some (.int .i64 to))) (by kernel_rfl) ?_ (fun hHeld => ?_)
          · exact K7.out.2.2.1.at
          try simp only [zP, zN, zS, zT, zU]
          refine tk 0 hHeld ?_
          refine tk 1 hHeld ?_
          refine tk 3 hHeld ?_
          refine rY 2 (fun K hK => ?_)
          go_simp
          go_at_call 28
          refine (HWX.out _ K7.out.1).mono ?_
          intro e w8 hM
          obtain ⟨v8, rfl, hN8, hnew8⟩ := hM.ex
          have K8 := Lib.hid (And.intro (K7.out.1.then hM.fp) (And.intro (K7.out.2.1.non hM.fp) (And.intro (K7.out.2.2.1.non hM.fp) (And.intro hN8 (fun k hk => by have h1 := hnew8 k hk; have h2 := K7.out.2.1.lt; omega : ∀ k, v8.ownBlock = some k → k ≠ w.heap.size)))))
          clear hM hN8 hnew8
          go_wp2_with fail
          refine hK.out _ _ K8.out.2.2.1.at (fun hHeld => ?_)
          clear hK K
          try simp only [zP, zN, zS, zT, zU]
          refine tk 4 hHeld ?_
          have zz := K8.out.2.1.at
          have z0 : _ = some (Value.string ⟨#[]⟩) := zz.1; have z1 : _ = some (Value.int .i64 0) := zz.2.1; have z2 : _ = some (Value.int .i64 0) := zz.2.2.1; have z3 : _ = some (Value.int .i64 0) := zz.2.2.2
          have y0 := K8.out.2.1.fz 0; have y1 := K8.out.2.1.fz 1; have y2 := K8.out.2.1.fz 2; have y3 := K8.out.2.1.fz 3
          clear zz
          have HS := Lib.hid (show BxM ((((World.setCell w8 ⟨w.heap.size, 0, none⟩ (Value.string (B p))).setCell ⟨w.heap.size, 1, none⟩ (Value.int .i64 y.g)).setCell ⟨w.heap.size, 2, none⟩ (Value.int .i64 y.e)).setCell ⟨w.heap.size, 3, none⟩ (Value.int .i64 to)) w.heap.size ⟨p, y.g, y.e, to⟩ ∧ Fp Non w ((((World.setCell w8 ⟨w.heap.size, 0, none⟩ (Value.string (B p))).setCell ⟨w.heap.size, 1, none⟩ (Value.int .i64 y.g)).setCell ⟨w.heap.size, 2, none⟩ (Value.int .i64 y.e)).setCell ⟨w.heap.size, 3, none⟩ (Value.int .i64 to)) from ⟨K8.out.2.1.set ⟨p, y.g, y.e, to⟩, fp_set4 K8.out.1 (b := w.heap.size) (Nat.le_refl _) (Value.string (B p)) (Value.int .i64 y.g) (Value.int .i64 y.e) (Value.int .i64 to)⟩)
          have hN9 := Lib.hid (show NsM ((((World.setCell w8 ⟨w.heap.size, 0, none⟩ (Value.string (B p))).setCell ⟨w.heap.size, 1, none⟩ (Value.int .i64 y.g)).setCell ⟨w.heap.size, 2, none⟩ (Value.int .i64 y.e)).setCell ⟨w.heap.size, 3, none⟩ (Value.int .i64 to)) v8 (putM l ⟨p, y.g, y.e, to⟩) from K8.out.2.2.2.1.keep (S := fun k => k = w.heap.size) (fp_putM (S := fun k => k = w.heap.size) (Fp.refl _ w8) (.inl rfl) 0 _ _ _ _) (fun k hk e => K8.out.2.2.2.2 k hk e))
          have HB9 := Lib.hid (show BxM ((((World.setCell w8 ⟨w.heap.size, 0, none⟩ (Value.string (B p))).setCell ⟨w.heap.size, 1, none⟩ (Value.int .i64 y.g)).setCell ⟨w.heap.size, 2, none⟩ (Value.int .i64 y.e)).setCell ⟨w.heap.size, 3, none⟩ (Value.int .i64 to)) w6.heap.size ⟨p, y.g, y.e, to⟩ from (fp_putM (S := fun k => k = w.heap.size) (Fp.refl _ w8) (.inl rfl) 0 _ _ _ _).heap K8.out.2.2.1 (fun e => by have h := K7.out.2.2.2; have e : w6.heap.size = w.heap.size := e; omega))
          refine rY 5 (fun K hK => ?_)
          go_simp
          refine hK.out _ _ HB9.out.at (fun hHeld => ?_)
          clear hK K
          try simp only [zP, zN, zS, zT, zU]
          refine tk 6 hHeld ?_
          refine yD ?_
          clear z0 z1 z2 z3 y0 y1 y2 y3
          generalize ((((World.setCell w8 _ _).setCell _ _).setCell _ _).setCell _ _) = wz at *
          go_wp2_with fail
          have ss := HS.out.1.at
          have s0 : _ = some (Value.string (B p)) := ss.1; have s1 : _ = some (Value.int .i64 y.g) := ss.2.1; have s2 : _ = some (Value.int .i64 y.e) := ss.2.2.1; have s3 : _ = some (Value.int .i64 to) := ss.2.2.2
          exact bodyPost_ret (v := .tuple #[v8, .agg #[(Value.string (B p)), (Value.int .i64 y.g), (Value.int .i64 y.e), (Value.int .i64 to)], .int .i64 0]) (by simp [results, Try.results12, go_sem, s0, s1, s2, s3]) rfl (by rw [HE.out]; exact ⟨⟨_, rfl, hN9.out⟩, HS.out.2⟩)
        have q20 : (er == 0) = false := beq_eq_false_iff_ne.2 h0
        have q21 : (er = 0) = False := eq_false h0
        have q22 : (er != 0) = true := by simp [bne, q20]
        have HE := Lib.hid (show r = ⟨l, mt0, er⟩ from by rw [HNW.out, if_neg h0])
        clear h0
        have zz := K5.out.2.at
        have z0 : _ = some (Value.string ⟨#[]⟩) := zz.1; have z1 : _ = some (Value.int .i64 0) := zz.2.1; have z2 : _ = some (Value.int .i64 0) := zz.2.2.1; have z3 : _ = some (Value.int .i64 0) := zz.2.2.2
        have y0 := K5.out.2.fz 0; have y1 := K5.out.2.fz 1; have y2 := K5.out.2.fz 2; have y3 := K5.out.2.fz 3
        clear zz
        have HS := Lib.hid (show BxM ((((World.setCell w5 ⟨w.heap.size, 0, none⟩ (Value.string ⟨#[]⟩)).setCell ⟨w.heap.size, 1, none⟩ (Value.int .i64 0)).setCell ⟨w.heap.size, 2, none⟩ (Value.int .i64 0)).setCell ⟨w.heap.size, 3, none⟩ (Value.int .i64 0)) w.heap.size mt0 ∧ Fp Non w ((((World.setCell w5 ⟨w.heap.size, 0, none⟩ (Value.string ⟨#[]⟩)).setCell ⟨w.heap.size, 1, none⟩ (Value.int .i64 0)).setCell ⟨w.heap.size, 2, none⟩ (Value.int .i64 0)).setCell ⟨w.heap.size, 3, none⟩ (Value.int .i64 0)) from ⟨K5.out.2.set mt0, fp_set4 K5.out.1 (b := w.heap.size) (Nat.le_refl _) (Value.string ⟨#[]⟩) (Value.int .i64 0) (Value.int .i64 0) (Value.int .i64 0)⟩)
        go_wp2_with fail
        generalize ((((World.setCell w5 _ _).setCell _ _).setCell _ _).setCell _ _) = wz at *
        have ss := HS.out.1.at
        have s0 : _ = some (Value.string ⟨#[]⟩) := ss.1; have s1 : _ = some (Value.int .i64 0) := ss.2.1; have s2 : _ = some (Value.int .i64 0) := ss.2.2.1; have s3 : _ = some (Value.int .i64 0) := ss.2.2.2
        exact bodyPost_ret (v := .tuple #[(.slice (some ⟨g0, o0, none⟩) n cap), .agg #[(Value.string ⟨#[]⟩), (Value.int .i64 0), (Value.int .i64 0), (Value.int .i64 0)], .int .i64 er]) (by simp [results, Try.results12, go_sem, s0, s1, s2, s3]) rfl (by rw [HE.out]; exact ⟨⟨_, rfl, HN.out.2 _ HS.out.2⟩, HS.out.2⟩)

end Go.Proofs.Ytajgjhkienhpjaa
