/- A text of this proof. -/
import Derived.Test.YtphoglepiegeiaaGreatDoorZDS
set_option linter.unusedSimpArgs false
set_option linter.unusedVariables false
namespace Go.Proofs.YtphoglepiegeiaaGreatDoor
set_option maxRecDepth 20000
open Go.RowKit Pm
attribute [local irreducible] wpStill
theorem DoM.non {w W W' : World} {vn0 vt0 : Value} {k : Int} {d p da : Bs} {v o : Int} {t : Bool} {b : Nat} {s' : St} {r : Res} {q : Nat} {nv : Value} (h : DoM w vn0 vt0 k d p da v o t b s' r q nv W) (f : Fp Non W W') : DoM w vn0 vt0 k d p da v o t b s' r q nv W' := by
 obtain ⟨vn', vt', h1⟩ := h.ex
 exact ⟨⟨vn', vt', h1.non f⟩, h.own.grown' f, h.bx.non f, h.q4, f.heap h.row id⟩
structure PickQ (lo b : Nat) (vn vt : Value) (s s' : St) (R : Res) (x : Pt) (fk : Nat) (fc : Array Value) : Prop where
 ix : ∀ w, (Instr.index 89 effV (.int .i64 x.kind)).run Tryz.prog w = .ok (.func (.func fk) #[] fc) w
 en : Enters Tryz.prog fk
 call : ∀ w', Sw lo b vn vt s w' → Tab w' → Calls Tryz.prog fk (#[.pointer (some ⟨b, 0, none⟩), ptV x] ++ fc) w' (PmR lo b vn vt s' R w')
set_option maxHeartbeats 40000000 in
theorem Do_go (vn0 vt0 : Value) (s : St) (x : Pt) (w : World) (hv : Sto w (.agg #[vn0, vt0]) s) (hs : Sp s.nodes) (hst : ∀ t ∈ s.turns, t.dir.length ≤ 1000000) (hn : s.nodes.length ≤ 3900) (hnt : s.turns.length ≤ 3900) (hp : x.path.length ≤ 1000000) (ht : Tab w) (hyr : StR s) (hym : mayP x = true) :
  Calls Tryz.prog 17 #[.agg #[vn0, vt0], ptV x] w (DoR w (doP s x).1 (doP s x).2) := by
 have hrc := fun W (f : Fp Non w W) => rightP_c (.agg #[vn0, vt0]) s W (hv.non f) hs (by omega) hst (by omega)
 have hmc := fun W => mayP_c x W hp
 rw [rightS_true hyr] at hrc
 rw [hym] at hmc
 have hpk := fun lo b vn vt => pickP lo b vn vt s x hyr hym hn hnt
 have herr := doP_err s x
 obtain ⟨s', hs'⟩ : ∃ s', (doP s x).1 = s' := ⟨_, rfl⟩
 obtain ⟨R, hR⟩ : ∃ R, (doP s x).2 = R := ⟨_, rfl⟩
 have hpk2 : ∀ lo b vn vt, ∃ fk fc, PickP lo b vn vt s x fk fc := hpk
 have hfin : R.err ≠ 0 → s' = s := fun h => by rw [← hs']; exact (herr.2 (by rw [hR]; exact h)).1
 have hcn := fun W (f : Fp Non w W) (vn : Value) (h : Ns W vn s.nodes) => Clone_own vn s.nodes W h (by omega)
 have hct := fun W (f : Fp Non w W) (vt : Value) (h : Ts W vt s.turns) => CloneT_own vt s.turns W h (by omega)
 obtain ⟨vn0', vt0', e0, hns, hts⟩ := hv.ex
 injection e0 with e0
 injection e0 with e0
 injection e0 with e1 e0
 injection e0 with e2 _
 subst e1 e2
 have HCN := Lib.hid (fun W (f : Fp Non w W) => hcn W f vn0 (hns.non f))
 have HCT := Lib.hid (fun W (f : Fp Non w W) => hct W f vt0 (hts.non f))
 have HNS := Lib.hid (And.intro hns hts)
 obtain ⟨an, cn, rfl⟩ := hns.shape
 obtain ⟨at_, ct, rfl⟩ := hts.shape
 have HTab := Lib.hid ht
 have HPK : Hid (∀ lo b vn vt, ∃ fk fc, PickP lo b vn vt s x fk fc ∧ ∀ w', Sw lo b vn vt s w' → Tab w' → Calls Tryz.prog fk (#[.pointer (some ⟨b, 0, none⟩), ptV x] ++ fc) w' (PmR lo b vn vt s' R w')) := fun lo b vn vt => by
  obtain ⟨fk, fc, h⟩ := hpk lo b vn vt
  exact ⟨fk, fc, h, fun w' h1 h2 => by rw [← hs', ← hR]; exact h.call w' h1 h2⟩
 have HFIN := Lib.hid hfin
 rw [hs', hR]
 obtain ⟨k, d, p, da, v, o, t⟩ := x
 have hpt : ptV ⟨k, d, p, da, v, o, t⟩ = .agg #[.int .i64 k, .string (B d), .string (B p), .string (B da), .int .i64 v, .int .i64 o, .bool t] := rfl
 rw [hpt] at hmc ⊢
 have K0 := Lib.hid (Kp.dob (DoB.made w (.slice an s.nodes.length cn) (.slice at_ s.turns.length ct) k d p da v o t))
 have HR := Lib.hid hrc
 have HM := Lib.hid hmc
 clear hrc hmc hv hs hst hn hnt hp hpk hpk2 herr hs' hR hfin hcn hct hns hts ht hyr hym
 go_enter Tryz.func17, Tryz.ntmps17
 generalize hW0 : ((((w.alloc (.cells #[.slice an s.nodes.length cn, .slice at_ s.turns.length ct] TST)).alloc (.cells #[.int .i64 k, .string (B d), .string (B p), .string (B da), .int .i64 v, .int .i64 o, .bool t] TP)).alloc (.cells #[.slice none 0 0, .slice none 0 0] TST)).alloc (.cells #[.int .i64 0, .string ⟨#[]⟩, .string ⟨#[]⟩, .int .i64 0, .slice none 0 0] TR)) = W0 at *
 obtain ⟨s0, s1⟩ := boxP2 K0.out.now.sb
 go_wp2_with fail
 clear hW0
 refine (HR.out _ K0.out.now.fp).mono ?_
 rintro e w1 ⟨rfl, hf⟩
 have K1 := Lib.hid (K0.out.later hf)
 clear hf s0 s1
 obtain ⟨o0, o1, o2, o3, o4, o5, o6⟩ := boxP7 K1.out.now.pb
 go_wp2_with fail
 refine (HM.out _).mono ?_
 rintro e w2 ⟨rfl, hf⟩
 have K2 := Lib.hid (K1.out.later hf)
 clear hf o0 o1 o2 o3 o4 o5 o6
 have KD := Lib.hid (K2.out.later (Fp.refl Non w2).drew)
 have HS2 := Lib.hid (boxP2 KD.out.now.sb)
 go_wp2_with fail
 refine wp_region_held_drew (S := (fun w' => w'.cell? ⟨w.heap.size, 0, none⟩ = some (.slice an s.nodes.length cn) ∧ w'.cell? ⟨w.heap.size, 1, none⟩ = some (.slice at_ s.turns.length ct))) (by kernel_rfl) ?_ (fun hH => ?_)
 ·exact HS2.out
 generalize w2.drew = wd at *
 refine tk 0 hH ?_
 refine tk 1 hH ?_
 refine tk 3 hH ?_
 refine tk 4 hH ?_
 refine rY 2 fun K hK => ?_
 go_simp
 go_at_call 55
 refine (HCN.out _ KD.out.now.fp).mono ?_
 rintro e w3 ⟨vn1, rfl, hR⟩
 have K3 := Lib.hid (KD.out.later hR.fp)
 have HN3 := Lib.hid (Ow.lower hR.own KD.out.now.sz)
 have HS3 := Lib.hid (boxP2 K3.out.now.sb)
 obtain ⟨an1, cn1, hsh⟩ := hR.own.ns.shape
 subst hsh
 clear hR
 go_wp2_with fail
 refine hK.out _ _ HS3.out (fun hH => ?_)
 clear hK K
 try simp only [zz]
 refine rY 5 fun K hK => ?_
 go_simp
 go_at_call 56
 refine (HCT.out _ K3.out.now.fp).mono ?_
 rintro e w4 ⟨vt1, rfl, hR⟩
 have K4 := Lib.hid (K3.out.later hR.fp)
 have HN4 := Lib.hid (And.intro (HN3.out.non hR.fp) (And.intro (OwT.lower hR.own K3.out.now.sz) (fun k (hk : ((.slice an1 s.nodes.length cn1) : Value).ownBlock = some k) => (World.ownsRow.lt HN3.out k hk).2)))
 have HT4 := Lib.hid (fun k (hk : vt1.ownBlock = some k) => (World.ownsRow.lt hR.own k hk).1)
 have HS4 := Lib.hid (boxP2 K4.out.now.sb)
 obtain ⟨at1, ct1, hsh⟩ := hR.own.ns.shape
 subst hsh
 clear hR
 go_wp2_with fail
 refine hK.out _ _ HS4.out (fun hH => ?_)
 clear hK K
 try simp only [zz]
 refine tk 6 hH ?_
 have HS5 := Lib.hid (boxP2 (K4.out.now.non (fp_alloc w4 (.cells #[(.slice an1 s.nodes.length cn1), (.slice at1 s.turns.length ct1)] TS))).sb)
 refine rY 7 fun K hK => ?_
 go_simp
 refine hK.out _ _ HS5.out (fun hH => ?_)
 clear hK K
 try simp only [zz]
 refine tk 8 hH ?_
 refine dn ?_
 have hf5 := fp_alloc w4 (.cells #[(.slice an1 s.nodes.length cn1), (.slice at1 s.turns.length ct1)] TS)
 have hb5 := heap_alloc_new w4 (.cells #[(.slice an1 s.nodes.length cn1), (.slice at1 s.turns.length ct1)] TS)
 obtain ⟨b, hb⟩ : ∃ b, w4.heap.size = b := ⟨_, rfl⟩
 rw [hb] at hb5 ⊢
 have hsw : Sw (w.heap.size + 4) b (.slice an1 s.nodes.length cn1) (.slice at1 s.turns.length ct1) s (w4.alloc (.cells #[(.slice an1 s.nodes.length cn1), (.slice at1 s.turns.length ct1)] TS)) := by
  refine ⟨hb5, by rw [← hb]; exact K4.out.now.sz, HN4.out.1.non hf5, HN4.out.2.1.non hf5, fun e => ?_, fun e => ?_, fun k h1 h2 => ?_⟩
  ·have := (World.ownsRow.lt HN4.out.1 _ e).2; omega
  ·have := (World.ownsRow.lt HN4.out.2.1 _ e).2; omega
  have h3 := HN4.out.2.2 k h1; have h4 := HT4.out k h2; omega
 have K5 := Lib.hid (Kp.and (Kp.sw hsw) (Kp.and (K4.out.later hf5) (Kp.tab (HTab.out.non (K4.out.now.fp.then hf5)))))
 clear hf5 hb5 hsw hb HS5 HS4 HS3 HS2 hH
 generalize (w4.alloc (.cells #[(.slice an1 s.nodes.length cn1), (.slice at1 s.turns.length ct1)] TS)) = w5 at *
 obtain ⟨fk, fc, hPk, hCall⟩ := HPK.out (w.heap.size + 4) b (.slice an1 s.nodes.length cn1) (.slice at1 s.turns.length ct1)
 have HPk0 := Lib.hid hPk
 have HPk : Hid (PickQ (w.heap.size + 4) b (.slice an1 s.nodes.length cn1) (.slice at1 s.turns.length ct1) s s' R ⟨k, d, p, da, v, o, t⟩ fk fc) := ⟨hPk.ix, hPk.en, hCall⟩
 clear hPk hCall HPK
 have K6 := Lib.hid (K5.out.later (Fp.refl Non w5).drew)
 have HS6 := Lib.hid (boxP7 K6.out.now.2.1.pb)
 go_upto_region 4 with (fail)
 go_cut [7] from 26 to 47 (fun x7 wc => ∃ q nv, x7 = .pointer (some ⟨q, 0, none⟩) ∧ Hid (DoM w (.slice an s.nodes.length cn) (.slice at_ s.turns.length ct) k d p da v o t b s' R q nv wc))
 case first =>
  go_wp2_with fail
  refine wp_region_held_drew (S := (fun w' => w'.cell? ⟨w.heap.size + 1, 0, none⟩ = some (.int .i64 k) ∧ w'.cell? ⟨w.heap.size + 1, 1, none⟩ = some (.string (B d)) ∧ w'.cell? ⟨w.heap.size + 1, 2, none⟩ = some (.string (B p)) ∧ w'.cell? ⟨w.heap.size + 1, 3, none⟩ = some (.string (B da)) ∧ w'.cell? ⟨w.heap.size + 1, 4, none⟩ = some (.int .i64 v) ∧ w'.cell? ⟨w.heap.size + 1, 5, none⟩ = some (.int .i64 o) ∧ w'.cell? ⟨w.heap.size + 1, 6, none⟩ = some (.bool t))) (by kernel_rfl) ?_ (fun hH => ?_)
  ·exact HS6.out
  generalize w5.drew = ud at *
  refine tk 1 hH ?_
  refine tk 2 hH ?_
  refine tk 4 hH ?_
  refine tk 5 hH ?_
  refine wpAnyH_ready (rs := [0, 7]) (by kernel_rfl) (by simp) ?_
  refine AllReadyH.cons (o := ?_) (by simp only [zA, zB, zC] <;> exact rfl) (fun K hK => ?_) (AllReadyH.cons (o := ?_) (by simp only [zA, zB, zC] <;> exact rfl) (fun K hK => ?_) AllReadyH.nil)
  ·go_simp
   go_at_call 57
   refine (effectsP_c _).mono ?_
   rintro e u1 ⟨rfl, hf⟩
   have K7 := Lib.hid (K6.out.later hf)
   have HS7 := Lib.hid (boxP7 K7.out.now.2.1.pb)
   clear hf
   go_wp2_with fail
   refine hK.out _ _ HS7.out (fun hH => ?_)
   clear hK K
   try simp only [zz]
   have hix := HPk.out.ix
   refine tk 3 hH ?_
   clear hix
   refine wpAnyH_ready (rs := [6, 7]) (by kernel_rfl) (by simp) ?_
   refine AllReadyH.cons (o := ?_) (by simp only [zA, zB, zC] <;> exact rfl) (fun K hK => ?_) (AllReadyH.cons (o := ?_) (by simp only [zA, zB, zC] <;> exact rfl) (fun K hK => ?_) AllReadyH.nil)
   ·go_simp
    have hen := HPk.out.en
    rw [hen _ _]
    have HCL := Lib.hid (HPk.out.call u1 K7.out.now.1 K7.out.now.2.2)
    rw [hpt] at HCL
    go_wp2_with fail
    clear hen
    refine HCL.out.mono ?_
    rintro e u2 hM
    obtain ⟨nv, vn', vt', rfl, hown, hsw⟩ := hM.ex
    unfold strV
    have HM2 := Lib.hid (And.intro hsw (And.intro hown hM.fp))
    have HS8 := Lib.hid (boxP7 (K7.out.now.2.1.keep hM.fp (fun j hj => by
     rcases hj with e | e | e
     ·rw [e]; exact K7.out.now.1.low
     ·exact (World.ownsRow.lt K7.out.now.1.own j e).1
     exact (World.ownsRow.lt K7.out.now.1.ownT j e).1)).pb)
    obtain ⟨vao, vcap, rfl⟩ := hown.shape
    clear hM hsw hown HCL
    go_wp2_with fail
    refine hK.out _ _ HS8.out (fun hH => ?_)
    clear hK K
    try simp only [zz]
    have hf9 := fp_alloc u2 (.cells #[.int .i64 0, .string ⟨#[]⟩, .string ⟨#[]⟩, .int .i64 0, .slice none 0 0] TR)
    have hq9 := heap_alloc_new u2 (.cells #[.int .i64 0, .string ⟨#[]⟩, .string ⟨#[]⟩, .int .i64 0, .slice none 0 0] TR)
    have HSA := Lib.hid (boxP7 ((K7.out.now.2.1.keep HM2.out.2.2 (fun j hj => by
     rcases hj with e | e | e
     ·rw [e]; exact K7.out.now.1.low
     ·exact (World.ownsRow.lt K7.out.now.1.own j e).1
     exact (World.ownsRow.lt K7.out.now.1.ownT j e).1)).non hf9).pb)
    have HQ4 := Lib.hid (show w.heap.size + 4 ≤ u2.heap.size from Nat.le_trans K7.out.now.2.1.sz HM2.out.2.2.size)
    have HNQ := Lib.hid (show (Value.slice vao R.names.length vcap).ownBlock ≠ some u2.heap.size from fun e => by have := (HM2.out.2.1.1.lt _ e).2; omega)
    have HF9 := Lib.hid (And.intro hf9 hq9)
    clear hf9 hq9
    refine rY 7 fun K hK => ?_
    go_simp
    refine hK.out _ _ HSA.out (fun hH => ?_)
    clear hK K
    try simp only [zz]
    obtain ⟨q, hq⟩ : ∃ q, u2.heap.size = q := ⟨_, rfl⟩
    rw [hq] at HQ4 HNQ HF9 ⊢
    generalize (u2.alloc (.cells #[.int .i64 0, .string ⟨#[]⟩, .string ⟨#[]⟩, .int .i64 0, .slice none 0 0] TR)) = u3 at *
    have HDM := Lib.hid (DoM.of K7.out.now.1 K7.out.now.2.1 HM2.out.1 HM2.out.2.1 HM2.out.2.2 HF9.out.1 HF9.out.2 HQ4.out HNQ.out)
    have hqr := HF9.out.2
    obtain ⟨r0, r1, r2, r3, r4⟩ := box5 hqr
    have z0 := frozen_at hqr 0; have z1 := frozen_at hqr 1; have z2 := frozen_at hqr 2; have z3 := frozen_at hqr 3; have z4 := frozen_at hqr 4
    have HS9 := Lib.hid (boxP7 HDM.out.bx.pb)
    clear hqr
    refine rY 8 fun K hK => ?_
    go_simp
    refine hK.out _ _ HS9.out (fun hH => ?_)
    clear hK K
    try simp only [zz]
    refine dn ?_
    clear r0 r1 r2 r3 r4 z0 z1 z2 z3 z4
    go_wp2_with fail
    go_meet
    case rel => exact ⟨_, _, rfl, HDM⟩
   go_simp
   have hf9 := fp_alloc u1 (.cells #[.int .i64 0, .string ⟨#[]⟩, .string ⟨#[]⟩, .int .i64 0, .slice none 0 0] TR)
   have hq9 := heap_alloc_new u1 (.cells #[.int .i64 0, .string ⟨#[]⟩, .string ⟨#[]⟩, .int .i64 0, .slice none 0 0] TR)
   have K8 := Lib.hid (K7.out.later hf9)
   have HKQ := Lib.hid (And.intro (Kp.row hq9) (show w.heap.size + 4 ≤ u1.heap.size from K7.out.now.2.1.sz))
   have HS8 := Lib.hid (boxP7 K8.out.now.2.1.pb)
   clear hf9 hq9
   refine hK.out _ _ HS8.out (fun hH => ?_)
   clear hK K
   try simp only [zz]
   obtain ⟨q, hq⟩ : ∃ q, u1.heap.size = q := ⟨_, rfl⟩
   rw [hq] at HKQ ⊢
   generalize (u1.alloc (.cells #[.int .i64 0, .string ⟨#[]⟩, .string ⟨#[]⟩, .int .i64 0, .slice none 0 0] TR)) = u3 at *
   refine rY 6 fun K hK => ?_
   go_simp
   have hen := HPk.out.en
   rw [hen _ _]
   have HCL := Lib.hid (HPk.out.call u3 K8.out.now.1 K8.out.now.2.2)
   rw [hpt] at HCL
   go_wp2_with fail
   clear hen
   refine HCL.out.mono ?_
   rintro e u2 hM
   obtain ⟨nv, vn', vt', rfl, hown, hsw⟩ := hM.ex
   unfold strV
   have HM2 := Lib.hid (And.intro hsw (And.intro hown hM.fp))
   have HSB := Lib.hid (boxP7 (K8.out.now.2.1.keep hM.fp (fun j hj => by
    rcases hj with e | e | e
    ·rw [e]; exact K8.out.now.1.low
    ·exact (World.ownsRow.lt K8.out.now.1.own j e).1
    exact (World.ownsRow.lt K8.out.now.1.ownT j e).1)).pb)
   obtain ⟨vao, vcap, rfl⟩ := hown.shape
   clear hM hsw hown HCL
   go_wp2_with fail
   refine hK.out _ _ HSB.out (fun hH => ?_)
   clear hK K
   try simp only [zz]
   have HQR := Lib.hid (HM2.out.2.2.heap HKQ.out.1.now (fun e => by
    rcases e with e | e | e
    ·have h1 := K8.out.now.1.blk
     rw [← e, HKQ.out.1.now] at h1
     injection h1 with h1
     injection h1 with _ h1 _
     exact absurd h1 (by decide)
    ·exact K8.out.now.1.own.ne HKQ.out.1.now e
    exact K8.out.now.1.ownT.ne HKQ.out.1.now e))
   have HNQ := Lib.hid (show (Value.slice vao R.names.length vcap).ownBlock ≠ some q from fun e => by have h1 := (HM2.out.2.1.1.lt _ e).1; have h2 := (Array.getElem?_eq_some_iff.1 HKQ.out.1.now).1; omega)
   have HDM := Lib.hid (DoM.of K8.out.now.1 K8.out.now.2.1 HM2.out.1 HM2.out.2.1 HM2.out.2.2 (Fp.refl Non u2) HQR.out HKQ.out.2 HNQ.out)
   have hqr := HQR.out
   obtain ⟨r0, r1, r2, r3, r4⟩ := box5 hqr
   have z0 := frozen_at hqr 0; have z1 := frozen_at hqr 1; have z2 := frozen_at hqr 2; have z3 := frozen_at hqr 3; have z4 := frozen_at hqr 4
   have HS9 := Lib.hid (boxP7 HDM.out.bx.pb)
   clear hqr
   refine rY 8 fun K hK => ?_
   go_simp
   refine hK.out _ _ HS9.out (fun hH => ?_)
   clear hK K
   try simp only [zz]
   refine dn ?_
   clear r0 r1 r2 r3 r4 z0 z1 z2 z3 z4
   go_wp2_with fail
   go_meet
   case rel => exact ⟨_, _, rfl, HDM⟩
  go_simp
  have hf9 := fp_alloc ud (.cells #[.int .i64 0, .string ⟨#[]⟩, .string ⟨#[]⟩, .int .i64 0, .slice none 0 0] TR)
  have hq9 := heap_alloc_new ud (.cells #[.int .i64 0, .string ⟨#[]⟩, .string ⟨#[]⟩, .int .i64 0, .slice none 0 0] TR)
  have K8 := Lib.hid (K6.out.later hf9)
  have HKQ := Lib.hid (And.intro (Kp.row hq9) (show w.heap.size + 4 ≤ ud.heap.size from K6.out.now.2.1.sz))
  have HS8 := Lib.hid (boxP7 K8.out.now.2.1.pb)
  clear hf9 hq9
  refine hK.out _ _ HS8.out (fun hH => ?_)
  clear hK K
  try simp only [zz]
  obtain ⟨q, hq⟩ : ∃ q, ud.heap.size = q := ⟨_, rfl⟩
  rw [hq] at HKQ ⊢
  generalize (ud.alloc (.cells #[.int .i64 0, .string ⟨#[]⟩, .string ⟨#[]⟩, .int .i64 0, .slice none 0 0] TR)) = u3 at *
  refine rY 0 fun K hK => ?_
  go_simp
  go_at_call 57
  refine (effectsP_c _).mono ?_
  rintro e u4 ⟨rfl, hf⟩
  have K9 := Lib.hid (K8.out.later hf)
  have HKQ := Lib.hid (And.intro (HKQ.out.1.later hf) HKQ.out.2)
  have HSC := Lib.hid (boxP7 K9.out.now.2.1.pb)
  clear hf
  go_wp2_with fail
  refine hK.out _ _ HSC.out (fun hH => ?_)
  clear hK K
  try simp only [zz]
  have hix := HPk.out.ix
  refine tk 3 hH ?_
  clear hix
  refine rY 6 fun K hK => ?_
  go_simp
  have hen := HPk.out.en
  rw [hen _ _]
  have HCL := Lib.hid (HPk.out.call u4 K9.out.now.1 K9.out.now.2.2)
  rw [hpt] at HCL
  go_wp2_with fail
  clear hen
  refine HCL.out.mono ?_
  rintro e u2 hM
  obtain ⟨nv, vn', vt', rfl, hown, hsw⟩ := hM.ex
  unfold strV
  have HM2 := Lib.hid (And.intro hsw (And.intro hown hM.fp))
  have HSB := Lib.hid (boxP7 (K9.out.now.2.1.keep hM.fp (fun j hj => by
   rcases hj with e | e | e
   ·rw [e]; exact K9.out.now.1.low
   ·exact (World.ownsRow.lt K9.out.now.1.own j e).1
   exact (World.ownsRow.lt K9.out.now.1.ownT j e).1)).pb)
  obtain ⟨vao, vcap, rfl⟩ := hown.shape
  clear hM hsw hown HCL
  go_wp2_with fail
  refine hK.out _ _ HSB.out (fun hH => ?_)
  clear hK K
  try simp only [zz]
  have HQR := Lib.hid (HM2.out.2.2.heap HKQ.out.1.now (fun e => by
   rcases e with e | e | e
   ·have h1 := K9.out.now.1.blk
    rw [← e, HKQ.out.1.now] at h1
    injection h1 with h1
    injection h1 with _ h1 _
    exact absurd h1 (by decide)
   ·exact K9.out.now.1.own.ne HKQ.out.1.now e
   exact K9.out.now.1.ownT.ne HKQ.out.1.now e))
  have HNQ := Lib.hid (show (Value.slice vao R.names.length vcap).ownBlock ≠ some q from fun e => by have h1 := (HM2.out.2.1.1.lt _ e).1; have h2 := (Array.getElem?_eq_some_iff.1 HKQ.out.1.now).1; omega)
  have HDM := Lib.hid (DoM.of K9.out.now.1 K9.out.now.2.1 HM2.out.1 HM2.out.2.1 HM2.out.2.2 (Fp.refl Non u2) HQR.out HKQ.out.2 HNQ.out)
  have hqr := HQR.out
  obtain ⟨r0, r1, r2, r3, r4⟩ := box5 hqr
  have z0 := frozen_at hqr 0; have z1 := frozen_at hqr 1; have z2 := frozen_at hqr 2; have z3 := frozen_at hqr 3; have z4 := frozen_at hqr 4
  have HS9 := Lib.hid (boxP7 HDM.out.bx.pb)
  clear hqr
  refine rY 8 fun K hK => ?_
  go_simp
  refine hK.out _ _ HS9.out (fun hH => ?_)
  clear hK K
  try simp only [zz]
  refine dn ?_
  clear r0 r1 r2 r3 r4 z0 z1 z2 z3 z4
  go_wp2_with fail
  go_meet
  case rel => exact ⟨_, _, rfl, HDM⟩
 obtain ⟨q, nv, rfl, HDM⟩ := hcut
 simp only [Nat.add_assoc, Nat.reduceAdd]
 clear KD K2 K3 K4 K5 K6 HN3 HN4 HT4 HS6 HPk HPk0 HCN HCT HR HM HTab
 have hqr := HDM.out.row
 obtain ⟨nao, ncap, rfl⟩ := HDM.out.own.shape
 by_cases hre : R.err = 0
 ·have q1 : (R.err != 0) = false := by simp [hre]
  clear HFIN hre
  obtain ⟨vn', vt', hsw⟩ := HDM.out.ex
  have HSW := Lib.hid hsw
  obtain ⟨an', cn', rfl⟩ := hsw.own.ns.shape
  obtain ⟨at', ct', rfl⟩ := hsw.ownT.ns.shape
  clear hsw
  obtain ⟨s0, s1, s2, s3, s4⟩ := box5 hqr
  go_wp2_with fail
  clear s0 s1 s2 s3 s4 hqr
  go_wp2_with fail
  have HDD : Hid (DoM w (.slice an s.nodes.length cn) (.slice at_ s.turns.length ct) k d p da v o t b s' R q (.slice nao R.names.length ncap) wc.drew) := HDM.out.non (Fp.refl Non wc).drew
  have HW2 := Lib.hid (HSW.out.non (Fp.refl Non wc).drew)
  have HB4 := Lib.hid HW2.out.low
  have HS0 := Lib.hid (And.intro HW2.out.c0 (And.intro HW2.out.c1 (box5 HDD.out.row)))
  have HQ4 := Lib.hid HDD.out.q4
  have hb := HDD.out.bx
  obtain ⟨y0, y1⟩ := boxP2 hb.zs
  have u0 := frozen_at hb.zs 0; have u1 := frozen_at hb.zs 1
  have HZR := Lib.hid hb.zr
  have HD := Lib.hid (do_end hb (.slice an' s'.nodes.length cn') (.slice at' s'.turns.length ct') (.int .i64 R.err) (.string (B R.path)) (.string (B R.data)) (.int .i64 R.ver) (.slice nao R.names.length ncap))
  have hfa : Fp (fun j => j = w.heap.size + 2) wc.drew ((wc.drew.setCell ⟨w.heap.size + 2, 0, none⟩ (.slice an' s'.nodes.length cn')).setCell ⟨w.heap.size + 2, 1, none⟩ (.slice at' s'.turns.length ct')) := ((Fp.refl (fun j => j = w.heap.size + 2) wc.drew).setCell (p := ⟨w.heap.size + 2, 0, none⟩) (.inl rfl) _).setCell (p := ⟨w.heap.size + 2, 1, none⟩) (.inl rfl) _
  have HSa : Hid ((fun w' => w'.cell? ⟨b, 0, none⟩ = some (.slice an' s'.nodes.length cn') ∧ w'.cell? ⟨b, 1, none⟩ = some (.slice at' s'.turns.length ct') ∧ w'.cell? ⟨q, 0, none⟩ = some (.int .i64 R.err) ∧ w'.cell? ⟨q, 1, none⟩ = some (.string (B R.path)) ∧ w'.cell? ⟨q, 2, none⟩ = some (.string (B R.data)) ∧ w'.cell? ⟨q, 3, none⟩ = some (.int .i64 R.ver) ∧ w'.cell? ⟨q, 4, none⟩ = some (.slice nao R.names.length ncap)) ((wc.drew.setCell ⟨w.heap.size + 2, 0, none⟩ (.slice an' s'.nodes.length cn')).setCell ⟨w.heap.size + 2, 1, none⟩ (.slice at' s'.turns.length ct'))) := ⟨hfa.cell HS0.out.1 (fun e => by have h1 := HQ4.out; have h2 := HB4.out; simp only at e; omega), hfa.cell HS0.out.2.1 (fun e => by have h1 := HQ4.out; have h2 := HB4.out; simp only at e; omega), hfa.cell HS0.out.2.2.1 (fun e => by have h1 := HQ4.out; have h2 := HB4.out; simp only at e; omega), hfa.cell HS0.out.2.2.2.1 (fun e => by have h1 := HQ4.out; have h2 := HB4.out; simp only at e; omega), hfa.cell HS0.out.2.2.2.2.1 (fun e => by have h1 := HQ4.out; have h2 := HB4.out; simp only at e; omega), hfa.cell HS0.out.2.2.2.2.2.1 (fun e => by have h1 := HQ4.out; have h2 := HB4.out; simp only at e; omega), hfa.cell HS0.out.2.2.2.2.2.2 (fun e => by have h1 := HQ4.out; have h2 := HB4.out; simp only at e; omega)⟩
  have HSb : Hid ((fun w' => w'.cell? ⟨b, 0, none⟩ = some (.slice an' s'.nodes.length cn') ∧ w'.cell? ⟨b, 1, none⟩ = some (.slice at' s'.turns.length ct') ∧ w'.cell? ⟨q, 0, none⟩ = some (.int .i64 R.err) ∧ w'.cell? ⟨q, 1, none⟩ = some (.string (B R.path)) ∧ w'.cell? ⟨q, 2, none⟩ = some (.string (B R.data)) ∧ w'.cell? ⟨q, 3, none⟩ = some (.int .i64 R.ver) ∧ w'.cell? ⟨q, 4, none⟩ = some (.slice nao R.names.length ncap)) (((((((wc.drew.setCell ⟨w.heap.size + 2, 0, none⟩ (.slice an' s'.nodes.length cn')).setCell ⟨w.heap.size + 2, 1, none⟩ (.slice at' s'.turns.length ct')).setCell ⟨w.heap.size + 3, 0, none⟩ (.int .i64 R.err)).setCell ⟨w.heap.size + 3, 1, none⟩ (.string (B R.path))).setCell ⟨w.heap.size + 3, 2, none⟩ (.string (B R.data))).setCell ⟨w.heap.size + 3, 3, none⟩ (.int .i64 R.ver)).setCell ⟨w.heap.size + 3, 4, none⟩ (.slice nao R.names.length ncap))) := ⟨HD.out.2.2.2.cell HS0.out.1 (fun e => by have h1 := HQ4.out; have h2 := HB4.out; simp only at e; omega), HD.out.2.2.2.cell HS0.out.2.1 (fun e => by have h1 := HQ4.out; have h2 := HB4.out; simp only at e; omega), HD.out.2.2.2.cell HS0.out.2.2.1 (fun e => by have h1 := HQ4.out; have h2 := HB4.out; simp only at e; omega), HD.out.2.2.2.cell HS0.out.2.2.2.1 (fun e => by have h1 := HQ4.out; have h2 := HB4.out; simp only at e; omega), HD.out.2.2.2.cell HS0.out.2.2.2.2.1 (fun e => by have h1 := HQ4.out; have h2 := HB4.out; simp only at e; omega), HD.out.2.2.2.cell HS0.out.2.2.2.2.2.1 (fun e => by have h1 := HQ4.out; have h2 := HB4.out; simp only at e; omega), HD.out.2.2.2.cell HS0.out.2.2.2.2.2.2 (fun e => by have h1 := HQ4.out; have h2 := HB4.out; simp only at e; omega)⟩
  have HZ2 := Lib.hid (hfa.heap hb.zr (fun e => by have e : w.heap.size + 3 = w.heap.size + 2 := e; omega))
  clear hb hfa
  refine wp_region_held_drew (S := (fun w' => w'.cell? ⟨b, 0, none⟩ = some (.slice an' s'.nodes.length cn') ∧ w'.cell? ⟨b, 1, none⟩ = some (.slice at' s'.turns.length ct') ∧ w'.cell? ⟨q, 0, none⟩ = some (.int .i64 R.err) ∧ w'.cell? ⟨q, 1, none⟩ = some (.string (B R.path)) ∧ w'.cell? ⟨q, 2, none⟩ = some (.string (B R.data)) ∧ w'.cell? ⟨q, 3, none⟩ = some (.int .i64 R.ver) ∧ w'.cell? ⟨q, 4, none⟩ = some (.slice nao R.names.length ncap))) (by kernel_rfl) ?_ (fun hH => ?_)
  ·exact HS0.out
  generalize wc.drew = wd at *
  refine tk 0 hH ?_
  refine tk 1 hH ?_
  refine tk 2 hH ?_
  refine tk 3 hH ?_
  refine tk 4 hH ?_
  refine tk 5 hH ?_
  refine tk 6 hH ?_
  refine tk 7 hH ?_
  refine tk 8 hH ?_
  refine tk 9 hH ?_
  refine rY 10 fun K hK => ?_
  go_simp
  refine hK.out _ _ HSa.out (fun hH => ?_)
  clear hK K y0 y1 u0 u1
  try simp only [zz]
  obtain ⟨r0, r1, r2, r3, r4⟩ := box5 HZ2.out
  have z0 := frozen_at HZ2.out 0; have z1 := frozen_at HZ2.out 1; have z2 := frozen_at HZ2.out 2; have z3 := frozen_at HZ2.out 3; have z4 := frozen_at HZ2.out 4
  refine rY 11 fun K hK => ?_
  go_simp
  refine hK.out _ _ HSb.out (fun hH => ?_)
  clear hK K r0 r1 r2 r3 r4 z0 z1 z2 z3 z4 hH
  try simp only [zz]
  refine dn ?_
  have hd := HD.out
  have HST := Lib.hid (And.intro (show Sto _ _ s' from ⟨_, _, rfl, HW2.out.own.ns.keep HD.out.2.2.2 (fun j hj e => by have h1 := (World.ownsRow.lt HW2.out.own j hj).1; have e : j = w.heap.size + 2 ∨ j = w.heap.size + 3 := e; omega), HW2.out.ownT.ns.keep HD.out.2.2.2 (fun j hj e => by have h1 := (World.ownsRow.lt HW2.out.ownT j hj).1; have e : j = w.heap.size + 2 ∨ j = w.heap.size + 3 := e; omega)⟩) (And.intro (Own.low (b0 := w.heap.size) (show Own (w.heap.size + 4) _ (.slice nao R.names.length ncap) R.names from ⟨HD.out.2.2.2.owns HDD.out.own.1 (fun j hj e => by have h1 := (HDD.out.own.1.lt j hj).1; have e : j = w.heap.size + 2 ∨ j = w.heap.size + 3 := e; omega), HDD.out.own.2⟩) (by omega)) (And.intro (Ow.lower (HW2.out.own.keep HD.out.2.2.2 (fun j hj e => by have h1 := (World.ownsRow.lt HW2.out.own j hj).1; have e : j = w.heap.size + 2 ∨ j = w.heap.size + 3 := e; omega)) (show w.heap.size ≤ w.heap.size + 4 by omega)) (OwT.lower (HW2.out.ownT.keep HD.out.2.2.2 (fun j hj e => by have h1 := (World.ownsRow.lt HW2.out.ownT j hj).1; have e : j = w.heap.size + 2 ∨ j = w.heap.size + 3 := e; omega)) (show w.heap.size ≤ w.heap.size + 4 by omega)))))
  generalize (((((World.setCell _ _ _).setCell _ _).setCell _ _).setCell _ _).setCell _ _) = wz at *
  obtain ⟨t0, t1⟩ := boxP2 hd.1
  obtain ⟨s0, s1, s2, s3, s4⟩ := box5 hd.2.1
  go_wp2
  exact bodyPost_ret (v := .tuple #[.agg #[(.slice an' s'.nodes.length cn'), (.slice at' s'.turns.length ct')], .agg #[.int .i64 R.err, .string (B R.path), .string (B R.data), .int .i64 R.ver, .slice nao R.names.length ncap]]) (by simp [results, Tryz.results17, go_sem, t0, t1, s0, s1, s2, s3, s4]) rfl ⟨⟨_, _, rfl, HST.out.1, HST.out.2.1⟩, hd.2.2.1, fun _ => ⟨_, _, _, rfl, HST.out.2.2.1, HST.out.2.2.2⟩⟩
 have q1 : (R.err != 0) = true := by simpa using hre
 have q2 : (R.err == 0) = false := by simpa using hre
 have q3 : (R.err = 0) = False := eq_false hre
 have HSS := Lib.hid (HFIN.out hre)
 clear HFIN
 obtain ⟨s0, s1, s2, s3, s4⟩ := box5 hqr
 go_wp2_with fail
 clear s0 s1 s2 s3 s4 hqr
 go_wp2_with fail
 have HDD : Hid (DoM w (.slice an s.nodes.length cn) (.slice at_ s.turns.length ct) k d p da v o t b s' R q (.slice nao R.names.length ncap) wc.drew) := HDM.out.non (Fp.refl Non wc).drew
 have HB4 := Lib.hid (show True from trivial)
 have HS0 := Lib.hid (And.intro (boxP2 HDD.out.bx.sb).1 (And.intro (boxP2 HDD.out.bx.sb).2 (box5 HDD.out.row)))
 have HQ4 := Lib.hid HDD.out.q4
 have hb := HDD.out.bx
 obtain ⟨y0, y1⟩ := boxP2 hb.zs
 have u0 := frozen_at hb.zs 0; have u1 := frozen_at hb.zs 1
 have HZR := Lib.hid hb.zr
 have HD := Lib.hid (do_end hb (.slice an s.nodes.length cn) (.slice at_ s.turns.length ct) (.int .i64 R.err) (.string (B R.path)) (.string (B R.data)) (.int .i64 R.ver) (.slice nao R.names.length ncap))
 have hfa : Fp (fun j => j = w.heap.size + 2) wc.drew ((wc.drew.setCell ⟨w.heap.size + 2, 0, none⟩ (.slice an s.nodes.length cn)).setCell ⟨w.heap.size + 2, 1, none⟩ (.slice at_ s.turns.length ct)) := ((Fp.refl (fun j => j = w.heap.size + 2) wc.drew).setCell (p := ⟨w.heap.size + 2, 0, none⟩) (.inl rfl) _).setCell (p := ⟨w.heap.size + 2, 1, none⟩) (.inl rfl) _
 have HSa : Hid ((fun w' => w'.cell? ⟨w.heap.size, 0, none⟩ = some (.slice an s.nodes.length cn) ∧ w'.cell? ⟨w.heap.size, 1, none⟩ = some (.slice at_ s.turns.length ct) ∧ w'.cell? ⟨q, 0, none⟩ = some (.int .i64 R.err) ∧ w'.cell? ⟨q, 1, none⟩ = some (.string (B R.path)) ∧ w'.cell? ⟨q, 2, none⟩ = some (.string (B R.data)) ∧ w'.cell? ⟨q, 3, none⟩ = some (.int .i64 R.ver) ∧ w'.cell? ⟨q, 4, none⟩ = some (.slice nao R.names.length ncap)) ((wc.drew.setCell ⟨w.heap.size + 2, 0, none⟩ (.slice an s.nodes.length cn)).setCell ⟨w.heap.size + 2, 1, none⟩ (.slice at_ s.turns.length ct))) := ⟨hfa.cell HS0.out.1 (fun e => by have h1 := HQ4.out; have h2 := HB4.out; simp only at e; omega), hfa.cell HS0.out.2.1 (fun e => by have h1 := HQ4.out; have h2 := HB4.out; simp only at e; omega), hfa.cell HS0.out.2.2.1 (fun e => by have h1 := HQ4.out; have h2 := HB4.out; simp only at e; omega), hfa.cell HS0.out.2.2.2.1 (fun e => by have h1 := HQ4.out; have h2 := HB4.out; simp only at e; omega), hfa.cell HS0.out.2.2.2.2.1 (fun e => by have h1 := HQ4.out; have h2 := HB4.out; simp only at e; omega), hfa.cell HS0.out.2.2.2.2.2.1 (fun e => by have h1 := HQ4.out; have h2 := HB4.out; simp only at e; omega), hfa.cell HS0.out.2.2.2.2.2.2 (fun e => by have h1 := HQ4.out; have h2 := HB4.out; simp only at e; omega)⟩
 have HSb : Hid ((fun w' => w'.cell? ⟨w.heap.size, 0, none⟩ = some (.slice an s.nodes.length cn) ∧ w'.cell? ⟨w.heap.size, 1, none⟩ = some (.slice at_ s.turns.length ct) ∧ w'.cell? ⟨q, 0, none⟩ = some (.int .i64 R.err) ∧ w'.cell? ⟨q, 1, none⟩ = some (.string (B R.path)) ∧ w'.cell? ⟨q, 2, none⟩ = some (.string (B R.data)) ∧ w'.cell? ⟨q, 3, none⟩ = some (.int .i64 R.ver) ∧ w'.cell? ⟨q, 4, none⟩ = some (.slice nao R.names.length ncap)) (((((((wc.drew.setCell ⟨w.heap.size + 2, 0, none⟩ (.slice an s.nodes.length cn)).setCell ⟨w.heap.size + 2, 1, none⟩ (.slice at_ s.turns.length ct)).setCell ⟨w.heap.size + 3, 0, none⟩ (.int .i64 R.err)).setCell ⟨w.heap.size + 3, 1, none⟩ (.string (B R.path))).setCell ⟨w.heap.size + 3, 2, none⟩ (.string (B R.data))).setCell ⟨w.heap.size + 3, 3, none⟩ (.int .i64 R.ver)).setCell ⟨w.heap.size + 3, 4, none⟩ (.slice nao R.names.length ncap))) := ⟨HD.out.2.2.2.cell HS0.out.1 (fun e => by have h1 := HQ4.out; have h2 := HB4.out; simp only at e; omega), HD.out.2.2.2.cell HS0.out.2.1 (fun e => by have h1 := HQ4.out; have h2 := HB4.out; simp only at e; omega), HD.out.2.2.2.cell HS0.out.2.2.1 (fun e => by have h1 := HQ4.out; have h2 := HB4.out; simp only at e; omega), HD.out.2.2.2.cell HS0.out.2.2.2.1 (fun e => by have h1 := HQ4.out; have h2 := HB4.out; simp only at e; omega), HD.out.2.2.2.cell HS0.out.2.2.2.2.1 (fun e => by have h1 := HQ4.out; have h2 := HB4.out; simp only at e; omega), HD.out.2.2.2.cell HS0.out.2.2.2.2.2.1 (fun e => by have h1 := HQ4.out; have h2 := HB4.out; simp only at e; omega), HD.out.2.2.2.cell HS0.out.2.2.2.2.2.2 (fun e => by have h1 := HQ4.out; have h2 := HB4.out; simp only at e; omega)⟩
 have HZ2 := Lib.hid (hfa.heap hb.zr (fun e => by have e : w.heap.size + 3 = w.heap.size + 2 := e; omega))
 clear hb hfa
 refine wp_region_held_drew (S := (fun w' => w'.cell? ⟨w.heap.size, 0, none⟩ = some (.slice an s.nodes.length cn) ∧ w'.cell? ⟨w.heap.size, 1, none⟩ = some (.slice at_ s.turns.length ct) ∧ w'.cell? ⟨q, 0, none⟩ = some (.int .i64 R.err) ∧ w'.cell? ⟨q, 1, none⟩ = some (.string (B R.path)) ∧ w'.cell? ⟨q, 2, none⟩ = some (.string (B R.data)) ∧ w'.cell? ⟨q, 3, none⟩ = some (.int .i64 R.ver) ∧ w'.cell? ⟨q, 4, none⟩ = some (.slice nao R.names.length ncap))) (by kernel_rfl) ?_ (fun hH => ?_)
 ·exact HS0.out
 generalize wc.drew = wd at *
 refine tk 0 hH ?_
 refine tk 1 hH ?_
 refine rY 2 fun K hK => ?_
 go_simp
 refine hK.out _ _ HSa.out (fun hH => ?_)
 clear hK K y0 y1 u0 u1
 try simp only [zz]
 obtain ⟨r0, r1, r2, r3, r4⟩ := box5 HZ2.out
 have z0 := frozen_at HZ2.out 0; have z1 := frozen_at HZ2.out 1; have z2 := frozen_at HZ2.out 2; have z3 := frozen_at HZ2.out 3; have z4 := frozen_at HZ2.out 4
 refine rY 3 fun K hK => ?_
 go_simp
 refine hK.out _ _ HSb.out (fun hH => ?_)
 clear hK K r0 r1 r2 r3 r4 z0 z1 z2 z3 z4 hH
 try simp only [zz]
 refine dn ?_
 have hd := HD.out
 have HST := Lib.hid (And.intro (show Sto _ _ s' from by rw [HSS.out]; exact ⟨_, _, rfl, HNS.out.1.non HD.out.2.2.1, HNS.out.2.non HD.out.2.2.1⟩) (And.intro (Own.low (b0 := w.heap.size) (show Own (w.heap.size + 4) _ (.slice nao R.names.length ncap) R.names from ⟨HD.out.2.2.2.owns HDD.out.own.1 (fun j hj e => by have h1 := (HDD.out.own.1.lt j hj).1; have e : j = w.heap.size + 2 ∨ j = w.heap.size + 3 := e; omega), HDD.out.own.2⟩) (by omega)) trivial))
 generalize (((((World.setCell _ _ _).setCell _ _).setCell _ _).setCell _ _).setCell _ _) = wz at *
 obtain ⟨t0, t1⟩ := boxP2 hd.1
 obtain ⟨s0, s1, s2, s3, s4⟩ := box5 hd.2.1
 go_wp2
 exact bodyPost_ret (v := .tuple #[.agg #[(.slice an s.nodes.length cn), (.slice at_ s.turns.length ct)], .agg #[.int .i64 R.err, .string (B R.path), .string (B R.data), .int .i64 R.ver, .slice nao R.names.length ncap]]) (by simp [results, Tryz.results17, go_sem, t0, t1, s0, s1, s2, s3, s4]) rfl ⟨⟨_, _, rfl, HST.out.1, HST.out.2.1⟩, hd.2.2.1, fun h => absurd h hre⟩
end Go.Proofs.YtphoglepiegeiaaGreatDoor
namespace Go.Proofs.YtphoglepiegeiaaGreatDoor
set_option maxRecDepth 20000
open Go.RowKit Pm
theorem Do_c (v : Value) (s : St) (x : Pt) (w : World) (hv : Sto w v s) (hs : Sp s.nodes) (hst : ∀ t ∈ s.turns, t.dir.length ≤ 1000000) (hn : s.nodes.length ≤ 3900) (hnt : s.turns.length ≤ 3900) (hp : x.path.length ≤ 1000000) (ht : Tab w) :
  Calls Tryz.prog 17 #[v, ptV x] w (DoR w (applyP s x).1 (applyP s x).2) := by
 obtain ⟨vn, vt, rfl, h1, h2⟩ := hv.ex
 by_cases h : rightS s = true ∧ mayP x = true
 ·rw [applyP_yes ((rightS_iff s).1 h.1) h.2]
  exact Do_go vn vt s x w hv hs hst hn hnt hp ht ((rightS_iff s).1 h.1) h.2
 rw [applyP_no h]
 exact Do_no vn vt s x w hv hs hst hn hnt hp h
theorem StR.few {s : St} (h : StR s) : (∀ t ∈ s.turns, t.dir.length ≤ 1000000) ∧ Sp s.nodes := by
 refine ⟨fun t ht => ?_, StR.sp h⟩
 have := h.tfit t ht
 unfold Pm.tfit at this
 simp only [Bool.and_eq_true] at this
 have := split_len this.1
 omega
end Go.Proofs.YtphoglepiegeiaaGreatDoor
