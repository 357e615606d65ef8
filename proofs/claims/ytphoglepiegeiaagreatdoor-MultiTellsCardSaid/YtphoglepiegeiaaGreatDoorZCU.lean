/- A text of this proof. -/
import Derived.Laws.EntriesVeiled
import Derived.Test.YtphoglepiegeiaaGreatDoorZCE
import Derived.Test.YtphoglepiegeiaaGreatDoorZCM
import Derived.Test.YtphoglepiegeiaaGreatDoorZCS
set_option linter.unusedSimpArgs false
set_option linter.unusedVariables false
namespace Go.Proofs.YtphoglepiegeiaaGreatDoor
set_option maxRecDepth 20000
open Go.RowKit Pm
attribute [local irreducible] wpStill
theorem DoM.non {w W W' : World} {vn0 vt0 : Value} {k : Int} {d p da : Bs} {v o : Int} {t : Bool} {b : Nat} {s' : St} {r : Res} {q : Nat} {nv : Value} (h : DoM w vn0 vt0 k d p da v o t b s' r q nv W) (f : Fp Non W W') : DoM w vn0 vt0 k d p da v o t b s' r q nv W' := by
 obtain ⟨vn', vt', h1⟩ := h.ex
 exact ⟨⟨vn', vt', h1.non f⟩, h.own.grown' f, h.bx.non f, h.q4, f.heap h.row id⟩
structure PickQ (lo b : Nat) (vn vt : Value) (s s' : St) (R : Res) (x : Pt) (fk : Nat) (fc : Array Value) : Prop where
 ix : ∀ w, (Instr.index 89 effV (.int .i64 x.kind)).run Tryz.prog w = .ok (.func (.func fk) #[] fc) w
 en : Enters Tryz.prog fk
 call : ∀ w', Sw lo b vn vt s w' → Tab w' → Calls Tryz.prog fk (#[.pointer (some ⟨b, 0, none⟩), ptV x] ++ fc) w' (PmR lo b vn vt s' R w')
set_option maxHeartbeats 40000000 in
theorem Do_go (vn0 vt0 : Value) (s : St) (x : Pt) (w : World) (hv : Sto w (.agg #[vn0, vt0]) s) (hs : Sp s.nodes) (hst : ∀ t ∈ s.turns, t.dir.length ≤ 1000000) (hn : s.nodes.length ≤ 3900) (hnt : s.turns.length ≤ 3900) (hp : x.path.length ≤ 1000000) (ht : Tab w) (hyr : StR s) (hym : mayP x = true) :
  Calls Tryz.prog 17 #[.agg #[vn0, vt0], ptV x] w (DoR w (doP s x).1 (doP s x).2) := by
 have hrc := fun W (f : Fp Non w W) => rightP_c (.agg #[vn0, vt0]) s W (hv.non f) hs (by omega) hst (by omega)
 have hmc := fun W => mayP_c x W hp
 rw [rightS_true hyr] at hrc
 rw [hym] at hmc
 have hpk := fun lo b vn vt => pickP lo b vn vt s x hyr hym hn hnt
 have herr := doP_err s x
 obtain ⟨s', hs'⟩ : ∃ s', (doP s x).1 = s' := ⟨_, rfl⟩
 obtain ⟨R, hR⟩ : ∃ R, (doP s x).2 = R := ⟨_, rfl⟩
 have hpk2 : ∀ lo b vn vt, ∃ fk fc, PickP lo b vn vt s x fk fc := hpk
 have hfin : R.err ≠ 0 → s' = s := fun h => by rw [← hs']; exact (herr.2 (by rw [hR]; exact h)).1
 have hcn := fun W (f : Fp Non w W) (vn : Value) (h : Ns W vn s.nodes) => Clone_own vn s.nodes W h (by omega)
 have hct := fun W (f : Fp Non w W) (vt : Value) (h : Ts W vt s.turns) => CloneT_own vt s.turns W h (by omega)
 obtain ⟨vn0', vt0', e0, hns, hts⟩ := hv.ex
 injection e0 with e0
 injection e0 with e0
 injection e0 with e1 e0
 injection e0 with e2 _
 subst e1 e2
 have HCN := zI (fun W (f : Fp Non w W) => hcn W f vn0 (hns.non f))
 have HCT := zI (fun W (f : Fp Non w W) => hct W f vt0 (hts.non f))
 have HNS := zI (yI hns hts)
 obtain ⟨an, cn, rfl⟩ := hns.shape
 obtain ⟨at_, ct, rfl⟩ := hts.shape
 have HTab := zI ht
 have HPK : Hid (∀ lo b vn vt, ∃ fk fc, PickP lo b vn vt s x fk fc ∧ ∀ w', Sw lo b vn vt s w' → Tab w' → Calls Tryz.prog fk (#[.pointer (some ⟨b, 0, none⟩), ptV x] ++ fc) w' (PmR lo b vn vt s' R w')) := fun lo b vn vt => by
  obtain ⟨fk, fc, h⟩ := hpk lo b vn vt
  exact ⟨fk, fc, h, fun w' h1 h2 => by rw [← hs', ← hR]; exact h.call w' h1 h2⟩
 have HFIN := zI hfin
 rw [hs', hR]
 obtain ⟨k, d, p, da, v, o, t⟩ := x
 have hpt : ptV ⟨k, d, p, da, v, o, t⟩ = .agg #[.int .i64 k, .string (B d), .string (B p), .string (B da), .int .i64 v, .int .i64 o, .bool t] := rfl
 rw [hpt] at hmc ⊢
 have K0 := zI (Kp.dob (DoB.made w (.slice an s.nodes.length cn) (.slice at_ s.turns.length ct) k d p da v o t))
 have HR := zI hrc
 have HM := zI hmc
 clear hrc hmc hv hs hst hn hnt hp hpk hpk2 herr hs' hR hfin hcn hct hns hts ht hyr hym
 go_enter Tryz.func17, Tryz.ntmps17
 generalize hW0 : ((((w.alloc (.cells #[.slice an s.nodes.length cn, .slice at_ s.turns.length ct] TST)).alloc (.cells #[.int .i64 k, .string (B d), .string (B p), .string (B da), .int .i64 v, .int .i64 o, .bool t] TP)).alloc (.cells #[.slice none 0 0, .slice none 0 0] TST)).alloc (.cells #[.int .i64 0, .string ⟨#[]⟩, .string ⟨#[]⟩, .int .i64 0, .slice none 0 0] TR)) = W0 at *
 obtain ⟨s0, s1⟩ := boxP2 K0.out.now.sb
 go_wp2_with fail
 clear hW0
 refine (HR.out _ K0.out.now.fp).mono ?_
 rintro e w1 ⟨rfl, hf⟩
 have K1 := zI (K0.out.later hf)
 clear hf s0 s1
 obtain ⟨o0, o1, o2, o3, o4, o5, o6⟩ := boxP7 K1.out.now.pb
 go_wp2_with fail
 refine (HM.out _).mono ?_
 rintro e w2 ⟨rfl, hf⟩
 have K2 := zI (K1.out.later hf)
 clear hf o0 o1 o2 o3 o4 o5 o6
 have KD := zI (K2.out.later (Fp.refl Non w2).drew)
 have HS2 := zI (boxP2 KD.out.now.sb)
 go_wp2_with fail
 refine wp_region_held_drew (S := (fun w' => w'.cell? ⟨w.heap.size, 0, none⟩ = some (.slice an s.nodes.length cn) ∧ w'.cell? ⟨w.heap.size, 1, none⟩ = some (.slice at_ s.turns.length ct))) (by kernel_rfl) ?_ (fun hH => ?_)
 ·exact HS2.out
 generalize w2.drew = wd at *
 refine tk 0 hH ?_
 refine tk 1 hH ?_
 refine tk 3 hH ?_
 refine tk 4 hH ?_
 refine rY 2 fun K hK => ?_
 go_simp
 go_at_call 55
 refine (HCN.out _ KD.out.now.fp).mono ?_
 rintro e w3 ⟨vn1, rfl, hR⟩
 have K3 := zI (KD.out.later hR.fp)
 have HN3 := zI (Ow.lower hR.own KD.out.now.sz)
 have HS3 := zI (boxP2 K3.out.now.sb)
 obtain ⟨an1, cn1, hsh⟩ := hR.own.ns.shape
 subst hsh
 clear hR
 go_wp2_with fail
 refine hK.out _ _ HS3.out (fun hH => ?_)
 clear hK K
 try simp only [zz]
 refine rY 5 fun K hK => ?_
 go_simp
 go_at_call 56
 refine (HCT.out _ K3.out.now.fp).mono ?_
 rintro e w4 ⟨vt1, rfl, hR⟩
 have K4 := zI (K3.out.later hR.fp)
 have HN4 := zI (yI (HN3.out.non hR.fp) (yI (OwT.lower hR.own K3.out.now.sz) (fun k (hk : ((.slice an1 s.nodes.length cn1) : Value).ownBlock = some k) => (World.ownsRow.lt HN3.out k hk).2)))
 have HT4 := zI (fun k (hk : vt1.ownBlock = some k) => (World.ownsRow.lt hR.own k hk).1)
 have HS4 := zI (boxP2 K4.out.now.sb)
 obtain ⟨at1, ct1, hsh⟩ := hR.own.ns.shape
 subst hsh
 clear hR
 go_wp2_with fail
 refine hK.out _ _ HS4.out (fun hH => ?_)
 clear hK K
 try simp only [zz]
 refine tk 6 hH ?_
 have HS5 := zI (boxP2 (K4.out.now.non (fp_alloc w4 (.cells #[(.slice an1 s.nodes.length cn1), (.slice at1 s.turns.length ct1)] TS))).sb)
 refine rY 7 fun K hK => ?_
 go_simp
 refine hK.out _ _ HS5.out (fun hH => ?_)
 clear hK K
 try simp only [zz]
 refine tk 8 hH ?_
 refine dn ?_
 have hf5 := fp_alloc w4 (.cells #[(.slice an1 s.nodes.length cn1), (.slice at1 s.turns.length ct1)] TS)
 have hb5 := heap_alloc_new w4 (.cells #[(.slice an1 s.nodes.length cn1), (.slice at1 s.turns.length ct1)] TS)
 obtain ⟨b, hb⟩ : ∃ b, w4.heap.size = b := ⟨_, rfl⟩
 rw [hb] at hb5 ⊢
 have hsw : Sw (w.heap.size + 4) b (.slice an1 s.nodes.length cn1) (.slice at1 s.turns.length ct1) s (w4.alloc (.cells #[(.slice an1 s.nodes.length cn1), (.slice at1 s.turns.length ct1)] TS)) := by
  refine ⟨hb5, by rw [← hb]; exact K4.out.now.sz, HN4.out.1.non hf5, HN4.out.2.1.non hf5, fun e => ?_, fun e => ?_, fun k h1 h2 => ?_⟩
  ·have := (World.ownsRow.lt HN4.out.1 _ e).2; omega
  ·have := (World.ownsRow.lt HN4.out.2.1 _ e).2; omega
  have h3 := HN4.out.2.2 k h1; have h4 := HT4.out k h2; omega
 have K5 := zI (Kp.and (Kp.sw hsw) (Kp.and (K4.out.later hf5) (Kp.tab (HTab.out.non (K4.out.now.fp.then hf5)))))
 clear hf5 hb5 hsw hb HS5 HS4 HS3 HS2 hH
 generalize (w4.alloc (.cells #[(.slice an1 s.nodes.length cn1), (.slice at1 s.turns.length ct1)] TS)) = w5 at *
 obtain ⟨fk, fc, hPk, hCall⟩ := HPK.out (w.heap.size + 4) b (.slice an1 s.nodes.length cn1) (.slice at1 s.turns.length ct1)
 have HPk0 := zI hPk
 have HPk : Hid (PickQ (w.heap.size + 4) b (.slice an1 s.nodes.length cn1) (.slice at1 s.turns.length ct1) s s' R ⟨k, d, p, da, v, o, t⟩ fk fc) := ⟨hPk.ix, hPk.en, hCall⟩
 clear hPk hCall HPK
 have K6 := zI (K5.out.later (Fp.refl Non w5).drew)
 have HS6 := zI (boxP7 K6.out.now.2.1.pb)
 go_upto_region 4 with (fail)
 go_cut [7] from 26 to 47 (fun x7 wc => ∃ q nv, x7 = .pointer (some ⟨q, 0, none⟩) ∧ Hid (DoM w (.slice an s.nodes.length cn) (.slice at_ s.turns.length ct) k d p da v o t b s' R q nv wc))
 case first =>
  go_wp2_with fail
  refine wp_region_held_drew (S := (fun w' => w'.cell? ⟨w.heap.size + 1, 0, none⟩ = some (.int .i64 k) ∧ w'.cell? ⟨w.heap.size + 1, 1, none⟩ = some (.string (B d)) ∧ w'.cell? ⟨w.heap.size + 1, 2, none⟩ = some (.string (B p)) ∧ w'.cell? ⟨w.heap.size + 1, 3, none⟩ = some (.string (B da)) ∧ w'.cell? ⟨w.heap.size + 1, 4, none⟩ = some (.int .i64 v) ∧ w'.cell? ⟨w.heap.size + 1, 5, none⟩ = some (.int .i64 o) ∧ w'.cell? ⟨w.heap.size + 1, 6, none⟩ = some (.bool t))) (by kernel_rfl) ?_ (fun hH => ?_)
  ·exact HS6.out
  generalize w5.drew = ud at *
  refine tk 1 hH ?_
  refine tk 2 hH ?_
  refine tk 4 hH ?_
  refine tk 5 hH ?_
  refine wpAnyH_ready (rs := [0, 7]) (by kernel_rfl) (by simp) ?_
  refine AllReadyH.cons (o := ?_) (by simp only [zA, zB, zC] <;> exact rfl) (fun K hK => ?_) (AllReadyH.cons (o := ?_) (by simp only [zA, zB, zC] <;> exact rfl) (fun K hK => ?_) AllReadyH.nil)
  ·go_simp
   go_at_call 57
   refine (effectsP_c _).mono ?_
   rintro e u1 ⟨rfl, hf⟩
   have K7 := zI (K6.out.later hf)
   have HS7 := zI (boxP7 K7.out.now.2.1.pb)
   clear hf
   go_wp2_with fail
   refine hK.out _ _ HS7.out (fun hH => ?_)
   clear hK K
   try simp only [zz]
   have hix := HPk.out.ix
   refine tk 3 hH ?_
   clear hix
   refine wpAnyH_ready (rs := [6, 7]) (by kernel_rfl) (by simp) ?_
   refine AllReadyH.cons (o := ?_) (by simp only [zA, zB, zC] <;> exact rfl) (fun K hK => ?_) (AllReadyH.cons (o := ?_) (by simp only [zA, zB, zC] <;> exact rfl) (fun K hK => ?_) AllReadyH.nil)
   ·go_simp
    have hen := HPk.out.en
    rw [hen _ _]
    have HCL := zI (HPk.out.call u1 K7.out.now.1 K7.out.now.2.2)
    rw [hpt] at HCL
    go_wp2_with fail
    clear hen
    refine HCL.out.mono ?_
    rintro e u2 hM
    obtain ⟨nv, vn', vt', rfl, hown, hsw⟩ := hM.ex
    unfold strV
    have HM2 := zI (yI hsw (yI hown hM.fp))
    have HS8 := zI (boxP7 (K7.out.now.2.1.keep hM.fp (fun j hj => by
     rcases hj with e | e | e
     ·rw [e]; exact K7.out.now.1.low
     ·exact (World.ownsRow.lt K7.out.now.1.own j e).1
     exact (World.ownsRow.lt K7.out.now.1.ownT j e).1)).pb)
    obtain ⟨vao, vcap, rfl⟩ := hown.shape
    clear hM hsw hown HCL
    go_wp2_with fail
    refine hK.out _ _ HS8.out (fun hH => ?_)
    clear hK K
    try simp only [zz]
    have hf9 := fp_alloc u2 (.cells #[.int .i64 0, .string ⟨#[]⟩, .string ⟨#[]⟩, .int .i64 0, .slice none 0 0] TR)
    have hq9 := heap_alloc_new u2 (.cells #[.int .i64 0, .string ⟨#[]⟩, .string ⟨#[]⟩, .int .i64 0, .slice none 0 0] TR)
    have HSA := zI (boxP7 ((K7.out.now.2.1.keep HM2.out.2.2 (fun j hj => by
     rcases hj with e | e | e
     ·rw [e]; exact K7.out.now.1.low
     ·exact (World.ownsRow.lt K7.out.now.1.own j e).1
     exact (World.ownsRow.lt K7.out.now.1.ownT j e).1)).non hf9).pb)
    have HQ4 := zI (show w.heap.size + 4 ≤ u2.heap.size from Nat.le_trans K7.out.now.2.1.sz HM2.out.2.2.size)
    have HNQ := zI (show (Value.slice vao R.names.length vcap).ownBlock ≠ some u2.heap.size from fun e => by have := (HM2.out.2.1.1.lt _ e).2; omega)
    have HF9 := zI (yI hf9 hq9)
    clear hf9 hq9
    refine rY 7 fun K hK => ?_
    go_simp
    refine hK.out _ _ HSA.out (fun hH => ?_)
    clear hK K
    try simp only [zz]
    obtain ⟨q, hq⟩ : ∃ q, u2.heap.size = q := ⟨_, rfl⟩
    rw [hq] at HQ4 HNQ HF9 ⊢
    generalize (u2.alloc (.cells #[.int .i64 0, .string ⟨#[]⟩, .string ⟨#[]⟩, .int .i64 0, .slice none 0 0] TR)) = u3 at *
    have HDM := zI (DoM.of K7.out.now.1 K7.out.now.2.1 HM2.out.1 HM2.out.2.1 HM2.out.2.2 HF9.out.1 HF9.out.2 HQ4.out HNQ.out)
    have hqr := HF9.out.2
    obtain ⟨r0, r1, r2, r3, r4⟩ := box5 hqr
    have z0 := frozen_at hqr 0; have z1 := frozen_at hqr 1; have z2 := frozen_at hqr 2; have z3 := frozen_at hqr 3; have z4 := frozen_at hqr 4
    have HS9 := zI (boxP7 HDM.out.bx.pb)
    clear hqr
    refine rY 8 fun K hK => ?_
    go_simp
    refine hK.out _ _ HS9.out (fun hH => ?_)
    clear hK K
    try simp only [zz]
    refine dn ?_
    clear r0 r1 r2 r3 r4 z0 z1 z2 z3 z4
    go_wp2_with fail
    go_meet
    case rel => exact ⟨_, _, rfl, HDM⟩
   go_simp
   have hf9 := fp_alloc u1 (.cells #[.int .i64 0, .string ⟨#[]⟩, .string ⟨#[]⟩, .int .i64 0, .slice none 0 0] TR)
   have hq9 := heap_alloc_new u1 (.cells #[.int .i64 0, .string ⟨#[]⟩, .string ⟨#[]⟩, .int .i64 0, .slice none 0 0] TR)
   have K8 := zI (K7.out.later hf9)
   have HKQ := zI (yI (Kp.row hq9) (show w.heap.size + 4 ≤ u1.heap.size from K7.out.now.2.1.sz))
   have HS8 := zI (boxP7 K8.out.now.2.1.pb)
   clear hf9 hq9
   refine hK.out _ _ HS8.out (fun hH => ?_)
   clear hK K
   try simp only [zz]
   obtain ⟨q, hq⟩ : ∃ q, u1.heap.size = q := ⟨_, rfl⟩
   rw [hq] at HKQ ⊢
   generalize (u1.alloc (.cells #[.int .i64 0, .string ⟨#[]⟩, .string ⟨#[]⟩, .int .i64 0, .slice none 0 0] TR)) = u3 at *
   refine rY 6 fun K hK => ?_
   go_simp
   have hen := HPk.out.en
   rw [hen _ _]
   have HCL := zI (HPk.out.call u3 K8.out.now.1 K8.out.now.2.2)
   rw [hpt] at HCL
   go_wp2_with fail
   clear hen
   refine HCL.out.mono ?_
   rintro e u2 hM
   obtain ⟨nv, vn', vt', rfl, hown, hsw⟩ := hM.ex
   unfold strV
   have HM2 := zI (yI hsw (yI hown hM.fp))
   have HSB := zI (boxP7 (K8.out.now.2.1.keep hM.fp (fun j hj => by
    rcases hj with e | e | e
    ·rw [e]; exact K8.out.now.1.low
    ·exact (World.ownsRow.lt K8.out.now.1.own j e).1
    exact (World.ownsRow.lt K8.out.now.1.ownT j e).1)).pb)
   obtain ⟨vao, vcap, rfl⟩ := hown.shape
   clear hM hsw hown HCL
   go_wp2_with fail
   refine hK.out _ _ HSB.out (fun hH => ?_)
   clear hK K
   try simp only [zz]
   have HQR := zI (HM2.out.2.2.heap HKQ.out.1.now (fun e => by
    rcases e with e | e | e
    ·have h1 := K8.out.now.1.blk
     rw [← e, HKQ.out.1.now] at h1
     injection h1 with h1
     injection h1 with _ h1 _
     exact absurd h1 (by decide)
    ·exact K8.out.now.1.own.ne HKQ.out.1.now e
    exact K8.out.now.1.ownT.ne HKQ.out.1.now e))
   have HNQ := zI (show (Value.slice vao R.names.length vcap).ownBlock ≠ some q from fun e => by have h1 := (HM2.out.2.1.1.lt _ e).1; have h2 := (Array.getElem?_eq_some_iff.1 HKQ.out.1.now).1; omega)
   have HDM := zI (DoM.of K8.out.now.1 K8.out.now.2.1 HM2.out.1 HM2.out.2.1 HM2.out.2.2 (Fp.refl Non u2) HQR.out HKQ.out.2 HNQ.out)
   have hqr := HQR.out
   obtain ⟨r0, r1, r2, r3, r4⟩ := box5 hqr
   have z0 := frozen_at hqr 0; have z1 := frozen_at hqr 1; have z2 := frozen_at hqr 2; have z3 := frozen_at hqr 3; have z4 := frozen_at hqr 4
   have HS9 := zI (boxP7 HDM.out.bx.pb)
   clear hqr
   refine rY 8 fun K hK => ?_
   go_simp
   refine hK.out _ _ HS9.out (fun hH => ?_)
   clear hK K
   try simp only [zz]
   refine dn ?_
   clear r0 r1 r2 r3 r4 z0 z1 z2 z3 z4
   go_wp2_with fail
   go_meet
   case rel => exact ⟨_, _, rfl, HDM⟩
  go_simp
  have hf9 := fp_alloc ud (.cells #[.int .i64 0, .string ⟨#[]⟩, .string ⟨#[]⟩, .int .i64 0, .slice none 0 0] TR)
  have hq9 := heap_alloc_new ud (.cells #[.int .i64 0, .string ⟨#[]⟩, .string ⟨#[]⟩, .int .i64 0, .slice none 0 0] TR)
  have K8 := zI (K6.out.later hf9)
  have HKQ := zI (yI (Kp.row hq9) (show w.heap.size + 4 ≤ ud.heap.size from K6.out.now.2.1.sz))
  have HS8 := zI (boxP7 K8.out.now.2.1.pb)
  clear hf9 hq9
  refine hK.out _ _ HS8.out (fun hH => ?_)
  clear hK K
  try simp only [zz]
  obtain ⟨q, hq⟩ : ∃ q, ud.heap.size = q := ⟨_, rfl⟩
  rw [hq] at HKQ ⊢
  generalize (ud.alloc (.cells #[.int .i64 0, .string ⟨#[]⟩, .string ⟨#[]⟩, .int .i64 0, .slice none 0 0] TR)) = u3 at *
  refine rY 0 fun K hK => ?_
  go_simp
  go_at_call 57
  refine (effectsP_c _).mono ?_
  rintro e u4 ⟨rfl, hf⟩
  have K9 := zI (K8.out.later hf)
  have HKQ := zI (yI (HKQ.out.1.later hf) HKQ.out.2)
  have HSC := zI (boxP7 K9.out.now.2.1.pb)
  clear hf
  go_wp2_with fail
  refine hK.out _ _ HSC.out (fun hH => ?_)
  clear hK K
  try simp only [zz]
  have hix := HPk.out.ix
  refine tk 3 hH ?_
  clear hix
  refine rY 6 fun K hK => ?_
  go_simp
  have hen := HPk.out.en
  rw [hen _ _]
  have HCL := zI (HPk.out.call u4 K9.out.now.1 K9.out.now.2.2)
  rw [hpt] at HCL
  go_wp2_with fail
  clear hen
  refine HCL.out.mono ?_
  rintro e u2 hM
  obtain ⟨nv, vn', vt', rfl, hown, hsw⟩ := hM.ex
  unfold strV
  have HM2 := zI (yI hsw (yI hown hM.fp))
  have HSB := zI (boxP7 (K9.out.now.2.1.keep hM.fp (fun j hj => by
   rcases hj with e | e | e
   ·rw [e]; exact K9.out.now.1.low
   ·exact (World.ownsRow.lt K9.out.now.1.own j e).1
   exact (World.ownsRow.lt K9.out.now.1.ownT j e).1)).pb)
  obtain ⟨vao, vcap, rfl⟩ := hown.shape
  clear hM hsw hown HCL
  go_wp2_with fail
  refine hK.out _ _ HSB.out (fun hH => ?_)
  clear hK K
  try simp only [zz]
  have HQR := zI (HM2.out.2.2.heap HKQ.out.1.now (fun e => by
   rcases e with e | e | e
   ·have h1 := K9.out.now.1.blk
    rw [← e, HKQ.out.1.now] at h1
    injection h1 with h1
    injection h1 with _ h1 _
    exact absurd h1 (by decide)
   ·exact K9.out.now.1.own.ne HKQ.out.1.now e
   exact K9.out.now.1.ownT.ne HKQ.out.1.now e))
  have HNQ := zI (show (Value.slice vao R.names.length vcap).ownBlock ≠ some q from fun e => by have h1 := (HM2.out.2.1.1.lt _ e).1; have h2 := (Array.getElem?_eq_some_iff.1 HKQ.out.1.now).1; omega)
  have HDM := zI (DoM.of K9.out.now.1 K9.out.now.2.1 HM2.out.1 HM2.out.2.1 HM2.out.2.2 (Fp.refl Non u2) HQR.out HKQ.out.2 HNQ.out)
  have hqr := HQR.out
  obtain ⟨r0, r1, r2, r3, r4⟩ := box5 hqr
  have z0 := frozen_at hqr 0; have z1 := frozen_at hqr 1; have z2 := frozen_at hqr 2; have z3 := frozen_at hqr 3; have z4 := frozen_at hqr 4
  have HS9 := zI (boxP7 HDM.out.bx.pb)
  clear hqr
  refine rY 8 fun K hK => ?_
  go_simp
  refine hK.out _ _ HS9.out (fun hH => ?_)
  clear hK K
  try simp only [zz]
  refine dn ?_
  clear r0 r1 r2 r3 r4 z0 z1 z2 z3 z4
  go_wp2_with fail
  go_meet
  case rel => exact ⟨_, _, rfl, HDM⟩
 obtain ⟨q, nv, rfl, HDM⟩ := hcut
 simp only [Nat.add_assoc, Nat.reduceAdd]
 clear KD K2 K3 K4 K5 K6 HN3 HN4 HT4 HS6 HPk HPk0 HCN HCT HR HM HTab
 have hqr := HDM.out.row
 obtain ⟨nao, ncap, rfl⟩ := HDM.out.own.shape
 by_cases hre : R.err = 0
 ·have q1 : (R.err != 0) = false := by simp [hre]
  clear HFIN hre
  obtain ⟨vn', vt', hsw⟩ := HDM.out.ex
  have HSW := zI hsw
  obtain ⟨an', cn', rfl⟩ := hsw.own.ns.shape
  obtain ⟨at', ct', rfl⟩ := hsw.ownT.ns.shape
  clear hsw
  obtain ⟨s0, s1, s2, s3, s4⟩ := box5 hqr
  go_wp2_with fail
  clear s0 s1 s2 s3 s4 hqr
  go_wp2_with fail
  have HDD : Hid (DoM w (.slice an s.nodes.length cn) (.slice at_ s.turns.length ct) k d p da v o t b s' R q (.slice nao R.names.length ncap) wc.drew) := HDM.out.non (Fp.refl Non wc).drew
  have HW2 := zI (HSW.out.non (Fp.refl Non wc).drew)
  have HB4 := zI HW2.out.low
  have HS0 := zI (yI HW2.out.c0 (yI HW2.out.c1 (box5 HDD.out.row)))
  have HQ4 := zI HDD.out.q4
  have hb := HDD.out.bx
  obtain ⟨y0, y1⟩ := boxP2 hb.zs
  have u0 := frozen_at hb.zs 0; have u1 := frozen_at hb.zs 1
  have HZR := zI hb.zr
  have HD := zI (do_end hb (.slice an' s'.nodes.length cn') (.slice at' s'.turns.length ct') (.int .i64 R.err) (.string (B R.path)) (.string (B R.data)) (.int .i64 R.ver) (.slice nao R.names.length ncap))
  have hfa : Fp (fun j => j = w.heap.size + 2) wc.drew ((wc.drew.setCell ⟨w.heap.size + 2, 0, none⟩ (.slice an' s'.nodes.length cn')).setCell ⟨w.heap.size + 2, 1, none⟩ (.slice at' s'.turns.length ct')) := ((Fp.refl (fun j => j = w.heap.size + 2) wc.drew).setCell (p := ⟨w.heap.size + 2, 0, none⟩) (.inl rfl) _).setCell (p := ⟨w.heap.size + 2, 1, none⟩) (.inl rfl) _
  have HSa : Hid ((fun w' => w'.cell? ⟨b, 0, none⟩ = some (.slice an' s'.nodes.length cn') ∧ w'.cell? ⟨b, 1, none⟩ = some (.slice at' s'.turns.length ct') ∧ w'.cell? ⟨q, 0, none⟩ = some (.int .i64 R.err) ∧ w'.cell? ⟨q, 1, none⟩ = some (.string (B R.path)) ∧ w'.cell? ⟨q, 2, none⟩ = some (.string (B R.data)) ∧ w'.cell? ⟨q, 3, none⟩ = some (.int .i64 R.ver) ∧ w'.cell? ⟨q, 4, none⟩ = some (.slice nao R.names.length ncap)) ((wc.drew.setCell ⟨w.heap.size + 2, 0, none⟩ (.slice an' s'.nodes.length cn')).setCell ⟨w.heap.size + 2, 1, none⟩ (.slice at' s'.turns.length ct'))) := ⟨hfa.cell HS0.out.1 (fun e => by have h1 := HQ4.out; have h2 := HB4.out; simp only at e; omega), hfa.cell HS0.out.2.1 (fun e => by have h1 := HQ4.out; have h2 := HB4.out; simp only at e; omega), hfa.cell HS0.out.2.2.1 (fun e => by have h1 := HQ4.out; have h2 := HB4.out; simp only at e; omega), hfa.cell HS0.out.2.2.2.1 (fun e => by have h1 := HQ4.out; have h2 := HB4.out; simp only at e; omega), hfa.cell HS0.out.2.2.2.2.1 (fun e => by have h1 := HQ4.out; have h2 := HB4.out; simp only at e; omega), hfa.cell HS0.out.2.2.2.2.2.1 (fun e => by have h1 := HQ4.out; have h2 := HB4.out; simp only at e; omega), hfa.cell HS0.out.2.2.2.2.2.2 (fun e => by have h1 := HQ4.out; have h2 := HB4.out; simp only at e; omega)⟩
  have HSb : Hid ((fun w' => w'.cell? ⟨b, 0, none⟩ = some (.slice an' s'.nodes.length cn') ∧ w'.cell? ⟨b, 1, none⟩ = some (.slice at' s'.turns.length ct') ∧ w'.cell? ⟨q, 0, none⟩ = some (.int .i64 R.err) ∧ w'.cell? ⟨q, 1, none⟩ = some (.string (B R.path)) ∧ w'.cell? ⟨q, 2, none⟩ = some (.string (B R.data)) ∧ w'.cell? ⟨q, 3, none⟩ = some (.int .i64 R.ver) ∧ w'.cell? ⟨q, 4, none⟩ = some (.slice nao R.names.length ncap)) (((((((wc.drew.setCell ⟨w.heap.size + 2, 0, none⟩ (.slice an' s'.nodes.length cn')).setCell ⟨w.heap.size + 2, 1, none⟩ (.slice at' s'.turns.length ct')).setCell ⟨w.heap.size + 3, 0, none⟩ (.int .i64 R.err)).setCell ⟨w.heap.size + 3, 1, none⟩ (.string (B R.path))).setCell ⟨w.heap.size + 3, 2, none⟩ (.string (B R.data))).setCell ⟨w.heap.size + 3, 3, none⟩ (.int .i64 R.ver)).setCell ⟨w.heap.size + 3, 4, none⟩ (.slice nao R.names.length ncap))) := ⟨HD.out.2.2.2.cell HS0.out.1 (fun e => by have h1 := HQ4.out; have h2 := HB4.out; simp only at e; omega), HD.out.2.2.2.cell HS0.out.2.1 (fun e => by have h1 := HQ4.out; have h2 := HB4.out; simp only at e; omega), HD.out.2.2.2.cell HS0.out.2.2.1 (fun e => by have h1 := HQ4.out; have h2 := HB4.out; simp only at e; omega), HD.out.2.2.2.cell HS0.out.2.2.2.1 (fun e => by have h1 := HQ4.out; have h2 := HB4.out; simp only at e; omega), HD.out.2.2.2.cell HS0.out.2.2.2.2.1 (fun e => by have h1 := HQ4.out; have h2 := HB4.out; simp only at e; omega), HD.out.2.2.2.cell HS0.out.2.2.2.2.2.1 (fun e => by have h1 := HQ4.out; have h2 := HB4.out; simp only at e; omega), HD.out.2.2.2.cell HS0.out.2.2.2.2.2.2 (fun e => by have h1 := HQ4.out; have h2 := HB4.out; simp only at e; omega)⟩
  have HZ2 := zI (hfa.heap hb.zr (fun e => by have e : w.heap.size + 3 = w.heap.size + 2 := e; omega))
  clear hb hfa
  refine wp_region_held_drew (S := (fun w' => w'.cell? ⟨b, 0, none⟩ = some (.slice an' s'.nodes.length cn') ∧ w'.cell? ⟨b, 1, none⟩ = some (.slice at' s'.turns.length ct') ∧ w'.cell? ⟨q, 0, none⟩ = some (.int .i64 R.err) ∧ w'.cell? ⟨q, 1, none⟩ = some (.string (B R.path)) ∧ w'.cell? ⟨q, 2, none⟩ = some (.string (B R.data)) ∧ w'.cell? ⟨q, 3, none⟩ = some (.int .i64 R.ver) ∧ w'.cell? ⟨q, 4, none⟩ = some (.slice nao R.names.length ncap))) (by kernel_rfl) ?_ (fun hH => ?_)
  ·exact HS0.out
  generalize wc.drew = wd at *
  refine tk 0 hH ?_
  refine tk 1 hH ?_
  refine tk 2 hH ?_
  refine tk 3 hH ?_
  refine tk 4 hH ?_
  refine tk 5 hH ?_
  refine tk 6 hH ?_
  refine tk 7 hH ?_
  refine tk 8 hH ?_
  refine tk 9 hH ?_
  refine rY 10 fun K hK => ?_
  go_simp
  refine hK.out _ _ HSa.out (fun hH => ?_)
  clear hK K y0 y1 u0 u1
  try simp only [zz]
  obtain ⟨r0, r1, r2, r3, r4⟩ := box5 HZ2.out
  have z0 := frozen_at HZ2.out 0; have z1 := frozen_at HZ2.out 1; have z2 := frozen_at HZ2.out 2; have z3 := frozen_at HZ2.out 3; have z4 := frozen_at HZ2.out 4
  refine rY 11 fun K hK => ?_
  go_simp
  refine hK.out _ _ HSb.out (fun hH => ?_)
  clear hK K r0 r1 r2 r3 r4 z0 z1 z2 z3 z4 hH
  try simp only [zz]
  refine dn ?_
  have hd := HD.out
  have HST := zI (yI (show Sto _ _ s' from ⟨_, _, rfl, HW2.out.own.ns.keep HD.out.2.2.2 (fun j hj e => by have h1 := (World.ownsRow.lt HW2.out.own j hj).1; have e : j = w.heap.size + 2 ∨ j = w.heap.size + 3 := e; omega), HW2.out.ownT.ns.keep HD.out.2.2.2 (fun j hj e => by have h1 := (World.ownsRow.lt HW2.out.ownT j hj).1; have e : j = w.heap.size + 2 ∨ j = w.heap.size + 3 := e; omega)⟩) (yI (Own.low (b0 := w.heap.size) (show Own (w.heap.size + 4) _ (.slice nao R.names.length ncap) R.names from ⟨HD.out.2.2.2.owns HDD.out.own.1 (fun j hj e => by have h1 := (HDD.out.own.1.lt j hj).1; have e : j = w.heap.size + 2 ∨ j = w.heap.size + 3 := e; omega), HDD.out.own.2⟩) (by omega)) (yI (Ow.lower (HW2.out.own.keep HD.out.2.2.2 (fun j hj e => by have h1 := (World.ownsRow.lt HW2.out.own j hj).1; have e : j = w.heap.size + 2 ∨ j = w.heap.size + 3 := e; omega)) (show w.heap.size ≤ w.heap.size + 4 by omega)) (OwT.lower (HW2.out.ownT.keep HD.out.2.2.2 (fun j hj e => by have h1 := (World.ownsRow.lt HW2.out.ownT j hj).1; have e : j = w.heap.size + 2 ∨ j = w.heap.size + 3 := e; omega)) (show w.heap.size ≤ w.heap.size + 4 by omega)))))
  generalize (((((World.setCell _ _ _).setCell _ _).setCell _ _).setCell _ _).setCell _ _) = wz at *
  obtain ⟨t0, t1⟩ := boxP2 hd.1
  obtain ⟨s0, s1, s2, s3, s4⟩ := box5 hd.2.1
  go_wp2
  exact bodyPost_ret (v := .tuple #[.agg #[(.slice an' s'.nodes.length cn'), (.slice at' s'.turns.length ct')], .agg #[.int .i64 R.err, .string (B R.path), .string (B R.data), .int .i64 R.ver, .slice nao R.names.length ncap]]) (by simp [results, Tryz.results17, go_sem, t0, t1, s0, s1, s2, s3, s4]) rfl ⟨⟨_, _, rfl, HST.out.1, HST.out.2.1⟩, hd.2.2.1, fun _ => ⟨_, _, _, rfl, HST.out.2.2.1, HST.out.2.2.2⟩⟩
 have q1 : (R.err != 0) = true := by simpa using hre
 have q2 : (R.err == 0) = false := by simpa using hre
 have q3 : (R.err = 0) = False := eq_false hre
 have HSS := zI (HFIN.out hre)
 clear HFIN
 obtain ⟨s0, s1, s2, s3, s4⟩ := box5 hqr
 go_wp2_with fail
 clear s0 s1 s2 s3 s4 hqr
 go_wp2_with fail
 have HDD : Hid (DoM w (.slice an s.nodes.length cn) (.slice at_ s.turns.length ct) k d p da v o t b s' R q (.slice nao R.names.length ncap) wc.drew) := HDM.out.non (Fp.refl Non wc).drew
 have HB4 := zI (show True from trivial)
 have HS0 := zI (yI (boxP2 HDD.out.bx.sb).1 (yI (boxP2 HDD.out.bx.sb).2 (box5 HDD.out.row)))
 have HQ4 := zI HDD.out.q4
 have hb := HDD.out.bx
 obtain ⟨y0, y1⟩ := boxP2 hb.zs
 have u0 := frozen_at hb.zs 0; have u1 := frozen_at hb.zs 1
 have HZR := zI hb.zr
 have HD := zI (do_end hb (.slice an s.nodes.length cn) (.slice at_ s.turns.length ct) (.int .i64 R.err) (.string (B R.path)) (.string (B R.data)) (.int .i64 R.ver) (.slice nao R.names.length ncap))
 have hfa : Fp (fun j => j = w.heap.size + 2) wc.drew ((wc.drew.setCell ⟨w.heap.size + 2, 0, none⟩ (.slice an s.nodes.length cn)).setCell ⟨w.heap.size + 2, 1, none⟩ (.slice at_ s.turns.length ct)) := ((Fp.refl (fun j => j = w.heap.size + 2) wc.drew).setCell (p := ⟨w.heap.size + 2, 0, none⟩) (.inl rfl) _).setCell (p := ⟨w.heap.size + 2, 1, none⟩) (.inl rfl) _
 have HSa : Hid ((fun w' => w'.cell? ⟨w.heap.size, 0, none⟩ = some (.slice an s.nodes.length cn) ∧ w'.cell? ⟨w.heap.size, 1, none⟩ = some (.slice at_ s.turns.length ct) ∧ w'.cell? ⟨q, 0, none⟩ = some (.int .i64 R.err) ∧ w'.cell? ⟨q, 1, none⟩ = some (.string (B R.path)) ∧ w'.cell? ⟨q, 2, none⟩ = some (.string (B R.data)) ∧ w'.cell? ⟨q, 3, none⟩ = some (.int .i64 R.ver) ∧ w'.cell? ⟨q, 4, none⟩ = some (.slice nao R.names.length ncap)) ((wc.drew.setCell ⟨w.heap.size + 2, 0, none⟩ (.slice an s.nodes.length cn)).setCell ⟨w.heap.size + 2, 1, none⟩ (.slice at_ s.turns.length ct))) := ⟨hfa.cell HS0.out.1 (fun e => by have h1 := HQ4.out; have h2 := HB4.out; simp only at e; omega), hfa.cell HS0.out.2.1 (fun e => by have h1 := HQ4.out; have h2 := HB4.out; simp only at e; omega), hfa.cell HS0.out.2.2.1 (fun e => by have h1 := HQ4.out; have h2 := HB4.out; simp only at e; omega), hfa.cell HS0.out.2.2.2.1 (fun e => by have h1 := HQ4.out; have h2 := HB4.out; simp only at e; omega), hfa.cell HS0.out.2.2.2.2.1 (fun e => by have h1 := HQ4.out; have h2 := HB4.out; simp only at e; omega), hfa.cell HS0.out.2.2.2.2.2.1 (fun e => by have h1 := HQ4.out; have h2 := HB4.out; simp only at e; omega), hfa.cell HS0.out.2.2.2.2.2.2 (fun e => by have h1 := HQ4.out; have h2 := HB4.out; simp only at e; omega)⟩
 have HSb : Hid ((fun w' => w'.cell? ⟨w.heap.size, 0, none⟩ = some (.slice an s.nodes.length cn) ∧ w'.cell? ⟨w.heap.size, 1, none⟩ = some (.slice at_ s.turns.length ct) ∧ w'.cell? ⟨q, 0, none⟩ = some (.int .i64 R.err) ∧ w'.cell? ⟨q, 1, none⟩ = some (.string (B R.path)) ∧ w'.cell? ⟨q, 2, none⟩ = some (.string (B R.data)) ∧ w'.cell? ⟨q, 3, none⟩ = some (.int .i64 R.ver) ∧ w'.cell? ⟨q, 4, none⟩ = some (.slice nao R.names.length ncap)) (((((((wc.drew.setCell ⟨w.heap.size + 2, 0, none⟩ (.slice an s.nodes.length cn)).setCell ⟨w.heap.size + 2, 1, none⟩ (.slice at_ s.turns.length ct)).setCell ⟨w.heap.size + 3, 0, none⟩ (.int .i64 R.err)).setCell ⟨w.heap.size + 3, 1, none⟩ (.string (B R.path))).setCell ⟨w.heap.size + 3, 2, none⟩ (.string (B R.data))).setCell ⟨w.heap.size + 3, 3, none⟩ (.int .i64 R.ver)).setCell ⟨w.heap.size + 3, 4, none⟩ (.slice nao R.names.length ncap))) := ⟨HD.out.2.2.2.cell HS0.out.1 (fun e => by have h1 := HQ4.out; have h2 := HB4.out; simp only at e; omega), HD.out.2.2.2.cell HS0.out.2.1 (fun e => by have h1 := HQ4.out; have h2 := HB4.out; simp only at e; omega), HD.out.2.2.2.cell HS0.out.2.2.1 (fun e => by have h1 := HQ4.out; have h2 := HB4.out; simp only at e; omega), HD.out.2.2.2.cell HS0.out.2.2.2.1 (fun e => by have h1 := HQ4.out; have h2 := HB4.out; simp only at e; omega), HD.out.2.2.2.cell HS0.out.2.2.2.2.1 (fun e => by have h1 := HQ4.out; have h2 := HB4.out; simp only at e; omega), HD.out.2.2.2.cell HS0.out.2.2.2.2.2.1 (fun e => by have h1 := HQ4.out; have h2 := HB4.out; simp only at e; omega), HD.out.2.2.2.cell HS0.out.2.2.2.2.2.2 (fun e => by have h1 := HQ4.out; have h2 := HB4.out; simp only at e; omega)⟩
 have HZ2 := zI (hfa.heap hb.zr (fun e => by have e : w.heap.size + 3 = w.heap.size + 2 := e; omega))
 clear hb hfa
 refine wp_region_held_drew (S := (fun w' => w'.cell? ⟨w.heap.size, 0, none⟩ = some (.slice an s.nodes.length cn) ∧ w'.cell? ⟨w.heap.size, 1, none⟩ = some (.slice at_ s.turns.length ct) ∧ w'.cell? ⟨q, 0, none⟩ = some (.int .i64 R.err) ∧ w'.cell? ⟨q, 1, none⟩ = some (.string (B R.path)) ∧ w'.cell? ⟨q, 2, none⟩ = some (.string (B R.data)) ∧ w'.cell? ⟨q, 3, none⟩ = some (.int .i64 R.ver) ∧ w'.cell? ⟨q, 4, none⟩ = some (.slice nao R.names.length ncap))) (by kernel_rfl) ?_ (fun hH => ?_)
 ·exact HS0.out
 generalize wc.drew = wd at *
 refine tk 0 hH ?_
 refine tk 1 hH ?_
 refine rY 2 fun K hK => ?_
 go_simp
 refine hK.out _ _ HSa.out (fun hH => ?_)
 clear hK K y0 y1 u0 u1
 try simp only [zz]
 obtain ⟨r0, r1, r2, r3, r4⟩ := box5 HZ2.out
 have z0 := frozen_at HZ2.out 0; have z1 := frozen_at HZ2.out 1; have z2 := frozen_at HZ2.out 2; have z3 := frozen_at HZ2.out 3; have z4 := frozen_at HZ2.out 4
 refine rY 3 fun K hK => ?_
 go_simp
 refine hK.out _ _ HSb.out (fun hH => ?_)
 clear hK K r0 r1 r2 r3 r4 z0 z1 z2 z3 z4 hH
 try simp only [zz]
 refine dn ?_
 have hd := HD.out
 have HST := zI (yI (show Sto _ _ s' from by rw [HSS.out]; exact ⟨_, _, rfl, HNS.out.1.non HD.out.2.2.1, HNS.out.2.non HD.out.2.2.1⟩) (yI (Own.low (b0 := w.heap.size) (show Own (w.heap.size + 4) _ (.slice nao R.names.length ncap) R.names from ⟨HD.out.2.2.2.owns HDD.out.own.1 (fun j hj e => by have h1 := (HDD.out.own.1.lt j hj).1; have e : j = w.heap.size + 2 ∨ j = w.heap.size + 3 := e; omega), HDD.out.own.2⟩) (by omega)) trivial))
 generalize (((((World.setCell _ _ _).setCell _ _).setCell _ _).setCell _ _).setCell _ _) = wz at *
 obtain ⟨t0, t1⟩ := boxP2 hd.1
 obtain ⟨s0, s1, s2, s3, s4⟩ := box5 hd.2.1
 go_wp2
 exact bodyPost_ret (v := .tuple #[.agg #[(.slice an s.nodes.length cn), (.slice at_ s.turns.length ct)], .agg #[.int .i64 R.err, .string (B R.path), .string (B R.data), .int .i64 R.ver, .slice nao R.names.length ncap]]) (by simp [results, Tryz.results17, go_sem, t0, t1, s0, s1, s2, s3, s4]) rfl ⟨⟨_, _, rfl, HST.out.1, HST.out.2.1⟩, hd.2.2.1, fun h => absurd h hre⟩
end Go.Proofs.YtphoglepiegeiaaGreatDoor
namespace Go.Proofs.YtphoglepiegeiaaGreatDoor
set_option maxRecDepth 20000
open Go.RowKit Pm
theorem Do_c (v : Value) (s : St) (x : Pt) (w : World) (hv : Sto w v s) (hs : Sp s.nodes) (hst : ∀ t ∈ s.turns, t.dir.length ≤ 1000000) (hn : s.nodes.length ≤ 3900) (hnt : s.turns.length ≤ 3900) (hp : x.path.length ≤ 1000000) (ht : Tab w) :
  Calls Tryz.prog 17 #[v, ptV x] w (DoR w (applyP s x).1 (applyP s x).2) := by
 obtain ⟨vn, vt, rfl, h1, h2⟩ := hv.ex
 by_cases h : rightS s = true ∧ mayP x = true
 ·rw [applyP_yes ((rightS_iff s).1 h.1) h.2]
  exact Do_go vn vt s x w hv hs hst hn hnt hp ht ((rightS_iff s).1 h.1) h.2
 rw [applyP_no h]
 exact Do_no vn vt s x w hv hs hst hn hnt hp h
theorem StR.few {s : St} (h : StR s) : (∀ t ∈ s.turns, t.dir.length ≤ 1000000) ∧ Sp s.nodes := by
 refine ⟨fun t ht => ?_, StR.sp h⟩
 have := h.tfit t ht
 unfold Pm.tfit at this
 simp only [Bool.and_eq_true] at this
 have := split_len this.1
 omega
def fillP (q : Bs) (x : Pt) : Pt := { x with path := if x.kind = 1 then upB q else q, dir := keptAt x.kind (if x.kind = 1 then upB q else q) }
def cur (q : Bs) (l : List Pt) (k : Nat) : List Pt := (l.take k).map (fillP q) ++ l.drop k
theorem cur_rows (q : Bs) (l : List Pt) (k : Nat) (hk : k < l.length) : rowsG ptC (cur q l k) = rowsG ptC ((l.take k).map (fillP q)) ++ (ptC l[k] ++ rowsG ptC (l.drop (k + 1))) := by
 unfold cur
 rw [rowsG_app, List.drop_eq_getElem_cons hk, rowsG_cons]
theorem cur_next (q : Bs) (l : List Pt) (k : Nat) (hk : k < l.length) : rowsG ptC ((l.take k).map (fillP q)) ++ (ptC (fillP q l[k]) ++ rowsG ptC (l.drop (k + 1))) = rowsG ptC (cur q l (k + 1)) := by
 unfold cur
 rw [List.take_succ_eq_append_getElem hk, List.map_append, rowsG_app, rowsG_app, List.append_assoc]
 simp [rowsG]
theorem cur_len (q : Bs) (l : List Pt) (k : Nat) (hk : k ≤ l.length) : (rowsG ptC ((l.take k).map (fillP q))).length = k * 7 := by
 rw [rowsG_len ptC_len, List.length_map, List.length_take, Nat.min_eq_left hk]
theorem upB_len {p : Bs} (h : p.length ≤ 100) : (upB p).length ≤ 100 := by
 unfold upB
 cases hp : parent p with
 | none => simp
 | some u => obtain ⟨_, _, _, h1, _⟩ := parent_some hp; exact h1
structure R7 (G k : Nat) (A C : List Value) (c0 c1 c2 c3 c4 c5 c6 : Value) (w : World) : Prop where
 row : w.heap[G]? = some (.cells (A ++ ([c0, c1, c2, c3, c4, c5, c6] ++ C)).toArray TP (0, 0))
 len : A.length = k * 7
section
variable {G k : Nat} {A C : List Value} {c0 c1 c2 c3 c4 c5 c6 : Value} {w w' : World}
theorem R7.non (h : R7 G k A C c0 c1 c2 c3 c4 c5 c6 w) (f : Fp Non w w') : R7 G k A C c0 c1 c2 c3 c4 c5 c6 w' := ⟨f.heap h.row id, h.len⟩
theorem R7.fz (h : R7 G k A C c0 c1 c2 c3 c4 c5 c6 w) (j : Nat) : w.frozen? ⟨G, k * 7 + j, none⟩ = false := frozen_at h.row _
theorem R7.get (h : R7 G k A C c0 c1 c2 c3 c4 c5 c6 w) (j : Nat) (v : Value) (hj : [c0, c1, c2, c3, c4, c5, c6][j]? = some v) : w.cell? ⟨G, k * 7 + j, none⟩ = some v := by
 rw [cell_of_row _ _ _ _ _ _ h.row, List.getElem?_toArray, List.getElem?_append_right (by rw [h.len]; omega), h.len, Nat.add_sub_cancel_left]
 rw [List.getElem?_append_left (List.getElem?_eq_some_iff.1 hj).1]; exact hj
theorem R7.at0 (h : R7 G k A C c0 c1 c2 c3 c4 c5 c6 w) : w.cell? ⟨G, k * 7, none⟩ = some c0 := h.get 0 c0 rfl
theorem R7.at1 (h : R7 G k A C c0 c1 c2 c3 c4 c5 c6 w) : w.cell? ⟨G, k * 7 + 1, none⟩ = some c1 := h.get 1 c1 rfl
theorem R7.at2 (h : R7 G k A C c0 c1 c2 c3 c4 c5 c6 w) : w.cell? ⟨G, k * 7 + 2, none⟩ = some c2 := h.get 2 c2 rfl
theorem R7.set1 (h : R7 G k A C c0 c1 c2 c3 c4 c5 c6 w) (v : Value) : R7 G k A C c0 v c2 c3 c4 c5 c6 (w.setCell ⟨G, k * 7 + 1, none⟩ v) := by
 refine ⟨?_, h.len⟩
 rw [heap_setCell_same w G (k * 7 + 1) _ TP v h.row, List.setIfInBounds_toArray, List.set_append_right _ _ (by rw [h.len]; omega), h.len, Nat.add_sub_cancel_left]; rfl
theorem R7.set2 (h : R7 G k A C c0 c1 c2 c3 c4 c5 c6 w) (v : Value) : R7 G k A C c0 c1 v c3 c4 c5 c6 (w.setCell ⟨G, k * 7 + 2, none⟩ v) := by
 refine ⟨?_, h.len⟩
 rw [heap_setCell_same w G (k * 7 + 2) _ TP v h.row, List.setIfInBounds_toArray, List.set_append_right _ _ (by rw [h.len]; omega), h.len, Nat.add_sub_cancel_left]; rfl
end
set_option maxHeartbeats 16000000 in
theorem Of1_c (l : List Pt) (G g : Nat) (q : Bs) (w : World) (hG : w.heap[G]? = some (.cells (rowsG ptC l).toArray TP (0, 0))) (hg : w.cell? ⟨g, 1, none⟩ = some (.string (B q))) (hgG : g ≠ G) (hq : q.length ≤ 100) (hl : l.length ≤ 10) :
  Calls Tryz.prog 76 #[.slice (some ⟨G, 0, none⟩) l.length l.length, .pointer (some ⟨g, 0, none⟩)] w fun e w' => e = .returned (.slice (some ⟨G, 0, none⟩) l.length l.length) ∧ w'.heap[G]? = some (.cells (rowsG ptC (l.map (fillP q))).toArray TP (0, 0)) ∧ Fp (fun j => j = G) w w' := by
 obtain ⟨n, hn⟩ : ∃ n, n = l.length := ⟨_, rfl⟩
 rw [← hn]
 have hn10 : n ≤ 10 := by omega
 have HX := zI (yI hn (yI hg (yI hgG hq)))
 have H0 : Hid (w.heap[G]? = some (.cells (rowsG ptC (cur q l 0)).toArray TP (0, 0)) ∧ Fp (fun j => j = G) w w) := ⟨by unfold cur; simpa using hG, Fp.refl _ _⟩
 clear hG hg hgG hq hl hn
 go_enter Tryz.func76, Tryz.ntmps76
 go_wp2_with fail
 go_loopw [8] (fun i wr => ∃ k : Nat, k ≤ n ∧ i = .int .i64 k ∧ Hid (wr.heap[G]? = some (.cells (rowsG ptC (cur q l k)).toArray TP (0, 0)) ∧ Fp (fun j => j = G) w wr)) (fun i _ => n - (RowKit.intOf i).toNat)
 case atStart => exact ⟨0, Nat.zero_le _, rfl, H0⟩
 clear H0
 obtain ⟨k, hk, rfl, hR0⟩ := hrel
 rename_i wr _
 by_cases hlt : k < n
 ·have hkl : k < l.length := by rw [← HX.out.1]; exact hlt
  have hrow := hR0.out.1
  rw [cur_rows q l k hkl] at hrow
  have hnx := cur_next q l k hkl
  have hlen := cur_len q l k (Nat.le_of_lt hkl)
  obtain ⟨x, hx⟩ : ∃ x, l[k] = x := ⟨_, rfl⟩
  rw [hx] at hrow hnx
  obtain ⟨kd, dd, p0, da, ve, ow, tt⟩ := x
  generalize rowsG ptC ((l.take k).map (fillP q)) = A at *
  generalize rowsG ptC (l.drop (k + 1)) = C at *
  have HR : Hid (R7 G k A C (.int .i64 kd) (.string (B dd)) (.string (B p0)) (.string (B da)) (.int .i64 ve) (.int .i64 ow) (.bool tt) wr ∧ Fp (fun j => j = G) w wr) := ⟨⟨hrow, hlen⟩, hR0.out.2⟩
  have c0 := HR.out.1.at0; have c1 := HR.out.1.at1; have c2 := HR.out.1.at2
  have z2 := HR.out.1.fz 2
  have g1 := HR.out.2.cell HX.out.2.1 HX.out.2.2.1
  have hq := HX.out.2.2.2
  have HL := zI hlt
  have q3 : ((k : Int) < (n : Int)) = True := eq_true (by omega)
  have q4 : (k < n) = True := eq_true hlt
  have ng : (g = G) = False := eq_false HX.out.2.2.1
  have ng2 : (G = g) = False := eq_false (fun e => HX.out.2.2.1 e.symm)
  clear hrow hlen hR0 hlt
  by_cases hk1 : kd = 1
  ·subst hk1
   have HNX : Hid (∀ wz, R7 G k A C (.int .i64 1) (.string (B (keptAt 1 (upB q)))) (.string (B (upB q))) (.string (B da)) (.int .i64 ve) (.int .i64 ow) (.bool tt) wz → wz.heap[G]? = some (.cells (rowsG ptC (cur q l (k + 1))).toArray TP (0, 0))) := fun wz h => by rw [← hnx]; exact h.row
   clear hnx
   have HUP := zI (fun w => upP_c q w (by omega))
   have HKE := zI (fun w => keptAt_c 1 (upB q) w (by have := upB_len hq; omega))
   clear hx hq hkl
   go_wp2_with fail
   have HR0 := zI (yI (HR.out.2.setCell (S := fun j => j = G) (p := ⟨G, k * 7 + 2, none⟩) (.inl rfl) (.string (B q))) (HR.out.1.set2 (.string (B q))))
   clear c0 c1 c2 z2
   generalize (wr.setCell ⟨G, k * 7 + 2, none⟩ _) = W0 at *
   refine (HUP.out _).mono ?_
   rintro e w3 ⟨rfl, hf3⟩
   have HR3 := zI (yI (HR0.out.1.trans hf3 (fun _ h => h.elim)) (HR0.out.2.non hf3))
   clear hf3
   have z3 := HR3.out.2.fz 2
   have c0 := HR3.out.2.at0; have c2 := HR3.out.2.at2
   go_wp2_with fail
   have HR1a := zI (yI (HR3.out.1.setCell (S := fun j => j = G) (p := ⟨G, k * 7 + 2, none⟩) (.inl rfl) (.string (B (upB q)))) (HR3.out.2.set2 (.string (B (upB q)))))
   clear c0 c2 z3
   generalize (w3.setCell ⟨G, k * 7 + 2, none⟩ _) = W1 at *
   have HR1 := zI (yI (HR1a.out.1.trans (Fp.refl Non W1).drew (fun _ h => h.elim)) (HR1a.out.2.non (Fp.refl Non W1).drew))
   have HS0 := zI (yI HR1.out.2.at0 HR1.out.2.at2)
   refine wp_region_held_drew (S := (fun w' => w'.cell? ⟨G, k * 7, none⟩ = some (.int .i64 1) ∧ w'.cell? ⟨G, k * 7 + 2, none⟩ = some (.string (B (upB q))))) (by kernel_rfl) ?_ (fun hH => ?_)
   ·exact HS0.out
   generalize W1.drew = wd at *
   refine tk 0 hH ?_
   refine tk 1 hH ?_
   refine tk 2 hH ?_
   refine tk 3 hH ?_
   refine tk 4 hH ?_
   refine tk 5 hH ?_
   refine tk 6 hH ?_
   refine tk 7 hH ?_
   refine tk 8 hH ?_
   refine rY 9 fun K hK => ?_
   go_simp
   go_at_call 68
   refine (HKE.out _).mono ?_
   rintro e w9 ⟨rfl, hf9⟩
   have HR9 := zI (yI (HR1.out.1.trans hf9 (fun _ h => h.elim)) (HR1.out.2.non hf9))
   have HS9 := zI (yI HR9.out.2.at0 HR9.out.2.at2)
   have z9 := HR9.out.2.fz 1
   have c19 := HR9.out.2.at1
   have hr10 := HR9.out.2.set1 (.string (B (keptAt 1 (upB q))))
   have HS10 := zI (yI hr10.at0 hr10.at2)
   have HR10 := zI (yI (HR9.out.1.setCell (S := fun j => j = G) (p := ⟨G, k * 7 + 1, none⟩) (.inl rfl) (.string (B (keptAt 1 (upB q))))) hr10)
   clear hf9 hr10
   go_wp2_with fail
   refine hK.out _ _ HS9.out (fun hH => ?_)
   clear hK K
   try simp only [zz]
   refine tk 10 hH ?_
   refine tk 11 hH ?_
   refine rY 12 fun K hK => ?_
   go_simp
   refine hK.out _ _ HS10.out (fun hH => ?_)
   clear hK K z9 c19
   try simp only [zz]
   refine dn ?_
   clear hH
   generalize (w9.setCell ⟨G, k * 7 + 1, none⟩ _) = wz at *
   have hM : Hid (wz.heap[G]? = some (.cells (rowsG ptC (cur q l (k + 1))).toArray TP (0, 0)) ∧ Fp (fun j => j = G) w wz) := ⟨HNX.out wz HR10.out.2, HR10.out.1⟩
   have hj1 := HL.out
   go_wp2
   go_roundw
   case rel => exact ⟨k + 1, by omega, by go_num, hM⟩
   case measure => simp [RowKit.intOf]; omega
  have q5 : (kd == 1) = false := beq_eq_false_iff_ne.2 hk1
  have q6 : (kd = 1) = False := eq_false hk1
  have HNX : Hid (∀ wz, R7 G k A C (.int .i64 kd) (.string (B (keptAt kd q))) (.string (B q)) (.string (B da)) (.int .i64 ve) (.int .i64 ow) (.bool tt) wz → wz.heap[G]? = some (.cells (rowsG ptC (cur q l (k + 1))).toArray TP (0, 0))) := fun wz h => by
   rw [← hnx]
   have e : fillP q ⟨kd, dd, p0, da, ve, ow, tt⟩ = ⟨kd, keptAt kd q, q, da, ve, ow, tt⟩ := by unfold fillP; simp only [hk1, if_false]
   rw [e]; exact h.row
  clear hnx hk1
  have HKE := zI (fun w => keptAt_c kd q w (by omega))
  clear hx hq hkl
  go_wp2_with fail
  have HR1a := zI (yI (HR.out.2.setCell (S := fun j => j = G) (p := ⟨G, k * 7 + 2, none⟩) (.inl rfl) (.string (B q))) (HR.out.1.set2 (.string (B q))))
  clear c0 c1 c2 z2
  generalize (wr.setCell ⟨G, k * 7 + 2, none⟩ _) = W1 at *
  have HR1 := zI (yI (HR1a.out.1.trans (Fp.refl Non W1).drew (fun _ h => h.elim)) (HR1a.out.2.non (Fp.refl Non W1).drew))
  have HS0 := zI (yI HR1.out.2.at0 HR1.out.2.at2)
  refine wp_region_held_drew (S := (fun w' => w'.cell? ⟨G, k * 7, none⟩ = some (.int .i64 kd) ∧ w'.cell? ⟨G, k * 7 + 2, none⟩ = some (.string (B q)))) (by kernel_rfl) ?_ (fun hH => ?_)
  ·exact HS0.out
  generalize W1.drew = wd at *
  refine tk 0 hH ?_
  refine tk 1 hH ?_
  refine tk 2 hH ?_
  refine tk 3 hH ?_
  refine tk 4 hH ?_
  refine tk 5 hH ?_
  refine tk 6 hH ?_
  refine tk 7 hH ?_
  refine tk 8 hH ?_
  refine rY 9 fun K hK => ?_
  go_simp
  go_at_call 68
  refine (HKE.out _).mono ?_
  rintro e w9 ⟨rfl, hf9⟩
  have HR9 := zI (yI (HR1.out.1.trans hf9 (fun _ h => h.elim)) (HR1.out.2.non hf9))
  have HS9 := zI (yI HR9.out.2.at0 HR9.out.2.at2)
  have z9 := HR9.out.2.fz 1
  have c19 := HR9.out.2.at1
  have hr10 := HR9.out.2.set1 (.string (B (keptAt kd q)))
  have HS10 := zI (yI hr10.at0 hr10.at2)
  have HR10 := zI (yI (HR9.out.1.setCell (S := fun j => j = G) (p := ⟨G, k * 7 + 1, none⟩) (.inl rfl) (.string (B (keptAt kd q)))) hr10)
  clear hf9 hr10
  go_wp2_with fail
  refine hK.out _ _ HS9.out (fun hH => ?_)
  clear hK K
  try simp only [zz]
  refine tk 10 hH ?_
  refine tk 11 hH ?_
  refine rY 12 fun K hK => ?_
  go_simp
  refine hK.out _ _ HS10.out (fun hH => ?_)
  clear hK K z9 c19
  try simp only [zz]
  refine dn ?_
  clear hH
  generalize (w9.setCell ⟨G, k * 7 + 1, none⟩ _) = wz at *
  have hM : Hid (wz.heap[G]? = some (.cells (rowsG ptC (cur q l (k + 1))).toArray TP (0, 0)) ∧ Fp (fun j => j = G) w wz) := ⟨HNX.out wz HR10.out.2, HR10.out.1⟩
  have hj1 := HL.out
  go_wp2
  go_roundw
  case rel => exact ⟨k + 1, by omega, by go_num, hM⟩
  case measure => simp [RowKit.intOf]; omega
 have hke : k = n := by omega
 subst hke
 have q3 : ((k : Int) < (k : Int)) = False := eq_false (by omega)
 have hfin := hR0.out.1
 unfold cur at hfin
 rw [HX.out.1, List.take_length, List.drop_length, List.append_nil] at hfin
 have HF := zI (yI hfin hR0.out.2)
 clear hlt hk hfin hR0
 go_wp2
 go_ret
 exact ⟨rfl, HF.out.1, HF.out.2⟩
end Go.Proofs.YtphoglepiegeiaaGreatDoor
namespace Go.Proofs.YtphoglepiegeiaaGreatDoor
set_option maxRecDepth 20000
open Go.RowKit Pm
theorem Sg.of_row {α : Type} {enc : α → List Value} {k : Nat} (hk : ∀ x, (enc x).length = k) {w : World} {G : Nat} {T : TypeId} {l : List α} (c : Nat) (h : w.heap[G]? = some (.cells (rowsG enc l).toArray T (0, 0))) : Sg enc k w (.slice (some ⟨G, 0, none⟩) l.length c) l := by
 refine ⟨_, c, rfl, .inr ⟨G, 0, rfl, fun i hi => ⟨fun j v hv => ?_⟩⟩⟩
 have hj : j < k := by rw [← hk l[i]]; exact (List.getElem?_eq_some_iff.1 hv).1
 rw [cell_of_row w G _ _ T (0, 0) h, Nat.zero_add, List.getElem?_toArray, rowsG_get hk l i j hi hj]
 exact hv
theorem of_step {q : Bs} (l : List Pt) (g : Nat) (w : World) (hg : w.cell? ⟨g, 1, none⟩ = some (.string (B q))) (hgl : g < w.heap.size) (hq : q.length ≤ 100) (hl : l.length ≤ 10) :
  Calls Tryz.prog 76 #[.slice (some ⟨w.heap.size, 0, none⟩) l.length l.length, .pointer (some ⟨g, 0, none⟩)] (w.alloc (.cells (rowsG ptC l).toArray TP)) fun e w' => e = .returned (.slice (some ⟨w.heap.size, 0, none⟩) l.length l.length) ∧ Sg ptC 7 w' (.slice (some ⟨w.heap.size, 0, none⟩) l.length l.length) (l.map (fillP q)) ∧ Fp Non w w' := by
 have hf := fp_alloc w (.cells (rowsG ptC l).toArray TP)
 refine (Of1_c l w.heap.size g q _ (heap_alloc_new w _) (hf.cell hg id) (by omega) hq hl).mono ?_
 rintro e w' ⟨rfl, h1, h2⟩
 refine ⟨rfl, ?_, hf.trans h2 (fun k hk => .inr (by omega))⟩
 have := Sg.of_row ptC_len l.length h1
 rwa [List.length_map] at this
set_option maxHeartbeats 16000000 in
theorem Of_f (o : Opn) (w : World) (hl : o.path.length ≤ 1000000) :
  Calls Tryz.prog 30 #[opV o] w fun e w' => (∃ v', e = .returned v' ∧ Sg ptC 7 w' v' (partsOf o) ∧ ∀ j, v'.ownBlock = some j → w.heap.size ≤ j) ∧ Fp Non w w' := by
 have hmc := fun w => May_c o w hl
 obtain ⟨kk, p, d, v, ow, t⟩ := o
 obtain ⟨bm, hm⟩ : ∃ b, may ⟨kk, p, d, v, ow, t⟩ = b := ⟨_, rfl⟩
 rw [hm] at hmc
 have hf0 := fp_alloc w (.cells #[.int .i64 kk, .string (B p), .string (B d), .int .i64 v, .int .i64 ow, .bool t] TO_)
 have hb0 := heap_alloc_new w (.cells #[.int .i64 kk, .string (B p), .string (B d), .int .i64 v, .int .i64 ow, .bool t] TO_)
 have HF0 := zI (yI hf0 hb0)
 unfold opV strV at hmc ⊢
 simp only at hmc ⊢
 have HM := zI hmc
 clear hmc hf0 hb0
 cases bm with
 | false =>
  have e : partsOf ⟨kk, p, d, v, ow, t⟩ = [] := by unfold partsOf; rw [hm]; rfl
  rw [e]
  clear e hm hl
  go_enter Tryz.func30, Tryz.ntmps30
  go_wp2_with fail
  refine (HM.out _).mono ?_
  rintro e w1 ⟨rfl, hf⟩
  have F := zI (HF0.out.1.then hf)
  clear hf
  go_wp2
  go_ret
  exact ⟨⟨_, rfl, Sg.nil _, fun j hj => by simp [Value.ownBlock] at hj⟩, F.out⟩
 | true => ?_
 have hk := may_kind hm
 have hp : p.length ≤ 100 := split_len (may_split hm)
 clear hl
 simp only at hk
 rcases hk with rfl | rfl | rfl | rfl | rfl | rfl | rfl
 ·obtain ⟨ps, hps⟩ : ∃ ps, ps = partsOf ⟨1, p, d, v, ow, t⟩ := ⟨_, rfl⟩
  have hpe : ([⟨1, [], [], [], 0, 0, false⟩, ⟨2, [], [], d, 0, ow, t⟩] : List Pt).map (fillP p) = ps := by rw [hps]; unfold partsOf; rw [if_pos hm]; simp [fillP, keptAt]
  rw [← hps]
  have HPE := zI (yI hpe hp)
  clear hpe hps hp hm
  go_enter Tryz.func30, Tryz.ntmps30
  go_wp2_with fail
  refine (HM.out _).mono ?_
  rintro e w1 ⟨rfl, hf⟩
  have K1 := zI (yI (HF0.out.1.then hf) (hf.heap HF0.out.2 id))
  clear hf
  obtain ⟨o0, o1, o2, o3, o4, o5⟩ := box6 K1.out.2
  have HC := zI (of_step (q := p) ([⟨1, [], [], [], 0, 0, false⟩, ⟨2, [], [], d, 0, ow, t⟩] : List Pt) w.heap.size w1 o1 (Array.getElem?_eq_some_iff.1 K1.out.2).1 HPE.out.2 (by simp))
  go_wp2_with fail
  refine HC.out.mono ?_
  rintro e w2 ⟨rfl, hsg, hf⟩
  have HE := zI (yI (show Sg ptC 7 w2 (.slice (some ⟨w1.heap.size, 0, none⟩) 2 2) ps by rw [← HPE.out.1]; exact hsg) (K1.out.1.then hf))
  clear hsg hf
  go_wp2
  go_ret
  exact ⟨⟨_, rfl, HE.out.1, fun j hj => by have h1 := K1.out.1.size; simp [Value.ownBlock] at hj; omega⟩, HE.out.2⟩
 ·obtain ⟨ps, hps⟩ : ∃ ps, ps = partsOf ⟨2, p, d, v, ow, t⟩ := ⟨_, rfl⟩
  have hpe : ([⟨3, [], [], [], v, 0, false⟩, ⟨4, [], [], [], 0, 0, false⟩] : List Pt).map (fillP p) = ps := by rw [hps]; unfold partsOf; rw [if_pos hm]; simp [fillP, keptAt]
  rw [← hps]
  have HPE := zI (yI hpe hp)
  clear hpe hps hp hm
  go_enter Tryz.func30, Tryz.ntmps30
  go_wp2_with fail
  refine (HM.out _).mono ?_
  rintro e w1 ⟨rfl, hf⟩
  have K1 := zI (yI (HF0.out.1.then hf) (hf.heap HF0.out.2 id))
  clear hf
  obtain ⟨o0, o1, o2, o3, o4, o5⟩ := box6 K1.out.2
  have HC := zI (of_step (q := p) ([⟨3, [], [], [], v, 0, false⟩, ⟨4, [], [], [], 0, 0, false⟩] : List Pt) w.heap.size w1 o1 (Array.getElem?_eq_some_iff.1 K1.out.2).1 HPE.out.2 (by simp))
  go_wp2_with fail
  refine HC.out.mono ?_
  rintro e w2 ⟨rfl, hsg, hf⟩
  have HE := zI (yI (show Sg ptC 7 w2 (.slice (some ⟨w1.heap.size, 0, none⟩) 2 2) ps by rw [← HPE.out.1]; exact hsg) (K1.out.1.then hf))
  clear hsg hf
  go_wp2
  go_ret
  exact ⟨⟨_, rfl, HE.out.1, fun j hj => by have h1 := K1.out.1.size; simp [Value.ownBlock] at hj; omega⟩, HE.out.2⟩
 ·obtain ⟨ps, hps⟩ : ∃ ps, ps = partsOf ⟨3, p, d, v, ow, t⟩ := ⟨_, rfl⟩
  have hpe : ([⟨5, [], [], d, v, 0, false⟩] : List Pt).map (fillP p) = ps := by rw [hps]; unfold partsOf; rw [if_pos hm]; simp [fillP, keptAt]
  rw [← hps]
  have HPE := zI (yI hpe hp)
  clear hpe hps hp hm
  go_enter Tryz.func30, Tryz.ntmps30
  go_wp2_with fail
  refine (HM.out _).mono ?_
  rintro e w1 ⟨rfl, hf⟩
  have K1 := zI (yI (HF0.out.1.then hf) (hf.heap HF0.out.2 id))
  clear hf
  obtain ⟨o0, o1, o2, o3, o4, o5⟩ := box6 K1.out.2
  have HC := zI (of_step (q := p) ([⟨5, [], [], d, v, 0, false⟩] : List Pt) w.heap.size w1 o1 (Array.getElem?_eq_some_iff.1 K1.out.2).1 HPE.out.2 (by simp))
  go_wp2_with fail
  refine HC.out.mono ?_
  rintro e w2 ⟨rfl, hsg, hf⟩
  have HE := zI (yI (show Sg ptC 7 w2 (.slice (some ⟨w1.heap.size, 0, none⟩) 1 1) ps by rw [← HPE.out.1]; exact hsg) (K1.out.1.then hf))
  clear hsg hf
  go_wp2
  go_ret
  exact ⟨⟨_, rfl, HE.out.1, fun j hj => by have h1 := K1.out.1.size; simp [Value.ownBlock] at hj; omega⟩, HE.out.2⟩
 ·obtain ⟨ps, hps⟩ : ∃ ps, ps = partsOf ⟨4, p, d, v, ow, t⟩ := ⟨_, rfl⟩
  have hpe : ([⟨6, [], [], [], v, 0, false⟩] : List Pt).map (fillP p) = ps := by rw [hps]; unfold partsOf; rw [if_pos hm]; simp [fillP, keptAt]
  rw [← hps]
  have HPE := zI (yI hpe hp)
  clear hpe hps hp hm
  go_enter Tryz.func30, Tryz.ntmps30
  go_wp2_with fail
  refine (HM.out _).mono ?_
  rintro e w1 ⟨rfl, hf⟩
  have K1 := zI (yI (HF0.out.1.then hf) (hf.heap HF0.out.2 id))
  clear hf
  obtain ⟨o0, o1, o2, o3, o4, o5⟩ := box6 K1.out.2
  have HC := zI (of_step (q := p) ([⟨6, [], [], [], v, 0, false⟩] : List Pt) w.heap.size w1 o1 (Array.getElem?_eq_some_iff.1 K1.out.2).1 HPE.out.2 (by simp))
  go_wp2_with fail
  refine HC.out.mono ?_
  rintro e w2 ⟨rfl, hsg, hf⟩
  have HE := zI (yI (show Sg ptC 7 w2 (.slice (some ⟨w1.heap.size, 0, none⟩) 1 1) ps by rw [← HPE.out.1]; exact hsg) (K1.out.1.then hf))
  clear hsg hf
  go_wp2
  go_ret
  exact ⟨⟨_, rfl, HE.out.1, fun j hj => by have h1 := K1.out.1.size; simp [Value.ownBlock] at hj; omega⟩, HE.out.2⟩
 ·obtain ⟨ps, hps⟩ : ∃ ps, ps = partsOf ⟨5, p, d, v, ow, t⟩ := ⟨_, rfl⟩
  have hpe : ([⟨7, [], [], [], 0, 0, false⟩] : List Pt).map (fillP p) = ps := by rw [hps]; unfold partsOf; rw [if_pos hm]; simp [fillP, keptAt]
  rw [← hps]
  have HPE := zI (yI hpe hp)
  clear hpe hps hp hm
  go_enter Tryz.func30, Tryz.ntmps30
  go_wp2_with fail
  refine (HM.out _).mono ?_
  rintro e w1 ⟨rfl, hf⟩
  have K1 := zI (yI (HF0.out.1.then hf) (hf.heap HF0.out.2 id))
  clear hf
  obtain ⟨o0, o1, o2, o3, o4, o5⟩ := box6 K1.out.2
  have HC := zI (of_step (q := p) ([⟨7, [], [], [], 0, 0, false⟩] : List Pt) w.heap.size w1 o1 (Array.getElem?_eq_some_iff.1 K1.out.2).1 HPE.out.2 (by simp))
  go_wp2_with fail
  refine HC.out.mono ?_
  rintro e w2 ⟨rfl, hsg, hf⟩
  have HE := zI (yI (show Sg ptC 7 w2 (.slice (some ⟨w1.heap.size, 0, none⟩) 1 1) ps by rw [← HPE.out.1]; exact hsg) (K1.out.1.then hf))
  clear hsg hf
  go_wp2
  go_ret
  exact ⟨⟨_, rfl, HE.out.1, fun j hj => by have h1 := K1.out.1.size; simp [Value.ownBlock] at hj; omega⟩, HE.out.2⟩
 ·obtain ⟨ps, hps⟩ : ∃ ps, ps = partsOf ⟨6, p, d, v, ow, t⟩ := ⟨_, rfl⟩
  have hpe : ([⟨8, [], [], [], 0, 0, false⟩, ⟨9, [], [], [], 0, 0, false⟩] : List Pt).map (fillP p) = ps := by rw [hps]; unfold partsOf; rw [if_pos hm]; simp [fillP, keptAt]
  rw [← hps]
  have HPE := zI (yI hpe hp)
  clear hpe hps hp hm
  go_enter Tryz.func30, Tryz.ntmps30
  go_wp2_with fail
  refine (HM.out _).mono ?_
  rintro e w1 ⟨rfl, hf⟩
  have K1 := zI (yI (HF0.out.1.then hf) (hf.heap HF0.out.2 id))
  clear hf
  obtain ⟨o0, o1, o2, o3, o4, o5⟩ := box6 K1.out.2
  have HC := zI (of_step (q := p) ([⟨8, [], [], [], 0, 0, false⟩, ⟨9, [], [], [], 0, 0, false⟩] : List Pt) w.heap.size w1 o1 (Array.getElem?_eq_some_iff.1 K1.out.2).1 HPE.out.2 (by simp))
  go_wp2_with fail
  refine HC.out.mono ?_
  rintro e w2 ⟨rfl, hsg, hf⟩
  have HE := zI (yI (show Sg ptC 7 w2 (.slice (some ⟨w1.heap.size, 0, none⟩) 2 2) ps by rw [← HPE.out.1]; exact hsg) (K1.out.1.then hf))
  clear hsg hf
  go_wp2
  go_ret
  exact ⟨⟨_, rfl, HE.out.1, fun j hj => by have h1 := K1.out.1.size; simp [Value.ownBlock] at hj; omega⟩, HE.out.2⟩
 obtain ⟨ps, hps⟩ : ∃ ps, ps = partsOf ⟨7, p, d, v, ow, t⟩ := ⟨_, rfl⟩
 have hpe : ([⟨8, [], [], [], 0, 0, false⟩, ⟨10, [], [], [], 0, ow, false⟩] : List Pt).map (fillP p) = ps := by rw [hps]; unfold partsOf; rw [if_pos hm]; simp [fillP, keptAt]
 rw [← hps]
 have HPE := zI (yI hpe hp)
 clear hpe hps hp hm
 go_enter Tryz.func30, Tryz.ntmps30
 go_wp2_with fail
 refine (HM.out _).mono ?_
 rintro e w1 ⟨rfl, hf⟩
 have K1 := zI (yI (HF0.out.1.then hf) (hf.heap HF0.out.2 id))
 clear hf
 obtain ⟨o0, o1, o2, o3, o4, o5⟩ := box6 K1.out.2
 have HC := zI (of_step (q := p) ([⟨8, [], [], [], 0, 0, false⟩, ⟨10, [], [], [], 0, ow, false⟩] : List Pt) w.heap.size w1 o1 (Array.getElem?_eq_some_iff.1 K1.out.2).1 HPE.out.2 (by simp))
 go_wp2_with fail
 refine HC.out.mono ?_
 rintro e w2 ⟨rfl, hsg, hf⟩
 have HE := zI (yI (show Sg ptC 7 w2 (.slice (some ⟨w1.heap.size, 0, none⟩) 2 2) ps by rw [← HPE.out.1]; exact hsg) (K1.out.1.then hf))
 clear hsg hf
 go_wp2
 go_ret
 exact ⟨⟨_, rfl, HE.out.1, fun j hj => by have h1 := K1.out.1.size; simp [Value.ownBlock] at hj; omega⟩, HE.out.2⟩
end Go.Proofs.YtphoglepiegeiaaGreatDoor
