/- MetaMoves (gen_e2.py) -/
import Derived.Test.YtdfnfkknbjageaaZT
set_option linter.unusedVariables false
set_option linter.unusedSimpArgs false
namespace Go.Proofs.Ytdfnfkknbjageaa
set_option maxRecDepth 20000
set_option linter.unusedVariables false
set_option linter.unusedSimpArgs false
open Go.RowKit Pm


theorem sg_off {w w' : World} {q : Nat} {l : List Mt} {v : Value} {g : List Int} (h : MeW w q l) (hv : Sg inC 1 w v g) (f : Fp (fun k => k = q) w w') : Sg inC 1 w' v g := by
  obtain ⟨u, h1, h2⟩ := h.ex
  obtain ⟨a, n, c, rfl⟩ : ∃ a n c, u = .slice a n c := by obtain ⟨a, c, e⟩ := h2.shape; exact ⟨a, _, c, e⟩
  by_cases h0 : g = []
  · subst h0
    obtain ⟨ao, cap, e⟩ := hv.shape
    exact ⟨ao, cap, e, .inl rfl⟩
  · have h00 := List.length_pos_iff.2 h0
    obtain ⟨k, o, cap, rfl, hc⟩ := hv.at h00
    have hk : ¬ k = q := by
      rintro rfl
      have c0 := (hc 0 h00).get 0 _ rfl
      rw [cell_of_row _ _ _ _ _ _ h1] at c0
      cases ho : o + 0 * 1 + 0 with
      | zero => rw [ho] at c0; simp at c0
      | succ j => rw [ho] at c0; simp at c0
    exact ⟨_, cap, rfl, .inr ⟨k, o, rfl, fun i hi => (hc i hi).keep f hk⟩⟩
/-- What is so, and stays so over the committee's block. -/
structure O3 (w : World) (q b : Nat) (l ms : List Mt) (g : List Int) (v u : Value) (V : World) : Prop where
  fp : Fp Non w V
  bx : V.heap[b]? = some (.cells (anL 0 v) TAN (0, 0))
  ns : NsM V v ms
  sg : Sg inC 1 V u g
  me : MeW V q l
theorem O3.non {w V V' : World} {q b : Nat} {l ms : List Mt} {g : List Int} {v u : Value} (h : O3 w q b l ms g v u V) (f : Fp Non V V') : O3 w q b l ms g v u V' :=
  ⟨h.fp.then f, f.heap h.bx (fun h => h), h.ns.non f, h.sg.non f, h.me.non f⟩
theorem O3.later {w V V' : World} {q b : Nat} {l l' ms : List Mt} {g : List Int} {v u : Value} (h : O3 w q b l ms g v u V) (f : Fp (fun k => k = q) V V') (hm : MeW V' q l') (hb : b ≠ q) (hq : w.heap.size ≤ q) : O3 w q b l' ms g v u V' :=
  ⟨h.fp.trans f (fun k hk => .inr (by have hk : k = q := hk; omega)), f.heap h.bx hb, h.me.off h.ns f, sg_off h.me h.sg f, hm⟩
theorem one_tx (w : World) (a : Bs) : Tx (w.alloc (.cells #[.string (B a)] 9)) (.slice (some ⟨w.heap.size, 0, none⟩) 1 1) [a] := by
  have h := heap_alloc_new w (.cells #[.string (B a)] 9)
  refine ⟨some ⟨w.heap.size, 0, none⟩, 1, rfl, .inr ⟨_, 0, rfl, fun i hi => ?_⟩⟩
  rw [cell_of_row _ _ _ _ _ _ h]
  match i, hi with
  | 0, _ => rfl
theorem put_keys {l : List Mt} {x y : Mt} (hu : UpM l) (h : getM l x.d = some y) : (putM l x).map Mt.d = l.map Mt.d := by
  induction l with
  | nil => cases h
  | cons z r ih =>
    unfold getM at h
    unfold putM
    by_cases e : z.d = x.d
    · rw [if_neg (by rw [e, lt_irrefl]; exact Bool.false_ne_true), if_pos e, List.map_cons, List.map_cons, e]
    · rw [if_neg e] at h
      have hm := getM_some h
      have hlt : lt z.d x.d = true := by rw [← hm.2]; exact (upM_cons.1 hu).1 _ hm.1
      rw [if_pos hlt, List.map_cons, List.map_cons, ih (upM_cons.1 hu).2 h]
theorem rtB_one {l : List Mt} (h : RtM l) (d : Bs) : rtB l [d] = okP d := by unfold rtB; rw [(right_ifft l).2 h]; simp
theorem rtL_one {l : List Mt} (h : RtM l) {d : Bs} (hd : okP d = true) : rtL l [d] = [(gkM l d).1] := by unfold rtL; rw [rtB_one h, hd]; rfl
theorem gk_pk {l : List Mt} {d : Bs} {k : Nat} {y : Mt} (h : PkM l d k y) : (gkM l d).1 = y.g := by unfold gkM; rw [h.kp]
/-- What a Flip of what begins to move comes to. -/
structure FlW (l m : List Mt) (p : Bs) (tt : Int) (x : Mt) (m2 : List Mt) (er : Int) : Prop where
  eq : flM m p x.e tt = (m2, er)
  rt : RtM m2
  way : (er = 0 ∧ x.e < 281474976710656 ∧ m2 = putM m ⟨p, tt, x.e + 1, tt⟩) ∨ (er = 133 ∧ x.e = 281474976710656 ∧ m2 = m)
theorem flW {l m : List Mt} {p : Bs} {tt : Int} {x : Mt} (h : Beg l p tt m x) : ∃ m2 er, FlW l m p tt x m2 er := by
  have he := okE_iff.1 h.e
  unfold mxN at he
  by_cases hx : x.e < 281474976710656
  · exact ⟨_, _, flM_first h hx, (h.flipped hx).1, .inl ⟨rfl, hx, rfl⟩⟩
  · have e : flp m p x.e tt = ⟨m, 133⟩ := by rw [h.flip x.e, if_neg (fun k => hx k.2)]
    exact ⟨m, 133, by unfold flM; rw [e, if_neg (by simp)], h.rt, .inr ⟨rfl, by omega, rfl⟩⟩
/-- What is told of a directory then. -/
structure MvW (m m2 : List Mt) (p d : Bs) (tt : Int) (k : Nat) (u : Mt) (z : Int) : Prop where
  pk : PkM m d k u
  kl : k < m2.length
  kd : (m2[k]'kl).d = u.d
  g1 : (gkM m d).1 = u.g
  g2 : (gkM m2 d).1 = z
  yes : u.d = p → z = tt
  no : u.d ≠ p → z = u.g
theorem mvW {l m m2 : List Mt} {p d : Bs} {tt : Int} {x : Mt} (h : Beg l p tt m x) (hx : x.e < 281474976710656) (hm2 : m2 = putM m ⟨p, tt, x.e + 1, tt⟩) (hd : okP d = true) : ∃ k u z, MvW m m2 p d tt k u z := by
  obtain ⟨k, u, hp⟩ := pkM h.rt hd
  have e : flp m p x.e tt = ⟨m2, 0⟩ := by rw [h.flip x.e, if_pos ⟨rfl, hx⟩, hm2]
  have hk : KeptF m (flp m p x.e tt).l p d tt u := keep_flip (by rw [e]) hd hp
  rw [e] at hk
  obtain ⟨kb, y, hy, hyd, hyn, hyy⟩ := hk.ex
  have hkeys : m2.map Mt.d = m.map Mt.d := by rw [hm2]; exact put_keys (x := ⟨p, tt, x.e + 1, tt⟩) h.rt.up h.get
  have hl : m2.length = m.length := by have := congrArg List.length hkeys; simpa using this
  have hkl : k < m2.length := by rw [hl]; exact hp.kl
  have hkd : (m2[k]'hkl).d = u.d := by
    have h1 : (m2.map Mt.d)[k]? = (m.map Mt.d)[k]? := by rw [hkeys]
    rw [List.getElem?_map, List.getElem?_map, List.getElem?_eq_getElem hkl, hp.tt] at h1
    simpa using h1
  exact ⟨k, u, y.g, hp, hkl, hkd, gk_pk hp, gk_pk hy, hyy, fun h => by rw [hyn h]⟩
set_option maxHeartbeats 16000000 in
theorem MetaMoves_c (v : Value) (l : List Mt) (p : Bs) (tt : Int) (dir : Bs) (w : World) (hv : NsM w v l) (hs : SzM l) (hp : p.length ≤ 140737488355328) (hdir : dir.length ≤ 140737488355328) :
    Calls Try.prog 5 #[v, .string (B p), .int .i64 tt, .string (B dir)] w fun e w' => e = .returned (.bool true) ∧ Fp Non w w' := by
  have hnew := fun W (f : Fp Non w W) => NewM_c v l W (hv.non f) hs
  have hg := fun W (f : Fp Non w W) => greatM_c v (.slice none 0 0) l [] W (hv.non f) hs.n (CdsW.nil W) (by simp) (fun _ h => by cases h)
  obtain ⟨ao, cap, rfl⟩ := hv.shape
  obtain ⟨n, hn⟩ : ∃ n, n = l.length := ⟨_, rfl⟩
  rw [← hn] at hnew hg ⊢
  have HNEW := Lib.hid hnew
  have HG := Lib.hid hg
  have HP := Lib.hid (And.intro hp hdir)
  clear hnew hg hv hs hn hp hdir
  go_enter Try.func5, Try.ntmps5
  go_wp2_with fail
  refine (headM_c _).mono ?_
  rintro e w1 ⟨rfl, hf1⟩
  have F1 := Lib.hid hf1
  clear hf1
  go_wp2_with fail
  refine (HNEW.out _ F1.out).mono ?_
  intro e w2 hR
  have F2 := Lib.hid (F1.out.then hR.fp)
  rcases hR.way with ⟨hr, rfl⟩ | ⟨hr, q, rfl, hM, hq⟩
  · clear hR hr
    go_wp2
    go_ret
    exact ⟨rfl, F2.out⟩
  have HRT := Lib.hid ((right_ifft l).1 hr)
  have HM := Lib.hid hM
  have HQ := Lib.hid (show w.heap.size ≤ q from Nat.le_trans F1.out.size hq)
  clear hR hr hM hq F1
  go_wp2_with fail
  refine (HG.out _ F2.out).mono ?_
  rintro e w3 ⟨⟨g, rfl⟩, hf⟩
  have F3 := Lib.hid (F2.out.then hf)
  have HM := Lib.hid (HM.out.non hf)
  clear hf F2
  cases g with
  | true =>
    go_wp2
    go_ret
    exact ⟨rfl, F3.out⟩
  | false =>
  by_cases hp0 : 1000 < p.length
  · have q10 : ((1000 : Int) < (p.length : Int)) = True := eq_true (by omega)
    have q20 : (1000 < p.length) = True := eq_true hp0
    clear hp0
    go_wp2
    go_ret
    exact ⟨rfl, F3.out⟩
  have q10 : ((1000 : Int) < (p.length : Int)) = False := eq_false (by omega)
  have q20 : (1000 < p.length) = False := eq_false hp0
  have HPB0 := Lib.hid (show p.length ≤ 140737488355328 by omega)
  clear hp0
  by_cases hp1 : 1000 < dir.length
  · have q11 : ((1000 : Int) < (dir.length : Int)) = True := eq_true (by omega)
    have q21 : (1000 < dir.length) = True := eq_true hp1
    clear hp1
    go_wp2
    go_ret
    exact ⟨rfl, F3.out⟩
  have q11 : ((1000 : Int) < (dir.length : Int)) = False := eq_false (by omega)
  have q21 : (1000 < dir.length) = False := eq_false hp1
  have HPB1 := Lib.hid (show dir.length ≤ 140737488355328 by omega)
  clear hp1
  have hdo := doL_c q l 11 p 0 tt w3 HM.out HRT.out HP.out.1
  rw [doM_begin] at hdo
  have hbw := bgW l p tt
  have hyes := bgM_yes (l := l) (p := p) (tt := tt)
  have hno := bgM_no (l := l) (p := p) (tt := tt)
  obtain ⟨r, hr⟩ : ∃ r, bgn l p tt = r := ⟨_, rfl⟩
  rw [hr] at hbw hyes hno
  clear hr
  rcases Decidable.em (r.e ≠ 0) with h0 | h0
  · rw [hno h0] at hdo
    have q5 : (r.e == 0) = false := beq_eq_false_iff_ne.2 h0
    have q6 : (r.e = 0) = False := eq_false h0
    have q7 : (r.e != 0) = true := by simp [bne, q5]
    have HDO := Lib.hid hdo
    clear hdo hyes hno hbw h0
    go_wp2_with fail
    refine HDO.out.mono ?_
    intro e w4 hR
    obtain ⟨v4, rfl, hN⟩ := hR.ex
    obtain ⟨a4, c4, rfl⟩ : ∃ a c, v4 = Value.slice a 0 c := by obtain ⟨a, c, e⟩ := hN.shape; exact ⟨a, c, e⟩
    have HF := Lib.hid ((KQ.fp F3.out HQ.out).later hR.fp)
    have fa := fp_alloc w4 (.cells (anL r.e (.slice a4 0 c4)) TAN)
    have HF := Lib.hid (HF.out.non fa)
    have x0 := (boxA (heap_alloc_new w4 (.cells (anL r.e (.slice a4 0 c4)) TAN))).1
    clear hR hN fa
    go_wp2_with (refine wpList_stC rfl TAN _ _ rfl _ _ rfl rfl (stn_any stAN _ rfl rfl (anL_one ⟨_, _, _, rfl⟩)) ?_)
    go_ret
    exact ⟨rfl, HF.out.now⟩
  rw [Decidable.not_not] at h0
  have hB := beg hbw h0
  rw [hyes h0] at hdo
  obtain ⟨m, hm⟩ : ∃ m, m = r.l := ⟨_, rfl⟩
  obtain ⟨x, hx⟩ : ∃ x, x = r.m := ⟨_, rfl⟩
  rw [← hm, ← hx] at hB hdo
  obtain ⟨ms, hms⟩ : ∃ ms, ms = x :: below m x.d := ⟨_, rfl⟩
  rw [← hms] at hdo
  have hlen : ∃ k, ms.length = k + 1 ∧ k ≤ 100 := ⟨(below m x.d).length, by rw [hms]; rfl, Nat.le_trans (below_len m x.d) (by have := hB.rt.len; omega)⟩
  obtain ⟨k, hk, hkb⟩ := hlen
  obtain ⟨m2, er, hfl⟩ := flW hB
  have HDO := Lib.hid hdo
  have HB := Lib.hid hB
  have HFL := Lib.hid hfl
  have HMS := Lib.hid (And.intro hms (And.intro hk hkb))
  clear hdo hyes hno hbw h0 hB hm hx hms hk hkb hfl
  go_wp2_with fail
  refine HDO.out.mono ?_
  intro e w4 hR
  obtain ⟨v4, rfl, hN⟩ := hR.ex
  obtain ⟨a4, c4, rfl⟩ : ∃ a c, v4 = Value.slice a (k + 1) c := by obtain ⟨a, c, e⟩ := hN.shape; rw [HMS.out.2.1] at e; exact ⟨a, c, e⟩
  have fa := fp_alloc w4 (.cells (anL 0 (.slice a4 (k + 1) c4)) TAN)
  have hrow := heap_alloc_new w4 (.cells (anL 0 (.slice a4 (k + 1) c4)) TAN)
  have I4 := Lib.hid (show O3 w q w4.heap.size m ms [] (.slice a4 (k + 1) c4) (.slice none 0 0) (World.alloc w4 (.cells (anL 0 (.slice a4 (k + 1) c4)) TAN)) from ⟨(((KQ.fp F3.out HQ.out).later hR.fp).now).then fa, hrow, hN.non fa, Sg.nil _, hR.me.non fa⟩)
  have x0 := (boxA hrow).1
  have x8 := (boxA hrow).2.2.2.2.2.2.2.2.1
  have HBQ := Lib.hid (show w4.heap.size ≠ q from by have := hR.me.lt; omega)
  have q20 : (((k + 1 : Nat) : Int) < 1) = False := eq_false (by omega)
  clear hR hN fa hrow HDO
  go_wp2_with (refine wpList_stC rfl TAN _ _ rfl _ _ rfl rfl (stn_any stAN _ rfl rfl (anL_one ⟨_, _, _, rfl⟩)) ?_)
  clear x0 x8 q20
  obtain ⟨b, hb⟩ : ∃ b, b = w4.heap.size := ⟨_, rfl⟩
  rw [← hb] at I4 HBQ ⊢
  clear hb
  generalize (World.alloc w4 (.cells (anL 0 (.slice a4 (k + 1) c4)) TAN)) = w5 at *
  refine (Mounts_c q m _ I4.out.me (by have := HB.out.rt.len; omega)).mono ?_
  rintro e w6 ⟨vm, rfl, hO⟩
  have fa := fp_alloc w6 (.cells #[.string (B dir)] 9)
  have I7 := Lib.hid ((I4.out.non hO.fp).non fa)
  have HRO := Lib.hid (Route_c vm _ m [dir] _ (hO.own.ns.non fa) (one_tx w6 dir) HB.out.rt.szs (by intro d hd; simp at hd; subst hd; exact HP.out.2) (by simp))
  obtain ⟨ax, cx, hvx⟩ := hO.own.ns.shape
  obtain ⟨nx, hnx⟩ : ∃ n, n = m.length := ⟨_, rfl⟩
  rw [← hnx] at hvx
  subst hvx
  clear hO fa hnx
  go_wp2_with fail
  generalize (World.alloc w6 (.cells #[.string (B dir)] 9)) = w6x at *
  refine HRO.out.mono ?_
  intro e w7 hR
  obtain ⟨v12, rfl, hS⟩ := hR.ex
  have I7 := Lib.hid (I7.out.non hR.fp)
  have RT7 := Lib.hid hS
  rw [rtB_one HB.out.rt]
  clear hR hS HRO
  obtain ⟨g1, hg1⟩ : ∃ g, g = rtL m [dir] := ⟨_, rfl⟩
  rw [← hg1] at RT7
  have HG1 := Lib.hid hg1
  have I8 := Lib.hid (show O3 w q b m ms g1 (.slice a4 (k + 1) c4) v12 w7 from ⟨I7.out.fp, I7.out.bx, I7.out.ns, RT7.out, I7.out.me⟩)
  obtain ⟨a12, c12, hv12⟩ := RT7.out.shape
  obtain ⟨n12, hn12⟩ : ∃ n, n = g1.length := ⟨_, rfl⟩
  rw [← hn12] at hv12
  subst hv12
  have HN12 := Lib.hid hn12
  clear hg1 hn12 I7 RT7
  go_wp2_with fail
  refine (Mounts_c q m _ I8.out.me (by have := HB.out.rt.len; omega)).mono ?_
  rintro e w8 ⟨vy, rfl, hO⟩
  have I9 := Lib.hid (I8.out.non hO.fp)
  have hof := rOf_c vy m dir w8 hO.own.ns HB.out.rt.szs HP.out.2
  obtain ⟨ay, cy, hvy⟩ := hO.own.ns.shape
  obtain ⟨ny, hny⟩ : ∃ n, n = m.length := ⟨_, rfl⟩
  rw [← hny] at hvy
  subst hvy
  have HOF := Lib.hid hof
  clear hO hof hny I8
  go_wp2_with fail
  refine HOF.out.mono ?_
  rintro e w9 ⟨rfl, hf⟩
  have IA := Lib.hid (I9.out.non hf)
  clear hf I9 HOF
  have x8 := (boxA IA.out.bx).2.2.2.2.2.2.2.2.1
  obtain ⟨g4, o4, ha4, hnd⟩ : ∃ g o, a4 = some ⟨g, o, none⟩ ∧ NdAtM w9 g o x := by
    obtain ⟨g', o', c', e, _, _, _, hc⟩ := IA.out.ns.at (by rw [HMS.out.2.1]; omega)
    injection e with e1 e2 e3
    have h0 := hc 0 (by rw [HMS.out.2.1]; omega)
    have hms0 : ms[0]'(by rw [HMS.out.2.1]; omega) = x := by
      have := HMS.out.1
      subst this; rfl
    rw [hms0] at h0
    simp only [Nat.zero_mul, Nat.add_zero] at h0
    exact ⟨g', o', e1, h0⟩
  subst ha4
  have y2 := hnd.c2
  clear hnd
  have HND := Lib.hid (fun V (h : NsM V (.slice (some ⟨g4, o4, none⟩) (k + 1) c4) ms) => (show NdAtM V g4 o4 x from by
    obtain ⟨g', o', c', e, _, _, _, hc⟩ := h.at (by rw [HMS.out.2.1]; omega)
    injection e with e1 e2 e3
    injection e1 with e1
    injection e1 with e1 e4 e5
    subst e1 e4
    have h0 := hc 0 (by rw [HMS.out.2.1]; omega)
    have hms0 : ms[0]'(by rw [HMS.out.2.1]; omega) = x := by
      have := HMS.out.1
      subst this; rfl
    rw [hms0] at h0
    simp only [Nat.zero_mul, Nat.add_zero] at h0
    exact h0))
  have hdo := doL_c q m 12 p x.e tt w9 IA.out.me HB.out.rt HP.out.1
  rw [doM_flip _ _ _ _ (num_of HB.out.e), HFL.out.eq] at hdo
  have HDO := Lib.hid hdo
  have q40 : ((0 : Int) < ((k + 1 : Nat) : Int)) = True := eq_true (by omega)
  have q41 : (0 < k + 1) = True := eq_true (Nat.succ_pos k)
  clear hdo
  go_wp2_with fail
  clear x8 y2
  refine HDO.out.mono ?_
  intro e wa hR
  obtain ⟨v15, rfl, hN⟩ := hR.ex
  obtain ⟨a15, c15, rfl⟩ : ∃ a c, v15 = Value.slice a 0 c := by obtain ⟨a, c, e⟩ := hN.shape; exact ⟨a, c, e⟩
  have fa := fp_alloc wa (.cells (anL er (.slice a15 0 c15)) TAN)
  have hrow := heap_alloc_new wa (.cells (anL er (.slice a15 0 c15)) TAN)
  have hne : wa.heap.size ≠ q := by have := hR.me.lt; omega
  have IB := Lib.hid (And.intro ((IA.out.later (l' := m2) hR.fp hR.me HBQ.out HQ.out).non fa) hrow)
  have HNE := Lib.hid hne
  clear hR hN fa hrow HDO IA hne
  go_wp2_with (refine wpList_stC rfl TAN _ _ rfl _ _ rfl rfl (stn_any stAN _ rfl rfl (anL_one ⟨_, _, _, rfl⟩)) ?_)
  obtain ⟨b5, hb5⟩ : ∃ b, b = wa.heap.size := ⟨_, rfl⟩
  rw [← hb5] at IB HNE ⊢
  clear hb5
  generalize (World.alloc wa (.cells (anL er (.slice a15 0 c15)) TAN)) = wb at *
  have IB1 := Lib.hid IB.out.1
  have IB2 := Lib.hid (KQ.row (q := q) IB.out.2 HNE.out)
  clear IB
  refine (Mounts_c q m2 _ IB1.out.me (by have := HFL.out.rt.len; omega)).mono ?_
  rintro e wc ⟨vz, rfl, hO⟩
  have fa := fp_alloc wc (.cells #[.string (B dir)] 9)
  have IC := Lib.hid ((IB1.out.non hO.fp).non fa)
  have RB := Lib.hid ((IB2.out.non hO.fp).non fa)
  have HRO := Lib.hid (Route_c vz _ m2 [dir] _ (hO.own.ns.non fa) (one_tx wc dir) HFL.out.rt.szs (by intro d hd; simp at hd; subst hd; exact HP.out.2) (by simp))
  obtain ⟨ax, cx, hvx⟩ := hO.own.ns.shape
  obtain ⟨nx, hnx⟩ : ∃ n, n = m2.length := ⟨_, rfl⟩
  rw [← hnx] at hvx
  subst hvx
  clear hO fa hnx
  go_wp2_with fail
  generalize (World.alloc wc (.cells #[.string (B dir)] 9)) = wcx at *
  refine HRO.out.mono ?_
  intro e wd hR
  obtain ⟨v16, rfl, hS⟩ := hR.ex
  have IC := Lib.hid (IC.out.non hR.fp)
  have RB := Lib.hid (RB.out.non hR.fp)
  have RTC := Lib.hid hS
  rw [rtB_one HFL.out.rt]
  clear hR hS HRO
  have x0 := (boxA RB.out.now).1
  have x8 := (boxA IC.out.bx).2.2.2.2.2.2.2.2.1
  have y2 := (HND.out wd IC.out.ns).c2
  have hw := HFL.out.way
  obtain ⟨a16, c16, hv16⟩ := RTC.out.shape
  obtain ⟨n16, hn16⟩ : ∃ n, n = (rtL m2 [dir]).length := ⟨_, rfl⟩
  rw [← hn16] at hv16
  subst hv16
  have HN16 := Lib.hid hn16
  clear hn16
  cases hok : okP dir with
  | false =>
    clear hok
    rcases hw with ⟨h1, h2, _⟩ | ⟨h1, h2, _⟩
    · have r1 : (er == 0) = true := beq_iff_eq.2 h1
      have r2 : (er = 0) = True := eq_true h1
      have r3 : (er != 0) = false := by simp [bne, r1]
      have HF := Lib.hid IC.out.fp
      clear h1 h2
      go_wp2
      go_ret
      exact ⟨rfl, HF.out⟩
    · have r1 : (er == 0) = false := beq_eq_false_iff_ne.2 (by omega)
      have r2 : (er = 0) = False := eq_false (by omega)
      have r3 : (er != 0) = true := by simp [bne, r1]
      have r4 : (x.e < 281474976710656) = False := eq_false (by omega)
      have r5 : (x.e == 281474976710656) = true := beq_iff_eq.2 h2
      have r6 : (x.e = 281474976710656) = True := eq_true h2
      have HF := Lib.hid IC.out.fp
      clear h1 h2
      go_wp2
      go_ret
      exact ⟨rfl, HF.out⟩
  | true =>
    rcases hw with ⟨h1, h2, h3⟩ | ⟨h1, h2, _⟩
    · have r1 : (er == 0) = true := beq_iff_eq.2 h1
      have r2 : (er = 0) = True := eq_true h1
      have r3 : (er != 0) = false := by simp [bne, r1]
      obtain ⟨kk, u, z, hmv⟩ := mvW HB.out h2 h3 hok
      have HMV := Lib.hid hmv
      have hko := hmv.pk.ko
      have e1 : rtL m [dir] = [u.g] := by rw [rtL_one HB.out.rt hok, hmv.g1]
      have e2 : rtL m2 [dir] = [z] := by rw [rtL_one HFL.out.rt hok, hmv.g2]
      have hg1 := HG1.out
      rw [e1] at hg1
      subst hg1
      have hl12 : n12 = 1 := HN12.out
      have hl16 : n16 = 1 := by rw [HN16.out, e2]; rfl
      subst hl12 hl16
      have RTC := Lib.hid (show Sg inC 1 wd (.slice a16 1 c16) [z] from by have h := RTC.out; rw [e2] at h; exact h)
      rw [hko]
      simp only [idx]
      have hkb : kk ≤ 1000 := by have h1 := hmv.kl; have h2 := HFL.out.rt.len; omega
      have p1 : ((0 : Int) ≤ (kk : Int)) = True := eq_true (by omega)
      have p2 : ((kk : Int) < 0) = False := eq_false (by omega)
      clear h1 h2 h3 hok hko e1 e2 hmv
      go_wp2_with fail
      clear x0 x8 y2
      refine (Mounts_c q m2 _ IC.out.me (by have := HFL.out.rt.len; omega)).mono ?_
      rintro e we ⟨vq, rfl, hO⟩
      obtain ⟨gq, oq, cq, hvq, _, _, _, hcq⟩ := hO.own.ns.at HFL.out.rt.pos
      obtain ⟨nq, hnq⟩ : ∃ n, n = m2.length := ⟨_, rfl⟩
      rw [← hnq] at hvq
      subst hvq
      have c0 := (hcq kk HMV.out.kl).c0
      rw [HMV.out.kd] at c0
      unfold strV at c0
      have hkq : kk < nq := by rw [hnq]; exact HMV.out.kl
      have p3 : ((kk : Int) < (nq : Int)) = True := eq_true (by omega)
      have p4 : (kk < nq) = True := eq_true hkq
      have ID := Lib.hid (IC.out.non hO.fp)
      have RTD := Lib.hid (RTC.out.non hO.fp)
      obtain ⟨ga, oa, ca, ea, hca⟩ := ID.out.sg.at (Nat.succ_pos 0)
      injection ea with ea ea2 ea3
      subst ea
      clear ea2 ea3
      have i0 : _ = some (Value.int .i64 u.g) := (hca 0 (Nat.succ_pos 0)).get 0 _ rfl
      obtain ⟨gb, ob, cb, eb, hcb⟩ := RTD.out.at (Nat.succ_pos 0)
      injection eb with eb eb2 eb3
      subst eb
      clear eb2 eb3
      have j0 : _ = some (Value.int .i64 z) := (hcb 0 (Nat.succ_pos 0)).get 0 _ rfl
      simp only [Nat.mul_one, Nat.add_zero] at i0 j0
      have HF := Lib.hid ID.out.fp
      clear hO hcq hnq hkq hca hcb ID RTD RTC IC
      by_cases hd : u.d = p
      · have d1 : (u.d == p) = true := beq_iff_eq.2 hd
        have d2 : (u.d = p) = True := eq_true hd
        have hz := HMV.out.yes hd
        have z1 : (z == tt) = true := beq_iff_eq.2 hz
        have z2 : (z = tt) = True := eq_true hz
        clear hd hz
        go_wp2
        go_ret
        exact ⟨rfl, HF.out⟩
      · have d1 : (u.d == p) = false := beq_eq_false_iff_ne.2 hd
        have d2 : (u.d = p) = False := eq_false hd
        have hz := HMV.out.no hd
        have z1 : (z == u.g) = true := beq_iff_eq.2 hz
        have z2 : (z = u.g) = True := eq_true hz
        clear hd hz
        go_wp2_with fail
        go_quiet (fail)
        go_wp2
        go_ret
        exact ⟨rfl, HF.out.drewN _⟩
    · have r1 : (er == 0) = false := beq_eq_false_iff_ne.2 (by omega)
      have r2 : (er = 0) = False := eq_false (by omega)
      have r3 : (er != 0) = true := by simp [bne, r1]
      have r4 : (x.e < 281474976710656) = False := eq_false (by omega)
      have HF := Lib.hid IC.out.fp
      clear h1 h2 hok
      go_wp2
      go_ret
      exact ⟨rfl, HF.out⟩
end Go.Proofs.Ytdfnfkknbjageaa
