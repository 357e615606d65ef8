/- Plain facts of the laws of layer 14. Nothing of the program. -/
import Derived.Test.YtajgjhkienhpjaaBa
namespace Go.Proofs.Ytajgjhkienhpjaa
set_option linter.unusedVariables false
set_option linter.unusedSimpArgs false
namespace Pm

theorem okP_len {p : Bs} (h : okP p = true) : p.length ≤ 100 := by
  unfold okP at h
  obtain ⟨ps, hs⟩ := Option.isSome_iff_exists.1 h
  obtain ⟨hP, rfl⟩ := (split_iff p ps).1 hs
  exact joinP_len hP
theorem okM_p {x : Mt} (h : okM x = true) : okP x.d = true ∧ okG x.g = true ∧ okG x.t = true ∧ okE x.e = true := by
  unfold okM at h; simp only [Bool.and_eq_true] at h; exact ⟨h.1.1.1, h.1.1.2, h.1.2, h.2⟩
theorem okM_mk {x : Mt} (h1 : okP x.d = true) (h2 : okG x.g = true) (h3 : okG x.t = true) (h4 : okE x.e = true) : okM x = true := by
  unfold okM; rw [h1, h2, h3, h4]; rfl
theorem in_self {p : Bs} (h : okP p = true) : inB p p = true := by
  obtain ⟨ps, hs⟩ := Option.isSome_iff_exists.1 h; exact in_refl hs
/-- Of two that have the same in them the longer one is in the shorter one. -/
theorem in_chain {d p q : Bs} (hp : inB d p = true) (hq : inB d q = true) (hl : p.length ≤ q.length) : inB q p = true := by
  obtain ⟨a, b, ha, hb, hab⟩ := in_some hp
  obtain ⟨a', c, ha', hc, hac⟩ := in_some hq
  rw [ha] at ha'
  injection ha' with ha'
  subst ha'
  rcases List.prefix_or_prefix_of_prefix hab hac with h | h
  · exact in_of hc hb h
  · have h2 := in_of hb hc h
    rcases chain hp hq hl with e | e
    · subst e; exact h2
    · exfalso
      obtain ⟨t, rfl⟩ := h
      have e1 := (split_joinP hb).1
      have e2 := (split_joinP hc).1
      have : q.length ≤ p.length := by
        rw [e1, e2]
        cases c with
        | nil => simp [joinP, jn]
        | cons z c => rw [List.cons_append, joinP_cons, joinP_cons]; unfold flat; simp
      omega
theorem bk_max {l : List Mt} {d : Bs} {n i : Nat} (h : bk l d n = some i) : ∀ j, i < j → j < n → inx l d j = false := by
  induction n with
  | zero => cases h
  | succ n ih =>
    unfold bk at h
    intro j hj hn
    by_cases e : inx l d n = true
    · rw [if_pos e] at h; cases h; omega
    · rw [if_neg e] at h
      rcases Nat.lt_or_eq_of_le (show j ≤ n by omega) with e2 | e2
      · exact ih h j hj e2
      · subst e2; simpa using e
/-- What of a directory's mount is so. -/
structure PkM (l : List Mt) (d : Bs) (k : Nat) (y : Mt) : Prop where
  kl : k < l.length
  tt : l[k]? = some y
  kb : bk l d l.length = some k
  ko : ofR l d = some k
  kp : pick l d = some y
  ki : inB d y.d = true
  kz : ∀ j, k < j → j < l.length → inx l d j = false
theorem PkM.mem {l : List Mt} {d : Bs} {k : Nat} {y : Mt} (h : PkM l d k y) : y ∈ l := List.mem_of_getElem? h.tt
theorem PkM.get {l : List Mt} {d : Bs} {k : Nat} {y : Mt} (h : PkM l d k y) : y = l[k]'h.kl := by
  have := h.tt; rw [List.getElem?_eq_getElem h.kl] at this; injection this with this; exact this.symm
theorem pkM {l : List Mt} (h : RtM l) {d : Bs} (hd : okP d = true) : ∃ k y, PkM l d k y := by
  obtain ⟨ps, hs⟩ := Option.isSome_iff_exists.1 hd
  have hne : pick l d ≠ none := by
    rw [pick_filter h]
    obtain ⟨x, r, rfl, hx⟩ := h.root
    rw [List.filter_cons, hx, if_pos (in_root hs)]
    intro hn
    rw [List.getLast?_eq_none_iff] at hn
    cases hn
  cases ho : ofR l d with
  | none => exact absurd (pick_none ho) hne
  | some k =>
    have hb := ho
    unfold ofR at hb
    rw [if_pos ((right_iff l).2 h)] at hb
    have hk := ofR_lt ho
    have h2 := (bk_some hb).2
    rw [inx_at hk] at h2
    exact ⟨k, l[k], hk, List.getElem?_eq_getElem hk, hb, ho, pick_at ho, h2, bk_max hb⟩
/-- Whatever has it in it begins no greater. -/
theorem PkM.great {l : List Mt} (h : RtM l) {d : Bs} {k : Nat} {y x : Mt} (hy : PkM l d k y) (hx : x ∈ l) (hi : inB d x.d = true) : x = y ∨ lt x.d y.d = true := by
  obtain ⟨j, hj, rfl⟩ := List.getElem_of_mem hx
  have hk := hy.kl
  rcases Nat.lt_trichotomy j k with e | e | e
  · right; rw [hy.get]; exact h.up.at hj hk e
  · left; subst e; rw [hy.get]
  · have := hy.kz j e hj; rw [inx_at hj, hi] at this; cases this
theorem pick_eq {l : List Mt} (h : RtM l) {d : Bs} {k : Nat} {y : Mt} (hy : PkM l d k y) {z : Mt} (hz : z ∈ l) (hi : inB d z.d = true) (hm : ∀ x ∈ l, inB d x.d = true → x = z ∨ lt x.d z.d = true) : z = y := by
  rcases hy.great h hz hi with e | e
  · exact e
  · rcases hm y hy.mem hy.ki with e2 | e2
    · exact e2.symm
    · rw [lt_asymm e] at e2; cases e2
/-- A mount of that very prefix is the prefix's mount. -/
theorem pick_of_get {l : List Mt} (h : RtM l) {p : Bs} {y : Mt} (hg : getM l p = some y) : pick l p = some y := by
  obtain ⟨hm, hd⟩ := getM_some hg
  have hok := (okM_p (h.ok y hm)).1
  rw [hd] at hok
  obtain ⟨k, z, hz⟩ := pkM h hok
  have hin : inB p y.d = true := by rw [hd]; exact in_self hok
  rcases hz.great h hm hin with e | e
  · rw [e]; exact hz.kp
  · exfalso
    have h1 := chain_lt hin hz.ki e
    have h2 := in_chain (in_self hok) hz.ki (by rw [hd] at h1; omega)
    have := in_anti hz.ki h2
    rw [hd] at e; rw [← this, lt_irrefl] at e; cases e
theorem may_ok {l : List Mt} {p : Bs} {to : Int} (h : mayM l p to = true) : RtM l ∧ okP p = true ∧ okG to = true := by
  unfold mayM at h; simp only [Bool.and_eq_true] at h; exact ⟨(right_iff l).1 h.1.1, h.1.2, h.2⟩
theorem may_mk {l : List Mt} {p : Bs} {to : Int} (h1 : RtM l) (h2 : okP p = true) (h3 : okG to = true) : mayM l p to = true := by
  unfold mayM; rw [(right_iff l).2 h1, h2, h3]; rfl
/-- The ways of Begin. -/
inductive BgW (l : List Mt) (p : Bs) (to : Int) : Bg → Prop where
  | arg : mayM l p to = false → BgW l p to ⟨[], mt0, 1⟩
  | again (y : Mt) : mayM l p to = true → getM l p = some y → mvM y = true → y.t = to → BgW l p to ⟨l, y, 0⟩
  | no : mayM l p to = true → rfs l p to ≠ 0 → (∀ y, getM l p = some y → ¬ (mvM y = true ∧ y.t = to)) → BgW l p to ⟨l, mt0, rfs l p to⟩
  | new (y : Mt) : mayM l p to = true → rfs l p to = 0 → pick l p = some y → (∀ y, getM l p = some y → ¬ (mvM y = true ∧ y.t = to)) → BgW l p to ⟨putM l ⟨p, y.g, y.e, to⟩, ⟨p, y.g, y.e, to⟩, 0⟩
theorem bgW (l : List Mt) (p : Bs) (to : Int) : BgW l p to (bgn l p to) := by
  unfold bgn
  by_cases hm : mayM l p to = true
  · rw [if_pos hm]
    have hnew : ∀ (hn : ∀ y, getM l p = some y → ¬ (mvM y = true ∧ y.t = to)), BgW l p to (if rfs l p to = 0 then ⟨putM l (newM l p to), newM l p to, 0⟩ else ⟨l, mt0, rfs l p to⟩) := by
      intro hn
      by_cases h0 : rfs l p to = 0
      · rw [if_pos h0]
        obtain ⟨k, y, hy⟩ := pkM (may_ok hm).1 (may_ok hm).2.1
        have : newM l p to = ⟨p, y.g, y.e, to⟩ := by unfold newM; rw [hy.kp]
        rw [this]
        exact .new y hm h0 hy.kp hn
      · rw [if_neg h0]; exact .no hm h0 hn
    cases hg : getM l p with
    | none => exact hnew (fun y h => by rw [hg] at h; cases h)
    | some y =>
      simp only
      by_cases h : mvM y = true ∧ y.t = to
      · rw [if_pos h]; exact .again y hm hg h.1 h.2
      · rw [if_neg h]; exact hnew (fun z hz => by rw [hg] at hz; injection hz with hz; subst hz; exact h)
  · rw [if_neg hm]; exact .arg (by simpa using hm)
theorem rfs_zero {l : List Mt} {p : Bs} {to : Int} {y : Mt} (hp : pick l p = some y) (h : rfs l p to = 0) : nearM l p = false ∧ y.g ≠ to ∧ ¬ ((getM l p).isNone = true ∧ l.length = 32) ∧ y.e ≠ mxN := by
  unfold rfs at h
  rw [hp] at h
  simp only at h
  cases hn : nearM l p with
  | true => rw [if_pos hn] at h; cases h
  | false =>
    rw [if_neg (by rw [hn]; exact Bool.false_ne_true)] at h
    by_cases hg : y.g = to
    · rw [if_pos hg] at h; cases h
    · rw [if_neg hg] at h
      by_cases hc : (getM l p).isNone = true ∧ l.length = 32 ∨ y.e = mxN
      · rw [if_pos hc] at h; cases h
      · exact ⟨rfl, hg, fun h => hc (.inl h), fun h => hc (.inr h)⟩
theorem rfs_pos (l : List Mt) (p : Bs) (to : Int) : rfs l p to = 0 ∨ rfs l p to = 131 ∨ rfs l p to = 61 ∨ rfs l p to = 2 := by
  unfold rfs
  split
  · exact .inr (.inl rfl)
  · split
    · exact .inl rfl
    · split
      · exact .inr (.inr (.inl rfl))
      · split
        · exact .inr (.inr (.inr rfl))
        · exact .inl rfl
/-- What has begun. -/
structure Beg (l : List Mt) (p : Bs) (to : Int) (m : List Mt) (x : Mt) : Prop where
  was : RtM l
  okp : okP p = true
  okt : okG to = true
  rt : RtM m
  get : getM m p = some x
  d : x.d = p
  t : x.t = to
  mv : mvM x = true
  e : okE x.e = true
  put : m = putM l x
  len : l.length ≤ m.length
  own : ∃ y, pick l p = some y ∧ x.g = y.g ∧ x.e = y.e
theorem get_put_own {l : List Mt} (hu : UpM l) {x : Mt} (h : getM l x.d = some x) : putM l x = l := by
  have h1 := put_set hu (x := x) (by rw [h]; rfl)
  rw [h1.2]
  rw [getM_place hu, dif_pos h1.1] at h
  split at h
  · injection h with h
    refine List.ext_getElem (by simp) (fun i h2 h3 => ?_)
    rw [List.getElem_set]
    split
    · next e => subst e; exact h.symm
    · rfl
  · cases h
theorem beg {l : List Mt} {p : Bs} {to : Int} {r : Bg} (h : BgW l p to r) (h0 : r.e = 0) : Beg l p to r.l r.m := by
  cases h with
  | arg h => cases h0
  | no h h1 h2 => exact absurd h0 h1
  | again y h hg hm ht =>
    obtain ⟨h1, h2, h3⟩ := may_ok h
    obtain ⟨hy, hd⟩ := getM_some hg
    exact ⟨h1, h2, h3, h1, hg, hd, ht, hm, (okM_p (h1.ok y hy)).2.2.2, (get_put_own h1.up (by rw [hd]; exact hg)).symm, Nat.le_refl _, y, pick_of_get h1 hg, rfl, rfl⟩
  | new y h hr hp hn =>
    obtain ⟨h1, h2, h3⟩ := may_ok h
    obtain ⟨k, z, hz⟩ := pkM h1 h2
    have hzy : z = y := by have := hz.kp; rw [hp] at this; injection this with this; exact this.symm
    subst hzy
    have hok := okM_p (h1.ok z hz.mem)
    obtain ⟨_, r2, r3, r4⟩ := rfs_zero hp hr
    have hx : okM (⟨p, z.g, z.e, to⟩ : Mt) = true := okM_mk h2 hok.2.1 h3 hok.2.2.2
    have hroom : (getM l p).isSome = true ∨ l.length < 32 := by
      cases hg : getM l p with
      | some _ => exact .inl rfl
      | none => right; have := h1.len; rw [hg] at r3; have : l.length ≠ 32 := fun e => r3 ⟨rfl, e⟩; omega
    exact ⟨h1, h2, h3, right_put h1 hx hroom, get_put h1.up _, rfl, rfl, by unfold mvM; simp; exact Ne.symm r2, hok.2.2.2, rfl, by simp only [len_put h1.up]; split <;> omega, z, hp, rfl, rfl⟩
theorem begN {l : List Mt} {p : Bs} {to : Int} {r : Bg} (h : BgW l p to r) (h0 : r.e ≠ 0) : r.e = 1 ∨ r.l = l := by
  cases h with
  | arg h => exact .inl rfl
  | no h h1 h2 => exact .inr rfl
  | again y h hg hm ht => exact absurd rfl h0
  | new y h hr hp hn => exact absurd rfl h0
theorem Beg.twice {l m : List Mt} {p : Bs} {to : Int} {x : Mt} (h : Beg l p to m x) : bgn m p to = ⟨m, x, 0⟩ := by
  unfold bgn
  rw [if_pos (may_mk h.rt h.okp h.okt), h.get]
  simp only
  rw [if_pos ⟨h.mv, h.t⟩]
theorem Beg.flip {l m : List Mt} {p : Bs} {to : Int} {x : Mt} (h : Beg l p to m x) (ep : Int) : flp m p ep to = if x.e = ep ∧ ep < mxN then ⟨putM m ⟨p, to, ep + 1, to⟩, 0⟩ else ⟨m, 133⟩ := by
  unfold flp
  rw [if_pos (may_mk h.rt h.okp h.okt), h.get]
  simp only
  rw [if_pos h.t]
  by_cases hc : x.e = ep ∧ ep < mxN
  · rw [if_pos ⟨h.mv, hc.1, hc.2⟩, if_pos hc]
  · rw [if_neg (fun k => hc k.2), if_neg hc, if_neg (fun k => by rw [h.mv] at k; cases k.1)]
theorem okE_iff {e : Int} : okE e = true ↔ 0 ≤ e ∧ e ≤ mxN := by unfold okE; rw [decide_eq_true_eq]
/-- What was flipped. -/
theorem Beg.flipped {l m : List Mt} {p : Bs} {to : Int} {x : Mt} (h : Beg l p to m x) (hx : x.e < mxN) :
    RtM (putM m ⟨p, to, x.e + 1, to⟩) ∧ getM (putM m ⟨p, to, x.e + 1, to⟩) p = some ⟨p, to, x.e + 1, to⟩ ∧ flp (putM m ⟨p, to, x.e + 1, to⟩) p x.e to = ⟨putM m ⟨p, to, x.e + 1, to⟩, 0⟩ := by
  have he := okE_iff.1 h.e
  have hr := right_put h.rt (x := ⟨p, to, x.e + 1, to⟩) (okM_mk h.okp h.okt h.okt (okE_iff.2 ⟨by simp only; omega, by simp only; omega⟩)) (.inl (by simp only [h.get]; rfl))
  have hg := get_put h.rt.up (⟨p, to, x.e + 1, to⟩ : Mt)
  refine ⟨hr, hg, ?_⟩
  unfold flp
  rw [if_pos (may_mk hr h.okp h.okt)]
  simp only at hg
  rw [hg]
  simp only
  rw [if_pos (by trivial), if_neg (fun k => by have := k.2.1; omega), if_pos (by simp [mvM])]
/-! ### MountsKeep -/
structure Kept (l m : List Mt) (d : Bs) (w : Mt) : Prop where
  rt : RtM m
  ex : ∃ k y, PkM m d k y ∧ y.g = w.g
theorem keep_begin {l : List Mt} {p d : Bs} {to : Int} {r : Bg} (h : BgW l p to r) (h0 : r.e = 0) (hd : okP d = true) {k : Nat} {w : Mt} (hw : PkM l d k w) : Kept l r.l d w := by
  have hb := beg h h0
  obtain ⟨k2, y, hy⟩ := pkM hb.rt hd
  refine ⟨hb.rt, k2, y, hy, ?_⟩
  obtain ⟨z, hz, hzg, hze⟩ := hb.own
  have hpp := pick_put hb.was (x := r.m) (by rw [← hb.put]; exact hb.rt) d
  rw [← hb.put, hy.kp, hw.kp] at hpp
  simp only at hpp
  by_cases hi : inB d r.m.d = true
  · rw [if_pos hi] at hpp
    by_cases hl : lt r.m.d w.d = true
    · rw [if_pos hl] at hpp; injection hpp with e; rw [e]
    · rw [if_neg hl] at hpp
      injection hpp with e
      rw [e, hzg]
      -- the prefix's mount is the directory's
      obtain ⟨kp, z', hz'⟩ := pkM hb.was hb.okp
      have e2 : z' = z := by have := hz'.kp; rw [hz] at this; injection this with this; exact this.symm
      subst e2
      rw [hb.d] at hi hl
      have hin : inB d z'.d = true := in_trans hi hz'.ki
      have hwp : inB p w.d = true := in_chain hw.ki hi (by
        by_cases e3 : w.d = p
        · rw [e3]; exact Nat.le_refl _
        · have := chain_lt hw.ki hi (lt_of (by simpa using hl) (Ne.symm e3)); omega)
      rcases hw.great hb.was hz'.mem hin with e3 | e3
      · rw [e3]
      · rcases hz'.great hb.was hw.mem hwp with e4 | e4
        · rw [e4]
        · rw [lt_asymm e3] at e4; cases e4
  · rw [if_neg hi] at hpp; injection hpp with e; rw [e]
structure KeptF (l m : List Mt) (p d : Bs) (to : Int) (w : Mt) : Prop where
  rt : RtM m
  ex : ∃ k y, PkM m d k y ∧ y.d = w.d ∧ (w.d ≠ p → y = w) ∧ (w.d = p → y.g = to)
theorem keep_flip {l : List Mt} {p d : Bs} {ep to : Int} (h0 : (flp l p ep to).e = 0) (hd : okP d = true) {k : Nat} {w : Mt} (hw : PkM l d k w) : KeptF l (flp l p ep to).l p d to w := by
  by_cases hm : mayM l p to = true
  · obtain ⟨h1, h2, h3⟩ := may_ok hm
    cases hg : getM l p with
    | none => unfold flp at h0; rw [if_pos hm, hg] at h0; cases h0
    | some y =>
      have hf : flp l p ep to = if y.t = to then (if mvM y = true ∧ y.e = ep ∧ ep < mxN then ⟨putM l ⟨p, to, ep + 1, to⟩, 0⟩ else if mvM y = false ∧ y.e = ep + 1 then ⟨l, 0⟩ else ⟨l, 133⟩) else ⟨l, 133⟩ := by
        unfold flp; rw [if_pos hm, hg]
      rw [hf] at h0 ⊢
      by_cases ht : y.t = to
      · rw [if_pos ht] at h0 ⊢
        obtain ⟨hym, hyd⟩ := getM_some hg
        by_cases hc : mvM y = true ∧ y.e = ep ∧ ep < mxN
        · rw [if_pos hc] at h0 ⊢
          simp only
          have hye := okE_iff.1 (okM_p (h1.ok y hym)).2.2.2
          have hrt : RtM (putM l ⟨p, to, ep + 1, to⟩) := right_put h1 (x := ⟨p, to, ep + 1, to⟩) (okM_mk h2 h3 h3 (okE_iff.2 ⟨by simp only; omega, by simp only; omega⟩)) (.inl (by simp only [hg]; rfl))
          obtain ⟨k2, z, hz⟩ := pkM hrt hd
          have hpp := pick_put h1 hrt d
          rw [hz.kp, hw.kp] at hpp
          simp only at hpp
          by_cases hi : inB d p = true
          · rw [if_pos hi] at hpp
            by_cases hl : lt p w.d = true
            · rw [if_pos hl] at hpp
              injection hpp with e
              subst e
              exact ⟨hrt, k2, z, hz, rfl, fun _ => rfl, fun e => by rw [e, lt_irrefl] at hl; cases hl⟩
            · rw [if_neg hl] at hpp
              injection hpp with e
              have hwp : w.d = p := by
                rcases hw.great h1 hym (by rw [hyd]; exact hi) with e2 | e2
                · rw [← e2]; exact hyd
                · rw [hyd] at e2; exact absurd e2 hl
              exact ⟨hrt, k2, z, hz, by rw [e, hwp], fun h => absurd hwp h, fun _ => by rw [e]⟩
          · rw [if_neg hi] at hpp
            injection hpp with e
            subst e
            exact ⟨hrt, k2, z, hz, rfl, fun _ => rfl, fun e => absurd hw.ki (by rw [e]; exact hi)⟩
        · rw [if_neg hc] at h0 ⊢
          by_cases hc2 : mvM y = false ∧ y.e = ep + 1
          · rw [if_pos hc2] at h0 ⊢
            refine ⟨h1, k, w, hw, rfl, fun _ => rfl, fun e => ?_⟩
            have h4 := getM_mem h1.up hw.mem
            rw [e, hg] at h4
            injection h4 with h4
            rw [← h4]
            have := hc2.1
            unfold mvM at this
            simp at this
            rw [← this]; exact ht
          · rw [if_neg hc2] at h0; cases h0
      · rw [if_neg ht] at h0; cases h0
  · unfold flp at h0; rw [if_neg hm] at h0; cases h0
/-! ### MountsApart -/
theorem get_other {l : List Mt} {x : Mt} {p : Bs} (hu : UpM l) (h : p ≠ x.d) : getM (putM l x) p = getM l p := by
  cases hg : getM l p with
  | some y =>
    obtain ⟨hm, hd⟩ := getM_some hg
    have := getM_mem (up_put hu x) ((mem_put hu).2 (.inr ⟨hm, by rw [hd]; exact h⟩))
    rw [hd] at this; exact this
  | none =>
    refine getM_no fun y hy e => ?_
    rcases (mem_put hu).1 hy with rfl | ⟨h1, _⟩
    · exact h e.symm
    · exact getM_none hg y h1 e
structure Ap3 (f g : Int) (one two : Bs) (a b : Int) : Prop where
  eq : one = two → (f = 0 ↔ a = b)
  near : one ≠ two → (inB one two || inB two one) = true → f = 131 ∨ f = 1 ∨ (f = 0 ∧ g = 0)
  far : one ≠ two → (inB one two || inB two one) = false → f = g ∨ f = 2
theorem may_same {l m : List Mt} {p : Bs} {to : Int} (h1 : RtM l) (h2 : RtM m) : mayM m p to = mayM l p to := by
  unfold mayM; rw [(right_iff l).2 h1, (right_iff m).2 h2]
theorem bgn_e1 {l : List Mt} {p : Bs} {to : Int} (h : mayM l p to = false) : (bgn l p to).e = 1 := by unfold bgn; rw [if_neg (by rw [h]; exact Bool.false_ne_true)]
theorem bgn_e0 {l : List Mt} {p : Bs} {to : Int} {y : Mt} (h : mayM l p to = true) (hg : getM l p = some y) (hc : mvM y = true ∧ y.t = to) : (bgn l p to).e = 0 := by unfold bgn; rw [if_pos h, hg]; simp only; rw [if_pos hc]
theorem bgn_er {l : List Mt} {p : Bs} {to : Int} (h : mayM l p to = true) (hc : ∀ y, getM l p = some y → ¬ (mvM y = true ∧ y.t = to)) : (bgn l p to).e = rfs l p to := by
  unfold bgn
  rw [if_pos h]
  cases hg : getM l p with
  | none => simp only; split <;> simp_all
  | some y => simp only; rw [if_neg (hc y hg)]; split <;> simp_all
theorem rfs_near {l : List Mt} {p : Bs} {to : Int} (h : nearM l p = true) : rfs l p to = 131 := by unfold rfs; rw [if_pos h]
theorem apart {l m : List Mt} {one two : Bs} {a b : Int} {x : Mt} (h : Beg l one a m x) : Ap3 (bgn m two b).e (bgn l two b).e one two a b := by
  have hxm := (getM_some h.get).1
  have hms := may_same (p := two) (to := b) h.was h.rt
  have hnr : (inB one two || inB two one) = true → nearM m two = true := fun hn => List.any_eq_true.2 ⟨x, hxm, by simp only [h.mv, h.d, hn, Bool.and_self]⟩
  refine ⟨fun e => ?_, fun hne hn => ?_, fun hne hn => ?_⟩
  · subst e
    by_cases hb : okG b = true
    · have hmay := may_mk h.rt h.okp hb
      by_cases hab : a = b
      · exact ⟨fun _ => hab, fun _ => bgn_e0 hmay h.get ⟨h.mv, by rw [h.t]; exact hab⟩⟩
      · refine ⟨fun e => ?_, fun e => absurd e hab⟩
        rw [bgn_er hmay (fun y hy hc => by rw [h.get] at hy; injection hy with hy; subst hy; rw [h.t] at hc; exact hab hc.2), rfs_near (hnr (by rw [in_self h.okp]; rfl))] at e
        cases e
    · have hmay : mayM m one b = false := by unfold mayM; simp only [Bool.not_eq_true] at hb; rw [hb]; simp
      exact ⟨fun e => absurd (by rw [bgn_e1 hmay] at e; exact e) (by decide), fun e => absurd (by rw [← e]; exact h.okt) hb⟩
  · cases hmay : mayM m two b with
    | false => exact .inr (.inl (bgn_e1 hmay))
    | true =>
      by_cases hc : ∃ y, getM m two = some y ∧ mvM y = true ∧ y.t = b
      · obtain ⟨y, hy, hc⟩ := hc
        refine .inr (.inr ⟨bgn_e0 hmay hy hc, bgn_e0 (by rw [← hms]; exact hmay) ?_ hc⟩)
        rw [h.put, get_other h.was.up (by rw [h.d]; exact Ne.symm hne)] at hy; exact hy
      · left
        rw [bgn_er hmay (fun y hy hh => hc ⟨y, hy, hh⟩), rfs_near (hnr hn)]
  · have hg : getM m two = getM l two := by rw [h.put]; exact get_other h.was.up (by rw [h.d]; exact Ne.symm hne)
    cases hmay : mayM m two b with
    | false => left; rw [bgn_e1 hmay, bgn_e1 (by rw [← hms]; exact hmay)]
    | true =>
      have hml : mayM l two b = true := by rw [← hms]; exact hmay
      by_cases hc : ∃ y, getM m two = some y ∧ mvM y = true ∧ y.t = b
      · obtain ⟨y, hy, hc⟩ := hc
        left; rw [bgn_e0 hmay hy hc, bgn_e0 hml (by rw [← hg]; exact hy) hc]
      · have hcn : ∀ y, getM m two = some y → ¬ (mvM y = true ∧ y.t = b) := fun y hy hh => hc ⟨y, hy, hh⟩
        rw [bgn_er hmay hcn, bgn_er hml (fun y hy => hcn y (by rw [hg]; exact hy))]
        simp only [Bool.or_eq_false_iff] at hn
        have hp : pick m two = pick l two := by
          have := pick_put h.was (x := x) (by rw [← h.put]; exact h.rt) two
          rw [← h.put, h.d, if_neg (by rw [hn.2]; exact Bool.false_ne_true)] at this; exact this
        have hnear : nearM m two = nearM l two := by
          have hq : ∀ y : Mt, y.d = one → (mvM y && (inB y.d two || inB two y.d)) = false := fun y e => by rw [e, hn.1, hn.2]; simp
          rw [Bool.eq_iff_iff]
          unfold nearM
          rw [List.any_eq_true, List.any_eq_true]
          constructor
          · rintro ⟨y, hy, hc⟩
            rw [h.put] at hy
            rcases (mem_put h.was.up).1 hy with rfl | ⟨hy, _⟩
            · rw [hq _ h.d] at hc; cases hc
            · exact ⟨y, hy, hc⟩
          · rintro ⟨y, hy, hc⟩
            by_cases hyd : y.d = one
            · rw [hq _ hyd] at hc; cases hc
            · exact ⟨y, by rw [h.put]; exact (mem_put h.was.up).2 (.inr ⟨hy, by rw [h.d]; exact hyd⟩), hc⟩
        obtain ⟨k, z, hz⟩ := pkM h.was (may_ok hml).2.1
        unfold rfs
        rw [hnear, hp, hg, hz.kp]
        simp only
        cases nearM l two with
        | true => exact .inl rfl
        | false =>
          simp only [Bool.false_eq_true, if_false]
          by_cases hzg : z.g = b
          · rw [if_pos hzg, if_pos hzg]; exact .inl rfl
          · rw [if_neg hzg, if_neg hzg]
            by_cases h2 : (getM l two).isNone = true ∧ l.length = 32 ∨ z.e = mxN
            · rw [if_pos h2, if_pos]
              · exact .inl rfl
              · rcases h2 with ⟨h3, h4⟩ | h3
                · left; refine ⟨h3, ?_⟩
                  have := h.rt.len; have := h.len; omega
                · exact .inr h3
            · rw [if_neg h2 (α := Int)]
              split
              · exact .inr rfl
              · exact .inl rfl
/-! ### MountsOne -/
theorem one_other {l : List Mt} (h : RtM l) {d : Bs} {k : Nat} {y : Mt} (hy : PkM l d k y) {j : Nat} (hj : j < l.length) (hne : j ≠ k) (hi : inB d l[j].d = true) : l[j].d.length < y.d.length ∧ inB y.d l[j].d = true := by
  rcases hy.great h (List.getElem_mem hj) hi with e | e
  · exfalso
    rcases Nat.lt_or_gt_of_ne hne with e2 | e2
    · have := h.up.at hj hy.kl e2
      rw [hy.get] at e; rw [e, lt_irrefl] at this; cases this
    · have := hy.kz j e2 hj
      rw [inx_at hj, hi] at this; cases this
  · have := chain_lt hi hy.ki e
    exact ⟨this, in_chain hi hy.ki (by omega)⟩
end Pm
end Go.Proofs.Ytajgjhkienhpjaa
