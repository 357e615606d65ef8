/- Plain: what the laws of layer 10 ask of Take and Free. Nothing of the program. -/
import Derived.Test.YtenaggleepoclaaGreatJa
namespace Go.Proofs.YtenaggleepoclaaGreat
set_option linter.unusedVariables false
set_option linter.unusedSimpArgs false
namespace Pm

theorem sub_len {α : Type} [DecidableEq α] : ∀ {l m : List α}, l.Nodup → (∀ x ∈ l, x ∈ m) → l.length ≤ m.length
  | [], m, _, _ => Nat.zero_le _
  | a :: l, m, hn, h => by
    obtain ⟨h1, h2⟩ := List.nodup_cons.1 hn
    have ha : a ∈ m := h a (by simp)
    have := sub_len (l := l) (m := m.erase a) h2 (fun x hx => by
      have hne : x ≠ a := fun e => h1 (e ▸ hx)
      exact (List.mem_erase_of_ne hne).2 (h x (by simp [hx])))
    rw [List.length_erase_of_mem ha] at this
    have : 0 < m.length := List.length_pos_of_mem ha
    rw [List.length_cons]; omega
theorem upH_nodup {l : List Hl} (h : UpH l) : l.Nodup := by
  refine List.Pairwise.imp (fun {a b} h e => ?_) h
  subst e; rw [lt_irrefl] at h; cases h
theorem upH_inj {l : List Hl} (h : UpH l) {x y : Hl} (hx : x ∈ l) (hy : y ∈ l) (e : x.d = y.d) : x = y := by
  have h1 := find_up h hx
  have h2 := find_up h hy
  rw [e, h2] at h1
  exact (Option.some.inj h1).symm
theorem map_up {l : List Hl} (h : UpH l) : Up (l.map Hl.d) := List.pairwise_map.2 h
theorem puts_len {l : List Hl} {t a : Int} {ds : List Bs} (hu : UpH l) (ho : ∀ y ∈ l, y.d ∈ ds → y = ⟨y.d, t, a⟩) : l.length ≤ (putsH l t a ds).length :=
  sub_len (upH_nodup hu) (fun x hx => (mem_puts ho).2 (.inl hx))

/-- Who takes, holds (LocksOne). -/
theorem one_dir {l : List Hl} {t a : Int} {ds : List Bs} (hu : UpH l) (ho : ∀ y ∈ l, y.d ∈ ds → y = ⟨y.d, t, a⟩) {p : Bs} (hp : p ∈ ds) : heldH (putsH l t a ds) p = some ⟨p, t, a⟩ :=
  find_up (x := ⟨p, t, a⟩) (puts_up hu) ((mem_puts ho).2 (.inr ⟨hp, rfl⟩))
theorem one_all {l : List Hl} {t a : Int} {ds : List Bs} (hu : UpH l) (ho : ∀ y ∈ l, y.d ∈ ds → y = ⟨y.d, t, a⟩) {x : Hl} (hx : x ∈ putsH l t a ds) :
    (∃ y, heldH l x.d = some y ∧ y.t = x.t) ∨ (heldH l x.d = none ∧ x.d ∈ ds ∧ x.t = t ∧ x.a = a) := by
  rcases (mem_puts ho).1 hx with h | ⟨h, e⟩
  · exact .inl ⟨x, find_up hu h, rfl⟩
  · cases c : heldH l x.d with
    | none => exact .inr ⟨rfl, h, by rw [e], by rw [e]⟩
    | some y =>
      obtain ⟨h1, h2⟩ := find_some c
      have := ho y h1 (by rw [h2]; exact h)
      exact .inl ⟨y, rfl, by rw [this, e]⟩

/-- Taking once more (LocksMore). -/
theorem more_same {l : List Hl} {t a : Int} {ds es : List Bs} (hr : RtH l) (hm : mayH l t a ds = true) (hw : wayH l t ds = []) (hs : ∀ d ∈ es, d ∈ ds) :
    takeH (putsH l t a ds) t a es = (putsH l t a ds, [], true) := by
  have ho := own_of hm hw
  have hR := puts_right hr hm hw
  obtain ⟨h1, h2, h3, h4⟩ := (may_iff _ _ _ _).1 hm
  have hm2 : mayH (putsH l t a ds) t a es = true := (may_iff _ _ _ _).2 ⟨h1, h2, fun d hd => h3 d (hs d hd), fun x hx e => by
    rcases (mem_puts ho).1 hx with h | ⟨h, e2⟩
    · exact h4 x h e
    · rw [e2]⟩
  have ho2 : ∀ y ∈ putsH l t a ds, y.d ∈ es → y = ⟨y.d, t, a⟩ := fun y hy hd => by
    rcases (mem_puts ho).1 hy with h | ⟨h, e2⟩
    · exact ho y h (hs _ hd)
    · exact e2
  have hw2 : wayH (putsH l t a ds) t es = [] := by
    unfold wayH
    rw [List.filter_eq_nil_iff]
    intro y hy
    simp only [decide_eq_true_eq, not_and, Decidable.not_not]
    intro hd
    rw [ho2 y hy hd]
  have e : putsH (putsH l t a ds) t a es = putsH l t a ds :=
    upH_unique (puts_up hR.up) hR.up (fun x => by
      rw [mem_puts ho2]
      refine ⟨fun h => ?_, .inl⟩
      rcases h with h | ⟨h, e2⟩
      · exact h
      · exact (mem_puts ho).2 (.inr ⟨hs _ h, e2⟩))
  unfold takeH
  rw [if_pos ⟨(right_iff _).2 hR, hm2⟩, if_pos hw2, e]

/-- What is let go (LocksFree). -/
theorem free_held {l : List Hl} (hu : UpH l) (t : Int) {x : Hl} (hx : x ∈ l) : heldH (freeH l t) x.d = if x.t = t then none else some x := by
  by_cases e : x.t = t
  · rw [if_pos e]
    cases c : heldH (freeH l t) x.d with
    | none => rfl
    | some y =>
      obtain ⟨h1, h2⟩ := find_some c
      obtain ⟨h3, h4⟩ := mem_free.1 h1
      rw [upH_inj hu h3 hx h2] at h4
      exact absurd e h4
  · rw [if_neg e]
    exact find_up (hu.filter _) (mem_free.2 ⟨hx, e⟩)
def gone (l : List Hl) (t : Int) : List Bs := (l.filter (fun x => decide (x.t = t))).map Hl.d
theorem mem_gone {l : List Hl} {t : Int} {p : Bs} : p ∈ gone l t ↔ ∃ x ∈ l, x.t = t ∧ x.d = p := by
  unfold gone
  simp only [List.mem_map, List.mem_filter, decide_eq_true_eq]
  exact ⟨fun ⟨x, ⟨h1, h2⟩, h3⟩ => ⟨x, h1, h2, h3⟩, fun ⟨x, h1, h2, h3⟩ => ⟨x, ⟨h1, h2⟩, h3⟩⟩
theorem free_len (l : List Hl) (t : Int) : (freeH l t).length + (gone l t).length = l.length := by
  unfold freeH gone
  rw [List.length_map]
  induction l with
  | nil => rfl
  | cons x l ih =>
    rw [List.filter_cons, List.filter_cons]
    by_cases e : x.t = t
    · rw [if_neg (by simpa using e), if_pos (by simpa using e), List.length_cons, List.length_cons]; omega
    · rw [if_pos (by simpa using e), if_neg (by simpa using e), List.length_cons, List.length_cons]; omega
theorem free_take {l : List Hl} (hr : RtH l) (t k : Int) (hk : isN k = true) (hno : ∀ x ∈ freeH l t, x.t ≠ k) :
    ∃ b, takeH (freeH l t) k 1 (gone l t) = (b, [], true) ∧ b.length = l.length := by
  have hR := free_right t hr
  have hdis : ∀ y ∈ freeH l t, y.d ∉ gone l t := fun y hy hd => by
    obtain ⟨x, h1, h2, h3⟩ := mem_gone.1 hd
    obtain ⟨h4, h5⟩ := mem_free.1 hy
    have := upH_inj hr.up h1 h4 h3
    subst this
    exact h5 h2
  have hm : mayH (freeH l t) k 1 (gone l t) = true := (may_iff _ _ _ _).2 ⟨hk, by decide, fun d hd => by
    obtain ⟨x, h1, h2, rfl⟩ := mem_gone.1 hd
    have := hr.ok x h1
    unfold okH at this
    simp only [Bool.and_eq_true] at this
    exact this.1.1, fun x hx e => absurd e (hno x hx)⟩
  have hw : wayH (freeH l t) k (gone l t) = [] := by
    unfold wayH
    rw [List.filter_eq_nil_iff]
    intro y hy
    simp only [decide_eq_true_eq, not_and, Decidable.not_not]
    intro hd
    exact absurd hd (hdis y hy)
  have ho := own_of hm hw
  refine ⟨putsH (freeH l t) k 1 (gone l t), ?_, ?_⟩
  · unfold takeH
    rw [if_pos ⟨(right_iff _).2 hR, hm⟩, if_pos hw]
  · have e : (putsH (freeH l t) k 1 (gone l t)).map Hl.d = l.map Hl.d :=
      upB_unique (map_up (puts_up hR.up)) (map_up hr.up) (fun p => by
        simp only [List.mem_map]
        constructor
        · rintro ⟨x, hx, rfl⟩
          rcases (mem_puts ho).1 hx with h | ⟨h, _⟩
          · exact ⟨x, (mem_free.1 h).1, rfl⟩
          · obtain ⟨y, h1, _, h3⟩ := mem_gone.1 h
            exact ⟨y, h1, h3⟩
        · rintro ⟨x, hx, rfl⟩
          by_cases e : x.t = t
          · exact ⟨⟨x.d, k, 1⟩, (mem_puts ho).2 (.inr ⟨mem_gone.2 ⟨x, hx, e, rfl⟩, rfl⟩), rfl⟩
          · exact ⟨x, (mem_puts ho).2 (.inl (mem_free.2 ⟨hx, e⟩)), rfl⟩)
    have := congrArg List.length e
    simpa using this
/-- Of 201 numbers one is nobody's of 200. -/
theorem some_free {l : List Hl} (h : l.length ≤ 200) (ha : ∀ j : Nat, j ≤ 200 → ∃ x ∈ l, x.t = (j : Int)) : False := by
  have := sub_len (l := (List.range 201).map (fun j : Nat => (j : Int))) (m := l.map Hl.t) (by
    have hnd : (List.range 201).Pairwise (fun a b => a ≠ b) := List.nodup_range
    exact List.pairwise_map.2 (hnd.imp (fun {a b : Nat} (h : a ≠ b) (e : (a : Int) = (b : Int)) => h (by omega)))) (fun x hx => by
    obtain ⟨j, hj, rfl⟩ := List.mem_map.1 hx
    obtain ⟨x, h1, h2⟩ := ha j (by have := List.mem_range.1 hj; omega)
    exact List.mem_map.2 ⟨x, h1, h2⟩)
  simp only [List.length_map, List.length_range] at this
  omega

/-- Whoever is wounded (LocksWound). -/
theorem wnd_own {l : List Hl} {t a : Int} {ds : List Bs} {n : Int} (h : n ∈ wndH l t a ds) : ∃ x ∈ l, x.t = n ∧ x.d ∈ ds ∧ yng t a x = true := by
  unfold wndH at h
  rw [mem_ordI] at h
  simp only [List.mem_map, List.mem_filter] at h
  obtain ⟨x, ⟨h1, h2⟩, rfl⟩ := h
  unfold wayH at h1
  obtain ⟨h3, h4⟩ := List.mem_filter.1 h1
  exact ⟨x, h3, rfl, (by simpa using h4 : x.d ∈ ds ∧ x.t ≠ t).1, h2⟩
def freeAll (l : List Hl) (ns : List Int) : List Hl := l.filter (fun x => decide (x.t ∉ ns))
theorem freeAll_nil (l : List Hl) : freeAll l [] = l := by unfold freeAll; simp
theorem freeAll_snoc (l : List Hl) (ns : List Int) (n : Int) : freeH (freeAll l ns) n = freeAll l (ns ++ [n]) := by
  unfold freeH freeAll
  rw [List.filter_filter]
  refine List.filter_congr fun x _ => ?_
  rw [Bool.eq_iff_iff]
  simp only [Bool.and_eq_true, decide_eq_true_eq, List.mem_append, List.mem_singleton, not_or]
  exact ⟨fun h => ⟨h.2, h.1⟩, fun h => ⟨h.2, h.1⟩⟩
theorem all_right {l : List Hl} (ns : List Int) (h : RtH l) : RtH (freeAll l ns) :=
  ⟨fun x hx => h.ok x (List.mem_filter.1 hx).1, h.up.filter _, fun x hx y hy => h.one x (List.mem_filter.1 hx).1 y (List.mem_filter.1 hy).1⟩
theorem wound_then {l : List Hl} {t a : Int} {ds : List Bs} (hr : RtH l) (hm : mayH l t a ds = true) :
    (takeH (freeAll l (wndH l t a ds)) t a ds).2.1 = [] ∧ ((takeH (freeAll l (wndH l t a ds)) t a ds).2.2 = true ↔ ∀ x ∈ freeAll l (wndH l t a ds), ¬ (x.d ∈ ds ∧ x.t ≠ t)) := by
  obtain ⟨h1, h2, h3, h4⟩ := (may_iff _ _ _ _).1 hm
  have hR := all_right (wndH l t a ds) hr
  have hm2 : mayH (freeAll l (wndH l t a ds)) t a ds = true := (may_iff _ _ _ _).2 ⟨h1, h2, h3, fun x hx => h4 x (List.mem_filter.1 hx).1⟩
  have hn : wndH (freeAll l (wndH l t a ds)) t a ds = [] := by
    refine List.eq_nil_iff_forall_not_mem.2 fun n hn => ?_
    obtain ⟨x, h5, rfl, h6, h7⟩ := wnd_own hn
    unfold wndH at hn
    rw [mem_ordI] at hn
    simp only [List.mem_map, List.mem_filter] at hn
    obtain ⟨y, ⟨h8, h9⟩, e⟩ := hn
    unfold wayH at h8
    obtain ⟨k1, k2⟩ := List.mem_filter.1 h8
    unfold freeAll at k1
    obtain ⟨k3, k4⟩ := List.mem_filter.1 k1
    have k4 : y.t ∉ wndH l t a ds := of_decide_eq_true k4
    refine k4 ?_
    show y.t ∈ ordI (((wayH l t ds).filter (yng t a)).map Hl.t)
    rw [mem_ordI]
    exact List.mem_map.2 ⟨y, List.mem_filter.2 ⟨List.mem_filter.2 ⟨k3, k2⟩, h9⟩, rfl⟩
  have hiff : wayH (freeAll l (wndH l t a ds)) t ds = [] ↔ ∀ x ∈ freeAll l (wndH l t a ds), ¬ (x.d ∈ ds ∧ x.t ≠ t) := by
    show List.filter _ (freeAll l (wndH l t a ds)) = [] ↔ _
    rw [List.filter_eq_nil_iff]
    simp only [decide_eq_true_eq]
  unfold takeH
  rw [if_pos ⟨(right_iff _).2 hR, hm2⟩]
  by_cases e : wayH (freeAll l (wndH l t a ds)) t ds = []
  · rw [if_pos e]; exact ⟨rfl, ⟨fun _ => hiff.1 e, fun _ => rfl⟩⟩
  · rw [if_neg e]; exact ⟨hn, ⟨fun h => (Bool.noConfusion h), fun h => absurd (hiff.2 h) e⟩⟩
/-- Two that ask what the other one holds (LocksRing). -/
theorem take_nil {t a : Int} {ds : List Bs} {l : List Hl} {w : List Int} (h : takeH [] t a ds = (l, w, true)) : mayH [] t a ds = true ∧ l = putsH [] t a ds := by
  unfold takeH at h
  split at h
  · rename_i hc
    rw [if_pos (show wayH [] t ds = [] from rfl)] at h
    injection h with h1 h2
    exact ⟨hc.2, h1.symm⟩
  · injection h with h1 h2; injection h2 with h2 h3; cases h3
theorem take_yes {l : List Hl} {t a : Int} {ds : List Bs} {m : List Hl} {w : List Int} (h : takeH l t a ds = (m, w, true)) : RtH l ∧ mayH l t a ds = true ∧ wayH l t ds = [] ∧ m = putsH l t a ds ∧ w = [] := by
  unfold takeH at h
  split at h
  · rename_i hc
    split at h
    · rename_i hw
      injection h with h1 h2; injection h2 with h2 h3
      exact ⟨(right_iff _).1 hc.1, hc.2, hw, h1.symm, h2.symm⟩
    · injection h with h1 h2; injection h2 with h2 h3; cases h3
  · injection h with h1 h2; injection h2 with h2 h3; cases h3
theorem take_no {l : List Hl} {t a : Int} {ds : List Bs} {m : List Hl} {w : List Int} (h : takeH l t a ds = (m, w, false)) : (m = [] ∧ w = []) ∨ (m = l ∧ w = wndH l t a ds ∧ RtH l ∧ mayH l t a ds = true ∧ wayH l t ds ≠ []) := by
  unfold takeH at h
  split at h
  · rename_i hc
    split at h
    · injection h with h1 h2; injection h2 with h2 h3; cases h3
    · rename_i hw
      injection h with h1 h2; injection h2 with h2 h3
      exact .inr ⟨h1.symm, h2.symm, (right_iff _).1 hc.1, hc.2, hw⟩
  · injection h with h1 h2; injection h2 with h2 h3
    exact .inl ⟨h1.symm, h2.symm⟩
/-- Both hold theirs: who holds what. -/
structure Both (m : List Hl) (a b x y : Int) (one two : List Bs) : Prop where
  rt : RtH m
  mem : ∀ z, z ∈ m ↔ (z.d ∈ one ∧ z = ⟨z.d, a, x⟩) ∨ (z.d ∈ two ∧ z = ⟨z.d, b, y⟩)
  ma : isN a = true ∧ isN x = true
  mb : isN b = true ∧ isN y = true
  ok : (∀ d ∈ one, okP d = true) ∧ ∀ d ∈ two, okP d = true
theorem both_of {a b x y : Int} {one two : List Bs} {l m : List Hl} {w v : List Int} (hab : a ≠ b) (h1 : takeH [] a x one = (l, w, true)) (h2 : takeH l b y two = (m, v, true)) : Both m a b x y one two := by
  obtain ⟨hm1, rfl⟩ := take_nil h1
  obtain ⟨hr, hm2, hw, rfl, _⟩ := take_yes h2
  have ho1 := own_of (l := []) hm1 (show wayH [] a one = [] from rfl)
  have ho2 := own_of hm2 hw
  obtain ⟨i1, i2, i3, i4⟩ := (may_iff _ _ _ _).1 hm1
  obtain ⟨k1, k2, k3, k4⟩ := (may_iff _ _ _ _).1 hm2
  refine ⟨puts_right hr hm2 hw, fun z => ?_, ⟨i1, i2⟩, ⟨k1, k2⟩, i3, k3⟩
  rw [mem_puts ho2, mem_puts ho1]
  simp
theorem Both.swap {m : List Hl} {a b x y : Int} {one two : List Bs} (h : Both m a b x y one two) : Both m b a y x two one :=
  ⟨h.rt, fun z => by rw [h.mem z]; exact or_comm, h.mb, h.ma, h.ok.2, h.ok.1⟩
theorem Both.may {m : List Hl} {a b x y : Int} {one two : List Bs} (h : Both m a b x y one two) (hab : a ≠ b) : mayH m a x two = true :=
  (may_iff _ _ _ _).2 ⟨h.ma.1, h.ma.2, h.ok.2, fun z hz e => by
    rcases (h.mem z).1 hz with ⟨_, e2⟩ | ⟨_, e2⟩
    · rw [e2]
    · rw [e2] at e; exact absurd e.symm hab⟩
theorem Both.asks {m : List Hl} {a b x y : Int} {one two : List Bs} (h : Both m a b x y one two) (hab : a ≠ b) (hne : two ≠ []) :
    takeH m a x two = (m, (if x < y ∨ y = x ∧ a < b then [b] else []), false) := by
  obtain ⟨d, hd⟩ := List.exists_mem_of_ne_nil two hne
  have hin : (⟨d, b, y⟩ : Hl) ∈ wayH m a two := List.mem_filter.2 ⟨(h.mem _).2 (.inr ⟨hd, rfl⟩), by simpa using ⟨hd, Ne.symm hab⟩⟩
  have hw : wayH m a two ≠ [] := fun e => by rw [e] at hin; cases hin
  have hall : ∀ z ∈ wayH m a two, z = ⟨z.d, b, y⟩ := fun z hz => by
    obtain ⟨k1, k2⟩ := List.mem_filter.1 hz
    have k2 : z.d ∈ two ∧ z.t ≠ a := by simpa using k2
    rcases (h.mem z).1 k1 with ⟨_, e⟩ | ⟨_, e⟩
    · rw [e] at k2; exact absurd rfl k2.2
    · exact e
  have hwd : wndH m a x two = if x < y ∨ y = x ∧ a < b then [b] else [] := by
    by_cases c : x < y ∨ y = x ∧ a < b
    · rw [if_pos c]
      refine (ordI_eq (by simp) fun n => ?_).symm
      simp only [List.mem_singleton, List.mem_map, List.mem_filter]
      constructor
      · rintro rfl; exact ⟨_, ⟨hin, by unfold yng; simpa using c⟩, rfl⟩
      · rintro ⟨z, ⟨k1, _⟩, rfl⟩; rw [hall z k1]
    · rw [if_neg c]
      refine (ordI_eq List.Pairwise.nil fun n => ?_).symm
      simp only [List.not_mem_nil, List.mem_map, List.mem_filter, false_iff]
      rintro ⟨z, ⟨k1, k2⟩, rfl⟩
      rw [hall z k1] at k2
      unfold yng at k2
      exact c (by simpa using k2)
  unfold takeH
  rw [if_pos ⟨(right_iff _).2 h.rt, h.may hab⟩, if_neg hw, hwd]
theorem Both.after {m : List Hl} {a b x y : Int} {one two : List Bs} (h : Both m a b x y one two) (hab : a ≠ b) : ∃ k, takeH (freeH m b) a x two = (k, [], true) := by
  have hm : mayH (freeH m b) a x two = true := (may_iff _ _ _ _).2 (by
    obtain ⟨k1, k2, k3, k4⟩ := (may_iff _ _ _ _).1 (h.may hab)
    exact ⟨k1, k2, k3, fun z hz => k4 z (mem_free.1 hz).1⟩)
  have hw : wayH (freeH m b) a two = [] := by
    unfold wayH
    rw [List.filter_eq_nil_iff]
    intro z hz
    simp only [decide_eq_true_eq, not_and, Decidable.not_not]
    intro _
    obtain ⟨k1, k2⟩ := mem_free.1 hz
    rcases (h.mem z).1 k1 with ⟨_, e⟩ | ⟨_, e⟩
    · rw [e]
    · rw [e] at k2; exact absurd rfl k2
  refine ⟨putsH (freeH m b) a x two, ?_⟩
  unfold takeH
  rw [if_pos ⟨(right_iff _).2 (free_right b h.rt), hm⟩, if_pos hw]
end Pm
end Go.Proofs.YtenaggleepoclaaGreat
