/- Plain facts: a log behind steps, cuts and crashes. Nothing of the program. -/
import Derived.Test.YtankfmlafmjaeaaGreatKw
namespace Go.Proofs.YtankfmlafmjaeaaGreat
set_option maxRecDepth 20000
namespace Pm

/-- Behind a crash: each sector is the one's or the other's. -/
structure Mx (a b c : Bs) : Prop where
  la : c.length = a.length
  lb : c.length = b.length
  md : c.length % 16 = 0
  bl : ∀ i, i * 16 + 16 ≤ c.length → blk c i = blk a i ∨ blk c i = blk b i

theorem ext_blk {a b : Bs} (hl : a.length = b.length) (hm : a.length % 16 = 0) (h : ∀ i, i * 16 + 16 ≤ a.length → blk a i = blk b i) : a = b := by
  apply List.ext_getElem?
  intro j
  by_cases hj : j < a.length
  · have h1 := h (j / 16) (by omega)
    have h2 : (blk a (j / 16))[j % 16]? = (blk b (j / 16))[j % 16]? := by rw [h1]
    rw [blk_get _ _ _ (by omega), blk_get _ _ _ (by omega)] at h2
    rwa [show j / 16 * 16 + j % 16 = j by omega] at h2
  · rw [List.getElem?_eq_none (by omega), List.getElem?_eq_none (by omega)]
theorem blk_part (c : Bs) (p q i : Nat) (hp : p % 16 = 0) (hi : i * 16 + 16 ≤ q) (hc : p + q ≤ c.length) : blk ((c.drop p).take q) i = blk c (p / 16 + i) := by
  apply List.ext_getElem?
  intro j
  by_cases hj : j < 16
  · rw [blk_get _ _ _ hj, blk_get _ _ _ hj, List.getElem?_take_of_lt (by omega), List.getElem?_drop]
    congr 1; omega
  · rw [List.getElem?_eq_none (by rw [blk_len _ _ (by simp; omega)]; omega), List.getElem?_eq_none (by rw [blk_len _ _ (by omega)]; omega)]
/-- Where both are alike. -/
theorem Mx.part {a b c : Bs} (h : Mx a b c) (p q : Nat) (hp : p % 16 = 0) (hq : q % 16 = 0) (hc : p + q ≤ c.length) (he : (a.drop p).take q = (b.drop p).take q) : (c.drop p).take q = (a.drop p).take q := by
  have la := h.la
  have lb := h.lb
  apply ext_blk (by simp; omega) (by simp; omega)
  intro i hi
  have hi' : i * 16 + 16 ≤ q := by simp at hi; omega
  rw [blk_part _ _ _ _ hp hi' hc, blk_part _ _ _ _ hp hi' (by omega)]
  rcases h.bl (p / 16 + i) (by omega) with g | g
  · exact g
  · rw [g, ← blk_part b p q i hp hi' (by omega), ← he, blk_part a p q i hp hi' (by omega)]
theorem Mx.same {a c : Bs} (h : Mx a a c) : c = a := by
  have := h.part 0 c.length (by omega) h.md (by omega) rfl
  rw [List.drop_zero, List.take_length] at this
  rw [this, List.drop_zero, List.take_of_length_le (by rw [h.la]; omega)]
/-- Of two that are unlike in one sector. -/
theorem Mx.one {b c : Bs} {p : Nat} {x : Bs} (hp : p % 16 = 0) (hx : x.length = 16) (hb : p + 16 ≤ b.length) (h : Mx (spl b p x) b c) : c = spl b p x ∨ c = b := by
  have hl := spl_len b p x (by omega)
  have la := h.la
  have lb := h.lb
  have hoth : ∀ i, i * 16 + 16 ≤ b.length → i ≠ p / 16 → blk (spl b p x) i = blk b i := fun i hi hne => blk_spl_other _ _ _ _ (by omega) hi (by omega)
  rcases h.bl (p / 16) (by omega) with g | g
  · left
    apply ext_blk (by omega) h.md
    intro i hi
    by_cases he : i = p / 16
    · rw [he]; exact g
    · rcases h.bl i hi with g2 | g2
      · exact g2
      · rw [g2, hoth i (by omega) he]
  · right
    apply ext_blk (by omega) h.md
    intro i hi
    by_cases he : i = p / 16
    · rw [he]; exact g
    · rcases h.bl i hi with g2 | g2
      · rw [g2, hoth i (by omega) he]
      · exact g2

/-- A disk behind a crash. -/
theorem crash_mx (s : Dk) (h : Rt s) (keep : List Bool) : Mx s.cur s.old (dCrash s keep).cur := by
  have hl := cr_len s.old keep _ h.ol (loose s.wet) 0 s.cur (fun q hq => (mem_loose.1 hq).1) h.cl
  have hb := cr_blk s.old keep _ h.ol (loose s.wet) 0 s.cur (loose_nodup _) (fun q hq => (mem_loose.1 hq).1) h.cl
  have e : (dCrash s keep).cur = cr s.old keep (loose s.wet) 0 s.cur := rfl
  rw [e]
  refine ⟨by rw [hl, h.cl], by rw [hl, h.ol], by rw [hl]; omega, fun i hi => ?_⟩
  by_cases hm : i ∈ loose s.wet
  · obtain ⟨p, hp, rfl⟩ := List.getElem_of_mem hm
    rw [hb.1 p hp]
    split
    · exact .inl rfl
    · exact .inr rfl
  · exact .inl (hb.2 i (by omega) hm)

/-- A disk with its power on, all synced. -/
structure On (s : Dk) : Prop where
  rt : Rt s
  on : s.off = false
structure Dry (s : Dk) : Prop where
  rt : Rt s
  on : s.off = false
  fz : s.fuse = -1
  dry : s.old = s.cur

theorem crash_dry (s : Dk) (h : Rt s) (keep : List Bool) : Dry (dCrash s keep) := ⟨h.crash keep, rfl, rfl, rfl⟩
theorem crash_acts (s : Dk) (keep : List Bool) : (dCrash s keep).acts = s.acts := rfl

/-- What an act does. -/
structure Acted (s : Dk) (c o : Bs) (s' : Dk) : Prop where
  rt : Rt s'
  on : s'.off = false
  cur : s'.cur = c
  old : s'.old = o
  acts : s'.acts ≤ s.acts + 1
  fz : s.fuse = -1 → s'.fuse = -1
structure Cut (s s' : Dk) : Prop where
  rt : Rt s'
  cur : s'.cur = s.cur
  old : s'.old = s.old
  acts : s'.acts ≤ s.acts + 1
  fz : s.fuse ≠ -1

theorem write_cases (s : Dk) (h : On s) (a : Nat) (b : Bs) (hab : a + b.length ≤ s.cur.length) :
    ((dWrite s a b).1 = 31 ∧ Cut s (dWrite s a b).2) ∨ ((dWrite s a b).1 = 0 ∧ Acted s (spl s.cur a b) s.old (dWrite s a b).2) := by
  have hf1 : fits s (a : Int) (b.length : Int) := ⟨by omega, by omega, by omega⟩
  have hr := h.rt.write (a : Int) b
  have ha := acts_write s (a : Int) b
  by_cases ho : (pw s).off = true
  · have e : dWrite s (a : Int) b = (31, pw s) := by unfold dWrite; rw [if_pos ho]
    rw [e] at hr ha ⊢
    refine .inl ⟨rfl, hr, rfl, rfl, ha, ?_⟩
    intro hz
    have ho2 : (s.off || decide (s.fuse = 0)) = true := ho
    rw [h.on, hz] at ho2; simp at ho2
  · have e : dWrite s (a : Int) b = (0, did (put (pw s) a b)) := by unfold dWrite; rw [if_neg ho, if_pos hf1]; rfl
    rw [e] at hr ha ⊢
    refine .inr ⟨rfl, hr, by cases hh : (pw s).off <;> simp_all [did, put], rfl, rfl, ha, ?_⟩
    intro hz
    show (if 0 < s.fuse then s.fuse - 1 else s.fuse) = -1
    rw [hz]; rfl
theorem sync_cases (s : Dk) (h : On s) : ((dSync s).1 = 31 ∧ Cut s (dSync s).2) ∨ ((dSync s).1 = 0 ∧ Acted s s.cur s.cur (dSync s).2) := by
  have hr := h.rt.sync
  have ha := acts_sync s
  by_cases ho : (pw s).off = true
  · have e : dSync s = (31, pw s) := by unfold dSync; rw [if_pos ho]
    rw [e] at hr ha ⊢
    refine .inl ⟨rfl, hr, rfl, rfl, ha, ?_⟩
    intro hz
    have ho2 : (s.off || decide (s.fuse = 0)) = true := ho
    rw [h.on, hz] at ho2; simp at ho2
  · have e : dSync s = (0, did { pw s with old := s.cur, wet := List.replicate s.wet.length false }) := by unfold dSync; rw [if_neg ho]
    rw [e] at hr ha ⊢
    refine .inr ⟨rfl, hr, by cases hh : (pw s).off <;> simp_all [did], rfl, rfl, ha, ?_⟩
    intro hz
    show (if 0 < s.fuse then s.fuse - 1 else s.fuse) = -1
    rw [hz]; rfl
theorem wr_cases (s : Dk) (h : On s) (a : Nat) (b : Bs) (hab : a + b.length ≤ s.cur.length) :
    ((wr a b s).1 = 31 ∧ Cut s (wr a b s).2) ∨ ((wr a b s).1 = 0 ∧ Acted s (spl s.cur a b) s.old (wr a b s).2) := by
  unfold wr
  by_cases hb : b.length = 0
  · rw [if_pos hb]
    have : b = [] := List.eq_nil_of_length_eq_zero hb
    subst this
    exact .inr ⟨rfl, h.rt, h.on, (spl_nil _ _).symm, rfl, Nat.le_succ _, fun h => h⟩
  · rw [if_neg hb]; exact write_cases s h a b hab

theorem seq_cons_err (f : Dk → Int × Dk) (r : List (Dk → Int × Dk)) (s : Dk) (h : (f s).1 = 31) : seqF (f :: r) s = (31, (f s).2) := by
  unfold seqF; rw [if_neg (by omega), ← h]
theorem seq_cons_ok (f : Dk → Int × Dk) (r : List (Dk → Int × Dk)) (s : Dk) (h : (f s).1 = 0) : seqF (f :: r) s = seqF r (f s).2 := by
  conv => lhs; unfold seqF
  rw [if_pos h]

/-- Steps, each of which turns what is there and what is synced. -/
structure Turn (f : Dk → Int × Dk) (c o c' o' : Bs) : Prop where
  go : ∀ s, On s → s.cur = c → s.old = o → ((f s).1 = 31 ∧ Cut s (f s).2) ∨ ((f s).1 = 0 ∧ Acted s c' o' (f s).2)
theorem Turn.wr {c o : Bs} (a : Nat) (b : Bs) (h : a + b.length ≤ c.length) : Turn (wr a b) c o (spl c a b) o :=
  ⟨fun s hs hc ho => by subst hc ho; exact wr_cases s hs a b h⟩
theorem Turn.sync {c o : Bs} : Turn dSync c o c c := ⟨fun s hs hc ho => by subst hc ho; exact sync_cases s hs⟩

/-- All was done. -/
structure Done (s : Dk) (n : Nat) (c o : Bs) (r : Int × Dk) : Prop where
  ok : r.1 = 0
  rt : Rt r.2
  on : r.2.off = false
  cur : r.2.cur = c
  old : r.2.old = o
  acts : r.2.acts ≤ s.acts + n
  fz : s.fuse = -1 → r.2.fuse = -1
/-- It was cut off where that was there, and that synced. -/
structure Off (s : Dk) (n : Nat) (R : Bs → Bs → Prop) (r : Int × Dk) : Prop where
  ok : r.1 = 31
  rt : Rt r.2
  at' : R r.2.cur r.2.old
  acts : r.2.acts ≤ s.acts + n
  fz : s.fuse ≠ -1

/-- A way through steps. -/
inductive Way : List (Dk → Int × Dk) → Bs → Bs → Nat → Bs → Bs → (Bs → Bs → Prop) → Prop
  | nil (c o : Bs) : Way [] c o 0 c o (fun _ _ => False)
  | cons {f r c o c1 o1 n c2 o2 R} (h : Turn f c o c1 o1) (t : Way r c1 o1 n c2 o2 R) : Way (f :: r) c o (n + 1) c2 o2 (fun a b => (a = c ∧ b = o) ∨ R a b)

theorem Way.run {L : List (Dk → Int × Dk)} {c o : Bs} {n : Nat} {c2 o2 : Bs} {R : Bs → Bs → Prop} (h : Way L c o n c2 o2 R) : ∀ s, On s → s.cur = c → s.old = o → Done s n c2 o2 (seqF L s) ∨ Off s n R (seqF L s) := by
  induction h with
  | nil c o => intro s hs hc ho; exact .inl ⟨rfl, hs.rt, hs.on, hc, ho, Nat.le_refl _, fun h => h⟩
  | cons h t ih =>
    intro s hs hc ho
    rcases h.go s hs hc ho with ⟨h1, h2⟩ | ⟨h1, h2⟩
    · rw [seq_cons_err _ _ _ h1]
      refine .inr ⟨rfl, h2.rt, .inl ⟨h2.cur.trans hc, h2.old.trans ho⟩, ?_, h2.fz⟩
      have := h2.acts; show _ ≤ _; simp only; omega
    · rw [seq_cons_ok _ _ _ h1]
      have ha := h2.acts
      rcases ih _ ⟨h2.rt, h2.on⟩ h2.cur h2.old with g | g
      · exact .inl ⟨g.ok, g.rt, g.on, g.cur, g.old, by have := g.acts; omega, fun hz => g.fz (h2.fz hz)⟩
      · exact .inr ⟨g.ok, g.rt, .inr g.at', by have := g.acts; omega, fun hz => g.fz (h2.fz hz)⟩
end Pm
end Go.Proofs.YtankfmlafmjaeaaGreat
