/- Plain facts: what Open finds behind an Append, a Start, a cut and a crash. Nothing of the program. -/
import Derived.Test.YtankfmlafmjaeaaGreatKx
namespace Go.Proofs.YtankfmlafmjaeaaGreat
set_option maxRecDepth 20000
namespace Pm

theorem zr_add (m n : Nat) : zr (m + n) = zr m ++ zr n := by simp [zr, List.replicate_append_replicate]
theorem isZ_eq {b : Bs} (h : isZ b = true) : b = zr b.length := by
  unfold isZ at h
  rw [List.all_eq_true] at h
  exact List.eq_replicate_iff.2 ⟨rfl, fun x hx => by simpa using h x hx⟩
theorem isZ_zr (n : Nat) : isZ (zr n) = true := by
  unfold isZ zr; rw [List.all_eq_true]; intro x hx; rw [(List.mem_replicate.1 hx).2]; rfl
theorem isZ_get {b : Bs} (h : isZ b = true) (i : Nat) : b[i]? ≠ some 82 := by
  rw [isZ_eq h]; unfold zr
  intro g
  rw [List.getElem?_replicate] at g
  split at g
  · injection g with g; exact absurd g (by decide)
  · cases g
theorem isZ_drop {b : Bs} (h : isZ b = true) (n : Nat) : isZ (b.drop n) = true := by
  unfold isZ at *; rw [List.all_eq_true] at *; intro x hx; exact h x (List.mem_of_mem_drop hx)

theorem spl_part (l : Bs) (p : Nat) (x : Bs) (q r : Nat) (h : p + x.length ≤ l.length) (hd : p + x.length ≤ q ∨ q + r ≤ p) : ((spl l p x).drop q).take r = (l.drop q).take r := by
  apply List.ext_getElem?
  intro j
  by_cases hj : j < r
  · rw [List.getElem?_take_of_lt hj, List.getElem?_take_of_lt hj, List.getElem?_drop, List.getElem?_drop, spl_get _ _ _ h, if_neg (by omega)]
  · rw [List.getElem?_eq_none (by simp; omega), List.getElem?_eq_none (by simp; omega)]
theorem spl_in (l : Bs) (p : Nat) (x : Bs) (q r : Nat) (h : q + p + x.length ≤ l.length) (hr : p + x.length ≤ r) (hq : q + r ≤ l.length) : ((spl l (q + p) x).drop q).take r = spl ((l.drop q).take r) p x := by
  apply List.ext_getElem?
  intro j
  have hl : ((l.drop q).take r).length = r := by simp; omega
  rw [spl_get _ _ _ (by omega)]
  by_cases hj : j < r
  · rw [List.getElem?_take_of_lt hj, List.getElem?_drop, spl_get _ _ _ h, List.getElem?_take_of_lt hj, List.getElem?_drop]
    by_cases h1 : p ≤ j ∧ j < p + x.length
    · rw [if_pos h1, if_pos (by omega)]; congr 1; omega
    · rw [if_neg h1, if_neg (by omega)]
  · rw [List.getElem?_eq_none (by simp; omega), if_neg (by omega), List.getElem?_eq_none (by simp; omega)]
/-- A head laid over what lies ahead of its bytes. -/
theorem spl_two (l : Bs) (u : Nat) (h p : Bs) (hh : h.length = 16) (hu : u + 16 + p.length ≤ l.length) : (spl (spl l (u + 16) p) u h).take u = l.take u ∧ (spl (spl l (u + 16) p) u h).drop u = h ++ (p ++ l.drop (u + 16 + p.length)) := by
  have h1 : (spl l (u + 16) p).length = l.length := spl_len _ _ _ hu
  constructor
  · apply List.ext_getElem?
    intro j
    by_cases hj : j < u
    · rw [List.getElem?_take_of_lt hj, List.getElem?_take_of_lt hj, spl_get _ _ _ (by omega), if_neg (by omega), spl_get _ _ _ hu, if_neg (by omega)]
    · rw [List.getElem?_eq_none (by simp; omega), List.getElem?_eq_none (by simp; omega)]
  · apply List.ext_getElem?
    intro j
    rw [List.getElem?_drop, spl_get _ _ _ (by omega)]
    by_cases h2 : j < 16
    · rw [if_pos (by omega), List.getElem?_append_left (by omega)]; congr 1; omega
    · rw [if_neg (by omega), spl_get _ _ _ hu, List.getElem?_append_right (by omega)]
      by_cases h3 : j < 16 + p.length
      · rw [if_pos (by omega), List.getElem?_append_left (by omega)]; congr 1; omega
      · rw [if_neg (by omega), List.getElem?_append_right (by omega), List.getElem?_drop]; congr 1; omega

theorem hf_mod (c : Bs) : hf c % 16 = 0 := by unfold hf; omega
theorem hf_le (c : Bs) : hf c ≤ c.length := by unfold hf; omega
theorem st_mod (c : Bs) (a : Nat) : st c a % 16 = 0 := by
  unfold st; have h := hf_mod c
  rw [Nat.add_mod, Nat.mul_mod, h]; simp
theorem st_le (c : Bs) (a : Nat) (ha : a < 2) (hb : 16 ≤ hf c) : st c a + hf c ≤ c.length := by
  have h : a = 0 ∨ a = 1 := by omega
  unfold hf at hb
  unfold st hf
  rcases h with rfl | rfl <;> omega
theorem st_ge (c : Bs) (a : Nat) : 16 ≤ st c a := by unfold st; omega
theorem hf_len {c d : Bs} (h : c.length = d.length) : hf c = hf d := by unfold hf; rw [h]
theorem st_len {c d : Bs} (h : c.length = d.length) (a : Nat) : st c a = st d a := by unfold st; rw [hf_len h]
theorem con_len (c : Bs) (a : Nat) (ha : a < 2) (hb : 16 ≤ hf c) : (con c a).length = hf c := by
  have := st_le c a ha hb
  unfold con; simp; omega
theorem con_in (c : Bs) (a u : Nat) (x : Bs) (ha : a < 2) (hb : 16 ≤ hf c) (h : u + x.length ≤ hf c) : con (spl c (st c a + u) x) a = spl (con c a) u x := by
  have hs := st_le c a ha hb
  have hl : (spl c (st c a + u) x).length = c.length := spl_len _ _ _ (by omega)
  have e : con (spl c (st c a + u) x) a = ((spl c (st c a + u) x).drop (st c a)).take (hf c) := by unfold con; rw [st_len hl, hf_len hl]
  rw [e]
  exact spl_in c u x (st c a) (hf c) (by omega) h hs
theorem con_out (c : Bs) (a p : Nat) (x : Bs) (h : p + x.length ≤ c.length) (hd : p + x.length ≤ st c a ∨ st c a + hf c ≤ p) : con (spl c p x) a = con c a := by
  have hl : (spl c p x).length = c.length := spl_len _ _ _ h
  have e : con (spl c p x) a = ((spl c p x).drop (st c a)).take (hf c) := by unfold con; rw [st_len hl, hf_len hl]
  rw [e]
  exact spl_part c p x _ _ h hd
theorem head_out (c : Bs) (p : Nat) (x : Bs) (h : p + x.length ≤ c.length) (hd : 16 ≤ p) : (spl c p x).take 16 = c.take 16 := by
  have := spl_part c p x 0 16 h (.inr (by omega))
  simpa using this
theorem other_apart (c : Bs) (a : Nat) (ha : a < 2) : st c (1 - a) + hf c ≤ st c a ∨ st c a + hf c ≤ st c (1 - a) := by
  have h : a = 0 ∨ a = 1 := by omega
  unfold st
  rcases h with rfl | rfl <;> omega

/-- A disk's bytes with a log of these records, and room behind them that is all zero. -/
structure Has (c : Bs) (a : Nat) (rs : List Bs) : Prop where
  ar : a < 2
  big : 16 ≤ hf c
  sg : signed (c.take 16) = some a
  rs : scan (con c a) 0 = rs
theorem Has.fits {c : Bs} {a : Nat} {rs : List Bs} (h : Has c a rs) : usd rs ≤ hf c ∧ ∀ r ∈ rs, r.length ≤ 16384 := by
  have hl := con_len c a h.ar h.big
  have := scan_le (con c a) 0 (by rw [hl]; exact hf_mod c)
  rw [h.rs, hl] at this
  exact this
structure Gd (s : Dk) (l : Lg) : Prop where
  dry : Dry s
  has : Has s.cur l.ar l.rs
  z : isZ ((con s.cur l.ar).drop (usd l.rs)) = true
theorem signed_lt {b : Bs} {a : Nat} (h : signed b = some a) : a < 2 := by
  unfold signed at h
  split at h
  · injection h with h; omega
  · split at h
    · injection h with h; omega
    · split at h
      · injection h with h; omega
      · cases h
theorem signed_sgn (a : Nat) (h : a < 2) : signed (sgn a) = some a := by
  have : a = 0 ∨ a = 1 := by omega
  rcases this with rfl | rfl <;> rfl

theorem open_gd {s : Dk} {l : Lg} (h : Gd s l) : lOpen s = (0, some l, s) := by
  have hb := h.has.big
  unfold lOpen
  rw [if_neg (by rw [h.dry.on]; exact Bool.false_ne_true), if_neg (by omega), h.has.sg]
  simp only
  rw [h.has.rs, if_pos h.z]

/-- What a log finds is what was there; behind it all is zero then. -/
theorem open_dry {s : Dk} {a : Nat} {rs : List Bs} (hd : Dry s) (h : Has s.cur a rs) :
    ∃ s', lOpen s = (0, some ⟨a, rs⟩, s') ∧ Gd s' ⟨a, rs⟩ ∧ s'.acts ≤ s.acts + 2 ∧ s'.cur.length = s.cur.length := by
  have hb := h.big
  have hl := con_len s.cur a h.ar hb
  have hfit := h.fits.1
  cases hz : isZ ((con s.cur a).drop (usd rs)) with
  | true => exact ⟨s, open_gd (l := ⟨a, rs⟩) ⟨hd, h, hz⟩, ⟨hd, h, hz⟩, by omega, rfl⟩
  | false =>
    have hs := st_le s.cur a h.ar hb
    have hzl := zr_len (hf s.cur - usd rs)
    have hin : st s.cur a + usd rs + (zr (hf s.cur - usd rs)).length ≤ s.cur.length := by omega
    have hw := Way.cons (Turn.wr (c := s.cur) (o := s.old) (st s.cur a + usd rs) (zr (hf s.cur - usd rs)) hin) (Way.cons Turn.sync (Way.nil _ _))
    have hr := hw.run s ⟨hd.rt, hd.on⟩ rfl rfl
    have e : lOpen s = (0, some ⟨a, rs⟩, (seqF [wr (st s.cur a + usd rs) (zr (hf s.cur - usd rs)), dSync] s).2) := by
      rcases hr with g | g
      · unfold lOpen
        rw [if_neg (by rw [hd.on]; exact Bool.false_ne_true), if_neg (by omega), h.sg]
        simp only
        rw [h.rs, hz, if_neg Bool.false_ne_true, if_pos g.ok]
      · exact absurd hd.fz g.fz
    rcases hr with g | g
    · refine ⟨_, e, ?_, g.acts, by rw [g.cur, spl_len _ _ _ hin]⟩
      have hcl : (spl s.cur (st s.cur a + usd rs) (zr (hf s.cur - usd rs))).length = s.cur.length := spl_len _ _ _ hin
      have hc := con_in s.cur a (usd rs) (zr (hf s.cur - usd rs)) h.ar hb (by omega)
      have hdr : (spl (con s.cur a) (usd rs) (zr (hf s.cur - usd rs))).drop (usd rs) = zr (hf s.cur - usd rs) := by
        unfold spl
        rw [List.drop_left' (by rw [List.length_take]; omega), List.drop_eq_nil_of_le (by omega), List.append_nil]
      refine ⟨⟨g.rt, g.on, g.fz hd.fz, by rw [g.old, g.cur]⟩, ⟨h.ar, by rw [g.cur, hf_len hcl]; exact hb, by rw [g.cur, head_out _ _ _ hin (by have := st_ge s.cur a; omega)]; exact h.sg, ?_⟩, ?_⟩
      · rw [g.cur]
        show scan (con _ a) 0 = rs
        rw [hc]
        have ho := scan_over (con s.cur a) (spl (con s.cur a) (usd rs) (zr (hf s.cur - usd rs))) 0 (by rw [hl]; exact hf_mod _) (spl_len _ _ _ (by omega)) (by
          rw [h.rs]; unfold spl; rw [List.take_left' (by rw [List.length_take]; omega)])
        rw [ho, h.rs, hdr, scan_dead (isZ_get (isZ_zr _) 0), List.append_nil]
      · rw [g.cur]
        show isZ ((con _ a).drop (usd rs)) = true
        rw [hc, hdr]; exact isZ_zr _
    · exact absurd hd.fz g.fz

/-- A disk with the same beginning, up to the sector behind the records, which is zero. -/
theorem has_pre {c x : Bs} {a : Nat} {rs : List Bs} (h : Has c a rs) (hz : isZ ((con c a).drop (usd rs)) = true) (hl : x.length = c.length) (hr : usd rs + 16 ≤ hf c) (ht : x.take (st c a + usd rs + 16) = c.take (st c a + usd rs + 16)) : Has x a rs := by
  have hb := h.big
  have hs := st_le c a h.ar hb
  have hcl := con_len c a h.ar hb
  have hg := st_ge c a
  have htk : ∀ p q, p + q ≤ st c a + usd rs + 16 → (x.drop p).take q = (c.drop p).take q := fun p q hpq => by
    have := congrArg (fun l => (l.drop p).take q) ht
    simp only [List.drop_take, List.take_take] at this
    rwa [Nat.min_eq_left (by omega)] at this
  have hx16 : x.take 16 = c.take 16 := by have := htk 0 16 (by omega); simpa using this
  have hcon : ∀ k, k ≤ usd rs + 16 → (con x a).take k = (con c a).take k := fun k hk => by
    unfold con
    rw [st_len hl, hf_len hl, List.take_take, List.take_take, Nat.min_eq_left (by omega)]
    exact htk _ _ (by omega)
  refine ⟨h.ar, by rw [hf_len hl]; exact hb, by rw [hx16]; exact h.sg, ?_⟩
  have hcx : (con x a).length = (con c a).length := by rw [con_len x a h.ar (by rw [hf_len hl]; exact hb), hcl, hf_len hl]
  have ho := scan_over (con c a) (con x a) 0 (by rw [hcl]; exact hf_mod _) hcx (by rw [h.rs]; exact hcon _ (by omega))
  rw [ho, h.rs, scan_dead, List.append_nil]
  rw [List.getElem?_drop, Nat.add_zero]
  have h1 : (con x a)[usd rs]? = (con c a)[usd rs]? := by
    have : ((con x a).take (usd rs + 16))[usd rs]? = ((con c a).take (usd rs + 16))[usd rs]? := by rw [hcon (usd rs + 16) (by omega)]
    rwa [List.getElem?_take_of_lt (by omega), List.getElem?_take_of_lt (by omega)] at this
  rw [h1]
  have := isZ_get hz 0
  rwa [List.getElem?_drop, Nat.add_zero] at this

abbrev ap1 (c : Bs) (e : Nat) (b : Bs) : Bs := spl c (e + 16) (pad b)
abbrev ap2 (c : Bs) (e i : Nat) (b : Bs) : Bs := spl (ap1 c e b) e (hdr i b)
theorem append_way (c o : Bs) (e i : Nat) (b : Bs) (h : e + ln b.length ≤ c.length) : Way (apSteps e i b) c o 4 (ap2 c e i b) (ap2 c e i b)
    (fun x y => (x = c ∧ y = o) ∨ (x = ap1 c e b ∧ y = o) ∨ (x = ap1 c e b ∧ y = ap1 c e b) ∨ (x = ap2 c e i b ∧ y = ap1 c e b) ∨ False) := by
  have hp := pad_len b
  unfold ln at h
  have h1 : e + 16 + (pad b).length ≤ c.length := by omega
  refine .cons (Turn.wr _ _ h1) (.cons Turn.sync (.cons (Turn.wr _ _ ?_) (.cons Turn.sync (.nil _ _))))
  rw [spl_len _ _ _ h1, hdr_len]; omega

/-- With a record laid behind the others. -/
theorem append_has {c : Bs} {a : Nat} {rs : List Bs} (h : Has c a rs) (hz : isZ ((con c a).drop (usd rs)) = true) (b : Bs) (hb : b.length ≤ 16384) (hr : usd rs + ln b.length ≤ hf c) :
    Has (ap2 c (st c a + usd rs) rs.length b) a (rs ++ [b]) ∧ isZ ((con (ap2 c (st c a + usd rs) rs.length b) a).drop (usd (rs ++ [b]))) = true ∧ (ap2 c (st c a + usd rs) rs.length b).length = c.length := by
  have hbig := h.big
  have hs := st_le c a h.ar hbig
  have hg := st_ge c a
  have hcl := con_len c a h.ar hbig
  have hp := pad_len b
  have hln : ln b.length = 16 + (pad b).length := by rw [hp]; rfl
  have h1 : st c a + usd rs + 16 + (pad b).length ≤ c.length := by omega
  have l1 : (ap1 c (st c a + usd rs) b).length = c.length := spl_len _ _ _ h1
  have h2 : st c a + usd rs + (hdr rs.length b).length ≤ (ap1 c (st c a + usd rs) b).length := by rw [l1, hdr_len]; omega
  have l2 : (ap2 c (st c a + usd rs) rs.length b).length = c.length := by rw [spl_len _ _ _ h2, l1]
  have e1 : con (ap1 c (st c a + usd rs) b) a = spl (con c a) (usd rs + 16) (pad b) := by
    have := con_in c a (usd rs + 16) (pad b) h.ar hbig (by omega)
    rwa [← Nat.add_assoc] at this
  have e2 : con (ap2 c (st c a + usd rs) rs.length b) a = spl (spl (con c a) (usd rs + 16) (pad b)) (usd rs) (hdr rs.length b) := by
    have := con_in (ap1 c (st c a + usd rs) b) a (usd rs) (hdr rs.length b) h.ar (by rw [hf_len l1]; exact hbig) (by rw [hf_len l1, hdr_len]; omega)
    rw [st_len l1, e1] at this
    exact this
  have ht := spl_two (con c a) (usd rs) (hdr rs.length b) (pad b) (hdr_len _ _) (by omega)
  rw [← e2] at ht
  have hcl2 : (con (ap2 c (st c a + usd rs) rs.length b) a).length = (con c a).length := by rw [con_len _ a h.ar (by rw [hf_len l2]; exact hbig), hcl, hf_len l2]
  have ho := scan_over (con c a) (con (ap2 c (st c a + usd rs) rs.length b) a) 0 (by rw [hcl]; exact hf_mod _) hcl2 (by rw [h.rs]; exact ht.1)
  have hzd : isZ ((con c a).drop (usd rs + 16 + (pad b).length)) = true := by
    have := isZ_drop hz (16 + (pad b).length)
    rwa [List.drop_drop, show usd rs + (16 + (pad b).length) = usd rs + 16 + (pad b).length by omega] at this
  refine ⟨⟨h.ar, by rw [hf_len l2]; exact hbig, ?_, ?_⟩, ?_, l2⟩
  · rw [head_out _ _ _ h2 (by omega), head_out _ _ _ h1 (by omega)]; exact h.sg
  · rw [ho, h.rs, Nat.zero_add]
    congr 1
    exact scan_one b _ ht.2 hb (isZ_get hzd 0)
  · rw [usd_app, usd_cons, usd_nil, Nat.add_zero, hln]
    have : (con (ap2 c (st c a + usd rs) rs.length b) a).drop (usd rs + (16 + (pad b).length)) = (con c a).drop (usd rs + 16 + (pad b).length) := by
      rw [← List.drop_drop, ht.2, ← List.append_assoc]
      exact List.drop_left' (by rw [List.length_append, hdr_len])
    rw [this]; exact hzd

theorem append_apart {c : Bs} {a : Nat} {rs : List Bs} (h : Has c a rs) (hz : isZ ((con c a).drop (usd rs)) = true) (b : Bs) (hb : b.length ≤ 16384) (hr : usd rs + ln b.length ≤ hf c) {x y z : Bs}
    (hxy : (x = c ∧ y = c) ∨ (x = ap1 c (st c a + usd rs) b ∧ y = c) ∨ (x = ap1 c (st c a + usd rs) b ∧ y = ap1 c (st c a + usd rs) b) ∨ (x = ap2 c (st c a + usd rs) rs.length b ∧ y = ap1 c (st c a + usd rs) b) ∨ False) (hm : Mx x y z) :
    (Has z a rs ∨ Has z a (rs ++ [b])) ∧ z.length = c.length := by
  have hbig := h.big
  have hs := st_le c a h.ar hbig
  have hg := st_ge c a
  have hp := pad_len b
  have hln : ln b.length = 16 + (pad b).length := by rw [hp]; rfl
  have h1 : st c a + usd rs + 16 + (pad b).length ≤ c.length := by omega
  have l1 : (ap1 c (st c a + usd rs) b).length = c.length := spl_len _ _ _ h1
  have hum := usd_mod rs
  have hsm := st_mod c a
  have hpre : ((ap1 c (st c a + usd rs) b).drop 0).take (st c a + usd rs + 16) = (c.drop 0).take (st c a + usd rs + 16) := spl_part c _ _ 0 _ h1 (.inr (by omega))
  have key : ∀ z, z.length = c.length → (z.drop 0).take (st c a + usd rs + 16) = (c.drop 0).take (st c a + usd rs + 16) → (Has z a rs ∨ Has z a (rs ++ [b])) ∧ z.length = c.length := fun z hl ht =>
    ⟨.inl (has_pre h hz hl (by omega) (by simpa using ht)), hl⟩
  rcases hxy with ⟨rfl, rfl⟩ | ⟨rfl, rfl⟩ | ⟨rfl, rfl⟩ | ⟨rfl, rfl⟩ | hF
  · rw [hm.same]; exact ⟨.inl h, rfl⟩
  · have hl : z.length = y.length := hm.lb
    exact key z hl ((hm.part 0 _ (by omega) (by omega) (by omega) hpre).trans hpre)
  · rw [hm.same]; exact key _ l1 hpre
  · rcases Mx.one (by omega) (hdr_len _ _) (by rw [l1]; omega) hm with rfl | rfl
    · have := append_has h hz b hb hr
      exact ⟨.inr this.1, this.2.2⟩
    · exact key _ l1 hpre
  · exact hF.elim

/-- Start's steps. -/
abbrev sa0 (c : Bs) (o : Nat) : Bs := spl c (st c o) (zr (hf c))
abbrev sa1 (c : Bs) (o : Nat) (b : Bs) : Bs := spl (sa0 c o) (st c o + 16) (pad b)
abbrev sa2 (c : Bs) (o : Nat) (b : Bs) : Bs := spl (sa1 c o b) (st c o) (hdr 0 b)
abbrev sa3 (c : Bs) (o : Nat) (b : Bs) : Bs := spl (sa2 c o b) 0 (sgn o)
theorem sgn_len (a : Nat) : (sgn a).length = 16 := by simp [sgn, zr_len]
theorem sa_len (c : Bs) (o : Nat) (b : Bs) (ho : o < 2) (hb : 16 ≤ hf c) (hr : ln b.length ≤ hf c) :
    (sa0 c o).length = c.length ∧ (sa1 c o b).length = c.length ∧ (sa2 c o b).length = c.length ∧ (sa3 c o b).length = c.length := by
  have hs := st_le c o ho hb
  have hp := pad_len b
  have hln : ln b.length = 16 + (pad b).length := by rw [hp]; rfl
  have l0 : (sa0 c o).length = c.length := spl_len _ _ _ (by rw [zr_len]; exact hs)
  have l1 : (sa1 c o b).length = c.length := by rw [spl_len _ _ _ (by rw [l0]; omega), l0]
  have l2 : (sa2 c o b).length = c.length := by rw [spl_len _ _ _ (by rw [l1, hdr_len]; omega), l1]
  exact ⟨l0, l1, l2, by rw [spl_len _ _ _ (by rw [l2, sgn_len]; have := st_ge c o; omega), l2]⟩
theorem start_way (c o' : Bs) (o : Nat) (b : Bs) (ho : o < 2) (hb : 16 ≤ hf c) (hr : ln b.length ≤ hf c) : Way (stSteps c o b) c o' 7 (sa3 c o b) (sa3 c o b)
    (fun x y => (x = c ∧ y = o') ∨ (x = sa0 c o ∧ y = o') ∨ (x = sa1 c o b ∧ y = o') ∨ (x = sa1 c o b ∧ y = sa1 c o b) ∨ (x = sa2 c o b ∧ y = sa1 c o b) ∨ (x = sa2 c o b ∧ y = sa2 c o b) ∨ (x = sa3 c o b ∧ y = sa2 c o b) ∨ False) := by
  have hs := st_le c o ho hb
  have hg := st_ge c o
  have hp := pad_len b
  have hln : ln b.length = 16 + (pad b).length := by rw [hp]; rfl
  obtain ⟨l0, l1, l2, l3⟩ := sa_len c o b ho hb hr
  refine .cons (Turn.wr _ _ ?_) (.cons (Turn.wr _ _ ?_) (.cons Turn.sync (.cons (Turn.wr _ _ ?_) (.cons Turn.sync (.cons (Turn.wr _ _ ?_) (.cons Turn.sync (.nil _ _)))))))
  · rw [zr_len]; exact hs
  · rw [l0]; omega
  · rw [l1, hdr_len]; omega
  · rw [l2, sgn_len]; omega
/-- The other area, and its sign. -/
theorem start_has (c : Bs) (o : Nat) (b : Bs) (ho : o < 2) (hbig : 16 ≤ hf c) (hb : b.length ≤ 16384) (hr : ln b.length ≤ hf c) :
    Has (sa3 c o b) o [b] ∧ isZ ((con (sa3 c o b) o).drop (usd [b])) = true := by
  have hs := st_le c o ho hbig
  have hg := st_ge c o
  have hp := pad_len b
  have hln : ln b.length = 16 + (pad b).length := by rw [hp]; rfl
  obtain ⟨l0, l1, l2, l3⟩ := sa_len c o b ho hbig hr
  have hcl := con_len c o ho hbig
  have e0 : con (sa0 c o) o = zr (hf c) := by
    have := con_in c o 0 (zr (hf c)) ho hbig (by rw [zr_len]; omega)
    rw [Nat.add_zero] at this
    rw [this]
    unfold spl
    rw [List.take_zero, List.nil_append, List.drop_eq_nil_of_le (by rw [zr_len, hcl]; omega), List.append_nil]
  have e1 : con (sa1 c o b) o = spl (zr (hf c)) 16 (pad b) := by
    have := con_in (sa0 c o) o 16 (pad b) ho (by rw [hf_len l0]; exact hbig) (by rw [hf_len l0]; omega)
    rw [st_len l0, e0] at this
    exact this
  have e2 : con (sa2 c o b) o = spl (spl (zr (hf c)) (0 + 16) (pad b)) 0 (hdr 0 b) := by
    have := con_in (sa1 c o b) o 0 (hdr 0 b) ho (by rw [hf_len l1]; exact hbig) (by rw [hf_len l1, hdr_len]; omega)
    rw [st_len l1, e1, Nat.add_zero] at this
    rw [Nat.zero_add]
    exact this
  have e3 : con (sa3 c o b) o = con (sa2 c o b) o := con_out _ _ _ _ (by rw [l2, sgn_len]; omega) (.inl (by rw [sgn_len, st_len l2]; omega))
  have ht := (spl_two (zr (hf c)) 0 (hdr 0 b) (pad b) (hdr_len _ _) (by rw [zr_len]; omega)).2
  rw [← e2, List.drop_zero] at ht
  have hzd : isZ ((zr (hf c)).drop (0 + 16 + (pad b).length)) = true := isZ_drop (isZ_zr _) _
  refine ⟨⟨ho, by rw [hf_len l3]; exact hbig, ?_, ?_⟩, ?_⟩
  · have : (sa3 c o b).take 16 = sgn o := by
      show (spl _ 0 (sgn o)).take 16 = _
      unfold spl
      rw [List.take_zero, List.nil_append, List.take_left' (sgn_len o)]
    rw [this]; exact signed_sgn o ho
  · rw [e3]
    exact scan_one b _ ht hb (isZ_get hzd 0)
  · rw [e3, usd_cons, usd_nil, Nat.add_zero, hln, ht, ← List.append_assoc, List.drop_left' (by rw [List.length_append, hdr_len])]
    exact hzd

theorem start_apart {c : Bs} {a : Nat} {rs : List Bs} (h : Has c a rs) (b : Bs) (hb : b.length ≤ 16384) (hr : ln b.length ≤ hf c) {x y z : Bs}
    (hxy : (x = c ∧ y = c) ∨ (x = sa0 c (1 - a) ∧ y = c) ∨ (x = sa1 c (1 - a) b ∧ y = c) ∨ (x = sa1 c (1 - a) b ∧ y = sa1 c (1 - a) b) ∨ (x = sa2 c (1 - a) b ∧ y = sa1 c (1 - a) b) ∨ (x = sa2 c (1 - a) b ∧ y = sa2 c (1 - a) b) ∨ (x = sa3 c (1 - a) b ∧ y = sa2 c (1 - a) b) ∨ False) (hm : Mx x y z) :
    (Has z a rs ∨ Has z (1 - a) [b]) ∧ z.length = c.length := by
  have hbig := h.big
  have ha := h.ar
  have hs := st_le c a h.ar hbig
  have hg := st_ge c a
  have ho : 1 - a < 2 := by omega
  have hs' := st_le c (1 - a) ho hbig
  have hg' := st_ge c (1 - a)
  have hp := pad_len b
  have hln : ln b.length = 16 + (pad b).length := by rw [hp]; rfl
  obtain ⟨l0, l1, l2, l3⟩ := sa_len c (1 - a) b ho hbig hr
  have hd := other_apart c a ha
  have hzl := zr_len (hf c)
  have hdl := hdr_len 0 b
  have k0 : (sa0 c (1 - a)).take 16 = c.take 16 ∧ con (sa0 c (1 - a)) a = con c a :=
    ⟨head_out _ _ _ (by omega) (by omega), con_out _ _ _ _ (by omega) (by omega)⟩
  have k1 : (sa1 c (1 - a) b).take 16 = c.take 16 ∧ con (sa1 c (1 - a) b) a = con c a :=
    ⟨by rw [head_out _ _ _ (by omega) (by omega)]; exact k0.1, by rw [con_out _ _ _ _ (by omega) (by rw [st_len l0, hf_len l0]; omega)]; exact k0.2⟩
  have k2 : (sa2 c (1 - a) b).take 16 = c.take 16 ∧ con (sa2 c (1 - a) b) a = con c a :=
    ⟨by rw [head_out _ _ _ (by omega) (by omega)]; exact k1.1, by rw [con_out _ _ _ _ (by omega) (by rw [st_len l1, hf_len l1]; omega)]; exact k1.2⟩
  have key : ∀ z, z.length = c.length → z.take 16 = c.take 16 → con z a = con c a → (Has z a rs ∨ Has z (1 - a) [b]) ∧ z.length = c.length := fun z hl h1 h2 =>
    ⟨.inl ⟨ha, by rw [hf_len hl]; exact hbig, by rw [h1]; exact h.sg, by rw [h2]; exact h.rs⟩, hl⟩
  have mix : ∀ x y, x.length = c.length → x.take 16 = c.take 16 ∧ con x a = con c a → y.length = c.length → y.take 16 = c.take 16 ∧ con y a = con c a → Mx x y z → (Has z a rs ∨ Has z (1 - a) [b]) ∧ z.length = c.length := fun x y hx h1 hy h2 hm => by
    have hl : z.length = c.length := by rw [hm.la, hx]
    have hcx : con x a = (x.drop (st c a)).take (hf c) := by unfold con; rw [st_len hx, hf_len hx]
    have hcy : con y a = (y.drop (st c a)).take (hf c) := by unfold con; rw [st_len hy, hf_len hy]
    have hcz : con z a = (z.drop (st c a)).take (hf c) := by unfold con; rw [st_len hl, hf_len hl]
    have p1 := hm.part 0 16 (by omega) (by omega) (by omega) (by rw [List.drop_zero, List.drop_zero, h1.1, h2.1])
    have p2 := hm.part (st c a) (hf c) (st_mod c a) (hf_mod c) (by omega) (by rw [← hcx, ← hcy, h1.2, h2.2])
    refine key z hl ?_ ?_
    · rw [List.drop_zero, List.drop_zero] at p1; rw [p1]; exact h1.1
    · rw [hcz, p2, ← hcx]; exact h1.2
  rcases hxy with ⟨rfl, rfl⟩ | ⟨rfl, rfl⟩ | ⟨rfl, rfl⟩ | ⟨rfl, rfl⟩ | ⟨rfl, rfl⟩ | ⟨rfl, rfl⟩ | ⟨rfl, rfl⟩ | hF
  · exact mix _ _ rfl ⟨rfl, rfl⟩ rfl ⟨rfl, rfl⟩ hm
  · exact mix _ _ l0 k0 rfl ⟨rfl, rfl⟩ hm
  · exact mix _ _ l1 k1 rfl ⟨rfl, rfl⟩ hm
  · exact mix _ _ l1 k1 l1 k1 hm
  · exact mix _ _ l2 k2 l1 k1 hm
  · exact mix _ _ l2 k2 l2 k2 hm
  · rcases Mx.one (by omega) (sgn_len _) (by rw [l2]; omega) hm with rfl | rfl
    · exact ⟨.inr (start_has c (1 - a) b ho hbig hb hr).1, l3⟩
    · exact key _ l2 k2.1 k2.2
  · exact hF.elim

/-- A disk whose fuse was set is as it was. -/
theorem fuse_on {s : Dk} (h : Dry s) (n : Int) (hn : n ≤ 9223372036854775807) : On (dFuse s n) := ⟨h.rt.fuse n hn, h.on⟩

/-- An Append, whatever the fuse, and a crash behind it. -/
structure ApR (s s1 : Dk) (l : Lg) (b : Bs) (r : Int × Lg × Dk) : Prop where
  rt : Rt r.2.2
  acts : r.2.2.acts ≤ s1.acts + 4
  len : r.2.2.cur.length = s.cur.length
  ways : (r.1 = 0 ∧ r.2.1 = ⟨l.ar, l.rs ++ [b]⟩ ∧ (s1.fuse = -1 → Gd r.2.2 ⟨l.ar, l.rs ++ [b]⟩) ∧ ∀ keep, Has (dCrash r.2.2 keep).cur l.ar (l.rs ++ [b])) ∨
    (r.1 = 31 ∧ r.2.1 = l ∧ s1.fuse ≠ -1 ∧ ∀ keep, Has (dCrash r.2.2 keep).cur l.ar l.rs ∨ Has (dCrash r.2.2 keep).cur l.ar (l.rs ++ [b]))
theorem append_cut {s s1 : Dk} {l : Lg} (h : Gd s l) (h1 : On s1) (hc : s1.cur = s.cur) (ho : s1.old = s.cur) (b : Bs) (hb : b.length ≤ 16384) (hr : usd l.rs + ln b.length ≤ hf s.cur) : ApR s s1 l b (lAppend s1 l b) := by
  have hbig := h.has.big
  have hs := st_le s.cur l.ar h.has.ar hbig
  have hw := append_way s.cur s.cur (st s.cur l.ar + usd l.rs) l.rs.length b (by omega)
  have e : lAppend s1 l b = ((seqF (apSteps (st s.cur l.ar + usd l.rs) l.rs.length b) s1).1,
    if (seqF (apSteps (st s.cur l.ar + usd l.rs) l.rs.length b) s1).1 = 0 then ⟨l.ar, l.rs ++ [b]⟩ else l, (seqF (apSteps (st s.cur l.ar + usd l.rs) l.rs.length b) s1).2) := by
    unfold lAppend
    rw [if_neg (by omega), hc, if_neg (by omega)]
  have ha := append_has h.has h.z b hb hr
  rw [e]
  rcases hw.run s1 h1 hc ho with g | g
  · rw [if_pos g.ok]
    refine ⟨g.rt, g.acts, by show (seqF _ s1).2.cur.length = _; rw [g.cur, ha.2.2], .inl ⟨g.ok, rfl, fun hz => ⟨⟨g.rt, g.on, g.fz hz, by show (seqF _ s1).2.old = (seqF _ s1).2.cur; rw [g.old, g.cur]⟩, by show Has (seqF _ s1).2.cur _ _; rw [g.cur]; exact ha.1, by show isZ ((con (seqF _ s1).2.cur _).drop _) = true; rw [g.cur]; exact ha.2.1⟩, fun keep => ?_⟩⟩
    have hm := crash_mx _ g.rt keep
    rw [g.cur, g.old] at hm
    show Has (dCrash (seqF _ s1).2 keep).cur _ _
    rw [hm.same]; exact ha.1
  · rw [if_neg (by rw [g.ok]; decide)]
    have hm := crash_mx _ g.rt []
    have hl := append_apart h.has h.z b hb hr g.at' hm
    refine ⟨g.rt, g.acts, by rw [← hl.2]; exact hm.la.symm, .inr ⟨g.ok, rfl, g.fz, fun keep => ?_⟩⟩
    exact (append_apart h.has h.z b hb hr g.at' (crash_mx _ g.rt keep)).1

structure StR (s s1 : Dk) (l : Lg) (b : Bs) (r : Int × Lg × Dk) : Prop where
  rt : Rt r.2.2
  acts : r.2.2.acts ≤ s1.acts + 7
  len : r.2.2.cur.length = s.cur.length
  ways : (r.1 = 0 ∧ r.2.1 = ⟨1 - l.ar, [b]⟩ ∧ (s1.fuse = -1 → Gd r.2.2 ⟨1 - l.ar, [b]⟩) ∧ ∀ keep, Has (dCrash r.2.2 keep).cur (1 - l.ar) [b]) ∨
    (r.1 = 31 ∧ r.2.1 = l ∧ s1.fuse ≠ -1 ∧ ∀ keep, Has (dCrash r.2.2 keep).cur l.ar l.rs ∨ Has (dCrash r.2.2 keep).cur (1 - l.ar) [b])
theorem start_cut {s s1 : Dk} {l : Lg} (h : Gd s l) (h1 : On s1) (hc : s1.cur = s.cur) (ho : s1.old = s.cur) (b : Bs) (hb : b.length ≤ 16384) (hr : ln b.length ≤ hf s.cur) : StR s s1 l b (lStart s1 l b) := by
  have hbig := h.has.big
  have ha := h.has.ar
  have ho2 : 1 - l.ar < 2 := by omega
  have hw := start_way s.cur s.cur (1 - l.ar) b ho2 hbig hr
  have e : lStart s1 l b = ((seqF (stSteps s.cur (1 - l.ar) b) s1).1, if (seqF (stSteps s.cur (1 - l.ar) b) s1).1 = 0 then ⟨1 - l.ar, [b]⟩ else l, (seqF (stSteps s.cur (1 - l.ar) b) s1).2) := by
    unfold lStart
    rw [if_neg (by omega), hc, if_neg (by omega)]
  have hh := start_has s.cur (1 - l.ar) b ho2 hbig hb hr
  have l3 := (sa_len s.cur (1 - l.ar) b ho2 hbig hr).2.2.2
  rw [e]
  rcases hw.run s1 h1 hc ho with g | g
  · rw [if_pos g.ok]
    refine ⟨g.rt, g.acts, by show (seqF _ s1).2.cur.length = _; rw [g.cur, l3], .inl ⟨g.ok, rfl, fun hz => ⟨⟨g.rt, g.on, g.fz hz, by show (seqF _ s1).2.old = (seqF _ s1).2.cur; rw [g.old, g.cur]⟩, by show Has (seqF _ s1).2.cur _ _; rw [g.cur]; exact hh.1, by show isZ ((con (seqF _ s1).2.cur _).drop _) = true; rw [g.cur]; exact hh.2⟩, fun keep => ?_⟩⟩
    have hm := crash_mx _ g.rt keep
    rw [g.cur, g.old] at hm
    show Has (dCrash (seqF _ s1).2 keep).cur _ _
    rw [hm.same]; exact hh.1
  · rw [if_neg (by rw [g.ok]; decide)]
    have hm := crash_mx _ g.rt []
    have hl := start_apart h.has b hb hr g.at' hm
    refine ⟨g.rt, g.acts, by rw [← hl.2]; exact hm.la.symm, .inr ⟨g.ok, rfl, g.fz, fun keep => ?_⟩⟩
    exact (start_apart h.has b hb hr g.at' (crash_mx _ g.rt keep)).1

/-- A new disk has no records. -/
theorem open_new (n : Nat) (h1 : 3 ≤ n) (h2 : n ≤ 4096) : Gd (dOf (zr (n * 16))) ⟨0, []⟩ := by
  have hl : (zr (n * 16)).length = n * 16 := zr_len _
  have hbig : 16 ≤ hf (zr (n * 16)) := by unfold hf; omega
  have hz : isZ (con (zr (n * 16)) 0) = true := by
    unfold con zr
    rw [List.drop_replicate, List.take_replicate]; exact isZ_zr _
  refine ⟨⟨Rt.of _ n (by omega) h2 hl, rfl, rfl, rfl⟩, ⟨by show (0 : Nat) < 2; omega, hbig, ?_, scan_dead (isZ_get hz 0)⟩, isZ_drop hz _⟩
  have : (zr (n * 16)).take 16 = zr 16 := by unfold zr; rw [List.take_replicate]; congr 1; omega
  show signed ((zr (n * 16)).take 16) = some 0
  rw [this]; rfl
theorem append_full {s : Dk} {l : Lg} (b : Bs) (hb : b.length ≤ 16384) (hr : hf s.cur < usd l.rs + ln b.length) : lAppend s l b = (51, l, s) := by
  unfold lAppend; rw [if_neg (by omega), if_pos hr]
theorem start_full {s : Dk} {l : Lg} (b : Bs) (hb : b.length ≤ 16384) (hr : hf s.cur < ln b.length) : lStart s l b = (51, l, s) := by
  unfold lStart; rw [if_neg (by omega), if_pos hr]
end Pm
end Go.Proofs.YtankfmlafmjaeaaGreat
