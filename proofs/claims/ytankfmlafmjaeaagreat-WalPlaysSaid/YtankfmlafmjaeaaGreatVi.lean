/- Both logs on both disks, alike: what each call makes of them. -/
import Derived.Test.YtankfmlafmjaeaaGreatVh
import Derived.Test.YtankfmlafmjaeaaGreatHd
import Derived.Test.YtankfmlafmjaeaaGreatGr
namespace Go.Proofs.YtankfmlafmjaeaaGreat
open Go.RowKit Pm
set_option maxRecDepth 20000

theorem seq_acts (L : List (Dk → Int × Dk)) (hL : ∀ f ∈ L, ∀ s, (f s).2.acts ≤ s.acts + 1) (s : Dk) : (seqF L s).2.acts ≤ s.acts + L.length := by
  induction L generalizing s with
  | nil => exact Nat.le_refl _
  | cons f L ih =>
    have h1 := hL f (List.mem_cons_self ..) s
    have h2 := ih (fun g hg => hL g (List.mem_cons_of_mem _ hg)) (f s).2
    by_cases h : (f s).1 = 0
    · rw [seq_good h, List.length_cons]; omega
    · rw [seq_bad h, List.length_cons]; omega
theorem seq_len (L : List (Dk → Int × Dk)) (hL : ∀ f ∈ L, ∀ s, (f s).2.cur.length = s.cur.length) (s : Dk) : (seqF L s).2.cur.length = s.cur.length := by
  induction L generalizing s with
  | nil => rfl
  | cons f L ih =>
    have h1 := hL f (List.mem_cons_self ..) s
    have h2 := ih (fun g hg => hL g (List.mem_cons_of_mem _ hg)) (f s).2
    by_cases h : (f s).1 = 0
    · rw [seq_good h]; omega
    · rw [seq_bad h]; exact h1
theorem write_len (s : Dk) (a : Int) (b : Bs) : (dWrite s a b).2.cur.length = s.cur.length := by
  unfold dWrite
  split
  · rfl
  · split
    · rename_i hf
      unfold fits at hf
      show (spl (pw s).cur a.toNat b).length = s.cur.length
      have e : (pw s).cur = s.cur := rfl
      rw [spl_len _ _ _ (by rw [e]; omega)]; rfl
    · rfl
theorem sync_len (s : Dk) : (dSync s).2.cur.length = s.cur.length := by
  unfold dSync
  split <;> rfl
theorem wr_len (a : Nat) (b : Bs) (s : Dk) : (wr a b s).2.cur.length = s.cur.length := by
  unfold wr; split
  · rfl
  · exact write_len s a b
def okF (f : Dk → Int × Dk) : Prop := ∀ s, (f s).2.acts ≤ s.acts + 1 ∧ (f s).2.cur.length = s.cur.length
theorem okF_wr (a : Nat) (b : Bs) : okF (wr a b) := fun s => ⟨wr_acts a b s, wr_len a b s⟩
theorem okF_sync : okF dSync := fun s => ⟨acts_sync s, sync_len s⟩
theorem seq_ok (L : List (Dk → Int × Dk)) (hL : ∀ f ∈ L, okF f) (s : Dk) : (seqF L s).2.acts ≤ s.acts + L.length ∧ (seqF L s).2.cur.length = s.cur.length :=
  ⟨seq_acts L (fun f hf s => (hL f hf s).1) s, seq_len L (fun f hf s => (hL f hf s).2) s⟩
theorem hf_len {c d : Bs} (h : c.length = d.length) : hf c = hf d := by unfold hf; rw [h]
theorem Lk.len {s s' : Dk} {l : Lg} (h : Lk s l) (e : s'.cur.length = s.cur.length) : Lk s' l := ⟨by rw [hf_len e]; exact h.big, h.ar, by rw [hf_len e]; exact h.fit, h.sm⟩

/-- What a call of a log makes of disk and log. -/
structure Mk (n : Nat) (s s' : Dk) (l' : Lg) : Prop where
  acts : s'.acts ≤ s.acts + n
  lk : Lk s' l'
theorem append_mk {s : Dk} {l : Lg} (h : Lk s l) (b : Bs) : Mk 7 s (lAppend s l b).2.2 (lAppend s l b).2.1 := by
  unfold lAppend
  by_cases hbig : 16384 < b.length
  · rw [if_pos hbig]; exact ⟨Nat.le_add_right _ _, h⟩
  · rw [if_neg hbig]
    by_cases hful : hf s.cur < usd l.rs + ln b.length
    · rw [if_pos hful]; exact ⟨Nat.le_add_right _ _, h⟩
    · rw [if_neg hful]
      have hok := seq_ok (apSteps (st s.cur l.ar + usd l.rs) l.rs.length b) (fun f hf => by
        simp only [apSteps, List.mem_cons, List.not_mem_nil, or_false] at hf
        rcases hf with rfl | rfl | rfl | rfl
        · exact okF_wr _ _
        · exact okF_sync
        · exact okF_wr _ _
        · exact okF_sync) s
      generalize seqF (apSteps (st s.cur l.ar + usd l.rs) l.rs.length b) s = r at *
      refine ⟨Nat.le_trans hok.1 (by show s.acts + 4 ≤ _; omega), ?_⟩
      show Lk r.2 (if r.1 = 0 then ⟨l.ar, l.rs ++ [b]⟩ else l)
      split
      · have h0 := h.len hok.2
        refine ⟨h0.big, h.ar, ?_, fun x hx => ?_⟩
        · show usd (l.rs ++ [b]) ≤ _
          rw [usd_app, usd_cons, usd_nil, hf_len hok.2]; omega
        · rcases List.mem_append.1 hx with hx | hx
          · exact h.sm x hx
          · have : x = b := by simpa using hx
            subst this; omega
      · exact h.len hok.2
theorem start_mk {s : Dk} {l : Lg} (h : Lk s l) (b : Bs) : Mk 7 s (lStart s l b).2.2 (lStart s l b).2.1 := by
  unfold lStart
  by_cases hbig : 16384 < b.length
  · rw [if_pos hbig]; exact ⟨Nat.le_add_right _ _, h⟩
  · rw [if_neg hbig]
    by_cases hful : hf s.cur < ln b.length
    · rw [if_pos hful]; exact ⟨Nat.le_add_right _ _, h⟩
    · rw [if_neg hful]
      have hok := seq_ok (stSteps s.cur (1 - l.ar) b) (fun f hf => by
        simp only [stSteps, List.mem_cons, List.not_mem_nil, or_false] at hf
        rcases hf with rfl | rfl | rfl | rfl | rfl | rfl | rfl
        · exact okF_wr _ _
        · exact okF_wr _ _
        · exact okF_sync
        · exact okF_wr _ _
        · exact okF_sync
        · exact okF_wr _ _
        · exact okF_sync) s
      generalize seqF (stSteps s.cur (1 - l.ar) b) s = r at *
      refine ⟨Nat.le_trans hok.1 (by show s.acts + 7 ≤ _; omega), ?_⟩
      show Lk r.2 (if r.1 = 0 then ⟨1 - l.ar, [b]⟩ else l)
      split
      · have h0 := h.len hok.2
        refine ⟨h0.big, ?_, ?_, fun x hx => ?_⟩
        · show 1 - l.ar < 2; omega
        · show usd [b] ≤ _
          rw [usd_cons, usd_nil, hf_len hok.2]; omega
        · have : x = b := by simpa using hx
          subst this; omega
      · exact h.len hok.2
theorem signed_lt {b : Bs} {a : Nat} (h : signed b = some a) : a < 2 := by
  unfold signed at h
  split at h
  · injection h with h; omega
  · split at h
    · injection h with h; omega
    · split at h
      · injection h with h; omega
      · cases h
theorem open_acts (s : Dk) : (lOpen s).2.2.acts ≤ s.acts + 7 := by
  unfold lOpen
  split
  · exact Nat.le_add_right _ _
  · split
    · exact Nat.le_add_right _ _
    · split
      · exact Nat.le_add_right _ _
      · split
        · exact Nat.le_add_right _ _
        · rename_i a _ _
          have hok := seq_ok [wr (st s.cur a + usd (scan (con s.cur a) 0)) (zr (hf s.cur - usd (scan (con s.cur a) 0))), dSync] (fun f hf => by
            simp only [List.mem_cons, List.not_mem_nil, or_false] at hf
            rcases hf with rfl | rfl
            · exact okF_wr _ _
            · exact okF_sync) s
          have h2 : (seqF [wr (st s.cur a + usd (scan (con s.cur a) 0)) (zr (hf s.cur - usd (scan (con s.cur a) 0))), dSync] s).2.acts ≤ s.acts + 2 := hok.1
          split
          · show (seqF _ s).2.acts ≤ _; omega
          · show (seqF _ s).2.acts ≤ _; omega
theorem open_lk {s : Dk} {l : Lg} (h : (lOpen s).2.1 = some l) : Lk (lOpen s).2.2 l := by
  unfold lOpen at h ⊢
  split at h
  · cases h
  · rename_i ho
    rw [if_neg ho]
    split at h
    · cases h
    · rename_i hh
      rw [if_neg hh]
      cases hsg : signed (s.cur.take 16) with
      | none => rw [hsg] at h; cases h
      | some a =>
        rw [hsg] at h
        simp only at h ⊢
        have ha := signed_lt hsg
        have hst := st_le s.cur a ha (by omega)
        have hcl := con_len s.cur a hst
        have hfm : hf s.cur % 16 = 0 := by unfold hf; omega
        have hsc := scan_le (con s.cur a) 0 (by rw [hcl]; exact hfm)
        have hlk : Lk s ⟨a, scan (con s.cur a) 0⟩ := ⟨by omega, ha, by rw [← hcl]; exact hsc.1, hsc.2⟩
        have hok := seq_ok [wr (st s.cur a + usd (scan (con s.cur a) 0)) (zr (hf s.cur - usd (scan (con s.cur a) 0))), dSync] (fun f hf => by
            simp only [List.mem_cons, List.not_mem_nil, or_false] at hf
            rcases hf with rfl | rfl
            · exact okF_wr _ _
            · exact okF_sync) s
        split at h
        · rename_i hz
          rw [if_pos hz]
          injection h with h
          subst h
          exact hlk
        · rename_i hz
          rw [if_neg hz]
          split at h
          · rename_i h0
            rw [if_pos h0]
            injection h with h
            subst h
            exact hlk.len hok.2
          · cases h

/-- Both disks, alike. -/
structure Tw (b g m : Nat) (p : At) (s : Dk) (w0 w : World) : Prop where
  d : Dr w0.heap.size b g m s w
  r : Rf w0.heap.size p s w
  fp : Fp Non w0 w
  ap : ∀ k, own3 b g m k → ¬ own4 p k
theorem Tw.keep {b g m : Nat} {p : At} {s : Dk} {w0 w w' : World} (h : Tw b g m p s w0 w) (f : Fp Non w w') : Tw b g m p s w0 w' :=
  ⟨h.d.keep f (fun _ _ h => h), h.r.keep f (fun _ _ h => h), h.fp.then f, h.ap⟩
theorem Tw.mid {b g m : Nat} {p : At} {s : Dk} {w0 w wa : World} (h : Tw b g m p s w0 w) (fa : Fp (own3 b g m) w wa) : Rf w0.heap.size p s wa := h.r.keep fa (fun k hk ho => h.ap k ho hk)
theorem Tw.step {b g m : Nat} {p p' : At} {s s' : Dk} {w0 w wa wb : World} (h : Tw b g m p s w0 w) (hd : Dr w0.heap.size b g m s' wa) (fa : Fp (own3 b g m) w wa) (hr : Rf w0.heap.size p' s' wb) (fb : Fp (own4 p) wa wb)
    (hp : ∀ k, own4 p' k → own4 p k ∨ wa.heap.size ≤ k) : Tw b g m p' s' w0 wb := by
  refine ⟨hd.keep fb (fun k hk ho => h.ap k hk ho), hr, ?_, ?_⟩
  · exact (h.fp.trans fa (fun k hk => .inr (h.d.all k hk).1)).trans fb (fun k hk => .inr (h.r.all k hk).1)
  · intro k hk ho
    rcases hp k ho with h1 | h1
    · exact h.ap k hk h1
    · exact absurd (hd.all k hk).2 (Nat.not_lt.2 h1)

/-- Both logs, alike. -/
structure Lo2 (b g m q1 : Nat) (v1 : Value) (q2 : Nat) (v2 : Value) (D : Nat → Prop) (p : At) (s : Dk) (l : Lg) (w0 w : World) : Prop where
  pr : Lr w0.heap.size q1 b l v1 w
  du : Du w0.heap.size q2 p v2 D s l w
  lk : Lk s l
  ap1 : apart b g m q1 v1
  ap2 : ∀ k, own3 b g m k ∨ ownL q1 v1 k → ¬ ownD q2 p v2 D k
theorem Lo2.keep {b g m q1 q2 : Nat} {v1 v2 : Value} {D : Nat → Prop} {p : At} {s : Dk} {l : Lg} {w0 w w' : World} (h : Lo2 b g m q1 v1 q2 v2 D p s l w0 w) (f : Fp Non w w') : Lo2 b g m q1 v1 q2 v2 D p s l w0 w' :=
  ⟨h.pr.keep f (fun _ _ h => h), h.du.non f, h.lk, h.ap1, h.ap2⟩
/-- .. if there are any. -/
def Lgs (b g m : Nat) (p : At) (s : Dk) (w0 : World) (wv vv : Value) (w : World) : Prop :=
  (wv = .pointer none ∧ vv = .pointer none) ∨ ∃ q1 v1 q2 v2 D l, wv = .pointer (some ⟨q1, 0, none⟩) ∧ vv = .pointer (some ⟨q2, 0, none⟩) ∧ Lo2 b g m q1 v1 q2 v2 D p s l w0 w
theorem Lgs.keep {b g m : Nat} {p : At} {s : Dk} {w0 w w' : World} {wv vv : Value} (h : Lgs b g m p s w0 wv vv w) (f : Fp Non w w') : Lgs b g m p s w0 wv vv w' := by
  rcases h with h | ⟨q1, v1, q2, v2, D, l, e1, e2, h⟩
  · exact .inl h
  · exact .inr ⟨q1, v1, q2, v2, D, l, e1, e2, h.keep f⟩

/-- A fuse. -/
theorem Lgs.fuse {b g m : Nat} {p : At} {s : Dk} {w0 w wa wb : World} {wv vv : Value} (h : Lgs b g m p s w0 wv vv w) (n : Int) (fa : Fp (fun k => k = b) w wa) (hr : Rf w0.heap.size p (dFuse s n) wb) (fb : Fp (fun k => k = p.b) wa wb) : Lgs b g m p (dFuse s n) w0 wv vv wb := by
  rcases h with h | ⟨q1, v1, q2, v2, D, l, e1, e2, h⟩
  · exact .inl h
  · refine .inr ⟨q1, v1, q2, v2, D, l, e1, e2, ?_⟩
    have hb3 : own3 b g m b := .inl rfl
    have pr1 := h.pr.keep fa (fun k hk e => h.ap1 b hb3 (e ▸ hk))
    have du1 := h.du.keep fa (fun k hk e => h.ap2 b (.inl hb3) (e ▸ hk))
    have pr2 := pr1.keep fb (fun k hk e => h.ap2 k (.inr hk) (.inl (.inl e)))
    obtain ⟨du2, _⟩ := du1.disk hr (fb.mono (fun k hk => (.inl hk : own4 p k))) rfl (fun k hk => .inl hk)
    exact ⟨pr2, du2, h.lk.len rfl, h.ap1, h.ap2⟩
/-- Opened. -/
theorem Tw.opened {b g m : Nat} {p : At} {s : Dk} {w0 w wa wb : World} {pv vv : Value} (h : Tw b g m p s w0 w) (hO : OpR w0.heap.size b g m s w pv wa) (hR : rOpR w0.heap.size p s wa vv wb) :
    ∃ p', Tw b g m p' (lOpen s).2.2 w0 wb ∧ Lgs b g m p' (lOpen s).2.2 w0 pv vv wb ∧ p'.b = p.b := by
  have hlow : w0.heap.size ≤ w.heap.size := h.fp.size
  have hal := h.d.all
  have har := h.r.all
  have fs := hO.fp.size
  cases hl : (lOpen s).2.1 with
  | none =>
    obtain ⟨p', h1, h2, h3⟩ := hR.d.ex
    exact ⟨p', h.step hO.d hO.fp h1 hR.d.fp h3, .inl ⟨hO.no hl, hR.no hl⟩, h2⟩
  | some l =>
    obtain ⟨q1, v1, rfl, hp1⟩ := hO.yes l hl
    obtain ⟨q2, p', v2, D, rfl, hdu, hb, hown⟩ := hR.yes l hl
    have hpl : ∀ k, ownL q1 v1 k → w.heap.size ≤ k ∧ k < wa.heap.size := hp1.all
    have hn : ∀ k, own4 p' k → own4 p k ∨ wa.heap.size ≤ k := fun k hk => hown k (.inl hk)
    refine ⟨p', h.step hO.d hO.fp hdu.d hR.d.fp hn, .inr ⟨q1, v1, q2, v2, D, l, rfl, rfl, ?_, hdu, open_lk hl, ?_, ?_⟩, hb⟩
    · exact (hp1.low' hlow).keep hR.d.fp (fun k hk ho => by have h1 := (hpl k hk).1; have h2 := (har k ho).2; omega)
    · intro k hk ho
      have h1 := (hal k hk).2
      have h2 := (hpl k ho).1
      omega
    · rintro k (hk | hk) ho
      · rcases hown k ho with h1 | h1
        · exact h.ap k hk h1
        · have := (hal k hk).2; omega
      · rcases hown k ho with h1 | h1
        · have h2 := (hpl k hk).1; have h3 := (har k h1).2; omega
        · have := (hpl k hk).2; omega
/-- A call of both. -/
theorem Lo2.called {b g m q1 q2 : Nat} {v1 v2 : Value} {D : Nat → Prop} {p : At} {s s' : Dk} {l l' : Lg} {w0 w wa wb : World} (h : Lo2 b g m q1 v1 q2 v2 D p s l w0 w) (t : Tw b g m p s w0 w) (hA : LgR w0.heap.size b g m q1 s' l' v1 w wa) (hR : DuR w0.heap.size q2 p v2 D s' l' wa wb) (hk : Lk s' l') :
    ∃ p' v1' v2' D', Tw b g m p' s' w0 wb ∧ Lo2 b g m q1 v1' q2 v2' D' p' s' l' w0 wb ∧ p'.b = p.b := by
  obtain ⟨v1', hl', hat⟩ := hA.l
  obtain ⟨p', v2', D', hdu, hb, hown⟩ := hR.ex
  have hal := h.pr.all
  have hd3 := t.d.all
  have hall := h.du.all
  have fs := hA.fp.size
  have hla := hl'.all
  have hda := hA.d.all
  have hd' : Dr w0.heap.size b g m s' wb := hA.d.keep hR.fp (fun k hk ho => h.ap2 k (.inl hk) ho)
  have hl3 : ∀ k, ownL q1 v1' k → ¬ ownD q2 p v2 D k := fun k hk ho => by
    have h1 := (hall k ho).2
    refine h.ap2 k (.inr ?_) ho
    rcases hk with rfl | hk
    · exact .inl rfl
    · rcases hat with e | e
      · rw [e] at hk; exact .inr hk
      · have := e k hk; omega
  refine ⟨p', v1', v2', D', ⟨hd', hdu.d, ?_, ?_⟩, ⟨hl'.keep hR.fp (fun k hk ho => hl3 k hk ho), hdu, hk, LgR.apart h.ap1 (fun k hk => (hd3 k hk).2) hat, ?_⟩, hb⟩
  · exact (t.fp.trans hA.fp (fun k hk => .inr (hk.elim (fun h1 => (hd3 k h1).1) (fun h1 => (hal k h1).1)))).trans hR.fp (fun k hk => .inr (hall k hk).1)
  · intro k hk ho
    rcases hown k (.inl ho) with h1 | h1
    · exact h.ap2 k (.inl hk) h1
    · have := (hda k hk).2; omega
  · rintro k (hk | hk) ho
    · rcases hown k ho with h1 | h1
      · exact h.ap2 k (.inl hk) h1
      · have := (hda k hk).2; omega
    · rcases hown k ho with h1 | h1
      · exact hl3 k hk h1
      · have := (hla k hk).2; omega
end Go.Proofs.YtankfmlafmjaeaaGreat
