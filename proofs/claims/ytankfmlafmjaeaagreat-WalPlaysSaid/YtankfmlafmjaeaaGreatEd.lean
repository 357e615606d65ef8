/- The document's Of, Sync and Read. -/
import Derived.Test.YtankfmlafmjaeaaGreatEc
namespace Go.Proofs.YtankfmlafmjaeaaGreat
set_option maxRecDepth 20000
open Go.RowKit Pm

theorem Nw.at_new {w0 w : World} {v : Value} {l : Bs} (h : Nw w0 w v l) (h0 : 0 < l.length) : ∃ g cap, v = .slice (some ⟨g, 0, none⟩) l.length cap ∧ (l.length ≤ cap ∧ cap ≤ maxLen) ∧ w0.heap.size ≤ g ∧ Cl w g (bcs l) := by
  have hc := fun g hg => h.own.cells (g := g) hg
  rcases h.own.2 with ⟨_, hz⟩ | ⟨g, cap, cur, hv, hb, hgg, r1, r2, _⟩
  · omega
  · refine ⟨g, cap, hv, ⟨r1, r2⟩, hb, (Array.getElem?_eq_some_iff.1 hgg).1, fun j hj => ?_, fun j => by simp [World.frozen?, hgg]⟩
    have := hc g (by rw [hv]; rfl) j (bcs l)[j] (List.getElem?_eq_getElem hj)
    simpa [Addr.add_lit] using this
theorem Nw.more {w0 w : World} {v : Value} {l : Bs} (h : Nw w0 w v l) (x : Value) (s : Bs) (ty : TypeId) (hx : Sl w x s) (hn : l.length + s.length ≤ 100000000) :
    ∃ v' w', (Builtin.append_ #[22, 22] ty #[v, x]).run Tryz.prog w = .ok v' w' ∧ Nw w0 w' v' (l ++ s) := by
  obtain ⟨v', w', hr, hA⟩ := app_sl w w0.heap.size v l s ty x h.own hx hn h.fp.size
  exact ⟨v', w', hr, hA.own, h.fp.grown hA.grown (fun k hk => .inr (h.own.lt k hk).1)⟩
theorem Nw.made (w : World) : Nw w (w.alloc (.cells #[] 5)) (.slice (some ⟨w.heap.size, 0, none⟩) 0 0) [] :=
  ⟨World.ownsRow_made w #[] 0 (Nat.le_refl _) (Nat.zero_le _) rfl, (Fp.refl Non w).alloc _⟩
theorem Cl.sl {w : World} {g cap : Nat} {l : Bs} (h : Cl w g (bcs l)) (h1 : l.length ≤ cap) (h2 : cap ≤ maxLen) : Sl w (.slice (some ⟨g, 0, none⟩) l.length cap) l :=
  ⟨_, cap, rfl, h1, h2, .inr ⟨g, 0, rfl, h.lt, fun j hj => by
    have hj' : j < (bcs l).length := by simp [bcs, Lib.byteCells]; exact hj
    rw [Nat.zero_add, h.cell j hj']
    simp [bcs, Lib.byteCells]⟩⟩

theorem Tryz.infoBool : (Tryz.prog.info? 4).map (fun i => (i.zero, i.size, i.bytes)) = some (some (.bool false), 1, 1) := by kernel_rfl
theorem make_bools (w : World) (n : Nat) (hn : n ≤ 4096) : (Instr.makeSlice 38 (.int .i64 (n : Int)) (.int .i64 (n : Int))).run Tryz.prog w = .ok (.slice (some ⟨w.heap.size, 0, none⟩) n n) (w.alloc (.cells (wcs (List.replicate n false)).toArray 4)) := by
  obtain ⟨i, hi, hz, hsz, hby⟩ := info_parts Tryz.infoBool
  have := run_make (P := Tryz.prog) w 38 4 i (.bool false) Tryz.underlying38 hi hz .i64 .i64 (n : Int) (n : Int) (by omega) (Int.le_refl _) (by rw [hby]; omega) (by omega)
  rw [this, hsz, made_same (Value.bool false).cells (.bool false) 1 _ rfl (by omega), show (wcs (List.replicate n false)).toArray = Array.replicate n (.bool false) by simp [wcs]]
  simp
theorem Cl.made (w : World) (vs : List Value) (T : TypeId) : Cl (w.alloc (.cells vs.toArray T)) w.heap.size vs := by
  have h := heap_alloc_new w (.cells vs.toArray T)
  refine ⟨by simp, fun j hj => ?_, fun j => by unfold World.frozen?; rw [h]; simp⟩
  rw [cell_of_row _ _ _ _ _ _ h]
  simp [hj]

/-- New synced bytes, new wet sectors. -/
theorem Rf.renew {lo : Nat} {p : At} {s : Dk} {w w' : World} (h : Rf lo p s w) (s' : Dk) (hrt : Rt s') (hcur : s'.cur = s.cur) (f : Fp (fun k => k = p.b) w w') (o oc t tc : Nat) (hg : w.heap.size ≤ o) (ht : w.heap.size ≤ t) (hne : o ≠ t)
    (ho : s'.old.length ≤ oc ∧ oc ≤ maxLen) (hw : s'.wet.length ≤ tc ∧ tc ≤ maxLen) (hb : w'.heap[p.b]? = some (.cells (rcells { p with o := o, oc := oc, t := t, tc := tc } s') TR (0, 0))) (hold : Cl w' o (bcs s'.old)) (hwet : Cl w' t (wcs s'.wet)) :
    Rf lo { p with o := o, oc := oc, t := t, tc := tc } s' w' ∧ (∀ k, own4 { p with o := o, oc := oc, t := t, tc := tc } k → own4 p k ∨ w.heap.size ≤ k) := by
  have hbl := h.lt
  have hgl := h.cur.lt
  have hlo := h.low
  refine ⟨⟨hrt, ⟨hlo.1, hlo.2.1, by show lo ≤ o; omega, by show lo ≤ t; omega⟩, ⟨⟨h.ne.1.1, by show p.b ≠ o; omega, by show p.b ≠ t; omega⟩, by show p.g ≠ o; omega, by show p.g ≠ t; omega, hne⟩, ⟨by rw [hcur]; exact h.cap.1, ho, hw⟩, hb, ?_, hold, hwet⟩, ?_⟩
  · rw [hcur]; exact h.cur.keep f (fun e => h.ne.1.1 e.symm)
  · rintro k (rfl | rfl | rfl | rfl)
    · exact .inl (.inl rfl)
    · exact .inl (.inr (.inl rfl))
    · exact .inr hg
    · exact .inr ht

/-- The world behind 'Old = append(nothing, B...)' and 'Wet = make(..)'. -/
abbrev rs3 (p : At) (w2 : World) (n g' cap' : Nat) : World := w2.setCell ⟨p.b, 1, none⟩ (.slice (some ⟨g', 0, none⟩) n cap')
abbrev rs4 (p : At) (w2 : World) (n g' cap' m : Nat) : World := (rs3 p w2 n g' cap').alloc (.cells (Array.replicate m (.bool false)) 4)
abbrev rs5 (p : At) (w2 : World) (n g' cap' m : Nat) : World := (rs4 p w2 n g' cap' m).setCell ⟨p.b, 2, none⟩ (.slice (some ⟨w2.heap.size, 0, none⟩) m m)
abbrev rsAt (p : At) (w2 : World) (g' cap' m : Nat) : At := { p with o := g', oc := cap', t := w2.heap.size, tc := m }
theorem rs_make (p : At) (w2 : World) (n g' cap' m : Nat) (hm : m ≤ 4096) : (Instr.makeSlice 38 (.int .i64 (m : Int)) (.int .i64 (m : Int))).run Tryz.prog (rs3 p w2 n g' cap') = .ok (.slice (some ⟨w2.heap.size, 0, none⟩) m m) (rs4 p w2 n g' cap' m) := by
  have := make_bools (rs3 p w2 n g' cap') m hm
  rw [show (wcs (List.replicate m false)).toArray = Array.replicate m (.bool false) by simp [wcs], show (rs3 p w2 n g' cap').heap.size = w2.heap.size by simp [World.setCell]] at this
  exact this
theorem resync {lo : Nat} {p : At} {s : Dk} {w1 w2 : World} (h1 : Rf lo p s w1) (hf : Fp Non w1 w2) (g' cap' : Nat) (hcap : s.cur.length ≤ cap' ∧ cap' ≤ maxLen) (hge : w1.heap.size ≤ g') (hcl : Cl w2 g' (bcs s.cur)) (hrt : Rt { s with old := s.cur, wet := List.replicate s.wet.length false }) :
    Rf lo (rsAt p w2 g' cap' s.wet.length) { s with old := s.cur, wet := List.replicate s.wet.length false } (rs5 p w2 s.cur.length g' cap' s.wet.length) ∧
    Fp (fun k => k = p.b) w1 (rs5 p w2 s.cur.length g' cap' s.wet.length) ∧ (∀ k, own4 (rsAt p w2 g' cap' s.wet.length) k → own4 p k ∨ w1.heap.size ≤ k) := by
  have hbl := h1.lt
  have h2 := h1.keep hf (fun _ _ h => h)
  have hgl := hcl.lt
  have hsz := hf.size
  have hhi := h1.rt.hi
  have hb3 : (rs3 p w2 s.cur.length g' cap').heap[p.b]? = some (.cells ((rcells p s).setIfInBounds 1 (.slice (some ⟨g', 0, none⟩) s.cur.length cap')) TR (0, 0)) := heap_setCell_same w2 p.b 1 _ TR _ h2.blk
  have fa : Fp Non (rs3 p w2 s.cur.length g' cap') (rs4 p w2 s.cur.length g' cap' s.wet.length) := (Fp.refl Non _).alloc _
  have hb4 := fa.heap hb3 (fun h => h)
  have hb5 := heap_setCell_same (rs4 p w2 s.cur.length g' cap' s.wet.length) p.b 2 _ TR (.slice (some ⟨w2.heap.size, 0, none⟩) s.wet.length s.wet.length) hb4
  have f23 := fp_set w2 p.b 1 (.slice (some ⟨g', 0, none⟩) s.cur.length cap')
  have f45 := fp_set (rs4 p w2 s.cur.length g' cap' s.wet.length) p.b 2 (.slice (some ⟨w2.heap.size, 0, none⟩) s.wet.length s.wet.length)
  have f25 : Fp (fun k => k = p.b) w2 (rs5 p w2 s.cur.length g' cap' s.wet.length) := (f23.then fa).same f45
  have f15 : Fp (fun k => k = p.b) w1 (rs5 p w2 s.cur.length g' cap' s.wet.length) := (hf.any).same f25
  have hsz3 : (rs3 p w2 s.cur.length g' cap').heap.size = w2.heap.size := by simp [World.setCell]
  have hm := Cl.made (rs3 p w2 s.cur.length g' cap') (wcs (List.replicate s.wet.length false)) 4
  rw [hsz3, show (wcs (List.replicate s.wet.length false)).toArray = Array.replicate s.wet.length (.bool false) by simp [wcs]] at hm
  have hmx : s.wet.length ≤ maxLen := by unfold maxLen; omega
  have hr := h1.renew { s with old := s.cur, wet := List.replicate s.wet.length false } hrt rfl f15 g' cap' w2.heap.size s.wet.length hge hsz (by omega) hcap (by simp only [List.length_replicate]; exact ⟨Nat.le_refl _, hmx⟩) (by rw [hb5]; simp [rcells]) (hcl.keep f25 (by omega)) (hm.keep f45 (by omega))
  exact ⟨hr.1, f15, hr.2⟩

set_option maxHeartbeats 1000000 in
theorem RSync_down {lo : Nat} {p : At} {s : Dk} {w : World} (h : Rf lo p s w) (ho : (pw s).off = true) :
    Calls Tryz.prog 43 #[.pointer (some ⟨p.b, 0, none⟩)] w fun e w' => e = .returned (.int .i64 31) ∧ Rf lo p (pw s) w' ∧ Fp (own4 p) w w' := by
  have hp := Rpower_c h
  rw [ho] at hp
  have HP := Lib.hid hp; clear hp h
  go_enter Tryz.func43, Tryz.ntmps43
  go_wp2_with fail
  refine HP.out.mono ?_
  rintro e w1 ⟨rfl, h1, hf1⟩
  have H1 := Lib.hid (And.intro h1 (hf1.mono (fun k hk => (.inl hk : own4 p k)))); clear h1 hf1
  go_wp2
  go_ret
  exact ⟨rfl, H1.out.1, H1.out.2⟩

/-- What the disk is behind the two stores. -/
def synced (s : Dk) : Dk := { pw s with old := s.cur, wet := List.replicate s.wet.length false }
theorem synced_rt {s : Dk} (h : Rt s) : Rt (synced s) := h.synced s.cur h.cl s.fuse (Pm.pw s).off h.f1 h.f2

set_option maxHeartbeats 2000000 in
theorem RSync_ok {lo : Nat} {p : At} {s : Dk} {w : World} (h : Rf lo p s w) (hacts : s.acts ≤ 999999) (ho : (pw s).off = false) :
    Calls Tryz.prog 43 #[.pointer (some ⟨p.b, 0, none⟩)] w fun e w' => ∃ p', e = .returned (.int .i64 0) ∧ Rf lo p' (did (synced s)) w' ∧ Fp (own4 p) w w' ∧ p'.b = p.b ∧ (∀ k, own4 p' k → own4 p k ∨ w.heap.size ≤ k) := by
  have hp := Rpower_c h
  rw [ho] at hp
  have hrs := synced_rt h.rt
  have hz : (synced s).fuse ≠ 0 := fun h0 => by
    have h0 : s.fuse = 0 := h0
    have : (pw s).off = true := by unfold pw; simp [h0]
    rw [ho] at this
    cases this
  have HP := Lib.hid (And.intro hp (And.intro hacts (And.intro h.rt.hi (And.intro h.rt.lo (And.intro h.rt.cl (And.intro hrs hz))))))
  clear hp h hacts hrs hz
  go_enter Tryz.func43, Tryz.ntmps43
  go_wp2_with fail
  refine HP.out.1.mono ?_
  rintro e w1 ⟨rfl, h1, hf1⟩
  have c0 : (w1.alloc (.cells #[] 5)).cell? ⟨p.b, 0, none⟩ = some (.slice (some ⟨p.g, 0, none⟩) s.cur.length p.gc) := ((Fp.refl Non w1).alloc _).cell h1.c0 (fun h => h)
  have happ := (Nw.made w1).more _ s.cur 22 ((h1.cur.sl h1.cap.1.1 h1.cap.1.2).keep ((Fp.refl Non w1).alloc _) (fun _ _ h => h)) (by have := HP.out.2.2.1; have := HP.out.2.2.2.2.1; simp; omega)
  rw [List.nil_append] at happ
  have HA := Lib.hid happ
  have H1 := Lib.hid (And.intro h1 hf1); clear h1 hf1 happ
  go_wp2_with (at_builtin; go_must (refine wpList_app rfl _ _ _ _ rfl _ _ rfl rfl _ HA.out ?_))
  intro v2 w2 hN
  obtain ⟨g', cap', rfl, hcap, hge, hcl2⟩ := hN.at_new (by have := HP.out.2.2.2.1; have := HP.out.2.2.2.2.1; omega)
  have h2 := H1.out.1.keep hN.fp (fun _ _ h => h)
  have f1 := h2.fz 1
  have cc1 := h2.c1
  have hrs := resync H1.out.1 hN.fp g' cap' hcap hge hcl2 HP.out.2.2.2.2.2.1
  have cc2 : (rs4 p w2 s.cur.length g' cap' s.wet.length).cell? ⟨p.b, 2, none⟩ = some (.slice (some ⟨p.t, 0, none⟩) s.wet.length p.tc) := by
    have k1 : (rs3 p w2 s.cur.length g' cap').cell? ⟨p.b, 2, none⟩ = some (.slice (some ⟨p.t, 0, none⟩) s.wet.length p.tc) := by
      rw [World.cell?_setCell_other _ _ _ _ (by intro e; injection e with _ e; omega)]; exact h2.c2
    exact ((Fp.refl Non _).alloc _).cell k1 (fun h => h)
  have cc3 : (rs3 p w2 s.cur.length g' cap').cell? ⟨p.b, 2, none⟩ = some (.slice (some ⟨p.t, 0, none⟩) s.wet.length p.tc) := by
    rw [World.cell?_setCell_other _ _ _ _ (by intro e; injection e with _ e; omega)]; exact h2.c2
  have f2 := h2.fz 2
  have f3 : (rs4 p w2 s.cur.length g' cap' s.wet.length).frozen? ⟨p.b, 2, none⟩ = false := by
    have k2 := (setCell_frozen w2 p.b 1 (.slice (some ⟨g', 0, none⟩) s.cur.length cap') p.b 2).trans f2
    have k3 := ((Fp.refl Non (rs3 p w2 s.cur.length g' cap')).alloc (.cells (Array.replicate s.wet.length (.bool false)) 4)).block p.b (by simpa [World.setCell] using h2.lt) (fun h => h)
    exact (frozen_same k3 2).trans k2
  have hdd := Rdid_c hrs.1 HP.out.2.2.2.2.2.2 (show s.acts ≤ 1000000000 from Nat.le_trans HP.out.2.1 (by omega))
  have HD := Lib.hid (And.intro hdd (And.intro (hN.fp.any (S := own4 p)) (And.intro hrs.2.1 hrs.2.2)))
  have hwb : s.wet.length ≤ 4096 := HP.out.2.2.1
  have hmk := rs_make p w2 s.cur.length g' cap' s.wet.length hwb
  clear hrs hdd hcap hge hcl2 hN h2 HA
  go_wp2_with fail
  refine HD.out.1.mono ?_
  rintro e w6 ⟨rfl, h6, hf6⟩
  have hfin : Fp (own4 p) w w6 := by
    have k1 : Fp (own4 p) w w1 := H1.out.2.mono (fun k hk => .inl hk)
    have k2 := k1.same (HD.out.2.2.1.mono (fun k hk => (.inl hk : own4 p k)))
    exact k2.same (hf6.mono (fun k hk => .inl hk))
  have H6 := Lib.hid (And.intro h6 hfin); clear h6 hf6 hfin
  go_wp2
  go_ret
  exact ⟨_, rfl, H6.out.1, H6.out.2, rfl, fun k hk => (HD.out.2.2.2 k hk).imp id (fun h => Nat.le_trans H1.out.2.size h)⟩

theorem RSync_c {lo : Nat} {p : At} {s : Dk} {w : World} (h : Rf lo p s w) (hacts : s.acts ≤ 999999) :
    Calls Tryz.prog 43 #[.pointer (some ⟨p.b, 0, none⟩)] w fun e w' => ∃ p', e = .returned (.int .i64 (dSync s).1) ∧ Rf lo p' (dSync s).2 w' ∧ Fp (own4 p) w w' ∧ p'.b = p.b ∧ (∀ k, own4 p' k → own4 p k ∨ w.heap.size ≤ k) := by
  unfold dSync
  cases ho : (pw s).off with
  | true =>
    rw [if_pos rfl]
    exact (RSync_down h ho).mono fun e w' hh => ⟨p, hh.1, hh.2.1, hh.2.2, rfl, fun k hk => .inl hk⟩
  | false =>
    rw [if_neg Bool.false_ne_true]
    exact RSync_ok h hacts ho
end Go.Proofs.YtankfmlafmjaeaaGreat
