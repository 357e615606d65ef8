/- Open. -/
import Derived.Test.YtankfmlafmjaeaaGreatSt
namespace Go.Proofs.YtankfmlafmjaeaaGreat
set_option maxRecDepth 20000
open Go.RowKit Pm

theorem Os.low {lo lo' : Nat} {w : World} {v : Value} {rs : List Bs} (h : Os lo w v rs) (hl : lo' ≤ lo) : Os lo' w v rs := by
  refine ⟨h.1, ?_⟩
  rcases h.2 with hn | ⟨g, cap, cur, rfl, hb, rest⟩
  · exact .inl hn
  · exact .inr ⟨g, cap, cur, rfl, Nat.le_trans hl hb, rest⟩

/-- In the midst of Open, called at w: all is as it was, the log in new memory. -/
structure OpW (lo b g m q : Nat) (s : Dk) (av : Value) (w : World) (l : Lg) (v : Value) (w' : World) : Prop where
  d : Dr lo b g m s w'
  l : Lr w.heap.size q b l v w'
  fp : Fp Non w w'
  sl : Sl w' av s.cur
  ne : ∀ k, av.ownBlock = some k → k ≠ q ∧ w.heap.size ≤ k
  lt : ∀ k, own3 b g m k → k < w.heap.size
section
variable {lo b g m q : Nat} {s : Dk} {av : Value} {w w1 w2 : World} {l : Lg} {v : Value}
theorem OpW.step (h : OpW lo b g m q s av w l v w1) (f : Fp Non w1 w2) : OpW lo b g m q s av w l v w2 :=
  ⟨h.d.keep f (fun _ _ h => h), h.l.keep f (fun _ _ h => h), h.fp.then f, h.sl.keep f (fun _ _ h => h), h.ne, h.lt⟩
theorem OpW.hq (h : OpW lo b g m q s av w l v w1) : ¬ own3 b g m q := fun ho => by have := h.lt q ho; have := h.l.low; omega
theorem OpW.set (h : OpW lo b g m q s av w l v w1) (j : Nat) (x : Value) (l' : Lg) (v' : Value) (hb : (w1.setCell ⟨q, j, none⟩ x).heap[q]? = some (.cells #[.pointer (some ⟨b, 0, none⟩), .int .i64 (l'.ar : Int), v'] TL (0, 0))) (ho : Os w.heap.size w1 v' l'.rs) (hne : ∀ k, v'.ownBlock = some k → k ≠ q) :
    OpW lo b g m q s av w l' v' (w1.setCell ⟨q, j, none⟩ x) := by
  have fs : Fp (fun k => k = q) w1 (w1.setCell ⟨q, j, none⟩ x) := (Fp.refl (fun k => k = q) w1).setCell (p := ⟨q, j, none⟩) (.inl rfl) x
  exact ⟨h.d.keep fs (fun k hk e => h.hq (e ▸ hk)), ⟨h.l.low, hb, ho.keep fs (fun k hk e => hne k hk e), hne⟩, h.fp.trans fs (fun k hk => .inr (by rw [hk]; exact h.l.low)), h.sl.keep fs (fun k hk e => (h.ne k hk).1 e), h.ne, h.lt⟩
theorem OpW.area (h : OpW lo b g m q s av w l v w1) (a : Nat) : OpW lo b g m q s av w ⟨a, l.rs⟩ v (w1.setCell ⟨q, 1, none⟩ (.int .i64 (a : Int))) :=
  h.set 1 _ ⟨a, l.rs⟩ v (by have := h.l.blk; simp [World.setCell, Array.getElem?_modify, this]) h.l.os h.l.ne
theorem OpW.recs (h : OpW lo b g m q s av w l v w1) (u : Value) (rs : List Bs) (ho : Os w.heap.size w1 u rs) (hne : ∀ k, u.ownBlock = some k → k ≠ q) : OpW lo b g m q s av w ⟨l.ar, rs⟩ u (w1.setCell ⟨q, 2, none⟩ u) :=
  h.set 2 _ ⟨l.ar, rs⟩ u (by have := h.l.blk; simp [World.setCell, Array.getElem?_modify, this]) ho hne
end

/-- What Open answers. -/
structure OpR (lo b g m : Nat) (s : Dk) (w : World) (pv : Value) (w' : World) : Prop where
  d : Dr lo b g m (lOpen s).2.2 w'
  fp : Fp (own3 b g m) w w'
  no : (lOpen s).2.1 = none → pv = .pointer none
  yes : ∀ l, (lOpen s).2.1 = some l → ∃ q v, pv = .pointer (some ⟨q, 0, none⟩) ∧ Lr w.heap.size q b l v w'

/-- The new log, ahead of anything. -/
theorem OpW.new {lo b g m : Nat} {s : Dk} {av : Value} {w w1 : World} (hd : Dr lo b g m s w) (hN : Nw w w1 av s.cur) : OpW lo b g m w1.heap.size s av w ⟨0, []⟩ (.slice none 0 0) (w1.alloc (.cells #[.pointer (some ⟨b, 0, none⟩), .int .i64 0, .slice none 0 0] TL)) := by
  have f : Fp Non w1 (w1.alloc (.cells #[.pointer (some ⟨b, 0, none⟩), .int .i64 0, .slice none 0 0] TL)) := (Fp.refl Non w1).alloc _
  refine ⟨(hd.keep hN.fp (fun _ _ h => h)).keep f (fun _ _ h => h), ⟨hN.fp.size, heap_alloc_new w1 _, Os.nil _ _, fun k hk => by cases hk⟩, hN.fp.then f, hN.sl.keep f (fun _ _ h => h), fun k hk => ?_, fun k hk => (hd.all k hk).2⟩
  have h1 := hN.sl.below k hk
  have h2 := hN.block k hk
  exact ⟨by omega, h2⟩

set_option maxHeartbeats 2000000 in
theorem Open_off {lo b g m : Nat} {s : Dk} {w : World} (hd : Dr lo b g m s w) (ho : s.off = true) :
    Calls Tryz.prog 8 #[.pointer (some ⟨b, 0, none⟩)] w fun e w' => ∃ pv, e = .returned (.tuple #[pv, .int .i64 (lOpen s).1]) ∧ OpR lo b g m s w pv w' := by
  have e : lOpen s = (31, none, s) := by unfold lOpen; rw [if_pos ho]
  have hs := Size_c hd
  have hr := Read_c hd 0 (s.cur.length : Int) (by omega)
  have er : dRead s 0 (s.cur.length : Int) = ([], 31) := by unfold dRead; rw [if_pos ho]
  rw [er] at hr
  have hfin : ∀ w1, Fp Non w w1 → OpR lo b g m s w (.pointer none) w1 := fun w1 f => ⟨by rw [e]; exact hd.keep f (fun _ _ h => h), f.any, fun _ => rfl, fun l h => by rw [e] at h; cases h⟩
  rw [e]
  have HF := Lib.hid hfin
  have HS := Lib.hid hs
  have HR := Lib.hid hr
  clear hfin hs hr hd e er ho
  go_enter Tryz.func8, Tryz.ntmps8
  go_wp2_with fail
  refine HS.out.mono ?_
  rintro e w' ⟨rfl, hw'⟩
  obtain rfl := hw'.symm
  go_wp2_with fail
  refine HR.out.mono ?_
  rintro e w1 ⟨av, rfl, hN⟩
  have HN := Lib.hid hN.fp
  obtain ⟨aao, an, acap, rfl⟩ := hN.shape3
  clear hN
  go_wp2
  go_ret2
  exact ⟨_, rfl, HF.out _ HN.out⟩

theorem read_all {s : Dk} (ho : s.off = false) : dRead s 0 (s.cur.length : Int) = (s.cur, 0) := by
  unfold dRead
  rw [if_neg (by rw [ho]; exact Bool.false_ne_true), if_pos (by unfold fits; omega)]
  simp

set_option maxHeartbeats 2000000 in
theorem Open_small {lo b g m : Nat} {s : Dk} {w : World} (hd : Dr lo b g m s w) (ho : s.off = false) (hh : hf s.cur < 16) :
    Calls Tryz.prog 8 #[.pointer (some ⟨b, 0, none⟩)] w fun e w' => ∃ pv, e = .returned (.tuple #[pv, .int .i64 (lOpen s).1]) ∧ OpR lo b g m s w pv w' := by
  have e : lOpen s = (1, none, s) := by unfold lOpen; rw [if_neg (by rw [ho]; exact Bool.false_ne_true), if_pos hh]
  have hs := Size_c hd
  have hr := Read_c hd 0 (s.cur.length : Int) (by omega)
  rw [read_all ho] at hr
  have hfin : ∀ w1, Fp Non w w1 → OpR lo b g m s w (.pointer none) w1 := fun w1 f => ⟨by rw [e]; exact hd.keep f (fun _ _ h => h), f.any, fun _ => rfl, fun l h => by rw [e] at h; cases h⟩
  rw [e]
  have HD := Lib.hid hd
  have HF := Lib.hid hfin
  have HS := Lib.hid hs
  have HR := Lib.hid hr
  have HH := Lib.hid hh
  clear hfin hs hr hd e ho hh
  go_enter Tryz.func8, Tryz.ntmps8
  go_wp2_with fail
  refine HS.out.mono ?_
  rintro e w' ⟨rfl, hw'⟩
  obtain rfl := hw'.symm
  go_wp2_with fail
  refine HR.out.mono ?_
  rintro e w1 ⟨av, rfl, hN⟩
  have HN := Lib.hid (OpW.new HD.out hN)
  have hz := size_c HN.out.d HN.out.l
  obtain ⟨H, hH⟩ : ∃ H, H = hf s.cur := ⟨_, rfl⟩
  rw [← hH] at hz HH
  have q1 : ((H : Int) < 16) = True := eq_true (by have := HH.out; omega)
  have HZ := Lib.hid hz
  have HX := Lib.hid hH
  obtain ⟨aao, an, acap, rfl⟩ := hN.shape3
  clear hN hz hH
  go_wp2_with fail
  refine HZ.out.mono ?_
  rintro e w2 ⟨rfl, rfl⟩
  go_wp2
  go_ret2
  exact ⟨_, rfl, HF.out _ HN.out.fp⟩

set_option maxHeartbeats 2000000 in
theorem Open_corrupt {lo b g m : Nat} {s : Dk} {w : World} (hd : Dr lo b g m s w) (ho : s.off = false) (hh : ¬ hf s.cur < 16) (hsg : signed (s.cur.take 16) = none) :
    Calls Tryz.prog 8 #[.pointer (some ⟨b, 0, none⟩)] w fun e w' => ∃ pv, e = .returned (.tuple #[pv, .int .i64 (lOpen s).1]) ∧ OpR lo b g m s w pv w' := by
  have e : lOpen s = (3, none, s) := by unfold lOpen; rw [if_neg (by rw [ho]; exact Bool.false_ne_true), if_neg hh, hsg]
  have hs := Size_c hd
  have hr := Read_c hd 0 (s.cur.length : Int) (by omega)
  rw [read_all ho] at hr
  have hfin : ∀ w1, Fp Non w w1 → OpR lo b g m s w (.pointer none) w1 := fun w1 f => ⟨by rw [e]; exact hd.keep f (fun _ _ h => h), f.any, fun _ => rfl, fun l h => by rw [e] at h; cases h⟩
  rw [e]
  have HD := Lib.hid hd
  have HF := Lib.hid hfin
  have HS := Lib.hid hs
  have HR := Lib.hid hr
  have HH := Lib.hid (And.intro hh hsg)
  clear hfin hs hr hd e ho hh hsg
  go_enter Tryz.func8, Tryz.ntmps8
  go_wp2_with fail
  refine HS.out.mono ?_
  rintro e w' ⟨rfl, hw'⟩
  obtain rfl := hw'.symm
  go_wp2_with fail
  refine HR.out.mono ?_
  rintro e w1 ⟨av, rfl, hN⟩
  have hN2 := OpW.new HD.out hN
  have hz := size_c hN2.d hN2.l
  have hle := hf_le s.cur
  obtain ⟨ag, aof, acap, rfl, h1, h2, h3⟩ := hN.sl.at (by have := HH.out.1; omega)
  have h16 := (hN2.sl.upto 16 (by have := HH.out.1; omega))
  have hsc := signed_c _ _ _ h16 (by simp; have := HH.out.1; omega)
  rw [HH.out.2] at hsc
  unfold sgv at hsc
  have q1 : ((hf s.cur : Int) < 16) = False := eq_false (by have := HH.out.1; omega)
  have q2 : ((16 : Int) ≤ (acap : Int)) = True := eq_true (by have := HH.out.1; omega)
  have q3 : (16 ≤ acap) = True := eq_true (by have := HH.out.1; omega)
  obtain ⟨H, hH⟩ : ∃ H, H = hf s.cur := ⟨_, rfl⟩
  rw [← hH] at hz q1
  have HN := Lib.hid hN2
  have HZ := Lib.hid hz
  have HSC := Lib.hid hsc
  have HX := Lib.hid (And.intro hH hle)
  clear hN hN2 hz hH h1 h2 h3 h16 hsc hle
  go_wp2_with fail
  refine HZ.out.mono ?_
  rintro e w2 ⟨rfl, rfl⟩
  go_wp2_with fail
  refine HSC.out.mono ?_
  rintro e w3 ⟨rfl, hf3⟩
  have HF3 := Lib.hid hf3
  clear hf3
  go_wp2
  go_ret2
  exact ⟨_, rfl, HF.out _ (HN.out.fp.then HF3.out)⟩

set_option maxHeartbeats 16000000 in
theorem Open_clean {lo b g m : Nat} {s : Dk} {w : World} (hd : Dr lo b g m s w) (ho : s.off = false) (hh : ¬ hf s.cur < 16) (a : Nat) (hsg : signed (s.cur.take 16) = some a) (hz : isZ ((con s.cur a).drop (usd (scan (con s.cur a) 0))) = true) (hac : s.acts ≤ 990000) :
    Calls Tryz.prog 8 #[.pointer (some ⟨b, 0, none⟩)] w fun e w' => ∃ pv, e = .returned (.tuple #[pv, .int .i64 (lOpen s).1]) ∧ OpR lo b g m s w pv w' := by
  have e : lOpen s = (0, some ⟨a, scan (con s.cur a) 0⟩, s) := by
    unfold lOpen; rw [if_neg (by rw [ho]; exact Bool.false_ne_true), if_neg hh, hsg]; simp only; rw [hz, if_pos rfl]
  have hfin : ∀ q v w1, Dr lo b g m s w1 → Fp (own3 b g m) w w1 → Lr w.heap.size q b ⟨a, scan (con s.cur a) 0⟩ v w1 → OpR lo b g m s w (.pointer (some ⟨q, 0, none⟩)) w1 := fun q v w1 h1 h2 h3 =>
    ⟨by rw [e]; exact h1, h2, fun h => (by rw [e] at h; cases h), fun l h => (by rw [e] at h; injection h with h; subst h; exact ⟨q, v, rfl, h3⟩)⟩
  rw [e]
  dsimp only
  have hs := Size_c hd
  have hr0 := Read_c hd 0 (s.cur.length : Int) (by omega)
  rw [read_all ho] at hr0
  have ha2 := signed_lt hsg
  have hst := st_le s.cur a ha2 (by omega)
  have hcon := con_len s.cur a ha2 (by omega)
  have hscan := scan_le (con s.cur a) 0 (by rw [hcon]; exact hf_mod _)
  have hcur := hd.rt.curlen
  have hsg2 := st_ge s.cur a
  have HD := Lib.hid hd
  have HF := Lib.hid hfin
  have HS := Lib.hid hs
  have HR := Lib.hid hr0
  have HH := Lib.hid (And.intro hh hsg)
  have HZZ := Lib.hid hz
  have HC := Lib.hid (And.intro hcon hscan)
  have HAC := Lib.hid hac
  have hcone : con s.cur a = (s.cur.drop (st s.cur a)).take (hf s.cur) := rfl
  have hsize : ∀ (lo' q : Nat) (l : Lg) (v : Value) (w : World), Dr lo b g m s w → Lr lo' q b l v w → Calls Tryz.prog 28 #[.pointer (some ⟨q, 0, none⟩)] w fun e w' => e = .returned (.int .i64 (hf s.cur : Int)) ∧ w' = w := fun lo' q l v w hd hl => size_c hd hl
  have hstart : ∀ (lo' q : Nat) (l : Lg) (v : Value) (w : World), Dr lo b g m s w → Lr lo' q b l v w → Calls Tryz.prog 30 #[.pointer (some ⟨q, 0, none⟩), .int .i64 (a : Int)] w fun e w' => e = .returned (.int .i64 (st s.cur a : Int)) ∧ w' = w := fun lo' q l v w hd hl => start_c hd hl a ha2
  have hend : ∀ (lo' q : Nat) (v : Value) (w : World), Dr lo b g m s w → Lr lo' q b ⟨a, scan (con s.cur a) 0⟩ v w → Calls Tryz.prog 36 #[.pointer (some ⟨q, 0, none⟩)] w fun e w' => e = .returned (.int .i64 ((st s.cur a + usd (scan (con s.cur a) 0) : Nat) : Int)) ∧ w' = w := fun lo' q v w hd hl => end_c hd hl ⟨by omega, ha2, by show usd (scan (con s.cur a) 0) ≤ _; rw [← hcon]; exact hscan.1, hscan.2⟩
  have hus : usd (scan (con s.cur a) 0) ≤ hf s.cur := by rw [← hcon]; exact hscan.1
  have hb1 : hf s.cur ≤ 65536 := by have := hf_le s.cur; omega
  have hmodH := hf_mod s.cur
  obtain ⟨c, hc⟩ : ∃ c, c = con s.cur a := ⟨_, rfl⟩
  obtain ⟨rs, hrs⟩ : ∃ rs, rs = scan c 0 := ⟨_, rfl⟩
  obtain ⟨H, hH⟩ : ∃ H, H = hf s.cur := ⟨_, rfl⟩
  obtain ⟨A, hA⟩ : ∃ A, A = st s.cur a := ⟨_, rfl⟩
  obtain ⟨U, hU⟩ : ∃ U, U = usd rs := ⟨_, rfl⟩
  rw [← hc, ← hrs] at HF HC HZZ hend hus
  rw [← hU] at HZZ hus hend
  rw [← hU] at HC
  rw [← hH] at HH hst hsize hus hb1 hcone HC hmodH
  rw [← hA] at hst hstart hend hsg2 hcone
  rw [← hc] at hcone
  have HSZ := Lib.hid hsize
  have HST := Lib.hid hstart
  have HEN := Lib.hid hend
  have HCE := Lib.hid hcone
  have HG := Lib.hid (And.intro hc (And.intro hrs (And.intro hH (And.intro hA (And.intro hU (And.intro hcur hmodH))))))
  skip
  obtain ⟨n, hn⟩ : ∃ n, n = s.cur.length := ⟨_, rfl⟩
  rw [← hn] at hst HR HS
  have hnb : n ≤ 65536 := by omega
  have HN0 := Lib.hid hn
  have q1 : ((H : Int) < 16) = False := eq_false (by have := HH.out.1; omega)
  have p1 : ((A : Int) ≤ (n : Int)) = True := eq_true (by omega)
  have p2 : (A ≤ n) = True := eq_true (by omega)
  have p3 : ((U : Int) ≤ (H : Int)) = True := eq_true (by omega)
  have p4 : (U ≤ H) = True := eq_true (by omega)
  have hbounds : A + H ≤ n ∧ 16 ≤ A ∧ U ≤ H ∧ 16 ≤ H := ⟨hst, hsg2, hus, by have := HH.out.1; omega⟩
  have HBD := Lib.hid hbounds
  have hab : a ≤ 1 := by omega
  have hAb : A ≤ 65536 := by omega
  have hUb : U ≤ 65536 := by omega
  clear hfin hs hr0 hd e ho hh hsg hz hst hcon hscan hcur hsg2 hcone hsize hstart hend hus hmodH hc hrs hH hA hU hn hbounds ha2 hac
  go_enter Tryz.func8, Tryz.ntmps8
  go_wp2_with fail
  refine HS.out.mono ?_
  rintro e w' ⟨rfl, hw'⟩
  obtain rfl := hw'.symm
  clear hw'
  go_wp2_with fail
  refine HR.out.mono ?_
  rintro e w1 ⟨av, rfl, hN⟩
  have hlen := HN0.out
  have hN2 := OpW.new HD.out hN
  obtain ⟨ag, aof, acap, rfl, h1, h2, h3⟩ := hN.sl.at (by have := HBD.out; omega)
  rw [← hlen] at h1
  rw [← hlen] at hN hN2 ⊢
  have h16 := (hN2.sl.upto 16 (by have := HBD.out; omega))
  have hsc := signed_c _ _ _ h16 (by simp; have := HBD.out; omega)
  rw [HH.out.2] at hsc
  unfold sgv at hsc
  simp only [Option.getD_some, Option.isSome_some] at hsc
  have q2 : ((16 : Int) ≤ (acap : Int)) = True := eq_true (by have := HBD.out; omega)
  have q3 : (16 ≤ acap) = True := eq_true (by have := HBD.out; omega)
  have hcap : acap ≤ 9223372036854775807 := by unfold maxLen at h2; omega
  have HN := Lib.hid hN2
  have HZ := Lib.hid (HSZ.out _ _ _ _ _ hN2.d hN2.l)
  have HSC := Lib.hid hsc
  have HLN := Lib.hid hlen
  have p5 : ((H : Int) ≤ ((acap - A : Nat) : Int)) = True := eq_true (by have := HBD.out; omega)
  have p6 : (H ≤ acap - A) = True := eq_true (by have := HBD.out; omega)
  have HCP := Lib.hid (And.intro h1 hcap)
  clear hN hN2 h1 h2 h3 h16 hsc hlen
  go_wp2_with fail
  refine HZ.out.mono ?_
  rintro e w2 ⟨rfl, rfl⟩
  go_wp2_with fail
  refine HSC.out.mono ?_
  rintro e w3 ⟨rfl, hf3⟩
  have h3 := HN.out.step hf3
  have c1 := h3.l.c1
  have f1 := h3.l.fz 1
  have hA4 := h3.area a
  have H4 := Lib.hid hA4
  clear h3 hf3 hA4
  go_wp2_with fail
  obtain ⟨W4, hW4⟩ : ∃ W4, W4 = w3.setCell ⟨w1.heap.size, 1, none⟩ (.int .i64 (a : Int)) := ⟨_, rfl⟩
  rw [← hW4] at H4 ⊢
  clear hW4 c1 f1
  have hd4 : ∀ N, OpW lo b g m w1.heap.size s (.slice (some ⟨ag, aof, none⟩) n acap) w ⟨a, []⟩ (.slice none 0 0) (W4.drewN N) := fun N => H4.out.step ((Fp.refl Non W4).drewN N)
  have hst4 := fun N => HST.out _ _ _ _ _ (hd4 N).d (hd4 N).l
  have hsz4 := fun N => HSZ.out _ _ _ _ _ (hd4 N).d (hd4 N).l
  obtain ⟨tb, to, htp, htl⟩ := H4.out.sl.tail A (by rw [← HN0.out]; have := HBD.out; omega)
  have hcs : Sl W4 (.slice (some ⟨tb, to, none⟩) H (acap - A)) c := by
    rw [HCE.out]; exact htl.upto H (by rw [List.length_drop, ← HN0.out]; have := HBD.out; omega)
  have htb : tb = ag := by
    have h := htp
    split at h <;> (injection h with h; injection h with h1 _; exact h1.symm)
  have hcne : ∀ k, (Value.slice (some ⟨tb, to, none⟩) H (acap - A)).ownBlock = some k → k ≠ w1.heap.size := fun k hk => by
    rw [htb] at hk
    exact (H4.out.ne k hk).1
  have HNE := Lib.hid hcne
  clear htb hcne
  have HD4 := Lib.hid hd4
  have HS4 := Lib.hid hst4
  have HZ4 := Lib.hid hsz4
  have HCS := Lib.hid hcs
  clear hd4 hst4 hsz4 hcs htl
  go_quiet (first
    | (go_at_call 30; refine (HS4.out _).mono ?_; rintro e w' ⟨rfl, rfl⟩; exact ⟨rfl, _, rfl⟩)
    | (go_at_call 28; refine (HZ4.out _).mono ?_; rintro e w' ⟨rfl, rfl⟩; exact ⟨rfl, _, rfl⟩))
  go_wp2_with fail
  refine (scan_c _ c _ (HCS.out.keep ((Fp.refl Non W4).drewN _) (fun _ _ h => h)) (by rw [HC.out.1]; omega) (by rw [HC.out.1]; exact HG.out.2.2.2.2.2.2)).mono ?_
  rintro e w6 ⟨u, rfl, hf6, hos6⟩
  have h6 := (HD4.out _).step hf6
  have hu : Os w.heap.size w6 u rs := by rw [HG.out.2.1]; exact hos6.low (HD4.out _).fp.size
  have hune : ∀ k, u.ownBlock = some k → k ≠ w1.heap.size := fun k hk e => by
    have h1 := (hos6.block k hk).1
    have h2 := (HD4.out 0).l.lt
    rw [e] at h1
    exact absurd h2 (Nat.not_lt.2 h1)
  have h7 := h6.recs u rs hu hune
  have c2 := h6.l.c2
  have f2 := h6.l.fz 2
  have hcs6 := (HCS.out.keep ((Fp.refl Non W4).drewN _) (fun _ _ h => h)).keep hf6 (fun _ _ h => h)
  obtain ⟨uao, ucap, rfl⟩ := hu.shape
  have hfs : Fp (fun k => k = w1.heap.size) w6 (w6.setCell ⟨w1.heap.size, 2, none⟩ (.slice uao rs.length ucap)) := (Fp.refl (fun k => k = w1.heap.size) w6).setCell (p := ⟨w1.heap.size, 2, none⟩) (.inl rfl) _
  have hcs7 := hcs6.keep hfs (fun k hk e => HNE.out k hk e)
  have H7 := Lib.hid h7
  have HC7 := Lib.hid hcs7
  clear hf6 hos6 h6 hu hune h7 hcs6 hfs hcs7
  go_wp2_with fail
  obtain ⟨W7, hW7⟩ : ∃ W7, W7 = w6.setCell ⟨w1.heap.size, 2, none⟩ (.slice uao rs.length ucap) := ⟨_, rfl⟩
  rw [← hW7] at H7 HC7 ⊢
  clear hW7 c2 f2
  have hu7 := used_c H7.out.l (by show usd rs ≤ _; rw [← HG.out.2.2.2.2.1]; omega)
  have hue : usd (⟨a, rs⟩ : Lg).rs = U := HG.out.2.2.2.2.1.symm
  rw [hue] at hu7
  obtain ⟨tb2, to2, htp2, htl2⟩ := HC7.out.tail U (by rw [HC.out.1]; exact HBD.out.2.2.1)
  have hbl := blank_c _ _ _ htl2
  rw [HZZ.out] at hbl
  have HU7 := Lib.hid hu7
  have HBL := Lib.hid hbl
  have HT2 := Lib.hid htl2
  clear hu7 hue hbl htl2
  go_wp2_with fail
  refine HU7.out.mono ?_
  rintro e w' ⟨rfl, hw'⟩
  obtain rfl := hw'.symm
  clear hw'
  go_wp2_with fail
  refine HBL.out.mono ?_
  rintro e w8 ⟨rfl, hf8⟩
  have H8 := Lib.hid (H7.out.step hf8)
  have HF8 := Lib.hid hf8
  clear hf8
  go_wp2
  go_ret2
  exact ⟨_, rfl, HF.out _ _ _ H8.out.d H8.out.fp.any H8.out.l⟩
end Go.Proofs.YtankfmlafmjaeaaGreat
