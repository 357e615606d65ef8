/- Open, where something lies behind the records. -/
import Derived.Test.YtankfmlafmjaeaaGreatOp
namespace Go.Proofs.YtankfmlafmjaeaaGreat
set_option maxRecDepth 20000
open Go.RowKit Pm

theorem two_c {lo b g m : Nat} {s : Dk} {w : World} (hd : Dr lo b g m s w) (f0 f1 : Value) (gs : Nat) (F0 F1 : Dk → Int × Dk)
    (hh : w.heap[gs]? = some (.cells #[f0, f1] 73 (0, 0))) (hgs : ¬ own3 b g m gs) (ha : s.acts ≤ 990000) (h0 : Step b g m w f0 F0) (h1 : Step b g m w f1 F1) :
    Calls Tryz.prog 34 #[.slice (some ⟨gs, 0, none⟩) 2 2] w fun e w' => e = .returned (.int .i64 (seqF [F0, F1] s).1) ∧ Dr lo b g m (seqF [F0, F1] s).2 w' ∧ Fp (own3 b g m) w w' := by
  have hcell : ∀ k (h : k < [f0, f1].length), w.cell? ⟨gs, k, none⟩ = some [f0, f1][k] := fun k hk => by
    have hk2 : k < 2 := hk
    rw [cell_of_row _ _ _ _ _ _ hh]
    simp
  refine perform_c hd gs [f0, f1] [F0, F1] rfl (by show (2 : Nat) ≤ 100; omega) ha hgs hcell (fun k hk => ?_)
  have hk2 : k < 2 := hk
  rcases (show k = 0 ∨ k = 1 by omega) with rfl | rfl
  · exact h0
  · exact h1

set_option maxHeartbeats 16000000 in
theorem Open_dirty {lo b g m : Nat} {s : Dk} {w : World} (hd : Dr lo b g m s w) (ho : s.off = false) (hh : ¬ hf s.cur < 16) (a : Nat) (hsg : signed (s.cur.take 16) = some a) (hz : isZ ((con s.cur a).drop (usd (scan (con s.cur a) 0))) = false) (hac : s.acts ≤ 990000) :
    Calls Tryz.prog 8 #[.pointer (some ⟨b, 0, none⟩)] w fun e w' => ∃ pv, e = .returned (.tuple #[pv, .int .i64 (lOpen s).1]) ∧ OpR lo b g m s w pv w' := by
  obtain ⟨r, hr⟩ : ∃ r, r = seqF [wr (st s.cur a + usd (scan (con s.cur a) 0)) (zr (hf s.cur - usd (scan (con s.cur a) 0))), dSync] s := ⟨_, rfl⟩
  have e : lOpen s = if r.1 = 0 then (0, some ⟨a, scan (con s.cur a) 0⟩, r.2) else (r.1, none, r.2) := by
    unfold lOpen; rw [if_neg (by rw [ho]; exact Bool.false_ne_true), if_neg hh, hsg]; simp only; rw [hz, if_neg Bool.false_ne_true, ← hr]
  have e1 : (lOpen s).1 = r.1 := by rw [e]; split <;> simp_all
  have hfin : ∀ q v w1, Dr lo b g m r.2 w1 → Fp (own3 b g m) w w1 → Lr w.heap.size q b ⟨a, scan (con s.cur a) 0⟩ v w1 → (r.1 = 0 → OpR lo b g m s w (.pointer (some ⟨q, 0, none⟩)) w1) ∧ (r.1 ≠ 0 → OpR lo b g m s w (.pointer none) w1) := fun q v w1 h1 h2 h3 => by
    constructor
    · intro h0
      rw [if_pos h0] at e
      exact ⟨by rw [e]; exact h1, h2, fun h => (by rw [e] at h; cases h), fun l h => (by rw [e] at h; injection h with h; subst h; exact ⟨q, v, rfl, h3⟩)⟩
    · intro h0
      rw [if_neg h0] at e
      exact ⟨by rw [e]; exact h1, h2, fun _ => rfl, fun l h => by rw [e] at h; cases h⟩
  rw [e1]
  clear e1
  have hs := Size_c hd
  have hr0 := Read_c hd 0 (s.cur.length : Int) (by omega)
  rw [read_all ho] at hr0
  have ha2 := signed_lt hsg
  have hst := st_le s.cur a ha2 (by omega)
  have hcon := con_len s.cur a ha2 (by omega)
  have hscan := scan_le (con s.cur a) 0 (by rw [hcon]; exact hf_mod _)
  have hcur := hd.rt.curlen
  have hsg2 := st_ge s.cur a
  have HD := Lib.hid hd
  have HF := Lib.hid hfin
  have HS := Lib.hid hs
  have HR := Lib.hid hr0
  have HH := Lib.hid (And.intro hh hsg)
  have HZZ := Lib.hid hz
  have HC := Lib.hid (And.intro hcon hscan)
  have HAC := Lib.hid hac
  have hcone : con s.cur a = (s.cur.drop (st s.cur a)).take (hf s.cur) := rfl
  have hsize : ∀ (lo' q : Nat) (l : Lg) (v : Value) (w : World), Dr lo b g m s w → Lr lo' q b l v w → Calls Tryz.prog 28 #[.pointer (some ⟨q, 0, none⟩)] w fun e w' => e = .returned (.int .i64 (hf s.cur : Int)) ∧ w' = w := fun lo' q l v w hd hl => size_c hd hl
  have hstart : ∀ (lo' q : Nat) (l : Lg) (v : Value) (w : World), Dr lo b g m s w → Lr lo' q b l v w → Calls Tryz.prog 30 #[.pointer (some ⟨q, 0, none⟩), .int .i64 (a : Int)] w fun e w' => e = .returned (.int .i64 (st s.cur a : Int)) ∧ w' = w := fun lo' q l v w hd hl => start_c hd hl a ha2
  have hend : ∀ (lo' q : Nat) (v : Value) (w : World), Dr lo b g m s w → Lr lo' q b ⟨a, scan (con s.cur a) 0⟩ v w → Calls Tryz.prog 36 #[.pointer (some ⟨q, 0, none⟩)] w fun e w' => e = .returned (.int .i64 ((st s.cur a + usd (scan (con s.cur a) 0) : Nat) : Int)) ∧ w' = w := fun lo' q v w hd hl => end_c hd hl ⟨by omega, ha2, by show usd (scan (con s.cur a) 0) ≤ _; rw [← hcon]; exact hscan.1, hscan.2⟩
  have hus : usd (scan (con s.cur a) 0) ≤ hf s.cur := by rw [← hcon]; exact hscan.1
  have hb1 : hf s.cur ≤ 65536 := by have := hf_le s.cur; omega
  have hmodH := hf_mod s.cur
  obtain ⟨c, hc⟩ : ∃ c, c = con s.cur a := ⟨_, rfl⟩
  obtain ⟨rs, hrs⟩ : ∃ rs, rs = scan c 0 := ⟨_, rfl⟩
  obtain ⟨H, hH⟩ : ∃ H, H = hf s.cur := ⟨_, rfl⟩
  obtain ⟨A, hA⟩ : ∃ A, A = st s.cur a := ⟨_, rfl⟩
  obtain ⟨U, hU⟩ : ∃ U, U = usd rs := ⟨_, rfl⟩
  rw [← hc, ← hrs] at HF HC HZZ hend hus
  rw [← hU] at HZZ hus hend
  rw [← hU] at HC
  rw [← hH] at HH hst hsize hus hb1 hcone HC hmodH
  rw [← hA] at hst hstart hend hsg2 hcone
  rw [← hc] at hcone
  have HSZ := Lib.hid hsize
  have HST := Lib.hid hstart
  have HEN := Lib.hid hend
  have HCE := Lib.hid hcone
  have HG := Lib.hid (And.intro hc (And.intro hrs (And.intro hH (And.intro hA (And.intro hU (And.intro hcur hmodH))))))
  have HRQ := Lib.hid hr
  obtain ⟨n, hn⟩ : ∃ n, n = s.cur.length := ⟨_, rfl⟩
  rw [← hn] at hst HR HS
  have hnb : n ≤ 65536 := by omega
  have HN0 := Lib.hid hn
  have q1 : ((H : Int) < 16) = False := eq_false (by have := HH.out.1; omega)
  have p1 : ((A : Int) ≤ (n : Int)) = True := eq_true (by omega)
  have p2 : (A ≤ n) = True := eq_true (by omega)
  have p3 : ((U : Int) ≤ (H : Int)) = True := eq_true (by omega)
  have p4 : (U ≤ H) = True := eq_true (by omega)
  have hbounds : A + H ≤ n ∧ 16 ≤ A ∧ U ≤ H ∧ 16 ≤ H := ⟨hst, hsg2, hus, by have := HH.out.1; omega⟩
  have HBD := Lib.hid hbounds
  have hab : a ≤ 1 := by omega
  have hAb : A ≤ 65536 := by omega
  have hUb : U ≤ 65536 := by omega
  clear hr hfin hs hr0 hd e ho hh hsg hz hst hcon hscan hcur hsg2 hcone hsize hstart hend hus hmodH hc hrs hH hA hU hn hbounds ha2 hac
  go_enter Tryz.func8, Tryz.ntmps8
  go_wp2_with fail
  refine HS.out.mono ?_
  rintro e w' ⟨rfl, hw'⟩
  obtain rfl := hw'.symm
  clear hw'
  go_wp2_with fail
  refine HR.out.mono ?_
  rintro e w1 ⟨av, rfl, hN⟩
  have hlen := HN0.out
  have hN2 := OpW.new HD.out hN
  obtain ⟨ag, aof, acap, rfl, h1, h2, h3⟩ := hN.sl.at (by have := HBD.out; omega)
  rw [← hlen] at h1
  rw [← hlen] at hN hN2 ⊢
  have h16 := (hN2.sl.upto 16 (by have := HBD.out; omega))
  have hsc := signed_c _ _ _ h16 (by simp; have := HBD.out; omega)
  rw [HH.out.2] at hsc
  unfold sgv at hsc
  simp only [Option.getD_some, Option.isSome_some] at hsc
  have q2 : ((16 : Int) ≤ (acap : Int)) = True := eq_true (by have := HBD.out; omega)
  have q3 : (16 ≤ acap) = True := eq_true (by have := HBD.out; omega)
  have hcap : acap ≤ 9223372036854775807 := by unfold maxLen at h2; omega
  have HN := Lib.hid hN2
  have HZ := Lib.hid (HSZ.out _ _ _ _ _ hN2.d hN2.l)
  have HSC := Lib.hid hsc
  have HLN := Lib.hid hlen
  have p5 : ((H : Int) ≤ ((acap - A : Nat) : Int)) = True := eq_true (by have := HBD.out; omega)
  have p6 : (H ≤ acap - A) = True := eq_true (by have := HBD.out; omega)
  have HCP := Lib.hid (And.intro h1 hcap)
  clear hN hN2 h1 h2 h3 h16 hsc hlen
  go_wp2_with fail
  refine HZ.out.mono ?_
  rintro e w2 ⟨rfl, rfl⟩
  go_wp2_with fail
  refine HSC.out.mono ?_
  rintro e w3 ⟨rfl, hf3⟩
  have h3 := HN.out.step hf3
  have c1 := h3.l.c1
  have f1 := h3.l.fz 1
  have hA4 := h3.area a
  have H4 := Lib.hid hA4
  clear h3 hf3 hA4
  go_wp2_with fail
  obtain ⟨W4, hW4⟩ : ∃ W4, W4 = w3.setCell ⟨w1.heap.size, 1, none⟩ (.int .i64 (a : Int)) := ⟨_, rfl⟩
  rw [← hW4] at H4 ⊢
  clear hW4 c1 f1
  have hd4 : ∀ N, OpW lo b g m w1.heap.size s (.slice (some ⟨ag, aof, none⟩) n acap) w ⟨a, []⟩ (.slice none 0 0) (W4.drewN N) := fun N => H4.out.step ((Fp.refl Non W4).drewN N)
  have hst4 := fun N => HST.out _ _ _ _ _ (hd4 N).d (hd4 N).l
  have hsz4 := fun N => HSZ.out _ _ _ _ _ (hd4 N).d (hd4 N).l
  obtain ⟨tb, to, htp, htl⟩ := H4.out.sl.tail A (by rw [← HN0.out]; have := HBD.out; omega)
  have hcs : Sl W4 (.slice (some ⟨tb, to, none⟩) H (acap - A)) c := by
    rw [HCE.out]; exact htl.upto H (by rw [List.length_drop, ← HN0.out]; have := HBD.out; omega)
  have htb : tb = ag := by
    have h := htp
    split at h <;> (injection h with h; injection h with h1 _; exact h1.symm)
  have hcne : ∀ k, (Value.slice (some ⟨tb, to, none⟩) H (acap - A)).ownBlock = some k → k ≠ w1.heap.size := fun k hk => by
    rw [htb] at hk
    exact (H4.out.ne k hk).1
  have HNE := Lib.hid hcne
  clear htb hcne
  have HD4 := Lib.hid hd4
  have HS4 := Lib.hid hst4
  have HZ4 := Lib.hid hsz4
  have HCS := Lib.hid hcs
  clear hd4 hst4 hsz4 hcs htl
  go_quiet (first
    | (go_at_call 30; refine (HS4.out _).mono ?_; rintro e w' ⟨rfl, rfl⟩; exact ⟨rfl, _, rfl⟩)
    | (go_at_call 28; refine (HZ4.out _).mono ?_; rintro e w' ⟨rfl, rfl⟩; exact ⟨rfl, _, rfl⟩))
  go_wp2_with fail
  refine (scan_c _ c _ (HCS.out.keep ((Fp.refl Non W4).drewN _) (fun _ _ h => h)) (by rw [HC.out.1]; omega) (by rw [HC.out.1]; exact HG.out.2.2.2.2.2.2)).mono ?_
  rintro e w6 ⟨u, rfl, hf6, hos6⟩
  have h6 := (HD4.out _).step hf6
  have hu : Os w.heap.size w6 u rs := by rw [HG.out.2.1]; exact hos6.low (HD4.out _).fp.size
  have hune : ∀ k, u.ownBlock = some k → k ≠ w1.heap.size := fun k hk e => by
    have h1 := (hos6.block k hk).1
    have h2 := (HD4.out 0).l.lt
    rw [e] at h1
    exact absurd h2 (Nat.not_lt.2 h1)
  have h7 := h6.recs u rs hu hune
  have c2 := h6.l.c2
  have f2 := h6.l.fz 2
  have hcs6 := (HCS.out.keep ((Fp.refl Non W4).drewN _) (fun _ _ h => h)).keep hf6 (fun _ _ h => h)
  obtain ⟨uao, ucap, rfl⟩ := hu.shape
  have hfs : Fp (fun k => k = w1.heap.size) w6 (w6.setCell ⟨w1.heap.size, 2, none⟩ (.slice uao rs.length ucap)) := (Fp.refl (fun k => k = w1.heap.size) w6).setCell (p := ⟨w1.heap.size, 2, none⟩) (.inl rfl) _
  have hcs7 := hcs6.keep hfs (fun k hk e => HNE.out k hk e)
  have H7 := Lib.hid h7
  have HC7 := Lib.hid hcs7
  clear hf6 hos6 h6 hu hune h7 hcs6 hfs hcs7
  go_wp2_with fail
  obtain ⟨W7, hW7⟩ : ∃ W7, W7 = w6.setCell ⟨w1.heap.size, 2, none⟩ (.slice uao rs.length ucap) := ⟨_, rfl⟩
  rw [← hW7] at H7 HC7 ⊢
  clear hW7 c2 f2
  have hu7 := used_c H7.out.l (by show usd rs ≤ _; rw [← HG.out.2.2.2.2.1]; omega)
  have hue : usd (⟨a, rs⟩ : Lg).rs = U := HG.out.2.2.2.2.1.symm
  rw [hue] at hu7
  obtain ⟨tb2, to2, htp2, htl2⟩ := HC7.out.tail U (by rw [HC.out.1]; exact HBD.out.2.2.1)
  have hbl := blank_c _ _ _ htl2
  rw [HZZ.out] at hbl
  have HU7 := Lib.hid hu7
  have HBL := Lib.hid hbl
  have HT2 := Lib.hid htl2
  clear hu7 hue hbl htl2
  go_wp2_with fail
  refine HU7.out.mono ?_
  rintro e w' ⟨rfl, hw'⟩
  obtain rfl := hw'.symm
  clear hw'
  go_wp2_with fail
  refine HBL.out.mono ?_
  rintro e w8 ⟨rfl, hf8⟩
  have H8 := Lib.hid (H7.out.step hf8)
  have HF8 := Lib.hid hf8
  clear hf8
  have hE2 : A + U ≤ 200000 := by omega
  obtain ⟨E, hE⟩ : ∃ E, E = A + U := ⟨_, rfl⟩
  obtain ⟨L, hL⟩ : ∃ L, L = H - U := ⟨_, rfl⟩
  have hmk := make_bytes w8.drew L (by omega)
  have hLI : ((H - U : Nat) : Int) = (L : Int) := by rw [hL]
  have h8d : OpW lo b g m w1.heap.size s (.slice (some ⟨ag, aof, none⟩) n acap) w ⟨a, rs⟩ (.slice uao rs.length ucap) w8.drew := H8.out.step (Fp.drew (Fp.refl Non w8))
  have he8 := HEN.out _ _ _ _ h8d.d h8d.l
  have hrow := Sl.of_row (Rw.made w8.drew 5 (List.replicate L 0)) 0 L L (by simp) (Nat.le_refl _) (by unfold maxLen; omega)
  rw [List.drop_zero, List.take_of_length_le (by simp)] at hrow
  obtain ⟨W9, hW9⟩ : ∃ W9, W9 = w8.drew.alloc (.cells (Lib.byteCells (List.replicate L 0)).toArray 5) := ⟨_, rfl⟩
  rw [← hW9] at hmk hrow
  have hf9 : Fp Non w8.drew W9 := by rw [hW9]; exact (Fp.refl Non _).alloc _
  have h9 := h8d.step hf9
  have he9 := HEN.out _ _ _ _ h9.d h9.l
  have hD0 : ∀ k, own3 b g m k → k < w.heap.size := h8d.lt
  have hrow2 : Sl W9 (.slice (some ⟨w8.heap.size, 0, none⟩) L L) (zr L) := hrow
  have hwr := write_c (w := W9) E (.slice (some ⟨w8.heap.size, 0, none⟩) L L) (zr L) (by omega) h9.l.c0 hrow2 (fun k hk ho => by have h1 := hD0 k ho; have h2 : w.heap.size ≤ w8.heap.size := h8d.fp.size; simp [Value.ownBlock] at hk; omega) h9.hq (fun k hk => Nat.lt_of_lt_of_le (hD0 k hk) h9.fp.size)
  rw [← hE] at he8 he9
  have HE8 := Lib.hid he8
  have HE9 := Lib.hid he9
  have HMK := Lib.hid hmk
  have HWR := Lib.hid hwr
  have H9 := Lib.hid h9
  have HD0 := Lib.hid hD0
  have hEE : st s.cur a + usd (scan (con s.cur a) 0) = E := by rw [← HG.out.1, ← HG.out.2.1, ← HG.out.2.2.2.2.1, ← HG.out.2.2.2.1, hE]
  have hLL : hf s.cur - usd (scan (con s.cur a) 0) = L := by rw [← HG.out.1, ← HG.out.2.1, ← HG.out.2.2.2.2.1, ← HG.out.2.2.1, hL]
  have hrr : seqF [wr E (zr L), dSync] s = r := by rw [HRQ.out, hEE, hLL]
  have HRR := Lib.hid hrr
  have HLL := Lib.hid (And.intro hE hL)
  have H8d := Lib.hid h8d.l.c0
  clear hE2 hE hL hmk h8d he8 hrow hW9 hf9 h9 he9 hD0 hrow2 hwr hEE hLL hrr
  go_wp2_with fail
  refine wp_region_held_drew (S := (fun w' => w'.cell? ⟨w1.heap.size, 0, none⟩ = some (.pointer (some ⟨b, 0, none⟩)))) (by kernel_rfl) ?_ (fun hHeld => ?_)
  · exact H8d.out
  refine wpAnyH_take (i := 0) (oi := ?oi101) (v := ?vi101) ?h101 (by kernel_rfl) (by kernel_rfl) (by kernel_rfl) ?q101 (Or.inl ⟨?w101, ?y101⟩) hHeld ?r101
  case h101 => first | (simp only [List.getElem?_toArray, List.getElem?_cons_zero]; done) | (simp only [List.getElem?_toArray, List.getElem?_cons_zero]; exact rfl)
  case q101 => exact fun _ _ _ h => h
  case w101 => rfl
  case y101 =>
    intro w hSw
    (try dsimp only at hSw)
    skip
    go_simp
    try with_reducible rfl
  try simp only [Act.put, List.setIfInBounds_toArray, List.set_cons_zero, List.set_cons_succ]
  refine wpAnyH_take (i := 1) (oi := ?oi102) (v := ?vi102) ?h102 (by kernel_rfl) (by kernel_rfl) (by kernel_rfl) ?q102 (Or.inl ⟨?w102, ?y102⟩) hHeld ?r102
  case h102 => first | (simp only [List.getElem?_toArray, List.getElem?_cons_zero, List.getElem?_cons_succ]; done) | (simp only [List.getElem?_toArray, List.getElem?_cons_zero, List.getElem?_cons_succ]; exact rfl)
  case q102 => exact fun _ _ _ h => h
  case w102 => rfl
  case y102 =>
    intro w hSw
    (try dsimp only at hSw)
    skip
    go_simp
    try with_reducible rfl
  try simp only [Act.put, List.setIfInBounds_toArray, List.set_cons_zero, List.set_cons_succ]
  refine wpAnyH_take (i := 3) (oi := ?oi103) (v := ?vi103) ?h103 (by kernel_rfl) (by kernel_rfl) (by kernel_rfl) ?q103 (Or.inl ⟨?w103, ?y103⟩) hHeld ?r103
  case h103 => first | (simp only [List.getElem?_toArray, List.getElem?_cons_zero, List.getElem?_cons_succ]; done) | (simp only [List.getElem?_toArray, List.getElem?_cons_zero, List.getElem?_cons_succ]; exact rfl)
  case q103 => exact fun _ _ _ h => h
  case w103 => rfl
  case y103 =>
    intro w hSw
    (try dsimp only at hSw)
    skip
    go_simp
    try with_reducible rfl
  try simp only [Act.put, List.setIfInBounds_toArray, List.set_cons_zero, List.set_cons_succ]
  refine wpAnyH_take (i := 4) (oi := ?oi104) (v := ?vi104) ?h104 (by kernel_rfl) (by kernel_rfl) (by kernel_rfl) ?q104 (Or.inl ⟨?w104, ?y104⟩) hHeld ?r104
  case h104 => first | (simp only [List.getElem?_toArray, List.getElem?_cons_zero, List.getElem?_cons_succ]; done) | (simp only [List.getElem?_toArray, List.getElem?_cons_zero, List.getElem?_cons_succ]; exact rfl)
  case q104 => exact fun _ _ _ h => h
  case w104 => rfl
  case y104 =>
    intro w hSw
    (try dsimp only at hSw)
    skip
    go_simp
    try with_reducible rfl
  try simp only [Act.put, List.setIfInBounds_toArray, List.set_cons_zero, List.set_cons_succ]
  refine wpAnyH_take (i := 7) (oi := ?oi105) (v := ?vi105) ?h105 (by kernel_rfl) (by kernel_rfl) (by kernel_rfl) ?q105 (Or.inl ⟨?w105, ?y105⟩) hHeld ?r105
  case h105 => first | (simp only [List.getElem?_toArray, List.getElem?_cons_zero, List.getElem?_cons_succ]; done) | (simp only [List.getElem?_toArray, List.getElem?_cons_zero, List.getElem?_cons_succ]; exact rfl)
  case q105 => exact fun _ _ _ h => h
  case w105 => rfl
  case y105 =>
    intro w hSw
    (try dsimp only at hSw)
    skip
    go_simp
    try with_reducible rfl
  try simp only [Act.put, List.setIfInBounds_toArray, List.set_cons_zero, List.set_cons_succ]
  refine wpAnyH_take (i := 8) (oi := ?oi106) (v := ?vi106) ?h106 (by kernel_rfl) (by kernel_rfl) (by kernel_rfl) ?q106 (Or.inl ⟨?w106, ?y106⟩) hHeld ?r106
  case h106 => first | (simp only [List.getElem?_toArray, List.getElem?_cons_zero, List.getElem?_cons_succ]; done) | (simp only [List.getElem?_toArray, List.getElem?_cons_zero, List.getElem?_cons_succ]; exact rfl)
  case q106 => exact fun _ _ _ h => h
  case w106 => rfl
  case y106 =>
    intro w hSw
    (try dsimp only at hSw)
    skip
    go_simp
    try with_reducible rfl
  try simp only [Act.put, List.setIfInBounds_toArray, List.set_cons_zero, List.set_cons_succ]
  refine wpAnyH_ready (rs := [2, 5]) (by kernel_rfl) (by simp) ?_
  refine AllReadyH.cons (o := ?obA) ?hbA (fun K hK => ?_) (AllReadyH.cons (o := ?obB) ?hbB (fun K hK => ?_) AllReadyH.nil)
  case hbA => first | (simp only [List.getElem?_toArray, List.getElem?_cons_zero, List.getElem?_cons_succ]; done) | (simp only [List.getElem?_toArray, List.getElem?_cons_zero, List.getElem?_cons_succ]; exact rfl)
  case hbB => first | (simp only [List.getElem?_toArray, List.getElem?_cons_zero, List.getElem?_cons_succ]; done) | (simp only [List.getElem?_toArray, List.getElem?_cons_zero, List.getElem?_cons_succ]; exact rfl)
  · go_simp
    go_at_call 36
    refine HE8.out.mono ?_
    rintro e w' ⟨rfl, hw'⟩
    obtain rfl := hw'.symm
    clear hw'
    go_wp2_with fail
    refine hK.out _ _ H8d.out (fun hHeld => ?_)
    clear hK K
    try simp only [Act.put, List.setIfInBounds_toArray, List.set_cons_zero, List.set_cons_succ]
    refine wpAnyH_ready (rs := [5]) (by kernel_rfl) (by simp) ?_
    refine AllReadyH.cons (o := ?ob107) ?hb107 (fun K hK => ?_) AllReadyH.nil
    case hb107 => first | (simp only [List.getElem?_toArray, List.getElem?_cons_zero, List.getElem?_cons_succ]; done) | (simp only [List.getElem?_toArray, List.getElem?_cons_zero, List.getElem?_cons_succ]; exact rfl)
    refine step_make rfl 22 _ _ rfl _ _ _ rfl rfl HMK.out ?_
    refine hK.out _ _ H9.out.l.c0 (fun hHeld => ?_)
    clear hK K
    try simp only [Act.put, List.setIfInBounds_toArray, List.set_cons_zero, List.set_cons_succ]
    refine wpAnyH_ready (rs := [6]) (by kernel_rfl) (by simp) ?_
    refine AllReadyH.cons (o := ?ob108) ?hb108 (fun K hK => ?_) AllReadyH.nil
    case hb108 => first | (simp only [List.getElem?_toArray, List.getElem?_cons_zero, List.getElem?_cons_succ]; done) | (simp only [List.getElem?_toArray, List.getElem?_cons_zero, List.getElem?_cons_succ]; exact rfl)
    go_simp
    go_at_call 35
    refine HWR.out.mono ?_
    rintro e w10 ⟨v10, rfl, hf10, hst10⟩
    have H10 := Lib.hid (H9.out.step hf10)
    obtain ⟨k10, fi10, cp10, rfl, _, _⟩ := hst10.ex
    have HS10 := Lib.hid hst10
    clear hf10 hst10
    go_wp2_with fail
    refine hK.out _ _ H10.out.l.c0 (fun hHeld => ?_)
    clear hK K
    try simp only [Act.put, List.setIfInBounds_toArray, List.set_cons_zero, List.set_cons_succ]
    refine wpAnyH_ready (rs := [9]) (by kernel_rfl) (by simp) ?_
    refine AllReadyH.cons (o := ?ob109) ?hb109 (fun K hK => ?_) AllReadyH.nil
    case hb109 => first | (simp only [List.getElem?_toArray, List.getElem?_cons_zero, List.getElem?_cons_succ]; done) | (simp only [List.getElem?_toArray, List.getElem?_cons_zero, List.getElem?_cons_succ]; exact rfl)
    go_simp
    have hf11 : Fp Non w10 (w10.alloc (.cells #[.func (.func k10) fi10 cp10, .func (.func 37) #[.pointer (some ⟨b, 0, none⟩)] #[]] 73)) := (Fp.refl Non w10).alloc _
    have H11 := Lib.hid (H10.out.step hf11)
    have hp11 := two_c H11.out.d _ _ w10.heap.size _ _ (heap_alloc_new w10 _) (fun ho => by have h1 := HD0.out _ ho; have h2 := H10.out.fp.size; omega) HAC.out (HS10.out.later hf11) (sync_step b g m _)
    have HP11 := Lib.hid hp11
    clear hf11 hp11
    refine hK.out _ _ H11.out.l.c0 (fun hHeld => ?_)
    clear hK K
    try simp only [Act.put, List.setIfInBounds_toArray, List.set_cons_zero, List.set_cons_succ]
    refine wpAnyH_ready (rs := [10]) (by kernel_rfl) (by simp) ?_
    refine AllReadyH.cons (o := ?ob110) ?hb110 (fun K hK => ?_) AllReadyH.nil
    case hb110 => first | (simp only [List.getElem?_toArray, List.getElem?_cons_zero, List.getElem?_cons_succ]; done) | (simp only [List.getElem?_toArray, List.getElem?_cons_zero, List.getElem?_cons_succ]; exact rfl)
    go_simp
    go_at_call 34
    refine HP11.out.mono ?_
    rintro e w12 ⟨rfl, hd12, hf12⟩
    have hl12 := H11.out.l.keep hf12 (fun k hk ho => by have h1 := (H11.out.l.all k hk).1; have h2 := HD0.out k ho; omega)
    have HD12 := Lib.hid (And.intro hd12 (And.intro ((H11.out.fp.any (S := own3 b g m)).same hf12) hl12))
    clear hd12 hf12 hl12
    go_wp2_with fail
    refine hK.out _ _ HD12.out.2.2.c0 (fun hHeld => ?_)
    clear hK K
    try simp only [Act.put, List.setIfInBounds_toArray, List.set_cons_zero, List.set_cons_succ]
    refine wpAnyH_take (i := 11) (oi := ?oi111) (v := ?vi111) ?h111 (by kernel_rfl) (by kernel_rfl) (by kernel_rfl) ?q111 (Or.inl ⟨?w111, ?y111⟩) hHeld ?r111
    case h111 => first | (simp only [List.getElem?_toArray, List.getElem?_cons_zero, List.getElem?_cons_succ]; done) | (simp only [List.getElem?_toArray, List.getElem?_cons_zero, List.getElem?_cons_succ]; exact rfl)
    case q111 => exact fun _ _ _ h => h
    case w111 => rfl
    case y111 =>
      intro w hSw
      (try dsimp only at hSw)
      skip
      go_simp
      try with_reducible rfl
    try simp only [Act.put, List.setIfInBounds_toArray, List.set_cons_zero, List.set_cons_succ]
    refine wpAnyH_done (by kernel_rfl) ?_ _
    rw [HRR.out] at HD12 ⊢
    by_cases h0 : r.1 = 0
    · have HH0 := Lib.hid h0
      rw [h0]
      clear h0
      go_wp2
      go_ret2
      exact ⟨_, by rw [HH0.out]; rfl, (HF.out _ _ _ HD12.out.1 HD12.out.2.1 HD12.out.2.2).1 HH0.out⟩
    · have HH0 := Lib.hid h0
      have z6 : (r.1 = 0) = False := eq_false h0
      have z7 : (r.1 == 0) = false := beq_eq_false_iff_ne.2 h0
      clear h0
      go_wp2
      go_ret2
      exact ⟨_, rfl, (HF.out _ _ _ HD12.out.1 HD12.out.2.1 HD12.out.2.2).2 HH0.out⟩
  · refine step_make rfl 22 _ _ rfl _ _ _ rfl rfl HMK.out ?_
    refine hK.out _ _ H9.out.l.c0 (fun hHeld => ?_)
    clear hK K
    try simp only [Act.put, List.setIfInBounds_toArray, List.set_cons_zero, List.set_cons_succ]
    refine wpAnyH_ready (rs := [2]) (by kernel_rfl) (by simp) ?_
    refine AllReadyH.cons (o := ?ob112) ?hb112 (fun K hK => ?_) AllReadyH.nil
    case hb112 => first | (simp only [List.getElem?_toArray, List.getElem?_cons_zero, List.getElem?_cons_succ]; done) | (simp only [List.getElem?_toArray, List.getElem?_cons_zero, List.getElem?_cons_succ]; exact rfl)
    go_simp
    go_at_call 36
    refine HE9.out.mono ?_
    rintro e w' ⟨rfl, hw'⟩
    obtain rfl := hw'.symm
    clear hw'
    go_wp2_with fail
    refine hK.out _ _ H9.out.l.c0 (fun hHeld => ?_)
    clear hK K
    try simp only [Act.put, List.setIfInBounds_toArray, List.set_cons_zero, List.set_cons_succ]
    refine wpAnyH_ready (rs := [6]) (by kernel_rfl) (by simp) ?_
    refine AllReadyH.cons (o := ?ob113) ?hb113 (fun K hK => ?_) AllReadyH.nil
    case hb113 => first | (simp only [List.getElem?_toArray, List.getElem?_cons_zero, List.getElem?_cons_succ]; done) | (simp only [List.getElem?_toArray, List.getElem?_cons_zero, List.getElem?_cons_succ]; exact rfl)
    go_simp
    go_at_call 35
    refine HWR.out.mono ?_
    rintro e w10 ⟨v10, rfl, hf10, hst10⟩
    have H10 := Lib.hid (H9.out.step hf10)
    obtain ⟨k10, fi10, cp10, rfl, _, _⟩ := hst10.ex
    have HS10 := Lib.hid hst10
    clear hf10 hst10
    go_wp2_with fail
    refine hK.out _ _ H10.out.l.c0 (fun hHeld => ?_)
    clear hK K
    try simp only [Act.put, List.setIfInBounds_toArray, List.set_cons_zero, List.set_cons_succ]
    refine wpAnyH_ready (rs := [9]) (by kernel_rfl) (by simp) ?_
    refine AllReadyH.cons (o := ?ob114) ?hb114 (fun K hK => ?_) AllReadyH.nil
    case hb114 => first | (simp only [List.getElem?_toArray, List.getElem?_cons_zero, List.getElem?_cons_succ]; done) | (simp only [List.getElem?_toArray, List.getElem?_cons_zero, List.getElem?_cons_succ]; exact rfl)
    go_simp
    have hf11 : Fp Non w10 (w10.alloc (.cells #[.func (.func k10) fi10 cp10, .func (.func 37) #[.pointer (some ⟨b, 0, none⟩)] #[]] 73)) := (Fp.refl Non w10).alloc _
    have H11 := Lib.hid (H10.out.step hf11)
    have hp11 := two_c H11.out.d _ _ w10.heap.size _ _ (heap_alloc_new w10 _) (fun ho => by have h1 := HD0.out _ ho; have h2 := H10.out.fp.size; omega) HAC.out (HS10.out.later hf11) (sync_step b g m _)
    have HP11 := Lib.hid hp11
    clear hf11 hp11
    refine hK.out _ _ H11.out.l.c0 (fun hHeld => ?_)
    clear hK K
    try simp only [Act.put, List.setIfInBounds_toArray, List.set_cons_zero, List.set_cons_succ]
    refine wpAnyH_ready (rs := [10]) (by kernel_rfl) (by simp) ?_
    refine AllReadyH.cons (o := ?ob115) ?hb115 (fun K hK => ?_) AllReadyH.nil
    case hb115 => first | (simp only [List.getElem?_toArray, List.getElem?_cons_zero, List.getElem?_cons_succ]; done) | (simp only [List.getElem?_toArray, List.getElem?_cons_zero, List.getElem?_cons_succ]; exact rfl)
    go_simp
    go_at_call 34
    refine HP11.out.mono ?_
    rintro e w12 ⟨rfl, hd12, hf12⟩
    have hl12 := H11.out.l.keep hf12 (fun k hk ho => by have h1 := (H11.out.l.all k hk).1; have h2 := HD0.out k ho; omega)
    have HD12 := Lib.hid (And.intro hd12 (And.intro ((H11.out.fp.any (S := own3 b g m)).same hf12) hl12))
    clear hd12 hf12 hl12
    go_wp2_with fail
    refine hK.out _ _ HD12.out.2.2.c0 (fun hHeld => ?_)
    clear hK K
    try simp only [Act.put, List.setIfInBounds_toArray, List.set_cons_zero, List.set_cons_succ]
    refine wpAnyH_take (i := 11) (oi := ?oi116) (v := ?vi116) ?h116 (by kernel_rfl) (by kernel_rfl) (by kernel_rfl) ?q116 (Or.inl ⟨?w116, ?y116⟩) hHeld ?r116
    case h116 => first | (simp only [List.getElem?_toArray, List.getElem?_cons_zero, List.getElem?_cons_succ]; done) | (simp only [List.getElem?_toArray, List.getElem?_cons_zero, List.getElem?_cons_succ]; exact rfl)
    case q116 => exact fun _ _ _ h => h
    case w116 => rfl
    case y116 =>
      intro w hSw
      (try dsimp only at hSw)
      skip
      go_simp
      try with_reducible rfl
    try simp only [Act.put, List.setIfInBounds_toArray, List.set_cons_zero, List.set_cons_succ]
    refine wpAnyH_done (by kernel_rfl) ?_ _
    rw [HRR.out] at HD12 ⊢
    by_cases h0 : r.1 = 0
    · have HH0 := Lib.hid h0
      rw [h0]
      clear h0
      go_wp2
      go_ret2
      exact ⟨_, by rw [HH0.out]; rfl, (HF.out _ _ _ HD12.out.1 HD12.out.2.1 HD12.out.2.2).1 HH0.out⟩
    · have HH0 := Lib.hid h0
      have z6 : (r.1 = 0) = False := eq_false h0
      have z7 : (r.1 == 0) = false := beq_eq_false_iff_ne.2 h0
      clear h0
      go_wp2
      go_ret2
      exact ⟨_, rfl, (HF.out _ _ _ HD12.out.1 HD12.out.2.1 HD12.out.2.2).2 HH0.out⟩

theorem Open_c {lo b g m : Nat} {s : Dk} {w : World} (hd : Dr lo b g m s w) (hac : s.acts ≤ 990000) :
    Calls Tryz.prog 8 #[.pointer (some ⟨b, 0, none⟩)] w fun e w' => ∃ pv, e = .returned (.tuple #[pv, .int .i64 (lOpen s).1]) ∧ OpR lo b g m s w pv w' := by
  cases ho : s.off with
  | true => exact Open_off hd ho
  | false =>
    by_cases hh : hf s.cur < 16
    · exact Open_small hd ho hh
    · cases hsg : signed (s.cur.take 16) with
      | none => exact Open_corrupt hd ho hh hsg
      | some a =>
        cases hz : isZ ((con s.cur a).drop (usd (scan (con s.cur a) 0))) with
        | true => exact Open_clean hd ho hh a hsg hz hac
        | false => exact Open_dirty hd ho hh a hsg hz hac
end Go.Proofs.YtankfmlafmjaeaaGreat
