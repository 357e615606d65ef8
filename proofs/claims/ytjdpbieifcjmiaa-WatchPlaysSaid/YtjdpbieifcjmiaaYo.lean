/- What Tell asks of each watch (gen_yo.py) -/
import Derived.Test.YtjdpbieifcjmiaaYn
namespace Go.Proofs.Ytjdpbieifcjmiaa
set_option maxRecDepth 20000
set_option linter.unusedVariables false
set_option linter.unusedSimpArgs false
open Go.RowKit Pm


/-- Between two watches of Tell. -/
structure TeI (lo l2 N pb kb : Nat) (vw : Value) (ws : List Wt) (ss : List Se) (kd : Int) (p : Bs) (i : Nat) (W : World) : Prop where
  ex : ∃ vs L, Wk lo N vw vs ws L W ∧ L.map Sv.s = (tellL kd p (ws.take i) ss).2
  pr : W.heap[pb]? = some (.cells #[.string (B p)] 9 (0, 0))
  kr : W.heap[kb]? = some (.cells #[.int .i64 kd] 3 (0, 0))
  lv : ∀ k, vw.ownBlock = some k → k < l2
theorem TeI.still {lo l2 N pb kb : Nat} {vw : Value} {ws : List Wt} {ss : List Se} {kd : Int} {p : Bs} {i : Nat} {W W' : World} (h : TeI lo l2 N pb kb vw ws ss kd p i W) (f : Fw l2 W W') : TeI lo l2 N pb kb vw ws ss kd p i W' := by
  have hne : ∀ {k : Nat} {cs : Array Value} {T : TypeId}, W.heap[k]? = some (.cells cs T (0, 0)) → T ≠ TW → ¬ (l2 ≤ k ∧ ∃ cs, W.heap[k]? = some (.cells cs TW (0, 0))) := fun ht hT hk => by
    obtain ⟨_, cs, h2⟩ := hk
    exact type_ne ht h2 hT
  obtain ⟨vs, L, h1, h2⟩ := h.ex
  refine ⟨⟨vs, L, ⟨Fp.heap f h1.blk (hne h1.blk (by decide)), h1.low, h1.cl.keep f (fun k hk e => ?_) (fun k hk => ?_) (fun y hy k hk => ?_)⟩, h2⟩, Fp.heap f h.pr (hne h.pr (by decide)), Fp.heap f h.kr (hne h.kr (by decide)), h.lv⟩
  · have := h.lv k hk; have := e.1; omega
  · obtain ⟨cs, ht⟩ := h1.cl.ownV.type hk; exact hne ht (by decide)
  · obtain ⟨cs, ht⟩ := (h1.cl.ownE y hy).type hk; exact hne ht (by decide)
theorem TeI.ft {lo N : Nat} {vw vs : Value} {ws : List Wt} {L : List Sv} {W W' : World} (f : Ft lo W W') {k : Nat} {cs : Array Value} {T : TypeId} (h : W.heap[k]? = some (.cells cs T (0, 0))) (h1 : T ≠ TD) (h2 : T ≠ TV) (h3 : T ≠ TE) : W'.heap[k]? = some (.cells cs T (0, 0)) := f.row h h1 h2 h3
/-- Does the watch go? -/
def goT (kd : Int) (p : Bs) (ws : List Wt) (ss : List Se) (i : Nat) : Bool := if h : i < ws.length then (if ofCh p ws[i] = true then !(ntf (seS (tellL kd p (ws.take i) ss).2 ws[i].s) ws[i] kd p).2 else false) else false

theorem boxP1 {w : World} {b : Nat} {T : TypeId} {c0 : Value} (h : w.heap[b]? = some (.cells #[c0] T (0, 0))) : w.cell? ⟨b, 0, none⟩ = some c0 := by rw [cell_of_row _ _ _ _ _ _ h]; rfl
set_option maxHeartbeats 8000000 in
theorem tell1_c {lo l2 N pb kb : Nat} {vw : Value} {ws : List Wt} {ss : List Se} {kd : Int} {p : Bs} (i : Nat) (hi : i < ws.length) {w : World} (h : TeI lo l2 N pb kb vw ws ss kd p i w) (hrs : RS (tellL kd p (ws.take i) ss).2) (hl : (tellL kd p (ws.take i) ss).2.length ≤ 39000) (hpl : p.length ≤ 1000000) (hxl : ws[i].p.length ≤ 1000000) (hxs : isN ws[i].s = true) (hlo : lo ≤ w.heap.size) :
    Calls Try.prog 37 #[wtV ws[i], .pointer (some ⟨pb, 0, none⟩), .pointer (some ⟨N, 0, none⟩), .pointer (some ⟨kb, 0, none⟩)] w fun e w' => e = .returned (.bool (goT kd p ws ss i)) ∧ TeI lo l2 N pb kb vw ws ss kd p (i + 1) w' ∧ Ft lo w w' := by
  have hsucc := tell_succ kd p ws ss i hi
  have hgo : goT kd p ws ss i = (if ofCh p ws[i] = true then !(ntf (seS (tellL kd p (ws.take i) ss).2 ws[i].s) ws[i] kd p).2 else false) := by unfold goT; rw [dif_pos hi]
  rw [hgo]
  obtain ⟨S0, hS0⟩ : ∃ S0, S0 = (tellL kd p (ws.take i) ss).2 := ⟨_, rfl⟩
  have hst : (tellL kd p (ws.take (i + 1)) ss).2 = (tst kd p (tellL kd p (ws.take i) ss) ws[i]).2 := by rw [hsucc]
  unfold tst at hst
  rw [← hS0] at hst hrs hl ⊢
  obtain ⟨x, hx⟩ : ∃ x, x = ws[i] := ⟨_, rfl⟩
  rw [← hx] at hst hxl hxs ⊢
  clear hsucc hgo hx
  -- what is left behind, in each case
  have hno : ofCh p x = false → ∀ w', Fp Non w w' → TeI lo l2 N pb kb vw ws ss kd p (i + 1) w' := fun ho w' f => by
    rw [if_neg (by rw [ho]; exact Bool.false_ne_true)] at hst
    obtain ⟨vs, L, h1, h2⟩ := h.ex
    exact ⟨⟨vs, L, h1.non f, by rw [hst, h2, ← hS0]⟩, f.heap h.pr (fun h => h), f.heap h.kr (fun h => h), h.lv⟩
  have hop : ∀ w', Fp Non w w' → Calls Try.prog 27 #[.pointer (some ⟨N, 0, none⟩), .int .i64 x.s] w' (OpR lo N vw ws S0 x.s w') := fun w' f => by
    obtain ⟨vs, L, h1, h2⟩ := h.ex
    rw [← hS0] at h2
    have := open_c (h1.non f) x.s (by rw [h2]; exact hrs.2) (by rw [← h2, List.length_map] at hl; exact hl) (Nat.le_trans hlo f.size)
    rw [h2] at this
    exact this
  have hnt : ∀ (G m cap : Nat) (L' : List Sv) (W : World), Wk lo N vw (.slice (some ⟨G, 0, none⟩) m cap) ws L' W → L'.map Sv.s = opl S0 x.s → lo ≤ W.heap.size → Calls Try.prog 39 #[.pointer (some ⟨G, plS S0 x.s * 3, none⟩), wtV x, .int .i64 kd, .string (B p)] W fun e W' => e = .returned (.bool (ntf (seS S0 x.s) x kd p).2) ∧ ∃ L2, Cl lo vw (.slice (some ⟨G, 0, none⟩) m cap) ws L2 W' ∧ L2.map Sv.s = putS S0 (ntf (seS S0 x.s) x kd p).1 ∧ Ft lo W W' ∧ W'.heap[N]? = some (.cells #[vw, .slice (some ⟨G, 0, none⟩) m cap] TD (0, 0)) := fun G m cap L' W h1 h2 h3 => by
    have hlt := opl_lt hrs.2 x.s
    have hg := opl_get hrs.2 x.s
    have hk : plS S0 x.s < L'.length := by rw [← h2, List.length_map] at hlt; exact hlt
    have he : L'[plS S0 x.s].s = seS S0 x.s := by
      rw [← hg]; simp only [← h2, List.getElem_map]
    have hr := (rSe_iff _).1 (seS_right hrs hxs)
    refine (notify_c h1.cl (plS S0 x.s) hk x kd p (by rw [he]; exact hr.2.1.2.2.1) (by rw [he]; exact ⟨hr.2.1.1, hr.2.1.2.1⟩) h3).mono ?_
    rintro e W' ⟨rfl, hR⟩
    rw [he] at hR ⊢
    obtain ⟨L2, g1, g2⟩ := hR.ex
    refine ⟨rfl, L2, g1, ?_, hR.fp.ft, hR.fp.row h1.blk (by decide) (by decide)⟩
    rw [g2, h2]
    have hnum := ntf_num (seS S0 x.s) x kd p
    rw [seS_num] at hnum
    have := opl_set hrs.2 (ntf (seS S0 x.s) x kd p).1
    rw [hnum] at this
    exact this
  have hyes : ofCh p x = true → ∀ (W W' : World) (G m cap : Nat) (L2 : List Sv), TeI lo l2 N pb kb vw ws ss kd p i W → Ft lo W W' → W'.heap[N]? = some (.cells #[vw, .slice (some ⟨G, 0, none⟩) m cap] TD (0, 0)) → Cl lo vw (.slice (some ⟨G, 0, none⟩) m cap) ws L2 W' → L2.map Sv.s = putS S0 (ntf (seS S0 x.s) x kd p).1 → TeI lo l2 N pb kb vw ws ss kd p (i + 1) W' := fun ho W W' G m cap L2 h1 f hb h2 h3 => by
    rw [if_pos ho] at hst
    obtain ⟨vs, L, k1, k2⟩ := h1.ex
    exact ⟨⟨_, L2, ⟨hb, k1.low, h2⟩, by rw [h3, hst]⟩, f.row h1.pr (by decide) (by decide) (by decide), f.row h1.kr (by decide) (by decide) (by decide), h1.lv⟩
  have hin := fun w => In_g p x.p w (sz_of hpl (by omega)) (sz_of hxl (by omega))
  have hof : ofCh p x = (decide (x.p = p) || (x.d && inB p x.p)) := rfl
  have hpc : w.cell? ⟨pb, 0, none⟩ = some (.string (B p)) := by rw [cell_of_row _ _ _ _ _ _ h.pr]; rfl
  have hkc : w.cell? ⟨kb, 0, none⟩ = some (.int .i64 kd) := by rw [cell_of_row _ _ _ _ _ _ h.kr]; rfl
  obtain ⟨xs, xn, xp, xd⟩ := x
  simp only at hof hin hop hxl
  unfold wtV strV at hnt ⊢
  simp only at hnt ⊢
  have f0 := fp_alloc w (.cells #[.int .i64 xs, .int .i64 xn, .string (B xp), .bool xd] TW)
  have rb := heap_alloc_new w (.cells #[.int .i64 xs, .int .i64 xn, .string (B xp), .bool xd] TW)
  have K0 := Lib.hid (Kp.and (Kp.fp f0) (Kp.and (Kp.row rb) (Kp.and (Kp.row (f0.heap h.pr (fun h => h))) (Kp.row (f0.heap h.kr (fun h => h))))))
  have HH := Lib.hid (And.intro h hlo)
  have HNO := Lib.hid hno
  have HOP := Lib.hid hop
  have HNT := Lib.hid hnt
  have HYES := Lib.hid hyes
  have HIN := Lib.hid hin
  obtain ⟨c, hc⟩ : ∃ c, ofCh p ⟨xs, xn, xp, xd⟩ = c := ⟨_, rfl⟩
  rw [hc] at hof HNO HYES ⊢
  obtain ⟨R, hR⟩ : ∃ R, ntf (seS S0 xs) ⟨xs, xn, xp, xd⟩ kd p = R := ⟨_, rfl⟩
  rw [hR] at HNT HYES ⊢
  have gp := f0.cell hpc (fun h => h)
  have gk := f0.cell hkc (fun h => h)
  clear hS0 h hrs hl hpl hxl hxs hlo hst hno hop hnt hyes hin hpc hkc rb f0 hc hR
  go_enter Try.func37, Try.ntmps37
  by_cases h1 : xp = p
  · obtain rfl : c = true := by rw [hof]; simp [h1]
    clear hof
    have q1 : (xp != p) = false := by simpa using h1
    subst h1
    go_wp2_with fail
    have Hq := Lib.hid (show ∀ W, Ft lo (w.alloc (.cells #[.int .i64 xs, .int .i64 xn, .string (B xp), .bool xd] TW)) W → (W.heap[w.heap.size]? = some (.cells #[.int .i64 xs, .int .i64 xn, .string (B xp), .bool xd] TW (0, 0)) ∧ W.heap[pb]? = some (.cells #[.string (B xp)] 9 (0, 0)) ∧ W.heap[kb]? = some (.cells #[.int .i64 kd] 3 (0, 0))) from fun W f => ⟨f.row K0.out.now.2.1 (by decide) (by decide) (by decide), f.row K0.out.now.2.2.1 (by decide) (by decide) (by decide), f.row K0.out.now.2.2.2 (by decide) (by decide) (by decide)⟩)
    have Hr := Lib.hid (fun W (f : Ft lo (w.alloc (.cells #[.int .i64 xs, .int .i64 xn, .string (B xp), .bool xd] TW)) W) => And.intro (boxP4 (Hq.out W f).1) (And.intro (boxP1 (Hq.out W f).2.1) (boxP1 (Hq.out W f).2.2)))
    have HWD := Lib.hid ((Fp.refl Non (w.alloc (.cells #[.int .i64 xs, .int .i64 xn, .string (B xp), .bool xd] TW))).drew)
    refine wp_region_held_drew (S := (fun W => (W.cell? ⟨w.heap.size, 0, none⟩ = some (.int .i64 xs) ∧ W.cell? ⟨w.heap.size, 1, none⟩ = some (.int .i64 xn) ∧ W.cell? ⟨w.heap.size, 2, none⟩ = some (.string (B xp)) ∧ W.cell? ⟨w.heap.size, 3, none⟩ = some (.bool xd)) ∧ W.cell? ⟨pb, 0, none⟩ = some (.string (B xp)) ∧ W.cell? ⟨kb, 0, none⟩ = some (.int .i64 kd))) (by kernel_rfl) ?_ (fun hHeld => ?_)
    · exact Hr.out _ HWD.out.ft
    refine tk 0 hHeld ?_
    refine tk 1 hHeld ?_
    refine tk 3 hHeld ?_
    refine tk 4 hHeld ?_
    refine tk 5 hHeld ?_
    refine rY 2 (fun K hK => ?_)
    go_simp
    refine (HOP.out _ (K0.out.now.1.then HWD.out)).mono ?_
    rintro e w5 hO
    obtain ⟨G, m, cap, L', rfl, hk1, hk2⟩ := hO.ex
    have F5 := Lib.hid (And.intro (HWD.out.ft.then hO.fp) (And.intro ((K0.out.now.1.ft (lo := lo)).then (HWD.out.ft.then hO.fp)) (And.intro hk1 hk2)))
    clear hO hk1 hk2
    go_wp2_with fail
    refine hK.out _ _ (Hr.out _ F5.out.1) (fun hHeld => ?_)
    clear hK K
    try simp only [zP, zN, zS, zT, zU]
    refine rY 6 (fun K hK => ?_)
    go_simp
    refine (HNT.out _ _ _ _ _ F5.out.2.2.1 F5.out.2.2.2 (by have := HH.out.2; have := F5.out.2.1.size; omega)).mono ?_
    rintro e w6 ⟨rfl, L2, hc2, hm2, hf6, hb6⟩
    have F6 := Lib.hid (And.intro (F5.out.1.then hf6) (And.intro (F5.out.2.1.then hf6) (And.intro hc2 (And.intro hm2 hb6))))
    clear hc2 hm2 hf6 hb6
    go_wp2_with fail
    refine hK.out _ _ (Hr.out _ F6.out.1) (fun hHeld => ?_)
    clear hK K
    try simp only [zP, zN, zS, zT, zU]
    refine tk 7 hHeld ?_
    refine tk 8 hHeld ?_
    refine yD ?_
    go_wp2
    go_ret
    exact ⟨rfl, HYES.out (by first | rfl | trivial) _ _ _ _ _ _ HH.out.1 F6.out.2.1 F6.out.2.2.2.2 F6.out.2.2.1 F6.out.2.2.2.1, F6.out.2.1⟩
  · have q1 : (xp != p) = true := by simpa using h1
    have q2 : (xp = p) = False := eq_false h1
    have q3 : (xp == p) = false := by simpa using h1
    cases xd with
    | false =>
      obtain rfl : c = false := by rw [hof]; simp [h1]
      clear hof
      go_wp2
      go_ret
      exact ⟨rfl, HNO.out (by first | rfl | trivial) _ K0.out.now.1, K0.out.now.1.ft⟩
    | true =>
      go_wp2_with fail
      refine (HIN.out _).mono ?_
      rintro e w1 ⟨rfl, hf⟩
      have K1 := Lib.hid (K0.out.later hf.fp)
      clear hf
      obtain ⟨bi, hbi⟩ : ∃ b, inB p xp = b := ⟨_, rfl⟩
      rw [hbi] at hof ⊢
      have hce : c = bi := by rw [hof]; simp [h1]
      subst hce
      clear hof hbi
      cases c with
      | false =>
        go_wp2
        go_ret
        exact ⟨rfl, HNO.out (by first | rfl | trivial) _ K1.out.now.1, K1.out.now.1.ft⟩
      | true =>
        go_wp2_with fail
        have Hq := Lib.hid (show ∀ W, Ft lo w1 W → (W.heap[w.heap.size]? = some (.cells #[.int .i64 xs, .int .i64 xn, .string (B xp), .bool true] TW (0, 0)) ∧ W.heap[pb]? = some (.cells #[.string (B p)] 9 (0, 0)) ∧ W.heap[kb]? = some (.cells #[.int .i64 kd] 3 (0, 0))) from fun W f => ⟨f.row K1.out.now.2.1 (by decide) (by decide) (by decide), f.row K1.out.now.2.2.1 (by decide) (by decide) (by decide), f.row K1.out.now.2.2.2 (by decide) (by decide) (by decide)⟩)
        have Hr := Lib.hid (fun W (f : Ft lo w1 W) => And.intro (boxP4 (Hq.out W f).1) (And.intro (boxP1 (Hq.out W f).2.1) (boxP1 (Hq.out W f).2.2)))
        have HWD := Lib.hid ((Fp.refl Non w1).drew)
        refine wp_region_held_drew (S := (fun W => (W.cell? ⟨w.heap.size, 0, none⟩ = some (.int .i64 xs) ∧ W.cell? ⟨w.heap.size, 1, none⟩ = some (.int .i64 xn) ∧ W.cell? ⟨w.heap.size, 2, none⟩ = some (.string (B xp)) ∧ W.cell? ⟨w.heap.size, 3, none⟩ = some (.bool true)) ∧ W.cell? ⟨pb, 0, none⟩ = some (.string (B p)) ∧ W.cell? ⟨kb, 0, none⟩ = some (.int .i64 kd))) (by kernel_rfl) ?_ (fun hHeld => ?_)
        · exact Hr.out _ HWD.out.ft
        refine tk 0 hHeld ?_
        refine tk 1 hHeld ?_
        refine tk 3 hHeld ?_
        refine tk 4 hHeld ?_
        refine tk 5 hHeld ?_
        refine rY 2 (fun K hK => ?_)
        go_simp
        refine (HOP.out _ (K1.out.now.1.then HWD.out)).mono ?_
        rintro e w5 hO
        obtain ⟨G, m, cap, L', rfl, hk1, hk2⟩ := hO.ex
        have F5 := Lib.hid (And.intro (HWD.out.ft.then hO.fp) (And.intro ((K1.out.now.1.ft (lo := lo)).then (HWD.out.ft.then hO.fp)) (And.intro hk1 hk2)))
        clear hO hk1 hk2
        go_wp2_with fail
        refine hK.out _ _ (Hr.out _ F5.out.1) (fun hHeld => ?_)
        clear hK K
        try simp only [zP, zN, zS, zT, zU]
        refine rY 6 (fun K hK => ?_)
        go_simp
        refine (HNT.out _ _ _ _ _ F5.out.2.2.1 F5.out.2.2.2 (by have := HH.out.2; have := F5.out.2.1.size; omega)).mono ?_
        rintro e w6 ⟨rfl, L2, hc2, hm2, hf6, hb6⟩
        have F6 := Lib.hid (And.intro (F5.out.1.then hf6) (And.intro (F5.out.2.1.then hf6) (And.intro hc2 (And.intro hm2 hb6))))
        clear hc2 hm2 hf6 hb6
        go_wp2_with fail
        refine hK.out _ _ (Hr.out _ F6.out.1) (fun hHeld => ?_)
        clear hK K
        try simp only [zP, zN, zS, zT, zU]
        refine tk 7 hHeld ?_
        refine tk 8 hHeld ?_
        refine yD ?_
        go_wp2
        go_ret
        exact ⟨rfl, HYES.out (by first | rfl | trivial) _ _ _ _ _ _ HH.out.1 F6.out.2.1 F6.out.2.2.2.2 F6.out.2.2.1 F6.out.2.2.2.1, F6.out.2.1⟩
end Go.Proofs.Ytjdpbieifcjmiaa
