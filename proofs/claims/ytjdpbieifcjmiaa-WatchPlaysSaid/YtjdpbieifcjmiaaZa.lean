/- The document's SameEvents, Find (gen_za.py) -/
import Derived.Test.YtjdpbieifcjmiaaYx
import Derived.Test.YtjdpbieifcjmiaaYh
namespace Go.Proofs.Ytjdpbieifcjmiaa
set_option maxRecDepth 20000
set_option linter.unusedVariables false
set_option linter.unusedSimpArgs false
open Go.RowKit Pm


theorem fE : (Try.prog.fieldsOf TE).toList = [⟨ "Num", 2, 0, false, "", "", 0⟩, ⟨ "Kind", 3, 1, false, "", "", 8⟩, ⟨ "Path", 9, 2, false, "", "", 16⟩, ⟨ "Watch", 2, 3, false, "", "", 32⟩] := by kernel_rfl
theorem eq_ev (w : World) (a b d a' b' d' : Int) (c c' : ByteArray) : (Op.equalIn 10000 TE (.agg #[.int .i64 a, .int .i64 b, .string c, .int .i64 d]) (.agg #[.int .i64 a', .int .i64 b', .string c', .int .i64 d'])).run Try.prog w =
    .ok (decide (a = a' ∧ b = b' ∧ c.toList = c'.toList ∧ d = d')) w := by
  rw [run_equalIn_agg w 9999 TE _ _ (by kernel_rfl) (by kernel_rfl), fE]
  have e1 := fun w a b => run_equalIn_int (P := Try.prog) w 9998 3 .i64 .i64 a b Try.underlying3
  have e2 := fun w a b => run_equalIn_int (P := Try.prog) w 9998 2 .i64 .i64 a b Try.underlying2
  have e3 := fun w a b => run_equalIn_string (P := Try.prog) w 9998 9 a b Try.underlying9
  simp only [Op.eqFields]
  simp [e1, e2, e3, go_sem]
  by_cases h1 : a = a' <;> by_cases h2 : b = b' <;> by_cases h3 : c.toList = c'.toList <;> by_cases h4 : d = d' <;> simp [h1, h2, h3, h4]
theorem fW : (Try.prog.fieldsOf TW).toList = [⟨ "Session", 2, 0, false, "", "", 0⟩, ⟨ "Num", 2, 1, false, "", "", 8⟩, ⟨ "Path", 9, 2, false, "", "", 16⟩, ⟨ "Deep", 4, 3, false, "", "", 32⟩] := by kernel_rfl
theorem eq_wt (w : World) (a b a' b' : Int) (c c' : ByteArray) (d d' : Bool) : (Op.equalIn 10000 TW (.agg #[.int .i64 a, .int .i64 b, .string c, .bool d]) (.agg #[.int .i64 a', .int .i64 b', .string c', .bool d'])).run Try.prog w =
    .ok (decide (a = a' ∧ b = b' ∧ c.toList = c'.toList ∧ d = d')) w := by
  rw [run_equalIn_agg w 9999 TW _ _ (by kernel_rfl) (by kernel_rfl), fW]
  have e2 := fun w a b => run_equalIn_int (P := Try.prog) w 9998 2 .i64 .i64 a b Try.underlying2
  have e3 := fun w a b => run_equalIn_string (P := Try.prog) w 9998 9 a b Try.underlying9
  have e4 := fun w a b => run_equalIn_bool' (P := Try.prog) w 9998 4 a b Try.underlying4
  simp only [Op.eqFields]
  simp [e2, e3, e4, go_sem]
  by_cases h1 : a = a' <;> by_cases h2 : b = b' <;> by_cases h3 : c.toList = c'.toList <;> by_cases h4 : d = d' <;> simp [h1, h2, h3, h4]
theorem ev_eq (x y : Ev) : decide (x.num = y.num ∧ x.kind = y.kind ∧ (B x.p).toList = (B y.p).toList ∧ x.wt = y.wt) = decide (x = y) := by
  obtain ⟨a, b, c, d⟩ := x
  obtain ⟨a', b', c', d'⟩ := y
  simp [B_toList]
theorem wt_eq (x y : Wt) : decide (x.s = y.s ∧ x.n = y.n ∧ (B x.p).toList = (B y.p).toList ∧ x.d = y.d) = decide (x = y) := by
  obtain ⟨a, b, c, d⟩ := x
  obtain ⟨a', b', c', d'⟩ := y
  simp [B_toList]
theorem list_eq {α : Type} {a b : List α} (h : a.length = b.length) (he : ∀ j (h1 : j < a.length) (h2 : j < b.length), a[j] = b[j]) : a = b := List.ext_getElem h he

set_option maxHeartbeats 4000000 in
theorem SameEv_c (v u : Value) (a b : List Ev) (w : World) (hv : NsE w v a) (hu : NsE w u b) (hn : a.length ≤ 1000000) (hm : b.length ≤ 1000000) :
    Calls Try.prog 15 #[v, u] w fun e w' => e = .returned (.bool (decide (a = b))) ∧ Fp Non w w' := by
  obtain ⟨av, cv, rfl⟩ := hv.shape
  obtain ⟨au, cu, rfl⟩ := hu.shape
  obtain ⟨n, hnn⟩ : ∃ n, n = a.length := ⟨_, rfl⟩
  obtain ⟨m, hmm⟩ : ∃ n, n = b.length := ⟨_, rfl⟩
  obtain ⟨r, hr⟩ : ∃ r, decide (a = b) = r := ⟨_, rfl⟩
  rw [hr]
  have HR := Lib.hid hr
  rw [← hnn] at hv hn ⊢
  rw [← hmm] at hu hm ⊢
  have HX := Lib.hid (And.intro hnn (And.intro hmm (And.intro hv hu)))
  by_cases hnm : n = m
  · clear hv hu hnn hmm hr
    subst hnm
    have q1 : ((n : Int) != (n : Int)) = false := by simp
    go_enter Try.func15, Try.ntmps15
    go_wp2_with fail
    go_loopw [5] (fun i wr => ∃ k : Nat, k ≤ n ∧ i = .int .i64 k ∧ Hid (Fp Non w wr ∧ ∀ j (h1 : j < a.length) (h2 : j < b.length), j < k → a[j] = b[j])) (fun i _ => n - (RowKit.intOf i).toNat)
    case atStart => exact ⟨0, Nat.zero_le _, rfl, Fp.refl _ _, fun j _ _ h => absurd h (Nat.not_lt_zero j)⟩
    case round =>
      obtain ⟨k, hk, rfl, hR⟩ := hrel
      rename_i wr _
      by_cases hlt : k < n
      · have hka : k < a.length := by rw [← HX.out.1]; exact hlt
        have hkb : k < b.length := by rw [← HX.out.2.1]; exact hlt
        obtain ⟨g, o, c1, e, _, _, _, hcell⟩ := HX.out.2.2.1.at (by omega)
        injection e with e1 e2 e3
        subst e1 e3
        clear e2
        obtain ⟨g2, o2, c2, e, _, _, _, hcell2⟩ := HX.out.2.2.2.at (by omega)
        injection e with e1 e2 e3
        subst e1 e3
        clear e2
        have hx := (hcell k hka).keep hR.out.1 (fun h => h)
        have hy := (hcell2 k hkb).keep hR.out.1 (fun h => h)
        have hbad : a[k] ≠ b[k] → r = false := fun h => by
          rw [← HR.out]; exact decide_eq_false (fun e => h (by subst e; rfl))
        have hgood : a[k] = b[k] → ∀ j (h1 : j < a.length) (h2 : j < b.length), j < k + 1 → a[j] = b[j] := fun h j h1 h2 hj => by
          rcases Nat.lt_or_eq_of_le (show j ≤ k by omega) with e | e
          · exact hR.out.2 j h1 h2 e
          · subst e; exact h
        have HG := Lib.hid (And.intro hbad hgood)
        have HL := Lib.hid hlt
        clear hcell hcell2 hbad hgood
        generalize a[k] = x at *
        generalize b[k] = y at *
        clear hka hkb
        have heq := fun w => eq_ev w x.num x.kind x.wt y.num y.kind y.wt (B x.p) (B y.p)
        simp only [ev_eq] at heq
        have HS := Lib.hid (And.intro hx hy)
        have HD := Lib.hid (fun W (f : Fp Non wr W) => And.intro (HS.out.1.keep f (fun h => h)) (HS.out.2.keep f (fun h => h)))
        obtain ⟨xn, xk, xp, xw⟩ := x
        obtain ⟨yn, yk, yp, yw⟩ := y
        simp only at heq
        obtain ⟨q, hq⟩ : ∃ q, decide ((⟨xn, xk, xp, xw⟩ : Ev) = ⟨yn, yk, yp, yw⟩) = q := ⟨_, rfl⟩
        rw [hq] at heq
        have HQ := Lib.hid hq
        have q3 : ((k : Int) < (n : Int)) = True := eq_true (by omega)
        have q4 : (k < n) = True := eq_true hlt
        have HWD := Lib.hid (Fp.refl Non wr).drew
        clear hx hy hlt hq
        go_wp2_with fail
        have HS2 := Lib.hid (show (wr.drew.cell? ⟨g, o + k * 4, none⟩ = some (.int .i64 xn) ∧ wr.drew.cell? ⟨g, o + k * 4 + 1, none⟩ = some (.int .i64 xk) ∧ wr.drew.cell? ⟨g, o + k * 4 + 2, none⟩ = some (.string (B xp)) ∧ wr.drew.cell? ⟨g, o + k * 4 + 3, none⟩ = some (.int .i64 xw)) ∧ wr.drew.cell? ⟨g2, o2 + k * 4, none⟩ = some (.int .i64 yn) ∧ wr.drew.cell? ⟨g2, o2 + k * 4 + 1, none⟩ = some (.int .i64 yk) ∧ wr.drew.cell? ⟨g2, o2 + k * 4 + 2, none⟩ = some (.string (B yp)) ∧ wr.drew.cell? ⟨g2, o2 + k * 4 + 3, none⟩ = some (.int .i64 yw) from ⟨⟨(HD.out _ HWD.out).1.c0, (HD.out _ HWD.out).1.c1, (HD.out _ HWD.out).1.c2, (HD.out _ HWD.out).1.c3⟩, (HD.out _ HWD.out).2.c0, (HD.out _ HWD.out).2.c1, (HD.out _ HWD.out).2.c2, (HD.out _ HWD.out).2.c3⟩)
        refine wp_region_held_drew (S := (fun W => (W.cell? ⟨g, o + k * 4, none⟩ = some (.int .i64 xn) ∧ W.cell? ⟨g, o + k * 4 + 1, none⟩ = some (.int .i64 xk) ∧ W.cell? ⟨g, o + k * 4 + 2, none⟩ = some (.string (B xp)) ∧ W.cell? ⟨g, o + k * 4 + 3, none⟩ = some (.int .i64 xw)) ∧ W.cell? ⟨g2, o2 + k * 4, none⟩ = some (.int .i64 yn) ∧ W.cell? ⟨g2, o2 + k * 4 + 1, none⟩ = some (.int .i64 yk) ∧ W.cell? ⟨g2, o2 + k * 4 + 2, none⟩ = some (.string (B yp)) ∧ W.cell? ⟨g2, o2 + k * 4 + 3, none⟩ = some (.int .i64 yw))) (by kernel_rfl) ?_ (fun hHeld => ?_)
        · exact HS2.out
        refine tk 0 hHeld ?_
        refine tk 1 hHeld ?_
        refine tk 2 hHeld ?_
        refine tk 3 hHeld ?_
        refine tk 4 hHeld ?_
        refine tk 5 hHeld ?_
        refine tk 6 hHeld ?_
        refine tk 7 hHeld ?_
        refine tk 8 hHeld ?_
        refine yD ?_
        cases q with
        | false =>
          obtain rfl := HG.out.1 (of_decide_eq_false HQ.out)
          go_wp2
          go_ret
          exact ⟨rfl, hR.out.1.then HWD.out⟩
        | true =>
          have hM : Hid (Fp Non w wr.drew ∧ ∀ j (h1 : j < a.length) (h2 : j < b.length), j < k + 1 → a[j] = b[j]) := ⟨hR.out.1.then HWD.out, HG.out.2 (of_decide_eq_true HQ.out)⟩
          have hkn := HL.out
          clear HG
          go_wp2
          go_roundw
          case rel => exact ⟨k + 1, by omega, by go_num, hM⟩
          case measure => simp [RowKit.intOf]; omega
      · have hke : k = n := by omega
        subst hke
        have q3 : ((k : Int) < (k : Int)) = False := eq_false (by omega)
        have hrt : r = true := by
          rw [← HR.out]
          exact decide_eq_true (list_eq (by rw [← HX.out.1, ← HX.out.2.1]) (fun j h1 h2 => hR.out.2 j h1 h2 (by rw [HX.out.1]; exact h1)))
        subst hrt
        clear hlt hk
        go_wp2
        go_ret
        exact ⟨rfl, hR.out.1⟩
  · have hrf : r = false := by rw [← hr]; exact decide_eq_false (fun e => hnm (by rw [hnn, hmm, e]))
    subst hrf
    have q1 : ((n : Int) != (m : Int)) = true := by simp; omega
    have q2 : ((n : Int) = (m : Int)) = False := eq_false (by omega)
    have q3 : ((n : Int) == (m : Int)) = false := by rw [beq_eq_false_iff_ne]; omega
    clear hv hu hnn hmm hr
    go_enter Try.func15, Try.ntmps15
    go_wp2
    go_ret
    exact ⟨rfl, Fp.refl _ _⟩

/-- What Find answers. -/
structure FindR (ss : List Se) (k : Int) (w : World) (e : Ending) (w' : World) : Prop where
  ex : ∃ ev, e = .returned (.tuple #[.agg #[.int .i64 (seS ss k).num, .int .i64 (seS ss k).count, ev], .bool (getS ss k).isSome]) ∧ NsE w' ev (seS ss k).evs
  fp : Fp Non w w'
theorem getS_first {ss : List Se} {k : Int} {i : Nat} (hi : i < ss.length) (h : ss[i].num = k) (hno : ∀ j (hj : j < ss.length), j < i → ss[j].num ≠ k) : getS ss k = some ss[i] := by
  induction ss generalizing i with
  | nil => simp at hi
  | cons x r ih =>
    unfold getS
    cases i with
    | zero => rw [if_pos (by simpa using h)]; rfl
    | succ i =>
      rw [if_neg (by have := hno 0 (by simp) (Nat.succ_pos _); simpa using this)]
      exact ih (by simpa using hi) h (fun j hj hji => hno (j + 1) (Nat.succ_lt_succ hj) (by omega))
theorem getS_no {ss : List Se} {k : Int} (hno : ∀ j (hj : j < ss.length), ss[j].num ≠ k) : getS ss k = none := by
  cases hg : getS ss k with
  | none => rfl
  | some s =>
    obtain ⟨h1, h2⟩ := getS_some hg
    obtain ⟨i, hi, rfl⟩ := List.mem_iff_getElem.1 h1
    exact absurd h2 (hno i hi)

set_option maxHeartbeats 4000000 in
theorem Find_c (v : Value) (d : Wd) (q : Int) (w : World) (hv : WdR w v d) (hz : d.ss.length ≤ 1000000) :
    Calls Try.prog 29 #[v, .int .i64 q] w (FindR d.ss q w) := by
  obtain ⟨vw, vs, rfl, hw, hs⟩ := hv.ex
  obtain ⟨L, hL, hs1, hs2⟩ := hs.ex
  obtain ⟨aw, cw, rfl⟩ := hw.shape
  obtain ⟨at_, cs, rfl⟩ := hs1.shape
  obtain ⟨n, hn⟩ : ∃ n, n = d.ws.length := ⟨_, rfl⟩
  obtain ⟨m, hm⟩ : ∃ n, n = L.length := ⟨_, rfl⟩
  have hmb : m ≤ 1000000 := by rw [hm]; rw [← hL, List.length_map] at hz; exact hz
  rw [← hn] at hw ⊢
  rw [← hm] at hs1 ⊢
  have HX := Lib.hid (And.intro hL (And.intro hm (And.intro hs1 hs2)))
  have f0 := (fp_alloc w (.cells #[.slice aw n cw, .slice at_ m cs] TD)).then (fp_alloc _ (.cells #[.int .i64 0, .int .i64 0, .slice none 0 0] TV))
  have r0 := (fp_alloc (w.alloc (.cells #[.slice aw n cw, .slice at_ m cs] TD)) (.cells #[.int .i64 0, .int .i64 0, .slice none 0 0] TV)).heap (heap_alloc_new w _) (fun h => h)
  have r1 := heap_alloc_new (w.alloc (.cells #[.slice aw n cw, .slice at_ m cs] TD)) (.cells #[.int .i64 0, .int .i64 0, .slice none 0 0] TV)
  have sz : (w.alloc (.cells #[.slice aw n cw, .slice at_ m cs] TD)).heap.size = w.heap.size + 1 := by simp
  rw [sz] at r1
  have K0 := Lib.hid (Kp.and (Kp.fp f0) (Kp.and (Kp.row r0) (Kp.row r1)))
  clear hv hw hs hs1 hs2 hz hn hm hL f0 r0 r1 sz
  go_enter Try.func29, Try.ntmps29
  go_wp2_with fail
  go_loopw [6] (fun i wr => ∃ k : Nat, k ≤ m ∧ i = .int .i64 k ∧ Hid (Kp (fun W' => Fp Non w W' ∧ W'.heap[w.heap.size]? = some (.cells #[.slice aw n cw, .slice at_ m cs] TD (0, 0)) ∧ W'.heap[w.heap.size + 1]? = some (.cells #[.int .i64 0, .int .i64 0, .slice none 0 0] TV (0, 0))) wr ∧ ∀ j (h1 : j < d.ss.length), j < k → d.ss[j].num ≠ q)) (fun i _ => m - (RowKit.intOf i).toNat)
  case atStart => exact ⟨0, Nat.zero_le _, rfl, K0.out, fun j _ h => absurd h (Nat.not_lt_zero j)⟩
  case round =>
    obtain ⟨k, hk, rfl, hR⟩ := hrel
    rename_i wr _
    obtain ⟨p0, p1⟩ := boxP2 hR.out.1.now.2.1
    obtain ⟨y0, y1, y2⟩ := boxP3 hR.out.1.now.2.2
    have z0 := frozen_at hR.out.1.now.2.2 0
    have z1 := frozen_at hR.out.1.now.2.2 1
    have z2 := frozen_at hR.out.1.now.2.2 2
    by_cases hlt : k < m
    · have hkL : k < L.length := by rw [← HX.out.2.1]; exact hlt
      have hks : k < d.ss.length := by rw [← HX.out.1, List.length_map]; exact hkL
      have hel : d.ss[k] = L[k].s := by simp only [← HX.out.1, List.getElem_map]
      obtain ⟨g, o, c1, e, _, _, _, hcell⟩ := HX.out.2.2.1.at (by omega)
      injection e with e1 e2 e3
      subst e1 e3
      clear e2
      have hnd := (hcell k hkL).keep hR.out.1.now.1 (fun h => h)
      have hev := HX.out.2.2.2 _ (List.getElem_mem hkL)
      have hyes : L[k].s.num = q → getS d.ss q = some L[k].s := fun h => by
        rw [← hel]; exact getS_first hks (by rw [hel]; exact h) hR.out.2
      have hnot : L[k].s.num ≠ q → ∀ j (h1 : j < d.ss.length), j < k + 1 → d.ss[j].num ≠ q := fun h j h1 hj => by
        rcases Nat.lt_or_eq_of_le (show j ≤ k by omega) with e | e
        · exact hR.out.2 j h1 e
        · subst e; rw [hel]; exact h
      have HG := Lib.hid (And.intro hyes (And.intro hnot hev))
      have HL := Lib.hid hlt
      clear hcell hev hyes hnot hel hks
      generalize L[k] = x at *
      clear hkL
      obtain ⟨⟨xs, xn, xe⟩, xa, xc⟩ := x
      have c0 := hnd.c0; have c1 := hnd.c1; have c2 := hnd.c2
      unfold Sv.ev at c2
      simp only at c0 c1 c2
      obtain ⟨xl, hxl⟩ : ∃ n, n = xe.length := ⟨_, rfl⟩
      rw [← hxl] at c2
      have HXL := Lib.hid hxl
      have q3 : ((k : Int) < (m : Int)) = True := eq_true (by omega)
      have q4 : (k < m) = True := eq_true hlt
      clear hnd hlt hxl
      by_cases hq : xs = q
      · have hgs := HG.out.1 hq
        have hx1 := heap_setCell_same wr (w.heap.size + 1) 0 _ TV (.int .i64 xs) hR.out.1.now.2.2
        have hx2 := heap_setCell_same _ (w.heap.size + 1) 1 _ TV (.int .i64 xn) hx1
        have hx3 := heap_setCell_same _ (w.heap.size + 1) 2 _ TV (.slice xa xl xc) hx2
        have u1 := (boxP3 hx1).2.1
        have u2 := frozen_at hx1 1
        have u3 := (boxP3 hx2).2.2
        have u4 := frozen_at hx2 2
        have hfs : Fp (fun j => j = w.heap.size + 1) wr (((wr.setCell ⟨w.heap.size + 1, 0, none⟩ (.int .i64 xs)).setCell ⟨w.heap.size + 1, 1, none⟩ (.int .i64 xn)).setCell ⟨w.heap.size + 1, 2, none⟩ (.slice xa xl xc)) := ((fp_cell wr _ 0 _).same (fp_cell _ _ 1 _)).same (fp_cell _ _ 2 _)
        have HF := Lib.hid (And.intro hx3 (And.intro (hR.out.1.now.1.trans hfs (fun j hj => .inr (by have hj : j = w.heap.size + 1 := hj; omega))) hgs))
        subst hq
        have q7 : (xs == xs) = true := by simp
        clear hx1 hx2 hx3 hfs hgs
        go_wp2_with fail
        generalize (World.setCell (World.setCell (World.setCell wr _ _) _ _) _ _) = wz at *
        obtain ⟨s0, s1, s2⟩ := boxP3 HF.out.1
        refine bodyPost_ret (v := .tuple #[.agg #[.int .i64 xs, .int .i64 xn, .slice xa xl xc], .bool true]) (by simp [results, Try.results29, go_sem, s0, s1, s2]) rfl ?_
        have hse : seS d.ss xs = ⟨xs, xn, xe⟩ := by unfold seS; rw [HF.out.2.2]; rfl
        refine ⟨⟨_, by rw [hse, HF.out.2.2]; rfl, ?_⟩, HF.out.2.1⟩
        rw [hse]
        have := HG.out.2.2.non HF.out.2.1
        unfold Sv.ev at this
        simp only at this
        rw [← HXL.out] at this
        exact this
      · have q7 : (xs == q) = false := by simpa using hq
        have q8 : (xs = q) = False := eq_false hq
        have hM : Hid (Kp (fun W' => Fp Non w W' ∧ W'.heap[w.heap.size]? = some (.cells #[.slice aw n cw, .slice (some ⟨g, o, none⟩) m cs] TD (0, 0)) ∧ W'.heap[w.heap.size + 1]? = some (.cells #[.int .i64 0, .int .i64 0, .slice none 0 0] TV (0, 0))) wr ∧ ∀ j (h1 : j < d.ss.length), j < k + 1 → d.ss[j].num ≠ q) := ⟨hR.out.1, HG.out.2.1 hq⟩
        have hkn := HL.out
        clear HG
        go_wp2
        go_roundw
        case rel => exact ⟨k + 1, by omega, by go_num, hM⟩
        case measure => simp [RowKit.intOf]; omega
    · have hke : k = m := by omega
      subst hke
      have q3 : ((k : Int) < (k : Int)) = False := eq_false (by omega)
      have hgs : getS d.ss q = none := getS_no (fun j hj => hR.out.2 j hj (by rw [HX.out.2.1]; rw [← HX.out.1, List.length_map] at hj; exact hj))
      have hx1 := heap_setCell_same wr (w.heap.size + 1) 0 _ TV (.int .i64 q) hR.out.1.now.2.2
      have hx2 := heap_setCell_same _ (w.heap.size + 1) 1 _ TV (.int .i64 0) hx1
      have hx3 := heap_setCell_same _ (w.heap.size + 1) 2 _ TV (.slice none 0 0) hx2
      have u1 := (boxP3 hx1).2.1
      have u2 := frozen_at hx1 1
      have u3 := (boxP3 hx2).2.2
      have u4 := frozen_at hx2 2
      have hfs : Fp (fun j => j = w.heap.size + 1) wr (((wr.setCell ⟨w.heap.size + 1, 0, none⟩ (.int .i64 q)).setCell ⟨w.heap.size + 1, 1, none⟩ (.int .i64 0)).setCell ⟨w.heap.size + 1, 2, none⟩ (.slice none 0 0)) := ((fp_cell wr _ 0 _).same (fp_cell _ _ 1 _)).same (fp_cell _ _ 2 _)
      have HF := Lib.hid (And.intro hx3 (And.intro (hR.out.1.now.1.trans hfs (fun j hj => .inr (by have hj : j = w.heap.size + 1 := hj; omega))) hgs))
      clear hlt hk hx1 hx2 hx3 hfs hgs
      go_wp2_with fail
      generalize (World.setCell (World.setCell (World.setCell wr _ _) _ _) _ _) = wz at *
      obtain ⟨s0, s1, s2⟩ := boxP3 HF.out.1
      refine bodyPost_ret (v := .tuple #[.agg #[.int .i64 q, .int .i64 0, .slice none 0 0], .bool false]) (by simp [results, Try.results29, go_sem, s0, s1, s2]) rfl ?_
      have hse : seS d.ss q = ⟨q, 0, []⟩ := by unfold seS; rw [HF.out.2.2]; rfl
      exact ⟨⟨_, by rw [hse, HF.out.2.2]; rfl, by rw [hse]; exact NsE.nil _⟩, HF.out.2.1⟩
end Go.Proofs.Ytjdpbieifcjmiaa
