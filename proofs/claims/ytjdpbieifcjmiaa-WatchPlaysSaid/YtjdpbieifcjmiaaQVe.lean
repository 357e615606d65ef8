/- A text of this proof. -/
import Derived.Test.YtjdpbieifcjmiaaQVb
import Derived.Test.YtjdpbieifcjmiaaZB
import Derived.Deep.CutRange
import Derived.Deep.Upon
/- The document's Tell (gen_ve.py) -/
namespace Go.Proofs.Ytjdpbieifcjmiaa
set_option maxRecDepth 20000
set_option linter.unusedVariables false
set_option linter.unusedSimpArgs false
open Go.RowKit Pm


/-- The blocks that a round writes besides new ones. -/
def Sb (w : World) (v : Value) (k : Nat) : Prop := v.ownBlock = some k ∨ k = w.heap.size ∨ k = w.heap.size + 1
/-- Between two watches. -/
structure TeD (w : World) (A B : Value) (a : List Wt × List Se) (v8 : Value) (W : World) : Prop where
  own : OwW (w.heap.size + 1 + 1) W v8 a.1
  box : W.heap[w.heap.size]? = some (.cells #[A, B] TD (0, 0))
  zb : W.heap[w.heap.size + 1]? = some (.cells #[.slice none 0 0, .slice none 0 0] TD (0, 0))
  hs : ∃ L : List Sv, L.map Sv.s = a.2 ∧ ∀ W', Fp (Sb w v8) W W' → NsV W' B L ∧ ∀ x ∈ L, NsE W' x.ev x.s.evs
  fp : Fp Non w W
theorem TeD.start {w W : World} {A B : Value} {ss : List Se} (hs : Ses w B ss) (f : Fp Non w W) (hb : W.heap[w.heap.size]? = some (.cells #[A, B] TD (0, 0))) (hz : W.heap[w.heap.size + 1]? = some (.cells #[.slice none 0 0, .slice none 0 0] TD (0, 0))) : TeD w A B ([], ss) (.slice none 0 0) W := by
  obtain ⟨L, h1, h2, h3⟩ := hs.ex
  refine ⟨OwW.nil _ _, hb, hz, ⟨L, h1, fun W' g => ?_⟩, f⟩
  have q : Fp Non w W' := f.over g (fun k hk => by
    rcases hk with h | h | h
    · cases h
    · omega
    · omega)
  exact ⟨h2.non q, fun x hx => (h3 x hx).non q⟩
theorem TeD.non {w : World} {A B : Value} {a : List Wt × List Se} {v8 : Value} {W W' : World} (h : TeD w A B a v8 W) (f : Fp Non W W') : TeD w A B a v8 W' := by
  obtain ⟨L, h1, h2⟩ := h.hs
  exact ⟨h.own.non f, f.heap h.box (fun h => h), f.heap h.zb (fun h => h), ⟨L, h1, fun W2 g => h2 W2 (f.any.same g)⟩, h.fp.then f⟩
theorem TeD.wd {w : World} {A B : Value} {a : List Wt × List Se} {v8 : Value} {W : World} {ws : List Wt} (h : TeD w A B a v8 W) (hw : NsW w A ws) : WdR W (.agg #[A, B]) ⟨ws, a.2⟩ := by
  obtain ⟨L, h1, h2⟩ := h.hs
  have h3 := h2 W (Fp.refl _ _)
  exact ⟨_, _, rfl, hw.non h.fp, L, h1, h3.1, h3.2⟩
theorem TeD.app {w : World} {A B : Value} {l : List Wt} {ss : List Se} {v8 : Value} {W : World} {cs : Array Value} {x : Wt} {v' : Value} {w' : World} (h : TeD w A B (l, ss) v8 W) (hR : ChRW (w.heap.size + 1 + 1) (W.alloc (.cells cs TW)) v8 (l ++ [x]) v' w') : TeD w A B (l ++ [x], ss) v' w' := by
  have k := h.non (fp_alloc W (.cells cs TW))
  obtain ⟨L, h1, h2⟩ := k.hs
  refine ⟨hR.own, hR.fp.heap k.box (fun e => ?_), hR.fp.heap k.zb (fun e => ?_), ⟨L, h1, fun W2 g => h2 W2 ?_⟩, k.fp.over hR.fp (fun j hj => ?_)⟩
  · have := k.own.low _ e; omega
  · have := k.own.low _ e; omega
  · refine Fp.trans (hR.fp.mono (fun j hj => .inl hj)) g (fun j hj => ?_)
    rcases hj with hj | hj
    · exact (hR.new j hj).imp .inl id
    · exact .inl (.inr hj)
  · have := k.own.low _ hj; omega
/-- Behind put, stored. -/
theorem TeD.set {w : World} {A B : Value} {l : List Wt} {ss ss' : List Se} {v8 : Value} {W W1 W2 : World} {L L' : List Sv} {s : Sv} {out : Value} (h : TeD w A B (l, ss) v8 W) (hst : ∀ W', Fp (Sb w v8) W W' → NsV W' B L ∧ ∀ x ∈ L, NsE W' x.ev x.s.evs) {lo : Nat} (hlo : ∀ k, v8.ownBlock = some k → k < lo) (hlw : w.heap.size + 1 < lo) (hlW : lo ≤ W.heap.size)
    (f : Fp Non W W1) (h1 : L'.map Sv.s = ss') (h2 : NsV W1 out L') (hlow : ∀ k, out.ownBlock = some k → W.heap.size ≤ k) (h4 : ∀ y ∈ L', y = s ∨ y ∈ L) (hse : NsE W s.ev s.s.evs) (hsl : ∀ k, s.ev.ownBlock = some k → lo ≤ k)
    (g : Fp (fun k => k = w.heap.size) W1 W2) (hb : W2.heap[w.heap.size]? = some (.cells #[A, out] TD (0, 0))) : TeD w A out (l, ss') v8 W2 := by
  have k := h.non f
  have hall : ∀ W', Fp (Sb w v8) W2 W' → Fp (Sb w v8) W W' := fun W' q => ((f.any (S := Sb w v8)).same (g.mono (fun _ e => .inr (.inl e)))).same q
  have hS : ∀ j, Sb w v8 j → j < lo := fun j hj => by
    rcases hj with hj | hj | hj
    · exact hlo j hj
    · omega
    · omega
  refine ⟨k.own.keep g (fun j hj e => ?_), hb, g.heap k.zb (fun e => ?_), ⟨L', h1, fun W' q => ⟨?_, fun y hy => ?_⟩⟩, k.fp.over g (fun j hj => ?_)⟩
  · have := k.own.low j hj; have e : j = w.heap.size := e; omega
  · have e : w.heap.size + 1 = w.heap.size := e; omega
  · exact h2.keep ((g.mono (fun _ e => .inr (.inl e))).same q) (fun j hj hs => by have := hlow j hj; have := hS j hs; omega)
  · rcases h4 y hy with rfl | hy
    · exact hse.keep (hall W' q) (fun j hj hs => by have := hsl j hj; have := hS j hs; omega)
    · exact (hst W' (hall W' q)).2 y hy
  · have hj : j = w.heap.size := hj; omega
/-- The boxes of a round. -/
structure Bq (W0 : World) (bx bs be : Nat) (x : Wt) (sn c : Int) (sv : Value) (e : Ev) (W : World) : Prop where
  rx : W.heap[bx]? = some (.cells #[.int .i64 x.s, .int .i64 x.n, .string (B x.p), .bool x.d] TW (0, 0))
  rs : W.heap[bs]? = some (.cells #[.int .i64 sn, .int .i64 c, sv] TV (0, 0))
  re : W.heap[be]? = some (.cells #[.int .i64 e.num, .int .i64 e.kind, .string (B e.p), .int .i64 e.wt] TE (0, 0))
  fp : Fp Non W0 W
  ls : W0.heap.size ≤ bs
  le : W0.heap.size ≤ be
section
variable {W0 : World} {bx bs be : Nat} {x : Wt} {sn c : Int} {sv : Value} {e : Ev} {W : World}
theorem Bq.non {W' : World} (h : Bq W0 bx bs be x sn c sv e W) (f : Fp Non W W') : Bq W0 bx bs be x sn c sv e W' := ⟨f.heap h.rx (fun h => h), f.heap h.rs (fun h => h), f.heap h.re (fun h => h), h.fp.then f, h.ls, h.le⟩
theorem Bq.e1 (h : Bq W0 bx bs be x sn c sv e W) (v : Int) : Bq W0 bx bs be x sn c sv ⟨e.num, v, e.p, e.wt⟩ (W.setCell ⟨be, 1, none⟩ (.int .i64 v)) :=
  ⟨(fp_cell W be 1 _).heap h.rx (fun q => by have q : bx = be := q; exact type_ne (q ▸ h.rx) h.re (by decide)), (fp_cell W be 1 _).heap h.rs (fun q => by have q : bs = be := q; exact type_ne (q ▸ h.rs) h.re (by decide)), heap_setCell_same W be 1 _ TE _ h.re, h.fp.over (fp_cell W be 1 _) (fun k hk => by have hk : k = be := hk; rw [hk]; exact h.le), h.ls, h.le⟩
theorem Bq.e2 (h : Bq W0 bx bs be x sn c sv e W) (v : Bs) : Bq W0 bx bs be x sn c sv ⟨e.num, e.kind, v, e.wt⟩ (W.setCell ⟨be, 2, none⟩ (.string (B v))) :=
  ⟨(fp_cell W be 2 _).heap h.rx (fun q => by have q : bx = be := q; exact type_ne (q ▸ h.rx) h.re (by decide)), (fp_cell W be 2 _).heap h.rs (fun q => by have q : bs = be := q; exact type_ne (q ▸ h.rs) h.re (by decide)), heap_setCell_same W be 2 _ TE _ h.re, h.fp.over (fp_cell W be 2 _) (fun k hk => by have hk : k = be := hk; rw [hk]; exact h.le), h.ls, h.le⟩
theorem Bq.s1 (h : Bq W0 bx bs be x sn c sv e W) (v : Int) : Bq W0 bx bs be x sn v sv e (W.setCell ⟨bs, 1, none⟩ (.int .i64 v)) :=
  ⟨(fp_cell W bs 1 _).heap h.rx (fun q => by have q : bx = bs := q; exact type_ne (q ▸ h.rx) h.rs (by decide)), heap_setCell_same W bs 1 _ TV _ h.rs, (fp_cell W bs 1 _).heap h.re (fun q => by have q : be = bs := q; exact type_ne (q ▸ h.re) h.rs (by decide)), h.fp.over (fp_cell W bs 1 _) (fun k hk => by have hk : k = bs := hk; rw [hk]; exact h.ls), h.ls, h.le⟩
theorem Bq.s2 (h : Bq W0 bx bs be x sn c sv e W) (v : Value) : Bq W0 bx bs be x sn c v e (W.setCell ⟨bs, 2, none⟩ v) :=
  ⟨(fp_cell W bs 2 _).heap h.rx (fun q => by have q : bx = bs := q; exact type_ne (q ▸ h.rx) h.rs (by decide)), heap_setCell_same W bs 2 _ TV _ h.rs, (fp_cell W bs 2 _).heap h.re (fun q => by have q : be = bs := q; exact type_ne (q ▸ h.re) h.rs (by decide)), h.fp.over (fp_cell W bs 2 _) (fun k hk => by have hk : k = bs := hk; rw [hk]; exact h.ls), h.ls, h.le⟩
end

set_option maxHeartbeats 16000000 in
theorem rTell_w (v : Value) (d : Wd) (kd : Int) (p : Bs) (w : World) (hv : WdR w v d) (hz : SzD d) (hz2 : d.ss.length ≤ 19000) (hpl : p.length ≤ 1000000) :
    Calls Try.prog 17 #[v, .int .i64 kd, .string (B p)] w (RetW (tellM d kd p).1 (tellM d kd p).2 w) := by
  obtain ⟨vw, vs, rfl, hw, hs⟩ := hv.ex
  obtain ⟨aw, cw, rfl⟩ := hw.shape
  obtain ⟨at_, cs, rfl⟩ := hs.shape
  obtain ⟨n, hnn⟩ : ∃ n, n = d.ws.length := ⟨_, rfl⟩
  obtain ⟨m, hmm⟩ : ∃ m, m = d.ss.length := ⟨_, rfl⟩
  rw [← hnn] at hv hw ⊢
  rw [← hmm] at hv hs ⊢
  have HW := Lib.hid (And.intro hw hs)
  have f1 := fp_alloc w (.cells #[.slice aw n cw, .slice at_ m cs] TD)
  have f2 := fp_alloc (w.alloc (.cells #[.slice aw n cw, .slice at_ m cs] TD)) (.cells #[.slice none 0 0, .slice none 0 0] TD)
  have r0 := f2.heap (heap_alloc_new w (.cells #[.slice aw n cw, .slice at_ m cs] TD)) (fun h => h)
  have r1 := heap_alloc_new (w.alloc (.cells #[.slice aw n cw, .slice at_ m cs] TD)) (.cells #[.slice none 0 0, .slice none 0 0] TD)
  have sz1 : ((w.alloc (.cells #[.slice aw n cw, .slice at_ m cs] TD))).heap.size = w.heap.size + 1 := by simp
  rw [sz1] at r1
  have K0 := Lib.hid (Kp.and (Kp.row r0) (Kp.and (Kp.row r1) (Kp.and (Kp.wd (hv.non (f1.then f2))) (Kp.fp (f1.then f2)))))
  have hrr := fun W (hW : WdR W (.agg #[.slice aw n cw, .slice at_ m cs]) d) => rRight_w (.agg #[.slice aw n cw, .slice at_ m cs]) d W hW hz
  have hrp := fun W => rRight_g p W (sz_of (show p.length ≤ 1000000 from hpl) (by omega))
  obtain ⟨T, hT⟩ : ∃ T, T = tellM d kd p := ⟨_, rfl⟩
  rw [← hT]
  unfold tellM at hT
  obtain ⟨br, hbr⟩ : ∃ b, rightW d = b := ⟨_, rfl⟩
  obtain ⟨b2, hb2⟩ : ∃ b, (split p).isSome = b := ⟨_, rfl⟩
  rw [hbr, hb2] at hT
  rw [hbr] at hrr
  rw [hb2] at hrp
  have HRR := Lib.hid hrr
  have HRP := Lib.hid hrp
  have HB := Lib.hid (And.intro hbr (And.intro hz (And.intro hnn (And.intro hmm (And.intro hz2 (And.intro hb2 hpl))))))
  have HT := Lib.hid hT
  clear hv hw hs hz hz2 hnn hmm r0 r1 sz1 f1 f2 hrr hrp hbr hb2 hT hpl
  obtain ⟨p0, p1⟩ := boxP2 K0.out.now.1
  go_enter Try.func17, Try.ntmps17
  go_wp2_with fail
  refine (HRR.out _ K0.out.now.2.2.1).mono ?_
  rintro e w1 ⟨rfl, hf⟩
  have K1 := Lib.hid (K0.out.later hf)
  clear hf p0 p1 HRR K0
  cases br with
  | false =>
    obtain ⟨t0, t1, t2, t3, t4, t5, hz4, hf4⟩ := two_set K1.out.now.2.1 (.slice none 0 0) (.slice none 0 0)
    have HE := Lib.hid (And.intro hz4 (And.intro (K1.out.now.2.2.2.over hf4 (fun j hj => by have hj : j = w.heap.size + 1 := hj; omega)) hf4))
    clear hz4 hf4
    go_wp2_with fail
    generalize (World.setCell (World.setCell _ _ _) _ _) = wz at *
    obtain ⟨e0, e1⟩ := boxP2 HE.out.1
    refine bodyPost_ret (v := .tuple #[.agg #[.slice none 0 0, .slice none 0 0], .int .i64 1]) (by simp [results, Try.results17, go_sem, e0, e1]) rfl ?_
    rw [show T = (⟨[], []⟩, 1) from by rw [HT.out]; first | (simp; done) | (rw [if_neg (fun h => by simp at h; omega)])]
    exact ⟨⟨_, _, rfl, NsW.nil _, Ses.nil _⟩, HE.out.2.1⟩
  | true =>
    by_cases hk1 : kd < 1
    · have t1 : (kd < 1) = True := eq_true hk1
      have hnk : ¬ (1 ≤ kd) := by omega
      obtain ⟨t0, t1, t2, t3, t4, t5, hz4, hf4⟩ := two_set K1.out.now.2.1 (.slice none 0 0) (.slice none 0 0)
      have HE := Lib.hid (And.intro hz4 (And.intro (K1.out.now.2.2.2.over hf4 (fun j hj => by have hj : j = w.heap.size + 1 := hj; omega)) hf4))
      clear hz4 hf4
      go_wp2_with fail
      generalize (World.setCell (World.setCell _ _ _) _ _) = wz at *
      obtain ⟨e0, e1⟩ := boxP2 HE.out.1
      refine bodyPost_ret (v := .tuple #[.agg #[.slice none 0 0, .slice none 0 0], .int .i64 1]) (by simp [results, Try.results17, go_sem, e0, e1]) rfl ?_
      rw [show T = (⟨[], []⟩, 1) from by rw [HT.out]; first | (simp; done) | (rw [if_neg (fun h => by simp at h; omega)])]
      exact ⟨⟨_, _, rfl, NsW.nil _, Ses.nil _⟩, HE.out.2.1⟩
    · have t1 : (kd < 1) = False := eq_false hk1
      by_cases hk3 : 3 < kd
      · have t2 : (3 < kd) = True := eq_true hk3
        have hnk : ¬ (kd ≤ 3) := by omega
        obtain ⟨t0, t1, t2, t3, t4, t5, hz4, hf4⟩ := two_set K1.out.now.2.1 (.slice none 0 0) (.slice none 0 0)
        have HE := Lib.hid (And.intro hz4 (And.intro (K1.out.now.2.2.2.over hf4 (fun j hj => by have hj : j = w.heap.size + 1 := hj; omega)) hf4))
        clear hz4 hf4
        go_wp2_with fail
        generalize (World.setCell (World.setCell _ _ _) _ _) = wz at *
        obtain ⟨e0, e1⟩ := boxP2 HE.out.1
        refine bodyPost_ret (v := .tuple #[.agg #[.slice none 0 0, .slice none 0 0], .int .i64 1]) (by simp [results, Try.results17, go_sem, e0, e1]) rfl ?_
        rw [show T = (⟨[], []⟩, 1) from by rw [HT.out]; first | (simp; done) | (rw [if_neg (fun h => by simp at h; omega)])]
        exact ⟨⟨_, _, rfl, NsW.nil _, Ses.nil _⟩, HE.out.2.1⟩
      · have t2 : (3 < kd) = False := eq_false hk3
        go_wp2_with fail
        refine (HRP.out _).mono ?_
        rintro e w4 ⟨rfl, hf⟩
        have K4 := Lib.hid (K1.out.later hf.fp)
        clear hf K1 HRP
        cases b2 with
        | false =>
          obtain ⟨t0, t1, t2, t3, t4, t5, hz4, hf4⟩ := two_set K4.out.now.2.1 (.slice none 0 0) (.slice none 0 0)
          have HE := Lib.hid (And.intro hz4 (And.intro (K4.out.now.2.2.2.over hf4 (fun j hj => by have hj : j = w.heap.size + 1 := hj; omega)) hf4))
          clear hz4 hf4
          go_wp2_with fail
          generalize (World.setCell (World.setCell _ _ _) _ _) = wz at *
          obtain ⟨e0, e1⟩ := boxP2 HE.out.1
          refine bodyPost_ret (v := .tuple #[.agg #[.slice none 0 0, .slice none 0 0], .int .i64 1]) (by simp [results, Try.results17, go_sem, e0, e1]) rfl ?_
          rw [show T = (⟨[], []⟩, 1) from by rw [HT.out]; first | (simp; done) | (rw [if_neg (fun h => by simp at h; omega)])]
          exact ⟨⟨_, _, rfl, NsW.nil _, Ses.nil _⟩, HE.out.2.1⟩
        | true =>
          have HKK := Lib.hid (show 1 ≤ kd ∧ kd ≤ 3 from ⟨by omega, by omega⟩)
          have HTT := Lib.hid (show T = (⟨(tellL kd p d.ws d.ss).1, (tellL kd p d.ws d.ss).2⟩, 0) from by rw [HT.out]; simp [HKK.out])
          have HR := Lib.hid ((right_iff d).1 HB.out.1)
          have HT0 := Lib.hid (show TeD w (.slice aw n cw) (.slice at_ m cs) (tellL kd p (d.ws.take 0) d.ss) (.slice none 0 0) w4 from by rw [show tellL kd p (d.ws.take 0) d.ss = ([], d.ss) from by simp [tellL]]; exact TeD.start HW.out.2 K4.out.now.2.2.2 K4.out.now.1 K4.out.now.2.1)
          have hnb : n ≤ 64 := by rw [HB.out.2.2.1]; exact HR.out.1
          clear HT t1 t2 hk1 hk3
          obtain ⟨p0, p1⟩ := boxP2 K4.out.now.1
          go_wp2_with fail
          clear K4 p0 p1
          go_loopw [8, 10] (fun v8 i wr => ∃ k : Nat, k ≤ n ∧ i = .int .i64 k ∧ ∃ la lm lc, v8 = .slice la lm lc ∧ Hid (∃ a2 m2 c2, TeD w (.slice aw n cw) (.slice a2 m2 c2) (tellL kd p (d.ws.take k) d.ss) (.slice la lm lc) wr)) (fun _ i _ => n - (RowKit.intOf i).toNat)
          case atStart => exact ⟨0, Nat.zero_le _, rfl, _, _, _, rfl, ⟨_, _, _, HT0.out⟩⟩
          case round =>
            clear HT0
            obtain ⟨k, hk, rfl, la, lm, lc, rfl, hR⟩ := hrel
            rename_i wr _
            obtain ⟨a2, m2, c2, hT⟩ := hR.out
            clear hR
            by_cases hlt : k < n
            · have hkL : k < d.ws.length := by rw [← HB.out.2.2.1]; exact hlt
              have hsucc := tell_succ kd p d.ws d.ss k hkL
              have hRS := tell_rs HKK.out HB.out.2.2.2.2.2.1 HR.out.2.1.1 HR.out.2.2 k (Nat.le_of_lt hkL)
              have hl1 := (tell_sub kd p d.ws d.ss k (Nat.le_of_lt hkL)).length_le
              have hl2 := tell_len kd p d.ws d.ss k (Nat.le_of_lt hkL)
              have hxr := HR.out.2.1.1 _ (List.getElem_mem hkL)
              have hxp := HB.out.2.1.wp _ (List.getElem_mem hkL)
              rw [List.length_take] at hl1
              obtain ⟨g, o, c9, e, _, _, _, hcell⟩ := HW.out.1.at (by omega)
              injection e with e1 e2 e3
              subst e1 e3
              clear e2
              have hnd := (hcell k hkL).keep hT.fp (fun h => h)
              obtain ⟨N, hN⟩ : ∃ N, N = tellL kd p (d.ws.take (k + 1)) d.ss := ⟨_, rfl⟩
              have HN := Lib.hid hN
              rw [← hN] at hsucc
              clear hcell hN
              generalize tellL kd p (d.ws.take k) d.ss = acc at *
              generalize d.ws[k] = x at *
              rw [← rst_tst kd p acc x hRS hxr] at hsucc
              obtain ⟨l, ss⟩ := acc
              obtain ⟨xs, xn, xp, xd⟩ := x
              simp only at hRS hl1 hl2 hxp
              have c0 := hnd.c0; have c1 := hnd.c1; have c2' := hnd.c2; have c3 := hnd.c3
              unfold strV at c2'
              simp only at c0 c1 c2' c3
              have HT := Lib.hid hT
              obtain ⟨s, hs⟩ : ∃ s, seS ss xs = s := ⟨_, rfl⟩
              have hsr := ((rSe_iff _).1 (seS_right hRS ((rWt_iff _).1 hxr).1)).2.1
              simp only at hsr
              unfold rst at hsucc
              simp only at hsucc
              rw [hs] at hsucc hsr
              obtain ⟨sn, c, se⟩ := s
              simp only at hsucc hsr
              obtain ⟨q, hq⟩ : ∃ q, q = se.length := ⟨_, rfl⟩
              rw [← hq] at hsucc hsr
              have hcb : 0 ≤ c ∧ c ≤ 281474976710656 := ⟨hsr.1, hsr.2.1⟩
              have hqb : q ≤ 8 := hsr.2.2.1
              obtain ⟨SS, hSS⟩ : ∃ z, z = (if q < 8 ∧ c < mxN then putS ss ⟨sn, c + 1, se ++ [if q = 7 then ⟨c + 1, 4, xp, xn⟩ else ⟨c + 1, kd, p, xn⟩]⟩ else ss) := ⟨_, rfl⟩
              rw [← hSS] at hsucc
              obtain ⟨oc, hoc⟩ : ∃ z, ofCh p ⟨xs, xn, xp, xd⟩ = z := ⟨_, rfl⟩
              rw [hoc] at hsucc
              have hoc2 : oc = (decide (xp = p) || (xd && inB p xp)) := hoc.symm
              have HOC := Lib.hid hoc2
              have HSUC := Lib.hid hsucc
              have HSS := Lib.hid hSS
              have HSE := Lib.hid hs
              have HQL := Lib.hid hq
              have HRS := Lib.hid hRS
              have HLEN := Lib.hid (show l.length ≤ 64 ∧ ss.length ≤ 20000 ∧ se.length ≤ 8 from ⟨by omega, by have := HB.out.2.2.2.2.1; omega, by omega⟩)
              have hin := fun W => rIn_g p xp W (sz_of (show p.length ≤ 1000000 from HB.out.2.2.2.2.2.2) (by omega)) (sz_of (show xp.length ≤ 1000000 from hxp) (by omega))
              have HIN := Lib.hid hin
              have q3 : ((k : Int) < (n : Int)) = True := eq_true (by omega)
              have q4 : (k < n) = True := eq_true hlt
              have HL := Lib.hid hlt
              clear hnd hsucc hRS hl1 hl2 hxr hxp hT hs hsr hq hSS hoc hoc2 hin hlt hkL
              go_upto_region 9 with (fail)
              have hxa := heap_alloc_new wr (.cells #[.int .i64 xs, .int .i64 xn, .string (B xp), .bool xd] TW)
              obtain ⟨x0, x1, x2, x3⟩ := boxP4 hxa
              clear hxa
              go_cut [59] from 35 to 119 (fun x59 wc => x59 = .bool (!oc) ∧ Hid (Fp Non (wr.alloc (.cells #[.int .i64 xs, .int .i64 xn, .string (B xp), .bool xd] TW)) wc))
              case first =>
                by_cases h1 : xp = p
                · obtain rfl : oc = true := by rw [HOC.out]; simp [h1]
                  have q5 : (xp != p) = false := by simpa using h1
                  have q6 : (xp = p) = True := eq_true h1
                  have HF0 := Lib.hid (Fp.refl Non (wr.alloc (.cells #[.int .i64 xs, .int .i64 xn, .string (B xp), .bool xd] TW)))
                  clear h1
                  go_wp2_with fail
                  go_meet
                  case rel => exact ⟨by first | rfl | simp [q7], HF0.out⟩
                · have q5 : (xp != p) = true := by simpa using h1
                  have q6 : (xp = p) = False := eq_false h1
                  have q7 : (xp == p) = false := beq_eq_false_iff_ne.2 h1
                  have HF0 := Lib.hid (Fp.refl Non (wr.alloc (.cells #[.int .i64 xs, .int .i64 xn, .string (B xp), .bool xd] TW)))
                  cases xd with
                  | false =>
                    obtain rfl : oc = false := by rw [HOC.out]; simp [h1]
                    clear h1
                    go_wp2_with fail
                    go_meet
                    case rel => exact ⟨by first | rfl | simp [q7], HF0.out⟩
                  | true =>
                    have HO2 := Lib.hid (show inB p xp = oc by rw [HOC.out]; simp [h1])
                    clear h1
                    go_wp2_with fail
                    refine (HIN.out _).mono ?_
                    rintro e wb ⟨rfl, hg⟩
                    rw [HO2.out]
                    have F1 := Lib.hid hg.fp
                    clear hg
                    cases oc with
                    | false =>
                      go_wp2_with fail
                      go_meet
                      case rel => exact ⟨by first | rfl | simp [q7], F1.out⟩
                    | true =>
                      go_wp2_with fail
                      go_meet
                      case rel => exact ⟨by first | rfl | simp [q7], F1.out⟩
              case rest =>
                obtain ⟨rfl, hF⟩ := hcut
                rename World => w2
                clear c0 c1 c2' c3 x0 x1 x2 x3 HIN HOC
                cases oc with
                | false =>
                  have HQ2 := Lib.hid (HT.out.non (((fp_alloc wr (.cells #[.int .i64 xs, .int .i64 xn, .string (B xp), .bool xd] TW))).then hF.out))
                  have HX2 := Lib.hid (hF.out.heap (heap_alloc_new wr (.cells #[.int .i64 xs, .int .i64 xn, .string (B xp), .bool xd] TW)) (fun h => h))
                  obtain ⟨x0, x1, x2, x3⟩ := boxP4 HX2.out
                  have HS0 := Lib.hid (show (l ++ [(⟨xs, xn, xp, xd⟩ : Wt)], ss) = N from by have h := HSUC.out; rw [if_neg (by decide)] at h; exact h.symm)
                  have hap := app_wt w2 (w.heap.size + 1 + 1) (.slice la lm lc) l ⟨xs, xn, xp, xd⟩ TLW HQ2.out.own (by have := HLEN.out.1; omega) (Array.getElem?_eq_some_iff.1 HQ2.out.zb).1
                  have HAP := Lib.hid hap
                  clear hap
                  go_wp2_with (at_builtin; go_must (refine wpList_app rfl _ _ _ _ rfl _ _ rfl rfl _ HAP.out ?_))
                  intro v4 w4 hR4
                  obtain ⟨la4, lm4, lc4, rfl⟩ : ∃ a n c, v4 = .slice a n c := by obtain ⟨a, c, e⟩ := hR4.own.ns.shape; exact ⟨a, _, c, e⟩
                  have HM : Hid (∃ a2 m2 c2, TeD w (.slice (some ⟨g, o, none⟩) n cw) (.slice a2 m2 c2) N (.slice la4 lm4 lc4) w4) := ⟨_, _, _, by rw [← (HS0.out)]; exact HQ2.out.app hR4⟩
                  clear hR4 HAP
                  have hkn := HL.out
                  go_wp2
                  go_roundw
                  case rel => exact ⟨k + 1, by omega, by go_num, _, _, _, rfl, by rw [← HN.out]; exact HM.out⟩
                  case measure => simp [RowKit.intOf]; omega
                | true =>
                  have HTOLD := Lib.hid (show N = (if xd = true ∧ q < 7 then l ++ [(⟨xs, xn, xp, xd⟩ : Wt)] else l, SS) from by have h := HSUC.out; rw [if_pos rfl] at h; exact h)
                  clear HSUC
                  have HQ2 := Lib.hid (HT.out.non (((fp_alloc wr (.cells #[.int .i64 xs, .int .i64 xn, .string (B xp), .bool xd] TW))).then hF.out))
                  have HX2 := Lib.hid (hF.out.heap (heap_alloc_new wr (.cells #[.int .i64 xs, .int .i64 xn, .string (B xp), .bool xd] TW)) (fun h => h))
                  obtain ⟨p0, p1⟩ := boxP2 HQ2.out.box
                  obtain ⟨x0, x1, x2, x3⟩ := boxP4 HX2.out
                  have hfi := Find_c (.agg #[(.slice (some ⟨g, o, none⟩) n cw), .slice a2 m2 c2]) ⟨d.ws, ss⟩ xs w2 (HQ2.out.wd HW.out.1) (by have := HLEN.out.2.1; simp only; omega)
                  have HFI := Lib.hid hfi
                  clear hfi
                  go_wp2_with fail
                  refine HFI.out.mono ?_
                  rintro e w3 hR
                  have hex := hR.ex
                  try simp only at hex
                  rw [HSE.out] at hex
                  obtain ⟨ev, rfl, hev⟩ := hex
                  try simp only at hev
                  try simp only
                  obtain ⟨ea, ec, rfl⟩ := hev.shape
                  rw [← HQL.out] at hev ⊢
                  have HVE3 := Lib.hid hev
                  have HQ3 := Lib.hid (And.intro (HQ2.out.non hR.fp) (hR.fp.heap HX2.out (fun h => h)))
                  clear hR hev HFI HQ2 HX2 p0 p1 x0 x1 x2 x3 hF
                  obtain ⟨p0, p1⟩ := boxP2 HQ3.out.1.box
                  obtain ⟨x0, x1, x2, x3⟩ := boxP4 HQ3.out.2
                  by_cases h8 : q < 8
                  · by_cases hc : c < 281474976710656
                    · have t8 : (q < 8) = True := eq_true h8
                      have t8i : ((q : Int) < 8) = True := eq_true (by omega)
                      have tc : (c < 281474976710656) = True := eq_true hc
                      obtain ⟨c1, hc1⟩ : ∃ z, z = c + 1 := ⟨_, rfl⟩
                      have r4 : IntKind.i64.wrap (c + 1) = c1 := by rw [IntKind.wrap_i64]; omega
                      have HC1 := Lib.hid hc1
                      clear hc1
                      have HX4 := Lib.hid ((fp_alloc w3 (.cells #[.int .i64 sn, .int .i64 c, .slice ea q ec] TV)).heap HQ3.out.2 (fun h => h))
                      obtain ⟨y0, y1, y2, y3⟩ := boxP4 HX4.out
                      go_upto_region 15 with (fail)
                      have f5 := (fp_alloc w3 (.cells #[.int .i64 sn, .int .i64 c, .slice ea q ec] TV)).then (fp_alloc _ (.cells #[.int .i64 c1, .int .i64 kd, .string (B p), .int .i64 xn] TE))
                      have hre := heap_alloc_new (w3.alloc (.cells #[.int .i64 sn, .int .i64 c, .slice ea q ec] TV)) (.cells #[.int .i64 c1, .int .i64 kd, .string (B p), .int .i64 xn] TE)
                      rw [show ((w3.alloc (.cells #[.int .i64 sn, .int .i64 c, .slice ea q ec] TV))).heap.size = w3.heap.size + 1 by simp] at hre
                      have HB5 := Lib.hid (show Bq w3 wr.heap.size w3.heap.size (w3.heap.size + 1) ⟨xs, xn, xp, xd⟩ sn c (.slice ea q ec) ⟨c1, kd, p, xn⟩ ((w3.alloc (.cells #[.int .i64 sn, .int .i64 c, .slice ea q ec] TV)).alloc (.cells #[.int .i64 c1, .int .i64 kd, .string (B p), .int .i64 xn] TE)) from ⟨f5.heap HQ3.out.2 (fun h => h), (fp_alloc _ (.cells #[.int .i64 c1, .int .i64 kd, .string (B p), .int .i64 xn] TE)).heap (heap_alloc_new w3 (.cells #[.int .i64 sn, .int .i64 c, .slice ea q ec] TV)) (fun h => h), hre, f5, Nat.le_refl _, Nat.le_succ _⟩)
                      obtain ⟨bs, hbs⟩ : ∃ z, z = w3.heap.size := ⟨_, rfl⟩
                      obtain ⟨be, hbe⟩ : ∃ z, z = bs + 1 := ⟨_, rfl⟩
                      rw [← hbs, ← hbe] at HB5
                      rw [← hbs, ← hbe]
                      have HBS := Lib.hid (And.intro hbs hbe)
                      clear hbs hbe f5 hre x0 x1 x2 x3 p0 p1 y0 y1 y2 y3 HX4
                      generalize ((w3.alloc _).alloc _) = w5 at *
                      obtain ⟨x0, x1, x2, x3⟩ := boxP4 HB5.out.rx
                      obtain ⟨EV, hEV⟩ : ∃ z : Ev, z = if q = 7 then ⟨c1, 4, xp, xn⟩ else ⟨c1, kd, p, xn⟩ := ⟨_, rfl⟩
                      have HEV := Lib.hid hEV
                      clear hEV
                      go_upto_if 90 with (fail)
                      go_cut [] from 35 to 119 (fun wc => Hid (Bq w3 wr.heap.size bs be ⟨xs, xn, xp, xd⟩ sn c (.slice ea q ec) EV wc))
                      case first =>
                        by_cases h7 : q = 7
                        · have t7 : ((q : Int) == 7) = true := beq_iff_eq.2 (by omega)
                          have t7b : (q == 7) = true := beq_iff_eq.2 h7
                          have t7c : (q = 7) = True := eq_true h7
                          have HE7 := Lib.hid (HEV.out.trans (if_pos h7))
                          clear h7
                          try simp only [t7, t7b, t7c]
                          have z1 := frozen_at HB5.out.re 1
                          have e1 := (boxP4 HB5.out.re).2.1
                          go_upto_region 17 with (fail)
                          have HB6 := Lib.hid (HB5.out.e1 4)
                          clear x0 x1 x2 x3 z1 e1
                          generalize (World.setCell w5 _ _) = w6 at *
                          obtain ⟨x0, x1, x2, x3⟩ := boxP4 HB6.out.rx
                          have z1 := frozen_at HB6.out.re 2
                          have e1 := (boxP4 HB6.out.re).2.2.1
                          have HB7 := Lib.hid (HB6.out.e2 xp)
                          go_wp2_with fail
                          go_meet
                          case rel => rw [HE7.out]; exact HB7
                        · have t7 : ((q : Int) == 7) = false := beq_eq_false_iff_ne.2 (by omega)
                          have t7b : (q == 7) = false := beq_eq_false_iff_ne.2 h7
                          have t7c : (q = 7) = False := eq_false h7
                          have HE7 := Lib.hid (HEV.out.trans (if_neg h7))
                          clear h7
                          try simp only [t7, t7b, t7c]
                          go_wp2_with fail
                          go_meet
                          case rel => rw [HE7.out]; exact HB5
                      case rest =>
                        rename World => w6
                        have HB6 := Lib.hid hcut.out
                        clear HB5 hcut x0 x1 x2 x3
                        obtain ⟨en, ek, ep, ew⟩ := EV
                        obtain ⟨s0, s1, s2⟩ := boxP3 HB6.out.rs
                        have z1 := frozen_at HB6.out.rs 1
                        go_upto_region 19 with (fail)
                        have HB7 := Lib.hid (HB6.out.s1 c1)
                        clear s0 s1 s2 z1 HB6
                        generalize (World.setCell w6 _ _) = w7 at *
                        go_cut [] from 35 to 119 (fun wc => ∃ a8 m8 c8, Hid (Bq w3 wr.heap.size bs be ⟨xs, xn, xp, xd⟩ sn c1 (.slice a8 m8 c8) ⟨en, ek, ep, ew⟩ wc ∧ OwE w3.heap.size wc (.slice a8 m8 c8) (se ++ [(⟨en, ek, ep, ew⟩ : Ev)])))
                        case first =>
                          have HBD := Lib.hid (HB7.out.non (Fp.refl Non w7).drew)
                          have Hq := Lib.hid (fun W (f : Fp Non w7.drew W) => And.intro (boxP3 (HBD.out.non f).rs).2.2 (boxP4 (HBD.out.non f).re))
                          have HVE := Lib.hid (show NsE w7.drew (.slice ea q ec) se from HVE3.out.non HBD.out.fp)
                          have ST0 := Lib.hid (Est.start w7.drew se ⟨en, ek, ep, ew⟩)
                          go_wp2_with fail
                          refine wp_region_held_drew (S := (fun W => W.cell? ⟨be, 0, none⟩ = some (.int .i64 en) ∧ W.cell? ⟨be, 1, none⟩ = some (.int .i64 ek) ∧ W.cell? ⟨be, 2, none⟩ = some (.string (B ep)) ∧ W.cell? ⟨be, 3, none⟩ = some (.int .i64 ew))) (by kernel_rfl) ?_ (fun hHeld => ?_)
                          · exact (Hq.out _ (Fp.refl Non _)).2
                          generalize w7.drew = q0 at *
                          refine tk 1 hHeld ?_
                          refine tk 4 hHeld ?_
                          refine wpAnyH_ready (rs := [0, 2, 5]) (by kernel_rfl) (by simp) ?_
                          refine (AllReadyH.cons (o := ?_) (by simp only [zA, zB, zC] <;> exact rfl) (fun K hK => ?_) (AllReadyH.cons (o := ?_) (by simp only [zA, zB, zC] <;> exact rfl) (fun K hK => ?_) (AllReadyH.cons (o := ?_) (by simp only [zA, zB, zC] <;> exact rfl) (fun K hK => ?_) AllReadyH.nil)))
                          · go_simp
                            have ST1 := Lib.hid ST0.out.b1
                            refine hK.out _ _ (Hq.out _ ST1.out.f).2 (fun hHeld => ?_)
                            clear hK K
                            try simp only [zP, zN, zS, zT, zU]
                            obtain ⟨g1, hg1⟩ : ∃ q, q0.heap.size = q := ⟨_, rfl⟩
                            rw [hg1] at ST1 ⊢
                            clear hg1
                            generalize (q0.alloc (.cells #[] TE)) = z1w at *
                            refine wpAnyH_ready (rs := [2, 5]) (by kernel_rfl) (by simp) ?_
                            refine (AllReadyH.cons (o := ?_) (by simp only [zA, zB, zC] <;> exact rfl) (fun K hK => ?_) (AllReadyH.cons (o := ?_) (by simp only [zA, zB, zC] <;> exact rfl) (fun K hK => ?_) AllReadyH.nil))
                            · have l0 := (Hq.out _ ST1.out.f).1
                              go_simp
                              refine hK.out _ _ (Hq.out _ ST1.out.f).2 (fun hHeld => ?_)
                              clear hK K l0
                              try simp only [zP, zN, zS, zT, zU]
                              refine wpAnyH_ready (rs := [3, 5]) (by kernel_rfl) (by simp) ?_
                              refine (AllReadyH.cons (o := ?_) (by simp only [zA, zB, zC] <;> exact rfl) (fun K hK => ?_) (AllReadyH.cons (o := ?_) (by simp only [zA, zB, zC] <;> exact rfl) (fun K hK => ?_) AllReadyH.nil))
                              · refine step_app rfl _ _ TLE TLE rfl (.slice (some ⟨g1, 0, none⟩) 0 0) (.slice ea q ec) (by first | rfl | simp [Act.eval, Act.put]) (by first | rfl | simp [Act.eval, Act.put]) _ (ST1.out.a1 HVE.out (by have := HLEN.out.2.2; omega) _) ?_
                                rintro v3 z3w ⟨⟨a9, c9, rfl⟩, hR⟩
                                rw [← HQL.out] at hR ⊢
                                have ST3 := Lib.hid hR
                                clear hR
                                refine hK.out _ _ (Hq.out _ ST3.out.f).2 (fun hHeld => ?_)
                                clear hK K
                                try simp only [zP, zN, zS, zT, zU]
                                refine wpAnyH_ready (rs := [5]) (by kernel_rfl) (by simp) ?_
                                refine (AllReadyH.cons (o := ?_) (by simp only [zA, zB, zC] <;> exact rfl) (fun K hK => ?_) AllReadyH.nil)
                                go_simp
                                have ST4 := Lib.hid ST3.out.b2
                                refine hK.out _ _ (Hq.out _ ST4.out.f).2 (fun hHeld => ?_)
                                clear hK K
                                try simp only [zP, zN, zS, zT, zU]
                                obtain ⟨bq, hbq⟩ : ∃ q, z3w.heap.size = q := ⟨_, rfl⟩
                                rw [hbq] at ST4 ⊢
                                clear hbq
                                generalize (z3w.alloc (.cells #[.int .i64 en, .int .i64 ek, .string (B ep), .int .i64 ew] TE)) = z4w at *
                                refine wpAnyH_ready (rs := [6]) (by kernel_rfl) (by simp) ?_
                                refine (AllReadyH.cons (o := ?_) (by simp only [zA, zB, zC] <;> exact rfl) (fun K hK => ?_) AllReadyH.nil)
                                refine step_app rfl _ _ TLE TLE rfl (.slice a9 q c9) (.slice (some ⟨bq, 0, none⟩) 1 1) (by first | rfl | simp [Act.eval, Act.put]) (by first | rfl | simp [Act.eval, Act.put]) _ (ST4.out.a2 (by have := HLEN.out.2.2; omega) _) ?_
                                rintro v8 w8 ⟨hO8, hF8⟩
                                obtain ⟨a8, m8, c8, rfl⟩ : ∃ a m c, v8 = .slice a m c := by obtain ⟨a, c, e⟩ := hO8.ns.shape; exact ⟨a, _, c, e⟩
                                have HO8 := Lib.hid hO8
                                have HF8 := Lib.hid hF8
                                clear hO8 hF8
                                refine hK.out _ _ (Hq.out _ HF8.out).2 (fun hHeld => ?_)
                                clear hK K
                                try simp only [zP, zN, zS, zT, zU]
                                have HB8 := Lib.hid (HBD.out.non HF8.out)
                                have y0 := (boxP3 HB8.out.rs).2.2
                                have z0 := frozen_at HB8.out.rs 2
                                have HB9 := Lib.hid (HB8.out.s2 (.slice a8 m8 c8))
                                have HO9 := Lib.hid (HO8.out.keep (fp_cell w8 bs 2 (.slice a8 m8 c8)) (fun j hj e => by have e : j = bs := e; have h1 := HO8.out.low j hj; have h2 := (Array.getElem?_eq_some_iff.1 HBD.out.rs).1; omega))
                                refine tk 7 hHeld ?_
                                refine wpAnyH_ready (rs := [8]) (by kernel_rfl) (by simp) ?_
                                refine (AllReadyH.cons (o := ?_) (by simp only [zA, zB, zC] <;> exact rfl) (fun K hK => ?_) AllReadyH.nil)
                                go_simp
                                refine hK.out _ _ (boxP4 HB9.out.re) (fun hHeld => ?_)
                                clear hK K y0 z0
                                try simp only [zP, zN, zS, zT, zU]
                                refine yD ?_
                                go_wp2_with fail
                                go_meet
                                case rel => exact ⟨a8, m8, c8, HB9.out, HO9.out.lower (Nat.le_trans HBD.out.fp.size (Nat.le_refl _))⟩
                              · go_simp
                                have ST5 := Lib.hid ST1.out.b2
                                refine hK.out _ _ (Hq.out _ ST5.out.f).2 (fun hHeld => ?_)
                                clear hK K
                                try simp only [zP, zN, zS, zT, zU]
                                obtain ⟨bq, hbq⟩ : ∃ q, z1w.heap.size = q := ⟨_, rfl⟩
                                rw [hbq] at ST5 ⊢
                                clear hbq
                                generalize (z1w.alloc (.cells #[.int .i64 en, .int .i64 ek, .string (B ep), .int .i64 ew] TE)) = z5w at *
                                refine wpAnyH_ready (rs := [3]) (by kernel_rfl) (by simp) ?_
                                refine (AllReadyH.cons (o := ?_) (by simp only [zA, zB, zC] <;> exact rfl) (fun K hK => ?_) AllReadyH.nil)
                                refine step_app rfl _ _ TLE TLE rfl (.slice (some ⟨g1, 0, none⟩) 0 0) (.slice ea q ec) (by first | rfl | simp [Act.eval, Act.put]) (by first | rfl | simp [Act.eval, Act.put]) _ (ST5.out.a1 HVE.out (by have := HLEN.out.2.2; omega) _) ?_
                                rintro v6 z6w ⟨⟨a9, c9, rfl⟩, hR⟩
                                rw [← HQL.out] at hR ⊢
                                have ST6 := Lib.hid hR
                                clear hR
                                refine hK.out _ _ (Hq.out _ ST6.out.f).2 (fun hHeld => ?_)
                                clear hK K
                                try simp only [zP, zN, zS, zT, zU]
                                refine wpAnyH_ready (rs := [6]) (by kernel_rfl) (by simp) ?_
                                refine (AllReadyH.cons (o := ?_) (by simp only [zA, zB, zC] <;> exact rfl) (fun K hK => ?_) AllReadyH.nil)
                                refine step_app rfl _ _ TLE TLE rfl (.slice a9 q c9) (.slice (some ⟨bq, 0, none⟩) 1 1) (by first | rfl | simp [Act.eval, Act.put]) (by first | rfl | simp [Act.eval, Act.put]) _ (ST6.out.a2 (by have := HLEN.out.2.2; omega) _) ?_
                                rintro v8 w8 ⟨hO8, hF8⟩
                                obtain ⟨a8, m8, c8, rfl⟩ : ∃ a m c, v8 = .slice a m c := by obtain ⟨a, c, e⟩ := hO8.ns.shape; exact ⟨a, _, c, e⟩
                                have HO8 := Lib.hid hO8
                                have HF8 := Lib.hid hF8
                                clear hO8 hF8
                                refine hK.out _ _ (Hq.out _ HF8.out).2 (fun hHeld => ?_)
                                clear hK K
                                try simp only [zP, zN, zS, zT, zU]
                                have HB8 := Lib.hid (HBD.out.non HF8.out)
                                have y0 := (boxP3 HB8.out.rs).2.2
                                have z0 := frozen_at HB8.out.rs 2
                                have HB9 := Lib.hid (HB8.out.s2 (.slice a8 m8 c8))
                                have HO9 := Lib.hid (HO8.out.keep (fp_cell w8 bs 2 (.slice a8 m8 c8)) (fun j hj e => by have e : j = bs := e; have h1 := HO8.out.low j hj; have h2 := (Array.getElem?_eq_some_iff.1 HBD.out.rs).1; omega))
                                refine tk 7 hHeld ?_
                                refine wpAnyH_ready (rs := [8]) (by kernel_rfl) (by simp) ?_
                                refine (AllReadyH.cons (o := ?_) (by simp only [zA, zB, zC] <;> exact rfl) (fun K hK => ?_) AllReadyH.nil)
                                go_simp
                                refine hK.out _ _ (boxP4 HB9.out.re) (fun hHeld => ?_)
                                clear hK K y0 z0
                                try simp only [zP, zN, zS, zT, zU]
                                refine yD ?_
                                go_wp2_with fail
                                go_meet
                                case rel => exact ⟨a8, m8, c8, HB9.out, HO9.out.lower (Nat.le_trans HBD.out.fp.size (Nat.le_refl _))⟩
                            · go_simp
                              have ST7 := Lib.hid ST1.out.b2
                              refine hK.out _ _ (Hq.out _ ST7.out.f).2 (fun hHeld => ?_)
                              clear hK K
                              try simp only [zP, zN, zS, zT, zU]
                              obtain ⟨bq, hbq⟩ : ∃ q, z1w.heap.size = q := ⟨_, rfl⟩
                              rw [hbq] at ST7 ⊢
                              clear hbq
                              generalize (z1w.alloc (.cells #[.int .i64 en, .int .i64 ek, .string (B ep), .int .i64 ew] TE)) = z7w at *
                              refine wpAnyH_ready (rs := [2]) (by kernel_rfl) (by simp) ?_
                              refine (AllReadyH.cons (o := ?_) (by simp only [zA, zB, zC] <;> exact rfl) (fun K hK => ?_) AllReadyH.nil)
                              have l0 := (Hq.out _ ST7.out.f).1
                              go_simp
                              refine hK.out _ _ (Hq.out _ ST7.out.f).2 (fun hHeld => ?_)
                              clear hK K l0
                              try simp only [zP, zN, zS, zT, zU]
                              refine wpAnyH_ready (rs := [3]) (by kernel_rfl) (by simp) ?_
                              refine (AllReadyH.cons (o := ?_) (by simp only [zA, zB, zC] <;> exact rfl) (fun K hK => ?_) AllReadyH.nil)
                              refine step_app rfl _ _ TLE TLE rfl (.slice (some ⟨g1, 0, none⟩) 0 0) (.slice ea q ec) (by first | rfl | simp [Act.eval, Act.put]) (by first | rfl | simp [Act.eval, Act.put]) _ (ST7.out.a1 HVE.out (by have := HLEN.out.2.2; omega) _) ?_
                              rintro v9 z9w ⟨⟨a9, c9, rfl⟩, hR⟩
                              rw [← HQL.out] at hR ⊢
                              have ST9 := Lib.hid hR
                              clear hR
                              refine hK.out _ _ (Hq.out _ ST9.out.f).2 (fun hHeld => ?_)
                              clear hK K
                              try simp only [zP, zN, zS, zT, zU]
                              refine wpAnyH_ready (rs := [6]) (by kernel_rfl) (by simp) ?_
                              refine (AllReadyH.cons (o := ?_) (by simp only [zA, zB, zC] <;> exact rfl) (fun K hK => ?_) AllReadyH.nil)
                              refine step_app rfl _ _ TLE TLE rfl (.slice a9 q c9) (.slice (some ⟨bq, 0, none⟩) 1 1) (by first | rfl | simp [Act.eval, Act.put]) (by first | rfl | simp [Act.eval, Act.put]) _ (ST9.out.a2 (by have := HLEN.out.2.2; omega) _) ?_
                              rintro v8 w8 ⟨hO8, hF8⟩
                              obtain ⟨a8, m8, c8, rfl⟩ : ∃ a m c, v8 = .slice a m c := by obtain ⟨a, c, e⟩ := hO8.ns.shape; exact ⟨a, _, c, e⟩
                              have HO8 := Lib.hid hO8
                              have HF8 := Lib.hid hF8
                              clear hO8 hF8
                              refine hK.out _ _ (Hq.out _ HF8.out).2 (fun hHeld => ?_)
                              clear hK K
                              try simp only [zP, zN, zS, zT, zU]
                              have HB8 := Lib.hid (HBD.out.non HF8.out)
                              have y0 := (boxP3 HB8.out.rs).2.2
                              have z0 := frozen_at HB8.out.rs 2
                              have HB9 := Lib.hid (HB8.out.s2 (.slice a8 m8 c8))
                              have HO9 := Lib.hid (HO8.out.keep (fp_cell w8 bs 2 (.slice a8 m8 c8)) (fun j hj e => by have e : j = bs := e; have h1 := HO8.out.low j hj; have h2 := (Array.getElem?_eq_some_iff.1 HBD.out.rs).1; omega))
                              refine tk 7 hHeld ?_
                              refine wpAnyH_ready (rs := [8]) (by kernel_rfl) (by simp) ?_
                              refine (AllReadyH.cons (o := ?_) (by simp only [zA, zB, zC] <;> exact rfl) (fun K hK => ?_) AllReadyH.nil)
                              go_simp
                              refine hK.out _ _ (boxP4 HB9.out.re) (fun hHeld => ?_)
                              clear hK K y0 z0
                              try simp only [zP, zN, zS, zT, zU]
                              refine yD ?_
                              go_wp2_with fail
                              go_meet
                              case rel => exact ⟨a8, m8, c8, HB9.out, HO9.out.lower (Nat.le_trans HBD.out.fp.size (Nat.le_refl _))⟩
                          · have l0 := (Hq.out _ ST0.out.f).1
                            go_simp
                            refine hK.out _ _ (Hq.out _ ST0.out.f).2 (fun hHeld => ?_)
                            clear hK K l0
                            try simp only [zP, zN, zS, zT, zU]
                            refine wpAnyH_ready (rs := [0, 5]) (by kernel_rfl) (by simp) ?_
                            refine (AllReadyH.cons (o := ?_) (by simp only [zA, zB, zC] <;> exact rfl) (fun K hK => ?_) (AllReadyH.cons (o := ?_) (by simp only [zA, zB, zC] <;> exact rfl) (fun K hK => ?_) AllReadyH.nil))
                            · go_simp
                              have ST11 := Lib.hid ST0.out.b1
                              refine hK.out _ _ (Hq.out _ ST11.out.f).2 (fun hHeld => ?_)
                              clear hK K
                              try simp only [zP, zN, zS, zT, zU]
                              obtain ⟨g1, hg1⟩ : ∃ q, q0.heap.size = q := ⟨_, rfl⟩
                              rw [hg1] at ST11 ⊢
                              clear hg1
                              generalize (q0.alloc (.cells #[] TE)) = z11w at *
                              refine wpAnyH_ready (rs := [3, 5]) (by kernel_rfl) (by simp) ?_
                              refine (AllReadyH.cons (o := ?_) (by simp only [zA, zB, zC] <;> exact rfl) (fun K hK => ?_) (AllReadyH.cons (o := ?_) (by simp only [zA, zB, zC] <;> exact rfl) (fun K hK => ?_) AllReadyH.nil))
                              · refine step_app rfl _ _ TLE TLE rfl (.slice (some ⟨g1, 0, none⟩) 0 0) (.slice ea q ec) (by first | rfl | simp [Act.eval, Act.put]) (by first | rfl | simp [Act.eval, Act.put]) _ (ST11.out.a1 HVE.out (by have := HLEN.out.2.2; omega) _) ?_
                                rintro v12 z12w ⟨⟨a9, c9, rfl⟩, hR⟩
                                rw [← HQL.out] at hR ⊢
                                have ST12 := Lib.hid hR
                                clear hR
                                refine hK.out _ _ (Hq.out _ ST12.out.f).2 (fun hHeld => ?_)
                                clear hK K
                                try simp only [zP, zN, zS, zT, zU]
                                refine wpAnyH_ready (rs := [5]) (by kernel_rfl) (by simp) ?_
                                refine (AllReadyH.cons (o := ?_) (by simp only [zA, zB, zC] <;> exact rfl) (fun K hK => ?_) AllReadyH.nil)
                                go_simp
                                have ST13 := Lib.hid ST12.out.b2
                                refine hK.out _ _ (Hq.out _ ST13.out.f).2 (fun hHeld => ?_)
                                clear hK K
                                try simp only [zP, zN, zS, zT, zU]
                                obtain ⟨bq, hbq⟩ : ∃ q, z12w.heap.size = q := ⟨_, rfl⟩
                                rw [hbq] at ST13 ⊢
                                clear hbq
                                generalize (z12w.alloc (.cells #[.int .i64 en, .int .i64 ek, .string (B ep), .int .i64 ew] TE)) = z13w at *
                                refine wpAnyH_ready (rs := [6]) (by kernel_rfl) (by simp) ?_
                                refine (AllReadyH.cons (o := ?_) (by simp only [zA, zB, zC] <;> exact rfl) (fun K hK => ?_) AllReadyH.nil)
                                refine step_app rfl _ _ TLE TLE rfl (.slice a9 q c9) (.slice (some ⟨bq, 0, none⟩) 1 1) (by first | rfl | simp [Act.eval, Act.put]) (by first | rfl | simp [Act.eval, Act.put]) _ (ST13.out.a2 (by have := HLEN.out.2.2; omega) _) ?_
                                rintro v8 w8 ⟨hO8, hF8⟩
                                obtain ⟨a8, m8, c8, rfl⟩ : ∃ a m c, v8 = .slice a m c := by obtain ⟨a, c, e⟩ := hO8.ns.shape; exact ⟨a, _, c, e⟩
                                have HO8 := Lib.hid hO8
                                have HF8 := Lib.hid hF8
                                clear hO8 hF8
                                refine hK.out _ _ (Hq.out _ HF8.out).2 (fun hHeld => ?_)
                                clear hK K
                                try simp only [zP, zN, zS, zT, zU]
                                have HB8 := Lib.hid (HBD.out.non HF8.out)
                                have y0 := (boxP3 HB8.out.rs).2.2
                                have z0 := frozen_at HB8.out.rs 2
                                have HB9 := Lib.hid (HB8.out.s2 (.slice a8 m8 c8))
                                have HO9 := Lib.hid (HO8.out.keep (fp_cell w8 bs 2 (.slice a8 m8 c8)) (fun j hj e => by have e : j = bs := e; have h1 := HO8.out.low j hj; have h2 := (Array.getElem?_eq_some_iff.1 HBD.out.rs).1; omega))
                                refine tk 7 hHeld ?_
                                refine wpAnyH_ready (rs := [8]) (by kernel_rfl) (by simp) ?_
                                refine (AllReadyH.cons (o := ?_) (by simp only [zA, zB, zC] <;> exact rfl) (fun K hK => ?_) AllReadyH.nil)
                                go_simp
                                refine hK.out _ _ (boxP4 HB9.out.re) (fun hHeld => ?_)
                                clear hK K y0 z0
                                try simp only [zP, zN, zS, zT, zU]
                                refine yD ?_
                                go_wp2_with fail
                                go_meet
                                case rel => exact ⟨a8, m8, c8, HB9.out, HO9.out.lower (Nat.le_trans HBD.out.fp.size (Nat.le_refl _))⟩
                              · go_simp
                                have ST14 := Lib.hid ST11.out.b2
                                refine hK.out _ _ (Hq.out _ ST14.out.f).2 (fun hHeld => ?_)
                                clear hK K
                                try simp only [zP, zN, zS, zT, zU]
                                obtain ⟨bq, hbq⟩ : ∃ q, z11w.heap.size = q := ⟨_, rfl⟩
                                rw [hbq] at ST14 ⊢
                                clear hbq
                                generalize (z11w.alloc (.cells #[.int .i64 en, .int .i64 ek, .string (B ep), .int .i64 ew] TE)) = z14w at *
                                refine wpAnyH_ready (rs := [3]) (by kernel_rfl) (by simp) ?_
                                refine (AllReadyH.cons (o := ?_) (by simp only [zA, zB, zC] <;> exact rfl) (fun K hK => ?_) AllReadyH.nil)
                                refine step_app rfl _ _ TLE TLE rfl (.slice (some ⟨g1, 0, none⟩) 0 0) (.slice ea q ec) (by first | rfl | simp [Act.eval, Act.put]) (by first | rfl | simp [Act.eval, Act.put]) _ (ST14.out.a1 HVE.out (by have := HLEN.out.2.2; omega) _) ?_
                                rintro v15 z15w ⟨⟨a9, c9, rfl⟩, hR⟩
                                rw [← HQL.out] at hR ⊢
                                have ST15 := Lib.hid hR
                                clear hR
                                refine hK.out _ _ (Hq.out _ ST15.out.f).2 (fun hHeld => ?_)
                                clear hK K
                                try simp only [zP, zN, zS, zT, zU]
                                refine wpAnyH_ready (rs := [6]) (by kernel_rfl) (by simp) ?_
                                refine (AllReadyH.cons (o := ?_) (by simp only [zA, zB, zC] <;> exact rfl) (fun K hK => ?_) AllReadyH.nil)
                                refine step_app rfl _ _ TLE TLE rfl (.slice a9 q c9) (.slice (some ⟨bq, 0, none⟩) 1 1) (by first | rfl | simp [Act.eval, Act.put]) (by first | rfl | simp [Act.eval, Act.put]) _ (ST15.out.a2 (by have := HLEN.out.2.2; omega) _) ?_
                                rintro v8 w8 ⟨hO8, hF8⟩
                                obtain ⟨a8, m8, c8, rfl⟩ : ∃ a m c, v8 = .slice a m c := by obtain ⟨a, c, e⟩ := hO8.ns.shape; exact ⟨a, _, c, e⟩
                                have HO8 := Lib.hid hO8
                                have HF8 := Lib.hid hF8
                                clear hO8 hF8
                                refine hK.out _ _ (Hq.out _ HF8.out).2 (fun hHeld => ?_)
                                clear hK K
                                try simp only [zP, zN, zS, zT, zU]
                                have HB8 := Lib.hid (HBD.out.non HF8.out)
                                have y0 := (boxP3 HB8.out.rs).2.2
                                have z0 := frozen_at HB8.out.rs 2
                                have HB9 := Lib.hid (HB8.out.s2 (.slice a8 m8 c8))
                                have HO9 := Lib.hid (HO8.out.keep (fp_cell w8 bs 2 (.slice a8 m8 c8)) (fun j hj e => by have e : j = bs := e; have h1 := HO8.out.low j hj; have h2 := (Array.getElem?_eq_some_iff.1 HBD.out.rs).1; omega))
                                refine tk 7 hHeld ?_
                                refine wpAnyH_ready (rs := [8]) (by kernel_rfl) (by simp) ?_
                                refine (AllReadyH.cons (o := ?_) (by simp only [zA, zB, zC] <;> exact rfl) (fun K hK => ?_) AllReadyH.nil)
                                go_simp
                                refine hK.out _ _ (boxP4 HB9.out.re) (fun hHeld => ?_)
                                clear hK K y0 z0
                                try simp only [zP, zN, zS, zT, zU]
                                refine yD ?_
                                go_wp2_with fail
                                go_meet
                                case rel => exact ⟨a8, m8, c8, HB9.out, HO9.out.lower (Nat.le_trans HBD.out.fp.size (Nat.le_refl _))⟩
                            · go_simp
                              have ST16 := Lib.hid ST0.out.b2
                              refine hK.out _ _ (Hq.out _ ST16.out.f).2 (fun hHeld => ?_)
                              clear hK K
                              try simp only [zP, zN, zS, zT, zU]
                              obtain ⟨bq, hbq⟩ : ∃ q, q0.heap.size = q := ⟨_, rfl⟩
                              rw [hbq] at ST16 ⊢
                              clear hbq
                              generalize (q0.alloc (.cells #[.int .i64 en, .int .i64 ek, .string (B ep), .int .i64 ew] TE)) = z16w at *
                              refine wpAnyH_ready (rs := [0]) (by kernel_rfl) (by simp) ?_
                              refine (AllReadyH.cons (o := ?_) (by simp only [zA, zB, zC] <;> exact rfl) (fun K hK => ?_) AllReadyH.nil)
                              go_simp
                              have ST17 := Lib.hid ST16.out.b1
                              refine hK.out _ _ (Hq.out _ ST17.out.f).2 (fun hHeld => ?_)
                              clear hK K
                              try simp only [zP, zN, zS, zT, zU]
                              obtain ⟨g1, hg1⟩ : ∃ q, z16w.heap.size = q := ⟨_, rfl⟩
                              rw [hg1] at ST17 ⊢
                              clear hg1
                              generalize (z16w.alloc (.cells #[] TE)) = z17w at *
                              refine wpAnyH_ready (rs := [3]) (by kernel_rfl) (by simp) ?_
                              refine (AllReadyH.cons (o := ?_) (by simp only [zA, zB, zC] <;> exact rfl) (fun K hK => ?_) AllReadyH.nil)
                              refine step_app rfl _ _ TLE TLE rfl (.slice (some ⟨g1, 0, none⟩) 0 0) (.slice ea q ec) (by first | rfl | simp [Act.eval, Act.put]) (by first | rfl | simp [Act.eval, Act.put]) _ (ST17.out.a1 HVE.out (by have := HLEN.out.2.2; omega) _) ?_
                              rintro v18 z18w ⟨⟨a9, c9, rfl⟩, hR⟩
                              rw [← HQL.out] at hR ⊢
                              have ST18 := Lib.hid hR
                              clear hR
                              refine hK.out _ _ (Hq.out _ ST18.out.f).2 (fun hHeld => ?_)
                              clear hK K
                              try simp only [zP, zN, zS, zT, zU]
                              refine wpAnyH_ready (rs := [6]) (by kernel_rfl) (by simp) ?_
                              refine (AllReadyH.cons (o := ?_) (by simp only [zA, zB, zC] <;> exact rfl) (fun K hK => ?_) AllReadyH.nil)
                              refine step_app rfl _ _ TLE TLE rfl (.slice a9 q c9) (.slice (some ⟨bq, 0, none⟩) 1 1) (by first | rfl | simp [Act.eval, Act.put]) (by first | rfl | simp [Act.eval, Act.put]) _ (ST18.out.a2 (by have := HLEN.out.2.2; omega) _) ?_
                              rintro v8 w8 ⟨hO8, hF8⟩
                              obtain ⟨a8, m8, c8, rfl⟩ : ∃ a m c, v8 = .slice a m c := by obtain ⟨a, c, e⟩ := hO8.ns.shape; exact ⟨a, _, c, e⟩
                              have HO8 := Lib.hid hO8
                              have HF8 := Lib.hid hF8
                              clear hO8 hF8
                              refine hK.out _ _ (Hq.out _ HF8.out).2 (fun hHeld => ?_)
                              clear hK K
                              try simp only [zP, zN, zS, zT, zU]
                              have HB8 := Lib.hid (HBD.out.non HF8.out)
                              have y0 := (boxP3 HB8.out.rs).2.2
                              have z0 := frozen_at HB8.out.rs 2
                              have HB9 := Lib.hid (HB8.out.s2 (.slice a8 m8 c8))
                              have HO9 := Lib.hid (HO8.out.keep (fp_cell w8 bs 2 (.slice a8 m8 c8)) (fun j hj e => by have e : j = bs := e; have h1 := HO8.out.low j hj; have h2 := (Array.getElem?_eq_some_iff.1 HBD.out.rs).1; omega))
                              refine tk 7 hHeld ?_
                              refine wpAnyH_ready (rs := [8]) (by kernel_rfl) (by simp) ?_
                              refine (AllReadyH.cons (o := ?_) (by simp only [zA, zB, zC] <;> exact rfl) (fun K hK => ?_) AllReadyH.nil)
                              go_simp
                              refine hK.out _ _ (boxP4 HB9.out.re) (fun hHeld => ?_)
                              clear hK K y0 z0
                              try simp only [zP, zN, zS, zT, zU]
                              refine yD ?_
                              go_wp2_with fail
                              go_meet
                              case rel => exact ⟨a8, m8, c8, HB9.out, HO9.out.lower (Nat.le_trans HBD.out.fp.size (Nat.le_refl _))⟩
                          · go_simp
                            have ST19 := Lib.hid ST0.out.b2
                            refine hK.out _ _ (Hq.out _ ST19.out.f).2 (fun hHeld => ?_)
                            clear hK K
                            try simp only [zP, zN, zS, zT, zU]
                            obtain ⟨bq, hbq⟩ : ∃ q, q0.heap.size = q := ⟨_, rfl⟩
                            rw [hbq] at ST19 ⊢
                            clear hbq
                            generalize (q0.alloc (.cells #[.int .i64 en, .int .i64 ek, .string (B ep), .int .i64 ew] TE)) = z19w at *
                            refine wpAnyH_ready (rs := [0, 2]) (by kernel_rfl) (by simp) ?_
                            refine (AllReadyH.cons (o := ?_) (by simp only [zA, zB, zC] <;> exact rfl) (fun K hK => ?_) (AllReadyH.cons (o := ?_) (by simp only [zA, zB, zC] <;> exact rfl) (fun K hK => ?_) AllReadyH.nil))
                            · go_simp
                              have ST20 := Lib.hid ST19.out.b1
                              refine hK.out _ _ (Hq.out _ ST20.out.f).2 (fun hHeld => ?_)
                              clear hK K
                              try simp only [zP, zN, zS, zT, zU]
                              obtain ⟨g1, hg1⟩ : ∃ q, z19w.heap.size = q := ⟨_, rfl⟩
                              rw [hg1] at ST20 ⊢
                              clear hg1
                              generalize (z19w.alloc (.cells #[] TE)) = z20w at *
                              refine wpAnyH_ready (rs := [2]) (by kernel_rfl) (by simp) ?_
                              refine (AllReadyH.cons (o := ?_) (by simp only [zA, zB, zC] <;> exact rfl) (fun K hK => ?_) AllReadyH.nil)
                              have l0 := (Hq.out _ ST20.out.f).1
                              go_simp
                              refine hK.out _ _ (Hq.out _ ST20.out.f).2 (fun hHeld => ?_)
                              clear hK K l0
                              try simp only [zP, zN, zS, zT, zU]
                              refine wpAnyH_ready (rs := [3]) (by kernel_rfl) (by simp) ?_
                              refine (AllReadyH.cons (o := ?_) (by simp only [zA, zB, zC] <;> exact rfl) (fun K hK => ?_) AllReadyH.nil)
                              refine step_app rfl _ _ TLE TLE rfl (.slice (some ⟨g1, 0, none⟩) 0 0) (.slice ea q ec) (by first | rfl | simp [Act.eval, Act.put]) (by first | rfl | simp [Act.eval, Act.put]) _ (ST20.out.a1 HVE.out (by have := HLEN.out.2.2; omega) _) ?_
                              rintro v22 z22w ⟨⟨a9, c9, rfl⟩, hR⟩
                              rw [← HQL.out] at hR ⊢
                              have ST22 := Lib.hid hR
                              clear hR
                              refine hK.out _ _ (Hq.out _ ST22.out.f).2 (fun hHeld => ?_)
                              clear hK K
                              try simp only [zP, zN, zS, zT, zU]
                              refine wpAnyH_ready (rs := [6]) (by kernel_rfl) (by simp) ?_
                              refine (AllReadyH.cons (o := ?_) (by simp only [zA, zB, zC] <;> exact rfl) (fun K hK => ?_) AllReadyH.nil)
                              refine step_app rfl _ _ TLE TLE rfl (.slice a9 q c9) (.slice (some ⟨bq, 0, none⟩) 1 1) (by first | rfl | simp [Act.eval, Act.put]) (by first | rfl | simp [Act.eval, Act.put]) _ (ST22.out.a2 (by have := HLEN.out.2.2; omega) _) ?_
                              rintro v8 w8 ⟨hO8, hF8⟩
                              obtain ⟨a8, m8, c8, rfl⟩ : ∃ a m c, v8 = .slice a m c := by obtain ⟨a, c, e⟩ := hO8.ns.shape; exact ⟨a, _, c, e⟩
                              have HO8 := Lib.hid hO8
                              have HF8 := Lib.hid hF8
                              clear hO8 hF8
                              refine hK.out _ _ (Hq.out _ HF8.out).2 (fun hHeld => ?_)
                              clear hK K
                              try simp only [zP, zN, zS, zT, zU]
                              have HB8 := Lib.hid (HBD.out.non HF8.out)
                              have y0 := (boxP3 HB8.out.rs).2.2
                              have z0 := frozen_at HB8.out.rs 2
                              have HB9 := Lib.hid (HB8.out.s2 (.slice a8 m8 c8))
                              have HO9 := Lib.hid (HO8.out.keep (fp_cell w8 bs 2 (.slice a8 m8 c8)) (fun j hj e => by have e : j = bs := e; have h1 := HO8.out.low j hj; have h2 := (Array.getElem?_eq_some_iff.1 HBD.out.rs).1; omega))
                              refine tk 7 hHeld ?_
                              refine wpAnyH_ready (rs := [8]) (by kernel_rfl) (by simp) ?_
                              refine (AllReadyH.cons (o := ?_) (by simp only [zA, zB, zC] <;> exact rfl) (fun K hK => ?_) AllReadyH.nil)
                              go_simp
                              refine hK.out _ _ (boxP4 HB9.out.re) (fun hHeld => ?_)
                              clear hK K y0 z0
                              try simp only [zP, zN, zS, zT, zU]
                              refine yD ?_
                              go_wp2_with fail
                              go_meet
                              case rel => exact ⟨a8, m8, c8, HB9.out, HO9.out.lower (Nat.le_trans HBD.out.fp.size (Nat.le_refl _))⟩
                            · have l0 := (Hq.out _ ST19.out.f).1
                              go_simp
                              refine hK.out _ _ (Hq.out _ ST19.out.f).2 (fun hHeld => ?_)
                              clear hK K l0
                              try simp only [zP, zN, zS, zT, zU]
                              refine wpAnyH_ready (rs := [0]) (by kernel_rfl) (by simp) ?_
                              refine (AllReadyH.cons (o := ?_) (by simp only [zA, zB, zC] <;> exact rfl) (fun K hK => ?_) AllReadyH.nil)
                              go_simp
                              have ST24 := Lib.hid ST19.out.b1
                              refine hK.out _ _ (Hq.out _ ST24.out.f).2 (fun hHeld => ?_)
                              clear hK K
                              try simp only [zP, zN, zS, zT, zU]
                              obtain ⟨g1, hg1⟩ : ∃ q, z19w.heap.size = q := ⟨_, rfl⟩
                              rw [hg1] at ST24 ⊢
                              clear hg1
                              generalize (z19w.alloc (.cells #[] TE)) = z24w at *
                              refine wpAnyH_ready (rs := [3]) (by kernel_rfl) (by simp) ?_
                              refine (AllReadyH.cons (o := ?_) (by simp only [zA, zB, zC] <;> exact rfl) (fun K hK => ?_) AllReadyH.nil)
                              refine step_app rfl _ _ TLE TLE rfl (.slice (some ⟨g1, 0, none⟩) 0 0) (.slice ea q ec) (by first | rfl | simp [Act.eval, Act.put]) (by first | rfl | simp [Act.eval, Act.put]) _ (ST24.out.a1 HVE.out (by have := HLEN.out.2.2; omega) _) ?_
                              rintro v25 z25w ⟨⟨a9, c9, rfl⟩, hR⟩
                              rw [← HQL.out] at hR ⊢
                              have ST25 := Lib.hid hR
                              clear hR
                              refine hK.out _ _ (Hq.out _ ST25.out.f).2 (fun hHeld => ?_)
                              clear hK K
                              try simp only [zP, zN, zS, zT, zU]
                              refine wpAnyH_ready (rs := [6]) (by kernel_rfl) (by simp) ?_
                              refine (AllReadyH.cons (o := ?_) (by simp only [zA, zB, zC] <;> exact rfl) (fun K hK => ?_) AllReadyH.nil)
                              refine step_app rfl _ _ TLE TLE rfl (.slice a9 q c9) (.slice (some ⟨bq, 0, none⟩) 1 1) (by first | rfl | simp [Act.eval, Act.put]) (by first | rfl | simp [Act.eval, Act.put]) _ (ST25.out.a2 (by have := HLEN.out.2.2; omega) _) ?_
                              rintro v8 w8 ⟨hO8, hF8⟩
                              obtain ⟨a8, m8, c8, rfl⟩ : ∃ a m c, v8 = .slice a m c := by obtain ⟨a, c, e⟩ := hO8.ns.shape; exact ⟨a, _, c, e⟩
                              have HO8 := Lib.hid hO8
                              have HF8 := Lib.hid hF8
                              clear hO8 hF8
                              refine hK.out _ _ (Hq.out _ HF8.out).2 (fun hHeld => ?_)
                              clear hK K
                              try simp only [zP, zN, zS, zT, zU]
                              have HB8 := Lib.hid (HBD.out.non HF8.out)
                              have y0 := (boxP3 HB8.out.rs).2.2
                              have z0 := frozen_at HB8.out.rs 2
                              have HB9 := Lib.hid (HB8.out.s2 (.slice a8 m8 c8))
                              have HO9 := Lib.hid (HO8.out.keep (fp_cell w8 bs 2 (.slice a8 m8 c8)) (fun j hj e => by have e : j = bs := e; have h1 := HO8.out.low j hj; have h2 := (Array.getElem?_eq_some_iff.1 HBD.out.rs).1; omega))
                              refine tk 7 hHeld ?_
                              refine wpAnyH_ready (rs := [8]) (by kernel_rfl) (by simp) ?_
                              refine (AllReadyH.cons (o := ?_) (by simp only [zA, zB, zC] <;> exact rfl) (fun K hK => ?_) AllReadyH.nil)
                              go_simp
                              refine hK.out _ _ (boxP4 HB9.out.re) (fun hHeld => ?_)
                              clear hK K y0 z0
                              try simp only [zP, zN, zS, zT, zU]
                              refine yD ?_
                              go_wp2_with fail
                              go_meet
                              case rel => exact ⟨a8, m8, c8, HB9.out, HO9.out.lower (Nat.le_trans HBD.out.fp.size (Nat.le_refl _))⟩
                        case rest =>
                          obtain ⟨a8, m8, c8, hC⟩ := hcut
                          rename World => w8
                          have HB8 := Lib.hid hC.out.1
                          have HO8 := Lib.hid hC.out.2
                          clear hC HB7
                          have HQ8 := Lib.hid (HQ3.out.1.non HB8.out.fp)
                          obtain ⟨s0, s1, s2⟩ := boxP3 HB8.out.rs
                          obtain ⟨p0, p1⟩ := boxP2 HQ8.out.box
                          obtain ⟨L, hL, hst⟩ := HQ8.out.hs
                          have hl8 : m8 = (se ++ [(⟨en, ek, ep, ew⟩ : Ev)]).length := by obtain ⟨a, c, e⟩ := HO8.out.ns.shape; injection e
                          have hpu := rput_x (.slice (some ⟨g, o, none⟩) n cw) (.slice a2 m2 c2) ⟨d.ws, ss⟩ L ⟨⟨sn, c1, se ++ [(⟨en, ek, ep, ew⟩ : Ev)]⟩, a8, c8⟩ w8 (HW.out.1.non HQ8.out.fp) hL (hst w8 (Fp.refl _ _)).1 (hst w8 (Fp.refl _ _)).2 (show NsE w8 (.slice a8 (se ++ [(⟨en, ek, ep, ew⟩ : Ev)]).length c8) (se ++ [(⟨en, ek, ep, ew⟩ : Ev)]) by rw [← hl8]; exact HO8.out.ns) HRS.out.2 (by have := HLEN.out.2.1; omega)
                          have HPU := Lib.hid (show Calls Try.prog 30 #[.agg #[(.slice (some ⟨g, o, none⟩) n cw), .slice a2 m2 c2], .agg #[.int .i64 sn, .int .i64 c1, .slice a8 m8 c8]] w8 (PuX (.slice (some ⟨g, o, none⟩) n cw) L ⟨⟨sn, c1, se ++ [(⟨en, ek, ep, ew⟩ : Ev)]⟩, a8, c8⟩ ss w8) from by rw [hl8]; exact hpu)
                          have HL8 := Lib.hid (And.intro hl8 (And.intro hL hst))
                          clear hpu hl8 hL hst
                          go_wp2_with fail
                          refine HPU.out.mono ?_
                          rintro e w9 hR
                          obtain ⟨out, L', rfl, k1, k2, k3, k4⟩ := hR.ex
                          have HQ9 := Lib.hid (HQ8.out.non hR.fp)
                          obtain ⟨oa, om, oc, rfl⟩ : ∃ a m c, out = .slice a m c := by obtain ⟨a, c, e⟩ := k2.shape; exact ⟨a, _, c, e⟩
                          obtain ⟨u0, u1, u2, u3, u4, u5, hz, hf⟩ := two_set HQ9.out.box (.slice (some ⟨g, o, none⟩) n cw) (.slice oa om oc)
                          have HX9 := Lib.hid (HB8.out.non hR.fp)
                          have HSB := Lib.hid (Array.getElem?_eq_some_iff.1 HQ3.out.1.zb).1
                          have HQA := Lib.hid (HQ8.out.set HL8.out.2.2 (lo := w3.heap.size) HQ3.out.1.own.ltW HSB.out HB8.out.fp.size hR.fp k1 k2 k3 k4 (show NsE w8 (.slice a8 (se ++ [(⟨en, ek, ep, ew⟩ : Ev)]).length c8) (se ++ [(⟨en, ek, ep, ew⟩ : Ev)]) by rw [← HL8.out.1]; exact HO8.out.ns) (fun k hk => HO8.out.low k (by rw [HL8.out.1]; exact hk)) hf hz)
                          have hxx := hf.heap HX9.out.rx (fun e => by have e : wr.heap.size = w.heap.size := e; have := (Array.getElem?_eq_some_iff.1 HT.out.zb).1; omega)
                          have HXX := Lib.hid hxx
                          clear s0 s1 s2 p0 p1 hR k1 k2 k3 k4 hz hf hxx HPU
                          have hSS : SS = putS ss ⟨sn, c1, se ++ [(⟨en, ek, ep, ew⟩ : Ev)]⟩ := by
                            have h1 := HSS.out
                            have h2 := HEV.out
                            rw [HC1.out] at h2 ⊢
                            rw [if_pos ⟨h8, hc⟩] at h1
                            rw [h1, ← h2]
                          rw [show putS (⟨d.ws, ss⟩ : Wd).ss (⟨⟨sn, c1, se ++ [(⟨en, ek, ep, ew⟩ : Ev)]⟩, a8, c8⟩ : Sv).s = SS from hSS.symm] at HQA
                          have HSX := Lib.hid hSS
                          clear hSS
                          go_upto_region 21 with (fail)
                          generalize (World.setCell (World.setCell w9 _ _) _ _) = wA at *
                          clear u0 u1 u2 u3 u4 u5
                          obtain ⟨x0, x1, x2, x3⟩ := boxP4 HXX.out
                          by_cases h7 : q < 7
                          · have t7 : (q < 7) = True := eq_true h7
                            have t7i : ((q : Int) < 7) = True := eq_true (by omega)
                            have H7 := Lib.hid h7
                            cases xd with
                            | false =>
                              have HM : Hid (∃ a2 m2 c2, TeD w (.slice (some ⟨g, o, none⟩) n cw) (.slice a2 m2 c2) N (.slice la lm lc) wA) := ⟨_, _, _, by rw [← (show (l, SS) = N from by rw [HTOLD.out]; simp)]; exact HQA.out⟩
                              have hkn := HL.out
                              go_wp2
                              go_roundw
                              case rel => exact ⟨k + 1, by omega, by go_num, _, _, _, rfl, by rw [← HN.out]; exact HM.out⟩
                              case measure => simp [RowKit.intOf]; omega
                            | true =>
                              have hap := app_wt wA (w.heap.size + 1 + 1) (.slice la lm lc) l ⟨xs, xn, xp, true⟩ TLW HQA.out.own (by have := HLEN.out.1; omega) (Array.getElem?_eq_some_iff.1 HQA.out.zb).1
                              have HAP := Lib.hid hap
                              clear hap
                              go_wp2_with (at_builtin; go_must (refine wpList_app rfl _ _ _ _ rfl _ _ rfl rfl _ HAP.out ?_))
                              intro v4 w4 hR4
                              obtain ⟨la4, lm4, lc4, rfl⟩ : ∃ a n c, v4 = .slice a n c := by obtain ⟨a, c, e⟩ := hR4.own.ns.shape; exact ⟨a, _, c, e⟩
                              have HM : Hid (∃ a2 m2 c2, TeD w (.slice (some ⟨g, o, none⟩) n cw) (.slice a2 m2 c2) N (.slice la4 lm4 lc4) w4) := ⟨_, _, _, by rw [← (show (l ++ [(⟨xs, xn, xp, true⟩ : Wt)], SS) = N from by rw [HTOLD.out]; simp [H7.out])]; exact HQA.out.app hR4⟩
                              clear hR4 HAP
                              have hkn := HL.out
                              go_wp2
                              go_roundw
                              case rel => exact ⟨k + 1, by omega, by go_num, _, _, _, rfl, by rw [← HN.out]; exact HM.out⟩
                              case measure => simp [RowKit.intOf]; omega
                          · have t7 : (q < 7) = False := eq_false (by omega)
                            have t7i : ((q : Int) < 7) = False := eq_false (by omega)
                            have H7 := Lib.hid (show ¬ q < 7 by omega)
                            cases xd with
                            | false =>
                              have HM : Hid (∃ a2 m2 c2, TeD w (.slice (some ⟨g, o, none⟩) n cw) (.slice a2 m2 c2) N (.slice la lm lc) wA) := ⟨_, _, _, by rw [← (show (l, SS) = N from by rw [HTOLD.out]; simp)]; exact HQA.out⟩
                              have hkn := HL.out
                              go_wp2
                              go_roundw
                              case rel => exact ⟨k + 1, by omega, by go_num, _, _, _, rfl, by rw [← HN.out]; exact HM.out⟩
                              case measure => simp [RowKit.intOf]; omega
                            | true =>
                              have HM : Hid (∃ a2 m2 c2, TeD w (.slice (some ⟨g, o, none⟩) n cw) (.slice a2 m2 c2) N (.slice la lm lc) wA) := ⟨_, _, _, by rw [← (show (l, SS) = N from by rw [HTOLD.out]; simp [H7.out])]; exact HQA.out⟩
                              have hkn := HL.out
                              go_wp2
                              go_roundw
                              case rel => exact ⟨k + 1, by omega, by go_num, _, _, _, rfl, by rw [← HN.out]; exact HM.out⟩
                              case measure => simp [RowKit.intOf]; omega
                    · have t8 : (q < 8) = True := eq_true h8
                      have t8i : ((q : Int) < 8) = True := eq_true (by omega)
                      have tc : (c < 281474976710656) = False := eq_false hc
                      have HSX := Lib.hid (show SS = ss from HSS.out.trans (if_neg (fun h => hc h.2)))
                      have HQ4 := Lib.hid (show TeD w (.slice (some ⟨g, o, none⟩) n cw) (.slice a2 m2 c2) (l, SS) (.slice la lm lc) (w3.alloc (.cells #[.int .i64 sn, .int .i64 c, .slice ea q ec] TV)) from by rw [HSX.out]; exact HQ3.out.1.non (fp_alloc w3 _))
                      have HX4 := Lib.hid ((fp_alloc w3 (.cells #[.int .i64 sn, .int .i64 c, .slice ea q ec] TV)).heap HQ3.out.2 (fun h => h))
                      have s1 := (boxP3 (heap_alloc_new w3 (.cells #[.int .i64 sn, .int .i64 c, .slice ea q ec] TV))).2.1
                      clear x0 x1 x2 x3 p0 p1
                      go_upto_region 21 with (fail)
                      clear s1
                      generalize (w3.alloc _) = wA at *
                      obtain ⟨x0, x1, x2, x3⟩ := boxP4 HX4.out
                      by_cases h7 : q < 7
                      · have t7 : (q < 7) = True := eq_true h7
                        have t7i : ((q : Int) < 7) = True := eq_true (by omega)
                        have H7 := Lib.hid h7
                        cases xd with
                        | false =>
                          have HM : Hid (∃ a2 m2 c2, TeD w (.slice (some ⟨g, o, none⟩) n cw) (.slice a2 m2 c2) N (.slice la lm lc) wA) := ⟨_, _, _, by rw [← (show (l, SS) = N from by rw [HTOLD.out]; simp)]; exact HQ4.out⟩
                          have hkn := HL.out
                          go_wp2
                          go_roundw
                          case rel => exact ⟨k + 1, by omega, by go_num, _, _, _, rfl, by rw [← HN.out]; exact HM.out⟩
                          case measure => simp [RowKit.intOf]; omega
                        | true =>
                          have hap := app_wt wA (w.heap.size + 1 + 1) (.slice la lm lc) l ⟨xs, xn, xp, true⟩ TLW HQ4.out.own (by have := HLEN.out.1; omega) (Array.getElem?_eq_some_iff.1 HQ4.out.zb).1
                          have HAP := Lib.hid hap
                          clear hap
                          go_wp2_with (at_builtin; go_must (refine wpList_app rfl _ _ _ _ rfl _ _ rfl rfl _ HAP.out ?_))
                          intro v4 w4 hR4
                          obtain ⟨la4, lm4, lc4, rfl⟩ : ∃ a n c, v4 = .slice a n c := by obtain ⟨a, c, e⟩ := hR4.own.ns.shape; exact ⟨a, _, c, e⟩
                          have HM : Hid (∃ a2 m2 c2, TeD w (.slice (some ⟨g, o, none⟩) n cw) (.slice a2 m2 c2) N (.slice la4 lm4 lc4) w4) := ⟨_, _, _, by rw [← (show (l ++ [(⟨xs, xn, xp, true⟩ : Wt)], SS) = N from by rw [HTOLD.out]; simp [H7.out])]; exact HQ4.out.app hR4⟩
                          clear hR4 HAP
                          have hkn := HL.out
                          go_wp2
                          go_roundw
                          case rel => exact ⟨k + 1, by omega, by go_num, _, _, _, rfl, by rw [← HN.out]; exact HM.out⟩
                          case measure => simp [RowKit.intOf]; omega
                      · have t7 : (q < 7) = False := eq_false (by omega)
                        have t7i : ((q : Int) < 7) = False := eq_false (by omega)
                        have H7 := Lib.hid (show ¬ q < 7 by omega)
                        cases xd with
                        | false =>
                          have HM : Hid (∃ a2 m2 c2, TeD w (.slice (some ⟨g, o, none⟩) n cw) (.slice a2 m2 c2) N (.slice la lm lc) wA) := ⟨_, _, _, by rw [← (show (l, SS) = N from by rw [HTOLD.out]; simp)]; exact HQ4.out⟩
                          have hkn := HL.out
                          go_wp2
                          go_roundw
                          case rel => exact ⟨k + 1, by omega, by go_num, _, _, _, rfl, by rw [← HN.out]; exact HM.out⟩
                          case measure => simp [RowKit.intOf]; omega
                        | true =>
                          have HM : Hid (∃ a2 m2 c2, TeD w (.slice (some ⟨g, o, none⟩) n cw) (.slice a2 m2 c2) N (.slice la lm lc) wA) := ⟨_, _, _, by rw [← (show (l, SS) = N from by rw [HTOLD.out]; simp [H7.out])]; exact HQ4.out⟩
                          have hkn := HL.out
                          go_wp2
                          go_roundw
                          case rel => exact ⟨k + 1, by omega, by go_num, _, _, _, rfl, by rw [← HN.out]; exact HM.out⟩
                          case measure => simp [RowKit.intOf]; omega
                  · have t8 : (q < 8) = False := eq_false h8
                    have t8i : ((q : Int) < 8) = False := eq_false (by omega)
                    have HSX := Lib.hid (show SS = ss from HSS.out.trans (if_neg (fun h => h8 h.1)))
                    have HQ4 := Lib.hid (show TeD w (.slice (some ⟨g, o, none⟩) n cw) (.slice a2 m2 c2) (l, SS) (.slice la lm lc) (w3.alloc (.cells #[.int .i64 sn, .int .i64 c, .slice ea q ec] TV)) from by rw [HSX.out]; exact HQ3.out.1.non (fp_alloc w3 _))
                    have HX4 := Lib.hid ((fp_alloc w3 (.cells #[.int .i64 sn, .int .i64 c, .slice ea q ec] TV)).heap HQ3.out.2 (fun h => h))
                    have s1 := (boxP3 (heap_alloc_new w3 (.cells #[.int .i64 sn, .int .i64 c, .slice ea q ec] TV))).2.1
                    clear x0 x1 x2 x3 p0 p1
                    go_upto_region 21 with (fail)
                    clear s1
                    generalize (w3.alloc _) = wA at *
                    obtain ⟨x0, x1, x2, x3⟩ := boxP4 HX4.out
                    have t7 : (q < 7) = False := eq_false (by omega)
                    have t7i : ((q : Int) < 7) = False := eq_false (by omega)
                    have H7 := Lib.hid (show ¬ q < 7 by omega)
                    cases xd with
                    | false =>
                      have HM : Hid (∃ a2 m2 c2, TeD w (.slice (some ⟨g, o, none⟩) n cw) (.slice a2 m2 c2) N (.slice la lm lc) wA) := ⟨_, _, _, by rw [← (show (l, SS) = N from by rw [HTOLD.out]; simp)]; exact HQ4.out⟩
                      have hkn := HL.out
                      go_wp2
                      go_roundw
                      case rel => exact ⟨k + 1, by omega, by go_num, _, _, _, rfl, by rw [← HN.out]; exact HM.out⟩
                      case measure => simp [RowKit.intOf]; omega
                    | true =>
                      have HM : Hid (∃ a2 m2 c2, TeD w (.slice (some ⟨g, o, none⟩) n cw) (.slice a2 m2 c2) N (.slice la lm lc) wA) := ⟨_, _, _, by rw [← (show (l, SS) = N from by rw [HTOLD.out]; simp [H7.out])]; exact HQ4.out⟩
                      have hkn := HL.out
                      go_wp2
                      go_roundw
                      case rel => exact ⟨k + 1, by omega, by go_num, _, _, _, rfl, by rw [← HN.out]; exact HM.out⟩
                      case measure => simp [RowKit.intOf]; omega
            · have hke : k = n := by omega
              subst hke
              have q3 : ((k : Int) < (k : Int)) = False := eq_false (by omega)
              have hT2 : TeD w (.slice aw k cw) (.slice a2 m2 c2) (tellL kd p d.ws d.ss) (.slice la lm lc) wr := by
                have h := hT
                rw [HB.out.2.2.1, List.take_length, ← HB.out.2.2.1] at h
                exact h
              have HQ := Lib.hid hT2
              clear hT2 hT hlt hk
              obtain ⟨p0, p1⟩ := boxP2 HQ.out.box
              have z0 := frozen_at HQ.out.box 0
              have hx1 := heap_setCell_same wr w.heap.size 0 _ TD (.slice la lm lc) HQ.out.box
              have f1 := fp_cell wr w.heap.size 0 (.slice la lm lc)
              have g4 := f1.heap HQ.out.zb (fun e => by have e : w.heap.size + 1 = w.heap.size := e; omega)
              obtain ⟨v0, v1⟩ := boxP2 hx1
              obtain ⟨t0, t1, t2, t3, t4, t5, hz4, hf4⟩ := two_set g4 (.slice la lm lc) (.slice a2 m2 c2)
              obtain ⟨L, hL, hst⟩ := HQ.out.hs
              have hfa : Fp (Sb w (.slice la lm lc)) wr _ := (f1.mono (fun _ e => .inr (.inl e))).same (hf4.mono (fun _ e => .inr (.inr e)))
              have how := (HQ.out.own.keep f1 (fun j hj e => by have e : j = w.heap.size := e; have := HQ.out.own.low j hj; omega)).keep hf4 (fun j hj e => by have e : j = w.heap.size + 1 := e; have := HQ.out.own.low j hj; omega)
              have HE := Lib.hid (And.intro hz4 (And.intro (HQ.out.fp.over ((f1.mono (T := fun k => k = w.heap.size ∨ k = w.heap.size + 1) (fun _ e => .inl e)).same (hf4.mono (fun _ e => .inr e))) (fun j hj => by omega)) (And.intro how.ns (And.intro hL (hst _ hfa)))))
              clear hx1 f1 g4 hz4 hf4 hfa how hL hst
              go_wp2_with fail
              generalize (World.setCell (World.setCell (World.setCell wr _ _) _ _) _ _) = wz at *
              obtain ⟨e0, e1⟩ := boxP2 HE.out.1
              refine bodyPost_ret (v := .tuple #[.agg #[.slice la lm lc, .slice a2 m2 c2], .int .i64 0]) (by simp [results, Try.results17, go_sem, e0, e1]) rfl ?_
              rw [HTT.out]
              exact ⟨⟨_, _, rfl, HE.out.2.2.1, L, HE.out.2.2.2.1, HE.out.2.2.2.2.1, HE.out.2.2.2.2.2⟩, HE.out.2.1⟩
end Go.Proofs.Ytjdpbieifcjmiaa
