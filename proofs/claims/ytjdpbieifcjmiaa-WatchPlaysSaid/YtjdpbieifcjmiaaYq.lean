/- clone (gen_yq.py) -/
import Derived.Test.YtjdpbieifcjmiaaYo
namespace Go.Proofs.Ytjdpbieifcjmiaa
set_option maxRecDepth 20000
set_option linter.unusedVariables false
set_option linter.unusedSimpArgs false
open Go.RowKit Pm


/-- What clone answers. -/
structure CnR (d : Wd) (w : World) (e : Ending) (w' : World) : Prop where
  ex : ∃ vw vs L, e = .returned (.agg #[vw, vs]) ∧ Cl w.heap.size vw vs d.ws L w' ∧ L.map Sv.s = d.ss
  fp : Fp Non w w'
theorem OwV.lowerV {lo l2 : Nat} {w : World} {v : Value} {l : List Sv} (h : OwV l2 w v l) (hl : lo ≤ l2) : OwV lo w v l := by
  rcases h.ways with ⟨rfl, rfl⟩ | ⟨G, cap, rfl, h1, h2⟩
  · exact OwV.nil _ _
  · exact OwV.row h1 (Nat.le_trans hl h2)
/-- In the midst of clone: the sessions ahead of i have events of the call's own. -/
structure CnI (lo N : Nat) (vw vs : Value) (ws : List Wt) (L0 : List Sv) (i : Nat) (w W : World) : Prop where
  ex : ∃ L : List Sv, L.map Sv.s = L0.map Sv.s ∧ OwV lo W vs L ∧ (∀ j (h : j < L.length), i ≤ j → ∀ h0 : j < L0.length, L[j] = L0[j]) ∧ (∀ j (h : j < L.length), j < i → OwE lo W L[j].ev L[j].s.evs) ∧ (∀ a b (ha : a < L.length) (hb : b < L.length), a < b → b < i → ∀ k, L[a].ev.ownBlock = some k → L[b].ev.ownBlock ≠ some k)
  ownW : OwW lo W vw ws
  blk : W.heap[N]? = some (.cells #[vw, vs] TD (0, 0))
  low : lo ≤ N
  fp : Fp Non w W
  lo : lo = w.heap.size
theorem CnI.done {lo N : Nat} {vw vs : Value} {ws : List Wt} {L0 : List Sv} {i : Nat} {w W : World} (h : CnI lo N vw vs ws L0 i w W) (hi : L0.length ≤ i) : ∃ L, Cl lo vw vs ws L W ∧ L.map Sv.s = L0.map Sv.s := by
  obtain ⟨L, h1, h2, h3, h4, h5⟩ := h.ex
  have hl : L.length = L0.length := by have := congrArg List.length h1; simpa using this
  refine ⟨L, ⟨h.ownW, h2, fun x hx => ?_, ?_⟩, h1⟩
  · obtain ⟨j, hj, rfl⟩ := List.mem_iff_getElem.1 hx
    exact h4 j hj (by omega)
  · rw [List.pairwise_iff_getElem]
    intro a b ha hb hab k hk
    exact h5 a b ha hb hab (by omega) k hk
/-- One session more. -/
theorem CnI.step {lo N G n cap : Nat} {vw : Value} {ws : List Wt} {L0 : List Sv} {i : Nat} {w W W' : World} (h : CnI lo N vw (.slice (some ⟨G, 0, none⟩) n cap) ws L0 i w W) (hi : i < L0.length) {a : Option Addr} {c : Nat} (ho : OwE W.heap.size W' (.slice a L0[i].s.evs.length c) L0[i].s.evs) (f : Fp Non W W') :
    CnI lo N vw (.slice (some ⟨G, 0, none⟩) n cap) ws L0 (i + 1) w (W'.setCell ⟨G, i * 3 + 2, none⟩ (.slice a L0[i].s.evs.length c)) ∧ W'.frozen? ⟨G, i * 3 + 2, none⟩ = false ∧ (∃ v, W'.cell? ⟨G, i * 3 + 2, none⟩ = some v) := by
  obtain ⟨L, h1, h2, h3, h4, h5⟩ := h.ex
  have hl : L.length = L0.length := by have := congrArg List.length h1; simpa using this
  have hiL : i < L.length := by omega
  have hs : L[i].s = L0[i].s := by
    have := congrArg (fun l => l[i]?) h1
    simp only [List.getElem?_map, List.getElem?_eq_getElem hiL, List.getElem?_eq_getElem hi, Option.map_some, Option.some.injEq] at this
    exact this
  have hG : NrV W G cap L ∧ lo ≤ G ∧ n = L.length := by
    rcases h2.ways with ⟨e, _⟩ | ⟨G', cap', e, g1, g2⟩
    · cases e
    · injection e with e1 e2 e3
      injection e1 with e1
      injection e1 with e1
      subst e1 e2 e3
      exact ⟨g1, g2, rfl⟩
  obtain ⟨hr, hlG, hn⟩ := hG
  have hr' := hr.keep f (fun h => h)
  have hf := fp_cell W' G (i * 3 + 2) (.slice a L0[i].s.evs.length c)
  have hGl := hr.lt
  obtain ⟨r, hGt, _⟩ := hr'.ex
  have hlt : lo ≤ W.heap.size := by rw [h.lo]; exact h.fp.size
  have hx : svC (⟨L0[i].s, a, c⟩ : Sv) = (svC L[i]).set 2 (.slice a L0[i].s.evs.length c) := by
    unfold svC
    rw [hs]
    rfl
  have hneT : ∀ {cs : Array Value} {T : TypeId} {j : Nat}, W'.heap[j]? = some (.cells cs T (0, 0)) → T ≠ TV → j ≠ G := fun ht hT e => by
    subst e
    exact type_ne ht hGt hT
  refine ⟨⟨⟨L.set i ⟨L0[i].s, a, c⟩, ?_, ?_, ?_, ?_, ?_⟩, ?_, ?_, h.low, ?_, h.lo⟩, hr'.frozen _, ?_⟩
  · rw [set_map, h1, show L0[i].s = (L0.map Sv.s)[i]'(by simpa using hi) from by rw [List.getElem_map], List.set_getElem_self]
  · have := OwV.row (lo := lo) (hr'.set i 2 hiL (by omega) ⟨L0[i].s, a, c⟩ _ hx) hlG
    rw [List.length_set, ← hn] at this
    exact this
  · intro j hj hij h0
    rw [List.getElem_set_ne (by omega)]
    exact h3 j (by simpa using hj) (by omega) h0
  · intro j hj hij
    rw [List.length_set] at hj
    rw [List.getElem_set]
    split
    · have he := ho.lower hlt
      exact he.keep hf (fun k hk e => by obtain ⟨cs, ht⟩ := ho.type hk; exact hneT ht (by decide) e)
    · have he := (h4 j hj (by omega)).non f
      exact he.keep hf (fun k hk e => by obtain ⟨cs, ht⟩ := he.type hk; exact hneT ht (by decide) e)
  · intro x y hx' hy hxy hyi k hk
    rw [List.length_set] at hx' hy
    rw [List.getElem_set] at hk ⊢
    rw [if_neg (by omega)] at hk
    split
    · intro e
      have e2 := ho.low k e
      have e3 := (h4 x hx' (by omega)).ltE k hk
      omega
    · exact h5 x y hx' hy hxy (by omega) k hk
  · have he := h.ownW.non f
    exact he.keep hf (fun k hk e => by obtain ⟨cs, ht⟩ := he.type hk; exact hneT ht (by decide) e)
  · have hb := f.heap h.blk (fun h => h)
    exact hf.heap hb (fun e => hneT hb (by decide) e)
  · exact (h.fp.then f).trans hf (fun k hk => .inr (by have hk : k = G := hk; rw [← h.lo]; omega))
  · exact ⟨_, hr'.cell i 2 hiL (by omega)⟩

theorem CnI.start {lo N : Nat} {vw vs : Value} {ws : List Wt} {L0 : List Sv} {w W : World} (hw : OwW lo W vw ws) (hv : OwV lo W vs L0) (hb : W.heap[N]? = some (.cells #[.slice none 0 0, .slice none 0 0] TD (0, 0))) (hN : w.heap.size + 2 ≤ N) (f : Fp Non w W) (hr : W.heap[w.heap.size + 1]? = some (.cells #[.slice none 0 0, .slice none 0 0] TD (0, 0))) (hlo : lo = w.heap.size) :
    CnI lo N vw vs ws L0 0 w ((W.setCell ⟨N, 0, none⟩ vw).setCell ⟨N, 1, none⟩ vs) ∧ ((W.setCell ⟨N, 0, none⟩ vw).setCell ⟨N, 1, none⟩ vs).heap[w.heap.size + 1]? = some (.cells #[.slice none 0 0, .slice none 0 0] TD (0, 0)) := by
  have f1 := fp_cell W N 0 vw
  have f2 := fp_cell (W.setCell ⟨N, 0, none⟩ vw) N 1 vs
  have h1 := heap_setCell_same W N 0 _ TD vw hb
  have h2 := heap_setCell_same _ N 1 _ TD vs h1
  have hne : ∀ {cs : Array Value} {T : TypeId} {j : Nat}, W.heap[j]? = some (.cells cs T (0, 0)) → T ≠ TD → j ≠ N := fun ht hT e => by
    subst e
    exact type_ne ht hb hT
  have ff : Fp (fun k => k = N) W ((W.setCell ⟨N, 0, none⟩ vw).setCell ⟨N, 1, none⟩ vs) := f1.same f2
  refine ⟨⟨⟨L0, rfl, ?_, fun _ _ _ _ => rfl, fun j h h0 => absurd h0 (Nat.not_lt_zero _), fun a b ha hb' hab h0 => absurd h0 (Nat.not_lt_zero _)⟩, ?_, h2, by omega, ?_, hlo⟩, ?_⟩
  · exact hv.keep ff (fun k hk e => by obtain ⟨cs, ht⟩ := hv.type hk; exact hne ht (by decide) e)
  · exact hw.keep ff (fun k hk e => by obtain ⟨cs, ht⟩ := hw.type hk; exact hne ht (by decide) e)
  · exact f.trans ff (fun k hk => .inr (by have hk : k = N := hk; omega))
  · exact ff.heap hr (fun e => by have e : w.heap.size + 1 = N := e; omega)
theorem CnI.G {lo N m cap : Nat} {vw : Value} {va2 : Option Addr} {ws : List Wt} {L0 : List Sv} {i : Nat} {w W : World} (h : CnI lo N vw (.slice va2 m cap) ws L0 i w W) (hi : i < L0.length) : ∃ G, va2 = some ⟨G, 0, none⟩ := by
  obtain ⟨L, h1, h2, _⟩ := h.ex
  have hl : L.length = L0.length := by have := congrArg List.length h1; simpa using this
  rcases h2.ways with ⟨_, e⟩ | ⟨G', cap', e, g1, g2⟩
  · subst e; simp at hl; omega
  · injection e with e1 e2 e3
    exact ⟨G', e1⟩
theorem CnI.ev {lo N m cap G : Nat} {vw : Value} {ws : List Wt} {L0 : List Sv} {i : Nat} {w W : World} (h : CnI lo N vw (.slice (some ⟨G, 0, none⟩) m cap) ws L0 i w W) (hi : i < L0.length) : W.cell? ⟨G, i * 3 + 2, none⟩ = some L0[i].ev := by
  obtain ⟨L, h1, h2, h3, _⟩ := h.ex
  have hl : L.length = L0.length := by have := congrArg List.length h1; simpa using this
  rcases h2.ways with ⟨e, _⟩ | ⟨G', cap', e, g1, g2⟩
  · cases e
  · injection e with e1 e2 e3
    injection e1 with e1
    injection e1 with e1
    subst e1 e3
    have := g1.cell i 2 (by omega) (by omega)
    rw [this, ← h3 i (by omega) (Nat.le_refl _) hi]; rfl
theorem CnI.rowR {lo N m cap G : Nat} {vw : Value} {ws : List Wt} {L0 : List Sv} {i j : Nat} {w W W' : World} {v : Value} {q : Nat} (h' : CnI lo N vw (.slice (some ⟨G, 0, none⟩) m cap) ws L0 j w (W'.setCell ⟨G, q, none⟩ v)) (f : Fp Non W W') (h : CnI lo N vw (.slice (some ⟨G, 0, none⟩) m cap) ws L0 i w W) {R : Nat} {cs : Array Value} (hr : W.heap[R]? = some (.cells cs TD (0, 0))) (q' : Nat) (v' : Value) : (W'.setCell ⟨G, q', none⟩ v').heap[R]? = some (.cells cs TD (0, 0)) := by
  obtain ⟨L, _, h2, _⟩ := h.ex
  obtain ⟨cs', ht⟩ := h2.type (j := G) rfl
  refine (fp_cell W' G q' v').heap (f.heap hr (fun h => h)) (fun e => ?_)
  have e : R = G := e
  subst e
  exact type_ne ht hr (by decide)
theorem Cl.twoD {lo : Nat} {vw vs : Value} {ws : List Wt} {L : List Sv} {w : World} (h : Cl lo vw vs ws L w) {b : Nat} {cs : Array Value} (hb : w.heap[b]? = some (.cells cs TD (0, 0))) (v0 v1 : Value) : Cl lo vw vs ws L ((w.setCell ⟨b, 0, none⟩ v0).setCell ⟨b, 1, none⟩ v1) := by
  have ff : Fp (fun k => k = b) w ((w.setCell ⟨b, 0, none⟩ v0).setCell ⟨b, 1, none⟩ v1) := (fp_cell w b 0 v0).same (fp_cell _ b 1 v1)
  have hne : ∀ {cs' : Array Value} {T : TypeId} {j : Nat}, w.heap[j]? = some (.cells cs' T (0, 0)) → T ≠ TD → j ≠ b := fun ht hT e => by
    subst e
    exact type_ne ht hb hT
  exact h.keep ff (fun k hk e => by obtain ⟨cs, ht⟩ := h.ownW.type hk; exact hne ht (by decide) e) (fun k hk e => by obtain ⟨cs, ht⟩ := h.ownV.type hk; exact hne ht (by decide) e) (fun x hx k hk e => by obtain ⟨cs, ht⟩ := (h.ownE x hx).type hk; exact hne ht (by decide) e)

set_option maxHeartbeats 8000000 in
theorem clone_c (v : Value) (d : Wd) (w : World) (hv : WdR w v d) (hz : SzD d) :
    Calls Try.prog 26 #[v] w (CnR d w) := by
  obtain ⟨vw, vs, rfl, hw, hs⟩ := hv.ex
  obtain ⟨L0, hL0, hs1, hs2⟩ := hs.ex
  have hcw := fun W (f : Fp Non w W) => Clone_ownW vw d.ws W (hw.non f) (by have := hz.w; omega)
  have hcv := fun W (f : Fp Non w W) => Clone_ownV vs L0 W (hs1.non f) (by have := hz.s; rw [← hL0, List.length_map] at this; omega)
  have hce := fun (i : Nat) (h : i < L0.length) W (f : Fp Non w W) => Clone_ownE L0[i].ev L0[i].s.evs W ((hs2 _ (List.getElem_mem h)).non f) (by have := (hz.sp L0[i].s (by rw [← hL0]; exact List.mem_map_of_mem (List.getElem_mem h))).1; omega)
  obtain ⟨aw, cw, rfl⟩ := hw.shape
  obtain ⟨at_, cs, rfl⟩ := hs1.shape
  have hmb : L0.length ≤ 30000 := by have := hz.s; rw [← hL0, List.length_map] at this; exact this
  obtain ⟨n, hn⟩ : ∃ n, n = d.ws.length := ⟨_, rfl⟩
  obtain ⟨m, hm⟩ : ∃ n, n = L0.length := ⟨_, rfl⟩
  rw [← hn] at hcw ⊢
  rw [← hm] at hcv hmb ⊢
  have f0 := (fp_alloc w (.cells #[.slice aw n cw, .slice at_ m cs] TD)).then (fp_alloc _ (.cells #[.slice none 0 0, .slice none 0 0] TD))
  have r0 := (fp_alloc (w.alloc (.cells #[.slice aw n cw, .slice at_ m cs] TD)) (.cells #[.slice none 0 0, .slice none 0 0] TD)).heap (heap_alloc_new w (.cells #[.slice aw n cw, .slice at_ m cs] TD)) (fun h => h)
  have r1 := heap_alloc_new (w.alloc (.cells #[.slice aw n cw, .slice at_ m cs] TD)) (.cells #[.slice none 0 0, .slice none 0 0] TD)
  have sz0 : (w.alloc (.cells #[.slice aw n cw, .slice at_ m cs] TD)).heap.size = w.heap.size + 1 := by simp
  rw [sz0] at r1
  have K0 := Lib.hid (Kp.and (Kp.fp f0) (Kp.and (Kp.row r0) (Kp.row r1)))
  have HN := Lib.hid (And.intro hn (And.intro hm hL0))
  have HCW := Lib.hid hcw
  have HCV := Lib.hid hcv
  have HCE := Lib.hid hce
  clear hv hz hw hs hs1 hs2 hcw hcv hce f0 r0 r1 sz0 hn hm hL0
  go_enter Try.func26, Try.ntmps26
  go_wp2_with fail
  generalize hW0 : ((w.alloc (.cells #[.slice aw n cw, .slice at_ m cs] TD)).alloc (.cells #[.slice none 0 0, .slice none 0 0] TD)) = W0 at *
  have HSZ := Lib.hid (show W0.heap.size = w.heap.size + 2 by rw [← hW0]; simp)
  clear hW0
  have Hp := Lib.hid (fun W (f : Fp Non W0 W) => boxP2 (K0.out W f).2.1)
  have HWD := Lib.hid ((Fp.refl Non W0).drew)
  refine wp_region_held_drew (S := (fun W => W.cell? ⟨w.heap.size, 0, none⟩ = some (.slice aw n cw) ∧ W.cell? ⟨w.heap.size, 1, none⟩ = some (.slice at_ m cs))) (by kernel_rfl) ?_ (fun hHeld => ?_)
  · exact Hp.out _ HWD.out
  refine tk 0 hHeld ?_
  refine tk 1 hHeld ?_
  refine tk 3 hHeld ?_
  refine tk 4 hHeld ?_
  refine wpAnyH_ready (rs := [2, 7]) (by kernel_rfl) (by simp) ?_
  refine AllReadyH.cons (o := ?_) (by simp only [zA, zB, zC] <;> exact rfl) (fun K hK => ?_) (AllReadyH.cons (o := ?_) (by simp only [zA, zB, zC] <;> exact rfl) (fun K hK => ?_) AllReadyH.nil)
  · go_simp
    refine (HCW.out _ (K0.out _ HWD.out).1).mono ?_
    rintro e w1 ⟨v1, rfl, hR⟩
    have HOW := Lib.hid (show OwW w.heap.size w1 v1 d.ws from hR.own.lower (by have := HWD.out.size; have := HSZ.out; omega))
    have F1 := Lib.hid (HWD.out.then hR.fp)
    obtain ⟨va1, vc1, rfl⟩ : ∃ a c, v1 = .slice a n c := by rw [HN.out.1]; exact hR.own.ns.shape
    clear hR
    go_wp2_with fail
    refine hK.out _ _ (Hp.out _ F1.out) (fun hHeld => ?_)
    clear hK K
    try simp only [zP, zN, zS, zT, zU]
    refine wpAnyH_ready (rs := [5, 7]) (by kernel_rfl) (by simp) ?_
    refine AllReadyH.cons (o := ?_) (by simp only [zA, zB, zC] <;> exact rfl) (fun K hK => ?_) (AllReadyH.cons (o := ?_) (by simp only [zA, zB, zC] <;> exact rfl) (fun K hK => ?_) AllReadyH.nil)
    · go_simp
      refine (HCV.out _ (K0.out _ F1.out).1).mono ?_
      rintro e w2 ⟨v2, rfl, hR⟩
      have HOW := Lib.hid (HOW.out.non hR.fp)
      have HOV := Lib.hid (show OwV w.heap.size w2 v2 L0 from hR.own.lowerV (by have := F1.out.size; have := HSZ.out; omega))
      have F2 := Lib.hid (F1.out.then hR.fp)
      obtain ⟨va2, vc2, rfl⟩ : ∃ a c, v2 = .slice a m c := by rw [HN.out.2.1]; exact hR.own.ns.shape
      clear hR
      go_wp2_with fail
      refine hK.out _ _ (Hp.out _ F2.out) (fun hHeld => ?_)
      clear hK K
      try simp only [zP, zN, zS, zT, zU]
      refine tk 6 hHeld ?_
      refine rY 7 (fun K hK => ?_)
      go_simp
      go_simp
      have HNB := Lib.hid (heap_alloc_new (w2) (.cells #[.slice none 0 0, .slice none 0 0] TD))
      have F3 := Lib.hid (F2.out.then (fp_alloc (w2) (.cells #[.slice none 0 0, .slice none 0 0] TD)))
      have HNL := Lib.hid (show w.heap.size + 2 ≤ (w2).heap.size by have := F2.out.size; have := HSZ.out; first | omega | (simp only [World.drew] at *; omega))
      have HOW := Lib.hid (HOW.out.non (fp_alloc (w2) (.cells #[.slice none 0 0, .slice none 0 0] TD)))
      have HOV := Lib.hid (HOV.out.non (fp_alloc (w2) (.cells #[.slice none 0 0, .slice none 0 0] TD)))
      go_wp2_with fail
      refine hK.out _ _ (Hp.out _ F3.out) (fun hHeld => ?_)
      clear hK K
      try simp only [zP, zN, zS, zT, zU]
      generalize (World.alloc (w2) (.cells #[.slice none 0 0, .slice none 0 0] TD)) = wn at *
      obtain ⟨N, hN⟩ : ∃ N, N = w2.heap.size := ⟨_, rfl⟩
      rw [← hN] at HNB HNL ⊢
      clear hN
      obtain ⟨u0, u1⟩ := boxP2 HNB.out
      have u2 := frozen_at HNB.out 0
      have hz1 := heap_setCell_same _ N 0 _ TD (.slice va1 n vc1) HNB.out
      have u4 := (boxP2 hz1).2
      have u5 := frozen_at hz1 1
      obtain ⟨k8, k9⟩ := CnI.start HOW.out HOV.out HNB.out HNL.out (K0.out _ F3.out).1 (K0.out _ F3.out).2.2 rfl
      have H8 := Lib.hid (And.intro k8 k9)
      have Hp8 := Lib.hid (show ∀ W, W = (World.setCell (World.setCell wn ⟨N, 0, none⟩ (.slice va1 n vc1)) ⟨N, 1, none⟩ (.slice va2 m vc2)) → W.cell? ⟨w.heap.size, 0, none⟩ = some (.slice aw n cw) ∧ W.cell? ⟨w.heap.size, 1, none⟩ = some (.slice at_ m cs) from fun W hW => by
        subst hW
        have hrow := (K0.out _ F3.out).2.1
        have hne : w.heap.size ≠ N := by have := HNL.out; omega
        exact boxP2 ((fp_cell _ N 1 _).heap ((fp_cell _ N 0 _).heap hrow (fun e => hne e)) (fun e => hne e)))
      clear hz1 k8 k9
      refine rY 8 (fun K hK => ?_)
      go_simp
      refine hK.out _ _ (Hp8.out _ rfl) (fun hHeld => ?_)
      clear hK K hHeld
      try simp only [zP, zN, zS, zT, zU]
      refine yD ?_
      clear u0 u1 u2 u4 u5 Hp8
      generalize (World.setCell (World.setCell wn ⟨N, 0, none⟩ _) ⟨N, 1, none⟩ _) = W8 at *
      obtain ⟨p0, p1⟩ := boxP2 H8.out.1.blk
      go_wp2_with fail
      go_loopw [16] (fun i wr => ∃ k : Nat, k ≤ m ∧ i = .int .i64 k ∧ Hid (CnI w.heap.size N (.slice va1 n vc1) (.slice va2 m vc2) d.ws L0 k w wr ∧ wr.heap[w.heap.size + 1]? = some (.cells #[.slice none 0 0, .slice none 0 0] TD (0, 0)))) (fun i _ => m - (RowKit.intOf i).toNat)
      case atStart => exact ⟨0, Nat.zero_le _, rfl, H8.out⟩
      case round =>
        clear p0 p1
        obtain ⟨k, hk, rfl, hR⟩ := hrel
        rename_i wr _
        by_cases hlt : k < m
        · have hkl : k < L0.length := by rw [← HN.out.2.1]; exact hlt
          obtain ⟨p0, p1⟩ := boxP2 hR.out.1.blk
          obtain ⟨G, rfl⟩ := hR.out.1.G hkl
          have hev := hR.out.1.ev hkl
          have hce := HCE.out k hkl wr hR.out.1.fp
          have hst := fun a c W' (ho : OwE wr.heap.size W' (.slice a L0[k].s.evs.length c) L0[k].s.evs) (f : Fp Non wr W') => hR.out.1.step hkl ho f
          have HL := Lib.hid hlt
          generalize L0[k] = x at *
          obtain ⟨xS, xa, xc⟩ := x
          unfold Sv.ev at hev hce
          simp only at hev hce hst
          obtain ⟨xl, hxl⟩ : ∃ n, n = xS.evs.length := ⟨_, rfl⟩
          rw [← hxl] at hev hce hst
          have HXL := Lib.hid hxl
          have HCE1 := Lib.hid hce
          have HST := Lib.hid hst
          have q3 : ((k : Int) < (m : Int)) = True := eq_true (by omega)
          have q4 : (k < m) = True := eq_true hlt
          clear hce hst hlt hkl hxl
          go_wp2_with fail
          refine HCE1.out.mono ?_
          rintro e w5 ⟨v5, rfl, hR5⟩
          obtain ⟨a5, c5, e5⟩ := hR5.own.ns.shape
          rw [← HXL.out] at e5
          subst e5
          obtain ⟨k1, k2, vo, k3⟩ := HST.out a5 c5 w5 hR5.own hR5.fp
          have hM : Hid (CnI w.heap.size N (.slice va1 n vc1) (.slice (some ⟨G, 0, none⟩) m vc2) d.ws L0 (k + 1) w (w5.setCell ⟨G, k * 3 + 2, none⟩ (.slice a5 xl c5)) ∧ (w5.setCell ⟨G, k * 3 + 2, none⟩ (.slice a5 xl c5)).heap[w.heap.size + 1]? = some (.cells #[.slice none 0 0, .slice none 0 0] TD (0, 0))) := ⟨k1, k1.rowR hR5.fp hR.out.1 hR.out.2 _ _⟩
          have hkn := HL.out
          clear hR5 k1
          go_wp2
          go_roundw
          case rel => exact ⟨k + 1, by omega, by go_num, hM⟩
          case measure => simp [RowKit.intOf]; omega
        · have hke : k = m := by omega
          subst hke
          have q3 : ((k : Int) < (k : Int)) = False := eq_false (by omega)
          obtain ⟨L, hc, hLs⟩ := hR.out.1.done (by rw [← HN.out.2.1]; exact Nat.le_refl _)
          obtain ⟨p0, p1⟩ := boxP2 hR.out.1.blk
          obtain ⟨r0, r1⟩ := boxP2 hR.out.2
          have z0 := frozen_at hR.out.2 0
          have hz1 := heap_setCell_same wr (w.heap.size + 1) 0 _ TD (.slice va1 n vc1) hR.out.2
          have z1 := (boxP2 hz1).2
          have z2 := frozen_at hz1 1
          have hz2 := heap_setCell_same _ (w.heap.size + 1) 1 _ TD (.slice va2 k vc2) hz1
          have HF := Lib.hid (hc.twoD hR.out.2 (.slice va1 n vc1) (.slice va2 k vc2))
          have HF2 := Lib.hid (And.intro hz2 (And.intro hLs ((hR.out.1.fp.trans (fp_cell wr (w.heap.size + 1) 0 (.slice va1 n vc1)) (fun j hj => .inr (by have hj : j = w.heap.size + 1 := hj; omega))).trans (fp_cell _ (w.heap.size + 1) 1 (.slice va2 k vc2)) (fun j hj => .inr (by have hj : j = w.heap.size + 1 := hj; omega)))))
          clear hlt hk hc hz1 hz2 hLs
          go_wp2_with fail
          generalize (World.setCell (World.setCell wr _ _) _ _) = wz at *
          obtain ⟨s0, s1⟩ := boxP2 HF2.out.1
          refine bodyPost_ret (v := .agg #[.slice va1 n vc1, .slice va2 k vc2]) (by simp [results, Try.results26, go_sem, s0, s1]) rfl ?_
          exact ⟨⟨_, _, L, rfl, HF.out, by rw [HF2.out.2.1, HN.out.2.2]⟩, HF2.out.2.2⟩
    · go_simp
      have HNB := Lib.hid (heap_alloc_new (w1) (.cells #[.slice none 0 0, .slice none 0 0] TD))
      have F2 := Lib.hid (F1.out.then (fp_alloc (w1) (.cells #[.slice none 0 0, .slice none 0 0] TD)))
      have HNL := Lib.hid (show w.heap.size + 2 ≤ (w1).heap.size by have := F1.out.size; have := HSZ.out; first | omega | (simp only [World.drew] at *; omega))
      have HOW := Lib.hid (HOW.out.non (fp_alloc (w1) (.cells #[.slice none 0 0, .slice none 0 0] TD)))
      go_wp2_with fail
      refine hK.out _ _ (Hp.out _ F2.out) (fun hHeld => ?_)
      clear hK K
      try simp only [zP, zN, zS, zT, zU]
      generalize (World.alloc (w1) (.cells #[.slice none 0 0, .slice none 0 0] TD)) = wn at *
      refine rY 5 (fun K hK => ?_)
      go_simp
      go_simp
      refine (HCV.out _ (K0.out _ F2.out).1).mono ?_
      rintro e w2 ⟨v2, rfl, hR⟩
      have HNB := Lib.hid (hR.fp.heap HNB.out (fun h => h))
      have HOW := Lib.hid (HOW.out.non hR.fp)
      have HOV := Lib.hid (show OwV w.heap.size w2 v2 L0 from hR.own.lowerV (by have := F2.out.size; have := HSZ.out; omega))
      have F3 := Lib.hid (F2.out.then hR.fp)
      obtain ⟨va2, vc2, rfl⟩ : ∃ a c, v2 = .slice a m c := by rw [HN.out.2.1]; exact hR.own.ns.shape
      clear hR
      go_wp2_with fail
      refine hK.out _ _ (Hp.out _ F3.out) (fun hHeld => ?_)
      clear hK K
      try simp only [zP, zN, zS, zT, zU]
      refine tk 6 hHeld ?_
      obtain ⟨N, hN⟩ : ∃ N, N = w1.heap.size := ⟨_, rfl⟩
      rw [← hN] at HNB HNL ⊢
      clear hN
      obtain ⟨u0, u1⟩ := boxP2 HNB.out
      have u2 := frozen_at HNB.out 0
      have hz1 := heap_setCell_same _ N 0 _ TD (.slice va1 n vc1) HNB.out
      have u4 := (boxP2 hz1).2
      have u5 := frozen_at hz1 1
      obtain ⟨k8, k9⟩ := CnI.start HOW.out HOV.out HNB.out HNL.out (K0.out _ F3.out).1 (K0.out _ F3.out).2.2 rfl
      have H8 := Lib.hid (And.intro k8 k9)
      have Hp8 := Lib.hid (show ∀ W, W = (World.setCell (World.setCell w2 ⟨N, 0, none⟩ (.slice va1 n vc1)) ⟨N, 1, none⟩ (.slice va2 m vc2)) → W.cell? ⟨w.heap.size, 0, none⟩ = some (.slice aw n cw) ∧ W.cell? ⟨w.heap.size, 1, none⟩ = some (.slice at_ m cs) from fun W hW => by
        subst hW
        have hrow := (K0.out _ F3.out).2.1
        have hne : w.heap.size ≠ N := by have := HNL.out; omega
        exact boxP2 ((fp_cell _ N 1 _).heap ((fp_cell _ N 0 _).heap hrow (fun e => hne e)) (fun e => hne e)))
      clear hz1 k8 k9
      refine rY 8 (fun K hK => ?_)
      go_simp
      refine hK.out _ _ (Hp8.out _ rfl) (fun hHeld => ?_)
      clear hK K hHeld
      try simp only [zP, zN, zS, zT, zU]
      refine yD ?_
      clear u0 u1 u2 u4 u5 Hp8
      generalize (World.setCell (World.setCell w2 ⟨N, 0, none⟩ _) ⟨N, 1, none⟩ _) = W8 at *
      obtain ⟨p0, p1⟩ := boxP2 H8.out.1.blk
      go_wp2_with fail
      go_loopw [16] (fun i wr => ∃ k : Nat, k ≤ m ∧ i = .int .i64 k ∧ Hid (CnI w.heap.size N (.slice va1 n vc1) (.slice va2 m vc2) d.ws L0 k w wr ∧ wr.heap[w.heap.size + 1]? = some (.cells #[.slice none 0 0, .slice none 0 0] TD (0, 0)))) (fun i _ => m - (RowKit.intOf i).toNat)
      case atStart => exact ⟨0, Nat.zero_le _, rfl, H8.out⟩
      case round =>
        clear p0 p1
        obtain ⟨k, hk, rfl, hR⟩ := hrel
        rename_i wr _
        by_cases hlt : k < m
        · have hkl : k < L0.length := by rw [← HN.out.2.1]; exact hlt
          obtain ⟨p0, p1⟩ := boxP2 hR.out.1.blk
          obtain ⟨G, rfl⟩ := hR.out.1.G hkl
          have hev := hR.out.1.ev hkl
          have hce := HCE.out k hkl wr hR.out.1.fp
          have hst := fun a c W' (ho : OwE wr.heap.size W' (.slice a L0[k].s.evs.length c) L0[k].s.evs) (f : Fp Non wr W') => hR.out.1.step hkl ho f
          have HL := Lib.hid hlt
          generalize L0[k] = x at *
          obtain ⟨xS, xa, xc⟩ := x
          unfold Sv.ev at hev hce
          simp only at hev hce hst
          obtain ⟨xl, hxl⟩ : ∃ n, n = xS.evs.length := ⟨_, rfl⟩
          rw [← hxl] at hev hce hst
          have HXL := Lib.hid hxl
          have HCE1 := Lib.hid hce
          have HST := Lib.hid hst
          have q3 : ((k : Int) < (m : Int)) = True := eq_true (by omega)
          have q4 : (k < m) = True := eq_true hlt
          clear hce hst hlt hkl hxl
          go_wp2_with fail
          refine HCE1.out.mono ?_
          rintro e w5 ⟨v5, rfl, hR5⟩
          obtain ⟨a5, c5, e5⟩ := hR5.own.ns.shape
          rw [← HXL.out] at e5
          subst e5
          obtain ⟨k1, k2, vo, k3⟩ := HST.out a5 c5 w5 hR5.own hR5.fp
          have hM : Hid (CnI w.heap.size N (.slice va1 n vc1) (.slice (some ⟨G, 0, none⟩) m vc2) d.ws L0 (k + 1) w (w5.setCell ⟨G, k * 3 + 2, none⟩ (.slice a5 xl c5)) ∧ (w5.setCell ⟨G, k * 3 + 2, none⟩ (.slice a5 xl c5)).heap[w.heap.size + 1]? = some (.cells #[.slice none 0 0, .slice none 0 0] TD (0, 0))) := ⟨k1, k1.rowR hR5.fp hR.out.1 hR.out.2 _ _⟩
          have hkn := HL.out
          clear hR5 k1
          go_wp2
          go_roundw
          case rel => exact ⟨k + 1, by omega, by go_num, hM⟩
          case measure => simp [RowKit.intOf]; omega
        · have hke : k = m := by omega
          subst hke
          have q3 : ((k : Int) < (k : Int)) = False := eq_false (by omega)
          obtain ⟨L, hc, hLs⟩ := hR.out.1.done (by rw [← HN.out.2.1]; exact Nat.le_refl _)
          obtain ⟨p0, p1⟩ := boxP2 hR.out.1.blk
          obtain ⟨r0, r1⟩ := boxP2 hR.out.2
          have z0 := frozen_at hR.out.2 0
          have hz1 := heap_setCell_same wr (w.heap.size + 1) 0 _ TD (.slice va1 n vc1) hR.out.2
          have z1 := (boxP2 hz1).2
          have z2 := frozen_at hz1 1
          have hz2 := heap_setCell_same _ (w.heap.size + 1) 1 _ TD (.slice va2 k vc2) hz1
          have HF := Lib.hid (hc.twoD hR.out.2 (.slice va1 n vc1) (.slice va2 k vc2))
          have HF2 := Lib.hid (And.intro hz2 (And.intro hLs ((hR.out.1.fp.trans (fp_cell wr (w.heap.size + 1) 0 (.slice va1 n vc1)) (fun j hj => .inr (by have hj : j = w.heap.size + 1 := hj; omega))).trans (fp_cell _ (w.heap.size + 1) 1 (.slice va2 k vc2)) (fun j hj => .inr (by have hj : j = w.heap.size + 1 := hj; omega)))))
          clear hlt hk hc hz1 hz2 hLs
          go_wp2_with fail
          generalize (World.setCell (World.setCell wr _ _) _ _) = wz at *
          obtain ⟨s0, s1⟩ := boxP2 HF2.out.1
          refine bodyPost_ret (v := .agg #[.slice va1 n vc1, .slice va2 k vc2]) (by simp [results, Try.results26, go_sem, s0, s1]) rfl ?_
          exact ⟨⟨_, _, L, rfl, HF.out, by rw [HF2.out.2.1, HN.out.2.2]⟩, HF2.out.2.2⟩
  · go_simp
    have HNB := Lib.hid (show ((World.alloc W0 (.cells #[.slice none 0 0, .slice none 0 0] TD)).drew).heap[W0.heap.size]? = _ from heap_alloc_new W0 (.cells #[.slice none 0 0, .slice none 0 0] TD))
    have F1 := Lib.hid ((fp_alloc W0 (.cells #[.slice none 0 0, .slice none 0 0] TD)).drew)
    have HNL := Lib.hid (show w.heap.size + 2 ≤ W0.heap.size by have := HSZ.out; omega)
    go_wp2_with fail
    refine hK.out _ _ (Hp.out _ F1.out) (fun hHeld => ?_)
    clear hK K
    try simp only [zP, zN, zS, zT, zU]
    generalize (World.alloc W0 (.cells #[.slice none 0 0, .slice none 0 0] TD)).drew = wn at *
    refine rY 2 (fun K hK => ?_)
    go_simp
    go_simp
    refine (HCW.out _ (K0.out _ F1.out).1).mono ?_
    rintro e w1 ⟨v1, rfl, hR⟩
    have HNB := Lib.hid (hR.fp.heap HNB.out (fun h => h))
    have HOW := Lib.hid (show OwW w.heap.size w1 v1 d.ws from hR.own.lower (by have := F1.out.size; have := HSZ.out; omega))
    have F2 := Lib.hid (F1.out.then hR.fp)
    obtain ⟨va1, vc1, rfl⟩ : ∃ a c, v1 = .slice a n c := by rw [HN.out.1]; exact hR.own.ns.shape
    clear hR
    go_wp2_with fail
    refine hK.out _ _ (Hp.out _ F2.out) (fun hHeld => ?_)
    clear hK K
    try simp only [zP, zN, zS, zT, zU]
    refine rY 5 (fun K hK => ?_)
    go_simp
    go_simp
    refine (HCV.out _ (K0.out _ F2.out).1).mono ?_
    rintro e w2 ⟨v2, rfl, hR⟩
    have HNB := Lib.hid (hR.fp.heap HNB.out (fun h => h))
    have HOW := Lib.hid (HOW.out.non hR.fp)
    have HOV := Lib.hid (show OwV w.heap.size w2 v2 L0 from hR.own.lowerV (by have := F2.out.size; have := HSZ.out; omega))
    have F3 := Lib.hid (F2.out.then hR.fp)
    obtain ⟨va2, vc2, rfl⟩ : ∃ a c, v2 = .slice a m c := by rw [HN.out.2.1]; exact hR.own.ns.shape
    clear hR
    go_wp2_with fail
    refine hK.out _ _ (Hp.out _ F3.out) (fun hHeld => ?_)
    clear hK K
    try simp only [zP, zN, zS, zT, zU]
    refine tk 6 hHeld ?_
    obtain ⟨N, hN⟩ : ∃ N, N = W0.heap.size := ⟨_, rfl⟩
    rw [← hN] at HNB HNL ⊢
    clear hN
    obtain ⟨u0, u1⟩ := boxP2 HNB.out
    have u2 := frozen_at HNB.out 0
    have hz1 := heap_setCell_same _ N 0 _ TD (.slice va1 n vc1) HNB.out
    have u4 := (boxP2 hz1).2
    have u5 := frozen_at hz1 1
    obtain ⟨k8, k9⟩ := CnI.start HOW.out HOV.out HNB.out HNL.out (K0.out _ F3.out).1 (K0.out _ F3.out).2.2 rfl
    have H8 := Lib.hid (And.intro k8 k9)
    have Hp8 := Lib.hid (show ∀ W, W = (World.setCell (World.setCell w2 ⟨N, 0, none⟩ (.slice va1 n vc1)) ⟨N, 1, none⟩ (.slice va2 m vc2)) → W.cell? ⟨w.heap.size, 0, none⟩ = some (.slice aw n cw) ∧ W.cell? ⟨w.heap.size, 1, none⟩ = some (.slice at_ m cs) from fun W hW => by
      subst hW
      have hrow := (K0.out _ F3.out).2.1
      have hne : w.heap.size ≠ N := by have := HNL.out; omega
      exact boxP2 ((fp_cell _ N 1 _).heap ((fp_cell _ N 0 _).heap hrow (fun e => hne e)) (fun e => hne e)))
    clear hz1 k8 k9
    refine rY 8 (fun K hK => ?_)
    go_simp
    refine hK.out _ _ (Hp8.out _ rfl) (fun hHeld => ?_)
    clear hK K hHeld
    try simp only [zP, zN, zS, zT, zU]
    refine yD ?_
    clear u0 u1 u2 u4 u5 Hp8
    generalize (World.setCell (World.setCell w2 ⟨N, 0, none⟩ _) ⟨N, 1, none⟩ _) = W8 at *
    obtain ⟨p0, p1⟩ := boxP2 H8.out.1.blk
    go_wp2_with fail
    go_loopw [16] (fun i wr => ∃ k : Nat, k ≤ m ∧ i = .int .i64 k ∧ Hid (CnI w.heap.size N (.slice va1 n vc1) (.slice va2 m vc2) d.ws L0 k w wr ∧ wr.heap[w.heap.size + 1]? = some (.cells #[.slice none 0 0, .slice none 0 0] TD (0, 0)))) (fun i _ => m - (RowKit.intOf i).toNat)
    case atStart => exact ⟨0, Nat.zero_le _, rfl, H8.out⟩
    case round =>
      clear p0 p1
      obtain ⟨k, hk, rfl, hR⟩ := hrel
      rename_i wr _
      by_cases hlt : k < m
      · have hkl : k < L0.length := by rw [← HN.out.2.1]; exact hlt
        obtain ⟨p0, p1⟩ := boxP2 hR.out.1.blk
        obtain ⟨G, rfl⟩ := hR.out.1.G hkl
        have hev := hR.out.1.ev hkl
        have hce := HCE.out k hkl wr hR.out.1.fp
        have hst := fun a c W' (ho : OwE wr.heap.size W' (.slice a L0[k].s.evs.length c) L0[k].s.evs) (f : Fp Non wr W') => hR.out.1.step hkl ho f
        have HL := Lib.hid hlt
        generalize L0[k] = x at *
        obtain ⟨xS, xa, xc⟩ := x
        unfold Sv.ev at hev hce
        simp only at hev hce hst
        obtain ⟨xl, hxl⟩ : ∃ n, n = xS.evs.length := ⟨_, rfl⟩
        rw [← hxl] at hev hce hst
        have HXL := Lib.hid hxl
        have HCE1 := Lib.hid hce
        have HST := Lib.hid hst
        have q3 : ((k : Int) < (m : Int)) = True := eq_true (by omega)
        have q4 : (k < m) = True := eq_true hlt
        clear hce hst hlt hkl hxl
        go_wp2_with fail
        refine HCE1.out.mono ?_
        rintro e w5 ⟨v5, rfl, hR5⟩
        obtain ⟨a5, c5, e5⟩ := hR5.own.ns.shape
        rw [← HXL.out] at e5
        subst e5
        obtain ⟨k1, k2, vo, k3⟩ := HST.out a5 c5 w5 hR5.own hR5.fp
        have hM : Hid (CnI w.heap.size N (.slice va1 n vc1) (.slice (some ⟨G, 0, none⟩) m vc2) d.ws L0 (k + 1) w (w5.setCell ⟨G, k * 3 + 2, none⟩ (.slice a5 xl c5)) ∧ (w5.setCell ⟨G, k * 3 + 2, none⟩ (.slice a5 xl c5)).heap[w.heap.size + 1]? = some (.cells #[.slice none 0 0, .slice none 0 0] TD (0, 0))) := ⟨k1, k1.rowR hR5.fp hR.out.1 hR.out.2 _ _⟩
        have hkn := HL.out
        clear hR5 k1
        go_wp2
        go_roundw
        case rel => exact ⟨k + 1, by omega, by go_num, hM⟩
        case measure => simp [RowKit.intOf]; omega
      · have hke : k = m := by omega
        subst hke
        have q3 : ((k : Int) < (k : Int)) = False := eq_false (by omega)
        obtain ⟨L, hc, hLs⟩ := hR.out.1.done (by rw [← HN.out.2.1]; exact Nat.le_refl _)
        obtain ⟨p0, p1⟩ := boxP2 hR.out.1.blk
        obtain ⟨r0, r1⟩ := boxP2 hR.out.2
        have z0 := frozen_at hR.out.2 0
        have hz1 := heap_setCell_same wr (w.heap.size + 1) 0 _ TD (.slice va1 n vc1) hR.out.2
        have z1 := (boxP2 hz1).2
        have z2 := frozen_at hz1 1
        have hz2 := heap_setCell_same _ (w.heap.size + 1) 1 _ TD (.slice va2 k vc2) hz1
        have HF := Lib.hid (hc.twoD hR.out.2 (.slice va1 n vc1) (.slice va2 k vc2))
        have HF2 := Lib.hid (And.intro hz2 (And.intro hLs ((hR.out.1.fp.trans (fp_cell wr (w.heap.size + 1) 0 (.slice va1 n vc1)) (fun j hj => .inr (by have hj : j = w.heap.size + 1 := hj; omega))).trans (fp_cell _ (w.heap.size + 1) 1 (.slice va2 k vc2)) (fun j hj => .inr (by have hj : j = w.heap.size + 1 := hj; omega)))))
        clear hlt hk hc hz1 hz2 hLs
        go_wp2_with fail
        generalize (World.setCell (World.setCell wr _ _) _ _) = wz at *
        obtain ⟨s0, s1⟩ := boxP2 HF2.out.1
        refine bodyPost_ret (v := .agg #[.slice va1 n vc1, .slice va2 k vc2]) (by simp [results, Try.results26, go_sem, s0, s1]) rfl ?_
        exact ⟨⟨_, _, L, rfl, HF.out, by rw [HF2.out.2.1, HN.out.2.2]⟩, HF2.out.2.2⟩
end Go.Proofs.Ytjdpbieifcjmiaa
