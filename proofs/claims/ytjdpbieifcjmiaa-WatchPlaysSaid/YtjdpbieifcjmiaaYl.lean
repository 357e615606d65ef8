/- await, notify (gen_yl.py) -/
import Derived.Test.YtjdpbieifcjmiaaYk
namespace Go.Proofs.Ytjdpbieifcjmiaa
set_option maxRecDepth 20000
set_option linter.unusedVariables false
set_option linter.unusedSimpArgs false
open Go.RowKit Pm


/-- What await leaves. -/
structure AwR (lo G n cap : Nat) (vw : Value) (ws : List Wt) (L : List Sv) (k : Nat) (s' : Se) (w w' : World) : Prop where
  ex : ∃ L', Cl lo vw (.slice (some ⟨G, 0, none⟩) n cap) ws L' w' ∧ L'.map Sv.s = (L.map Sv.s).set k s'
  fp : Fs lo w w'
/-- A box's event, behind events of the call's own. -/
theorem app_ev (w : World) (lo : Nat) (v : Value) (l : List Ev) (x : Ev) (ty : TypeId) (ho : OwE lo w v l) (hn : l.length ≤ 50000) (hlo : lo ≤ w.heap.size) :
    ∃ v' w', (Builtin.append_ #[TLE, TLE] ty #[v, .slice (some ⟨w.heap.size, 0, none⟩) 1 1]).run Try.prog (w.alloc (.cells #[.int .i64 x.num, .int .i64 x.kind, .string (B x.p), .int .i64 x.wt] TE)) = .ok v' w' ∧ ChRE lo (w.alloc (.cells #[.int .i64 x.num, .int .i64 x.kind, .string (B x.p), .int .i64 x.wt] TE)) v (l ++ [x]) v' w' := by
  have hf := fp_alloc w (.cells #[.int .i64 x.num, .int .i64 x.kind, .string (B x.p), .int .i64 x.wt] TE)
  have hb := heap_alloc_new w (.cells #[.int .i64 x.num, .int .i64 x.kind, .string (B x.p), .int .i64 x.wt] TE)
  generalize (w.alloc (.cells #[.int .i64 x.num, .int .i64 x.kind, .string (B x.p), .int .i64 x.wt] TE)) = W at *
  obtain ⟨v', w', hr, h1, h2, h3⟩ := app_ownE W lo v l [x] ty ⟨w.heap.size, 0, none⟩ 1 1 (ho.non hf) rfl (fun i hi j u hu => by
    have hi0 : i = 0 := by simp at hi; omega
    subst hi0
    rw [Addr.add_lit, cell_of_row _ _ _ _ _ _ hb]
    rw [show 0 + (0 * 4 + j) = j from by omega]
    simpa [evC, strV] using hu) (by simp; omega) (Nat.le_trans hlo hf.size)
  exact ⟨v', w', hr, h1, (Fp.refl _ _).grown h2 (fun k hk => .inl hk), h3⟩


/-- The worlds of await, one behind the other. -/
theorem aw_facts {lo G n cap : Nat} {vw : Value} {ws : List Wt} {L : List Sv} {w : World} (h : Cl lo vw (.slice (some ⟨G, 0, none⟩) n cap) ws L w) (k : Nat) (hk : k < L.length) (kd wt xs xn : Int) (p : Bs) (xe : List Ev) (xa : Option Addr) (xc : Nat) (hx : (⟨⟨xs, xn, xe⟩, xa, xc⟩ : Sv) = L[k]) (hlo : lo ≤ w.heap.size) :
    Cl lo vw (.slice (some ⟨G, 0, none⟩) n cap) ws (L.set k ⟨⟨xs, xn + 1, xe⟩, xa, xc⟩) (World.setCell (World.setCell (w.alloc (.cells #[.int .i64 0, .int .i64 kd, .string (B p), .int .i64 wt] TE)) ⟨G, k * 3 + 1, none⟩ (.int .i64 (xn + 1))) ⟨w.heap.size, 0, none⟩ (.int .i64 (xn + 1))) ∧ (World.setCell (World.setCell (w.alloc (.cells #[.int .i64 0, .int .i64 kd, .string (B p), .int .i64 wt] TE)) ⟨G, k * 3 + 1, none⟩ (.int .i64 (xn + 1))) ⟨w.heap.size, 0, none⟩ (.int .i64 (xn + 1))).heap[w.heap.size]? = some (.cells #[.int .i64 (xn + 1), .int .i64 kd, .string (B p), .int .i64 wt] TE (0, 0)) ∧ Fs lo w (World.setCell (World.setCell (w.alloc (.cells #[.int .i64 0, .int .i64 kd, .string (B p), .int .i64 wt] TE)) ⟨G, k * 3 + 1, none⟩ (.int .i64 (xn + 1))) ⟨w.heap.size, 0, none⟩ (.int .i64 (xn + 1))) ∧
    (w.alloc (.cells #[.int .i64 0, .int .i64 kd, .string (B p), .int .i64 wt] TE)).frozen? ⟨G, k * 3 + 1, none⟩ = false ∧ (World.setCell (w.alloc (.cells #[.int .i64 0, .int .i64 kd, .string (B p), .int .i64 wt] TE)) ⟨G, k * 3 + 1, none⟩ (.int .i64 (xn + 1))).cell? ⟨G, k * 3 + 1, none⟩ = some (.int .i64 (xn + 1)) ∧ (World.setCell (w.alloc (.cells #[.int .i64 0, .int .i64 kd, .string (B p), .int .i64 wt] TE)) ⟨G, k * 3 + 1, none⟩ (.int .i64 (xn + 1))).frozen? ⟨w.heap.size, 0, none⟩ = false ∧ (World.setCell (World.setCell (w.alloc (.cells #[.int .i64 0, .int .i64 kd, .string (B p), .int .i64 wt] TE)) ⟨G, k * 3 + 1, none⟩ (.int .i64 (xn + 1))) ⟨w.heap.size, 0, none⟩ (.int .i64 (xn + 1))).heap.size = w.heap.size + 1 := by
  obtain ⟨hr, hG, hn⟩ := h.nrV
  have hGl := hr.lt
  have hw1 := fp_alloc w (.cells #[.int .i64 0, .int .i64 kd, .string (B p), .int .i64 wt] TE)
  have rb := heap_alloc_new w (.cells #[.int .i64 0, .int .i64 kd, .string (B p), .int .i64 wt] TE)
  have sz1 : (w.alloc (.cells #[.int .i64 0, .int .i64 kd, .string (B p), .int .i64 wt] TE)).heap.size = w.heap.size + 1 := by simp
  have hc1 := h.non hw1
  obtain ⟨hr1, _, _⟩ := hc1.nrV
  have hc2 := hc1.set k 1 hk (by omega) ⟨⟨xs, xn + 1, xe⟩, xa, xc⟩ (.int .i64 (xn + 1)) (by rw [← hx]; rfl) (by have := hc1.ownE _ (List.getElem_mem hk); rw [← hx] at this; exact this) (fun j hj m hm hmk e => by
    have hp := List.pairwise_iff_getElem.1 h.apart
    have hj' : L[k].ev.ownBlock = some j := by rw [← hx]; exact hj
    rcases Nat.lt_or_gt_of_ne hmk with hlt | hlt
    · exact hp m k hm hk hlt j e hj'
    · exact hp k m hk hm hlt j hj' e)
  have f2 := fp_cell (w.alloc (.cells #[.int .i64 0, .int .i64 kd, .string (B p), .int .i64 wt] TE)) G (k * 3 + 1) (.int .i64 (xn + 1))
  have rb2 := f2.heap rb (fun e => by have e : w.heap.size = G := e; omega)
  have f3 := fp_cell (World.setCell (w.alloc (.cells #[.int .i64 0, .int .i64 kd, .string (B p), .int .i64 wt] TE)) ⟨G, k * 3 + 1, none⟩ (.int .i64 (xn + 1))) w.heap.size 0 (.int .i64 (xn + 1))
  have rb3 := heap_setCell_same (World.setCell (w.alloc (.cells #[.int .i64 0, .int .i64 kd, .string (B p), .int .i64 wt] TE)) ⟨G, k * 3 + 1, none⟩ (.int .i64 (xn + 1))) w.heap.size 0 _ TE (.int .i64 (xn + 1)) rb2
  have hlt : ∀ y ∈ L, ∀ j, y.ev.ownBlock = some j → j ≠ w.heap.size := fun y hy j hj => by have := (h.ownE y hy).ltE j hj; omega
  have hc3 := hc2.keep f3 (fun j hj e => by have := (World.ownsRow.lt h.ownW j hj).2; have e : j = w.heap.size := e; omega) (fun j hj e => by
    have e : j = w.heap.size := e
    have : G = j := by simpa [Value.ownBlock] using hj
    omega) (fun y hy j hj => by
    rcases List.mem_or_eq_of_mem_set hy with hy | rfl
    · exact hlt y hy j hj
    · exact hlt L[k] (List.getElem_mem hk) j (by rw [← hx]; exact hj))
  have hft : Fs lo w (World.setCell (World.setCell (w.alloc (.cells #[.int .i64 0, .int .i64 kd, .string (B p), .int .i64 wt] TE)) ⟨G, k * 3 + 1, none⟩ (.int .i64 (xn + 1))) ⟨w.heap.size, 0, none⟩ (.int .i64 (xn + 1))) := by
    have g1 : Fs lo w (World.setCell (w.alloc (.cells #[.int .i64 0, .int .i64 kd, .string (B p), .int .i64 wt] TE)) ⟨G, k * 3 + 1, none⟩ (.int .i64 (xn + 1))) := (hw1.fs (lo := lo)).then (Fs.of f2 (fun j hj => by have hj : j = G := hj; subst hj; exact hc1.ownV.sts rfl))
    exact g1.then (Fs.of f3 (fun j hj => by have hj : j = w.heap.size := hj; subst hj; exact ⟨hlo, _, _, rb2, .inr rfl⟩))
  refine ⟨hc3, rb3, hft, ?_, ?_, ?_, ?_⟩
  · obtain ⟨cs, ht⟩ := hc1.ownV.type (j := G) rfl; exact frozen_at ht _
  · obtain ⟨hr2, _, _⟩ := hc2.nrV
    have := hr2.cell k 1 (by rw [List.length_set]; exact hk) (by omega)
    rw [this, List.getElem_set_self]; rfl
  · exact frozen_at rb2 _
  · simp [World.setCell]

/-- Behind the append of an event. -/
structure ApX (lo G k m : Nat) (old : Value) (es : List Ev) (w0 : World) (v' : Value) (w' : World) : Prop where
  ch : ChRE lo w0 old es v' w'
  fz : w'.frozen? ⟨G, k * 3 + 2, none⟩ = false
  cell : w'.cell? ⟨G, k * 3 + 2, none⟩ = some old
  shape : ∃ a c, v' = .slice a es.length c
theorem ApX.of {lo G n cap : Nat} {vw : Value} {ws : List Wt} {L : List Sv} {w0 : World} (h : Cl lo vw (.slice (some ⟨G, 0, none⟩) n cap) ws L w0) (k m : Nat) (hk : k < L.length) {es : List Ev} {v' : Value} {w' : World} (c : ChRE lo w0 L[k].ev es v' w') : ApX lo G k m L[k].ev es w0 v' w' := by
  obtain ⟨hr, _, _⟩ := h.nrV
  have hne := h.neE (List.getElem_mem hk)
  have h1 := hr.keep c.fp (fun e => hne G e rfl)
  have := h1.cell k 2 hk (by omega)
  exact ⟨c, h1.frozen _, this, c.own.ns.shape⟩

set_option maxHeartbeats 8000000 in
theorem await_c {lo G n cap : Nat} {vw : Value} {ws : List Wt} {L : List Sv} {w : World} (h : Cl lo vw (.slice (some ⟨G, 0, none⟩) n cap) ws L w) (k : Nat) (hk : k < L.length) (kd wt : Int) (p : Bs) (hl : L[k].s.evs.length ≤ 30000) (hc : 0 ≤ L[k].s.count ∧ L[k].s.count ≤ mxN) (hlo : lo ≤ w.heap.size) :
    Calls Try.prog 53 #[.pointer (some ⟨G, k * 3, none⟩), .agg #[.int .i64 0, .int .i64 kd, .string (B p), .int .i64 wt]] w fun e w' => e = .returned (.tuple #[]) ∧ AwR lo G n cap vw ws L k (awt L[k].s kd p wt) w w' := by
  obtain ⟨hr, hG, hn⟩ := h.nrV
  obtain ⟨cs, hty⟩ : ∃ cs, w.heap[G]? = some (.cells cs TV (0, 0)) := h.ownV.type rfl
  obtain ⟨x, hx⟩ : ∃ x, x = L[k] := ⟨_, rfl⟩
  have hnd := hr.nd k hk
  rw [← hx] at hnd hl hc ⊢
  have hE := h.ownE x (by rw [hx]; exact List.getElem_mem hk)
  obtain ⟨⟨xs, xn, xe⟩, xa, xc⟩ := x
  simp only at hl hc
  have c0 := hnd.c0; have c1 := hnd.c1; have c2 := hnd.c2
  unfold Sv.ev at c2 hE
  simp only [Nat.zero_add] at c0 c1 c2 hE
  have hw1 := fp_alloc w (.cells #[.int .i64 0, .int .i64 kd, .string (B p), .int .i64 wt] TE)
  have rb := heap_alloc_new w (.cells #[.int .i64 0, .int .i64 kd, .string (B p), .int .i64 wt] TE)
  have z1 := hr.frozen (k * 3 + 1)
  have z2 := hr.frozen (k * 3 + 2)
  obtain ⟨m, hm⟩ : ∃ m, m = xe.length := ⟨_, rfl⟩
  rw [← hm] at c2 hl
  by_cases hmx : xn = 281474976710656
  · have ha : awt ⟨xs, xn, xe⟩ kd p wt = ⟨xs, xn, xe⟩ := by unfold awt mxN; rw [if_pos hmx]
    rw [ha]
    have HF := Lib.hid (show AwR lo G n cap vw ws L k ⟨xs, xn, xe⟩ w (w.alloc (.cells #[.int .i64 0, .int .i64 kd, .string (B p), .int .i64 wt] TE)) from ⟨⟨L, h.non hw1, by
      rw [show (⟨xs, xn, xe⟩ : Se) = (L.map Sv.s)[k]'(by simpa using hk) from by rw [List.getElem_map, ← hx], List.set_getElem_self]⟩, hw1.fs⟩)
    have d1 := hw1.cell c1 (fun h => h)
    subst hmx
    clear h hr hG hn hty hx hnd hE rb z1 z2 hl hc ha c0 c1 c2 hw1
    go_enter Try.func53, Try.ntmps53
    go_wp2
    refine bodyPost_ret (results_none rfl _ _ _) rfl ?_
    exact ⟨rfl, HF.out⟩
  · have ha : awt ⟨xs, xn, xe⟩ kd p wt = ⟨xs, xn + 1, xe ++ [⟨xn + 1, kd, p, wt⟩]⟩ := by unfold awt mxN; rw [if_neg hmx]
    rw [ha]
    have q1 : (xn == 281474976710656) = false := by simpa using hmx
    have hxb : 0 ≤ xn ∧ xn < 281474976710656 := by unfold mxN at hc; omega
    obtain ⟨hxb1, hxb2⟩ := hxb
    have d1 := hw1.cell c1 (fun h => h)
    obtain ⟨k1, k2, k3, k4, k5, k6, k7⟩ := aw_facts h k hk kd wt xs xn p xe xa xc hx hlo
    go_enter Try.func53, Try.ntmps53
    go_wp2_with fail
    have HXX := Lib.hid (And.intro hx (And.intro hm hk))
    clear h hr hG hty hnd hE c0 c1 c2 hw1 rb z1 z2 ha hmx hc d1 k4 k5 k6 hx
    generalize (World.setCell (World.setCell (w.alloc (.cells #[.int .i64 0, .int .i64 kd, .string (B p), .int .i64 wt] TE)) _ _) _ _) = wz at *
    have hcd := k1.non ((Fp.refl Non wz).drew)
    have rbd := ((Fp.refl Non wz).drew).heap k2 (fun h => h)
    obtain ⟨b0, b1, b2, b3⟩ := boxP4 rbd
    obtain ⟨hr2, _, _⟩ := hcd.nrV
    have e2 := hr2.cell k 2 (by rw [List.length_set]; exact hk) (by omega)
    rw [List.getElem_set_self] at e2
    have hE2 := hcd.ownE _ (List.getElem_mem (by rw [List.length_set]; exact hk : k < (L.set k ⟨⟨xs, xn + 1, xe⟩, xa, xc⟩).length))
    rw [List.getElem_set_self] at hE2
    have e3 : wz.drew.cell? ⟨G, k * 3 + 2, none⟩ = some (.slice xa m xc) := by rw [hm]; exact e2
    have hap : ∀ ty, ∃ v' w', (Builtin.append_ #[TLE, TLE] ty #[.slice xa m xc, .slice (some ⟨wz.heap.size, 0, none⟩) 1 1]).run Try.prog (wz.drew.alloc (.cells #[.int .i64 (xn + 1), .int .i64 kd, .string (B p), .int .i64 wt] TE)) = .ok v' w' ∧ ApX lo G k m (.slice xa m xc) (xe ++ [⟨xn + 1, kd, p, wt⟩]) (wz.drew.alloc (.cells #[.int .i64 (xn + 1), .int .i64 kd, .string (B p), .int .i64 wt] TE)) v' w' := fun ty => by
      obtain ⟨v', w', hr, hch⟩ := app_ev wz.drew lo (.slice xa m xc) xe ⟨xn + 1, kd, p, wt⟩ ty (by rw [hm]; exact hE2) (by omega) (by show lo ≤ wz.heap.size; omega)
      refine ⟨v', w', hr, ?_⟩
      have hcz := hcd.non (fp_alloc wz.drew (.cells #[.int .i64 (xn + 1), .int .i64 kd, .string (B p), .int .i64 wt] TE))
      have hev : (L.set k ⟨⟨xs, xn + 1, xe⟩, xa, xc⟩)[k]'(by rw [List.length_set]; exact hk) = ⟨⟨xs, xn + 1, xe⟩, xa, xc⟩ := List.getElem_set_self _
      have := ApX.of hcz k m (by rw [List.length_set]; exact hk) (es := xe ++ [⟨xn + 1, kd, p, wt⟩]) (v' := v') (w' := w') (by rw [hev]; unfold Sv.ev; simp only; rw [← hm]; exact hch)
      rw [hev] at this
      unfold Sv.ev at this
      simp only at this
      rw [← hm] at this
      exact this
    have e5 : ∀ o, (wz.alloc o).cell? ⟨G, k * 3 + 2, none⟩ = some (.slice xa m xc) := fun o => (fp_alloc wz o).cell (p := ⟨G, k * 3 + 2, none⟩) e3 (fun h => h)
    obtain ⟨m4, hm4⟩ : ∃ m4, m4 = (xe ++ [⟨xn + 1, kd, p, wt⟩] : List Ev).length := ⟨_, rfl⟩
    have hfin : ∀ a4 c4 w4, ApX lo G k m (.slice xa m xc) (xe ++ [⟨xn + 1, kd, p, wt⟩]) (wz.drew.alloc (.cells #[.int .i64 (xn + 1), .int .i64 kd, .string (B p), .int .i64 wt] TE)) (.slice a4 m4 c4) w4 → AwR lo G n cap vw ws L k ⟨xs, xn + 1, xe ++ [⟨xn + 1, kd, p, wt⟩]⟩ w (w4.setCell ⟨G, k * 3 + 2, none⟩ (.slice a4 m4 c4)) := fun a4 c4 w4 hR => by
      have hf0 : Fp Non wz (wz.drew.alloc (.cells #[.int .i64 (xn + 1), .int .i64 kd, .string (B p), .int .i64 wt] TE)) := ((Fp.refl Non wz).drew).then (fp_alloc _ _)
      have hcz := k1.non hf0
      have hev : (L.set k ⟨⟨xs, xn + 1, xe⟩, xa, xc⟩)[k]'(by rw [List.length_set]; exact hk) = ⟨⟨xs, xn + 1, xe⟩, xa, xc⟩ := List.getElem_set_self _
      have hev2 : (⟨⟨xs, xn + 1, xe⟩, xa, xc⟩ : Sv).ev = .slice xa m xc := by unfold Sv.ev; simp only; rw [← hm]
      have hx2 : (⟨⟨xs, xn + 1, xe ++ [⟨xn + 1, kd, p, wt⟩]⟩, a4, c4⟩ : Sv).ev = .slice a4 m4 c4 := by unfold Sv.ev; simp only; rw [hm4]
      have hput := hcz.put (w' := w4) k (by rw [List.length_set]; exact hk) ⟨⟨xs, xn + 1, xe ++ [⟨xn + 1, kd, p, wt⟩]⟩, a4, c4⟩ (by rw [hev]; rfl) (by rw [hev, hev2]; exact hR.ch.fp) (by rw [hx2]; exact hR.ch.own) (by rw [hev, hev2, hx2]; exact hR.ch.new)
      rw [hx2, List.set_set] at hput
      have hE0 := hcz.ownE _ (List.getElem_mem (by rw [List.length_set]; exact hk : k < (L.set k ⟨⟨xs, xn + 1, xe⟩, xa, xc⟩).length))
      rw [hev, hev2] at hE0
      have g1 : Fs lo (wz.drew.alloc (.cells #[.int .i64 (xn + 1), .int .i64 kd, .string (B p), .int .i64 wt] TE)) w4 := Fs.of hR.ch.fp (fun j hj => hE0.sts hj)
      refine ⟨⟨_, hput, set_map _ _ _⟩, ((k3.then hf0.fs).then g1).then (Fs.of (fp_cell w4 G (k * 3 + 2) _) (fun j hj => ?_))⟩
      have hj : j = G := hj
      subst hj
      obtain ⟨hrz, hGz, _⟩ := hcz.nrV
      have := hrz.keep hR.ch.fp (fun e => (hcz.neE (List.getElem_mem (by rw [List.length_set]; exact hk : k < (L.set k ⟨⟨xs, xn + 1, xe⟩, xa, xc⟩).length)) j (by rw [hev, hev2]; exact e)) rfl)
      obtain ⟨r, h1, _⟩ := this.ex
      exact ⟨hGz, _, _, h1, .inl rfl⟩
    have HFIN := Lib.hid hfin
    have HM4 := Lib.hid hm4
    clear hfin hm4
    have HAP := Lib.hid hap
    have HC := Lib.hid (And.intro hcd (And.intro k3 k7))
    have hlb := hl
    clear hap hr2 e2 hE2 hcd rbd k1 k2 k3 hm
    go_region_law ((refine step_app rfl _ _ TLE TLE rfl (.slice xa m xc) (.slice (some ⟨wz.heap.size, 0, none⟩) 1 1) (by simp [Act.eval, Act.put]) (by simp [Act.eval, Act.put]) _ (HAP.out _) ?_; intro v4 w4 hR4; have hz4 := hR4.fz; have hz5 := hR4.cell; obtain ⟨a4, c4, e4⟩ := hR4.shape; rw [← HM4.out] at e4; subst e4; have HR4 := Lib.hid hR4; clear hR4))
    all_goals (go_end0; exact ⟨rfl, HFIN.out _ _ _ HR4.out⟩)
end Go.Proofs.Ytjdpbieifcjmiaa
