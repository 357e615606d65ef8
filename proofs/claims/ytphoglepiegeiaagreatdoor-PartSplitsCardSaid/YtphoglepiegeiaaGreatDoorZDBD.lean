/- A text of this proof. -/
import Derived.Deep.CutRange
import Derived.Test.YtphoglepiegeiaaGreatDoorZDBA
import Derived.Test.YtphoglepiegeiaaGreatDoorZDBB
import Derived.Test.YtphoglepiegeiaaGreatDoorZDBC
import Derived.Test.YtphoglepiegeiaaGreatDoorZDW
import Derived.Test.YtphoglepiegeiaaGreatDoorZDY
set_option linter.unusedSimpArgs false
set_option linter.unusedVariables false
namespace Go.Proofs.YtphoglepiegeiaaGreatDoor
set_option maxRecDepth 20000
open Go.RowKit Pm
theorem Kp.sg {α : Type} {enc : α → List Value} {k : Nat} {W : World} {v : Value} {l : List α} (h : Sg enc k W v l) : Kp (fun W' => Sg enc k W' v l) W := fun W' f => h.non f
theorem Kp.el {α : Type} {enc : α → List Value} {W : World} {g o : Nat} {x : α} (h : ElAt enc W g o x) : Kp (fun W' => ElAt enc W' g o x) W := fun W' f => h.keep f id
theorem Kp.sto {W : World} {v : Value} {s : St} (h : Sto W v s) : Kp (fun W' => Sto W' v s) W := fun W' f => h.non f
theorem do_at {s s' : St} {x : Pt} {r : Res} (e : applyP s x = (s', r)) {v : Value} {w : World} (hv : Sto w v s) (hs : StR s) (hn : s.nodes.length ≤ 3900) (hnt : s.turns.length ≤ 3900) (hp : x.path.length ≤ 1000000) (ht : Tab w) :
  Calls Tryz.prog 17 #[v, ptV x] w (DoR w s' r) := by
 have := Do_c v s x w hv (StR.few hs).2 (StR.few hs).1 hn hnt hp ht
 rwa [e] at this
theorem Ns.far {w : World} {v : Value} {l : List Nd} {q : Nat} (h : Ns w v l) (hq : (∃ (a b : Option Addr × Nat × Nat) (T : TypeId), w.heap[q]? = some (.cells #[.slice a.1 a.2.1 a.2.2, .slice b.1 b.2.1 b.2.2] T (0, 0))) ∨ ∃ (a : Int) (b c : ByteArray) (d : Int) (e : Option Addr × Nat × Nat) (T : TypeId), w.heap[q]? = some (.cells #[.int .i64 a, .string b, .string c, .int .i64 d, .slice e.1 e.2.1 e.2.2] T (0, 0))) : 0 < l.length → v.ownBlock ≠ some q := by
 intro h0 e
 obtain ⟨g, o, cap, rfl, _, _, _, hc⟩ := h.at h0
 have e : g = q := by simpa [Value.ownBlock] using e
 subst e
 have n := hc 0 h0
 have c0 := n.c0; have c1 := n.c1; have c2 := n.c2; have c3 := n.c3
 rw [show o + 0 * 5 = o by omega] at c0 c1 c2 c3
 unfold strV at c0 c1
 rcases hq with ⟨a, b, T, hq⟩ | ⟨a, b, c, d, e, T, hq⟩
 ·rw [cell_of_row _ _ _ _ _ _ hq] at c0
  match o, c0 with
  | 0, c0 => simp at c0
  | 1, c0 => simp at c0
  | o + 2, c0 => simp at c0
 rw [cell_of_row _ _ _ _ _ _ hq] at c0 c1 c3
 match o, c0, c1, c3 with
 | 0, c0, _, _ => simp at c0
 | 1, _, _, c3 => simp at c3
 | 2, _, c1, _ => simp at c1
 | 3, c0, _, _ => simp at c0
 | 4, c0, _, _ => simp at c0
 | o + 5, c0, _, _ => simp at c0
theorem Ts.far {w : World} {v : Value} {l : List Tu} {q : Nat} (h : Ts w v l) (hne : ∀ t ∈ l, t.dir ≠ []) (hq : (∃ (a b : Option Addr × Nat × Nat) (T : TypeId), w.heap[q]? = some (.cells #[.slice a.1 a.2.1 a.2.2, .slice b.1 b.2.1 b.2.2] T (0, 0))) ∨ ∃ (T : TypeId), w.heap[q]? = some (.cells #[.int .i64 0, .string ⟨#[]⟩, .string ⟨#[]⟩, .int .i64 0, .slice none 0 0] T (0, 0))) : 0 < l.length → v.ownBlock ≠ some q := by
 intro h0 e
 obtain ⟨g, o, cap, rfl, _, _, _, hc⟩ := h.at h0
 have e : g = q := by simpa [Value.ownBlock] using e
 subst e
 have n := hc 0 h0
 have hn := hne _ (List.getElem_mem h0)
 have c0 := n.c0
 rw [show o + 0 * 2 = o by omega] at c0
 unfold strV at c0
 have hb : ∀ x : Bs, ByteArray.mk #[] = B x → x = [] := fun x h => by
  have := congrArg (fun b : ByteArray => b.data.toList) h
  simpa [B] using this.symm
 rcases hq with ⟨a, b, T, hq⟩ | ⟨T, hq⟩
 ·rw [cell_of_row _ _ _ _ _ _ hq] at c0
  match o, c0 with
  | 0, c0 => simp at c0
  | 1, c0 => simp at c0
  | o + 2, c0 => simp at c0
 rw [cell_of_row _ _ _ _ _ _ hq] at c0
 match o, c0 with
 | 0, c0 => simp at c0
 | 1, c0 => simp at c0; exact hn (hb _ c0)
 | 2, c0 => simp at c0; exact hn (hb _ c0)
 | 3, c0 => simp at c0
 | 4, c0 => simp at c0
 | o + 5, c0 => simp at c0
theorem Ns.keep0 {w w' : World} {v : Value} {l : List Nd} (h : Ns w v l) {S : Nat → Prop} (f : Fp S w w') (hS : 0 < l.length → ∀ k, v.ownBlock = some k → ¬ S k) : Ns w' v l := by
 obtain ⟨ao, cap, rfl, h1, h2, h3⟩ := h.ex
 refine ⟨ao, cap, rfl, h1, h2, ?_⟩
 rcases h3 with h3 | ⟨g, o, rfl, hg, hc⟩
 ·exact .inl h3
 by_cases h0 : 0 < l.length
 ·exact .inr ⟨g, o, rfl, Nat.lt_of_lt_of_le hg f.size, fun i hi => (hc i hi).keep f (hS h0 g rfl)⟩
 exact .inl (List.eq_nil_of_length_eq_zero (by omega))
theorem Ts.keep0 {w w' : World} {v : Value} {l : List Tu} (h : Ts w v l) {S : Nat → Prop} (f : Fp S w w') (hS : 0 < l.length → ∀ k, v.ownBlock = some k → ¬ S k) : Ts w' v l := by
 obtain ⟨ao, cap, rfl, h1, h2, h3⟩ := h.ex
 refine ⟨ao, cap, rfl, h1, h2, ?_⟩
 rcases h3 with h3 | ⟨g, o, rfl, hg, hc⟩
 ·exact .inl h3
 by_cases h0 : 0 < l.length
 ·exact .inr ⟨g, o, rfl, Nat.lt_of_lt_of_le hg f.size, fun i hi => (hc i hi).keep f (hS h0 g rfl)⟩
 exact .inl (List.eq_nil_of_length_eq_zero (by omega))
theorem end2a {P : World → Prop} {u0 u U : World} {b3 b4 : Nat} (K : Kp P u0) (F : Fp Non u0 u) (h3 : u.heap[b3]? = some (.cells #[.slice none 0 0, .slice none 0 0] TST (0, 0))) (h4 : u.heap[b4]? = some (.cells #[.int .i64 0, .string ⟨#[]⟩, .string ⟨#[]⟩, .int .i64 0, .slice none 0 0] TR (0, 0)))
  (g3 : u0.heap.size ≤ b3) (g4 : u0.heap.size ≤ b4) {x0 x1 : Value} {s' : St} (hs : Sto u (.agg #[x0, x1]) s') (hne : ∀ t ∈ s'.turns, t.dir ≠ []) {c4 : Array Value}
  (fall : Fp (fun j => j = b3 ∨ j = b4) u U) (r3 : U.heap[b3]? = some (.cells #[x0, x1] TST (0, 0))) (r4 : U.heap[b4]? = some (.cells c4 TR (0, 0))) :
  Kp (fun W => P W ∧ W.heap[b3]? = some (.cells #[x0, x1] TST (0, 0)) ∧ W.heap[b4]? = some (.cells c4 TR (0, 0)) ∧ Sto W (.agg #[x0, x1]) s') U := by
 obtain ⟨vn, vt, e, hn, ht⟩ := hs.ex
 injection e with e
 injection e with e
 injection e with e1 e
 injection e with e2 _
 subst e1 e2
 have hS : Sto U (.agg #[x0, x1]) s' := by
  refine ⟨_, _, rfl, hn.keep0 fall (fun h0 k hk hj => ?_), ht.keep0 fall (fun h0 k hk hj => ?_)⟩
  ·rcases hj with rfl | rfl
   ·exact hn.far (.inl ⟨(none, 0, 0), (none, 0, 0), _, h3⟩) h0 hk
   exact hn.far (.inr ⟨_, _, _, _, (none, 0, 0), _, h4⟩) h0 hk
  rcases hj with rfl | rfl
  ·exact ht.far hne (.inl ⟨(none, 0, 0), (none, 0, 0), _, h3⟩) h0 hk
  exact ht.far hne (.inr ⟨_, h4⟩) h0 hk
 have FF := F.trans fall (fun j hj => .inr (by rcases hj with rfl | rfl <;> assumption))
 exact fun W f => ⟨K.later FF W f, f.heap r3 id, f.heap r4 id, hS.non f⟩
theorem end2 {P : World → Prop} {u0 u : World} {b3 b4 : Nat} (K : Kp P u0) (F : Fp Non u0 u) (h3 : u.heap[b3]? = some (.cells #[.slice none 0 0, .slice none 0 0] TST (0, 0))) (h4 : u.heap[b4]? = some (.cells #[.int .i64 0, .string ⟨#[]⟩, .string ⟨#[]⟩, .int .i64 0, .slice none 0 0] TR (0, 0)))
  (g3 : u0.heap.size ≤ b3) (g4 : u0.heap.size ≤ b4) {x0 x1 : Value} {s' : St} (hs : Sto u (.agg #[x0, x1]) s') (hne : ∀ t ∈ s'.turns, t.dir ≠ []) (v0 v1 v2 v3 v4 : Value) :
  Kp (fun W => P W ∧ W.heap[b3]? = some (.cells #[x0, x1] TST (0, 0)) ∧ W.heap[b4]? = some (.cells #[v0, v1, v2, v3, v4] TR (0, 0)) ∧ Sto W (.agg #[x0, x1]) s')
   (((((((u.setCell ⟨b3, 0, none⟩ x0).setCell ⟨b3, 1, none⟩ x1).setCell ⟨b4, 0, none⟩ v0).setCell ⟨b4, 1, none⟩ v1).setCell ⟨b4, 2, none⟩ v2).setCell ⟨b4, 3, none⟩ v3).setCell ⟨b4, 4, none⟩ v4) := by
 have hne34 : b4 ≠ b3 := fun e => by
  have h1 := h3
  rw [← e, h4] at h1
  injection h1 with h1
  injection h1 with _ h1 _
  exact absurd h1 (by decide)
 have f2 : Fp (fun j => j = b3) u ((u.setCell ⟨b3, 0, none⟩ x0).setCell ⟨b3, 1, none⟩ x1) := ((Fp.refl (fun j => j = b3) u).setCell (p := ⟨b3, 0, none⟩) (.inl rfl) x0).setCell (p := ⟨b3, 1, none⟩) (.inl rfl) x1
 have f5 := fp5 (S := fun j => j = b4) (Fp.refl _ ((u.setCell ⟨b3, 0, none⟩ x0).setCell ⟨b3, 1, none⟩ x1)) (b := b4) (.inl rfl) v0 v1 v2 v3 v4
 exact end2a K F h3 h4 g3 g4 hs hne ((f2.mono (T := fun j => j = b3 ∨ j = b4) (fun j hj => .inl hj)).same (f5.mono (fun j hj => .inr hj))) (f5.heap (two_set h3 x0 x1) (fun e => hne34 e.symm)) (set5 (f2.heap h4 hne34) v0 v1 v2 v3 v4)
structure Hb (w : World) (g o bs : Nat) (an at_ : Option Addr) (cn ct : Nat) (W : World) : Prop where
 fp : Fp Non w W
 e0 : ElAt ptC W g o hlP0
 e1 : ElAt ptC W g (o + 7) hlP1
 sb : W.heap[bs]? = some (.cells #[.slice an 2 cn, .slice at_ 1 ct] TST (0, 0))
 sto : Sto W (.agg #[.slice an 2 cn, .slice at_ 1 ct]) hlS
 tab : Tab W
section
variable {w : World} {g o bs : Nat} {an at_ : Option Addr} {cn ct : Nat} {W : World}
theorem Kp.hb (h : Hb w g o bs an at_ cn ct W) : Kp (Hb w g o bs an at_ cn ct) W := fun W' f => ⟨h.fp.then f, h.e0.keep f id, h.e1.keep f id, f.heap h.sb id, h.sto.non f, h.tab.non f⟩
theorem Hb.s1 (h : Hb w g o bs an at_ cn ct W) : ((fun w' => w'.cell? ⟨bs, 0, none⟩ = some (.slice an 2 cn) ∧ w'.cell? ⟨bs, 1, none⟩ = some (.slice at_ 1 ct) ∧ w'.cell? ⟨g, o, none⟩ = some (.int .i64 1) ∧ w'.cell? ⟨g, o + 1, none⟩ = some (.string ⟨#[47]⟩) ∧ w'.cell? ⟨g, o + 2, none⟩ = some (.string ⟨#[47, 97]⟩) ∧ w'.cell? ⟨g, o + 3, none⟩ = some (.string ⟨#[]⟩) ∧ w'.cell? ⟨g, o + 4, none⟩ = some (.int .i64 0) ∧ w'.cell? ⟨g, o + 5, none⟩ = some (.int .i64 0) ∧ w'.cell? ⟨g, o + 6, none⟩ = some (.bool false)) W) :=
 ⟨(boxP2 h.sb).1, (boxP2 h.sb).2, h.e0.get 0 _ rfl, h.e0.get 1 _ rfl, h.e0.get 2 _ rfl, h.e0.get 3 _ rfl, h.e0.get 4 _ rfl, h.e0.get 5 _ rfl, h.e0.get 6 _ rfl⟩
theorem Hb.s2 {b3 : Nat} {an3 at3 : Option Addr} {cn3 ct3 : Nat} (h : Hb w g o bs an at_ cn ct W) (h3 : W.heap[b3]? = some (.cells #[.slice an3 2 cn3, .slice at3 1 ct3] TST (0, 0))) : ((fun w' => w'.cell? ⟨b3, 0, none⟩ = some (.slice an3 2 cn3) ∧ w'.cell? ⟨b3, 1, none⟩ = some (.slice at3 1 ct3) ∧ w'.cell? ⟨g, o + 7, none⟩ = some (.int .i64 2) ∧ w'.cell? ⟨g, o + 8, none⟩ = some (.string ⟨#[47, 97]⟩) ∧ w'.cell? ⟨g, o + 9, none⟩ = some (.string ⟨#[47, 97, 47, 98]⟩) ∧ w'.cell? ⟨g, o + 10, none⟩ = some (.string ⟨#[120]⟩) ∧ w'.cell? ⟨g, o + 11, none⟩ = some (.int .i64 0) ∧ w'.cell? ⟨g, o + 12, none⟩ = some (.int .i64 0) ∧ w'.cell? ⟨g, o + 13, none⟩ = some (.bool false)) W) :=
 ⟨(boxP2 h3).1, (boxP2 h3).2, h.e1.get 0 _ rfl, h.e1.get 1 _ rfl, h.e1.get 2 _ rfl, h.e1.get 3 _ rfl, h.e1.get 4 _ rfl, h.e1.get 5 _ rfl, h.e1.get 6 _ rfl⟩
end
set_option maxHeartbeats 16000000 in
theorem head7_c (w : World) (ht : Tab w) : Calls Tryz.prog 14 #[] w fun e w' => e = .returned (.bool true) ∧ Fp Non w w' := by
 have HT := Lib.hid ht
 clear ht
 go_enter Tryz.func14, Tryz.ntmps14
 go_wp2_with fail
 refine (Of_c ⟨1, [47, 97, 47, 98], [120], 0, 0, false⟩ _ (by decide)).mono ?_
 rintro e w1 ⟨⟨v1, rfl, hl⟩, hf⟩
 rw [hl_parts] at hl
 obtain ⟨g, o, c, rfl, hel⟩ := hl.at (by decide)
 have he0 := hel 0 (by decide)
 have he1 := hel 1 (by decide)
 rw [show o + 0 * 7 = o by omega] at he0
 rw [show o + 1 * 7 = o + 7 by omega] at he1
 have K1 := Lib.hid (Kp.and (Kp.fp hf) (Kp.and (Kp.el (x := hlP0) he0) (Kp.el (x := hlP1) he1)))
 clear hl hel hf he0 he1
 go_wp2_with fail
 have hfa := fp_alloc w1 (.cells (rows hlL).toArray TN)
 have hns : Ns (w1.alloc (.cells (rows hlL).toArray TN)) (.slice (some ⟨w1.heap.size, 0, none⟩) 2 2) hlL :=
  Nr.ns (l := hlL) (g := w1.heap.size) (cap := 2) ⟨⟨[], by rw [List.append_nil]; exact heap_alloc_new w1 _, rfl⟩, Nat.le_refl _, by unfold maxLen; omega⟩
 have K2 := Lib.hid (Kp.and (Kp.ns hns) (K1.out.later hfa))
 clear hfa hns K1
 refine (Keep_c _ hlL _ K2.out.now.1 (by decide)).mono ?_
 rintro e w2 ⟨⟨v2, rfl, hs⟩, hf⟩
 rw [hlS_eq] at hs
 obtain ⟨vn, vt, rfl, hs1, hs2⟩ := hs.ex
 obtain ⟨an, cn, rfl⟩ := hs1.shape
 obtain ⟨at_, ct, rfl⟩ := hs2.shape
 rw [show hlS.nodes.length = 2 from rfl, show hlS.turns.length = 1 from rfl] at hs
 rw [show hlS.nodes.length = 2 from rfl, show hlS.turns.length = 1 from rfl]
 have K3 := Lib.hid (Kp.and (Kp.sto hs) (Kp.and (Kp.tab (HT.out.non ((K2.out.later hf).now.2.1))) (K2.out.later hf)))
 clear hf hs hs1 hs2 K2
 have hfb := fp_alloc w2 (.cells #[.slice an 2 cn, .slice at_ 1 ct] TST)
 have hbx := heap_alloc_new w2 (.cells #[.slice an 2 cn, .slice at_ 1 ct] TST)
 have KB := Lib.hid (Kp.hb (w := w) (g := g) (o := o) (bs := w2.heap.size) (an := an) (at_ := at_) (cn := cn) (ct := ct) (show Hb _ _ _ _ _ _ _ _ (w2.alloc (.cells #[.slice an 2 cn, .slice at_ 1 ct] TST)) from by
  have h := K3.out.later hfb
  exact ⟨h.now.2.2.2.1, h.now.2.2.2.2.1, h.now.2.2.2.2.2, hbx, h.now.1, h.now.2.1⟩))
 clear hfb hbx K3
 go_wp2_with fail
 generalize (w2.alloc (.cells #[.slice an 2 cn, .slice at_ 1 ct] TST)) = u at *
 generalize w2.heap.size = bs at *
 go_cut [3, 4] from 20 to 27 (fun x3 x4 wc => ∃ b3 b4 an3 cn3 at3 ct3 na3 nc3, x3 = .pointer (some ⟨b3, 0, none⟩) ∧ x4 = .pointer (some ⟨b4, 0, none⟩) ∧ Hid (Kp (fun W => Hb w g o bs an at_ cn ct W ∧ W.heap[b3]? = some (.cells #[.slice an3 2 cn3, .slice at3 1 ct3] TST (0, 0)) ∧ W.heap[b4]? = some (.cells #[.int .i64 0, .string ⟨#[]⟩, .string ⟨#[]⟩, .int .i64 0, .slice na3 0 nc3] TR (0, 0)) ∧ Sto W (.agg #[.slice an3 2 cn3, .slice at3 1 ct3]) hlS) wc))
 case first =>
  have KK0 := Lib.hid (KB.out.later (Fp.refl Non u).drew)
  have FF0 := Lib.hid (Fp.refl Non u.drew)
  have HS0 := Lib.hid (Hb.s1 KK0.out.now)
  go_wp2_with fail
  refine wp_region_held_drew (S := (fun w' => w'.cell? ⟨bs, 0, none⟩ = some (.slice an 2 cn) ∧ w'.cell? ⟨bs, 1, none⟩ = some (.slice at_ 1 ct) ∧ w'.cell? ⟨g, o, none⟩ = some (.int .i64 1) ∧ w'.cell? ⟨g, o + 1, none⟩ = some (.string ⟨#[47]⟩) ∧ w'.cell? ⟨g, o + 2, none⟩ = some (.string ⟨#[47, 97]⟩) ∧ w'.cell? ⟨g, o + 3, none⟩ = some (.string ⟨#[]⟩) ∧ w'.cell? ⟨g, o + 4, none⟩ = some (.int .i64 0) ∧ w'.cell? ⟨g, o + 5, none⟩ = some (.int .i64 0) ∧ w'.cell? ⟨g, o + 6, none⟩ = some (.bool false))) (by kernel_rfl) ?_ (fun hH => ?_)
  ·exact HS0.out
  generalize u.drew = u0 at *
  refine tk 0 hH ?_
  refine tk 1 hH ?_
  refine tk 2 hH ?_
  refine tk 3 hH ?_
  refine wpAnyH_ready (rs := [4, 8, 9]) (by kernel_rfl) (by simp) ?_
  refine (AllReadyH.cons (o := ?_) (by simp only [zA, zB, zC] <;> exact rfl) (fun K hK => ?_) (AllReadyH.cons (o := ?_) (by simp only [zA, zB, zC] <;> exact rfl) (fun K hK => ?_) (AllReadyH.cons (o := ?_) (by simp only [zA, zB, zC] <;> exact rfl) (fun K hK => ?_) AllReadyH.nil)))
  ·go_simp
   go_at_call 17
   refine (do_at hl_do0 (KK0.out.now).sto hlS_right (by decide) (by decide) (by decide) (KK0.out.now).tab).mono ?_
   rintro e u1 hD
   obtain ⟨vd, nv, rfl, hsd, hno⟩ := hD.ex
   obtain ⟨vn', vt', rfl, hs1, hs2⟩ := hsd.ex
   obtain ⟨dn, dcn, rfl⟩ := hs1.shape
   obtain ⟨dt, dct, rfl⟩ := hs2.shape
   obtain ⟨na, nc, rfl⟩ := hno.shape
   have hf := hD.fp
   rw [show hlS.nodes.length = 2 from rfl, show hlS.turns.length = 1 from rfl] at hsd
   rw [show hlS.nodes.length = 2 from rfl, show hlS.turns.length = 1 from rfl]
   simp only [show okR.err = 0 from rfl, show strV okR.path = .string ⟨#[]⟩ from rfl, show strV okR.data = .string ⟨#[]⟩ from rfl, show okR.ver = 0 from rfl, show okR.names.length = 0 from rfl]
   have KK1 := Lib.hid (KK0.out.later hf)
   have FF1 := Lib.hid (FF0.out.then hf)
   have CC1 := Lib.hid (Kp.sto hsd)
   have HS1 := Lib.hid (Hb.s1 KK1.out.now)
   clear hD hsd hs1 hs2 hno hf
   go_wp2_with fail
   refine hK.out _ _ HS1.out (fun hH => ?_)
   clear hK K
   try simp only [zz]
   refine tk 5 hH ?_
   refine tk 6 hH ?_
   refine tk 7 hH ?_
   refine wpAnyH_ready (rs := [8, 9]) (by kernel_rfl) (by simp) ?_
   refine (AllReadyH.cons (o := ?_) (by simp only [zA, zB, zC] <;> exact rfl) (fun K hK => ?_) (AllReadyH.cons (o := ?_) (by simp only [zA, zB, zC] <;> exact rfl) (fun K hK => ?_) AllReadyH.nil))
   ·go_simp
    have hf := fp_alloc u1 (.cells #[.slice none 0 0, .slice none 0 0] TST)
    have hr := heap_alloc_new u1 (.cells #[.slice none 0 0, .slice none 0 0] TST)
    have KK2 := Lib.hid (KK1.out.later hf)
    have CC2 := Lib.hid (CC1.out.later hf)
    have FF2 := Lib.hid (FF1.out.then hf)
    have AA2 := Lib.hid (Kp.row hr)
    have HS2 := Lib.hid (Hb.s1 KK2.out.now)
    clear hf hr
    refine hK.out _ _ HS2.out (fun hH => ?_)
    clear hK K
    try simp only [zz]
    obtain ⟨b3, hb⟩ : ∃ q, u1.heap.size = q := ⟨_, rfl⟩
    have Za := Lib.hid (show u0.heap.size ≤ b3 from by rw [← hb]; exact FF1.out.size)
    rw [hb] at AA2 ⊢
    clear hb
    generalize (u1.alloc (.cells #[.slice none 0 0, .slice none 0 0] TST)) = u2 at *
    refine rY 9 fun K hK => ?_
    go_simp
    have hf := fp_alloc u2 (.cells #[.int .i64 0, .string ⟨#[]⟩, .string ⟨#[]⟩, .int .i64 0, .slice none 0 0] TR)
    have hr := heap_alloc_new u2 (.cells #[.int .i64 0, .string ⟨#[]⟩, .string ⟨#[]⟩, .int .i64 0, .slice none 0 0] TR)
    have KK3 := Lib.hid (KK2.out.later hf)
    have AA3 := Lib.hid (AA2.out.later hf)
    have CC3 := Lib.hid (CC2.out.later hf)
    have FF3 := Lib.hid (FF2.out.then hf)
    have BB3 := Lib.hid (Kp.row hr)
    have HS3 := Lib.hid (Hb.s1 KK3.out.now)
    clear hf hr
    refine hK.out _ _ HS3.out (fun hH => ?_)
    clear hK K
    try simp only [zz]
    obtain ⟨b4, hb⟩ : ∃ q, u2.heap.size = q := ⟨_, rfl⟩
    have Zb := Lib.hid (show u0.heap.size ≤ b4 from by rw [← hb]; exact FF2.out.size)
    rw [hb] at BB3 ⊢
    clear hb
    generalize (u2.alloc (.cells #[.int .i64 0, .string ⟨#[]⟩, .string ⟨#[]⟩, .int .i64 0, .slice none 0 0] TR)) = u3 at *
    obtain ⟨y0, y1⟩ := boxP2 AA3.out.now
    have x0 := frozen_at AA3.out.now 0; have x1 := frozen_at AA3.out.now 1
    have hne : b4 ≠ b3 := fun e => by
     have h1 := AA3.out.now
     rw [← e, BB3.out.now] at h1
     injection h1 with h1
     injection h1 with _ h1 _
     exact absurd h1 (by decide)
    have hfa : Fp (fun j => j = b3) u3 ((u3.setCell ⟨b3, 0, none⟩ (.slice dn 2 dcn)).setCell ⟨b3, 1, none⟩ (.slice dt 1 dct)) := ((Fp.refl (fun j => j = b3) u3).setCell (p := ⟨b3, 0, none⟩) (.inl rfl) _).setCell (p := ⟨b3, 1, none⟩) (.inl rfl) _
    have HZ := Lib.hid (hfa.heap BB3.out.now hne)
    have hE := end2 KK0.out FF3.out AA3.out.now BB3.out.now Za.out Zb.out CC3.out.now (by decide) (.int .i64 0) (.string ⟨#[]⟩) (.string ⟨#[]⟩) (.int .i64 0) (.slice na 0 nc)
    have HE := Lib.hid hE
    have HSa := Lib.hid (Hb.s1 (KK0.out _ (FF3.out.trans hfa (fun j hj => .inr (by have hj : j = b3 := hj; have := Za.out; omega)))))
    have HSb := Lib.hid (Hb.s1 HE.out.now.1)
    clear hne hfa hE
    refine rY 10 fun K hK => ?_
    go_simp
    refine hK.out _ _ HSa.out (fun hH => ?_)
    clear hK K y0 y1 x0 x1
    try simp only [zz]
    obtain ⟨r0, r1, r2, r3, r4⟩ := box5 HZ.out
    have z0 := frozen_at HZ.out 0; have z1 := frozen_at HZ.out 1; have z2 := frozen_at HZ.out 2; have z3 := frozen_at HZ.out 3; have z4 := frozen_at HZ.out 4
    refine rY 11 fun K hK => ?_
    go_simp
    refine hK.out _ _ HSb.out (fun hH => ?_)
    clear hK K r0 r1 r2 r3 r4 z0 z1 z2 z3 z4 hH
    try simp only [zz]
    refine wpAnyH_done (by kernel_rfl) ?_ _
    go_wp2_with fail
    go_meet
    case rel => exact ⟨b3, b4, _, _, _, _, _, _, rfl, rfl, HE⟩
   go_simp
   have hf := fp_alloc u1 (.cells #[.int .i64 0, .string ⟨#[]⟩, .string ⟨#[]⟩, .int .i64 0, .slice none 0 0] TR)
   have hr := heap_alloc_new u1 (.cells #[.int .i64 0, .string ⟨#[]⟩, .string ⟨#[]⟩, .int .i64 0, .slice none 0 0] TR)
   have KK5 := Lib.hid (KK1.out.later hf)
   have CC5 := Lib.hid (CC1.out.later hf)
   have FF5 := Lib.hid (FF1.out.then hf)
   have BB5 := Lib.hid (Kp.row hr)
   have HS5 := Lib.hid (Hb.s1 KK5.out.now)
   clear hf hr
   refine hK.out _ _ HS5.out (fun hH => ?_)
   clear hK K
   try simp only [zz]
   obtain ⟨b4, hb⟩ : ∃ q, u1.heap.size = q := ⟨_, rfl⟩
   have Zb := Lib.hid (show u0.heap.size ≤ b4 from by rw [← hb]; exact FF1.out.size)
   rw [hb] at BB5 ⊢
   clear hb
   generalize (u1.alloc (.cells #[.int .i64 0, .string ⟨#[]⟩, .string ⟨#[]⟩, .int .i64 0, .slice none 0 0] TR)) = u5 at *
   refine rY 8 fun K hK => ?_
   go_simp
   have hf := fp_alloc u5 (.cells #[.slice none 0 0, .slice none 0 0] TST)
   have hr := heap_alloc_new u5 (.cells #[.slice none 0 0, .slice none 0 0] TST)
   have KK6 := Lib.hid (KK5.out.later hf)
   have BB6 := Lib.hid (BB5.out.later hf)
   have CC6 := Lib.hid (CC5.out.later hf)
   have FF6 := Lib.hid (FF5.out.then hf)
   have AA6 := Lib.hid (Kp.row hr)
   have HS6 := Lib.hid (Hb.s1 KK6.out.now)
   clear hf hr
   refine hK.out _ _ HS6.out (fun hH => ?_)
   clear hK K
   try simp only [zz]
   obtain ⟨b3, hb⟩ : ∃ q, u5.heap.size = q := ⟨_, rfl⟩
   have Za := Lib.hid (show u0.heap.size ≤ b3 from by rw [← hb]; exact FF5.out.size)
   rw [hb] at AA6 ⊢
   clear hb
   generalize (u5.alloc (.cells #[.slice none 0 0, .slice none 0 0] TST)) = u6 at *
   obtain ⟨y0, y1⟩ := boxP2 AA6.out.now
   have x0 := frozen_at AA6.out.now 0; have x1 := frozen_at AA6.out.now 1
   have hne : b4 ≠ b3 := fun e => by
    have h1 := AA6.out.now
    rw [← e, BB6.out.now] at h1
    injection h1 with h1
    injection h1 with _ h1 _
    exact absurd h1 (by decide)
   have hfa : Fp (fun j => j = b3) u6 ((u6.setCell ⟨b3, 0, none⟩ (.slice dn 2 dcn)).setCell ⟨b3, 1, none⟩ (.slice dt 1 dct)) := ((Fp.refl (fun j => j = b3) u6).setCell (p := ⟨b3, 0, none⟩) (.inl rfl) _).setCell (p := ⟨b3, 1, none⟩) (.inl rfl) _
   have HZ := Lib.hid (hfa.heap BB6.out.now hne)
   have hE := end2 KK0.out FF6.out AA6.out.now BB6.out.now Za.out Zb.out CC6.out.now (by decide) (.int .i64 0) (.string ⟨#[]⟩) (.string ⟨#[]⟩) (.int .i64 0) (.slice na 0 nc)
   have HE := Lib.hid hE
   have HSa := Lib.hid (Hb.s1 (KK0.out _ (FF6.out.trans hfa (fun j hj => .inr (by have hj : j = b3 := hj; have := Za.out; omega)))))
   have HSb := Lib.hid (Hb.s1 HE.out.now.1)
   clear hne hfa hE
   refine rY 10 fun K hK => ?_
   go_simp
   refine hK.out _ _ HSa.out (fun hH => ?_)
   clear hK K y0 y1 x0 x1
   try simp only [zz]
   obtain ⟨r0, r1, r2, r3, r4⟩ := box5 HZ.out
   have z0 := frozen_at HZ.out 0; have z1 := frozen_at HZ.out 1; have z2 := frozen_at HZ.out 2; have z3 := frozen_at HZ.out 3; have z4 := frozen_at HZ.out 4
   refine rY 11 fun K hK => ?_
   go_simp
   refine hK.out _ _ HSb.out (fun hH => ?_)
   clear hK K r0 r1 r2 r3 r4 z0 z1 z2 z3 z4 hH
   try simp only [zz]
   refine wpAnyH_done (by kernel_rfl) ?_ _
   go_wp2_with fail
   go_meet
   case rel => exact ⟨b3, b4, _, _, _, _, _, _, rfl, rfl, HE⟩
  ·go_simp
   have hf := fp_alloc u0 (.cells #[.slice none 0 0, .slice none 0 0] TST)
   have hr := heap_alloc_new u0 (.cells #[.slice none 0 0, .slice none 0 0] TST)
   have KK8 := Lib.hid (KK0.out.later hf)
   have FF8 := Lib.hid (FF0.out.then hf)
   have AA8 := Lib.hid (Kp.row hr)
   have HS8 := Lib.hid (Hb.s1 KK8.out.now)
   clear hf hr
   refine hK.out _ _ HS8.out (fun hH => ?_)
   clear hK K
   try simp only [zz]
   obtain ⟨b3, hb⟩ : ∃ q, u0.heap.size = q := ⟨_, rfl⟩
   have Za := Lib.hid (show u0.heap.size ≤ b3 from by rw [← hb]; exact FF0.out.size)
   rw [hb] at AA8 ⊢
   clear hb
   generalize (u0.alloc (.cells #[.slice none 0 0, .slice none 0 0] TST)) = u8 at *
   refine wpAnyH_ready (rs := [4, 9]) (by kernel_rfl) (by simp) ?_
   refine (AllReadyH.cons (o := ?_) (by simp only [zA, zB, zC] <;> exact rfl) (fun K hK => ?_) (AllReadyH.cons (o := ?_) (by simp only [zA, zB, zC] <;> exact rfl) (fun K hK => ?_) AllReadyH.nil))
   ·go_simp
    go_at_call 17
    refine (do_at hl_do0 (KK8.out.now).sto hlS_right (by decide) (by decide) (by decide) (KK8.out.now).tab).mono ?_
    rintro e u9 hD
    obtain ⟨vd, nv, rfl, hsd, hno⟩ := hD.ex
    obtain ⟨vn', vt', rfl, hs1, hs2⟩ := hsd.ex
    obtain ⟨dn, dcn, rfl⟩ := hs1.shape
    obtain ⟨dt, dct, rfl⟩ := hs2.shape
    obtain ⟨na, nc, rfl⟩ := hno.shape
    have hf := hD.fp
    rw [show hlS.nodes.length = 2 from rfl, show hlS.turns.length = 1 from rfl] at hsd
    rw [show hlS.nodes.length = 2 from rfl, show hlS.turns.length = 1 from rfl]
    simp only [show okR.err = 0 from rfl, show strV okR.path = .string ⟨#[]⟩ from rfl, show strV okR.data = .string ⟨#[]⟩ from rfl, show okR.ver = 0 from rfl, show okR.names.length = 0 from rfl]
    have KK9 := Lib.hid (KK8.out.later hf)
    have AA9 := Lib.hid (AA8.out.later hf)
    have FF9 := Lib.hid (FF8.out.then hf)
    have CC9 := Lib.hid (Kp.sto hsd)
    have HS9 := Lib.hid (Hb.s1 KK9.out.now)
    clear hD hsd hs1 hs2 hno hf
    go_wp2_with fail
    refine hK.out _ _ HS9.out (fun hH => ?_)
    clear hK K
    try simp only [zz]
    refine tk 5 hH ?_
    refine tk 6 hH ?_
    refine tk 7 hH ?_
    refine rY 9 fun K hK => ?_
    go_simp
    have hf := fp_alloc u9 (.cells #[.int .i64 0, .string ⟨#[]⟩, .string ⟨#[]⟩, .int .i64 0, .slice none 0 0] TR)
    have hr := heap_alloc_new u9 (.cells #[.int .i64 0, .string ⟨#[]⟩, .string ⟨#[]⟩, .int .i64 0, .slice none 0 0] TR)
    have KK10 := Lib.hid (KK9.out.later hf)
    have AA10 := Lib.hid (AA9.out.later hf)
    have CC10 := Lib.hid (CC9.out.later hf)
    have FF10 := Lib.hid (FF9.out.then hf)
    have BB10 := Lib.hid (Kp.row hr)
    have HS10 := Lib.hid (Hb.s1 KK10.out.now)
    clear hf hr
    refine hK.out _ _ HS10.out (fun hH => ?_)
    clear hK K
    try simp only [zz]
    obtain ⟨b4, hb⟩ : ∃ q, u9.heap.size = q := ⟨_, rfl⟩
    have Zb := Lib.hid (show u0.heap.size ≤ b4 from by rw [← hb]; exact FF9.out.size)
    rw [hb] at BB10 ⊢
    clear hb
    generalize (u9.alloc (.cells #[.int .i64 0, .string ⟨#[]⟩, .string ⟨#[]⟩, .int .i64 0, .slice none 0 0] TR)) = u10 at *
    obtain ⟨y0, y1⟩ := boxP2 AA10.out.now
    have x0 := frozen_at AA10.out.now 0; have x1 := frozen_at AA10.out.now 1
    have hne : b4 ≠ b3 := fun e => by
     have h1 := AA10.out.now
     rw [← e, BB10.out.now] at h1
     injection h1 with h1
     injection h1 with _ h1 _
     exact absurd h1 (by decide)
    have hfa : Fp (fun j => j = b3) u10 ((u10.setCell ⟨b3, 0, none⟩ (.slice dn 2 dcn)).setCell ⟨b3, 1, none⟩ (.slice dt 1 dct)) := ((Fp.refl (fun j => j = b3) u10).setCell (p := ⟨b3, 0, none⟩) (.inl rfl) _).setCell (p := ⟨b3, 1, none⟩) (.inl rfl) _
    have HZ := Lib.hid (hfa.heap BB10.out.now hne)
    have hE := end2 KK0.out FF10.out AA10.out.now BB10.out.now Za.out Zb.out CC10.out.now (by decide) (.int .i64 0) (.string ⟨#[]⟩) (.string ⟨#[]⟩) (.int .i64 0) (.slice na 0 nc)
    have HE := Lib.hid hE
    have HSa := Lib.hid (Hb.s1 (KK0.out _ (FF10.out.trans hfa (fun j hj => .inr (by have hj : j = b3 := hj; have := Za.out; omega)))))
    have HSb := Lib.hid (Hb.s1 HE.out.now.1)
    clear hne hfa hE
    refine rY 10 fun K hK => ?_
    go_simp
    refine hK.out _ _ HSa.out (fun hH => ?_)
    clear hK K y0 y1 x0 x1
    try simp only [zz]
    obtain ⟨r0, r1, r2, r3, r4⟩ := box5 HZ.out
    have z0 := frozen_at HZ.out 0; have z1 := frozen_at HZ.out 1; have z2 := frozen_at HZ.out 2; have z3 := frozen_at HZ.out 3; have z4 := frozen_at HZ.out 4
    refine rY 11 fun K hK => ?_
    go_simp
    refine hK.out _ _ HSb.out (fun hH => ?_)
    clear hK K r0 r1 r2 r3 r4 z0 z1 z2 z3 z4 hH
    try simp only [zz]
    refine wpAnyH_done (by kernel_rfl) ?_ _
    go_wp2_with fail
    go_meet
    case rel => exact ⟨b3, b4, _, _, _, _, _, _, rfl, rfl, HE⟩
   go_simp
   have hf := fp_alloc u8 (.cells #[.int .i64 0, .string ⟨#[]⟩, .string ⟨#[]⟩, .int .i64 0, .slice none 0 0] TR)
   have hr := heap_alloc_new u8 (.cells #[.int .i64 0, .string ⟨#[]⟩, .string ⟨#[]⟩, .int .i64 0, .slice none 0 0] TR)
   have KK12 := Lib.hid (KK8.out.later hf)
   have AA12 := Lib.hid (AA8.out.later hf)
   have FF12 := Lib.hid (FF8.out.then hf)
   have BB12 := Lib.hid (Kp.row hr)
   have HS12 := Lib.hid (Hb.s1 KK12.out.now)
   clear hf hr
   refine hK.out _ _ HS12.out (fun hH => ?_)
   clear hK K
   try simp only [zz]
   obtain ⟨b4, hb⟩ : ∃ q, u8.heap.size = q := ⟨_, rfl⟩
   have Zb := Lib.hid (show u0.heap.size ≤ b4 from by rw [← hb]; exact FF8.out.size)
   rw [hb] at BB12 ⊢
   clear hb
   generalize (u8.alloc (.cells #[.int .i64 0, .string ⟨#[]⟩, .string ⟨#[]⟩, .int .i64 0, .slice none 0 0] TR)) = u12 at *
   refine rY 4 fun K hK => ?_
   go_simp
   go_at_call 17
   refine (do_at hl_do0 (KK12.out.now).sto hlS_right (by decide) (by decide) (by decide) (KK12.out.now).tab).mono ?_
   rintro e u13 hD
   obtain ⟨vd, nv, rfl, hsd, hno⟩ := hD.ex
   obtain ⟨vn', vt', rfl, hs1, hs2⟩ := hsd.ex
   obtain ⟨dn, dcn, rfl⟩ := hs1.shape
   obtain ⟨dt, dct, rfl⟩ := hs2.shape
   obtain ⟨na, nc, rfl⟩ := hno.shape
   have hf := hD.fp
   rw [show hlS.nodes.length = 2 from rfl, show hlS.turns.length = 1 from rfl] at hsd
   rw [show hlS.nodes.length = 2 from rfl, show hlS.turns.length = 1 from rfl]
   simp only [show okR.err = 0 from rfl, show strV okR.path = .string ⟨#[]⟩ from rfl, show strV okR.data = .string ⟨#[]⟩ from rfl, show okR.ver = 0 from rfl, show okR.names.length = 0 from rfl]
   have KK13 := Lib.hid (KK12.out.later hf)
   have AA13 := Lib.hid (AA12.out.later hf)
   have BB13 := Lib.hid (BB12.out.later hf)
   have FF13 := Lib.hid (FF12.out.then hf)
   have CC13 := Lib.hid (Kp.sto hsd)
   have HS13 := Lib.hid (Hb.s1 KK13.out.now)
   clear hD hsd hs1 hs2 hno hf
   go_wp2_with fail
   refine hK.out _ _ HS13.out (fun hH => ?_)
   clear hK K
   try simp only [zz]
   refine tk 5 hH ?_
   refine tk 6 hH ?_
   refine tk 7 hH ?_
   obtain ⟨y0, y1⟩ := boxP2 AA13.out.now
   have x0 := frozen_at AA13.out.now 0; have x1 := frozen_at AA13.out.now 1
   have hne : b4 ≠ b3 := fun e => by
    have h1 := AA13.out.now
    rw [← e, BB13.out.now] at h1
    injection h1 with h1
    injection h1 with _ h1 _
    exact absurd h1 (by decide)
   have hfa : Fp (fun j => j = b3) u13 ((u13.setCell ⟨b3, 0, none⟩ (.slice dn 2 dcn)).setCell ⟨b3, 1, none⟩ (.slice dt 1 dct)) := ((Fp.refl (fun j => j = b3) u13).setCell (p := ⟨b3, 0, none⟩) (.inl rfl) _).setCell (p := ⟨b3, 1, none⟩) (.inl rfl) _
   have HZ := Lib.hid (hfa.heap BB13.out.now hne)
   have hE := end2 KK0.out FF13.out AA13.out.now BB13.out.now Za.out Zb.out CC13.out.now (by decide) (.int .i64 0) (.string ⟨#[]⟩) (.string ⟨#[]⟩) (.int .i64 0) (.slice na 0 nc)
   have HE := Lib.hid hE
   have HSa := Lib.hid (Hb.s1 (KK0.out _ (FF13.out.trans hfa (fun j hj => .inr (by have hj : j = b3 := hj; have := Za.out; omega)))))
   have HSb := Lib.hid (Hb.s1 HE.out.now.1)
   clear hne hfa hE
   refine rY 10 fun K hK => ?_
   go_simp
   refine hK.out _ _ HSa.out (fun hH => ?_)
   clear hK K y0 y1 x0 x1
   try simp only [zz]
   obtain ⟨r0, r1, r2, r3, r4⟩ := box5 HZ.out
   have z0 := frozen_at HZ.out 0; have z1 := frozen_at HZ.out 1; have z2 := frozen_at HZ.out 2; have z3 := frozen_at HZ.out 3; have z4 := frozen_at HZ.out 4
   refine rY 11 fun K hK => ?_
   go_simp
   refine hK.out _ _ HSb.out (fun hH => ?_)
   clear hK K r0 r1 r2 r3 r4 z0 z1 z2 z3 z4 hH
   try simp only [zz]
   refine wpAnyH_done (by kernel_rfl) ?_ _
   go_wp2_with fail
   go_meet
   case rel => exact ⟨b3, b4, _, _, _, _, _, _, rfl, rfl, HE⟩
  go_simp
  have hf := fp_alloc u0 (.cells #[.int .i64 0, .string ⟨#[]⟩, .string ⟨#[]⟩, .int .i64 0, .slice none 0 0] TR)
  have hr := heap_alloc_new u0 (.cells #[.int .i64 0, .string ⟨#[]⟩, .string ⟨#[]⟩, .int .i64 0, .slice none 0 0] TR)
  have KK15 := Lib.hid (KK0.out.later hf)
  have FF15 := Lib.hid (FF0.out.then hf)
  have BB15 := Lib.hid (Kp.row hr)
  have HS15 := Lib.hid (Hb.s1 KK15.out.now)
  clear hf hr
  refine hK.out _ _ HS15.out (fun hH => ?_)
  clear hK K
  try simp only [zz]
  obtain ⟨b4, hb⟩ : ∃ q, u0.heap.size = q := ⟨_, rfl⟩
  have Zb := Lib.hid (show u0.heap.size ≤ b4 from by rw [← hb]; exact FF0.out.size)
  rw [hb] at BB15 ⊢
  clear hb
  generalize (u0.alloc (.cells #[.int .i64 0, .string ⟨#[]⟩, .string ⟨#[]⟩, .int .i64 0, .slice none 0 0] TR)) = u15 at *
  refine wpAnyH_ready (rs := [4, 8]) (by kernel_rfl) (by simp) ?_
  refine (AllReadyH.cons (o := ?_) (by simp only [zA, zB, zC] <;> exact rfl) (fun K hK => ?_) (AllReadyH.cons (o := ?_) (by simp only [zA, zB, zC] <;> exact rfl) (fun K hK => ?_) AllReadyH.nil))
  ·go_simp
   go_at_call 17
   refine (do_at hl_do0 (KK15.out.now).sto hlS_right (by decide) (by decide) (by decide) (KK15.out.now).tab).mono ?_
   rintro e u16 hD
   obtain ⟨vd, nv, rfl, hsd, hno⟩ := hD.ex
   obtain ⟨vn', vt', rfl, hs1, hs2⟩ := hsd.ex
   obtain ⟨dn, dcn, rfl⟩ := hs1.shape
   obtain ⟨dt, dct, rfl⟩ := hs2.shape
   obtain ⟨na, nc, rfl⟩ := hno.shape
   have hf := hD.fp
   rw [show hlS.nodes.length = 2 from rfl, show hlS.turns.length = 1 from rfl] at hsd
   rw [show hlS.nodes.length = 2 from rfl, show hlS.turns.length = 1 from rfl]
   simp only [show okR.err = 0 from rfl, show strV okR.path = .string ⟨#[]⟩ from rfl, show strV okR.data = .string ⟨#[]⟩ from rfl, show okR.ver = 0 from rfl, show okR.names.length = 0 from rfl]
   have KK16 := Lib.hid (KK15.out.later hf)
   have BB16 := Lib.hid (BB15.out.later hf)
   have FF16 := Lib.hid (FF15.out.then hf)
   have CC16 := Lib.hid (Kp.sto hsd)
   have HS16 := Lib.hid (Hb.s1 KK16.out.now)
   clear hD hsd hs1 hs2 hno hf
   go_wp2_with fail
   refine hK.out _ _ HS16.out (fun hH => ?_)
   clear hK K
   try simp only [zz]
   refine tk 5 hH ?_
   refine tk 6 hH ?_
   refine tk 7 hH ?_
   refine rY 8 fun K hK => ?_
   go_simp
   have hf := fp_alloc u16 (.cells #[.slice none 0 0, .slice none 0 0] TST)
   have hr := heap_alloc_new u16 (.cells #[.slice none 0 0, .slice none 0 0] TST)
   have KK17 := Lib.hid (KK16.out.later hf)
   have BB17 := Lib.hid (BB16.out.later hf)
   have CC17 := Lib.hid (CC16.out.later hf)
   have FF17 := Lib.hid (FF16.out.then hf)
   have AA17 := Lib.hid (Kp.row hr)
   have HS17 := Lib.hid (Hb.s1 KK17.out.now)
   clear hf hr
   refine hK.out _ _ HS17.out (fun hH => ?_)
   clear hK K
   try simp only [zz]
   obtain ⟨b3, hb⟩ : ∃ q, u16.heap.size = q := ⟨_, rfl⟩
   have Za := Lib.hid (show u0.heap.size ≤ b3 from by rw [← hb]; exact FF16.out.size)
   rw [hb] at AA17 ⊢
   clear hb
   generalize (u16.alloc (.cells #[.slice none 0 0, .slice none 0 0] TST)) = u17 at *
   obtain ⟨y0, y1⟩ := boxP2 AA17.out.now
   have x0 := frozen_at AA17.out.now 0; have x1 := frozen_at AA17.out.now 1
   have hne : b4 ≠ b3 := fun e => by
    have h1 := AA17.out.now
    rw [← e, BB17.out.now] at h1
    injection h1 with h1
    injection h1 with _ h1 _
    exact absurd h1 (by decide)
   have hfa : Fp (fun j => j = b3) u17 ((u17.setCell ⟨b3, 0, none⟩ (.slice dn 2 dcn)).setCell ⟨b3, 1, none⟩ (.slice dt 1 dct)) := ((Fp.refl (fun j => j = b3) u17).setCell (p := ⟨b3, 0, none⟩) (.inl rfl) _).setCell (p := ⟨b3, 1, none⟩) (.inl rfl) _
   have HZ := Lib.hid (hfa.heap BB17.out.now hne)
   have hE := end2 KK0.out FF17.out AA17.out.now BB17.out.now Za.out Zb.out CC17.out.now (by decide) (.int .i64 0) (.string ⟨#[]⟩) (.string ⟨#[]⟩) (.int .i64 0) (.slice na 0 nc)
   have HE := Lib.hid hE
   have HSa := Lib.hid (Hb.s1 (KK0.out _ (FF17.out.trans hfa (fun j hj => .inr (by have hj : j = b3 := hj; have := Za.out; omega)))))
   have HSb := Lib.hid (Hb.s1 HE.out.now.1)
   clear hne hfa hE
   refine rY 10 fun K hK => ?_
   go_simp
   refine hK.out _ _ HSa.out (fun hH => ?_)
   clear hK K y0 y1 x0 x1
   try simp only [zz]
   obtain ⟨r0, r1, r2, r3, r4⟩ := box5 HZ.out
   have z0 := frozen_at HZ.out 0; have z1 := frozen_at HZ.out 1; have z2 := frozen_at HZ.out 2; have z3 := frozen_at HZ.out 3; have z4 := frozen_at HZ.out 4
   refine rY 11 fun K hK => ?_
   go_simp
   refine hK.out _ _ HSb.out (fun hH => ?_)
   clear hK K r0 r1 r2 r3 r4 z0 z1 z2 z3 z4 hH
   try simp only [zz]
   refine wpAnyH_done (by kernel_rfl) ?_ _
   go_wp2_with fail
   go_meet
   case rel => exact ⟨b3, b4, _, _, _, _, _, _, rfl, rfl, HE⟩
  go_simp
  have hf := fp_alloc u15 (.cells #[.slice none 0 0, .slice none 0 0] TST)
  have hr := heap_alloc_new u15 (.cells #[.slice none 0 0, .slice none 0 0] TST)
  have KK19 := Lib.hid (KK15.out.later hf)
  have BB19 := Lib.hid (BB15.out.later hf)
  have FF19 := Lib.hid (FF15.out.then hf)
  have AA19 := Lib.hid (Kp.row hr)
  have HS19 := Lib.hid (Hb.s1 KK19.out.now)
  clear hf hr
  refine hK.out _ _ HS19.out (fun hH => ?_)
  clear hK K
  try simp only [zz]
  obtain ⟨b3, hb⟩ : ∃ q, u15.heap.size = q := ⟨_, rfl⟩
  have Za := Lib.hid (show u0.heap.size ≤ b3 from by rw [← hb]; exact FF15.out.size)
  rw [hb] at AA19 ⊢
  clear hb
  generalize (u15.alloc (.cells #[.slice none 0 0, .slice none 0 0] TST)) = u19 at *
  refine rY 4 fun K hK => ?_
  go_simp
  go_at_call 17
  refine (do_at hl_do0 (KK19.out.now).sto hlS_right (by decide) (by decide) (by decide) (KK19.out.now).tab).mono ?_
  rintro e u20 hD
  obtain ⟨vd, nv, rfl, hsd, hno⟩ := hD.ex
  obtain ⟨vn', vt', rfl, hs1, hs2⟩ := hsd.ex
  obtain ⟨dn, dcn, rfl⟩ := hs1.shape
  obtain ⟨dt, dct, rfl⟩ := hs2.shape
  obtain ⟨na, nc, rfl⟩ := hno.shape
  have hf := hD.fp
  rw [show hlS.nodes.length = 2 from rfl, show hlS.turns.length = 1 from rfl] at hsd
  rw [show hlS.nodes.length = 2 from rfl, show hlS.turns.length = 1 from rfl]
  simp only [show okR.err = 0 from rfl, show strV okR.path = .string ⟨#[]⟩ from rfl, show strV okR.data = .string ⟨#[]⟩ from rfl, show okR.ver = 0 from rfl, show okR.names.length = 0 from rfl]
  have KK20 := Lib.hid (KK19.out.later hf)
  have AA20 := Lib.hid (AA19.out.later hf)
  have BB20 := Lib.hid (BB19.out.later hf)
  have FF20 := Lib.hid (FF19.out.then hf)
  have CC20 := Lib.hid (Kp.sto hsd)
  have HS20 := Lib.hid (Hb.s1 KK20.out.now)
  clear hD hsd hs1 hs2 hno hf
  go_wp2_with fail
  refine hK.out _ _ HS20.out (fun hH => ?_)
  clear hK K
  try simp only [zz]
  refine tk 5 hH ?_
  refine tk 6 hH ?_
  refine tk 7 hH ?_
  obtain ⟨y0, y1⟩ := boxP2 AA20.out.now
  have x0 := frozen_at AA20.out.now 0; have x1 := frozen_at AA20.out.now 1
  have hne : b4 ≠ b3 := fun e => by
   have h1 := AA20.out.now
   rw [← e, BB20.out.now] at h1
   injection h1 with h1
   injection h1 with _ h1 _
   exact absurd h1 (by decide)
  have hfa : Fp (fun j => j = b3) u20 ((u20.setCell ⟨b3, 0, none⟩ (.slice dn 2 dcn)).setCell ⟨b3, 1, none⟩ (.slice dt 1 dct)) := ((Fp.refl (fun j => j = b3) u20).setCell (p := ⟨b3, 0, none⟩) (.inl rfl) _).setCell (p := ⟨b3, 1, none⟩) (.inl rfl) _
  have HZ := Lib.hid (hfa.heap BB20.out.now hne)
  have hE := end2 KK0.out FF20.out AA20.out.now BB20.out.now Za.out Zb.out CC20.out.now (by decide) (.int .i64 0) (.string ⟨#[]⟩) (.string ⟨#[]⟩) (.int .i64 0) (.slice na 0 nc)
  have HE := Lib.hid hE
  have HSa := Lib.hid (Hb.s1 (KK0.out _ (FF20.out.trans hfa (fun j hj => .inr (by have hj : j = b3 := hj; have := Za.out; omega)))))
  have HSb := Lib.hid (Hb.s1 HE.out.now.1)
  clear hne hfa hE
  refine rY 10 fun K hK => ?_
  go_simp
  refine hK.out _ _ HSa.out (fun hH => ?_)
  clear hK K y0 y1 x0 x1
  try simp only [zz]
  obtain ⟨r0, r1, r2, r3, r4⟩ := box5 HZ.out
  have z0 := frozen_at HZ.out 0; have z1 := frozen_at HZ.out 1; have z2 := frozen_at HZ.out 2; have z3 := frozen_at HZ.out 3; have z4 := frozen_at HZ.out 4
  refine rY 11 fun K hK => ?_
  go_simp
  refine hK.out _ _ HSb.out (fun hH => ?_)
  clear hK K r0 r1 r2 r3 r4 z0 z1 z2 z3 z4 hH
  try simp only [zz]
  refine wpAnyH_done (by kernel_rfl) ?_ _
  go_wp2_with fail
  go_meet
  case rel => exact ⟨b3, b4, _, _, _, _, _, _, rfl, rfl, HE⟩
 obtain ⟨b3, b4, an3, cn3, at3, ct3, na3, nc3, rfl, rfl, HC⟩ := hcut
 clear KB
 obtain ⟨u, hu⟩ : ∃ u, u = wc := ⟨_, rfl⟩
 rw [← hu] at HC ⊢
 clear hu
 go_wp2_with fail
 go_cut [5, 6] from 28 to 35 (fun x5 x6 wc => ∃ b5 b6 an5 cn5 at5 ct5 na5 nc5, x5 = .pointer (some ⟨b5, 0, none⟩) ∧ x6 = .pointer (some ⟨b6, 0, none⟩) ∧ Hid (Kp (fun W => (Hb w g o bs an at_ cn ct W ∧ W.heap[b3]? = some (.cells #[.slice an3 2 cn3, .slice at3 1 ct3] TST (0, 0)) ∧ W.heap[b4]? = some (.cells #[.int .i64 0, .string ⟨#[]⟩, .string ⟨#[]⟩, .int .i64 0, .slice na3 0 nc3] TR (0, 0)) ∧ Sto W (.agg #[.slice an3 2 cn3, .slice at3 1 ct3]) hlS) ∧ W.heap[b5]? = some (.cells #[.slice an5 3 cn5, .slice at5 1 ct5] TST (0, 0)) ∧ W.heap[b6]? = some (.cells #[.int .i64 0, .string ⟨#[47, 97, 47, 98]⟩, .string ⟨#[]⟩, .int .i64 0, .slice na5 0 nc5] TR (0, 0)) ∧ Sto W (.agg #[.slice an5 3 cn5, .slice at5 1 ct5]) hlU) wc))
 case first =>
  have KK0 := Lib.hid (HC.out.later (Fp.refl Non u).drew)
  have FF0 := Lib.hid (Fp.refl Non u.drew)
  have HS0 := Lib.hid (Hb.s2 KK0.out.now.1 KK0.out.now.2.1)
  go_wp2_with fail
  refine wp_region_held_drew (S := (fun w' => w'.cell? ⟨b3, 0, none⟩ = some (.slice an3 2 cn3) ∧ w'.cell? ⟨b3, 1, none⟩ = some (.slice at3 1 ct3) ∧ w'.cell? ⟨g, o + 7, none⟩ = some (.int .i64 2) ∧ w'.cell? ⟨g, o + 8, none⟩ = some (.string ⟨#[47, 97]⟩) ∧ w'.cell? ⟨g, o + 9, none⟩ = some (.string ⟨#[47, 97, 47, 98]⟩) ∧ w'.cell? ⟨g, o + 10, none⟩ = some (.string ⟨#[120]⟩) ∧ w'.cell? ⟨g, o + 11, none⟩ = some (.int .i64 0) ∧ w'.cell? ⟨g, o + 12, none⟩ = some (.int .i64 0) ∧ w'.cell? ⟨g, o + 13, none⟩ = some (.bool false))) (by kernel_rfl) ?_ (fun hH => ?_)
  ·exact HS0.out
  generalize u.drew = u0 at *
  refine tk 0 hH ?_
  refine tk 1 hH ?_
  refine tk 2 hH ?_
  refine tk 3 hH ?_
  refine wpAnyH_ready (rs := [4, 8, 9]) (by kernel_rfl) (by simp) ?_
  refine (AllReadyH.cons (o := ?_) (by simp only [zA, zB, zC] <;> exact rfl) (fun K hK => ?_) (AllReadyH.cons (o := ?_) (by simp only [zA, zB, zC] <;> exact rfl) (fun K hK => ?_) (AllReadyH.cons (o := ?_) (by simp only [zA, zB, zC] <;> exact rfl) (fun K hK => ?_) AllReadyH.nil)))
  ·go_simp
   go_at_call 17
   refine (do_at hl_do1 (KK0.out.now).2.2.2 hlS_right (by decide) (by decide) (by decide) (KK0.out.now).1.tab).mono ?_
   rintro e u1 hD
   obtain ⟨vd, nv, rfl, hsd, hno⟩ := hD.ex
   obtain ⟨vn', vt', rfl, hs1, hs2⟩ := hsd.ex
   obtain ⟨dn, dcn, rfl⟩ := hs1.shape
   obtain ⟨dt, dct, rfl⟩ := hs2.shape
   obtain ⟨na, nc, rfl⟩ := hno.shape
   have hf := hD.fp
   rw [show hlU.nodes.length = 3 from rfl, show hlU.turns.length = 1 from rfl] at hsd
   rw [show hlU.nodes.length = 3 from rfl, show hlU.turns.length = 1 from rfl]
   simp only [show strV ([47, 97, 47, 98] : Bs) = .string ⟨#[47, 97, 47, 98]⟩ from rfl, show strV ([] : Bs) = .string ⟨#[]⟩ from rfl, show ([] : List Bs).length = 0 from rfl]
   have KK1 := Lib.hid (KK0.out.later hf)
   have FF1 := Lib.hid (FF0.out.then hf)
   have CC1 := Lib.hid (Kp.sto hsd)
   have HS1 := Lib.hid (Hb.s2 (KK1.out.now).1 (KK1.out.now).2.1)
   clear hD hsd hs1 hs2 hno hf
   go_wp2_with fail
   refine hK.out _ _ HS1.out (fun hH => ?_)
   clear hK K
   try simp only [zz]
   refine tk 5 hH ?_
   refine tk 6 hH ?_
   refine tk 7 hH ?_
   refine wpAnyH_ready (rs := [8, 9]) (by kernel_rfl) (by simp) ?_
   refine (AllReadyH.cons (o := ?_) (by simp only [zA, zB, zC] <;> exact rfl) (fun K hK => ?_) (AllReadyH.cons (o := ?_) (by simp only [zA, zB, zC] <;> exact rfl) (fun K hK => ?_) AllReadyH.nil))
   ·go_simp
    have hf := fp_alloc u1 (.cells #[.slice none 0 0, .slice none 0 0] TST)
    have hr := heap_alloc_new u1 (.cells #[.slice none 0 0, .slice none 0 0] TST)
    have KK2 := Lib.hid (KK1.out.later hf)
    have CC2 := Lib.hid (CC1.out.later hf)
    have FF2 := Lib.hid (FF1.out.then hf)
    have AA2 := Lib.hid (Kp.row hr)
    have HS2 := Lib.hid (Hb.s2 (KK2.out.now).1 (KK2.out.now).2.1)
    clear hf hr
    refine hK.out _ _ HS2.out (fun hH => ?_)
    clear hK K
    try simp only [zz]
    obtain ⟨b5, hb⟩ : ∃ q, u1.heap.size = q := ⟨_, rfl⟩
    have Za := Lib.hid (show u0.heap.size ≤ b5 from by rw [← hb]; exact FF1.out.size)
    rw [hb] at AA2 ⊢
    clear hb
    generalize (u1.alloc (.cells #[.slice none 0 0, .slice none 0 0] TST)) = u2 at *
    refine rY 9 fun K hK => ?_
    go_simp
    have hf := fp_alloc u2 (.cells #[.int .i64 0, .string ⟨#[]⟩, .string ⟨#[]⟩, .int .i64 0, .slice none 0 0] TR)
    have hr := heap_alloc_new u2 (.cells #[.int .i64 0, .string ⟨#[]⟩, .string ⟨#[]⟩, .int .i64 0, .slice none 0 0] TR)
    have KK3 := Lib.hid (KK2.out.later hf)
    have AA3 := Lib.hid (AA2.out.later hf)
    have CC3 := Lib.hid (CC2.out.later hf)
    have FF3 := Lib.hid (FF2.out.then hf)
    have BB3 := Lib.hid (Kp.row hr)
    have HS3 := Lib.hid (Hb.s2 (KK3.out.now).1 (KK3.out.now).2.1)
    clear hf hr
    refine hK.out _ _ HS3.out (fun hH => ?_)
    clear hK K
    try simp only [zz]
    obtain ⟨b6, hb⟩ : ∃ q, u2.heap.size = q := ⟨_, rfl⟩
    have Zb := Lib.hid (show u0.heap.size ≤ b6 from by rw [← hb]; exact FF2.out.size)
    rw [hb] at BB3 ⊢
    clear hb
    generalize (u2.alloc (.cells #[.int .i64 0, .string ⟨#[]⟩, .string ⟨#[]⟩, .int .i64 0, .slice none 0 0] TR)) = u3 at *
    obtain ⟨y0, y1⟩ := boxP2 AA3.out.now
    have x0 := frozen_at AA3.out.now 0; have x1 := frozen_at AA3.out.now 1
    have hne : b6 ≠ b5 := fun e => by
     have h1 := AA3.out.now
     rw [← e, BB3.out.now] at h1
     injection h1 with h1
     injection h1 with _ h1 _
     exact absurd h1 (by decide)
    have hfa : Fp (fun j => j = b5) u3 ((u3.setCell ⟨b5, 0, none⟩ (.slice dn 3 dcn)).setCell ⟨b5, 1, none⟩ (.slice dt 1 dct)) := ((Fp.refl (fun j => j = b5) u3).setCell (p := ⟨b5, 0, none⟩) (.inl rfl) _).setCell (p := ⟨b5, 1, none⟩) (.inl rfl) _
    have HZ := Lib.hid (hfa.heap BB3.out.now hne)
    have hE := end2 KK0.out FF3.out AA3.out.now BB3.out.now Za.out Zb.out CC3.out.now (by decide) (.int .i64 0) (.string ⟨#[47, 97, 47, 98]⟩) (.string ⟨#[]⟩) (.int .i64 0) (.slice na 0 nc)
    have HE := Lib.hid hE
    have HSa := Lib.hid (Hb.s2 ((KK0.out _ (FF3.out.trans hfa (fun j hj => .inr (by have hj : j = b5 := hj; have := Za.out; omega))))).1 ((KK0.out _ (FF3.out.trans hfa (fun j hj => .inr (by have hj : j = b5 := hj; have := Za.out; omega))))).2.1)
    have HSb := Lib.hid (Hb.s2 (HE.out.now.1).1 (HE.out.now.1).2.1)
    clear hne hfa hE
    refine rY 10 fun K hK => ?_
    go_simp
    refine hK.out _ _ HSa.out (fun hH => ?_)
    clear hK K y0 y1 x0 x1
    try simp only [zz]
    obtain ⟨r0, r1, r2, r3, r4⟩ := box5 HZ.out
    have z0 := frozen_at HZ.out 0; have z1 := frozen_at HZ.out 1; have z2 := frozen_at HZ.out 2; have z3 := frozen_at HZ.out 3; have z4 := frozen_at HZ.out 4
    refine rY 11 fun K hK => ?_
    go_simp
    refine hK.out _ _ HSb.out (fun hH => ?_)
    clear hK K r0 r1 r2 r3 r4 z0 z1 z2 z3 z4 hH
    try simp only [zz]
    refine wpAnyH_done (by kernel_rfl) ?_ _
    go_wp2_with fail
    go_meet
    case rel => exact ⟨b5, b6, _, _, _, _, _, _, rfl, rfl, HE⟩
   go_simp
   have hf := fp_alloc u1 (.cells #[.int .i64 0, .string ⟨#[]⟩, .string ⟨#[]⟩, .int .i64 0, .slice none 0 0] TR)
   have hr := heap_alloc_new u1 (.cells #[.int .i64 0, .string ⟨#[]⟩, .string ⟨#[]⟩, .int .i64 0, .slice none 0 0] TR)
   have KK5 := Lib.hid (KK1.out.later hf)
   have CC5 := Lib.hid (CC1.out.later hf)
   have FF5 := Lib.hid (FF1.out.then hf)
   have BB5 := Lib.hid (Kp.row hr)
   have HS5 := Lib.hid (Hb.s2 (KK5.out.now).1 (KK5.out.now).2.1)
   clear hf hr
   refine hK.out _ _ HS5.out (fun hH => ?_)
   clear hK K
   try simp only [zz]
   obtain ⟨b6, hb⟩ : ∃ q, u1.heap.size = q := ⟨_, rfl⟩
   have Zb := Lib.hid (show u0.heap.size ≤ b6 from by rw [← hb]; exact FF1.out.size)
   rw [hb] at BB5 ⊢
   clear hb
   generalize (u1.alloc (.cells #[.int .i64 0, .string ⟨#[]⟩, .string ⟨#[]⟩, .int .i64 0, .slice none 0 0] TR)) = u5 at *
   refine rY 8 fun K hK => ?_
   go_simp
   have hf := fp_alloc u5 (.cells #[.slice none 0 0, .slice none 0 0] TST)
   have hr := heap_alloc_new u5 (.cells #[.slice none 0 0, .slice none 0 0] TST)
   have KK6 := Lib.hid (KK5.out.later hf)
   have BB6 := Lib.hid (BB5.out.later hf)
   have CC6 := Lib.hid (CC5.out.later hf)
   have FF6 := Lib.hid (FF5.out.then hf)
   have AA6 := Lib.hid (Kp.row hr)
   have HS6 := Lib.hid (Hb.s2 (KK6.out.now).1 (KK6.out.now).2.1)
   clear hf hr
   refine hK.out _ _ HS6.out (fun hH => ?_)
   clear hK K
   try simp only [zz]
   obtain ⟨b5, hb⟩ : ∃ q, u5.heap.size = q := ⟨_, rfl⟩
   have Za := Lib.hid (show u0.heap.size ≤ b5 from by rw [← hb]; exact FF5.out.size)
   rw [hb] at AA6 ⊢
   clear hb
   generalize (u5.alloc (.cells #[.slice none 0 0, .slice none 0 0] TST)) = u6 at *
   obtain ⟨y0, y1⟩ := boxP2 AA6.out.now
   have x0 := frozen_at AA6.out.now 0; have x1 := frozen_at AA6.out.now 1
   have hne : b6 ≠ b5 := fun e => by
    have h1 := AA6.out.now
    rw [← e, BB6.out.now] at h1
    injection h1 with h1
    injection h1 with _ h1 _
    exact absurd h1 (by decide)
   have hfa : Fp (fun j => j = b5) u6 ((u6.setCell ⟨b5, 0, none⟩ (.slice dn 3 dcn)).setCell ⟨b5, 1, none⟩ (.slice dt 1 dct)) := ((Fp.refl (fun j => j = b5) u6).setCell (p := ⟨b5, 0, none⟩) (.inl rfl) _).setCell (p := ⟨b5, 1, none⟩) (.inl rfl) _
   have HZ := Lib.hid (hfa.heap BB6.out.now hne)
   have hE := end2 KK0.out FF6.out AA6.out.now BB6.out.now Za.out Zb.out CC6.out.now (by decide) (.int .i64 0) (.string ⟨#[47, 97, 47, 98]⟩) (.string ⟨#[]⟩) (.int .i64 0) (.slice na 0 nc)
   have HE := Lib.hid hE
   have HSa := Lib.hid (Hb.s2 ((KK0.out _ (FF6.out.trans hfa (fun j hj => .inr (by have hj : j = b5 := hj; have := Za.out; omega))))).1 ((KK0.out _ (FF6.out.trans hfa (fun j hj => .inr (by have hj : j = b5 := hj; have := Za.out; omega))))).2.1)
   have HSb := Lib.hid (Hb.s2 (HE.out.now.1).1 (HE.out.now.1).2.1)
   clear hne hfa hE
   refine rY 10 fun K hK => ?_
   go_simp
   refine hK.out _ _ HSa.out (fun hH => ?_)
   clear hK K y0 y1 x0 x1
   try simp only [zz]
   obtain ⟨r0, r1, r2, r3, r4⟩ := box5 HZ.out
   have z0 := frozen_at HZ.out 0; have z1 := frozen_at HZ.out 1; have z2 := frozen_at HZ.out 2; have z3 := frozen_at HZ.out 3; have z4 := frozen_at HZ.out 4
   refine rY 11 fun K hK => ?_
   go_simp
   refine hK.out _ _ HSb.out (fun hH => ?_)
   clear hK K r0 r1 r2 r3 r4 z0 z1 z2 z3 z4 hH
   try simp only [zz]
   refine wpAnyH_done (by kernel_rfl) ?_ _
   go_wp2_with fail
   go_meet
   case rel => exact ⟨b5, b6, _, _, _, _, _, _, rfl, rfl, HE⟩
  ·go_simp
   have hf := fp_alloc u0 (.cells #[.slice none 0 0, .slice none 0 0] TST)
   have hr := heap_alloc_new u0 (.cells #[.slice none 0 0, .slice none 0 0] TST)
   have KK8 := Lib.hid (KK0.out.later hf)
   have FF8 := Lib.hid (FF0.out.then hf)
   have AA8 := Lib.hid (Kp.row hr)
   have HS8 := Lib.hid (Hb.s2 (KK8.out.now).1 (KK8.out.now).2.1)
   clear hf hr
   refine hK.out _ _ HS8.out (fun hH => ?_)
   clear hK K
   try simp only [zz]
   obtain ⟨b5, hb⟩ : ∃ q, u0.heap.size = q := ⟨_, rfl⟩
   have Za := Lib.hid (show u0.heap.size ≤ b5 from by rw [← hb]; exact FF0.out.size)
   rw [hb] at AA8 ⊢
   clear hb
   generalize (u0.alloc (.cells #[.slice none 0 0, .slice none 0 0] TST)) = u8 at *
   refine wpAnyH_ready (rs := [4, 9]) (by kernel_rfl) (by simp) ?_
   refine (AllReadyH.cons (o := ?_) (by simp only [zA, zB, zC] <;> exact rfl) (fun K hK => ?_) (AllReadyH.cons (o := ?_) (by simp only [zA, zB, zC] <;> exact rfl) (fun K hK => ?_) AllReadyH.nil))
   ·go_simp
    go_at_call 17
    refine (do_at hl_do1 (KK8.out.now).2.2.2 hlS_right (by decide) (by decide) (by decide) (KK8.out.now).1.tab).mono ?_
    rintro e u9 hD
    obtain ⟨vd, nv, rfl, hsd, hno⟩ := hD.ex
    obtain ⟨vn', vt', rfl, hs1, hs2⟩ := hsd.ex
    obtain ⟨dn, dcn, rfl⟩ := hs1.shape
    obtain ⟨dt, dct, rfl⟩ := hs2.shape
    obtain ⟨na, nc, rfl⟩ := hno.shape
    have hf := hD.fp
    rw [show hlU.nodes.length = 3 from rfl, show hlU.turns.length = 1 from rfl] at hsd
    rw [show hlU.nodes.length = 3 from rfl, show hlU.turns.length = 1 from rfl]
    simp only [show strV ([47, 97, 47, 98] : Bs) = .string ⟨#[47, 97, 47, 98]⟩ from rfl, show strV ([] : Bs) = .string ⟨#[]⟩ from rfl, show ([] : List Bs).length = 0 from rfl]
    have KK9 := Lib.hid (KK8.out.later hf)
    have AA9 := Lib.hid (AA8.out.later hf)
    have FF9 := Lib.hid (FF8.out.then hf)
    have CC9 := Lib.hid (Kp.sto hsd)
    have HS9 := Lib.hid (Hb.s2 (KK9.out.now).1 (KK9.out.now).2.1)
    clear hD hsd hs1 hs2 hno hf
    go_wp2_with fail
    refine hK.out _ _ HS9.out (fun hH => ?_)
    clear hK K
    try simp only [zz]
    refine tk 5 hH ?_
    refine tk 6 hH ?_
    refine tk 7 hH ?_
    refine rY 9 fun K hK => ?_
    go_simp
    have hf := fp_alloc u9 (.cells #[.int .i64 0, .string ⟨#[]⟩, .string ⟨#[]⟩, .int .i64 0, .slice none 0 0] TR)
    have hr := heap_alloc_new u9 (.cells #[.int .i64 0, .string ⟨#[]⟩, .string ⟨#[]⟩, .int .i64 0, .slice none 0 0] TR)
    have KK10 := Lib.hid (KK9.out.later hf)
    have AA10 := Lib.hid (AA9.out.later hf)
    have CC10 := Lib.hid (CC9.out.later hf)
    have FF10 := Lib.hid (FF9.out.then hf)
    have BB10 := Lib.hid (Kp.row hr)
    have HS10 := Lib.hid (Hb.s2 (KK10.out.now).1 (KK10.out.now).2.1)
    clear hf hr
    refine hK.out _ _ HS10.out (fun hH => ?_)
    clear hK K
    try simp only [zz]
    obtain ⟨b6, hb⟩ : ∃ q, u9.heap.size = q := ⟨_, rfl⟩
    have Zb := Lib.hid (show u0.heap.size ≤ b6 from by rw [← hb]; exact FF9.out.size)
    rw [hb] at BB10 ⊢
    clear hb
    generalize (u9.alloc (.cells #[.int .i64 0, .string ⟨#[]⟩, .string ⟨#[]⟩, .int .i64 0, .slice none 0 0] TR)) = u10 at *
    obtain ⟨y0, y1⟩ := boxP2 AA10.out.now
    have x0 := frozen_at AA10.out.now 0; have x1 := frozen_at AA10.out.now 1
    have hne : b6 ≠ b5 := fun e => by
     have h1 := AA10.out.now
     rw [← e, BB10.out.now] at h1
     injection h1 with h1
     injection h1 with _ h1 _
     exact absurd h1 (by decide)
    have hfa : Fp (fun j => j = b5) u10 ((u10.setCell ⟨b5, 0, none⟩ (.slice dn 3 dcn)).setCell ⟨b5, 1, none⟩ (.slice dt 1 dct)) := ((Fp.refl (fun j => j = b5) u10).setCell (p := ⟨b5, 0, none⟩) (.inl rfl) _).setCell (p := ⟨b5, 1, none⟩) (.inl rfl) _
    have HZ := Lib.hid (hfa.heap BB10.out.now hne)
    have hE := end2 KK0.out FF10.out AA10.out.now BB10.out.now Za.out Zb.out CC10.out.now (by decide) (.int .i64 0) (.string ⟨#[47, 97, 47, 98]⟩) (.string ⟨#[]⟩) (.int .i64 0) (.slice na 0 nc)
    have HE := Lib.hid hE
    have HSa := Lib.hid (Hb.s2 ((KK0.out _ (FF10.out.trans hfa (fun j hj => .inr (by have hj : j = b5 := hj; have := Za.out; omega))))).1 ((KK0.out _ (FF10.out.trans hfa (fun j hj => .inr (by have hj : j = b5 := hj; have := Za.out; omega))))).2.1)
    have HSb := Lib.hid (Hb.s2 (HE.out.now.1).1 (HE.out.now.1).2.1)
    clear hne hfa hE
    refine rY 10 fun K hK => ?_
    go_simp
    refine hK.out _ _ HSa.out (fun hH => ?_)
    clear hK K y0 y1 x0 x1
    try simp only [zz]
    obtain ⟨r0, r1, r2, r3, r4⟩ := box5 HZ.out
    have z0 := frozen_at HZ.out 0; have z1 := frozen_at HZ.out 1; have z2 := frozen_at HZ.out 2; have z3 := frozen_at HZ.out 3; have z4 := frozen_at HZ.out 4
    refine rY 11 fun K hK => ?_
    go_simp
    refine hK.out _ _ HSb.out (fun hH => ?_)
    clear hK K r0 r1 r2 r3 r4 z0 z1 z2 z3 z4 hH
    try simp only [zz]
    refine wpAnyH_done (by kernel_rfl) ?_ _
    go_wp2_with fail
    go_meet
    case rel => exact ⟨b5, b6, _, _, _, _, _, _, rfl, rfl, HE⟩
   go_simp
   have hf := fp_alloc u8 (.cells #[.int .i64 0, .string ⟨#[]⟩, .string ⟨#[]⟩, .int .i64 0, .slice none 0 0] TR)
   have hr := heap_alloc_new u8 (.cells #[.int .i64 0, .string ⟨#[]⟩, .string ⟨#[]⟩, .int .i64 0, .slice none 0 0] TR)
   have KK12 := Lib.hid (KK8.out.later hf)
   have AA12 := Lib.hid (AA8.out.later hf)
   have FF12 := Lib.hid (FF8.out.then hf)
   have BB12 := Lib.hid (Kp.row hr)
   have HS12 := Lib.hid (Hb.s2 (KK12.out.now).1 (KK12.out.now).2.1)
   clear hf hr
   refine hK.out _ _ HS12.out (fun hH => ?_)
   clear hK K
   try simp only [zz]
   obtain ⟨b6, hb⟩ : ∃ q, u8.heap.size = q := ⟨_, rfl⟩
   have Zb := Lib.hid (show u0.heap.size ≤ b6 from by rw [← hb]; exact FF8.out.size)
   rw [hb] at BB12 ⊢
   clear hb
   generalize (u8.alloc (.cells #[.int .i64 0, .string ⟨#[]⟩, .string ⟨#[]⟩, .int .i64 0, .slice none 0 0] TR)) = u12 at *
   refine rY 4 fun K hK => ?_
   go_simp
   go_at_call 17
   refine (do_at hl_do1 (KK12.out.now).2.2.2 hlS_right (by decide) (by decide) (by decide) (KK12.out.now).1.tab).mono ?_
   rintro e u13 hD
   obtain ⟨vd, nv, rfl, hsd, hno⟩ := hD.ex
   obtain ⟨vn', vt', rfl, hs1, hs2⟩ := hsd.ex
   obtain ⟨dn, dcn, rfl⟩ := hs1.shape
   obtain ⟨dt, dct, rfl⟩ := hs2.shape
   obtain ⟨na, nc, rfl⟩ := hno.shape
   have hf := hD.fp
   rw [show hlU.nodes.length = 3 from rfl, show hlU.turns.length = 1 from rfl] at hsd
   rw [show hlU.nodes.length = 3 from rfl, show hlU.turns.length = 1 from rfl]
   simp only [show strV ([47, 97, 47, 98] : Bs) = .string ⟨#[47, 97, 47, 98]⟩ from rfl, show strV ([] : Bs) = .string ⟨#[]⟩ from rfl, show ([] : List Bs).length = 0 from rfl]
   have KK13 := Lib.hid (KK12.out.later hf)
   have AA13 := Lib.hid (AA12.out.later hf)
   have BB13 := Lib.hid (BB12.out.later hf)
   have FF13 := Lib.hid (FF12.out.then hf)
   have CC13 := Lib.hid (Kp.sto hsd)
   have HS13 := Lib.hid (Hb.s2 (KK13.out.now).1 (KK13.out.now).2.1)
   clear hD hsd hs1 hs2 hno hf
   go_wp2_with fail
   refine hK.out _ _ HS13.out (fun hH => ?_)
   clear hK K
   try simp only [zz]
   refine tk 5 hH ?_
   refine tk 6 hH ?_
   refine tk 7 hH ?_
   obtain ⟨y0, y1⟩ := boxP2 AA13.out.now
   have x0 := frozen_at AA13.out.now 0; have x1 := frozen_at AA13.out.now 1
   have hne : b6 ≠ b5 := fun e => by
    have h1 := AA13.out.now
    rw [← e, BB13.out.now] at h1
    injection h1 with h1
    injection h1 with _ h1 _
    exact absurd h1 (by decide)
   have hfa : Fp (fun j => j = b5) u13 ((u13.setCell ⟨b5, 0, none⟩ (.slice dn 3 dcn)).setCell ⟨b5, 1, none⟩ (.slice dt 1 dct)) := ((Fp.refl (fun j => j = b5) u13).setCell (p := ⟨b5, 0, none⟩) (.inl rfl) _).setCell (p := ⟨b5, 1, none⟩) (.inl rfl) _
   have HZ := Lib.hid (hfa.heap BB13.out.now hne)
   have hE := end2 KK0.out FF13.out AA13.out.now BB13.out.now Za.out Zb.out CC13.out.now (by decide) (.int .i64 0) (.string ⟨#[47, 97, 47, 98]⟩) (.string ⟨#[]⟩) (.int .i64 0) (.slice na 0 nc)
   have HE := Lib.hid hE
   have HSa := Lib.hid (Hb.s2 ((KK0.out _ (FF13.out.trans hfa (fun j hj => .inr (by have hj : j = b5 := hj; have := Za.out; omega))))).1 ((KK0.out _ (FF13.out.trans hfa (fun j hj => .inr (by have hj : j = b5 := hj; have := Za.out; omega))))).2.1)
   have HSb := Lib.hid (Hb.s2 (HE.out.now.1).1 (HE.out.now.1).2.1)
   clear hne hfa hE
   refine rY 10 fun K hK => ?_
   go_simp
   refine hK.out _ _ HSa.out (fun hH => ?_)
   clear hK K y0 y1 x0 x1
   try simp only [zz]
   obtain ⟨r0, r1, r2, r3, r4⟩ := box5 HZ.out
   have z0 := frozen_at HZ.out 0; have z1 := frozen_at HZ.out 1; have z2 := frozen_at HZ.out 2; have z3 := frozen_at HZ.out 3; have z4 := frozen_at HZ.out 4
   refine rY 11 fun K hK => ?_
   go_simp
   refine hK.out _ _ HSb.out (fun hH => ?_)
   clear hK K r0 r1 r2 r3 r4 z0 z1 z2 z3 z4 hH
   try simp only [zz]
   refine wpAnyH_done (by kernel_rfl) ?_ _
   go_wp2_with fail
   go_meet
   case rel => exact ⟨b5, b6, _, _, _, _, _, _, rfl, rfl, HE⟩
  go_simp
  have hf := fp_alloc u0 (.cells #[.int .i64 0, .string ⟨#[]⟩, .string ⟨#[]⟩, .int .i64 0, .slice none 0 0] TR)
  have hr := heap_alloc_new u0 (.cells #[.int .i64 0, .string ⟨#[]⟩, .string ⟨#[]⟩, .int .i64 0, .slice none 0 0] TR)
  have KK15 := Lib.hid (KK0.out.later hf)
  have FF15 := Lib.hid (FF0.out.then hf)
  have BB15 := Lib.hid (Kp.row hr)
  have HS15 := Lib.hid (Hb.s2 (KK15.out.now).1 (KK15.out.now).2.1)
  clear hf hr
  refine hK.out _ _ HS15.out (fun hH => ?_)
  clear hK K
  try simp only [zz]
  obtain ⟨b6, hb⟩ : ∃ q, u0.heap.size = q := ⟨_, rfl⟩
  have Zb := Lib.hid (show u0.heap.size ≤ b6 from by rw [← hb]; exact FF0.out.size)
  rw [hb] at BB15 ⊢
  clear hb
  generalize (u0.alloc (.cells #[.int .i64 0, .string ⟨#[]⟩, .string ⟨#[]⟩, .int .i64 0, .slice none 0 0] TR)) = u15 at *
  refine wpAnyH_ready (rs := [4, 8]) (by kernel_rfl) (by simp) ?_
  refine (AllReadyH.cons (o := ?_) (by simp only [zA, zB, zC] <;> exact rfl) (fun K hK => ?_) (AllReadyH.cons (o := ?_) (by simp only [zA, zB, zC] <;> exact rfl) (fun K hK => ?_) AllReadyH.nil))
  ·go_simp
   go_at_call 17
   refine (do_at hl_do1 (KK15.out.now).2.2.2 hlS_right (by decide) (by decide) (by decide) (KK15.out.now).1.tab).mono ?_
   rintro e u16 hD
   obtain ⟨vd, nv, rfl, hsd, hno⟩ := hD.ex
   obtain ⟨vn', vt', rfl, hs1, hs2⟩ := hsd.ex
   obtain ⟨dn, dcn, rfl⟩ := hs1.shape
   obtain ⟨dt, dct, rfl⟩ := hs2.shape
   obtain ⟨na, nc, rfl⟩ := hno.shape
   have hf := hD.fp
   rw [show hlU.nodes.length = 3 from rfl, show hlU.turns.length = 1 from rfl] at hsd
   rw [show hlU.nodes.length = 3 from rfl, show hlU.turns.length = 1 from rfl]
   simp only [show strV ([47, 97, 47, 98] : Bs) = .string ⟨#[47, 97, 47, 98]⟩ from rfl, show strV ([] : Bs) = .string ⟨#[]⟩ from rfl, show ([] : List Bs).length = 0 from rfl]
   have KK16 := Lib.hid (KK15.out.later hf)
   have BB16 := Lib.hid (BB15.out.later hf)
   have FF16 := Lib.hid (FF15.out.then hf)
   have CC16 := Lib.hid (Kp.sto hsd)
   have HS16 := Lib.hid (Hb.s2 (KK16.out.now).1 (KK16.out.now).2.1)
   clear hD hsd hs1 hs2 hno hf
   go_wp2_with fail
   refine hK.out _ _ HS16.out (fun hH => ?_)
   clear hK K
   try simp only [zz]
   refine tk 5 hH ?_
   refine tk 6 hH ?_
   refine tk 7 hH ?_
   refine rY 8 fun K hK => ?_
   go_simp
   have hf := fp_alloc u16 (.cells #[.slice none 0 0, .slice none 0 0] TST)
   have hr := heap_alloc_new u16 (.cells #[.slice none 0 0, .slice none 0 0] TST)
   have KK17 := Lib.hid (KK16.out.later hf)
   have BB17 := Lib.hid (BB16.out.later hf)
   have CC17 := Lib.hid (CC16.out.later hf)
   have FF17 := Lib.hid (FF16.out.then hf)
   have AA17 := Lib.hid (Kp.row hr)
   have HS17 := Lib.hid (Hb.s2 (KK17.out.now).1 (KK17.out.now).2.1)
   clear hf hr
   refine hK.out _ _ HS17.out (fun hH => ?_)
   clear hK K
   try simp only [zz]
   obtain ⟨b5, hb⟩ : ∃ q, u16.heap.size = q := ⟨_, rfl⟩
   have Za := Lib.hid (show u0.heap.size ≤ b5 from by rw [← hb]; exact FF16.out.size)
   rw [hb] at AA17 ⊢
   clear hb
   generalize (u16.alloc (.cells #[.slice none 0 0, .slice none 0 0] TST)) = u17 at *
   obtain ⟨y0, y1⟩ := boxP2 AA17.out.now
   have x0 := frozen_at AA17.out.now 0; have x1 := frozen_at AA17.out.now 1
   have hne : b6 ≠ b5 := fun e => by
    have h1 := AA17.out.now
    rw [← e, BB17.out.now] at h1
    injection h1 with h1
    injection h1 with _ h1 _
    exact absurd h1 (by decide)
   have hfa : Fp (fun j => j = b5) u17 ((u17.setCell ⟨b5, 0, none⟩ (.slice dn 3 dcn)).setCell ⟨b5, 1, none⟩ (.slice dt 1 dct)) := ((Fp.refl (fun j => j = b5) u17).setCell (p := ⟨b5, 0, none⟩) (.inl rfl) _).setCell (p := ⟨b5, 1, none⟩) (.inl rfl) _
   have HZ := Lib.hid (hfa.heap BB17.out.now hne)
   have hE := end2 KK0.out FF17.out AA17.out.now BB17.out.now Za.out Zb.out CC17.out.now (by decide) (.int .i64 0) (.string ⟨#[47, 97, 47, 98]⟩) (.string ⟨#[]⟩) (.int .i64 0) (.slice na 0 nc)
   have HE := Lib.hid hE
   have HSa := Lib.hid (Hb.s2 ((KK0.out _ (FF17.out.trans hfa (fun j hj => .inr (by have hj : j = b5 := hj; have := Za.out; omega))))).1 ((KK0.out _ (FF17.out.trans hfa (fun j hj => .inr (by have hj : j = b5 := hj; have := Za.out; omega))))).2.1)
   have HSb := Lib.hid (Hb.s2 (HE.out.now.1).1 (HE.out.now.1).2.1)
   clear hne hfa hE
   refine rY 10 fun K hK => ?_
   go_simp
   refine hK.out _ _ HSa.out (fun hH => ?_)
   clear hK K y0 y1 x0 x1
   try simp only [zz]
   obtain ⟨r0, r1, r2, r3, r4⟩ := box5 HZ.out
   have z0 := frozen_at HZ.out 0; have z1 := frozen_at HZ.out 1; have z2 := frozen_at HZ.out 2; have z3 := frozen_at HZ.out 3; have z4 := frozen_at HZ.out 4
   refine rY 11 fun K hK => ?_
   go_simp
   refine hK.out _ _ HSb.out (fun hH => ?_)
   clear hK K r0 r1 r2 r3 r4 z0 z1 z2 z3 z4 hH
   try simp only [zz]
   refine wpAnyH_done (by kernel_rfl) ?_ _
   go_wp2_with fail
   go_meet
   case rel => exact ⟨b5, b6, _, _, _, _, _, _, rfl, rfl, HE⟩
  go_simp
  have hf := fp_alloc u15 (.cells #[.slice none 0 0, .slice none 0 0] TST)
  have hr := heap_alloc_new u15 (.cells #[.slice none 0 0, .slice none 0 0] TST)
  have KK19 := Lib.hid (KK15.out.later hf)
  have BB19 := Lib.hid (BB15.out.later hf)
  have FF19 := Lib.hid (FF15.out.then hf)
  have AA19 := Lib.hid (Kp.row hr)
  have HS19 := Lib.hid (Hb.s2 (KK19.out.now).1 (KK19.out.now).2.1)
  clear hf hr
  refine hK.out _ _ HS19.out (fun hH => ?_)
  clear hK K
  try simp only [zz]
  obtain ⟨b5, hb⟩ : ∃ q, u15.heap.size = q := ⟨_, rfl⟩
  have Za := Lib.hid (show u0.heap.size ≤ b5 from by rw [← hb]; exact FF15.out.size)
  rw [hb] at AA19 ⊢
  clear hb
  generalize (u15.alloc (.cells #[.slice none 0 0, .slice none 0 0] TST)) = u19 at *
  refine rY 4 fun K hK => ?_
  go_simp
  go_at_call 17
  refine (do_at hl_do1 (KK19.out.now).2.2.2 hlS_right (by decide) (by decide) (by decide) (KK19.out.now).1.tab).mono ?_
  rintro e u20 hD
  obtain ⟨vd, nv, rfl, hsd, hno⟩ := hD.ex
  obtain ⟨vn', vt', rfl, hs1, hs2⟩ := hsd.ex
  obtain ⟨dn, dcn, rfl⟩ := hs1.shape
  obtain ⟨dt, dct, rfl⟩ := hs2.shape
  obtain ⟨na, nc, rfl⟩ := hno.shape
  have hf := hD.fp
  rw [show hlU.nodes.length = 3 from rfl, show hlU.turns.length = 1 from rfl] at hsd
  rw [show hlU.nodes.length = 3 from rfl, show hlU.turns.length = 1 from rfl]
  simp only [show strV ([47, 97, 47, 98] : Bs) = .string ⟨#[47, 97, 47, 98]⟩ from rfl, show strV ([] : Bs) = .string ⟨#[]⟩ from rfl, show ([] : List Bs).length = 0 from rfl]
  have KK20 := Lib.hid (KK19.out.later hf)
  have AA20 := Lib.hid (AA19.out.later hf)
  have BB20 := Lib.hid (BB19.out.later hf)
  have FF20 := Lib.hid (FF19.out.then hf)
  have CC20 := Lib.hid (Kp.sto hsd)
  have HS20 := Lib.hid (Hb.s2 (KK20.out.now).1 (KK20.out.now).2.1)
  clear hD hsd hs1 hs2 hno hf
  go_wp2_with fail
  refine hK.out _ _ HS20.out (fun hH => ?_)
  clear hK K
  try simp only [zz]
  refine tk 5 hH ?_
  refine tk 6 hH ?_
  refine tk 7 hH ?_
  obtain ⟨y0, y1⟩ := boxP2 AA20.out.now
  have x0 := frozen_at AA20.out.now 0; have x1 := frozen_at AA20.out.now 1
  have hne : b6 ≠ b5 := fun e => by
   have h1 := AA20.out.now
   rw [← e, BB20.out.now] at h1
   injection h1 with h1
   injection h1 with _ h1 _
   exact absurd h1 (by decide)
  have hfa : Fp (fun j => j = b5) u20 ((u20.setCell ⟨b5, 0, none⟩ (.slice dn 3 dcn)).setCell ⟨b5, 1, none⟩ (.slice dt 1 dct)) := ((Fp.refl (fun j => j = b5) u20).setCell (p := ⟨b5, 0, none⟩) (.inl rfl) _).setCell (p := ⟨b5, 1, none⟩) (.inl rfl) _
  have HZ := Lib.hid (hfa.heap BB20.out.now hne)
  have hE := end2 KK0.out FF20.out AA20.out.now BB20.out.now Za.out Zb.out CC20.out.now (by decide) (.int .i64 0) (.string ⟨#[47, 97, 47, 98]⟩) (.string ⟨#[]⟩) (.int .i64 0) (.slice na 0 nc)
  have HE := Lib.hid hE
  have HSa := Lib.hid (Hb.s2 ((KK0.out _ (FF20.out.trans hfa (fun j hj => .inr (by have hj : j = b5 := hj; have := Za.out; omega))))).1 ((KK0.out _ (FF20.out.trans hfa (fun j hj => .inr (by have hj : j = b5 := hj; have := Za.out; omega))))).2.1)
  have HSb := Lib.hid (Hb.s2 (HE.out.now.1).1 (HE.out.now.1).2.1)
  clear hne hfa hE
  refine rY 10 fun K hK => ?_
  go_simp
  refine hK.out _ _ HSa.out (fun hH => ?_)
  clear hK K y0 y1 x0 x1
  try simp only [zz]
  obtain ⟨r0, r1, r2, r3, r4⟩ := box5 HZ.out
  have z0 := frozen_at HZ.out 0; have z1 := frozen_at HZ.out 1; have z2 := frozen_at HZ.out 2; have z3 := frozen_at HZ.out 3; have z4 := frozen_at HZ.out 4
  refine rY 11 fun K hK => ?_
  go_simp
  refine hK.out _ _ HSb.out (fun hH => ?_)
  clear hK K r0 r1 r2 r3 r4 z0 z1 z2 z3 z4 hH
  try simp only [zz]
  refine wpAnyH_done (by kernel_rfl) ?_ _
  go_wp2_with fail
  go_meet
  case rel => exact ⟨b5, b6, _, _, _, _, _, _, rfl, rfl, HE⟩
 obtain ⟨b5, b6, an5, cn5, at5, ct5, na5, nc5, rfl, rfl, HD⟩ := hcut
 clear HC
 clear HT
 obtain ⟨s0, s1⟩ := boxP2 HD.out.now.1.1.sb
 go_wp2_with fail
 refine (do_at hl_do2 HD.out.now.1.1.sto hlS_right (by decide) (by decide) (by decide) HD.out.now.1.1.tab).mono ?_
 rintro e w7 hD
 obtain ⟨vd, nv, rfl, hsd, hno⟩ := hD.ex
 obtain ⟨vn7, vt7, rfl, hs1, hs2⟩ := hsd.ex
 obtain ⟨an7, cn7, rfl⟩ := hs1.shape
 obtain ⟨at7, ct7, rfl⟩ := hs2.shape
 obtain ⟨na7, nc7, rfl⟩ := hno.shape
 simp only [show (Res.bad 1).err = 1 from rfl, show strV (Res.bad 1).path = .string ⟨#[]⟩ from rfl, show strV (Res.bad 1).data = .string ⟨#[]⟩ from rfl, show (Res.bad 1).ver = 0 from rfl, show (Res.bad 1).names.length = 0 from rfl, show ([] : List Nd).length = 0 from rfl, show ([] : List Tu).length = 0 from rfl]
 have K7 := Lib.hid (HD.out.later hD.fp)
 clear hD hsd hs1 hs2 hno s0 s1 HD
 have hf8 := fp_alloc w7 (.cells #[.slice an7 0 cn7, .slice at7 0 ct7] TST)
 have hf9 := fp_alloc (w7.alloc (.cells #[.slice an7 0 cn7, .slice at7 0 ct7] TST)) (.cells #[.int .i64 1, .string ⟨#[]⟩, .string ⟨#[]⟩, .int .i64 0, .slice na7 0 nc7] TR)
 have hr9 := heap_alloc_new (w7.alloc (.cells #[.slice an7 0 cn7, .slice at7 0 ct7] TST)) (.cells #[.int .i64 1, .string ⟨#[]⟩, .string ⟨#[]⟩, .int .i64 0, .slice na7 0 nc7] TR)
 rw [show (w7.alloc (.cells #[.slice an7 0 cn7, .slice at7 0 ct7] TST)).heap.size = w7.heap.size + 1 from by simp] at hr9
 have K9 := Lib.hid ((K7.out.later (hf8.then hf9)).and (Kp.row hr9))
 clear hf8 hf9 hr9 K7
 obtain ⟨s0, s1⟩ := boxP2 K9.out.now.1.2.1
 go_wp2_with fail
 obtain ⟨W9, hW9⟩ : ∃ W9, W9 = ((w7.alloc (.cells #[.slice an7 0 cn7, .slice at7 0 ct7] TST)).alloc (.cells #[.int .i64 1, .string ⟨#[]⟩, .string ⟨#[]⟩, .int .i64 0, .slice na7 0 nc7] TR)) := ⟨_, rfl⟩
 have hz : W9.heap.size = w7.heap.size + 1 + 1 := by rw [hW9]; simp
 rw [← hW9] at K9 ⊢
 rw [← hz]
 obtain ⟨v8, hv8⟩ : ∃ v8, w7.heap.size + 1 = v8 := ⟨_, rfl⟩
 obtain ⟨v7, hv7⟩ : ∃ v7, w7.heap.size = v7 := ⟨_, rfl⟩
 rw [hv8] at K9 ⊢
 rw [hv7]
 clear hW9 hz hv8 hv7
 have hfs := fp_alloc W9 (.cells #[.slice an5 3 cn5, .slice at5 1 ct5] TST)
 have hrs := heap_alloc_new W9 (.cells #[.slice an5 3 cn5, .slice at5 1 ct5] TST)
 have K10 := Lib.hid (K9.out.later hfs)
 have hst : Stos (W9.alloc (.cells #[.slice an5 3 cn5, .slice at5 1 ct5] TST)) (.slice (some ⟨W9.heap.size, 0, none⟩) 1 1) [⟨.slice an5 3 cn5, .slice at5 1 ct5, hlU⟩] := by
  refine ⟨Sg.of_row (l := [(⟨.slice an5 3 cn5, .slice at5 1 ct5, hlU⟩ : Sv)]) svC_len 1 hrs, fun x hx => ?_⟩
  rw [List.mem_singleton.1 hx]
  obtain ⟨vn, vt, e, h1, h2⟩ := K10.out.now.1.2.2.2.ex
  injection e with e
  injection e with e
  injection e with e1 e
  injection e with e2 _
  subst e1 e2
  exact ⟨h1, h2⟩
 have HST := Lib.hid hst
 clear hfs hrs hst s0 s1 K9
 refine (Tree_c _ _ _ HST.out (by simp) (fun x hx => by rw [List.mem_singleton.1 hx]; exact ⟨(StR.few hlU_right).2, (StR.few hlU_right).1, show hlU.nodes.length ≤ 3900 by decide, show hlU.turns.length ≤ 3900 by decide⟩)).mono ?_
 rintro e w11 ⟨⟨v11, b, rfl, hb⟩, hf⟩
 have K11 := Lib.hid (K10.out.later hf)
 clear hf K10 HST
 rcases hb with ⟨rfl, y, hy, hT⟩ | ⟨_, _, hno⟩
 ·have hyw : y = hlW := hT.one hl_tree
  subst hyw
  obtain ⟨g11, o11, c11, rfl, _, _, _, hc⟩ := hy.at (by decide)
  have d3 := (hc 0 (by decide)).c3
  rw [show hlW.length = 3 from rfl]
  rw [show o11 + 0 * 5 = o11 by omega, show (hlW[0]'(by decide)).turn = 3 from rfl] at d3
  obtain ⟨x0, x1⟩ := boxP2 K11.out.now.1.1.1.sb
  have t0 := (box5 K11.out.now.1.1.2.2.1).1
  have t1 := (box5 K11.out.now.1.2.2.1).2.1
  have t2 := (box5 K11.out.now.2).1
  obtain ⟨z0, z1, p0, p1, p2, p3, p4, p5, p6⟩ := Hb.s1 K11.out.now.1.1.1
  obtain ⟨_, _, m0, m1, m2, m3, m4, m5, m6⟩ := Hb.s2 K11.out.now.1.1.1 K11.out.now.1.1.2.1
  have hri := rightP_c _ hlS _ K11.out.now.1.1.1.sto (StR.few hlS_right).2 (by decide) (StR.few hlS_right).1 (by decide)
  rw [rightS_true hlS_right] at hri
  have hma := fun W => mayP_c hlP0 W (by decide)
  rw [hl_may0] at hma
  have HRM := Lib.hid (And.intro hri (And.intro hma K11.out.now.1.1.1.fp))
  clear hri hma hy hT hc
  go_wp2_with fail
  refine HRM.out.1.mono ?_
  rintro e w12 ⟨rfl, hf⟩
  have K12 := Lib.hid (K11.out.later hf)
  clear hf x0 x1 t0 t1 t2 p0 p1 p2 p3 p4 p5 p6 z0 z1 m0 m1 m2 m3 m4 m5 m6 d3 K11
  obtain ⟨z0, z1, p0, p1, p2, p3, p4, p5, p6⟩ := Hb.s1 K12.out.now.1.1.1
  go_wp2_with fail
  refine (HRM.out.2.1 _).mono ?_
  rintro e w13 ⟨rfl, hf⟩
  have F := Lib.hid (K12.out.now.1.1.1.fp.then hf)
  clear hf z0 z1 p0 p1 p2 p3 p4 p5 p6 K12
  go_wp2
  go_ret
  exact ⟨rfl, F.out⟩
 exact absurd hl_tree (hno _)
end Go.Proofs.YtphoglepiegeiaaGreatDoor
