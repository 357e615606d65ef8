/- A text of this proof. -/
import Derived.Test.YtphoglepiegeiaaGreatDoorZCD
import Derived.Test.YtphoglepiegeiaaGreatDoorZCF
import Derived.Test.YtphoglepiegeiaaGreatDoorZCL
import Derived.Test.YtphoglepiegeiaaGreatDoorZCM
import Derived.Test.YtphoglepiegeiaaGreatDoorZCS
set_option linter.unusedSimpArgs false
set_option linter.unusedVariables false
namespace Go.Proofs.YtphoglepiegeiaaGreatDoor
set_option maxRecDepth 20000
open Go.RowKit Pm
abbrev TDN : TypeId := 60
structure Rw where
 r : Res
 na : Option Addr
 nc : Nat
def Rw.nv (x : Rw) : Value := .slice x.na x.r.names.length x.nc
def rwC (x : Rw) : List Value := [.int .i64 x.r.err, strV x.r.path, strV x.r.data, .int .i64 x.r.ver, x.nv]
theorem rwC_len (x : Rw) : (rwC x).length = 5 := rfl
theorem rwC_one (x : Rw) : ∀ u ∈ rwC x, u.oneCell' = true := by
 intro u hu
 simp only [rwC, List.mem_cons, List.not_mem_nil, or_false] at hu
 rcases hu with rfl | rfl | rfl | rfl | rfl <;> rfl
structure Rrs (w : World) (v : Value) (rs : List Res) : Prop where
 ex : ∃ L : List Rw, L.map Rw.r = rs ∧ Sg rwC 5 w v L ∧ ∀ x ∈ L, ∃ lo, Own lo w x.nv x.r.names
theorem Rrs.non {w w' : World} {v : Value} {rs : List Res} (h : Rrs w v rs) (f : Fp Non w w') : Rrs w' v rs := by
 obtain ⟨L, h1, h2, h3⟩ := h.ex
 exact ⟨L, h1, h2.non f, fun x hx => by obtain ⟨lo, h⟩ := h3 x hx; exact ⟨lo, h.grown' f⟩⟩
structure Ors (lo : Nat) (w : World) (v : Value) (rs : List Res) : Prop where
 ex : ∃ L : List Rw, L.map Rw.r = rs ∧ OwG TR rwC 5 lo w v L ∧ ∀ x ∈ L, Own lo w x.nv x.r.names
theorem Ors.non {lo : Nat} {w w' : World} {v : Value} {rs : List Res} (h : Ors lo w v rs) (f : Fp Non w w') : Ors lo w' v rs := by
 obtain ⟨L, h1, h2, h3⟩ := h.ex
 exact ⟨L, h1, h2.non f, fun x hx => (h3 x hx).grown' f⟩
theorem Ors.nil (lo : Nat) (w : World) : Ors lo w (.slice none 0 0) [] := ⟨[], rfl, OwG.nil _ _, fun _ h => by cases h⟩
theorem Ors.rrs {lo : Nat} {w : World} {v : Value} {rs : List Res} (h : Ors lo w v rs) : Rrs w v rs := by
 obtain ⟨L, h1, h2, h3⟩ := h.ex
 exact ⟨L, h1, h2.sg rwC_len, fun x hx => ⟨lo, h3 x hx⟩⟩
theorem Ors.shape {lo : Nat} {w : World} {v : Value} {rs : List Res} (h : Ors lo w v rs) : ∃ a c, v = .slice a rs.length c := by
 obtain ⟨L, h1, h2, _⟩ := h.ex
 obtain ⟨a, c, e⟩ := (h2.sg rwC_len).shape
 rw [← h1, List.length_map]; exact ⟨a, c, e⟩
theorem OwG.type {α : Type} {T : TypeId} {enc : α → List Value} {k lo : Nat} {w : World} {v : Value} {l : List α} (h : OwG T enc k lo w v l) {j : Nat} (hj : v.ownBlock = some j) : ∃ cs, w.heap[j]? = some (.cells cs T (0, 0)) := by
 rcases h.2 with ⟨rfl, _⟩ | ⟨g, cap, cur, rfl, hb, hg, _⟩
 ·simp [Value.ownBlock] at hj
 have : g = j := by simpa [Value.ownBlock] using hj
 subst this
 exact ⟨_, hg⟩
theorem Tryz.infoR : (Tryz.prog.info? TR).map (fun i => (i.zero, i.size, i.bytes)) = some (some (.agg #[.int .i64 0, .string ⟨#[]⟩, .string ⟨#[]⟩, .int .i64 0, .slice none 0 0]), 5, 72) := by kernel_rfl
abbrev TRL : TypeId := 58
structure ChG (lo : Nat) (w : World) (v : Value) (rs : List Res) (v' : Value) (w' : World) : Prop where
 own : Ors lo w' v' rs
 fp : Fp (fun k => v.ownBlock = some k) w w'
 new : ∀ j, v'.ownBlock = some j → v.ownBlock = some j ∨ w.heap.size ≤ j
theorem Own.type {lo : Nat} {w : World} {v : Value} {ps : List Bs} (h : Own lo w v ps) {j : Nat} (hj : v.ownBlock = some j) : ∃ cs, w.heap[j]? = some (.cells cs 9 (0, 0)) := by
 rcases h.1.2 with ⟨e0, _⟩ | ⟨g, cap, cur, e0, hb', hg', _⟩
 ·rw [e0] at hj; simp [Value.ownBlock] at hj
 rw [e0] at hj
 have : g = j := by simpa [Value.ownBlock] using hj
 subst this
 exact ⟨_, hg'⟩
theorem type_ne {w : World} {i : Nat} {c d : Array Value} {S T : TypeId} (h : w.heap[i]? = some (.cells c S (0, 0))) (k : w.heap[i]? = some (.cells d T (0, 0))) (hST : S ≠ T) : False := by
 rw [k] at h
 injection h with h
 injection h with _ h _
 exact hST h.symm
theorem Ors.keep {lo : Nat} {w w' : World} {v : Value} {rs : List Res} (h : Ors lo w v rs) {b : Nat} {cs : Array Value} (hb : w.heap[b]? = some (.cells cs TR (0, 0))) (hv : ∀ j, v.ownBlock = some j → j ≠ b) (f : Fp (fun j => j = b) w w') : Ors lo w' v rs := by
 obtain ⟨L, h1, h2, h3⟩ := h.ex
 refine ⟨L, h1, f.owns h2 (fun j hj e => hv j hj e), fun x hx => ⟨f.owns (h3 x hx).1 (fun j hj e => ?_), (h3 x hx).2⟩⟩
 obtain ⟨_, t1⟩ := (h3 x hx).type hj
 have e : j = b := e
 subst e
 exact type_ne t1 hb (by decide)
theorem Ns.box {w w' : World} {v : Value} {l : List Nd} (h : Ns w v l) {b : Nat} {c0 c3 : Int} {c1 c2 : ByteArray} {c4 : Option Addr × Nat × Nat} (hb : w.heap[b]? = some (.cells #[.int .i64 c0, .string c1, .string c2, .int .i64 c3, .slice c4.1 c4.2.1 c4.2.2] TR (0, 0))) (f : Fp (fun j => j = b) w w') : Ns w' v l := by
 obtain ⟨ao, cap, rfl, h1, h2, h3⟩ := h.ex
 refine ⟨ao, cap, rfl, h1, h2, ?_⟩
 rcases h3 with h3 | ⟨g, o, rfl, hg, hc⟩
 ·exact .inl h3
 by_cases h0 : 0 < l.length
 ·refine .inr ⟨g, o, rfl, Nat.lt_of_lt_of_le hg f.size, fun i hi => (hc i hi).keep f (fun e => ?_)⟩
  have e : g = b := e
  subst e
  have n := hc 0 h0
  have d0 := n.c0; have d1 := n.c1; have d3 := n.c3
  rw [show o + 0 * 5 = o by omega] at d0 d1 d3
  unfold strV at d0 d1
  rw [cell_of_row _ _ _ _ _ _ hb] at d0 d1 d3
  match o, d0, d1, d3 with
  | 0, d0, _, _ => simp at d0
  | 1, _, _, d3 => simp at d3
  | 2, _, d1, _ => simp at d1
  | 3, d0, _, _ => simp at d0
  | 4, d0, _, _ => simp at d0
  | o + 5, d0, _, _ => simp at d0
 exact .inl (List.eq_nil_of_length_eq_zero (by omega))
theorem Ors.type {lo : Nat} {w : World} {v : Value} {rs : List Res} (h : Ors lo w v rs) {j : Nat} (hj : v.ownBlock = some j) : ∃ cs, w.heap[j]? = some (.cells cs TR (0, 0)) := by
 obtain ⟨L, h1, h2, h3⟩ := h.ex
 exact h2.type hj
theorem Ors.lt {lo : Nat} {w : World} {v : Value} {rs : List Res} (h : Ors lo w v rs) : ∀ j, v.ownBlock = some j → lo ≤ j ∧ j < w.heap.size := by
 obtain ⟨L, h1, h2, h3⟩ := h.ex
 exact h2.lt
theorem Ns.keep1 {w w' : World} {v : Value} {l : List Nd} (h : Ns w v l) {S : Nat → Prop} (f : Fp S w w') (hS : 0 < l.length → ∀ k, v.ownBlock = some k → ¬ S k) : Ns w' v l := by
 obtain ⟨ao, cap, rfl, h1, h2, h3⟩ := h.ex
 refine ⟨ao, cap, rfl, h1, h2, ?_⟩
 rcases h3 with h3 | ⟨g, o, rfl, hg, hc⟩
 ·exact .inl h3
 by_cases h0 : 0 < l.length
 ·exact .inr ⟨g, o, rfl, Nat.lt_of_lt_of_le hg f.size, fun i hi => (hc i hi).keep f (hS h0 g rfl)⟩
 exact .inl (List.eq_nil_of_length_eq_zero (by omega))
theorem Ns.lt1 {w : World} {v : Value} {l : List Nd} (h : Ns w v l) (h0 : 0 < l.length) : ∀ k, v.ownBlock = some k → k < w.heap.size := by
 obtain ⟨g, o, cap, rfl, _, _, hg, _⟩ := h.at h0
 intro k hk
 have : g = k := by simpa [Value.ownBlock] using hk
 omega
theorem Ns.box3 {w w' : World} {v : Value} {l : List Nd} (h : Ns w v l) {b : Nat} {c0 c1 : Int} {c2 : Option Addr × Nat × Nat} (hb : w.heap[b]? = some (.cells #[.int .i64 c0, .int .i64 c1, .slice c2.1 c2.2.1 c2.2.2] TDN (0, 0))) (f : Fp (fun j => j = b) w w') : Ns w' v l := by
 refine h.keep1 f (fun h0 k hk e => ?_)
 obtain ⟨g, o, cap, rfl, _, _, _, hc⟩ := h.at h0
 have e : k = b := e
 have : g = k := by simpa [Value.ownBlock] using hk
 subst this e
 have n := hc 0 h0
 have d0 := n.c0
 rw [show o + 0 * 5 = o by omega] at d0
 unfold strV at d0
 rw [cell_of_row _ _ _ _ _ _ hb] at d0
 match o, d0 with
 | 0, d0 => simp at d0
 | 1, d0 => simp at d0
 | 2, d0 => simp at d0
 | o + 3, d0 => simp at d0
theorem Ors.keepD {lo : Nat} {w w' : World} {v : Value} {rs : List Res} (h : Ors lo w v rs) {b : Nat} {cs : Array Value} (hb : w.heap[b]? = some (.cells cs TDN (0, 0))) (f : Fp (fun j => j = b) w w') : Ors lo w' v rs := by
 obtain ⟨L, h1, h2, h3⟩ := h.ex
 refine ⟨L, h1, f.owns h2 (fun j hj e => ?_), fun x hx => ⟨f.owns (h3 x hx).1 (fun j hj e => ?_), (h3 x hx).2⟩⟩
 ·obtain ⟨_, t1⟩ := h2.type hj
  have e : j = b := e
  subst e
  exact type_ne t1 hb (by decide)
 obtain ⟨_, t1⟩ := (h3 x hx).type hj
 have e : j = b := e
 subst e
 exact type_ne t1 hb (by decide)
theorem app_res (w : World) (lo : Nat) (v : Value) (rs : List Res) (r : Res) (na : Option Addr) (nc : Nat) (ty : TypeId) (ho : Ors lo w v rs) (hn : rs.length ≤ 50000) (hlo : lo ≤ w.heap.size) (hnm : Own lo w (.slice na r.names.length nc) r.names) :
  ∃ v' w', (Builtin.append_ #[TRL, TRL] ty #[v, .slice (some ⟨w.heap.size, 0, none⟩) 1 1]).run Tryz.prog (w.alloc (.cells #[.int .i64 r.err, strV r.path, strV r.data, .int .i64 r.ver, .slice na r.names.length nc] TR)) = .ok v' w' ∧
   ChG lo (w.alloc (.cells #[.int .i64 r.err, strV r.path, strV r.data, .int .i64 r.ver, .slice na r.names.length nc] TR)) v (rs ++ [r]) v' w' := by
 have hf := fp_alloc w (.cells #[.int .i64 r.err, strV r.path, strV r.data, .int .i64 r.ver, .slice na r.names.length nc] TR)
 have hb := heap_alloc_new w (.cells #[.int .i64 r.err, strV r.path, strV r.data, .int .i64 r.ver, .slice na r.names.length nc] TR)
 generalize (w.alloc (.cells #[.int .i64 r.err, strV r.path, strV r.data, .int .i64 r.ver, .slice na r.names.length nc] TR)) = W at *
 obtain ⟨L, h1, h2, h3⟩ := (ho.non hf).ex
 have hL : L.length = rs.length := by rw [← h1, List.length_map]
 obtain ⟨v', w', hr, k1, k2, k3⟩ := app_ownG (enc := rwC) rwC_len rwC_one (SL := TRL) (T := TR) Tryz.underlying58 Tryz.infoR rfl (by decide) (by decide) W lo v L [⟨r, na, nc⟩] ty ⟨w.heap.size, 0, none⟩ 1 1 h2 rfl (fun i hi j u hu => by
  have hi0 : i = 0 := by simp at hi; omega
  subst hi0
  rw [Addr.add_lit, cell_of_row _ _ _ _ _ _ hb]
  rw [show 0 + (0 * 5 + j) = j from by omega]
  simpa [rwC, Rw.nv] using hu) (by simp; omega) (Nat.le_trans hlo hf.size)
 have kf : Fp (fun k => v.ownBlock = some k) W w' := (Fp.refl _ _).grown k2 (fun k hk => .inl hk)
 refine ⟨v', w', hr, ⟨L ++ [⟨r, na, nc⟩], by rw [List.map_append, h1]; rfl, k1, fun x hx => ?_⟩, kf, k3⟩
 have hk : ∀ y : Rw, Own lo W y.nv y.r.names → Own lo w' y.nv y.r.names := fun y hy => by
  refine ⟨kf.owns hy.1 (fun j hj e => ?_), hy.2⟩
  obtain ⟨_, t1⟩ := h2.type e
  have t2 : ∃ cs, W.heap[j]? = some (.cells cs 9 (0, 0)) := by
   rcases hy.1.2 with ⟨e0, _⟩ | ⟨g, cap, cur, e0, hb', hg', _⟩
   ·rw [e0] at hj; simp [Value.ownBlock] at hj
   rw [e0] at hj
   have : g = j := by simpa [Value.ownBlock] using hj
   subst this
   exact ⟨_, hg'⟩
  obtain ⟨_, t2⟩ := t2
  rw [t1] at t2
  injection t2 with t2
  injection t2 with _ t2 _
  exact absurd t2 (by decide)
 rcases List.mem_append.1 hx with hx | hx
 ·exact hk x (h3 x hx)
 rw [List.mem_singleton.1 hx]; exact hk _ (hnm.grown' hf)
structure MApR (t : List Nd) (v : Value) (l : List Opn) (w : World) (e : Ending) (w' : World) : Prop where
 way : (¬ (right t = true ∧ mayL l = true) ∧ e = .returned (.tuple #[.slice none 0 0, .agg #[.int .i64 1, .int .i64 0, .slice none 0 0]])) ∨
  (right t = true ∧ mayL l = true ∧ ∃ now rs v' rv, RunO t l l.length now rs ∧ e = .returned (.tuple #[v', .agg #[.int .i64 0, .int .i64 0, rv]]) ∧ Ns w' v' now ∧ Rrs w' rv rs) ∨
  (right t = true ∧ mayL l = true ∧ ∃ i now rs, RunO t l i now rs ∧ ∃ h : i < l.length, (apply now l[i]).2.err ≠ 0 ∧ e = .returned (.tuple #[v, .agg #[.int .i64 (apply now l[i]).2.err, .int .i64 i, .slice none 0 0]]))
 fp : Fp Non w w'
theorem box3 {w : World} {b : Nat} {T : TypeId} {c0 c1 c2 : Value} (h : w.heap[b]? = some (.cells #[c0, c1, c2] T (0, 0))) : w.cell? ⟨b, 0, none⟩ = some c0 ∧ w.cell? ⟨b, 1, none⟩ = some c1 ∧ w.cell? ⟨b, 2, none⟩ = some c2 :=
 ⟨by rw [cell_of_row _ _ _ _ _ _ h]; rfl, by rw [cell_of_row _ _ _ _ _ _ h]; rfl, by rw [cell_of_row _ _ _ _ _ _ h]; rfl⟩
set_option maxHeartbeats 16000000 in
theorem mApply_c (v lv : Value) (t : List Nd) (l : List Opn) (w : World) (hv : Ns w v t) (ht : Sp t) (hl : Ops w lv l) (hls : OSp l) (hln : l.length ≤ 1000000) (htab : Tab w) :
  Calls Tryz.prog 40 #[v, lv] w (MApR t v l w) := by
 have hnr := fun W (f : Fp Non w W) => nRight_c v t W (hv.non f) ht
 have hmm := fun W (f : Fp Non w W) => mMay_c lv l W (hl.non f) hls hln
 obtain ⟨ao, cap, rfl⟩ := hv.shape
 obtain ⟨al, cl, rfl⟩ := hl.shape
 obtain ⟨nt, hnt⟩ : ∃ n, n = t.length := ⟨_, rfl⟩
 obtain ⟨n, hn⟩ : ∃ n, n = l.length := ⟨_, rfl⟩
 obtain ⟨br, hbr⟩ : ∃ b, right t = b := ⟨_, rfl⟩
 obtain ⟨bm, hbm⟩ : ∃ b, mayL l = b := ⟨_, rfl⟩
 rw [hbr, ← hnt] at hnr
 rw [hbm, ← hn] at hmm
 have HB := zI (yI hbr hbm)
 have HRM := zI (yI hnr hmm)
 have HN := zI (yI hnt (yI hn (yI hv (yI hl (yI hls htab)))))
 rw [← hnt, ← hn]
 have f0 := fp_alloc w (.cells #[.int .i64 0, .int .i64 0, .slice none 0 0] TDN)
 have r0 := heap_alloc_new w (.cells #[.int .i64 0, .int .i64 0, .slice none 0 0] TDN)
 have K0 := zI (Kp.and (Kp.fp f0) (Kp.row r0))
 clear hv ht hl hls hln htab hnr hmm hbr hbm hnt hn f0 r0
 go_enter Tryz.func40, Tryz.ntmps40
 go_wp2_with fail
 refine wp_scope_jumps 0 (fun a' w' => ∃ (i : Nat) (b8 : Nat) (er : Int) (c1 c2 c3 c4 : Value) (u2 u3 u4 u6 u9 u10 u11 u12 u13 u14 u15 u16 u17 u18 u19 u20 u21 u22 u23 u24 u25 u26 u27 u28 u29 u30 u31 u32 u33 u34 u35 u36 u37 u38 u39 u40 u41 u42 u43 u44 u45 u46 u47 u48 u49 : Value), a' = { tmps := #[.slice ao nt cap, .slice al n cl, u2, u3, u4, .pointer (some ⟨w.heap.size, 0, none⟩), u6, .int .i64 i, .pointer (some ⟨b8, 0, none⟩), u9, u10, u11, u12, u13, u14, u15, u16, u17, u18, u19, u20, u21, u22, u23, u24, u25, u26, u27, u28, u29, u30, u31, u32, u33, u34, u35, u36, u37, u38, u39, u40, u41, u42, u43, u44, u45, u46, u47, u48, u49], defers := [] } ∧ Hid (right t = true ∧ mayL l = true ∧ (∃ now rs, RunO t l i now rs ∧ ∃ h : i < l.length, (apply now l[i]).2.err = er ∧ er ≠ 0) ∧ Fp Non w w' ∧ w'.heap[w.heap.size]? = some (.cells #[.int .i64 0, .int .i64 0, .slice none 0 0] TDN (0, 0)) ∧ w'.heap[b8]? = some (.cells #[.int .i64 er, c1, c2, c3, c4] TR (0, 0)))) (fun _ _ => 0) rfl ?_ ?_
 rotate_left
 ·rintro a' w' ⟨i, b8, er, c1, c2, c3, c4, u2, u3, u4, u6, u9, u10, u11, u12, u13, u14, u15, u16, u17, u18, u19, u20, u21, u22, u23, u24, u25, u26, u27, u28, u29, u30, u31, u32, u33, u34, u35, u36, u37, u38, u39, u40, u41, u42, u43, u44, u45, u46, u47, u48, u49, rfl, HJ⟩
  obtain ⟨d0, d1, d2⟩ := box3 HJ.out.2.2.2.2.1
  obtain ⟨r0, r1, r2, r3, r4⟩ := box5 HJ.out.2.2.2.2.2
  have z0 := frozen_at HJ.out.2.2.2.2.1 0; have z1 := frozen_at HJ.out.2.2.2.2.1 1; have z2 := frozen_at HJ.out.2.2.2.2.1 2
  have hset := heap_setCell_same _ w.heap.size 2 _ TDN (.slice none 0 0) (heap_setCell_same _ w.heap.size 1 _ TDN (.int .i64 i) (heap_setCell_same w' w.heap.size 0 _ TDN (.int .i64 er) HJ.out.2.2.2.2.1))
  have hfs : Fp (fun j => j = w.heap.size) w' (((w'.setCell ⟨w.heap.size, 0, none⟩ (.int .i64 er)).setCell ⟨w.heap.size, 1, none⟩ (.int .i64 i)).setCell ⟨w.heap.size, 2, none⟩ (.slice none 0 0)) := (((Fp.refl (fun j => j = w.heap.size) w').setCell (p := ⟨w.heap.size, 0, none⟩) (.inl rfl) _).setCell (p := ⟨w.heap.size, 1, none⟩) (.inl rfl) _).setCell (p := ⟨w.heap.size, 2, none⟩) (.inl rfl) _
  have HJS := zI (yI ((Fp.refl Non _).drew.heap hset id) ((HJ.out.2.2.2.1.trans hfs (fun j hj => .inr (by have hj : j = w.heap.size := hj; omega))).then (Fp.refl Non _).drew))
  clear hset hfs
  go_wp2_with fail
  go_region
  all_goals
   clear d0 d1 d2 z0 z1 z2 r0 r1 r2 r3 r4
   generalize (((World.setCell w' _ _).setCell _ _).setCell _ _).drew = wz at *
   obtain ⟨t0, t1, t2⟩ := box3 HJS.out.1
   go_wp2_with fail
   simp only [Exit.jump]
   refine bodyPost_ret (v := .tuple #[.slice ao nt cap, .agg #[.int .i64 er, .int .i64 i, .slice none 0 0]]) (by simp [results, Tryz.results40, go_sem, t0, t1, t2]) rfl ?_
   obtain ⟨now, rs, h1, h2, h3, h4⟩ := HJ.out.2.2.1
   exact ⟨.inr (.inr ⟨HJ.out.1, HJ.out.2.1, i, now, rs, h1, h2, by rw [h3]; exact h4, by rw [h3]⟩), HJS.out.2⟩
 go_wp2_with fail
 refine (HRM.out.1 _ K0.out.now.1).mono ?_
 rintro e w1 ⟨rfl, hf⟩
 have K1 := zI (K0.out.later hf)
 clear hf K0
 obtain ⟨d0, d1, d2⟩ := box3 K1.out.now.2
 have z0 := frozen_at K1.out.now.2 0; have z1 := frozen_at K1.out.now.2 1; have z2 := frozen_at K1.out.now.2 2
 cases br with
 | false =>
  have hset := heap_setCell_same _ w.heap.size 2 _ TDN (.slice none 0 0) (heap_setCell_same _ w.heap.size 1 _ TDN (.int .i64 0) (heap_setCell_same w1 w.heap.size 0 _ TDN (.int .i64 1) K1.out.now.2))
  have hfs : Fp (fun j => j = w.heap.size) w1 (((w1.setCell ⟨w.heap.size, 0, none⟩ (.int .i64 1)).setCell ⟨w.heap.size, 1, none⟩ (.int .i64 0)).setCell ⟨w.heap.size, 2, none⟩ (.slice none 0 0)) := (((Fp.refl (fun j => j = w.heap.size) w1).setCell (p := ⟨w.heap.size, 0, none⟩) (.inl rfl) _).setCell (p := ⟨w.heap.size, 1, none⟩) (.inl rfl) _).setCell (p := ⟨w.heap.size, 2, none⟩) (.inl rfl) _
  have HJS := zI (yI hset (K1.out.now.1.trans hfs (fun j hj => .inr (by have hj : j = w.heap.size := hj; omega))))
  clear hset hfs
  go_wp2_with fail
  clear d0 d1 d2 z0 z1 z2
  generalize (((World.setCell w1 _ _).setCell _ _).setCell _ _) = wz at *
  obtain ⟨t0, t1, t2⟩ := box3 HJS.out.1
  simp only [Exit.jump]
  refine bodyPost_ret (v := .tuple #[.slice none 0 0, .agg #[.int .i64 1, .int .i64 0, .slice none 0 0]]) (by simp [results, Tryz.results40, go_sem, t0, t1, t2]) rfl ?_
  exact ⟨.inl ⟨fun h => by have := HB.out; rw [this.1, this.2] at h; simp at h, rfl⟩, HJS.out.2⟩
 | true => ?_
 go_wp2_with fail
 refine (HRM.out.2 _ K1.out.now.1).mono ?_
 rintro e w2 ⟨rfl, hf⟩
 have K2 := zI (K1.out.later hf)
 clear hf K1 d0 d1 d2 z0 z1 z2
 obtain ⟨d0, d1, d2⟩ := box3 K2.out.now.2
 have z0 := frozen_at K2.out.now.2 0; have z1 := frozen_at K2.out.now.2 1; have z2 := frozen_at K2.out.now.2 2
 cases bm with
 | false =>
  have hset := heap_setCell_same _ w.heap.size 2 _ TDN (.slice none 0 0) (heap_setCell_same _ w.heap.size 1 _ TDN (.int .i64 0) (heap_setCell_same w2 w.heap.size 0 _ TDN (.int .i64 1) K2.out.now.2))
  have hfs : Fp (fun j => j = w.heap.size) w2 (((w2.setCell ⟨w.heap.size, 0, none⟩ (.int .i64 1)).setCell ⟨w.heap.size, 1, none⟩ (.int .i64 0)).setCell ⟨w.heap.size, 2, none⟩ (.slice none 0 0)) := (((Fp.refl (fun j => j = w.heap.size) w2).setCell (p := ⟨w.heap.size, 0, none⟩) (.inl rfl) _).setCell (p := ⟨w.heap.size, 1, none⟩) (.inl rfl) _).setCell (p := ⟨w.heap.size, 2, none⟩) (.inl rfl) _
  have HJS := zI (yI hset (K2.out.now.1.trans hfs (fun j hj => .inr (by have hj : j = w.heap.size := hj; omega))))
  clear hset hfs
  go_wp2_with fail
  clear d0 d1 d2 z0 z1 z2
  generalize (((World.setCell w2 _ _).setCell _ _).setCell _ _) = wz at *
  obtain ⟨t0, t1, t2⟩ := box3 HJS.out.1
  simp only [Exit.jump]
  refine bodyPost_ret (v := .tuple #[.slice none 0 0, .agg #[.int .i64 1, .int .i64 0, .slice none 0 0]]) (by simp [results, Tryz.results40, go_sem, t0, t1, t2]) rfl ?_
  exact ⟨.inl ⟨fun h => by have := HB.out; rw [this.1, this.2] at h; simp at h, rfl⟩, HJS.out.2⟩
 | true => ?_
 clear d0 d1 d2 z0 z1 z2
 have hT : Tr t := ((right_iff t).1 HB.out.1).tr
 have hmm := (mayL_iff l).1 HB.out.2
 have fb := fp_alloc w2 (.cells #[.int .i64 0, .string ⟨#[]⟩, .string ⟨#[]⟩, .int .i64 0, .slice none 0 0] TR)
 have rb := heap_alloc_new w2 (.cells #[.int .i64 0, .string ⟨#[]⟩, .string ⟨#[]⟩, .int .i64 0, .slice none 0 0] TR)
 have hlow : w.heap.size < w2.heap.size := (Array.getElem?_eq_some_iff.1 K2.out.now.2).1
 have HT := zI (yI hT (yI hmm hlow))
 have H0 : Hid (∃ now rs, RunO t l 0 now rs ∧ Ns (w2.alloc (.cells #[.int .i64 0, .string ⟨#[]⟩, .string ⟨#[]⟩, .int .i64 0, .slice none 0 0] TR)) (.slice ao nt cap) now ∧ Ors w.heap.size (w2.alloc (.cells #[.int .i64 0, .string ⟨#[]⟩, .string ⟨#[]⟩, .int .i64 0, .slice none 0 0] TR)) (.slice none 0 0) rs ∧ Fp Non w (w2.alloc (.cells #[.int .i64 0, .string ⟨#[]⟩, .string ⟨#[]⟩, .int .i64 0, .slice none 0 0] TR)) ∧ (w2.alloc (.cells #[.int .i64 0, .string ⟨#[]⟩, .string ⟨#[]⟩, .int .i64 0, .slice none 0 0] TR)).heap[w.heap.size]? = some (.cells #[.int .i64 0, .int .i64 0, .slice none 0 0] TDN (0, 0)) ∧ ∃ (c0 : Int) (c1 c2 : ByteArray) (c3 : Int) (c4 : Option Addr × Nat × Nat), (w2.alloc (.cells #[.int .i64 0, .string ⟨#[]⟩, .string ⟨#[]⟩, .int .i64 0, .slice none 0 0] TR)).heap[w2.heap.size]? = some (.cells #[.int .i64 c0, .string c1, .string c2, .int .i64 c3, .slice c4.1 c4.2.1 c4.2.2] TR (0, 0)) ∧ (∀ j, (Value.slice none 0 0).ownBlock = some j → j ≠ w2.heap.size) ∧ (0 < now.length → ∀ j, (Value.slice ao nt cap).ownBlock = some j → (Value.slice none 0 0).ownBlock ≠ some j)) :=
  ⟨t, [], .zero, by rw [HN.out.1]; exact HN.out.2.2.1.non (K2.out.now.1.then fb), Ors.nil _ _, K2.out.now.1.then fb, fb.heap K2.out.now.2 id, 0, ⟨#[]⟩, ⟨#[]⟩, 0, (none, 0, 0), rb, (fun j hj => by simp [Value.ownBlock] at hj), fun _ j _ e => by simp [Value.ownBlock] at e⟩
 have hnb : n ≤ 8 := by rw [HN.out.2.1]; exact hmm.1.2
 clear fb rb hT hmm hlow K2
 go_wp2_with fail
 generalize w2.heap.size = b8 at *
 generalize (World.alloc w2 _) = w3 at *
 go_loopw [6, 9, 22] (fun vn vr i wr => ∃ k : Nat, k ≤ n ∧ i = .int .i64 k ∧ Hid (∃ now rs, RunO t l k now rs ∧ Ns wr vn now ∧ Ors w.heap.size wr vr rs ∧ Fp Non w wr ∧ wr.heap[w.heap.size]? = some (.cells #[.int .i64 0, .int .i64 0, .slice none 0 0] TDN (0, 0)) ∧ ∃ (c0 : Int) (c1 c2 : ByteArray) (c3 : Int) (c4 : Option Addr × Nat × Nat), wr.heap[b8]? = some (.cells #[.int .i64 c0, .string c1, .string c2, .int .i64 c3, .slice c4.1 c4.2.1 c4.2.2] TR (0, 0)) ∧ (∀ j, vr.ownBlock = some j → j ≠ b8) ∧ (0 < now.length → ∀ j, vn.ownBlock = some j → vr.ownBlock ≠ some j))) (fun _ _ i _ => n - (RowKit.intOf i).toNat)
 case atStart => exact ⟨0, Nat.zero_le _, rfl, H0⟩
 clear H0
 obtain ⟨k, hk, rfl, hR⟩ := hrel
 rename_i wr _
 obtain ⟨now, rs, hrun, hns, hors, hF, hD, c0', c1', c2', c3', c4', hBx, hnb8, hfr⟩ := hR.out
 clear hR
 obtain ⟨an6, cn6, hsh⟩ := hns.shape
 obtain ⟨ar9, cr9, hsh9⟩ := hors.shape
 obtain ⟨nn, hnn⟩ : ∃ nn, nn = now.length := ⟨_, rfl⟩
 obtain ⟨nr, hnr⟩ : ∃ nr, nr = rs.length := ⟨_, rfl⟩
 rw [← hnn] at hsh
 rw [← hnr] at hsh9
 subst hsh hsh9
 have HNR := zI (yI hnn hnr)
 clear hnn hnr
 by_cases hlt : k < n
 ·have hkl : k < l.length := by rw [← HN.out.2.1]; exact hlt
  obtain ⟨g, og, cap', e9, hcell⟩ := (HN.out.2.2.2.1.non hF).at (by omega)
  injection e9 with e1 e2 e3
  subst e1 e3
  clear e2
  have hop := hcell k hkl
  have hsp := HN.out.2.2.2.2.1 _ (List.getElem_mem hkl)
  have hTr := (hrun.tree HT.out.1 HT.out.2.1.2).1
  have hap := fun W (f : Fp Non wr W) => Apply_f (.slice an6 nn cn6) now l[k] W (hns.non f) (tr_few hTr).2 hsp (HN.out.2.2.2.2.2.non (hF.then f))
  have hsucc : ∀ x r, apply now l[k] = (x, r) → r.err = 0 → RunO t l (k + 1) x (rs ++ [r]) := fun x r h h0 => .succ hrun hkl h h0
  have hfail : ∀ er, (apply now l[k]).2.err = er → er ≠ 0 → ∃ now rs, RunO t l k now rs ∧ ∃ h : k < l.length, (apply now l[k]).2.err = er ∧ er ≠ 0 := fun er h h0 => ⟨now, rs, hrun, hkl, h, h0⟩
  have hrl : rs.length ≤ 8 := by have := hrun.len; omega
  obtain ⟨x, hx⟩ : ∃ x, l[k] = x := ⟨_, rfl⟩
  rw [hx] at hop hap hsucc hfail
  obtain ⟨nx, hnx⟩ : ∃ nx, (apply now x).1 = nx := ⟨_, rfl⟩
  obtain ⟨rq, hrq⟩ : ∃ rq, (apply now x).2 = rq := ⟨_, rfl⟩
  have hpair : apply now x = (nx, rq) := Prod.ext hnx hrq
  have hs1 := hsucc nx rq hpair
  have hs2 := hfail rq.err (by rw [hrq])
  rw [hnx, hrq] at hap
  obtain ⟨kk, op, od, ov, oo, ot⟩ := x
  have c0 := hop.c0; have c1 := hop.c1; have c2 := hop.c2; have c3 := hop.c3; have c4 := hop.c4; have c5 := hop.c5
  unfold opV strV at hap
  unfold strV at c1 c2
  simp only at c0 c1 c2 c3 c4 c5 hap
  have HAP := zI hap
  have HS := zI (yI hs1 (yI hs2 hrl))
  have HF := zI (yI hF (yI hD (yI hBx (yI hors (yI hnb8 hfr)))))
  have HL := zI hlt
  have q3 : ((k : Int) < (n : Int)) = True := eq_true (by omega)
  have q4 : (k < n) = True := eq_true hlt
  clear hcell hop hsp hTr hap hsucc hfail hx hnx hrq hpair hs1 hs2 hF hD hBx hnb8 hfr hors hns hrun hlt hkl hrl
  go_wp2_with fail
  refine (HAP.out _ (Fp.refl _ _)).mono ?_
  rintro e w5 hA
  obtain ⟨v', nv, rfl, hns, hown, hfar⟩ := hA.ex
  have hfp := hA.fp
  obtain ⟨ax, cx, rfl⟩ := hns.shape
  obtain ⟨na, nc, rfl⟩ := hown.shape
  obtain ⟨re, rp, rd, rv, rn⟩ := rq
  simp only at hown
  unfold strV
  simp only
  have hB5 := hfp.heap HF.out.2.2.1 id
  have hlo5 : w.heap.size ≤ wr.heap.size := HF.out.1.size
  have hset := set5 hB5 (.int .i64 re) (.string (B rp)) (.string (B rd)) (.int .i64 rv) (.slice na rn.length nc)
  have hff := fp5 (S := fun j => j = b8) (Fp.refl _ w5) (b := b8) (.inl rfl) (.int .i64 re) (.string (B rp)) (.string (B rd)) (.int .i64 rv) (.slice na rn.length nc)
  have HB8 := zI (show w.heap.size ≤ b8 ∧ b8 < wr.heap.size ∧ b8 ≠ w.heap.size from ⟨by have := HT.out.2.2; omega, (Array.getElem?_eq_some_iff.1 HF.out.2.2.1).1, by have := HT.out.2.2; omega⟩)
  obtain ⟨b0, b1, b2, b3, b4⟩ := box5 hB5
  have z0 := frozen_at hB5 0; have z1 := frozen_at hB5 1; have z2 := frozen_at hB5 2; have z3 := frozen_at hB5 3; have z4 := frozen_at hB5 4
  have hF6 := (HF.out.1.then hfp).trans hff (fun j hj => .inr (by have hj : j = b8 := hj; have := HB8.out.1; omega))
  have hD6 := hff.heap (hfp.heap HF.out.2.1 id) (fun e => HB8.out.2.2 e.symm)
  have hN6 := hns.box hB5 hff
  have hO6 := (HF.out.2.2.2.1.non hfp).keep hB5 HF.out.2.2.2.2.1 hff
  have hw5 := hown.low hlo5
  have hW6 : Own w.heap.size (((((w5.setCell ⟨b8, 0, none⟩ (.int .i64 re)).setCell ⟨b8, 1, none⟩ (.string (B rp))).setCell ⟨b8, 2, none⟩ (.string (B rd))).setCell ⟨b8, 3, none⟩ (.int .i64 rv)).setCell ⟨b8, 4, none⟩ (.slice na rn.length nc)) (.slice na rn.length nc) rn := by
   refine ⟨hff.owns hw5.1 (fun j hj e => ?_), hw5.2⟩
   obtain ⟨_, t1⟩ := hw5.type hj
   have e : j = b8 := e
   subst e
   exact type_ne t1 hB5 (by decide)
  have hfr6 : 0 < nx.length → ∀ j, (Value.slice ax nx.length cx).ownBlock = some j → (Value.slice ar9 nr cr9).ownBlock ≠ some j := fun h0 j hj e => by
   rcases hfar with h | h
   ·rw [h] at hj
    injection h with _ h2 _
    exact HF.out.2.2.2.2.2 (by rw [← HNR.out.1, ← h2]; exact h0) j hj e
   have h1 := h j hj
   have h2 := (HF.out.2.2.2.1.lt j e).2
   omega
  have HFR6 := zI hfr6
  clear hfr6 hfar
  have H6 := zI (yI hF6 (yI hD6 (yI hN6 (yI hO6 (yI hW6 hset)))))
  obtain ⟨nx', hnx'⟩ : ∃ m, m = nx.length := ⟨_, rfl⟩
  have HNX := zI hnx'
  rw [← hnx'] at H6 HFR6 ⊢
  clear hF6 hD6 hN6 hO6 hW6 hset hff hfp hA hns hown hB5 hlo5 hnx'
  go_upto_region 10 with (fail)
  clear b0 b1 b2 b3 b4 z0 z1 z2 z3 z4
  generalize (((((World.setCell w5 _ _).setCell _ _).setCell _ _).setCell _ _).setCell _ _) = w6 at *
  obtain ⟨b0, b1, b2, b3, b4⟩ := box5 H6.out.2.2.2.2.2
  by_cases hre : re = 0
  ·have e1 : (re != 0) = false := by simp [hre]
   have e2 : (re == 0) = true := beq_iff_eq.2 hre
   have e3 : (re = 0) = True := eq_true hre
   have hrun := HS.out.1 hre
   have hap9 := app_res w6 w.heap.size (.slice ar9 nr cr9) rs ⟨re, rp, rd, rv, rn⟩ na nc TRL H6.out.2.2.2.1 (by have := HS.out.2.2; omega) H6.out.1.size H6.out.2.2.2.2.1
   unfold strV at hap9
   simp only at hap9
   have HAP9 := zI hap9
   have HRUN := zI hrun
   clear hap9 hrun hre
   go_wp2_with (at_builtin; go_must (refine wpList_app rfl _ _ _ _ rfl _ _ rfl rfl _ HAP9.out ?_))
   intro v7 w7 hc
   have fa := fp_alloc w6 (.cells #[.int .i64 re, .string (B rp), .string (B rd), .int .i64 rv, .slice na rn.length nc] TR)
   have hown8 := fun j (hj : (Value.slice ar9 nr cr9).ownBlock = some j) => H6.out.2.2.2.1.lt j hj
   have hF7 := (H6.out.1.then fa).trans hc.fp (fun j hj => .inr (hown8 j hj).1)
   have hne7 : ∀ j, (Value.slice ar9 nr cr9).ownBlock = some j → j ≠ w.heap.size := fun j hj e => by
    obtain ⟨_, t1⟩ := H6.out.2.2.2.1.type hj
    rw [e] at t1
    exact type_ne t1 H6.out.2.1 (by decide)
   have hD7 := hc.fp.heap (fa.heap H6.out.2.1 id) (fun e => hne7 _ e rfl)
   have hB7 := hc.fp.heap (fa.heap H6.out.2.2.2.2.2 id) (fun e => HF.out.2.2.2.2.1 _ e rfl)
   have hN7 := (H6.out.2.2.1.non fa).keep1 hc.fp (fun h0 j hj e => HFR6.out (by rw [HNX.out]; exact h0) j hj e)
   have hfr7 : 0 < nx.length → ∀ j, (Value.slice ax nx' cx).ownBlock = some j → v7.ownBlock ≠ some j := fun h0 j hj e => by
    rcases hc.new j e with h | h
    ·exact HFR6.out (by rw [HNX.out]; exact h0) j hj h
    have h1 := H6.out.2.2.1.lt1 h0 j hj
    have h2 := fa.size
    omega
   have hn7 : ∀ j, v7.ownBlock = some j → j ≠ b8 := fun j hj e => by
    rcases hc.new j hj with h | h
    ·exact HF.out.2.2.2.2.1 j h e
    have h1 := (Array.getElem?_eq_some_iff.1 H6.out.2.2.2.2.2).1
    have h2 := fa.size
    omega
   have hM : Hid (∃ now rs, RunO t l (k + 1) now rs ∧ Ns w7 (.slice ax nx' cx) now ∧ Ors w.heap.size w7 v7 rs ∧ Fp Non w w7 ∧ w7.heap[w.heap.size]? = some (.cells #[.int .i64 0, .int .i64 0, .slice none 0 0] TDN (0, 0)) ∧ ∃ (c0 : Int) (c1 c2 : ByteArray) (c3 : Int) (c4 : Option Addr × Nat × Nat), w7.heap[b8]? = some (.cells #[.int .i64 c0, .string c1, .string c2, .int .i64 c3, .slice c4.1 c4.2.1 c4.2.2] TR (0, 0)) ∧ (∀ j, v7.ownBlock = some j → j ≠ b8) ∧ (0 < now.length → ∀ j, (Value.slice ax nx' cx).ownBlock = some j → v7.ownBlock ≠ some j)) :=
    ⟨nx, _, HRUN.out, hN7, hc.own, hF7, hD7, re, B rp, B rd, rv, (na, rn.length, nc), hB7, hn7, hfr7⟩
   clear hF7 hD7 hB7 hN7 hn7 hfr7 hne7 hown8 hc fa b0 b1 b2 b3 b4
   have hj1 := HL.out
   go_wp2
   go_roundw
   case rel => exact ⟨k + 1, by omega, by go_num, hM⟩
   case measure => simp [RowKit.intOf]; omega
  have e1 : (re != 0) = true := by simpa using hre
  have e2 : (re == 0) = false := beq_eq_false_iff_ne.2 hre
  have e3 : (re = 0) = False := eq_false hre
  have hex := HS.out.2.1 hre
  have HEX := zI hex
  clear hex hre
  go_wp2_with fail
  go_step3
  exact ⟨rfl, k, b8, re, _, _, _, _, _, _, _, _, _, _, _, _, _, _, _, _, _, _, _, _, _, _, _, _, _, _, _, _, _, _, _, _, _, _, _, _, _, _, _, _, _, _, _, _, _, _, _, _, _, rfl, HB.out.1, HB.out.2, HEX.out, H6.out.1, H6.out.2.1, H6.out.2.2.2.2.2⟩
 have hke : k = n := by omega
 subst hke
 have q3 : ((k : Int) < (k : Int)) = False := eq_false (by omega)
 have hrun' : RunO t l l.length now rs := by rw [← HN.out.2.1]; exact hrun
 have H6 := zI (yI hrun' (yI hns (yI hors (yI hF hD))))
 have hset := heap_setCell_same _ w.heap.size 2 _ TDN (.slice ar9 nr cr9) (heap_setCell_same _ w.heap.size 1 _ TDN (.int .i64 0) (heap_setCell_same wr w.heap.size 0 _ TDN (.int .i64 0) hD))
 have hfs : Fp (fun j => j = w.heap.size) wr (((wr.setCell ⟨w.heap.size, 0, none⟩ (.int .i64 0)).setCell ⟨w.heap.size, 1, none⟩ (.int .i64 0)).setCell ⟨w.heap.size, 2, none⟩ (.slice ar9 nr cr9)) := (((Fp.refl (fun j => j = w.heap.size) wr).setCell (p := ⟨w.heap.size, 0, none⟩) (.inl rfl) _).setCell (p := ⟨w.heap.size, 1, none⟩) (.inl rfl) _).setCell (p := ⟨w.heap.size, 2, none⟩) (.inl rfl) _
 have hN9 := hns.box3 (c2 := (none, 0, 0)) hD hfs
 have hO9 := hors.keepD hD hfs
 have HJS := zI (yI hset (yI (hF.trans hfs (fun j hj => .inr (by have hj : j = w.heap.size := hj; omega))) (yI hN9 hO9.rrs)))
 obtain ⟨d0, d1, d2⟩ := box3 hD
 have z0 := frozen_at hD 0; have z1 := frozen_at hD 1; have z2 := frozen_at hD 2
 clear hset hfs hN9 hO9 hrun hrun' hns hors hF hD hBx hnb8 hfr hlt hk
 go_wp2_with fail
 clear d0 d1 d2 z0 z1 z2
 generalize (((World.setCell wr _ _).setCell _ _).setCell _ _) = wz at *
 obtain ⟨t0, t1, t2⟩ := box3 HJS.out.1
 simp only [Exit.jump]
 refine bodyPost_ret (v := .tuple #[.slice an6 nn cn6, .agg #[.int .i64 0, .int .i64 0, .slice ar9 nr cr9]]) (by simp [results, Tryz.results40, go_sem, t0, t1, t2]) rfl ?_
 exact ⟨.inr (.inl ⟨HB.out.1, HB.out.2, now, rs, _, _, H6.out.1, rfl, HJS.out.2.2.1, HJS.out.2.2.2⟩), HJS.out.2.1⟩
end Go.Proofs.YtphoglepiegeiaaGreatDoor
