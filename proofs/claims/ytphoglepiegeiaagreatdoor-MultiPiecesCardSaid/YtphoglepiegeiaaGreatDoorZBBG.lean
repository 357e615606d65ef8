/- A text of this proof. -/
import Derived.Test.YtphoglepiegeiaaGreatDoorZBBB
import Derived.Test.YtphoglepiegeiaaGreatDoorZBBC
import Derived.Test.YtphoglepiegeiaaGreatDoorZBBD
import Derived.Test.YtphoglepiegeiaaGreatDoorZBBE
import Derived.Test.YtphoglepiegeiaaGreatDoorZBBF
import Derived.Test.YtphoglepiegeiaaGreatDoorZBF
import Derived.Test.YtphoglepiegeiaaGreatDoorZBG
import Derived.Test.YtphoglepiegeiaaGreatDoorZBI
import Derived.Test.YtphoglepiegeiaaGreatDoorZBJ
import Derived.Test.YtphoglepiegeiaaGreatDoorZBQ
import Derived.Test.YtphoglepiegeiaaGreatDoorZBT
set_option linter.unusedSimpArgs false
set_option linter.unusedVariables false
namespace Go.Proofs.YtphoglepiegeiaaGreatDoor
set_option maxRecDepth 20000
open Go.RowKit Pm
set_option maxHeartbeats 1000000 in
theorem New_c (w : World) : Calls Tryz.prog 81 #[] w fun e w' => (∃ v, e = .returned v ∧ Ns w' v hd0) ∧ Fp Non w w' := by
 go_enter Tryz.func81, Tryz.ntmps81
 go_wp2_with fail
 go_ret
 refine ⟨⟨_, rfl, ?_⟩, ?_⟩
 ·exact (Nr.ns (l := hd0) (g := w.heap.size) (cap := 1) ⟨⟨[], heap_alloc_new w _, rfl⟩, Nat.le_refl _, by unfold maxLen; omega⟩)
 exact (Fp.refl Non w).alloc _
theorem hd_ap {l a : List Nd} {o : Opn} {r : Res} (hap : apply l o = (a, r)) (v : Value) (w : World) (hv : Ns w v l) (hs : Sp l) (hp : o.path.length ≤ 1000000) (ht : Tab w) :
  Calls Tryz.prog 52 #[v, opV o] w fun e w' => (∃ v' nv, e = .returned (.tuple #[v', .agg #[.int .i64 r.err, .string (B r.path), .string (B r.data), .int .i64 r.ver, nv]]) ∧ Ns w' v' a ∧ Own w.heap.size w' nv r.names) ∧ Fp Non w w' := by
 refine (Apply_c v l o w hv hs hp ht).mono fun e w' h => ?_
 rw [hap] at h
 exact ⟨h.ex, h.fp⟩
theorem mAp_ok {t : List Nd} {v : Value} {l : List Opn} {w : World} {e : Ending} {w' : World} (h : MApR t v l w e w') (hr : right t = true) (hm : mayL l = true) {a : List Nd} {rs : List Res} (g : RunO t l l.length a rs) :
  ∃ v' rv, e = .returned (.tuple #[v', .agg #[.int .i64 0, .int .i64 0, rv]]) ∧ Ns w' v' a ∧ Rrs w' rv rs := by
 rcases h.way with ⟨hn, _⟩ | ⟨_, _, now, q, v', rv, g', he, h1, h2⟩ | ⟨_, _, i, now, q, g', hi, h0, _⟩
 ·exact absurd ⟨hr, hm⟩ hn
 ·obtain ⟨rfl, rfl⟩ := g.det g'
  exact ⟨v', rv, he, h1, h2⟩
 obtain ⟨now', x, rs', q', g2, hj, _, ha, h0', _⟩ := g.back hi
 obtain ⟨rfl, rfl⟩ := g'.det g2
 rw [ha] at h0; exact absurd h0' h0
theorem mAp_err {t : List Nd} {v : Value} {l : List Opn} {w : World} {e : Ending} {w' : World} (h : MApR t v l w e w') (hr : right t = true) (hm : mayL l = true) {i : Nat} {now : List Nd} {rs : List Res} (g : RunO t l i now rs) (hi : i < l.length) (h0 : (apply now l[i]).2.err ≠ 0) :
  e = .returned (.tuple #[v, .agg #[.int .i64 (apply now l[i]).2.err, .int .i64 i, .slice none 0 0]]) := by
 rcases h.way with ⟨hn, _⟩ | ⟨_, _, now', q, v', rv, g', he, h1, h2⟩ | ⟨_, _, j, now', q, g', hj, h0', he⟩
 ·exact absurd ⟨hr, hm⟩ hn
 ·obtain ⟨now', x, rs', q', g2, hj, _, ha, h0', _⟩ := g'.back hi
  obtain ⟨rfl, rfl⟩ := g.det g2
  rw [ha] at h0; exact absurd h0' h0
 have hij : i = j := by
  rcases Nat.lt_trichotomy i j with hlt | heq | hlt
  ·obtain ⟨now', x, rs', q', g2, hj, _, ha, h0', _⟩ := g'.back hlt
   obtain ⟨rfl, rfl⟩ := g.det g2
   rw [ha] at h0; exact absurd h0' h0
  ·exact heq
  obtain ⟨now', x, rs', q', g2, hj, _, ha, h0'', _⟩ := g.back hlt
  obtain ⟨rfl, rfl⟩ := g'.det g2
  rw [ha] at h0'; exact absurd h0'' h0'
 subst hij
 obtain ⟨rfl, rfl⟩ := g.det g'
 exact he
theorem Rrs.shape {w : World} {v : Value} {rs : List Res} (h : Rrs w v rs) : ∃ a c, v = .slice a rs.length c := by
 obtain ⟨L, h1, h2, _⟩ := h.ex
 obtain ⟨a, c, e⟩ := h2.shape
 rw [← h1, List.length_map]; exact ⟨a, c, e⟩
theorem mAl_ok {s : St} {v : Value} {ps : List Pt} {w : World} {e : Ending} {w' : World} (h : MAlR s v ps w e w') {a : St} {rs : List Res} (g : Runs s ps ps.length a rs) :
  ∃ v' rv, e = .returned (.tuple #[v', rv, .int .i64 0, .int .i64 0]) ∧ Sto w' v' a ∧ Rrs w' rv rs := by
 rcases h.way with ⟨now, q, v', rv, g', he, h1, h2⟩ | ⟨i, now, q, g', hi, h0, _⟩
 ·obtain ⟨rfl, rfl⟩ := g.det g'
  exact ⟨v', rv, he, h1, h2⟩
 obtain ⟨now', rs', g2, hj, h0'⟩ := g.back hi
 obtain ⟨rfl, rfl⟩ := g'.det g2
 exact absurd h0' h0
theorem mAl_err {s : St} {v : Value} {ps : List Pt} {w : World} {e : Ending} {w' : World} (h : MAlR s v ps w e w') {i : Nat} {now : St} {rs : List Res} (g : Runs s ps i now rs) (hi : i < ps.length) (h0 : (applyP now ps[i]).2.err ≠ 0) :
  e = .returned (.tuple #[v, .slice none 0 0, .int .i64 (applyP now ps[i]).2.err, .int .i64 i]) := by
 rcases h.way with ⟨now', q, v', rv, g', he, h1, h2⟩ | ⟨j, now', q, g', hj, h0', he⟩
 ·obtain ⟨now', rs', g2, hj, h0'⟩ := g'.back hi
  obtain ⟨rfl, rfl⟩ := g.det g2
  exact absurd h0' h0
 have hij : i = j := by
  rcases Nat.lt_trichotomy i j with hlt | heq | hlt
  ·obtain ⟨now', rs', g2, hj, h0'⟩ := g'.back hlt
   obtain ⟨rfl, rfl⟩ := g.det g2
   exact absurd h0' h0
  ·exact heq
  obtain ⟨now', rs', g2, hj, h0''⟩ := g.back hlt
  obtain ⟨rfl, rfl⟩ := g'.det g2
  exact absurd h0'' h0'
 subst hij
 obtain ⟨rfl, rfl⟩ := g.det g'
 exact he
def opC (o : Opn) : List Value := [.int .i64 o.kind, strV o.path, strV o.data, .int .i64 o.ver, .int .i64 o.own, .bool o.turns]
theorem opC_len (o : Opn) : (opC o).length = 6 := rfl
theorem Ops.made (w : World) (l : List Opn) : Ops (w.alloc (.cells (rowsG opC l).toArray TO_)) (.slice (some ⟨w.heap.size, 0, none⟩) l.length l.length) l := by
 have hb := heap_alloc_new w (.cells (rowsG opC l).toArray TO_)
 have hg : ∀ i (h : i < l.length) j u, (opC l[i])[j]? = some u → (w.alloc (.cells (rowsG opC l).toArray TO_)).cell? ⟨w.heap.size, 0 + i * 6 + j, none⟩ = some u := fun i hi j u hu => by
  have hj : j < 6 := by rw [← opC_len l[i]]; exact (List.getElem?_eq_some_iff.1 hu).1
  rw [cell_of_row _ _ _ _ _ _ hb, Nat.zero_add]
  have := rowsG_get (enc := opC) opC_len l i j hi hj
  simpa [this] using hu
 refine ⟨_, _, rfl, .inr ⟨_, _, rfl, fun i hi => ⟨?_, ?_, ?_, ?_, ?_, ?_⟩⟩⟩
 ·exact hg i hi 0 _ rfl
 ·exact hg i hi 1 _ rfl
 ·exact hg i hi 2 _ rfl
 ·exact hg i hi 3 _ rfl
 ·exact hg i hi 4 _ rfl
 exact hg i hi 5 _ rfl
def hmoA : Opn := ⟨1, [47, 97], [], 0, 0, false⟩
def hmoB : Opn := ⟨1, [47, 97, 47, 98], [], 0, 0, false⟩
def hmA : List Nd := [⟨[47], [], 0, 0, 0⟩, ⟨[47, 97], [], 0, 0, 0⟩]
def hmB : List Nd := [⟨[47], [], 0, 0, 0⟩, ⟨[47, 97], [], 0, 0, 0⟩, ⟨[47, 97, 47, 98], [], 0, 0, 0⟩]
theorem hm_a1 : apply hd0 hmoA = (hmA, ⟨0, [47, 97], [], 0, []⟩) := by rw [apply_yes hd0_tr (by decide)]; decide
theorem hmA_tr : Tr hmA := by
 have := perform_tr hd0_tr (o := hmoA) (by decide)
 rw [← apply_yes hd0_tr (by decide), hm_a1] at this; exact this
theorem hm_a2 : apply hmA hmoB = (hmB, ⟨0, [47, 97, 47, 98], [], 0, []⟩) := by rw [apply_yes hmA_tr (by decide)]; decide
theorem hmB_tr : Tr hmB := by
 have := perform_tr hmA_tr (o := hmoB) (by decide)
 rw [← apply_yes hmA_tr (by decide), hm_a2] at this; exact this
theorem hm_a3 : apply hmB hmoA = (hmB, .bad 61) := by rw [apply_yes hmB_tr (by decide)]; decide
theorem hm_run2 : RunO hd0 [hmoA, hmoB] 2 hmB [⟨0, [47, 97], [], 0, []⟩, ⟨0, [47, 97, 47, 98], [], 0, []⟩] :=
 .succ (rs := [⟨0, [47, 97], [], 0, []⟩]) (.succ (rs := []) .zero (by decide) hm_a1 rfl) (by decide) hm_a2 rfl
theorem hm_run3 : RunO hd0 [hmoA, hmoB, hmoA] 2 hmB [⟨0, [47, 97], [], 0, []⟩, ⟨0, [47, 97, 47, 98], [], 0, []⟩] :=
 .succ (rs := [⟨0, [47, 97], [], 0, []⟩]) (.succ (rs := []) .zero (by decide) hm_a1 rfl) (by decide) hm_a2 rfl
theorem hm_all : ∃ q, Runs (keep hd0) (partsL [hmoA, hmoB]) (partsL [hmoA, hmoB]).length (keep hmB) q :=
 pieces_all hd0_tr (by decide) (by decide) hm_run2
theorem hm_osp : OSp [hmoA, hmoB, hmoA] := by unfold OSp; decide
theorem hm_osp2 : OSp [hmoA, hmoB] := by unfold OSp; decide
theorem hm1 (v : Value) (w : World) (hv : Ns w v hd0) (ht : Tab w) : Calls Tryz.prog 40 #[v, .slice (some ⟨w.heap.size, 0, none⟩) 2 2] (w.alloc (.cells #[.int .i64 1, .string ⟨#[47, 97]⟩, .string ⟨#[]⟩, .int .i64 0, .int .i64 0, .bool false, .int .i64 1, .string ⟨#[47, 97, 47, 98]⟩, .string ⟨#[]⟩, .int .i64 0, .int .i64 0, .bool false] TO_)) fun e w' => (∃ a c ra rc, e = .returned (.tuple #[.slice a 3 c, .agg #[.int .i64 0, .int .i64 0, .slice ra 2 rc]])) ∧ Fp Non w w' := by
 have hf := fp_alloc w (.cells (rowsG opC [hmoA, hmoB]).toArray TO_)
 refine (mApply_c v (.slice (some ⟨w.heap.size, 0, none⟩) 2 2) hd0 [hmoA, hmoB] (w.alloc (.cells (rowsG opC [hmoA, hmoB]).toArray TO_)) (hv.non hf) (by unfold Sp; decide) (Ops.made w _) hm_osp2 (by decide) (ht.non hf)).mono fun e w' h => ⟨?_, hf.then h.fp⟩
 obtain ⟨v', rv, rfl, h1, h2⟩ := mAp_ok h (right_true hd0_tr.tree) (by decide) hm_run2
 obtain ⟨a, c, rfl⟩ := h1.shape
 obtain ⟨ra, rc, rfl⟩ := h2.shape
 exact ⟨a, c, ra, rc, rfl⟩
theorem hm2 (v : Value) (w : World) (hv : Ns w v hd0) (ht : Tab w) : Calls Tryz.prog 40 #[v, .slice (some ⟨w.heap.size, 0, none⟩) 3 3] (w.alloc (.cells #[.int .i64 1, .string ⟨#[47, 97]⟩, .string ⟨#[]⟩, .int .i64 0, .int .i64 0, .bool false, .int .i64 1, .string ⟨#[47, 97, 47, 98]⟩, .string ⟨#[]⟩, .int .i64 0, .int .i64 0, .bool false, .int .i64 1, .string ⟨#[47, 97]⟩, .string ⟨#[]⟩, .int .i64 0, .int .i64 0, .bool false] TO_)) fun e w' => e = .returned (.tuple #[v, .agg #[.int .i64 61, .int .i64 2, .slice none 0 0]]) ∧ Fp Non w w' := by
 have hf := fp_alloc w (.cells (rowsG opC [hmoA, hmoB, hmoA]).toArray TO_)
 refine (mApply_c v (.slice (some ⟨w.heap.size, 0, none⟩) 3 3) hd0 [hmoA, hmoB, hmoA] (w.alloc (.cells (rowsG opC [hmoA, hmoB, hmoA]).toArray TO_)) (hv.non hf) (by unfold Sp; decide) (Ops.made w _) hm_osp (by decide) (ht.non hf)).mono fun e w' h => ⟨?_, hf.then h.fp⟩
 have := mAp_err h (right_true hd0_tr.tree) (by decide) hm_run3 (by decide) (by show (apply hmB hmoA).2.err ≠ 0; rw [hm_a3]; decide)
 rw [show [hmoA, hmoB, hmoA][2] = hmoA from rfl, hm_a3] at this
 exact this
theorem hm3 (w : World) : Calls Tryz.prog 46 #[.slice (some ⟨w.heap.size, 0, none⟩) 2 2] (w.alloc (.cells #[.int .i64 1, .string ⟨#[47, 97]⟩, .string ⟨#[]⟩, .int .i64 0, .int .i64 0, .bool false, .int .i64 1, .string ⟨#[47, 97, 47, 98]⟩, .string ⟨#[]⟩, .int .i64 0, .int .i64 0, .bool false] TO_)) fun e w' => (∃ g o c, e = .returned (.slice (some ⟨g, o, none⟩) 4 c) ∧ Pcs w' (.slice (some ⟨g, o, none⟩) 4 c) (piecesOf [hmoA, hmoB]) ∧ w'.cell? ⟨g, o + 2 * 8, none⟩ = some (.int .i64 1)) ∧ Fp Non w w' := by
 have hf := fp_alloc w (.cells (rowsG opC [hmoA, hmoB]).toArray TO_)
 refine (mOf_c (.slice (some ⟨w.heap.size, 0, none⟩) 2 2) [hmoA, hmoB] (w.alloc (.cells (rowsG opC [hmoA, hmoB]).toArray TO_)) (Ops.made w _) hm_osp2 (by decide)).mono fun e w' h => ⟨?_, hf.then h.2⟩
 obtain ⟨v', rfl, ho⟩ := h.1
 have hs := ho.sg pcC_len
 have hl : (piecesOf [hmoA, hmoB]).length = 4 := by decide
 obtain ⟨g, o, c, e, hc⟩ := hs.at (by omega)
 rw [hl] at e
 subst e
 refine ⟨g, o, c, rfl, hs, ?_⟩
 have := (hc 2 (by omega)).get 0 _ rfl
 rw [Nat.add_zero] at this
 rw [this]; rfl
theorem hm4 (v lv : Value) (w : World) (hv : Sto w v (keep hd0)) (hl : Pcs w lv (piecesOf [hmoA, hmoB])) (ht : Tab w) : Calls Tryz.prog 49 #[v, lv] w fun e w' => (∃ a0 a1 b0 b1 c0 c1 ra rc, e = .returned (.tuple #[.agg #[.slice a0 a1 b0, .slice b1 c0 c1], .slice ra 4 rc, .int .i64 0, .int .i64 0])) ∧ Fp Non w w' := by
 have hp : (piecesOf [hmoA, hmoB]).map Prod.snd = partsL [hmoA, hmoB] := by unfold piecesOf; rw [if_pos (by decide)]; exact pieces_snd _ _
 refine (mAll_c v lv (keep hd0) (piecesOf [hmoA, hmoB]) w hv hd0_tr.store (by decide) (by decide) hl (by decide) ht).mono fun e w' h => ⟨?_, h.fp⟩
 rw [hp] at h
 obtain ⟨q, hq⟩ := hm_all
 obtain ⟨v', rv, rfl, h1, h2⟩ := mAl_ok h hq
 have hlen : q.length = 4 := by rw [hq.len]; decide
 obtain ⟨L, k1, k2, _⟩ := h2.ex
 obtain ⟨ra, rc, rfl⟩ := k2.shape
 have : L.length = 4 := by rw [← hlen, ← k1, List.length_map]
 rw [this]
 obtain ⟨vn, vt, rfl, g1, g2⟩ := h1.ex
 obtain ⟨an, cn, rfl⟩ := g1.shape
 obtain ⟨at_, ct, rfl⟩ := g2.shape
 exact ⟨_, _, _, _, _, _, ra, rc, rfl⟩
theorem hm5 (w : World) : Calls Tryz.prog 42 #[.slice none 0 0] w fun e w' => e = .returned (.bool false) ∧ Fp Non w w' :=
 mMay_c (.slice none 0 0) [] w ⟨none, 0, rfl, .inl rfl⟩ (fun _ h => by cases h) (by decide)
theorem box6h {w : World} {b : Nat} {T : TypeId} {c0 c1 c2 c3 c4 c5 : Value} (h : w.heap[b]? = some (.cells #[c0, c1, c2, c3, c4, c5] T (0, 0))) :
  w.cell? ⟨b, 0, none⟩ = some c0 ∧ w.cell? ⟨b, 1, none⟩ = some c1 ∧ w.cell? ⟨b, 2, none⟩ = some c2 ∧ w.cell? ⟨b, 3, none⟩ = some c3 ∧ w.cell? ⟨b, 4, none⟩ = some c4 ∧ w.cell? ⟨b, 5, none⟩ = some c5 :=
 ⟨by rw [cell_of_row _ _ _ _ _ _ h]; rfl, by rw [cell_of_row _ _ _ _ _ _ h]; rfl, by rw [cell_of_row _ _ _ _ _ _ h]; rfl, by rw [cell_of_row _ _ _ _ _ _ h]; rfl, by rw [cell_of_row _ _ _ _ _ _ h]; rfl, by rw [cell_of_row _ _ _ _ _ _ h]; rfl⟩
set_option maxHeartbeats 16000000 in
theorem head8_c (w : World) (ht : Tab w) : Calls Tryz.prog 38 #[] w fun e w' => e = .returned (.bool true) ∧ Fp Non w w' := by
 go_enter Tryz.func38, Tryz.ntmps38
 go_wp2_with fail
 refine (New_c _).mono ?_
 rintro e w1 ⟨⟨v1, rfl, hl1⟩, hf1⟩
 obtain ⟨ao1, c1, e1⟩ := hl1.shape
 rw [show hd0.length = 1 from rfl] at e1
 subst e1
 have H1 := Lib.hid (Kp.and (Kp.ns hl1) (Kp.and (Kp.fp hf1) (Kp.tab (ht.non hf1))))
 have f0 := fp_alloc w1 (.cells #[.int .i64 1, .string ⟨#[47, 97]⟩, .string ⟨#[]⟩, .int .i64 0, .int .i64 0, .bool false] TO_)
 have f1 := fp_alloc (w1.alloc (.cells #[.int .i64 1, .string ⟨#[47, 97]⟩, .string ⟨#[]⟩, .int .i64 0, .int .i64 0, .bool false] TO_)) (.cells #[.int .i64 1, .string ⟨#[47, 97, 47, 98]⟩, .string ⟨#[]⟩, .int .i64 0, .int .i64 0, .bool false] TO_)
 have r0 := f1.heap (heap_alloc_new w1 (.cells #[.int .i64 1, .string ⟨#[47, 97]⟩, .string ⟨#[]⟩, .int .i64 0, .int .i64 0, .bool false] TO_)) id
 have r1 := heap_alloc_new (w1.alloc (.cells #[.int .i64 1, .string ⟨#[47, 97]⟩, .string ⟨#[]⟩, .int .i64 0, .int .i64 0, .bool false] TO_)) (.cells #[.int .i64 1, .string ⟨#[47, 97, 47, 98]⟩, .string ⟨#[]⟩, .int .i64 0, .int .i64 0, .bool false] TO_)
 rw [show (w1.alloc (.cells #[.int .i64 1, .string ⟨#[47, 97]⟩, .string ⟨#[]⟩, .int .i64 0, .int .i64 0, .bool false] TO_)).heap.size = w1.heap.size + 1 from by simp] at r1
 have K1 := Lib.hid ((H1.out.later (f0.then f1)).and (Kp.and (Kp.row r0) (Kp.row r1)))
 clear hl1 hf1 ht f0 f1 r0 r1
 go_upto_region 4 with (fail)
 generalize ((w1.alloc (.cells #[.int .i64 1, .string ⟨#[47, 97]⟩, .string ⟨#[]⟩, .int .i64 0, .int .i64 0, .bool false] TO_)).alloc (.cells #[.int .i64 1, .string ⟨#[47, 97, 47, 98]⟩, .string ⟨#[]⟩, .int .i64 0, .int .i64 0, .bool false] TO_)) = W1 at *
 generalize w1.heap.size = ba at *
 obtain ⟨bb, hbb⟩ : ∃ q, ba + 1 = q := ⟨_, rfl⟩
 rw [hbb] at K1 ⊢
 clear hbb H1
 obtain ⟨a0, a1, a2, a3, a4, a5⟩ := box6h K1.out.now.2.1
 obtain ⟨b0, b1, b2, b3, b4, b5⟩ := box6h K1.out.now.2.2
 go_wp2_with fail
 refine (hm1 _ W1 K1.out.now.1.1 K1.out.now.1.2.2).mono ?_
 rintro e w2 ⟨⟨x0, x1, x2, x3, rfl⟩, hf⟩
 have K2 := Lib.hid (K1.out.later hf)
 have f0 := fp_alloc w2 (.cells #[.int .i64 0, .int .i64 0, .slice x2 2 x3] TDN)
 have r0 := heap_alloc_new w2 (.cells #[.int .i64 0, .int .i64 0, .slice x2 2 x3] TDN)
 have K3 := Lib.hid ((K2.out.later f0).and (Kp.row r0))
 clear hf K1 K2 f0 r0 a0 a1 a2 a3 a4 a5 b0 b1 b2 b3 b4 b5
 go_upto_region 5 with (fail)
 generalize (World.alloc w2 _) = W2 at *
 generalize w2.heap.size = bd at *
 obtain ⟨a0, a1, a2, a3, a4, a5⟩ := box6h K3.out.now.1.2.1
 obtain ⟨b0, b1, b2, b3, b4, b5⟩ := box6h K3.out.now.1.2.2
 go_wp2_with fail
 refine (hm2 _ W2 K3.out.now.1.1.1 K3.out.now.1.1.2.2).mono ?_
 rintro e w3 ⟨rfl, hf⟩
 have K4 := Lib.hid (K3.out.later hf)
 have f0 := fp_alloc w3 (.cells #[.int .i64 61, .int .i64 2, .slice none 0 0] TDN)
 have r0 := heap_alloc_new w3 (.cells #[.int .i64 61, .int .i64 2, .slice none 0 0] TDN)
 have K5 := Lib.hid ((K4.out.later f0).and (Kp.row r0))
 clear hf K3 K4 f0 r0 a0 a1 a2 a3 a4 a5 b0 b1 b2 b3 b4 b5
 go_upto_region 6 with (fail)
 generalize (World.alloc w3 _) = W3 at *
 generalize w3.heap.size = be at *
 obtain ⟨a0, a1, a2, a3, a4, a5⟩ := box6h K5.out.now.1.1.2.1
 obtain ⟨b0, b1, b2, b3, b4, b5⟩ := box6h K5.out.now.1.1.2.2
 go_wp2_with fail
 refine (hm3 W3).mono ?_
 rintro e w4 ⟨⟨g, o, c, rfl, hpc, hcl⟩, hf⟩
 have K6 := Lib.hid ((K5.out.later hf).and (Kp.and (fun W f => hpc.non f) (fun W f => f.cell hcl id)))
 clear hf hpc hcl K5 a0 a1 a2 a3 a4 a5 b0 b1 b2 b3 b4 b5
 go_wp2_with fail
 refine (Keep_c _ hd0 w4 K6.out.now.1.1.1.1.1 (by decide)).mono ?_
 rintro e w5 ⟨⟨v5, rfl, hs5⟩, hf⟩
 have K7 := Lib.hid ((K6.out.later hf).and (Kp.sto hs5))
 clear hf hs5 K6
 go_wp2_with fail
 refine (hm4 _ _ w5 K7.out.now.2 K7.out.now.1.2.1 K7.out.now.1.1.1.1.1.2.2).mono ?_
 rintro e w6 ⟨⟨s0, s1, s2, s3, s4, s5, ra, rc, rfl⟩, hf⟩
 have K8 := Lib.hid ((K7.out.later hf).later (fp_alloc w6 (.cells #[.slice s0 s1 s2, .slice s3 s4 s5] TST)))
 clear hf K7
 go_upto_region 8 with (fail)
 generalize (World.alloc w6 _) = W6 at *
 obtain ⟨d0, d1, d2⟩ := box3 K8.out.now.1.1.1.2
 obtain ⟨e0, e1, e2⟩ := box3 K8.out.now.1.1.2
 have hcl := K8.out.now.1.2.2
 rw [show o + 2 * 8 = o + 16 from rfl] at hcl
 go_wp2_with fail
 refine (hm5 _).mono ?_
 rintro e w7 ⟨rfl, hf⟩
 have F9 := Lib.hid (K8.out.now.1.1.1.1.1.2.1.then hf)
 clear hf d0 d1 d2 e0 e1 e2 hcl
 go_wp2
 go_ret
 exact ⟨rfl, F9.out⟩
theorem same_ownM {b0 b1 : Nat} {w : World} {n1 n2 : Value} {ps : List Bs} (h1 : Own b0 w n1 ps) (h2 : Own b1 w n2 ps) :
  Calls Tryz.prog 70 #[n1, n2] w fun e w' => e = .returned (.bool true) ∧ Fp Non w w' := by
 match ps, h1, h2 with
 | [], h1, h2 =>
  obtain ⟨a1, c1, rfl⟩ := h1.shape
  obtain ⟨a2, c2, rfl⟩ := h2.shape
  exact rSame0_c a1 a2 c1 c2 w
 | q :: r, h1, h2 =>
  obtain ⟨g1, c1, rfl, _, l1⟩ := h1.lies
  obtain ⟨g2, c2, rfl, _, l2⟩ := h2.lies
  refine (rSame_c g1 c1 g2 c2 (q :: r) (q :: r) w l1 l2 rfl).mono fun e w' h => ⟨h.1, ?_⟩
  obtain ⟨n, rfl⟩ := h.2
  exact (Fp.refl _ _).drewN n
structure GoM (l : List Opn) (w : World) (k : Nat) (wr : World) : Prop where
 fp : Fp Non w wr
 eq : ∀ j (h : j < l.length), j < k → l[j].path.length ≤ 3000
set_option maxHeartbeats 4000000 in
theorem GreatOps_c (lv : Value) (l : List Opn) (w : World) (hl : Ops w lv l) :
  Calls Tryz.prog 39 #[lv] w fun e w' => ∃ c, e = .returned (.bool c) ∧ (c = false → l.length ≤ 40 ∧ OSp l) ∧ Fp Non w w' := by
 obtain ⟨al, cl, rfl⟩ := hl.shape
 obtain ⟨n, hn⟩ : ∃ n, n = l.length := ⟨_, rfl⟩
 have HN := Lib.hid (And.intro hn hl)
 rw [← hn]
 clear hl
 by_cases h40 : 40 < n
 ·have q1 : (40 < n) = True := eq_true h40
  have q2 : ((40 : Int) < (n : Int)) = True := eq_true (by omega)
  clear hn h40
  go_enter Tryz.func39, Tryz.ntmps39
  go_wp2
  go_ret
  exact ⟨true, rfl, (fun h => by cases h), Fp.refl _ _⟩
 have q1 : (40 < n) = False := eq_false h40
 have q2 : ((40 : Int) < (n : Int)) = False := eq_false (by omega)
 have hnb : n ≤ 40 := by omega
 clear hn h40
 go_enter Tryz.func39, Tryz.ntmps39
 go_wp2_with fail
 go_loopw [3] (fun i wr => ∃ k : Nat, k ≤ n ∧ i = .int .i64 k ∧ Hid (GoM l w k wr)) (fun i _ => n - (RowKit.intOf i).toNat)
 case atStart => exact ⟨0, Nat.zero_le _, rfl, ⟨Fp.refl _ _, fun j _ h => absurd h (Nat.not_lt_zero j)⟩⟩
 obtain ⟨k, hk, rfl, hR⟩ := hrel
 rename_i wr _
 by_cases hlt : k < n
 ·have hkl : k < l.length := by rw [← HN.out.1]; exact hlt
  obtain ⟨g, og, cap', e9, hcell⟩ := (HN.out.2.non hR.out.fp).at (by omega)
  injection e9 with e1 e2 e3
  subst e1 e3
  clear e2
  have hop := hcell k hkl
  have hg := fun W => GreatOp_c l[k] W
  have hnx : ∀ W, Fp Non wr W → l[k].path.length ≤ 3000 → GoM l w (k + 1) W := fun W f h => ⟨hR.out.fp.then f, fun j hj hjk => by
   rcases Nat.lt_or_eq_of_le (show j ≤ k by omega) with e | e
   ·exact hR.out.eq j hj e
   subst e; exact h⟩
  obtain ⟨x, hx⟩ : ∃ x, l[k] = x := ⟨_, rfl⟩
  rw [hx] at hop hg hnx
  obtain ⟨kk, op, od, ov, oo, ot⟩ := x
  have c0 := hop.c0; have c1 := hop.c1; have c2 := hop.c2; have c3 := hop.c3; have c4 := hop.c4; have c5 := hop.c5
  unfold opV strV at hg
  unfold strV at c1 c2
  simp only at c0 c1 c2 c3 c4 c5 hg hnx
  have HG := Lib.hid hg
  have HNX := Lib.hid hnx
  have HL := Lib.hid hlt
  have q3 : ((k : Int) < (n : Int)) = True := eq_true (by omega)
  have q4 : (k < n) = True := eq_true hlt
  clear hcell hop hg hnx hx hlt hkl
  go_wp2_with fail
  refine (HG.out _).mono ?_
  rintro e w5 ⟨c, rfl, hc, hf⟩
  cases c with
  | true =>
   have HF := Lib.hid (hR.out.fp.then hf)
   clear hc hf hR c0 c1 c2 c3 c4 c5
   go_wp2
   go_ret
   exact ⟨true, rfl, (fun h => by cases h), HF.out⟩
  | false => ?_
  have hM := Lib.hid (HNX.out w5 hf (hc rfl).1)
  clear hc hf hR c0 c1 c2 c3 c4 c5
  have hj := HL.out
  go_wp2
  go_roundw
  case rel => exact ⟨k + 1, by have := HL.out; omega, by have := HL.out; go_num, hM⟩
  case measure => have := HL.out; simp [RowKit.intOf]; omega
 have hke : k = n := by omega
 subst hke
 have q3 : ((k : Int) < (k : Int)) = False := eq_false (by omega)
 have HE := Lib.hid (show l.length ≤ 40 ∧ OSp l from ⟨by rw [← HN.out.1]; exact hnb, fun x hx => by
  obtain ⟨j, hj, rfl⟩ := List.getElem_of_mem hx
  have := hR.out.eq j hj (by rw [HN.out.1]; exact hj)
  omega⟩)
 have HF := Lib.hid hR.out.fp
 clear hR hlt hk
 go_wp2
 go_ret
 exact ⟨false, rfl, (fun _ => by have := HE.out; rw [HN.out.1]; exact this), HF.out⟩
structure MyM (l : List Opn) (w : World) (k : Nat) (wr : World) : Prop where
 fp : Fp Non w wr
 eq : ∀ j (h : j < l.length), j < k → may l[j] = true
set_option maxHeartbeats 4000000 in
theorem rMayL_c (lv : Value) (l : List Opn) (w : World) (hl : Ops w lv l) (hs : OSp l) (hln : l.length ≤ 1000000) :
  Calls Tryz.prog 43 #[lv] w fun e w' => e = .returned (.bool (mayL l)) ∧ Fp Non w w' := by
 obtain ⟨al, cl, rfl⟩ := hl.shape
 obtain ⟨n, hn⟩ : ∃ n, n = l.length := ⟨_, rfl⟩
 have HN := Lib.hid (And.intro hn (And.intro hl hs))
 have hnb : n ≤ 1000000 := by omega
 rw [← hn]
 clear hl hs hln hn
 go_enter Tryz.func43, Tryz.ntmps43
 go_wp2_with fail
 go_loopw [3] (fun i wr => ∃ k : Nat, k ≤ n ∧ i = .int .i64 k ∧ Hid (MyM l w k wr)) (fun i _ => n - (RowKit.intOf i).toNat)
 case atStart => exact ⟨0, Nat.zero_le _, rfl, ⟨Fp.refl _ _, fun j _ h => absurd h (Nat.not_lt_zero j)⟩⟩
 obtain ⟨k, hk, rfl, hR⟩ := hrel
 rename_i wr _
 by_cases hlt : k < n
 ·have hkl : k < l.length := by rw [← HN.out.1]; exact hlt
  obtain ⟨g, og, cap', e9, hcell⟩ := (HN.out.2.1.non hR.out.fp).at (by omega)
  injection e9 with e1 e2 e3
  subst e1 e3
  clear e2
  have hop := hcell k hkl
  have hg := fun W => rMay_c l[k] W (HN.out.2.2 _ (List.getElem_mem hkl))
  have hnx : ∀ W, Fp Non wr W → may l[k] = true → MyM l w (k + 1) W := fun W f h => ⟨hR.out.fp.then f, fun j hj hjk => by
   rcases Nat.lt_or_eq_of_le (show j ≤ k by omega) with e | e
   ·exact hR.out.eq j hj e
   subst e; exact h⟩
  have hno : may l[k] = false → mayL l = false := fun h => by
   cases hm : mayL l with
   | false => rfl
   | true => rw [((mayL_iff l).1 hm).2 _ (List.getElem_mem hkl)] at h; cases h
  obtain ⟨x, hx⟩ : ∃ x, l[k] = x := ⟨_, rfl⟩
  rw [hx] at hop hg hnx hno
  obtain ⟨b, hb⟩ : ∃ b, may x = b := ⟨_, rfl⟩
  rw [hb] at hg hnx hno
  obtain ⟨kk, op, od, ov, oo, ot⟩ := x
  have c0 := hop.c0; have c1 := hop.c1; have c2 := hop.c2; have c3 := hop.c3; have c4 := hop.c4; have c5 := hop.c5
  unfold opV strV at hg
  unfold strV at c1 c2
  simp only at c0 c1 c2 c3 c4 c5 hg
  have HG := Lib.hid hg
  have HNX := Lib.hid (And.intro hnx hno)
  have HL := Lib.hid hlt
  have q3 : ((k : Int) < (n : Int)) = True := eq_true (by omega)
  have q4 : (k < n) = True := eq_true hlt
  clear hcell hop hg hnx hno hx hb hlt hkl
  go_wp2_with fail
  refine (HG.out _).mono ?_
  rintro e w5 ⟨rfl, hf⟩
  cases b with
  | false =>
   have HF := Lib.hid (And.intro (hR.out.fp.then hf) (HNX.out.2 rfl))
   clear hf hR c0 c1 c2 c3 c4 c5
   go_wp2
   go_ret
   exact ⟨by rw [HF.out.2]; rfl, HF.out.1⟩
  | true => ?_
  have hM := Lib.hid (HNX.out.1 w5 hf rfl)
  clear hf hR c0 c1 c2 c3 c4 c5
  have hj := HL.out
  go_wp2
  go_roundw
  case rel => exact ⟨k + 1, by have := HL.out; omega, by have := HL.out; go_num, hM⟩
  case measure => have := HL.out; simp [RowKit.intOf]; omega
 have hke : k = n := by omega
 subst hke
 have q3 : ((k : Int) < (k : Int)) = False := eq_false (by omega)
 have hall : ∀ o ∈ l, may o = true := fun x hx => by
  obtain ⟨j, hj, rfl⟩ := List.getElem_of_mem hx
  exact hR.out.eq j hj (by rw [HN.out.1]; exact hj)
 have HE := Lib.hid (show mayL l = (decide (1 ≤ k) && decide (k ≤ 8)) from by
  unfold mayL
  rw [List.all_eq_true.2 hall, Bool.and_true, ← HN.out.1]
  simp)
 have HF := Lib.hid hR.out.fp
 clear hR hlt hk hall
 by_cases h1 : 1 ≤ k
 ·have q5 : (1 ≤ k) = True := eq_true h1
  have q6 : ((1 : Int) ≤ (k : Int)) = True := eq_true (by omega)
  by_cases h8 : k ≤ 8
  ·have q7 : (k ≤ 8) = True := eq_true h8
   have q8 : ((k : Int) ≤ 8) = True := eq_true (by omega)
   go_wp2
   go_ret
   exact ⟨by rw [HE.out]; simp [h1, h8], HF.out⟩
  have q7 : (k ≤ 8) = False := eq_false h8
  have q8 : ((k : Int) ≤ 8) = False := eq_false (by omega)
  go_wp2
  go_ret
  exact ⟨by rw [HE.out]; simp [h8], HF.out⟩
 have q5 : (1 ≤ k) = False := eq_false h1
 have q6 : ((1 : Int) ≤ (k : Int)) = False := eq_false (by omega)
 go_wp2
 go_ret
 exact ⟨by rw [HE.out]; simp [h1], HF.out⟩
theorem Kp.ownM {b : Nat} {W : World} {v : Value} {ps : List Bs} (h : Own b W v ps) : Kp (fun W' => Own b W' v ps) W := fun W' f => h.grown' f
theorem Kp.rrs {W : World} {v : Value} {rs : List Res} (h : Rrs W v rs) : Kp (fun W' => Rrs W' v rs) W := fun W' f => h.non f
structure ReAt (w : World) (g o : Nat) (r : Res) (na : Option Addr) (nc : Nat) : Prop where
 c0 : w.cell? ⟨g, o, none⟩ = some (.int .i64 r.err)
 c1 : w.cell? ⟨g, o + 1, none⟩ = some (.string (B r.path))
 c2 : w.cell? ⟨g, o + 2, none⟩ = some (.string (B r.data))
 c3 : w.cell? ⟨g, o + 3, none⟩ = some (.int .i64 r.ver)
 c4 : w.cell? ⟨g, o + 4, none⟩ = some (.slice na r.names.length nc)
 own : ∃ lo, Own lo w (.slice na r.names.length nc) r.names
theorem ReAt.non {w w' : World} {g o : Nat} {r : Res} {na : Option Addr} {nc : Nat} (h : ReAt w g o r na nc) (f : Fp Non w w') : ReAt w' g o r na nc :=
 ⟨f.cell h.c0 id, f.cell h.c1 id, f.cell h.c2 id, f.cell h.c3 id, f.cell h.c4 id, by obtain ⟨lo, h⟩ := h.own; exact ⟨lo, h.grown' f⟩⟩
theorem Rrs.at {w : World} {v : Value} {rs : List Res} (h : Rrs w v rs) (h0 : 0 < rs.length) : ∃ g o c, v = .slice (some ⟨g, o, none⟩) rs.length c ∧ ∀ i (hi : i < rs.length), ∃ na nc, ReAt w g (o + i * 5) rs[i] na nc := by
 obtain ⟨L, h1, h2, h3⟩ := h.ex
 have hl : L.length = rs.length := by rw [← h1, List.length_map]
 obtain ⟨g, o, c, e, hc⟩ := h2.at (by omega)
 refine ⟨g, o, c, by rw [← hl]; exact e, fun i hi => ?_⟩
 have hi' : i < L.length := by omega
 have hr : rs[i] = L[i].r := by
  have : rs[i]? = (L.map Rw.r)[i]? := by rw [h1]
  rw [List.getElem?_eq_getElem hi, List.getElem?_map, List.getElem?_eq_getElem hi'] at this
  exact Option.some.inj this
 have k := hc i hi'
 rw [hr]
 exact ⟨L[i].na, L[i].nc, by have := k.get 0 _ rfl; rwa [Nat.add_zero] at this, k.get 1 _ rfl, k.get 2 _ rfl, k.get 3 _ rfl, k.get 4 _ rfl, h3 _ (List.getElem_mem hi')⟩
theorem apply_same {l x : List Nd} {o : Opn} {r : Res} (hT : Tr l) (hm : may o = true) (h : apply l o = (x, r)) : (r.err ≠ 0 → x = l ∧ r.err ≠ 1) ∧ Tr x := by
 rw [apply_yes hT hm] at h
 have h1 := perform_err hT hm
 have h2 := perform_tr hT hm
 rw [h] at h1 h2
 exact ⟨fun h0 => ⟨(h1.2 h0).1, h1.1⟩, h2⟩
theorem mAp1 (v : Value) (l : List Nd) (ak : Int) (ap ad : Bs) (av ao : Int) (at_ : Bool) (w : World) (hv : Ns w v l) (hs : Sp l) (hp : ap.length ≤ 1000000) (ht : Tab w) :
  Calls Tryz.prog 40 #[v, .slice (some ⟨w.heap.size, 0, none⟩) 1 1] (w.alloc (.cells #[.int .i64 ak, .string (B ap), .string (B ad), .int .i64 av, .int .i64 ao, .bool at_] TO_)) fun e w' => (∃ W, MApR l v [⟨ak, ap, ad, av, ao, at_⟩] W e w') ∧ Fp Non w w' := by
 have hf := fp_alloc w (.cells (rowsG opC [⟨ak, ap, ad, av, ao, at_⟩]).toArray TO_)
 exact (mApply_c v (.slice (some ⟨w.heap.size, 0, none⟩) 1 1) l [⟨ak, ap, ad, av, ao, at_⟩] (w.alloc (.cells (rowsG opC [⟨ak, ap, ad, av, ao, at_⟩]).toArray TO_)) (hv.non hf) hs (Ops.made w _) (fun x hx => by rw [List.mem_singleton.1 hx]; exact hp) (by simp) (ht.non hf)).mono fun e w' h => ⟨⟨_, h⟩, hf.then h.fp⟩
theorem mAp2 (v : Value) (l : List Nd) (ak : Int) (ap ad : Bs) (av ao : Int) (at_ : Bool) (bk : Int) (bp bd : Bs) (bv bo : Int) (bt : Bool) (w : World) (hv : Ns w v l) (hs : Sp l) (hp : ap.length ≤ 1000000) (hq : bp.length ≤ 1000000) (ht : Tab w) :
  Calls Tryz.prog 40 #[v, .slice (some ⟨w.heap.size, 0, none⟩) 2 2] (w.alloc (.cells #[.int .i64 ak, .string (B ap), .string (B ad), .int .i64 av, .int .i64 ao, .bool at_, .int .i64 bk, .string (B bp), .string (B bd), .int .i64 bv, .int .i64 bo, .bool bt] TO_)) fun e w' => (∃ W, MApR l v [⟨ak, ap, ad, av, ao, at_⟩, ⟨bk, bp, bd, bv, bo, bt⟩] W e w') ∧ Fp Non w w' := by
 have hf := fp_alloc w (.cells (rowsG opC [⟨ak, ap, ad, av, ao, at_⟩, ⟨bk, bp, bd, bv, bo, bt⟩]).toArray TO_)
 have ho : OSp [⟨ak, ap, ad, av, ao, at_⟩, ⟨bk, bp, bd, bv, bo, bt⟩] := fun x hx => by
  rcases List.mem_cons.1 hx with e | e
  ·rw [e]; exact hp
  rw [List.mem_singleton.1 e]; exact hq
 exact (mApply_c v (.slice (some ⟨w.heap.size, 0, none⟩) 2 2) l [⟨ak, ap, ad, av, ao, at_⟩, ⟨bk, bp, bd, bv, bo, bt⟩] (w.alloc (.cells (rowsG opC [⟨ak, ap, ad, av, ao, at_⟩, ⟨bk, bp, bd, bv, bo, bt⟩]).toArray TO_)) (hv.non hf) hs (Ops.made w _) ho (by simp) (ht.non hf)).mono fun e w' h => ⟨⟨_, h⟩, hf.then h.fp⟩
open Go.ChangeShapes Go.WideShapes Go.ChangeAt Go.RowKit Pm Go.Deep
open Go.WideMaps Go.WideElems
open Go.ChangeMaps (setBlock shut_map_nil open_string shut_string)
section
variable {H : Type} {enc : TypeId × Value → H} {W : World}
end
end Go.Proofs.YtphoglepiegeiaaGreatDoor
