/- Slices of slices of bytes; Records; Same. -/
import Derived.Test.YtankfmlafmjaeaaGreatOd
import Derived.Laws.IdiomStrings
namespace Go.Proofs.YtankfmlafmjaeaaGreat
set_option maxRecDepth 20000
open Go.RowKit Pm

/-- A slice of slices of bytes that reads as ls; it and its elements lie in blocks of D. -/
structure Bv (D : Nat → Prop) (w : World) (v : Value) (ls : List Bs) : Prop where
  ex : ∃ ao cap, v = .slice ao ls.length cap ∧ (0 < ls.length → ∃ g o, ao = some ⟨g, o, none⟩ ∧ D g ∧ ∀ k (h : k < ls.length), ∃ x, w.cell? ⟨g, o + k, none⟩ = some x ∧ Se w x ls[k] ∧ (0 < ls[k].length → ∀ j, x.ownBlock = some j → D j))
theorem Bv.keep {D S : Nat → Prop} {a b : World} {v : Value} {ls : List Bs} (h : Bv D a v ls) (f : Fp S a b) (hS : ∀ k, D k → ¬ S k) : Bv D b v ls := by
  obtain ⟨ao, cap, e, hc⟩ := h.ex
  refine ⟨ao, cap, e, fun h0 => ?_⟩
  obtain ⟨g, o, e2, hg, hcell⟩ := hc h0
  refine ⟨g, o, e2, hg, fun k hk => ?_⟩
  obtain ⟨x, hx, hs, hj⟩ := hcell k hk
  exact ⟨x, f.cell hx (hS g hg), hs.keep f (fun h0 j hj' => hS j (hj h0 j hj')), hj⟩
theorem Bv.shape {D : Nat → Prop} {w : World} {v : Value} {ls : List Bs} (h : Bv D w v ls) : ∃ ao cap, v = .slice ao ls.length cap := by
  obtain ⟨ao, cap, e, _⟩ := h.ex; exact ⟨ao, cap, e⟩

/-- The same, in a row of the call's own; D: where the elements lie. -/
structure Bo (lo : Nat) (D : Nat → Prop) (w : World) (v : Value) (ls : List Bs) : Prop where
  ex : ∃ xs : List Value, w.ownsRow lo 22 1 v ls.length xs ∧ xs.length = ls.length ∧ ∀ k (h : k < ls.length), ∃ x, xs[k]? = some x ∧ Se w x ls[k] ∧ (0 < ls[k].length → ∀ j, x.ownBlock = some j → D j ∧ v.ownBlock ≠ some j)
theorem Bo.nil (lo : Nat) (D : Nat → Prop) (w : World) : Bo lo D w (.slice none 0 0) [] := ⟨[], World.ownsRow_nil _ _ _ _, rfl, fun k h => by simp at h⟩
theorem Bo.shape {lo : Nat} {D : Nat → Prop} {w : World} {v : Value} {ls : List Bs} (h : Bo lo D w v ls) : ∃ ao cap, v = .slice ao ls.length cap := by
  obtain ⟨xs, h1, h2, _⟩ := h.ex
  rcases h1.2 with ⟨hv, h0⟩ | ⟨g, cap, cur, hv, _⟩
  · exact ⟨none, 0, by rw [hv, h0]⟩
  · exact ⟨_, _, hv⟩
theorem Bo.block {lo : Nat} {D : Nat → Prop} {w : World} {v : Value} {ls : List Bs} (h : Bo lo D w v ls) : ∀ k, v.ownBlock = some k → lo ≤ k ∧ k < w.heap.size := by
  obtain ⟨xs, h1, h2, _⟩ := h.ex
  rcases h1.2 with ⟨rfl, _⟩ | ⟨g, cap, cur, rfl, hb, hgg, _⟩
  · intro k hk; cases hk
  · intro k hk; simp [Value.ownBlock] at hk; have := (Array.getElem?_eq_some_iff.1 hgg).1; omega
theorem Bo.keep {lo : Nat} {D S : Nat → Prop} {a b : World} {v : Value} {ls : List Bs} (h : Bo lo D a v ls) (f : Fp S a b) (hv : ∀ k, v.ownBlock = some k → ¬ S k) (hD : ∀ k, D k → ¬ S k) : Bo lo D b v ls := by
  obtain ⟨xs, h1, h2, h3⟩ := h.ex
  refine ⟨xs, f.owns h1 hv, h2, fun k hk => ?_⟩
  obtain ⟨x, hx, hs, hj⟩ := h3 k hk
  exact ⟨x, hx, hs.keep f (fun h0 j hj' => hD j (hj h0 j hj').1), hj⟩
theorem Bo.view {lo : Nat} {D E : Nat → Prop} {w : World} {v : Value} {ls : List Bs} (h : Bo lo D w v ls) (hD : ∀ k, D k → E k) (hv : ∀ k, v.ownBlock = some k → E k) : Bv E w v ls := by
  obtain ⟨xs, h1, h2, h3⟩ := h.ex
  have hc := fun g hg => World.ownsRow.cells h1 (g := g) hg
  rcases h1.2 with ⟨rfl, h0⟩ | ⟨g, cap, cur, rfl, hb, hgg, _⟩
  · exact ⟨none, 0, by rw [h0], fun hp => by omega⟩
  · refine ⟨_, cap, rfl, fun hp => ⟨g, 0, rfl, hv g rfl, fun k hk => ?_⟩⟩
    obtain ⟨x, hx, hs, hj⟩ := h3 k hk
    have := hc g rfl k x hx
    rw [Addr.add_lit] at this
    exact ⟨x, this, hs, fun h0 j hj' => hD j (hj h0 j hj').1⟩

theorem Tryz.infoBs : (Tryz.prog.info? 22).map (fun i => (i.zero, i.size, i.bytes)) = some (some (.slice none 0 0), 1, 24) := by kernel_rfl
structure AppB (lo : Nat) (D : Nat → Prop) (w : World) (v : Value) (ls : List Bs) (v' : Value) (w' : World) : Prop where
  bo : Bo lo D w' v' ls
  gr : ∃ m, w.grownBy m none ∧ m.grownBy w' v.ownBlock
  at' : v'.ownBlock = v.ownBlock ∨ ∀ k, v'.ownBlock = some k → w.heap.size ≤ k
theorem AppB.fp {lo : Nat} {D : Nat → Prop} {w : World} {v : Value} {ls : List Bs} {v' : Value} {w' : World} (h : AppB lo D w v ls v' w') {S : Nat → Prop} {w0 : World} (f : Fp S w0 w) (hS : ∀ k, v.ownBlock = some k → S k ∨ w0.heap.size ≤ k) : Fp S w0 w' := by
  obtain ⟨m, h1, h2⟩ := h.gr
  exact (f.grown h1 (fun k hk => by cases hk)).grown h2 hS
/-- One slice more. -/
theorem app_bs (w : World) (lo : Nat) (D : Nat → Prop) (v : Value) (ls : List Bs) (x : Value) (s : Bs) (ty : TypeId) (ho : Bo lo D w v ls) (hx : Se w x s) (hxD : 0 < s.length → ∀ j, x.ownBlock = some j → D j ∧ v.ownBlock ≠ some j) (hn : ls.length ≤ 1000000) (hlo : lo ≤ w.heap.size) (hD : ∀ k, D k → k < w.heap.size) :
    ∃ v' w', (Builtin.append_ #[47, 47] ty #[v, .slice (some ⟨w.heap.size, 0, none⟩) 1 1]).run Tryz.prog (w.alloc (.cells #[x] 22)) = .ok v' w' ∧ AppB lo D w v (ls ++ [s]) v' w' := by
  obtain ⟨i, hi, hz, hsz, hby⟩ := info_parts Tryz.infoBs
  have hf : Fp Non w (w.alloc (.cells #[x] 22)) := (Fp.refl Non w).alloc _
  have hc0 : (w.alloc (.cells #[x] 22)).cell? ⟨w.heap.size, 0, none⟩ = some x := by
    rw [cell_of_row _ _ _ _ _ _ (heap_alloc_new w _)]; rfl
  obtain ⟨xs, h1, h2, h3⟩ := ho.ex
  obtain ⟨xao, xcap, hxv⟩ := hx.shape
  obtain ⟨v', w', hr, h4, h5, _, h6⟩ := run_append_own_at (P := Tryz.prog) (w.alloc (.cells #[x] 22)) lo 47 ty 22 i (.slice none 0 0) 1 24 Tryz.underlying47 hi hz hsz hby rfl (by decide) v ls.length xs (hf.owns h1 (fun _ _ h => h))
    ⟨w.heap.size, 0, none⟩ 1 1 [x] rfl
    (fun j u hu => by
      have hj : j = 0 := by have := (List.getElem?_eq_some_iff.1 hu).1; simp at this; omega
      subst hj
      rw [Addr.add_lit]; simp only [Nat.add_zero]; rw [hc0]; simpa using hu)
    (by intro u hu; simp at hu; rw [hu, hxv]; rfl) (by unfold maxLen; omega) (by omega) (Nat.le_trans hlo hf.size)
  have hsz2 := hf.size
  have hfg : Fp (fun k => v.ownBlock = some k) w w' := (hf.any (S := fun k => v.ownBlock = some k)).grown h5 (fun k hk => .inl hk)
  have hat : v'.ownBlock = v.ownBlock ∨ ∀ k, v'.ownBlock = some k → w.heap.size ≤ k := by
    rcases h6 with h6 | h6
    · exact .inl h6
    · refine .inr (fun k hk => ?_)
      rw [h6] at hk; injection hk with hk; omega
  have hne : ∀ j, D j → v.ownBlock ≠ some j → v'.ownBlock ≠ some j := fun j hj hv => by
    rcases hat with h | h
    · rw [h]; exact hv
    · intro e; have := h j e; have := hD j hj; omega
  refine ⟨v', w', hr, ⟨xs ++ [x], by rw [List.length_append]; exact h4, by simp [h2], fun k hk => ?_⟩, ⟨_, World.grownBy_alloc w _ none, h5⟩, hat⟩
  by_cases hkl : k < ls.length
  · obtain ⟨y, hy, hs, hj⟩ := h3 k hkl
    have e0 : (ls ++ [s])[k] = ls[k] := List.getElem_append_left hkl
    refine ⟨y, by rw [List.getElem?_append_left (by omega)]; exact hy, ?_, fun h0 j hj' => ?_⟩
    · rw [e0]; exact hs.keep hfg (fun h0 j hj' e => (hj h0 j hj').2 e)
    · rw [e0] at h0; exact ⟨(hj h0 j hj').1, hne j (hj h0 j hj').1 (hj h0 j hj').2⟩
  · have hke : k = ls.length := by simp at hk; omega
    subst hke
    have e0 : (ls ++ [s])[ls.length] = s := by simp
    refine ⟨x, by rw [List.getElem?_append_right (by omega), h2]; simp, ?_, fun h0 j hj' => ?_⟩
    · rw [e0]; exact hx.keep hfg (fun h0 j hj' e => (hxD h0 j hj').2 e)
    · rw [e0] at h0; exact ⟨(hxD h0 j hj').1, hne j (hxD h0 j hj').1 (hxD h0 j hj').2⟩

/-- A string as bytes, new. -/
structure CvR (w : World) (s : Bs) (v : Value) (w' : World) : Prop where
  fp : Fp Non w w'
  sl : Sl w' v s
  at' : ∀ j, v.ownBlock = some j → w.heap.size ≤ j ∧ j < w'.heap.size
theorem conv_str (w : World) (s : Bs) (hs : s.length ≤ 1000000) : ∃ v w', (convert 9 22 (.string (B s))).run Tryz.prog w = .ok v w' ∧ CvR w s v w' := by
  have h := run_bytes_of_string (P := Tryz.prog) w 9 22 5 (B s) Tryz.underlying9 Tryz.underlying22 Tryz.underlying5
  have hsz : (B s).size = s.length := B_size s
  have hge := grownCap_ge w (B s).size 0 5
  have hle := grownCap_le_maxLen w (B s).size 0 5 (by rw [hsz]; unfold maxLen; omega)
  generalize grownCap w (B s).size 0 5 = cap at *
  have hsz1 : (w.drew.alloc (.cells (bytesRow (B s) cap) 5 ((bytesRow (B s) cap).size, (bytesRow (B s) cap).size + 1))).heap.size = w.heap.size + 1 := by simp
  have hf : Fp Non w (w.drew.alloc (.cells (bytesRow (B s) cap) 5 ((bytesRow (B s) cap).size, (bytesRow (B s) cap).size + 1))) := ((Fp.refl Non w).drew).alloc _
  refine ⟨_, _, h, hf, ?_, fun j hj => by simp [Value.ownBlock] at hj; omega⟩
  rw [hsz] at hge ⊢
  refine ⟨_, cap, rfl, hge, hle, .inr ⟨w.heap.size, 0, rfl, by omega, fun j hj => ?_⟩⟩
  have hb : (w.drew.alloc (.cells (bytesRow (B s) cap) 5 ((bytesRow (B s) cap).size, (bytesRow (B s) cap).size + 1))).heap[w.heap.size]? = some (.cells (bytesRow (B s) cap) 5 ((bytesRow (B s) cap).size, (bytesRow (B s) cap).size + 1)) := heap_alloc_new w.drew _
  rw [Nat.zero_add, cell_of_row _ _ _ _ _ _ hb]
  have := bytesRow_at (B s) cap j (by show j < s.toArray.size; simpa using hj)
  rw [this]
  simp [B]

structure RcM (w wr : World) (rs : List Bs) (k : Nat) (av : Value) : Prop where
  fp : Fp Non w wr
  bo : Bo w.heap.size (fun j => w.heap.size ≤ j ∧ j < wr.heap.size) wr av (rs.take k)
theorem Bo.wide {lo : Nat} {D E : Nat → Prop} {w : World} {v : Value} {ls : List Bs} (h : Bo lo D w v ls) (hD : ∀ k, D k → E k) : Bo lo E w v ls := by
  obtain ⟨xs, h1, h2, h3⟩ := h.ex
  refine ⟨xs, h1, h2, fun k hk => ?_⟩
  obtain ⟨x, hx, hs, hj⟩ := h3 k hk
  exact ⟨x, hx, hs, fun h0 j hj' => ⟨hD j (hj h0 j hj').1, (hj h0 j hj').2⟩⟩

set_option maxHeartbeats 2000000 in
theorem Records_c {lo q b : Nat} {l : Lg} {v : Value} {w : World} (hl : Lr lo q b l v w) (hu : usd l.rs ≤ 100000) :
    Calls Tryz.prog 20 #[.pointer (some ⟨q, 0, none⟩)] w fun e w' => ∃ u, e = .returned u ∧ Fp Non w w' ∧ Bo w.heap.size (fun j => w.heap.size ≤ j ∧ j < w'.heap.size) w' u l.rs := by
  have c2 := hl.c2
  obtain ⟨ao, cap, hv, hc⟩ := hl.os.cell
  rw [hv] at c2
  have hge := usd_ge l.rs
  have hll : l.rs.length ≤ 100000 := by omega
  have hsmall : ∀ k (h : k < l.rs.length), l.rs[k].length ≤ 100000 := fun k h => by
    have h1 := usd_mem (List.getElem_mem h)
    have h2 := (up_le (l.rs[k]).length).1
    unfold ln at h1; omega
  have H0 : Hid (RcM w w l.rs 0 (.slice none 0 0)) := ⟨Fp.refl _ _, by rw [List.take_zero]; exact Bo.nil _ _ _⟩
  have HX := Lib.hid (And.intro hl (And.intro hge hsmall))
  have HC := Lib.hid hc
  clear hl hge hsmall hc
  go_enter Tryz.func20, Tryz.ntmps20
  go_wp2_with fail
  go_loopw [3, 11] (fun av i wr => ∃ k : Nat, k ≤ l.rs.length ∧ i = .int .i64 k ∧ Hid (RcM w wr l.rs k av)) (fun _ i _ => l.rs.length - (RowKit.intOf i).toNat)
  case atStart => exact ⟨0, Nat.zero_le _, rfl, H0⟩
  case round =>
    obtain ⟨k, hk, rfl, hR⟩ := hrel
    rename_i wr _
    by_cases hlt : k < l.rs.length
    · obtain ⟨g, rfl, hcell⟩ := HC.out (by omega)
      have hck : wr.cell? ⟨g, k, none⟩ = some (.string (B l.rs[k])) := hR.out.fp.cell (hcell k hlt) (fun h => h)
      obtain ⟨cv, w2, k1, hcv⟩ := conv_str wr l.rs[k] (by have := HX.out.2.2 k hlt; omega)
      obtain ⟨sao, scap, rfl, _, _, _⟩ := hcv.sl.ex
      have hbo := hR.out.bo.keep hcv.fp (fun _ _ h => h) (fun _ _ h => h)
      have hbo2 := hbo.wide (E := fun j => w.heap.size ≤ j ∧ j < w2.heap.size) (fun j hj => ⟨hj.1, Nat.lt_of_lt_of_le hj.2 hcv.fp.size⟩)
      have hbk := hR.out.bo.block
      have hap := app_bs w2 w.heap.size _ _ _ _ _ 47 hbo2 hcv.sl.se (fun _ j hj => ⟨⟨Nat.le_trans hR.out.fp.size (hcv.at' j hj).1, (hcv.at' j hj).2⟩, fun e => by have h1 := (hbk j e).2; have h2 := (hcv.at' j hj).1; omega⟩) (by rw [List.length_take]; omega) (Nat.le_trans hR.out.fp.size hcv.fp.size) (fun j hj => hj.2)
      obtain ⟨aao, acap, hav⟩ := hR.out.bo.shape
      have hlen : (l.rs.take k).length = k := by rw [List.length_take]; omega
      rw [hlen] at hav
      have htk : l.rs.take k ++ [l.rs[k]] = l.rs.take (k + 1) := (List.take_succ_eq_append_getElem hlt).symm
      rw [htk] at hap
      have HF2 := Lib.hid (hR.out.fp.then hcv.fp)
      have HBK := Lib.hid hbk
      subst hav
      generalize hrk : l.rs[k] = r at *
      have HAP := Lib.hid hap
      have HL2 := Lib.hid (And.intro hlen (And.intro htk (And.intro hrk hcv)))
      clear hcell hcv hbo hbo2 hbk hap hlen htk hrk
      go_wp2_with (at_builtin; go_must (refine wpList_app rfl _ _ _ _ rfl _ _ rfl rfl _ HAP.out ?_))
      intro v' w3 hR3
      have hM : Hid (RcM w w3 l.rs (k + 1) v') := by
        have hf3 : Fp Non w w3 := hR3.fp HF2.out (fun j hj => .inr (HBK.out j hj).1)
        have hf23 : w2.heap.size ≤ w3.heap.size := (hR3.fp (S := fun _ => True) (Fp.refl _ w2) (fun _ _ => .inl trivial)).size
        exact ⟨hf3, hR3.bo.wide (fun j hj => ⟨hj.1, Nat.lt_of_lt_of_le hj.2 hf23⟩)⟩
      obtain ⟨vao, vcap, rfl⟩ := hR3.bo.shape
      clear hR3
      go_wp2
      go_roundw
      case rel => exact ⟨k + 1, by omega, by go_num, by simpa using hM⟩
      case measure => simp [RowKit.intOf]; omega
    · have hke : k = l.rs.length := by omega
      subst hke
      obtain ⟨aao, acap, rfl⟩ := hR.out.bo.shape
      have hfin := hR.out.bo
      rw [List.take_length] at hfin
      have HB := Lib.hid hfin
      clear hfin hk hlt
      rw [List.take_length] at *
      go_wp2
      go_ret
      exact ⟨_, rfl, hR.out.fp, HB.out⟩
end Go.Proofs.YtankfmlafmjaeaaGreat
