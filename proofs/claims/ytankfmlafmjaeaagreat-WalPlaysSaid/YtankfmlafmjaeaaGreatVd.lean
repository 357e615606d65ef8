/- The document's log in memory; used, Room. -/
import Derived.Test.YtankfmlafmjaeaaGreatVb
namespace Go.Proofs.YtankfmlafmjaeaaGreat
open Go.RowKit Pm

abbrev TLR : TypeId := 50

/-- The document's log: its struct in block q, its disk at p, its records' bytes in D. -/
structure Du (lo q : Nat) (p : At) (v : Value) (D : Nat → Prop) (s : Dk) (l : Lg) (w : World) : Prop where
  d : Rf lo p s w
  low : lo ≤ q
  blk : w.heap[q]? = some (.cells #[.pointer (some ⟨p.b, 0, none⟩), .int .i64 (l.ar : Int), v] TLR (0, 0))
  bo : Bo lo D w v l.rs
  dn : ∀ k, D k → lo ≤ k ∧ k < w.heap.size ∧ k ≠ q ∧ ¬ own4 p k
  vn : ∀ k, v.ownBlock = some k → k ≠ q ∧ ¬ own4 p k
  qn : ¬ own4 p q
/-- All that it lies in. -/
def ownD (q : Nat) (p : At) (v : Value) (D : Nat → Prop) : Nat → Prop := fun k => own4 p k ∨ k = q ∨ v.ownBlock = some k ∨ D k

section
variable {lo q : Nat} {p p' : At} {v : Value} {D : Nat → Prop} {s s' : Dk} {l : Lg} {w w' : World}
theorem Du.lt (h : Du lo q p v D s l w) : q < w.heap.size := (Array.getElem?_eq_some_iff.1 h.blk).1
theorem Du.all (h : Du lo q p v D s l w) : ∀ k, ownD q p v D k → lo ≤ k ∧ k < w.heap.size := by
  rintro k (hk | rfl | hk | hk)
  · exact h.d.all k hk
  · exact ⟨h.low, h.lt⟩
  · exact h.bo.block k hk
  · exact ⟨(h.dn k hk).1, (h.dn k hk).2.1⟩
theorem Du.c0 (h : Du lo q p v D s l w) : w.cell? ⟨q, 0, none⟩ = some (.pointer (some ⟨p.b, 0, none⟩)) := by simp [World.cell?, h.blk]
theorem Du.c1 (h : Du lo q p v D s l w) : w.cell? ⟨q, 1, none⟩ = some (.int .i64 (l.ar : Int)) := by simp [World.cell?, h.blk]
theorem Du.c2 (h : Du lo q p v D s l w) : w.cell? ⟨q, 2, none⟩ = some v := by simp [World.cell?, h.blk]
theorem Du.fz (h : Du lo q p v D s l w) (j : Nat) : w.frozen? ⟨q, j, none⟩ = false := by have := h.blk; simp [World.frozen?, this]
theorem Du.keep (h : Du lo q p v D s l w) {S : Nat → Prop} (f : Fp S w w') (hS : ∀ k, ownD q p v D k → ¬ S k) : Du lo q p v D s l w' :=
  ⟨h.d.keep f (fun k hk => hS k (.inl hk)), h.low, f.heap h.blk (hS q (.inr (.inl rfl))), h.bo.keep f (fun k hk => hS k (.inr (.inr (.inl hk)))) (fun k hk => hS k (.inr (.inr (.inr hk)))),
    fun k hk => ⟨(h.dn k hk).1, Nat.lt_of_lt_of_le (h.dn k hk).2.1 f.size, (h.dn k hk).2.2⟩, h.vn, h.qn⟩
theorem Du.non (h : Du lo q p v D s l w) (f : Fp Non w w') : Du lo q p v D s l w' := h.keep f (fun _ _ h => h)
/-- The disk turned. -/
theorem Du.disk (h : Du lo q p v D s l w) (hd : Rf lo p' s' w') (f : Fp (own4 p) w w') (hb : p'.b = p.b) (hp : ∀ k, own4 p' k → own4 p k ∨ w.heap.size ≤ k) : Du lo q p' v D s' l w' ∧ (∀ k, ownD q p' v D k → ownD q p v D k ∨ w.heap.size ≤ k) := by
  have hq : ∀ k, k < w.heap.size → ¬ own4 p k → ¬ own4 p' k := fun k hk hn ho => (hp k ho).elim hn (fun h1 => by omega)
  refine ⟨⟨hd, h.low, ?_, h.bo.keep f (fun k hk => (h.vn k hk).2) (fun k hk => (h.dn k hk).2.2.2), fun k hk => ?_, fun k hk => ⟨(h.vn k hk).1, hq k (h.bo.block k hk).2 (h.vn k hk).2⟩, hq q h.lt h.qn⟩, ?_⟩
  · rw [hb]; exact f.heap h.blk h.qn
  · have := h.dn k hk
    exact ⟨this.1, Nat.lt_of_lt_of_le this.2.1 f.size, this.2.2.1, hq k this.2.1 this.2.2.2⟩
  · rintro k (hk | hk)
    · exact (hp k hk).elim (fun h1 => .inl (.inl h1)) .inr
    · exact .inl (.inr hk)
end

set_option maxHeartbeats 1000000 in
theorem rused_c {D : Nat → Prop} {q : Nat} {v : Value} {rs : List Bs} {w : World} (hc2 : w.cell? ⟨q, 2, none⟩ = some v) (hb : Bv D w v rs) (hu : usd rs ≤ 100000) :
    Calls Tryz.prog 50 #[.pointer (some ⟨q, 0, none⟩)] w fun e w' => e = .returned (.int .i64 (nds rs : Int)) ∧ w' = w := by
  obtain ⟨ao, cap, rfl, hc⟩ := hb.ex
  have hge := usd_ge rs
  have hll : rs.length ≤ 100000 := by omega
  have hun := usd_nds rs
  have HX := Lib.hid (And.intro hb (And.intro hge (And.intro hun hu)))
  have HC := Lib.hid hc
  clear hb hge hun hu hc
  go_enter Tryz.func50, Tryz.ntmps50
  go_wp2_with fail
  go_loopw [3, 4] (fun n i wr => ∃ k : Nat, k ≤ rs.length ∧ i = .int .i64 k ∧ n = .int .i64 (nds (rs.take k) : Int) ∧ wr = w) (fun _ i _ => rs.length - (RowKit.intOf i).toNat)
  case atStart => exact ⟨0, Nat.zero_le _, rfl, rfl, rfl⟩
  case round =>
    obtain ⟨k, hk, rfl, rfl, rfl⟩ := hrel
    by_cases hlt : k < rs.length
    · obtain ⟨g, o, rfl, _, hcell⟩ := HC.out (by omega)
      obtain ⟨x, hck, hse, _⟩ := hcell k hlt
      obtain ⟨xao, xcap, rfl⟩ := hse.shape
      have hst := nds_take rs k hlt
      have hub := nds_le rs (k + 1)
      have hmem := usd_mem (List.getElem_mem hlt)
      have hul := (up_le (rs[k]).length).1
      have hrl : (rs[k]).length ≤ 100000 := by have := HX.out.2.2.2; unfold ln at hmem; omega
      have hle := Need_c (rs[k]).length (by omega)
      have hnb : nd (rs[k]).length ≤ 100000 := by unfold nd; omega
      have hpb : nds (rs.take k) ≤ 100000 := by have := HX.out.2.2.1; have := HX.out.2.2.2; have := nds_le rs k; omega
      have g1 : ((k : Int) < (rs.length : Int)) = True := eq_true (by omega)
      have g2 : (k < rs.length) = True := eq_true hlt
      generalize rs[k] = r at *
      generalize nds (rs.take k) = n at *
      generalize nd r.length = L at *
      have HL := Lib.hid hle
      have HY := Lib.hid (And.intro hub (And.intro hst (And.intro hul (And.intro hmem (And.intro hse (And.intro hk hlt))))))
      clear hle hub hst hul hmem hse hcell hk
      go_wp2_with (go_at_call 49; refine (HL.out _).mono ?_; rintro e w' ⟨rfl, rfl⟩)
      go_roundw
      case rel => exact ⟨k + 1, HY.out.2.2.2.2.2.2, by go_num, by rw [HY.out.2.1]; rfl, trivial⟩
      case measure => simp [RowKit.intOf]; omega
    · have hke : k = rs.length := by omega
      subst hke
      rw [List.take_length]
      have g1 : ((rs.length : Int) < (rs.length : Int)) = False := eq_false (by omega)
      clear hk hlt
      go_wp2
      go_ret
      exact ⟨rfl, rfl⟩

theorem rRoom_c {lo q : Nat} {p : At} {v : Value} {D : Nat → Prop} {s : Dk} {l : Lg} {w : World} (h : Du lo q p v D s l w) (hk : Lk s l) :
    Calls Tryz.prog 22 #[.pointer (some ⟨q, 0, none⟩)] w fun e w' => e = .returned (.int .i64 (lRoom s l)) ∧ w' = w := by
  have hh := half_c h.d
  have hcl := h.d.rt.curlen
  have hle := hs_le s.cur (by omega)
  have hfit := hk.fit
  have hfh := hf_hs s.cur
  have hun := usd_nds l.rs
  have hu := rused_c h.c2 (h.bo.view (E := fun _ => True) (fun _ _ => trivial) (fun _ _ => trivial)) (by omega)
  have c0 := h.c0
  obtain ⟨S, hS⟩ : ∃ S, S = hs s.cur := ⟨_, rfl⟩
  obtain ⟨U, hU⟩ : ∃ U, U = nds l.rs := ⟨_, rfl⟩
  have hr : lRoom s l = max 0 (min ((S : Int) * 16 - (U : Int) * 16 - 16) 16384) := by unfold lRoom; rw [hS, hU, hfh, hun]; simp
  rw [hr]
  rw [← hS] at hh hle hfh
  rw [← hU] at hu hun
  have hb : S ≤ 65536 ∧ U ≤ 65536 := by omega
  obtain ⟨hb1, hb2⟩ := hb
  have HS := Lib.hid hh
  have HU := Lib.hid hu
  have HX := Lib.hid (And.intro h (And.intro hk (And.intro hcl (And.intro hle (And.intro hfit (And.intro hS (And.intro hU (And.intro hr (And.intro hfh hun)))))))))
  clear hh hu h hk hcl hle hfit hS hU hr hfh hun
  go_enter Tryz.func22, Tryz.ntmps22
  go_wp2_with (first | (go_at_call 40; refine HS.out.mono ?_; rintro e w' ⟨rfl, rfl⟩) | (go_at_call 50; refine HU.out.mono ?_; rintro e w' ⟨rfl, rfl⟩))
  all_goals go_ret
  all_goals (refine ⟨ret_int ?_, rfl⟩; omega)
end Go.Proofs.YtankfmlafmjaeaaGreat
