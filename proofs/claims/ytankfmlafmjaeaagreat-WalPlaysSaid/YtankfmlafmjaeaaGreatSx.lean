/- What a call asks of the bytes that it is given: a slice of them, or an empty one, wherever that may lie. -/
import Derived.Test.YtankfmlafmjaeaaGreatPg
namespace Go.Proofs.YtankfmlafmjaeaaGreat
set_option maxRecDepth 20000
open Go.RowKit Pm

/-- Bytes that are handed in: of a slice with none in it nothing is known, not even where it lies. -/
def Se (w : World) (v : Value) (l : Bs) : Prop := Sl w v l ∨ (l = [] ∧ ∃ ao cap, v = .slice ao 0 cap)
theorem Sl.se {w : World} {v : Value} {l : Bs} (h : Sl w v l) : Se w v l := .inl h
theorem Sl0.se {w : World} {v : Value} {l : Bs} (h : Sl0 w v l) : Se w v l := by
  by_cases h0 : 0 < l.length
  · exact .inl (h.pos h0)
  · have e : l = [] := List.eq_nil_of_length_eq_zero (by omega)
    subst e
    obtain ⟨ao, cap, rfl, _⟩ := h.ex
    exact .inr ⟨rfl, ao, cap, rfl⟩
theorem Se.shape {w : World} {v : Value} {l : Bs} (h : Se w v l) : ∃ ao cap, v = .slice ao l.length cap := by
  rcases h with h | ⟨rfl, ao, cap, rfl⟩
  · obtain ⟨ao, cap, e, _⟩ := h.ex; exact ⟨ao, cap, e⟩
  · exact ⟨ao, cap, rfl⟩
theorem Se.keep {S : Nat → Prop} {a b : World} {v : Value} {l : Bs} (h : Se a v l) (f : Fp S a b) (hS : 0 < l.length → ∀ k, v.ownBlock = some k → ¬ S k) : Se b v l := by
  rcases h with h | h
  · by_cases h0 : 0 < l.length
    · exact .inl (h.keep f (hS h0))
    · have e : l = [] := List.eq_nil_of_length_eq_zero (by omega)
      subst e
      obtain ⟨ao, cap, rfl, _⟩ := h.ex
      exact .inr ⟨rfl, ao, cap, rfl⟩
  · exact .inr h

theorem conv_empty (w : World) (ao : Option Addr) (cap : Nat) : (convert 22 9 (.slice ao 0 cap)).run Tryz.prog w = .ok (.string (B [])) w := by
  rw [run_convert_bytes_string w _ _ 5 ao 0 cap Tryz.underlying22 Tryz.underlying5 Tryz.underlying9]
  rcases ao with _ | a
  · rfl
  · exact run_bytesToString w a 0 cap [] rfl
theorem conv_se (w : World) (v : Value) (l : Bs) (h : Se w v l) : (convert 22 9 v).run Tryz.prog w = .ok (.string (B l)) w := by
  rcases h with h | ⟨rfl, ao, cap, rfl⟩
  · exact conv_sl w v l h
  · exact conv_empty w ao cap

theorem pad_zero : pad [] = List.replicate 0 0 := rfl
set_option maxHeartbeats 1000000 in
theorem filled_e (ao : Option Addr) (cap : Nat) (w : World) :
    Calls Tryz.prog 47 #[.slice ao 0 cap] w fun e w' => ∃ u, e = .returned u ∧ Nw w w' u (pad []) := by
  have hmk := make_bytes w 0 (by omega)
  have hrow0 := Rw.made w 5 (List.replicate 0 0)
  have hfp0 : Fp Non w (w.alloc (.cells (Lib.byteCells (List.replicate 0 0)).toArray 5)) := (Fp.refl Non w).alloc _
  obtain ⟨W0, hW0⟩ : ∃ W0, W0 = w.alloc (.cells (Lib.byteCells (List.replicate 0 0)).toArray 5) := ⟨_, rfl⟩
  rw [← hW0] at hmk hrow0 hfp0
  clear hW0
  have hcp := run_copy_none (P := Tryz.prog) W0 22 22 3 5 (some ⟨w.heap.size, 0, none⟩) ao 0 0 0 cap Tryz.underlying22 Tryz.sizeBy (by rfl)
  have hlc := length_c 0 (by omega) w
  have hln : ((ln 0 : Nat) : Int) = 16 := rfl
  rw [hln] at hlc
  clear hln
  have hmk0 : (Instr.makeSlice 22 (.int .i64 0) (.int .i64 0)).run Tryz.prog w = .ok (.slice (some ⟨w.heap.size, 0, none⟩) 0 0) W0 := hmk
  have hfin : Nw w W0 (.slice (some ⟨w.heap.size, 0, none⟩) 0 0) (pad []) := Nw.of_row (w := w) (l := pad []) hrow0 (Nat.le_refl _) (by decide) hfp0
  have HL := Lib.hid hlc
  have HM := Lib.hid hmk0
  have HF := Lib.hid hfin
  clear hlc hmk hmk0 hfin hrow0 hfp0
  go_enter Tryz.func47, Tryz.ntmps47
  go_wp2_with fail
  refine HL.out.mono ?_
  rintro e w1 ⟨rfl, rfl⟩
  go_wp2_with (refine wpList_make_run rfl 22 _ _ rfl _ _ _ rfl rfl HM.out ?_)
  first
    | (go_ret; exact ⟨_, rfl, HF.out⟩)
    | (rw [hcp]; simp only [Result.andThen]; rw [Oper.upon_value]; go_wp2; go_ret; exact ⟨_, rfl, HF.out⟩)
set_option maxHeartbeats 1000000 in
theorem Sum_e (s : Nat) (ao : Option Addr) (cap : Nat) (l : Bs) (w : World) (hs : s < 65536) (hl : l = []) :
    Calls Tryz.prog 67 #[.int .u16 (s : Int), .slice ao l.length cap] w fun e w' => e = .returned (.int .u32 ((sum s l : Nat) : Int)) ∧ w = w' := by
  have hl0 : l.length = 0 := by rw [hl]; rfl
  have hlm : l.length ≤ 9223372036854775807 := by omega
  go_enter Tryz.func67, Tryz.ntmps67
  go_wp2_with fail
  go_loop [5, 6, 15] (fun x y i => ∃ k : Nat, k ≤ l.length ∧ i = .int .i64 k ∧ x = .int .u32 ((sumOf s (l.take k)).1 : Int) ∧ y = .int .u32 ((sumOf s (l.take k)).2 : Int)) (fun _ _ i => l.length - (RowKit.intOf i).toNat)
  case atStart =>
    exact ⟨0, Nat.zero_le _, rfl, by rw [List.take_zero]; simp [sumOf, sumF], by rw [List.take_zero]; simp [sumOf, sumF]⟩
  case round =>
    obtain ⟨k, hk, rfl, rfl, rfl⟩ := hrel
    have hb := sumOf_lt s (l.take k)
    by_cases hlt : k < l.length
    · exact absurd hlt (by omega)
    · have hke : k = l.length := by omega
      subst hke
      rw [List.take_length] at *
      generalize hS : sumOf s l = S at *
      obtain ⟨x, y⟩ := S
      obtain ⟨hx, hy⟩ := hb
      simp only at hx hy ⊢
      have q1 : ((l.length : Int) < (l.length : Int)) = False := eq_false (by omega)
      clear hk hlt hl0 hl
      go_wp2
      go_ret
      exact ⟨ret_int (by rw [or_parts x y hx hy]; unfold sum; rw [hS]), rfl⟩

set_option maxHeartbeats 2000000 in
theorem header_e (i : Nat) (ao : Option Addr) (cap : Nat) (b : Bs) (w : World) (hv : b = []) (hi : i ≤ 65535) :
    Calls Tryz.prog 48 #[.int .i64 (i : Int), .slice ao b.length cap] w fun e w' => ∃ u, e = .returned u ∧ Nw w w' u (hdr i b) := by
  have hlit : Fp Non w (w.alloc (.cells #[.int .u8 82] 5)) := (Fp.refl Non w).alloc _
  have hown0 : (w.alloc (.cells #[.int .u8 82] 5)).ownsRow w.heap.size 5 1 (.slice (some ⟨w.heap.size, 0, none⟩) 1 1) 1 (Lib.byteCells [82]) := World.ownsRow_lit w #[.int .u8 82] 1 (Nat.le_refl _) (by unfold maxLen; simp) rfl
  have hN0 : Nw w (w.alloc (.cells #[.int .u8 82] 5)) (.slice (some ⟨w.heap.size, 0, none⟩) 1 1) (hk i b 0) := ⟨hown0, hlit⟩
  have hb : b.length ≤ 16384 := by rw [hv]; decide
  have hsum := Sum_e i ao cap b (w.alloc (.cells #[.int .u8 82] 5)) (by omega) hv
  have hsl := sum_lt i b
  have him : i % 65536 = i := Nat.mod_eq_of_lt (by omega)
  obtain ⟨S, hS⟩ : ∃ S, S = sum i b := ⟨_, rfl⟩
  rw [← hS] at hsum hsl
  have HS := Lib.hid hsum
  have H0 := Lib.hid hN0
  have HX := Lib.hid (And.intro hv (And.intro hv (And.intro hS him)))
  clear hsum hN0 hv hlit hown0 hS him
  go_enter Tryz.func48, Tryz.ntmps48
  go_wp2_with fail
  refine HS.out.mono ?_
  rintro e w1 ⟨rfl, rfl⟩
  go_wp2_with fail
  have hlb : b.length < 4294967296 := by omega
  have hib : i < 4294967296 := by omega
  go_loopw [5, 19] (fun u d wr => ∃ k : Nat, k ≤ 3 ∧ d = .int .i64 k ∧ Hid (Nw w wr u (hk i b k))) (fun _ d _ => 3 - (RowKit.intOf d).toNat)
  case atStart => exact ⟨0, Nat.zero_le _, rfl, H0⟩
  case round =>
    obtain ⟨k, hk3, rfl, hR⟩ := hrel
    obtain ⟨uao, un, ucap, hu⟩ := hR.out.shape3
    subst hu
    rcases (show k = 0 ∨ k = 1 ∨ k = 2 ∨ k = 3 by omega) with rfl | rfl | rfl | rfl
    · obtain ⟨n, hn⟩ : ∃ n, n = i := ⟨_, rfl⟩
      have ix : ∀ w, (Instr.index 101 (.agg #[.int .u32 (i : Int), .int .u32 (b.length : Int), .int .u32 (S : Int)]) (.int .i64 0)).run Tryz.prog w = .ok (.int .u32 (n : Int)) w := by rw [hn]; exact index_at _ 0 _ (by omega) rfl
      have hnb : n < 4294967296 := by omega
      have hst := head_step n hR.out hnb (by show _ ≤ 1000; simp [hk])
      have HA := Lib.hid hst
      have HN := Lib.hid hn
      clear hst hn
      go_wp2_with (at_builtin; go_must (refine wpList_app rfl _ _ _ _ rfl _ _ rfl rfl _ HA.out ?_))
      intro u' w' hN'
      have HN' := Lib.hid hN'
      obtain ⟨uao', un', ucap', rfl⟩ := hN'.shape3
      clear hN'
      go_wp2
      go_roundw
      case rel =>
        refine ⟨1, by omega, rfl, ?_⟩
        have e : hk i b 1 = hk i b 0 ++ be4 n := by rw [HN.out]; simp [hk]
        rw [e]; exact HN'
      case measure => decide
    · obtain ⟨n, hn⟩ : ∃ n, n = b.length := ⟨_, rfl⟩
      have ix : ∀ w, (Instr.index 101 (.agg #[.int .u32 (i : Int), .int .u32 (b.length : Int), .int .u32 (S : Int)]) (.int .i64 1)).run Tryz.prog w = .ok (.int .u32 (n : Int)) w := by rw [hn]; exact index_at _ 1 _ (by omega) rfl
      have hnb : n < 4294967296 := by omega
      have hst := head_step n hR.out hnb (by show _ ≤ 1000; simp [hk, be4_len])
      have HA := Lib.hid hst
      have HN := Lib.hid hn
      clear hst hn
      go_wp2_with (at_builtin; go_must (refine wpList_app rfl _ _ _ _ rfl _ _ rfl rfl _ HA.out ?_))
      intro u' w' hN'
      have HN' := Lib.hid hN'
      obtain ⟨uao', un', ucap', rfl⟩ := hN'.shape3
      clear hN'
      go_wp2
      go_roundw
      case rel =>
        refine ⟨2, by omega, rfl, ?_⟩
        have e : hk i b 2 = hk i b 1 ++ be4 n := by rw [HN.out]; simp [hk]
        rw [e]; exact HN'
      case measure => decide
    · obtain ⟨n, hn⟩ : ∃ n, n = S := ⟨_, rfl⟩
      have ix : ∀ w, (Instr.index 101 (.agg #[.int .u32 (i : Int), .int .u32 (b.length : Int), .int .u32 (S : Int)]) (.int .i64 2)).run Tryz.prog w = .ok (.int .u32 (n : Int)) w := by rw [hn]; exact index_at _ 2 _ (by omega) rfl
      have hnb : n < 4294967296 := by omega
      have hst := head_step n hR.out hnb (by show _ ≤ 1000; simp [hk, be4_len])
      have HA := Lib.hid hst
      have HN := Lib.hid hn
      clear hst hn
      go_wp2_with (at_builtin; go_must (refine wpList_app rfl _ _ _ _ rfl _ _ rfl rfl _ HA.out ?_))
      intro u' w' hN'
      have HN' := Lib.hid hN'
      obtain ⟨uao', un', ucap', rfl⟩ := hN'.shape3
      clear hN'
      go_wp2
      go_roundw
      case rel =>
        refine ⟨3, by omega, rfl, ?_⟩
        have e : hk i b 3 = hk i b 2 ++ be4 n := by rw [HN.out]; rw [HX.out.2.2.1]; simp [hk, HX.out.2.2.2]
        rw [e]; exact HN'
      case measure => decide
    · have hfc := filled_c _ _ _ hR.out.sl (by show _ ≤ 100000; simp [hk, be4_len])
      rw [hk_pad] at hfc
      obtain ⟨uao', ucap', e⟩ := hR.out.shape
      injection e with e1 e2 e3
      subst e1 e2 e3
      have HF := Lib.hid hfc
      clear hfc
      go_wp2_with fail
      refine HF.out.mono ?_
      rintro e w2 ⟨u, rfl, hN⟩
      have HN := Lib.hid hN
      obtain ⟨ao3, n3, cap3, rfl⟩ := hN.shape3
      clear hN
      go_wp2
      go_ret
      exact ⟨_, rfl, HN.out.after hR.out.fp⟩

/-- Bytes that are handed in to a log's call, ready for all that it does with them, in whatever world differs from w in the disk alone. -/
structure Src (b g m : Nat) (w : World) (bv : Value) (bs : Bs) : Prop where
  sh : ∃ ao cap, bv = .slice ao bs.length cap
  fl : bs.length ≤ 16384 → ∀ w', Fp (own3 b g m) w w' → Calls Tryz.prog 47 #[bv] w' fun e w'' => ∃ u, e = .returned u ∧ Nw w' w'' u (pad bs)
  hd : bs.length ≤ 16384 → ∀ i w', i ≤ 65535 → Fp (own3 b g m) w w' → Calls Tryz.prog 48 #[.int .i64 ((i : Nat) : Int), bv] w' fun e w'' => ∃ u, e = .returned u ∧ Nw w' w'' u (hdr i bs)
  cv : ∀ w', Fp (own3 b g m) w w' → (convert 22 9 bv).run Tryz.prog w' = .ok (.string (B bs)) w'
theorem Src.of_sl {b g m : Nat} {w : World} {bv : Value} {bs : Bs} (h : Sl w bv bs) (hn : ∀ k, bv.ownBlock = some k → ¬ own3 b g m k) : Src b g m w bv bs := by
  obtain ⟨ao, cap, e, _⟩ := h.ex
  exact ⟨⟨ao, cap, e⟩, fun hs w' f => filled_c _ _ _ (h.keep f hn) (by omega), fun hs i w' hi f => header_c i _ _ _ (h.keep f hn) hs hi, fun w' f => conv_sl _ _ _ (h.keep f hn)⟩
theorem Src.of_empty (b g m : Nat) (w : World) (ao : Option Addr) (cap : Nat) : Src b g m w (.slice ao 0 cap) [] :=
  ⟨⟨ao, cap, rfl⟩, fun _ w' _ => filled_e ao cap w', fun _ i w' hi _ => header_e i ao cap [] w' rfl hi, fun w' _ => conv_empty w' ao cap⟩
theorem Src.of_se {b g m : Nat} {w : World} {bv : Value} {bs : Bs} (h : Se w bv bs) (hn : 0 < bs.length → ∀ k, bv.ownBlock = some k → ¬ own3 b g m k) : Src b g m w bv bs := by
  rcases h with h | ⟨rfl, ao, cap, rfl⟩
  · by_cases h0 : 0 < bs.length
    · exact Src.of_sl h (hn h0)
    · have e : bs = [] := List.eq_nil_of_length_eq_zero (by omega)
      subst e
      obtain ⟨ao, cap, rfl, _⟩ := h.ex
      exact Src.of_empty b g m w ao cap
  · exact Src.of_empty b g m w ao cap
end Go.Proofs.YtankfmlafmjaeaaGreat
