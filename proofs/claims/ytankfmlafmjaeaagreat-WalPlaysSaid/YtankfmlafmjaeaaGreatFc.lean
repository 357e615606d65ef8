/- header: a record's first sector. -/
import Derived.Test.YtankfmlafmjaeaaGreatFb
namespace Go.Proofs.YtankfmlafmjaeaaGreat
set_option maxRecDepth 20000
open Go.RowKit Pm

/-- What the header holds by k numbers. -/
def hk (i : Nat) (b : Bs) (k : Nat) : Bs := 82 :: (([i, b.length, sum (i % 65536) b].take k).map be4).flatten
theorem hk_pad (i : Nat) (b : Bs) : pad (hk i b 3) = hdr i b := by
  unfold pad
  rw [show (hk i b 3).length = 13 from rfl, show up 13 - 13 = 3 by decide]
  rfl
theorem be4_cells (n : Nat) (hn : n < 4294967296) : (Lib.byteCells (be4 n)).toArray = #[.int .u8 ((n : Int) / 16777216), .int .u8 ((n : Int) / 65536 % 256), .int .u8 ((n : Int) / 256 % 256), .int .u8 ((n : Int) % 256)] := by
  simp only [Lib.byteCells, be4, List.map_cons, List.map_nil, UInt8.toNat_ofNat']
  rw [Nat.mod_eq_of_lt (show n / 16777216 < 2 ^ 8 by omega)]
  rfl
theorem Nw.block {w w' : World} {v : Value} {l : Bs} (h : Nw w w' v l) : ∀ k, v.ownBlock = some k → w.heap.size ≤ k := by
  rcases h.own.2 with ⟨rfl, _⟩ | ⟨g, cap, cur, rfl, hb, _⟩
  · intro k hk; cases hk
  · intro k hk; simp [Value.ownBlock] at hk; omega
/-- Four bytes more. -/
theorem head_step {w wr : World} {u : Value} {l : Bs} (n : Nat) (h : Nw w wr u l) (hn : n < 4294967296) (hl : l.length ≤ 1000) :
    ∃ v' w', (Builtin.append_ #[22, 22] 22 #[u, .slice (some ⟨wr.heap.size, 0, none⟩) 4 4]).run Tryz.prog (wr.alloc (.cells #[.int .u8 ((n : Int) / 16777216), .int .u8 ((n : Int) / 65536 % 256), .int .u8 ((n : Int) / 256 % 256), .int .u8 ((n : Int) % 256)] 5)) = .ok v' w' ∧ Nw w w' v' (l ++ be4 n) := by
  rw [← be4_cells n hn]
  have hsl := Sl.lit wr (be4 n) (by rw [be4_len]; omega)
  rw [be4_len] at hsl
  have hf : Fp Non wr (wr.alloc (.cells (Lib.byteCells (be4 n)).toArray 5)) := (Fp.refl Non wr).alloc _
  obtain ⟨v', w', hr, hR⟩ := app_sl _ w.heap.size u l (be4 n) 22 _ (hf.owns h.own (fun _ _ h => h)) hsl (by rw [be4_len]; omega) (Nat.le_trans h.fp.size hf.size)
  exact ⟨v', w', hr, hR.own, (h.fp.then hf).grown hR.grown (fun k hk => .inr (h.block k hk))⟩

theorem sz32 (w : World) : (sizeOf 98).run Tryz.prog w = .ok 1 w := by
  have : (Tryz.prog.info? 98).map (·.size) = some 1 := by kernel_rfl
  cases hq : Tryz.prog.info? 98 with
  | none => simp [hq] at this
  | some i =>
    have hs : i.size = 1 := by simpa [hq] using this
    simp [sizeOf, typeInfo, hq, hs]
theorem index_at (cs : Array Value) (k : Nat) (v : Value) (hk : k < 3) (hv : cs[k]? = some v) (w : World) : (Instr.index 101 (.agg cs) (.int .i64 (k : Int))).run Tryz.prog w = .ok v w := by
  have ha : (isAgg 98).run Tryz.prog w = .ok false w := by unfold isAgg; simp [run_underlying Tryz.underlying98]
  simp only [Instr.index, asIntOf, Sem.run_bind, Sem.run_pure, Result.andThen_ok, run_underlying Tryz.underlying101]
  rw [if_pos (by omega)]
  simp only [Sem.run_bind, sz32, Result.andThen_ok, Nat.mul_one, Int.toNat_natCast, part, ha, Bool.false_eq_true, if_false, hv, Sem.run_pure]

set_option maxHeartbeats 2000000 in
theorem header_c (i : Nat) (v : Value) (b : Bs) (w : World) (hv : Sl w v b) (hb : b.length ≤ 16384) (hi : i ≤ 65535) :
    Calls Tryz.prog 48 #[.int .i64 (i : Int), v] w fun e w' => ∃ u, e = .returned u ∧ Nw w w' u (hdr i b) := by
  have hlit : Fp Non w (w.alloc (.cells #[.int .u8 82] 5)) := (Fp.refl Non w).alloc _
  have hown0 : (w.alloc (.cells #[.int .u8 82] 5)).ownsRow w.heap.size 5 1 (.slice (some ⟨w.heap.size, 0, none⟩) 1 1) 1 (Lib.byteCells [82]) := World.ownsRow_lit w #[.int .u8 82] 1 (Nat.le_refl _) (by unfold maxLen; simp) rfl
  have hN0 : Nw w (w.alloc (.cells #[.int .u8 82] 5)) (.slice (some ⟨w.heap.size, 0, none⟩) 1 1) (hk i b 0) := ⟨hown0, hlit⟩
  have hsum := Sum_c i v b _ (by omega) (hv.keep hlit (fun _ _ h => h))
  obtain ⟨ao, cap, hvv, _, _, _⟩ := hv.ex
  have hsl := sum_lt i b
  have him : i % 65536 = i := Nat.mod_eq_of_lt (by omega)
  rw [hvv] at hsum ⊢
  obtain ⟨S, hS⟩ : ∃ S, S = sum i b := ⟨_, rfl⟩
  rw [← hS] at hsum hsl
  have HS := Lib.hid hsum
  have H0 := Lib.hid hN0
  have HX := Lib.hid (And.intro hv (And.intro hvv (And.intro hS him)))
  clear hsum hN0 hv hvv hlit hown0 hS him
  go_enter Tryz.func48, Tryz.ntmps48
  go_wp2_with fail
  refine HS.out.mono ?_
  rintro e w1 ⟨rfl, rfl⟩
  go_wp2_with fail
  have hlb : b.length < 4294967296 := by omega
  have hib : i < 4294967296 := by omega
  go_loopw [5, 19] (fun u d wr => ∃ k : Nat, k ≤ 3 ∧ d = .int .i64 k ∧ Hid (Nw w wr u (hk i b k))) (fun _ d _ => 3 - (RowKit.intOf d).toNat)
  case atStart => exact ⟨0, Nat.zero_le _, rfl, H0⟩
  case round =>
    obtain ⟨k, hk3, rfl, hR⟩ := hrel
    obtain ⟨uao, un, ucap, hu⟩ := hR.out.shape3
    subst hu
    rcases (show k = 0 ∨ k = 1 ∨ k = 2 ∨ k = 3 by omega) with rfl | rfl | rfl | rfl
    · obtain ⟨n, hn⟩ : ∃ n, n = i := ⟨_, rfl⟩
      have ix : ∀ w, (Instr.index 101 (.agg #[.int .u32 (i : Int), .int .u32 (b.length : Int), .int .u32 (S : Int)]) (.int .i64 0)).run Tryz.prog w = .ok (.int .u32 (n : Int)) w := by rw [hn]; exact index_at _ 0 _ (by omega) rfl
      have hnb : n < 4294967296 := by omega
      have hst := head_step n hR.out hnb (by show _ ≤ 1000; simp [hk])
      have HA := Lib.hid hst
      have HN := Lib.hid hn
      clear hst hn
      go_wp2_with (at_builtin; go_must (refine wpList_app rfl _ _ _ _ rfl _ _ rfl rfl _ HA.out ?_))
      intro u' w' hN'
      have HN' := Lib.hid hN'
      obtain ⟨uao', un', ucap', rfl⟩ := hN'.shape3
      clear hN'
      go_wp2
      go_roundw
      case rel =>
        refine ⟨1, by omega, rfl, ?_⟩
        have e : hk i b 1 = hk i b 0 ++ be4 n := by rw [HN.out]; simp [hk]
        rw [e]; exact HN'
      case measure => decide
    · obtain ⟨n, hn⟩ : ∃ n, n = b.length := ⟨_, rfl⟩
      have ix : ∀ w, (Instr.index 101 (.agg #[.int .u32 (i : Int), .int .u32 (b.length : Int), .int .u32 (S : Int)]) (.int .i64 1)).run Tryz.prog w = .ok (.int .u32 (n : Int)) w := by rw [hn]; exact index_at _ 1 _ (by omega) rfl
      have hnb : n < 4294967296 := by omega
      have hst := head_step n hR.out hnb (by show _ ≤ 1000; simp [hk, be4_len])
      have HA := Lib.hid hst
      have HN := Lib.hid hn
      clear hst hn
      go_wp2_with (at_builtin; go_must (refine wpList_app rfl _ _ _ _ rfl _ _ rfl rfl _ HA.out ?_))
      intro u' w' hN'
      have HN' := Lib.hid hN'
      obtain ⟨uao', un', ucap', rfl⟩ := hN'.shape3
      clear hN'
      go_wp2
      go_roundw
      case rel =>
        refine ⟨2, by omega, rfl, ?_⟩
        have e : hk i b 2 = hk i b 1 ++ be4 n := by rw [HN.out]; simp [hk]
        rw [e]; exact HN'
      case measure => decide
    · obtain ⟨n, hn⟩ : ∃ n, n = S := ⟨_, rfl⟩
      have ix : ∀ w, (Instr.index 101 (.agg #[.int .u32 (i : Int), .int .u32 (b.length : Int), .int .u32 (S : Int)]) (.int .i64 2)).run Tryz.prog w = .ok (.int .u32 (n : Int)) w := by rw [hn]; exact index_at _ 2 _ (by omega) rfl
      have hnb : n < 4294967296 := by omega
      have hst := head_step n hR.out hnb (by show _ ≤ 1000; simp [hk, be4_len])
      have HA := Lib.hid hst
      have HN := Lib.hid hn
      clear hst hn
      go_wp2_with (at_builtin; go_must (refine wpList_app rfl _ _ _ _ rfl _ _ rfl rfl _ HA.out ?_))
      intro u' w' hN'
      have HN' := Lib.hid hN'
      obtain ⟨uao', un', ucap', rfl⟩ := hN'.shape3
      clear hN'
      go_wp2
      go_roundw
      case rel =>
        refine ⟨3, by omega, rfl, ?_⟩
        have e : hk i b 3 = hk i b 2 ++ be4 n := by rw [HN.out]; rw [HX.out.2.2.1]; simp [hk, HX.out.2.2.2]
        rw [e]; exact HN'
      case measure => decide
    · have hfc := filled_c _ _ _ hR.out.sl (by show _ ≤ 100000; simp [hk, be4_len])
      rw [hk_pad] at hfc
      obtain ⟨uao', ucap', e⟩ := hR.out.shape
      injection e with e1 e2 e3
      subst e1 e2 e3
      have HF := Lib.hid hfc
      clear hfc
      go_wp2_with fail
      refine HF.out.mono ?_
      rintro e w2 ⟨u, rfl, hN⟩
      have HN := Lib.hid hN
      obtain ⟨ao3, n3, cap3, rfl⟩ := hN.shape3
      clear hN
      go_wp2
      go_ret
      exact ⟨_, rfl, HN.out.after hR.out.fp⟩
end Go.Proofs.YtankfmlafmjaeaaGreat
