/- bytes: a part of the disk, new. -/
import Derived.Test.YtankfmlafmjaeaaGreatLo
import Derived.Laws.MakeOwn
namespace Go.Proofs.YtankfmlafmjaeaaGreat
set_option maxRecDepth 20000
open Go.RowKit Pm

theorem wpList_make_run {P : Program} {w w' : World} {ops : Array Oper} {rest : List Oper} {o : Oper} {a : Act} {Q : Exit → Act → World → Prop} (hgd : o.guard = none) (t : TypeId) (x y : Operand) (ho : o.op = .makeSlice t x y) (xv yv r : Value) (hx : a.eval x = xv) (hy : a.eval y = yv)
    (hr : (Instr.makeSlice t xv yv).run P w = .ok r w') (h : wpList P ops Q rest (a.put o.dst r) w') : wpList P ops Q (o :: rest) a w := by
  refine wpList_plain hgd fun K hK => ?_
  unfold Oper.wp
  simp [execOp, ho, hx, hy, hr, Result.andThen]
  exact hK _ _ h

theorem made_same (z : Array Value) (v : Value) (k n : Nat) (hz : z = Array.replicate k v) (hk : 0 < k) : madeCells z n = Array.replicate n v := by
  subst hz
  unfold madeCells
  apply Array.ext (by simp)
  intro i h1 h2
  have : i % k < k := Nat.mod_lt _ hk
  simp [this]
theorem zeros_n (n : Nat) : (Lib.byteCells (List.replicate n (0 : UInt8))).toArray = Array.replicate n (.int .u8 0) := by
  simp [Lib.byteCells]
theorem Tryz.infoBlk : (Tryz.prog.info? TB).map (fun i => (i.zero, i.size, i.bytes)) = some (some (.agg (Array.replicate 16 (.int .u8 0))), 16, 16) := by kernel_rfl
theorem make_bytes (w : World) (n : Nat) (hn : n ≤ 1000000) : (Instr.makeSlice 22 (.int .i64 (n : Int)) (.int .i64 (n : Int))).run Tryz.prog w = .ok (.slice (some ⟨w.heap.size, 0, none⟩) n n) (w.alloc (.cells (Lib.byteCells (List.replicate n 0)).toArray 5)) := by
  obtain ⟨i, hi, hz, hsz, hby⟩ := info_parts Tryz.infoBy
  have := run_make (P := Tryz.prog) w 22 5 i (.int .u8 0) Tryz.underlying22 hi hz .i64 .i64 (n : Int) (n : Int) (by omega) (Int.le_refl _) (by rw [hby]; omega) (by omega)
  rw [this, hsz, made_same (Value.int .u8 0).cells (.int .u8 0) 1 _ rfl (by omega), zeros_n]
  simp
theorem make_blocks (w : World) (n : Nat) (hn : n ≤ 4096) : (Instr.makeSlice 58 (.int .i64 (n : Int)) (.int .i64 (n : Int))).run Tryz.prog w = .ok (.slice (some ⟨w.heap.size, 0, none⟩) n n) (w.alloc (.cells (Lib.byteCells (List.replicate (n * 16) 0)).toArray TB)) := by
  obtain ⟨i, hi, hz, hsz, hby⟩ := info_parts Tryz.infoBlk
  have := run_make (P := Tryz.prog) w 58 TB i _ Tryz.underlying58 hi hz .i64 .i64 (n : Int) (n : Int) (by omega) (Int.le_refl _) (by rw [hby]; omega) (by omega)
  rw [this, hsz, made_same (Value.agg (Array.replicate 16 (.int .u8 0))).cells (.int .u8 0) 16 _ rfl (by omega), zeros_n]
  simp

/-- A slice of bytes that begins in a row. -/
theorem Sl.of_row {w : World} {g : Nat} {T : TypeId} {l : Bs} (h : Rw w g T l) (o n cap : Nat) (hn : o + n ≤ l.length) (hc : n ≤ cap) (hc2 : cap ≤ maxLen) : Sl w (.slice (some ⟨g, o, none⟩) n cap) ((l.drop o).take n) := by
  have hl : ((l.drop o).take n).length = n := by simp; omega
  refine ⟨some ⟨g, o, none⟩, cap, by rw [hl], by rw [hl]; exact hc, hc2, .inr ⟨g, o, rfl, h.lt, fun j hj => ?_⟩⟩
  rw [h.cell (o + j) (by omega)]
  simp
theorem Nw.of_row {w w' : World} {g : Nat} {l : Bs} (h : Rw w' g 5 l) (hg : w.heap.size ≤ g) (hl : l.length ≤ maxLen) (hf : Fp Non w w') : Nw w w' (.slice (some ⟨g, 0, none⟩) l.length l.length) l := by
  refine ⟨⟨by simp [Lib.byteCells], .inr ⟨g, l.length, _, rfl, hg, h.hp, Nat.le_refl _, hl, by simp [Lib.byteCells], ?_⟩⟩, hf⟩
  rw [Nat.mul_one]; simp only; exact List.take_of_length_le (by simp [Lib.byteCells])

/-- A part of a sector. -/
theorem slice_blk (g o f : Nat) (hf : f < 16) (w : World) : (Instr.sliceAt TB (.pointer (some ⟨g, o, none⟩)) (some (.int .i64 (f : Int))) none none).run Tryz.prog w = .ok (.slice (some ⟨g, o + f, none⟩) (16 - f) (16 - f)) w := by
  have hal : Tryz.prog.arrayLen TB = 16 := by simp [Program.arrayLen]
  have hel : Tryz.prog.elem TB = 5 := by simp [Program.elem]
  have hsz : (sizeOf 5).run Tryz.prog w = .ok 1 w := szU w
  have := run_sliceAt_array_l (P := Tryz.prog) w TB ⟨g, o, none⟩ (by rw [hal, hel]; exact under_array) .i64 (f : Int) (by omega) (by rw [hal]; omega)
  rw [this, hal, hel, hsz]
  simp only [Result.andThen_ok, slicedAt, Int.toNat_natCast, Nat.mul_one, Addr.add_lit]
  rw [if_neg (by omega)]
theorem slice_blk0 (g o : Nat) (w : World) : (Instr.sliceAt TB (.pointer (some ⟨g, o, none⟩)) none none none).run Tryz.prog w = .ok (.slice (some ⟨g, o, none⟩) 16 16) w := by
  have hal : Tryz.prog.arrayLen TB = 16 := by simp [Program.arrayLen]
  have hel : Tryz.prog.elem TB = 5 := by simp [Program.elem]
  have hsz : (sizeOf 5).run Tryz.prog w = .ok 1 w := szU w
  have := run_sliceAt_array_all (P := Tryz.prog) w TB ⟨g, o, none⟩ (by rw [hal, hel]; exact under_array)
  rw [this, hal, hel, hsz]
  simp only [Result.andThen_ok, slicedAt, Nat.zero_mul, Addr.add_lit, Nat.add_zero]
  rfl
theorem spl_all (l b : Bs) (h : l.length = b.length) : spl l 0 b = b := by
  unfold spl; simp [← h]
/-- What has been copied so far. -/
theorem take_step (l : Bs) (a d k : Nat) : (l.drop a).take d ++ (l.drop (a + d)).take k = (l.drop a).take (d + k) := by
  rw [List.take_add, List.drop_drop]

set_option maxHeartbeats 4000000 in
theorem bytes_c {lo b g m : Nat} {s : Dk} {w : World} (h : Dr lo b g m s w) (a n : Nat) (han : a + n ≤ s.cur.length) :
    Calls Tryz.prog 53 #[.pointer (some ⟨b, 0, none⟩), .int .i64 (a : Int), .int .i64 (n : Int)] w fun e w' => ∃ v, e = .returned v ∧ Nw w w' v ((s.cur.drop a).take n) := by
  have hcl := h.rt.cl
  have hhi := h.rt.hi
  have hmk := make_bytes w n (by omega)
  have hrow0 := Rw.made w 5 (List.replicate n 0)
  have hfp0 : Fp Non w (w.alloc (.cells (Lib.byteCells (List.replicate n 0)).toArray 5)) := (Fp.refl Non w).alloc _
  obtain ⟨W0, hW0⟩ : ∃ W0, W0 = w.alloc (.cells (Lib.byteCells (List.replicate n 0)).toArray 5) := ⟨_, rfl⟩
  rw [← hW0] at hmk hrow0 hfp0
  clear hW0
  have hgl := h.row.lt
  have hne : g ≠ w.heap.size := by omega
  have HM := Lib.hid hmk
  have H0 := Lib.hid (And.intro h (And.intro hrow0 hfp0)); clear h hmk hrow0 hfp0 hgl
  go_enter Tryz.func53, Tryz.ntmps53
  go_wp2_with (refine wpList_make_run rfl 22 _ _ rfl _ _ _ rfl rfl HM.out ?_)
  go_loopw [8] (fun d wr => ∃ k : Nat, k ≤ n ∧ d = .int .i64 k ∧ Hid (Rw wr w.heap.size 5 (spl (List.replicate n 0) 0 ((s.cur.drop a).take k)) ∧ Fp Non w wr)) (fun d _ => n - (RowKit.intOf d).toNat)
  case atStart => exact ⟨0, Nat.zero_le _, rfl, by rw [List.take_zero, spl_nil]; exact ⟨H0.out.2.1, H0.out.2.2⟩⟩
  case round =>
    obtain ⟨k, hk, rfl, hR⟩ := hrel
    rename_i wr _
    by_cases hlt : k < n
    · have q1 : ((k : Int) < (n : Int)) = True := eq_true (by omega)
      obtain ⟨q, hqe⟩ : ∃ q, q = (a + k) / 16 := ⟨_, rfl⟩
      obtain ⟨f, hfe⟩ : ∃ f, f = (a + k) % 16 := ⟨_, rfl⟩
      have hqf : q * 16 + f = a + k := by omega
      have hf16 : f < 16 := by omega
      have hqn : q < s.wet.length := by omega
      have e1 : ((a : Int) + (k : Int)) / 16 = (q : Int) := by omega
      have e2 : ((a : Int) + (k : Int)) % 16 = (f : Int) := by omega
      have t1 : ((a : Int) + (k : Int)).tdiv 16 = (q : Int) := by rw [Int.tdiv_eq_ediv_of_nonneg (by omega)]; exact e1
      have t2 : ((a : Int) + (k : Int)).tmod 16 = (f : Int) := by rw [Int.tmod_eq_emod_of_nonneg (by omega)]; exact e2
      have d := H0.out.1.keep hR.out.2.drew (fun _ _ h => h)
      have c0 : wr.cell? ⟨b, 0, none⟩ = some (.slice (some ⟨g, 0, none⟩) s.wet.length s.wet.length) := d.c0
      obtain ⟨m, hm⟩ : ∃ m, m = Nat.min (16 - f) (n - k) := ⟨_, rfl⟩
      have hm1 : m ≤ 16 - f := by rw [hm]; exact Nat.min_le_left _ _
      have hm2 : m ≤ n - k := by rw [hm]; exact Nat.min_le_right _ _
      have hm0 : 0 < m := by have h1 : 0 < 16 - f := by omega
                             have h2 : 0 < n - k := by omega
                             rw [hm]; exact Nat.lt_min.2 ⟨h1, h2⟩
      have htl : ((s.cur.drop a).take k).length = k := by simp; omega
      have hsl : Sl wr.drew (.slice (some ⟨g, q * 16 + f, none⟩) (16 - f) (16 - f)) ((s.cur.drop (a + k)).take (16 - f)) := by
        rw [← hqf]; exact Sl.of_row d.row (q * 16 + f) (16 - f) (16 - f) (by omega) (Nat.le_refl _) (by unfold maxLen; omega)
      have hcp := copy_at (w := wr.drew) ⟨hR.out.1.hp⟩ k (n - k) (n - k) hsl m (by rw [hm]; congr 1; simp; omega) (by rw [spl_len _ _ _ (by simp; omega)]; simp; omega) (some ⟨w.heap.size, k, none⟩) (fun _ => rfl) 3
      have hnext : spl (spl (List.replicate n 0) 0 ((s.cur.drop a).take k)) k (((s.cur.drop (a + k)).take (16 - f)).take m) = spl (List.replicate n 0) 0 ((s.cur.drop a).take (k + m)) := by
        have := spl_spl (List.replicate n 0) 0 ((s.cur.drop a).take k) (((s.cur.drop (a + k)).take (16 - f)).take m) (by simp; omega)
        rw [Nat.zero_add, htl] at this
        rw [this, List.take_take, Nat.min_eq_left hm1, take_step]
      rw [hnext] at hcp
      have HC := Lib.hid hcp
      have HR := Lib.hid (And.intro hR (And.intro hm (And.intro hm1 (And.intro hm2 hm0))))
      have q2 : ((q : Int) < (s.wet.length : Int)) = True := eq_true (by omega)
      have q3 : (q < s.wet.length) = True := eq_true hqn
      have q4 : ((f : Int) < 16) = True := eq_true (by omega)
      have q5 : (k < n) = True := eq_true hlt
      have q6 : (n = k) = False := eq_false (by omega)
      have q7 := slice_blk g (q * 16) f hf16
      have HQ := Lib.hid (And.intro hqe (And.intro hfe (And.intro hqf (And.intro hf16 (And.intro hlt hk)))))
      clear hcp hsl htl hnext d hR hm hm1 hm2 hm0 hqe hfe hqf hqn
      go_wp2_with fail
      go_region_law (refine step_copy rfl _ _ _ _ rfl _ _ rfl rfl _ HC.out ?_; intro v' w2 hw2; have HW := Lib.hid hw2; obtain rfl := hw2.val; clear hw2)
      have hm2 := HR.out.2.2.2.1
      have hm0 := HR.out.2.2.2.2
      have hk2 := HQ.out.2.2.2.2.2
      have hsm : n ≤ 65536 := by omega
      have HX := Lib.hid (And.intro e1 (And.intro e2 (And.intro t1 (And.intro t2 (And.intro han (And.intro hcl hhi)))))); clear e1 e2 t1 t2 han hcl hhi
      have hwr : IntKind.i64.wrap ((k : Int) + (m : Int)) = ((k + m : Nat) : Int) := by rw [IntKind.wrap_i64]; omega
      simp only [List.getElem_toArray, List.getElem_cons_succ, List.getElem_cons_zero, hwr]
      go_frame
      go_wp2
      go_roundw
      case rel => exact ⟨k + m, by omega, by go_num, HW.out.row, HR.out.1.out.2.drew.trans HW.out.fp (fun j hj => .inr (by omega))⟩
      case measure => simp [RowKit.intOf]; omega
    · have q1 : ((k : Int) < (n : Int)) = False := eq_false (by omega)
      have hkn : k = n := by omega
      have hN : Nw w wr (.slice (some ⟨w.heap.size, 0, none⟩) n n) ((s.cur.drop a).take n) := by
        have hrow := hR.out.1
        have hlen : ((s.cur.drop a).take n).length = n := by simp; omega
        have hsp : spl (List.replicate n 0) 0 ((s.cur.drop a).take n) = (s.cur.drop a).take n := by
          exact spl_all _ _ (by rw [hlen]; simp)
        rw [hkn, hsp] at hrow
        have := Nw.of_row hrow (Nat.le_refl _) (by rw [hlen]; unfold maxLen; omega) hR.out.2
        rwa [hlen] at this
      have HN := Lib.hid hN
      clear hN hR hkn hlt hk han hcl hhi
      go_wp2
      go_ret
      exact ⟨_, rfl, HN.out⟩
end Go.Proofs.YtankfmlafmjaeaaGreat
