/- The log: what it holds; its small methods. -/
import Derived.Test.YtankfmlafmjaeaaGreatFf
import Derived.Test.YtankfmlafmjaeaaGreatSy
namespace Go.Proofs.YtankfmlafmjaeaaGreat
set_option maxRecDepth 20000
open Go.RowKit Pm

abbrev TL : TypeId := 66

/-- A log: its struct in block q, its disk's struct in block b. -/
structure Lr (lo q b : Nat) (l : Lg) (v : Value) (w : World) : Prop where
  low : lo ≤ q
  blk : w.heap[q]? = some (.cells #[.pointer (some ⟨b, 0, none⟩), .int .i64 (l.ar : Int), v] TL (0, 0))
  os : Os lo w v l.rs
  ne : ∀ k, v.ownBlock = some k → k ≠ q
def ownL (q : Nat) (v : Value) : Nat → Prop := fun k => k = q ∨ v.ownBlock = some k

/-- Of a log on that disk. -/
structure Lk (s : Dk) (l : Lg) : Prop where
  big : 16 ≤ hf s.cur
  ar : l.ar < 2
  fit : usd l.rs ≤ hf s.cur
  sm : ∀ r ∈ l.rs, r.length ≤ 16384

section
variable {lo lo' q b g m : Nat} {l : Lg} {v : Value} {s : Dk} {w w' : World}
theorem Lr.lt (h : Lr lo q b l v w) : q < w.heap.size := (Array.getElem?_eq_some_iff.1 h.blk).1
theorem Lr.all (h : Lr lo q b l v w) : ∀ k, ownL q v k → lo ≤ k ∧ k < w.heap.size := by
  rintro k (rfl | hk)
  · exact ⟨h.low, h.lt⟩
  · exact h.os.block k hk
theorem Lr.keep (h : Lr lo q b l v w) {S : Nat → Prop} (f : Fp S w w') (hS : ∀ k, ownL q v k → ¬ S k) : Lr lo q b l v w' :=
  ⟨h.low, f.heap h.blk (hS q (.inl rfl)), h.os.keep f (fun k hk => hS k (.inr hk)), h.ne⟩
theorem Lr.c0 (h : Lr lo q b l v w) : w.cell? ⟨q, 0, none⟩ = some (.pointer (some ⟨b, 0, none⟩)) := by simp [World.cell?, h.blk]
theorem Lr.c1 (h : Lr lo q b l v w) : w.cell? ⟨q, 1, none⟩ = some (.int .i64 (l.ar : Int)) := by simp [World.cell?, h.blk]
theorem Lr.c2 (h : Lr lo q b l v w) : w.cell? ⟨q, 2, none⟩ = some v := by simp [World.cell?, h.blk]
theorem Lr.fz (h : Lr lo q b l v w) (j : Nat) : w.frozen? ⟨q, j, none⟩ = false := by have := h.blk; simp [World.frozen?, this]
theorem Pm.Rt.curlen (h : Rt s) : s.cur.length = s.wet.length * 16 ∧ 1 ≤ s.wet.length ∧ s.wet.length ≤ 4096 := ⟨h.cl, h.lo, h.hi⟩
theorem Lk.few (h : Lk s l) (hr : Rt s) : l.rs.length ≤ 4096 ∧ hf s.cur ≤ 65536 := by
  have h1 := usd_ge l.rs
  have h2 := h.fit
  have h3 := hf_le s.cur
  have h4 := hr.curlen
  omega
end

theorem size_c {lo lo' q b g m : Nat} {l : Lg} {v : Value} {s : Dk} {w : World} (hd : Dr lo b g m s w) (hl : Lr lo' q b l v w) :
    Calls Tryz.prog 28 #[.pointer (some ⟨q, 0, none⟩)] w fun e w' => e = .returned (.int .i64 (hf s.cur : Int)) ∧ w' = w := by
  have c0 := hl.c0
  have hs := Size_c hd
  obtain ⟨e, h1, h2⟩ := hd.rt.curlen
  obtain ⟨n, hn⟩ : ∃ n, n = s.wet.length := ⟨_, rfl⟩
  rw [← hn] at e h1 h2
  obtain ⟨k, hk⟩ : ∃ k, k = (n - 1) / 2 := ⟨_, rfl⟩
  have hr : ((hf s.cur : Nat) : Int) = (k : Int) * 16 := by unfold hf; omega
  rw [hr]
  have e0 : ((s.cur.length : Nat) : Int) = (n : Int) * 16 := by omega
  rw [e0] at hs
  have t1 : ((n : Int) * 16).tdiv 16 = (n : Int) := by rw [Int.tdiv_eq_ediv_of_nonneg (by omega)]; omega
  have t2 : ((n : Int) * 16) / 16 = (n : Int) := by omega
  have t3 : ((n : Int) - 1).tdiv 2 = (k : Int) := by rw [Int.tdiv_eq_ediv_of_nonneg (by omega)]; omega
  have t4 : ((n : Int) - 1) / 2 = (k : Int) := by omega
  have hkb : k ≤ 4096 := by omega
  have HS := Lib.hid hs
  have HX := Lib.hid (And.intro hd (And.intro hl (And.intro e (And.intro hn hk))))
  clear hs hd hl e hn hk hr e0
  go_enter Tryz.func28, Tryz.ntmps28
  go_wp2_with (go_at_call 27; refine HS.out.mono ?_; rintro e w' ⟨rfl, rfl⟩)
  go_ret
  exact ⟨rfl, rfl⟩

theorem start_c {lo lo' q b g m : Nat} {l : Lg} {v : Value} {s : Dk} {w : World} (hd : Dr lo b g m s w) (hl : Lr lo' q b l v w) (a : Nat) (ha : a < 2) :
    Calls Tryz.prog 30 #[.pointer (some ⟨q, 0, none⟩), .int .i64 (a : Int)] w fun e w' => e = .returned (.int .i64 (st s.cur a : Int)) ∧ w' = w := by
  have hs := size_c hd hl
  have hle := hf_le s.cur
  have hcl := hd.rt.curlen
  obtain ⟨H, hH⟩ : ∃ H, H = hf s.cur := ⟨_, rfl⟩
  have hst : st s.cur a = 16 + a * H := by rw [hH]; rfl
  rw [hst]
  rw [← hH] at hs hle
  have hb : H ≤ 65536 := by omega
  have HS := Lib.hid hs
  have HX := Lib.hid (And.intro hd (And.intro hl (And.intro hle (And.intro hcl (And.intro hH hst)))))
  clear hs hd hl hle hcl hH hst
  rcases (show a = 0 ∨ a = 1 by omega) with rfl | rfl
  · clear ha
    go_enter Tryz.func30, Tryz.ntmps30
    go_wp2_with (go_at_call 28; refine HS.out.mono ?_; rintro e w' ⟨rfl, rfl⟩)
    go_ret
    first | exact ⟨rfl, rfl⟩ | (refine ⟨ret_int ?_, rfl⟩; omega)
  · clear ha
    go_enter Tryz.func30, Tryz.ntmps30
    go_wp2_with (go_at_call 28; refine HS.out.mono ?_; rintro e w' ⟨rfl, rfl⟩)
    go_ret
    first | exact ⟨rfl, rfl⟩ | (refine ⟨ret_int ?_, rfl⟩; omega)

set_option maxHeartbeats 1000000 in
theorem used_c {lo q b : Nat} {l : Lg} {v : Value} {w : World} (hl : Lr lo q b l v w) (hu : usd l.rs ≤ 100000) :
    Calls Tryz.prog 32 #[.pointer (some ⟨q, 0, none⟩)] w fun e w' => e = .returned (.int .i64 (usd l.rs : Int)) ∧ w' = w := by
  have c2 := hl.c2
  obtain ⟨ao, cap, rfl, hc⟩ := hl.os.cell
  have hge := usd_ge l.rs
  have hll : l.rs.length ≤ 100000 := by omega
  have HX := Lib.hid (And.intro hl hge)
  clear hl hge
  go_enter Tryz.func32, Tryz.ntmps32
  go_wp2_with fail
  go_loopw [3, 11] (fun n i wr => ∃ k : Nat, k ≤ l.rs.length ∧ i = .int .i64 k ∧ n = .int .i64 (usd (l.rs.take k) : Int) ∧ wr = w) (fun _ i _ => l.rs.length - (RowKit.intOf i).toNat)
  case atStart => exact ⟨0, Nat.zero_le _, rfl, rfl, rfl⟩
  case round =>
    obtain ⟨k, hk, rfl, rfl, rfl⟩ := hrel
    by_cases hlt : k < l.rs.length
    · obtain ⟨g, rfl, hcell⟩ := hc (by omega)
      have hck := hcell k hlt
      have hst := usd_take l.rs k hlt
      have hub : usd (l.rs.take (k + 1)) ≤ usd l.rs := by
        conv => rhs; rw [← List.take_append_drop (k + 1) l.rs, usd_app]
        omega
      have hul := (up_le (l.rs[k]).length).1
      have hrl : (l.rs[k]).length ≤ 100000 := by unfold ln at hst; omega
      have hle := length_c (l.rs[k]).length (by omega)
      have hlnb : ln (l.rs[k]).length ≤ 100000 := by omega
      have hpb : usd (l.rs.take k) ≤ 100000 := by omega
      unfold strV at hck
      generalize l.rs[k] = r at *
      generalize usd (l.rs.take k) = n at *
      have HL := Lib.hid hle
      have HC := Lib.hid (And.intro hcell hc)
      have HY := Lib.hid (And.intro hub (And.intro hst hul))
      clear hle hcell hub hst hul hc
      obtain ⟨L, hL⟩ : ∃ L, L = ln r.length := ⟨_, rfl⟩
      rw [← hL] at HL hlnb
      have HLL := Lib.hid hL
      clear hL
      go_wp2_with (go_at_call 46; refine (HL.out _).mono ?_; rintro e w' ⟨rfl, rfl⟩)
      go_roundw
      case rel => exact ⟨k + 1, by omega, by go_num, by rw [HY.out.2.1, ← HLL.out]; rfl, trivial⟩
      case measure => simp [RowKit.intOf]; omega
    · have hke : k = l.rs.length := by omega
      subst hke
      rw [List.take_length]
      clear hk hlt hc
      go_wp2
      go_ret
      exact ⟨rfl, rfl⟩

theorem end_c {lo lo' q b g m : Nat} {l : Lg} {v : Value} {s : Dk} {w : World} (hd : Dr lo b g m s w) (hl : Lr lo' q b l v w) (hk : Lk s l) :
    Calls Tryz.prog 36 #[.pointer (some ⟨q, 0, none⟩)] w fun e w' => e = .returned (.int .i64 ((st s.cur l.ar + usd l.rs : Nat) : Int)) ∧ w' = w := by
  have hs := start_c hd hl l.ar hk.ar
  have hcl := hd.rt.curlen
  have hst := st_le s.cur l.ar hk.ar hk.big
  have hfit := hk.fit
  have hu := used_c hl (by omega)
  have c1 := hl.c1
  obtain ⟨S, hS⟩ : ∃ S, S = st s.cur l.ar := ⟨_, rfl⟩
  obtain ⟨U, hU⟩ : ∃ U, U = usd l.rs := ⟨_, rfl⟩
  rw [← hS] at hs hst ⊢
  rw [← hU] at hu hfit ⊢
  have hb : S ≤ 65536 ∧ U ≤ 65536 := by omega
  obtain ⟨hb1, hb2⟩ := hb
  have HS := Lib.hid hs
  have HU := Lib.hid hu
  have HX := Lib.hid (And.intro hd (And.intro hl (And.intro hk (And.intro hcl (And.intro hst (And.intro hfit (And.intro hS hU)))))))
  clear hs hu hd hl hk hcl hst hfit hS hU
  go_enter Tryz.func36, Tryz.ntmps36
  go_wp2_with (first | (go_at_call 30; refine HS.out.mono ?_; rintro e w' ⟨rfl, rfl⟩) | (go_at_call 32; refine HU.out.mono ?_; rintro e w' ⟨rfl, rfl⟩))
  go_ret
  exact ⟨rfl, rfl⟩

theorem Room_c {lo lo' q b g m : Nat} {l : Lg} {v : Value} {s : Dk} {w : World} (hd : Dr lo b g m s w) (hl : Lr lo' q b l v w) (hk : Lk s l) :
    Calls Tryz.prog 21 #[.pointer (some ⟨q, 0, none⟩)] w fun e w' => e = .returned (.int .i64 (lRoom s l)) ∧ w' = w := by
  have hs := size_c hd hl
  have hle := hf_le s.cur
  have hcl := hd.rt.curlen
  have hfit := hk.fit
  have hu := used_c hl (by omega)
  obtain ⟨S, hS⟩ : ∃ S, S = hf s.cur := ⟨_, rfl⟩
  obtain ⟨U, hU⟩ : ∃ U, U = usd l.rs := ⟨_, rfl⟩
  have hr : lRoom s l = max 0 (min ((S : Int) - (U : Int) - 16) 16384) := by unfold lRoom; rw [hS, hU]
  rw [hr]
  rw [← hS] at hs hle hfit
  rw [← hU] at hu hfit
  have hb : S ≤ 65536 ∧ U ≤ 65536 := by omega
  obtain ⟨hb1, hb2⟩ := hb
  have HS := Lib.hid hs
  have HU := Lib.hid hu
  have HX := Lib.hid (And.intro hd (And.intro hl (And.intro hk (And.intro hcl (And.intro hle (And.intro hfit (And.intro hS (And.intro hU hr))))))))
  clear hs hu hd hl hk hcl hle hfit hS hU hr
  go_enter Tryz.func21, Tryz.ntmps21
  go_wp2_with (first | (go_at_call 28; refine HS.out.mono ?_; rintro e w' ⟨rfl, rfl⟩) | (go_at_call 32; refine HU.out.mono ?_; rintro e w' ⟨rfl, rfl⟩))
  all_goals go_ret
  all_goals (refine ⟨ret_int ?_, rfl⟩; omega)
end Go.Proofs.YtankfmlafmjaeaaGreat
