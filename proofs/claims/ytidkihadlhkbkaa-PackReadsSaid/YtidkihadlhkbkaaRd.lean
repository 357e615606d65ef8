/- The reader of package pack: contracts over plain lists. -/
import Derived.Test.YtidkihadlhkbkaaWb
namespace Go.Proofs.Ytidkihadlhkbkaa
open Go.RowKit Pm

abbrev TI : TypeId := 59

theorem val_take_succ (l : Bs) (k : Nat) (h : k < l.length) : val (l.take (k + 1)) = val (l.take k) * 128 + l[k].toNat % 128 := by
  rw [List.take_succ_eq_append_getElem h, val_snoc]
theorem val_lt : ∀ (k : Nat) (l : Bs), l.length ≤ k → val l < 128 ^ k := by
  intro k
  induction k with
  | zero => intro l h; have : l = [] := List.eq_nil_of_length_eq_zero (by omega)
            subst this; simp [val]
  | succ k ih =>
    intro l h
    by_cases h0 : l = []
    · subst h0; rw [val_nil]; exact Nat.pow_pos (by omega)
    · obtain ⟨b, c, rfl⟩ : ∃ b c, l = b ++ [c] := ⟨_, _, (List.dropLast_concat_getLast h0).symm⟩
      have := ih b (by simpa using h)
      rw [val_snoc, Nat.pow_succ]; omega

set_option maxHeartbeats 400000 in
theorem numLen_c (l : Bs) (w : World) (hl : l.length ≤ 9223372036854775807) :
    Calls Try.prog 36 #[.string (B l)] w fun e w' => e = .returned (.int .i64 ((lead 7 l + 1 : Nat) : Int)) ∧ w = w' := by
  go_enter Try.func36, Try.ntmps36
  go_wp2_with fail
  go_loop [3] (fun n => ∃ k : Nat, k ≤ 7 ∧ k ≤ l.length ∧ n = .int .i64 k ∧ Hid (∀ i (h : i < l.length), i < k → 128 ≤ l[i].toNat)) (fun n => 7 - (intOf n).toNat)
  case atStart => exact ⟨0, by omega, by omega, rfl, fun i h hn => by omega⟩
  case round =>
    obtain ⟨k, hk, hkl, rfl, ha⟩ := hrel
    by_cases h1 : k < l.length
    · by_cases h2 : k < 7
      · by_cases h3 : 128 ≤ l[k].toNat
        · have h3' : (128 : Int) ≤ ((l[k].toNat : Nat) : Int) := by omega
          go_wp2
          go_round
          case rel => exact ⟨k + 1, by omega, by omega, by go_num, fun i hi hn => by
            by_cases hik : i = k
            · subst hik; exact h3
            · exact ha i hi (by omega)⟩
          case measure => simp [intOf]; omega
        · have h3' : ¬ (128 : Int) ≤ ((l[k].toNat : Nat) : Int) := by omega
          have hle : lead 7 l = k := lead_stop k l (by omega) (by omega) ha (Or.inr (Or.inr ⟨h1, by omega⟩))
          have HL := Lib.hid hle; clear hle
          go_wp2
          go_ret
          exact ⟨ret_int (by rw [HL.out]), rfl⟩
      · have hle : lead 7 l = k := lead_stop k l (by omega) (by omega) ha (Or.inl (by omega))
        have HL := Lib.hid hle; clear hle
        go_wp2
        go_ret
        exact ⟨ret_int (by rw [HL.out]), rfl⟩
    · have hle : lead 7 l = k := lead_stop k l (by omega) (by omega) ha (Or.inr (Or.inl (by omega)))
      have HL := Lib.hid hle; clear hle
      go_wp2
      go_ret
      exact ⟨ret_int (by rw [HL.out]), rfl⟩

set_option maxHeartbeats 400000 in
theorem value_c (l : Bs) (w : World) (hl : l.length ≤ 7) :
    Calls Try.prog 37 #[.string (B l)] w fun e w' => e = .returned (.int .i64 (val l)) ∧ w = w' := by
  go_enter Try.func37, Try.ntmps37
  go_wp2_with fail
  go_loop [3, 4, 7] (fun n _ i => ∃ k : Nat, k ≤ l.length ∧ i = .int .i64 k ∧ n = .int .i64 (val (l.take k))) (fun _ _ i => l.length - (intOf i).toNat)
  case atStart => exact ⟨0, by omega, rfl, rfl⟩
  case round =>
    obtain ⟨k, hk, rfl, rfl⟩ := hrel
    by_cases h1 : k < l.length
    · have hv := val_take_succ l k h1
      have hb := val_lt 6 (l.take k) (by rw [List.length_take]; omega)
      have hb2 : val (l.take (k + 1)) < 128 ^ 7 := val_lt 7 (l.take (k + 1)) (by rw [List.length_take]; omega)
      generalize hv0 : val (l.take (k + 1)) = v' at hv hb2
      have HV0 := Lib.hid hv0.symm; clear hv0
      generalize val (l.take k) = v at hv hb
      have HV := Lib.hid hv; clear hv
      have hc := l[k].toNat_lt
      have hb' : (v : Int) < 4398046511104 := by omega
      clear hb
      go_wp2
      go_round
      case rel => exact ⟨k + 1, by omega, by go_num, by rw [← HV0.out, HV.out]; congr 1⟩
      case measure => simp [intOf]; omega
    · have hke : k = l.length := by omega
      subst hke
      rw [List.take_length]
      go_wp2
      go_ret
      exact ⟨rfl, rfl⟩

/-- A reader: what is left, and the error. -/
structure Rr (lo b : Nat) (s : St) (w : World) : Prop where
  low : lo ≤ b
  blk : w.heap[b]? = some (.cells #[.string (B s.1), .int .i64 s.2] TI (0, 0))
def RrStep (lo b : Nat) (s : St) (w w' : World) : Prop := Rr lo b s w' ∧ Fp (fun k => k = b) w w'

theorem Rr.lt {lo b : Nat} {s : St} {w : World} (h : Rr lo b s w) : b < w.heap.size := (Array.getElem?_eq_some_iff.1 h.blk).1
theorem Rr.cell0 {lo b : Nat} {s : St} {w : World} (h : Rr lo b s w) : w.cell? ⟨b, 0, none⟩ = some (.string (B s.1)) := by simp [World.cell?, h.blk]
theorem Rr.cell1 {lo b : Nat} {s : St} {w : World} (h : Rr lo b s w) : w.cell? ⟨b, 1, none⟩ = some (.int .i64 s.2) := by simp [World.cell?, h.blk]
theorem Rr.free {lo b : Nat} {s : St} {w : World} (h : Rr lo b s w) : w.frozen? ⟨b, 0, none⟩ = false ∧ w.frozen? ⟨b, 1, none⟩ = false := by
  have := h.blk; constructor <;> simp [World.frozen?, this]
theorem Rr.keep {lo b : Nat} {s : St} {w w' : World} (h : Rr lo b s w) {S : Nat → Prop} (f : Fp S w w') (hS : ¬ S b) : Rr lo b s w' := ⟨h.low, f.heap h.blk hS⟩
theorem RrStep.refl {lo b : Nat} {s : St} {w : World} (h : Rr lo b s w) : RrStep lo b s w w := ⟨h, Fp.refl _ _⟩
theorem RrStep.drewN {lo b : Nat} {s : St} {w w' : World} (h : RrStep lo b s w w') (n : Nat) : RrStep lo b s w (w'.drewN n) := ⟨⟨h.1.low, h.1.blk⟩, h.2.drewN n⟩
theorem RrStep.put0 {lo b : Nat} {s : St} {w w' : World} (h : RrStep lo b s w w') (l : Bs) : RrStep lo b (l, s.2) w (w'.setCell ⟨b, 0, none⟩ (.string (B l))) :=
  ⟨⟨h.1.low, by have := h.1.blk; simp [World.setCell, Array.getElem?_modify, this]⟩, h.2.setCell (p := ⟨b, 0, none⟩) (.inl rfl) _⟩
theorem RrStep.put1 {lo b : Nat} {s : St} {w w' : World} (h : RrStep lo b s w w') (e : Int) : RrStep lo b (s.1, e) w (w'.setCell ⟨b, 1, none⟩ (.int .i64 e)) :=
  ⟨⟨h.1.low, by have := h.1.blk; simp [World.setCell, Array.getElem?_modify, this]⟩, h.2.setCell (p := ⟨b, 1, none⟩) (.inl rfl) _⟩

theorem B_nil : B [] = ⟨#[]⟩ := rfl

/-- The frame at the place to which errors jump. -/
def NextFrame (b : Nat) (err : Int) (a : Act) : Prop := ∃ u1 u2 u3 u4 u5 u6 u7 u8 u10 u11 u12 u13 u14 u15 u16 u17 u18 u19 u20 u21 u22 u23 u24 u25 u26 u27 u28 u29 u30 u31 u32 u33 u34 u35 u36 u37 u38 u39 u40 u41 u42 u43 u44 u45 u46 u47 u48 u49 u50 u51 u52 u53 u54 u55 u56 u57 u58 u59 u60 u61 u62 u63 u64 u65 u66 u67 u68 u69 u70 u71 u72 u73 u74 u75 : Value, a = { tmps := #[.pointer (some ⟨b, 0, none⟩), u1, u2, u3, u4, u5, u6, u7, u8, .int .i64 err, u10, u11, u12, u13, u14, u15, u16, u17, u18, u19, u20, u21, u22, u23, u24, u25, u26, u27, u28, u29, u30, u31, u32, u33, u34, u35, u36, u37, u38, u39, u40, u41, u42, u43, u44, u45, u46, u47, u48, u49, u50, u51, u52, u53, u54, u55, u56, u57, u58, u59, u60, u61, u62, u63, u64, u65, u66, u67, u68, u69, u70, u71, u72, u73, u74, u75], defers := [] }

theorem B_ne (l : Bs) (h : 0 < l.length) : (B l = ⟨#[]⟩) = False := by
  simp only [eq_iff_iff, iff_false]; intro h'; have := congrArg ByteArray.size h'; rw [B_size] at this; change l.length = 0 at this; omega

end Go.Proofs.Ytidkihadlhkbkaa
