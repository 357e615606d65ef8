/- The document's Loose and Same. -/
import Derived.Test.YtankfmlafmjaeaaGreatEb
namespace Go.Proofs.YtankfmlafmjaeaaGreat
set_option maxRecDepth 20000
open Go.RowKit Pm

abbrev ics (L : List Nat) : List Value := L.map fun (i : Nat) => Value.int .i64 (i : Int)
def lt (wet : List Bool) (k : Nat) : List Nat := (List.range k).filter fun i => wet.getD i false
theorem lt_all (wet : List Bool) : lt wet wet.length = loose wet := rfl
theorem lt_step (wet : List Bool) (k : Nat) (h : k < wet.length) : lt wet (k + 1) = if wet[k] then lt wet k ++ [k] else lt wet k := by
  unfold lt
  rw [List.range_succ, List.filter_append]
  by_cases hw : wet[k] = true
  · rw [if_pos hw]; simp [h, hw]
  · rw [if_neg hw]; simp [h, hw]
theorem lt_len (wet : List Bool) (k : Nat) : (lt wet k).length ≤ k := by
  unfold lt
  have := List.length_filter_le (fun i => wet.getD i false) (List.range k)
  rwa [List.length_range] at this

theorem Tryz.infoInt : (Tryz.prog.info? 3).map (fun i => (i.zero, i.size, i.bytes)) = some (some (.int .i64 0), 1, 8) := by kernel_rfl

structure AppI (lo : Nat) (w : World) (v : Value) (L : List Nat) (v' : Value) (w' : World) : Prop where
  own : w'.ownsRow lo 3 1 v' L.length (ics L)
  grown : w.grownBy w' v.ownBlock
/-- append(v, i). -/
theorem app_int (w : World) (lo : Nat) (v : Value) (L : List Nat) (i : Nat) (ty : TypeId) (ho : w.ownsRow lo 3 1 v L.length (ics L)) (hn : L.length ≤ 1000000) (hlo : lo ≤ w.heap.size) :
    ∃ v' w', (Builtin.append_ #[81, 81] ty #[v, .slice (some ⟨w.heap.size, 0, none⟩) 1 1]).run Tryz.prog (w.alloc (.cells #[.int .i64 (i : Int)] 3)) = .ok v' w' ∧
      AppI lo (w.alloc (.cells #[.int .i64 (i : Int)] 3)) v (L ++ [i]) v' w' := by
  obtain ⟨ii, hi, hz, hsz, hby⟩ := info_parts Tryz.infoInt
  obtain ⟨v', w', hr, h4, h5, _, _⟩ := run_append_own_at (P := Tryz.prog) (w.alloc (.cells #[.int .i64 (i : Int)] 3)) lo 81 ty 3 ii (.int .i64 0) 1 8 Tryz.underlying81 hi hz hsz hby rfl (by decide) v L.length (ics L) (ho.alloc _)
      ⟨w.heap.size, 0, none⟩ 1 1 [.int .i64 (i : Int)] rfl
      (fun j u hu => by
        have hj : j < 1 := by have := (List.getElem?_eq_some_iff.1 hu).1; simpa using this
        obtain rfl : j = 0 := by omega
        have hu : some (Value.int .i64 (i : Int)) = some u := hu
        injection hu with hu
        subst hu
        rw [Addr.add_lit]
        simp)
      (fun u hu => by simp at hu; subst hu; rfl) (by unfold maxLen; omega) (by omega) (by simp; omega)
  exact ⟨v', w', hr, by rw [List.length_append, show ics (L ++ [i]) = ics L ++ [.int .i64 (i : Int)] by simp [ics]]; exact h4, h5⟩

theorem wrap_one' (i : Nat) (h : i < 4096) : wrap64 ((i : Int) + 1) = ((i + 1 : Nat) : Int) := by unfold wrap64; omega

set_option maxHeartbeats 1000000 in
theorem RLoose_c {lo : Nat} {p : At} {s : Dk} {w : World} (h : Rf lo p s w) :
    Calls Tryz.prog 45 #[.pointer (some ⟨p.b, 0, none⟩)] w fun e w' => ∃ v, e = .returned v ∧ Nl w w' v (loose s.wet) := by
  have hhi := h.rt.hi
  have HH := Lib.hid (And.intro h hhi); clear h hhi
  go_enter Tryz.func45, Tryz.ntmps45
  go_wp2_with fail
  go_loopw [3, 4] (fun o i wr => ∃ k : Nat, k ≤ s.wet.length ∧ i = .int .i64 k ∧ ∃ v, o = v ∧ Hid (wr.ownsRow w.heap.size 3 1 v (lt s.wet k).length (ics (lt s.wet k)) ∧ Fp Non w wr)) (fun _ i _ => s.wet.length - (RowKit.intOf i).toNat)
  case atStart => exact ⟨0, Nat.zero_le _, rfl, _, rfl, World.ownsRow_nil _ _ _ _, Fp.refl _ _⟩
  case round =>
    obtain ⟨k, hk, rfl, o, rfl, hR⟩ := hrel
    rename_i wr _
    have hn := HH.out.1.keep hR.out.2 (fun _ _ h => h)
    have c2 := hn.c2
    by_cases hlt : k < s.wet.length
    · have cw := hn.wet.cell k (by simp [wcs]; exact hlt)
      have g1 : ((k : Int) < (s.wet.length : Int)) = True := eq_true (by omega)
      have g2 : (k < s.wet.length) = True := eq_true hlt
      have hst := lt_step s.wet k hlt
      have hcw : (wcs s.wet)[k]'(by simp [wcs]; exact hlt) = .bool s.wet[k] := by simp [wcs]
      rw [hcw] at cw
      clear hcw
      have happ := app_int wr w.heap.size u3 (lt s.wet k) k 81 hR.out.1 (by have := lt_len s.wet k; have := HH.out.2; omega) hR.out.2.size
      generalize s.wet[k] = x at cw hst
      have HK := Lib.hid (And.intro hlt (And.intro hst (wrap_one' k (Nat.lt_of_lt_of_le hlt HH.out.2))))
      have HA := Lib.hid happ
      clear hlt hk hst hn happ
      cases x with
      | true =>
        go_wp2_with (at_builtin; go_must (refine wpList_app rfl _ _ _ _ rfl _ _ rfl rfl _ HA.out ?_))
        intro v' w' hA
        have hf : Fp Non w w' := (hR.out.2.alloc _).grown hA.grown (fun j hj => .inr (hR.out.1.lt j hj).1)
        have HN := Lib.hid (And.intro hA.own hf); clear hA hf
        go_wp2
        go_roundw
        case rel => exact ⟨k + 1, HK.out.1, congrArg (Value.int .i64) HK.out.2.2, _, rfl, by rw [HK.out.2.1]; exact HN.out.1, HN.out.2⟩
        case measure => have := HK.out.1; rw [HK.out.2.2]; simp [RowKit.intOf]; omega
      | false =>
        go_wp2
        go_roundw
        case rel => exact ⟨k + 1, HK.out.1, congrArg (Value.int .i64) HK.out.2.2, _, rfl, by rw [HK.out.2.1]; exact hR.out.1, hR.out.2⟩
        case measure => have := HK.out.1; rw [HK.out.2.2]; simp [RowKit.intOf]; omega
    · have hke : k = s.wet.length := Nat.le_antisymm hk (Nat.not_lt.1 hlt)
      subst hke
      have g1 : ((s.wet.length : Int) < (s.wet.length : Int)) = False := eq_false (Int.lt_irrefl _)
      clear hk hlt hn
      go_wp2
      go_ret
      exact ⟨_, rfl, hR.out.1, hR.out.2⟩

/-- Slices of numbers that read as L. -/
structure Si (w : World) (v : Value) (L : List Nat) : Prop where
  ex : ∃ ao cap, v = .slice ao L.length cap ∧ (0 < L.length → ∃ g, ao = some ⟨g, 0, none⟩ ∧ ∀ j (hj : j < L.length), w.cell? ⟨g, j, none⟩ = some (.int .i64 (L[j] : Int)))
theorem Nl.si {w w' : World} {v : Value} {L : List Nat} (h : Nl w w' v L) : Si w' v L := by
  obtain ⟨ao, cap, e, hc⟩ := h.cells
  exact ⟨ao, cap, e, fun h0 => by obtain ⟨g, e, _, hc⟩ := hc h0; exact ⟨g, e, hc⟩⟩
theorem Nl.si_keep {w w' w2 : World} {v : Value} {L : List Nat} (h : Nl w w' v L) (f : Fp Non w' w2) : Si w2 v L := by
  obtain ⟨ao, cap, e, hc⟩ := h.cells
  exact ⟨ao, cap, e, fun h0 => by obtain ⟨g, e, _, hc⟩ := hc h0; exact ⟨g, e, fun j hj => f.cell (hc j hj) (fun h => h)⟩⟩

end Go.Proofs.YtankfmlafmjaeaaGreat
