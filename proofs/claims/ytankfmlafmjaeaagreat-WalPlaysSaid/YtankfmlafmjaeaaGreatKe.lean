/- Loose: the loose sectors, sorted. -/
import Derived.Test.YtankfmlafmjaeaaGreatSy
import Derived.Test.YtankfmlafmjaeaaGreatSh
namespace Go.Proofs.YtankfmlafmjaeaaGreat
set_option maxRecDepth 20000
open Go.RowKit Pm Go.Maps Go.Sort Go.Shelf

abbrev FK : Nat := 66
abbrev FI : Nat := 78
abbrev FS : Nat := 65

theorem sorts (m : Nat) : AnyZI.SortsIn Tryz.prog Tryz.sortedA_ren Fence.wide m :=
  ⟨fun blk off cap ss W hH hblk hsz => callsIn_wide.2 (AnyM.slices_Sort_int Tryz.sortA blk off cap ss W hH hblk hsz),
   fun p cap W => callsIn_wide.2 (AnyM.slices_Sort_int_none Tryz.sortA p cap W)⟩

theorem Keys_c (mb : Option Nat) (W : World) : Calls Tryz.prog 66 #[.map mb] W fun e w' => e = .returned (.func (.func 78) #[] #[.pointer (some ⟨W.heap.size, 0, none⟩)]) ∧ w' = W.alloc (.cells #[.map mb] TM) :=
  (callsIn_wide (n := 5)).1 (AnyZI.keys_in Tryz.keysA Fence.wide 5 trivial rfl mb W)

set_option maxHeartbeats 1000000 in
theorem Sorted_c (b : Nat) (wet : List Bool) (old : Bs) (w : World) (h : Mp w b wet old) (hw : wet.length ≤ 4096) :
    Calls Tryz.prog 65 #[.func (.func 78) #[] #[.pointer (some ⟨w.heap.size, 0, none⟩)]] (w.alloc (.cells #[.map (some b)] TM)) fun e w' => ∃ v, e = .returned v ∧
      w'.ownsRow w.heap.size TK 1 v (loose wet).length ((loose wet).map fun (i : Nat) => .int .i64 (i : Int)) ∧ Fp Non w w' := by
  obtain ⟨D, hm⟩ := h
  have hsz := hm.size
  have hown := hm.own
  have hbl := hown.lt
  have hseq : SeqGives Fence.wide 2 Tryz.prog 78 #[.pointer (some ⟨w.heap.size, 0, none⟩)] encZ (fun ss => ss.Perm (intKeys D)) (Maps.size D) (w.alloc (.cells #[.map (some b)] TM)) :=
    AnyZI.keys_gives (ρ := Tryz.keysA_ren) { Tryz.keysA with } Fence.wide _ trivial rfl (by omega) w.heap.size b _ D _ (by simp) (by simp) (by
      obtain ⟨es, clock, hb, Ft, hs, hD⟩ := hown
      exact ⟨es, clock, (Below.heap_alloc _ _ b hbl).trans hb, Ft, hs, hD⟩)
  have cS := AnyZI.sorted_in Tryz.sortedA Fence.wide 5 trivial trivial trivial trivial rfl (by omega) (sorts _) (enters_of Tryz.func77 (by kernel_rfl) rfl) 78 #[.pointer (some ⟨w.heap.size, 0, none⟩)] trivial (enters_of Tryz.func78 (by kernel_rfl) rfl) _ _ (by unfold maxLen; omega) (by omega) _ hseq
  change CallsIn _ _ Tryz.prog 65 _ _ _ at cS
  refine (callsIn_wide.1 cS).mono ?_
  rintro e w' ⟨v, ss, rfl, hS, hrow, hnil, hb⟩
  have hlen : ss.length = (loose wet).length := by
    rw [(hS.trans hm.keys.symm).length_eq, List.length_map]
  refine ⟨v, rfl, ?_, ?_⟩
  · have := ownsRow_base_a hrow (show w.heap.size ≤ _ by simp)
    rw [hlen] at this
    have hs := hm.sorted hS
    have e : (ss.mergeSort (fun x y => decide (x ≤ y))).map encZ = (loose wet).map fun (i : Nat) => Value.int .i64 (i : Int) := by
      have : ss.mergeSort (fun x y => decide (x ≤ y)) = ss.mergeSort leI := rfl
      rw [this, hs, List.map_map]
      rfl
    rw [e] at this
    exact this
  · exact ((Fp.refl Non w).alloc _).then (Fp.of_below hb)

/-- A slice of numbers of the call's own. -/
structure Nl (w w' : World) (v : Value) (l : List Nat) : Prop where
  own : w'.ownsRow w.heap.size TK 1 v l.length (l.map fun (i : Nat) => .int .i64 (i : Int))
  fp : Fp Non w w'

theorem Loose_c {lo b g m : Nat} {s : Dk} {w : World} (h : Dr lo b g m s w) :
    Calls Tryz.prog 44 #[.pointer (some ⟨b, 0, none⟩)] w fun e w' => ∃ v, e = .returned v ∧ Nl w w' v (loose s.wet) := by
  have c1 := h.c1
  have hS := Sorted_c m s.wet s.old w h.mp h.rt.hi
  have HS := Lib.hid hS
  clear h hS
  go_enter Tryz.func44, Tryz.ntmps44
  go_wp2_with fail
  refine (Keys_c _ _).mono ?_
  rintro e w1 ⟨rfl, rfl⟩
  go_wp2_with fail
  refine HS.out.mono ?_
  rintro e w2 ⟨v, rfl, hv, hf⟩
  have HV := Lib.hid (Nl.mk hv hf)
  clear hv hf
  go_wp2
  go_ret
  exact ⟨_, rfl, HV.out⟩
end Go.Proofs.YtankfmlafmjaeaaGreat
