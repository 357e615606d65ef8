/- Loose: the loose sectors, sorted. -/
import Derived.Test.YtkpcpnlfbajbiaaSy
import Derived.Test.YtkpcpnlfbajbiaaSh
namespace Go.Proofs.Ytkpcpnlfbajbiaa
set_option maxRecDepth 20000
open Go.RowKit Pm Go.Maps Go.Sort Go.Shelf

abbrev FK : Nat := 40
abbrev FI : Nat := 47
abbrev FS : Nat := 39

theorem sorts (m : Nat) : AnyZI.SortsIn Try.prog Try.sortedA_ren Fence.wide m :=
  ⟨fun blk off cap ss W hH hblk hsz => callsIn_wide.2 (AnyM.slices_Sort_int Try.sortA blk off cap ss W hH hblk hsz),
   fun p cap W => callsIn_wide.2 (AnyM.slices_Sort_int_none Try.sortA p cap W)⟩

theorem Keys_c (mb : Option Nat) (W : World) : Calls Try.prog 40 #[.map mb] W fun e w' => e = .returned (.func (.func 47) #[] #[.pointer (some ⟨W.heap.size, 0, none⟩)]) ∧ w' = W.alloc (.cells #[.map mb] TM) :=
  (callsIn_wide (n := 5)).1 (AnyZI.keys_in Try.keysA Fence.wide 5 trivial rfl mb W)

set_option maxHeartbeats 1000000 in
theorem Sorted_c (b : Nat) (wet : List Bool) (old : Bs) (w : World) (h : Mp w b wet old) (hw : wet.length ≤ 4096) :
    Calls Try.prog 39 #[.func (.func 47) #[] #[.pointer (some ⟨w.heap.size, 0, none⟩)]] (w.alloc (.cells #[.map (some b)] TM)) fun e w' => ∃ v, e = .returned v ∧
      w'.ownsRow w.heap.size TK 1 v (loose wet).length ((loose wet).map fun (i : Nat) => .int .i64 (i : Int)) ∧ Fp Non w w' := by
  obtain ⟨D, hm⟩ := h
  have hsz := hm.size
  have hown := hm.own
  have hbl := hown.lt
  have hseq : SeqGives Fence.wide 2 Try.prog 47 #[.pointer (some ⟨w.heap.size, 0, none⟩)] encZ (fun ss => ss.Perm (intKeys D)) (Maps.size D) (w.alloc (.cells #[.map (some b)] TM)) :=
    AnyZI.keys_gives (ρ := Try.keysA_ren) { Try.keysA with } Fence.wide _ trivial rfl (by omega) w.heap.size b _ D _ (by simp) (by simp) (by
      obtain ⟨es, clock, hb, Ft, hs, hD⟩ := hown
      exact ⟨es, clock, (Below.heap_alloc _ _ b hbl).trans hb, Ft, hs, hD⟩)
  have cS := AnyZI.sorted_in Try.sortedA Fence.wide 5 trivial trivial trivial trivial rfl (by omega) (sorts _) (enters_of Try.func46 (by kernel_rfl) rfl) 47 #[.pointer (some ⟨w.heap.size, 0, none⟩)] trivial (enters_of Try.func47 (by kernel_rfl) rfl) _ _ (by unfold maxLen; omega) (by omega) _ hseq
  change CallsIn _ _ Try.prog 39 _ _ _ at cS
  refine (callsIn_wide.1 cS).mono ?_
  rintro e w' ⟨v, ss, rfl, hS, hrow, hnil, hb⟩
  have hlen : ss.length = (loose wet).length := by
    rw [(hS.trans hm.keys.symm).length_eq, List.length_map]
  refine ⟨v, rfl, ?_, ?_⟩
  · have := ownsRow_base_a hrow (show w.heap.size ≤ _ by simp)
    rw [hlen] at this
    have hs := hm.sorted hS
    have e : (ss.mergeSort (fun x y => decide (x ≤ y))).map encZ = (loose wet).map fun (i : Nat) => Value.int .i64 (i : Int) := by
      have : ss.mergeSort (fun x y => decide (x ≤ y)) = ss.mergeSort leI := rfl
      rw [this, hs, List.map_map]
      rfl
    rw [e] at this
    exact this
  · exact ((Fp.refl Non w).alloc _).then (Fp.of_below hb)

/-- A slice of numbers of the call's own. -/
structure Nl (w w' : World) (v : Value) (l : List Nat) : Prop where
  own : w'.ownsRow w.heap.size TK 1 v l.length (l.map fun (i : Nat) => .int .i64 (i : Int))
  fp : Fp Non w w'

theorem Loose_c {lo b g m : Nat} {s : Dk} {w : World} (h : Dr lo b g m s w) :
    Calls Try.prog 27 #[.pointer (some ⟨b, 0, none⟩)] w fun e w' => ∃ v, e = .returned v ∧ Nl w w' v (loose s.wet) := by
  have c1 := h.c1
  have hS := Sorted_c m s.wet s.old w h.mp h.rt.hi
  have HS := Lib.hid hS
  clear h hS
  go_enter Try.func27, Try.ntmps27
  go_wp2_with fail
  refine (Keys_c _ _).mono ?_
  rintro e w1 ⟨rfl, rfl⟩
  go_wp2_with fail
  refine HS.out.mono ?_
  rintro e w2 ⟨v, rfl, hv, hf⟩
  have HV := Lib.hid (Nl.mk hv hf)
  clear hv hf
  go_wp2
  go_ret
  exact ⟨_, rfl, HV.out⟩
end Go.Proofs.Ytkpcpnlfbajbiaa
