/- A text of this proof. -/
import Derived.Test.YtphoglepiegeiaaGreatDoorZAXDd
namespace Go.Proofs.YtphoglepiegeiaaGreatDoor
set_option linter.unusedSimpArgs false
set_option linter.unusedVariables false
set_option maxRecDepth 20000
set_option linter.unusedVariables false
set_option linter.unusedSimpArgs false
open Go.RowKit Pm
set_option maxHeartbeats 1000000 in
theorem rRightN_g (v : Value) (l : List Nd) (w : World) (hv : Ns w v l) (hs : Sp l) :
  Calls Tryz.prog 35 #[v] w fun e w' => e = .returned (.bool (right l)) ∧ Fp Non w w' := by
 by_cases h0 : 0 < l.length
 ·by_cases h5 : l.length ≤ 512
  ·by_cases hr : (l[0]'h0).path = [47]
   ·by_cases ho : (l[0]'h0).own = 0
    ·exact rRight_c v l w hv hs (by omega) h0 h5 hr ho
    ·have hf : right l = false := right_false (fun t => ho t.free)
     obtain ⟨g, o, cap, rfl, hlc, hcm, hgl, hcell⟩ := hv.at h0
     have hc0 := hcell 0 h0
     obtain ⟨n, hn⟩ : ∃ n, n = l.length := ⟨_, rfl⟩
     have q0 : w.cell? ⟨g, o, none⟩ = some (.string ⟨#[47]⟩) := by have := hc0.c0; rw [hr] at this; simpa [strV, B] using this
     obtain ⟨z, hz⟩ : ∃ z, z = (l[0]'h0).own := ⟨_, rfl⟩
     have q4 : w.cell? ⟨g, o + 4, none⟩ = some (.int .i64 z) := by have := hc0.c4; rw [← hz] at this; simpa using this
     have q1 : ((512 : Int) < (n : Int)) = False := eq_false (by omega)
     have q2 : ((n : Int) == 0) = false := beq_eq_false_iff_ne.2 (by omega)
     have q3 : (z != 0) = true := by rw [hz]; simpa using ho
     rw [hf, ← hn]
     have hn0 : 0 < n := by omega
     clear hv hlc hcm hc0 hcell hr ho hf hz hs h5 hn h0
     go_enter Tryz.func35, Tryz.ntmps35
     go_wp2
     go_ret
     exact ⟨rfl, Fp.refl _ _⟩
   ·have hf : right l = false := right_false (fun t => hr t.root)
    obtain ⟨g, o, cap, rfl, hlc, hcm, hgl, hcell⟩ := hv.at h0
    have hc0 := hcell 0 h0
    obtain ⟨n, hn⟩ : ∃ n, n = l.length := ⟨_, rfl⟩
    obtain ⟨p, hp⟩ : ∃ p, p = (l[0]'h0).path := ⟨_, rfl⟩
    have q0 : w.cell? ⟨g, o, none⟩ = some (.string (B p)) := by have := hc0.c0; rw [← hp] at this; simpa [strV] using this
    have q1 : ((512 : Int) < (n : Int)) = False := eq_false (by omega)
    have q2 : ((n : Int) == 0) = false := beq_eq_false_iff_ne.2 (by omega)
    have q3 : (p == [47]) = false := by rw [hp]; simpa using hr
    rw [hf, ← hn]
    have hn0 : 0 < n := by omega
    clear hv hlc hcm hc0 hcell hr hf hp hs h5 hn h0
    go_enter Tryz.func35, Tryz.ntmps35
    go_wp2
    go_ret
    exact ⟨rfl, Fp.refl _ _⟩
  ·have hf : right l = false := right_false (fun t => h5 t.most)
   obtain ⟨ao, cap, rfl⟩ := hv.shape
   obtain ⟨n, hn⟩ : ∃ n, n = l.length := ⟨_, rfl⟩
   have q1 : ((512 : Int) < (n : Int)) = True := eq_true (by omega)
   have q2 : ((n : Int) == 0) = false := beq_eq_false_iff_ne.2 (by omega)
   rw [hf, ← hn]
   clear hv hf hs h5 hn h0
   go_enter Tryz.func35, Tryz.ntmps35
   go_wp2
   go_ret
   exact ⟨rfl, Fp.refl _ _⟩
 ·have hf : right l = false := right_false (fun t => h0 t.pos)
  have h0' : l.length = 0 := by omega
  obtain ⟨ao, cap, rfl⟩ := hv.shape
  rw [hf, h0']
  clear hv hf hs h0 h0'
  go_enter Tryz.func35, Tryz.ntmps35
  go_wp2
  go_ret
  exact ⟨rfl, Fp.refl _ _⟩
end Go.Proofs.YtphoglepiegeiaaGreatDoor
