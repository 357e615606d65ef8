/- The live question of layer 9: its answer is true (gen_zd.py) -/
import Derived.Test.YtjdpbieifcjmiaaZc
import Derived.Test.YtjdpbieifcjmiaaZb
namespace Go.Proofs.Ytjdpbieifcjmiaa
set_option maxRecDepth 20000
set_option linter.unusedVariables false
set_option linter.unusedSimpArgs false
open Go.RowKit Pm


theorem path_len {p : Bs} (h : (split p).isSome = true) : p.length ≤ 100 := by
  obtain ⟨ps, hps⟩ := Option.isSome_iff_exists.1 h
  obtain ⟨hP, e⟩ := (split_iff _ _).1 hps
  have := joinP_len hP
  rwa [e] at this
theorem right_sz {d : Wd} (h : rightW d = true) (hs : d.ss.length ≤ 30000) : SzD d := by
  obtain ⟨h1, h2, h3⟩ := (right_iff d).1 h
  refine ⟨by omega, hs, fun x hx => ?_, fun s hs => ?_⟩
  · have := path_len ((rWt_iff x).1 (h2.1 x hx)).2.2
    omega
  · obtain ⟨_, h5, h6⟩ := (rSe_iff s).1 (h3.1 s hs)
    refine ⟨by omega, fun e he => ?_⟩
    obtain ⟨i, hi, rfl⟩ := List.mem_iff_getElem.1 he
    have h7 := h6 i hi
    unfold rEv at h7
    simp only [Bool.and_eq_true] at h7
    have := path_len h7.1.2
    omega
theorem Kp.wd {W : World} {v : Value} {d : Wd} (h : WdR W v d) : Kp (fun W' => WdR W' v d) W := fun W' f => h.non f
theorem Kp.ne {W : World} {v : Value} {l : List Ev} (h : NsE W v l) : Kp (fun W' => NsE W' v l) W := fun W' f => h.non f
theorem RetW.wd {d : Wd} {err : Int} {w : World} {e : Ending} {w' : World} (h : RetW d err w e w') : ∃ a c a2 c2, e = .returned (.tuple #[.agg #[.slice a d.ws.length c, .slice a2 d.ss.length c2], .int .i64 err]) ∧ WdR w' (.agg #[.slice a d.ws.length c, .slice a2 d.ss.length c2]) d := by
  obtain ⟨vw, vs, rfl, h1, h2⟩ := h.ex
  obtain ⟨a, c, rfl⟩ := h1.shape
  obtain ⟨a2, c2, rfl⟩ := h2.shape
  exact ⟨a, c, a2, c2, rfl, _, _, rfl, h1, h2⟩
theorem RetT.wd {d : Wd} {es : List Ev} {err : Int} {w : World} {e : Ending} {w' : World} (h : RetT d es err w e w') : ∃ a c a2 c2 a3 c3, e = .returned (.tuple #[.agg #[.slice a d.ws.length c, .slice a2 d.ss.length c2], .slice a3 es.length c3, .int .i64 err]) ∧ WdR w' (.agg #[.slice a d.ws.length c, .slice a2 d.ss.length c2]) d ∧ NsE w' (.slice a3 es.length c3) es := by
  obtain ⟨vw, vs, ve, rfl, h1, h2, h3⟩ := h.ex
  obtain ⟨a, c, rfl⟩ := h1.shape
  obtain ⟨a2, c2, rfl⟩ := h2.shape
  obtain ⟨a3, c3, rfl⟩ := h3.shape
  exact ⟨a, c, a2, c2, a3, c3, rfl, ⟨_, _, rfl, h1, h2⟩, h3⟩
def hdX : Wt := ⟨1, 5, [47, 97], true⟩
def hdA : Wd := ⟨[hdX], [⟨1, 0, []⟩]⟩
def hdE : Ev := ⟨1, 1, [47, 97, 47, 98], 5⟩
def hdB : Wd := ⟨[hdX], [⟨1, 1, [hdE]⟩]⟩
def hdC : Wd := ⟨[], [⟨1, 1, [hdE]⟩]⟩
theorem hd_add : addM ⟨[], []⟩ hdX = (hdA, 0) := by decide
theorem hd_tell : tellM hdA 1 [47, 97, 47, 98] = (hdB, 0) := by decide
theorem hd_take : takeM hdB 1 0 = (hdB, [hdE], 0) := by decide
theorem hd_close : closeM hdB 1 5 = (hdC, 0) := by decide
theorem hd_close2 : closeM hdC 1 5 = (hdC, 62) := by decide
theorem hd_tell2 : tellM hdA 9 [47, 97] = (⟨[], []⟩, 1) := by decide
theorem hd_ra : rightW hdA = true := by decide
theorem hd_rb : rightW hdB = true := by decide
theorem hd_rc : rightW hdC = true := by decide

set_option maxHeartbeats 8000000 in
theorem head_c (w : World) : Calls Try.prog 4 #[] w fun e w' => e = .returned (.bool true) ∧ Fp Non w w' := by
  have h1 := fun W => Add_w _ ⟨[], []⟩ hdX W (WdR.nil W) (right_sz nil_right (by simp)) (by decide)
  rw [hd_add] at h1
  have h2 := fun v W (h : WdR W v hdA) => Tell_w v hdA 1 [47, 97, 47, 98] W h (right_sz hd_ra (by decide)) (by decide)
  rw [hd_tell] at h2
  have h3 := fun v W (h : WdR W v hdB) => Take_w v hdB 1 0 W h (right_sz hd_rb (by decide))
  rw [hd_take] at h3
  have h4 := fun v W (h : WdR W v hdB) => Close_w v hdB 1 5 W h (right_sz hd_rb (by decide))
  rw [hd_close] at h4
  have h5 := fun v W (h : WdR W v hdC) => Close_w v hdC 1 5 W h (right_sz hd_rc (by decide))
  rw [hd_close2] at h5
  have h6 := fun v W (h : WdR W v hdA) => Tell_w v hdA 9 [47, 97] W h (right_sz hd_ra (by decide)) (by decide)
  rw [hd_tell2] at h6
  have h7 := fun v W (h : WdR W v hdB) => Right_w v hdB W h (right_sz hd_rb (by decide))
  rw [hd_rb] at h7
  have H1 := Lib.hid h1
  have H2 := Lib.hid h2
  have H3 := Lib.hid h3
  have H4 := Lib.hid h4
  have H5 := Lib.hid h5
  have H6 := Lib.hid h6
  have H7 := Lib.hid h7
  clear h1 h2 h3 h4 h5 h6 h7
  go_enter Try.func4, Try.ntmps4
  go_wp2_with fail
  refine (H1.out _).mono ?_
  rintro e w1 hR
  obtain ⟨a1, c1, x1, y1, rfl, hw⟩ := hR.wd
  rw [show List.length hdA.ws = 1 from rfl, show List.length hdA.ss = 1 from rfl] at hw ⊢
  have G1 := Lib.hid (Kp.and (Kp.wd hw) (Kp.fp hR.fp))
  have hbx := heap_alloc_new w1 (.cells #[.slice a1 1 c1, .slice x1 1 y1] TD)
  have hfa := fp_alloc w1 (.cells #[.slice a1 1 c1, .slice x1 1 y1] TD)
  have K1 := Lib.hid (Kp.and (Kp.row hbx) (G1.out.later hfa))
  clear hR hw hbx hfa G1 
  have z1 := boxP2 K1.out.now.1
  obtain ⟨p0, p1⟩ := z1
  go_wp2_with fail
  refine (H2.out _ _ K1.out.now.2.1).mono ?_
  rintro e w2 hR
  obtain ⟨a2, c2, x2, y2, rfl, hw⟩ := hR.wd
  rw [show List.length hdB.ws = 1 from rfl, show List.length hdB.ss = 1 from rfl] at hw ⊢
  have G2 := Lib.hid (Kp.and (Kp.wd hw) (K1.out.later hR.fp))
  have hbx := heap_alloc_new w2 (.cells #[.slice a2 1 c2, .slice x2 1 y2] TD)
  have hfa := fp_alloc w2 (.cells #[.slice a2 1 c2, .slice x2 1 y2] TD)
  have K2 := Lib.hid (Kp.and (Kp.row hbx) (G2.out.later hfa))
  clear hR hw hbx hfa G2 K1
  clear p0 p1
  obtain ⟨p0, p1⟩ := boxP2 K2.out.now.1
  go_wp2_with fail
  refine (H3.out _ _ K2.out.now.2.1).mono ?_
  rintro e w3 hR
  obtain ⟨a3, c3, x3, y3, le, lc, rfl, hw, hl⟩ := hR.wd
  rw [show List.length hdB.ws = 1 from rfl, show List.length hdB.ss = 1 from rfl] at hw ⊢
  rw [show List.length [hdE] = 1 from rfl] at hl ⊢
  have G3 := Lib.hid (Kp.and (Kp.wd hw) (Kp.and (Kp.ne hl) (K2.out.later hR.fp)))
  have hbx := heap_alloc_new w3 (.cells #[.slice a3 1 c3, .slice x3 1 y3] TD)
  have hfa := fp_alloc w3 (.cells #[.slice a3 1 c3, .slice x3 1 y3] TD)
  have K3 := Lib.hid (Kp.and (Kp.row hbx) (G3.out.later hfa))
  clear hR hw hbx hfa G3 hl K2
  clear p0 p1
  obtain ⟨p0, p1⟩ := boxP2 K3.out.now.2.2.2.1
  go_wp2_with fail
  refine (H4.out _ _ K3.out.now.2.2.2.2.1).mono ?_
  rintro e w4 hR
  obtain ⟨a4, c4, x4, y4, rfl, hw⟩ := hR.wd
  rw [show List.length hdC.ws = 0 from rfl, show List.length hdC.ss = 1 from rfl] at hw ⊢
  have G4 := Lib.hid (Kp.and (Kp.wd hw) (K3.out.later hR.fp))
  have hbx := heap_alloc_new w4 (.cells #[.slice a4 0 c4, .slice x4 1 y4] TD)
  have hfa := fp_alloc w4 (.cells #[.slice a4 0 c4, .slice x4 1 y4] TD)
  have K4 := Lib.hid (Kp.and (Kp.row hbx) (G4.out.later hfa))
  clear hR hw hbx hfa G4 K3
  clear p0 p1
  obtain ⟨p0, p1⟩ := boxP2 K4.out.now.1
  go_wp2_with fail
  refine (H5.out _ _ K4.out.now.2.1).mono ?_
  rintro e w5 hR
  obtain ⟨a5, c5, x5, y5, rfl, hw⟩ := hR.wd
  rw [show List.length hdC.ws = 0 from rfl, show List.length hdC.ss = 1 from rfl] at hw ⊢
  have G5 := Lib.hid (Kp.and (Kp.wd hw) (K4.out.later hR.fp))
  have hbx := heap_alloc_new w5 (.cells #[.slice a5 0 c5, .slice x5 1 y5] TD)
  have hfa := fp_alloc w5 (.cells #[.slice a5 0 c5, .slice x5 1 y5] TD)
  have K5 := Lib.hid (Kp.and (Kp.row hbx) (G5.out.later hfa))
  clear hR hw hbx hfa G5 K4
  clear p0 p1
  obtain ⟨p0, p1⟩ := boxP2 K5.out.now.2.2.2.2.2.2.2.2.2.1
  go_wp2_with fail
  refine (H6.out _ _ K5.out.now.2.2.2.2.2.2.2.2.2.2.1).mono ?_
  rintro e w6 hR
  obtain ⟨a6, c6, x6, y6, rfl, hw⟩ := hR.wd
  simp only [List.length_nil]
  have hbx := heap_alloc_new w6 (.cells #[.slice a6 0 c6, .slice x6 0 y6] TD)
  have hfa := fp_alloc w6 (.cells #[.slice a6 0 c6, .slice x6 0 y6] TD)
  have K6 := Lib.hid ((K5.out.later hR.fp).later hfa)
  clear hR hw hbx hfa K5 p0 p1
  obtain ⟨g, o, cc, e, _, _, _, hcell⟩ := K6.out.now.2.2.2.2.2.2.1.at (by decide)
  injection e with e1 e2 e3
  subst e1 e3
  try clear e2
  have hnd := hcell 0 (by decide)
  have c0 := hnd.c0; have c1 := hnd.c1; have c2 := hnd.c2; have c3 := hnd.c3
  rw [Nat.zero_mul, Nat.add_zero] at c0 c1 c2 c3
  simp only [List.getElem_cons_zero, hdE, strV, B] at c0 c1 c2 c3
  obtain ⟨p0, p1⟩ := boxP2 K6.out.now.2.2.2.2.2.2.2.1
  have HR := Lib.hid (H7.out _ _ K6.out.now.2.2.2.2.2.2.2.2.1)
  clear hcell hnd
  go_wp2_with fail
  refine HR.out.mono ?_
  rintro e w7 ⟨rfl, hf⟩
  have F := Lib.hid (K6.out.now.2.2.2.2.2.2.2.2.2.2.2.then hf)
  clear hf
  go_wp2
  go_ret
  exact ⟨rfl, F.out⟩
end Go.Proofs.Ytjdpbieifcjmiaa
