/- Texts of this proof, merged. -/
import Derived.Test.YtlmfinpmlilcgaaZT
set_option linter.unusedVariables false
set_option linter.unusedSimpArgs false
/- Get: a right command. (gen_gp.py) -/
namespace Go.Proofs.Ytlmfinpmlilcgaa
set_option maxRecDepth 20000
set_option linter.unusedVariables false
set_option linter.unusedSimpArgs false
open Go.RowKit Pm


set_option maxHeartbeats 32000000 in
theorem Get_ok (v : Value) (bs : Bs) (w : World) (hv : Sl w v bs) (hl : bs.length ≤ 1000000) (hh : stE (rCd (bs, 0)).2 = true) (hq : CdR (rCd (bs, 0)).1) :
    Calls Try.prog 11 #[v] w fun e w' => ∃ vc, e = .returned (.tuple #[vc, .int .i64 (getC bs).2]) ∧ CdW w' vc (getC bs).1 ∧ Fp Non w w' := by
  have hf1 := fp_alloc w (.cells #[.int .i64 0, .int .i64 0, .int .i64 0, .int .i64 0, .bool false, .slice none 0 0, .string ⟨#[]⟩, .int .i64 0, .int .i64 0, .slice none 0 0, .slice none 0 0, .slice none 0 0, .int .i64 0, .int .i64 0, .string ⟨#[]⟩, .bool false] TCD)
  have hx := heap_alloc_new w (.cells #[.int .i64 0, .int .i64 0, .int .i64 0, .int .i64 0, .bool false, .slice none 0 0, .string ⟨#[]⟩, .int .i64 0, .int .i64 0, .slice none 0 0, .slice none 0 0, .slice none 0 0, .int .i64 0, .int .i64 0, .string ⟨#[]⟩, .bool false] TCD)
  have hsz : (w.alloc (.cells #[.int .i64 0, .int .i64 0, .int .i64 0, .int .i64 0, .bool false, .slice none 0 0, .string ⟨#[]⟩, .int .i64 0, .int .i64 0, .slice none 0 0, .slice none 0 0, .slice none 0 0, .int .i64 0, .int .i64 0, .string ⟨#[]⟩, .bool false] TCD)).heap.size = w.heap.size + 1 := by simp
  have hnew := New_c w.heap.size v bs (w.alloc (.cells #[.int .i64 0, .int .i64 0, .int .i64 0, .int .i64 0, .bool false, .slice none 0 0, .string ⟨#[]⟩, .int .i64 0, .int .i64 0, .slice none 0 0, .slice none 0 0, .slice none 0 0, .int .i64 0, .int .i64 0, .string ⟨#[]⟩, .bool false] TCD)) (hv.keep hf1 (fun _ _ h => h)) (by omega)
  rw [hsz] at hnew
  have HN := Lib.hid hnew
  have HX := Lib.hid (And.intro hf1 (And.intro hx hl))
  obtain ⟨ao, cap, rfl, _, _, _⟩ := hv.ex
  clear hnew hf1 hx hsz hl hv
  go_enter Try.func11, Try.ntmps11
  go_wp2_with fail
  refine HN.out.mono ?_
  rintro e w2 ⟨b, rfl, hb, hR, hf2⟩
  have hR3 := hR.keep (fp_alloc w2 (.cells #[.pointer (some ⟨b, 0, none⟩)] TRD)) (fun h => h)
  have hc := rCd_c _ b (bs, 0) _ hR3 HX.out.2.2
  have hlt := hR.lt
  have hr2 := hf2.heap HX.out.2.1 (fun h => h)
  have hr3 := (fp_alloc w2 (.cells #[.pointer (some ⟨b, 0, none⟩)] TRD)).heap hr2 (fun h => h)
  have hx3 := heap_alloc_new w2 (.cells #[.pointer (some ⟨b, 0, none⟩)] TRD)
  have hF3 := (HX.out.1.then hf2).then (fp_alloc w2 (.cells #[.pointer (some ⟨b, 0, none⟩)] TRD))
  have hs3 : (w2.alloc (.cells #[.pointer (some ⟨b, 0, none⟩)] TRD)).heap.size = w2.heap.size + 1 := by simp
  have HC := Lib.hid hc
  have H3 := Lib.hid (And.intro hlt (And.intro hb (And.intro hr3 (And.intro hx3 (And.intro hF3 hs3)))))
  clear hR3 hc hlt hr2 hr3 hx3 hF3 hs3 hR hf2 hb HN
  go_wp2_with fail
  refine HC.out.mono ?_
  rintro e w4 ⟨vp, vn, vt, vg, rfl, ho, g⟩
  obtain ⟨u, hu⟩ : ∃ u, u = (rCd (bs, 0)).1 := ⟨_, rfl⟩
  obtain ⟨st, hst⟩ : ∃ st, st = (rCd (bs, 0)).2 := ⟨_, rfl⟩
  rw [← hu] at ho
  rw [← hst] at g
  rw [← hu]
  have hli : Lis (w2.alloc (.cells #[.pointer (some ⟨b, 0, none⟩)] TRD)).heap.size w4 vp vn vt vg u := ⟨ho.1, ho.2.1, ho.2.2.1, ho.2.2.2⟩
  have hS : Slc vp vn vt vg := ⟨ho.1.shape, ho.2.1.shape, ho.2.2.1.shape, ho.2.2.2.shape⟩
  have hf5 := fp_alloc w4 (.cells (cdL u vp vn vt vg) TCD)
  have hx5 := heap_alloc_new w4 (.cells (cdL u vp vn vt vg) TCD)
  have hr5 := hf5.heap (g.2.heap H3.out.2.2.1 (fun e => by have := H3.out.2.1; omega)) (fun h => h)
  have hb5 := hf5.heap (g.2.heap H3.out.2.2.2.1 (fun e => by have := H3.out.1; omega)) (fun h => h)
  have hli5 := hli.keep hf5 (fun _ _ h => h)
  have hF5 : Fp Non w (w4.alloc (.cells (cdL u vp vn vt vg) TCD)) := (H3.out.2.2.2.2.1.over g.2 (fun k hk => by have := H3.out.2.1; omega)).then hf5
  have hend := REnd_c _ b st (w4.alloc (.cells (cdL u vp vn vt vg) TCD)) (g.1.keep hf5 (fun h => h))
  have hbx : (w4.alloc (.cells (cdL u vp vn vt vg) TCD)).cell? ⟨w2.heap.size, 0, none⟩ = some (.pointer (some ⟨b, 0, none⟩)) := by rw [cell_of_row _ _ _ _ _ _ hb5]; rfl
  have hwlt : w.heap.size < w2.heap.size + 1 := by have := H3.out.1; have := H3.out.2.1; omega
  have hsn := scn_cd w4 (c := u) hS
  have HW := Lib.hid (And.intro hwlt (And.intro H3.out.2.2.2.2.2 hS))
  have H5 := Lib.hid (And.intro hx5 (And.intro hr5 (And.intro hli5 (And.intro hF5 (And.intro hu hst)))))
  have hE : stEnd st = true := by rw [H5.out.2.2.2.2.2]; exact hh
  rw [hE] at hend
  have HE := Lib.hid hend
  have HEE := Lib.hid hE
  clear ho g hli hf5 hx5 hr5 hb5 hF5 hend hli5 hu hst HC H3 hE hwlt hS
  obtain ⟨w5, hw5⟩ : ∃ x, x = w4.alloc (.cells (cdL u vp vn vt vg) TCD) := ⟨_, rfl⟩
  rw [← hw5] at H5 HE
  have hbl := (stE_iff st).1 HEE.out
  have hon := rCd_codec.once (bs, 0) (by rw [← H5.out.2.2.2.2.2, hbl])
  rw [← H5.out.2.2.2.2.1, ← H5.out.2.2.2.2.2, hbl] at hon
  have hbe : bs = encCd u := by simpa using hon.2.2
  have hfw : Fw u := fw_of hon.2.1 (by rw [← hbe]; exact HX.out.2.2)
  have hcr := cRight_c _ u w5 H5.out.2.2.1.cdw hfw
  have hrr : rightC u = true := by rw [H5.out.2.2.2.2.1]; exact rightC_true hq
  rw [hrr] at hcr
  have HCR := Lib.hid hcr
  have HRR := Lib.hid hrr
  unfold cdL at HCR
  clear hbl hon hbe hfw hcr hrr
  go_wp2_with fail
  try rw [show (31 : TypeId) = TCD from rfl]
  try rw [← hw5]
  clear hw5
  refine HE.out.mono ?_
  rintro e w5' ⟨rfl, rfl⟩
  clear HE hbx hsn
  have bz := bxC (c := u) H5.out.1
  obtain ⟨⟨vpa, vpn, vpc, rfl⟩, ⟨vna, vnn, vnc, rfl⟩, ⟨vta, vtn, vtc, rfl⟩, ⟨vga, vgn, vgc, rfl⟩⟩ := HW.out.2.2
  have p0 := bz.c0
  have p1 := bz.c1
  have p2 := bz.c2
  have p3 := bz.c3
  have p4 := bz.c4
  have p5 := bz.c5
  have p6 := bz.c6
  have p7 := bz.c7
  have p8 := bz.c8
  have p9 := bz.c9
  have p10 := bz.c10
  have p11 := bz.c11
  have p12 := bz.c12
  have p13 := bz.c13
  have p14 := bz.c14
  have p15 := bz.c15
  clear bz
  go_wp2_with fail
  refine HCR.out.mono ?_
  rintro e w6 ⟨rfl, hf6⟩
  have hx6 := hf6.heap H5.out.1 (fun h => h)
  have hr6 := hf6.heap H5.out.2.1 (fun h => h)
  have H6 := Lib.hid (And.intro hx6 (And.intro hr6 (And.intro (H5.out.2.2.1.keep hf6 (fun _ _ h => h)) (H5.out.2.2.2.1.then hf6))))
  clear hf6 hx6 hr6 HCR p0 p1 p2 p3 p4 p5 p6 p7 p8 p9 p10 p11 p12 p13 p14 p15
  generalize (Value.agg #[.int .i64 u.kind, .int .i64 u.id, .int .i64 u.txn, .int .i64 u.age, .bool u.yes, .slice vpa vpn vpc, .string (B u.pre), .int .i64 u.ep, .int .i64 u.to, .slice vna vnn vnc, .slice vta vtn vtc, .slice vga vgn vgc, .int .i64 u.ws, .int .i64 u.wn, .string (B u.wp), .bool u.deep]) = va
  have hg : getC bs = (u, 0) := by
    have := getC_ok (b := bs) (by rw [← H5.out.2.2.2.2.2]; exact HEE.out) (by rw [← H5.out.2.2.2.2.1]; exact (rightC_iff u).1 HRR.out)
    rw [← H5.out.2.2.2.2.1] at this; exact this
  have HG := Lib.hid hg
  clear hg
  have bz := bxC (c := u) H6.out.1
  have p0 := bz.c0
  have p1 := bz.c1
  have p2 := bz.c2
  have p3 := bz.c3
  have p4 := bz.c4
  have p5 := bz.c5
  have p6 := bz.c6
  have p7 := bz.c7
  have p8 := bz.c8
  have p9 := bz.c9
  have p10 := bz.c10
  have p11 := bz.c11
  have p12 := bz.c12
  have p13 := bz.c13
  have p14 := bz.c14
  have p15 := bz.c15
  clear bz
  have hr0 := H6.out.2.1
  have r0 := cell_of_row _ _ 0 _ _ _ hr0
  have z0 := frz hr0 0
  have r1 := cell_of_row _ _ 1 _ _ _ hr0
  have z1 := frz hr0 1
  have r2 := cell_of_row _ _ 2 _ _ _ hr0
  have z2 := frz hr0 2
  have r3 := cell_of_row _ _ 3 _ _ _ hr0
  have z3 := frz hr0 3
  have r4 := cell_of_row _ _ 4 _ _ _ hr0
  have z4 := frz hr0 4
  have r5 := cell_of_row _ _ 5 _ _ _ hr0
  have z5 := frz hr0 5
  have r6 := cell_of_row _ _ 6 _ _ _ hr0
  have z6 := frz hr0 6
  have r7 := cell_of_row _ _ 7 _ _ _ hr0
  have z7 := frz hr0 7
  have r8 := cell_of_row _ _ 8 _ _ _ hr0
  have z8 := frz hr0 8
  have r9 := cell_of_row _ _ 9 _ _ _ hr0
  have z9 := frz hr0 9
  have r10 := cell_of_row _ _ 10 _ _ _ hr0
  have z10 := frz hr0 10
  have r11 := cell_of_row _ _ 11 _ _ _ hr0
  have z11 := frz hr0 11
  have r12 := cell_of_row _ _ 12 _ _ _ hr0
  have z12 := frz hr0 12
  have r13 := cell_of_row _ _ 13 _ _ _ hr0
  have z13 := frz hr0 13
  have r14 := cell_of_row _ _ 14 _ _ _ hr0
  have z14 := frz hr0 14
  have r15 := cell_of_row _ _ 15 _ _ _ hr0
  have z15 := frz hr0 15
  simp only [List.getElem?_toArray, List.getElem?_cons_zero, List.getElem?_cons_succ] at r0 r1 r2 r3 r4 r5 r6 r7 r8 r9 r10 r11 r12 r13 r14 r15
  have hres : (setAll w6 w.heap.size 0 [.int .i64 u.kind, .int .i64 u.id, .int .i64 u.txn, .int .i64 u.age, .bool u.yes, (.slice vpa vpn vpc), .string (B u.pre), .int .i64 u.ep, .int .i64 u.to, (.slice vna vnn vnc), (.slice vta vtn vtc), (.slice vga vgn vgc), .int .i64 u.ws, .int .i64 u.wn, .string (B u.wp), .bool u.deep]).heap[w.heap.size]? = some (.cells [.int .i64 u.kind, .int .i64 u.id, .int .i64 u.txn, .int .i64 u.age, .bool u.yes, (.slice vpa vpn vpc), .string (B u.pre), .int .i64 u.ep, .int .i64 u.to, (.slice vna vnn vnc), (.slice vta vtn vtc), (.slice vga vgn vgc), .int .i64 u.ws, .int .i64 u.wn, .string (B u.wp), .bool u.deep].toArray TCD (0, 0)) := by have := setAll_heap [.int .i64 u.kind, .int .i64 u.id, .int .i64 u.txn, .int .i64 u.age, .bool u.yes, (.slice vpa vpn vpc), .string (B u.pre), .int .i64 u.ep, .int .i64 u.to, (.slice vna vnn vnc), (.slice vta vtn vtc), (.slice vga vgn vgc), .int .i64 u.ws, .int .i64 u.wn, .string (B u.wp), .bool u.deep] w6 w.heap.size 0 _ TCD hr0 rfl; simpa using this
  have hsf := setAll_fp [.int .i64 u.kind, .int .i64 u.id, .int .i64 u.txn, .int .i64 u.age, .bool u.yes, (.slice vpa vpn vpc), .string (B u.pre), .int .i64 u.ep, .int .i64 u.to, (.slice vna vnn vnc), (.slice vta vtn vtc), (.slice vga vgn vgc), .int .i64 u.ws, .int .i64 u.wn, .string (B u.wp), .bool u.deep] w6 w.heap.size 0
  have hfin : Fp Non w (setAll w6 w.heap.size 0 [.int .i64 u.kind, .int .i64 u.id, .int .i64 u.txn, .int .i64 u.age, .bool u.yes, (.slice vpa vpn vpc), .string (B u.pre), .int .i64 u.ep, .int .i64 u.to, (.slice vna vnn vnc), (.slice vta vtn vtc), (.slice vga vgn vgc), .int .i64 u.ws, .int .i64 u.wn, .string (B u.wp), .bool u.deep]) := (H6.out.2.2.2).over hsf (fun k hk => by omega)
  have hcw := (H6.out.2.2.1.keep hsf (fun j hj e => by have := HW.out; omega)).cdw
  unfold cdL at hcw
  clear hsf hr0
  go_wp2
  obtain ⟨wz, hwz⟩ : ∃ wz, wz = setAll w6 w.heap.size 0 [.int .i64 u.kind, .int .i64 u.id, .int .i64 u.txn, .int .i64 u.age, .bool u.yes, (.slice vpa vpn vpc), .string (B u.pre), .int .i64 u.ep, .int .i64 u.to, (.slice vna vnn vnc), (.slice vta vtn vtc), (.slice vga vgn vgc), .int .i64 u.ws, .int .i64 u.wn, .string (B u.wp), .bool u.deep] := ⟨_, rfl⟩
  rw [← hwz] at hfin hres hcw
  simp only [setAll, Nat.zero_add, Nat.reduceAdd] at hwz
  rw [← hwz]
  clear hwz
  have s0 := cell_of_row _ w.heap.size 0 _ _ _ hres
  have s1 := cell_of_row _ w.heap.size 1 _ _ _ hres
  have s2 := cell_of_row _ w.heap.size 2 _ _ _ hres
  have s3 := cell_of_row _ w.heap.size 3 _ _ _ hres
  have s4 := cell_of_row _ w.heap.size 4 _ _ _ hres
  have s5 := cell_of_row _ w.heap.size 5 _ _ _ hres
  have s6 := cell_of_row _ w.heap.size 6 _ _ _ hres
  have s7 := cell_of_row _ w.heap.size 7 _ _ _ hres
  have s8 := cell_of_row _ w.heap.size 8 _ _ _ hres
  have s9 := cell_of_row _ w.heap.size 9 _ _ _ hres
  have s10 := cell_of_row _ w.heap.size 10 _ _ _ hres
  have s11 := cell_of_row _ w.heap.size 11 _ _ _ hres
  have s12 := cell_of_row _ w.heap.size 12 _ _ _ hres
  have s13 := cell_of_row _ w.heap.size 13 _ _ _ hres
  have s14 := cell_of_row _ w.heap.size 14 _ _ _ hres
  have s15 := cell_of_row _ w.heap.size 15 _ _ _ hres
  simp only [List.getElem?_toArray, List.getElem?_cons_zero, List.getElem?_cons_succ] at s0 s1 s2 s3 s4 s5 s6 s7 s8 s9 s10 s11 s12 s13 s14 s15
  exact bodyPost_ret (v := .tuple #[.agg #[.int .i64 u.kind, .int .i64 u.id, .int .i64 u.txn, .int .i64 u.age, .bool u.yes, (.slice vpa vpn vpc), .string (B u.pre), .int .i64 u.ep, .int .i64 u.to, (.slice vna vnn vnc), (.slice vta vtn vtc), (.slice vga vgn vgc), .int .i64 u.ws, .int .i64 u.wn, .string (B u.wp), .bool u.deep], .int .i64 0]) (by simp [results, Try.results11, go_sem, s0, s1, s2, s3, s4, s5, s6, s7, s8, s9, s10, s11, s12, s13, s14, s15]) rfl ⟨_, by rw [HG.out], by rw [HG.out]; exact hcw, hfin⟩
end Go.Proofs.Ytlmfinpmlilcgaa

