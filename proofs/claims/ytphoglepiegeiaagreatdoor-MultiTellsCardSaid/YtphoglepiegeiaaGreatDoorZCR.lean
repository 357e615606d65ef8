/- A text of this proof. -/
import Derived.Laws.EntriesVeiled
import Derived.Test.YtphoglepiegeiaaGreatDoorZCC
import Derived.Test.YtphoglepiegeiaaGreatDoorZCH
import Derived.Test.YtphoglepiegeiaaGreatDoorZCQ
set_option linter.unusedSimpArgs false
set_option linter.unusedVariables false
namespace Go.Proofs.YtphoglepiegeiaaGreatDoor
set_option maxRecDepth 20000
open Go.RowKit Pm
attribute [local irreducible] wpStill
theorem Chd.of {lo b : Nat} {vn vt vn' vt' : Value} {s s' : St} {w W W' : World} {k : Int} {d p da : Bs} {v o : Int} {t : Bool} (h0 : Sw lo b vn vt s w) (hb : Bp w k d p da v o t W) (hS : Sw lo b vn' vt' s' W') (f1 : Fp Non w W)
  (f2 : Fp (ownS b vn vt) W W') (n1 : ∀ k, vn'.ownBlock = some k → vn.ownBlock = some k ∨ W.heap.size ≤ k) (n2 : ∀ k, vt'.ownBlock = some k → vt.ownBlock = some k ∨ W.heap.size ≤ k) : Chd lo b vn vt s' w k d p da v o t W' := by
 have hlt : ∀ k, ownS b vn vt k → k < w.heap.size := fun k hk => by
  rcases hk with e | e | e
  ·rw [e]; exact h0.lt
  ·exact h0.ltN k e
  exact h0.ltT k e
 have hsz := hb.sz
 refine ⟨⟨vn', vt', hS, fun e => ?_, fun e => ?_⟩, hb.keep f2 (fun k hk => .inl (hlt k hk)), (f1.any (S := ownS b vn vt)).same f2, h0.lt⟩
 ·rcases n1 _ e with e | e
  ·have := h0.ltN _ e; omega
  omega
 rcases n2 _ e with e | e
 ·have := h0.ltT _ e; omega
 omega
theorem Sw.frozenN {lo b : Nat} {vn vt : Value} {s : St} {w : World} (h : Sw lo b vn vt s w) {G : Nat} (hG : vn.ownBlock = some G) (j : Nat) : w.frozen? ⟨G, j, none⟩ = false := by
 rcases h.own.ways with ⟨rfl, _⟩ | ⟨G', cap, rfl, h1, _⟩
 ·simp [Value.ownBlock] at hG
 simp only [Value.ownBlock, Option.some.injEq] at hG
 subst hG
 exact h1.frozen j
theorem Sw.put2 {lo b : Nat} {vn vt : Value} {s : St} {w : World} (h : Sw lo b vn vt s w) {G : Nat} (hG : vn.ownBlock = some G) (i : Nat) (hi : i < s.nodes.length) (d : Bs) (v : Int) :
  Sw lo b vn vt ⟨s.nodes.set i { s.nodes[i] with data := d, ver := v }, s.turns⟩ ((w.setCell ⟨G, i * 5 + 1, none⟩ (.string (B d))).setCell ⟨G, i * 5 + 2, none⟩ (.int .i64 v)) ∧
   Fp (fun k => vn.ownBlock = some k) w ((w.setCell ⟨G, i * 5 + 1, none⟩ (.string (B d))).setCell ⟨G, i * 5 + 2, none⟩ (.int .i64 v)) := by
 have f : Fp (fun k => vn.ownBlock = some k) w ((w.setCell ⟨G, i * 5 + 1, none⟩ (.string (B d))).setCell ⟨G, i * 5 + 2, none⟩ (.int .i64 v)) := ((Fp.refl (fun k => vn.ownBlock = some k) w).setCell (p := ⟨G, i * 5 + 1, none⟩) (.inl hG) _).setCell (p := ⟨G, i * 5 + 2, none⟩) (.inl hG) _
 refine ⟨⟨f.heap h.blk (fun e => h.neN e), h.low, ?_, h.ownT.keep f (fun k hk e => h.apart k e hk), h.neN, h.neT, h.apart⟩, f⟩
 rcases h.own.ways with ⟨rfl, _⟩ | ⟨G', cap, rfl, h1, h2⟩
 ·simp [Value.ownBlock] at hG
 simp only [Value.ownBlock, Option.some.injEq] at hG
 subst hG
 have := Ow.row (lo := lo) (h1.put2 i hi d v) h2
 rw [List.length_set] at this
 exact this
set_option maxHeartbeats 1000000 in
theorem remove1_c (n : Nd) (g : Nat) (p : Bs) (w : World) (hg : w.cell? ⟨g, 2, none⟩ = some (.string (B p))) :
  Calls Tryz.prog 130 #[ndV n, .pointer (some ⟨g, 0, none⟩)] w fun e w' => e = .returned (.bool (n.path == p)) ∧ Fp Non w w' := by
 obtain ⟨np, d, v, t, o⟩ := n
 unfold ndV strV
 have hf : ∀ o, Fp Non w (w.alloc o) := fun o => (Fp.refl Non w).alloc o
 have hg2 : ∀ o, (w.alloc o).cell? ⟨g, 2, none⟩ = some (.string (B p)) := fun o => (hf o).cell hg id
 have HF := zI hf
 clear hf hg
 go_enter Tryz.func130, Tryz.ntmps130
 go_wp2
 go_ret
 exact ⟨rfl, HF.out _⟩
theorem remove_pd (w : World) (g : Nat) (p : Bs) (hg : w.cell? ⟨g, 2, none⟩ = some (.string (B p))) (S : Nat → Prop) (hS : ¬ S g) :
  Pd S w (.func (.func 130) #[] #[.pointer (some ⟨g, 0, none⟩)]) (fun n => n.path == p) :=
 ⟨_, _, _, rfl, enters_of Tryz.func130 (by kernel_rfl) rfl, fun n w1 _ hf => remove1_c n g p w1 (hf.cell hg hS)⟩
abbrev liV (k : Nat) : Value := .func (.func 169) #[] #[.pointer (some ⟨k, 0, none⟩)]
set_option maxHeartbeats 2000000 in
theorem clear1_c (n : Nd) (g c k : Nat) (p : Bs) (ow : Int) (w : World) (hn : n.path.length ≤ 1000000) (hg : w.cell? ⟨g, 5, none⟩ = some (.int .i64 ow)) (hc : w.cell? ⟨c, 0, none⟩ = some (liV k)) (hk : w.cell? ⟨k, 0, none⟩ = some (.string (B p))) :
  Calls Tryz.prog 134 #[ndV n, .pointer (some ⟨g, 0, none⟩), .pointer (some ⟨c, 0, none⟩)] w fun e w' => e = .returned (.bool (n.own == ow && parent n.path == some p)) ∧ Fp Non w w' := by
 have hch := fun w (h : w.cell? ⟨k, 0, none⟩ = some (.string (B p))) => lies1_c n k p w hn h
 obtain ⟨np, d, v, t, o⟩ := n
 unfold ndV strV
 unfold ndV strV at hch
 simp only at hch
 have hf : ∀ o, Fp Non w (w.alloc o) := fun o => (Fp.refl Non w).alloc o
 have HF := zI hf
 have HC := zI hch
 have HK := zI hk
 show Calls _ _ _ _ (fun e w' => e = .returned (.bool (o == ow && parent np == some p)) ∧ _)
 obtain ⟨cb, hcb⟩ : ∃ cb, (o == ow) = cb := ⟨_, rfl⟩
 obtain ⟨cp, hcp⟩ : ∃ cp, (parent np == some p) = cp := ⟨_, rfl⟩
 have q0 : (o = ow) = (cb = true) := by rw [← hcb]; simp
 rw [hcp] at HC
 rw [hcb, hcp]
 have g1 := fun o => (hf o).cell hg id
 have g2 := fun o => (hf o).cell hc id
 clear hg hc
 clear hf hch hk hn hcp
 cases cb
 ·have q2 : (o = ow) = False := by rw [q0]; simp
  clear q0
  go_enter Tryz.func134, Tryz.ntmps134
  go_wp2
  go_ret
  exact ⟨rfl, HF.out _⟩
 have q2 : (o = ow) = True := by rw [q0]; simp
 clear q0
 go_enter Tryz.func134, Tryz.ntmps134
 go_wp2_with fail
 refine (HC.out _ ((HF.out _).cell HK.out id)).mono ?_
 rintro e w2 ⟨rfl, hf2⟩
 have F := zI ((HF.out _).then hf2)
 clear hf2
 go_wp2
 go_ret
 exact ⟨rfl, F.out⟩
theorem clear_pd (g c k : Nat) (p : Bs) (ow : Int) (w : World) (S : Nat → Prop) (hg : w.cell? ⟨g, 5, none⟩ = some (.int .i64 ow)) (hc : w.cell? ⟨c, 0, none⟩ = some (liV k)) (hk : w.cell? ⟨k, 0, none⟩ = some (.string (B p)))
  (h1 : ¬ S g) (h2 : ¬ S c) (h3 : ¬ S k) : Pd S w (.func (.func 134) #[] #[.pointer (some ⟨g, 0, none⟩), .pointer (some ⟨c, 0, none⟩)]) (fun n => n.own == ow && parent n.path == some p) :=
 ⟨_, _, _, rfl, enters_of Tryz.func134 (by kernel_rfl) rfl, fun n w1 hn hf => clear1_c n g c k p ow w1 hn (hf.cell hg h1) (hf.cell hc h2) (hf.cell hk h3)⟩
set_option maxHeartbeats 4000000 in
theorem alter_e {lo b : Nat} {vn vt : Value} {s : St} {w : World} (h : Sw lo b vn vt s w) (x : Pt) (hst : StR s) (hm : mayP x = true) (hn : s.nodes.length ≤ 3900) (hnt : s.turns.length ≤ 3900) (ht : Tab w) (hk : x.kind = 5) :
  Calls Tryz.prog 91 #[.pointer (some ⟨b, 0, none⟩), ptV x] w (PmR lo b vn vt (doP s x).1 (doP s x).2 w) := by
 have hp : x.path.length ≤ 100 := split_len ((mayP_iff x).1 hm).2.1
 obtain ⟨k, d, p, da, v, o, t⟩ := x
 obtain rfl : k = 5 := hk
 simp only at hp
 have hf0 : Fp Non w ((w.alloc (.cells #[.int .i64 5, .string (B d), .string (B p), .string (B da), .int .i64 v, .int .i64 o, .bool t] TP)).alloc (.cells #[.int .i64 0, .string ⟨#[]⟩, .string ⟨#[]⟩, .int .i64 0, .slice none 0 0] TR)) := ((Fp.refl Non w).alloc _).alloc _
 have K0 := zI (Kp.and (Kp.sw (h.non hf0)) (Kp.and (Kp.bp (Bp.made w 5 d p da v o t)) (Kp.and (Kp.fp hf0) (Kp.tab (ht.non hf0)))))
 have HX := zI (yI h (yI hst (yI hm (yI hn hnt))))
 have hpt : ptV ⟨5, d, p, da, v, o, t⟩ = .agg #[.int .i64 5, .string (B d), .string (B p), .string (B da), .int .i64 v, .int .i64 o, .bool t] := rfl
 cases hf : find s.nodes p with
 | none =>
  have e : doP s ⟨5, d, p, da, v, o, t⟩ = (s, .bad 62) := by unfold doP; simp [hf]
  rw [e]
  have hs := fun W (hW : Sw lo b vn vt s W) => versioned_none hW ⟨5, d, p, da, v, o, t⟩ hst.asc (by omega) hf
  rw [hpt] at hs
  have HS := zI hs
  clear hs
  clear hf0 h ht hst hm hn hnt hp hf e
  rw [hpt]
  clear hpt
  go_enter Tryz.func91, Tryz.ntmps91
  generalize hW0 : ((w.alloc (.cells #[.int .i64 5, .string (B d), .string (B p), .string (B da), .int .i64 v, .int .i64 o, .bool t] TP)).alloc (.cells #[.int .i64 0, .string ⟨#[]⟩, .string ⟨#[]⟩, .int .i64 0, .slice none 0 0] TR)) = W0 at *
  obtain ⟨o0, o1, o2, o3, o4, o5, o6⟩ := boxP7 K0.out.now.2.1.op
  go_wp2_with fail
  clear hW0
  refine (HS.out _ K0.out.now.1).mono ?_
  rintro e w1 ⟨rfl, hf⟩
  have K1 := zI (K0.out.later hf)
  clear hf
  clear o0 o1 o2 o3 o4 o5 o6
  go_wp2_with fail
  refine (refusedP_c 62 _).mono ?_
  rintro e w9 ⟨rfl, hf⟩
  have K9 := zI (K1.out.later hf)
  clear hf
  unfold badV
  have hbr := (Chd.still HX.out.1 K9.out.now.1 K9.out.now.2.1 K9.out.now.2.2.1).bp
  obtain ⟨r0, r1, r2, r3, r4⟩ := hbr.r
  have z0 := hbr.fz 0; have z1 := hbr.fz 1; have z2 := hbr.fz 2; have z3 := hbr.fz 3; have z4 := hbr.fz 4
  have HP := zI ((Chd.still HX.out.1 K9.out.now.1 K9.out.now.2.1 K9.out.now.2.2.1).done (.bad 62) (.slice none 0 0) (Own.nil _ _) (fun e => by simp [Value.ownBlock] at e) (62) (⟨#[]⟩) (⟨#[]⟩) (0) rfl rfl rfl rfl)
  have HW9 := zI (set5 hbr.res (.int .i64 62) (.string ⟨#[]⟩) (.string ⟨#[]⟩) (.int .i64 0) (.slice none 0 0))
  clear hbr
  go_wp2
  have hw9 := HW9.out
  have hp9 := HP.out
  generalize (((((World.setCell _ _ _).setCell _ _).setCell _ _).setCell _ _).setCell _ _) = wz at *
  obtain ⟨s0, s1, s2, s3, s4⟩ := b5 hw9
  exact bodyPost_ret (v := .agg #[.int .i64 62, .string ⟨#[]⟩, .string ⟨#[]⟩, .int .i64 0, .slice none 0 0]) (by simp [results, Tryz.results91, go_sem, s0, s1, s2, s3, s4]) rfl hp9
 | some y => ?_
 by_cases hv : 0 ≤ v ∧ v ≠ y.ver
 ·have e : doP s ⟨5, d, p, da, v, o, t⟩ = (s, .bad 63) := by unfold doP; simp [hf, versionedP, hv]
  rw [e]
  have hs := fun W (hW : Sw lo b vn vt s W) => versioned_bad hW ⟨5, d, p, da, v, o, t⟩ hst.asc (by omega) hf hv
  rw [hpt] at hs
  have HS := zI hs
  clear hs
  clear hf0 h ht hst hm hn hnt hp hf e hv
  rw [hpt]
  clear hpt
  go_enter Tryz.func91, Tryz.ntmps91
  generalize hW0 : ((w.alloc (.cells #[.int .i64 5, .string (B d), .string (B p), .string (B da), .int .i64 v, .int .i64 o, .bool t] TP)).alloc (.cells #[.int .i64 0, .string ⟨#[]⟩, .string ⟨#[]⟩, .int .i64 0, .slice none 0 0] TR)) = W0 at *
  obtain ⟨o0, o1, o2, o3, o4, o5, o6⟩ := boxP7 K0.out.now.2.1.op
  go_wp2_with fail
  clear hW0
  refine (HS.out _ K0.out.now.1).mono ?_
  rintro e w1 ⟨rfl, hf⟩
  have K1 := zI (K0.out.later hf)
  clear hf
  clear o0 o1 o2 o3 o4 o5 o6
  go_wp2_with fail
  refine (refusedP_c 63 _).mono ?_
  rintro e w9 ⟨rfl, hf⟩
  have K9 := zI (K1.out.later hf)
  clear hf
  unfold badV
  have hbr := (Chd.still HX.out.1 K9.out.now.1 K9.out.now.2.1 K9.out.now.2.2.1).bp
  obtain ⟨r0, r1, r2, r3, r4⟩ := hbr.r
  have z0 := hbr.fz 0; have z1 := hbr.fz 1; have z2 := hbr.fz 2; have z3 := hbr.fz 3; have z4 := hbr.fz 4
  have HP := zI ((Chd.still HX.out.1 K9.out.now.1 K9.out.now.2.1 K9.out.now.2.2.1).done (.bad 63) (.slice none 0 0) (Own.nil _ _) (fun e => by simp [Value.ownBlock] at e) (63) (⟨#[]⟩) (⟨#[]⟩) (0) rfl rfl rfl rfl)
  have HW9 := zI (set5 hbr.res (.int .i64 63) (.string ⟨#[]⟩) (.string ⟨#[]⟩) (.int .i64 0) (.slice none 0 0))
  clear hbr
  go_wp2
  have hw9 := HW9.out
  have hp9 := HP.out
  generalize (((((World.setCell _ _ _).setCell _ _).setCell _ _).setCell _ _).setCell _ _) = wz at *
  obtain ⟨s0, s1, s2, s3, s4⟩ := b5 hw9
  exact bodyPost_ret (v := .agg #[.int .i64 63, .string ⟨#[]⟩, .string ⟨#[]⟩, .int .i64 0, .slice none 0 0]) (by simp [results, Tryz.results91, go_sem, s0, s1, s2, s3, s4]) rfl hp9
 have hfq := find_at hst.asc hf
 by_cases hvm : y.ver = 281474976710656
 ·have e : doP s ⟨5, d, p, da, v, o, t⟩ = (s, .bad 2) := by
   unfold doP
   rw [if_neg (show ¬ (5 : Int) = 2 by decide), if_neg (show ¬ (5 : Int) = 4 by decide), if_neg (show ¬ (5 : Int) = 9 by decide), if_neg (show ¬ (5 : Int) = 10 by decide)]
   simp only [hf]
   rw [if_neg (fun k => hv k.2), if_neg (show ¬ (5 : Int) = 1 by decide), if_neg (show ¬ (5 : Int) = 3 by decide), if_pos trivial, if_pos hvm]
  rw [e]
  have q3 : (y.ver == 281474976710656) = true := beq_iff_eq.2 hvm
  have q4 : (y.ver = 281474976710656) = True := eq_true hvm
  have hs := fun W (hW : Sw lo b vn vt s W) => versioned_ok hW ⟨5, d, p, da, v, o, t⟩ hst.asc (by omega) hf hv
  rw [hpt] at hs
  simp only at hs
  obtain ⟨q, hq⟩ : ∃ q, q = place s.nodes p := ⟨_, rfl⟩
  rw [← hq] at hs
  have HS := zI hs
  clear hs
  clear hf0 h ht hst hm hn hnt hp hf e hq hv hvm hfq
  rw [hpt]
  clear hpt
  go_enter Tryz.func91, Tryz.ntmps91
  generalize hW0 : ((w.alloc (.cells #[.int .i64 5, .string (B d), .string (B p), .string (B da), .int .i64 v, .int .i64 o, .bool t] TP)).alloc (.cells #[.int .i64 0, .string ⟨#[]⟩, .string ⟨#[]⟩, .int .i64 0, .slice none 0 0] TR)) = W0 at *
  obtain ⟨o0, o1, o2, o3, o4, o5, o6⟩ := boxP7 K0.out.now.2.1.op
  go_wp2_with fail
  clear hW0
  refine (HS.out _ K0.out.now.1).mono ?_
  rintro e w1 ⟨G, hG, hnd, rfl, hf⟩
  have K1 := zI (K0.out.later hf)
  have HN1 := zI (yI hG (hnd.keep hf id))
  clear hnd hG
  clear hf
  clear o0 o1 o2 o3 o4 o5 o6
  have c0 := HN1.out.2.c0; have c1 := HN1.out.2.c1; have c2 := HN1.out.2.c2; have c3 := HN1.out.2.c3; have c4 := HN1.out.2.c4
  unfold strV at c0 c1
  go_wp2_with fail
  refine (refusedP_c 2 _).mono ?_
  rintro e w9 ⟨rfl, hf⟩
  have K9 := zI (K1.out.later hf)
  clear hf
  unfold badV
  have hbr := (Chd.still HX.out.1 K9.out.now.1 K9.out.now.2.1 K9.out.now.2.2.1).bp
  obtain ⟨r0, r1, r2, r3, r4⟩ := hbr.r
  have z0 := hbr.fz 0; have z1 := hbr.fz 1; have z2 := hbr.fz 2; have z3 := hbr.fz 3; have z4 := hbr.fz 4
  have HP := zI ((Chd.still HX.out.1 K9.out.now.1 K9.out.now.2.1 K9.out.now.2.2.1).done (.bad 2) (.slice none 0 0) (Own.nil _ _) (fun e => by simp [Value.ownBlock] at e) (2) (⟨#[]⟩) (⟨#[]⟩) (0) rfl rfl rfl rfl)
  have HW9 := zI (set5 hbr.res (.int .i64 2) (.string ⟨#[]⟩) (.string ⟨#[]⟩) (.int .i64 0) (.slice none 0 0))
  clear hbr
  go_wp2
  have hw9 := HW9.out
  have hp9 := HP.out
  generalize (((((World.setCell _ _ _).setCell _ _).setCell _ _).setCell _ _).setCell _ _) = wz at *
  obtain ⟨s0, s1, s2, s3, s4⟩ := b5 hw9
  exact bodyPost_ret (v := .agg #[.int .i64 2, .string ⟨#[]⟩, .string ⟨#[]⟩, .int .i64 0, .slice none 0 0]) (by simp [results, Tryz.results91, go_sem, s0, s1, s2, s3, s4]) rfl hp9
 have e : doP s ⟨5, d, p, da, v, o, t⟩ = (⟨s.nodes.set (place s.nodes p) { y with data := da, ver := y.ver + 1 }, s.turns⟩, ⟨0, [], [], y.ver + 1, []⟩) := by unfold doP; simp [hf, versionedP, hv, hvm]
 rw [e]
 have q3 : (y.ver == 281474976710656) = false := beq_eq_false_iff_ne.2 hvm
 have q4 : (y.ver = 281474976710656) = False := eq_false hvm
 have hyb : 0 ≤ y.ver ∧ y.ver ≤ 281474976710656 := by have := (sfit_iff y).1 (hst.fit y (find_mem hf).1); omega
 have hs := fun W (hW : Sw lo b vn vt s W) => versioned_ok hW ⟨5, d, p, da, v, o, t⟩ hst.asc (by omega) hf hv
 rw [hpt] at hs
 simp only at hs
 obtain ⟨q, hq⟩ : ∃ q, q = place s.nodes p := ⟨_, rfl⟩
 rw [← hq] at hs hfq ⊢
 have HQ := zI hfq
 have HS := zI hs
 clear hs
 obtain ⟨yp, yd, yv, yt, yo⟩ := y
 simp only at hyb q3 q4
 clear hf0 h ht hst hm hn hnt hp hf e hq hv hvm hfq
 rw [hpt]
 clear hpt
 go_enter Tryz.func91, Tryz.ntmps91
 generalize hW0 : ((w.alloc (.cells #[.int .i64 5, .string (B d), .string (B p), .string (B da), .int .i64 v, .int .i64 o, .bool t] TP)).alloc (.cells #[.int .i64 0, .string ⟨#[]⟩, .string ⟨#[]⟩, .int .i64 0, .slice none 0 0] TR)) = W0 at *
 obtain ⟨o0, o1, o2, o3, o4, o5, o6⟩ := boxP7 K0.out.now.2.1.op
 go_wp2_with fail
 clear hW0
 refine (HS.out _ K0.out.now.1).mono ?_
 rintro e w1 ⟨G, hG, hnd, rfl, hf⟩
 have K1 := zI (K0.out.later hf)
 have HN1 := zI (yI hG (hnd.keep hf id))
 clear hnd hG
 clear hf
 clear o0 o1 o2 o3 o4 o5 o6
 have c0 := HN1.out.2.c0; have c1 := HN1.out.2.c1; have c2 := HN1.out.2.c2; have c3 := HN1.out.2.c3; have c4 := HN1.out.2.c4
 unfold strV at c0 c1
 simp only at c0 c1 c2 c3 c4
 obtain ⟨hqk, hqe⟩ := HQ.out
 have fG1 := K1.out.now.1.frozenN HN1.out.1 (q * 5 + 1)
 have fG2 := K1.out.now.1.frozenN HN1.out.1 (q * 5 + 2)
 have hput := K1.out.now.1.put2 HN1.out.1 q hqk da (yv + 1)
 rw [hqe] at hput
 have HC := zI (Chd.of HX.out.1 K1.out.now.2.1 hput.1 K1.out.now.2.2.1 (hput.2.mono (fun k hk => .inr (.inl hk))) (fun k hk => .inl hk) (fun k hk => .inl hk))
 obtain ⟨o0, o1, o2, o3, o4, o5, o6⟩ := boxP7 K1.out.now.2.1.op
 clear hput hqk hqe
 have hbr := (HC.out).bp
 obtain ⟨r0, r1, r2, r3, r4⟩ := hbr.r
 have z0 := hbr.fz 0; have z1 := hbr.fz 1; have z2 := hbr.fz 2; have z3 := hbr.fz 3; have z4 := hbr.fz 4
 have HP := zI ((HC.out).done ⟨0, [], [], yv + 1, []⟩ (.slice none 0 0) (Own.nil _ _) (fun e => by simp [Value.ownBlock] at e) (0) (⟨#[]⟩) (⟨#[]⟩) ((yv + 1)) rfl rfl rfl rfl)
 have HW9 := zI (set5 hbr.res (.int .i64 0) (.string ⟨#[]⟩) (.string ⟨#[]⟩) (.int .i64 (yv + 1)) (.slice none 0 0))
 clear hbr
 go_wp2
 have hw9 := HW9.out
 have hp9 := HP.out
 generalize (((((World.setCell _ _ _).setCell _ _).setCell _ _).setCell _ _).setCell _ _) = wz at *
 obtain ⟨s0, s1, s2, s3, s4⟩ := b5 hw9
 exact bodyPost_ret (v := .agg #[.int .i64 0, .string ⟨#[]⟩, .string ⟨#[]⟩, .int .i64 (yv + 1), .slice none 0 0]) (by simp [results, Tryz.results91, go_sem, s0, s1, s2, s3, s4]) rfl hp9
set_option maxHeartbeats 4000000 in
theorem remove_e {lo b : Nat} {vn vt : Value} {s : St} {w : World} (h : Sw lo b vn vt s w) (x : Pt) (hst : StR s) (hm : mayP x = true) (hn : s.nodes.length ≤ 3900) (hnt : s.turns.length ≤ 3900) (ht : Tab w) (hk : x.kind = 3) :
  Calls Tryz.prog 89 #[.pointer (some ⟨b, 0, none⟩), ptV x] w (PmR lo b vn vt (doP s x).1 (doP s x).2 w) := by
 have hp : x.path.length ≤ 100 := split_len ((mayP_iff x).1 hm).2.1
 obtain ⟨k, d, p, da, v, o, t⟩ := x
 obtain rfl : k = 3 := hk
 simp only at hp
 have hf0 : Fp Non w ((w.alloc (.cells #[.int .i64 3, .string (B d), .string (B p), .string (B da), .int .i64 v, .int .i64 o, .bool t] TP)).alloc (.cells #[.int .i64 0, .string ⟨#[]⟩, .string ⟨#[]⟩, .int .i64 0, .slice none 0 0] TR)) := ((Fp.refl Non w).alloc _).alloc _
 have K0 := zI (Kp.and (Kp.sw (h.non hf0)) (Kp.and (Kp.bp (Bp.made w 3 d p da v o t)) (Kp.and (Kp.fp hf0) (Kp.tab (ht.non hf0)))))
 have HX := zI (yI h (yI hst (yI hm (yI hn hnt))))
 have hpt : ptV ⟨3, d, p, da, v, o, t⟩ = .agg #[.int .i64 3, .string (B d), .string (B p), .string (B da), .int .i64 v, .int .i64 o, .bool t] := rfl
 cases hf : find s.nodes p with
 | none =>
  have e : doP s ⟨3, d, p, da, v, o, t⟩ = (s, .bad 62) := by unfold doP; simp [hf]
  rw [e]
  have hs := fun W (hW : Sw lo b vn vt s W) => versioned_none hW ⟨3, d, p, da, v, o, t⟩ hst.asc (by omega) hf
  rw [hpt] at hs
  have HS := zI hs
  clear hs
  clear hf0 h ht hst hm hn hnt hp hf e
  rw [hpt]
  clear hpt
  go_enter Tryz.func89, Tryz.ntmps89
  generalize hW0 : ((w.alloc (.cells #[.int .i64 3, .string (B d), .string (B p), .string (B da), .int .i64 v, .int .i64 o, .bool t] TP)).alloc (.cells #[.int .i64 0, .string ⟨#[]⟩, .string ⟨#[]⟩, .int .i64 0, .slice none 0 0] TR)) = W0 at *
  obtain ⟨o0, o1, o2, o3, o4, o5, o6⟩ := boxP7 K0.out.now.2.1.op
  go_wp2_with fail
  clear hW0
  refine (HS.out _ K0.out.now.1).mono ?_
  rintro e w1 ⟨rfl, hf⟩
  have K1 := zI (K0.out.later hf)
  clear hf
  clear o0 o1 o2 o3 o4 o5 o6
  go_wp2_with fail
  refine (refusedP_c 62 _).mono ?_
  rintro e w9 ⟨rfl, hf⟩
  have K9 := zI (K1.out.later hf)
  clear hf
  unfold badV
  have hbr := (Chd.still HX.out.1 K9.out.now.1 K9.out.now.2.1 K9.out.now.2.2.1).bp
  obtain ⟨r0, r1, r2, r3, r4⟩ := hbr.r
  have z0 := hbr.fz 0; have z1 := hbr.fz 1; have z2 := hbr.fz 2; have z3 := hbr.fz 3; have z4 := hbr.fz 4
  have HP := zI ((Chd.still HX.out.1 K9.out.now.1 K9.out.now.2.1 K9.out.now.2.2.1).done (.bad 62) (.slice none 0 0) (Own.nil _ _) (fun e => by simp [Value.ownBlock] at e) (62) (⟨#[]⟩) (⟨#[]⟩) (0) rfl rfl rfl rfl)
  have HW9 := zI (set5 hbr.res (.int .i64 62) (.string ⟨#[]⟩) (.string ⟨#[]⟩) (.int .i64 0) (.slice none 0 0))
  clear hbr
  go_wp2
  have hw9 := HW9.out
  have hp9 := HP.out
  generalize (((((World.setCell _ _ _).setCell _ _).setCell _ _).setCell _ _).setCell _ _) = wz at *
  obtain ⟨s0, s1, s2, s3, s4⟩ := b5 hw9
  exact bodyPost_ret (v := .agg #[.int .i64 62, .string ⟨#[]⟩, .string ⟨#[]⟩, .int .i64 0, .slice none 0 0]) (by simp [results, Tryz.results89, go_sem, s0, s1, s2, s3, s4]) rfl hp9
 | some y => ?_
 by_cases hv : 0 ≤ v ∧ v ≠ y.ver
 ·have e : doP s ⟨3, d, p, da, v, o, t⟩ = (s, .bad 63) := by unfold doP; simp [hf, versionedP, hv]
  rw [e]
  have hs := fun W (hW : Sw lo b vn vt s W) => versioned_bad hW ⟨3, d, p, da, v, o, t⟩ hst.asc (by omega) hf hv
  rw [hpt] at hs
  have HS := zI hs
  clear hs
  clear hf0 h ht hst hm hn hnt hp hf e hv
  rw [hpt]
  clear hpt
  go_enter Tryz.func89, Tryz.ntmps89
  generalize hW0 : ((w.alloc (.cells #[.int .i64 3, .string (B d), .string (B p), .string (B da), .int .i64 v, .int .i64 o, .bool t] TP)).alloc (.cells #[.int .i64 0, .string ⟨#[]⟩, .string ⟨#[]⟩, .int .i64 0, .slice none 0 0] TR)) = W0 at *
  obtain ⟨o0, o1, o2, o3, o4, o5, o6⟩ := boxP7 K0.out.now.2.1.op
  go_wp2_with fail
  clear hW0
  refine (HS.out _ K0.out.now.1).mono ?_
  rintro e w1 ⟨rfl, hf⟩
  have K1 := zI (K0.out.later hf)
  clear hf
  clear o0 o1 o2 o3 o4 o5 o6
  go_wp2_with fail
  refine (refusedP_c 63 _).mono ?_
  rintro e w9 ⟨rfl, hf⟩
  have K9 := zI (K1.out.later hf)
  clear hf
  unfold badV
  have hbr := (Chd.still HX.out.1 K9.out.now.1 K9.out.now.2.1 K9.out.now.2.2.1).bp
  obtain ⟨r0, r1, r2, r3, r4⟩ := hbr.r
  have z0 := hbr.fz 0; have z1 := hbr.fz 1; have z2 := hbr.fz 2; have z3 := hbr.fz 3; have z4 := hbr.fz 4
  have HP := zI ((Chd.still HX.out.1 K9.out.now.1 K9.out.now.2.1 K9.out.now.2.2.1).done (.bad 63) (.slice none 0 0) (Own.nil _ _) (fun e => by simp [Value.ownBlock] at e) (63) (⟨#[]⟩) (⟨#[]⟩) (0) rfl rfl rfl rfl)
  have HW9 := zI (set5 hbr.res (.int .i64 63) (.string ⟨#[]⟩) (.string ⟨#[]⟩) (.int .i64 0) (.slice none 0 0))
  clear hbr
  go_wp2
  have hw9 := HW9.out
  have hp9 := HP.out
  generalize (((((World.setCell _ _ _).setCell _ _).setCell _ _).setCell _ _).setCell _ _) = wz at *
  obtain ⟨s0, s1, s2, s3, s4⟩ := b5 hw9
  exact bodyPost_ret (v := .agg #[.int .i64 63, .string ⟨#[]⟩, .string ⟨#[]⟩, .int .i64 0, .slice none 0 0]) (by simp [results, Tryz.results89, go_sem, s0, s1, s2, s3, s4]) rfl hp9
 have e : doP s ⟨3, d, p, da, v, o, t⟩ = (⟨s.nodes.eraseIdx (place s.nodes p), s.turns⟩, okR) := by unfold doP; simp [hf, versionedP, hv]
 rw [e]
 rw [filter_erase hst.asc hf]
 have hs := fun W (hW : Sw lo b vn vt s W) => versioned_ok hW ⟨3, d, p, da, v, o, t⟩ hst.asc (by omega) hf hv
 rw [hpt] at hs
 simp only at hs
 obtain ⟨q, hq⟩ : ∃ q, q = place s.nodes p := ⟨_, rfl⟩
 rw [← hq] at hs
 have HS := zI hs
 clear hs
 have HSP := zI (StR.sp hst)
 clear hf0 h ht hst hm hn hnt hp hf e hq hv
 rw [hpt]
 clear hpt
 go_enter Tryz.func89, Tryz.ntmps89
 generalize hW0 : ((w.alloc (.cells #[.int .i64 3, .string (B d), .string (B p), .string (B da), .int .i64 v, .int .i64 o, .bool t] TP)).alloc (.cells #[.int .i64 0, .string ⟨#[]⟩, .string ⟨#[]⟩, .int .i64 0, .slice none 0 0] TR)) = W0 at *
 obtain ⟨o0, o1, o2, o3, o4, o5, o6⟩ := boxP7 K0.out.now.2.1.op
 go_wp2_with fail
 clear hW0
 refine (HS.out _ K0.out.now.1).mono ?_
 rintro e w1 ⟨G, hG, hnd, rfl, hf⟩
 have K1 := zI (K0.out.later hf)
 have HN1 := zI (yI hG (hnd.keep hf id))
 clear hnd hG
 clear hf
 clear o0 o1 o2 o3 o4 o5 o6
 obtain ⟨o0, o1, o2, o3, o4, o5, o6⟩ := boxP7 K1.out.now.2.1.op
 have hpd := remove_pd w1 w.heap.size p o2 (fun k => vn.ownBlock = some k) (fun e => by have := HX.out.1.ltN _ e; omega)
 have hdf := DeleteFunc_own K1.out.now.1.own HSP.out hpd (by have := HX.out.2.2.2.1; omega)
 have HDF := zI hdf
 have cb := K1.out.now.1.c0
 obtain ⟨ao, cap, rfl⟩ := K1.out.now.1.own.ns.shape
 clear hpd hdf o0 o1 o2 o3 o4 o5 o6
 go_wp2_with fail
 refine HDF.out.mono ?_
 rintro e w2 ⟨v2, rfl, hc⟩
 have hp2 := K1.out.now.1.putN (Fp.refl Non w1) hc
 have cb2 := hc.fp.cell cb (fun e => K1.out.now.1.neN e)
 have zb2 : w2.frozen? ⟨b, 0, none⟩ = false := by have := hc.fp.heap K1.out.now.1.blk (fun e => K1.out.now.1.neN e); simp [World.frozen?, this]
 have HC := zI (Chd.of HX.out.1 K1.out.now.2.1 hp2.1 K1.out.now.2.2.1 (hp2.2.1.mono (fun k hk => hk.imp id .inl)) hp2.2.2 (fun k hk => .inl hk))
 obtain ⟨a2, c2, rfl⟩ := hc.own.ns.shape
 clear hc hp2 cb HDF
 generalize (s.nodes.filter (fun n => !(n.path == p))).length = n2 at *
 have hbr := (HC.out).bp
 obtain ⟨r0, r1, r2, r3, r4⟩ := hbr.r
 have z0 := hbr.fz 0; have z1 := hbr.fz 1; have z2 := hbr.fz 2; have z3 := hbr.fz 3; have z4 := hbr.fz 4
 have HP := zI ((HC.out).done okR (.slice none 0 0) (Own.nil _ _) (fun e => by simp [Value.ownBlock] at e) (0) (⟨#[]⟩) (⟨#[]⟩) (0) rfl rfl rfl rfl)
 have HW9 := zI (set5 hbr.res (.int .i64 0) (.string ⟨#[]⟩) (.string ⟨#[]⟩) (.int .i64 0) (.slice none 0 0))
 clear hbr
 go_wp2
 have hw9 := HW9.out
 have hp9 := HP.out
 generalize (((((World.setCell _ _ _).setCell _ _).setCell _ _).setCell _ _).setCell _ _) = wz at *
 obtain ⟨s0, s1, s2, s3, s4⟩ := b5 hw9
 exact bodyPost_ret (v := .agg #[.int .i64 0, .string ⟨#[]⟩, .string ⟨#[]⟩, .int .i64 0, .slice none 0 0]) (by simp [results, Tryz.results89, go_sem, s0, s1, s2, s3, s4]) rfl hp9
set_option maxHeartbeats 4000000 in
theorem names_e {lo b : Nat} {vn vt : Value} {s : St} {w : World} (h : Sw lo b vn vt s w) (x : Pt) (hst : StR s) (hm : mayP x = true) (hn : s.nodes.length ≤ 3900) (hnt : s.turns.length ≤ 3900) (ht : Tab w) (hk : x.kind = 9) :
  Calls Tryz.prog 95 #[.pointer (some ⟨b, 0, none⟩), ptV x] w (PmR lo b vn vt (doP s x).1 (doP s x).2 w) := by
 have hp : x.path.length ≤ 100 := split_len ((mayP_iff x).1 hm).2.1
 obtain ⟨k, d, p, da, v, o, t⟩ := x
 obtain rfl : k = 9 := hk
 simp only at hp
 have hf0 : Fp Non w ((w.alloc (.cells #[.int .i64 9, .string (B d), .string (B p), .string (B da), .int .i64 v, .int .i64 o, .bool t] TP)).alloc (.cells #[.int .i64 0, .string ⟨#[]⟩, .string ⟨#[]⟩, .int .i64 0, .slice none 0 0] TR)) := ((Fp.refl Non w).alloc _).alloc _
 have K0 := zI (Kp.and (Kp.sw (h.non hf0)) (Kp.and (Kp.bp (Bp.made w 9 d p da v o t)) (Kp.and (Kp.fp hf0) (Kp.tab (ht.non hf0)))))
 have HX := zI (yI h (yI hst (yI hm (yI hn hnt))))
 have hpt : ptV ⟨9, d, p, da, v, o, t⟩ = .agg #[.int .i64 9, .string (B d), .string (B p), .string (B da), .int .i64 v, .int .i64 o, .bool t] := rfl
 have e : doP s ⟨9, d, p, da, v, o, t⟩ = (s, ⟨0, [], [], 0, (kids s.nodes p).map (fun n => last n.path)⟩) := by unfold doP; simp
 rw [e]
 have HSP := zI (StR.sp hst)
 clear hf0 h ht hst hm hn hnt hp e
 rw [hpt]
 clear hpt
 go_enter Tryz.func95, Tryz.ntmps95
 generalize hW0 : ((w.alloc (.cells #[.int .i64 9, .string (B d), .string (B p), .string (B da), .int .i64 v, .int .i64 o, .bool t] TP)).alloc (.cells #[.int .i64 0, .string ⟨#[]⟩, .string ⟨#[]⟩, .int .i64 0, .slice none 0 0] TR)) = W0 at *
 obtain ⟨o0, o1, o2, o3, o4, o5, o6⟩ := boxP7 K0.out.now.2.1.op
 go_wp2_with fail
 clear hW0
 refine (liesIn_c p W0).mono ?_
 rintro e w1 ⟨rfl, hw1⟩
 obtain rfl := hw1.symm
 have K1 := zI (K0.out.later (fp_alloc W0 (.cells #[.string (B p)] 9)))
 have hpd := liesIn_pd p W0 Non (fun _ h => h.elim)
 have hnm := lastParts_c K1.out.now.1 HSP.out hpd (by have := HX.out.2.2.2.1; omega)
 have HNM := zI hnm
 clear hpd hnm hw1 o0 o1 o2 o3 o4 o5 o6
 generalize W0.alloc (.cells #[.string (B p)] 9) = W1 at *
 go_wp2_with fail
 refine HNM.out.mono ?_
 rintro e w2 ⟨nv, rfl, hown, hf⟩
 have K2 := zI (K1.out.later hf)
 obtain ⟨ps, hps⟩ : ∃ ps, ps = (kids s.nodes p).map (fun n => last n.path) := ⟨_, rfl⟩
 have hown2 : Own w.heap.size w2 nv ps := by rw [hps]; exact hown.low K1.out.now.2.2.1.size
 have HNB := zI (show nv.ownBlock = some (w.heap.size + 1) → False from fun e => by have h1 := (hown.1.lt _ e).1; have h2 := K1.out.now.2.1.sz; omega)
 have HOW := zI hown2
 have HPS := zI hps
 obtain ⟨vao, vcap, rfl⟩ := hown2.shape
 clear hown hown2 hf hps HNM
 have hbr := (Chd.still HX.out.1 K2.out.now.1 K2.out.now.2.1 K2.out.now.2.2.1).bp
 obtain ⟨r0, r1, r2, r3, r4⟩ := hbr.r
 have z0 := hbr.fz 0; have z1 := hbr.fz 1; have z2 := hbr.fz 2; have z3 := hbr.fz 3; have z4 := hbr.fz 4
 have HP := zI ((Chd.still HX.out.1 K2.out.now.1 K2.out.now.2.1 K2.out.now.2.2.1).done ⟨0, [], [], 0, (kids s.nodes p).map (fun n => last n.path)⟩ (.slice vao ps.length vcap) (by rw [← HPS.out]; exact HOW.out) HNB.out (0) (⟨#[]⟩) (⟨#[]⟩) (0) rfl rfl rfl rfl)
 have HW9 := zI (set5 hbr.res (.int .i64 0) (.string ⟨#[]⟩) (.string ⟨#[]⟩) (.int .i64 0) (.slice vao ps.length vcap))
 clear hbr
 go_wp2
 have hw9 := HW9.out
 have hp9 := HP.out
 generalize (((((World.setCell _ _ _).setCell _ _).setCell _ _).setCell _ _).setCell _ _) = wz at *
 obtain ⟨s0, s1, s2, s3, s4⟩ := b5 hw9
 exact bodyPost_ret (v := .agg #[.int .i64 0, .string ⟨#[]⟩, .string ⟨#[]⟩, .int .i64 0, .slice vao ps.length vcap]) (by simp [results, Tryz.results95, go_sem, s0, s1, s2, s3, s4]) rfl hp9
set_option maxHeartbeats 4000000 in
theorem clear_e {lo b : Nat} {vn vt : Value} {s : St} {w : World} (h : Sw lo b vn vt s w) (x : Pt) (hst : StR s) (hm : mayP x = true) (hn : s.nodes.length ≤ 3900) (hnt : s.turns.length ≤ 3900) (ht : Tab w) (hk : x.kind = 10) :
  Calls Tryz.prog 96 #[.pointer (some ⟨b, 0, none⟩), ptV x] w (PmR lo b vn vt (doP s x).1 (doP s x).2 w) := by
 have hp : x.path.length ≤ 100 := split_len ((mayP_iff x).1 hm).2.1
 obtain ⟨k, d, p, da, v, o, t⟩ := x
 obtain rfl : k = 10 := hk
 simp only at hp
 have hf0 : Fp Non w ((w.alloc (.cells #[.int .i64 10, .string (B d), .string (B p), .string (B da), .int .i64 v, .int .i64 o, .bool t] TP)).alloc (.cells #[.int .i64 0, .string ⟨#[]⟩, .string ⟨#[]⟩, .int .i64 0, .slice none 0 0] TR)) := ((Fp.refl Non w).alloc _).alloc _
 have K0 := zI (Kp.and (Kp.sw (h.non hf0)) (Kp.and (Kp.bp (Bp.made w 10 d p da v o t)) (Kp.and (Kp.fp hf0) (Kp.tab (ht.non hf0)))))
 have HX := zI (yI h (yI hst (yI hm (yI hn hnt))))
 have hpt : ptV ⟨10, d, p, da, v, o, t⟩ = .agg #[.int .i64 10, .string (B d), .string (B p), .string (B da), .int .i64 v, .int .i64 o, .bool t] := rfl
 have e : doP s ⟨10, d, p, da, v, o, t⟩ = (⟨s.nodes.filter (fun n => !(n.own == o && parent n.path == some p)), s.turns⟩, ⟨0, [], [], 0, (s.nodes.filter (fun n => n.own == o && parent n.path == some p)).map (fun n => last n.path)⟩) := by unfold doP; rw [if_neg (show ¬ (10 : Int) = 2 by decide), if_neg (show ¬ (10 : Int) = 4 by decide), if_neg (show ¬ (10 : Int) = 9 by decide), if_pos rfl]; rfl
 rw [e]
 have HSP := zI (StR.sp hst)
 clear hf0 h ht hst hm hn hnt hp e
 rw [hpt]
 clear hpt
 go_enter Tryz.func96, Tryz.ntmps96
 generalize hW0 : ((w.alloc (.cells #[.int .i64 10, .string (B d), .string (B p), .string (B da), .int .i64 v, .int .i64 o, .bool t] TP)).alloc (.cells #[.int .i64 0, .string ⟨#[]⟩, .string ⟨#[]⟩, .int .i64 0, .slice none 0 0] TR)) = W0 at *
 obtain ⟨o0, o1, o2, o3, o4, o5, o6⟩ := boxP7 K0.out.now.2.1.op
 go_wp2_with fail
 clear hW0
 refine (liesIn_c p W0).mono ?_
 rintro e w1 ⟨rfl, hw1⟩
 obtain rfl := hw1.symm
 have K1 := zI (Kp.and (Kp.row (heap_alloc_new W0 (.cells #[.string (B p)] 9))) (K0.out.later (fp_alloc W0 (.cells #[.string (B p)] 9))))
 have HSZ := zI (show (W0.alloc (.cells #[.string (B p)] 9)).heap.size = W0.heap.size + 1 by simp)
 have HW0 := zI (show w.heap.size + 2 ≤ W0.heap.size from K0.out.now.2.1.sz)
 clear hw1 o0 o1 o2 o3 o4 o5 o6
 generalize W0.alloc (.cells #[.string (B p)] 9) = w1 at *
 go_wp2_with fail
 have K2 := zI (Kp.and (Kp.row (heap_alloc_new w1 (.cells #[liV W0.heap.size] 95))) (K1.out.later (fp_alloc w1 (.cells #[liV W0.heap.size] 95))))
 obtain ⟨o0, o1, o2, o3, o4, o5, o6⟩ := boxP7 K2.out.now.2.2.2.1.op
 have hc2 : (w1.alloc (.cells #[liV W0.heap.size] 95)).cell? ⟨w1.heap.size, 0, none⟩ = some (liV W0.heap.size) := by rw [cell_of_row _ _ _ _ _ _ K2.out.now.1]; rfl
 have hk2 : (w1.alloc (.cells #[liV W0.heap.size] 95)).cell? ⟨W0.heap.size, 0, none⟩ = some (.string (B p)) := by rw [cell_of_row _ _ _ _ _ _ K2.out.now.2.1]; rfl
 have hpd := clear_pd w.heap.size w1.heap.size W0.heap.size p o _ (fun k => vn.ownBlock = some k) o5 hc2 hk2 (fun e => by have := HX.out.1.ltN _ e; omega) (fun e => by have h1 := HX.out.1.ltN _ e; have h2 := HSZ.out; have h3 := HW0.out; omega) (fun e => by have h1 := HX.out.1.ltN _ e; have h3 := HW0.out; omega)
 have hnm := lastParts_c K2.out.now.2.2.1 HSP.out hpd.non (by have := HX.out.2.2.2.1; omega)
 have HNM := zI hnm
 have HPD := zI hpd
 have cb2 := K2.out.now.2.2.1.c0
 clear hc2 hk2 hpd hnm o0 o1 o2 o3 o4 o5 o6
 generalize w1.alloc (.cells #[liV W0.heap.size] 95) = w2 at *
 refine HNM.out.mono ?_
 rintro e w3 ⟨nv, rfl, hown, hf⟩
 have K3 := zI (K2.out.later hf)
 obtain ⟨ps, hps⟩ : ∃ ps, ps = (s.nodes.filter (fun n => n.own == o && parent n.path == some p)).map (fun n => last n.path) := ⟨_, rfl⟩
 have hown3 : Own w.heap.size w3 nv ps := by rw [hps]; exact hown.low K2.out.now.2.2.2.2.1.size
 have HNB := zI (show ∀ k, nv.ownBlock = some k → w.heap.size + 2 ≤ k from fun k e => by have h1 := (hown.1.lt k e).1; have h2 := K2.out.now.2.2.2.1.sz; omega)
 have HOW := zI hown3
 have HPS := zI hps
 have hdf := DeleteFunc_own K3.out.now.2.2.1.own HSP.out (HPD.out.later hf.any) (by have := HX.out.2.2.2.1; omega)
 have HDF := zI hdf
 have cb3 := hf.cell cb2 id
 obtain ⟨ao, cap, rfl⟩ := K3.out.now.2.2.1.own.ns.shape
 obtain ⟨vao, vcap, rfl⟩ := hown3.shape
 clear hown hown3 hf hps hdf cb2 HNM
 go_wp2_with fail
 refine HDF.out.mono ?_
 rintro e w4 ⟨v4, rfl, hc⟩
 have hp4 := K3.out.now.2.2.1.putN (Fp.refl Non w3) hc
 have cb4 := hc.fp.cell cb3 (fun e => K3.out.now.2.2.1.neN e)
 have zb4 : w4.frozen? ⟨b, 0, none⟩ = false := by have := hc.fp.heap K3.out.now.2.2.1.blk (fun e => K3.out.now.2.2.1.neN e); simp [World.frozen?, this]
 have HC := zI (Chd.of HX.out.1 K3.out.now.2.2.2.1 hp4.1 K3.out.now.2.2.2.2.1 (hp4.2.1.mono (fun k hk => hk.imp id .inl)) hp4.2.2 (fun k hk => .inl hk))
 have hown4 : Own w.heap.size (w4.setCell ⟨b, 0, none⟩ v4) (.slice vao ps.length vcap) ps := ⟨hp4.2.1.owns HOW.out.1 (fun k hk e => by
  have h1 := HNB.out k hk
  rcases e with e | e
  ·have := HX.out.1.lt; omega
  have := HX.out.1.ltN _ e; omega), HOW.out.2⟩
 have HOW4 := zI hown4
 obtain ⟨a4, c4, rfl⟩ := hc.own.ns.shape
 have HNB2 := zI (show (Value.slice vao ps.length vcap).ownBlock = some (w.heap.size + 1) → False from fun e => by have := HNB.out _ e; omega)
 clear hc hp4 cb3 HDF hown4
 generalize (s.nodes.filter (fun n => !(n.own == o && parent n.path == some p))).length = n4 at *
 have hbr := (HC.out).bp
 obtain ⟨r0, r1, r2, r3, r4⟩ := hbr.r
 have z0 := hbr.fz 0; have z1 := hbr.fz 1; have z2 := hbr.fz 2; have z3 := hbr.fz 3; have z4 := hbr.fz 4
 have HP := zI ((HC.out).done ⟨0, [], [], 0, (s.nodes.filter (fun n => n.own == o && parent n.path == some p)).map (fun n => last n.path)⟩ (.slice vao ps.length vcap) (by rw [← HPS.out]; exact HOW4.out) HNB2.out (0) (⟨#[]⟩) (⟨#[]⟩) (0) rfl rfl rfl rfl)
 have HW9 := zI (set5 hbr.res (.int .i64 0) (.string ⟨#[]⟩) (.string ⟨#[]⟩) (.int .i64 0) (.slice vao ps.length vcap))
 clear hbr
 go_wp2
 have hw9 := HW9.out
 have hp9 := HP.out
 generalize (((((World.setCell _ _ _).setCell _ _).setCell _ _).setCell _ _).setCell _ _) = wz at *
 obtain ⟨s0, s1, s2, s3, s4⟩ := b5 hw9
 exact bodyPost_ret (v := .agg #[.int .i64 0, .string ⟨#[]⟩, .string ⟨#[]⟩, .int .i64 0, .slice vao ps.length vcap]) (by simp [results, Tryz.results96, go_sem, s0, s1, s2, s3, s4]) rfl hp9
end Go.Proofs.YtphoglepiegeiaaGreatDoor
