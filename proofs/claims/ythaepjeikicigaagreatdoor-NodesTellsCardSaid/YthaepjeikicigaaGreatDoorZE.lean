/- Texts of this proof, merged. -/
import Derived.Test.YthaepjeikicigaaGreatDoorZD
import Derived.Deep.RegionLaw
import Derived.Deep.RegionHeld
/- Right: is it a tree? -/
namespace Go.Proofs.YthaepjeikicigaaGreatDoor
set_option linter.unusedSimpArgs false
set_option linter.unusedVariables false
set_option maxRecDepth 20000
open Go.RowKit Pm
/-- Paths are no longer than a machine holds. -/
def Sp (l : List Nd) : Prop := ∀ n ∈ l, n.path.length ≤ 1000000
/-- Ahead of round k. -/
structure RgM (l : List Nd) (m : Nat) (w : World) (k : Nat) (wr : World) : Prop where
  fp : Fp Non w wr
  om : Om wr m (l.take k)
  chk : ∀ j (h : j < l.length), j < k → Chk l j h
  lo : w.heap.size ≤ m
theorem tree_not {l : List Nd} {k : Nat} (hk : k < l.length) (h : ¬ Chk l k hk) : right l = false := right_false (fun t => h (t.chk k hk))
/-- A node in a box of its own. -/
theorem NdAt.box (w : World) (x : Nd) : NdAt (w.alloc (Obj.cells #[.string (B x.path), .string (B x.data), .int .i64 x.ver, .int .i64 x.turn, .int .i64 x.own] 35)) w.heap.size 0 x := by
  have h := heap_alloc_new w (Obj.cells #[.string (B x.path), .string (B x.data), .int .i64 x.ver, .int .i64 x.turn, .int .i64 x.own] 35)
  exact ⟨by rw [cell_of_row _ _ _ _ _ _ h]; rfl, by rw [cell_of_row _ _ _ _ _ _ h]; rfl, by rw [cell_of_row _ _ _ _ _ _ h]; rfl, by rw [cell_of_row _ _ _ _ _ _ h]; rfl, by rw [cell_of_row _ _ _ _ _ _ h]; rfl⟩
theorem NdAt.five {w : World} {g : Nat} {x : Nd} (h : NdAt w g 0 x) : w.cell? ⟨g, 0, none⟩ = some (.string (B x.path)) ∧ w.cell? ⟨g, 1, none⟩ = some (.string (B x.data)) ∧ w.cell? ⟨g, 2, none⟩ = some (.int .i64 x.ver) ∧ w.cell? ⟨g, 3, none⟩ = some (.int .i64 x.turn) ∧ w.cell? ⟨g, 4, none⟩ = some (.int .i64 x.own) :=
  ⟨h.c0, h.c1, h.c2, h.c3, h.c4⟩
/-- One place more that is right. -/
theorem find_new {l : List Nd} {k : Nat} (hk : k < l.length) (h : ∀ j (h : j < l.length), j < k → Chk l j h) (hlt : 0 < k → ∀ h' : k - 1 < l.length, lt l[k-1].path l[k].path = true) : find (l.take k) l[k].path = none := by
  have hA : Asc (l.take (k + 1)) := asc_of (fun i hi => by
    rw [List.length_take] at hi
    simp only [List.getElem_take]
    rcases Nat.lt_or_eq_of_le (show i + 1 ≤ k by omega) with e | e
    · have := ((h (i + 1) (by omega) e).2 (by omega)).1 (by omega)
      simpa using this
    · have := hlt (by omega) (by omega)
      simp only [← e] at this ⊢
      simpa using this)
  rw [find_none]
  intro x hx e
  obtain ⟨i, hi, rfl⟩ := List.getElem_of_mem hx
  rw [List.length_take] at hi
  have := hA i k (by rw [List.length_take]; omega) (by rw [List.length_take]; omega) (by omega)
  simp only [List.getElem_take] at this e
  rw [e, lt_irrefl] at this; cases this
theorem RgM.next {l : List Nd} {m : Nat} {w wr w1 w2 : World} {k : Nat} (h : RgM l m w k wr) (hk : k < l.length) (f : Fp Non wr w1) (hc : Chk l k hk) (hu : OuR m (l.take k ++ [l[k]]) w1 w2) : RgM l m w (k + 1) w2 := by
  refine ⟨(h.fp.then f).trans hu.fp (fun j hj => .inr (by rw [hj]; exact h.lo)), ?_, fun j hj hjk => ?_, h.lo⟩
  · rw [List.take_succ_eq_append_getElem hk]; exact hu.om
  · rcases Nat.lt_or_eq_of_le (show j ≤ k by omega) with e | e
    · exact h.chk j hj e
    · subst e; exact hc
set_option maxHeartbeats 4000000 in
theorem Right_loop (v : Value) (l : List Nd) (w : World) (hv : Ns w v l) (hs : Sp l) (h0 : 0 < l.length) (h5 : l.length ≤ 512) (hr : (l[0]'h0).path = [47]) (ho : (l[0]'h0).own = 0) :
    Calls Tryz.prog 11 #[v] w fun e w' => e = .returned (.bool (right l)) ∧ Fp Non w w' := by
  obtain ⟨g, o, cap, rfl, hlc, hcm, hgl, hcell⟩ := hv.at h0
  have hc0 := hcell 0 h0
  obtain ⟨n, hn⟩ : ∃ n, n = l.length := ⟨_, rfl⟩
  have q0 : w.cell? ⟨g, o, none⟩ = some (.string ⟨#[47]⟩) := by have := hc0.c0; rw [hr] at this; simpa [strV, B] using this
  have q4 : w.cell? ⟨g, o + 4, none⟩ = some (.int .i64 0) := by have := hc0.c4; rw [ho] at this; simpa using this
  have q1 : ((512 : Int) < (n : Int)) = False := eq_false (by omega)
  have q2 : ((n : Int) == 0) = false := beq_eq_false_iff_ne.2 (by omega)
  have H0 : Hid (RgM l w.heap.size w 0 (w.alloc (.map #[] 0))) := ⟨(Fp.refl Non w).alloc _, by rw [List.take_zero]; exact Om.made w, fun j _ h => absurd h (Nat.not_lt_zero j), Nat.le_refl _⟩
  obtain ⟨r, hrr⟩ : ∃ r, r = right l := ⟨_, rfl⟩
  have HT : Hid ((∀ i (hi : i < l.length), Chk l i hi) → r = true) := fun h => by rw [hrr]; exact right_true (tree_of_chk h0 h5 hr ho h)
  have HFa : Hid (∀ k (hk : k < l.length), ¬ Chk l k hk → r = false) := fun k hk h => by rw [hrr]; exact tree_not hk h
  rw [← hrr, ← hn]
  have HX := Lib.hid (And.intro hn (And.intro hcell (And.intro hs hgl)))
  have hnb : n ≤ 512 := by omega
  have hn0 : 0 < n := by omega
  clear hv hlc hcm hc0 hcell hr ho hrr hs h5 hn h0 hgl
  have hmm := make_owners
  go_enter Tryz.func11, Tryz.ntmps11
  go_wp2_with fail
  clear hmm q0 q4
  go_loopw [33] (fun i wr => ∃ k : Nat, k ≤ n ∧ i = .int .i64 k ∧ Hid (RgM l w.heap.size w k wr)) (fun i _ => n - (RowKit.intOf i).toNat)
  case atStart => exact ⟨0, Nat.zero_le _, rfl, H0⟩
  case round =>
    obtain ⟨k, hk, rfl, hR⟩ := hrel
    rename_i wr _
    by_cases hlt : k < n
    · have hkl : k < l.length := by rw [← HX.out.1]; exact hlt
      have hnd := (HX.out.2.1 k hkl).keep hR.out.fp (fun h => h)
      obtain ⟨x, hx⟩ : ∃ x, x = l[k] := ⟨_, rfl⟩
      rw [← hx] at hnd
      have c0 := hnd.c0; have c1 := hnd.c1; have c2 := hnd.c2; have c3 := hnd.c3; have c4 := hnd.c4
      unfold strV at c0 c1
      have q3 : ((k : Int) < (n : Int)) = True := eq_true (by omega)
      have q4 : (k < n) = True := eq_true hlt
      have hxm : x ∈ l := by rw [hx]; exact List.getElem_mem hkl
      have hbx := NdAt.box wr x
      have hfx : Fp Non wr (wr.alloc (Obj.cells #[.string (B x.path), .string (B x.data), .int .i64 x.ver, .int .i64 x.turn, .int .i64 x.own] 35)).drew := ((Fp.refl Non wr).alloc _).drew
      have hbd : NdAt (wr.alloc (Obj.cells #[.string (B x.path), .string (B x.data), .int .i64 x.ver, .int .i64 x.turn, .int .i64 x.own] 35)).drew wr.heap.size 0 x := hbx.keep ((Fp.refl Non _).drew) (fun h => h)
      have hfc := fun w => fits_c x w
      have hml := fun w hm => mayLie_c x w.heap.size (l.take k) w (HX.out.2.2.1 x hxm) hm
      unfold ndV strV at hfc
      have HB := Lib.hid (And.intro hfx (And.intro hbd hbx))
      have HXX := Lib.hid hx
      have HK := Lib.hid (And.intro hlt hxm)
      clear hnd hbx hfx hbd hml
      by_cases hfit : fitsB x = true
      · rw [hfit] at hfc
        have HFC := Lib.hid hfc
        clear hfc
        rcases Nat.eq_zero_or_pos k with hk0 | hk0
        · subst hk0
          simp only [Nat.zero_mul, Nat.add_zero] at c0 c1 c2 c3 c4
          have HLT : Hid (0 < 0 → ∀ h' : 0 - 1 < l.length, lt l[0-1].path l[0].path = true) := fun h => absurd h (by omega)
          have HCHK : Hid (Chk l 0 hkl) := ⟨by rw [← hx]; exact hfit, fun h => absurd h (by omega)⟩
          clear hx hxm
          go_wp2_with fail
          refine wp_region_held_drew (S := (fun w' => w'.cell? ⟨wr.heap.size, 0, none⟩ = some (.string (B x.path)) ∧ w'.cell? ⟨wr.heap.size, 1, none⟩ = some (.string (B x.data)) ∧ w'.cell? ⟨wr.heap.size, 2, none⟩ = some (.int .i64 x.ver) ∧ w'.cell? ⟨wr.heap.size, 3, none⟩ = some (.int .i64 x.turn) ∧ w'.cell? ⟨wr.heap.size, 4, none⟩ = some (.int .i64 x.own))) (by kernel_rfl) ?_ (fun hHeld => ?_)
          · exact HB.out.2.1.five
          refine wpAnyH_take (i := 0) (oi := ?oi125) (v := ?vi125) ?h125 (by kernel_rfl) (by kernel_rfl) (by kernel_rfl) ?q125 (Or.inl ⟨?w125, ?y125⟩) hHeld ?r125
          case h125 => simp only [zA, zB] <;> exact rfl
          case q125 => exact fun _ _ _ h => h
          case w125 => rfl
          case y125 =>
            intro w hSw
            (try dsimp only at hSw)
            obtain ⟨s0, s1, s2, s3, s4⟩ := hSw
            go_simp
            try with_reducible rfl
          try simp only [zP, zN, zS, zT, zU]
          refine wpAnyH_ready (rs := [1]) (by kernel_rfl) (by simp) ?_
          refine AllReadyH.cons (o := ?ob126) ?hb126 (fun K hK => ?_) AllReadyH.nil
          case hb126 => simp only [zA, zB, zC] <;> exact rfl
          go_simp
          go_at_call 28
          refine (HFC.out _).mono ?_
          rintro e w1 ⟨rfl, hf1⟩
          have HS1 := Lib.hid (HB.out.2.1.keep hf1 (fun h => h)).five
          have HF1 := Lib.hid (HB.out.1.then hf1)
          clear hf1
          have hup := fun (D : DataW Unit) (hD : OmAt w1 w.heap.size (l.take 0) D) => hD.upd x (by rw [HXX.out]; exact find_new hkl hR.out.chk HLT.out) (by have := HX.out.2.2.1 x HK.out.2; unfold maxLen; omega) (by have := (fits_iff x).1 hfit; omega) (by rw [List.length_take]; unfold maxLen; omega)
          have hup2 : ∃ w', (Instr.mapUpdate TO (.map (some w.heap.size)) (.string (B x.path)) (.int .i64 x.own)).run Tryz.prog w1 = .ok () w' ∧ OuR w.heap.size (l.take 0 ++ [x]) w1 w' := by
            obtain ⟨D, hD⟩ := hR.out.om.keep HF1.out (fun h => h)
            exact hup D hD
          have HUP := Lib.hid hup2
          have HNX : Hid (∀ w9, OuR w.heap.size (l.take 0 ++ [x]) w1 w9 → RgM l w.heap.size w (0 + 1) w9) := fun w9 hu => hR.out.next hkl HF1.out HCHK.out (by rw [← HXX.out]; exact hu)
          clear hup hup2
          clear HLT HCHK hfit
          go_wp2_with fail
          refine hK.out _ _ HS1.out (fun hHeld => ?_)
          clear hK K
          try simp only [zP, zN, zS, zT, zU]
          refine wpAnyH_take (i := 2) (oi := ?oi127) (v := ?vi127) ?h127 (by kernel_rfl) (by kernel_rfl) (by kernel_rfl) ?q127 (Or.inl ⟨?w127, ?y127⟩) hHeld ?r127
          case h127 => simp only [zA, zB, zC] <;> exact rfl
          case q127 => exact fun _ _ _ h => h
          case w127 => rfl
          case y127 =>
            intro w hSw
            (try dsimp only at hSw)
            obtain ⟨s0, s1, s2, s3, s4⟩ := hSw
            go_simp
            try with_reducible rfl
          try simp only [zP, zN, zS, zT, zU]
          refine wpAnyH_take (i := 3) (oi := ?oi128) (v := ?vi128) ?h128 (by kernel_rfl) (by kernel_rfl) (by kernel_rfl) ?q128 (Or.inl ⟨?w128, ?y128⟩) hHeld ?r128
          case h128 => simp only [zA, zB, zC] <;> exact rfl
          case q128 => exact fun _ _ _ h => h
          case w128 => rfl
          case y128 =>
            intro w hSw
            (try dsimp only at hSw)
            obtain ⟨s0, s1, s2, s3, s4⟩ := hSw
            go_simp
            try with_reducible rfl
          try simp only [zP, zN, zS, zT, zU]
          refine wpAnyH_take (i := 4) (oi := ?oi129) (v := ?vi129) ?h129 (by kernel_rfl) (by kernel_rfl) (by kernel_rfl) ?q129 (Or.inl ⟨?w129, ?y129⟩) hHeld ?r129
          case h129 => simp only [zA, zB, zC] <;> exact rfl
          case q129 => exact fun _ _ _ h => h
          case w129 => rfl
          case y129 =>
            intro w hSw
            (try dsimp only at hSw)
            obtain ⟨s0, s1, s2, s3, s4⟩ := hSw
            go_simp
            try with_reducible rfl
          try simp only [zP, zN, zS, zT, zU]
          refine wpAnyH_take (i := 5) (oi := ?oi130) (v := ?vi130) ?h130 (by kernel_rfl) (by kernel_rfl) (by kernel_rfl) ?q130 (Or.inl ⟨?w130, ?y130⟩) hHeld ?r130
          case h130 => simp only [zA, zB, zC] <;> exact rfl
          case q130 => exact fun _ _ _ h => h
          case w130 => rfl
          case y130 =>
            intro w hSw
            (try dsimp only at hSw)
            obtain ⟨s0, s1, s2, s3, s4⟩ := hSw
            go_simp
            try with_reducible rfl
          try simp only [zP, zN, zS, zT, zU]
          refine wpAnyH_take (i := 6) (oi := ?oi131) (v := ?vi131) ?h131 (by kernel_rfl) (by kernel_rfl) (by kernel_rfl) ?q131 (Or.inl ⟨?w131, ?y131⟩) hHeld ?r131
          case h131 => simp only [zA, zB, zC] <;> exact rfl
          case q131 => exact fun _ _ _ h => h
          case w131 => rfl
          case y131 =>
            intro w hSw
            (try dsimp only at hSw)
            obtain ⟨s0, s1, s2, s3, s4⟩ := hSw
            go_simp
            try with_reducible rfl
          try simp only [zP, zN, zS, zT, zU]
          refine wpAnyH_take (i := 7) (oi := ?oi132) (v := undef) ?h132 (by kernel_rfl) (by kernel_rfl) (by kernel_rfl) ?q132 (Or.inr ⟨?w132, rfl⟩) hHeld ?r132
          case h132 => simp only [zA, zB, zC] <;> exact rfl
          case q132 => exact fun _ _ _ h => h
          case w132 => rfl
          try simp only [zP, zN, zS, zT, zU]
          refine wpAnyH_take (i := 8) (oi := ?oi133) (v := undef) ?h133 (by kernel_rfl) (by kernel_rfl) (by kernel_rfl) ?q133 (Or.inr ⟨?w133, rfl⟩) hHeld ?r133
          case h133 => simp only [zA, zB, zC] <;> exact rfl
          case q133 => exact fun _ _ _ h => h
          case w133 => rfl
          try simp only [zP, zN, zS, zT, zU]
          refine wpAnyH_take (i := 9) (oi := ?oi134) (v := undef) ?h134 (by kernel_rfl) (by kernel_rfl) (by kernel_rfl) ?q134 (Or.inr ⟨?w134, rfl⟩) hHeld ?r134
          case h134 => simp only [zA, zB, zC] <;> exact rfl
          case q134 => exact fun _ _ _ h => h
          case w134 => rfl
          try simp only [zP, zN, zS, zT, zU]
          refine wpAnyH_take (i := 10) (oi := ?oi135) (v := undef) ?h135 (by kernel_rfl) (by kernel_rfl) (by kernel_rfl) ?q135 (Or.inr ⟨?w135, rfl⟩) hHeld ?r135
          case h135 => simp only [zA, zB, zC] <;> exact rfl
          case q135 => exact fun _ _ _ h => h
          case w135 => rfl
          try simp only [zP, zN, zS, zT, zU]
          refine wpAnyH_take (i := 11) (oi := ?oi136) (v := undef) ?h136 (by kernel_rfl) (by kernel_rfl) (by kernel_rfl) ?q136 (Or.inr ⟨?w136, rfl⟩) hHeld ?r136
          case h136 => simp only [zA, zB, zC] <;> exact rfl
          case q136 => exact fun _ _ _ h => h
          case w136 => rfl
          try simp only [zP, zN, zS, zT, zU]
          refine wpAnyH_take (i := 12) (oi := ?oi137) (v := undef) ?h137 (by kernel_rfl) (by kernel_rfl) (by kernel_rfl) ?q137 (Or.inr ⟨?w137, rfl⟩) hHeld ?r137
          case h137 => simp only [zA, zB, zC] <;> exact rfl
          case q137 => exact fun _ _ _ h => h
          case w137 => rfl
          try simp only [zP, zN, zS, zT, zU]
          refine wpAnyH_take (i := 13) (oi := ?oi138) (v := undef) ?h138 (by kernel_rfl) (by kernel_rfl) (by kernel_rfl) ?q138 (Or.inr ⟨?w138, rfl⟩) hHeld ?r138
          case h138 => simp only [zA, zB, zC] <;> exact rfl
          case q138 => exact fun _ _ _ h => h
          case w138 => rfl
          try simp only [zP, zN, zS, zT, zU]
          refine wpAnyH_take (i := 14) (oi := ?oi139) (v := undef) ?h139 (by kernel_rfl) (by kernel_rfl) (by kernel_rfl) ?q139 (Or.inr ⟨?w139, rfl⟩) hHeld ?r139
          case h139 => simp only [zA, zB, zC] <;> exact rfl
          case q139 => exact fun _ _ _ h => h
          case w139 => rfl
          try simp only [zP, zN, zS, zT, zU]
          refine wpAnyH_take (i := 15) (oi := ?oi140) (v := undef) ?h140 (by kernel_rfl) (by kernel_rfl) (by kernel_rfl) ?q140 (Or.inr ⟨?w140, rfl⟩) hHeld ?r140
          case h140 => simp only [zA, zB, zC] <;> exact rfl
          case q140 => exact fun _ _ _ h => h
          case w140 => rfl
          try simp only [zP, zN, zS, zT, zU]
          refine wpAnyH_take (i := 16) (oi := ?oi141) (v := undef) ?h141 (by kernel_rfl) (by kernel_rfl) (by kernel_rfl) ?q141 (Or.inr ⟨?w141, rfl⟩) hHeld ?r141
          case h141 => simp only [zA, zB, zC] <;> exact rfl
          case q141 => exact fun _ _ _ h => h
          case w141 => rfl
          try simp only [zP, zN, zS, zT, zU]
          refine wpAnyH_take (i := 17) (oi := ?oi142) (v := undef) ?h142 (by kernel_rfl) (by kernel_rfl) (by kernel_rfl) ?q142 (Or.inr ⟨?w142, rfl⟩) hHeld ?r142
          case h142 => simp only [zA, zB, zC] <;> exact rfl
          case q142 => exact fun _ _ _ h => h
          case w142 => rfl
          try simp only [zP, zN, zS, zT, zU]
          refine wpAnyH_take (i := 18) (oi := ?oi143) (v := undef) ?h143 (by kernel_rfl) (by kernel_rfl) (by kernel_rfl) ?q143 (Or.inr ⟨?w143, rfl⟩) hHeld ?r143
          case h143 => simp only [zA, zB, zC] <;> exact rfl
          case q143 => exact fun _ _ _ h => h
          case w143 => rfl
          try simp only [zP, zN, zS, zT, zU]
          refine wpAnyH_take (i := 19) (oi := ?oi144) (v := undef) ?h144 (by kernel_rfl) (by kernel_rfl) (by kernel_rfl) ?q144 (Or.inr ⟨?w144, rfl⟩) hHeld ?r144
          case h144 => simp only [zA, zB, zC] <;> exact rfl
          case q144 => exact fun _ _ _ h => h
          case w144 => rfl
          try simp only [zP, zN, zS, zT, zU]
          refine wpAnyH_take (i := 20) (oi := ?oi145) (v := undef) ?h145 (by kernel_rfl) (by kernel_rfl) (by kernel_rfl) ?q145 (Or.inr ⟨?w145, rfl⟩) hHeld ?r145
          case h145 => simp only [zA, zB, zC] <;> exact rfl
          case q145 => exact fun _ _ _ h => h
          case w145 => rfl
          try simp only [zP, zN, zS, zT, zU]
          refine wpAnyH_take (i := 21) (oi := ?oi146) (v := undef) ?h146 (by kernel_rfl) (by kernel_rfl) (by kernel_rfl) ?q146 (Or.inr ⟨?w146, rfl⟩) hHeld ?r146
          case h146 => simp only [zA, zB, zC] <;> exact rfl
          case q146 => exact fun _ _ _ h => h
          case w146 => rfl
          try simp only [zP, zN, zS, zT, zU]
          refine wpAnyH_take (i := 22) (oi := ?oi147) (v := ?vi147) ?h147 (by kernel_rfl) (by kernel_rfl) (by kernel_rfl) ?q147 (Or.inl ⟨?w147, ?y147⟩) hHeld ?r147
          case h147 => simp only [zA, zB, zC] <;> exact rfl
          case q147 => exact fun _ _ _ h => h
          case w147 => rfl
          case y147 =>
            intro w hSw
            (try dsimp only at hSw)
            obtain ⟨s0, s1, s2, s3, s4⟩ := hSw
            go_simp
            try with_reducible rfl
          try simp only [zP, zN, zS, zT, zU]
          refine wpAnyH_take (i := 23) (oi := ?oi148) (v := ?vi148) ?h148 (by kernel_rfl) (by kernel_rfl) (by kernel_rfl) ?q148 (Or.inl ⟨?w148, ?y148⟩) hHeld ?r148
          case h148 => simp only [zA, zB, zC] <;> exact rfl
          case q148 => exact fun _ _ _ h => h
          case w148 => rfl
          case y148 =>
            intro w hSw
            (try dsimp only at hSw)
            obtain ⟨s0, s1, s2, s3, s4⟩ := hSw
            go_simp
            try with_reducible rfl
          try simp only [zP, zN, zS, zT, zU]
          refine wpAnyH_done (by kernel_rfl) ?_ _
          have b0 : w1.cell? ⟨wr.heap.size, 0, none⟩ = some (.string (B x.path)) := HS1.out.1
          have b4 : w1.cell? ⟨wr.heap.size, 4, none⟩ = some (.int .i64 x.own) := HS1.out.2.2.2.2
          clear HXX hkl hlt hk
          go_wp2_with fail
          obtain ⟨w3, hr3, hu3⟩ := HUP.out
          rw [hr3]
          simp only [Result.andThen]
          rw [Oper.upon_skip]
          clear hr3
          have hM : Hid (RgM l w.heap.size w (0 + 1) w3) := HNX.out _ hu3
          clear hu3
          go_wp2
          go_roundw
          case rel => exact ⟨0 + 1, by have := HK.out.1; omega, by go_num, hM⟩
          case measure => have := HK.out.1; simp [RowKit.intOf]; omega
        · obtain ⟨y, hy⟩ : ∃ y, y = (l[k-1]'(by omega)).path := ⟨_, rfl⟩
          have hpv : wr.cell? ⟨g, o + (k - 1) * 5, none⟩ = some (.string (B y)) := by have := ((HX.out.2.1 (k - 1) (by omega)).keep hR.out.fp (fun h => h)).c0; rw [← hy] at this; exact this
          have HPV := Lib.hid hpv
          have HY := Lib.hid hy
          have HXM := Lib.hid hxm
          have HK0 := Lib.hid hk0
          have wk : IntKind.i64.wrap ((k : Int) - 1) = ((k - 1 : Nat) : Int) := by rw [IntKind.wrap_i64]; omega
          have qz : ((0 : Int) < (k : Int)) = True := eq_true (by omega)
          have qz2 : (0 < k) = True := eq_true hk0
          have qn : (((k - 1 : Nat) : Int) < (n : Int)) = True := eq_true (by omega)
          have qn2 : (k - 1 < n) = True := eq_true (by omega)
          by_cases hle : (Op.bytesLess x.path y || x.path == y) = true
          · have hrf : r = false := HFa.out k hkl (fun c => by
              have h1 := (c.2 hk0).1 (by omega)
              rw [← HXX.out, ← hy] at h1
              simp only [Bool.or_eq_true, beq_iff_eq] at hle
              rcases hle with h | h
              · have := lt_asymm h; rw [h1] at this; cases this
              · rw [h, lt_irrefl] at h1; cases h1)
            have HRF := Lib.hid hrf
            clear HY HXM HK0
            clear HXX hrf hx hxm hkl hlt hk hy hk0 hpv hfit
            go_wp2_with fail
            refine wp_region_held_drew (S := (fun w' => w'.cell? ⟨wr.heap.size, 0, none⟩ = some (.string (B x.path)) ∧ w'.cell? ⟨wr.heap.size, 1, none⟩ = some (.string (B x.data)) ∧ w'.cell? ⟨wr.heap.size, 2, none⟩ = some (.int .i64 x.ver) ∧ w'.cell? ⟨wr.heap.size, 3, none⟩ = some (.int .i64 x.turn) ∧ w'.cell? ⟨wr.heap.size, 4, none⟩ = some (.int .i64 x.own) ∧ w'.cell? ⟨g, o + (k - 1) * 5, none⟩ = some (.string (B y)))) (by kernel_rfl) ?_ (fun hHeld => ?_)
            · exact ⟨HB.out.2.1.c0, HB.out.2.1.c1, HB.out.2.1.c2, HB.out.2.1.c3, HB.out.2.1.c4, HB.out.1.cell HPV.out (fun h => h)⟩
            refine wpAnyH_take (i := 0) (oi := ?oi149) (v := ?vi149) ?h149 (by kernel_rfl) (by kernel_rfl) (by kernel_rfl) ?q149 (Or.inl ⟨?w149, ?y149⟩) hHeld ?r149
            case h149 => simp only [zA, zB] <;> exact rfl
            case q149 => exact fun _ _ _ h => h
            case w149 => rfl
            case y149 =>
              intro w hSw
              (try dsimp only at hSw)
              obtain ⟨s0, s1, s2, s3, s4, s5⟩ := hSw
              go_simp
              try with_reducible rfl
            try simp only [zP, zN, zS, zT, zU]
            refine wpAnyH_ready (rs := [1]) (by kernel_rfl) (by simp) ?_
            refine AllReadyH.cons (o := ?ob150) ?hb150 (fun K hK => ?_) AllReadyH.nil
            case hb150 => simp only [zA, zB, zC] <;> exact rfl
            go_simp
            go_at_call 28
            refine (HFC.out _).mono ?_
            rintro e w1 ⟨rfl, hf1⟩
            have HS1 := Lib.hid (HB.out.2.1.keep hf1 (fun h => h)).five
            have HF1 := Lib.hid (HB.out.1.then hf1)
            have HP1 := Lib.hid (HB.out.1.then hf1 |>.cell HPV.out (fun h => h))
            clear hf1
            go_wp2_with fail
            refine hK.out _ _ ⟨HS1.out.1, HS1.out.2.1, HS1.out.2.2.1, HS1.out.2.2.2.1, HS1.out.2.2.2.2, HP1.out⟩ (fun hHeld => ?_)
            clear hK K
            try simp only [zP, zN, zS, zT, zU]
            refine wpAnyH_take (i := 2) (oi := ?oi151) (v := ?vi151) ?h151 (by kernel_rfl) (by kernel_rfl) (by kernel_rfl) ?q151 (Or.inl ⟨?w151, ?y151⟩) hHeld ?r151
            case h151 => simp only [zA, zB, zC] <;> exact rfl
            case q151 => exact fun _ _ _ h => h
            case w151 => rfl
            case y151 =>
              intro w hSw
              (try dsimp only at hSw)
              obtain ⟨s0, s1, s2, s3, s4, s5⟩ := hSw
              go_simp
              try with_reducible rfl
            try simp only [zP, zN, zS, zT, zU]
            refine wpAnyH_take (i := 3) (oi := ?oi152) (v := ?vi152) ?h152 (by kernel_rfl) (by kernel_rfl) (by kernel_rfl) ?q152 (Or.inl ⟨?w152, ?y152⟩) hHeld ?r152
            case h152 => simp only [zA, zB, zC] <;> exact rfl
            case q152 => exact fun _ _ _ h => h
            case w152 => rfl
            case y152 =>
              intro w hSw
              (try dsimp only at hSw)
              obtain ⟨s0, s1, s2, s3, s4, s5⟩ := hSw
              go_simp
              try with_reducible rfl
            try simp only [zP, zN, zS, zT, zU]
            refine wpAnyH_take (i := 4) (oi := ?oi153) (v := ?vi153) ?h153 (by kernel_rfl) (by kernel_rfl) (by kernel_rfl) ?q153 (Or.inl ⟨?w153, ?y153⟩) hHeld ?r153
            case h153 => simp only [zA, zB, zC] <;> exact rfl
            case q153 => exact fun _ _ _ h => h
            case w153 => rfl
            case y153 =>
              intro w hSw
              (try dsimp only at hSw)
              obtain ⟨s0, s1, s2, s3, s4, s5⟩ := hSw
              go_simp
              try with_reducible rfl
            try simp only [zP, zN, zS, zT, zU]
            refine wpAnyH_take (i := 5) (oi := ?oi154) (v := ?vi154) ?h154 (by kernel_rfl) (by kernel_rfl) (by kernel_rfl) ?q154 (Or.inl ⟨?w154, ?y154⟩) hHeld ?r154
            case h154 => simp only [zA, zB, zC] <;> exact rfl
            case q154 => exact fun _ _ _ h => h
            case w154 => rfl
            case y154 =>
              intro w hSw
              (try dsimp only at hSw)
              obtain ⟨s0, s1, s2, s3, s4, s5⟩ := hSw
              go_simp
              try with_reducible rfl
            try simp only [zP, zN, zS, zT, zU]
            refine wpAnyH_take (i := 6) (oi := ?oi155) (v := ?vi155) ?h155 (by kernel_rfl) (by kernel_rfl) (by kernel_rfl) ?q155 (Or.inl ⟨?w155, ?y155⟩) hHeld ?r155
            case h155 => simp only [zA, zB, zC] <;> exact rfl
            case q155 => exact fun _ _ _ h => h
            case w155 => rfl
            case y155 =>
              intro w hSw
              (try dsimp only at hSw)
              obtain ⟨s0, s1, s2, s3, s4, s5⟩ := hSw
              go_simp
              try with_reducible rfl
            try simp only [zP, zN, zS, zT, zU]
            refine wpAnyH_take (i := 7) (oi := ?oi156) (v := ?vi156) ?h156 (by kernel_rfl) (by kernel_rfl) (by kernel_rfl) ?q156 (Or.inl ⟨?w156, ?y156⟩) hHeld ?r156
            case h156 => simp only [zA, zB, zC] <;> exact rfl
            case q156 => exact fun _ _ _ h => h
            case w156 => rfl
            case y156 =>
              intro w hSw
              (try dsimp only at hSw)
              obtain ⟨s0, s1, s2, s3, s4, s5⟩ := hSw
              go_simp
              try with_reducible rfl
            try simp only [zP, zN, zS, zT, zU]
            refine wpAnyH_take (i := 8) (oi := ?oi157) (v := ?vi157) ?h157 (by kernel_rfl) (by kernel_rfl) (by kernel_rfl) ?q157 (Or.inl ⟨?w157, ?y157⟩) hHeld ?r157
            case h157 => simp only [zA, zB, zC] <;> exact rfl
            case q157 => exact fun _ _ _ h => h
            case w157 => rfl
            case y157 =>
              intro w hSw
              (try dsimp only at hSw)
              obtain ⟨s0, s1, s2, s3, s4, s5⟩ := hSw
              go_simp
              try with_reducible rfl
            try simp only [zP, zN, zS, zT, zU]
            refine wpAnyH_take (i := 9) (oi := ?oi158) (v := ?vi158) ?h158 (by kernel_rfl) (by kernel_rfl) (by kernel_rfl) ?q158 (Or.inl ⟨?w158, ?y158⟩) hHeld ?r158
            case h158 => simp only [zA, zB, zC] <;> exact rfl
            case q158 => exact fun _ _ _ h => h
            case w158 => rfl
            case y158 =>
              intro w hSw
              (try dsimp only at hSw)
              obtain ⟨s0, s1, s2, s3, s4, s5⟩ := hSw
              go_simp
              try with_reducible rfl
            try simp only [zP, zN, zS, zT, zU]
            refine wpAnyH_take (i := 10) (oi := ?oi159) (v := ?vi159) ?h159 (by kernel_rfl) (by kernel_rfl) (by kernel_rfl) ?q159 (Or.inl ⟨?w159, ?y159⟩) hHeld ?r159
            case h159 => simp only [zA, zB, zC] <;> exact rfl
            case q159 => exact fun _ _ _ h => h
            case w159 => rfl
            case y159 =>
              intro w hSw
              (try dsimp only at hSw)
              obtain ⟨s0, s1, s2, s3, s4, s5⟩ := hSw
              go_simp
              try with_reducible rfl
            try simp only [zP, zN, zS, zT, zU]
            refine wpAnyH_take (i := 11) (oi := ?oi160) (v := ?vi160) ?h160 (by kernel_rfl) (by kernel_rfl) (by kernel_rfl) ?q160 (Or.inl ⟨?w160, ?y160⟩) hHeld ?r160
            case h160 => simp only [zA, zB, zC] <;> exact rfl
            case q160 => exact fun _ _ _ h => h
            case w160 => rfl
            case y160 =>
              intro w hSw
              (try dsimp only at hSw)
              obtain ⟨s0, s1, s2, s3, s4, s5⟩ := hSw
              go_simp
              try with_reducible rfl
            try simp only [zP, zN, zS, zT, zU]
            refine wpAnyH_take (i := 12) (oi := ?oi161) (v := ?vi161) ?h161 (by kernel_rfl) (by kernel_rfl) (by kernel_rfl) ?q161 (Or.inl ⟨?w161, ?y161⟩) hHeld ?r161
            case h161 => simp only [zA, zB, zC] <;> exact rfl
            case q161 => exact fun _ _ _ h => h
            case w161 => rfl
            case y161 =>
              intro w hSw
              (try dsimp only at hSw)
              obtain ⟨s0, s1, s2, s3, s4, s5⟩ := hSw
              go_simp
              try with_reducible rfl
            try simp only [zP, zN, zS, zT, zU]
            refine wpAnyH_take (i := 13) (oi := ?oi162) (v := ?vi162) ?h162 (by kernel_rfl) (by kernel_rfl) (by kernel_rfl) ?q162 (Or.inl ⟨?w162, ?y162⟩) hHeld ?r162
            case h162 => simp only [zA, zB, zC] <;> exact rfl
            case q162 => exact fun _ _ _ h => h
            case w162 => rfl
            case y162 =>
              intro w hSw
              (try dsimp only at hSw)
              obtain ⟨s0, s1, s2, s3, s4, s5⟩ := hSw
              go_simp
              try with_reducible rfl
            try simp only [zP, zN, zS, zT, zU]
            refine wpAnyH_take (i := 14) (oi := ?oi163) (v := ?vi163) ?h163 (by kernel_rfl) (by kernel_rfl) (by kernel_rfl) ?q163 (Or.inl ⟨?w163, ?y163⟩) hHeld ?r163
            case h163 => simp only [zA, zB, zC] <;> exact rfl
            case q163 => exact fun _ _ _ h => h
            case w163 => rfl
            case y163 =>
              intro w hSw
              (try dsimp only at hSw)
              obtain ⟨s0, s1, s2, s3, s4, s5⟩ := hSw
              go_simp
              try with_reducible rfl
            try simp only [zP, zN, zS, zT, zU]
            refine wpAnyH_take (i := 15) (oi := ?oi164) (v := ?vi164) ?h164 (by kernel_rfl) (by kernel_rfl) (by kernel_rfl) ?q164 (Or.inl ⟨?w164, ?y164⟩) hHeld ?r164
            case h164 => simp only [zA, zB, zC] <;> exact rfl
            case q164 => exact fun _ _ _ h => h
            case w164 => rfl
            case y164 =>
              intro w hSw
              (try dsimp only at hSw)
              obtain ⟨s0, s1, s2, s3, s4, s5⟩ := hSw
              go_simp
              try with_reducible rfl
            try simp only [zP, zN, zS, zT, zU]
            refine wpAnyH_take (i := 16) (oi := ?oi165) (v := ?vi165) ?h165 (by kernel_rfl) (by kernel_rfl) (by kernel_rfl) ?q165 (Or.inl ⟨?w165, ?y165⟩) hHeld ?r165
            case h165 => simp only [zA, zB, zC] <;> exact rfl
            case q165 => exact fun _ _ _ h => h
            case w165 => rfl
            case y165 =>
              intro w hSw
              (try dsimp only at hSw)
              obtain ⟨s0, s1, s2, s3, s4, s5⟩ := hSw
              go_simp
              try with_reducible rfl
            try simp only [zP, zN, zS, zT, zU]
            refine wpAnyH_take (i := 17) (oi := ?oi166) (v := undef) ?h166 (by kernel_rfl) (by kernel_rfl) (by kernel_rfl) ?q166 (Or.inr ⟨?w166, rfl⟩) hHeld ?r166
            case h166 => simp only [zA, zB, zC] <;> exact rfl
            case q166 => exact fun _ _ _ h => h
            case w166 => rfl
            try simp only [zP, zN, zS, zT, zU]
            refine wpAnyH_take (i := 18) (oi := ?oi167) (v := undef) ?h167 (by kernel_rfl) (by kernel_rfl) (by kernel_rfl) ?q167 (Or.inr ⟨?w167, rfl⟩) hHeld ?r167
            case h167 => simp only [zA, zB, zC] <;> exact rfl
            case q167 => exact fun _ _ _ h => h
            case w167 => rfl
            try simp only [zP, zN, zS, zT, zU]
            refine wpAnyH_take (i := 19) (oi := ?oi168) (v := undef) ?h168 (by kernel_rfl) (by kernel_rfl) (by kernel_rfl) ?q168 (Or.inr ⟨?w168, rfl⟩) hHeld ?r168
            case h168 => simp only [zA, zB, zC] <;> exact rfl
            case q168 => exact fun _ _ _ h => h
            case w168 => rfl
            try simp only [zP, zN, zS, zT, zU]
            refine wpAnyH_take (i := 20) (oi := ?oi169) (v := undef) ?h169 (by kernel_rfl) (by kernel_rfl) (by kernel_rfl) ?q169 (Or.inr ⟨?w169, rfl⟩) hHeld ?r169
            case h169 => simp only [zA, zB, zC] <;> exact rfl
            case q169 => exact fun _ _ _ h => h
            case w169 => rfl
            try simp only [zP, zN, zS, zT, zU]
            refine wpAnyH_take (i := 21) (oi := ?oi170) (v := ?vi170) ?h170 (by kernel_rfl) (by kernel_rfl) (by kernel_rfl) ?q170 (Or.inl ⟨?w170, ?y170⟩) hHeld ?r170
            case h170 => simp only [zA, zB, zC] <;> exact rfl
            case q170 => exact fun _ _ _ h => h
            case w170 => rfl
            case y170 =>
              intro w hSw
              (try dsimp only at hSw)
              obtain ⟨s0, s1, s2, s3, s4, s5⟩ := hSw
              go_simp
              try with_reducible rfl
            try simp only [zP, zN, zS, zT, zU]
            refine wpAnyH_take (i := 22) (oi := ?oi171) (v := ?vi171) ?h171 (by kernel_rfl) (by kernel_rfl) (by kernel_rfl) ?q171 (Or.inl ⟨?w171, ?y171⟩) hHeld ?r171
            case h171 => simp only [zA, zB, zC] <;> exact rfl
            case q171 => exact fun _ _ _ h => h
            case w171 => rfl
            case y171 =>
              intro w hSw
              (try dsimp only at hSw)
              obtain ⟨s0, s1, s2, s3, s4, s5⟩ := hSw
              go_simp
              try with_reducible rfl
            try simp only [zP, zN, zS, zT, zU]
            refine wpAnyH_take (i := 23) (oi := ?oi172) (v := ?vi172) ?h172 (by kernel_rfl) (by kernel_rfl) (by kernel_rfl) ?q172 (Or.inl ⟨?w172, ?y172⟩) hHeld ?r172
            case h172 => simp only [zA, zB, zC] <;> exact rfl
            case q172 => exact fun _ _ _ h => h
            case w172 => rfl
            case y172 =>
              intro w hSw
              (try dsimp only at hSw)
              obtain ⟨s0, s1, s2, s3, s4, s5⟩ := hSw
              go_simp
              try with_reducible rfl
            try simp only [zP, zN, zS, zT, zU]
            refine wpAnyH_done (by kernel_rfl) ?_ _
            go_wp2
            go_ret
            exact ⟨ret_bool HRF.out.symm, hR.out.fp.then HF1.out⟩
          · have hle' : (Op.bytesLess x.path y || x.path == y) = false := by simpa using hle
            have hgt : lt y x.path = true := by
              simp only [Bool.or_eq_false_iff, beq_eq_false_iff_ne] at hle'
              exact lt_of hle'.1 hle'.2
            clear hle
            by_cases hli : lies (l.take k) x = true
            · have HLT : Hid (0 < k → ∀ h' : k - 1 < l.length, lt l[k-1].path l[k].path = true) := fun _ h => by rw [← hx, ← hy]; exact hgt
              have HCHK : Hid (Chk l k hkl) := ⟨by rw [← hx]; exact hfit, fun h => ⟨HLT.out h, by rw [← hx]; exact hli⟩⟩
              have HLI := Lib.hid hli
              clear hli hgt HY HXM HK0 hx hxm hy hk0 hpv
              go_wp2_with fail
              refine wp_region_held_drew (S := (fun w' => w'.cell? ⟨wr.heap.size, 0, none⟩ = some (.string (B x.path)) ∧ w'.cell? ⟨wr.heap.size, 1, none⟩ = some (.string (B x.data)) ∧ w'.cell? ⟨wr.heap.size, 2, none⟩ = some (.int .i64 x.ver) ∧ w'.cell? ⟨wr.heap.size, 3, none⟩ = some (.int .i64 x.turn) ∧ w'.cell? ⟨wr.heap.size, 4, none⟩ = some (.int .i64 x.own) ∧ w'.cell? ⟨g, o + (k - 1) * 5, none⟩ = some (.string (B y)))) (by kernel_rfl) ?_ (fun hHeld => ?_)
              · exact ⟨HB.out.2.1.c0, HB.out.2.1.c1, HB.out.2.1.c2, HB.out.2.1.c3, HB.out.2.1.c4, HB.out.1.cell HPV.out (fun h => h)⟩
              refine wpAnyH_take (i := 0) (oi := ?oi197) (v := ?vi197) ?h197 (by kernel_rfl) (by kernel_rfl) (by kernel_rfl) ?q197 (Or.inl ⟨?w197, ?y197⟩) hHeld ?r197
              case h197 => simp only [zA, zB] <;> exact rfl
              case q197 => exact fun _ _ _ h => h
              case w197 => rfl
              case y197 =>
                intro w hSw
                (try dsimp only at hSw)
                obtain ⟨s0, s1, s2, s3, s4, s5⟩ := hSw
                go_simp
                try with_reducible rfl
              try simp only [zP, zN, zS, zT, zU]
              refine wpAnyH_ready (rs := [1]) (by kernel_rfl) (by simp) ?_
              refine AllReadyH.cons (o := ?ob198) ?hb198 (fun K hK => ?_) AllReadyH.nil
              case hb198 => simp only [zA, zB, zC] <;> exact rfl
              go_simp
              go_at_call 28
              refine (HFC.out _).mono ?_
              rintro e w1 ⟨rfl, hf1⟩
              have HS1 := Lib.hid (HB.out.2.1.keep hf1 (fun h => h)).five
              have HF1 := Lib.hid (HB.out.1.then hf1)
              have HP1 := Lib.hid (HB.out.1.then hf1 |>.cell HPV.out (fun h => h))
              have HB1 := Lib.hid (HB.out.2.1.keep hf1 (fun h => h))
              clear hf1
              have hml1 := mayLie_c x w.heap.size (l.take k) w1 (HX.out.2.2.1 x HK.out.2) (hR.out.om.keep HF1.out (fun h => h))
              unfold ndV strV at hml1
              rw [HLI.out] at hml1
              have HML := Lib.hid hml1
              clear hml1
              go_wp2_with fail
              refine hK.out _ _ ⟨HS1.out.1, HS1.out.2.1, HS1.out.2.2.1, HS1.out.2.2.2.1, HS1.out.2.2.2.2, HP1.out⟩ (fun hHeld => ?_)
              clear hK K
              try simp only [zP, zN, zS, zT, zU]
              refine wpAnyH_take (i := 2) (oi := ?oi199) (v := ?vi199) ?h199 (by kernel_rfl) (by kernel_rfl) (by kernel_rfl) ?q199 (Or.inl ⟨?w199, ?y199⟩) hHeld ?r199
              case h199 => simp only [zA, zB, zC] <;> exact rfl
              case q199 => exact fun _ _ _ h => h
              case w199 => rfl
              case y199 =>
                intro w hSw
                (try dsimp only at hSw)
                obtain ⟨s0, s1, s2, s3, s4, s5⟩ := hSw
                go_simp
                try with_reducible rfl
              try simp only [zP, zN, zS, zT, zU]
              refine wpAnyH_take (i := 3) (oi := ?oi200) (v := ?vi200) ?h200 (by kernel_rfl) (by kernel_rfl) (by kernel_rfl) ?q200 (Or.inl ⟨?w200, ?y200⟩) hHeld ?r200
              case h200 => simp only [zA, zB, zC] <;> exact rfl
              case q200 => exact fun _ _ _ h => h
              case w200 => rfl
              case y200 =>
                intro w hSw
                (try dsimp only at hSw)
                obtain ⟨s0, s1, s2, s3, s4, s5⟩ := hSw
                go_simp
                try with_reducible rfl
              try simp only [zP, zN, zS, zT, zU]
              refine wpAnyH_take (i := 4) (oi := ?oi201) (v := ?vi201) ?h201 (by kernel_rfl) (by kernel_rfl) (by kernel_rfl) ?q201 (Or.inl ⟨?w201, ?y201⟩) hHeld ?r201
              case h201 => simp only [zA, zB, zC] <;> exact rfl
              case q201 => exact fun _ _ _ h => h
              case w201 => rfl
              case y201 =>
                intro w hSw
                (try dsimp only at hSw)
                obtain ⟨s0, s1, s2, s3, s4, s5⟩ := hSw
                go_simp
                try with_reducible rfl
              try simp only [zP, zN, zS, zT, zU]
              refine wpAnyH_take (i := 5) (oi := ?oi202) (v := ?vi202) ?h202 (by kernel_rfl) (by kernel_rfl) (by kernel_rfl) ?q202 (Or.inl ⟨?w202, ?y202⟩) hHeld ?r202
              case h202 => simp only [zA, zB, zC] <;> exact rfl
              case q202 => exact fun _ _ _ h => h
              case w202 => rfl
              case y202 =>
                intro w hSw
                (try dsimp only at hSw)
                obtain ⟨s0, s1, s2, s3, s4, s5⟩ := hSw
                go_simp
                try with_reducible rfl
              try simp only [zP, zN, zS, zT, zU]
              refine wpAnyH_take (i := 6) (oi := ?oi203) (v := ?vi203) ?h203 (by kernel_rfl) (by kernel_rfl) (by kernel_rfl) ?q203 (Or.inl ⟨?w203, ?y203⟩) hHeld ?r203
              case h203 => simp only [zA, zB, zC] <;> exact rfl
              case q203 => exact fun _ _ _ h => h
              case w203 => rfl
              case y203 =>
                intro w hSw
                (try dsimp only at hSw)
                obtain ⟨s0, s1, s2, s3, s4, s5⟩ := hSw
                go_simp
                try with_reducible rfl
              try simp only [zP, zN, zS, zT, zU]
              refine wpAnyH_take (i := 7) (oi := ?oi204) (v := ?vi204) ?h204 (by kernel_rfl) (by kernel_rfl) (by kernel_rfl) ?q204 (Or.inl ⟨?w204, ?y204⟩) hHeld ?r204
              case h204 => simp only [zA, zB, zC] <;> exact rfl
              case q204 => exact fun _ _ _ h => h
              case w204 => rfl
              case y204 =>
                intro w hSw
                (try dsimp only at hSw)
                obtain ⟨s0, s1, s2, s3, s4, s5⟩ := hSw
                go_simp
                try with_reducible rfl
              try simp only [zP, zN, zS, zT, zU]
              refine wpAnyH_take (i := 8) (oi := ?oi205) (v := ?vi205) ?h205 (by kernel_rfl) (by kernel_rfl) (by kernel_rfl) ?q205 (Or.inl ⟨?w205, ?y205⟩) hHeld ?r205
              case h205 => simp only [zA, zB, zC] <;> exact rfl
              case q205 => exact fun _ _ _ h => h
              case w205 => rfl
              case y205 =>
                intro w hSw
                (try dsimp only at hSw)
                obtain ⟨s0, s1, s2, s3, s4, s5⟩ := hSw
                go_simp
                try with_reducible rfl
              try simp only [zP, zN, zS, zT, zU]
              refine wpAnyH_take (i := 9) (oi := ?oi206) (v := ?vi206) ?h206 (by kernel_rfl) (by kernel_rfl) (by kernel_rfl) ?q206 (Or.inl ⟨?w206, ?y206⟩) hHeld ?r206
              case h206 => simp only [zA, zB, zC] <;> exact rfl
              case q206 => exact fun _ _ _ h => h
              case w206 => rfl
              case y206 =>
                intro w hSw
                (try dsimp only at hSw)
                obtain ⟨s0, s1, s2, s3, s4, s5⟩ := hSw
                go_simp
                try with_reducible rfl
              try simp only [zP, zN, zS, zT, zU]
              refine wpAnyH_take (i := 10) (oi := ?oi207) (v := ?vi207) ?h207 (by kernel_rfl) (by kernel_rfl) (by kernel_rfl) ?q207 (Or.inl ⟨?w207, ?y207⟩) hHeld ?r207
              case h207 => simp only [zA, zB, zC] <;> exact rfl
              case q207 => exact fun _ _ _ h => h
              case w207 => rfl
              case y207 =>
                intro w hSw
                (try dsimp only at hSw)
                obtain ⟨s0, s1, s2, s3, s4, s5⟩ := hSw
                go_simp
                try with_reducible rfl
              try simp only [zP, zN, zS, zT, zU]
              refine wpAnyH_take (i := 11) (oi := ?oi208) (v := ?vi208) ?h208 (by kernel_rfl) (by kernel_rfl) (by kernel_rfl) ?q208 (Or.inl ⟨?w208, ?y208⟩) hHeld ?r208
              case h208 => simp only [zA, zB, zC] <;> exact rfl
              case q208 => exact fun _ _ _ h => h
              case w208 => rfl
              case y208 =>
                intro w hSw
                (try dsimp only at hSw)
                obtain ⟨s0, s1, s2, s3, s4, s5⟩ := hSw
                go_simp
                try with_reducible rfl
              try simp only [zP, zN, zS, zT, zU]
              refine wpAnyH_take (i := 12) (oi := ?oi209) (v := ?vi209) ?h209 (by kernel_rfl) (by kernel_rfl) (by kernel_rfl) ?q209 (Or.inl ⟨?w209, ?y209⟩) hHeld ?r209
              case h209 => simp only [zA, zB, zC] <;> exact rfl
              case q209 => exact fun _ _ _ h => h
              case w209 => rfl
              case y209 =>
                intro w hSw
                (try dsimp only at hSw)
                obtain ⟨s0, s1, s2, s3, s4, s5⟩ := hSw
                go_simp
                try with_reducible rfl
              try simp only [zP, zN, zS, zT, zU]
              refine wpAnyH_take (i := 13) (oi := ?oi210) (v := ?vi210) ?h210 (by kernel_rfl) (by kernel_rfl) (by kernel_rfl) ?q210 (Or.inl ⟨?w210, ?y210⟩) hHeld ?r210
              case h210 => simp only [zA, zB, zC] <;> exact rfl
              case q210 => exact fun _ _ _ h => h
              case w210 => rfl
              case y210 =>
                intro w hSw
                (try dsimp only at hSw)
                obtain ⟨s0, s1, s2, s3, s4, s5⟩ := hSw
                go_simp
                try with_reducible rfl
              try simp only [zP, zN, zS, zT, zU]
              refine wpAnyH_take (i := 14) (oi := ?oi211) (v := ?vi211) ?h211 (by kernel_rfl) (by kernel_rfl) (by kernel_rfl) ?q211 (Or.inl ⟨?w211, ?y211⟩) hHeld ?r211
              case h211 => simp only [zA, zB, zC] <;> exact rfl
              case q211 => exact fun _ _ _ h => h
              case w211 => rfl
              case y211 =>
                intro w hSw
                (try dsimp only at hSw)
                obtain ⟨s0, s1, s2, s3, s4, s5⟩ := hSw
                go_simp
                try with_reducible rfl
              try simp only [zP, zN, zS, zT, zU]
              refine wpAnyH_take (i := 15) (oi := ?oi212) (v := ?vi212) ?h212 (by kernel_rfl) (by kernel_rfl) (by kernel_rfl) ?q212 (Or.inl ⟨?w212, ?y212⟩) hHeld ?r212
              case h212 => simp only [zA, zB, zC] <;> exact rfl
              case q212 => exact fun _ _ _ h => h
              case w212 => rfl
              case y212 =>
                intro w hSw
                (try dsimp only at hSw)
                obtain ⟨s0, s1, s2, s3, s4, s5⟩ := hSw
                go_simp
                try with_reducible rfl
              try simp only [zP, zN, zS, zT, zU]
              refine wpAnyH_take (i := 16) (oi := ?oi213) (v := ?vi213) ?h213 (by kernel_rfl) (by kernel_rfl) (by kernel_rfl) ?q213 (Or.inl ⟨?w213, ?y213⟩) hHeld ?r213
              case h213 => simp only [zA, zB, zC] <;> exact rfl
              case q213 => exact fun _ _ _ h => h
              case w213 => rfl
              case y213 =>
                intro w hSw
                (try dsimp only at hSw)
                obtain ⟨s0, s1, s2, s3, s4, s5⟩ := hSw
                go_simp
                try with_reducible rfl
              try simp only [zP, zN, zS, zT, zU]
              refine wpAnyH_take (i := 17) (oi := ?oi214) (v := ?vi214) ?h214 (by kernel_rfl) (by kernel_rfl) (by kernel_rfl) ?q214 (Or.inl ⟨?w214, ?y214⟩) hHeld ?r214
              case h214 => simp only [zA, zB, zC] <;> exact rfl
              case q214 => exact fun _ _ _ h => h
              case w214 => rfl
              case y214 =>
                intro w hSw
                (try dsimp only at hSw)
                obtain ⟨s0, s1, s2, s3, s4, s5⟩ := hSw
                go_simp
                try with_reducible rfl
              try simp only [zP, zN, zS, zT, zU]
              refine wpAnyH_take (i := 18) (oi := ?oi215) (v := ?vi215) ?h215 (by kernel_rfl) (by kernel_rfl) (by kernel_rfl) ?q215 (Or.inl ⟨?w215, ?y215⟩) hHeld ?r215
              case h215 => simp only [zA, zB, zC] <;> exact rfl
              case q215 => exact fun _ _ _ h => h
              case w215 => rfl
              case y215 =>
                intro w hSw
                (try dsimp only at hSw)
                obtain ⟨s0, s1, s2, s3, s4, s5⟩ := hSw
                go_simp
                try with_reducible rfl
              try simp only [zP, zN, zS, zT, zU]
              refine wpAnyH_ready (rs := [19]) (by kernel_rfl) (by simp) ?_
              refine AllReadyH.cons (o := ?ob216) ?hb216 (fun K hK => ?_) AllReadyH.nil
              case hb216 => simp only [zA, zB, zC] <;> exact rfl
              go_simp
              go_at_call 29
              refine HML.out.mono ?_
              rintro e w2 ⟨rfl, hf2⟩
              have HS2 := Lib.hid (HB1.out.keep hf2 (fun h => h)).five
              have HP2 := Lib.hid (hf2.cell HP1.out (fun h => h))
              have HF2 := Lib.hid (HF1.out.then hf2)
              clear hf2
              have hup := fun (D : DataW Unit) (hD : OmAt w2 w.heap.size (l.take k) D) => hD.upd x (by rw [HXX.out]; exact find_new hkl hR.out.chk HLT.out) (by have := HX.out.2.2.1 x HK.out.2; unfold maxLen; omega) (by have := (fits_iff x).1 hfit; omega) (by rw [List.length_take]; unfold maxLen; omega)
              have hup2 : ∃ w', (Instr.mapUpdate TO (.map (some w.heap.size)) (.string (B x.path)) (.int .i64 x.own)).run Tryz.prog w2 = .ok () w' ∧ OuR w.heap.size (l.take k ++ [x]) w2 w' := by
                obtain ⟨D, hD⟩ := hR.out.om.keep HF2.out (fun h => h)
                exact hup D hD
              have HUP := Lib.hid hup2
              have HNX : Hid (∀ w9, OuR w.heap.size (l.take k ++ [x]) w2 w9 → RgM l w.heap.size w (k + 1) w9) := fun w9 hu => hR.out.next hkl HF2.out HCHK.out (by rw [← HXX.out]; exact hu)
              clear hup hup2
              go_wp2_with fail
              refine hK.out _ _ ⟨HS2.out.1, HS2.out.2.1, HS2.out.2.2.1, HS2.out.2.2.2.1, HS2.out.2.2.2.2, HP2.out⟩ (fun hHeld => ?_)
              clear hK K
              try simp only [zP, zN, zS, zT, zU]
              refine wpAnyH_take (i := 20) (oi := ?oi217) (v := ?vi217) ?h217 (by kernel_rfl) (by kernel_rfl) (by kernel_rfl) ?q217 (Or.inl ⟨?w217, ?y217⟩) hHeld ?r217
              case h217 => simp only [zA, zB, zC] <;> exact rfl
              case q217 => exact fun _ _ _ h => h
              case w217 => rfl
              case y217 =>
                intro w hSw
                (try dsimp only at hSw)
                obtain ⟨s0, s1, s2, s3, s4, s5⟩ := hSw
                go_simp
                try with_reducible rfl
              try simp only [zP, zN, zS, zT, zU]
              refine wpAnyH_take (i := 21) (oi := ?oi218) (v := ?vi218) ?h218 (by kernel_rfl) (by kernel_rfl) (by kernel_rfl) ?q218 (Or.inl ⟨?w218, ?y218⟩) hHeld ?r218
              case h218 => simp only [zA, zB, zC] <;> exact rfl
              case q218 => exact fun _ _ _ h => h
              case w218 => rfl
              case y218 =>
                intro w hSw
                (try dsimp only at hSw)
                obtain ⟨s0, s1, s2, s3, s4, s5⟩ := hSw
                go_simp
                try with_reducible rfl
              try simp only [zP, zN, zS, zT, zU]
              refine wpAnyH_take (i := 22) (oi := ?oi219) (v := ?vi219) ?h219 (by kernel_rfl) (by kernel_rfl) (by kernel_rfl) ?q219 (Or.inl ⟨?w219, ?y219⟩) hHeld ?r219
              case h219 => simp only [zA, zB, zC] <;> exact rfl
              case q219 => exact fun _ _ _ h => h
              case w219 => rfl
              case y219 =>
                intro w hSw
                (try dsimp only at hSw)
                obtain ⟨s0, s1, s2, s3, s4, s5⟩ := hSw
                go_simp
                try with_reducible rfl
              try simp only [zP, zN, zS, zT, zU]
              refine wpAnyH_take (i := 23) (oi := ?oi220) (v := ?vi220) ?h220 (by kernel_rfl) (by kernel_rfl) (by kernel_rfl) ?q220 (Or.inl ⟨?w220, ?y220⟩) hHeld ?r220
              case h220 => simp only [zA, zB, zC] <;> exact rfl
              case q220 => exact fun _ _ _ h => h
              case w220 => rfl
              case y220 =>
                intro w hSw
                (try dsimp only at hSw)
                obtain ⟨s0, s1, s2, s3, s4, s5⟩ := hSw
                go_simp
                try with_reducible rfl
              try simp only [zP, zN, zS, zT, zU]
              refine wpAnyH_done (by kernel_rfl) ?_ _
              have b0 : w2.cell? ⟨wr.heap.size, 0, none⟩ = some (.string (B x.path)) := HS2.out.1
              have b4 : w2.cell? ⟨wr.heap.size, 4, none⟩ = some (.int .i64 x.own) := HS2.out.2.2.2.2
              clear HXX HLT HCHK hfit hkl hlt hk
              go_wp2_with fail
              obtain ⟨w3, hr3, hu3⟩ := HUP.out
              rw [hr3]
              simp only [Result.andThen]
              rw [Oper.upon_skip]
              clear hr3
              have hM : Hid (RgM l w.heap.size w (k + 1) w3) := HNX.out _ hu3
              clear hu3
              have q13 : wrap64 ((k : Int) + 1) = ((k + 1 : Nat) : Int) := by have := HK.out.1; unfold wrap64; omega
              have Q13 := Lib.hid q13
              clear q13
              go_wp2
              go_roundw
              case rel => exact ⟨k + 1, by have := HK.out.1; omega, congrArg (Value.int .i64) Q13.out, hM⟩
              case measure => have := HK.out.1; rw [Q13.out]; simp [RowKit.intOf]; omega
            · have hrf : r = false := HFa.out k hkl (fun c => hli (by have := (c.2 hk0).2; rw [← hx] at this; exact this))
              have HRF := Lib.hid hrf
              have HLI := Lib.hid (show lies (l.take k) x = false by simpa using hli)
              clear hli hgt HY HXM HK0
              clear HXX hrf hx hxm hkl hlt hk hy hk0 hpv hfit
              go_wp2_with fail
              refine wp_region_held_drew (S := (fun w' => w'.cell? ⟨wr.heap.size, 0, none⟩ = some (.string (B x.path)) ∧ w'.cell? ⟨wr.heap.size, 1, none⟩ = some (.string (B x.data)) ∧ w'.cell? ⟨wr.heap.size, 2, none⟩ = some (.int .i64 x.ver) ∧ w'.cell? ⟨wr.heap.size, 3, none⟩ = some (.int .i64 x.turn) ∧ w'.cell? ⟨wr.heap.size, 4, none⟩ = some (.int .i64 x.own) ∧ w'.cell? ⟨g, o + (k - 1) * 5, none⟩ = some (.string (B y)))) (by kernel_rfl) ?_ (fun hHeld => ?_)
              · exact ⟨HB.out.2.1.c0, HB.out.2.1.c1, HB.out.2.1.c2, HB.out.2.1.c3, HB.out.2.1.c4, HB.out.1.cell HPV.out (fun h => h)⟩
              refine wpAnyH_take (i := 0) (oi := ?oi173) (v := ?vi173) ?h173 (by kernel_rfl) (by kernel_rfl) (by kernel_rfl) ?q173 (Or.inl ⟨?w173, ?y173⟩) hHeld ?r173
              case h173 => simp only [zA, zB] <;> exact rfl
              case q173 => exact fun _ _ _ h => h
              case w173 => rfl
              case y173 =>
                intro w hSw
                (try dsimp only at hSw)
                obtain ⟨s0, s1, s2, s3, s4, s5⟩ := hSw
                go_simp
                try with_reducible rfl
              try simp only [zP, zN, zS, zT, zU]
              refine wpAnyH_ready (rs := [1]) (by kernel_rfl) (by simp) ?_
              refine AllReadyH.cons (o := ?ob174) ?hb174 (fun K hK => ?_) AllReadyH.nil
              case hb174 => simp only [zA, zB, zC] <;> exact rfl
              go_simp
              go_at_call 28
              refine (HFC.out _).mono ?_
              rintro e w1 ⟨rfl, hf1⟩
              have HS1 := Lib.hid (HB.out.2.1.keep hf1 (fun h => h)).five
              have HF1 := Lib.hid (HB.out.1.then hf1)
              have HP1 := Lib.hid (HB.out.1.then hf1 |>.cell HPV.out (fun h => h))
              have HB1 := Lib.hid (HB.out.2.1.keep hf1 (fun h => h))
              clear hf1
              have hml1 := mayLie_c x w.heap.size (l.take k) w1 (HX.out.2.2.1 x HK.out.2) (hR.out.om.keep HF1.out (fun h => h))
              unfold ndV strV at hml1
              rw [HLI.out] at hml1
              have HML := Lib.hid hml1
              clear hml1
              go_wp2_with fail
              refine hK.out _ _ ⟨HS1.out.1, HS1.out.2.1, HS1.out.2.2.1, HS1.out.2.2.2.1, HS1.out.2.2.2.2, HP1.out⟩ (fun hHeld => ?_)
              clear hK K
              try simp only [zP, zN, zS, zT, zU]
              refine wpAnyH_take (i := 2) (oi := ?oi175) (v := ?vi175) ?h175 (by kernel_rfl) (by kernel_rfl) (by kernel_rfl) ?q175 (Or.inl ⟨?w175, ?y175⟩) hHeld ?r175
              case h175 => simp only [zA, zB, zC] <;> exact rfl
              case q175 => exact fun _ _ _ h => h
              case w175 => rfl
              case y175 =>
                intro w hSw
                (try dsimp only at hSw)
                obtain ⟨s0, s1, s2, s3, s4, s5⟩ := hSw
                go_simp
                try with_reducible rfl
              try simp only [zP, zN, zS, zT, zU]
              refine wpAnyH_take (i := 3) (oi := ?oi176) (v := ?vi176) ?h176 (by kernel_rfl) (by kernel_rfl) (by kernel_rfl) ?q176 (Or.inl ⟨?w176, ?y176⟩) hHeld ?r176
              case h176 => simp only [zA, zB, zC] <;> exact rfl
              case q176 => exact fun _ _ _ h => h
              case w176 => rfl
              case y176 =>
                intro w hSw
                (try dsimp only at hSw)
                obtain ⟨s0, s1, s2, s3, s4, s5⟩ := hSw
                go_simp
                try with_reducible rfl
              try simp only [zP, zN, zS, zT, zU]
              refine wpAnyH_take (i := 4) (oi := ?oi177) (v := ?vi177) ?h177 (by kernel_rfl) (by kernel_rfl) (by kernel_rfl) ?q177 (Or.inl ⟨?w177, ?y177⟩) hHeld ?r177
              case h177 => simp only [zA, zB, zC] <;> exact rfl
              case q177 => exact fun _ _ _ h => h
              case w177 => rfl
              case y177 =>
                intro w hSw
                (try dsimp only at hSw)
                obtain ⟨s0, s1, s2, s3, s4, s5⟩ := hSw
                go_simp
                try with_reducible rfl
              try simp only [zP, zN, zS, zT, zU]
              refine wpAnyH_take (i := 5) (oi := ?oi178) (v := ?vi178) ?h178 (by kernel_rfl) (by kernel_rfl) (by kernel_rfl) ?q178 (Or.inl ⟨?w178, ?y178⟩) hHeld ?r178
              case h178 => simp only [zA, zB, zC] <;> exact rfl
              case q178 => exact fun _ _ _ h => h
              case w178 => rfl
              case y178 =>
                intro w hSw
                (try dsimp only at hSw)
                obtain ⟨s0, s1, s2, s3, s4, s5⟩ := hSw
                go_simp
                try with_reducible rfl
              try simp only [zP, zN, zS, zT, zU]
              refine wpAnyH_take (i := 6) (oi := ?oi179) (v := ?vi179) ?h179 (by kernel_rfl) (by kernel_rfl) (by kernel_rfl) ?q179 (Or.inl ⟨?w179, ?y179⟩) hHeld ?r179
              case h179 => simp only [zA, zB, zC] <;> exact rfl
              case q179 => exact fun _ _ _ h => h
              case w179 => rfl
              case y179 =>
                intro w hSw
                (try dsimp only at hSw)
                obtain ⟨s0, s1, s2, s3, s4, s5⟩ := hSw
                go_simp
                try with_reducible rfl
              try simp only [zP, zN, zS, zT, zU]
              refine wpAnyH_take (i := 7) (oi := ?oi180) (v := ?vi180) ?h180 (by kernel_rfl) (by kernel_rfl) (by kernel_rfl) ?q180 (Or.inl ⟨?w180, ?y180⟩) hHeld ?r180
              case h180 => simp only [zA, zB, zC] <;> exact rfl
              case q180 => exact fun _ _ _ h => h
              case w180 => rfl
              case y180 =>
                intro w hSw
                (try dsimp only at hSw)
                obtain ⟨s0, s1, s2, s3, s4, s5⟩ := hSw
                go_simp
                try with_reducible rfl
              try simp only [zP, zN, zS, zT, zU]
              refine wpAnyH_take (i := 8) (oi := ?oi181) (v := ?vi181) ?h181 (by kernel_rfl) (by kernel_rfl) (by kernel_rfl) ?q181 (Or.inl ⟨?w181, ?y181⟩) hHeld ?r181
              case h181 => simp only [zA, zB, zC] <;> exact rfl
              case q181 => exact fun _ _ _ h => h
              case w181 => rfl
              case y181 =>
                intro w hSw
                (try dsimp only at hSw)
                obtain ⟨s0, s1, s2, s3, s4, s5⟩ := hSw
                go_simp
                try with_reducible rfl
              try simp only [zP, zN, zS, zT, zU]
              refine wpAnyH_take (i := 9) (oi := ?oi182) (v := ?vi182) ?h182 (by kernel_rfl) (by kernel_rfl) (by kernel_rfl) ?q182 (Or.inl ⟨?w182, ?y182⟩) hHeld ?r182
              case h182 => simp only [zA, zB, zC] <;> exact rfl
              case q182 => exact fun _ _ _ h => h
              case w182 => rfl
              case y182 =>
                intro w hSw
                (try dsimp only at hSw)
                obtain ⟨s0, s1, s2, s3, s4, s5⟩ := hSw
                go_simp
                try with_reducible rfl
              try simp only [zP, zN, zS, zT, zU]
              refine wpAnyH_take (i := 10) (oi := ?oi183) (v := ?vi183) ?h183 (by kernel_rfl) (by kernel_rfl) (by kernel_rfl) ?q183 (Or.inl ⟨?w183, ?y183⟩) hHeld ?r183
              case h183 => simp only [zA, zB, zC] <;> exact rfl
              case q183 => exact fun _ _ _ h => h
              case w183 => rfl
              case y183 =>
                intro w hSw
                (try dsimp only at hSw)
                obtain ⟨s0, s1, s2, s3, s4, s5⟩ := hSw
                go_simp
                try with_reducible rfl
              try simp only [zP, zN, zS, zT, zU]
              refine wpAnyH_take (i := 11) (oi := ?oi184) (v := ?vi184) ?h184 (by kernel_rfl) (by kernel_rfl) (by kernel_rfl) ?q184 (Or.inl ⟨?w184, ?y184⟩) hHeld ?r184
              case h184 => simp only [zA, zB, zC] <;> exact rfl
              case q184 => exact fun _ _ _ h => h
              case w184 => rfl
              case y184 =>
                intro w hSw
                (try dsimp only at hSw)
                obtain ⟨s0, s1, s2, s3, s4, s5⟩ := hSw
                go_simp
                try with_reducible rfl
              try simp only [zP, zN, zS, zT, zU]
              refine wpAnyH_take (i := 12) (oi := ?oi185) (v := ?vi185) ?h185 (by kernel_rfl) (by kernel_rfl) (by kernel_rfl) ?q185 (Or.inl ⟨?w185, ?y185⟩) hHeld ?r185
              case h185 => simp only [zA, zB, zC] <;> exact rfl
              case q185 => exact fun _ _ _ h => h
              case w185 => rfl
              case y185 =>
                intro w hSw
                (try dsimp only at hSw)
                obtain ⟨s0, s1, s2, s3, s4, s5⟩ := hSw
                go_simp
                try with_reducible rfl
              try simp only [zP, zN, zS, zT, zU]
              refine wpAnyH_take (i := 13) (oi := ?oi186) (v := ?vi186) ?h186 (by kernel_rfl) (by kernel_rfl) (by kernel_rfl) ?q186 (Or.inl ⟨?w186, ?y186⟩) hHeld ?r186
              case h186 => simp only [zA, zB, zC] <;> exact rfl
              case q186 => exact fun _ _ _ h => h
              case w186 => rfl
              case y186 =>
                intro w hSw
                (try dsimp only at hSw)
                obtain ⟨s0, s1, s2, s3, s4, s5⟩ := hSw
                go_simp
                try with_reducible rfl
              try simp only [zP, zN, zS, zT, zU]
              refine wpAnyH_take (i := 14) (oi := ?oi187) (v := ?vi187) ?h187 (by kernel_rfl) (by kernel_rfl) (by kernel_rfl) ?q187 (Or.inl ⟨?w187, ?y187⟩) hHeld ?r187
              case h187 => simp only [zA, zB, zC] <;> exact rfl
              case q187 => exact fun _ _ _ h => h
              case w187 => rfl
              case y187 =>
                intro w hSw
                (try dsimp only at hSw)
                obtain ⟨s0, s1, s2, s3, s4, s5⟩ := hSw
                go_simp
                try with_reducible rfl
              try simp only [zP, zN, zS, zT, zU]
              refine wpAnyH_take (i := 15) (oi := ?oi188) (v := ?vi188) ?h188 (by kernel_rfl) (by kernel_rfl) (by kernel_rfl) ?q188 (Or.inl ⟨?w188, ?y188⟩) hHeld ?r188
              case h188 => simp only [zA, zB, zC] <;> exact rfl
              case q188 => exact fun _ _ _ h => h
              case w188 => rfl
              case y188 =>
                intro w hSw
                (try dsimp only at hSw)
                obtain ⟨s0, s1, s2, s3, s4, s5⟩ := hSw
                go_simp
                try with_reducible rfl
              try simp only [zP, zN, zS, zT, zU]
              refine wpAnyH_take (i := 16) (oi := ?oi189) (v := ?vi189) ?h189 (by kernel_rfl) (by kernel_rfl) (by kernel_rfl) ?q189 (Or.inl ⟨?w189, ?y189⟩) hHeld ?r189
              case h189 => simp only [zA, zB, zC] <;> exact rfl
              case q189 => exact fun _ _ _ h => h
              case w189 => rfl
              case y189 =>
                intro w hSw
                (try dsimp only at hSw)
                obtain ⟨s0, s1, s2, s3, s4, s5⟩ := hSw
                go_simp
                try with_reducible rfl
              try simp only [zP, zN, zS, zT, zU]
              refine wpAnyH_take (i := 17) (oi := ?oi190) (v := ?vi190) ?h190 (by kernel_rfl) (by kernel_rfl) (by kernel_rfl) ?q190 (Or.inl ⟨?w190, ?y190⟩) hHeld ?r190
              case h190 => simp only [zA, zB, zC] <;> exact rfl
              case q190 => exact fun _ _ _ h => h
              case w190 => rfl
              case y190 =>
                intro w hSw
                (try dsimp only at hSw)
                obtain ⟨s0, s1, s2, s3, s4, s5⟩ := hSw
                go_simp
                try with_reducible rfl
              try simp only [zP, zN, zS, zT, zU]
              refine wpAnyH_take (i := 18) (oi := ?oi191) (v := ?vi191) ?h191 (by kernel_rfl) (by kernel_rfl) (by kernel_rfl) ?q191 (Or.inl ⟨?w191, ?y191⟩) hHeld ?r191
              case h191 => simp only [zA, zB, zC] <;> exact rfl
              case q191 => exact fun _ _ _ h => h
              case w191 => rfl
              case y191 =>
                intro w hSw
                (try dsimp only at hSw)
                obtain ⟨s0, s1, s2, s3, s4, s5⟩ := hSw
                go_simp
                try with_reducible rfl
              try simp only [zP, zN, zS, zT, zU]
              refine wpAnyH_ready (rs := [19]) (by kernel_rfl) (by simp) ?_
              refine AllReadyH.cons (o := ?ob192) ?hb192 (fun K hK => ?_) AllReadyH.nil
              case hb192 => simp only [zA, zB, zC] <;> exact rfl
              go_simp
              go_at_call 29
              refine HML.out.mono ?_
              rintro e w2 ⟨rfl, hf2⟩
              have HS2 := Lib.hid (HB1.out.keep hf2 (fun h => h)).five
              have HP2 := Lib.hid (hf2.cell HP1.out (fun h => h))
              have HF2 := Lib.hid (HF1.out.then hf2)
              clear hf2
              go_wp2_with fail
              refine hK.out _ _ ⟨HS2.out.1, HS2.out.2.1, HS2.out.2.2.1, HS2.out.2.2.2.1, HS2.out.2.2.2.2, HP2.out⟩ (fun hHeld => ?_)
              clear hK K
              try simp only [zP, zN, zS, zT, zU]
              refine wpAnyH_take (i := 20) (oi := ?oi193) (v := ?vi193) ?h193 (by kernel_rfl) (by kernel_rfl) (by kernel_rfl) ?q193 (Or.inl ⟨?w193, ?y193⟩) hHeld ?r193
              case h193 => simp only [zA, zB, zC] <;> exact rfl
              case q193 => exact fun _ _ _ h => h
              case w193 => rfl
              case y193 =>
                intro w hSw
                (try dsimp only at hSw)
                obtain ⟨s0, s1, s2, s3, s4, s5⟩ := hSw
                go_simp
                try with_reducible rfl
              try simp only [zP, zN, zS, zT, zU]
              refine wpAnyH_take (i := 21) (oi := ?oi194) (v := ?vi194) ?h194 (by kernel_rfl) (by kernel_rfl) (by kernel_rfl) ?q194 (Or.inl ⟨?w194, ?y194⟩) hHeld ?r194
              case h194 => simp only [zA, zB, zC] <;> exact rfl
              case q194 => exact fun _ _ _ h => h
              case w194 => rfl
              case y194 =>
                intro w hSw
                (try dsimp only at hSw)
                obtain ⟨s0, s1, s2, s3, s4, s5⟩ := hSw
                go_simp
                try with_reducible rfl
              try simp only [zP, zN, zS, zT, zU]
              refine wpAnyH_take (i := 22) (oi := ?oi195) (v := ?vi195) ?h195 (by kernel_rfl) (by kernel_rfl) (by kernel_rfl) ?q195 (Or.inl ⟨?w195, ?y195⟩) hHeld ?r195
              case h195 => simp only [zA, zB, zC] <;> exact rfl
              case q195 => exact fun _ _ _ h => h
              case w195 => rfl
              case y195 =>
                intro w hSw
                (try dsimp only at hSw)
                obtain ⟨s0, s1, s2, s3, s4, s5⟩ := hSw
                go_simp
                try with_reducible rfl
              try simp only [zP, zN, zS, zT, zU]
              refine wpAnyH_take (i := 23) (oi := ?oi196) (v := ?vi196) ?h196 (by kernel_rfl) (by kernel_rfl) (by kernel_rfl) ?q196 (Or.inl ⟨?w196, ?y196⟩) hHeld ?r196
              case h196 => simp only [zA, zB, zC] <;> exact rfl
              case q196 => exact fun _ _ _ h => h
              case w196 => rfl
              case y196 =>
                intro w hSw
                (try dsimp only at hSw)
                obtain ⟨s0, s1, s2, s3, s4, s5⟩ := hSw
                go_simp
                try with_reducible rfl
              try simp only [zP, zN, zS, zT, zU]
              refine wpAnyH_done (by kernel_rfl) ?_ _
              go_wp2
              go_ret
              exact ⟨ret_bool HRF.out.symm, hR.out.fp.then HF2.out⟩
      · have hf : fitsB x = false := by simpa using hfit
        have hrf : r = false := HFa.out k hkl (fun c => by have := c.1; rw [← hx, hf] at this; cases this)
        rw [hf] at hfc
        have HFC := Lib.hid hfc
        have HRF := Lib.hid hrf
        clear HXX hfit hf hfc hrf hx hkl hlt hk hxm
        go_wp2_with fail
        refine wp_region_held_drew (S := (fun w' => w'.cell? ⟨wr.heap.size, 0, none⟩ = some (.string (B x.path)) ∧ w'.cell? ⟨wr.heap.size, 1, none⟩ = some (.string (B x.data)) ∧ w'.cell? ⟨wr.heap.size, 2, none⟩ = some (.int .i64 x.ver) ∧ w'.cell? ⟨wr.heap.size, 3, none⟩ = some (.int .i64 x.turn) ∧ w'.cell? ⟨wr.heap.size, 4, none⟩ = some (.int .i64 x.own))) (by kernel_rfl) ?_ (fun hHeld => ?_)
        · exact HB.out.2.1.five
        refine wpAnyH_take (i := 0) (oi := ?oi101) (v := ?vi101) ?h101 (by kernel_rfl) (by kernel_rfl) (by kernel_rfl) ?q101 (Or.inl ⟨?w101, ?y101⟩) hHeld ?r101
        case h101 => simp only [zA, zB] <;> exact rfl
        case q101 => exact fun _ _ _ h => h
        case w101 => rfl
        case y101 =>
          intro w hSw
          (try dsimp only at hSw)
          obtain ⟨s0, s1, s2, s3, s4⟩ := hSw
          go_simp
          try with_reducible rfl
        try simp only [zP, zN, zS, zT, zU]
        refine wpAnyH_ready (rs := [1]) (by kernel_rfl) (by simp) ?_
        refine AllReadyH.cons (o := ?ob102) ?hb102 (fun K hK => ?_) AllReadyH.nil
        case hb102 => simp only [zA, zB, zC] <;> exact rfl
        go_simp
        go_at_call 28
        refine (HFC.out _).mono ?_
        rintro e w1 ⟨rfl, hf1⟩
        have HS1 := Lib.hid (HB.out.2.1.keep hf1 (fun h => h)).five
        have HF1 := Lib.hid (HB.out.1.then hf1)
        clear hf1
        go_wp2_with fail
        refine hK.out _ _ HS1.out (fun hHeld => ?_)
        clear hK K
        try simp only [zP, zN, zS, zT, zU]
        refine wpAnyH_take (i := 2) (oi := ?oi103) (v := ?vi103) ?h103 (by kernel_rfl) (by kernel_rfl) (by kernel_rfl) ?q103 (Or.inl ⟨?w103, ?y103⟩) hHeld ?r103
        case h103 => simp only [zA, zB, zC] <;> exact rfl
        case q103 => exact fun _ _ _ h => h
        case w103 => rfl
        case y103 =>
          intro w hSw
          (try dsimp only at hSw)
          obtain ⟨s0, s1, s2, s3, s4⟩ := hSw
          go_simp
          try with_reducible rfl
        try simp only [zP, zN, zS, zT, zU]
        refine wpAnyH_take (i := 3) (oi := ?oi104) (v := ?vi104) ?h104 (by kernel_rfl) (by kernel_rfl) (by kernel_rfl) ?q104 (Or.inl ⟨?w104, ?y104⟩) hHeld ?r104
        case h104 => simp only [zA, zB, zC] <;> exact rfl
        case q104 => exact fun _ _ _ h => h
        case w104 => rfl
        case y104 =>
          intro w hSw
          (try dsimp only at hSw)
          obtain ⟨s0, s1, s2, s3, s4⟩ := hSw
          go_simp
          try with_reducible rfl
        try simp only [zP, zN, zS, zT, zU]
        refine wpAnyH_take (i := 4) (oi := ?oi105) (v := undef) ?h105 (by kernel_rfl) (by kernel_rfl) (by kernel_rfl) ?q105 (Or.inr ⟨?w105, rfl⟩) hHeld ?r105
        case h105 => simp only [zA, zB, zC] <;> exact rfl
        case q105 => exact fun _ _ _ h => h
        case w105 => rfl
        try simp only [zP, zN, zS, zT, zU]
        refine wpAnyH_take (i := 5) (oi := ?oi106) (v := undef) ?h106 (by kernel_rfl) (by kernel_rfl) (by kernel_rfl) ?q106 (Or.inr ⟨?w106, rfl⟩) hHeld ?r106
        case h106 => simp only [zA, zB, zC] <;> exact rfl
        case q106 => exact fun _ _ _ h => h
        case w106 => rfl
        try simp only [zP, zN, zS, zT, zU]
        refine wpAnyH_take (i := 6) (oi := ?oi107) (v := undef) ?h107 (by kernel_rfl) (by kernel_rfl) (by kernel_rfl) ?q107 (Or.inr ⟨?w107, rfl⟩) hHeld ?r107
        case h107 => simp only [zA, zB, zC] <;> exact rfl
        case q107 => exact fun _ _ _ h => h
        case w107 => rfl
        try simp only [zP, zN, zS, zT, zU]
        refine wpAnyH_take (i := 7) (oi := ?oi108) (v := undef) ?h108 (by kernel_rfl) (by kernel_rfl) (by kernel_rfl) ?q108 (Or.inr ⟨?w108, rfl⟩) hHeld ?r108
        case h108 => simp only [zA, zB, zC] <;> exact rfl
        case q108 => exact fun _ _ _ h => h
        case w108 => rfl
        try simp only [zP, zN, zS, zT, zU]
        refine wpAnyH_take (i := 8) (oi := ?oi109) (v := undef) ?h109 (by kernel_rfl) (by kernel_rfl) (by kernel_rfl) ?q109 (Or.inr ⟨?w109, rfl⟩) hHeld ?r109
        case h109 => simp only [zA, zB, zC] <;> exact rfl
        case q109 => exact fun _ _ _ h => h
        case w109 => rfl
        try simp only [zP, zN, zS, zT, zU]
        refine wpAnyH_take (i := 9) (oi := ?oi110) (v := undef) ?h110 (by kernel_rfl) (by kernel_rfl) (by kernel_rfl) ?q110 (Or.inr ⟨?w110, rfl⟩) hHeld ?r110
        case h110 => simp only [zA, zB, zC] <;> exact rfl
        case q110 => exact fun _ _ _ h => h
        case w110 => rfl
        try simp only [zP, zN, zS, zT, zU]
        refine wpAnyH_take (i := 10) (oi := ?oi111) (v := undef) ?h111 (by kernel_rfl) (by kernel_rfl) (by kernel_rfl) ?q111 (Or.inr ⟨?w111, rfl⟩) hHeld ?r111
        case h111 => simp only [zA, zB, zC] <;> exact rfl
        case q111 => exact fun _ _ _ h => h
        case w111 => rfl
        try simp only [zP, zN, zS, zT, zU]
        refine wpAnyH_take (i := 11) (oi := ?oi112) (v := undef) ?h112 (by kernel_rfl) (by kernel_rfl) (by kernel_rfl) ?q112 (Or.inr ⟨?w112, rfl⟩) hHeld ?r112
        case h112 => simp only [zA, zB, zC] <;> exact rfl
        case q112 => exact fun _ _ _ h => h
        case w112 => rfl
        try simp only [zP, zN, zS, zT, zU]
        refine wpAnyH_take (i := 12) (oi := ?oi113) (v := undef) ?h113 (by kernel_rfl) (by kernel_rfl) (by kernel_rfl) ?q113 (Or.inr ⟨?w113, rfl⟩) hHeld ?r113
        case h113 => simp only [zA, zB, zC] <;> exact rfl
        case q113 => exact fun _ _ _ h => h
        case w113 => rfl
        try simp only [zP, zN, zS, zT, zU]
        refine wpAnyH_take (i := 13) (oi := ?oi114) (v := undef) ?h114 (by kernel_rfl) (by kernel_rfl) (by kernel_rfl) ?q114 (Or.inr ⟨?w114, rfl⟩) hHeld ?r114
        case h114 => simp only [zA, zB, zC] <;> exact rfl
        case q114 => exact fun _ _ _ h => h
        case w114 => rfl
        try simp only [zP, zN, zS, zT, zU]
        refine wpAnyH_take (i := 14) (oi := ?oi115) (v := undef) ?h115 (by kernel_rfl) (by kernel_rfl) (by kernel_rfl) ?q115 (Or.inr ⟨?w115, rfl⟩) hHeld ?r115
        case h115 => simp only [zA, zB, zC] <;> exact rfl
        case q115 => exact fun _ _ _ h => h
        case w115 => rfl
        try simp only [zP, zN, zS, zT, zU]
        refine wpAnyH_take (i := 15) (oi := ?oi116) (v := undef) ?h116 (by kernel_rfl) (by kernel_rfl) (by kernel_rfl) ?q116 (Or.inr ⟨?w116, rfl⟩) hHeld ?r116
        case h116 => simp only [zA, zB, zC] <;> exact rfl
        case q116 => exact fun _ _ _ h => h
        case w116 => rfl
        try simp only [zP, zN, zS, zT, zU]
        refine wpAnyH_take (i := 16) (oi := ?oi117) (v := undef) ?h117 (by kernel_rfl) (by kernel_rfl) (by kernel_rfl) ?q117 (Or.inr ⟨?w117, rfl⟩) hHeld ?r117
        case h117 => simp only [zA, zB, zC] <;> exact rfl
        case q117 => exact fun _ _ _ h => h
        case w117 => rfl
        try simp only [zP, zN, zS, zT, zU]
        refine wpAnyH_take (i := 17) (oi := ?oi118) (v := undef) ?h118 (by kernel_rfl) (by kernel_rfl) (by kernel_rfl) ?q118 (Or.inr ⟨?w118, rfl⟩) hHeld ?r118
        case h118 => simp only [zA, zB, zC] <;> exact rfl
        case q118 => exact fun _ _ _ h => h
        case w118 => rfl
        try simp only [zP, zN, zS, zT, zU]
        refine wpAnyH_take (i := 18) (oi := ?oi119) (v := undef) ?h119 (by kernel_rfl) (by kernel_rfl) (by kernel_rfl) ?q119 (Or.inr ⟨?w119, rfl⟩) hHeld ?r119
        case h119 => simp only [zA, zB, zC] <;> exact rfl
        case q119 => exact fun _ _ _ h => h
        case w119 => rfl
        try simp only [zP, zN, zS, zT, zU]
        refine wpAnyH_take (i := 19) (oi := ?oi120) (v := undef) ?h120 (by kernel_rfl) (by kernel_rfl) (by kernel_rfl) ?q120 (Or.inr ⟨?w120, rfl⟩) hHeld ?r120
        case h120 => simp only [zA, zB, zC] <;> exact rfl
        case q120 => exact fun _ _ _ h => h
        case w120 => rfl
        try simp only [zP, zN, zS, zT, zU]
        refine wpAnyH_take (i := 20) (oi := ?oi121) (v := undef) ?h121 (by kernel_rfl) (by kernel_rfl) (by kernel_rfl) ?q121 (Or.inr ⟨?w121, rfl⟩) hHeld ?r121
        case h121 => simp only [zA, zB, zC] <;> exact rfl
        case q121 => exact fun _ _ _ h => h
        case w121 => rfl
        try simp only [zP, zN, zS, zT, zU]
        refine wpAnyH_take (i := 21) (oi := ?oi122) (v := undef) ?h122 (by kernel_rfl) (by kernel_rfl) (by kernel_rfl) ?q122 (Or.inr ⟨?w122, rfl⟩) hHeld ?r122
        case h122 => simp only [zA, zB, zC] <;> exact rfl
        case q122 => exact fun _ _ _ h => h
        case w122 => rfl
        try simp only [zP, zN, zS, zT, zU]
        refine wpAnyH_take (i := 22) (oi := ?oi123) (v := undef) ?h123 (by kernel_rfl) (by kernel_rfl) (by kernel_rfl) ?q123 (Or.inr ⟨?w123, rfl⟩) hHeld ?r123
        case h123 => simp only [zA, zB, zC] <;> exact rfl
        case q123 => exact fun _ _ _ h => h
        case w123 => rfl
        try simp only [zP, zN, zS, zT, zU]
        refine wpAnyH_take (i := 23) (oi := ?oi124) (v := ?vi124) ?h124 (by kernel_rfl) (by kernel_rfl) (by kernel_rfl) ?q124 (Or.inl ⟨?w124, ?y124⟩) hHeld ?r124
        case h124 => simp only [zA, zB, zC] <;> exact rfl
        case q124 => exact fun _ _ _ h => h
        case w124 => rfl
        case y124 =>
          intro w hSw
          (try dsimp only at hSw)
          obtain ⟨s0, s1, s2, s3, s4⟩ := hSw
          go_simp
          try with_reducible rfl
        try simp only [zP, zN, zS, zT, zU]
        refine wpAnyH_done (by kernel_rfl) ?_ _
        go_wp2
        go_ret
        exact ⟨ret_bool HRF.out.symm, hR.out.fp.then HF1.out⟩
    · have hke : k = n := by omega
      subst hke
      have hrt : r = true := HT.out (fun i hi => hR.out.chk i hi (by rw [HX.out.1]; exact hi))
      have HRT := Lib.hid hrt
      have q3 : ((k : Int) < (k : Int)) = False := eq_false (by omega)
      clear hlt hk hrt
      go_wp2
      go_ret
      exact ⟨ret_bool HRT.out.symm, hR.out.fp⟩
end Go.Proofs.YthaepjeikicigaaGreatDoor
