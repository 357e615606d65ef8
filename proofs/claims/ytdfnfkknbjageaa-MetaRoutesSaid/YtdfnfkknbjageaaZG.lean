/- Texts of this proof, merged. -/
import Derived.Test.YtdfnfkknbjageaaZB
import Derived.Test.YtdfnfkknbjageaaZF
import Derived.Test.YtdfnfkknbjageaaShelf
import Derived.Test.YtdfnfkknbjageaaZD
import Derived.Lib.Bytealg
set_option linter.unusedVariables false
set_option linter.unusedSimpArgs false
/- May a store be? (gen_tl.py) -/
namespace Go.Proofs.Ytdfnfkknbjageaa
set_option maxRecDepth 20000
set_option linter.unusedVariables false
set_option linter.unusedSimpArgs false
open Go.RowKit Pm

/-- A store in memory. -/
structure Sto (w : World) (v : Value) (s : St) : Prop where
  ex : ∃ vn vt, v = .agg #[vn, vt] ∧ Ns w vn s.nodes ∧ Ts w vt s.turns
theorem Sto.non {w w' : World} {v : Value} {s : St} (h : Sto w v s) (f : Fp Non w w') : Sto w' v s := by
  obtain ⟨vn, vt, e, h1, h2⟩ := h.ex
  exact ⟨vn, vt, e, h1.non f, h2.non f⟩
theorem bxN (wr : World) (x : Nd) : NdAt (wr.alloc (Obj.cells #[.string (B x.path), .string (B x.data), .int .i64 x.ver, .int .i64 x.turn, .int .i64 x.own] TN)).drew wr.heap.size 0 x := by
  have h := heap_alloc_new wr (Obj.cells #[.string (B x.path), .string (B x.data), .int .i64 x.ver, .int .i64 x.turn, .int .i64 x.own] TN)
  have hb : NdAt (wr.alloc (Obj.cells #[.string (B x.path), .string (B x.data), .int .i64 x.ver, .int .i64 x.turn, .int .i64 x.own] TN)) wr.heap.size 0 x := ⟨by rw [cell_of_row _ _ _ _ _ _ h]; rfl, by rw [cell_of_row _ _ _ _ _ _ h]; rfl, by rw [cell_of_row _ _ _ _ _ _ h]; rfl, by rw [cell_of_row _ _ _ _ _ _ h]; rfl, by rw [cell_of_row _ _ _ _ _ _ h]; rfl⟩
  exact hb.keep ((Fp.refl Non _).drew) (fun h => h)
theorem notUp {a z : Bs} (h : (Op.bytesLess a z || a == z) = true) : lt z a = false := by
  simp only [Bool.or_eq_true, beq_iff_eq] at h
  rcases h with h | rfl
  · exact lt_asymm h
  · exact lt_irrefl _
theorem isUp {a z : Bs} (h : (Op.bytesLess a z || a == z) = false) : lt z a = true := by
  simp only [Bool.or_eq_false_iff, beq_eq_false_iff_ne] at h
  exact lt_of h.1 h.2

/-- One node in a store's list. -/
def ChkN (l : List Nd) (j : Nat) (hj : j < l.length) : Prop := sfit l[j] = true ∧ (0 < j → ∀ h : j - 1 < l.length, lt l[j-1].path l[j].path = true)
theorem chkN_right {s : St} (h : StR s) : ∀ j (hj : j < s.nodes.length), ChkN s.nodes j hj := fun j hj =>
  ⟨h.fit _ (List.getElem_mem hj), fun h0 h1 => h.asc (j - 1) j h1 hj (by omega)⟩
def ChkT (l : List Tu) (j : Nat) (hj : j < l.length) : Prop := tfit l[j] = true ∧ (0 < j → ∀ h : j - 1 < l.length, lt l[j-1].dir l[j].dir = true)
theorem chkT_right {s : St} (h : StR s) : ∀ j (hj : j < s.turns.length), ChkT s.turns j hj := fun j hj =>
  ⟨h.tfit _ (List.getElem_mem hj), fun h0 h1 => h.tasc (j - 1) j h1 hj (by omega)⟩
theorem chkT_all {l : List Tu} (h : ∀ j (hj : j < l.length), ChkT l j hj) : (∀ t ∈ l, tfit t = true) ∧ AscT l :=
  ⟨fun n hn => by obtain ⟨i, hi, rfl⟩ := List.getElem_of_mem hn; exact (h i hi).1, ascT_iff.2 (asc_of fun i hi => by
    rw [List.length_map] at hi
    have := (h (i + 1) hi).2 (by omega) (by omega)
    simp only [List.getElem_map]
    show lt l[i].dir l[i+1].dir = true
    simpa using this)⟩
theorem bxT (wr : World) (x : Tu) : TuAt (wr.alloc (Obj.cells #[.string (B x.dir), .int .i64 x.next] TU)).drew wr.heap.size 0 x := by
  have h := heap_alloc_new wr (Obj.cells #[.string (B x.dir), .int .i64 x.next] TU)
  have hb : TuAt (wr.alloc (Obj.cells #[.string (B x.dir), .int .i64 x.next] TU)) wr.heap.size 0 x := ⟨by rw [cell_of_row _ _ _ _ _ _ h]; rfl, by rw [cell_of_row _ _ _ _ _ _ h]; rfl⟩
  exact hb.keep ((Fp.refl Non _).drew) (fun h => h)
theorem chkN_all {l : List Nd} (h : ∀ j (hj : j < l.length), ChkN l j hj) : (∀ n ∈ l, sfit n = true) ∧ Asc l :=
  ⟨fun n hn => by obtain ⟨i, hi, rfl⟩ := List.getElem_of_mem hn; exact (h i hi).1, asc_of fun i hi => by have := (h (i + 1) hi).2 (by omega) (by omega); simpa using this⟩

set_option maxHeartbeats 16000000 in
theorem rightP_c (v : Value) (s : St) (w : World) (hv : Sto w v s) (hs : Sp s.nodes) (hn : s.nodes.length ≤ 140737488355328) (hst : ∀ t ∈ s.turns, t.dir.length ≤ 140737488355328) (hmm : s.turns.length ≤ 140737488355328) :
    Calls Try.prog 55 #[v] w fun e w' => e = .returned (.bool (rightS s)) ∧ Fp Non w w' := by
  obtain ⟨vn, vt, rfl, h1, h2⟩ := hv.ex
  obtain ⟨ao, cap, rfl⟩ := h1.shape
  obtain ⟨at', capt, rfl⟩ := h2.shape
  obtain ⟨n, hnn⟩ : ∃ n, n = s.nodes.length := ⟨_, rfl⟩
  obtain ⟨m, hm⟩ : ∃ m, m = s.turns.length := ⟨_, rfl⟩
  obtain ⟨r, hr⟩ : ∃ r, rightS s = r := ⟨_, rfl⟩
  have HNone := Lib.hid (show ∀ k (hk : k < s.nodes.length), ¬ ChkN s.nodes k hk → r = false from fun k hk h => by rw [← hr]; exact rightS_false (fun c => h (chkN_right c k hk)))
  have HX := Lib.hid (And.intro hnn (And.intro h1 hs))
  have HT := Lib.hid (And.intro hm (And.intro h2 (And.intro hst hr)))
  have hmb : m ≤ 140737488355328 := by omega
  rw [hr, ← hnn, ← hm]
  have HB0 := Lib.hid (show (w.alloc (Obj.cells #[.slice ao n cap, .slice at' m capt] 34)).cell? ⟨w.heap.size, 0, none⟩ = some (.slice ao n cap) ∧ (w.alloc (Obj.cells #[.slice ao n cap, .slice at' m capt] 34)).cell? ⟨w.heap.size, 1, none⟩ = some (.slice at' m capt) from ⟨by rw [cell_of_row _ _ _ _ _ _ (heap_alloc_new w _)]; rfl, by rw [cell_of_row _ _ _ _ _ _ (heap_alloc_new w _)]; rfl⟩)
  have HF0 := Lib.hid (fp_alloc w (Obj.cells #[.slice ao n cap, .slice at' m capt] 34))
  have hnb : n ≤ 140737488355328 := by omega
  clear h1 h2 hv hs hn hnn hm hr hst hmm
  go_enter Try.func55, Try.ntmps55
  go_wp2_with fail
  obtain ⟨W0, hW0⟩ : ∃ W0, W0 = w.alloc (Obj.cells #[.slice ao n cap, .slice at' m capt] 34) := ⟨_, rfl⟩
  rw [← hW0] at HB0 HF0 ⊢
  clear hW0
  go_loopw [10] (fun i wr => ∃ k : Nat, k ≤ n ∧ i = .int .i64 k ∧ Hid (Fp Non W0 wr ∧ ∀ j (hj : j < s.nodes.length), j < k → ChkN s.nodes j hj)) (fun i _ => n - (RowKit.intOf i).toNat)
  case atStart => exact ⟨0, Nat.zero_le _, rfl, Fp.refl _ _, fun j _ h => absurd h (Nat.not_lt_zero j)⟩
  case round =>
    obtain ⟨k, hk, rfl, hR⟩ := hrel
    rename_i wr _
    by_cases hlt : k < n
    · have hkl : k < s.nodes.length := by rw [← HX.out.1]; exact hlt
      obtain ⟨g, o, cap', e, _, _, _, hcell⟩ := HX.out.2.1.at (by omega)
      injection e with e1 e2 e3
      subst e1 e3
      have f0 := HF0.out.then hR.out.1
      have hnd := (hcell k hkl).keep f0 (fun h => h)
      obtain ⟨x, hx⟩ : ∃ x, x = s.nodes[k] := ⟨_, rfl⟩
      rw [← hx] at hnd
      have c0 := hnd.c0; have c1 := hnd.c1; have c2 := hnd.c2; have c3 := hnd.c3; have c4 := hnd.c4
      unfold strV at c0 c1
      have q3 : ((k : Int) < (n : Int)) = True := eq_true (by omega)
      have q4 : (k < n) = True := eq_true hlt
      have hxp : x.path.length ≤ 140737488355328 := HX.out.2.2 x (by rw [hx]; exact List.getElem_mem hkl)
      have hfc := fun w => fitsP_c x w hxp
      unfold ndV strV at hfc
      have hbb := bxN wr x
      have HB := Lib.hid (And.intro (((Fp.refl Non wr).alloc (Obj.cells #[.string (B x.path), .string (B x.data), .int .i64 x.ver, .int .i64 x.turn, .int .i64 x.own] TN)).drew) hbb)
      have HW := Lib.hid (f0)
      have HR0 := Lib.hid hR.out.1
      have HK := Lib.hid hlt
      have hst : (wr.alloc (Obj.cells #[.string (B x.path), .string (B x.data), .int .i64 x.ver, .int .i64 x.turn, .int .i64 x.own] TN)).drew.cell? ⟨w.heap.size, 0, none⟩ = some (.slice (some ⟨g, o, none⟩) n cap) := HB.out.1.cell (hR.out.1.cell HB0.out.1 (fun h => h)) (fun h => h)
      have hpc : ∀ k', k' < s.nodes.length → ∃ z, (wr.alloc (Obj.cells #[.string (B x.path), .string (B x.data), .int .i64 x.ver, .int .i64 x.turn, .int .i64 x.own] TN)).drew.cell? ⟨g, o + k' * 5, none⟩ = some (.string (B z)) ∧ ∀ h : k' < s.nodes.length, z = (s.nodes[k']).path := fun k' h => ⟨_, HB.out.1.cell ((hcell k' h).keep f0 (fun h => h)).c0 (fun h => h), fun _ => rfl⟩
      have hold := hR.out.2
      have hstep : sfit x = true → (0 < k → ∀ h : k - 1 < s.nodes.length, lt (s.nodes[k-1]).path x.path = true) → ∀ j (hj : j < s.nodes.length), j < k + 1 → ChkN s.nodes j hj := fun a b j hj hjk => by
        rcases Nat.lt_or_eq_of_le (show j ≤ k by omega) with e | e
        · exact hold j hj e
        · subst e; exact ⟨by rw [← hx]; exact a, fun h0 h1 => by rw [← hx]; exact b h0 h1⟩
      have hno : (sfit x = false ∨ (0 < k ∧ ∃ h : k - 1 < s.nodes.length, lt (s.nodes[k-1]).path x.path = false)) → r = false := fun h => HNone.out k hkl (fun c => by
        rcases h with h | ⟨h0, h1, h2⟩
        · have := c.1; rw [← hx, h] at this; cases this
        · have := c.2 h0 h1; rw [← hx, h2] at this; cases this)
      obtain ⟨fx, hfx⟩ : ∃ b, sfit x = b := ⟨_, rfl⟩
      rw [hfx] at hfc hstep hno
      have HFC := Lib.hid hfc
      have HST := Lib.hid (And.intro hstep (And.intro hno (And.intro hst (And.intro hpc hkl))))
      clear hfc hbb hst hpc hold hstep hno hfx hxp hx hnd hcell f0
      cases fx with
      | false =>
        have HNO := Lib.hid (HST.out.2.1 (.inl rfl))
        clear hkl hlt hk
        go_wp2_with fail
        refine wp_region_held_drew (S := (fun w' => w'.cell? ⟨wr.heap.size, 0, none⟩ = some (.string (B x.path)) ∧ w'.cell? ⟨wr.heap.size, 1, none⟩ = some (.string (B x.data)) ∧ w'.cell? ⟨wr.heap.size, 2, none⟩ = some (.int .i64 x.ver) ∧ w'.cell? ⟨wr.heap.size, 3, none⟩ = some (.int .i64 x.turn) ∧ w'.cell? ⟨wr.heap.size, 4, none⟩ = some (.int .i64 x.own))) (by kernel_rfl) ?_ (fun hHeld => ?_)
        · exact ⟨HB.out.2.c0, HB.out.2.c1, HB.out.2.c2, HB.out.2.c3, HB.out.2.c4⟩
        refine wpAnyH_take (i := 0) (oi := ?oi231) (v := ?vi231) ?h231 (by kernel_rfl) (by kernel_rfl) (by kernel_rfl) ?q231 (Or.inl ⟨?w231, ?y231⟩) hHeld ?r231
        case h231 => first | (simp only [List.getElem?_toArray, List.getElem?_cons_zero]; done) | (simp only [List.getElem?_toArray, List.getElem?_cons_zero]; exact rfl)
        case q231 => exact fun _ _ _ h => h
        case w231 => rfl
        case y231 =>
          intro w hSw
          (try dsimp only at hSw)
          obtain ⟨s0, s1, s2, s3, s4⟩ := hSw
          go_simp
          try with_reducible rfl
        try simp only [Act.put, List.setIfInBounds_toArray, List.set_cons_zero, List.set_cons_succ]
        refine wpAnyH_ready (rs := [1]) (by kernel_rfl) (by simp) ?_
        refine AllReadyH.cons (o := ?ob232) ?hb232 (fun K hK => ?_) AllReadyH.nil
        case hb232 => first | (simp only [List.getElem?_toArray, List.getElem?_cons_zero, List.getElem?_cons_succ]; done) | (simp only [List.getElem?_toArray, List.getElem?_cons_zero, List.getElem?_cons_succ]; exact rfl)
        go_simp
        go_at_call 71
        refine (HFC.out _).mono ?_
        rintro e w1 ⟨rfl, f1⟩
        have b1 := HB.out.2.keep f1 (fun h => h)
        have HS1 := Lib.hid (And.intro b1.c0 (And.intro b1.c1 (And.intro b1.c2 (And.intro b1.c3 b1.c4))))
        have F := Lib.hid (HB.out.1.then f1)
        clear f1 b1
        go_wp2_with fail
        refine hK.out _ _ HS1.out (fun hHeld => ?_)
        clear hK K
        try simp only [Act.put, List.setIfInBounds_toArray, List.set_cons_zero, List.set_cons_succ]
        refine wpAnyH_take (i := 2) (oi := ?oi233) (v := ?vi233) ?h233 (by kernel_rfl) (by kernel_rfl) (by kernel_rfl) ?q233 (Or.inl ⟨?w233, ?y233⟩) hHeld ?r233
        case h233 => first | (simp only [List.getElem?_toArray, List.getElem?_cons_zero, List.getElem?_cons_succ]; done) | (simp only [List.getElem?_toArray, List.getElem?_cons_zero, List.getElem?_cons_succ]; exact rfl)
        case q233 => exact fun _ _ _ h => h
        case w233 => rfl
        case y233 =>
          intro w hSw
          (try dsimp only at hSw)
          obtain ⟨s0, s1, s2, s3, s4⟩ := hSw
          go_simp
          try with_reducible rfl
        try simp only [Act.put, List.setIfInBounds_toArray, List.set_cons_zero, List.set_cons_succ]
        refine wpAnyH_take (i := 3) (oi := ?oi234) (v := ?vi234) ?h234 (by kernel_rfl) (by kernel_rfl) (by kernel_rfl) ?q234 (Or.inl ⟨?w234, ?y234⟩) hHeld ?r234
        case h234 => first | (simp only [List.getElem?_toArray, List.getElem?_cons_zero, List.getElem?_cons_succ]; done) | (simp only [List.getElem?_toArray, List.getElem?_cons_zero, List.getElem?_cons_succ]; exact rfl)
        case q234 => exact fun _ _ _ h => h
        case w234 => rfl
        case y234 =>
          intro w hSw
          (try dsimp only at hSw)
          obtain ⟨s0, s1, s2, s3, s4⟩ := hSw
          go_simp
          try with_reducible rfl
        try simp only [Act.put, List.setIfInBounds_toArray, List.set_cons_zero, List.set_cons_succ]
        refine wpAnyH_take (i := 4) (oi := ?oi235) (v := undef) ?h235 (by kernel_rfl) (by kernel_rfl) (by kernel_rfl) ?q235 (Or.inr ⟨?w235, rfl⟩) hHeld ?r235
        case h235 => first | (simp only [List.getElem?_toArray, List.getElem?_cons_zero, List.getElem?_cons_succ]; done) | (simp only [List.getElem?_toArray, List.getElem?_cons_zero, List.getElem?_cons_succ]; exact rfl)
        case q235 => exact fun _ _ _ h => h
        case w235 => rfl
        try simp only [Act.put, List.setIfInBounds_toArray, List.set_cons_zero, List.set_cons_succ]
        refine wpAnyH_take (i := 5) (oi := ?oi236) (v := undef) ?h236 (by kernel_rfl) (by kernel_rfl) (by kernel_rfl) ?q236 (Or.inr ⟨?w236, rfl⟩) hHeld ?r236
        case h236 => first | (simp only [List.getElem?_toArray, List.getElem?_cons_zero, List.getElem?_cons_succ]; done) | (simp only [List.getElem?_toArray, List.getElem?_cons_zero, List.getElem?_cons_succ]; exact rfl)
        case q236 => exact fun _ _ _ h => h
        case w236 => rfl
        try simp only [Act.put, List.setIfInBounds_toArray, List.set_cons_zero, List.set_cons_succ]
        refine wpAnyH_take (i := 6) (oi := ?oi237) (v := undef) ?h237 (by kernel_rfl) (by kernel_rfl) (by kernel_rfl) ?q237 (Or.inr ⟨?w237, rfl⟩) hHeld ?r237
        case h237 => first | (simp only [List.getElem?_toArray, List.getElem?_cons_zero, List.getElem?_cons_succ]; done) | (simp only [List.getElem?_toArray, List.getElem?_cons_zero, List.getElem?_cons_succ]; exact rfl)
        case q237 => exact fun _ _ _ h => h
        case w237 => rfl
        try simp only [Act.put, List.setIfInBounds_toArray, List.set_cons_zero, List.set_cons_succ]
        refine wpAnyH_take (i := 7) (oi := ?oi238) (v := undef) ?h238 (by kernel_rfl) (by kernel_rfl) (by kernel_rfl) ?q238 (Or.inr ⟨?w238, rfl⟩) hHeld ?r238
        case h238 => first | (simp only [List.getElem?_toArray, List.getElem?_cons_zero, List.getElem?_cons_succ]; done) | (simp only [List.getElem?_toArray, List.getElem?_cons_zero, List.getElem?_cons_succ]; exact rfl)
        case q238 => exact fun _ _ _ h => h
        case w238 => rfl
        try simp only [Act.put, List.setIfInBounds_toArray, List.set_cons_zero, List.set_cons_succ]
        refine wpAnyH_take (i := 8) (oi := ?oi239) (v := undef) ?h239 (by kernel_rfl) (by kernel_rfl) (by kernel_rfl) ?q239 (Or.inr ⟨?w239, rfl⟩) hHeld ?r239
        case h239 => first | (simp only [List.getElem?_toArray, List.getElem?_cons_zero, List.getElem?_cons_succ]; done) | (simp only [List.getElem?_toArray, List.getElem?_cons_zero, List.getElem?_cons_succ]; exact rfl)
        case q239 => exact fun _ _ _ h => h
        case w239 => rfl
        try simp only [Act.put, List.setIfInBounds_toArray, List.set_cons_zero, List.set_cons_succ]
        refine wpAnyH_take (i := 9) (oi := ?oi240) (v := undef) ?h240 (by kernel_rfl) (by kernel_rfl) (by kernel_rfl) ?q240 (Or.inr ⟨?w240, rfl⟩) hHeld ?r240
        case h240 => first | (simp only [List.getElem?_toArray, List.getElem?_cons_zero, List.getElem?_cons_succ]; done) | (simp only [List.getElem?_toArray, List.getElem?_cons_zero, List.getElem?_cons_succ]; exact rfl)
        case q240 => exact fun _ _ _ h => h
        case w240 => rfl
        try simp only [Act.put, List.setIfInBounds_toArray, List.set_cons_zero, List.set_cons_succ]
        refine wpAnyH_take (i := 10) (oi := ?oi241) (v := undef) ?h241 (by kernel_rfl) (by kernel_rfl) (by kernel_rfl) ?q241 (Or.inr ⟨?w241, rfl⟩) hHeld ?r241
        case h241 => first | (simp only [List.getElem?_toArray, List.getElem?_cons_zero, List.getElem?_cons_succ]; done) | (simp only [List.getElem?_toArray, List.getElem?_cons_zero, List.getElem?_cons_succ]; exact rfl)
        case q241 => exact fun _ _ _ h => h
        case w241 => rfl
        try simp only [Act.put, List.setIfInBounds_toArray, List.set_cons_zero, List.set_cons_succ]
        refine wpAnyH_take (i := 11) (oi := ?oi242) (v := undef) ?h242 (by kernel_rfl) (by kernel_rfl) (by kernel_rfl) ?q242 (Or.inr ⟨?w242, rfl⟩) hHeld ?r242
        case h242 => first | (simp only [List.getElem?_toArray, List.getElem?_cons_zero, List.getElem?_cons_succ]; done) | (simp only [List.getElem?_toArray, List.getElem?_cons_zero, List.getElem?_cons_succ]; exact rfl)
        case q242 => exact fun _ _ _ h => h
        case w242 => rfl
        try simp only [Act.put, List.setIfInBounds_toArray, List.set_cons_zero, List.set_cons_succ]
        refine wpAnyH_take (i := 12) (oi := ?oi243) (v := undef) ?h243 (by kernel_rfl) (by kernel_rfl) (by kernel_rfl) ?q243 (Or.inr ⟨?w243, rfl⟩) hHeld ?r243
        case h243 => first | (simp only [List.getElem?_toArray, List.getElem?_cons_zero, List.getElem?_cons_succ]; done) | (simp only [List.getElem?_toArray, List.getElem?_cons_zero, List.getElem?_cons_succ]; exact rfl)
        case q243 => exact fun _ _ _ h => h
        case w243 => rfl
        try simp only [Act.put, List.setIfInBounds_toArray, List.set_cons_zero, List.set_cons_succ]
        refine wpAnyH_take (i := 13) (oi := ?oi244) (v := undef) ?h244 (by kernel_rfl) (by kernel_rfl) (by kernel_rfl) ?q244 (Or.inr ⟨?w244, rfl⟩) hHeld ?r244
        case h244 => first | (simp only [List.getElem?_toArray, List.getElem?_cons_zero, List.getElem?_cons_succ]; done) | (simp only [List.getElem?_toArray, List.getElem?_cons_zero, List.getElem?_cons_succ]; exact rfl)
        case q244 => exact fun _ _ _ h => h
        case w244 => rfl
        try simp only [Act.put, List.setIfInBounds_toArray, List.set_cons_zero, List.set_cons_succ]
        refine wpAnyH_take (i := 14) (oi := ?oi245) (v := undef) ?h245 (by kernel_rfl) (by kernel_rfl) (by kernel_rfl) ?q245 (Or.inr ⟨?w245, rfl⟩) hHeld ?r245
        case h245 => first | (simp only [List.getElem?_toArray, List.getElem?_cons_zero, List.getElem?_cons_succ]; done) | (simp only [List.getElem?_toArray, List.getElem?_cons_zero, List.getElem?_cons_succ]; exact rfl)
        case q245 => exact fun _ _ _ h => h
        case w245 => rfl
        try simp only [Act.put, List.setIfInBounds_toArray, List.set_cons_zero, List.set_cons_succ]
        refine wpAnyH_take (i := 15) (oi := ?oi246) (v := undef) ?h246 (by kernel_rfl) (by kernel_rfl) (by kernel_rfl) ?q246 (Or.inr ⟨?w246, rfl⟩) hHeld ?r246
        case h246 => first | (simp only [List.getElem?_toArray, List.getElem?_cons_zero, List.getElem?_cons_succ]; done) | (simp only [List.getElem?_toArray, List.getElem?_cons_zero, List.getElem?_cons_succ]; exact rfl)
        case q246 => exact fun _ _ _ h => h
        case w246 => rfl
        try simp only [Act.put, List.setIfInBounds_toArray, List.set_cons_zero, List.set_cons_succ]
        refine wpAnyH_take (i := 16) (oi := ?oi247) (v := undef) ?h247 (by kernel_rfl) (by kernel_rfl) (by kernel_rfl) ?q247 (Or.inr ⟨?w247, rfl⟩) hHeld ?r247
        case h247 => first | (simp only [List.getElem?_toArray, List.getElem?_cons_zero, List.getElem?_cons_succ]; done) | (simp only [List.getElem?_toArray, List.getElem?_cons_zero, List.getElem?_cons_succ]; exact rfl)
        case q247 => exact fun _ _ _ h => h
        case w247 => rfl
        try simp only [Act.put, List.setIfInBounds_toArray, List.set_cons_zero, List.set_cons_succ]
        refine wpAnyH_take (i := 17) (oi := ?oi248) (v := undef) ?h248 (by kernel_rfl) (by kernel_rfl) (by kernel_rfl) ?q248 (Or.inr ⟨?w248, rfl⟩) hHeld ?r248
        case h248 => first | (simp only [List.getElem?_toArray, List.getElem?_cons_zero, List.getElem?_cons_succ]; done) | (simp only [List.getElem?_toArray, List.getElem?_cons_zero, List.getElem?_cons_succ]; exact rfl)
        case q248 => exact fun _ _ _ h => h
        case w248 => rfl
        try simp only [Act.put, List.setIfInBounds_toArray, List.set_cons_zero, List.set_cons_succ]
        refine wpAnyH_take (i := 18) (oi := ?oi249) (v := ?vi249) ?h249 (by kernel_rfl) (by kernel_rfl) (by kernel_rfl) ?q249 (Or.inl ⟨?w249, ?y249⟩) hHeld ?r249
        case h249 => first | (simp only [List.getElem?_toArray, List.getElem?_cons_zero, List.getElem?_cons_succ]; done) | (simp only [List.getElem?_toArray, List.getElem?_cons_zero, List.getElem?_cons_succ]; exact rfl)
        case q249 => exact fun _ _ _ h => h
        case w249 => rfl
        case y249 =>
          intro w hSw
          (try dsimp only at hSw)
          obtain ⟨s0, s1, s2, s3, s4⟩ := hSw
          go_simp
          try with_reducible rfl
        try simp only [Act.put, List.setIfInBounds_toArray, List.set_cons_zero, List.set_cons_succ]
        refine wpAnyH_done (by kernel_rfl) ?_ _
        go_wp2
        go_ret
        exact ⟨ret_bool HNO.out.symm, HW.out.then F.out⟩
      | true =>
        rcases Nat.eq_zero_or_pos k with hk0 | hk0
        · subst hk0
          simp only [Nat.zero_mul, Nat.add_zero] at c0 c1 c2 c3 c4
          have HNX := Lib.hid (HST.out.1 rfl (fun h => absurd h (by omega)))
          clear hkl hlt hk
          go_wp2_with fail
          refine wp_region_held_drew (S := (fun w' => w'.cell? ⟨wr.heap.size, 0, none⟩ = some (.string (B x.path)) ∧ w'.cell? ⟨wr.heap.size, 1, none⟩ = some (.string (B x.data)) ∧ w'.cell? ⟨wr.heap.size, 2, none⟩ = some (.int .i64 x.ver) ∧ w'.cell? ⟨wr.heap.size, 3, none⟩ = some (.int .i64 x.turn) ∧ w'.cell? ⟨wr.heap.size, 4, none⟩ = some (.int .i64 x.own))) (by kernel_rfl) ?_ (fun hHeld => ?_)
          · exact ⟨HB.out.2.c0, HB.out.2.c1, HB.out.2.c2, HB.out.2.c3, HB.out.2.c4⟩
          refine wpAnyH_take (i := 0) (oi := ?oi250) (v := ?vi250) ?h250 (by kernel_rfl) (by kernel_rfl) (by kernel_rfl) ?q250 (Or.inl ⟨?w250, ?y250⟩) hHeld ?r250
          case h250 => first | (simp only [List.getElem?_toArray, List.getElem?_cons_zero]; done) | (simp only [List.getElem?_toArray, List.getElem?_cons_zero]; exact rfl)
          case q250 => exact fun _ _ _ h => h
          case w250 => rfl
          case y250 =>
            intro w hSw
            (try dsimp only at hSw)
            obtain ⟨s0, s1, s2, s3, s4⟩ := hSw
            go_simp
            try with_reducible rfl
          try simp only [Act.put, List.setIfInBounds_toArray, List.set_cons_zero, List.set_cons_succ]
          refine wpAnyH_ready (rs := [1]) (by kernel_rfl) (by simp) ?_
          refine AllReadyH.cons (o := ?ob251) ?hb251 (fun K hK => ?_) AllReadyH.nil
          case hb251 => first | (simp only [List.getElem?_toArray, List.getElem?_cons_zero, List.getElem?_cons_succ]; done) | (simp only [List.getElem?_toArray, List.getElem?_cons_zero, List.getElem?_cons_succ]; exact rfl)
          go_simp
          go_at_call 71
          refine (HFC.out _).mono ?_
          rintro e w1 ⟨rfl, f1⟩
          have b1 := HB.out.2.keep f1 (fun h => h)
          have HS1 := Lib.hid (And.intro b1.c0 (And.intro b1.c1 (And.intro b1.c2 (And.intro b1.c3 b1.c4))))
          have F := Lib.hid (HB.out.1.then f1)
          clear f1 b1
          go_wp2_with fail
          refine hK.out _ _ HS1.out (fun hHeld => ?_)
          clear hK K
          try simp only [Act.put, List.setIfInBounds_toArray, List.set_cons_zero, List.set_cons_succ]
          refine wpAnyH_take (i := 2) (oi := ?oi252) (v := ?vi252) ?h252 (by kernel_rfl) (by kernel_rfl) (by kernel_rfl) ?q252 (Or.inl ⟨?w252, ?y252⟩) hHeld ?r252
          case h252 => first | (simp only [List.getElem?_toArray, List.getElem?_cons_zero, List.getElem?_cons_succ]; done) | (simp only [List.getElem?_toArray, List.getElem?_cons_zero, List.getElem?_cons_succ]; exact rfl)
          case q252 => exact fun _ _ _ h => h
          case w252 => rfl
          case y252 =>
            intro w hSw
            (try dsimp only at hSw)
            obtain ⟨s0, s1, s2, s3, s4⟩ := hSw
            go_simp
            try with_reducible rfl
          try simp only [Act.put, List.setIfInBounds_toArray, List.set_cons_zero, List.set_cons_succ]
          refine wpAnyH_take (i := 3) (oi := ?oi253) (v := ?vi253) ?h253 (by kernel_rfl) (by kernel_rfl) (by kernel_rfl) ?q253 (Or.inl ⟨?w253, ?y253⟩) hHeld ?r253
          case h253 => first | (simp only [List.getElem?_toArray, List.getElem?_cons_zero, List.getElem?_cons_succ]; done) | (simp only [List.getElem?_toArray, List.getElem?_cons_zero, List.getElem?_cons_succ]; exact rfl)
          case q253 => exact fun _ _ _ h => h
          case w253 => rfl
          case y253 =>
            intro w hSw
            (try dsimp only at hSw)
            obtain ⟨s0, s1, s2, s3, s4⟩ := hSw
            go_simp
            try with_reducible rfl
          try simp only [Act.put, List.setIfInBounds_toArray, List.set_cons_zero, List.set_cons_succ]
          refine wpAnyH_take (i := 4) (oi := ?oi254) (v := ?vi254) ?h254 (by kernel_rfl) (by kernel_rfl) (by kernel_rfl) ?q254 (Or.inl ⟨?w254, ?y254⟩) hHeld ?r254
          case h254 => first | (simp only [List.getElem?_toArray, List.getElem?_cons_zero, List.getElem?_cons_succ]; done) | (simp only [List.getElem?_toArray, List.getElem?_cons_zero, List.getElem?_cons_succ]; exact rfl)
          case q254 => exact fun _ _ _ h => h
          case w254 => rfl
          case y254 =>
            intro w hSw
            (try dsimp only at hSw)
            obtain ⟨s0, s1, s2, s3, s4⟩ := hSw
            go_simp
            try with_reducible rfl
          try simp only [Act.put, List.setIfInBounds_toArray, List.set_cons_zero, List.set_cons_succ]
          refine wpAnyH_take (i := 5) (oi := ?oi255) (v := ?vi255) ?h255 (by kernel_rfl) (by kernel_rfl) (by kernel_rfl) ?q255 (Or.inl ⟨?w255, ?y255⟩) hHeld ?r255
          case h255 => first | (simp only [List.getElem?_toArray, List.getElem?_cons_zero, List.getElem?_cons_succ]; done) | (simp only [List.getElem?_toArray, List.getElem?_cons_zero, List.getElem?_cons_succ]; exact rfl)
          case q255 => exact fun _ _ _ h => h
          case w255 => rfl
          case y255 =>
            intro w hSw
            (try dsimp only at hSw)
            obtain ⟨s0, s1, s2, s3, s4⟩ := hSw
            go_simp
            try with_reducible rfl
          try simp only [Act.put, List.setIfInBounds_toArray, List.set_cons_zero, List.set_cons_succ]
          refine wpAnyH_take (i := 6) (oi := ?oi256) (v := ?vi256) ?h256 (by kernel_rfl) (by kernel_rfl) (by kernel_rfl) ?q256 (Or.inl ⟨?w256, ?y256⟩) hHeld ?r256
          case h256 => first | (simp only [List.getElem?_toArray, List.getElem?_cons_zero, List.getElem?_cons_succ]; done) | (simp only [List.getElem?_toArray, List.getElem?_cons_zero, List.getElem?_cons_succ]; exact rfl)
          case q256 => exact fun _ _ _ h => h
          case w256 => rfl
          case y256 =>
            intro w hSw
            (try dsimp only at hSw)
            obtain ⟨s0, s1, s2, s3, s4⟩ := hSw
            go_simp
            try with_reducible rfl
          try simp only [Act.put, List.setIfInBounds_toArray, List.set_cons_zero, List.set_cons_succ]
          refine wpAnyH_take (i := 7) (oi := ?oi257) (v := undef) ?h257 (by kernel_rfl) (by kernel_rfl) (by kernel_rfl) ?q257 (Or.inr ⟨?w257, rfl⟩) hHeld ?r257
          case h257 => first | (simp only [List.getElem?_toArray, List.getElem?_cons_zero, List.getElem?_cons_succ]; done) | (simp only [List.getElem?_toArray, List.getElem?_cons_zero, List.getElem?_cons_succ]; exact rfl)
          case q257 => exact fun _ _ _ h => h
          case w257 => rfl
          try simp only [Act.put, List.setIfInBounds_toArray, List.set_cons_zero, List.set_cons_succ]
          refine wpAnyH_take (i := 8) (oi := ?oi258) (v := undef) ?h258 (by kernel_rfl) (by kernel_rfl) (by kernel_rfl) ?q258 (Or.inr ⟨?w258, rfl⟩) hHeld ?r258
          case h258 => first | (simp only [List.getElem?_toArray, List.getElem?_cons_zero, List.getElem?_cons_succ]; done) | (simp only [List.getElem?_toArray, List.getElem?_cons_zero, List.getElem?_cons_succ]; exact rfl)
          case q258 => exact fun _ _ _ h => h
          case w258 => rfl
          try simp only [Act.put, List.setIfInBounds_toArray, List.set_cons_zero, List.set_cons_succ]
          refine wpAnyH_take (i := 9) (oi := ?oi259) (v := undef) ?h259 (by kernel_rfl) (by kernel_rfl) (by kernel_rfl) ?q259 (Or.inr ⟨?w259, rfl⟩) hHeld ?r259
          case h259 => first | (simp only [List.getElem?_toArray, List.getElem?_cons_zero, List.getElem?_cons_succ]; done) | (simp only [List.getElem?_toArray, List.getElem?_cons_zero, List.getElem?_cons_succ]; exact rfl)
          case q259 => exact fun _ _ _ h => h
          case w259 => rfl
          try simp only [Act.put, List.setIfInBounds_toArray, List.set_cons_zero, List.set_cons_succ]
          refine wpAnyH_take (i := 10) (oi := ?oi260) (v := undef) ?h260 (by kernel_rfl) (by kernel_rfl) (by kernel_rfl) ?q260 (Or.inr ⟨?w260, rfl⟩) hHeld ?r260
          case h260 => first | (simp only [List.getElem?_toArray, List.getElem?_cons_zero, List.getElem?_cons_succ]; done) | (simp only [List.getElem?_toArray, List.getElem?_cons_zero, List.getElem?_cons_succ]; exact rfl)
          case q260 => exact fun _ _ _ h => h
          case w260 => rfl
          try simp only [Act.put, List.setIfInBounds_toArray, List.set_cons_zero, List.set_cons_succ]
          refine wpAnyH_take (i := 11) (oi := ?oi261) (v := undef) ?h261 (by kernel_rfl) (by kernel_rfl) (by kernel_rfl) ?q261 (Or.inr ⟨?w261, rfl⟩) hHeld ?r261
          case h261 => first | (simp only [List.getElem?_toArray, List.getElem?_cons_zero, List.getElem?_cons_succ]; done) | (simp only [List.getElem?_toArray, List.getElem?_cons_zero, List.getElem?_cons_succ]; exact rfl)
          case q261 => exact fun _ _ _ h => h
          case w261 => rfl
          try simp only [Act.put, List.setIfInBounds_toArray, List.set_cons_zero, List.set_cons_succ]
          refine wpAnyH_take (i := 12) (oi := ?oi262) (v := undef) ?h262 (by kernel_rfl) (by kernel_rfl) (by kernel_rfl) ?q262 (Or.inr ⟨?w262, rfl⟩) hHeld ?r262
          case h262 => first | (simp only [List.getElem?_toArray, List.getElem?_cons_zero, List.getElem?_cons_succ]; done) | (simp only [List.getElem?_toArray, List.getElem?_cons_zero, List.getElem?_cons_succ]; exact rfl)
          case q262 => exact fun _ _ _ h => h
          case w262 => rfl
          try simp only [Act.put, List.setIfInBounds_toArray, List.set_cons_zero, List.set_cons_succ]
          refine wpAnyH_take (i := 13) (oi := ?oi263) (v := undef) ?h263 (by kernel_rfl) (by kernel_rfl) (by kernel_rfl) ?q263 (Or.inr ⟨?w263, rfl⟩) hHeld ?r263
          case h263 => first | (simp only [List.getElem?_toArray, List.getElem?_cons_zero, List.getElem?_cons_succ]; done) | (simp only [List.getElem?_toArray, List.getElem?_cons_zero, List.getElem?_cons_succ]; exact rfl)
          case q263 => exact fun _ _ _ h => h
          case w263 => rfl
          try simp only [Act.put, List.setIfInBounds_toArray, List.set_cons_zero, List.set_cons_succ]
          refine wpAnyH_take (i := 14) (oi := ?oi264) (v := undef) ?h264 (by kernel_rfl) (by kernel_rfl) (by kernel_rfl) ?q264 (Or.inr ⟨?w264, rfl⟩) hHeld ?r264
          case h264 => first | (simp only [List.getElem?_toArray, List.getElem?_cons_zero, List.getElem?_cons_succ]; done) | (simp only [List.getElem?_toArray, List.getElem?_cons_zero, List.getElem?_cons_succ]; exact rfl)
          case q264 => exact fun _ _ _ h => h
          case w264 => rfl
          try simp only [Act.put, List.setIfInBounds_toArray, List.set_cons_zero, List.set_cons_succ]
          refine wpAnyH_take (i := 15) (oi := ?oi265) (v := undef) ?h265 (by kernel_rfl) (by kernel_rfl) (by kernel_rfl) ?q265 (Or.inr ⟨?w265, rfl⟩) hHeld ?r265
          case h265 => first | (simp only [List.getElem?_toArray, List.getElem?_cons_zero, List.getElem?_cons_succ]; done) | (simp only [List.getElem?_toArray, List.getElem?_cons_zero, List.getElem?_cons_succ]; exact rfl)
          case q265 => exact fun _ _ _ h => h
          case w265 => rfl
          try simp only [Act.put, List.setIfInBounds_toArray, List.set_cons_zero, List.set_cons_succ]
          refine wpAnyH_take (i := 16) (oi := ?oi266) (v := undef) ?h266 (by kernel_rfl) (by kernel_rfl) (by kernel_rfl) ?q266 (Or.inr ⟨?w266, rfl⟩) hHeld ?r266
          case h266 => first | (simp only [List.getElem?_toArray, List.getElem?_cons_zero, List.getElem?_cons_succ]; done) | (simp only [List.getElem?_toArray, List.getElem?_cons_zero, List.getElem?_cons_succ]; exact rfl)
          case q266 => exact fun _ _ _ h => h
          case w266 => rfl
          try simp only [Act.put, List.setIfInBounds_toArray, List.set_cons_zero, List.set_cons_succ]
          refine wpAnyH_take (i := 17) (oi := ?oi267) (v := ?vi267) ?h267 (by kernel_rfl) (by kernel_rfl) (by kernel_rfl) ?q267 (Or.inl ⟨?w267, ?y267⟩) hHeld ?r267
          case h267 => first | (simp only [List.getElem?_toArray, List.getElem?_cons_zero, List.getElem?_cons_succ]; done) | (simp only [List.getElem?_toArray, List.getElem?_cons_zero, List.getElem?_cons_succ]; exact rfl)
          case q267 => exact fun _ _ _ h => h
          case w267 => rfl
          case y267 =>
            intro w hSw
            (try dsimp only at hSw)
            obtain ⟨s0, s1, s2, s3, s4⟩ := hSw
            go_simp
            try with_reducible rfl
          try simp only [Act.put, List.setIfInBounds_toArray, List.set_cons_zero, List.set_cons_succ]
          refine wpAnyH_take (i := 18) (oi := ?oi268) (v := ?vi268) ?h268 (by kernel_rfl) (by kernel_rfl) (by kernel_rfl) ?q268 (Or.inl ⟨?w268, ?y268⟩) hHeld ?r268
          case h268 => first | (simp only [List.getElem?_toArray, List.getElem?_cons_zero, List.getElem?_cons_succ]; done) | (simp only [List.getElem?_toArray, List.getElem?_cons_zero, List.getElem?_cons_succ]; exact rfl)
          case q268 => exact fun _ _ _ h => h
          case w268 => rfl
          case y268 =>
            intro w hSw
            (try dsimp only at hSw)
            obtain ⟨s0, s1, s2, s3, s4⟩ := hSw
            go_simp
            try with_reducible rfl
          try simp only [Act.put, List.setIfInBounds_toArray, List.set_cons_zero, List.set_cons_succ]
          refine wpAnyH_done (by kernel_rfl) ?_ _
          have hkn := HK.out
          go_wp2
          go_roundw
          case rel => exact ⟨0 + 1, by have := HK.out; omega, by go_num, ⟨HR0.out.then F.out, HNX.out⟩⟩
          case measure => have := HK.out; simp [RowKit.intOf]; omega
        · obtain ⟨z, hz, hz2⟩ := HST.out.2.2.2.1 (k - 1) (by omega)
          have HP := Lib.hid (And.intro HST.out.2.2.1 hz)
          have hkm : k - 1 < s.nodes.length := by omega
          have HZ := Lib.hid (And.intro (hz2 hkm) (And.intro hk0 hkm))
          have wk : IntKind.i64.wrap ((k : Int) - 1) = ((k - 1 : Nat) : Int) := by rw [IntKind.wrap_i64]; omega
          have qz : ((0 : Int) < (k : Int)) = True := eq_true (by omega)
          have qz2 : (0 < k) = True := eq_true hk0
          have qn : (((k - 1 : Nat) : Int) < (n : Int)) = True := eq_true (by omega)
          have qn2 : (k - 1 < n) = True := eq_true (by omega)
          by_cases hle : (Op.bytesLess x.path z || x.path == z) = true
          · have HNO := Lib.hid (HST.out.2.1 (.inr ⟨HZ.out.2.1, HZ.out.2.2, by rw [← HZ.out.1]; exact notUp hle⟩))
            clear hlt hk hk0 hz hz2
            go_wp2_with fail
            refine wp_region_held_drew (S := (fun w' => w'.cell? ⟨wr.heap.size, 0, none⟩ = some (.string (B x.path)) ∧ w'.cell? ⟨wr.heap.size, 1, none⟩ = some (.string (B x.data)) ∧ w'.cell? ⟨wr.heap.size, 2, none⟩ = some (.int .i64 x.ver) ∧ w'.cell? ⟨wr.heap.size, 3, none⟩ = some (.int .i64 x.turn) ∧ w'.cell? ⟨wr.heap.size, 4, none⟩ = some (.int .i64 x.own) ∧ w'.cell? ⟨w.heap.size, 0, none⟩ = some (.slice (some ⟨g, o, none⟩) n cap) ∧ w'.cell? ⟨g, o + (k - 1) * 5, none⟩ = some (.string (B z)))) (by kernel_rfl) ?_ (fun hHeld => ?_)
            · exact ⟨HB.out.2.c0, HB.out.2.c1, HB.out.2.c2, HB.out.2.c3, HB.out.2.c4, HP.out.1, HP.out.2⟩
            refine wpAnyH_take (i := 0) (oi := ?oi269) (v := ?vi269) ?h269 (by kernel_rfl) (by kernel_rfl) (by kernel_rfl) ?q269 (Or.inl ⟨?w269, ?y269⟩) hHeld ?r269
            case h269 => first | (simp only [List.getElem?_toArray, List.getElem?_cons_zero]; done) | (simp only [List.getElem?_toArray, List.getElem?_cons_zero]; exact rfl)
            case q269 => exact fun _ _ _ h => h
            case w269 => rfl
            case y269 =>
              intro w hSw
              (try dsimp only at hSw)
              obtain ⟨s0, s1, s2, s3, s4, s5, s6⟩ := hSw
              go_simp
              try with_reducible rfl
            try simp only [Act.put, List.setIfInBounds_toArray, List.set_cons_zero, List.set_cons_succ]
            refine wpAnyH_ready (rs := [1]) (by kernel_rfl) (by simp) ?_
            refine AllReadyH.cons (o := ?ob270) ?hb270 (fun K hK => ?_) AllReadyH.nil
            case hb270 => first | (simp only [List.getElem?_toArray, List.getElem?_cons_zero, List.getElem?_cons_succ]; done) | (simp only [List.getElem?_toArray, List.getElem?_cons_zero, List.getElem?_cons_succ]; exact rfl)
            go_simp
            go_at_call 71
            refine (HFC.out _).mono ?_
            rintro e w1 ⟨rfl, f1⟩
            have b1 := HB.out.2.keep f1 (fun h => h)
            have HS1 := Lib.hid (And.intro b1.c0 (And.intro b1.c1 (And.intro b1.c2 (And.intro b1.c3 (And.intro b1.c4 (And.intro (f1.cell HP.out.1 (fun h => h)) (f1.cell HP.out.2 (fun h => h))))))))
            have F := Lib.hid (HB.out.1.then f1)
            clear f1 b1
            go_wp2_with fail
            refine hK.out _ _ HS1.out (fun hHeld => ?_)
            clear hK K
            try simp only [Act.put, List.setIfInBounds_toArray, List.set_cons_zero, List.set_cons_succ]
            refine wpAnyH_take (i := 2) (oi := ?oi271) (v := ?vi271) ?h271 (by kernel_rfl) (by kernel_rfl) (by kernel_rfl) ?q271 (Or.inl ⟨?w271, ?y271⟩) hHeld ?r271
            case h271 => first | (simp only [List.getElem?_toArray, List.getElem?_cons_zero, List.getElem?_cons_succ]; done) | (simp only [List.getElem?_toArray, List.getElem?_cons_zero, List.getElem?_cons_succ]; exact rfl)
            case q271 => exact fun _ _ _ h => h
            case w271 => rfl
            case y271 =>
              intro w hSw
              (try dsimp only at hSw)
              obtain ⟨s0, s1, s2, s3, s4, s5, s6⟩ := hSw
              go_simp
              try with_reducible rfl
            try simp only [Act.put, List.setIfInBounds_toArray, List.set_cons_zero, List.set_cons_succ]
            refine wpAnyH_take (i := 3) (oi := ?oi272) (v := ?vi272) ?h272 (by kernel_rfl) (by kernel_rfl) (by kernel_rfl) ?q272 (Or.inl ⟨?w272, ?y272⟩) hHeld ?r272
            case h272 => first | (simp only [List.getElem?_toArray, List.getElem?_cons_zero, List.getElem?_cons_succ]; done) | (simp only [List.getElem?_toArray, List.getElem?_cons_zero, List.getElem?_cons_succ]; exact rfl)
            case q272 => exact fun _ _ _ h => h
            case w272 => rfl
            case y272 =>
              intro w hSw
              (try dsimp only at hSw)
              obtain ⟨s0, s1, s2, s3, s4, s5, s6⟩ := hSw
              go_simp
              try with_reducible rfl
            try simp only [Act.put, List.setIfInBounds_toArray, List.set_cons_zero, List.set_cons_succ]
            refine wpAnyH_take (i := 4) (oi := ?oi273) (v := ?vi273) ?h273 (by kernel_rfl) (by kernel_rfl) (by kernel_rfl) ?q273 (Or.inl ⟨?w273, ?y273⟩) hHeld ?r273
            case h273 => first | (simp only [List.getElem?_toArray, List.getElem?_cons_zero, List.getElem?_cons_succ]; done) | (simp only [List.getElem?_toArray, List.getElem?_cons_zero, List.getElem?_cons_succ]; exact rfl)
            case q273 => exact fun _ _ _ h => h
            case w273 => rfl
            case y273 =>
              intro w hSw
              (try dsimp only at hSw)
              obtain ⟨s0, s1, s2, s3, s4, s5, s6⟩ := hSw
              go_simp
              try with_reducible rfl
            try simp only [Act.put, List.setIfInBounds_toArray, List.set_cons_zero, List.set_cons_succ]
            refine wpAnyH_take (i := 5) (oi := ?oi274) (v := ?vi274) ?h274 (by kernel_rfl) (by kernel_rfl) (by kernel_rfl) ?q274 (Or.inl ⟨?w274, ?y274⟩) hHeld ?r274
            case h274 => first | (simp only [List.getElem?_toArray, List.getElem?_cons_zero, List.getElem?_cons_succ]; done) | (simp only [List.getElem?_toArray, List.getElem?_cons_zero, List.getElem?_cons_succ]; exact rfl)
            case q274 => exact fun _ _ _ h => h
            case w274 => rfl
            case y274 =>
              intro w hSw
              (try dsimp only at hSw)
              obtain ⟨s0, s1, s2, s3, s4, s5, s6⟩ := hSw
              go_simp
              try with_reducible rfl
            try simp only [Act.put, List.setIfInBounds_toArray, List.set_cons_zero, List.set_cons_succ]
            refine wpAnyH_take (i := 6) (oi := ?oi275) (v := ?vi275) ?h275 (by kernel_rfl) (by kernel_rfl) (by kernel_rfl) ?q275 (Or.inl ⟨?w275, ?y275⟩) hHeld ?r275
            case h275 => first | (simp only [List.getElem?_toArray, List.getElem?_cons_zero, List.getElem?_cons_succ]; done) | (simp only [List.getElem?_toArray, List.getElem?_cons_zero, List.getElem?_cons_succ]; exact rfl)
            case q275 => exact fun _ _ _ h => h
            case w275 => rfl
            case y275 =>
              intro w hSw
              (try dsimp only at hSw)
              obtain ⟨s0, s1, s2, s3, s4, s5, s6⟩ := hSw
              go_simp
              try with_reducible rfl
            try simp only [Act.put, List.setIfInBounds_toArray, List.set_cons_zero, List.set_cons_succ]
            refine wpAnyH_take (i := 7) (oi := ?oi276) (v := ?vi276) ?h276 (by kernel_rfl) (by kernel_rfl) (by kernel_rfl) ?q276 (Or.inl ⟨?w276, ?y276⟩) hHeld ?r276
            case h276 => first | (simp only [List.getElem?_toArray, List.getElem?_cons_zero, List.getElem?_cons_succ]; done) | (simp only [List.getElem?_toArray, List.getElem?_cons_zero, List.getElem?_cons_succ]; exact rfl)
            case q276 => exact fun _ _ _ h => h
            case w276 => rfl
            case y276 =>
              intro w hSw
              (try dsimp only at hSw)
              obtain ⟨s0, s1, s2, s3, s4, s5, s6⟩ := hSw
              go_simp
              try with_reducible rfl
            try simp only [Act.put, List.setIfInBounds_toArray, List.set_cons_zero, List.set_cons_succ]
            refine wpAnyH_take (i := 8) (oi := ?oi277) (v := ?vi277) ?h277 (by kernel_rfl) (by kernel_rfl) (by kernel_rfl) ?q277 (Or.inl ⟨?w277, ?y277⟩) hHeld ?r277
            case h277 => first | (simp only [List.getElem?_toArray, List.getElem?_cons_zero, List.getElem?_cons_succ]; done) | (simp only [List.getElem?_toArray, List.getElem?_cons_zero, List.getElem?_cons_succ]; exact rfl)
            case q277 => exact fun _ _ _ h => h
            case w277 => rfl
            case y277 =>
              intro w hSw
              (try dsimp only at hSw)
              obtain ⟨s0, s1, s2, s3, s4, s5, s6⟩ := hSw
              go_simp
              try with_reducible rfl
            try simp only [Act.put, List.setIfInBounds_toArray, List.set_cons_zero, List.set_cons_succ]
            refine wpAnyH_take (i := 9) (oi := ?oi278) (v := ?vi278) ?h278 (by kernel_rfl) (by kernel_rfl) (by kernel_rfl) ?q278 (Or.inl ⟨?w278, ?y278⟩) hHeld ?r278
            case h278 => first | (simp only [List.getElem?_toArray, List.getElem?_cons_zero, List.getElem?_cons_succ]; done) | (simp only [List.getElem?_toArray, List.getElem?_cons_zero, List.getElem?_cons_succ]; exact rfl)
            case q278 => exact fun _ _ _ h => h
            case w278 => rfl
            case y278 =>
              intro w hSw
              (try dsimp only at hSw)
              obtain ⟨s0, s1, s2, s3, s4, s5, s6⟩ := hSw
              go_simp
              try with_reducible rfl
            try simp only [Act.put, List.setIfInBounds_toArray, List.set_cons_zero, List.set_cons_succ]
            refine wpAnyH_take (i := 10) (oi := ?oi279) (v := ?vi279) ?h279 (by kernel_rfl) (by kernel_rfl) (by kernel_rfl) ?q279 (Or.inl ⟨?w279, ?y279⟩) hHeld ?r279
            case h279 => first | (simp only [List.getElem?_toArray, List.getElem?_cons_zero, List.getElem?_cons_succ]; done) | (simp only [List.getElem?_toArray, List.getElem?_cons_zero, List.getElem?_cons_succ]; exact rfl)
            case q279 => exact fun _ _ _ h => h
            case w279 => rfl
            case y279 =>
              intro w hSw
              (try dsimp only at hSw)
              obtain ⟨s0, s1, s2, s3, s4, s5, s6⟩ := hSw
              go_simp
              try with_reducible rfl
            try simp only [Act.put, List.setIfInBounds_toArray, List.set_cons_zero, List.set_cons_succ]
            refine wpAnyH_take (i := 11) (oi := ?oi280) (v := ?vi280) ?h280 (by kernel_rfl) (by kernel_rfl) (by kernel_rfl) ?q280 (Or.inl ⟨?w280, ?y280⟩) hHeld ?r280
            case h280 => first | (simp only [List.getElem?_toArray, List.getElem?_cons_zero, List.getElem?_cons_succ]; done) | (simp only [List.getElem?_toArray, List.getElem?_cons_zero, List.getElem?_cons_succ]; exact rfl)
            case q280 => exact fun _ _ _ h => h
            case w280 => rfl
            case y280 =>
              intro w hSw
              (try dsimp only at hSw)
              obtain ⟨s0, s1, s2, s3, s4, s5, s6⟩ := hSw
              go_simp
              try with_reducible rfl
            try simp only [Act.put, List.setIfInBounds_toArray, List.set_cons_zero, List.set_cons_succ]
            refine wpAnyH_take (i := 12) (oi := ?oi281) (v := ?vi281) ?h281 (by kernel_rfl) (by kernel_rfl) (by kernel_rfl) ?q281 (Or.inl ⟨?w281, ?y281⟩) hHeld ?r281
            case h281 => first | (simp only [List.getElem?_toArray, List.getElem?_cons_zero, List.getElem?_cons_succ]; done) | (simp only [List.getElem?_toArray, List.getElem?_cons_zero, List.getElem?_cons_succ]; exact rfl)
            case q281 => exact fun _ _ _ h => h
            case w281 => rfl
            case y281 =>
              intro w hSw
              (try dsimp only at hSw)
              obtain ⟨s0, s1, s2, s3, s4, s5, s6⟩ := hSw
              go_simp
              try with_reducible rfl
            try simp only [Act.put, List.setIfInBounds_toArray, List.set_cons_zero, List.set_cons_succ]
            refine wpAnyH_take (i := 13) (oi := ?oi282) (v := ?vi282) ?h282 (by kernel_rfl) (by kernel_rfl) (by kernel_rfl) ?q282 (Or.inl ⟨?w282, ?y282⟩) hHeld ?r282
            case h282 => first | (simp only [List.getElem?_toArray, List.getElem?_cons_zero, List.getElem?_cons_succ]; done) | (simp only [List.getElem?_toArray, List.getElem?_cons_zero, List.getElem?_cons_succ]; exact rfl)
            case q282 => exact fun _ _ _ h => h
            case w282 => rfl
            case y282 =>
              intro w hSw
              (try dsimp only at hSw)
              obtain ⟨s0, s1, s2, s3, s4, s5, s6⟩ := hSw
              go_simp
              try with_reducible rfl
            try simp only [Act.put, List.setIfInBounds_toArray, List.set_cons_zero, List.set_cons_succ]
            refine wpAnyH_take (i := 14) (oi := ?oi283) (v := ?vi283) ?h283 (by kernel_rfl) (by kernel_rfl) (by kernel_rfl) ?q283 (Or.inl ⟨?w283, ?y283⟩) hHeld ?r283
            case h283 => first | (simp only [List.getElem?_toArray, List.getElem?_cons_zero, List.getElem?_cons_succ]; done) | (simp only [List.getElem?_toArray, List.getElem?_cons_zero, List.getElem?_cons_succ]; exact rfl)
            case q283 => exact fun _ _ _ h => h
            case w283 => rfl
            case y283 =>
              intro w hSw
              (try dsimp only at hSw)
              obtain ⟨s0, s1, s2, s3, s4, s5, s6⟩ := hSw
              go_simp
              try with_reducible rfl
            try simp only [Act.put, List.setIfInBounds_toArray, List.set_cons_zero, List.set_cons_succ]
            refine wpAnyH_take (i := 15) (oi := ?oi284) (v := ?vi284) ?h284 (by kernel_rfl) (by kernel_rfl) (by kernel_rfl) ?q284 (Or.inl ⟨?w284, ?y284⟩) hHeld ?r284
            case h284 => first | (simp only [List.getElem?_toArray, List.getElem?_cons_zero, List.getElem?_cons_succ]; done) | (simp only [List.getElem?_toArray, List.getElem?_cons_zero, List.getElem?_cons_succ]; exact rfl)
            case q284 => exact fun _ _ _ h => h
            case w284 => rfl
            case y284 =>
              intro w hSw
              (try dsimp only at hSw)
              obtain ⟨s0, s1, s2, s3, s4, s5, s6⟩ := hSw
              go_simp
              try with_reducible rfl
            try simp only [Act.put, List.setIfInBounds_toArray, List.set_cons_zero, List.set_cons_succ]
            refine wpAnyH_take (i := 16) (oi := ?oi285) (v := ?vi285) ?h285 (by kernel_rfl) (by kernel_rfl) (by kernel_rfl) ?q285 (Or.inl ⟨?w285, ?y285⟩) hHeld ?r285
            case h285 => first | (simp only [List.getElem?_toArray, List.getElem?_cons_zero, List.getElem?_cons_succ]; done) | (simp only [List.getElem?_toArray, List.getElem?_cons_zero, List.getElem?_cons_succ]; exact rfl)
            case q285 => exact fun _ _ _ h => h
            case w285 => rfl
            case y285 =>
              intro w hSw
              (try dsimp only at hSw)
              obtain ⟨s0, s1, s2, s3, s4, s5, s6⟩ := hSw
              go_simp
              try with_reducible rfl
            try simp only [Act.put, List.setIfInBounds_toArray, List.set_cons_zero, List.set_cons_succ]
            refine wpAnyH_take (i := 17) (oi := ?oi286) (v := ?vi286) ?h286 (by kernel_rfl) (by kernel_rfl) (by kernel_rfl) ?q286 (Or.inl ⟨?w286, ?y286⟩) hHeld ?r286
            case h286 => first | (simp only [List.getElem?_toArray, List.getElem?_cons_zero, List.getElem?_cons_succ]; done) | (simp only [List.getElem?_toArray, List.getElem?_cons_zero, List.getElem?_cons_succ]; exact rfl)
            case q286 => exact fun _ _ _ h => h
            case w286 => rfl
            case y286 =>
              intro w hSw
              (try dsimp only at hSw)
              obtain ⟨s0, s1, s2, s3, s4, s5, s6⟩ := hSw
              go_simp
              try with_reducible rfl
            try simp only [Act.put, List.setIfInBounds_toArray, List.set_cons_zero, List.set_cons_succ]
            refine wpAnyH_take (i := 18) (oi := ?oi287) (v := ?vi287) ?h287 (by kernel_rfl) (by kernel_rfl) (by kernel_rfl) ?q287 (Or.inl ⟨?w287, ?y287⟩) hHeld ?r287
            case h287 => first | (simp only [List.getElem?_toArray, List.getElem?_cons_zero, List.getElem?_cons_succ]; done) | (simp only [List.getElem?_toArray, List.getElem?_cons_zero, List.getElem?_cons_succ]; exact rfl)
            case q287 => exact fun _ _ _ h => h
            case w287 => rfl
            case y287 =>
              intro w hSw
              (try dsimp only at hSw)
              obtain ⟨s0, s1, s2, s3, s4, s5, s6⟩ := hSw
              go_simp
              try with_reducible rfl
            try simp only [Act.put, List.setIfInBounds_toArray, List.set_cons_zero, List.set_cons_succ]
            refine wpAnyH_done (by kernel_rfl) ?_ _
            go_wp2
            go_ret
            exact ⟨ret_bool HNO.out.symm, HW.out.then F.out⟩
          · have hle' : (Op.bytesLess x.path z || x.path == z) = false := by simpa using hle
            have HNX := Lib.hid (HST.out.1 rfl (fun _ h => by rw [← HZ.out.1]; exact isUp hle'))
            clear hlt hk hk0 hz hz2 hle
            go_wp2_with fail
            refine wp_region_held_drew (S := (fun w' => w'.cell? ⟨wr.heap.size, 0, none⟩ = some (.string (B x.path)) ∧ w'.cell? ⟨wr.heap.size, 1, none⟩ = some (.string (B x.data)) ∧ w'.cell? ⟨wr.heap.size, 2, none⟩ = some (.int .i64 x.ver) ∧ w'.cell? ⟨wr.heap.size, 3, none⟩ = some (.int .i64 x.turn) ∧ w'.cell? ⟨wr.heap.size, 4, none⟩ = some (.int .i64 x.own) ∧ w'.cell? ⟨w.heap.size, 0, none⟩ = some (.slice (some ⟨g, o, none⟩) n cap) ∧ w'.cell? ⟨g, o + (k - 1) * 5, none⟩ = some (.string (B z)))) (by kernel_rfl) ?_ (fun hHeld => ?_)
            · exact ⟨HB.out.2.c0, HB.out.2.c1, HB.out.2.c2, HB.out.2.c3, HB.out.2.c4, HP.out.1, HP.out.2⟩
            refine wpAnyH_take (i := 0) (oi := ?oi288) (v := ?vi288) ?h288 (by kernel_rfl) (by kernel_rfl) (by kernel_rfl) ?q288 (Or.inl ⟨?w288, ?y288⟩) hHeld ?r288
            case h288 => first | (simp only [List.getElem?_toArray, List.getElem?_cons_zero]; done) | (simp only [List.getElem?_toArray, List.getElem?_cons_zero]; exact rfl)
            case q288 => exact fun _ _ _ h => h
            case w288 => rfl
            case y288 =>
              intro w hSw
              (try dsimp only at hSw)
              obtain ⟨s0, s1, s2, s3, s4, s5, s6⟩ := hSw
              go_simp
              try with_reducible rfl
            try simp only [Act.put, List.setIfInBounds_toArray, List.set_cons_zero, List.set_cons_succ]
            refine wpAnyH_ready (rs := [1]) (by kernel_rfl) (by simp) ?_
            refine AllReadyH.cons (o := ?ob289) ?hb289 (fun K hK => ?_) AllReadyH.nil
            case hb289 => first | (simp only [List.getElem?_toArray, List.getElem?_cons_zero, List.getElem?_cons_succ]; done) | (simp only [List.getElem?_toArray, List.getElem?_cons_zero, List.getElem?_cons_succ]; exact rfl)
            go_simp
            go_at_call 71
            refine (HFC.out _).mono ?_
            rintro e w1 ⟨rfl, f1⟩
            have b1 := HB.out.2.keep f1 (fun h => h)
            have HS1 := Lib.hid (And.intro b1.c0 (And.intro b1.c1 (And.intro b1.c2 (And.intro b1.c3 (And.intro b1.c4 (And.intro (f1.cell HP.out.1 (fun h => h)) (f1.cell HP.out.2 (fun h => h))))))))
            have F := Lib.hid (HB.out.1.then f1)
            clear f1 b1
            go_wp2_with fail
            refine hK.out _ _ HS1.out (fun hHeld => ?_)
            clear hK K
            try simp only [Act.put, List.setIfInBounds_toArray, List.set_cons_zero, List.set_cons_succ]
            refine wpAnyH_take (i := 2) (oi := ?oi290) (v := ?vi290) ?h290 (by kernel_rfl) (by kernel_rfl) (by kernel_rfl) ?q290 (Or.inl ⟨?w290, ?y290⟩) hHeld ?r290
            case h290 => first | (simp only [List.getElem?_toArray, List.getElem?_cons_zero, List.getElem?_cons_succ]; done) | (simp only [List.getElem?_toArray, List.getElem?_cons_zero, List.getElem?_cons_succ]; exact rfl)
            case q290 => exact fun _ _ _ h => h
            case w290 => rfl
            case y290 =>
              intro w hSw
              (try dsimp only at hSw)
              obtain ⟨s0, s1, s2, s3, s4, s5, s6⟩ := hSw
              go_simp
              try with_reducible rfl
            try simp only [Act.put, List.setIfInBounds_toArray, List.set_cons_zero, List.set_cons_succ]
            refine wpAnyH_take (i := 3) (oi := ?oi291) (v := ?vi291) ?h291 (by kernel_rfl) (by kernel_rfl) (by kernel_rfl) ?q291 (Or.inl ⟨?w291, ?y291⟩) hHeld ?r291
            case h291 => first | (simp only [List.getElem?_toArray, List.getElem?_cons_zero, List.getElem?_cons_succ]; done) | (simp only [List.getElem?_toArray, List.getElem?_cons_zero, List.getElem?_cons_succ]; exact rfl)
            case q291 => exact fun _ _ _ h => h
            case w291 => rfl
            case y291 =>
              intro w hSw
              (try dsimp only at hSw)
              obtain ⟨s0, s1, s2, s3, s4, s5, s6⟩ := hSw
              go_simp
              try with_reducible rfl
            try simp only [Act.put, List.setIfInBounds_toArray, List.set_cons_zero, List.set_cons_succ]
            refine wpAnyH_take (i := 4) (oi := ?oi292) (v := ?vi292) ?h292 (by kernel_rfl) (by kernel_rfl) (by kernel_rfl) ?q292 (Or.inl ⟨?w292, ?y292⟩) hHeld ?r292
            case h292 => first | (simp only [List.getElem?_toArray, List.getElem?_cons_zero, List.getElem?_cons_succ]; done) | (simp only [List.getElem?_toArray, List.getElem?_cons_zero, List.getElem?_cons_succ]; exact rfl)
            case q292 => exact fun _ _ _ h => h
            case w292 => rfl
            case y292 =>
              intro w hSw
              (try dsimp only at hSw)
              obtain ⟨s0, s1, s2, s3, s4, s5, s6⟩ := hSw
              go_simp
              try with_reducible rfl
            try simp only [Act.put, List.setIfInBounds_toArray, List.set_cons_zero, List.set_cons_succ]
            refine wpAnyH_take (i := 5) (oi := ?oi293) (v := ?vi293) ?h293 (by kernel_rfl) (by kernel_rfl) (by kernel_rfl) ?q293 (Or.inl ⟨?w293, ?y293⟩) hHeld ?r293
            case h293 => first | (simp only [List.getElem?_toArray, List.getElem?_cons_zero, List.getElem?_cons_succ]; done) | (simp only [List.getElem?_toArray, List.getElem?_cons_zero, List.getElem?_cons_succ]; exact rfl)
            case q293 => exact fun _ _ _ h => h
            case w293 => rfl
            case y293 =>
              intro w hSw
              (try dsimp only at hSw)
              obtain ⟨s0, s1, s2, s3, s4, s5, s6⟩ := hSw
              go_simp
              try with_reducible rfl
            try simp only [Act.put, List.setIfInBounds_toArray, List.set_cons_zero, List.set_cons_succ]
            refine wpAnyH_take (i := 6) (oi := ?oi294) (v := ?vi294) ?h294 (by kernel_rfl) (by kernel_rfl) (by kernel_rfl) ?q294 (Or.inl ⟨?w294, ?y294⟩) hHeld ?r294
            case h294 => first | (simp only [List.getElem?_toArray, List.getElem?_cons_zero, List.getElem?_cons_succ]; done) | (simp only [List.getElem?_toArray, List.getElem?_cons_zero, List.getElem?_cons_succ]; exact rfl)
            case q294 => exact fun _ _ _ h => h
            case w294 => rfl
            case y294 =>
              intro w hSw
              (try dsimp only at hSw)
              obtain ⟨s0, s1, s2, s3, s4, s5, s6⟩ := hSw
              go_simp
              try with_reducible rfl
            try simp only [Act.put, List.setIfInBounds_toArray, List.set_cons_zero, List.set_cons_succ]
            refine wpAnyH_take (i := 7) (oi := ?oi295) (v := ?vi295) ?h295 (by kernel_rfl) (by kernel_rfl) (by kernel_rfl) ?q295 (Or.inl ⟨?w295, ?y295⟩) hHeld ?r295
            case h295 => first | (simp only [List.getElem?_toArray, List.getElem?_cons_zero, List.getElem?_cons_succ]; done) | (simp only [List.getElem?_toArray, List.getElem?_cons_zero, List.getElem?_cons_succ]; exact rfl)
            case q295 => exact fun _ _ _ h => h
            case w295 => rfl
            case y295 =>
              intro w hSw
              (try dsimp only at hSw)
              obtain ⟨s0, s1, s2, s3, s4, s5, s6⟩ := hSw
              go_simp
              try with_reducible rfl
            try simp only [Act.put, List.setIfInBounds_toArray, List.set_cons_zero, List.set_cons_succ]
            refine wpAnyH_take (i := 8) (oi := ?oi296) (v := ?vi296) ?h296 (by kernel_rfl) (by kernel_rfl) (by kernel_rfl) ?q296 (Or.inl ⟨?w296, ?y296⟩) hHeld ?r296
            case h296 => first | (simp only [List.getElem?_toArray, List.getElem?_cons_zero, List.getElem?_cons_succ]; done) | (simp only [List.getElem?_toArray, List.getElem?_cons_zero, List.getElem?_cons_succ]; exact rfl)
            case q296 => exact fun _ _ _ h => h
            case w296 => rfl
            case y296 =>
              intro w hSw
              (try dsimp only at hSw)
              obtain ⟨s0, s1, s2, s3, s4, s5, s6⟩ := hSw
              go_simp
              try with_reducible rfl
            try simp only [Act.put, List.setIfInBounds_toArray, List.set_cons_zero, List.set_cons_succ]
            refine wpAnyH_take (i := 9) (oi := ?oi297) (v := ?vi297) ?h297 (by kernel_rfl) (by kernel_rfl) (by kernel_rfl) ?q297 (Or.inl ⟨?w297, ?y297⟩) hHeld ?r297
            case h297 => first | (simp only [List.getElem?_toArray, List.getElem?_cons_zero, List.getElem?_cons_succ]; done) | (simp only [List.getElem?_toArray, List.getElem?_cons_zero, List.getElem?_cons_succ]; exact rfl)
            case q297 => exact fun _ _ _ h => h
            case w297 => rfl
            case y297 =>
              intro w hSw
              (try dsimp only at hSw)
              obtain ⟨s0, s1, s2, s3, s4, s5, s6⟩ := hSw
              go_simp
              try with_reducible rfl
            try simp only [Act.put, List.setIfInBounds_toArray, List.set_cons_zero, List.set_cons_succ]
            refine wpAnyH_take (i := 10) (oi := ?oi298) (v := ?vi298) ?h298 (by kernel_rfl) (by kernel_rfl) (by kernel_rfl) ?q298 (Or.inl ⟨?w298, ?y298⟩) hHeld ?r298
            case h298 => first | (simp only [List.getElem?_toArray, List.getElem?_cons_zero, List.getElem?_cons_succ]; done) | (simp only [List.getElem?_toArray, List.getElem?_cons_zero, List.getElem?_cons_succ]; exact rfl)
            case q298 => exact fun _ _ _ h => h
            case w298 => rfl
            case y298 =>
              intro w hSw
              (try dsimp only at hSw)
              obtain ⟨s0, s1, s2, s3, s4, s5, s6⟩ := hSw
              go_simp
              try with_reducible rfl
            try simp only [Act.put, List.setIfInBounds_toArray, List.set_cons_zero, List.set_cons_succ]
            refine wpAnyH_take (i := 11) (oi := ?oi299) (v := ?vi299) ?h299 (by kernel_rfl) (by kernel_rfl) (by kernel_rfl) ?q299 (Or.inl ⟨?w299, ?y299⟩) hHeld ?r299
            case h299 => first | (simp only [List.getElem?_toArray, List.getElem?_cons_zero, List.getElem?_cons_succ]; done) | (simp only [List.getElem?_toArray, List.getElem?_cons_zero, List.getElem?_cons_succ]; exact rfl)
            case q299 => exact fun _ _ _ h => h
            case w299 => rfl
            case y299 =>
              intro w hSw
              (try dsimp only at hSw)
              obtain ⟨s0, s1, s2, s3, s4, s5, s6⟩ := hSw
              go_simp
              try with_reducible rfl
            try simp only [Act.put, List.setIfInBounds_toArray, List.set_cons_zero, List.set_cons_succ]
            refine wpAnyH_take (i := 12) (oi := ?oi300) (v := ?vi300) ?h300 (by kernel_rfl) (by kernel_rfl) (by kernel_rfl) ?q300 (Or.inl ⟨?w300, ?y300⟩) hHeld ?r300
            case h300 => first | (simp only [List.getElem?_toArray, List.getElem?_cons_zero, List.getElem?_cons_succ]; done) | (simp only [List.getElem?_toArray, List.getElem?_cons_zero, List.getElem?_cons_succ]; exact rfl)
            case q300 => exact fun _ _ _ h => h
            case w300 => rfl
            case y300 =>
              intro w hSw
              (try dsimp only at hSw)
              obtain ⟨s0, s1, s2, s3, s4, s5, s6⟩ := hSw
              go_simp
              try with_reducible rfl
            try simp only [Act.put, List.setIfInBounds_toArray, List.set_cons_zero, List.set_cons_succ]
            refine wpAnyH_take (i := 13) (oi := ?oi301) (v := ?vi301) ?h301 (by kernel_rfl) (by kernel_rfl) (by kernel_rfl) ?q301 (Or.inl ⟨?w301, ?y301⟩) hHeld ?r301
            case h301 => first | (simp only [List.getElem?_toArray, List.getElem?_cons_zero, List.getElem?_cons_succ]; done) | (simp only [List.getElem?_toArray, List.getElem?_cons_zero, List.getElem?_cons_succ]; exact rfl)
            case q301 => exact fun _ _ _ h => h
            case w301 => rfl
            case y301 =>
              intro w hSw
              (try dsimp only at hSw)
              obtain ⟨s0, s1, s2, s3, s4, s5, s6⟩ := hSw
              go_simp
              try with_reducible rfl
            try simp only [Act.put, List.setIfInBounds_toArray, List.set_cons_zero, List.set_cons_succ]
            refine wpAnyH_take (i := 14) (oi := ?oi302) (v := ?vi302) ?h302 (by kernel_rfl) (by kernel_rfl) (by kernel_rfl) ?q302 (Or.inl ⟨?w302, ?y302⟩) hHeld ?r302
            case h302 => first | (simp only [List.getElem?_toArray, List.getElem?_cons_zero, List.getElem?_cons_succ]; done) | (simp only [List.getElem?_toArray, List.getElem?_cons_zero, List.getElem?_cons_succ]; exact rfl)
            case q302 => exact fun _ _ _ h => h
            case w302 => rfl
            case y302 =>
              intro w hSw
              (try dsimp only at hSw)
              obtain ⟨s0, s1, s2, s3, s4, s5, s6⟩ := hSw
              go_simp
              try with_reducible rfl
            try simp only [Act.put, List.setIfInBounds_toArray, List.set_cons_zero, List.set_cons_succ]
            refine wpAnyH_take (i := 15) (oi := ?oi303) (v := ?vi303) ?h303 (by kernel_rfl) (by kernel_rfl) (by kernel_rfl) ?q303 (Or.inl ⟨?w303, ?y303⟩) hHeld ?r303
            case h303 => first | (simp only [List.getElem?_toArray, List.getElem?_cons_zero, List.getElem?_cons_succ]; done) | (simp only [List.getElem?_toArray, List.getElem?_cons_zero, List.getElem?_cons_succ]; exact rfl)
            case q303 => exact fun _ _ _ h => h
            case w303 => rfl
            case y303 =>
              intro w hSw
              (try dsimp only at hSw)
              obtain ⟨s0, s1, s2, s3, s4, s5, s6⟩ := hSw
              go_simp
              try with_reducible rfl
            try simp only [Act.put, List.setIfInBounds_toArray, List.set_cons_zero, List.set_cons_succ]
            refine wpAnyH_take (i := 16) (oi := ?oi304) (v := ?vi304) ?h304 (by kernel_rfl) (by kernel_rfl) (by kernel_rfl) ?q304 (Or.inl ⟨?w304, ?y304⟩) hHeld ?r304
            case h304 => first | (simp only [List.getElem?_toArray, List.getElem?_cons_zero, List.getElem?_cons_succ]; done) | (simp only [List.getElem?_toArray, List.getElem?_cons_zero, List.getElem?_cons_succ]; exact rfl)
            case q304 => exact fun _ _ _ h => h
            case w304 => rfl
            case y304 =>
              intro w hSw
              (try dsimp only at hSw)
              obtain ⟨s0, s1, s2, s3, s4, s5, s6⟩ := hSw
              go_simp
              try with_reducible rfl
            try simp only [Act.put, List.setIfInBounds_toArray, List.set_cons_zero, List.set_cons_succ]
            refine wpAnyH_take (i := 17) (oi := ?oi305) (v := ?vi305) ?h305 (by kernel_rfl) (by kernel_rfl) (by kernel_rfl) ?q305 (Or.inl ⟨?w305, ?y305⟩) hHeld ?r305
            case h305 => first | (simp only [List.getElem?_toArray, List.getElem?_cons_zero, List.getElem?_cons_succ]; done) | (simp only [List.getElem?_toArray, List.getElem?_cons_zero, List.getElem?_cons_succ]; exact rfl)
            case q305 => exact fun _ _ _ h => h
            case w305 => rfl
            case y305 =>
              intro w hSw
              (try dsimp only at hSw)
              obtain ⟨s0, s1, s2, s3, s4, s5, s6⟩ := hSw
              go_simp
              try with_reducible rfl
            try simp only [Act.put, List.setIfInBounds_toArray, List.set_cons_zero, List.set_cons_succ]
            refine wpAnyH_take (i := 18) (oi := ?oi306) (v := ?vi306) ?h306 (by kernel_rfl) (by kernel_rfl) (by kernel_rfl) ?q306 (Or.inl ⟨?w306, ?y306⟩) hHeld ?r306
            case h306 => first | (simp only [List.getElem?_toArray, List.getElem?_cons_zero, List.getElem?_cons_succ]; done) | (simp only [List.getElem?_toArray, List.getElem?_cons_zero, List.getElem?_cons_succ]; exact rfl)
            case q306 => exact fun _ _ _ h => h
            case w306 => rfl
            case y306 =>
              intro w hSw
              (try dsimp only at hSw)
              obtain ⟨s0, s1, s2, s3, s4, s5, s6⟩ := hSw
              go_simp
              try with_reducible rfl
            try simp only [Act.put, List.setIfInBounds_toArray, List.set_cons_zero, List.set_cons_succ]
            refine wpAnyH_done (by kernel_rfl) ?_ _
            have hkn := HK.out
            go_wp2
            go_roundw
            case rel => exact ⟨k + 1, by have := HK.out; omega, by go_num, ⟨HR0.out.then F.out, HNX.out⟩⟩
            case measure => have := HK.out; simp [RowKit.intOf]; omega
    · have hke : k = n := by omega
      subst hke
      have q3 : ((k : Int) < (k : Int)) = False := eq_false (by omega)
      have t1 := hR.out.1.cell HB0.out.2 (fun h => h)
      clear hlt hk
      go_wp2_with fail
      have HN9 := Lib.hid (chkN_all (fun j hj => hR.out.2 j hj (by rw [HX.out.1]; exact hj)))
      have HNoT := Lib.hid (show ∀ i (hi : i < s.turns.length), ¬ ChkT s.turns i hi → r = false from fun i hi h => by rw [← HT.out.2.2.2]; exact rightS_false (fun c => h (chkT_right c i hi)))
      obtain ⟨W1, hW1⟩ : ∃ W1, W1 = wr := ⟨_, rfl⟩
      have HF1 := Lib.hid (HF0.out.then hR.out.1)
      have T1 := Lib.hid t1
      rw [← hW1] at HF1 T1 ⊢
      clear hW1 hR t1 HB0
      go_loopw [38] (fun i wr2 => ∃ k : Nat, k ≤ m ∧ i = .int .i64 k ∧ Hid (Fp Non W1 wr2 ∧ ∀ j (hj : j < s.turns.length), j < k → ChkT s.turns j hj)) (fun i _ => m - (RowKit.intOf i).toNat)
      case atStart => exact ⟨0, Nat.zero_le _, rfl, Fp.refl _ _, fun j _ h => absurd h (Nat.not_lt_zero j)⟩
      case round =>
        obtain ⟨k, hk, rfl, hR⟩ := hrel
        rename World => wr2
        by_cases hlt : k < m
        · have hkl : k < s.turns.length := by rw [← HT.out.1]; exact hlt
          obtain ⟨g, o, cap', e, _, _, _, hcell⟩ := HT.out.2.1.at (by omega)
          injection e with e1 e2 e3
          subst e1 e3
          have f0 := HF1.out.then hR.out.1
          have hnd := (hcell k hkl).keep f0 (fun h => h)
          obtain ⟨x, hx⟩ : ∃ x, x = s.turns[k] := ⟨_, rfl⟩
          rw [← hx] at hnd
          have c0 := hnd.c0; have c1 := hnd.c1
          unfold strV at c0
          have q3 : ((k : Int) < (m : Int)) = True := eq_true (by omega)
          have q4 : (k < m) = True := eq_true hlt
          have hxp : x.dir.length ≤ 140737488355328 := HT.out.2.2.1 x (by rw [hx]; exact List.getElem_mem hkl)
          have hri := fun w => Right_g x.dir w (sz_of hxp (by omega))
          have hwi := fun w b h => withinP_d x.next 1 10000 w b h
          have hbb := bxT wr2 x
          have HB := Lib.hid (And.intro (((Fp.refl Non wr2).alloc (Obj.cells #[.string (B x.dir), .int .i64 x.next] TU)).drew) hbb)
          have HW := Lib.hid (f0)
          have HR0 := Lib.hid hR.out.1
          have HK := Lib.hid hlt
          have hst : (wr2.alloc (Obj.cells #[.string (B x.dir), .int .i64 x.next] TU)).drew.cell? ⟨w.heap.size, 1, none⟩ = some (.slice (some ⟨g, o, none⟩) m capt) := HB.out.1.cell (hR.out.1.cell T1.out (fun h => h)) (fun h => h)
          have hpc : ∀ k', k' < s.turns.length → ∃ z, (wr2.alloc (Obj.cells #[.string (B x.dir), .int .i64 x.next] TU)).drew.cell? ⟨g, o + k' * 2, none⟩ = some (.string (B z)) ∧ ∀ h : k' < s.turns.length, z = (s.turns[k']).dir := fun k' h => ⟨_, HB.out.1.cell ((hcell k' h).keep f0 (fun h => h)).c0 (fun h => h), fun _ => rfl⟩
          have hold := hR.out.2
          obtain ⟨sp, hsp⟩ : ∃ b, (split x.dir).isSome = b := ⟨_, rfl⟩
          obtain ⟨b1, hb1⟩ : ∃ b, decide (1 ≤ x.next ∧ x.next ≤ 10000) = b := ⟨_, rfl⟩
          have hfit : tfit x = (sp && b1) := by rw [← hsp, ← hb1]; rfl
          have hstep : (sp && b1) = true → (0 < k → ∀ h : k - 1 < s.turns.length, lt (s.turns[k-1]).dir x.dir = true) → ∀ j (hj : j < s.turns.length), j < k + 1 → ChkT s.turns j hj := fun a b j hj hjk => by
            rcases Nat.lt_or_eq_of_le (show j ≤ k by omega) with e | e
            · exact hold j hj e
            · subst e; exact ⟨by rw [← hx, hfit]; exact a, fun h0 h1 => by rw [← hx]; exact b h0 h1⟩
          have hno : ((sp && b1) = false ∨ (0 < k ∧ ∃ h : k - 1 < s.turns.length, lt (s.turns[k-1]).dir x.dir = false)) → r = false := fun h => HNoT.out k hkl (fun c => by
            rcases h with h | ⟨h0, h1, h2⟩
            · have := c.1; rw [← hx, hfit, h] at this; cases this
            · have := c.2 h0 h1; rw [← hx, h2] at this; cases this)
          rw [hsp] at hri
          have HRI := Lib.hid hri
          have HWI := Lib.hid (fun w => hwi w b1 hb1)
          have HST := Lib.hid (And.intro hstep (And.intro hno (And.intro hst (And.intro hpc hkl))))
          clear hri hwi hbb hst hpc hold hstep hno hfit hsp hb1 hxp hx hnd hcell f0
          cases sp with
          | false =>
            have HNO := Lib.hid (HST.out.2.1 (.inl rfl))
            clear hkl hlt hk
            go_wp2_with fail
            refine wp_region_held_drew (S := (fun w' => w'.cell? ⟨wr2.heap.size, 0, none⟩ = some (.string (B x.dir)) ∧ w'.cell? ⟨wr2.heap.size, 1, none⟩ = some (.int .i64 x.next))) (by kernel_rfl) ?_ (fun hHeld => ?_)
            · exact ⟨HB.out.2.c0, HB.out.2.c1⟩
            refine wpAnyH_take (i := 0) (oi := ?oi101) (v := ?vi101) ?h101 (by kernel_rfl) (by kernel_rfl) (by kernel_rfl) ?q101 (Or.inl ⟨?w101, ?y101⟩) hHeld ?r101
            case h101 => first | (simp only [List.getElem?_toArray, List.getElem?_cons_zero]; done) | (simp only [List.getElem?_toArray, List.getElem?_cons_zero]; exact rfl)
            case q101 => exact fun _ _ _ h => h
            case w101 => rfl
            case y101 =>
              intro w hSw
              (try dsimp only at hSw)
              obtain ⟨s0, s1⟩ := hSw
              go_simp
              try with_reducible rfl
            try simp only [Act.put, List.setIfInBounds_toArray, List.set_cons_zero, List.set_cons_succ]
            refine wpAnyH_take (i := 1) (oi := ?oi102) (v := ?vi102) ?h102 (by kernel_rfl) (by kernel_rfl) (by kernel_rfl) ?q102 (Or.inl ⟨?w102, ?y102⟩) hHeld ?r102
            case h102 => first | (simp only [List.getElem?_toArray, List.getElem?_cons_zero, List.getElem?_cons_succ]; done) | (simp only [List.getElem?_toArray, List.getElem?_cons_zero, List.getElem?_cons_succ]; exact rfl)
            case q102 => exact fun _ _ _ h => h
            case w102 => rfl
            case y102 =>
              intro w hSw
              (try dsimp only at hSw)
              obtain ⟨s0, s1⟩ := hSw
              go_simp
              try with_reducible rfl
            try simp only [Act.put, List.setIfInBounds_toArray, List.set_cons_zero, List.set_cons_succ]
            refine wpAnyH_ready (rs := [2]) (by kernel_rfl) (by simp) ?_
            refine AllReadyH.cons (o := ?ob103) ?hb103 (fun K hK => ?_) AllReadyH.nil
            case hb103 => first | (simp only [List.getElem?_toArray, List.getElem?_cons_zero, List.getElem?_cons_succ]; done) | (simp only [List.getElem?_toArray, List.getElem?_cons_zero, List.getElem?_cons_succ]; exact rfl)
            go_simp
            go_at_call 50
            refine (HRI.out _).mono ?_
            rintro e w1 ⟨rfl, f1⟩
            have b1 := HB.out.2.keep f1.fp (fun h => h)
            have HS1 := Lib.hid (And.intro b1.c0 b1.c1)
            have F := Lib.hid (HB.out.1.then f1.fp)
            clear f1 b1
            go_wp2_with fail
            refine hK.out _ _ HS1.out (fun hHeld => ?_)
            clear hK K
            try simp only [Act.put, List.setIfInBounds_toArray, List.set_cons_zero, List.set_cons_succ]
            refine wpAnyH_take (i := 3) (oi := ?oi104) (v := ?vi104) ?h104 (by kernel_rfl) (by kernel_rfl) (by kernel_rfl) ?q104 (Or.inl ⟨?w104, ?y104⟩) hHeld ?r104
            case h104 => first | (simp only [List.getElem?_toArray, List.getElem?_cons_zero, List.getElem?_cons_succ]; done) | (simp only [List.getElem?_toArray, List.getElem?_cons_zero, List.getElem?_cons_succ]; exact rfl)
            case q104 => exact fun _ _ _ h => h
            case w104 => rfl
            case y104 =>
              intro w hSw
              (try dsimp only at hSw)
              obtain ⟨s0, s1⟩ := hSw
              go_simp
              try with_reducible rfl
            try simp only [Act.put, List.setIfInBounds_toArray, List.set_cons_zero, List.set_cons_succ]
            refine wpAnyH_take (i := 4) (oi := ?oi105) (v := ?vi105) ?h105 (by kernel_rfl) (by kernel_rfl) (by kernel_rfl) ?q105 (Or.inl ⟨?w105, ?y105⟩) hHeld ?r105
            case h105 => first | (simp only [List.getElem?_toArray, List.getElem?_cons_zero, List.getElem?_cons_succ]; done) | (simp only [List.getElem?_toArray, List.getElem?_cons_zero, List.getElem?_cons_succ]; exact rfl)
            case q105 => exact fun _ _ _ h => h
            case w105 => rfl
            case y105 =>
              intro w hSw
              (try dsimp only at hSw)
              obtain ⟨s0, s1⟩ := hSw
              go_simp
              try with_reducible rfl
            try simp only [Act.put, List.setIfInBounds_toArray, List.set_cons_zero, List.set_cons_succ]
            refine wpAnyH_take (i := 5) (oi := ?oi106) (v := undef) ?h106 (by kernel_rfl) (by kernel_rfl) (by kernel_rfl) ?q106 (Or.inr ⟨?w106, rfl⟩) hHeld ?r106
            case h106 => first | (simp only [List.getElem?_toArray, List.getElem?_cons_zero, List.getElem?_cons_succ]; done) | (simp only [List.getElem?_toArray, List.getElem?_cons_zero, List.getElem?_cons_succ]; exact rfl)
            case q106 => exact fun _ _ _ h => h
            case w106 => rfl
            try simp only [Act.put, List.setIfInBounds_toArray, List.set_cons_zero, List.set_cons_succ]
            refine wpAnyH_take (i := 6) (oi := ?oi107) (v := undef) ?h107 (by kernel_rfl) (by kernel_rfl) (by kernel_rfl) ?q107 (Or.inr ⟨?w107, rfl⟩) hHeld ?r107
            case h107 => first | (simp only [List.getElem?_toArray, List.getElem?_cons_zero, List.getElem?_cons_succ]; done) | (simp only [List.getElem?_toArray, List.getElem?_cons_zero, List.getElem?_cons_succ]; exact rfl)
            case q107 => exact fun _ _ _ h => h
            case w107 => rfl
            try simp only [Act.put, List.setIfInBounds_toArray, List.set_cons_zero, List.set_cons_succ]
            refine wpAnyH_take (i := 7) (oi := ?oi108) (v := undef) ?h108 (by kernel_rfl) (by kernel_rfl) (by kernel_rfl) ?q108 (Or.inr ⟨?w108, rfl⟩) hHeld ?r108
            case h108 => first | (simp only [List.getElem?_toArray, List.getElem?_cons_zero, List.getElem?_cons_succ]; done) | (simp only [List.getElem?_toArray, List.getElem?_cons_zero, List.getElem?_cons_succ]; exact rfl)
            case q108 => exact fun _ _ _ h => h
            case w108 => rfl
            try simp only [Act.put, List.setIfInBounds_toArray, List.set_cons_zero, List.set_cons_succ]
            refine wpAnyH_take (i := 8) (oi := ?oi109) (v := undef) ?h109 (by kernel_rfl) (by kernel_rfl) (by kernel_rfl) ?q109 (Or.inr ⟨?w109, rfl⟩) hHeld ?r109
            case h109 => first | (simp only [List.getElem?_toArray, List.getElem?_cons_zero, List.getElem?_cons_succ]; done) | (simp only [List.getElem?_toArray, List.getElem?_cons_zero, List.getElem?_cons_succ]; exact rfl)
            case q109 => exact fun _ _ _ h => h
            case w109 => rfl
            try simp only [Act.put, List.setIfInBounds_toArray, List.set_cons_zero, List.set_cons_succ]
            refine wpAnyH_take (i := 9) (oi := ?oi110) (v := ?vi110) ?h110 (by kernel_rfl) (by kernel_rfl) (by kernel_rfl) ?q110 (Or.inl ⟨?w110, ?y110⟩) hHeld ?r110
            case h110 => first | (simp only [List.getElem?_toArray, List.getElem?_cons_zero, List.getElem?_cons_succ]; done) | (simp only [List.getElem?_toArray, List.getElem?_cons_zero, List.getElem?_cons_succ]; exact rfl)
            case q110 => exact fun _ _ _ h => h
            case w110 => rfl
            case y110 =>
              intro w hSw
              (try dsimp only at hSw)
              obtain ⟨s0, s1⟩ := hSw
              go_simp
              try with_reducible rfl
            try simp only [Act.put, List.setIfInBounds_toArray, List.set_cons_zero, List.set_cons_succ]
            refine wpAnyH_take (i := 10) (oi := ?oi111) (v := ?vi111) ?h111 (by kernel_rfl) (by kernel_rfl) (by kernel_rfl) ?q111 (Or.inl ⟨?w111, ?y111⟩) hHeld ?r111
            case h111 => first | (simp only [List.getElem?_toArray, List.getElem?_cons_zero, List.getElem?_cons_succ]; done) | (simp only [List.getElem?_toArray, List.getElem?_cons_zero, List.getElem?_cons_succ]; exact rfl)
            case q111 => exact fun _ _ _ h => h
            case w111 => rfl
            case y111 =>
              intro w hSw
              (try dsimp only at hSw)
              obtain ⟨s0, s1⟩ := hSw
              go_simp
              try with_reducible rfl
            try simp only [Act.put, List.setIfInBounds_toArray, List.set_cons_zero, List.set_cons_succ]
            refine wpAnyH_take (i := 11) (oi := ?oi112) (v := undef) ?h112 (by kernel_rfl) (by kernel_rfl) (by kernel_rfl) ?q112 (Or.inr ⟨?w112, rfl⟩) hHeld ?r112
            case h112 => first | (simp only [List.getElem?_toArray, List.getElem?_cons_zero, List.getElem?_cons_succ]; done) | (simp only [List.getElem?_toArray, List.getElem?_cons_zero, List.getElem?_cons_succ]; exact rfl)
            case q112 => exact fun _ _ _ h => h
            case w112 => rfl
            try simp only [Act.put, List.setIfInBounds_toArray, List.set_cons_zero, List.set_cons_succ]
            refine wpAnyH_take (i := 12) (oi := ?oi113) (v := undef) ?h113 (by kernel_rfl) (by kernel_rfl) (by kernel_rfl) ?q113 (Or.inr ⟨?w113, rfl⟩) hHeld ?r113
            case h113 => first | (simp only [List.getElem?_toArray, List.getElem?_cons_zero, List.getElem?_cons_succ]; done) | (simp only [List.getElem?_toArray, List.getElem?_cons_zero, List.getElem?_cons_succ]; exact rfl)
            case q113 => exact fun _ _ _ h => h
            case w113 => rfl
            try simp only [Act.put, List.setIfInBounds_toArray, List.set_cons_zero, List.set_cons_succ]
            refine wpAnyH_take (i := 13) (oi := ?oi114) (v := undef) ?h114 (by kernel_rfl) (by kernel_rfl) (by kernel_rfl) ?q114 (Or.inr ⟨?w114, rfl⟩) hHeld ?r114
            case h114 => first | (simp only [List.getElem?_toArray, List.getElem?_cons_zero, List.getElem?_cons_succ]; done) | (simp only [List.getElem?_toArray, List.getElem?_cons_zero, List.getElem?_cons_succ]; exact rfl)
            case q114 => exact fun _ _ _ h => h
            case w114 => rfl
            try simp only [Act.put, List.setIfInBounds_toArray, List.set_cons_zero, List.set_cons_succ]
            refine wpAnyH_take (i := 14) (oi := ?oi115) (v := undef) ?h115 (by kernel_rfl) (by kernel_rfl) (by kernel_rfl) ?q115 (Or.inr ⟨?w115, rfl⟩) hHeld ?r115
            case h115 => first | (simp only [List.getElem?_toArray, List.getElem?_cons_zero, List.getElem?_cons_succ]; done) | (simp only [List.getElem?_toArray, List.getElem?_cons_zero, List.getElem?_cons_succ]; exact rfl)
            case q115 => exact fun _ _ _ h => h
            case w115 => rfl
            try simp only [Act.put, List.setIfInBounds_toArray, List.set_cons_zero, List.set_cons_succ]
            refine wpAnyH_take (i := 15) (oi := ?oi116) (v := undef) ?h116 (by kernel_rfl) (by kernel_rfl) (by kernel_rfl) ?q116 (Or.inr ⟨?w116, rfl⟩) hHeld ?r116
            case h116 => first | (simp only [List.getElem?_toArray, List.getElem?_cons_zero, List.getElem?_cons_succ]; done) | (simp only [List.getElem?_toArray, List.getElem?_cons_zero, List.getElem?_cons_succ]; exact rfl)
            case q116 => exact fun _ _ _ h => h
            case w116 => rfl
            try simp only [Act.put, List.setIfInBounds_toArray, List.set_cons_zero, List.set_cons_succ]
            refine wpAnyH_take (i := 16) (oi := ?oi117) (v := undef) ?h117 (by kernel_rfl) (by kernel_rfl) (by kernel_rfl) ?q117 (Or.inr ⟨?w117, rfl⟩) hHeld ?r117
            case h117 => first | (simp only [List.getElem?_toArray, List.getElem?_cons_zero, List.getElem?_cons_succ]; done) | (simp only [List.getElem?_toArray, List.getElem?_cons_zero, List.getElem?_cons_succ]; exact rfl)
            case q117 => exact fun _ _ _ h => h
            case w117 => rfl
            try simp only [Act.put, List.setIfInBounds_toArray, List.set_cons_zero, List.set_cons_succ]
            refine wpAnyH_take (i := 17) (oi := ?oi118) (v := undef) ?h118 (by kernel_rfl) (by kernel_rfl) (by kernel_rfl) ?q118 (Or.inr ⟨?w118, rfl⟩) hHeld ?r118
            case h118 => first | (simp only [List.getElem?_toArray, List.getElem?_cons_zero, List.getElem?_cons_succ]; done) | (simp only [List.getElem?_toArray, List.getElem?_cons_zero, List.getElem?_cons_succ]; exact rfl)
            case q118 => exact fun _ _ _ h => h
            case w118 => rfl
            try simp only [Act.put, List.setIfInBounds_toArray, List.set_cons_zero, List.set_cons_succ]
            refine wpAnyH_take (i := 18) (oi := ?oi119) (v := undef) ?h119 (by kernel_rfl) (by kernel_rfl) (by kernel_rfl) ?q119 (Or.inr ⟨?w119, rfl⟩) hHeld ?r119
            case h119 => first | (simp only [List.getElem?_toArray, List.getElem?_cons_zero, List.getElem?_cons_succ]; done) | (simp only [List.getElem?_toArray, List.getElem?_cons_zero, List.getElem?_cons_succ]; exact rfl)
            case q119 => exact fun _ _ _ h => h
            case w119 => rfl
            try simp only [Act.put, List.setIfInBounds_toArray, List.set_cons_zero, List.set_cons_succ]
            refine wpAnyH_take (i := 19) (oi := ?oi120) (v := undef) ?h120 (by kernel_rfl) (by kernel_rfl) (by kernel_rfl) ?q120 (Or.inr ⟨?w120, rfl⟩) hHeld ?r120
            case h120 => first | (simp only [List.getElem?_toArray, List.getElem?_cons_zero, List.getElem?_cons_succ]; done) | (simp only [List.getElem?_toArray, List.getElem?_cons_zero, List.getElem?_cons_succ]; exact rfl)
            case q120 => exact fun _ _ _ h => h
            case w120 => rfl
            try simp only [Act.put, List.setIfInBounds_toArray, List.set_cons_zero, List.set_cons_succ]
            refine wpAnyH_take (i := 20) (oi := ?oi121) (v := undef) ?h121 (by kernel_rfl) (by kernel_rfl) (by kernel_rfl) ?q121 (Or.inr ⟨?w121, rfl⟩) hHeld ?r121
            case h121 => first | (simp only [List.getElem?_toArray, List.getElem?_cons_zero, List.getElem?_cons_succ]; done) | (simp only [List.getElem?_toArray, List.getElem?_cons_zero, List.getElem?_cons_succ]; exact rfl)
            case q121 => exact fun _ _ _ h => h
            case w121 => rfl
            try simp only [Act.put, List.setIfInBounds_toArray, List.set_cons_zero, List.set_cons_succ]
            refine wpAnyH_take (i := 21) (oi := ?oi122) (v := undef) ?h122 (by kernel_rfl) (by kernel_rfl) (by kernel_rfl) ?q122 (Or.inr ⟨?w122, rfl⟩) hHeld ?r122
            case h122 => first | (simp only [List.getElem?_toArray, List.getElem?_cons_zero, List.getElem?_cons_succ]; done) | (simp only [List.getElem?_toArray, List.getElem?_cons_zero, List.getElem?_cons_succ]; exact rfl)
            case q122 => exact fun _ _ _ h => h
            case w122 => rfl
            try simp only [Act.put, List.setIfInBounds_toArray, List.set_cons_zero, List.set_cons_succ]
            refine wpAnyH_take (i := 22) (oi := ?oi123) (v := undef) ?h123 (by kernel_rfl) (by kernel_rfl) (by kernel_rfl) ?q123 (Or.inr ⟨?w123, rfl⟩) hHeld ?r123
            case h123 => first | (simp only [List.getElem?_toArray, List.getElem?_cons_zero, List.getElem?_cons_succ]; done) | (simp only [List.getElem?_toArray, List.getElem?_cons_zero, List.getElem?_cons_succ]; exact rfl)
            case q123 => exact fun _ _ _ h => h
            case w123 => rfl
            try simp only [Act.put, List.setIfInBounds_toArray, List.set_cons_zero, List.set_cons_succ]
            refine wpAnyH_take (i := 23) (oi := ?oi124) (v := undef) ?h124 (by kernel_rfl) (by kernel_rfl) (by kernel_rfl) ?q124 (Or.inr ⟨?w124, rfl⟩) hHeld ?r124
            case h124 => first | (simp only [List.getElem?_toArray, List.getElem?_cons_zero, List.getElem?_cons_succ]; done) | (simp only [List.getElem?_toArray, List.getElem?_cons_zero, List.getElem?_cons_succ]; exact rfl)
            case q124 => exact fun _ _ _ h => h
            case w124 => rfl
            try simp only [Act.put, List.setIfInBounds_toArray, List.set_cons_zero, List.set_cons_succ]
            refine wpAnyH_take (i := 24) (oi := ?oi125) (v := undef) ?h125 (by kernel_rfl) (by kernel_rfl) (by kernel_rfl) ?q125 (Or.inr ⟨?w125, rfl⟩) hHeld ?r125
            case h125 => first | (simp only [List.getElem?_toArray, List.getElem?_cons_zero, List.getElem?_cons_succ]; done) | (simp only [List.getElem?_toArray, List.getElem?_cons_zero, List.getElem?_cons_succ]; exact rfl)
            case q125 => exact fun _ _ _ h => h
            case w125 => rfl
            try simp only [Act.put, List.setIfInBounds_toArray, List.set_cons_zero, List.set_cons_succ]
            refine wpAnyH_take (i := 25) (oi := ?oi126) (v := ?vi126) ?h126 (by kernel_rfl) (by kernel_rfl) (by kernel_rfl) ?q126 (Or.inl ⟨?w126, ?y126⟩) hHeld ?r126
            case h126 => first | (simp only [List.getElem?_toArray, List.getElem?_cons_zero, List.getElem?_cons_succ]; done) | (simp only [List.getElem?_toArray, List.getElem?_cons_zero, List.getElem?_cons_succ]; exact rfl)
            case q126 => exact fun _ _ _ h => h
            case w126 => rfl
            case y126 =>
              intro w hSw
              (try dsimp only at hSw)
              obtain ⟨s0, s1⟩ := hSw
              go_simp
              try with_reducible rfl
            try simp only [Act.put, List.setIfInBounds_toArray, List.set_cons_zero, List.set_cons_succ]
            refine wpAnyH_done (by kernel_rfl) ?_ _
            go_wp2
            go_ret
            exact ⟨ret_bool HNO.out.symm, HW.out.then F.out⟩
          | true =>
            cases b1 with
            | false =>
              have HNO := Lib.hid (HST.out.2.1 (.inl rfl))
              clear hkl hlt hk
              go_wp2_with fail
              refine wp_region_held_drew (S := (fun w' => w'.cell? ⟨wr2.heap.size, 0, none⟩ = some (.string (B x.dir)) ∧ w'.cell? ⟨wr2.heap.size, 1, none⟩ = some (.int .i64 x.next))) (by kernel_rfl) ?_ (fun hHeld => ?_)
              · exact ⟨HB.out.2.c0, HB.out.2.c1⟩
              refine wpAnyH_take (i := 0) (oi := ?oi127) (v := ?vi127) ?h127 (by kernel_rfl) (by kernel_rfl) (by kernel_rfl) ?q127 (Or.inl ⟨?w127, ?y127⟩) hHeld ?r127
              case h127 => first | (simp only [List.getElem?_toArray, List.getElem?_cons_zero]; done) | (simp only [List.getElem?_toArray, List.getElem?_cons_zero]; exact rfl)
              case q127 => exact fun _ _ _ h => h
              case w127 => rfl
              case y127 =>
                intro w hSw
                (try dsimp only at hSw)
                obtain ⟨s0, s1⟩ := hSw
                go_simp
                try with_reducible rfl
              try simp only [Act.put, List.setIfInBounds_toArray, List.set_cons_zero, List.set_cons_succ]
              refine wpAnyH_take (i := 1) (oi := ?oi128) (v := ?vi128) ?h128 (by kernel_rfl) (by kernel_rfl) (by kernel_rfl) ?q128 (Or.inl ⟨?w128, ?y128⟩) hHeld ?r128
              case h128 => first | (simp only [List.getElem?_toArray, List.getElem?_cons_zero, List.getElem?_cons_succ]; done) | (simp only [List.getElem?_toArray, List.getElem?_cons_zero, List.getElem?_cons_succ]; exact rfl)
              case q128 => exact fun _ _ _ h => h
              case w128 => rfl
              case y128 =>
                intro w hSw
                (try dsimp only at hSw)
                obtain ⟨s0, s1⟩ := hSw
                go_simp
                try with_reducible rfl
              try simp only [Act.put, List.setIfInBounds_toArray, List.set_cons_zero, List.set_cons_succ]
              refine wpAnyH_ready (rs := [2]) (by kernel_rfl) (by simp) ?_
              refine AllReadyH.cons (o := ?ob129) ?hb129 (fun K hK => ?_) AllReadyH.nil
              case hb129 => first | (simp only [List.getElem?_toArray, List.getElem?_cons_zero, List.getElem?_cons_succ]; done) | (simp only [List.getElem?_toArray, List.getElem?_cons_zero, List.getElem?_cons_succ]; exact rfl)
              go_simp
              go_at_call 50
              refine (HRI.out _).mono ?_
              rintro e w1 ⟨rfl, f1⟩
              have b1 := HB.out.2.keep f1.fp (fun h => h)
              have HS1 := Lib.hid (And.intro b1.c0 b1.c1)
              have F := Lib.hid (HB.out.1.then f1.fp)
              clear f1 b1
              go_wp2_with fail
              refine hK.out _ _ HS1.out (fun hHeld => ?_)
              clear hK K
              try simp only [Act.put, List.setIfInBounds_toArray, List.set_cons_zero, List.set_cons_succ]
              refine wpAnyH_take (i := 3) (oi := ?oi130) (v := ?vi130) ?h130 (by kernel_rfl) (by kernel_rfl) (by kernel_rfl) ?q130 (Or.inl ⟨?w130, ?y130⟩) hHeld ?r130
              case h130 => first | (simp only [List.getElem?_toArray, List.getElem?_cons_zero, List.getElem?_cons_succ]; done) | (simp only [List.getElem?_toArray, List.getElem?_cons_zero, List.getElem?_cons_succ]; exact rfl)
              case q130 => exact fun _ _ _ h => h
              case w130 => rfl
              case y130 =>
                intro w hSw
                (try dsimp only at hSw)
                obtain ⟨s0, s1⟩ := hSw
                go_simp
                try with_reducible rfl
              try simp only [Act.put, List.setIfInBounds_toArray, List.set_cons_zero, List.set_cons_succ]
              refine wpAnyH_take (i := 4) (oi := ?oi131) (v := ?vi131) ?h131 (by kernel_rfl) (by kernel_rfl) (by kernel_rfl) ?q131 (Or.inl ⟨?w131, ?y131⟩) hHeld ?r131
              case h131 => first | (simp only [List.getElem?_toArray, List.getElem?_cons_zero, List.getElem?_cons_succ]; done) | (simp only [List.getElem?_toArray, List.getElem?_cons_zero, List.getElem?_cons_succ]; exact rfl)
              case q131 => exact fun _ _ _ h => h
              case w131 => rfl
              case y131 =>
                intro w hSw
                (try dsimp only at hSw)
                obtain ⟨s0, s1⟩ := hSw
                go_simp
                try with_reducible rfl
              try simp only [Act.put, List.setIfInBounds_toArray, List.set_cons_zero, List.set_cons_succ]
              refine wpAnyH_take (i := 5) (oi := ?oi132) (v := ?vi132) ?h132 (by kernel_rfl) (by kernel_rfl) (by kernel_rfl) ?q132 (Or.inl ⟨?w132, ?y132⟩) hHeld ?r132
              case h132 => first | (simp only [List.getElem?_toArray, List.getElem?_cons_zero, List.getElem?_cons_succ]; done) | (simp only [List.getElem?_toArray, List.getElem?_cons_zero, List.getElem?_cons_succ]; exact rfl)
              case q132 => exact fun _ _ _ h => h
              case w132 => rfl
              case y132 =>
                intro w hSw
                (try dsimp only at hSw)
                obtain ⟨s0, s1⟩ := hSw
                go_simp
                try with_reducible rfl
              try simp only [Act.put, List.setIfInBounds_toArray, List.set_cons_zero, List.set_cons_succ]
              refine wpAnyH_take (i := 6) (oi := ?oi133) (v := ?vi133) ?h133 (by kernel_rfl) (by kernel_rfl) (by kernel_rfl) ?q133 (Or.inl ⟨?w133, ?y133⟩) hHeld ?r133
              case h133 => first | (simp only [List.getElem?_toArray, List.getElem?_cons_zero, List.getElem?_cons_succ]; done) | (simp only [List.getElem?_toArray, List.getElem?_cons_zero, List.getElem?_cons_succ]; exact rfl)
              case q133 => exact fun _ _ _ h => h
              case w133 => rfl
              case y133 =>
                intro w hSw
                (try dsimp only at hSw)
                obtain ⟨s0, s1⟩ := hSw
                go_simp
                try with_reducible rfl
              try simp only [Act.put, List.setIfInBounds_toArray, List.set_cons_zero, List.set_cons_succ]
              refine wpAnyH_ready (rs := [7]) (by kernel_rfl) (by simp) ?_
              refine AllReadyH.cons (o := ?ob134) ?hb134 (fun K hK => ?_) AllReadyH.nil
              case hb134 => first | (simp only [List.getElem?_toArray, List.getElem?_cons_zero, List.getElem?_cons_succ]; done) | (simp only [List.getElem?_toArray, List.getElem?_cons_zero, List.getElem?_cons_succ]; exact rfl)
              go_simp
              go_at_call 70
              refine (HWI.out _).mono ?_
              rintro e w2 ⟨rfl, rfl⟩
              go_wp2_with fail
              refine hK.out _ _ HS1.out (fun hHeld => ?_)
              clear hK K
              try simp only [Act.put, List.setIfInBounds_toArray, List.set_cons_zero, List.set_cons_succ]
              refine wpAnyH_take (i := 8) (oi := ?oi135) (v := ?vi135) ?h135 (by kernel_rfl) (by kernel_rfl) (by kernel_rfl) ?q135 (Or.inl ⟨?w135, ?y135⟩) hHeld ?r135
              case h135 => first | (simp only [List.getElem?_toArray, List.getElem?_cons_zero, List.getElem?_cons_succ]; done) | (simp only [List.getElem?_toArray, List.getElem?_cons_zero, List.getElem?_cons_succ]; exact rfl)
              case q135 => exact fun _ _ _ h => h
              case w135 => rfl
              case y135 =>
                intro w hSw
                (try dsimp only at hSw)
                obtain ⟨s0, s1⟩ := hSw
                go_simp
                try with_reducible rfl
              try simp only [Act.put, List.setIfInBounds_toArray, List.set_cons_zero, List.set_cons_succ]
              refine wpAnyH_take (i := 9) (oi := ?oi136) (v := ?vi136) ?h136 (by kernel_rfl) (by kernel_rfl) (by kernel_rfl) ?q136 (Or.inl ⟨?w136, ?y136⟩) hHeld ?r136
              case h136 => first | (simp only [List.getElem?_toArray, List.getElem?_cons_zero, List.getElem?_cons_succ]; done) | (simp only [List.getElem?_toArray, List.getElem?_cons_zero, List.getElem?_cons_succ]; exact rfl)
              case q136 => exact fun _ _ _ h => h
              case w136 => rfl
              case y136 =>
                intro w hSw
                (try dsimp only at hSw)
                obtain ⟨s0, s1⟩ := hSw
                go_simp
                try with_reducible rfl
              try simp only [Act.put, List.setIfInBounds_toArray, List.set_cons_zero, List.set_cons_succ]
              refine wpAnyH_take (i := 10) (oi := ?oi137) (v := ?vi137) ?h137 (by kernel_rfl) (by kernel_rfl) (by kernel_rfl) ?q137 (Or.inl ⟨?w137, ?y137⟩) hHeld ?r137
              case h137 => first | (simp only [List.getElem?_toArray, List.getElem?_cons_zero, List.getElem?_cons_succ]; done) | (simp only [List.getElem?_toArray, List.getElem?_cons_zero, List.getElem?_cons_succ]; exact rfl)
              case q137 => exact fun _ _ _ h => h
              case w137 => rfl
              case y137 =>
                intro w hSw
                (try dsimp only at hSw)
                obtain ⟨s0, s1⟩ := hSw
                go_simp
                try with_reducible rfl
              try simp only [Act.put, List.setIfInBounds_toArray, List.set_cons_zero, List.set_cons_succ]
              refine wpAnyH_take (i := 11) (oi := ?oi138) (v := undef) ?h138 (by kernel_rfl) (by kernel_rfl) (by kernel_rfl) ?q138 (Or.inr ⟨?w138, rfl⟩) hHeld ?r138
              case h138 => first | (simp only [List.getElem?_toArray, List.getElem?_cons_zero, List.getElem?_cons_succ]; done) | (simp only [List.getElem?_toArray, List.getElem?_cons_zero, List.getElem?_cons_succ]; exact rfl)
              case q138 => exact fun _ _ _ h => h
              case w138 => rfl
              try simp only [Act.put, List.setIfInBounds_toArray, List.set_cons_zero, List.set_cons_succ]
              refine wpAnyH_take (i := 12) (oi := ?oi139) (v := undef) ?h139 (by kernel_rfl) (by kernel_rfl) (by kernel_rfl) ?q139 (Or.inr ⟨?w139, rfl⟩) hHeld ?r139
              case h139 => first | (simp only [List.getElem?_toArray, List.getElem?_cons_zero, List.getElem?_cons_succ]; done) | (simp only [List.getElem?_toArray, List.getElem?_cons_zero, List.getElem?_cons_succ]; exact rfl)
              case q139 => exact fun _ _ _ h => h
              case w139 => rfl
              try simp only [Act.put, List.setIfInBounds_toArray, List.set_cons_zero, List.set_cons_succ]
              refine wpAnyH_take (i := 13) (oi := ?oi140) (v := undef) ?h140 (by kernel_rfl) (by kernel_rfl) (by kernel_rfl) ?q140 (Or.inr ⟨?w140, rfl⟩) hHeld ?r140
              case h140 => first | (simp only [List.getElem?_toArray, List.getElem?_cons_zero, List.getElem?_cons_succ]; done) | (simp only [List.getElem?_toArray, List.getElem?_cons_zero, List.getElem?_cons_succ]; exact rfl)
              case q140 => exact fun _ _ _ h => h
              case w140 => rfl
              try simp only [Act.put, List.setIfInBounds_toArray, List.set_cons_zero, List.set_cons_succ]
              refine wpAnyH_take (i := 14) (oi := ?oi141) (v := undef) ?h141 (by kernel_rfl) (by kernel_rfl) (by kernel_rfl) ?q141 (Or.inr ⟨?w141, rfl⟩) hHeld ?r141
              case h141 => first | (simp only [List.getElem?_toArray, List.getElem?_cons_zero, List.getElem?_cons_succ]; done) | (simp only [List.getElem?_toArray, List.getElem?_cons_zero, List.getElem?_cons_succ]; exact rfl)
              case q141 => exact fun _ _ _ h => h
              case w141 => rfl
              try simp only [Act.put, List.setIfInBounds_toArray, List.set_cons_zero, List.set_cons_succ]
              refine wpAnyH_take (i := 15) (oi := ?oi142) (v := undef) ?h142 (by kernel_rfl) (by kernel_rfl) (by kernel_rfl) ?q142 (Or.inr ⟨?w142, rfl⟩) hHeld ?r142
              case h142 => first | (simp only [List.getElem?_toArray, List.getElem?_cons_zero, List.getElem?_cons_succ]; done) | (simp only [List.getElem?_toArray, List.getElem?_cons_zero, List.getElem?_cons_succ]; exact rfl)
              case q142 => exact fun _ _ _ h => h
              case w142 => rfl
              try simp only [Act.put, List.setIfInBounds_toArray, List.set_cons_zero, List.set_cons_succ]
              refine wpAnyH_take (i := 16) (oi := ?oi143) (v := undef) ?h143 (by kernel_rfl) (by kernel_rfl) (by kernel_rfl) ?q143 (Or.inr ⟨?w143, rfl⟩) hHeld ?r143
              case h143 => first | (simp only [List.getElem?_toArray, List.getElem?_cons_zero, List.getElem?_cons_succ]; done) | (simp only [List.getElem?_toArray, List.getElem?_cons_zero, List.getElem?_cons_succ]; exact rfl)
              case q143 => exact fun _ _ _ h => h
              case w143 => rfl
              try simp only [Act.put, List.setIfInBounds_toArray, List.set_cons_zero, List.set_cons_succ]
              refine wpAnyH_take (i := 17) (oi := ?oi144) (v := undef) ?h144 (by kernel_rfl) (by kernel_rfl) (by kernel_rfl) ?q144 (Or.inr ⟨?w144, rfl⟩) hHeld ?r144
              case h144 => first | (simp only [List.getElem?_toArray, List.getElem?_cons_zero, List.getElem?_cons_succ]; done) | (simp only [List.getElem?_toArray, List.getElem?_cons_zero, List.getElem?_cons_succ]; exact rfl)
              case q144 => exact fun _ _ _ h => h
              case w144 => rfl
              try simp only [Act.put, List.setIfInBounds_toArray, List.set_cons_zero, List.set_cons_succ]
              refine wpAnyH_take (i := 18) (oi := ?oi145) (v := undef) ?h145 (by kernel_rfl) (by kernel_rfl) (by kernel_rfl) ?q145 (Or.inr ⟨?w145, rfl⟩) hHeld ?r145
              case h145 => first | (simp only [List.getElem?_toArray, List.getElem?_cons_zero, List.getElem?_cons_succ]; done) | (simp only [List.getElem?_toArray, List.getElem?_cons_zero, List.getElem?_cons_succ]; exact rfl)
              case q145 => exact fun _ _ _ h => h
              case w145 => rfl
              try simp only [Act.put, List.setIfInBounds_toArray, List.set_cons_zero, List.set_cons_succ]
              refine wpAnyH_take (i := 19) (oi := ?oi146) (v := undef) ?h146 (by kernel_rfl) (by kernel_rfl) (by kernel_rfl) ?q146 (Or.inr ⟨?w146, rfl⟩) hHeld ?r146
              case h146 => first | (simp only [List.getElem?_toArray, List.getElem?_cons_zero, List.getElem?_cons_succ]; done) | (simp only [List.getElem?_toArray, List.getElem?_cons_zero, List.getElem?_cons_succ]; exact rfl)
              case q146 => exact fun _ _ _ h => h
              case w146 => rfl
              try simp only [Act.put, List.setIfInBounds_toArray, List.set_cons_zero, List.set_cons_succ]
              refine wpAnyH_take (i := 20) (oi := ?oi147) (v := undef) ?h147 (by kernel_rfl) (by kernel_rfl) (by kernel_rfl) ?q147 (Or.inr ⟨?w147, rfl⟩) hHeld ?r147
              case h147 => first | (simp only [List.getElem?_toArray, List.getElem?_cons_zero, List.getElem?_cons_succ]; done) | (simp only [List.getElem?_toArray, List.getElem?_cons_zero, List.getElem?_cons_succ]; exact rfl)
              case q147 => exact fun _ _ _ h => h
              case w147 => rfl
              try simp only [Act.put, List.setIfInBounds_toArray, List.set_cons_zero, List.set_cons_succ]
              refine wpAnyH_take (i := 21) (oi := ?oi148) (v := undef) ?h148 (by kernel_rfl) (by kernel_rfl) (by kernel_rfl) ?q148 (Or.inr ⟨?w148, rfl⟩) hHeld ?r148
              case h148 => first | (simp only [List.getElem?_toArray, List.getElem?_cons_zero, List.getElem?_cons_succ]; done) | (simp only [List.getElem?_toArray, List.getElem?_cons_zero, List.getElem?_cons_succ]; exact rfl)
              case q148 => exact fun _ _ _ h => h
              case w148 => rfl
              try simp only [Act.put, List.setIfInBounds_toArray, List.set_cons_zero, List.set_cons_succ]
              refine wpAnyH_take (i := 22) (oi := ?oi149) (v := undef) ?h149 (by kernel_rfl) (by kernel_rfl) (by kernel_rfl) ?q149 (Or.inr ⟨?w149, rfl⟩) hHeld ?r149
              case h149 => first | (simp only [List.getElem?_toArray, List.getElem?_cons_zero, List.getElem?_cons_succ]; done) | (simp only [List.getElem?_toArray, List.getElem?_cons_zero, List.getElem?_cons_succ]; exact rfl)
              case q149 => exact fun _ _ _ h => h
              case w149 => rfl
              try simp only [Act.put, List.setIfInBounds_toArray, List.set_cons_zero, List.set_cons_succ]
              refine wpAnyH_take (i := 23) (oi := ?oi150) (v := undef) ?h150 (by kernel_rfl) (by kernel_rfl) (by kernel_rfl) ?q150 (Or.inr ⟨?w150, rfl⟩) hHeld ?r150
              case h150 => first | (simp only [List.getElem?_toArray, List.getElem?_cons_zero, List.getElem?_cons_succ]; done) | (simp only [List.getElem?_toArray, List.getElem?_cons_zero, List.getElem?_cons_succ]; exact rfl)
              case q150 => exact fun _ _ _ h => h
              case w150 => rfl
              try simp only [Act.put, List.setIfInBounds_toArray, List.set_cons_zero, List.set_cons_succ]
              refine wpAnyH_take (i := 24) (oi := ?oi151) (v := undef) ?h151 (by kernel_rfl) (by kernel_rfl) (by kernel_rfl) ?q151 (Or.inr ⟨?w151, rfl⟩) hHeld ?r151
              case h151 => first | (simp only [List.getElem?_toArray, List.getElem?_cons_zero, List.getElem?_cons_succ]; done) | (simp only [List.getElem?_toArray, List.getElem?_cons_zero, List.getElem?_cons_succ]; exact rfl)
              case q151 => exact fun _ _ _ h => h
              case w151 => rfl
              try simp only [Act.put, List.setIfInBounds_toArray, List.set_cons_zero, List.set_cons_succ]
              refine wpAnyH_take (i := 25) (oi := ?oi152) (v := ?vi152) ?h152 (by kernel_rfl) (by kernel_rfl) (by kernel_rfl) ?q152 (Or.inl ⟨?w152, ?y152⟩) hHeld ?r152
              case h152 => first | (simp only [List.getElem?_toArray, List.getElem?_cons_zero, List.getElem?_cons_succ]; done) | (simp only [List.getElem?_toArray, List.getElem?_cons_zero, List.getElem?_cons_succ]; exact rfl)
              case q152 => exact fun _ _ _ h => h
              case w152 => rfl
              case y152 =>
                intro w hSw
                (try dsimp only at hSw)
                obtain ⟨s0, s1⟩ := hSw
                go_simp
                try with_reducible rfl
              try simp only [Act.put, List.setIfInBounds_toArray, List.set_cons_zero, List.set_cons_succ]
              refine wpAnyH_done (by kernel_rfl) ?_ _
              go_wp2
              go_ret
              exact ⟨ret_bool HNO.out.symm, HW.out.then F.out⟩
            | true =>
              rcases Nat.eq_zero_or_pos k with hk0 | hk0
              · subst hk0
                simp only [Nat.zero_mul, Nat.add_zero] at c0 c1
                have HNX := Lib.hid (HST.out.1 rfl (fun h => absurd h (by omega)))
                clear hkl hlt hk
                go_wp2_with fail
                refine wp_region_held_drew (S := (fun w' => w'.cell? ⟨wr2.heap.size, 0, none⟩ = some (.string (B x.dir)) ∧ w'.cell? ⟨wr2.heap.size, 1, none⟩ = some (.int .i64 x.next))) (by kernel_rfl) ?_ (fun hHeld => ?_)
                · exact ⟨HB.out.2.c0, HB.out.2.c1⟩
                refine wpAnyH_take (i := 0) (oi := ?oi153) (v := ?vi153) ?h153 (by kernel_rfl) (by kernel_rfl) (by kernel_rfl) ?q153 (Or.inl ⟨?w153, ?y153⟩) hHeld ?r153
                case h153 => first | (simp only [List.getElem?_toArray, List.getElem?_cons_zero]; done) | (simp only [List.getElem?_toArray, List.getElem?_cons_zero]; exact rfl)
                case q153 => exact fun _ _ _ h => h
                case w153 => rfl
                case y153 =>
                  intro w hSw
                  (try dsimp only at hSw)
                  obtain ⟨s0, s1⟩ := hSw
                  go_simp
                  try with_reducible rfl
                try simp only [Act.put, List.setIfInBounds_toArray, List.set_cons_zero, List.set_cons_succ]
                refine wpAnyH_take (i := 1) (oi := ?oi154) (v := ?vi154) ?h154 (by kernel_rfl) (by kernel_rfl) (by kernel_rfl) ?q154 (Or.inl ⟨?w154, ?y154⟩) hHeld ?r154
                case h154 => first | (simp only [List.getElem?_toArray, List.getElem?_cons_zero, List.getElem?_cons_succ]; done) | (simp only [List.getElem?_toArray, List.getElem?_cons_zero, List.getElem?_cons_succ]; exact rfl)
                case q154 => exact fun _ _ _ h => h
                case w154 => rfl
                case y154 =>
                  intro w hSw
                  (try dsimp only at hSw)
                  obtain ⟨s0, s1⟩ := hSw
                  go_simp
                  try with_reducible rfl
                try simp only [Act.put, List.setIfInBounds_toArray, List.set_cons_zero, List.set_cons_succ]
                refine wpAnyH_ready (rs := [2]) (by kernel_rfl) (by simp) ?_
                refine AllReadyH.cons (o := ?ob155) ?hb155 (fun K hK => ?_) AllReadyH.nil
                case hb155 => first | (simp only [List.getElem?_toArray, List.getElem?_cons_zero, List.getElem?_cons_succ]; done) | (simp only [List.getElem?_toArray, List.getElem?_cons_zero, List.getElem?_cons_succ]; exact rfl)
                go_simp
                go_at_call 50
                refine (HRI.out _).mono ?_
                rintro e w1 ⟨rfl, f1⟩
                have b1 := HB.out.2.keep f1.fp (fun h => h)
                have HS1 := Lib.hid (And.intro b1.c0 b1.c1)
                have F := Lib.hid (HB.out.1.then f1.fp)
                clear f1 b1
                go_wp2_with fail
                refine hK.out _ _ HS1.out (fun hHeld => ?_)
                clear hK K
                try simp only [Act.put, List.setIfInBounds_toArray, List.set_cons_zero, List.set_cons_succ]
                refine wpAnyH_take (i := 3) (oi := ?oi156) (v := ?vi156) ?h156 (by kernel_rfl) (by kernel_rfl) (by kernel_rfl) ?q156 (Or.inl ⟨?w156, ?y156⟩) hHeld ?r156
                case h156 => first | (simp only [List.getElem?_toArray, List.getElem?_cons_zero, List.getElem?_cons_succ]; done) | (simp only [List.getElem?_toArray, List.getElem?_cons_zero, List.getElem?_cons_succ]; exact rfl)
                case q156 => exact fun _ _ _ h => h
                case w156 => rfl
                case y156 =>
                  intro w hSw
                  (try dsimp only at hSw)
                  obtain ⟨s0, s1⟩ := hSw
                  go_simp
                  try with_reducible rfl
                try simp only [Act.put, List.setIfInBounds_toArray, List.set_cons_zero, List.set_cons_succ]
                refine wpAnyH_take (i := 4) (oi := ?oi157) (v := ?vi157) ?h157 (by kernel_rfl) (by kernel_rfl) (by kernel_rfl) ?q157 (Or.inl ⟨?w157, ?y157⟩) hHeld ?r157
                case h157 => first | (simp only [List.getElem?_toArray, List.getElem?_cons_zero, List.getElem?_cons_succ]; done) | (simp only [List.getElem?_toArray, List.getElem?_cons_zero, List.getElem?_cons_succ]; exact rfl)
                case q157 => exact fun _ _ _ h => h
                case w157 => rfl
                case y157 =>
                  intro w hSw
                  (try dsimp only at hSw)
                  obtain ⟨s0, s1⟩ := hSw
                  go_simp
                  try with_reducible rfl
                try simp only [Act.put, List.setIfInBounds_toArray, List.set_cons_zero, List.set_cons_succ]
                refine wpAnyH_take (i := 5) (oi := ?oi158) (v := ?vi158) ?h158 (by kernel_rfl) (by kernel_rfl) (by kernel_rfl) ?q158 (Or.inl ⟨?w158, ?y158⟩) hHeld ?r158
                case h158 => first | (simp only [List.getElem?_toArray, List.getElem?_cons_zero, List.getElem?_cons_succ]; done) | (simp only [List.getElem?_toArray, List.getElem?_cons_zero, List.getElem?_cons_succ]; exact rfl)
                case q158 => exact fun _ _ _ h => h
                case w158 => rfl
                case y158 =>
                  intro w hSw
                  (try dsimp only at hSw)
                  obtain ⟨s0, s1⟩ := hSw
                  go_simp
                  try with_reducible rfl
                try simp only [Act.put, List.setIfInBounds_toArray, List.set_cons_zero, List.set_cons_succ]
                refine wpAnyH_take (i := 6) (oi := ?oi159) (v := ?vi159) ?h159 (by kernel_rfl) (by kernel_rfl) (by kernel_rfl) ?q159 (Or.inl ⟨?w159, ?y159⟩) hHeld ?r159
                case h159 => first | (simp only [List.getElem?_toArray, List.getElem?_cons_zero, List.getElem?_cons_succ]; done) | (simp only [List.getElem?_toArray, List.getElem?_cons_zero, List.getElem?_cons_succ]; exact rfl)
                case q159 => exact fun _ _ _ h => h
                case w159 => rfl
                case y159 =>
                  intro w hSw
                  (try dsimp only at hSw)
                  obtain ⟨s0, s1⟩ := hSw
                  go_simp
                  try with_reducible rfl
                try simp only [Act.put, List.setIfInBounds_toArray, List.set_cons_zero, List.set_cons_succ]
                refine wpAnyH_ready (rs := [7]) (by kernel_rfl) (by simp) ?_
                refine AllReadyH.cons (o := ?ob160) ?hb160 (fun K hK => ?_) AllReadyH.nil
                case hb160 => first | (simp only [List.getElem?_toArray, List.getElem?_cons_zero, List.getElem?_cons_succ]; done) | (simp only [List.getElem?_toArray, List.getElem?_cons_zero, List.getElem?_cons_succ]; exact rfl)
                go_simp
                go_at_call 70
                refine (HWI.out _).mono ?_
                rintro e w2 ⟨rfl, rfl⟩
                go_wp2_with fail
                refine hK.out _ _ HS1.out (fun hHeld => ?_)
                clear hK K
                try simp only [Act.put, List.setIfInBounds_toArray, List.set_cons_zero, List.set_cons_succ]
                refine wpAnyH_take (i := 8) (oi := ?oi161) (v := ?vi161) ?h161 (by kernel_rfl) (by kernel_rfl) (by kernel_rfl) ?q161 (Or.inl ⟨?w161, ?y161⟩) hHeld ?r161
                case h161 => first | (simp only [List.getElem?_toArray, List.getElem?_cons_zero, List.getElem?_cons_succ]; done) | (simp only [List.getElem?_toArray, List.getElem?_cons_zero, List.getElem?_cons_succ]; exact rfl)
                case q161 => exact fun _ _ _ h => h
                case w161 => rfl
                case y161 =>
                  intro w hSw
                  (try dsimp only at hSw)
                  obtain ⟨s0, s1⟩ := hSw
                  go_simp
                  try with_reducible rfl
                try simp only [Act.put, List.setIfInBounds_toArray, List.set_cons_zero, List.set_cons_succ]
                refine wpAnyH_take (i := 9) (oi := ?oi162) (v := ?vi162) ?h162 (by kernel_rfl) (by kernel_rfl) (by kernel_rfl) ?q162 (Or.inl ⟨?w162, ?y162⟩) hHeld ?r162
                case h162 => first | (simp only [List.getElem?_toArray, List.getElem?_cons_zero, List.getElem?_cons_succ]; done) | (simp only [List.getElem?_toArray, List.getElem?_cons_zero, List.getElem?_cons_succ]; exact rfl)
                case q162 => exact fun _ _ _ h => h
                case w162 => rfl
                case y162 =>
                  intro w hSw
                  (try dsimp only at hSw)
                  obtain ⟨s0, s1⟩ := hSw
                  go_simp
                  try with_reducible rfl
                try simp only [Act.put, List.setIfInBounds_toArray, List.set_cons_zero, List.set_cons_succ]
                refine wpAnyH_take (i := 10) (oi := ?oi163) (v := ?vi163) ?h163 (by kernel_rfl) (by kernel_rfl) (by kernel_rfl) ?q163 (Or.inl ⟨?w163, ?y163⟩) hHeld ?r163
                case h163 => first | (simp only [List.getElem?_toArray, List.getElem?_cons_zero, List.getElem?_cons_succ]; done) | (simp only [List.getElem?_toArray, List.getElem?_cons_zero, List.getElem?_cons_succ]; exact rfl)
                case q163 => exact fun _ _ _ h => h
                case w163 => rfl
                case y163 =>
                  intro w hSw
                  (try dsimp only at hSw)
                  obtain ⟨s0, s1⟩ := hSw
                  go_simp
                  try with_reducible rfl
                try simp only [Act.put, List.setIfInBounds_toArray, List.set_cons_zero, List.set_cons_succ]
                refine wpAnyH_take (i := 11) (oi := ?oi164) (v := ?vi164) ?h164 (by kernel_rfl) (by kernel_rfl) (by kernel_rfl) ?q164 (Or.inl ⟨?w164, ?y164⟩) hHeld ?r164
                case h164 => first | (simp only [List.getElem?_toArray, List.getElem?_cons_zero, List.getElem?_cons_succ]; done) | (simp only [List.getElem?_toArray, List.getElem?_cons_zero, List.getElem?_cons_succ]; exact rfl)
                case q164 => exact fun _ _ _ h => h
                case w164 => rfl
                case y164 =>
                  intro w hSw
                  (try dsimp only at hSw)
                  obtain ⟨s0, s1⟩ := hSw
                  go_simp
                  try with_reducible rfl
                try simp only [Act.put, List.setIfInBounds_toArray, List.set_cons_zero, List.set_cons_succ]
                refine wpAnyH_take (i := 12) (oi := ?oi165) (v := ?vi165) ?h165 (by kernel_rfl) (by kernel_rfl) (by kernel_rfl) ?q165 (Or.inl ⟨?w165, ?y165⟩) hHeld ?r165
                case h165 => first | (simp only [List.getElem?_toArray, List.getElem?_cons_zero, List.getElem?_cons_succ]; done) | (simp only [List.getElem?_toArray, List.getElem?_cons_zero, List.getElem?_cons_succ]; exact rfl)
                case q165 => exact fun _ _ _ h => h
                case w165 => rfl
                case y165 =>
                  intro w hSw
                  (try dsimp only at hSw)
                  obtain ⟨s0, s1⟩ := hSw
                  go_simp
                  try with_reducible rfl
                try simp only [Act.put, List.setIfInBounds_toArray, List.set_cons_zero, List.set_cons_succ]
                refine wpAnyH_take (i := 13) (oi := ?oi166) (v := ?vi166) ?h166 (by kernel_rfl) (by kernel_rfl) (by kernel_rfl) ?q166 (Or.inl ⟨?w166, ?y166⟩) hHeld ?r166
                case h166 => first | (simp only [List.getElem?_toArray, List.getElem?_cons_zero, List.getElem?_cons_succ]; done) | (simp only [List.getElem?_toArray, List.getElem?_cons_zero, List.getElem?_cons_succ]; exact rfl)
                case q166 => exact fun _ _ _ h => h
                case w166 => rfl
                case y166 =>
                  intro w hSw
                  (try dsimp only at hSw)
                  obtain ⟨s0, s1⟩ := hSw
                  go_simp
                  try with_reducible rfl
                try simp only [Act.put, List.setIfInBounds_toArray, List.set_cons_zero, List.set_cons_succ]
                refine wpAnyH_take (i := 14) (oi := ?oi167) (v := undef) ?h167 (by kernel_rfl) (by kernel_rfl) (by kernel_rfl) ?q167 (Or.inr ⟨?w167, rfl⟩) hHeld ?r167
                case h167 => first | (simp only [List.getElem?_toArray, List.getElem?_cons_zero, List.getElem?_cons_succ]; done) | (simp only [List.getElem?_toArray, List.getElem?_cons_zero, List.getElem?_cons_succ]; exact rfl)
                case q167 => exact fun _ _ _ h => h
                case w167 => rfl
                try simp only [Act.put, List.setIfInBounds_toArray, List.set_cons_zero, List.set_cons_succ]
                refine wpAnyH_take (i := 15) (oi := ?oi168) (v := undef) ?h168 (by kernel_rfl) (by kernel_rfl) (by kernel_rfl) ?q168 (Or.inr ⟨?w168, rfl⟩) hHeld ?r168
                case h168 => first | (simp only [List.getElem?_toArray, List.getElem?_cons_zero, List.getElem?_cons_succ]; done) | (simp only [List.getElem?_toArray, List.getElem?_cons_zero, List.getElem?_cons_succ]; exact rfl)
                case q168 => exact fun _ _ _ h => h
                case w168 => rfl
                try simp only [Act.put, List.setIfInBounds_toArray, List.set_cons_zero, List.set_cons_succ]
                refine wpAnyH_take (i := 16) (oi := ?oi169) (v := undef) ?h169 (by kernel_rfl) (by kernel_rfl) (by kernel_rfl) ?q169 (Or.inr ⟨?w169, rfl⟩) hHeld ?r169
                case h169 => first | (simp only [List.getElem?_toArray, List.getElem?_cons_zero, List.getElem?_cons_succ]; done) | (simp only [List.getElem?_toArray, List.getElem?_cons_zero, List.getElem?_cons_succ]; exact rfl)
                case q169 => exact fun _ _ _ h => h
                case w169 => rfl
                try simp only [Act.put, List.setIfInBounds_toArray, List.set_cons_zero, List.set_cons_succ]
                refine wpAnyH_take (i := 17) (oi := ?oi170) (v := undef) ?h170 (by kernel_rfl) (by kernel_rfl) (by kernel_rfl) ?q170 (Or.inr ⟨?w170, rfl⟩) hHeld ?r170
                case h170 => first | (simp only [List.getElem?_toArray, List.getElem?_cons_zero, List.getElem?_cons_succ]; done) | (simp only [List.getElem?_toArray, List.getElem?_cons_zero, List.getElem?_cons_succ]; exact rfl)
                case q170 => exact fun _ _ _ h => h
                case w170 => rfl
                try simp only [Act.put, List.setIfInBounds_toArray, List.set_cons_zero, List.set_cons_succ]
                refine wpAnyH_take (i := 18) (oi := ?oi171) (v := undef) ?h171 (by kernel_rfl) (by kernel_rfl) (by kernel_rfl) ?q171 (Or.inr ⟨?w171, rfl⟩) hHeld ?r171
                case h171 => first | (simp only [List.getElem?_toArray, List.getElem?_cons_zero, List.getElem?_cons_succ]; done) | (simp only [List.getElem?_toArray, List.getElem?_cons_zero, List.getElem?_cons_succ]; exact rfl)
                case q171 => exact fun _ _ _ h => h
                case w171 => rfl
                try simp only [Act.put, List.setIfInBounds_toArray, List.set_cons_zero, List.set_cons_succ]
                refine wpAnyH_take (i := 19) (oi := ?oi172) (v := undef) ?h172 (by kernel_rfl) (by kernel_rfl) (by kernel_rfl) ?q172 (Or.inr ⟨?w172, rfl⟩) hHeld ?r172
                case h172 => first | (simp only [List.getElem?_toArray, List.getElem?_cons_zero, List.getElem?_cons_succ]; done) | (simp only [List.getElem?_toArray, List.getElem?_cons_zero, List.getElem?_cons_succ]; exact rfl)
                case q172 => exact fun _ _ _ h => h
                case w172 => rfl
                try simp only [Act.put, List.setIfInBounds_toArray, List.set_cons_zero, List.set_cons_succ]
                refine wpAnyH_take (i := 20) (oi := ?oi173) (v := undef) ?h173 (by kernel_rfl) (by kernel_rfl) (by kernel_rfl) ?q173 (Or.inr ⟨?w173, rfl⟩) hHeld ?r173
                case h173 => first | (simp only [List.getElem?_toArray, List.getElem?_cons_zero, List.getElem?_cons_succ]; done) | (simp only [List.getElem?_toArray, List.getElem?_cons_zero, List.getElem?_cons_succ]; exact rfl)
                case q173 => exact fun _ _ _ h => h
                case w173 => rfl
                try simp only [Act.put, List.setIfInBounds_toArray, List.set_cons_zero, List.set_cons_succ]
                refine wpAnyH_take (i := 21) (oi := ?oi174) (v := undef) ?h174 (by kernel_rfl) (by kernel_rfl) (by kernel_rfl) ?q174 (Or.inr ⟨?w174, rfl⟩) hHeld ?r174
                case h174 => first | (simp only [List.getElem?_toArray, List.getElem?_cons_zero, List.getElem?_cons_succ]; done) | (simp only [List.getElem?_toArray, List.getElem?_cons_zero, List.getElem?_cons_succ]; exact rfl)
                case q174 => exact fun _ _ _ h => h
                case w174 => rfl
                try simp only [Act.put, List.setIfInBounds_toArray, List.set_cons_zero, List.set_cons_succ]
                refine wpAnyH_take (i := 22) (oi := ?oi175) (v := undef) ?h175 (by kernel_rfl) (by kernel_rfl) (by kernel_rfl) ?q175 (Or.inr ⟨?w175, rfl⟩) hHeld ?r175
                case h175 => first | (simp only [List.getElem?_toArray, List.getElem?_cons_zero, List.getElem?_cons_succ]; done) | (simp only [List.getElem?_toArray, List.getElem?_cons_zero, List.getElem?_cons_succ]; exact rfl)
                case q175 => exact fun _ _ _ h => h
                case w175 => rfl
                try simp only [Act.put, List.setIfInBounds_toArray, List.set_cons_zero, List.set_cons_succ]
                refine wpAnyH_take (i := 23) (oi := ?oi176) (v := undef) ?h176 (by kernel_rfl) (by kernel_rfl) (by kernel_rfl) ?q176 (Or.inr ⟨?w176, rfl⟩) hHeld ?r176
                case h176 => first | (simp only [List.getElem?_toArray, List.getElem?_cons_zero, List.getElem?_cons_succ]; done) | (simp only [List.getElem?_toArray, List.getElem?_cons_zero, List.getElem?_cons_succ]; exact rfl)
                case q176 => exact fun _ _ _ h => h
                case w176 => rfl
                try simp only [Act.put, List.setIfInBounds_toArray, List.set_cons_zero, List.set_cons_succ]
                refine wpAnyH_take (i := 24) (oi := ?oi177) (v := ?vi177) ?h177 (by kernel_rfl) (by kernel_rfl) (by kernel_rfl) ?q177 (Or.inl ⟨?w177, ?y177⟩) hHeld ?r177
                case h177 => first | (simp only [List.getElem?_toArray, List.getElem?_cons_zero, List.getElem?_cons_succ]; done) | (simp only [List.getElem?_toArray, List.getElem?_cons_zero, List.getElem?_cons_succ]; exact rfl)
                case q177 => exact fun _ _ _ h => h
                case w177 => rfl
                case y177 =>
                  intro w hSw
                  (try dsimp only at hSw)
                  obtain ⟨s0, s1⟩ := hSw
                  go_simp
                  try with_reducible rfl
                try simp only [Act.put, List.setIfInBounds_toArray, List.set_cons_zero, List.set_cons_succ]
                refine wpAnyH_take (i := 25) (oi := ?oi178) (v := ?vi178) ?h178 (by kernel_rfl) (by kernel_rfl) (by kernel_rfl) ?q178 (Or.inl ⟨?w178, ?y178⟩) hHeld ?r178
                case h178 => first | (simp only [List.getElem?_toArray, List.getElem?_cons_zero, List.getElem?_cons_succ]; done) | (simp only [List.getElem?_toArray, List.getElem?_cons_zero, List.getElem?_cons_succ]; exact rfl)
                case q178 => exact fun _ _ _ h => h
                case w178 => rfl
                case y178 =>
                  intro w hSw
                  (try dsimp only at hSw)
                  obtain ⟨s0, s1⟩ := hSw
                  go_simp
                  try with_reducible rfl
                try simp only [Act.put, List.setIfInBounds_toArray, List.set_cons_zero, List.set_cons_succ]
                refine wpAnyH_done (by kernel_rfl) ?_ _
                have hkn := HK.out
                go_wp2
                go_roundw
                case rel => exact ⟨0 + 1, by have := HK.out; omega, by go_num, ⟨HR0.out.then F.out, HNX.out⟩⟩
                case measure => have := HK.out; simp [RowKit.intOf]; omega
              · obtain ⟨z, hz, hz2⟩ := HST.out.2.2.2.1 (k - 1) (by omega)
                have HP := Lib.hid (And.intro HST.out.2.2.1 hz)
                have hkm : k - 1 < s.turns.length := by omega
                have HZ := Lib.hid (And.intro (hz2 hkm) (And.intro hk0 hkm))
                have wk : IntKind.i64.wrap ((k : Int) - 1) = ((k - 1 : Nat) : Int) := by rw [IntKind.wrap_i64]; omega
                have qz : ((0 : Int) < (k : Int)) = True := eq_true (by omega)
                have qz2 : (0 < k) = True := eq_true hk0
                have qn : (((k - 1 : Nat) : Int) < (m : Int)) = True := eq_true (by omega)
                have qn2 : (k - 1 < m) = True := eq_true (by omega)
                by_cases hle : (Op.bytesLess x.dir z || x.dir == z) = true
                · have HNO := Lib.hid (HST.out.2.1 (.inr ⟨HZ.out.2.1, HZ.out.2.2, by rw [← HZ.out.1]; exact notUp hle⟩))
                  clear hlt hk hk0 hz hz2
                  go_wp2_with fail
                  refine wp_region_held_drew (S := (fun w' => w'.cell? ⟨wr2.heap.size, 0, none⟩ = some (.string (B x.dir)) ∧ w'.cell? ⟨wr2.heap.size, 1, none⟩ = some (.int .i64 x.next) ∧ w'.cell? ⟨w.heap.size, 1, none⟩ = some (.slice (some ⟨g, o, none⟩) m capt) ∧ w'.cell? ⟨g, o + (k - 1) * 2, none⟩ = some (.string (B z)))) (by kernel_rfl) ?_ (fun hHeld => ?_)
                  · exact ⟨HB.out.2.c0, HB.out.2.c1, HP.out.1, HP.out.2⟩
                  refine wpAnyH_take (i := 0) (oi := ?oi179) (v := ?vi179) ?h179 (by kernel_rfl) (by kernel_rfl) (by kernel_rfl) ?q179 (Or.inl ⟨?w179, ?y179⟩) hHeld ?r179
                  case h179 => first | (simp only [List.getElem?_toArray, List.getElem?_cons_zero]; done) | (simp only [List.getElem?_toArray, List.getElem?_cons_zero]; exact rfl)
                  case q179 => exact fun _ _ _ h => h
                  case w179 => rfl
                  case y179 =>
                    intro w hSw
                    (try dsimp only at hSw)
                    obtain ⟨s0, s1, s2, s3⟩ := hSw
                    go_simp
                    try with_reducible rfl
                  try simp only [Act.put, List.setIfInBounds_toArray, List.set_cons_zero, List.set_cons_succ]
                  refine wpAnyH_take (i := 1) (oi := ?oi180) (v := ?vi180) ?h180 (by kernel_rfl) (by kernel_rfl) (by kernel_rfl) ?q180 (Or.inl ⟨?w180, ?y180⟩) hHeld ?r180
                  case h180 => first | (simp only [List.getElem?_toArray, List.getElem?_cons_zero, List.getElem?_cons_succ]; done) | (simp only [List.getElem?_toArray, List.getElem?_cons_zero, List.getElem?_cons_succ]; exact rfl)
                  case q180 => exact fun _ _ _ h => h
                  case w180 => rfl
                  case y180 =>
                    intro w hSw
                    (try dsimp only at hSw)
                    obtain ⟨s0, s1, s2, s3⟩ := hSw
                    go_simp
                    try with_reducible rfl
                  try simp only [Act.put, List.setIfInBounds_toArray, List.set_cons_zero, List.set_cons_succ]
                  refine wpAnyH_ready (rs := [2]) (by kernel_rfl) (by simp) ?_
                  refine AllReadyH.cons (o := ?ob181) ?hb181 (fun K hK => ?_) AllReadyH.nil
                  case hb181 => first | (simp only [List.getElem?_toArray, List.getElem?_cons_zero, List.getElem?_cons_succ]; done) | (simp only [List.getElem?_toArray, List.getElem?_cons_zero, List.getElem?_cons_succ]; exact rfl)
                  go_simp
                  go_at_call 50
                  refine (HRI.out _).mono ?_
                  rintro e w1 ⟨rfl, f1⟩
                  have b1 := HB.out.2.keep f1.fp (fun h => h)
                  have HS1 := Lib.hid (And.intro b1.c0 (And.intro b1.c1 (And.intro (f1.fp.cell HP.out.1 (fun h => h)) (f1.fp.cell HP.out.2 (fun h => h)))))
                  have F := Lib.hid (HB.out.1.then f1.fp)
                  clear f1 b1
                  go_wp2_with fail
                  refine hK.out _ _ HS1.out (fun hHeld => ?_)
                  clear hK K
                  try simp only [Act.put, List.setIfInBounds_toArray, List.set_cons_zero, List.set_cons_succ]
                  refine wpAnyH_take (i := 3) (oi := ?oi182) (v := ?vi182) ?h182 (by kernel_rfl) (by kernel_rfl) (by kernel_rfl) ?q182 (Or.inl ⟨?w182, ?y182⟩) hHeld ?r182
                  case h182 => first | (simp only [List.getElem?_toArray, List.getElem?_cons_zero, List.getElem?_cons_succ]; done) | (simp only [List.getElem?_toArray, List.getElem?_cons_zero, List.getElem?_cons_succ]; exact rfl)
                  case q182 => exact fun _ _ _ h => h
                  case w182 => rfl
                  case y182 =>
                    intro w hSw
                    (try dsimp only at hSw)
                    obtain ⟨s0, s1, s2, s3⟩ := hSw
                    go_simp
                    try with_reducible rfl
                  try simp only [Act.put, List.setIfInBounds_toArray, List.set_cons_zero, List.set_cons_succ]
                  refine wpAnyH_take (i := 4) (oi := ?oi183) (v := ?vi183) ?h183 (by kernel_rfl) (by kernel_rfl) (by kernel_rfl) ?q183 (Or.inl ⟨?w183, ?y183⟩) hHeld ?r183
                  case h183 => first | (simp only [List.getElem?_toArray, List.getElem?_cons_zero, List.getElem?_cons_succ]; done) | (simp only [List.getElem?_toArray, List.getElem?_cons_zero, List.getElem?_cons_succ]; exact rfl)
                  case q183 => exact fun _ _ _ h => h
                  case w183 => rfl
                  case y183 =>
                    intro w hSw
                    (try dsimp only at hSw)
                    obtain ⟨s0, s1, s2, s3⟩ := hSw
                    go_simp
                    try with_reducible rfl
                  try simp only [Act.put, List.setIfInBounds_toArray, List.set_cons_zero, List.set_cons_succ]
                  refine wpAnyH_take (i := 5) (oi := ?oi184) (v := ?vi184) ?h184 (by kernel_rfl) (by kernel_rfl) (by kernel_rfl) ?q184 (Or.inl ⟨?w184, ?y184⟩) hHeld ?r184
                  case h184 => first | (simp only [List.getElem?_toArray, List.getElem?_cons_zero, List.getElem?_cons_succ]; done) | (simp only [List.getElem?_toArray, List.getElem?_cons_zero, List.getElem?_cons_succ]; exact rfl)
                  case q184 => exact fun _ _ _ h => h
                  case w184 => rfl
                  case y184 =>
                    intro w hSw
                    (try dsimp only at hSw)
                    obtain ⟨s0, s1, s2, s3⟩ := hSw
                    go_simp
                    try with_reducible rfl
                  try simp only [Act.put, List.setIfInBounds_toArray, List.set_cons_zero, List.set_cons_succ]
                  refine wpAnyH_take (i := 6) (oi := ?oi185) (v := ?vi185) ?h185 (by kernel_rfl) (by kernel_rfl) (by kernel_rfl) ?q185 (Or.inl ⟨?w185, ?y185⟩) hHeld ?r185
                  case h185 => first | (simp only [List.getElem?_toArray, List.getElem?_cons_zero, List.getElem?_cons_succ]; done) | (simp only [List.getElem?_toArray, List.getElem?_cons_zero, List.getElem?_cons_succ]; exact rfl)
                  case q185 => exact fun _ _ _ h => h
                  case w185 => rfl
                  case y185 =>
                    intro w hSw
                    (try dsimp only at hSw)
                    obtain ⟨s0, s1, s2, s3⟩ := hSw
                    go_simp
                    try with_reducible rfl
                  try simp only [Act.put, List.setIfInBounds_toArray, List.set_cons_zero, List.set_cons_succ]
                  refine wpAnyH_ready (rs := [7]) (by kernel_rfl) (by simp) ?_
                  refine AllReadyH.cons (o := ?ob186) ?hb186 (fun K hK => ?_) AllReadyH.nil
                  case hb186 => first | (simp only [List.getElem?_toArray, List.getElem?_cons_zero, List.getElem?_cons_succ]; done) | (simp only [List.getElem?_toArray, List.getElem?_cons_zero, List.getElem?_cons_succ]; exact rfl)
                  go_simp
                  go_at_call 70
                  refine (HWI.out _).mono ?_
                  rintro e w2 ⟨rfl, rfl⟩
                  go_wp2_with fail
                  refine hK.out _ _ HS1.out (fun hHeld => ?_)
                  clear hK K
                  try simp only [Act.put, List.setIfInBounds_toArray, List.set_cons_zero, List.set_cons_succ]
                  refine wpAnyH_take (i := 8) (oi := ?oi187) (v := ?vi187) ?h187 (by kernel_rfl) (by kernel_rfl) (by kernel_rfl) ?q187 (Or.inl ⟨?w187, ?y187⟩) hHeld ?r187
                  case h187 => first | (simp only [List.getElem?_toArray, List.getElem?_cons_zero, List.getElem?_cons_succ]; done) | (simp only [List.getElem?_toArray, List.getElem?_cons_zero, List.getElem?_cons_succ]; exact rfl)
                  case q187 => exact fun _ _ _ h => h
                  case w187 => rfl
                  case y187 =>
                    intro w hSw
                    (try dsimp only at hSw)
                    obtain ⟨s0, s1, s2, s3⟩ := hSw
                    go_simp
                    try with_reducible rfl
                  try simp only [Act.put, List.setIfInBounds_toArray, List.set_cons_zero, List.set_cons_succ]
                  refine wpAnyH_take (i := 9) (oi := ?oi188) (v := ?vi188) ?h188 (by kernel_rfl) (by kernel_rfl) (by kernel_rfl) ?q188 (Or.inl ⟨?w188, ?y188⟩) hHeld ?r188
                  case h188 => first | (simp only [List.getElem?_toArray, List.getElem?_cons_zero, List.getElem?_cons_succ]; done) | (simp only [List.getElem?_toArray, List.getElem?_cons_zero, List.getElem?_cons_succ]; exact rfl)
                  case q188 => exact fun _ _ _ h => h
                  case w188 => rfl
                  case y188 =>
                    intro w hSw
                    (try dsimp only at hSw)
                    obtain ⟨s0, s1, s2, s3⟩ := hSw
                    go_simp
                    try with_reducible rfl
                  try simp only [Act.put, List.setIfInBounds_toArray, List.set_cons_zero, List.set_cons_succ]
                  refine wpAnyH_take (i := 10) (oi := ?oi189) (v := ?vi189) ?h189 (by kernel_rfl) (by kernel_rfl) (by kernel_rfl) ?q189 (Or.inl ⟨?w189, ?y189⟩) hHeld ?r189
                  case h189 => first | (simp only [List.getElem?_toArray, List.getElem?_cons_zero, List.getElem?_cons_succ]; done) | (simp only [List.getElem?_toArray, List.getElem?_cons_zero, List.getElem?_cons_succ]; exact rfl)
                  case q189 => exact fun _ _ _ h => h
                  case w189 => rfl
                  case y189 =>
                    intro w hSw
                    (try dsimp only at hSw)
                    obtain ⟨s0, s1, s2, s3⟩ := hSw
                    go_simp
                    try with_reducible rfl
                  try simp only [Act.put, List.setIfInBounds_toArray, List.set_cons_zero, List.set_cons_succ]
                  refine wpAnyH_take (i := 11) (oi := ?oi190) (v := ?vi190) ?h190 (by kernel_rfl) (by kernel_rfl) (by kernel_rfl) ?q190 (Or.inl ⟨?w190, ?y190⟩) hHeld ?r190
                  case h190 => first | (simp only [List.getElem?_toArray, List.getElem?_cons_zero, List.getElem?_cons_succ]; done) | (simp only [List.getElem?_toArray, List.getElem?_cons_zero, List.getElem?_cons_succ]; exact rfl)
                  case q190 => exact fun _ _ _ h => h
                  case w190 => rfl
                  case y190 =>
                    intro w hSw
                    (try dsimp only at hSw)
                    obtain ⟨s0, s1, s2, s3⟩ := hSw
                    go_simp
                    try with_reducible rfl
                  try simp only [Act.put, List.setIfInBounds_toArray, List.set_cons_zero, List.set_cons_succ]
                  refine wpAnyH_take (i := 12) (oi := ?oi191) (v := ?vi191) ?h191 (by kernel_rfl) (by kernel_rfl) (by kernel_rfl) ?q191 (Or.inl ⟨?w191, ?y191⟩) hHeld ?r191
                  case h191 => first | (simp only [List.getElem?_toArray, List.getElem?_cons_zero, List.getElem?_cons_succ]; done) | (simp only [List.getElem?_toArray, List.getElem?_cons_zero, List.getElem?_cons_succ]; exact rfl)
                  case q191 => exact fun _ _ _ h => h
                  case w191 => rfl
                  case y191 =>
                    intro w hSw
                    (try dsimp only at hSw)
                    obtain ⟨s0, s1, s2, s3⟩ := hSw
                    go_simp
                    try with_reducible rfl
                  try simp only [Act.put, List.setIfInBounds_toArray, List.set_cons_zero, List.set_cons_succ]
                  refine wpAnyH_take (i := 13) (oi := ?oi192) (v := ?vi192) ?h192 (by kernel_rfl) (by kernel_rfl) (by kernel_rfl) ?q192 (Or.inl ⟨?w192, ?y192⟩) hHeld ?r192
                  case h192 => first | (simp only [List.getElem?_toArray, List.getElem?_cons_zero, List.getElem?_cons_succ]; done) | (simp only [List.getElem?_toArray, List.getElem?_cons_zero, List.getElem?_cons_succ]; exact rfl)
                  case q192 => exact fun _ _ _ h => h
                  case w192 => rfl
                  case y192 =>
                    intro w hSw
                    (try dsimp only at hSw)
                    obtain ⟨s0, s1, s2, s3⟩ := hSw
                    go_simp
                    try with_reducible rfl
                  try simp only [Act.put, List.setIfInBounds_toArray, List.set_cons_zero, List.set_cons_succ]
                  refine wpAnyH_take (i := 14) (oi := ?oi193) (v := ?vi193) ?h193 (by kernel_rfl) (by kernel_rfl) (by kernel_rfl) ?q193 (Or.inl ⟨?w193, ?y193⟩) hHeld ?r193
                  case h193 => first | (simp only [List.getElem?_toArray, List.getElem?_cons_zero, List.getElem?_cons_succ]; done) | (simp only [List.getElem?_toArray, List.getElem?_cons_zero, List.getElem?_cons_succ]; exact rfl)
                  case q193 => exact fun _ _ _ h => h
                  case w193 => rfl
                  case y193 =>
                    intro w hSw
                    (try dsimp only at hSw)
                    obtain ⟨s0, s1, s2, s3⟩ := hSw
                    go_simp
                    try with_reducible rfl
                  try simp only [Act.put, List.setIfInBounds_toArray, List.set_cons_zero, List.set_cons_succ]
                  refine wpAnyH_take (i := 15) (oi := ?oi194) (v := ?vi194) ?h194 (by kernel_rfl) (by kernel_rfl) (by kernel_rfl) ?q194 (Or.inl ⟨?w194, ?y194⟩) hHeld ?r194
                  case h194 => first | (simp only [List.getElem?_toArray, List.getElem?_cons_zero, List.getElem?_cons_succ]; done) | (simp only [List.getElem?_toArray, List.getElem?_cons_zero, List.getElem?_cons_succ]; exact rfl)
                  case q194 => exact fun _ _ _ h => h
                  case w194 => rfl
                  case y194 =>
                    intro w hSw
                    (try dsimp only at hSw)
                    obtain ⟨s0, s1, s2, s3⟩ := hSw
                    go_simp
                    try with_reducible rfl
                  try simp only [Act.put, List.setIfInBounds_toArray, List.set_cons_zero, List.set_cons_succ]
                  refine wpAnyH_take (i := 16) (oi := ?oi195) (v := ?vi195) ?h195 (by kernel_rfl) (by kernel_rfl) (by kernel_rfl) ?q195 (Or.inl ⟨?w195, ?y195⟩) hHeld ?r195
                  case h195 => first | (simp only [List.getElem?_toArray, List.getElem?_cons_zero, List.getElem?_cons_succ]; done) | (simp only [List.getElem?_toArray, List.getElem?_cons_zero, List.getElem?_cons_succ]; exact rfl)
                  case q195 => exact fun _ _ _ h => h
                  case w195 => rfl
                  case y195 =>
                    intro w hSw
                    (try dsimp only at hSw)
                    obtain ⟨s0, s1, s2, s3⟩ := hSw
                    go_simp
                    try with_reducible rfl
                  try simp only [Act.put, List.setIfInBounds_toArray, List.set_cons_zero, List.set_cons_succ]
                  refine wpAnyH_take (i := 17) (oi := ?oi196) (v := ?vi196) ?h196 (by kernel_rfl) (by kernel_rfl) (by kernel_rfl) ?q196 (Or.inl ⟨?w196, ?y196⟩) hHeld ?r196
                  case h196 => first | (simp only [List.getElem?_toArray, List.getElem?_cons_zero, List.getElem?_cons_succ]; done) | (simp only [List.getElem?_toArray, List.getElem?_cons_zero, List.getElem?_cons_succ]; exact rfl)
                  case q196 => exact fun _ _ _ h => h
                  case w196 => rfl
                  case y196 =>
                    intro w hSw
                    (try dsimp only at hSw)
                    obtain ⟨s0, s1, s2, s3⟩ := hSw
                    go_simp
                    try with_reducible rfl
                  try simp only [Act.put, List.setIfInBounds_toArray, List.set_cons_zero, List.set_cons_succ]
                  refine wpAnyH_take (i := 18) (oi := ?oi197) (v := ?vi197) ?h197 (by kernel_rfl) (by kernel_rfl) (by kernel_rfl) ?q197 (Or.inl ⟨?w197, ?y197⟩) hHeld ?r197
                  case h197 => first | (simp only [List.getElem?_toArray, List.getElem?_cons_zero, List.getElem?_cons_succ]; done) | (simp only [List.getElem?_toArray, List.getElem?_cons_zero, List.getElem?_cons_succ]; exact rfl)
                  case q197 => exact fun _ _ _ h => h
                  case w197 => rfl
                  case y197 =>
                    intro w hSw
                    (try dsimp only at hSw)
                    obtain ⟨s0, s1, s2, s3⟩ := hSw
                    go_simp
                    try with_reducible rfl
                  try simp only [Act.put, List.setIfInBounds_toArray, List.set_cons_zero, List.set_cons_succ]
                  refine wpAnyH_take (i := 19) (oi := ?oi198) (v := ?vi198) ?h198 (by kernel_rfl) (by kernel_rfl) (by kernel_rfl) ?q198 (Or.inl ⟨?w198, ?y198⟩) hHeld ?r198
                  case h198 => first | (simp only [List.getElem?_toArray, List.getElem?_cons_zero, List.getElem?_cons_succ]; done) | (simp only [List.getElem?_toArray, List.getElem?_cons_zero, List.getElem?_cons_succ]; exact rfl)
                  case q198 => exact fun _ _ _ h => h
                  case w198 => rfl
                  case y198 =>
                    intro w hSw
                    (try dsimp only at hSw)
                    obtain ⟨s0, s1, s2, s3⟩ := hSw
                    go_simp
                    try with_reducible rfl
                  try simp only [Act.put, List.setIfInBounds_toArray, List.set_cons_zero, List.set_cons_succ]
                  refine wpAnyH_take (i := 20) (oi := ?oi199) (v := ?vi199) ?h199 (by kernel_rfl) (by kernel_rfl) (by kernel_rfl) ?q199 (Or.inl ⟨?w199, ?y199⟩) hHeld ?r199
                  case h199 => first | (simp only [List.getElem?_toArray, List.getElem?_cons_zero, List.getElem?_cons_succ]; done) | (simp only [List.getElem?_toArray, List.getElem?_cons_zero, List.getElem?_cons_succ]; exact rfl)
                  case q199 => exact fun _ _ _ h => h
                  case w199 => rfl
                  case y199 =>
                    intro w hSw
                    (try dsimp only at hSw)
                    obtain ⟨s0, s1, s2, s3⟩ := hSw
                    go_simp
                    try with_reducible rfl
                  try simp only [Act.put, List.setIfInBounds_toArray, List.set_cons_zero, List.set_cons_succ]
                  refine wpAnyH_take (i := 21) (oi := ?oi200) (v := ?vi200) ?h200 (by kernel_rfl) (by kernel_rfl) (by kernel_rfl) ?q200 (Or.inl ⟨?w200, ?y200⟩) hHeld ?r200
                  case h200 => first | (simp only [List.getElem?_toArray, List.getElem?_cons_zero, List.getElem?_cons_succ]; done) | (simp only [List.getElem?_toArray, List.getElem?_cons_zero, List.getElem?_cons_succ]; exact rfl)
                  case q200 => exact fun _ _ _ h => h
                  case w200 => rfl
                  case y200 =>
                    intro w hSw
                    (try dsimp only at hSw)
                    obtain ⟨s0, s1, s2, s3⟩ := hSw
                    go_simp
                    try with_reducible rfl
                  try simp only [Act.put, List.setIfInBounds_toArray, List.set_cons_zero, List.set_cons_succ]
                  refine wpAnyH_take (i := 22) (oi := ?oi201) (v := ?vi201) ?h201 (by kernel_rfl) (by kernel_rfl) (by kernel_rfl) ?q201 (Or.inl ⟨?w201, ?y201⟩) hHeld ?r201
                  case h201 => first | (simp only [List.getElem?_toArray, List.getElem?_cons_zero, List.getElem?_cons_succ]; done) | (simp only [List.getElem?_toArray, List.getElem?_cons_zero, List.getElem?_cons_succ]; exact rfl)
                  case q201 => exact fun _ _ _ h => h
                  case w201 => rfl
                  case y201 =>
                    intro w hSw
                    (try dsimp only at hSw)
                    obtain ⟨s0, s1, s2, s3⟩ := hSw
                    go_simp
                    try with_reducible rfl
                  try simp only [Act.put, List.setIfInBounds_toArray, List.set_cons_zero, List.set_cons_succ]
                  refine wpAnyH_take (i := 23) (oi := ?oi202) (v := ?vi202) ?h202 (by kernel_rfl) (by kernel_rfl) (by kernel_rfl) ?q202 (Or.inl ⟨?w202, ?y202⟩) hHeld ?r202
                  case h202 => first | (simp only [List.getElem?_toArray, List.getElem?_cons_zero, List.getElem?_cons_succ]; done) | (simp only [List.getElem?_toArray, List.getElem?_cons_zero, List.getElem?_cons_succ]; exact rfl)
                  case q202 => exact fun _ _ _ h => h
                  case w202 => rfl
                  case y202 =>
                    intro w hSw
                    (try dsimp only at hSw)
                    obtain ⟨s0, s1, s2, s3⟩ := hSw
                    go_simp
                    try with_reducible rfl
                  try simp only [Act.put, List.setIfInBounds_toArray, List.set_cons_zero, List.set_cons_succ]
                  refine wpAnyH_take (i := 24) (oi := ?oi203) (v := ?vi203) ?h203 (by kernel_rfl) (by kernel_rfl) (by kernel_rfl) ?q203 (Or.inl ⟨?w203, ?y203⟩) hHeld ?r203
                  case h203 => first | (simp only [List.getElem?_toArray, List.getElem?_cons_zero, List.getElem?_cons_succ]; done) | (simp only [List.getElem?_toArray, List.getElem?_cons_zero, List.getElem?_cons_succ]; exact rfl)
                  case q203 => exact fun _ _ _ h => h
                  case w203 => rfl
                  case y203 =>
                    intro w hSw
                    (try dsimp only at hSw)
                    obtain ⟨s0, s1, s2, s3⟩ := hSw
                    go_simp
                    try with_reducible rfl
                  try simp only [Act.put, List.setIfInBounds_toArray, List.set_cons_zero, List.set_cons_succ]
                  refine wpAnyH_take (i := 25) (oi := ?oi204) (v := ?vi204) ?h204 (by kernel_rfl) (by kernel_rfl) (by kernel_rfl) ?q204 (Or.inl ⟨?w204, ?y204⟩) hHeld ?r204
                  case h204 => first | (simp only [List.getElem?_toArray, List.getElem?_cons_zero, List.getElem?_cons_succ]; done) | (simp only [List.getElem?_toArray, List.getElem?_cons_zero, List.getElem?_cons_succ]; exact rfl)
                  case q204 => exact fun _ _ _ h => h
                  case w204 => rfl
                  case y204 =>
                    intro w hSw
                    (try dsimp only at hSw)
                    obtain ⟨s0, s1, s2, s3⟩ := hSw
                    go_simp
                    try with_reducible rfl
                  try simp only [Act.put, List.setIfInBounds_toArray, List.set_cons_zero, List.set_cons_succ]
                  refine wpAnyH_done (by kernel_rfl) ?_ _
                  go_wp2
                  go_ret
                  exact ⟨ret_bool HNO.out.symm, HW.out.then F.out⟩
                · have hle' : (Op.bytesLess x.dir z || x.dir == z) = false := by simpa using hle
                  have HNX := Lib.hid (HST.out.1 rfl (fun _ h => by rw [← HZ.out.1]; exact isUp hle'))
                  clear hlt hk hk0 hz hz2 hle
                  go_wp2_with fail
                  refine wp_region_held_drew (S := (fun w' => w'.cell? ⟨wr2.heap.size, 0, none⟩ = some (.string (B x.dir)) ∧ w'.cell? ⟨wr2.heap.size, 1, none⟩ = some (.int .i64 x.next) ∧ w'.cell? ⟨w.heap.size, 1, none⟩ = some (.slice (some ⟨g, o, none⟩) m capt) ∧ w'.cell? ⟨g, o + (k - 1) * 2, none⟩ = some (.string (B z)))) (by kernel_rfl) ?_ (fun hHeld => ?_)
                  · exact ⟨HB.out.2.c0, HB.out.2.c1, HP.out.1, HP.out.2⟩
                  refine wpAnyH_take (i := 0) (oi := ?oi205) (v := ?vi205) ?h205 (by kernel_rfl) (by kernel_rfl) (by kernel_rfl) ?q205 (Or.inl ⟨?w205, ?y205⟩) hHeld ?r205
                  case h205 => first | (simp only [List.getElem?_toArray, List.getElem?_cons_zero]; done) | (simp only [List.getElem?_toArray, List.getElem?_cons_zero]; exact rfl)
                  case q205 => exact fun _ _ _ h => h
                  case w205 => rfl
                  case y205 =>
                    intro w hSw
                    (try dsimp only at hSw)
                    obtain ⟨s0, s1, s2, s3⟩ := hSw
                    go_simp
                    try with_reducible rfl
                  try simp only [Act.put, List.setIfInBounds_toArray, List.set_cons_zero, List.set_cons_succ]
                  refine wpAnyH_take (i := 1) (oi := ?oi206) (v := ?vi206) ?h206 (by kernel_rfl) (by kernel_rfl) (by kernel_rfl) ?q206 (Or.inl ⟨?w206, ?y206⟩) hHeld ?r206
                  case h206 => first | (simp only [List.getElem?_toArray, List.getElem?_cons_zero, List.getElem?_cons_succ]; done) | (simp only [List.getElem?_toArray, List.getElem?_cons_zero, List.getElem?_cons_succ]; exact rfl)
                  case q206 => exact fun _ _ _ h => h
                  case w206 => rfl
                  case y206 =>
                    intro w hSw
                    (try dsimp only at hSw)
                    obtain ⟨s0, s1, s2, s3⟩ := hSw
                    go_simp
                    try with_reducible rfl
                  try simp only [Act.put, List.setIfInBounds_toArray, List.set_cons_zero, List.set_cons_succ]
                  refine wpAnyH_ready (rs := [2]) (by kernel_rfl) (by simp) ?_
                  refine AllReadyH.cons (o := ?ob207) ?hb207 (fun K hK => ?_) AllReadyH.nil
                  case hb207 => first | (simp only [List.getElem?_toArray, List.getElem?_cons_zero, List.getElem?_cons_succ]; done) | (simp only [List.getElem?_toArray, List.getElem?_cons_zero, List.getElem?_cons_succ]; exact rfl)
                  go_simp
                  go_at_call 50
                  refine (HRI.out _).mono ?_
                  rintro e w1 ⟨rfl, f1⟩
                  have b1 := HB.out.2.keep f1.fp (fun h => h)
                  have HS1 := Lib.hid (And.intro b1.c0 (And.intro b1.c1 (And.intro (f1.fp.cell HP.out.1 (fun h => h)) (f1.fp.cell HP.out.2 (fun h => h)))))
                  have F := Lib.hid (HB.out.1.then f1.fp)
                  clear f1 b1
                  go_wp2_with fail
                  refine hK.out _ _ HS1.out (fun hHeld => ?_)
                  clear hK K
                  try simp only [Act.put, List.setIfInBounds_toArray, List.set_cons_zero, List.set_cons_succ]
                  refine wpAnyH_take (i := 3) (oi := ?oi208) (v := ?vi208) ?h208 (by kernel_rfl) (by kernel_rfl) (by kernel_rfl) ?q208 (Or.inl ⟨?w208, ?y208⟩) hHeld ?r208
                  case h208 => first | (simp only [List.getElem?_toArray, List.getElem?_cons_zero, List.getElem?_cons_succ]; done) | (simp only [List.getElem?_toArray, List.getElem?_cons_zero, List.getElem?_cons_succ]; exact rfl)
                  case q208 => exact fun _ _ _ h => h
                  case w208 => rfl
                  case y208 =>
                    intro w hSw
                    (try dsimp only at hSw)
                    obtain ⟨s0, s1, s2, s3⟩ := hSw
                    go_simp
                    try with_reducible rfl
                  try simp only [Act.put, List.setIfInBounds_toArray, List.set_cons_zero, List.set_cons_succ]
                  refine wpAnyH_take (i := 4) (oi := ?oi209) (v := ?vi209) ?h209 (by kernel_rfl) (by kernel_rfl) (by kernel_rfl) ?q209 (Or.inl ⟨?w209, ?y209⟩) hHeld ?r209
                  case h209 => first | (simp only [List.getElem?_toArray, List.getElem?_cons_zero, List.getElem?_cons_succ]; done) | (simp only [List.getElem?_toArray, List.getElem?_cons_zero, List.getElem?_cons_succ]; exact rfl)
                  case q209 => exact fun _ _ _ h => h
                  case w209 => rfl
                  case y209 =>
                    intro w hSw
                    (try dsimp only at hSw)
                    obtain ⟨s0, s1, s2, s3⟩ := hSw
                    go_simp
                    try with_reducible rfl
                  try simp only [Act.put, List.setIfInBounds_toArray, List.set_cons_zero, List.set_cons_succ]
                  refine wpAnyH_take (i := 5) (oi := ?oi210) (v := ?vi210) ?h210 (by kernel_rfl) (by kernel_rfl) (by kernel_rfl) ?q210 (Or.inl ⟨?w210, ?y210⟩) hHeld ?r210
                  case h210 => first | (simp only [List.getElem?_toArray, List.getElem?_cons_zero, List.getElem?_cons_succ]; done) | (simp only [List.getElem?_toArray, List.getElem?_cons_zero, List.getElem?_cons_succ]; exact rfl)
                  case q210 => exact fun _ _ _ h => h
                  case w210 => rfl
                  case y210 =>
                    intro w hSw
                    (try dsimp only at hSw)
                    obtain ⟨s0, s1, s2, s3⟩ := hSw
                    go_simp
                    try with_reducible rfl
                  try simp only [Act.put, List.setIfInBounds_toArray, List.set_cons_zero, List.set_cons_succ]
                  refine wpAnyH_take (i := 6) (oi := ?oi211) (v := ?vi211) ?h211 (by kernel_rfl) (by kernel_rfl) (by kernel_rfl) ?q211 (Or.inl ⟨?w211, ?y211⟩) hHeld ?r211
                  case h211 => first | (simp only [List.getElem?_toArray, List.getElem?_cons_zero, List.getElem?_cons_succ]; done) | (simp only [List.getElem?_toArray, List.getElem?_cons_zero, List.getElem?_cons_succ]; exact rfl)
                  case q211 => exact fun _ _ _ h => h
                  case w211 => rfl
                  case y211 =>
                    intro w hSw
                    (try dsimp only at hSw)
                    obtain ⟨s0, s1, s2, s3⟩ := hSw
                    go_simp
                    try with_reducible rfl
                  try simp only [Act.put, List.setIfInBounds_toArray, List.set_cons_zero, List.set_cons_succ]
                  refine wpAnyH_ready (rs := [7]) (by kernel_rfl) (by simp) ?_
                  refine AllReadyH.cons (o := ?ob212) ?hb212 (fun K hK => ?_) AllReadyH.nil
                  case hb212 => first | (simp only [List.getElem?_toArray, List.getElem?_cons_zero, List.getElem?_cons_succ]; done) | (simp only [List.getElem?_toArray, List.getElem?_cons_zero, List.getElem?_cons_succ]; exact rfl)
                  go_simp
                  go_at_call 70
                  refine (HWI.out _).mono ?_
                  rintro e w2 ⟨rfl, rfl⟩
                  go_wp2_with fail
                  refine hK.out _ _ HS1.out (fun hHeld => ?_)
                  clear hK K
                  try simp only [Act.put, List.setIfInBounds_toArray, List.set_cons_zero, List.set_cons_succ]
                  refine wpAnyH_take (i := 8) (oi := ?oi213) (v := ?vi213) ?h213 (by kernel_rfl) (by kernel_rfl) (by kernel_rfl) ?q213 (Or.inl ⟨?w213, ?y213⟩) hHeld ?r213
                  case h213 => first | (simp only [List.getElem?_toArray, List.getElem?_cons_zero, List.getElem?_cons_succ]; done) | (simp only [List.getElem?_toArray, List.getElem?_cons_zero, List.getElem?_cons_succ]; exact rfl)
                  case q213 => exact fun _ _ _ h => h
                  case w213 => rfl
                  case y213 =>
                    intro w hSw
                    (try dsimp only at hSw)
                    obtain ⟨s0, s1, s2, s3⟩ := hSw
                    go_simp
                    try with_reducible rfl
                  try simp only [Act.put, List.setIfInBounds_toArray, List.set_cons_zero, List.set_cons_succ]
                  refine wpAnyH_take (i := 9) (oi := ?oi214) (v := ?vi214) ?h214 (by kernel_rfl) (by kernel_rfl) (by kernel_rfl) ?q214 (Or.inl ⟨?w214, ?y214⟩) hHeld ?r214
                  case h214 => first | (simp only [List.getElem?_toArray, List.getElem?_cons_zero, List.getElem?_cons_succ]; done) | (simp only [List.getElem?_toArray, List.getElem?_cons_zero, List.getElem?_cons_succ]; exact rfl)
                  case q214 => exact fun _ _ _ h => h
                  case w214 => rfl
                  case y214 =>
                    intro w hSw
                    (try dsimp only at hSw)
                    obtain ⟨s0, s1, s2, s3⟩ := hSw
                    go_simp
                    try with_reducible rfl
                  try simp only [Act.put, List.setIfInBounds_toArray, List.set_cons_zero, List.set_cons_succ]
                  refine wpAnyH_take (i := 10) (oi := ?oi215) (v := ?vi215) ?h215 (by kernel_rfl) (by kernel_rfl) (by kernel_rfl) ?q215 (Or.inl ⟨?w215, ?y215⟩) hHeld ?r215
                  case h215 => first | (simp only [List.getElem?_toArray, List.getElem?_cons_zero, List.getElem?_cons_succ]; done) | (simp only [List.getElem?_toArray, List.getElem?_cons_zero, List.getElem?_cons_succ]; exact rfl)
                  case q215 => exact fun _ _ _ h => h
                  case w215 => rfl
                  case y215 =>
                    intro w hSw
                    (try dsimp only at hSw)
                    obtain ⟨s0, s1, s2, s3⟩ := hSw
                    go_simp
                    try with_reducible rfl
                  try simp only [Act.put, List.setIfInBounds_toArray, List.set_cons_zero, List.set_cons_succ]
                  refine wpAnyH_take (i := 11) (oi := ?oi216) (v := ?vi216) ?h216 (by kernel_rfl) (by kernel_rfl) (by kernel_rfl) ?q216 (Or.inl ⟨?w216, ?y216⟩) hHeld ?r216
                  case h216 => first | (simp only [List.getElem?_toArray, List.getElem?_cons_zero, List.getElem?_cons_succ]; done) | (simp only [List.getElem?_toArray, List.getElem?_cons_zero, List.getElem?_cons_succ]; exact rfl)
                  case q216 => exact fun _ _ _ h => h
                  case w216 => rfl
                  case y216 =>
                    intro w hSw
                    (try dsimp only at hSw)
                    obtain ⟨s0, s1, s2, s3⟩ := hSw
                    go_simp
                    try with_reducible rfl
                  try simp only [Act.put, List.setIfInBounds_toArray, List.set_cons_zero, List.set_cons_succ]
                  refine wpAnyH_take (i := 12) (oi := ?oi217) (v := ?vi217) ?h217 (by kernel_rfl) (by kernel_rfl) (by kernel_rfl) ?q217 (Or.inl ⟨?w217, ?y217⟩) hHeld ?r217
                  case h217 => first | (simp only [List.getElem?_toArray, List.getElem?_cons_zero, List.getElem?_cons_succ]; done) | (simp only [List.getElem?_toArray, List.getElem?_cons_zero, List.getElem?_cons_succ]; exact rfl)
                  case q217 => exact fun _ _ _ h => h
                  case w217 => rfl
                  case y217 =>
                    intro w hSw
                    (try dsimp only at hSw)
                    obtain ⟨s0, s1, s2, s3⟩ := hSw
                    go_simp
                    try with_reducible rfl
                  try simp only [Act.put, List.setIfInBounds_toArray, List.set_cons_zero, List.set_cons_succ]
                  refine wpAnyH_take (i := 13) (oi := ?oi218) (v := ?vi218) ?h218 (by kernel_rfl) (by kernel_rfl) (by kernel_rfl) ?q218 (Or.inl ⟨?w218, ?y218⟩) hHeld ?r218
                  case h218 => first | (simp only [List.getElem?_toArray, List.getElem?_cons_zero, List.getElem?_cons_succ]; done) | (simp only [List.getElem?_toArray, List.getElem?_cons_zero, List.getElem?_cons_succ]; exact rfl)
                  case q218 => exact fun _ _ _ h => h
                  case w218 => rfl
                  case y218 =>
                    intro w hSw
                    (try dsimp only at hSw)
                    obtain ⟨s0, s1, s2, s3⟩ := hSw
                    go_simp
                    try with_reducible rfl
                  try simp only [Act.put, List.setIfInBounds_toArray, List.set_cons_zero, List.set_cons_succ]
                  refine wpAnyH_take (i := 14) (oi := ?oi219) (v := ?vi219) ?h219 (by kernel_rfl) (by kernel_rfl) (by kernel_rfl) ?q219 (Or.inl ⟨?w219, ?y219⟩) hHeld ?r219
                  case h219 => first | (simp only [List.getElem?_toArray, List.getElem?_cons_zero, List.getElem?_cons_succ]; done) | (simp only [List.getElem?_toArray, List.getElem?_cons_zero, List.getElem?_cons_succ]; exact rfl)
                  case q219 => exact fun _ _ _ h => h
                  case w219 => rfl
                  case y219 =>
                    intro w hSw
                    (try dsimp only at hSw)
                    obtain ⟨s0, s1, s2, s3⟩ := hSw
                    go_simp
                    try with_reducible rfl
                  try simp only [Act.put, List.setIfInBounds_toArray, List.set_cons_zero, List.set_cons_succ]
                  refine wpAnyH_take (i := 15) (oi := ?oi220) (v := ?vi220) ?h220 (by kernel_rfl) (by kernel_rfl) (by kernel_rfl) ?q220 (Or.inl ⟨?w220, ?y220⟩) hHeld ?r220
                  case h220 => first | (simp only [List.getElem?_toArray, List.getElem?_cons_zero, List.getElem?_cons_succ]; done) | (simp only [List.getElem?_toArray, List.getElem?_cons_zero, List.getElem?_cons_succ]; exact rfl)
                  case q220 => exact fun _ _ _ h => h
                  case w220 => rfl
                  case y220 =>
                    intro w hSw
                    (try dsimp only at hSw)
                    obtain ⟨s0, s1, s2, s3⟩ := hSw
                    go_simp
                    try with_reducible rfl
                  try simp only [Act.put, List.setIfInBounds_toArray, List.set_cons_zero, List.set_cons_succ]
                  refine wpAnyH_take (i := 16) (oi := ?oi221) (v := ?vi221) ?h221 (by kernel_rfl) (by kernel_rfl) (by kernel_rfl) ?q221 (Or.inl ⟨?w221, ?y221⟩) hHeld ?r221
                  case h221 => first | (simp only [List.getElem?_toArray, List.getElem?_cons_zero, List.getElem?_cons_succ]; done) | (simp only [List.getElem?_toArray, List.getElem?_cons_zero, List.getElem?_cons_succ]; exact rfl)
                  case q221 => exact fun _ _ _ h => h
                  case w221 => rfl
                  case y221 =>
                    intro w hSw
                    (try dsimp only at hSw)
                    obtain ⟨s0, s1, s2, s3⟩ := hSw
                    go_simp
                    try with_reducible rfl
                  try simp only [Act.put, List.setIfInBounds_toArray, List.set_cons_zero, List.set_cons_succ]
                  refine wpAnyH_take (i := 17) (oi := ?oi222) (v := ?vi222) ?h222 (by kernel_rfl) (by kernel_rfl) (by kernel_rfl) ?q222 (Or.inl ⟨?w222, ?y222⟩) hHeld ?r222
                  case h222 => first | (simp only [List.getElem?_toArray, List.getElem?_cons_zero, List.getElem?_cons_succ]; done) | (simp only [List.getElem?_toArray, List.getElem?_cons_zero, List.getElem?_cons_succ]; exact rfl)
                  case q222 => exact fun _ _ _ h => h
                  case w222 => rfl
                  case y222 =>
                    intro w hSw
                    (try dsimp only at hSw)
                    obtain ⟨s0, s1, s2, s3⟩ := hSw
                    go_simp
                    try with_reducible rfl
                  try simp only [Act.put, List.setIfInBounds_toArray, List.set_cons_zero, List.set_cons_succ]
                  refine wpAnyH_take (i := 18) (oi := ?oi223) (v := ?vi223) ?h223 (by kernel_rfl) (by kernel_rfl) (by kernel_rfl) ?q223 (Or.inl ⟨?w223, ?y223⟩) hHeld ?r223
                  case h223 => first | (simp only [List.getElem?_toArray, List.getElem?_cons_zero, List.getElem?_cons_succ]; done) | (simp only [List.getElem?_toArray, List.getElem?_cons_zero, List.getElem?_cons_succ]; exact rfl)
                  case q223 => exact fun _ _ _ h => h
                  case w223 => rfl
                  case y223 =>
                    intro w hSw
                    (try dsimp only at hSw)
                    obtain ⟨s0, s1, s2, s3⟩ := hSw
                    go_simp
                    try with_reducible rfl
                  try simp only [Act.put, List.setIfInBounds_toArray, List.set_cons_zero, List.set_cons_succ]
                  refine wpAnyH_take (i := 19) (oi := ?oi224) (v := ?vi224) ?h224 (by kernel_rfl) (by kernel_rfl) (by kernel_rfl) ?q224 (Or.inl ⟨?w224, ?y224⟩) hHeld ?r224
                  case h224 => first | (simp only [List.getElem?_toArray, List.getElem?_cons_zero, List.getElem?_cons_succ]; done) | (simp only [List.getElem?_toArray, List.getElem?_cons_zero, List.getElem?_cons_succ]; exact rfl)
                  case q224 => exact fun _ _ _ h => h
                  case w224 => rfl
                  case y224 =>
                    intro w hSw
                    (try dsimp only at hSw)
                    obtain ⟨s0, s1, s2, s3⟩ := hSw
                    go_simp
                    try with_reducible rfl
                  try simp only [Act.put, List.setIfInBounds_toArray, List.set_cons_zero, List.set_cons_succ]
                  refine wpAnyH_take (i := 20) (oi := ?oi225) (v := ?vi225) ?h225 (by kernel_rfl) (by kernel_rfl) (by kernel_rfl) ?q225 (Or.inl ⟨?w225, ?y225⟩) hHeld ?r225
                  case h225 => first | (simp only [List.getElem?_toArray, List.getElem?_cons_zero, List.getElem?_cons_succ]; done) | (simp only [List.getElem?_toArray, List.getElem?_cons_zero, List.getElem?_cons_succ]; exact rfl)
                  case q225 => exact fun _ _ _ h => h
                  case w225 => rfl
                  case y225 =>
                    intro w hSw
                    (try dsimp only at hSw)
                    obtain ⟨s0, s1, s2, s3⟩ := hSw
                    go_simp
                    try with_reducible rfl
                  try simp only [Act.put, List.setIfInBounds_toArray, List.set_cons_zero, List.set_cons_succ]
                  refine wpAnyH_take (i := 21) (oi := ?oi226) (v := ?vi226) ?h226 (by kernel_rfl) (by kernel_rfl) (by kernel_rfl) ?q226 (Or.inl ⟨?w226, ?y226⟩) hHeld ?r226
                  case h226 => first | (simp only [List.getElem?_toArray, List.getElem?_cons_zero, List.getElem?_cons_succ]; done) | (simp only [List.getElem?_toArray, List.getElem?_cons_zero, List.getElem?_cons_succ]; exact rfl)
                  case q226 => exact fun _ _ _ h => h
                  case w226 => rfl
                  case y226 =>
                    intro w hSw
                    (try dsimp only at hSw)
                    obtain ⟨s0, s1, s2, s3⟩ := hSw
                    go_simp
                    try with_reducible rfl
                  try simp only [Act.put, List.setIfInBounds_toArray, List.set_cons_zero, List.set_cons_succ]
                  refine wpAnyH_take (i := 22) (oi := ?oi227) (v := ?vi227) ?h227 (by kernel_rfl) (by kernel_rfl) (by kernel_rfl) ?q227 (Or.inl ⟨?w227, ?y227⟩) hHeld ?r227
                  case h227 => first | (simp only [List.getElem?_toArray, List.getElem?_cons_zero, List.getElem?_cons_succ]; done) | (simp only [List.getElem?_toArray, List.getElem?_cons_zero, List.getElem?_cons_succ]; exact rfl)
                  case q227 => exact fun _ _ _ h => h
                  case w227 => rfl
                  case y227 =>
                    intro w hSw
                    (try dsimp only at hSw)
                    obtain ⟨s0, s1, s2, s3⟩ := hSw
                    go_simp
                    try with_reducible rfl
                  try simp only [Act.put, List.setIfInBounds_toArray, List.set_cons_zero, List.set_cons_succ]
                  refine wpAnyH_take (i := 23) (oi := ?oi228) (v := ?vi228) ?h228 (by kernel_rfl) (by kernel_rfl) (by kernel_rfl) ?q228 (Or.inl ⟨?w228, ?y228⟩) hHeld ?r228
                  case h228 => first | (simp only [List.getElem?_toArray, List.getElem?_cons_zero, List.getElem?_cons_succ]; done) | (simp only [List.getElem?_toArray, List.getElem?_cons_zero, List.getElem?_cons_succ]; exact rfl)
                  case q228 => exact fun _ _ _ h => h
                  case w228 => rfl
                  case y228 =>
                    intro w hSw
                    (try dsimp only at hSw)
                    obtain ⟨s0, s1, s2, s3⟩ := hSw
                    go_simp
                    try with_reducible rfl
                  try simp only [Act.put, List.setIfInBounds_toArray, List.set_cons_zero, List.set_cons_succ]
                  refine wpAnyH_take (i := 24) (oi := ?oi229) (v := ?vi229) ?h229 (by kernel_rfl) (by kernel_rfl) (by kernel_rfl) ?q229 (Or.inl ⟨?w229, ?y229⟩) hHeld ?r229
                  case h229 => first | (simp only [List.getElem?_toArray, List.getElem?_cons_zero, List.getElem?_cons_succ]; done) | (simp only [List.getElem?_toArray, List.getElem?_cons_zero, List.getElem?_cons_succ]; exact rfl)
                  case q229 => exact fun _ _ _ h => h
                  case w229 => rfl
                  case y229 =>
                    intro w hSw
                    (try dsimp only at hSw)
                    obtain ⟨s0, s1, s2, s3⟩ := hSw
                    go_simp
                    try with_reducible rfl
                  try simp only [Act.put, List.setIfInBounds_toArray, List.set_cons_zero, List.set_cons_succ]
                  refine wpAnyH_take (i := 25) (oi := ?oi230) (v := ?vi230) ?h230 (by kernel_rfl) (by kernel_rfl) (by kernel_rfl) ?q230 (Or.inl ⟨?w230, ?y230⟩) hHeld ?r230
                  case h230 => first | (simp only [List.getElem?_toArray, List.getElem?_cons_zero, List.getElem?_cons_succ]; done) | (simp only [List.getElem?_toArray, List.getElem?_cons_zero, List.getElem?_cons_succ]; exact rfl)
                  case q230 => exact fun _ _ _ h => h
                  case w230 => rfl
                  case y230 =>
                    intro w hSw
                    (try dsimp only at hSw)
                    obtain ⟨s0, s1, s2, s3⟩ := hSw
                    go_simp
                    try with_reducible rfl
                  try simp only [Act.put, List.setIfInBounds_toArray, List.set_cons_zero, List.set_cons_succ]
                  refine wpAnyH_done (by kernel_rfl) ?_ _
                  have hkn := HK.out
                  go_wp2
                  go_roundw
                  case rel => exact ⟨k + 1, by have := HK.out; omega, by go_num, ⟨HR0.out.then F.out, HNX.out⟩⟩
                  case measure => have := HK.out; simp [RowKit.intOf]; omega
        · have hke : k = m := by omega
          subst hke
          have q3 : ((k : Int) < (k : Int)) = False := eq_false (by omega)
          have HOK := Lib.hid (show r = true by
            obtain ⟨a1, a2⟩ := chkT_all (fun j hj => hR.out.2 j hj (by rw [HT.out.1]; exact hj))
            rw [← HT.out.2.2.2]; exact rightS_true ⟨HN9.out.1, HN9.out.2, a1, a2⟩)
          have HFX := Lib.hid (HF1.out.then hR.out.1)
          clear hlt hk
          go_wp2
          go_ret
          exact ⟨ret_bool HOK.out.symm, HFX.out⟩
end Go.Proofs.Ytdfnfkknbjageaa

