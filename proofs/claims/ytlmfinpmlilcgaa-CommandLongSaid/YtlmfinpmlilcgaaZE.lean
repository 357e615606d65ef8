/- Texts of this proof, merged. -/
import Derived.Test.YtlmfinpmlilcgaaZD
import Derived.Test.YtlmfinpmlilcgaaZC
set_option linter.unusedVariables false
set_option linter.unusedSimpArgs false
/- A store's turns: rows of the call's own that may be none at all; Clone, Insert, Delete at them (gen_twin.py) -/
namespace Go.Proofs.Ytlmfinpmlilcgaa
set_option maxRecDepth 20000
open Go.RowKit Pm

/-- Nodes of the call's own, from block lo on; they may be none at all. -/
def OwT (lo : Nat) (w : World) (v : Value) (l : List Tu) : Prop := w.ownsRow lo TU 2 v l.length (rowsT l)
theorem OwT.ways {lo : Nat} {w : World} {v : Value} {l : List Tu} (h : OwT lo w v l) : (v = .slice none 0 0 ∧ l = []) ∨ ∃ G cap, v = .slice (some ⟨G, 0, none⟩) l.length cap ∧ Tr2 w G cap l ∧ lo ≤ G := by
  have h' := h
  unfold OwT at h'
  rcases h'.2 with ⟨h0, h1⟩ | ⟨g, cap, cur, e, hb, hg, h1, h2, h3, h4⟩
  · refine .inl ⟨h0, ?_⟩
    cases l with
    | nil => rfl
    | cons x l => simp at h1
  · refine .inr ⟨g, cap, e, ?_⟩
    unfold OwT at h
    rw [e] at h
    exact Tr2.of_owns h rfl
theorem OwT.ns {lo : Nat} {w : World} {v : Value} {l : List Tu} (h : OwT lo w v l) : Ts w v l := by
  rcases h.ways with ⟨rfl, rfl⟩ | ⟨G, cap, rfl, h1, _⟩
  · exact Ts.nil w
  · exact h1.ns
theorem OwT.row {lo : Nat} {w : World} {G cap : Nat} {l : List Tu} (h : Tr2 w G cap l) (hlo : lo ≤ G) : OwT lo w (.slice (some ⟨G, 0, none⟩) l.length cap) l := h.owns hlo
theorem OwT.nil (lo : Nat) (w : World) : OwT lo w (.slice none 0 0) [] := ⟨rfl, .inl ⟨rfl, rfl⟩⟩
theorem OwT.keep {lo : Nat} {w w' : World} {v : Value} {l : List Tu} (h : OwT lo w v l) {S : Nat → Prop} (f : Fp S w w') (hS : ∀ k, v.ownBlock = some k → ¬ S k) : OwT lo w' v l := by
  rcases h.ways with ⟨rfl, rfl⟩ | ⟨G, cap, rfl, h1, h2⟩
  · exact OwT.nil lo w'
  · exact OwT.row (h1.keep f (hS G rfl)) h2
theorem OwT.non {lo : Nat} {w w' : World} {v : Value} {l : List Tu} (h : OwT lo w v l) (f : Fp Non w w') : OwT lo w' v l := h.keep f (fun _ _ h => h)
theorem OwT.low {lo : Nat} {w : World} {v : Value} {l : List Tu} (h : OwT lo w v l) : ∀ k, v.ownBlock = some k → lo ≤ k := by
  rcases h.ways with ⟨rfl, rfl⟩ | ⟨G, cap, rfl, _, h2⟩
  · intro k hk; simp [Value.ownBlock] at hk
  · intro k hk; simp [Value.ownBlock] at hk; omega

/-- Some slice of nodes behind nodes of the call's own, all cases. -/
theorem appT_own (w : World) (lo : Nat) (v : Value) (l m : List Tu) (ty : TypeId) (a : Addr) (n c : Nat) (hv : OwT lo w v l) (hn : n = m.length) (hx : ∀ i (h : i < m.length) j u, (tuC m[i])[j]? = some u → w.cell? (a.add (i * 2 + j)) = some u) (h6 : l.length + m.length ≤ 100000) (hlo : lo ≤ w.heap.size) :
    ∃ v' w', (Builtin.append_ #[TUL, TUL] ty #[v, .slice (some a) n c]).run Try.prog w = .ok v' w' ∧ OwT lo w' v' (l ++ m) ∧ w.grownBy w' v.ownBlock ∧ ∀ k, v'.ownBlock = some k → v.ownBlock = some k ∨ w.heap.size ≤ k := by
  obtain ⟨i, hi, hz, hsz, hby⟩ := info_parts Try.infoU
  subst hn
  obtain ⟨v', w', hr, h4, h5, _, h8⟩ := run_append_own_at (P := Try.prog) w lo TUL ty TU i _ 2 24 Try.underlying24 hi hz hsz hby rfl (by decide) v l.length (rowsT l) hv a m.length c (rowsT m) (rowsT_len m)
    (fun j u hu => by
      have hj : j < m.length * 2 := by rw [← rowsT_len]; exact (List.getElem?_eq_some_iff.1 hu).1
      have hd : j / 2 < m.length := by omega
      have e : j / 2 * 2 + j % 2 = j := by omega
      rw [← e, rowsT_get m (j / 2) (j % 2) hd (by omega)] at hu
      have := hx (j / 2) hd (j % 2) u hu
      rwa [e] at this)
    (rowsT_one m) (by unfold maxLen; omega) (by omega) hlo
  refine ⟨v', w', hr, ?_, h5, fun k hk => ?_⟩
  · unfold OwT
    rw [rowsT_app, List.length_append]; exact h4
  · rcases h8 with e | e
    · exact .inl (by rw [← e]; exact hk)
    · rw [hk] at e; injection e with e; exact .inr (by omega)

/-- Nodes of the call's own, behind one call. -/
structure OwTR (w : World) (l : List Tu) (v' : Value) (w' : World) : Prop where
  own : OwT w.heap.size w' v' l
  fp : Fp Non w w'

/-- What a change of nodes of the call's own leaves. -/
structure ChTR (lo : Nat) (w : World) (v : Value) (l : List Tu) (v' : Value) (w' : World) : Prop where
  own : OwT lo w' v' l
  fp : Fp (fun k => v.ownBlock = some k) w w'
  new : ∀ k, v'.ownBlock = some k → v.ownBlock = some k ∨ w.heap.size ≤ k

end Go.Proofs.Ytlmfinpmlilcgaa

/- What is so, and stays so. -/
namespace Go.Proofs.Ytlmfinpmlilcgaa
set_option maxRecDepth 20000
open Go.RowKit Pm

/-- What is so, and stays so, whatever is made besides. -/
def Kp (P : World → Prop) (W : World) : Prop := ∀ W', Fp Non W W' → P W'
theorem Kp.later {P : World → Prop} {W W' : World} (h : Kp P W) (f : Fp Non W W') : Kp P W' := fun W2 g => h W2 (f.then g)
theorem Kp.now {P : World → Prop} {W : World} (h : Kp P W) : P W := h W (Fp.refl _ _)
theorem Kp.and {P Q : World → Prop} {W : World} (h : Kp P W) (k : Kp Q W) : Kp (fun W' => P W' ∧ Q W') W := fun W' f => ⟨h W' f, k W' f⟩
theorem Kp.fp {w W : World} (h : Fp Non w W) : Kp (fun W' => Fp Non w W') W := fun W' f => h.then f
theorem Kp.row {W : World} {b : Nat} {o : Obj} (h : W.heap[b]? = some o) : Kp (fun W' => W'.heap[b]? = some o) W := fun W' f => f.heap h (fun h => h)
theorem Kp.ns {W : World} {v : Value} {l : List Nd} (h : Ns W v l) : Kp (fun W' => Ns W' v l) W := fun W' f => h.non f
theorem Kp.nd {W : World} {g o : Nat} {x : Nd} (h : NdAt W g o x) : Kp (fun W' => NdAt W' g o x) W := fun W' f => h.keep f (fun h => h)
theorem fp_alloc (W : World) (o : Obj) : Fp Non W (W.alloc o) := (Fp.refl Non W).alloc o
theorem few_sp {l : List Nd} (h : l.length ≤ 1667 ∧ ∀ x ∈ l, x.path.length ≤ 5000 ∧ x.data.length ≤ 5000) : Sp l := fun x hx => by have := (h.2 x hx).1; omega
theorem tr_few {l : List Nd} (h : Tr l) : l.length ≤ 1000000 ∧ Sp l := ⟨by have := h.most; omega, fun x hx => by
  obtain ⟨ps, hs⟩ := h.valid hx
  obtain ⟨hP, e⟩ := (split_iff _ _).1 hs
  have := joinP_len hP
  rw [e] at this; omega⟩
end Go.Proofs.Ytlmfinpmlilcgaa

/- Small functions of package part. -/
namespace Go.Proofs.Ytlmfinpmlilcgaa
set_option maxRecDepth 20000
set_option linter.unusedVariables false
set_option linter.unusedSimpArgs false
open Go.RowKit Pm

set_option maxHeartbeats 400000 in
theorem upP_c (p : Bs) (w : World) (hl : p.length ≤ 1000000) :
    Calls Try.prog 64 #[.string (B p)] w fun e w' => e = .returned (.string (B (upB p))) ∧ Fp Non w w' := by
  have hpa := fun w => Parent_g p w (sz_of hl (by omega))
  cases h : parent p with
  | none =>
    rw [h] at hpa
    simp only [Option.getD_none, Option.isSome_none] at hpa
    have e : upB p = [47] := by unfold upB; rw [h]; rfl
    rw [e]
    have HP := Lib.hid hpa
    clear hpa hl h e
    go_enter Try.func64, Try.ntmps64
    go_wp2_with fail
    refine (HP.out _).mono ?_
    rintro e w1 ⟨rfl, g1⟩
    have F := Lib.hid g1.fp
    clear g1
    go_wp2
    go_ret
    exact ⟨rfl, F.out⟩
  | some u =>
    rw [h] at hpa
    simp only [Option.getD_some, Option.isSome_some] at hpa
    have e : upB p = u := by unfold upB; rw [h]; rfl
    rw [e]
    have HP := Lib.hid hpa
    clear hpa hl h e
    go_enter Try.func64, Try.ntmps64
    go_wp2_with fail
    refine (HP.out _).mono ?_
    rintro e w1 ⟨rfl, g1⟩
    have F := Lib.hid g1.fp
    clear g1
    go_wp2
    go_ret
    exact ⟨rfl, F.out⟩

set_option maxHeartbeats 1000000 in
theorem keptAt_c (k : Int) (p : Bs) (w : World) (hl : p.length ≤ 1000000) :
    Calls Try.prog 58 #[.int .i64 k, .string (B p)] w fun e w' => e = .returned (.string (B (keptAt k p))) ∧ Fp Non w w' := by
  have hup := fun w => upP_c p w hl
  have HU := Lib.hid hup
  by_cases h : k = 4 ∨ k = 9 ∨ k = 10
  · have e : keptAt k p = p := by unfold keptAt; rw [if_pos h]
    rw [e]
    clear hup hl e
    rcases h with rfl | rfl | rfl
    · go_enter Try.func58, Try.ntmps58
      go_wp2
      go_ret
      exact ⟨rfl, Fp.refl _ _⟩
    · go_enter Try.func58, Try.ntmps58
      go_wp2
      go_ret
      exact ⟨rfl, Fp.refl _ _⟩
    · go_enter Try.func58, Try.ntmps58
      go_wp2
      go_ret
      exact ⟨rfl, Fp.refl _ _⟩
  · have e : keptAt k p = upB p := by unfold keptAt; rw [if_neg h]
    rw [e]
    have q4 : (k == 4) = false := beq_eq_false_iff_ne.2 (fun e => h (.inl e))
    have q9 : (k == 9) = false := beq_eq_false_iff_ne.2 (fun e => h (.inr (.inl e)))
    have q10 : (k == 10) = false := beq_eq_false_iff_ne.2 (fun e => h (.inr (.inr e)))
    clear hup hl e h
    go_enter Try.func58, Try.ntmps58
    go_wp2_with fail
    refine (HU.out _).mono ?_
    rintro e w1 ⟨rfl, hf⟩
    have F := Lib.hid hf
    clear hf
    go_wp2
    go_ret
    exact ⟨rfl, F.out⟩

theorem withinP_c (n a b : Int) (w : World) :
    Calls Try.prog 59 #[.int .i64 n, .int .i64 a, .int .i64 b] w fun e w' => e = .returned (.bool (decide (a ≤ n ∧ n ≤ b))) ∧ w = w' := by
  go_enter Try.func59, Try.ntmps59
  go_wp2
  all_goals (go_ret; refine ⟨ret_bool ?_, rfl⟩; simp; omega)
theorem withinP_d (n a b : Int) (w : World) (r : Bool) (hr : decide (a ≤ n ∧ n ≤ b) = r) :
    Calls Try.prog 59 #[.int .i64 n, .int .i64 a, .int .i64 b] w fun e w' => e = .returned (.bool r) ∧ w = w' := by
  rw [← hr]; exact withinP_c n a b w

theorem boxP5 {w : World} {b : Nat} {T : TypeId} {c0 c1 c2 c3 c4 : Value} (h : w.heap[b]? = some (.cells #[c0, c1, c2, c3, c4] T (0, 0))) :
    w.cell? ⟨b, 0, none⟩ = some c0 ∧ w.cell? ⟨b, 1, none⟩ = some c1 ∧ w.cell? ⟨b, 2, none⟩ = some c2 ∧ w.cell? ⟨b, 3, none⟩ = some c3 ∧ w.cell? ⟨b, 4, none⟩ = some c4 :=
  ⟨by rw [cell_of_row _ _ _ _ _ _ h]; rfl, by rw [cell_of_row _ _ _ _ _ _ h]; rfl, by rw [cell_of_row _ _ _ _ _ _ h]; rfl, by rw [cell_of_row _ _ _ _ _ _ h]; rfl, by rw [cell_of_row _ _ _ _ _ _ h]; rfl⟩

set_option maxHeartbeats 8000000 in
theorem fitsP_c (n : Nd) (w : World) (hl : n.path.length ≤ 1000000) :
    Calls Try.prog 60 #[ndV n] w fun e w' => e = .returned (.bool (sfit n)) ∧ Fp Non w w' := by
  have hri := fun w => Right_g n.path w (sz_of hl (by omega))
  obtain ⟨p, d, v, t, o⟩ := n
  obtain ⟨sp, hsp⟩ : ∃ b, (split p).isSome = b := ⟨_, rfl⟩
  simp only at hri
  rw [hsp] at hri
  obtain ⟨b1, h1⟩ : ∃ r, decide ((0 : Int) ≤ v ∧ v ≤ 281474976710656) = r := ⟨_, rfl⟩
  obtain ⟨b3, h3⟩ : ∃ r, decide ((0 : Int) ≤ o ∧ o ≤ 1099511627776) = r := ⟨_, rfl⟩
  obtain ⟨k, hk⟩ : ∃ k, k = d.length := ⟨_, rfl⟩
  have W1 := Lib.hid (fun w => withinP_d v 0 281474976710656 w b1 h1)
  have W3 := Lib.hid (fun w => withinP_d o 0 1099511627776 w b3 h3)
  obtain ⟨r, hr⟩ : ∃ r, sfit ⟨p, d, v, t, o⟩ = r := ⟨_, rfl⟩
  have key : r = (sp && decide (k ≤ 256) && decide (t = 0) && !(decide (p = [47]) && decide (o ≠ 0)) && b1 && b3) := by
    rw [← hr, ← hsp, ← h1, ← h3, hk]
    by_cases a1 : p = [47] <;> by_cases a2 : o = 0 <;> (rw [Bool.eq_iff_iff, sfit_iff]; simp [a1, a2, and_assoc])
  have HR := Lib.hid hri
  have HK := Lib.hid key
  rw [hr]
  have hf0 := fp_alloc w (.cells #[.string (B p), .string (B d), .int .i64 v, .int .i64 t, .int .i64 o] TN)
  have hb0 := heap_alloc_new w (.cells #[.string (B p), .string (B d), .int .i64 v, .int .i64 t, .int .i64 o] TN)
  have HF0 := Lib.hid (And.intro hf0 hb0)
  unfold ndV strV
  clear hri hsp h1 h3 hr key hf0 hb0 hl
  cases sp with
  | false =>
    clear hk
    go_enter Try.func60, Try.ntmps60
    go_wp2_with fail
    refine (HR.out _).mono ?_
    rintro e w1 ⟨rfl, g1⟩
    have F := Lib.hid (HF0.out.1.then g1.fp)
    clear g1
    go_wp2
    go_ret
    exact ⟨ret_bool (by rw [HK.out]; rfl), F.out⟩
  | true =>
    have fin : ∀ c : Bool, (decide (k ≤ 256) && decide (t = 0) && !(decide (p = [47]) && decide (o ≠ 0)) && b1 && b3) = c → r = c := fun c h => by rw [HK.out, ← h]; rfl
    have HFin := Lib.hid fin
    clear fin HK
    by_cases hd : k ≤ 256
    · have q1 : ((256 : Int) < (d.length : Int)) = False := eq_false (by omega)
      by_cases ht : t = 0
      · have q2 : (t != 0) = false := by simp [ht]
        by_cases hp : p = [47]
        · subst hp
          by_cases ho : o = 0
          · have q3 : (o != 0) = false := by simp [ho]
            have Q := Lib.hid (And.intro hd (And.intro ht ho))
            clear hd hk ht ho
            go_enter Try.func60, Try.ntmps60
            go_wp2_with fail
            refine (HR.out _).mono ?_
            rintro e w1 ⟨rfl, g1⟩
            have F := Lib.hid (HF0.out.1.then g1.fp)
            obtain ⟨c0, c1, c2, c3, c4⟩ := boxP5 (g1.fp.heap HF0.out.2 (fun h => h))
            clear g1
            cases b1 <;> cases b3
            all_goals
              go_wp2_with (first
                | (go_at_call_of 59 v; refine (W1.out _).mono ?_; rintro e w2 ⟨rfl, rfl⟩)
                | (go_at_call_of 59 o; refine (W3.out _).mono ?_; rintro e w2 ⟨rfl, rfl⟩))
              go_ret
              exact ⟨ret_bool (HFin.out _ (by simp [Q.out])).symm, F.out⟩
          · have q3 : (o != 0) = true := by simp [ho]
            have Q := Lib.hid (And.intro hd (And.intro ht ho))
            clear hd hk ht ho
            go_enter Try.func60, Try.ntmps60
            go_wp2_with fail
            refine (HR.out _).mono ?_
            rintro e w1 ⟨rfl, g1⟩
            have F := Lib.hid (HF0.out.1.then g1.fp)
            obtain ⟨c0, c1, c2, c3, c4⟩ := boxP5 (g1.fp.heap HF0.out.2 (fun h => h))
            clear g1
            go_wp2
            go_ret
            exact ⟨ret_bool (HFin.out _ (by simp [Q.out])).symm, F.out⟩
        · have q4 : (p == [47]) = false := by simpa using hp
          have Q := Lib.hid (And.intro hd (And.intro ht hp))
          clear hd hk ht hp
          go_enter Try.func60, Try.ntmps60
          go_wp2_with fail
          refine (HR.out _).mono ?_
          rintro e w1 ⟨rfl, g1⟩
          have F := Lib.hid (HF0.out.1.then g1.fp)
          obtain ⟨c0, c1, c2, c3, c4⟩ := boxP5 (g1.fp.heap HF0.out.2 (fun h => h))
          clear g1
          cases b1 <;> cases b3
          all_goals
            go_wp2_with (first
              | (go_at_call_of 59 v; refine (W1.out _).mono ?_; rintro e w2 ⟨rfl, rfl⟩)
              | (go_at_call_of 59 o; refine (W3.out _).mono ?_; rintro e w2 ⟨rfl, rfl⟩))
            go_ret
            exact ⟨ret_bool (HFin.out _ (by simp [Q.out])).symm, F.out⟩
      · have q2 : (t != 0) = true := by simp [ht]
        have Q := Lib.hid (And.intro hd ht)
        clear hd hk ht
        go_enter Try.func60, Try.ntmps60
        go_wp2_with fail
        refine (HR.out _).mono ?_
        rintro e w1 ⟨rfl, g1⟩
        have F := Lib.hid (HF0.out.1.then g1.fp)
        obtain ⟨c0, c1, c2, c3, c4⟩ := boxP5 (g1.fp.heap HF0.out.2 (fun h => h))
        clear g1
        go_wp2
        go_ret
        exact ⟨ret_bool (HFin.out _ (by simp [Q.out])).symm, F.out⟩
    · have q1 : ((256 : Int) < (d.length : Int)) = True := eq_true (by omega)
      have Q := Lib.hid hd
      clear hd hk
      go_enter Try.func60, Try.ntmps60
      go_wp2_with fail
      refine (HR.out _).mono ?_
      rintro e w1 ⟨rfl, g1⟩
      have F := Lib.hid (HF0.out.1.then g1.fp)
      obtain ⟨c0, c1, c2, c3, c4⟩ := boxP5 (g1.fp.heap HF0.out.2 (fun h => h))
      clear g1
      go_wp2
      go_ret
      exact ⟨ret_bool (HFin.out _ (by simp [Q.out])).symm, F.out⟩
end Go.Proofs.Ytlmfinpmlilcgaa

