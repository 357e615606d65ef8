/- Texts: slices of them, of the call's own; cmp.Compare, cmp.Less; slices.IndexFunc, ContainsFunc, Clone, BinarySearch at texts; BinarySearchFunc at holds, place -/
import Derived.Test.YtenaggleepoclaaGreatJe
namespace Go.Proofs.YtenaggleepoclaaGreat
set_option maxRecDepth 20000
set_option linter.unusedVariables false
set_option linter.unusedSimpArgs false
open Go.RowKit Pm

abbrev TS : TypeId := 9
abbrev TLS : TypeId := 23
def txC (b : Bs) : List Value := [strV b]
theorem txC_len (b : Bs) : (txC b).length = 1 := rfl
theorem txC_one (b : Bs) : ∀ u ∈ txC b, u.oneCell' = true := by
  intro u hu; simp only [txC, List.mem_singleton] at hu; subst hu; rfl
theorem ElAt.tx {w : World} {g o : Nat} {b : Bs} (h : ElAt txC w g o b) : w.cell? ⟨g, o, none⟩ = some (.string (B b)) := by
  have := h.get 0 (strV b) rfl
  rwa [Nat.add_zero] at this
/-- A slice that reads as texts. -/
abbrev Tx (w : World) (v : Value) (l : List Bs) : Prop := Sg txC 1 w v l
theorem Sg.txs {w : World} {v : Value} {l : List Bs} (h : Tx w v l) (h0 : 0 < l.length) : ∃ g o cap, v = .slice (some ⟨g, o, none⟩) l.length cap ∧ ∀ i (h : i < l.length), w.cell? ⟨g, o + i, none⟩ = some (.string (B l[i])) := by
  obtain ⟨g, o, cap, e, hc⟩ := h.at h0
  exact ⟨g, o, cap, e, fun i hi => by have := (hc i hi).tx; rwa [Nat.mul_one] at this⟩
/-- Texts of the call's own, that may be none. -/
abbrev OwS (lo : Nat) (w : World) (v : Value) (l : List Bs) : Prop := OwG TS txC 1 lo w v l
theorem Tryz.infoTx : (Tryz.prog.info? TS).map (fun i => (i.zero, i.size, i.bytes)) = some (some (.string ⟨#[]⟩), 1, 16) := by kernel_rfl
theorem app_ownS (w : World) (lo : Nat) (v : Value) (l m : List Bs) (ty : TypeId) (a : Addr) (n c : Nat) (hv : OwS lo w v l) (hn : n = m.length) (hx : ∀ i (h : i < m.length), w.cell? (a.add i) = some (.string (B m[i]))) (h6 : l.length + m.length ≤ 100000) (hlo : lo ≤ w.heap.size) :
    ∃ v' w', (Builtin.append_ #[TLS, TLS] ty #[v, .slice (some a) n c]).run Tryz.prog w = .ok v' w' ∧ OwS lo w' v' (l ++ m) ∧ w.grownBy w' v.ownBlock ∧ ∀ j, v'.ownBlock = some j → v.ownBlock = some j ∨ w.heap.size ≤ j :=
  app_ownG txC_len txC_one Tryz.underlying23 Tryz.infoTx rfl (by omega) (by omega) w lo v l m ty a n c hv hn (fun i h j u hu => by
    have hj : j = 0 := by have := (List.getElem?_eq_some_iff.1 hu).1; simp [txC] at this; omega
    subst hj
    have : u = .string (B m[i]) := by simpa [txC, strV] using hu.symm
    subst this
    simpa using hx i h) h6 hlo
theorem OwG.waysS {lo : Nat} {w : World} {v : Value} {l : List Bs} (h : OwS lo w v l) : (v = .slice none 0 0 ∧ l = []) ∨ ∃ G cap, v = .slice (some ⟨G, 0, none⟩) l.length cap ∧ lo ≤ G ∧ G < w.heap.size ∧ l.length ≤ cap ∧ cap ≤ maxLen := by
  rcases h.2 with ⟨h0, h1⟩ | ⟨g, cap, cur, e, hb, hg, h1, h2, h3, h4⟩
  · exact .inl ⟨h0, List.eq_nil_of_length_eq_zero h1⟩
  · exact .inr ⟨g, cap, e, hb, (Array.getElem?_eq_some_iff.1 hg).1, h1, h2⟩

/-- What a call that makes texts leaves. -/
structure TxR (w : World) (l : List Bs) (v' : Value) (w' : World) : Prop where
  own : OwS w.heap.size w' v' l
  fp : Fp Non w w'
theorem nil_sliceS (w : World) (a : Addr) (n c : Nat) : (binOp .eql TLS (.slice (some a) n c) (.slice none 0 0)).run Tryz.prog w = .ok (.bool false) w :=
  Lib.run_eql_slice_nil w TLS TS (some a) n c 0 0 Tryz.underlying23
set_option maxHeartbeats 2000000 in
theorem CloneS_c (v : Value) (l : List Bs) (w : World) (hv : Tx w v l) (h5 : l.length ≤ 100000) :
    Calls Tryz.prog 27 #[v] w fun e w' => ∃ v', e = .returned v' ∧ TxR w l v' w' := by
  obtain ⟨ao, cap, rfl, h3⟩ := hv.ex
  cases ao with
  | none =>
    obtain rfl : l = [] := by
      rcases h3 with h | ⟨_, _, h, _⟩
      · exact h
      · cases h
    have hnil : ∀ w : World, (binOp .eql TLS (.slice none 0 cap) (.slice none 0 0)).run Tryz.prog w = .ok (.bool true) w := fun w => Lib.run_eql_slice_nil w TLS TS none 0 cap 0 0 Tryz.underlying23
    clear h3 hv h5
    simp only [List.length_nil]
    go_enter Tryz.func27, Tryz.ntmps27
    go_wp2
    go_ret
    exact ⟨_, rfl, OwG.nil _ _, Fp.refl _ _⟩
  | some a =>
    have hown : OwS w.heap.size (w.alloc (.cells #[] TS)) (.slice (some ⟨w.heap.size, 0, none⟩) 0 0) [] := World.ownsRow_lit w #[] 0 (Nat.le_refl _) (by unfold maxLen; omega) rfl
    have hx : ∀ i (h : i < l.length), (w.alloc (.cells #[] TS)).cell? (a.add i) = some (.string (B l[i])) := fun i hi => by
      rcases h3 with h | ⟨g, o, e, hc⟩
      · subst h; simp at hi
      · injection e with e; subst e
        have := ((hc i hi).keep ((Fp.refl Non w).alloc (.cells #[] TS)) (fun h => h)).tx
        rw [Addr.add_lit]
        rwa [Nat.mul_one] at this
    have hap : ∀ ty, ∃ v' w', (Builtin.append_ #[TLS, TLS] ty #[.slice (some ⟨w.heap.size, 0, none⟩) 0 0, .slice (some a) l.length cap]).run Tryz.prog (w.alloc (.cells #[] TS)) = .ok v' w' ∧ TxR w l v' w' := fun ty => by
      obtain ⟨v', w', hr, ho, hg, _⟩ := app_ownS (w.alloc (.cells #[] TS)) w.heap.size _ [] l ty a l.length cap hown rfl hx (by simp; omega) (by simp)
      exact ⟨v', w', hr, ho, ((Fp.refl Non w).alloc _).grown hg (fun k hk => .inr (by simp [Value.ownBlock] at hk; omega))⟩
    have hnil := nil_sliceS
    have HA2 := Lib.hid (hap TLS)
    clear hap hown hx hv h3 h5
    generalize l.length = n at *
    go_enter Tryz.func27, Tryz.ntmps27
    go_wp2_with (at_builtin; go_must (refine wpList_app rfl _ _ _ _ rfl _ _ rfl rfl (TxR w l) HA2.out ?_))
    intro u w2 hR
    have HR := Lib.hid hR
    clear hR
    go_wp2
    go_ret
    exact ⟨_, rfl, HR.out⟩

set_option maxHeartbeats 1000000 in
theorem may1_c (s : Bs) (w : World) (hs : s.length ≤ 1000000) : Calls Tryz.prog 46 #[.string (B s)] w fun e w' => e = .returned (.bool (!okP s)) ∧ Fp Non w w' := by
  have h := Right_g s w (sz_of hs (by omega))
  unfold okP
  generalize (split s).isSome = b at *
  have H := Lib.hid h
  clear h hs
  go_enter Tryz.func46, Tryz.ntmps46
  go_wp2_with fail
  refine H.out.mono ?_
  rintro e w1 ⟨rfl, hf⟩
  have HF := Lib.hid hf.fp
  clear hf
  go_wp2
  go_ret
  exact ⟨rfl, HF.out⟩
def SSp (l : List Bs) : Prop := ∀ x ∈ l, x.length ≤ 1000000
/-- Where the first one is that is no path. -/
def IdxS (l : List Bs) (z : Int) : Prop := (z = -1 ∧ ∀ n ∈ l, okP n = true) ∨ ∃ i, z = ((i : Nat) : Int) ∧ ∃ h : i < l.length, okP l[i] = false

set_option maxHeartbeats 1000000 in
theorem IndexS_c (v : Value) (l : List Bs) (w : World) (hv : Tx w v l) (hs : SSp l) (hn : l.length ≤ 1000000) :
    Calls Tryz.prog 62 #[v, .func (.func 46) #[] #[]] w fun e w' => (∃ z, e = .returned (.int .i64 z) ∧ IdxS l z) ∧ Fp Non w w' := by
  obtain ⟨ao, cap, rfl⟩ := hv.shape
  obtain ⟨n, hnn⟩ : ∃ n, n = l.length := ⟨_, rfl⟩
  have HX := Lib.hid (And.intro hnn (And.intro hv hs))
  rw [← hnn]
  have hnb : n ≤ 1000000 := by omega
  clear hv hs hn hnn
  go_enter Tryz.func62, Tryz.ntmps62
  go_wp2_with fail
  go_loopw [8] (fun i wr => ∃ k : Nat, k ≤ n ∧ i = .int .i64 k ∧ Hid (Fp Non w wr ∧ ∀ j (hj : j < l.length), j < k → okP l[j] = true)) (fun i _ => n - (RowKit.intOf i).toNat)
  case atStart => exact ⟨0, Nat.zero_le _, rfl, Fp.refl _ _, fun j _ h => absurd h (Nat.not_lt_zero j)⟩
  case round =>
    obtain ⟨k, hk, rfl, hR⟩ := hrel
    rename_i wr _
    by_cases hlt : k < n
    · have hkl : k < l.length := by rw [← HX.out.1]; exact hlt
      obtain ⟨g, o, cap', e, hcell⟩ := HX.out.2.1.txs (by omega)
      injection e with e1 e2 e3
      subst e1 e3
      have hnd := hR.out.1.cell (hcell k hkl) (fun h => h)
      have hcc := may1_c l[k] wr (HX.out.2.2 _ (List.getElem_mem hkl))
      obtain ⟨b, hb⟩ : ∃ b, okP l[k] = b := ⟨_, rfl⟩
      rw [hb] at hcc
      have HL := Lib.hid (And.intro hkl hlt)
      have hnew : b = true → ∀ j (hj : j < l.length), j < k + 1 → okP l[j] = true := fun h j hj hjk => by
        rcases Nat.lt_or_eq_of_le (show j ≤ k by omega) with e | e
        · exact hR.out.2 j hj e
        · subst e; rw [hb, h]
      have hfin : b = false → IdxS l (k : Int) := fun h => .inr ⟨k, rfl, hkl, by rw [hb, h]⟩
      have HN := Lib.hid (And.intro hnew hfin)
      clear hnew hfin hb hcell
      generalize l[k] = x at *
      have q3 : ((k : Int) < (n : Int)) = True := eq_true (by omega)
      have q4 : (k < n) = True := eq_true hlt
      have HCC := Lib.hid hcc
      clear hcc hkl hlt
      go_wp2_with fail
      refine HCC.out.mono ?_
      rintro e w2 ⟨rfl, hf2⟩
      have HF := Lib.hid (hR.out.1.then hf2)
      clear hf2
      cases b with
      | false =>
        have hI := HN.out.2 rfl
        have HI := Lib.hid hI
        clear HN hI
        go_wp2
        go_ret
        exact ⟨⟨_, rfl, HI.out⟩, HF.out⟩
      | true =>
        have hM : Hid (Fp Non w w2 ∧ ∀ j (hj : j < l.length), j < k + 1 → okP l[j] = true) := ⟨HF.out, HN.out.1 rfl⟩
        have hkn := HL.out.2
        clear HN
        go_wp2
        go_roundw
        case rel => exact ⟨k + 1, by omega, by go_num, hM⟩
        case measure => simp [RowKit.intOf]; omega
    · have hke : k = n := by omega
      subst hke
      have q3 : ((k : Int) < (k : Int)) = False := eq_false (by omega)
      have hI : IdxS l (-1) := .inl ⟨rfl, fun x hx => by
        obtain ⟨i, hi, rfl⟩ := List.getElem_of_mem hx
        exact hR.out.2 i hi (by rw [HX.out.1]; exact hi)⟩
      have HI := Lib.hid hI
      clear hlt hk hI
      go_wp2
      go_ret
      exact ⟨⟨_, rfl, HI.out⟩, hR.out.1⟩
theorem IdxS.pos {l : List Bs} {z : Int} (h : IdxS l z) : decide (0 ≤ z) = !l.all okP := by
  rcases h with ⟨rfl, h⟩ | ⟨i, rfl, hi, h⟩
  · have : l.all okP = true := List.all_eq_true.2 h
    rw [this]; rfl
  · have : l.all okP = false := by
      rw [List.all_eq_false]; exact ⟨_, List.getElem_mem hi, by simp [h]⟩
    rw [this]; simp
set_option maxHeartbeats 1000000 in
theorem ContainsS_c (v : Value) (l : List Bs) (w : World) (hv : Tx w v l) (hs : SSp l) (hn : l.length ≤ 1000000) :
    Calls Tryz.prog 45 #[v, .func (.func 46) #[] #[]] w fun e w' => e = .returned (.bool (!l.all okP)) ∧ Fp Non w w' := by
  have hi := IndexS_c v l w hv hs hn
  have HI := Lib.hid hi
  obtain ⟨ao, cap, rfl⟩ := hv.shape
  clear hi hv hs hn
  go_enter Tryz.func45, Tryz.ntmps45
  go_wp2_with fail
  refine HI.out.mono ?_
  rintro e w1 ⟨⟨z, rfl, hz⟩, hf⟩
  have hp := hz.pos
  have HF := Lib.hid (And.intro hp hf)
  clear hz hf hp
  go_wp2
  go_ret
  exact ⟨ret_bool HF.out.1, HF.out.2⟩

set_option maxHeartbeats 400000 in
theorem isNaN1_c (s : Bs) (w : World) : Calls Tryz.prog 75 #[.string (B s)] w fun e w' => e = .returned (.bool false) ∧ w' = w := by
  go_enter Tryz.func75, Tryz.ntmps75
  go_wp2
  go_ret
  exact ⟨by simp, rfl⟩
set_option maxHeartbeats 400000 in
theorem isNaN2_c (s : Bs) (w : World) : Calls Tryz.prog 66 #[.string (B s)] w fun e w' => e = .returned (.bool false) ∧ w' = w := by
  go_enter Tryz.func66, Tryz.ntmps66
  go_wp2
  go_ret
  exact ⟨by simp, rfl⟩
set_option maxHeartbeats 1000000 in
theorem Less_c (a b : Bs) (w : World) : Calls Tryz.prog 65 #[.string (B a), .string (B b)] w fun e w' => e = .returned (.bool (lt a b)) ∧ w' = w := by
  go_enter Tryz.func65, Tryz.ntmps65
  go_wp2_with fail
  refine (isNaN1_c _ _).mono ?_
  rintro e w1 ⟨rfl, rfl⟩
  go_wp2
  go_ret
  exact ⟨rfl, rfl⟩
/-- cmp.Compare's number. -/
def cmpI (a b : Bs) : Int := if lt a b = true then -1 else if a = b then 0 else 1
set_option maxHeartbeats 1000000 in
theorem Compare_c (a b : Bs) (w : World) : Calls Tryz.prog 59 #[.string (B a), .string (B b)] w fun e w' => e = .returned (.int .i64 (cmpI a b)) ∧ w' = w := by
  cases h1 : lt a b with
  | true =>
    have e : cmpI a b = -1 := by unfold cmpI; rw [if_pos h1]
    rw [e]
    have q1 : Op.bytesLess a b = true := h1
    clear e h1
    go_enter Tryz.func59, Tryz.ntmps59
    go_wp2_with fail
    refine (isNaN1_c _ _).mono ?_
    rintro e w1 ⟨rfl, rfl⟩
    go_wp2_with fail
    refine (isNaN1_c _ _).mono ?_
    rintro e w1 ⟨rfl, rfl⟩
    go_wp2
    go_ret
    exact ⟨rfl, rfl⟩
  | false =>
    have q1 : Op.bytesLess a b = false := h1
    by_cases h2 : a = b
    · subst h2
      have e : cmpI a a = 0 := by unfold cmpI; rw [if_neg (by rw [h1]; exact Bool.false_ne_true), if_pos rfl]
      rw [e]
      have q2 : (a == a) = true := beq_self_eq_true a
      clear e h1
      go_enter Tryz.func59, Tryz.ntmps59
      go_wp2_with fail
      refine (isNaN1_c _ _).mono ?_
      rintro e w1 ⟨rfl, rfl⟩
      go_wp2_with fail
      refine (isNaN1_c _ _).mono ?_
      rintro e w1 ⟨rfl, rfl⟩
      go_wp2
      go_ret
      exact ⟨rfl, rfl⟩
    · have e : cmpI a b = 1 := by unfold cmpI; rw [if_neg (by rw [h1]; exact Bool.false_ne_true), if_neg h2]
      rw [e]
      have q2 : (a == b) = false := beq_eq_false_iff_ne.2 h2
      clear e h1 h2
      go_enter Tryz.func59, Tryz.ntmps59
      go_wp2_with fail
      refine (isNaN1_c _ _).mono ?_
      rintro e w1 ⟨rfl, rfl⟩
      go_wp2_with fail
      refine (isNaN1_c _ _).mono ?_
      rintro e w1 ⟨rfl, rfl⟩
      go_wp2
      go_ret
      exact ⟨rfl, rfl⟩
end Go.Proofs.YtenaggleepoclaaGreat
