/- A text of this proof. -/
import Derived.Test.YtphoglepiegeiaaGreatDoorZDE
import Derived.Test.YtphoglepiegeiaaGreatDoorZDH
import Derived.Test.YtphoglepiegeiaaGreatDoorZDI
import Derived.Test.YtphoglepiegeiaaGreatDoorZDJ
set_option linter.unusedSimpArgs false
set_option linter.unusedVariables false
namespace Go.Proofs.YtphoglepiegeiaaGreatDoor
set_option maxRecDepth 20000
open Go.RowKit Pm
theorem nil_sliceT (w : World) (a : Addr) (n c : Nat) : (binOp .eql TUL (.slice (some a) n c) (.slice none 0 0)).run Tryz.prog w = .ok (.bool false) w :=
 Lib.run_eql_slice_nil w TUL TU (some a) n c 0 0 Tryz.underlying23
set_option maxHeartbeats 1000000 in
theorem turnPlace1_c (n : Tu) (p : Bs) (w : World) :
  Calls Tryz.prog 183 #[tuV n, .string (B p)] w fun e w' => e = .returned (.int .i64 (cmpI n.dir p)) ∧ Fp Non w w' := by
 obtain ⟨np, t⟩ := n
 unfold tuV strV
 have hf : ∀ o, Fp Non w (w.alloc o) := fun o => (Fp.refl Non w).alloc o
 have hc := fun w => Tryz.strings_Compare (B np) (B p) w
 have e : ∀ l : Bs, (B l).data.toList = l := fun l => by unfold B; rfl
 simp only [e, cmp_eq] at hc
 have HF := Lib.hid hf
 have HC := Lib.hid hc
 clear hf hc e
 go_enter Tryz.func183, Tryz.ntmps183
 go_wp2_with fail
 refine (HC.out _).mono ?_
 rintro e w1 ⟨rfl, rfl⟩
 go_wp2
 go_ret
 exact ⟨rfl, HF.out _⟩
structure BsT (l : List Tu) (p : Bs) (w : World) (i j : Nat) (wr : World) : Prop where
 fp : Fp Non w wr
 lo : ∀ x (h : x < l.length), x < i → lt l[x].dir p = true
 hi : ∀ x (h : x < l.length), j ≤ x → lt l[x].dir p = false
 ij : i ≤ j
 jn : j ≤ l.length
set_option maxHeartbeats 2000000 in
theorem SearchT_c (v : Value) (l : List Tu) (p : Bs) (w : World) (hv : Ts w v l) (ha : AscT l) (hn : l.length ≤ 1000000) :
  Calls Tryz.prog 182 #[v, .string (B p), .func (.func 183) #[] #[]] w fun e w' => e = .returned (.tuple #[.int .i64 (placeT l p), .bool (findT l p).isSome]) ∧ Fp Non w w' := by
 obtain ⟨ao, cap, rfl⟩ := hv.shape
 obtain ⟨n, hnn⟩ : ∃ n, n = l.length := ⟨_, rfl⟩
 have HX := Lib.hid (And.intro hnn (And.intro hv ha))
 have H0 : Hid (BsT l p w 0 n w) := ⟨Fp.refl _ _, fun x _ h => absurd h (Nat.not_lt_zero x), fun x h1 h2 => by omega, Nat.zero_le _, by omega⟩
 rw [← hnn]
 have hnb : n ≤ 1000000 := by omega
 clear hv ha hn hnn
 go_enter Tryz.func182, Tryz.ntmps182
 go_wp2_with fail
 go_loopw [9, 10] (fun i j wr => ∃ a b : Nat, a ≤ n ∧ b ≤ n ∧ i = .int .i64 a ∧ j = .int .i64 b ∧ Hid (BsT l p w a b wr)) (fun i j _ => (RowKit.intOf j).toNat - (RowKit.intOf i).toNat)
 case atStart => exact ⟨0, n, Nat.zero_le _, Nat.le_refl _, rfl, rfl, H0⟩
 obtain ⟨a, b, han, hbn, rfl, rfl, hR⟩ := hrel
 rename_i wr _
 by_cases hlt : a < b
 ·obtain ⟨h, hh⟩ : ∃ h, h = (a + b) / 2 := ⟨_, rfl⟩
  have hab : a ≤ h ∧ h < b := by omega
  have he : ((a : Int) + (b : Int)) / 2 = (h : Int) := by omega
  have hhl : h < l.length := by rw [← HX.out.1]; omega
  have q5 : (h < n) = True := eq_true (by omega)
  have q6 : ((h : Int) < (n : Int)) = True := eq_true (by omega)
  obtain ⟨g, o, cap', e, _, _, _, hcell⟩ := HX.out.2.1.at (by omega)
  injection e with e1 e2 e3
  subst e1 e3
  have hnd := (hcell h hhl).keep hR.out.fp id
  have hdn : lt l[h].dir p = true → ∀ x (hx : x < l.length), x < h + 1 → lt l[x].dir p = true := fun k x hx hxh => by
   rcases Nat.lt_or_eq_of_le (show x ≤ h by omega) with e | e
   ·exact lt_trans (HX.out.2.2 x h hx hhl e) k
   subst e; exact k
  have hup : lt l[h].dir p = false → ∀ x (hx : x < l.length), h ≤ x → lt l[x].dir p = false := fun k x hx hxh => by
   rcases Nat.lt_or_eq_of_le hxh with e | e
   ·cases c : lt l[x].dir p with
    | false => rfl
    | true => rw [lt_trans (HX.out.2.2 h x hhl hx e) c] at k; cases k
   subst e; exact k
  have hpc := fun w => turnPlace1_c l[h] p w
  have HB := Lib.hid (And.intro hdn hup)
  have HA := Lib.hid (And.intro hab (And.intro han hbn))
  clear hcell hdn hup hh han hbn
  generalize l[h] = y at *
  have c0 := hnd.c0; have c1 := hnd.c1
  unfold strV at c0
  unfold tuV strV at hpc
  have q3 : ((a : Int) < (b : Int)) = True := eq_true (by omega)
  have q4 : (a < b) = True := eq_true hlt
  have hcmp : ∃ z, cmpI y.dir p = z := ⟨_, rfl⟩
  obtain ⟨z, hz⟩ := hcmp
  rw [hz] at hpc
  have HPC := Lib.hid hpc
  have hhb : h ≤ 1000000 := by have := HA.out; omega
  clear hnd hpc hhl hlt hab
  by_cases hlo : lt y.dir p = true
  ·have z0 : (z < 0) = True := eq_true (by rw [← hz]; unfold cmpI; rw [if_pos hlo]; decide)
   have HLo := Lib.hid hlo
   clear hz hlo
   go_wp2_with fail
   refine (HPC.out _).mono ?_
   rintro e w2 ⟨rfl, hf2⟩
   have hM : Hid (BsT l p w (h + 1) b w2) := ⟨hR.out.fp.then hf2, HB.out.1 HLo.out, hR.out.hi, by have := HA.out.1; omega, hR.out.jn⟩
   clear hf2
   go_wp2
   go_roundw
   case rel => exact ⟨h + 1, b, by have := HA.out; omega, HA.out.2.2, by go_num, rfl, hM⟩
   case measure => have := HA.out; simp [RowKit.intOf]; omega
  have hlo' : lt y.dir p = false := by simpa using hlo
  have z0 : (z < 0) = False := eq_false (by rw [← hz]; unfold cmpI; rw [if_neg hlo]; split <;> decide)
  have HLo := Lib.hid hlo'
  clear hz hlo hlo'
  go_wp2_with fail
  refine (HPC.out _).mono ?_
  rintro e w2 ⟨rfl, hf2⟩
  have hM : Hid (BsT l p w a h w2) := ⟨hR.out.fp.then hf2, hR.out.lo, HB.out.2 HLo.out, by have := HA.out.1; omega, by have := HA.out.1; have := hR.out.jn; omega⟩
  clear hf2
  go_wp2
  go_roundw
  case rel => exact ⟨a, h, HA.out.2.1, by have := HA.out; omega, rfl, rfl, hM⟩
  case measure => have := HA.out; simp [RowKit.intOf]; omega
 have hab : a = b := by have := hR.out.ij; omega
 subst hab
 have hpl : placeT l p = a := placeT_of hR.out.jn hR.out.lo hR.out.hi
 have q3 : ((a : Int) < (a : Int)) = False := eq_false (by omega)
 have hfp := findT_place HX.out.2.2 p
 rw [hpl] at hfp
 have HP := Lib.hid hpl
 by_cases hal : a < n
 ·have hal' : a < l.length := by rw [← HX.out.1]; exact hal
  rw [dif_pos hal'] at hfp
  obtain ⟨g, o, cap', e, _, _, _, hcell⟩ := HX.out.2.1.at (by omega)
  injection e with e1 e2 e3
  subst e1 e3
  have hnd := (hcell a hal').keep hR.out.fp id
  have hpc := fun w => turnPlace1_c l[a] p w
  have hnl := hR.out.hi a hal' (Nat.le_refl _)
  clear hcell
  generalize l[a] = y at *
  have c0 := hnd.c0; have c1 := hnd.c1
  unfold strV at c0
  unfold tuV strV at hpc
  have q5 : ((a : Int) < (n : Int)) = True := eq_true (by omega)
  have q6 : (a < n) = True := eq_true hal
  obtain ⟨z, hz⟩ : ∃ z, cmpI y.dir p = z := ⟨_, rfl⟩
  have hze : (z == 0) = (findT l p).isSome := by
   rw [hfp, ← hz]; unfold cmpI
   rw [if_neg (by rw [hnl]; exact Bool.false_ne_true)]
   by_cases e : y.dir = p
   ·rw [if_pos e, if_pos e]; rfl
   rw [if_neg e, if_neg e]; rfl
  rw [hz] at hpc
  have HPC := Lib.hid hpc
  have HZ := Lib.hid hze
  clear hnd hpc hz hze hfp hnl hal hal' hpl han hbn
  go_wp2_with fail
  refine (HPC.out _).mono ?_
  rintro e w2 ⟨rfl, hf2⟩
  have HF := Lib.hid (hR.out.fp.then hf2)
  clear hf2
  go_wp2
  go_ret2
  exact ⟨by rw [HP.out, ← HZ.out]; rfl, HF.out⟩
 have q5 : ((a : Int) < (n : Int)) = False := eq_false (by omega)
 have q6 : (a < n) = False := eq_false hal
 rw [dif_neg (by rw [← HX.out.1]; exact hal)] at hfp
 have HFN := Lib.hid hfp
 clear hfp hpl hal hlt han hbn
 go_wp2
 go_ret2
 exact ⟨by rw [HP.out, HFN.out]; rfl, hR.out.fp⟩
def OwT (lo : Nat) (w : World) (v : Value) (l : List Tu) : Prop := w.ownsRow lo TU 2 v l.length (rowsT l)
theorem OwT.ways {lo : Nat} {w : World} {v : Value} {l : List Tu} (h : OwT lo w v l) : (v = .slice none 0 0 ∧ l = []) ∨ ∃ G cap, v = .slice (some ⟨G, 0, none⟩) l.length cap ∧ Tr2 w G cap l ∧ lo ≤ G := by
 have h' := h
 unfold OwT at h'
 rcases h'.2 with ⟨h0, h1⟩ | ⟨g, cap, cur, e, hb, hg, h1, h2, h3, h4⟩
 ·refine .inl ⟨h0, ?_⟩
  cases l with
  | nil => rfl
  | cons x l => simp at h1
 refine .inr ⟨g, cap, e, ?_⟩
 unfold OwT at h
 rw [e] at h
 exact Tr2.of_owns h rfl
theorem OwT.ns {lo : Nat} {w : World} {v : Value} {l : List Tu} (h : OwT lo w v l) : Ts w v l := by
 rcases h.ways with ⟨rfl, rfl⟩ | ⟨G, cap, rfl, h1, _⟩
 ·exact Ts.nil w
 exact h1.ns
theorem OwT.row {lo : Nat} {w : World} {G cap : Nat} {l : List Tu} (h : Tr2 w G cap l) (hlo : lo ≤ G) : OwT lo w (.slice (some ⟨G, 0, none⟩) l.length cap) l := h.owns hlo
theorem OwT.nil (lo : Nat) (w : World) : OwT lo w (.slice none 0 0) [] := ⟨rfl, .inl ⟨rfl, rfl⟩⟩
theorem OwT.keep {lo : Nat} {w w' : World} {v : Value} {l : List Tu} (h : OwT lo w v l) {S : Nat → Prop} (f : Fp S w w') (hS : ∀ k, v.ownBlock = some k → ¬ S k) : OwT lo w' v l := by
 rcases h.ways with ⟨rfl, rfl⟩ | ⟨G, cap, rfl, h1, h2⟩
 ·exact OwT.nil lo w'
 exact OwT.row (h1.keep f (hS G rfl)) h2
theorem OwT.non {lo : Nat} {w w' : World} {v : Value} {l : List Tu} (h : OwT lo w v l) (f : Fp Non w w') : OwT lo w' v l := h.keep f (fun _ _ h => h)
theorem OwT.low {lo : Nat} {w : World} {v : Value} {l : List Tu} (h : OwT lo w v l) : ∀ k, v.ownBlock = some k → lo ≤ k := by
 rcases h.ways with ⟨rfl, rfl⟩ | ⟨G, cap, rfl, _, h2⟩
 ·intro k hk; simp [Value.ownBlock] at hk
 intro k hk; simp [Value.ownBlock] at hk; omega
theorem appT_own (w : World) (lo : Nat) (v : Value) (l m : List Tu) (ty : TypeId) (a : Addr) (n c : Nat) (hv : OwT lo w v l) (hn : n = m.length) (hx : ∀ i (h : i < m.length) j u, (tuC m[i])[j]? = some u → w.cell? (a.add (i * 2 + j)) = some u) (h6 : l.length + m.length ≤ 100000) (hlo : lo ≤ w.heap.size) :
  ∃ v' w', (Builtin.append_ #[TUL, TUL] ty #[v, .slice (some a) n c]).run Tryz.prog w = .ok v' w' ∧ OwT lo w' v' (l ++ m) ∧ w.grownBy w' v.ownBlock ∧ ∀ k, v'.ownBlock = some k → v.ownBlock = some k ∨ w.heap.size ≤ k := by
 obtain ⟨i, hi, hz, hsz, hby⟩ := info_parts Tryz.infoU
 subst hn
 obtain ⟨v', w', hr, h4, h5, _, h8⟩ := run_append_own_at (P := Tryz.prog) w lo TUL ty TU i _ 2 24 Tryz.underlying23 hi hz hsz hby rfl (by decide) v l.length (rowsT l) hv a m.length c (rowsT m) (rowsT_len m)
  (fun j u hu => by
   have hj : j < m.length * 2 := by rw [← rowsT_len]; exact (List.getElem?_eq_some_iff.1 hu).1
   have hd : j / 2 < m.length := by omega
   have e : j / 2 * 2 + j % 2 = j := by omega
   rw [← e, rowsT_get m (j / 2) (j % 2) hd (by omega)] at hu
   have := hx (j / 2) hd (j % 2) u hu
   rwa [e] at this)
  (rowsT_one m) (by unfold maxLen; omega) (by omega) hlo
 refine ⟨v', w', hr, ?_, h5, fun k hk => ?_⟩
 ·unfold OwT
  rw [rowsT_app, List.length_append]; exact h4
 rcases h8 with e | e
 ·exact .inl (by rw [← e]; exact hk)
 rw [hk] at e; injection e with e; exact .inr (by omega)
structure OwTR (w : World) (l : List Tu) (v' : Value) (w' : World) : Prop where
 own : OwT w.heap.size w' v' l
 fp : Fp Non w w'
set_option maxHeartbeats 2000000 in
theorem CloneT_own (v : Value) (l : List Tu) (w : World) (hv : Ts w v l) (h5 : l.length ≤ 100000) :
  Calls Tryz.prog 56 #[v] w fun e w' => ∃ v', e = .returned v' ∧ OwTR w l v' w' := by
 obtain ⟨ao, cap, rfl, h1, h2, h3⟩ := hv.ex
 cases ao with
 | none =>
  obtain rfl : l = [] := by
   rcases h3 with h | ⟨_, _, h, _⟩
   ·exact h
   cases h
  have hnil : ∀ w : World, (binOp .eql TUL (.slice none 0 cap) (.slice none 0 0)).run Tryz.prog w = .ok (.bool true) w := fun w => Lib.run_eql_slice_nil w TUL TU none 0 cap 0 0 Tryz.underlying23
  clear h1 h2 h3 hv h5
  simp only [List.length_nil]
  go_enter Tryz.func56, Tryz.ntmps56
  go_wp2
  go_ret
  exact ⟨_, rfl, OwT.nil _ _, Fp.refl _ _⟩
 | some a => ?_
 have hown : OwT w.heap.size (w.alloc (.cells #[] TU)) (.slice (some ⟨w.heap.size, 0, none⟩) 0 0) [] := World.ownsRow_lit w #[] 0 (Nat.le_refl _) (by unfold maxLen; omega) rfl
 have hx : ∀ i (h : i < l.length) j u, (tuC l[i])[j]? = some u → (w.alloc (.cells #[] TU)).cell? (a.add (i * 2 + j)) = some u := fun i hi j u hu => by
  rcases h3 with h | ⟨g, o, e, _, hc⟩
  ·subst h; simp at hi
  injection e with e; subst e
  have := ((hc i hi).keep ((Fp.refl Non w).alloc (.cells #[] TU)) id).get j u hu
  rw [Addr.add_lit] at this ⊢
  rwa [Nat.add_assoc] at this
 have hap : ∀ ty, ∃ v' w', (Builtin.append_ #[TUL, TUL] ty #[.slice (some ⟨w.heap.size, 0, none⟩) 0 0, .slice (some a) l.length cap]).run Tryz.prog (w.alloc (.cells #[] TU)) = .ok v' w' ∧ OwTR w l v' w' := fun ty => by
  obtain ⟨v', w', hr, ho, hg, _⟩ := appT_own (w.alloc (.cells #[] TU)) w.heap.size _ [] l ty a l.length cap hown rfl hx (by simp; omega) (by simp)
  exact ⟨v', w', hr, ho, ((Fp.refl Non w).alloc _).grown hg (fun k hk => .inr (by simp [Value.ownBlock] at hk; omega))⟩
 have hnil := nil_sliceT
 have HA2 := Lib.hid (hap TUL)
 clear hap hown hx hv h1 h2 h3 h5
 generalize l.length = n at *
 go_enter Tryz.func56, Tryz.ntmps56
 go_wp2_with (at_builtin; go_must (refine wpList_app rfl _ _ _ _ rfl _ _ rfl rfl (OwTR w l) HA2.out ?_))
 intro u w2 hR
 have HR := Lib.hid hR
 clear hR
 go_wp2
 go_ret
 exact ⟨_, rfl, HR.out⟩
structure ChTR (lo : Nat) (w : World) (v : Value) (l : List Tu) (v' : Value) (w' : World) : Prop where
 own : OwT lo w' v' l
 fp : Fp (fun k => v.ownBlock = some k) w w'
 new : ∀ k, v'.ownBlock = some k → v.ownBlock = some k ∨ w.heap.size ≤ k
set_option maxHeartbeats 2000000 in
theorem InsertT_own {lo : Nat} {w : World} {v : Value} {X : Nat} {l : List Tu} {x : Tu} (h : OwT lo w v l) (k : Nat) (hk : k ≤ l.length) (hX : w.heap[X]? = some (.cells (tuC x).toArray TU (0, 0))) (hne : v.ownBlock ≠ some X) (hl : l.length ≤ 4000) (hlo : lo ≤ w.heap.size) :
  Calls Tryz.prog 167 #[v, .int .i64 (k : Int), .slice (some ⟨X, 0, none⟩) 1 1] w fun e w' => ∃ v', e = .returned v' ∧ ChTR lo w v (insT l k x) v' w' := by
 have hnd : TuAt w X 0 x := ⟨by rw [cell_of_row _ _ _ _ _ _ hX]; rfl, by rw [cell_of_row _ _ _ _ _ _ hX]; rfl⟩
 rcases h.ways with ⟨rfl, rfl⟩ | ⟨G, cap, rfl, h1, h2⟩
 ·obtain rfl : k = 0 := by simpa using hk
  have hap : ∀ ty, ∃ v' w', (Builtin.append_ #[TUL, TUL] ty #[.slice none 0 0, .slice (some ⟨X, 0, none⟩) 1 1]).run Tryz.prog w = .ok v' w' ∧ ChTR lo w (.slice none 0 0) (insT [] 0 x) v' w' := fun ty => by
   obtain ⟨v', w', hr, ho, hg, hn8⟩ := appT_own w lo (.slice none 0 0) [] [x] ty ⟨X, 0, none⟩ 1 1 h rfl (fun i hi j u hu => by
    have hi0 : i = 0 := by simp at hi; omega
    subst hi0
    have := hnd.get j u hu
    rwa [show 0 * 2 + j = j from by omega]) (by simp) hlo
   exact ⟨v', w', hr, ho, (Fp.refl _ w).grown hg (fun k hk => .inl hk), hn8⟩
  have HA := Lib.hid hap
  clear hap h hk hX hnd hl
  go_enter Tryz.func167, Tryz.ntmps167
  go_wp2_with (at_builtin; go_must (refine wpList_app rfl _ _ _ _ rfl _ _ rfl rfl (ChTR lo w (.slice none 0 0) (insT [] 0 x)) (HA.out TUL) ?_))
  all_goals
   intro v2 w2 hR2
   have HR := Lib.hid hR2
   clear hR2
   go_wp2
   go_ret
   exact ⟨_, rfl, HR.out⟩
 have hne' : X ≠ G := fun e => hne (by rw [e]; rfl)
 have hf : ∀ w', Fp (fun j => j = G) w w' → Fp (fun k => (Value.slice (some ⟨G, 0, none⟩) l.length cap).ownBlock = some k) w w' := fun w' f => f.mono (fun k hk => by rw [hk]; rfl)
 by_cases h0 : 0 < l.length
 ·refine (InsertT_c h1 k hk hX hne' hl h0).mono ?_
  rintro e w' ⟨v', rfl, hR⟩
  obtain ⟨G', cap', rfl, a1, a2, a3⟩ := hR.ex
  refine ⟨_, rfl, ?_, hf w' a3, fun k hk => by rcases a2 with e | e <;> (simp only [Value.ownBlock, Option.some.injEq] at hk ⊢; omega)⟩
  have := OwT.row (lo := lo) a1 (by rcases a2 with e | e <;> omega)
  rwa [insT_length] at this
 obtain rfl : l = [] := List.eq_nil_of_length_eq_zero (by omega)
 obtain rfl : k = 0 := by simpa using hk
 have hap : ∀ ty, ∃ v' w', (Builtin.append_ #[TUL, TUL] ty #[.slice (some ⟨G, 0, none⟩) 0 cap, .slice (some ⟨X, 0, none⟩) 1 1]).run Tryz.prog w = .ok v' w' ∧ ChTR lo w (.slice (some ⟨G, 0, none⟩) 0 cap) (insT [] 0 x) v' w' := fun ty => by
  obtain ⟨v', w', hr, ho, hg, hn8⟩ := appT_own w lo (.slice (some ⟨G, 0, none⟩) 0 cap) [] [x] ty ⟨X, 0, none⟩ 1 1 h rfl (fun i hi j u hu => by
   have hi0 : i = 0 := by simp at hi; omega
   subst hi0
   have := hnd.get j u hu
   rwa [show 0 * 2 + j = j from by omega]) (by simp) hlo
  exact ⟨v', w', hr, ho, (Fp.refl _ w).grown hg (fun k hk => .inl hk), hn8⟩
 have HA := Lib.hid hap
 have hm := h1.most
 unfold maxLen at hm
 clear hap h hk hX hnd hl h1 hf h0
 simp only [List.length_nil]
 go_enter Tryz.func167, Tryz.ntmps167
 go_wp2_with (at_builtin; go_must (refine wpList_app rfl _ _ _ _ rfl _ _ rfl rfl (ChTR lo w (.slice (some ⟨G, 0, none⟩) 0 cap) (insT [] 0 x)) (HA.out TUL) ?_))
 all_goals
  intro v2 w2 hR2
  have HR := Lib.hid hR2
  clear hR2
  go_wp2
  go_ret
  exact ⟨_, rfl, HR.out⟩
theorem DeleteT_own {lo : Nat} {w : World} {v : Value} {l : List Tu} (h : OwT lo w v l) (k : Nat) (hk : k < l.length) (hl : l.length ≤ 4000) :
  Calls Tryz.prog 166 #[v, .int .i64 (k : Int), .int .i64 ((k : Int) + 1)] w fun e w' => ∃ v', e = .returned v' ∧ ChTR lo w v (l.eraseIdx k) v' w' := by
 rcases h.ways with ⟨rfl, rfl⟩ | ⟨G, cap, rfl, h1, h2⟩
 ·simp at hk
 refine (DeleteT_c h1 k hk hl).mono ?_
 rintro e w' ⟨rfl, a1, a2⟩
 refine ⟨_, rfl, ?_, a2.mono (fun k hk => by rw [hk]; rfl), fun k hk => .inl hk⟩
 have := OwT.row (lo := lo) a1 h2
 rwa [List.length_eraseIdx, if_pos hk] at this
end Go.Proofs.YtphoglepiegeiaaGreatDoor
