/- The document's own writer: contracts over plain lists. -/
import Derived.Test.YtidkihadlhkbkaaWb
import Derived.Deep.RegionLaw
namespace Go.Proofs.Ytidkihadlhkbkaa
open Go.RowKit Pm

abbrev TR : TypeId := 31

theorem step_app {P : Program} {ops : Array Oper} {o : Oper} {a : Act} {w : World} {K : Act → World → Prop} {Q : Exit → Act → World → Prop} {E : Prop} (hgd : o.guard = none) (s x : Operand) (t u : TypeId)
    (ho : o.op = .call { callee := .builtin .append, args := #[s, x], argTypes := #[t, u] }) (v xv : Value) (hs : a.eval s = v) (hx : a.eval x = xv) (R : Value → World → Prop)
    (hr : ∃ v' w', (Builtin.append_ #[t, u] o.type #[v, xv]).run P w = .ok v' w' ∧ R v' w') (h : ∀ v' w', R v' w' → K (a.put o.dst v') w') :
    if Region.wanted o (yielded ops a.tmps) = true then Oper.wp P o a w K Q else E := by
  have hw : Region.wanted o (yielded ops a.tmps) = true := by simp [Region.wanted, hgd]
  rw [if_pos hw]
  obtain ⟨v', w', hr, h2⟩ := hr
  unfold Oper.wp execOp
  simp only [ho, resolve, invoke, builtin, Sem.run_bind, Sem.run_pure, Result.andThen_ok, List.map_toArray, List.map_cons, List.map_nil, hs, hx, hr]
  exact h v' w' h2

theorem owns_lit (w : World) (lo : Nat) (hlo : lo ≤ w.heap.size) (c : Nat) (hc : c < 256) : (w.alloc (.cells #[.int .u8 (c : Int)] 5)).ownsRow lo 5 1 (.slice (some ⟨w.heap.size, 0, none⟩) 1 1) 1 (Lib.byteCells [dg c]) := by
  refine ⟨rfl, .inr ⟨w.heap.size, 1, #[.int .u8 (c : Int)], rfl, hlo, heap_alloc_new w _, Nat.le_refl _, by unfold maxLen; omega, rfl, ?_⟩⟩
  simp [Lib.byteCells, dg_toNat c hc]

set_option maxHeartbeats 1000000 in
theorem Put_c (n : Nat) (w : World) (hn : n ≤ M) :
    Calls Try.prog 32 #[.int .i64 n] w fun e w' => ∃ v, e = .returned v ∧ Nw w w' v (enc n) := by
  have hn' : (n : Int) ≤ 281474976710656 := by unfold M at hn; omega
  have HO := Lib.hid (owns_lit w w.heap.size (Nat.le_refl _) (n % 128) (by omega))
  have HE := Lib.hid (show hi (n / 128) ++ [dg (n % 128)] = enc n from rfl)
  have HN := Lib.hid hn; clear hn
  go_enter Try.func32, Try.ntmps32
  go_wp2_with fail
  go_loopw [0, 3] (fun m v wr => ∃ k : Nat, k ≤ n ∧ m = .int .i64 k ∧ ∃ out, hi k ++ out = enc n ∧ Nw w wr v out) (fun m _ _ => (intOf m).toNat)
  case atStart =>
    refine ⟨n / 128, Nat.div_le_self _ _, by congr 1, [dg (n % 128)], HE.out, ?_, (Fp.refl Non w).alloc _⟩
    simpa using HO.out
  case round =>
    obtain ⟨k, hk, rfl, out, hout, hN⟩ := hrel
    by_cases hpos : 0 < k
    · have hol : out.length ≤ 7 := by
        have := congrArg List.length hout; have := (enc_len n HN.out).2; simp at *; omega
      have happ := app_sl (wr.alloc (.cells #[.int .u8 ((k % 128 + 128 : Nat) : Int)] 5)) w.heap.size _ [dg (k % 128 + 128)] out 26 _
        (owns_lit wr w.heap.size hN.fp.size (k % 128 + 128) (by omega)) (hN.sl.keep ((Fp.refl Non wr).alloc _) (fun _ _ h => h)) (by simp; omega) (by have := hN.fp.size; simp; omega)
      have HO2 := Lib.hid (show hi (k / 128) ++ ([dg (k % 128 + 128)] ++ out) = enc n by rw [← hout, hi_pos k hpos, Nat.add_comm 128]; simp)
      obtain ⟨ao, cap, rfl⟩ := hN.shape
      have HF := Lib.hid hN.fp
      have HA := Lib.hid happ; clear happ hN hout
      go_wp2_with (at_builtin; go_must (refine wpList_app rfl _ _ _ _ rfl _ _ rfl rfl _ HA.out ?_))
      intro v' w2 hR
      have hN' : Nw w w2 v' ([dg (k % 128 + 128)] ++ out) := ⟨hR.own, (HF.out.alloc _).grown hR.grown (fun j hj => by simp [Value.ownBlock] at hj; have := HF.out.size; omega)⟩
      have HN' := Lib.hid hN'; clear hN' hR HA HF
      go_wp2
      go_roundw
      case rel => exact ⟨k / 128, by omega, by congr 1, _, HO2.out, HN'.out⟩
      case measure => simp [intOf]; omega
    · have h0 : k = 0 := by omega
      subst h0
      rw [hi_zero, List.nil_append] at hout
      subst hout
      have HN' := Lib.hid hN; clear hN
      go_wp2
      go_ret
      exact ⟨_, rfl, HN'.out⟩
set_option maxHeartbeats 1000000 in
theorem rNum_bad (lo b : Nat) (v : Value) (l : Bs) (bad : Bool) (n : Int) (w : World) (h : Wr TR lo b v l bad w) (hn : n < 0 ∨ (M : Int) < n) :
    Calls Try.prog 13 #[.pointer (some ⟨b, 0, none⟩), .int .i64 n] w fun e w' => e = .returned (.tuple #[]) ∧ WrStep TR lo b v l true w w' := by
  unfold M at hn
  have hb := h.blk
  have c1 := h.cell1
  have f1 : w.frozen? ⟨b, 1, none⟩ = false := by simp [World.frozen?, hb]
  have hfin : WrStep TR lo b v l true w (w.setCell ⟨b, 1, none⟩ (.bool true)) := by
    refine ⟨v, ⟨h.low, by simp [World.setCell, Array.getElem?_modify, hb], ?_, h.apart⟩, (Fp.refl _ w).setCell (p := ⟨b, 1, none⟩) (.inl (.inl rfl)) _, fun _ h => .inl h⟩
    exact ((Fp.refl (fun k => k = b) w).setCell (p := ⟨b, 1, none⟩) (.inl rfl) (.bool true)).owns h.own (fun k hk e => h.apart (by rw [← e]; exact hk))
  have HF := Lib.hid hfin; clear hfin h
  rcases hn with hn | hn
  · go_enter Try.func13, Try.ntmps13
    go_wp2
    refine bodyPost_ret (results_none rfl _ _ _) rfl ?_
    exact ⟨rfl, HF.out⟩
  · have h0 : ¬ n < 0 := by omega
    go_enter Try.func13, Try.ntmps13
    go_wp2
    refine bodyPost_ret (results_none rfl _ _ _) rfl ?_
    exact ⟨rfl, HF.out⟩


set_option maxHeartbeats 2000000 in
theorem rNum_ok (lo b : Nat) (v : Value) (l : Bs) (bad : Bool) (n : Nat) (w : World) (h : Wr TR lo b v l bad w) (hn : n ≤ M) (hl : l.length ≤ 50000000) :
    Calls Try.prog 13 #[.pointer (some ⟨b, 0, none⟩), .int .i64 n] w fun e w' => e = .returned (.tuple #[]) ∧ WrStep TR lo b v (l ++ enc n) bad w w' := by
  have hn' : (n : Int) ≤ 281474976710656 := by unfold M at hn; omega
  have hlow := h.low
  have hlt := h.lt
  have hen := enc_len n hn
  have HN := Lib.hid hn; clear hn
  have c0 := h.cell0
  obtain ⟨ao, m, cap, rfl⟩ := h.shape
  have HW := Lib.hid h; clear h
  have HAPP : Hid (∀ (w1 : World) (x : Value), Nw w.drew w1 x (enc n) → ∃ v' w', (Builtin.append_ #[26, 26] 26 #[.slice ao m cap, x]).run Try.prog w1 = .ok v' w' ∧ AppR lo (.slice ao m cap) (l ++ enc n) w1 v' w') :=
    fun w1 x hN => app_sl w1 lo _ l (enc n) _ x ((Fp.drew (Fp.refl Non w)).then hN.fp |>.owns HW.out.own (fun _ _ h => h)) hN.sl (by omega) (by have := hN.fp.size; have : w.heap.size ≤ w1.heap.size := this; omega)
  have HPUT : Hid (∀ w1 x v' w2, Nw w.drew w1 x (enc n) → AppR lo (.slice ao m cap) (l ++ enc n) w1 v' w2 → w2.heap[b]? = some (.cells #[.slice ao m cap, .bool bad] TR (0, 0)) ∧ WrStep TR lo b (.slice ao m cap) (l ++ enc n) bad w (w2.setCell ⟨b, 0, none⟩ v')) :=
    fun w1 x v' w2 hN hR => HW.out.put ((Fp.drew (Fp.refl Non w)).then hN.fp) hR
  go_enter Try.func13, Try.ntmps13
  go_wp2_with fail
  go_region_law (first
    | (refine step_app rfl _ _ _ _ rfl _ _ rfl rfl _ (HAPP.out _ _ (HN1.out)) ?_
       intro v' w2 hR
       obtain ⟨hb2, hWS⟩ := HPUT.out _ _ _ _ HN1.out hR
       have d0 : w2.cell? ⟨b, 0, none⟩ = some (.slice ao m cap) := by simp [World.cell?, hb2]
       have f0 : w2.frozen? ⟨b, 0, none⟩ = false := by simp [World.frozen?, hb2]
       obtain ⟨ao', m', cap', rfl⟩ := hR.shape
       have HFIN := Lib.hid hWS
       clear hWS hR hb2)
    | (go_simp; go_at_call 32
       refine (Put_c n _ HN.out).mono ?_
       rintro e w1 ⟨x, rfl, hN1⟩
       have HN1 := Lib.hid hN1
       have c01 : w1.cell? ⟨b, 0, none⟩ = some (.slice ao m cap) := hN1.fp.cell c0 (fun h => h)
       clear hN1))
  all_goals (go_wp2; go_end0; exact ⟨rfl, HFIN.out⟩)
end Go.Proofs.Ytidkihadlhkbkaa
