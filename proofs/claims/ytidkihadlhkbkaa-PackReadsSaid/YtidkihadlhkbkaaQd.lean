/- Lists of texts, read by either reader; new readers; ends. -/
import Derived.Test.YtidkihadlhkbkaaQc
import Derived.Test.YtidkihadlhkbkaaRh
namespace Go.Proofs.Ytidkihadlhkbkaa
open Go.RowKit Pm

def strV (p : Bs) : Value := .string (B p)

theorem Try.infoS : (Try.prog.info? 9).map (fun i => (i.zero, i.size, i.bytes)) = some (some (.string ⟨#[]⟩), 1, 16) := by kernel_rfl

/-- Texts in memory of the call's own. -/
def Os (lo : Nat) (w : World) (v : Value) (ps : List Bs) : Prop := w.ownsRow lo 9 1 v ps.length (ps.map strV)

theorem Os.ss {lo : Nat} {w : World} {v : Value} {ps : List Bs} (h : Os lo w v ps) : Ss w v ps := by
  have hc := fun g hg => World.ownsRow.cells h (g := g) hg
  rcases h.2 with ⟨rfl, h0⟩ | ⟨g, cap, cur, rfl, hb, hgg, r1, r2, r3⟩
  · exact ⟨none, 0, by rw [h0], by omega, by unfold maxLen; omega, .inl rfl⟩
  · refine ⟨_, cap, rfl, r1, r2, .inr ⟨g, 0, rfl, (Array.getElem?_eq_some_iff.1 hgg).1, fun j hj => ?_⟩⟩
    have := hc g rfl j (strV ps[j]) (by simp [hj])
    show w.cell? ⟨g, 0 + j, none⟩ = some (strV ps[j])
    simpa [Addr.add_lit] using this
theorem Os.nil (lo : Nat) (w : World) : Os lo w (.slice none 0 0) [] := World.ownsRow_nil _ _ _ _
theorem Os.keep {lo : Nat} {w w' : World} {v : Value} {ps : List Bs} (h : Os lo w v ps) {S : Nat → Prop} (f : Fp S w w') (hS : ∀ k, lo ≤ k → ¬ S k) : Os lo w' v ps := f.owns h (fun k hk => hS k (h.lt k hk).1)
theorem Os.shape {lo : Nat} {w : World} {v : Value} {ps : List Bs} (h : Os lo w v ps) : ∃ ao n cap, v = .slice ao n cap := by
  rcases h.2 with ⟨hv, _⟩ | ⟨g, cap, cur, hv, _⟩
  · exact ⟨_, _, _, hv⟩
  · exact ⟨_, _, _, hv⟩

structure AppS (lo : Nat) (v : Value) (ps : List Bs) (w : World) (v' : Value) (w' : World) : Prop where
  own : Os lo w' v' ps
  grown : w.grownBy w' v.ownBlock

/-- append(v, s): the text lies in the block that was laid for it. -/
theorem app_str (w : World) (lo : Nat) (v : Value) (ps : List Bs) (s : Bs) (ty : TypeId) (ho : Os lo w v ps) (hn : ps.length ≤ 90000000) (hlo : lo ≤ w.heap.size) :
    ∃ v' w', (Builtin.append_ #[32, 32] ty #[v, .slice (some ⟨w.heap.size, 0, none⟩) 1 1]).run Try.prog (w.alloc (.cells #[.string (B s)] 9)) = .ok v' w' ∧ AppS lo v (ps ++ [s]) (w.alloc (.cells #[.string (B s)] 9)) v' w' := by
  obtain ⟨i, hi, hz, hsz, hby⟩ := info_parts Try.infoS
  have ho' : w.ownsRow lo 9 1 v ps.length (ps.map strV) := ho
  obtain ⟨v', w', hr, h4, h5, _⟩ := run_append_own (P := Try.prog) (w.alloc (.cells #[.string (B s)] 9)) lo 32 ty 9 i (.string ⟨#[]⟩) 1 16 Try.underlying32 hi hz hsz hby rfl (by decide) v ps.length (ps.map strV) (ho'.alloc _)
    ⟨w.heap.size, 0, none⟩ 1 1 [strV s] rfl
    (fun j u hu => by
      match j, hu with
      | 0, hu => simp at hu; subst hu; simp [Addr.add, strV]
      | (j + 1), hu => simp at hu)
    (by intro u hu; simp at hu; subst hu; rfl) (by unfold maxLen; omega) (by omega) (by simp; omega)
  exact ⟨v', w', hr, by unfold Os; rw [List.length_append, List.map_append]; exact h4, h5⟩

theorem rtx_err (n : Nat) (s : St) (acc : List Bs) (h : (rText s).2.2 ≠ 0) : rtx (n + 1) s acc = ([], (rText s).2) := by simp only [rtx]; rw [if_pos h]
theorem rtx_ok (n : Nat) (s : St) (acc : List Bs) (h : ¬ (rText s).2.2 ≠ 0) : rtx (n + 1) s acc = rtx n (rText s).2 (acc ++ [(rText s).1]) := by simp only [rtx]; rw [if_neg h]

/-- What stays of a step, said of the reader's block alone. -/
theorem RrStep.keepOs {lo b : Nat} {s : St} {w w' : World} (h : RrStep lo b s w w') {l0 : Nat} {v : Value} {ps : List Bs} (ho : Os l0 w v ps) (hb : b < l0) : Os l0 w' v ps := ho.keep h.2 (fun k hk e => by omega)

set_option maxHeartbeats 2000000 in
theorem RTexts_c (lo b : Nat) (s : St) (w : World) (h : Rr lo b s w) (hl : s.1.length ≤ 1000000) :
    Calls Try.prog 26 #[.pointer (some ⟨b, 0, none⟩)] w fun e w' => ∃ v', e = .returned v' ∧ Os w.heap.size w' v' (rTexts s).1 ∧ RrStep lo b (rTexts s).2 w w' := by
  have hc := RNum_c lo b s M w h hl
  have hblt := h.lt
  have hM := rNum_M s M
  have hle := rNum_le s M
  unfold rTexts
  generalize rNum s M = x at hc hM hle ⊢
  obtain ⟨n, st0⟩ := x
  simp only at hM hle ⊢
  rw [show ((M : Nat) : Int) = 281474976710656 from rfl] at hc
  have hnM : n ≤ 281474976710656 := hM
  have HC := Lib.hid hc; clear hc
  have HM := Lib.hid (And.intro hM hle); clear hM hle
  have HL := Lib.hid hl; clear hl
  go_enter Try.func26, Try.ntmps26
  go_wp2_with fail
  refine HC.out.mono ?_
  rintro e w1 ⟨rfl, hst0⟩
  go_wp2_with fail
  go_loopw [3, 4, 7] (fun v _ i wr => ∃ k : Nat, k ≤ n ∧ i = .int .i64 k ∧ ∃ acc st, rtx n st0 [] = rtx (n - k) st acc ∧ Hid (acc.length + st.1.length ≤ st0.1.length) ∧ (0 < k → st.2 = 0) ∧ Os w.heap.size wr v acc ∧ RrStep lo b st w wr) (fun _ _ i _ => n - (intOf i).toNat)
  case atStart => exact ⟨0, Nat.zero_le _, rfl, [], st0, rfl, by simp [Hid], fun h => by omega, Os.nil _ _, hst0⟩
  case round =>
    obtain ⟨k, hk, rfl, acc, st, hrt, hlen, hst, hos, hsp⟩ := hrel
    obtain ⟨ao, m, cap, rfl⟩ := hos.shape
    have hsz := hsp.2.size
    have HO := Lib.hid (And.intro hos (And.intro hsp (And.intro hst hrt))); clear hos hsp hst hrt hst0
    by_cases hkn : k < n
    · have r1 : ((k : Int) < (n : Int)) = True := eq_true (by omega)
      have r2 : (k < n) = True := eq_true hkn
      have HT := Lib.hid (RText_c lo b st wr HO.out.2.1.1 (by have := HL.out; have := HM.out.2; have := hlen.out; omega))
      have HK := Lib.hid (And.intro hkn hk); clear hk
      by_cases he : (rText st).2.2 ≠ 0
      · have hre := rtx_err (n - k - 1) st acc he
        rw [show n - k - 1 + 1 = n - k by have := HK.out; omega, ← HO.out.2.2.2] at hre
        have he' : ((rText st).2.2 == 0) = false := beq_eq_false_iff_ne.2 he
        generalize rText st = y at HT he' hre
        obtain ⟨t, st'⟩ := y
        simp only at he' hre
        have HR := Lib.hid hre; clear hre he
        go_wp2_with fail
        refine HT.out.mono ?_
        rintro e w2 ⟨rfl, hst'⟩
        have c1 := hst'.1.cell1
        have HS := Lib.hid hst'; clear hst'
        go_wp2
        go_ret
        exact ⟨_, rfl, by rw [HR.out]; exact Os.nil _ _, by rw [HR.out]; exact ⟨HS.out.1, HO.out.2.1.2.same HS.out.2⟩⟩
      · have hre := rtx_ok (n - k - 1) st acc he
        rw [show n - k - 1 + 1 = n - k by have := HK.out; omega, ← HO.out.2.2.2] at hre
        have he0 : (rText st).2.2 = 0 := by omega
        have hlt : 0 < k ∨ st.2 = 0 → (rText st).2.1.length < st.1.length := fun h => rText_lt st (h.elim HO.out.2.2.1 id) he0
        have hlt2 : (rText st).2.1.length < st.1.length := by
          by_cases hs0 : st.2 = 0
          · exact hlt (.inr hs0)
          · exfalso
            have : (rText st).2.2 = st.2 := by unfold rText; rw [if_pos hs0]
            exact hs0 (by rw [← this]; exact he0)
        clear hlt he
        generalize rText st = y at HT he0 hre hlt2
        obtain ⟨t, st'⟩ := y
        simp only at he0 hre hlt2
        have HR := Lib.hid (And.intro hre hlt2); clear hre hlt2
        go_wp2_with fail
        refine HT.out.mono ?_
        rintro e w2 ⟨rfl, hst'⟩
        have c1 := hst'.1.cell1
        rw [he0] at c1
        have ho2 := hst'.keepOs HO.out.1 hblt
        have happ := app_str w2 w.heap.size _ acc t 32 ho2 (by have := hlen.out; have := HL.out; have := HM.out.2; omega) (by have := hst'.2.size; omega)
        have HS := Lib.hid hst'; clear hst' ho2
        have HA := Lib.hid happ; clear happ
        have HE := Lib.hid he0; clear he0
        go_wp2_with (at_builtin; go_must (refine wpList_app rfl _ _ _ _ rfl _ _ rfl rfl _ HA.out ?_))
        intro v' w3 hR
        have hfp : Fp Non w2 w3 ∨ True := .inr trivial
        have hstep : RrStep lo b st' w w3 := by
          have hsz2 := HS.out.2.size
          have hf : Fp (fun k => k = b) w w2 := HO.out.2.1.2.same HS.out.2
          have hg := (hf.alloc (.cells #[.string (B t)] 9)).grown hR.grown (fun j hj => .inr (HO.out.1.lt j hj).1)
          have hb2 := HS.out.1.blk
          refine ⟨⟨HS.out.1.low, ?_⟩, hg⟩
          rw [hR.grown.block b (by have := HS.out.1.lt; simp; omega) (fun e => by have := (HO.out.1.lt b e.symm).1; omega)]
          exact ((Fp.refl Non w2).alloc _).heap hb2 (fun h => h)
        obtain ⟨ao', m', cap', rfl⟩ := hR.own.shape
        have HW := Lib.hid (And.intro hR.own hstep); clear hR hstep HA hfp
        go_wp2
        go_roundw
        case rel =>
          have := HK.out
          refine ⟨k + 1, by omega, by go_num, acc ++ [t], st', by rw [HR.out.1]; congr 1, ?_, fun _ => HE.out, HW.out.1, HW.out.2⟩
          have h1 := hlen.out; have h2 := HR.out.2
          show _ ≤ _; simp; omega
        case measure => have := HK.out; simp [intOf]; omega
    · have r1 : ((k : Int) < (n : Int)) = False := eq_false (by omega)
      have r2 : (k < n) = False := eq_false hkn
      have hke : n - k = 0 := by omega
      have hfin := HO.out.2.2.2
      rw [hke] at hfin
      have HF := Lib.hid hfin; clear hfin hkn hke hk
      go_wp2
      go_ret
      exact ⟨_, rfl, by rw [HF.out]; exact HO.out.1, by rw [HF.out]; exact HO.out.2.1⟩
end Go.Proofs.Ytidkihadlhkbkaa
