/- Texts of this proof, merged. -/
import Derived.Test.YtlmfinpmlilcgaaZQ
set_option linter.unusedVariables false
set_option linter.unusedSimpArgs false
/- Lists are read. (gen_gn.py) -/
namespace Go.Proofs.Ytlmfinpmlilcgaa
set_option maxRecDepth 20000
set_option linter.unusedVariables false
set_option linter.unusedSimpArgs false
open Go.RowKit Pm

def txC (s : Bs) : List Value := [.string (B s)]
theorem txC_len (s : Bs) : (txC s).length = 1 := rfl
theorem txC_one (s : Bs) : ∀ u ∈ txC s, u.oneCell' = true := by
  intro u hu; unfold txC at hu; rw [List.mem_singleton.1 hu]; rfl
theorem ndC_one (x : Nd) : ∀ u ∈ ndC x, u.oneCell' = true := by
  intro u hu; simp only [ndC, List.mem_cons, List.not_mem_nil, or_false] at hu; rcases hu with rfl | rfl | rfl | rfl | rfl <;> rfl
theorem tuC_one (x : Tu) : ∀ u ∈ tuC x, u.oneCell' = true := by
  intro u hu; simp only [tuC, List.mem_cons, List.not_mem_nil, or_false] at hu; rcases hu with rfl | rfl <;> rfl
theorem Try.infoPC : (Try.prog.info? 48).map (fun i => (i.zero, i.size, i.bytes)) = some (some (.agg #[.int .i64 0, .int .i64 0, .string ⟨#[]⟩, .string ⟨#[]⟩, .string ⟨#[]⟩, .int .i64 0, .int .i64 0, .bool false]), 8, 88) := by kernel_rfl
theorem Try.infoND : (Try.prog.info? 81).map (fun i => (i.zero, i.size, i.bytes)) = some (some (.agg #[.string ⟨#[]⟩, .string ⟨#[]⟩, .int .i64 0, .int .i64 0, .int .i64 0]), 5, 56) := by kernel_rfl
theorem Try.infoTU : (Try.prog.info? 72).map (fun i => (i.zero, i.size, i.bytes)) = some (some (.agg #[.string ⟨#[]⟩, .int .i64 0]), 2, 24) := by kernel_rfl
theorem Try.infoST : (Try.prog.info? 9).map (fun i => (i.zero, i.size, i.bytes)) = some (some (.string ⟨#[]⟩), 1, 16) := by kernel_rfl

section
variable {α : Type} {enc : α → List Value} {k : Nat} {T : TypeId}
theorem OwG.keep {lo : Nat} {w w' : World} {v : Value} {l : List α} (h : OwG T enc k lo w v l) {S : Nat → Prop} (f : Fp S w w') (hS : ∀ j, lo ≤ j → ¬ S j) : OwG T enc k lo w' v l := f.owns h (fun j hj => hS j (h.lt j hj).1)
/-- Behind an append of one. -/
structure ApG (T : TypeId) (enc : α → List Value) (k lo : Nat) (l : List α) (w : World) (v' : Value) (w' : World) : Prop where
  own : OwG T enc k lo w' v' l
  fp : Fp (fun j => lo ≤ j) w w'
theorem app_oneG (hk : ∀ x, (enc x).length = k) (h1 : ∀ x, ∀ u ∈ enc x, u.oneCell' = true) {SL : TypeId} {z : Value} {by_ : Nat} (hu : Try.prog.underlying SL = some (.slice T)) (hinf : (Try.prog.info? T).map (fun i => (i.zero, i.size, i.bytes)) = some (some z, k, by_)) (hz : z.cells.size = k) (hk0 : 0 < k) (hby : by_ ≤ 200)
    (w : World) (lo : Nat) (v : Value) (l : List α) (x : α) (ty : TypeId) (ho : OwG T enc k lo w v l) (hn : l.length ≤ 50000) (hlo : lo ≤ w.heap.size) :
    ∃ v' w', (Builtin.append_ #[SL, SL] ty #[v, .slice (some ⟨w.heap.size, 0, none⟩) 1 1]).run Try.prog (w.alloc (.cells (enc x).toArray T)) = .ok v' w' ∧ ApG T enc k lo (l ++ [x]) w v' w' := by
  have hf := fp_alloc w (.cells (enc x).toArray T)
  have hb := heap_alloc_new w (.cells (enc x).toArray T)
  generalize (w.alloc (.cells (enc x).toArray T)) = W at *
  obtain ⟨v', w', hr, k1, k2, k3⟩ := app_ownG (enc := enc) hk h1 (SL := SL) (T := T) hu hinf hz hk0 hby W lo v l [x] ty ⟨w.heap.size, 0, none⟩ 1 1 (ho.non hf) rfl (fun i hi j u hu => by
    have hi0 : i = 0 := by simp at hi; omega
    subst hi0
    rw [Addr.add_lit, cell_of_row _ _ _ _ _ _ hb]
    rw [show 0 + (0 * k + j) = j from by omega]
    simpa using hu) (by simp; omega) (Nat.le_trans hlo hf.size)
  exact ⟨v', w', hr, k1, (hf.any (S := fun j => lo ≤ j)).grown k2 (fun j hj => .inl (ho.lt j hj).1)⟩
/-- While a list is read. -/
structure GlM (T : TypeId) (enc : α → List Value) (k lo b : Nat) (l : List α) (s : Rst) (w : World) (v : Value) (W : World) : Prop where
  own : OwG T enc k w.heap.size W v l
  rr : Rr lo b s W
  fp : Fp (fun j => j = b) w W
theorem GlM.step {lo b : Nat} {l l' : List α} {s s' : Rst} {w W W2 W3 : World} {v v' : Value} (h : GlM T enc k lo b l s w v W) (hb : b < w.heap.size) (g : RrStep lo b s' W W2) (a : ApG T enc k w.heap.size l' W2 v' W3) : GlM T enc k lo b l' s' w v' W3 :=
  ⟨a.own, g.1.keep a.fp (fun e => by omega), ((h.fp.same g.2).trans a.fp (fun j hj => .inr hj))⟩
end
theorem rPe_le (s : Rst) : (rPe s).2.1.length ≤ s.1.length := by
  unfold rPe rFl
  simp only
  refine Nat.le_trans (rNum_le _ _) ?_
  refine Nat.le_trans (rNum_le _ _) ?_
  refine Nat.le_trans (rNum_le _ _) ?_
  refine Nat.le_trans (rText_le _).1 ?_
  refine Nat.le_trans (rText_le _).1 ?_
  refine Nat.le_trans (rText_le _).1 ?_
  refine Nat.le_trans (rNum_le _ _) ?_
  exact rNum_le _ _
theorem rNd_le (s : Rst) : (rNd s).2.1.length ≤ s.1.length := by
  unfold rNd
  simp only
  refine Nat.le_trans (rNum_le _ _) ?_
  refine Nat.le_trans (rNum_le _ _) ?_
  refine Nat.le_trans (rText_le _).1 ?_
  exact (rText_le _).1
theorem rTu_le (s : Rst) : (rTu s).2.1.length ≤ s.1.length := by
  unfold rTu
  simp only
  refine Nat.le_trans (rNum_le _ _) ?_
  exact (rText_le _).1
theorem rTx_le (s : Rst) : (rText s).2.1.length ≤ s.1.length := (rText_le s).1
theorem rLs_le {α : Type} {g : Rst → α × Rst} (hg : ∀ s, (g s).2.1.length ≤ s.1.length) (most : Int) (s : Rst) : (rLs g most s).2.1.length ≤ s.1.length := Nat.le_trans (rIt_le hg _ _) (rNum_le _ _)

set_option maxHeartbeats 8000000 in
theorem getPe_c (lo b : Nat) (s : Rst) (most : Int) (w : World) (h : Rr lo b s w) (hl : s.1.length ≤ 1000000) (hm : 0 ≤ most) (hmm : most ≤ 1000) :
    Calls Try.prog 47 #[.agg #[.pointer (some ⟨b, 0, none⟩)], .int .i64 most, .func (.func 48) #[.agg #[.pointer (some ⟨b, 0, none⟩)]] #[]] w fun e w' => ∃ v, e = .returned v ∧ OwG 48 peC 8 w.heap.size w' v (rLs rPe most s).1 ∧ RrStep lo b (rLs rPe most s).2 w w' := by
  have hf := fp_alloc w (.cells #[.pointer (some ⟨b, 0, none⟩)] TRD)
  have hlt := h.lt
  have hc := RNum_c lo b s most _ (h.keep hf (fun h => h)) hl
  have hv := (rNum_val s most).2 hm
  have hle := rNum_le s most
  unfold rLs
  obtain ⟨x, hx⟩ : ∃ x, x = rNum s most := ⟨_, rfl⟩
  rw [← hx] at hc hv hle ⊢
  obtain ⟨n, s1⟩ := x
  simp only at hc hv hle ⊢
  have hnb : n ≤ 1000 := by omega
  have HL := Lib.hid (And.intro hlt (Nat.le_trans hle hl))
  have HC := Lib.hid hc
  have HF := Lib.hid hf
  clear hc h hl hf hlt hx hv hle hm hmm
  go_enter Try.func47, Try.ntmps47
  go_wp2_with fail
  refine HC.out.mono ?_
  rintro e w1 ⟨rfl, g1⟩
  have H0 : Hid (GlM 48 peC 8 lo b (rIt rPe 0 s1).1 (rIt rPe 0 s1).2 w (.slice none 0 0) w1) := ⟨OwG.nil _ _, g1.1, (HF.out.any).same g1.2⟩
  clear g1 HC
  go_wp2_with fail
  go_loopw [7, 12] (fun lv i wr => ∃ j : Nat, j ≤ n ∧ i = .int .i64 j ∧ Hid (GlM 48 peC 8 lo b (rIt rPe j s1).1 (rIt rPe j s1).2 w lv wr)) (fun _ i _ => n - (RowKit.intOf i).toNat)
  case atStart => exact ⟨0, Nat.zero_le _, rfl, H0⟩
  case round =>
    clear H0
    obtain ⟨j, hj, rfl, hR⟩ := hrel
    by_cases hlt : j < n
    · have hle : (rIt rPe j s1).2.1.length ≤ 1000000 := Nat.le_trans (rIt_le rPe_le j s1) HL.out.2
      have hc := rPe_c lo b (rIt rPe j s1).2 wr hR.out.rr hle
      have hln : (rIt rPe j s1).1.length = j := rIt_len rPe j s1
      have hnx : (rIt rPe (j + 1) s1) = ((rIt rPe j s1).1 ++ [(rPe (rIt rPe j s1).2).1], (rPe (rIt rPe j s1).2).2) := rfl
      have HNX := Lib.hid hnx
      have q3 : ((j : Int) < (n : Int)) = True := eq_true (by omega)
      have q4 : (j < n) = True := eq_true hlt
      have HJ := Lib.hid hlt
      clear hnx hlt hle
      generalize (rIt rPe j s1) = st at *
      obtain ⟨l, st⟩ := st
      simp only at hc hln HNX
      obtain ⟨y, hy⟩ : ∃ y, y = rPe st := ⟨_, rfl⟩
      rw [← hy] at hc
      rw [← hy] at HNX
      clear hy
      obtain ⟨x, st2⟩ := y
      simp only at hc HNX
      have HCC := Lib.hid hc
      have HLN := Lib.hid hln
      clear hc hln
      go_wp2_with fail
      refine HCC.out.mono ?_
      rintro e w2 ⟨rfl, g2⟩
      have hap := app_oneG (enc := peC) peC_len peC_one (SL := 22) (T := 48) Try.underlying22 Try.infoPC rfl (by decide) (by decide) w2 w.heap.size u7 l x 22 (hR.out.own.keep g2.2 (fun j h e => by have := HL.out.1; omega)) (by rw [HLN.out]; omega) (Nat.le_trans hR.out.fp.size g2.2.size)
      have HA := Lib.hid (show ∃ v' w', (Builtin.append_ #[22, 22] 22 #[u7, .slice (some ⟨w2.heap.size, 0, none⟩) 1 1]).run Try.prog (w2.alloc (.cells #[.int .i64 x.op, .int .i64 x.p.kind, .string (B x.p.dir), .string (B x.p.path), .string (B x.p.data), .int .i64 x.p.ver, .int .i64 x.p.own, .bool x.p.turns] 48)) = .ok v' w' ∧ ApG 48 peC 8 w.heap.size (l ++ [x]) w2 v' w' from hap)
      have HG := Lib.hid g2
      clear hap g2 HCC
      go_wp2_with (at_builtin; go_must (refine wpList_app rfl _ _ _ _ rfl _ _ rfl rfl _ HA.out ?_))
      intro v' w3 hap
      have HW := Lib.hid (show GlM 48 peC 8 lo b (rIt rPe (j + 1) s1).1 (rIt rPe (j + 1) s1).2 w v' w3 from by
        rw [HNX.out]; exact hR.out.step HL.out.1 HG.out hap)
      have hkn := HJ.out
      clear hap HA
      go_wp2
      go_roundw
      case rel => exact ⟨j + 1, by omega, by go_num, HW⟩
      case measure => simp [RowKit.intOf]; omega
    · have hke : j = n := by omega
      subst hke
      have q3 : ((j : Int) < (j : Int)) = False := eq_false (by omega)
      clear hlt hj
      go_wp2
      go_ret
      exact ⟨_, rfl, hR.out.own, hR.out.rr, hR.out.fp⟩

set_option maxHeartbeats 8000000 in
theorem getNd_c (lo b : Nat) (s : Rst) (most : Int) (w : World) (h : Rr lo b s w) (hl : s.1.length ≤ 1000000) (hm : 0 ≤ most) (hmm : most ≤ 1000) :
    Calls Try.prog 50 #[.agg #[.pointer (some ⟨b, 0, none⟩)], .int .i64 most, .func (.func 51) #[.agg #[.pointer (some ⟨b, 0, none⟩)]] #[]] w fun e w' => ∃ v, e = .returned v ∧ OwG 81 ndC 5 w.heap.size w' v (rLs rNd most s).1 ∧ RrStep lo b (rLs rNd most s).2 w w' := by
  have hf := fp_alloc w (.cells #[.pointer (some ⟨b, 0, none⟩)] TRD)
  have hlt := h.lt
  have hc := RNum_c lo b s most _ (h.keep hf (fun h => h)) hl
  have hv := (rNum_val s most).2 hm
  have hle := rNum_le s most
  unfold rLs
  obtain ⟨x, hx⟩ : ∃ x, x = rNum s most := ⟨_, rfl⟩
  rw [← hx] at hc hv hle ⊢
  obtain ⟨n, s1⟩ := x
  simp only at hc hv hle ⊢
  have hnb : n ≤ 1000 := by omega
  have HL := Lib.hid (And.intro hlt (Nat.le_trans hle hl))
  have HC := Lib.hid hc
  have HF := Lib.hid hf
  clear hc h hl hf hlt hx hv hle hm hmm
  go_enter Try.func50, Try.ntmps50
  go_wp2_with fail
  refine HC.out.mono ?_
  rintro e w1 ⟨rfl, g1⟩
  have H0 : Hid (GlM 81 ndC 5 lo b (rIt rNd 0 s1).1 (rIt rNd 0 s1).2 w (.slice none 0 0) w1) := ⟨OwG.nil _ _, g1.1, (HF.out.any).same g1.2⟩
  clear g1 HC
  go_wp2_with fail
  go_loopw [7, 12] (fun lv i wr => ∃ j : Nat, j ≤ n ∧ i = .int .i64 j ∧ Hid (GlM 81 ndC 5 lo b (rIt rNd j s1).1 (rIt rNd j s1).2 w lv wr)) (fun _ i _ => n - (RowKit.intOf i).toNat)
  case atStart => exact ⟨0, Nat.zero_le _, rfl, H0⟩
  case round =>
    clear H0
    obtain ⟨j, hj, rfl, hR⟩ := hrel
    by_cases hlt : j < n
    · have hle : (rIt rNd j s1).2.1.length ≤ 1000000 := Nat.le_trans (rIt_le rNd_le j s1) HL.out.2
      have hc := rNd_c lo b (rIt rNd j s1).2 wr hR.out.rr hle
      have hln : (rIt rNd j s1).1.length = j := rIt_len rNd j s1
      have hnx : (rIt rNd (j + 1) s1) = ((rIt rNd j s1).1 ++ [(rNd (rIt rNd j s1).2).1], (rNd (rIt rNd j s1).2).2) := rfl
      have HNX := Lib.hid hnx
      have q3 : ((j : Int) < (n : Int)) = True := eq_true (by omega)
      have q4 : (j < n) = True := eq_true hlt
      have HJ := Lib.hid hlt
      clear hnx hlt hle
      generalize (rIt rNd j s1) = st at *
      obtain ⟨l, st⟩ := st
      simp only at hc hln HNX
      obtain ⟨y, hy⟩ : ∃ y, y = rNd st := ⟨_, rfl⟩
      rw [← hy] at hc
      rw [← hy] at HNX
      clear hy
      obtain ⟨x, st2⟩ := y
      simp only at hc HNX
      have HCC := Lib.hid hc
      have HLN := Lib.hid hln
      clear hc hln
      go_wp2_with fail
      refine HCC.out.mono ?_
      rintro e w2 ⟨rfl, g2⟩
      have hap := app_oneG (enc := ndC) ndC_len ndC_one (SL := 23) (T := 81) Try.underlying23 Try.infoND rfl (by decide) (by decide) w2 w.heap.size u7 l x 23 (hR.out.own.keep g2.2 (fun j h e => by have := HL.out.1; omega)) (by rw [HLN.out]; omega) (Nat.le_trans hR.out.fp.size g2.2.size)
      have HA := Lib.hid (show ∃ v' w', (Builtin.append_ #[23, 23] 23 #[u7, .slice (some ⟨w2.heap.size, 0, none⟩) 1 1]).run Try.prog (w2.alloc (.cells #[.string (B x.path), .string (B x.data), .int .i64 x.ver, .int .i64 x.turn, .int .i64 x.own] 81)) = .ok v' w' ∧ ApG 81 ndC 5 w.heap.size (l ++ [x]) w2 v' w' from hap)
      have HG := Lib.hid g2
      clear hap g2 HCC
      go_wp2_with (at_builtin; go_must (refine wpList_app rfl _ _ _ _ rfl _ _ rfl rfl _ HA.out ?_))
      intro v' w3 hap
      have HW := Lib.hid (show GlM 81 ndC 5 lo b (rIt rNd (j + 1) s1).1 (rIt rNd (j + 1) s1).2 w v' w3 from by
        rw [HNX.out]; exact hR.out.step HL.out.1 HG.out hap)
      have hkn := HJ.out
      clear hap HA
      go_wp2
      go_roundw
      case rel => exact ⟨j + 1, by omega, by go_num, HW⟩
      case measure => simp [RowKit.intOf]; omega
    · have hke : j = n := by omega
      subst hke
      have q3 : ((j : Int) < (j : Int)) = False := eq_false (by omega)
      clear hlt hj
      go_wp2
      go_ret
      exact ⟨_, rfl, hR.out.own, hR.out.rr, hR.out.fp⟩

set_option maxHeartbeats 8000000 in
theorem getTu_c (lo b : Nat) (s : Rst) (most : Int) (w : World) (h : Rr lo b s w) (hl : s.1.length ≤ 1000000) (hm : 0 ≤ most) (hmm : most ≤ 1000) :
    Calls Try.prog 52 #[.agg #[.pointer (some ⟨b, 0, none⟩)], .int .i64 most, .func (.func 53) #[.agg #[.pointer (some ⟨b, 0, none⟩)]] #[]] w fun e w' => ∃ v, e = .returned v ∧ OwG 72 tuC 2 w.heap.size w' v (rLs rTu most s).1 ∧ RrStep lo b (rLs rTu most s).2 w w' := by
  have hf := fp_alloc w (.cells #[.pointer (some ⟨b, 0, none⟩)] TRD)
  have hlt := h.lt
  have hc := RNum_c lo b s most _ (h.keep hf (fun h => h)) hl
  have hv := (rNum_val s most).2 hm
  have hle := rNum_le s most
  unfold rLs
  obtain ⟨x, hx⟩ : ∃ x, x = rNum s most := ⟨_, rfl⟩
  rw [← hx] at hc hv hle ⊢
  obtain ⟨n, s1⟩ := x
  simp only at hc hv hle ⊢
  have hnb : n ≤ 1000 := by omega
  have HL := Lib.hid (And.intro hlt (Nat.le_trans hle hl))
  have HC := Lib.hid hc
  have HF := Lib.hid hf
  clear hc h hl hf hlt hx hv hle hm hmm
  go_enter Try.func52, Try.ntmps52
  go_wp2_with fail
  refine HC.out.mono ?_
  rintro e w1 ⟨rfl, g1⟩
  have H0 : Hid (GlM 72 tuC 2 lo b (rIt rTu 0 s1).1 (rIt rTu 0 s1).2 w (.slice none 0 0) w1) := ⟨OwG.nil _ _, g1.1, (HF.out.any).same g1.2⟩
  clear g1 HC
  go_wp2_with fail
  go_loopw [7, 12] (fun lv i wr => ∃ j : Nat, j ≤ n ∧ i = .int .i64 j ∧ Hid (GlM 72 tuC 2 lo b (rIt rTu j s1).1 (rIt rTu j s1).2 w lv wr)) (fun _ i _ => n - (RowKit.intOf i).toNat)
  case atStart => exact ⟨0, Nat.zero_le _, rfl, H0⟩
  case round =>
    clear H0
    obtain ⟨j, hj, rfl, hR⟩ := hrel
    by_cases hlt : j < n
    · have hle : (rIt rTu j s1).2.1.length ≤ 1000000 := Nat.le_trans (rIt_le rTu_le j s1) HL.out.2
      have hc := rTu_c lo b (rIt rTu j s1).2 wr hR.out.rr hle
      have hln : (rIt rTu j s1).1.length = j := rIt_len rTu j s1
      have hnx : (rIt rTu (j + 1) s1) = ((rIt rTu j s1).1 ++ [(rTu (rIt rTu j s1).2).1], (rTu (rIt rTu j s1).2).2) := rfl
      have HNX := Lib.hid hnx
      have q3 : ((j : Int) < (n : Int)) = True := eq_true (by omega)
      have q4 : (j < n) = True := eq_true hlt
      have HJ := Lib.hid hlt
      clear hnx hlt hle
      generalize (rIt rTu j s1) = st at *
      obtain ⟨l, st⟩ := st
      simp only at hc hln HNX
      obtain ⟨y, hy⟩ : ∃ y, y = rTu st := ⟨_, rfl⟩
      rw [← hy] at hc
      rw [← hy] at HNX
      clear hy
      obtain ⟨x, st2⟩ := y
      simp only at hc HNX
      have HCC := Lib.hid hc
      have HLN := Lib.hid hln
      clear hc hln
      go_wp2_with fail
      refine HCC.out.mono ?_
      rintro e w2 ⟨rfl, g2⟩
      have hap := app_oneG (enc := tuC) tuC_len tuC_one (SL := 24) (T := 72) Try.underlying24 Try.infoTU rfl (by decide) (by decide) w2 w.heap.size u7 l x 24 (hR.out.own.keep g2.2 (fun j h e => by have := HL.out.1; omega)) (by rw [HLN.out]; omega) (Nat.le_trans hR.out.fp.size g2.2.size)
      have HA := Lib.hid (show ∃ v' w', (Builtin.append_ #[24, 24] 24 #[u7, .slice (some ⟨w2.heap.size, 0, none⟩) 1 1]).run Try.prog (w2.alloc (.cells #[.string (B x.dir), .int .i64 x.next] 72)) = .ok v' w' ∧ ApG 72 tuC 2 w.heap.size (l ++ [x]) w2 v' w' from hap)
      have HG := Lib.hid g2
      clear hap g2 HCC
      go_wp2_with (at_builtin; go_must (refine wpList_app rfl _ _ _ _ rfl _ _ rfl rfl _ HA.out ?_))
      intro v' w3 hap
      have HW := Lib.hid (show GlM 72 tuC 2 lo b (rIt rTu (j + 1) s1).1 (rIt rTu (j + 1) s1).2 w v' w3 from by
        rw [HNX.out]; exact hR.out.step HL.out.1 HG.out hap)
      have hkn := HJ.out
      clear hap HA
      go_wp2
      go_roundw
      case rel => exact ⟨j + 1, by omega, by go_num, HW⟩
      case measure => simp [RowKit.intOf]; omega
    · have hke : j = n := by omega
      subst hke
      have q3 : ((j : Int) < (j : Int)) = False := eq_false (by omega)
      clear hlt hj
      go_wp2
      go_ret
      exact ⟨_, rfl, hR.out.own, hR.out.rr, hR.out.fp⟩

set_option maxHeartbeats 8000000 in
theorem getTx_c (lo b : Nat) (s : Rst) (most : Int) (w : World) (h : Rr lo b s w) (hl : s.1.length ≤ 1000000) (hm : 0 ≤ most) (hmm : most ≤ 1000) :
    Calls Try.prog 54 #[.agg #[.pointer (some ⟨b, 0, none⟩)], .int .i64 most, .func (.func 49) #[.pointer (some ⟨b, 0, none⟩)] #[]] w fun e w' => ∃ v, e = .returned v ∧ OwG 9 txC 1 w.heap.size w' v (rLs rText most s).1 ∧ RrStep lo b (rLs rText most s).2 w w' := by
  have hf := fp_alloc w (.cells #[.pointer (some ⟨b, 0, none⟩)] TRD)
  have hlt := h.lt
  have hc := RNum_c lo b s most _ (h.keep hf (fun h => h)) hl
  have hv := (rNum_val s most).2 hm
  have hle := rNum_le s most
  unfold rLs
  obtain ⟨x, hx⟩ : ∃ x, x = rNum s most := ⟨_, rfl⟩
  rw [← hx] at hc hv hle ⊢
  obtain ⟨n, s1⟩ := x
  simp only at hc hv hle ⊢
  have hnb : n ≤ 1000 := by omega
  have HL := Lib.hid (And.intro hlt (Nat.le_trans hle hl))
  have HC := Lib.hid hc
  have HF := Lib.hid hf
  clear hc h hl hf hlt hx hv hle hm hmm
  go_enter Try.func54, Try.ntmps54
  go_wp2_with fail
  refine HC.out.mono ?_
  rintro e w1 ⟨rfl, g1⟩
  have H0 : Hid (GlM 9 txC 1 lo b (rIt rText 0 s1).1 (rIt rText 0 s1).2 w (.slice none 0 0) w1) := ⟨OwG.nil _ _, g1.1, (HF.out.any).same g1.2⟩
  clear g1 HC
  go_wp2_with fail
  go_loopw [7, 12] (fun lv i wr => ∃ j : Nat, j ≤ n ∧ i = .int .i64 j ∧ Hid (GlM 9 txC 1 lo b (rIt rText j s1).1 (rIt rText j s1).2 w lv wr)) (fun _ i _ => n - (RowKit.intOf i).toNat)
  case atStart => exact ⟨0, Nat.zero_le _, rfl, H0⟩
  case round =>
    clear H0
    obtain ⟨j, hj, rfl, hR⟩ := hrel
    by_cases hlt : j < n
    · have hle : (rIt rText j s1).2.1.length ≤ 1000000 := Nat.le_trans (rIt_le rTx_le j s1) HL.out.2
      have hc := RText_c lo b (rIt rText j s1).2 wr hR.out.rr hle
      have hln : (rIt rText j s1).1.length = j := rIt_len rText j s1
      have hnx : (rIt rText (j + 1) s1) = ((rIt rText j s1).1 ++ [(rText (rIt rText j s1).2).1], (rText (rIt rText j s1).2).2) := rfl
      have HNX := Lib.hid hnx
      have q3 : ((j : Int) < (n : Int)) = True := eq_true (by omega)
      have q4 : (j < n) = True := eq_true hlt
      have HJ := Lib.hid hlt
      clear hnx hlt hle
      generalize (rIt rText j s1) = st at *
      obtain ⟨l, st⟩ := st
      simp only at hc hln HNX
      obtain ⟨y, hy⟩ : ∃ y, y = rText st := ⟨_, rfl⟩
      rw [← hy] at hc
      rw [← hy] at HNX
      clear hy
      obtain ⟨x, st2⟩ := y
      simp only at hc HNX
      have HCC := Lib.hid hc
      have HLN := Lib.hid hln
      clear hc hln
      go_wp2_with fail
      refine HCC.out.mono ?_
      rintro e w2 ⟨rfl, g2⟩
      have hap := app_oneG (enc := txC) txC_len txC_one (SL := 27) (T := 9) Try.underlying27 Try.infoST rfl (by decide) (by decide) w2 w.heap.size u7 l x 27 (hR.out.own.keep g2.2 (fun j h e => by have := HL.out.1; omega)) (by rw [HLN.out]; omega) (Nat.le_trans hR.out.fp.size g2.2.size)
      have HA := Lib.hid (show ∃ v' w', (Builtin.append_ #[27, 27] 27 #[u7, .slice (some ⟨w2.heap.size, 0, none⟩) 1 1]).run Try.prog (w2.alloc (.cells #[.string (B x)] 9)) = .ok v' w' ∧ ApG 9 txC 1 w.heap.size (l ++ [x]) w2 v' w' from hap)
      have HG := Lib.hid g2
      clear hap g2 HCC
      go_wp2_with (at_builtin; go_must (refine wpList_app rfl _ _ _ _ rfl _ _ rfl rfl _ HA.out ?_))
      intro v' w3 hap
      have HW := Lib.hid (show GlM 9 txC 1 lo b (rIt rText (j + 1) s1).1 (rIt rText (j + 1) s1).2 w v' w3 from by
        rw [HNX.out]; exact hR.out.step HL.out.1 HG.out hap)
      have hkn := HJ.out
      clear hap HA
      go_wp2
      go_roundw
      case rel => exact ⟨j + 1, by omega, by go_num, HW⟩
      case measure => simp [RowKit.intOf]; omega
    · have hke : j = n := by omega
      subst hke
      have q3 : ((j : Int) < (j : Int)) = False := eq_false (by omega)
      clear hlt hj
      go_wp2
      go_ret
      exact ⟨_, rfl, hR.out.own, hR.out.rr, hR.out.fp⟩
end Go.Proofs.Ytlmfinpmlilcgaa

