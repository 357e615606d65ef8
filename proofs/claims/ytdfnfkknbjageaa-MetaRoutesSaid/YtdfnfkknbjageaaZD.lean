/- Texts of this proof, merged. -/
import Derived.Test.YtdfnfkknbjageaaZB
import Derived.Shelf.Abstract
import Derived.Test.YtdfnfkknbjageaaZC
import Derived.Laws.Strings
import Derived.Laws.Strings2
import Derived.Deep.RegionHeld
set_option linter.unusedVariables false
set_option linter.unusedSimpArgs false
/- Function values over mounts; slices.IndexFunc, ContainsFunc (gen_b.py) -/
namespace Go.Proofs.Ytdfnfkknbjageaa
set_option maxRecDepth 20000
set_option linter.unusedVariables false
set_option linter.unusedSimpArgs false
open Go.RowKit Pm

def MSp (l : List Mt) : Prop := ∀ x ∈ l, x.d.length ≤ 140737488355328
/-- A function value that tells of a node what q does, in whatever world that differs from wc in S alone. -/
structure PdM (S : Nat → Prop) (wc : World) (f : Value) (q : Mt → Bool) : Prop where
  ex : ∃ k fi cap, f = .func (.func k) fi cap ∧ Enters Try.prog k ∧ ∀ n w1, n.d.length ≤ 140737488355328 → Fp S wc w1 →
    Calls Try.prog k (fi ++ #[mtV n] ++ cap) w1 fun e w2 => e = .returned (.bool (q n)) ∧ Fp Non w1 w2
theorem PdM.later {S : Nat → Prop} {wc w : World} {f : Value} {q : Mt → Bool} (h : PdM S wc f q) (g : Fp S wc w) : PdM S w f q := by
  obtain ⟨k, fi, cap, e, h1, h2⟩ := h.ex
  exact ⟨k, fi, cap, e, h1, fun n w1 hn hf => h2 n w1 hn (g.same hf)⟩
theorem PdM.non {S : Nat → Prop} {wc : World} {f : Value} {q : Mt → Bool} (h : PdM S wc f q) : PdM Non wc f q := by
  obtain ⟨k, fi, cap, e, h1, h2⟩ := h.ex
  exact ⟨k, fi, cap, e, h1, fun n w1 hn hf => h2 n w1 hn hf.any⟩

/-- Where the first one is. -/
def IdxM (q : Mt → Bool) (l : List Mt) (z : Int) : Prop := (z = -1 ∧ ∀ n ∈ l, q n = false) ∨ ∃ i, z = ((i : Nat) : Int) ∧ ∃ h : i < l.length, q l[i] = true ∧ ∀ j (hj : j < l.length), j < i → q l[j] = false

set_option maxHeartbeats 1000000 in
theorem IndexM_c (v f : Value) (l : List Mt) (q : Mt → Bool) (w : World) (hv : NsM w v l) (hs : MSp l) (hq : PdM Non w f q) (hn : l.length ≤ 140737488355328) :
    Calls Try.prog 73 #[v, f] w fun e w' => (∃ z, e = .returned (.int .i64 z) ∧ IdxM q l z) ∧ Fp Non w w' := by
  obtain ⟨ao, cap, rfl⟩ := hv.shape
  obtain ⟨n, hnn⟩ : ∃ n, n = l.length := ⟨_, rfl⟩
  obtain ⟨kf, fi, fc, rfl, hen, hcall⟩ := hq.ex
  have HX := Lib.hid (And.intro hnn (And.intro hv (And.intro hs hcall)))
  rw [← hnn]
  have hnb : n ≤ 140737488355328 := by omega
  clear hv hs hq hcall hn hnn
  go_enter Try.func73, Try.ntmps73
  go_wp2_with fail
  go_loopw [8] (fun i wr => ∃ k : Nat, k ≤ n ∧ i = .int .i64 k ∧ Hid (Fp Non w wr ∧ ∀ j (hj : j < l.length), j < k → q l[j] = false)) (fun i _ => n - (RowKit.intOf i).toNat)
  case atStart => exact ⟨0, Nat.zero_le _, rfl, Fp.refl _ _, fun j _ h => absurd h (Nat.not_lt_zero j)⟩
  case round =>
    obtain ⟨k, hk, rfl, hR⟩ := hrel
    rename_i wr _
    by_cases hlt : k < n
    · have hkl : k < l.length := by rw [← HX.out.1]; exact hlt
      obtain ⟨g, o, cap', e, _, _, _, hcell⟩ := HX.out.2.1.at (by omega)
      injection e with e1 e2 e3
      subst e1 e3
      have hnd := (hcell k hkl).keep hR.out.1 (fun h => h)
      have hcc := HX.out.2.2.2 l[k] wr (HX.out.2.2.1 _ (List.getElem_mem hkl)) hR.out.1
      obtain ⟨b, hb⟩ : ∃ b, q l[k] = b := ⟨_, rfl⟩
      rw [hb] at hcc
      have HB := Lib.hid (And.intro hkl (And.intro hb hlt))
      have HL := Lib.hid (And.intro hkl hlt)
      have hnew : b = false → ∀ j (hj : j < l.length), j < k + 1 → q l[j] = false := fun h j hj hjk => by
        rcases Nat.lt_or_eq_of_le (show j ≤ k by omega) with e | e
        · exact hR.out.2 j hj e
        · subst e; rw [hb, h]
      have hfin : b = true → IdxM q l (k : Int) := fun h => .inr ⟨k, rfl, hkl, by rw [hb, h], fun j hj hjk => hR.out.2 j hj hjk⟩
      have HN := Lib.hid (And.intro hnew hfin)
      clear HB hnew hfin hb hcell
      generalize l[k] = x at *
      have c0 := hnd.c0; have c1 := hnd.c1; have c2 := hnd.c2; have c3 := hnd.c3
      unfold strV at c0
      unfold mtV strV at hcc
      have q3 : ((k : Int) < (n : Int)) = True := eq_true (by omega)
      have q4 : (k < n) = True := eq_true hlt
      have HCC := Lib.hid hcc
      clear hnd hcc hkl hlt
      go_wp2_with fail
      rw [hen _ _]
      go_wp2_with fail
      refine HCC.out.mono ?_
      rintro e w2 ⟨rfl, hf2⟩
      have HF := Lib.hid (hR.out.1.then hf2)
      clear hf2
      cases b with
      | true =>
        have hI := HN.out.2 rfl
        have HI := Lib.hid hI
        clear HN hI
        go_wp2
        go_ret
        exact ⟨⟨_, rfl, HI.out⟩, HF.out⟩
      | false =>
        have hM : Hid (Fp Non w w2 ∧ ∀ j (hj : j < l.length), j < k + 1 → q l[j] = false) := ⟨HF.out, HN.out.1 rfl⟩
        have hkn := HL.out.2
        clear HN
        go_wp2
        go_roundw
        case rel => exact ⟨k + 1, by omega, by go_num, hM⟩
        case measure => simp [RowKit.intOf]; omega
    · have hke : k = n := by omega
      subst hke
      have q3 : ((k : Int) < (k : Int)) = False := eq_false (by omega)
      have hI : IdxM q l (-1) := .inl ⟨rfl, fun x hx => by
        obtain ⟨i, hi, rfl⟩ := List.getElem_of_mem hx
        exact hR.out.2 i hi (by rw [HX.out.1]; exact hi)⟩
      have HI := Lib.hid hI
      clear hlt hk hI
      go_wp2
      go_ret
      exact ⟨⟨_, rfl, HI.out⟩, hR.out.1⟩

theorem IdxM.pos {q : Mt → Bool} {l : List Mt} {z : Int} (h : IdxM q l z) : decide (0 ≤ z) = l.any q := by
  rcases h with ⟨rfl, h⟩ | ⟨i, rfl, hi, h, _⟩
  · have : l.any q = false := by rw [List.any_eq_false]; intro x hx; simp [h x hx]
    rw [this]; rfl
  · have : l.any q = true := List.any_eq_true.2 ⟨_, List.getElem_mem hi, h⟩
    rw [this]; simp

set_option maxHeartbeats 1000000 in
theorem ContainsM_c (v f : Value) (l : List Mt) (q : Mt → Bool) (w : World) (hv : NsM w v l) (hs : MSp l) (hq : PdM Non w f q) (hn : l.length ≤ 140737488355328) :
    Calls Try.prog 76 #[v, f] w fun e w' => e = .returned (.bool (l.any q)) ∧ Fp Non w w' := by
  have hi := IndexM_c v f l q w hv hs hq hn
  have HI := Lib.hid hi
  obtain ⟨ao, cap, rfl⟩ := hv.shape
  obtain ⟨kf, fi, fc, rfl, _, _⟩ := hq.ex
  clear hi hv hq hs hn
  go_enter Try.func76, Try.ntmps76
  go_wp2_with fail
  refine HI.out.mono ?_
  rintro e w1 ⟨⟨z, rfl, hz⟩, hf⟩
  have HZ := Lib.hid (And.intro hz.pos hf)
  clear hz hf
  go_wp2
  go_ret
  exact ⟨ret_bool HZ.out.1, HZ.out.2⟩



end Go.Proofs.Ytdfnfkknbjageaa

/- slices.DeleteFunc at mounts (gen_d1.py, out of locks/XJd) -/
namespace Go.Proofs.Ytdfnfkknbjageaa
set_option maxRecDepth 20000
set_option linter.unusedVariables false
set_option linter.unusedSimpArgs false
open Go.RowKit Pm
theorem PdM.sub {S T : Nat → Prop} {wc : World} {f : Value} {q : Mt → Bool} (h : PdM S wc f q) (k : ∀ i, T i → S i) : PdM T wc f q := by
  obtain ⟨kf, fi, cap, e, h1, h2⟩ := h.ex
  exact ⟨kf, fi, cap, e, h1, fun n w1 hn hf => h2 n w1 hn (hf.mono k)⟩
theorem clear_inM {w : World} {G cap : Nat} {l : List Mt} (h : NrM w G cap l) (ty : TypeId) (n c : Nat) (h0 : 0 < n) (hn : l.length + n ≤ cap) :
    ∃ w', (Builtin.clear_ #[TLM] ty #[.slice (some ⟨G, l.length * 4, none⟩) n c]).run Try.prog w = .ok (.tuple #[]) w' ∧ NrM w' G cap l ∧ Fp (fun j => j = G) w w' := by
  obtain ⟨rest, hg, hrl⟩ := h.ex
  have hlc : (rowsM l ++ rest).length = cap * 4 := by rw [List.length_append, rowsM_len]; omega
  obtain ⟨zs, hz, hr⟩ := run_clear_nodesM w ty G (l.length * 4) n c (rowsM l ++ rest) hg (by rw [hlc]; omega) h0
  refine ⟨_, hr, ⟨⟨zs ++ (rowsM l ++ rest).drop (l.length * 4 + n * 4), ?_, ?_⟩, h.room, h.most⟩, fp_setRow w G _⟩
  · rw [setRow_heap w G _ _ TM _ hg]
    congr 2
    rw [← rowsM_len l, List.take_left, List.append_assoc]
  · rw [List.length_append, List.length_drop, hz, hlc]; omega

/-- In the midst of DeleteFunc: i that stay, of the j that were asked. -/
structure DfMM (S : Nat → Prop) (q : Mt → Bool) (l : List Mt) (G cap : Nat) (w : World) (i j : Nat) (wr : World) : Prop where
  ex : ∃ m, NrM wr G cap m ∧ m.length = l.length ∧ m.take i = (l.take j).filter (fun n => !q n) ∧ m.drop j = l.drop j
  ij : i < j
  fp : Fp (fun k => k = G) w wr

theorem DfMM.keep {S : Nat → Prop} {q : Mt → Bool} {l : List Mt} {G cap i j : Nat} {w wr w' : World} (h : DfMM S q l G cap w i j wr) (f : Fp Non wr w') : DfMM S q l G cap w i j w' := by
  obtain ⟨m, h1, h2⟩ := h.ex
  exact ⟨⟨m, h1.keep f (fun h => h), h2⟩, h.ij, h.fp.then f⟩
theorem take_stepM (l : List Mt) (j : Nat) (hj : j < l.length) (p : Mt → Bool) : (l.take (j + 1)).filter p = (l.take j).filter p ++ if p l[j] = true then [l[j]] else [] := by
  rw [List.take_succ_eq_append_getElem hj, List.filter_append]
  congr 1
  by_cases h : p l[j] = true <;> simp [h]
theorem DfMM.gone {S : Nat → Prop} {q : Mt → Bool} {l : List Mt} {G cap i j : Nat} {w wr : World} (h : DfMM S q l G cap w i j wr) (hj : j < l.length) (hq : q l[j] = true) : DfMM S q l G cap w i (j + 1) wr := by
  obtain ⟨m, h1, h2, h3, h4⟩ := h.ex
  refine ⟨⟨m, h1, h2, ?_, ?_⟩, Nat.lt_succ_of_lt h.ij, h.fp⟩
  · rw [take_stepM l j hj, h3]; simp [hq]
  · have := congrArg (List.drop 1) h4
    rwa [List.drop_drop, List.drop_drop] at this
theorem DfMM.stays {S : Nat → Prop} {q : Mt → Bool} {l : List Mt} {G cap i j : Nat} {w wr w' : World} (h : DfMM S q l G cap w i j wr) (hj : j < l.length) (hq : q l[j] = false)
    (hs : ∀ m, NrM wr G cap m → i < m.length → NrM w' G cap (m.set i l[j])) (f : Fp (fun k => k = G) wr w') : DfMM S q l G cap w (i + 1) (j + 1) w' := by
  obtain ⟨m, h1, h2, h3, h4⟩ := h.ex
  have hi := h.ij
  refine ⟨⟨m.set i l[j], hs m h1 (by omega), by rw [List.length_set, h2], ?_, ?_⟩, by omega, h.fp.same f⟩
  · rw [take_stepM l j hj, ← h3]
    simp only [hq, Bool.not_false, if_true]
    rw [List.take_succ_eq_append_getElem (by rw [List.length_set]; omega), List.getElem_set_self, List.take_set_of_le (Nat.le_refl _)]
  · rw [List.drop_set_of_lt (by omega)]
    have := congrArg (List.drop 1) h4
    rwa [List.drop_drop, List.drop_drop] at this
theorem DfMM.cell {S : Nat → Prop} {q : Mt → Bool} {l : List Mt} {G cap i j : Nat} {w wr : World} (h : DfMM S q l G cap w i j wr) (hj : j < l.length) : NdAtM wr G (0 + j * 4) l[j] := by
  obtain ⟨m, h1, h2, h3, h4⟩ := h.ex
  have hm : j < m.length := by omega
  have e : m[j] = l[j] := by
    have h5 : (m.drop j)[0]? = (l.drop j)[0]? := by rw [h4]
    rw [List.getElem?_drop, List.getElem?_drop, List.getElem?_eq_getElem (by omega), List.getElem?_eq_getElem (by omega)] at h5
    exact Option.some.inj h5
  rw [← e]; exact h1.nd j hm
theorem DfMM.there {S : Nat → Prop} {q : Mt → Bool} {l : List Mt} {G cap i j : Nat} {w wr : World} (h : DfMM S q l G cap w i j wr) (hj : j ≤ l.length) : ∃ y, NdAtM wr G (i * 4) y := by
  obtain ⟨m, h1, h2, h3, h4⟩ := h.ex
  have hi := h.ij
  have := h1.nd i (by omega)
  rw [Nat.zero_add] at this
  exact ⟨_, this⟩
theorem DfMM.frozen {S : Nat → Prop} {q : Mt → Bool} {l : List Mt} {G cap i j : Nat} {w wr : World} (h : DfMM S q l G cap w i j wr) (o : Nat) : wr.frozen? ⟨G, o, none⟩ = false := by
  obtain ⟨m, h1, _⟩ := h.ex; exact h1.frozen o
theorem none_filterM {q : Mt → Bool} {l : List Mt} (h : ∀ n ∈ l, q n = false) : l.filter (fun n => !q n) = l := by
  rw [List.filter_eq_self]; intro n hn; simp [h n hn]
theorem first_filterM {q : Mt → Bool} {l : List Mt} {i : Nat} (hi : i < l.length) (hq : q l[i] = true) (h : ∀ j (hj : j < l.length), j < i → q l[j] = false) : (l.take (i + 1)).filter (fun n => !q n) = l.take i := by
  rw [take_stepM l i hi, hq, none_filterM]
  · simp
  · intro n hn
    obtain ⟨j, hj, rfl⟩ := List.getElem_of_mem hn
    rw [List.length_take] at hj
    rw [List.getElem_take]; exact h j (by omega) (by omega)

theorem NrM.take {w : World} {G cap : Nat} {l : List Mt} (h : NrM w G cap l) (k : Nat) : NrM w G cap (l.take k) := by
  obtain ⟨rest, hg, hl⟩ := h.ex
  refine ⟨⟨rowsM (l.drop k) ++ rest, ?_, ?_⟩, by have := h.room; rw [List.length_take]; omega, h.most⟩
  · rw [← List.append_assoc, ← rowsM_app, List.take_append_drop]; exact hg
  · rw [List.length_append, rowsM_len, List.length_take, List.length_drop]; omega
/-- What DeleteFunc leaves. -/
structure DfRM (w : World) (G cap : Nat) (l : List Mt) (v' : Value) (w' : World) : Prop where
  v : v' = .slice (some ⟨G, 0, none⟩) l.length cap
  row : NrM w' G cap l
  fp : Fp (fun k => k = G) w w'

set_option maxHeartbeats 8000000 in
theorem DeleteFM_c {w : World} {G cap : Nat} {l : List Mt} {f : Value} {q : Mt → Bool} (h : NrM w G cap l) (hs : MSp l) (hq : PdM (fun k => k = G) w f q) (hl : l.length ≤ 100000) :
    Calls Try.prog 63 #[.slice (some ⟨G, 0, none⟩) l.length cap, f] w fun e w' => ∃ v', e = .returned v' ∧ DfRM w G cap (l.filter (fun n => !q n)) v' w' := by
  have hm := h.most
  have hcr := h.room
  unfold maxLen at hm
  obtain ⟨n, hn⟩ : ∃ n, n = l.length := ⟨_, rfl⟩
  have hi := IndexM_c _ f l q w h.ns hs hq.non (by omega)
  obtain ⟨kf, fi, fc, rfl, hen, hcall⟩ := hq.ex
  have HI := Lib.hid hi
  have HX := Lib.hid (And.intro hn (And.intro hs (And.intro hcall h)))
  rw [← hn] at HI ⊢
  have hn6 : n ≤ 100000 := by omega
  have hcn : n ≤ cap := by omega
  clear hi hq hcall h hs hn hl hcr
  go_enter Try.func63, Try.ntmps63
  go_wp2_with fail
  refine HI.out.mono ?_
  rintro e w1 ⟨⟨z, rfl, hz⟩, hf1⟩
  rcases hz with ⟨rfl, hz⟩ | ⟨i, rfl, hil, hqi, hz⟩
  · have HR : Hid (DfRM w G cap (l.filter (fun n => !q n)) (.slice (some ⟨G, 0, none⟩) n cap) w1) := by
      rw [none_filterM hz]
      exact ⟨by rw [HX.out.1], HX.out.2.2.2.keep hf1 (fun h => h), hf1.any⟩
    clear hz hf1
    go_wp2
    go_ret
    exact ⟨_, rfl, HR.out⟩
  · have H0 : Hid (DfMM Non q l G cap w i (i + 1) w1) := ⟨⟨l, HX.out.2.2.2.keep hf1 (fun h => h), rfl, (first_filterM hil hqi hz).symm, rfl⟩, Nat.lt_succ_self i, hf1.any⟩
    have hin : i < n := by rw [HX.out.1]; exact hil
    have q1 : ((i : Int) == -1) = false := beq_eq_false_iff_ne.2 (by omega)
    clear hz hf1 hqi hil
    go_wp2_with fail
    go_loopw [5, 6] (fun a b wr => ∃ i j : Nat, j ≤ n ∧ i < n ∧ a = .int .i64 i ∧ b = .int .i64 j ∧ Hid (DfMM Non q l G cap w i j wr)) (fun _ b _ => n - (RowKit.intOf b).toNat)
    case atStart => exact ⟨i, i + 1, by omega, hin, rfl, by go_num, H0⟩
    case round =>
      clear H0 hin q1
      obtain ⟨i, j, hj, hin, rfl, rfl, hR⟩ := hrel
      rename_i wr _
      by_cases hlt : j < n
      · have hjl : j < l.length := by rw [← HX.out.1]; exact hlt
        have hnd := hR.out.cell hjl
        have hgone := fun w' (M : DfMM Non q l G cap w i j w') => M.gone hjl
        have hstay := fun w' w'' (M : DfMM Non q l G cap w i j w') => M.stays (w' := w'') hjl
        have hcc := fun w1 hf => HX.out.2.2.1 l[j] w1 (HX.out.2.1 _ (List.getElem_mem hjl)) hf
        obtain ⟨b, hb⟩ : ∃ b, q l[j] = b := ⟨_, rfl⟩
        rw [hb] at hcc hgone hstay
        clear hb
        generalize l[j] = x at *
        have hbx := (BxM.new wr x).at
        have c0 := hnd.c0; have c1 := hnd.c1; have c2 := hnd.c2; have c3 := hnd.c3
        unfold strV at c0
        unfold mtV strV at hcc
        simp only [Nat.zero_add] at c0 c1 c2 c3
        have q3 : ((j : Int) < (n : Int)) = True := eq_true (by omega)
        have q4 : (j < n) = True := eq_true hlt
        have HCC := Lib.hid hcc
        have HB := Lib.hid (And.intro hgone (And.intro hstay hbx))
        have HL := Lib.hid hlt
        clear hnd hcc hgone hstay hbx hjl hlt
        go_wp2_with fail
        rw [hen _ _]
        go_wp2_with fail
        refine (HCC.out _ (hR.out.fp.trans ((Fp.refl Non wr).alloc _) (fun _ h => h.elim))).mono ?_
        rintro e w2 ⟨rfl, hf2⟩
        have hM2 := hR.out.keep (((Fp.refl Non wr).alloc _).then hf2)
        have hbx2 := And.intro (hf2.cell HB.out.2.2.1 (fun h => h)) (And.intro (hf2.cell HB.out.2.2.2.1 (fun h => h)) (And.intro (hf2.cell HB.out.2.2.2.2.1 (fun h => h)) (hf2.cell HB.out.2.2.2.2.2 (fun h => h))))
        cases b with
        | true =>
          have hM : Hid (DfMM Non q l G cap w i (j + 1) w2) := HB.out.1 w2 hM2 rfl
          have hj1 := HL.out
          clear hf2 hM2 hbx2
          go_wp2
          go_roundw
          case rel => exact ⟨i, j + 1, by omega, hin, rfl, by go_num, hM⟩
          case measure => simp [RowKit.intOf]; omega
        | false =>
          obtain ⟨y, hy⟩ := hM2.there (by rw [← HX.out.1]; exact hj)
          obtain ⟨b0, b1, b2, b3⟩ := hbx2
          have y0 := hy.c0; have y1 := hy.c1; have y2 := hy.c2; have y3 := hy.c3
          have f0 := hM2.frozen (i * 4); have f1 := hM2.frozen (i * 4 + 1); have f2 := hM2.frozen (i * 4 + 2); have f3 := hM2.frozen (i * 4 + 3)
          have hM := Lib.hid (HB.out.2.1 w2 ((((w2.setCell ⟨G, i * 4, none⟩ (strV x.d)).setCell ⟨G, i * 4 + 1, none⟩ (.int .i64 x.g)).setCell ⟨G, i * 4 + 2, none⟩ (.int .i64 x.e)).setCell ⟨G, i * 4 + 3, none⟩ (.int .i64 x.t)) hM2 rfl (fun m hm hi => hm.put i hi x) (fp_putM (S := fun k => k = G) (Fp.refl _ w2) (.inl rfl) (i * 4) _ _ _ _))
          have hij := hM2.ij
          have hj1 := HL.out
          have q5 : ((i : Int) < (n : Int)) = True := eq_true (by omega)
          have q6 : (i < n) = True := eq_true hin
          unfold strV at hM
          clear hf2 hM2 hy
          go_wp2
          go_roundw
          case rel => exact ⟨i + 1, j + 1, by omega, by omega, by go_num, by go_num, hM⟩
          case measure => simp [RowKit.intOf]; omega
      · have hje : j = n := by omega
        subst hje
        obtain ⟨m, h1, h2, h3, h4⟩ := hR.out.ex
        have hil : (m.take i).length = i := by rw [List.length_take, h2, ← HX.out.1]; omega
        have hcl := clear_inM (h1.take i) 0 (j - i) (cap - i) (by omega) (by rw [hil]; omega)
        rw [hil] at hcl
        have hfin : m.take i = l.filter (fun n => !q n) := by rw [h3, List.take_of_length_le (by rw [← HX.out.1]; exact Nat.le_refl _)]
        rw [hfin] at hcl hil
        have HCL := Lib.hid hcl
        have HL := Lib.hid hil
        have q3 : ((j : Int) < (j : Int)) = False := eq_false (by omega)
        have q4 : (cap = i) = False := eq_false (by omega)
        have q5 : (i ≤ j) = True := eq_true (by omega)
        have q6 : ((i : Int) ≤ (j : Int)) = True := eq_true (by omega)
        have q7 : (i ≤ cap) = True := eq_true (by omega)
        have q8 : ((i : Int) ≤ (cap : Int)) = True := eq_true (by omega)
        have q9 : ∃ d, j - i = d + 1 := ⟨j - i - 1, by omega⟩
        obtain ⟨d, hd⟩ := q9
        rw [hd] at HCL
        clear h1 h2 h3 h4 hil hcl hfin hj hlt
        go_wp2_with fail
        obtain ⟨w5, hr, hrow, hf5⟩ := HCL.out
        rw [hr]
        simp only [Result.andThen]
        rw [Oper.upon_value]
        have HR := Lib.hid (And.intro hrow (hR.out.fp.same hf5))
        clear hr hrow hf5
        go_wp2
        go_ret
        exact ⟨_, rfl, ⟨by rw [HL.out]; rfl, HR.out.1, HR.out.2⟩⟩

set_option maxHeartbeats 2000000 in
theorem DeleteFM_own {lo : Nat} {w : World} {v f : Value} {l : List Mt} {q : Mt → Bool} (h : OwM lo w v l) (hs : MSp l) (hq : PdM (fun k => v.ownBlock = some k) w f q) (hl : l.length ≤ 100000) :
    Calls Try.prog 63 #[v, f] w fun e w' => ∃ v', e = .returned v' ∧ ChRM lo w v (l.filter (fun n => !q n)) v' w' := by
  rcases h.ways with ⟨rfl, rfl⟩ | ⟨G, cap, rfl, h1, h2⟩
  · have HI := Lib.hid (IndexM_c (.slice none 0 0) f [] q w (NsM.nil w) hs hq.non (by simp))
    obtain ⟨kf, fi, fc, rfl, hen, hcall⟩ := hq.ex
    clear hq hcall h hs hl
    go_enter Try.func63, Try.ntmps63
    go_wp2_with fail
    refine HI.out.mono ?_
    rintro e w1 ⟨⟨z, rfl, hz⟩, hf1⟩
    rcases hz with ⟨rfl, hz⟩ | ⟨i, rfl, hil, hqi, hz⟩
    · have HF := Lib.hid hf1
      clear hf1 hz
      go_wp2
      go_ret
      exact ⟨_, rfl, OwM.nil _ _, HF.out.any, fun k hk => .inl hk⟩
    · simp at hil
  · refine (DeleteFM_c h1 hs (hq.sub (fun i hi => by rw [hi]; rfl)) hl).mono ?_
    rintro e w' ⟨v', rfl, hR⟩
    obtain rfl := hR.v
    exact ⟨_, rfl, OwM.row hR.row h2, hR.fp.mono (fun k hk => by rw [hk]; rfl), fun k hk => .inl hk⟩
end Go.Proofs.Ytdfnfkknbjageaa

/- Plain lists: stores of nodes and turns, parts of operations, what a part makes of a store. Nothing of the program. -/
namespace Go.Proofs.Ytdfnfkknbjageaa
set_option maxRecDepth 20000
namespace Pm

structure Tu where
  dir : Bs
  next : Int
deriving DecidableEq

structure St where
  nodes : List Nd
  turns : List Tu
deriving DecidableEq

structure Pt where
  kind : Int
  dir : Bs
  path : Bs
  data : Bs
  ver : Int
  own : Int
  turns : Bool
deriving DecidableEq

/-- A path's parent; of the root the root. -/
def upB (p : Bs) : Bs := (parent p).getD [47]
/-- Whose keeper executes parts of that kind. -/
def keptAt (k : Int) (p : Bs) : Bs := if k = 4 ∨ k = 9 ∨ k = 10 then p else upB p

/-- May a part be? -/
def mayP (x : Pt) : Bool :=
  decide (1 ≤ x.kind ∧ x.kind ≤ 10) && (split x.path).isSome && decide (x.dir = keptAt x.kind x.path) && decide (¬ (x.kind = 2 ∧ x.path = [47])) &&
  decide (x.data.length ≤ 256 ∧ -1 ≤ x.ver ∧ x.ver ≤ 281474976710656 ∧ 0 ≤ x.own ∧ x.own ≤ 1099511627776)

/-- May a node stand in a store? (as the program reads it: see REPORT.md) -/
def sfit (n : Nd) : Bool :=
  (split n.path).isSome && decide (n.data.length ≤ 256 ∧ n.turn = 0 ∧ ¬ (n.path = [47] ∧ n.own ≠ 0) ∧ 0 ≤ n.ver ∧ n.ver ≤ 281474976710656 ∧ 0 ≤ n.own ∧ n.own ≤ 1099511627776)
def tfit (t : Tu) : Bool := (split t.dir).isSome && decide (1 ≤ t.next ∧ t.next ≤ 10000)

/-- Rising turns. -/
def AscT (l : List Tu) : Prop := ∀ i j (hi : i < l.length) (hj : j < l.length), i < j → lt l[i].dir l[j].dir = true
structure StR (s : St) : Prop where
  fit : ∀ n ∈ s.nodes, sfit n = true
  asc : Asc s.nodes
  tfit : ∀ t ∈ s.turns, tfit t = true
  tasc : AscT s.turns
open Classical in
noncomputable def rightS (s : St) : Bool := decide (StR s)
theorem rightS_iff (s : St) : rightS s = true ↔ StR s := by unfold rightS; simp
theorem rightS_true {s : St} (h : StR s) : rightS s = true := by unfold rightS; simp [h]
theorem rightS_false {s : St} (h : ¬ StR s) : rightS s = false := by unfold rightS; simp [h]

/-- The turn of a directory. -/
def findT (l : List Tu) (p : Bs) : Option Tu := l.find? (fun t => t.dir == p)
def turnOf (l : List Tu) (p : Bs) : Int := ((findT l p).map Tu.next).getD 0
def placeT (l : List Tu) (p : Bs) : Nat := l.countP (fun t => lt t.dir p)
def insT (l : List Tu) (k : Nat) (x : Tu) : List Tu := l.take k ++ x :: l.drop k
/-- A directory has another turn; of 0 nothing stands there. -/
def setT (l : List Tu) (p : Bs) (n : Int) : List Tu :=
  let l1 := if (findT l p).isSome = true then l.eraseIdx (placeT l p) else l
  if n ≠ 0 then insT l1 (placeT l p) ⟨p, n⟩ else l1

/-- The path of the node that a Put adds. -/
def newPath (s : St) (x : Pt) : Option Bs := if x.turns = true then (numbered (last x.path) (turnOf s.turns x.dir)).bind (join x.dir) else some x.path
def putS (s : St) (x : Pt) : St × Res :=
  match newPath s x with
  | none => (s, .bad 66)
  | some q => if (find s.nodes q).isSome = true then (s, .bad 61) else
      (⟨ins s.nodes (place s.nodes q) ⟨q, x.data, 0, 0, x.own⟩, if x.turns = true then setT s.turns x.dir (turnOf s.turns x.dir + 1) else s.turns⟩, ⟨0, q, [], 0, []⟩)
theorem upB_ok (p : Bs) : (split (upB p)).isSome = true := by
  unfold upB
  cases h : parent p with
  | none => rfl
  | some u =>
    simp only [Option.getD_some]
    obtain ⟨ps, hs, hj, _⟩ := parent_some h
    unfold join at hj
    cases hu : split u with
    | none => rw [hu] at hj; cases hj
    | some _ => rfl
end Pm
end Go.Proofs.Ytdfnfkknbjageaa

/- Plain lists: what a part makes of a right store is one; parts of operations may be. Nothing of the program. -/
namespace Go.Proofs.Ytdfnfkknbjageaa
set_option maxRecDepth 20000
namespace Pm

/-- A turn as a node: what is known of rising nodes is known of rising turns. -/
def tn (t : Tu) : Nd := ⟨t.dir, [], 0, t.next, 0⟩
theorem tn_inj {a b : Tu} (h : tn a = tn b) : a = b := by
  obtain ⟨_, _⟩ := a; obtain ⟨_, _⟩ := b
  unfold tn at h; injection h with h1 _ _ h2 _; subst h1 h2; rfl
theorem ascT_iff {l : List Tu} : AscT l ↔ Asc (l.map tn) := by
  constructor
  · intro h i j hi hj hij
    simp only [List.length_map] at hi hj
    simp only [List.getElem_map]
    exact h i j hi hj hij
  · intro h i j hi hj hij
    have := h i j (by simpa using hi) (by simpa using hj) hij
    simp only [List.getElem_map] at this
    exact this
theorem find_tn (l : List Tu) (p : Bs) : find (l.map tn) p = (findT l p).map tn := by
  unfold find findT
  rw [List.find?_map]; rfl
theorem place_tn (l : List Tu) (p : Bs) : place (l.map tn) p = placeT l p := by
  unfold place placeT
  rw [List.countP_map]; rfl
theorem ins_tn (l : List Tu) (k : Nat) (x : Tu) : (insT l k x).map tn = ins (l.map tn) k (tn x) := by
  unfold insT ins
  rw [List.map_append, List.map_cons, List.map_take, List.map_drop]
theorem erase_tn : ∀ (l : List Tu) (k : Nat), (l.eraseIdx k).map tn = (l.map tn).eraseIdx k
  | [], k => by simp
  | a :: l, 0 => rfl
  | a :: l, k + 1 => by rw [List.eraseIdx_cons_succ, List.map_cons, List.map_cons, List.eraseIdx_cons_succ, erase_tn l k]
theorem map_tn_inj : ∀ {a b : List Tu}, a.map tn = b.map tn → a = b
  | [], [], _ => rfl
  | [], _ :: _, h => by cases h
  | _ :: _, [], h => by cases h
  | x :: a, y :: b, h => by
    rw [List.map_cons, List.map_cons] at h
    injection h with h1 h2
    rw [tn_inj h1, map_tn_inj h2]
theorem findT_none {l : List Tu} {p : Bs} : findT l p = none ↔ ∀ t ∈ l, t.dir ≠ p := by
  unfold findT; rw [List.find?_eq_none]; simp
theorem findT_mem {l : List Tu} {p : Bs} {t : Tu} (h : findT l p = some t) : t ∈ l ∧ t.dir = p := by
  unfold findT at h
  exact ⟨List.mem_of_find?_eq_some h, by simpa using List.find?_some h⟩

/-- Taken away: nothing of its directory is left, and the place is the same one. -/
theorem eraseT {l : List Tu} (h : AscT l) {p : Bs} {t : Tu} (ht : findT l p = some t) : l.eraseIdx (placeT l p) = l.filter (fun t => t.dir != p) := by
  have hA := ascT_iff.1 h
  have hf : find (l.map tn) p = some (tn t) := by rw [find_tn, ht]; rfl
  have e := filter_erase hA hf
  rw [place_tn, ← erase_tn, List.filter_map] at e
  exact (map_tn_inj e)
theorem ascT_filter {l : List Tu} (h : AscT l) (q : Tu → Bool) : AscT (l.filter q) := by
  have : l.Pairwise (fun a b => lt a.dir b.dir = true) := by rw [List.pairwise_iff_getElem]; exact h
  have h2 := this.filter q
  rw [List.pairwise_iff_getElem] at h2; exact h2
theorem placeT_filter {l : List Tu} (p : Bs) : placeT (l.filter (fun t => t.dir != p)) p = placeT l p := by
  unfold placeT
  rw [List.countP_filter]
  apply List.countP_congr
  intro t _
  simp only [Bool.and_eq_true, bne_iff_ne]
  constructor
  · exact fun k => k.1
  · exact fun k => ⟨k, lt_ne k⟩
theorem ascT_ins {l : List Tu} (h : AscT l) {p : Bs} (n : Int) (hn : findT l p = none) : AscT (insT l (placeT l p) ⟨p, n⟩) := by
  rw [ascT_iff, ins_tn, ← place_tn]
  exact (ascT_iff.1 h).ins (tn ⟨p, n⟩) (by rw [show (tn ⟨p, n⟩).path = p from rfl, find_tn, hn]; rfl)
theorem mem_insT {l : List Tu} {k : Nat} {x y : Tu} (h : y ∈ insT l k x) : y = x ∨ y ∈ l := by
  unfold insT at h
  rw [List.mem_append, List.mem_cons] at h
  rcases h with h | h | h
  · exact .inr (List.mem_of_mem_take h)
  · exact .inl h
  · exact .inr (List.mem_of_mem_drop h)

/-- The directory's turn, anew: by a filter. -/
theorem setT_eq {l : List Tu} (h : AscT l) (p : Bs) (n : Int) : setT l p n = if n ≠ 0 then insT (l.filter (fun t => t.dir != p)) (placeT (l.filter (fun t => t.dir != p)) p) ⟨p, n⟩ else l.filter (fun t => t.dir != p) := by
  unfold setT
  rw [placeT_filter]
  cases hf : findT l p with
  | some t => simp only [Option.isSome_some, if_true]; rw [eraseT h hf]
  | none =>
    have : l.filter (fun t => t.dir != p) = l := by rw [List.filter_eq_self]; intro t ht; simpa using findT_none.1 hf t ht
    simp only [Option.isSome_none, Bool.false_eq_true, if_false]; rw [this]
theorem setT_right {l : List Tu} (h : AscT l) (hf : ∀ t ∈ l, tfit t = true) {p : Bs} {n : Int} (hp : (split p).isSome = true) (h0 : 0 ≤ n) (h1 : n ≤ 10000) :
    AscT (setT l p n) ∧ ∀ t ∈ setT l p n, tfit t = true := by
  rw [setT_eq h]
  have hA := ascT_filter h (fun t => t.dir != p)
  have hn : findT (l.filter (fun t => t.dir != p)) p = none := by
    rw [findT_none]; intro t ht; have := (List.mem_filter.1 ht).2; simpa using this
  split
  · rename_i hne
    refine ⟨ascT_ins hA n hn, fun t ht => ?_⟩
    rcases mem_insT ht with rfl | ht
    · unfold tfit; simp only [hp, Bool.true_and, decide_eq_true_eq]; omega
    · exact hf t (List.mem_filter.1 ht).1
  · exact ⟨hA, fun t ht => hf t (List.mem_filter.1 ht).1⟩
theorem turnOf_bounds {l : List Tu} (hf : ∀ t ∈ l, tfit t = true) (p : Bs) : 0 ≤ turnOf l p ∧ turnOf l p ≤ 10000 := by
  unfold turnOf
  cases h : findT l p with
  | none => simp
  | some t =>
    have := hf t (findT_mem h).1
    unfold tfit at this
    simp only [Bool.and_eq_true, decide_eq_true_eq] at this
    simp only [Option.map_some, Option.getD_some]; omega

theorem sfit_iff (n : Nd) : sfit n = true ↔ (split n.path).isSome = true ∧ n.data.length ≤ 256 ∧ n.turn = 0 ∧ ¬ (n.path = [47] ∧ n.own ≠ 0) ∧ 0 ≤ n.ver ∧ n.ver ≤ 281474976710656 ∧ 0 ≤ n.own ∧ n.own ≤ 1099511627776 := by
  unfold sfit; rw [Bool.and_eq_true, decide_eq_true_eq]
theorem mayP_iff (x : Pt) : mayP x = true ↔ (1 ≤ x.kind ∧ x.kind ≤ 10) ∧ (split x.path).isSome = true ∧ x.dir = keptAt x.kind x.path ∧ ¬ (x.kind = 2 ∧ x.path = [47]) ∧ x.data.length ≤ 256 ∧ -1 ≤ x.ver ∧ x.ver ≤ 281474976710656 ∧ 0 ≤ x.own ∧ x.own ≤ 1099511627776 := by
  unfold mayP; simp only [Bool.and_eq_true, decide_eq_true_eq, and_assoc]
end Pm
end Go.Proofs.Ytdfnfkknbjageaa

/- Plain lists: what the laws of layer 7 say of stores and parts. Nothing of the program. -/
namespace Go.Proofs.Ytdfnfkknbjageaa
set_option maxRecDepth 20000
namespace Pm

theorem newPath_some {s : St} {x : Pt} {q : Bs} (hm : mayP x = true) (hk : x.kind = 2) (h : newPath s x = some q) :
    (split q).isSome = true ∧ q ≠ [47] ∧ parent q = some x.dir ∧ (x.turns = true → turnOf s.turns x.dir ≤ 9999) := by
  obtain ⟨_, hp, hd, hr, _⟩ := (mayP_iff x).1 hm
  have hdir : x.dir = upB x.path := by rw [hd, hk]; rfl
  unfold newPath at h
  split at h
  · cases hn : numbered (last x.path) (turnOf s.turns x.dir) with
    | none => rw [hn] at h; cases h
    | some y =>
      rw [hn] at h
      obtain ⟨cs, h1, h2, _⟩ := join_some (show join x.dir y = some q from h)
      exact ⟨by rw [h1]; rfl, parent_ne_root h2, h2, fun _ => (numbered_turn hn).2⟩
  · rename_i ht
    obtain rfl := Option.some.inj h
    have hne : x.path ≠ [47] := fun e => hr ⟨hk, e⟩
    refine ⟨hp, hne, ?_, fun k => absurd k ht⟩
    cases hpp : parent x.path with
    | none => have := (parent_none hpp).1; rw [hp] at this; exact absurd (by simpa using this.symm) hne
    | some u => rw [hdir]; unfold upB; rw [hpp]; rfl

theorem StR.put {s : St} (h : StR s) {x : Pt} (hm : mayP x = true) (hk : x.kind = 2) : StR (putS s x).1 := by
  obtain ⟨_, hp, hd, hr, hl⟩ := (mayP_iff x).1 hm
  unfold putS
  split
  · exact h
  · rename_i q hq
    obtain ⟨h1, h2, h3, h4⟩ := newPath_some hm hk hq
    split
    · exact h
    · rename_i hf
      have hn : find s.nodes q = none := by simpa using hf
      have hdv : (split x.dir).isSome = true := by rw [hd, hk]; exact upB_ok _
      have htb := turnOf_bounds h.tfit x.dir
      have hT : AscT (if x.turns = true then setT s.turns x.dir (turnOf s.turns x.dir + 1) else s.turns) ∧ ∀ t ∈ (if x.turns = true then setT s.turns x.dir (turnOf s.turns x.dir + 1) else s.turns), Pm.tfit t = true := by
        split
        · rename_i ht; exact setT_right h.tasc h.tfit hdv (by omega) (by have := h4 ht; omega)
        · exact ⟨h.tasc, h.tfit⟩
      refine ⟨fun n hn' => ?_, ?_, hT.2, hT.1⟩
      · rcases mem_ins.1 hn' with rfl | k
        · rw [sfit_iff]; exact ⟨h1, hl.1, rfl, fun k => h2 k.1, Int.le_refl 0, (show (0 : Int) ≤ 281474976710656 by decide), hl.2.2.2.1, hl.2.2.2.2⟩
        · exact h.fit n k
      · exact h.asc.ins ⟨q, x.data, 0, 0, x.own⟩ hn

end Pm
end Go.Proofs.Ytdfnfkknbjageaa

/- Plain lists: numbers and texts as bytes, and back. Nothing of the program. -/
namespace Go.Proofs.Ytdfnfkknbjageaa
set_option maxRecDepth 20000
namespace Pm

/-- The greatest number. -/
def M : Nat := 281474976710656

def dg (n : Nat) : UInt8 := UInt8.ofNat n
/-- A number's digits, each with 128 more. -/
def hi (n : Nat) : Bs := if _h : n = 0 then [] else hi (n / 128) ++ [dg (128 + n % 128)]
  termination_by n
  decreasing_by omega

theorem hi_zero : hi 0 = [] := by rw [hi]; simp
theorem hi_pos (n : Nat) (h : 0 < n) : hi n = hi (n / 128) ++ [dg (128 + n % 128)] := by rw [hi]; simp [Nat.ne_of_gt h]

/-- A number's bytes. -/
def enc (n : Nat) : Bs := hi (n / 128) ++ [dg (n % 128)]

theorem hi_len : ∀ k n, n < 128 ^ k → (hi n).length ≤ k
  | 0, n, h => by have : n = 0 := by simpa using h
                  subst this; rw [hi_zero]; simp
  | k + 1, n, h => by
    by_cases h0 : n = 0
    · subst h0; rw [hi_zero]; simp
    · rw [hi_pos n (by omega)]
      have := hi_len k (n / 128) (by rw [Nat.pow_succ] at h; omega)
      simp; omega

theorem enc_len (n : Nat) (h : n ≤ M) : 1 ≤ (enc n).length ∧ (enc n).length ≤ 7 := by
  have := hi_len 6 (n / 128) (by unfold M at h; omega)
  unfold enc; simp; omega
def encT (s : Bs) : Bs := enc s.length ++ s
def encL (ps : List Bs) : Bs := (ps.map encT).flatten
def encTs (ps : List Bs) : Bs := enc ps.length ++ encL ps

/-! What is written is read. -/
/-! What is read is what would be written. -/
end Pm
end Go.Proofs.Ytdfnfkknbjageaa

/- Plain lists: commands, their bytes, what is read of bytes. Nothing of the program. -/
namespace Go.Proofs.Ytdfnfkknbjageaa
set_option maxRecDepth 20000
namespace Pm

structure Pe where
  op : Int
  p : Pt
deriving DecidableEq

structure Cd where
  kind : Int
  id : Int
  txn : Int
  age : Int
  yes : Bool
  ps : List Pe
  pre : Bs
  ep : Int
  to : Int
  st : St
  gone : List Bs
  ws : Int
  wn : Int
  wp : Bs
  deep : Bool
deriving DecidableEq

def fl (b : Bool) : Int := if b then 1 else 0
/-- May a number be written? -/
def num (n : Int) : Prop := 0 ≤ n ∧ n ≤ 281474976710656
instance (n : Int) : Decidable (num n) := inferInstanceAs (Decidable (_ ∧ _))
def encI (n : Int) : Bs := enc n.toNat
def encN : List Int → Bs
  | [] => []
  | n :: r => encI n ++ encN r
def encPe (x : Pe) : Bs := encN [x.op, x.p.kind] ++ encT x.p.dir ++ encT x.p.path ++ encT x.p.data ++ encN [x.p.ver + 1, x.p.own] ++ encI (fl x.p.turns)
def encNd (x : Nd) : Bs := encT x.path ++ encT x.data ++ encN [x.ver, x.own]
def encTu (x : Tu) : Bs := encT x.dir ++ encI x.next
section
variable {α : Type}
def encF (f : α → Bs) (l : List α) : Bs := (l.map f).flatten
def encS (f : α → Bs) (l : List α) : Bs := enc l.length ++ encF f l
theorem encF_cons (f : α → Bs) (x : α) (l : List α) : encF f (x :: l) = f x ++ encF f l := by simp [encF]
end
/-- A command's bytes. -/
def encCd (c : Cd) : Bs :=
  encN [c.kind, c.id, c.txn, c.age] ++ encI (fl c.yes) ++ encS encPe c.ps ++ encT c.pre ++ encN [c.ep, c.to] ++ encS encNd c.st.nodes ++ encS encTu c.st.turns ++
  encTs c.gone ++ encN [c.ws, c.wn] ++ encT c.wp ++ encI (fl c.deep)

/-! What is read. -/
/-! How long, how great. -/
/-! Back, and once. -/
theorem fl_num (b : Bool) : num (fl b) := by cases b <;> decide
def okPe (x : Pe) : Prop := num x.op ∧ x.op ≤ 7 ∧ num x.p.kind ∧ x.p.kind ≤ 10 ∧ x.p.dir.length ≤ M ∧ x.p.path.length ≤ M ∧ x.p.data.length ≤ M ∧ num (x.p.ver + 1) ∧ num x.p.own ∧ x.p.own ≤ 1099511627776
def okNd (x : Nd) : Prop := x.path.length ≤ M ∧ x.data.length ≤ M ∧ num x.ver ∧ x.turn = 0 ∧ num x.own ∧ x.own ≤ 1099511627776
def okTu (x : Tu) : Prop := x.dir.length ≤ M ∧ num x.next ∧ x.next ≤ 10000

/-- What stands in bytes. -/
structure okCd (c : Cd) : Prop where
  kind : num c.kind ∧ c.kind ≤ 13
  id : num c.id
  txn : num c.txn
  age : num c.age
  ps : (c.ps.length : Int) ≤ 16 ∧ c.ps.length ≤ M ∧ ∀ x ∈ c.ps, okPe x
  pre : c.pre.length ≤ M
  ep : num c.ep
  to : num c.to ∧ c.to ≤ 3
  nodes : (c.st.nodes.length : Int) ≤ 512 ∧ c.st.nodes.length ≤ M ∧ ∀ x ∈ c.st.nodes, okNd x
  turns : (c.st.turns.length : Int) ≤ 512 ∧ c.st.turns.length ≤ M ∧ ∀ x ∈ c.st.turns, okTu x
  gone : (c.gone.length : Int) ≤ 32 ∧ c.gone.length ≤ M ∧ ∀ x ∈ c.gone, x.length ≤ M
  ws : num c.ws
  wn : num c.wn
  wp : c.wp.length ≤ M

theorem encS_T (l : List Bs) : encS encT l = encTs l := rfl
/-! Is a command right? -/
def areNum (l : List Int) : Bool := l.all (fun n => decide (num n))
def isPe (p : Bs) : Bool := decide (p = []) || (split p).isSome
def arePs (l : List Pe) : Prop := l.length ≤ 16 ∧ ∀ k (h : k < l.length), 0 ≤ l[k].op ∧ l[k].op < 8 ∧ mayP l[k].p = true ∧ l[k].p.ver ≠ 281474976710656 ∧ (∀ (_ : 0 < k) (h1 : k - 1 < l.length), l[k - 1].op ≤ l[k].op)
def isSt (s : St) : Prop := s.nodes.length ≤ 512 ∧ s.turns.length ≤ 512 ∧ StR s
def areGo (pre : Bs) (l : List Bs) : Prop := l.length ≤ 32 ∧ ∀ k (h : k < l.length), l[k] ≠ pre ∧ inB l[k] pre = true ∧ (∀ (_ : 0 < k) (h1 : k - 1 < l.length), lt l[k - 1] l[k] = true)
structure CdR (c : Cd) : Prop where
  kind : 1 ≤ c.kind ∧ c.kind ≤ 13
  to : 0 ≤ c.to ∧ c.to < 4
  nums : areNum [c.id, c.txn, c.age, c.ep, c.ws, c.wn] = true
  pre : isPe c.pre = true
  wp : isPe c.wp = true
  ps : arePs c.ps
  st : isSt c.st
  gone : areGo c.pre c.gone
open Classical in
noncomputable def rightC (c : Cd) : Bool := decide (CdR c)
theorem rightC_true {c : Cd} (h : CdR c) : rightC c = true := by unfold rightC; simp [h]
theorem rightC_false {c : Cd} (h : ¬ CdR c) : rightC c = false := by unfold rightC; simp [h]
end Pm
end Go.Proofs.Ytdfnfkknbjageaa

/- Plain facts of commands: what the laws say. Nothing of the program. -/
namespace Go.Proofs.Ytdfnfkknbjageaa
set_option maxRecDepth 20000
namespace Pm

theorem splitLen {p : Bs} (h : (split p).isSome = true) : p.length ≤ 100 := by
  obtain ⟨ps, hps⟩ := Option.isSome_iff_exists.1 h
  obtain ⟨hP, e⟩ := (split_iff _ _).1 hps
  have := joinP_len hP
  rw [e] at this; exact this
theorem inSplit {l q : Bs} (h : inB l q = true) : (split l).isSome = true ∧ (split q).isSome = true := by
  unfold inB at h
  split at h
  · rename_i h1 h2; rw [h1, h2]; exact ⟨rfl, rfl⟩
  · cases h
theorem upLen (p : Bs) : (upB p).length ≤ 100 := splitLen (upB_ok p)
theorem isPe_len {p : Bs} (h : isPe p = true) : p.length ≤ 100 := by
  unfold isPe at h
  rw [Bool.or_eq_true] at h
  rcases h with h | h
  · rw [of_decide_eq_true h]; simp
  · exact splitLen h
theorem areNum6 {a b c d e f : Int} : areNum [a, b, c, d, e, f] = true ↔ num a ∧ num b ∧ num c ∧ num d ∧ num e ∧ num f := by
  simp [areNum]

theorem ps_ok {l : List Pe} (h : arePs l) : ∀ x ∈ l, okPe x ∧ x.p.dir.length ≤ 100 ∧ x.p.path.length ≤ 100 ∧ x.p.data.length ≤ 256 := by
  intro x hx
  obtain ⟨k, hk, rfl⟩ := List.getElem_of_mem hx
  obtain ⟨h1, h2, h3, h4, _⟩ := h.2 k hk
  obtain ⟨m1, m2, m3, _, m5, m6, m7, m8, m9⟩ := (mayP_iff _).1 h3
  have p1 := splitLen m2
  have p2 : l[k].p.dir.length ≤ 100 := by
    rw [m3]; unfold keptAt; split
    · exact p1
    · exact upLen _
  unfold okPe num M
  exact ⟨⟨⟨h1, by omega⟩, by omega, ⟨by omega, by omega⟩, by omega, by omega, by omega, by omega, ⟨by omega, by omega⟩, ⟨by omega, by omega⟩, by omega⟩, p2, p1, m5⟩
theorem nd_ok {s : St} (h : StR s) : ∀ x ∈ s.nodes, okNd x ∧ x.path.length ≤ 100 ∧ x.data.length ≤ 256 := by
  intro x hx
  obtain ⟨m1, m2, m3, m4, m5, m6, m7, m8⟩ := (sfit_iff x).1 (h.fit x hx)
  have p1 := splitLen m1
  unfold okNd num M
  exact ⟨⟨by omega, by omega, ⟨m5, m6⟩, m3, ⟨by omega, by omega⟩, m8⟩, p1, m2⟩
theorem tu_ok {s : St} (h : StR s) : ∀ x ∈ s.turns, okTu x ∧ x.dir.length ≤ 100 := by
  intro x hx
  have h1 := h.tfit x hx
  unfold Pm.tfit at h1
  rw [Bool.and_eq_true] at h1
  have p1 := splitLen h1.1
  have h2 := of_decide_eq_true h1.2
  unfold okTu num M
  exact ⟨⟨by omega, ⟨by omega, by omega⟩, by omega⟩, p1⟩
theorem go_ok {p : Bs} {l : List Bs} (h : areGo p l) : ∀ x ∈ l, x.length ≤ 100 := by
  intro x hx
  obtain ⟨k, hk, rfl⟩ := List.getElem_of_mem hx
  exact splitLen (inSplit (h.2 k hk).2.1).1
theorem CdR.ok {c : Cd} (h : CdR c) : okCd c := by
  obtain ⟨n1, n2, n3, n4, n5, n6⟩ := areNum6.1 h.nums
  have hp := isPe_len h.pre
  have hw := isPe_len h.wp
  have hk := h.kind
  have ht := h.to
  refine ⟨⟨⟨by omega, by omega⟩, by omega⟩, n1, n2, n3, ⟨by have := h.ps.1; omega, by have := h.ps.1; unfold M; omega, fun x hx => (ps_ok h.ps x hx).1⟩, by unfold M; omega, n4, ⟨⟨by omega, by omega⟩, by omega⟩,
    ⟨by have := h.st.1; omega, by have := h.st.1; unfold M; omega, fun x hx => (nd_ok h.st.2.2 x hx).1⟩, ⟨by have := h.st.2.1; omega, by have := h.st.2.1; unfold M; omega, fun x hx => (tu_ok h.st.2.2 x hx).1⟩,
    ⟨by have := h.gone.1; omega, by have := h.gone.1; unfold M; omega, fun x hx => by have := go_ok h.gone x hx; unfold M; omega⟩, n5, n6, by unfold M; omega⟩

/-! How many bytes. -/
theorem encI_len {n : Int} (h : num n) : 1 ≤ (encI n).length ∧ (encI n).length ≤ 7 := by
  unfold num at h; exact enc_len n.toNat (by unfold M; omega)
theorem encT_len {s : Bs} (h : s.length ≤ M) : s.length + 1 ≤ (encT s).length ∧ (encT s).length ≤ s.length + 7 := by
  have := enc_len s.length h
  unfold encT; rw [List.length_append]; omega
theorem encF_len {α : Type} {f : α → Bs} {k : Nat} : ∀ (l : List α), (∀ x ∈ l, (f x).length ≤ k) → (encF f l).length ≤ l.length * k
  | [], _ => by simp [encF]
  | x :: l, h => by
    have h1 := h x (by simp)
    have h2 := encF_len l (fun y hy => h y (by simp [hy]))
    rw [encF_cons, List.length_append, List.length_cons, Nat.add_mul, Nat.one_mul]; omega
theorem encPe_len {x : Pe} (h : okPe x) : x.p.dir.length + x.p.path.length + x.p.data.length + 8 ≤ (encPe x).length ∧ (encPe x).length ≤ x.p.dir.length + x.p.path.length + x.p.data.length + 56 := by
  obtain ⟨h1, h2, h3, h4, h5, h6, h7, h8, h9, h10⟩ := h
  have a1 := encI_len h1; have a2 := encI_len h3; have a3 := encT_len h5; have a4 := encT_len h6; have a5 := encT_len h7; have a6 := encI_len h8; have a7 := encI_len h9; have a8 := encI_len (fl_num x.p.turns)
  unfold encPe encN encN encN
  simp only [List.length_append, List.length_nil]; omega
theorem encNd_len {x : Nd} (h : okNd x) : x.path.length + x.data.length + 4 ≤ (encNd x).length ∧ (encNd x).length ≤ x.path.length + x.data.length + 28 := by
  obtain ⟨h1, h2, h3, h4, h5, h6⟩ := h
  have a1 := encT_len h1; have a2 := encT_len h2; have a3 := encI_len h3; have a4 := encI_len h5
  unfold encNd encN encN encN
  simp only [List.length_append, List.length_nil]; omega
theorem encTu_len {x : Tu} (h : okTu x) : x.dir.length + 2 ≤ (encTu x).length ∧ (encTu x).length ≤ x.dir.length + 14 := by
  obtain ⟨h1, h2, h3⟩ := h
  have a1 := encT_len h1; have a2 := encI_len h2
  unfold encTu
  simp only [List.length_append]; omega
/-- The parts' lengths. -/
theorem encCd_len (c : Cd) : (encCd c).length = (encI c.kind).length + (encI c.id).length + (encI c.txn).length + (encI c.age).length + (encI (fl c.yes)).length + (encS encPe c.ps).length + (encT c.pre).length + (encI c.ep).length + (encI c.to).length
    + (encS encNd c.st.nodes).length + (encS encTu c.st.turns).length + (encTs c.gone).length + (encI c.ws).length + (encI c.wn).length + (encT c.wp).length + (encI (fl c.deep)).length := by
  simp only [encCd, encN, List.length_append, List.length_nil]; omega
theorem encS_len {α : Type} (f : α → Bs) (l : List α) : (encS f l).length = (enc l.length).length + (encF f l).length := by simp [encS]
theorem CdR.few {c : Cd} (h : CdR c) : (encCd c).length ≤ 140737488355328 := by
  have o := h.ok
  have p1 := h.ps.1; have p2 := h.st.1; have p3 := h.st.2.1; have p4 := h.gone.1
  have f1 := encF_len (f := encPe) (k := 600) c.ps (fun x hx => by have := ps_ok h.ps x hx; have := encPe_len this.1; omega)
  have f2 := encF_len (f := encNd) (k := 400) c.st.nodes (fun x hx => by have := nd_ok h.st.2.2 x hx; have := encNd_len this.1; omega)
  have f3 := encF_len (f := encTu) (k := 200) c.st.turns (fun x hx => by have := tu_ok h.st.2.2 x hx; have := encTu_len this.1; omega)
  have f4 := encF_len (f := encT) (k := 200) c.gone (fun x hx => by have := go_ok h.gone x hx; have := encT_len (s := x) (by unfold M; omega); omega)
  have e1 := enc_len c.ps.length (by unfold M; omega); have e2 := enc_len c.st.nodes.length (by unfold M; omega); have e3 := enc_len c.st.turns.length (by unfold M; omega); have e4 := enc_len c.gone.length (by unfold M; omega)
  have a1 := encI_len o.kind.1; have a2 := encI_len o.id; have a3 := encI_len o.txn; have a4 := encI_len o.age; have a5 := encI_len (fl_num c.yes); have a6 := encI_len o.ep; have a7 := encI_len o.to.1
  have a8 := encI_len o.ws; have a9 := encI_len o.wn; have b1 := encI_len (fl_num c.deep)
  have b2 := isPe_len h.pre; have b3 := isPe_len h.wp
  have b4 := encT_len (s := c.pre) (by unfold M; omega); have b5 := encT_len (s := c.wp) (by unfold M; omega)
  rw [encCd_len, ← encS_T, encS_len, encS_len, encS_len, encS_len]
  have m1 : c.ps.length * 600 ≤ 16 * 600 := Nat.mul_le_mul_right _ p1
  have m2 : c.st.nodes.length * 400 ≤ 512 * 400 := Nat.mul_le_mul_right _ p2
  have m3 : c.st.turns.length * 200 ≤ 512 * 200 := Nat.mul_le_mul_right _ p3
  have m4 : c.gone.length * 200 ≤ 32 * 200 := Nat.mul_le_mul_right _ p4
  omega
/-! Get. -/
end Pm
end Go.Proofs.Ytdfnfkknbjageaa

/- Short words for the walk of a region that draws its order, by hand. -/
namespace Go.Proofs.Ytdfnfkknbjageaa
set_option maxRecDepth 20000
open Go.RowKit

theorem zA {α : Type _} {xs : List α} {i : Nat} : xs.toArray[i]? = xs[i]? := List.getElem?_toArray
theorem zB {α : Type _} {a : α} {l : List α} : (a :: l)[0]? = some a := rfl
theorem zC {α : Type _} {a : α} {l : List α} {i : Nat} : (a :: l)[i + 1]? = l[i]? := rfl
theorem zP (a : Act) (i : Tmp) (v : Value) : a.put (some i) v = { a with tmps := a.tmps.setIfInBounds i v } := rfl
theorem zN (a : Act) (v : Value) : a.put none v = a := rfl
theorem zS {α : Type _} {l : List α} {i : Nat} {a : α} : l.toArray.setIfInBounds i a = (l.set i a).toArray := by simp
theorem zT {α : Type _} {b a : α} {l : List α} : (b :: l).set 0 a = a :: l := rfl
theorem zU {α : Type _} {b a : α} {l : List α} {i : Nat} : (b :: l).set (i + 1) a = b :: l.set i a := rfl

end Go.Proofs.Ytdfnfkknbjageaa

/- Small functions of package part. -/
namespace Go.Proofs.Ytdfnfkknbjageaa
set_option maxRecDepth 20000
set_option linter.unusedVariables false
set_option linter.unusedSimpArgs false
open Go.RowKit Pm

set_option maxHeartbeats 400000 in
theorem upP_c (p : Bs) (w : World) (hl : p.length ≤ 140737488355328) :
    Calls Try.prog 81 #[.string (B p)] w fun e w' => e = .returned (.string (B (upB p))) ∧ Fp Non w w' := by
  have hpa := fun w => Parent_g p w (sz_of hl (by omega))
  cases h : parent p with
  | none =>
    rw [h] at hpa
    simp only [Option.getD_none, Option.isSome_none] at hpa
    have e : upB p = [47] := by unfold upB; rw [h]; rfl
    rw [e]
    have HP := Lib.hid hpa
    clear hpa hl h e
    go_enter Try.func81, Try.ntmps81
    go_wp2_with fail
    refine (HP.out _).mono ?_
    rintro e w1 ⟨rfl, g1⟩
    have F := Lib.hid g1.fp
    clear g1
    go_wp2
    go_ret
    exact ⟨rfl, F.out⟩
  | some u =>
    rw [h] at hpa
    simp only [Option.getD_some, Option.isSome_some] at hpa
    have e : upB p = u := by unfold upB; rw [h]; rfl
    rw [e]
    have HP := Lib.hid hpa
    clear hpa hl h e
    go_enter Try.func81, Try.ntmps81
    go_wp2_with fail
    refine (HP.out _).mono ?_
    rintro e w1 ⟨rfl, g1⟩
    have F := Lib.hid g1.fp
    clear g1
    go_wp2
    go_ret
    exact ⟨rfl, F.out⟩

set_option maxHeartbeats 1000000 in
theorem keptAt_c (k : Int) (p : Bs) (w : World) (hl : p.length ≤ 140737488355328) :
    Calls Try.prog 69 #[.int .i64 k, .string (B p)] w fun e w' => e = .returned (.string (B (keptAt k p))) ∧ Fp Non w w' := by
  have hup := fun w => upP_c p w hl
  have HU := Lib.hid hup
  by_cases h : k = 4 ∨ k = 9 ∨ k = 10
  · have e : keptAt k p = p := by unfold keptAt; rw [if_pos h]
    rw [e]
    clear hup hl e
    rcases h with rfl | rfl | rfl
    · go_enter Try.func69, Try.ntmps69
      go_wp2
      go_ret
      exact ⟨rfl, Fp.refl _ _⟩
    · go_enter Try.func69, Try.ntmps69
      go_wp2
      go_ret
      exact ⟨rfl, Fp.refl _ _⟩
    · go_enter Try.func69, Try.ntmps69
      go_wp2
      go_ret
      exact ⟨rfl, Fp.refl _ _⟩
  · have e : keptAt k p = upB p := by unfold keptAt; rw [if_neg h]
    rw [e]
    have q4 : (k == 4) = false := beq_eq_false_iff_ne.2 (fun e => h (.inl e))
    have q9 : (k == 9) = false := beq_eq_false_iff_ne.2 (fun e => h (.inr (.inl e)))
    have q10 : (k == 10) = false := beq_eq_false_iff_ne.2 (fun e => h (.inr (.inr e)))
    clear hup hl e h
    go_enter Try.func69, Try.ntmps69
    go_wp2_with fail
    refine (HU.out _).mono ?_
    rintro e w1 ⟨rfl, hf⟩
    have F := Lib.hid hf
    clear hf
    go_wp2
    go_ret
    exact ⟨rfl, F.out⟩

theorem withinP_c (n a b : Int) (w : World) :
    Calls Try.prog 70 #[.int .i64 n, .int .i64 a, .int .i64 b] w fun e w' => e = .returned (.bool (decide (a ≤ n ∧ n ≤ b))) ∧ w = w' := by
  go_enter Try.func70, Try.ntmps70
  go_wp2
  all_goals (go_ret; refine ⟨ret_bool ?_, rfl⟩; simp; omega)
theorem withinP_d (n a b : Int) (w : World) (r : Bool) (hr : decide (a ≤ n ∧ n ≤ b) = r) :
    Calls Try.prog 70 #[.int .i64 n, .int .i64 a, .int .i64 b] w fun e w' => e = .returned (.bool r) ∧ w = w' := by
  rw [← hr]; exact withinP_c n a b w

theorem boxP5 {w : World} {b : Nat} {T : TypeId} {c0 c1 c2 c3 c4 : Value} (h : w.heap[b]? = some (.cells #[c0, c1, c2, c3, c4] T (0, 0))) :
    w.cell? ⟨b, 0, none⟩ = some c0 ∧ w.cell? ⟨b, 1, none⟩ = some c1 ∧ w.cell? ⟨b, 2, none⟩ = some c2 ∧ w.cell? ⟨b, 3, none⟩ = some c3 ∧ w.cell? ⟨b, 4, none⟩ = some c4 :=
  ⟨by rw [cell_of_row _ _ _ _ _ _ h]; rfl, by rw [cell_of_row _ _ _ _ _ _ h]; rfl, by rw [cell_of_row _ _ _ _ _ _ h]; rfl, by rw [cell_of_row _ _ _ _ _ _ h]; rfl, by rw [cell_of_row _ _ _ _ _ _ h]; rfl⟩

set_option maxHeartbeats 8000000 in
theorem fitsP_c (n : Nd) (w : World) (hl : n.path.length ≤ 140737488355328) :
    Calls Try.prog 71 #[ndV n] w fun e w' => e = .returned (.bool (sfit n)) ∧ Fp Non w w' := by
  have hri := fun w => Right_g n.path w (sz_of hl (by omega))
  obtain ⟨p, d, v, t, o⟩ := n
  obtain ⟨sp, hsp⟩ : ∃ b, (split p).isSome = b := ⟨_, rfl⟩
  simp only at hri
  rw [hsp] at hri
  obtain ⟨b1, h1⟩ : ∃ r, decide ((0 : Int) ≤ v ∧ v ≤ 281474976710656) = r := ⟨_, rfl⟩
  obtain ⟨b3, h3⟩ : ∃ r, decide ((0 : Int) ≤ o ∧ o ≤ 1099511627776) = r := ⟨_, rfl⟩
  obtain ⟨k, hk⟩ : ∃ k, k = d.length := ⟨_, rfl⟩
  have W1 := Lib.hid (fun w => withinP_d v 0 281474976710656 w b1 h1)
  have W3 := Lib.hid (fun w => withinP_d o 0 1099511627776 w b3 h3)
  obtain ⟨r, hr⟩ : ∃ r, sfit ⟨p, d, v, t, o⟩ = r := ⟨_, rfl⟩
  have key : r = (sp && decide (k ≤ 256) && decide (t = 0) && !(decide (p = [47]) && decide (o ≠ 0)) && b1 && b3) := by
    rw [← hr, ← hsp, ← h1, ← h3, hk]
    by_cases a1 : p = [47] <;> by_cases a2 : o = 0 <;> (rw [Bool.eq_iff_iff, sfit_iff]; simp [a1, a2, and_assoc])
  have HR := Lib.hid hri
  have HK := Lib.hid key
  rw [hr]
  have hf0 := fp_alloc w (.cells #[.string (B p), .string (B d), .int .i64 v, .int .i64 t, .int .i64 o] TN)
  have hb0 := heap_alloc_new w (.cells #[.string (B p), .string (B d), .int .i64 v, .int .i64 t, .int .i64 o] TN)
  have HF0 := Lib.hid (And.intro hf0 hb0)
  unfold ndV strV
  clear hri hsp h1 h3 hr key hf0 hb0 hl
  cases sp with
  | false =>
    clear hk
    go_enter Try.func71, Try.ntmps71
    go_wp2_with fail
    refine (HR.out _).mono ?_
    rintro e w1 ⟨rfl, g1⟩
    have F := Lib.hid (HF0.out.1.then g1.fp)
    clear g1
    go_wp2
    go_ret
    exact ⟨ret_bool (by rw [HK.out]; rfl), F.out⟩
  | true =>
    have fin : ∀ c : Bool, (decide (k ≤ 256) && decide (t = 0) && !(decide (p = [47]) && decide (o ≠ 0)) && b1 && b3) = c → r = c := fun c h => by rw [HK.out, ← h]; rfl
    have HFin := Lib.hid fin
    clear fin HK
    by_cases hd : k ≤ 256
    · have q1 : ((256 : Int) < (d.length : Int)) = False := eq_false (by omega)
      by_cases ht : t = 0
      · have q2 : (t != 0) = false := by simp [ht]
        by_cases hp : p = [47]
        · subst hp
          by_cases ho : o = 0
          · have q3 : (o != 0) = false := by simp [ho]
            have Q := Lib.hid (And.intro hd (And.intro ht ho))
            clear hd hk ht ho
            go_enter Try.func71, Try.ntmps71
            go_wp2_with fail
            refine (HR.out _).mono ?_
            rintro e w1 ⟨rfl, g1⟩
            have F := Lib.hid (HF0.out.1.then g1.fp)
            obtain ⟨c0, c1, c2, c3, c4⟩ := boxP5 (g1.fp.heap HF0.out.2 (fun h => h))
            clear g1
            cases b1 <;> cases b3
            all_goals
              go_wp2_with (first
                | (go_at_call_of 70 v; refine (W1.out _).mono ?_; rintro e w2 ⟨rfl, rfl⟩)
                | (go_at_call_of 70 o; refine (W3.out _).mono ?_; rintro e w2 ⟨rfl, rfl⟩))
              go_ret
              exact ⟨ret_bool (HFin.out _ (by simp [Q.out])).symm, F.out⟩
          · have q3 : (o != 0) = true := by simp [ho]
            have Q := Lib.hid (And.intro hd (And.intro ht ho))
            clear hd hk ht ho
            go_enter Try.func71, Try.ntmps71
            go_wp2_with fail
            refine (HR.out _).mono ?_
            rintro e w1 ⟨rfl, g1⟩
            have F := Lib.hid (HF0.out.1.then g1.fp)
            obtain ⟨c0, c1, c2, c3, c4⟩ := boxP5 (g1.fp.heap HF0.out.2 (fun h => h))
            clear g1
            go_wp2
            go_ret
            exact ⟨ret_bool (HFin.out _ (by simp [Q.out])).symm, F.out⟩
        · have q4 : (p == [47]) = false := by simpa using hp
          have Q := Lib.hid (And.intro hd (And.intro ht hp))
          clear hd hk ht hp
          go_enter Try.func71, Try.ntmps71
          go_wp2_with fail
          refine (HR.out _).mono ?_
          rintro e w1 ⟨rfl, g1⟩
          have F := Lib.hid (HF0.out.1.then g1.fp)
          obtain ⟨c0, c1, c2, c3, c4⟩ := boxP5 (g1.fp.heap HF0.out.2 (fun h => h))
          clear g1
          cases b1 <;> cases b3
          all_goals
            go_wp2_with (first
              | (go_at_call_of 70 v; refine (W1.out _).mono ?_; rintro e w2 ⟨rfl, rfl⟩)
              | (go_at_call_of 70 o; refine (W3.out _).mono ?_; rintro e w2 ⟨rfl, rfl⟩))
            go_ret
            exact ⟨ret_bool (HFin.out _ (by simp [Q.out])).symm, F.out⟩
      · have q2 : (t != 0) = true := by simp [ht]
        have Q := Lib.hid (And.intro hd ht)
        clear hd hk ht
        go_enter Try.func71, Try.ntmps71
        go_wp2_with fail
        refine (HR.out _).mono ?_
        rintro e w1 ⟨rfl, g1⟩
        have F := Lib.hid (HF0.out.1.then g1.fp)
        obtain ⟨c0, c1, c2, c3, c4⟩ := boxP5 (g1.fp.heap HF0.out.2 (fun h => h))
        clear g1
        go_wp2
        go_ret
        exact ⟨ret_bool (HFin.out _ (by simp [Q.out])).symm, F.out⟩
    · have q1 : ((256 : Int) < (d.length : Int)) = True := eq_true (by omega)
      have Q := Lib.hid hd
      clear hd hk
      go_enter Try.func71, Try.ntmps71
      go_wp2_with fail
      refine (HR.out _).mono ?_
      rintro e w1 ⟨rfl, g1⟩
      have F := Lib.hid (HF0.out.1.then g1.fp)
      obtain ⟨c0, c1, c2, c3, c4⟩ := boxP5 (g1.fp.heap HF0.out.2 (fun h => h))
      clear g1
      go_wp2
      go_ret
      exact ⟨ret_bool (HFin.out _ (by simp [Q.out])).symm, F.out⟩
end Go.Proofs.Ytdfnfkknbjageaa

