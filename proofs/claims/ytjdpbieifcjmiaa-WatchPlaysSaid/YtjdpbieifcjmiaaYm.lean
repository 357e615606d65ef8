/- notify, open (gen_ym.py) -/
import Derived.Test.YtjdpbieifcjmiaaYl
namespace Go.Proofs.Ytjdpbieifcjmiaa
set_option maxRecDepth 20000
set_option linter.unusedVariables false
set_option linter.unusedSimpArgs false
open Go.RowKit Pm


theorem Ft.row {lo : Nat} {w w' : World} (f : Ft lo w w') {k : Nat} {cs : Array Value} {T : TypeId} (h : w.heap[k]? = some (.cells cs T (0, 0))) (h1 : T ≠ TD) (h2 : T ≠ TV) (h3 : T ≠ TE) : w'.heap[k]? = some (.cells cs T (0, 0)) :=
  Fp.heap f h (fun hs => by
    obtain ⟨_, cs', T', ht, hT⟩ := hs
    rw [h] at ht
    injection ht with ht
    injection ht with _ ht _
    rcases hT with rfl | rfl | rfl
    · exact h1 ht
    · exact h2 ht
    · exact h3 ht)

set_option maxHeartbeats 4000000 in
theorem notify_c {lo G n cap : Nat} {vw : Value} {ws : List Wt} {L : List Sv} {w : World} (h : Cl lo vw (.slice (some ⟨G, 0, none⟩) n cap) ws L w) (k : Nat) (hk : k < L.length) (x : Wt) (kd : Int) (p : Bs) (hl : L[k].s.evs.length ≤ 8) (hc : 0 ≤ L[k].s.count ∧ L[k].s.count ≤ mxN) (hlo : lo ≤ w.heap.size) :
    Calls Try.prog 39 #[.pointer (some ⟨G, k * 3, none⟩), wtV x, .int .i64 kd, .string (B p)] w fun e w' => e = .returned (.bool (ntf L[k].s x kd p).2) ∧ AwR lo G n cap vw ws L k (ntf L[k].s x kd p).1 w w' := by
  obtain ⟨xs, xn, xp, xd⟩ := x
  obtain ⟨hr, hG, hn⟩ := h.nrV
  have hnd := hr.nd k hk
  have hself : ∀ s, L[k].s = s → (L.map Sv.s).set k s = L.map Sv.s := fun s hs => by rw [← hs, show L[k].s = (L.map Sv.s)[k]'(by simpa using hk) from by rw [List.getElem_map], List.set_getElem_self]
  have f0 := fp_alloc w (.cells #[.int .i64 xs, .int .i64 xn, .string (B xp), .bool xd] TW)
  have rb := heap_alloc_new w (.cells #[.int .i64 xs, .int .i64 xn, .string (B xp), .bool xd] TW)
  have h0 := h.non f0
  have haw := fun kd wt p => await_c h0 k hk kd wt p (by omega) hc (by simp; omega)
  have hev := hnd.c2
  obtain ⟨x, hx⟩ : ∃ x, x = L[k] := ⟨_, rfl⟩
  rw [← hx] at hev hl haw ⊢
  unfold Sv.ev at hev
  simp only [Nat.zero_add] at hev
  obtain ⟨m, hm⟩ : ∃ m, m = x.s.evs.length := ⟨_, rfl⟩
  rw [← hm] at hev hl
  have e2 := fun o => (fp_alloc w o).cell hev (fun h => h)
  obtain ⟨b0, b1, b2, b3⟩ := boxP4 rb
  unfold wtV strV
  by_cases h8 : m = 8
  · have e : ntf x.s ⟨xs, xn, xp, xd⟩ kd p = (x.s, false) := by unfold ntf; rw [if_pos (by omega)]
    rw [e]
    have HF := Lib.hid (show AwR lo G n cap vw ws L k x.s w (w.alloc (.cells #[.int .i64 xs, .int .i64 xn, .string (B xp), .bool xd] TW)) from ⟨⟨L, h0, by rw [hself _ (by rw [← hx])]⟩, f0.fs⟩)
    have q1 : ((m : Int) == 8) = true := by simpa using (by omega : (m : Int) = 8)
    subst h8
    clear h h0 hr hnd haw hself hx hm hl hc rb e b0 b1 b2 b3 f0
    go_enter Try.func39, Try.ntmps39
    go_wp2
    go_ret
    exact ⟨rfl, HF.out⟩
  · have q1 : ((m : Int) == 8) = false := by rw [beq_eq_false_iff_ne]; omega
    have q2 : ((m : Int) = 8) = False := eq_false (by omega)
    by_cases h7 : m = 7
    · have e : ntf x.s ⟨xs, xn, xp, xd⟩ kd p = (awt x.s 4 xp xn, false) := by unfold ntf; rw [if_neg (by omega), if_pos (by omega)]
      rw [e]
      have HA := Lib.hid (haw 4 xn xp)
      have HF := Lib.hid (f0.fs (lo := lo))
      subst h7
      clear h h0 hr hnd haw hself hx hm hl hc rb e f0
      go_enter Try.func39, Try.ntmps39
      go_wp2_with fail
      refine HA.out.mono ?_
      rintro e w1 ⟨rfl, hR⟩
      have HR := Lib.hid (show AwR lo G n cap vw ws L k _ w w1 from ⟨hR.ex, HF.out.then hR.fp⟩)
      clear hR
      go_wp2
      go_ret
      exact ⟨rfl, HR.out⟩
    · have e : ntf x.s ⟨xs, xn, xp, xd⟩ kd p = (awt x.s kd p xn, xd) := by unfold ntf; rw [if_neg (by omega), if_neg (by omega)]
      rw [e]
      have q3 : ((m : Int) == 7) = false := by rw [beq_eq_false_iff_ne]; omega
      have q4 : ((m : Int) = 7) = False := eq_false (by omega)
      have HA := Lib.hid (haw kd xn p)
      have HF := Lib.hid (And.intro (f0.fs (lo := lo)) rb)
      clear h h0 hr hnd haw hself hx hm hl hc rb e f0 h8 h7
      go_enter Try.func39, Try.ntmps39
      go_wp2_with fail
      refine HA.out.mono ?_
      rintro e w1 ⟨rfl, hR⟩
      obtain ⟨_, _, _, g3⟩ := boxP4 (hR.fp.ft.row HF.out.2 (by decide) (by decide) (by decide))
      have HR := Lib.hid (show AwR lo G n cap vw ws L k _ w w1 from ⟨hR.ex, HF.out.1.then hR.fp⟩)
      clear hR
      go_wp2
      go_ret
      exact ⟨rfl, HR.out⟩

/-- The sessions, one of a number among them. -/
def opl (ss : List Se) (n : Int) : List Se := if (getS ss n).isSome = true then ss else ss.take (plS ss n) ++ ⟨n, 0, []⟩ :: ss.drop (plS ss n)
theorem opl_lt {ss : List Se} (h : ss.Pairwise (fun a b => a.num < b.num)) (n : Int) : plS ss n < (opl ss n).length := by
  unfold opl
  have hg := getS_plS h n
  split
  · rename_i hs
    rw [hg] at hs
    split at hs
    · assumption
    · cases hs
  · have := plS_le ss n
    simp only [List.length_append, List.length_take, List.length_cons, List.length_drop]; omega
theorem opl_get {ss : List Se} (h : ss.Pairwise (fun a b => a.num < b.num)) (n : Int) : (opl ss n)[plS ss n]'(opl_lt h n) = seS ss n := by
  have hg := getS_plS h n
  have hl := plS_le ss n
  unfold seS
  by_cases hs : (getS ss n).isSome = true
  · have e : opl ss n = ss := by unfold opl; rw [if_pos hs]
    simp only [e]
    rw [hg] at hs ⊢
    split at hs
    · rename_i h1
      rw [dif_pos h1]
      split at hs
      · rename_i h2; rw [if_pos h2]; rfl
      · cases hs
    · cases hs
  · have e : opl ss n = ss.take (plS ss n) ++ ⟨n, 0, []⟩ :: ss.drop (plS ss n) := by unfold opl; rw [if_neg hs]
    simp only [e]
    rw [List.getElem_append_right (by rw [List.length_take]; omega)]
    have : getS ss n = none := by cases hh : getS ss n with
      | none => rfl
      | some _ => rw [hh] at hs; exact absurd rfl hs
    rw [this]
    simp only [List.length_take, Nat.min_eq_left hl, Nat.sub_self, List.getElem_cons_zero, Option.getD_none]
theorem opl_set {ss : List Se} (h : ss.Pairwise (fun a b => a.num < b.num)) (s : Se) : (opl ss s.num).set (plS ss s.num) s = putS ss s := by
  rw [putS_place h]
  have hl := plS_le ss s.num
  have hlt := opl_lt h s.num
  by_cases hs : (getS ss s.num).isSome = true
  · have e : opl ss s.num = ss := by unfold opl; rw [if_pos hs]
    rw [e] at hlt ⊢
    rw [if_pos hs, List.set_eq_take_append_cons_drop, if_pos hlt]
  · have e : opl ss s.num = ss.take (plS ss s.num) ++ ⟨s.num, 0, []⟩ :: ss.drop (plS ss s.num) := by unfold opl; rw [if_neg hs]
    rw [e, if_neg hs, List.set_append_right _ _ (by rw [List.length_take]; omega)]
    simp only [List.length_take, Nat.min_eq_left hl, Nat.sub_self, List.set_cons_zero]
theorem opl_len (ss : List Se) (n : Int) : (opl ss n).length ≤ ss.length + 1 := by
  unfold opl
  split
  · omega
  · simp only [List.length_append, List.length_take, List.length_cons, List.length_drop]; omega

/-- What open leaves. -/
structure OpR (lo N : Nat) (vw : Value) (ws : List Wt) (ss : List Se) (num : Int) (w : World) (e : Ending) (w' : World) : Prop where
  ex : ∃ G m cap L', e = .returned (.pointer (some ⟨G, plS ss num * 3, none⟩)) ∧ Wk lo N vw (.slice (some ⟨G, 0, none⟩) m cap) ws L' w' ∧ L'.map Sv.s = opl ss num
  fp : Ft lo w w'
theorem insV_pw {L : List Sv} {R : Sv → Sv → Prop} (h : L.Pairwise R) (k : Nat) (x : Sv) (h1 : ∀ y ∈ L, R y x) (h2 : ∀ y ∈ L, R x y) : (insV L k x).Pairwise R := by
  unfold insV
  rw [List.pairwise_append, List.pairwise_cons]
  refine ⟨h.sublist (List.take_sublist _ _), ⟨fun y hy => h2 y (List.drop_subset _ _ hy), h.sublist (List.drop_sublist _ _)⟩, fun a ha b hb => ?_⟩
  rcases List.mem_cons.1 hb with rfl | hb
  · exact h1 a (List.take_subset _ _ ha)
  · have := h
    rw [← List.take_append_drop k L, List.pairwise_append] at this
    exact this.2.2 a ha b hb

/-- Behind an Insert of a new session. -/
theorem Wk.ins {lo N : Nat} {vw vs : Value} {ws : List Wt} {L : List Sv} {w w' : World} (h : Wk lo N vw vs ws L w) (k : Nat) (num : Int) {v' : Value} (c : ChRV lo w vs (insV L k ⟨⟨num, 0, []⟩, none, 0⟩) v' w') :
    Wk lo N vw v' ws (insV L k ⟨⟨num, 0, []⟩, none, 0⟩) (w'.setCell ⟨N, 1, none⟩ v') ∧ w'.heap[N]? = some (.cells #[vw, vs] TD (0, 0)) ∧ Ft lo w (w'.setCell ⟨N, 1, none⟩ v') := by
  have hvN : ∀ j, vs.ownBlock = some j → j ≠ N := fun j hj e => by
    obtain ⟨cs, ht⟩ := h.cl.ownV.type hj
    subst e
    exact type_ne ht h.blk (by decide)
  have hb := c.fp.heap h.blk (fun e => hvN N e rfl)
  have hf := fp_cell w' N 1 v'
  have hN' : ∀ {cs : Array Value} {T : TypeId} {j : Nat}, w'.heap[j]? = some (.cells cs T (0, 0)) → T ≠ TD → j ≠ N := fun ht hT e => by
    subst e
    exact type_ne ht hb hT
  have hsz := c.fp.size
  refine ⟨⟨heap_setCell_same w' N 1 _ TD v' hb, h.low, ?_, c.own.keep hf (fun j hj e => ?_), fun y hy => ?_, ?_⟩, hb, ?_⟩
  · have hW := h.cl.ownW.keep c.fp (fun j hj e => by
      obtain ⟨cs, ht⟩ := h.cl.ownW.type hj
      obtain ⟨cs', ht'⟩ := h.cl.ownV.type e
      exact type_ne ht ht' (by decide))
    exact hW.keep hf (fun j hj e => by obtain ⟨cs, ht⟩ := hW.type hj; exact hN' ht (by decide) e)
  · obtain ⟨cs, ht⟩ := c.own.type hj; exact hN' ht (by decide) e
  · have hy' : y = ⟨⟨num, 0, []⟩, none, 0⟩ ∨ y ∈ L := by
      unfold insV at hy
      rcases List.mem_append.1 hy with hy | hy
      · exact .inr (List.take_subset _ _ hy)
      · rcases List.mem_cons.1 hy with e | hy
        · exact .inl e
        · exact .inr (List.drop_subset _ _ hy)
    rcases hy' with rfl | hy
    · exact OwE.nil _ _
    · have hE := (h.cl.ownE y hy).keep c.fp (fun j hj e => by
        obtain ⟨cs, ht⟩ := (h.cl.ownE y hy).type hj
        obtain ⟨cs', ht'⟩ := h.cl.ownV.type e
        exact type_ne ht ht' (by decide))
      exact hE.keep hf (fun j hj e => by obtain ⟨cs, ht⟩ := hE.type hj; exact hN' ht (by decide) e)
  · exact insV_pw h.cl.apart k _ (fun y hy j hj e => by simp [Sv.ev, Value.ownBlock] at e) (fun y hy j hj => by simp [Sv.ev, Value.ownBlock] at hj)
  · exact (Ft.of c.fp (fun j hj => h.cl.ownV.sty hj)).then (Ft.of hf (fun j hj => by have hj : j = N := hj; subst hj; exact ⟨h.low, _, _, hb, .inl rfl⟩))

set_option maxHeartbeats 4000000 in
theorem open_c {lo N : Nat} {vw vs : Value} {ws : List Wt} {L : List Sv} {w : World} (h : Wk lo N vw vs ws L w) (num : Int) (ha : (L.map Sv.s).Pairwise (fun a b => a.num < b.num)) (hl : L.length ≤ 39000) (hlo : lo ≤ w.heap.size) :
    Calls Try.prog 27 #[.pointer (some ⟨N, 0, none⟩), .int .i64 num] w (OpR lo N vw ws (L.map Sv.s) num w) := by
  have hpl := place_c vs (L.map Sv.s) num w h.cl.ses ha (by simp; omega)
  have hsh := h.cl.ownV.ns.shape
  obtain ⟨z0, z1⟩ := boxP2 h.blk
  have hlt := opl_lt ha num
  have hle := plS_le (L.map Sv.s) num
  obtain ⟨pl, hpe⟩ : ∃ k, k = plS (L.map Sv.s) num := ⟨_, rfl⟩
  rw [← hpe] at hpl hlt hle
  obtain ⟨sm, hsm⟩ : ∃ b, b = (getS (L.map Sv.s) num).isSome := ⟨_, rfl⟩
  rw [← hsm] at hpl
  cases sm with
  | true =>
    have eo : opl (L.map Sv.s) num = L.map Sv.s := by unfold opl; rw [if_pos hsm.symm]
    rw [eo, List.length_map] at hlt
    rcases h.cl.ownV.ways with ⟨_, e⟩ | ⟨G, cap, rfl, h1, h2⟩
    · subst e; simp at hlt
    · have HF := Lib.hid (show ∀ w', Fp Non w w' → OpR lo N vw ws (L.map Sv.s) num w (.returned (.pointer (some ⟨G, pl * 3, none⟩))) w' from fun w' f => ⟨⟨G, L.length, cap, L, by rw [hpe], h.non f, by rw [eo]⟩, f.ft⟩)
      obtain ⟨m, hm⟩ : ∃ m, m = L.length := ⟨_, rfl⟩
      rw [← hm] at hlt z1 hpl
      have q1 : (pl < m) = True := eq_true hlt
      have q2 : ((pl : Int) < (m : Int)) = True := eq_true (by omega)
      have HP := Lib.hid hpl
      have HZ := Lib.hid z1
      have hmb : m ≤ 40000 := by omega
      clear h ha hl hsh hpe hsm eo hpl hle h1 h2 hm z0
      go_enter Try.func27, Try.ntmps27
      go_wp2_with fail
      refine HP.out.mono ?_
      rintro e w1 ⟨rfl, hf⟩
      have z1 := hf.cell HZ.out (fun h => h)
      have HF1 := Lib.hid hf
      clear hf
      go_wp2
      go_ret
      exact HF.out _ HF1.out
  | false =>
    have eo : opl (L.map Sv.s) num = (insV L pl ⟨⟨num, 0, []⟩, none, 0⟩).map Sv.s := by
      unfold opl insV
      rw [if_neg (by rw [← hsm]; exact Bool.false_ne_true), ← hpe]; simp
    have hle' : pl ≤ L.length := by simpa using hle
    have hins : ∀ w1, Fp Non w w1 → Calls Try.prog 47 #[vs, .int .i64 (pl : Int), .slice (some ⟨w1.heap.size, 0, none⟩) 1 1] (w1.alloc (.cells #[.int .i64 num, .int .i64 0, .slice none 0 0] TV)) fun e w' => ∃ v', e = .returned v' ∧ ChRV lo (w1.alloc (.cells #[.int .i64 num, .int .i64 0, .slice none 0 0] TV)) vs (insV L pl ⟨⟨num, 0, []⟩, none, 0⟩) v' w' := fun w1 f => by
      have f2 := f.then (fp_alloc w1 (.cells #[.int .i64 num, .int .i64 0, .slice none 0 0] TV))
      have h2 := h.non f2
      refine Insert_ownV h2.cl.ownV pl hle' (X := w1.heap.size) (x := ⟨⟨num, 0, []⟩, none, 0⟩) (heap_alloc_new w1 _) (fun e => ?_) (by omega) (Nat.le_trans hlo f2.size)
      have := (World.ownsRow.lt (h.non f).cl.ownV _ e).2
      omega
    have HI := Lib.hid hins
    have HH := Lib.hid (And.intro h (And.intro eo hpe))
    obtain ⟨va, vc, rfl⟩ := hsh
    have HZ := Lib.hid z1
    have HP := Lib.hid hpl
    obtain ⟨m, hm⟩ : ∃ m, m = L.length := ⟨_, rfl⟩
    have HM := Lib.hid hm
    rw [← hm] at HP HI HH HZ z1 hle' hl
    clear h ha hpe hsm hpl hle hlt z0 hins eo hm
    go_enter Try.func27, Try.ntmps27
    go_wp2_with fail
    refine HP.out.mono ?_
    rintro e w1 ⟨rfl, hf⟩
    have z1 := hf.cell HZ.out (fun h => h)
    have HF1 := Lib.hid hf
    clear hf
    go_wp2_with fail
    refine (HI.out w1 HF1.out).mono ?_
    rintro e w2 ⟨v2, rfl, hR⟩
    have f2 := HF1.out.then (fp_alloc w1 (.cells #[.int .i64 num, .int .i64 0, .slice none 0 0] TV))
    obtain ⟨k1, k2, k3⟩ := (HH.out.1.non f2).ins pl num hR
    have zf := frozen_at k2 1
    have zc := (boxP2 k2).2
    have zd := (boxP2 k1.blk).2
    have hk3 := (f2.ft (lo := lo)).then k3
    have hlen := ins_lengthV L pl ⟨⟨num, 0, []⟩, none, 0⟩
    rcases k1.cl.ownV.ways with ⟨_, e⟩ | ⟨G, cap, rfl, h1, h2⟩
    · rw [e] at hlen; simp at hlen
    · have HK := Lib.hid (And.intro k1 hk3)
      obtain ⟨m2, hm2⟩ : ∃ m2, m2 = (insV L pl ⟨⟨num, 0, []⟩, none, 0⟩).length := ⟨_, rfl⟩
      have hpm : pl < m2 := by rw [hm2]; unfold insV; simp only [List.length_append, List.length_take, List.length_cons, List.length_drop]; have := HH.out.2.2; have h9 := plS_le (L.map Sv.s) num; rw [← this, List.length_map] at h9; omega
      rw [← hm2] at zd HK ⊢
      have q1 : (pl < m2) = True := eq_true hpm
      have q2 : ((pl : Int) < (m2 : Int)) = True := eq_true (by omega)
      have q3 : m2 ≤ 60000 := by rw [hm2, hlen, ← HM.out]; omega
      clear hR f2 k1 k2 k3 hk3 hlen h1 h2 hm2
      go_wp2
      go_ret
      exact ⟨⟨G, m2, cap, _, by rw [← HH.out.2.2]; rfl, HK.out.1, HH.out.2.1.symm⟩, HK.out.2⟩
end Go.Proofs.Ytjdpbieifcjmiaa
