/- The writer of package pack, and the document's own: contracts over plain lists. -/
import Derived.Test.YtidkihadlhkbkaaWa
namespace Go.Proofs.Ytidkihadlhkbkaa
open Go.RowKit Pm

def szs (ps : List Bs) : Nat := (ps.map List.length).sum
theorem szs_take_succ (r : List Bs) (k : Nat) (h : k < r.length) : szs (r.take (k + 1)) = szs (r.take k) + r[k].length := by
  rw [List.take_succ_eq_append_getElem h]; unfold szs; rw [List.map_append, List.sum_append]; simp
theorem szs_take_le : ∀ (r : List Bs) (k : Nat), szs (r.take k) ≤ szs r
  | [], k => by simp [szs]
  | p :: r, 0 => by simp [szs]
  | p :: r, k + 1 => by have := szs_take_le r k; simp [szs] at this ⊢; omega
theorem szs_get (r : List Bs) (k : Nat) (h : k < r.length) : r[k].length ≤ szs r := by
  have := szs_take_succ r k h; have := szs_take_le r (k + 1); omega
theorem encL_len : ∀ (r : List Bs), szs r ≤ M → (encL r).length ≤ 8 * (r.length + szs r)
  | [], _ => by simp [encL]
  | p :: r, h => by
    have e : szs (p :: r) = p.length + szs r := by simp [szs]
    have := encL_len r (by omega)
    have := enc_len p.length (by omega)
    rw [encL_cons, List.length_append, e]; unfold encT; simp; omega

set_option maxHeartbeats 1000000 in
theorem Texts_c (lo b : Nat) (v : Value) (l : Bs) (bad : Bool) (vs : Value) (ps : List Bs) (w : World) (h : Wr TW lo b v l bad w) (hs : Ss w vs ps) (hd : 0 < ps.length → ∀ k, vs.ownBlock = some k → k < lo) (hl : l.length + 8 * (ps.length + szs ps) ≤ 40000000) :
    Calls Try.prog 16 #[.pointer (some ⟨b, 0, none⟩), vs] w fun e w' => e = .returned (.tuple #[]) ∧ WrStep TW lo b v (l ++ encTs ps) bad w w' := by
  have hall := h.all
  have hen := enc_len ps.length (by unfold M; omega)
  obtain ⟨ao, cap, rfl, h1, h2, h3⟩ := hs.ex
  unfold maxLen at h2
  have HD := Lib.hid hd; clear hd
  go_enter Try.func16, Try.ntmps16
  go_wp2_with fail
  refine (Num_ok lo b v l bad ps.length w h (by unfold M; omega) (by omega)).mono ?_
  rintro e w1 ⟨rfl, hst⟩
  have HS := Lib.hid hs; clear hs
  have HL : Hid (encTs ps = enc ps.length ++ encL ps) := rfl
  go_wp2_with fail
  go_loopw [12, 5] (fun i _ wr => ∃ k : Nat, k ≤ ps.length ∧ i = .int .i64 k ∧ WrStep TW lo b v (l ++ enc ps.length ++ encL (ps.take k)) bad w wr) (fun i _ _ => ps.length - (intOf i).toNat)
  case atStart => exact ⟨0, Nat.zero_le _, rfl, by simpa [encL] using hst⟩
  case round =>
    obtain ⟨k, hk, rfl, v1, h1', hf, hfr⟩ := hrel
    by_cases hlt : k < ps.length
    · have hks := HS.out.keep hf (fun h0 j hj hj2 => by have := (hall j hj2).1; have := HD.out h0 j hj; omega)
      obtain ⟨ao2, cap2, e, _, _, h4⟩ := hks.ex
      injection e with e1 _ e3
      subst e1 e3
      rcases h4 with h0 | ⟨g, o, rfl, hg, hc⟩
      · omega
      · have hck := hc k hlt
        have hst' := encL_take_succ ps k hlt
        have hle := encL_len (ps.take k) (by have := szs_take_le ps k; unfold M; omega)
        have hle2 := szs_take_succ ps k hlt
        have hle3 := szs_take_le ps (k + 1)
        have hle4 : (ps.take k).length = k := by rw [List.length_take]; omega
        generalize hq : ps[k] = q at hck hst' hle2
        generalize hL : l ++ enc ps.length ++ encL (ps.take k) = L at h1'
        have hLl : L.length + q.length ≤ 50000000 := by rw [← hL]; simp only [List.length_append]; omega
        have HL' := Lib.hid (show l ++ enc ps.length ++ encL (ps.take (k + 1)) = L ++ encT q by rw [hst', ← hL]; simp only [List.append_assoc])
        clear hc h3 hst hst' hle hle2 hle3 hle4 hq hL hks
        have HF := Lib.hid (And.intro hf hfr); clear hf hfr
        go_wp2_with fail
        refine (Text_c lo b v1 L q bad wr h1' hLl).mono ?_
        rintro e w2 ⟨rfl, hw2⟩
        go_wp2
        go_roundw
        case rel => exact ⟨k + 1, by omega, by go_num, by rw [HL'.out]; exact step_of HF.out hw2⟩
        case measure => simp [intOf]; omega
    · have hke : k = ps.length := by omega
      subst hke
      rw [List.take_length] at h1'
      have HF := Lib.hid (And.intro h1' (And.intro hf hfr)); clear h1' hf hfr hst
      go_wp2
      go_end0
      exact ⟨rfl, by rw [HL.out, ← List.append_assoc]; exact ⟨_, HF.out.1, HF.out.2.1, HF.out.2.2⟩⟩

/-- slices.Clone of bytes. -/
theorem Clone_c (v : Value) (l : Bs) (w : World) (h : Sl w v l) (hl : l.length ≤ 50000000) :
    Calls Try.prog 33 #[v] w fun e w' => ∃ v', e = .returned v' ∧ Nw w w' v' l := by
  obtain ⟨ao, cap, rfl, h1, h2, h3⟩ := h.ex
  rcases h3 with ⟨rfl, rfl⟩ | ⟨g, o, rfl, hg, hc⟩
  · have h0 : l = [] := List.eq_nil_of_length_eq_zero (by omega)
    subst h0
    have HN := Lib.hid (Nw.nil w)
    have he : ∀ w : World, (binOp .eql 26 (.slice none 0 0) (.slice none 0 0)).run Try.prog w = .ok (.bool true) w := fun _ => rfl
    go_enter Try.func33, Try.ntmps33
    go_wp2
    go_ret
    exact ⟨_, rfl, HN.out⟩
  · have happ := app_sl (w.alloc (.cells #[] 5)) w.heap.size _ [] l 26 _ (World.ownsRow_made w #[] 0 (Nat.le_refl _) (Nat.zero_le _) rfl) (h.keep ((Fp.refl Non w).alloc _) (fun _ _ h => h)) (by simp; omega) (by simp)
    have HA := Lib.hid happ; clear happ hc
    have he : ∀ w : World, (binOp .eql 26 (.slice (some ⟨g, o, none⟩) l.length cap) (.slice none 0 0)).run Try.prog w = .ok (.bool false) w := fun _ => rfl
    go_enter Try.func33, Try.ntmps33
    go_wp2_with (at_builtin; go_must (refine wpList_app rfl _ _ _ _ rfl _ _ rfl rfl _ HA.out ?_))
    intro v' w2 hR
    have hN : Nw w w2 v' l := ⟨by simpa using hR.own, ((Fp.refl Non w).alloc _).grown hR.grown (fun k hk => by simp [Value.ownBlock] at hk; omega)⟩
    have HN := Lib.hid hN; clear hN hR HA
    go_wp2
    go_ret
    exact ⟨_, rfl, HN.out⟩

theorem Bytes_c (lo b : Nat) (v : Value) (l : Bs) (bad : Bool) (w : World) (h : Wr TW lo b v l bad w) (hl : l.length ≤ 50000000) :
    Calls Try.prog 18 #[.pointer (some ⟨b, 0, none⟩)] w fun e w' => ∃ v', e = .returned (.tuple #[v', .int .i64 (if bad then 1 else 0)]) ∧ Nw w w' v' (if bad then [] else l) := by
  have c0 := h.cell0
  have c1 := h.cell1
  have hS := Sl.of_owns h.own
  clear h
  cases bad with
  | true =>
    have HN := Lib.hid (Nw.nil w); clear hS
    go_enter Try.func18, Try.ntmps18
    go_wp2
    go_ret2
    exact ⟨_, rfl, HN.out⟩
  | false =>
    obtain ⟨ao, cap, rfl, h1, h2, h3⟩ := hS.ex
    have HS := Lib.hid hS; clear hS h3
    go_enter Try.func18, Try.ntmps18
    go_wp2_with fail
    refine (Clone_c _ l _ HS.out hl).mono ?_
    rintro e w1 ⟨v', rfl, hN⟩
    have HN := Lib.hid hN
    obtain ⟨ao', cap', rfl⟩ := hN.shape
    clear hN
    go_wp2
    go_ret2
    exact ⟨_, rfl, HN.out⟩
end Go.Proofs.Ytidkihadlhkbkaa
