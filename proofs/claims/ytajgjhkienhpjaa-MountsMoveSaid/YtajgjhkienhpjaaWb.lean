import Derived.Test.YtajgjhkienhpjaaWa
namespace Go.Proofs.Ytajgjhkienhpjaa
set_option maxRecDepth 20000
open Go.RowKit Pm

def strV (p : Bs) : Value := .string (B p)

/-- A slice of strings of the call's own. -/
def Own (b0 : Nat) (w : World) (v : Value) (ps : List Bs) : Prop :=
  w.ownsRow b0 9 1 v ps.length (ps.map strV) ∧ (ps = [] → v = .slice none 0 0)

theorem Own.nil (b0 : Nat) (w : World) : Own b0 w (.slice none 0 0) [] := ⟨World.ownsRow_nil _ _ _ _, fun _ => rfl⟩

def SplitPost (l : Bs) (w : World) (e : Ending) (w' : World) : Prop :=
  ∃ v, e = .returned (.tuple #[v, .bool (split l).isSome]) ∧ Own w.heap.size w' v ((split l).getD []) ∧ Below w.heap.size w w'

theorem Try.infoS : (Try.prog.info? 9).map (fun i => (i.zero, i.size, i.bytes)) = some (some (.string ⟨#[]⟩), 1, 16) := by kernel_rfl

theorem cut_len (l : Bs) : (cut l).2.length ≤ l.length := by
  unfold cut; split
  · simp
  · split <;> simp; omega

/-- Some frame of Split's. -/
def AnyFrame (a : Act) : Prop := ∃ u0 u1 u2 u3 u4 u5 u6 u7 u8 u9 u10 u11 u12 u13 u14 u15 u16 u17 u18 u19 u20 u21 u22 u23 u24 u25 u26 u27 u28 : Value, a = { tmps := #[u0, u1, u2, u3, u4, u5, u6, u7, u8, u9, u10, u11, u12, u13, u14, u15, u16, u17, u18, u19, u20, u21, u22, u23, u24, u25, u26, u27, u28], defers := [] }

/-- What holds at each round's head. -/
def SplitRel (l : Bs) (w : World) (v r i : Value) (wr : World) : Prop :=
  ∃ (acc : List Bs) (rest : Bs), acc.length ≤ 6 ∧ r = .string (B rest) ∧ i = .int .i64 acc.length ∧ split l = (splitN (6 - acc.length) rest).map (acc ++ ·) ∧
    rest.length ≤ l.length ∧ Own w.heap.size wr v acc ∧ Below w.heap.size w wr

theorem Own.push {b0 : Nat} {w w1 w2 : World} {v v' : Value} {acc : List Bs} {x : Bs} {o : Obj} (ho : w1.ownsRow b0 9 1 v acc.length (acc.map strV)) (hbl : Below b0 w w1)
    (hsz : b0 ≤ w1.heap.size) (hown : w2.ownsRow b0 9 1 v' (acc.length + 1) (acc.map strV ++ [strV x])) (hg : (w1.alloc o).grownBy w2 v.ownBlock) :
    Own b0 w2 v' (acc ++ [x]) ∧ Below b0 w w2 := by
  refine ⟨⟨?_, fun h => by simp at h⟩, ?_⟩
  · simpa using hown
  · exact (hbl.alloc hsz o).grown hg (by simp; omega) (fun k hk => (ho.lt k hk).1)

theorem one_c2 (x : Bs) : ∀ u, u ∈ [strV x] → u.oneCell' = true := by
  intro u hu; simp at hu; subst hu; rfl

theorem cut_call (rest a b : Bs) (hc : cut rest = (a, b)) (w : World) (hl : rest.length ≤ 9223372036854775807) :
    Calls Try.prog 47 #[.string (B rest)] w fun e w' => e = .returned (.tuple #[.string (B a), .string (B b)]) ∧ Dr w w' := by
  have := cut_c rest w hl
  rwa [hc] at this

set_option maxHeartbeats 1000000 in
theorem Split_c (l : Bs) (w : World) (hl : l.length ≤ 4611686018427387904) :
    Calls Try.prog 42 #[.string (B l)] w (SplitPost l w) := by
  obtain ⟨i0, hi, hz0, hz1, hz2⟩ := info_parts Try.infoS
  by_cases hr : l = [47]
  · subst hr
    go_enter Try.func42, Try.ntmps42
    go_wp2
    go_step3
    go_wp2
    rw [Exit.noGoto_ret]
    go_ret2
    exact ⟨_, rfl, Own.nil _ _, Below.refl _ _⟩
  · have hb : (l == [47]) = false := by simpa using hr
    go_enter Try.func42, Try.ntmps42
    go_wp2
    refine wp_scope_jumps 0 (fun a' w' => split l = none ∧ Below w.heap.size w w' ∧ AnyFrame a') (fun _ _ => 0) rfl ?_ ?_
    · go_wp2
      go_loopw [4, 5, 11] (fun v r i wr => SplitRel l w v r i wr) (fun _ _ i _ => 6 - (intOf i).toNat)
      case atStart => exact ⟨[], l, by simp, rfl, rfl, by simp [split, hr], Nat.le_refl _, Own.nil _ _, Below.refl _ _⟩
      case round =>
        obtain ⟨acc, rest, hk, rfl, rfl, hsp, hlr, hown, hbl⟩ := hrel
        by_cases h6 : acc.length < 6
        · obtain ⟨a, b, hc⟩ : ∃ a b, cut rest = (a, b) := ⟨_, _, rfl⟩
          have hcl := cut_len rest
          rw [hc] at hcl
          have hcut := cut_call rest a b hc
          have hspN : split l = ((splitN (5 - acc.length + 1) rest).map (acc ++ ·)) := by rw [hsp]; congr 2; omega
          have HC := Lib.hid hcut; clear hcut
          have HS := Lib.hid hspN; clear hspN hsp
          have HB := Lib.hid hc; clear hc
          cases a with
          | nil =>
            go_wp2_with (go_at_call 47; refine (HC.out _ (by omega)).mono ?_; rintro e w1 ⟨rfl, hd⟩)
            go_step3
            refine ⟨rfl, ?_, hbl.trans (hd.below _), _, _, _, _, _, _, _, _, _, _, _, _, _, _, _, _, _, _, _, _, _, _, _, _, _, _, _, _, _, rfl⟩
            rw [HS.out]; simp [splitN, HB.out]
          | cons c a =>
            cases b with
            | nil =>
              go_wp2_with fail
              refine (HC.out _ (by omega)).mono ?_
              rintro e w1 ⟨rfl, hd⟩
              have ho1 := hd.owns hown.1
              have hb1 := hbl.trans (hd.below _)
              have hs1 := hb1.size
              go_wp2_with (at_builtin; go_must (refine wpList_append_own _ rfl _ _ 45 rfl w.heap.size 9 i0 (.string ⟨#[]⟩) 1 16 Try.underlying45 hi hz0 hz1 hz2 rfl (by decide) _ _ _ rfl (ho1.alloc _) ⟨w1.heap.size, 0, none⟩ 1 1 [strV (c :: a)] rfl rfl (cell_one_new _ _ _) (one_c2 _) (by unfold maxLen; omega) (by omega) (by simp; omega) ?_; intro v' w2 hown' hgrow _))
              obtain ⟨hO, hB⟩ := Own.push ho1 hb1 hs1 hown' hgrow
              clear hown' hgrow ho1 hown
              simp only [Exit.jump]
              go_ret2
              have e : split l = some (acc ++ [c :: a]) := by rw [HS.out]; simp [splitN, HB.out]
              exact ⟨_, by rw [e]; rfl, by rw [e]; exact hO, hB⟩
            | cons d b =>
              go_wp2_with fail
              refine (HC.out _ (by omega)).mono ?_
              rintro e w1 ⟨rfl, hd⟩
              have ho1 := hd.owns hown.1
              have hb1 := hbl.trans (hd.below _)
              have hs1 := hb1.size
              go_wp2_with (at_builtin; go_must (refine wpList_append_own _ rfl _ _ 45 rfl w.heap.size 9 i0 (.string ⟨#[]⟩) 1 16 Try.underlying45 hi hz0 hz1 hz2 rfl (by decide) _ _ _ rfl (ho1.alloc _) ⟨w1.heap.size, 0, none⟩ 1 1 [strV (c :: a)] rfl rfl (cell_one_new _ _ _) (one_c2 _) (by unfold maxLen; omega) (by omega) (by simp; omega) ?_; intro v' w2 hown' hgrow _))
              obtain ⟨hO, hB⟩ := Own.push ho1 hb1 hs1 hown' hgrow
              clear hown' hgrow ho1 hown
              go_roundw
              case rel =>
                refine ⟨acc ++ [c :: a], d :: b, by rw [List.length_append]; simp; omega, rfl, by simp, ?_, by omega, hO, hB⟩
                rw [HS.out, show 6 - (acc ++ [c :: a]).length = 5 - acc.length from by rw [List.length_append]; show 6 - (acc.length + 1) = _; omega]
                simp [splitN, HB.out, Function.comp_def]
              case measure => simp [intOf]; omega
        · have h6' : acc.length = 6 := by omega
          go_wp2
          go_step3
          go_wp2
          simp only [Exit.jump]
          go_ret2
          have e : split l = none := by rw [hsp, h6']; rfl
          exact ⟨_, by rw [e]; rfl, by rw [e]; exact Own.nil _ _, hbl⟩
    · rintro a' w' ⟨hs, hbl, u0, u1, u2, u3, u4, u5, u6, u7, u8, u9, u10, u11, u12, u13, u14, u15, u16, u17, u18, u19, u20, u21, u22, u23, u24, u25, u26, u27, u28, rfl⟩
      go_wp2
      simp only [Exit.jump]
      go_ret2
      exact ⟨_, by rw [hs]; rfl, by rw [hs]; exact Own.nil _ _, hbl⟩
end Go.Proofs.Ytajgjhkienhpjaa
