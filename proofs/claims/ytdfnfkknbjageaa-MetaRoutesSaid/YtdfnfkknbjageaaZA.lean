/- Texts of this proof, merged. -/
import Derived.Laws.Strings
import Derived.Laws.Strings2
import Derived.Test.YtdfnfkknbjageaaProg
import Derived.WalkKit
import Derived.WalkSpells
import Derived.WalkLawsBesides
import Derived.Deep.QuietTactic
import Derived.BigQuiet
import Derived.Lib.Hide
import Derived.Shelf.Strings.BuilderX
import Derived.Lib.Builder
import Derived.Lib.AppendStr
import Derived.Lib.UnsafeStr
import Derived.Lib.MakeNoZero
import Derived.Lib.Join
import Derived.Test.YtdfnfkknbjageaaShelf
import Derived.Lib.AppendIntMem
import GoSem.Op.String
set_option linter.unusedVariables false
set_option linter.unusedSimpArgs false
/- Plain lists: parts and paths as lists of bytes. Nothing of the program. -/
namespace Go.Proofs.Ytdfnfkknbjageaa
set_option maxRecDepth 20000
namespace Pm

abbrev Bs := List UInt8

/-- A string of the model out of its bytes. -/
def B (l : Bs) : ByteArray := ⟨l.toArray⟩

theorem B_size (l : Bs) : (B l).size = l.length := by unfold B; rfl
theorem B_toList (l : Bs) : (B l).toList = l := by unfold B; exact ByteArray.toList_mk l
theorem B_get (l : Bs) (i : Nat) (h : i < (B l).size) : (B l)[i] = l[i]'(by rw [B_size] at h; exact h) := by
  unfold B; rfl
theorem B_of (s : ByteArray) : s = B s.data.toList := by unfold B; simp
theorem B_inj {a b : Bs} (h : B a = B b) : a = b := by
  have := congrArg ByteArray.toList h; rwa [B_toList, B_toList] at this

theorem B_extract (l : Bs) (a b : Nat) : (B l).extract a b = B ((l.drop a).take (b - a)) := ByteArray.extract_mk l a b

theorem B_app (a b : Bs) : B a ++ B b = B (a ++ b) := by
  apply ByteArray.ext; unfold B; simp
theorem lit_app (a b : Bs) : ByteArray.mk a.toArray ++ B b = B (a ++ b) := B_app a b
theorem app_lit (a b : Bs) : B a ++ ByteArray.mk b.toArray = B (a ++ b) := B_app a b

theorem lit_extract (l : Bs) (a b : Nat) : (ByteArray.mk l.toArray).extract a b = B ((l.drop a).take (b - a)) := B_extract l a b

/-- May byte n stand in a part? -/
def okN (n : Nat) : Bool := decide (97 ≤ n ∧ n ≤ 122 ∨ 48 ≤ n ∧ n ≤ 57 ∨ n = 45)
def okB (c : UInt8) : Bool := okN c.toNat

/-- How many bytes at the front may be a part, at most k. -/
def pl : Nat → Bs → Nat
  | 0, _ => 0
  | _ + 1, [] => 0
  | k + 1, c :: r => if okB c then pl k r + 1 else 0

theorem pl_le : ∀ (k : Nat) (l : Bs), pl k l ≤ k
  | 0, _ => Nat.le_refl _
  | _ + 1, [] => Nat.zero_le _
  | k + 1, c :: r => by unfold pl; split <;> have := pl_le k r <;> omega
theorem pl_len : ∀ (k : Nat) (l : Bs), pl k l ≤ l.length
  | 0, _ => Nat.zero_le _
  | _ + 1, [] => Nat.zero_le _
  | k + 1, c :: r => by unfold pl; split <;> have := pl_len k r <;> simp <;> omega

/-- Step: so far n bytes were right, and one more is, or is not. -/
theorem pl_split : ∀ (n k : Nat) (l : Bs), n ≤ k → n ≤ l.length → (∀ i (h : i < l.length), i < n → okB l[i] = true) → pl k l = n + pl (k - n) (l.drop n)
  | 0, k, l, _, _, _ => by simp
  | n + 1, 0, l, h, _, _ => by omega
  | n + 1, k + 1, [], _, h, _ => by simp at h
  | n + 1, k + 1, c :: r, h1, h2, h3 => by
    have h0 := h3 0 (by simp) (by omega)
    simp at h0
    have := pl_split n k r (by omega) (by simpa using h2) (fun i hi hn => by have := h3 (i + 1) (by simp; omega) (by omega); simpa using this)
    rw [show pl (k + 1) (c :: r) = pl k r + 1 from by simp [pl, h0], this, Nat.add_sub_add_right, List.drop_succ_cons]; omega

theorem pl_stop (n : Nat) (l : Bs) (hn : n ≤ 12) (hl : n ≤ l.length) (h : ∀ i (h : i < l.length), i < n → okB l[i] = true)
    (hs : n = 12 ∨ n = l.length ∨ ∃ h : n < l.length, okB l[n] = false) : pl 12 l = n := by
  rw [pl_split n 12 l hn hl h]
  rcases hs with rfl | rfl | ⟨h1, h2⟩
  · simp [pl]
  · rw [List.drop_of_length_le (Nat.le_refl _)]
    cases hh : 12 - l.length <;> simp [pl]
  · rw [List.drop_eq_getElem_cons h1]
    cases hh : 12 - n <;> simp [pl, h2]

def isPart (l : Bs) : Bool := !l.isEmpty && pl 12 l == l.length

/-- A slash and the part behind it, and what is left. -/
def cut (l : Bs) : Bs × Bs :=
  match l with
  | [] => ([], [])
  | c :: r => if c = 47 then (r.take (pl 12 r), r.drop (pl 12 r)) else ([], [])

def splitN : Nat → Bs → Option (List Bs)
  | 0, _ => none
  | n + 1, s => if (cut s).1 = [] then none else if (cut s).2 = [] then some [(cut s).1] else (splitN n (cut s).2).map ((cut s).1 :: ·)

def split (l : Bs) : Option (List Bs) := if l = [47] then some [] else splitN 6 l

/-- Each part with a slash ahead, one behind the other. -/
def flat (ps : List Bs) : Bs := (ps.map (47 :: ·)).flatten

/-- Parts with a slash between them. -/
def jn : List Bs → Bs
  | [] => []
  | p :: r => p ++ flat r

/-- The path of parts. -/
def joinP (ps : List Bs) : Bs := 47 :: jn ps

def lens (ps : List Bs) : Nat := (ps.map List.length).sum

theorem flat_nil : flat [] = [] := rfl
theorem flat_cons (p : Bs) (r : List Bs) : flat (p :: r) = 47 :: (p ++ flat r) := by simp [flat]
theorem flat_take_succ (r : List Bs) (k : Nat) (h : k < r.length) : flat (r.take (k + 1)) = flat (r.take k) ++ [47] ++ r[k] := by
  rw [List.take_succ_eq_append_getElem h]; unfold flat; rw [List.map_append, List.flatten_append]; simp
theorem flat_len (r : List Bs) : (flat r).length = r.length + lens r := by
  induction r with
  | nil => rfl
  | cons p r ih => rw [flat_cons]; simp [lens] at ih ⊢; omega
theorem lens_take_succ (r : List Bs) (k : Nat) (h : k < r.length) : lens (r.take (k + 1)) = lens (r.take k) + r[k].length := by
  rw [List.take_succ_eq_append_getElem h]; unfold lens; rw [List.map_append, List.sum_append]; simp
theorem lens_take_le : ∀ (r : List Bs) (k : Nat), lens (r.take k) ≤ lens r
  | [], k => by simp [lens]
  | p :: r, 0 => by simp [lens]
  | p :: r, k + 1 => by have := lens_take_le r k; simp [lens] at this ⊢; omega
theorem joinP_cons (p : Bs) (r : List Bs) : joinP (p :: r) = flat (p :: r) := by rw [flat_cons]; rfl

end Pm
end Go.Proofs.Ytdfnfkknbjageaa

namespace Go.Proofs.Ytdfnfkknbjageaa
set_option maxRecDepth 20000
open Go.RowKit Pm

attribute [go_sem] B_size B_toList B_get B_extract B_app lit_app app_lit lit_extract

/-- As w, but for draws. -/
def Dr (w w' : World) : Prop := ∃ n, w' = w.drewN n
theorem Dr.refl (w : World) : Dr w w := ⟨0, rfl⟩
theorem Dr.of (w : World) (n : Nat) : Dr w (w.drewN n) := ⟨n, rfl⟩
theorem Dr.trans {a b c : World} (h : Dr a b) (k : Dr b c) : Dr a c := by
  obtain ⟨n, rfl⟩ := h; obtain ⟨m, rfl⟩ := k; exact ⟨n + m, by rw [World.drewN_drewN]⟩
theorem Dr.below {w w' : World} (h : Dr w w') (b0 : Nat) : Below b0 w w' := by
  obtain ⟨n, rfl⟩ := h; exact below_drewN (Below.refl _ _) n
theorem Dr.size {w w' : World} (h : Dr w w') : w'.heap.size = w.heap.size := by obtain ⟨n, rfl⟩ := h; rfl
theorem Dr.owns {w w' : World} (h : Dr w w') {b0 : Nat} {e : TypeId} {k : Nat} {v : Value} {n : Nat} {xs : List Value} (ho : w.ownsRow b0 e k v n xs) : w'.ownsRow b0 e k v n xs := by
  obtain ⟨n, rfl⟩ := h; exact ho

theorem ret_bool {a b : Bool} (h : a = b) : Ending.returned (.bool a) = .returned (.bool b) := by rw [h]
theorem ret_int {k : IntKind} {a b : Int} (h : a = b) : Ending.returned (.int k a) = .returned (.int k b) := by rw [h]

set_option maxHeartbeats 400000 in
theorem isPartByte_c (b : Nat) (w : World) :
    Calls Try.prog 88 #[.int .u8 b] w fun e w' => e = .returned (.bool (okN b)) ∧ w = w' := by
  go_enter Try.func88, Try.ntmps88
  go_wp2
  all_goals (go_ret; refine ⟨ret_bool ?_, rfl⟩; unfold okN; rw [Bool.eq_iff_iff]; simp; omega)

set_option maxHeartbeats 400000 in
theorem partLen_c (l : Bs) (w : World) (hl : l.length ≤ 9223372036854775807) :
    Calls Try.prog 85 #[.string (B l)] w fun e w' => e = .returned (.int .i64 (pl 12 l)) ∧ w = w' := by
  go_enter Try.func85, Try.ntmps85
  go_wp2
  go_loop [3] (fun n => ∃ k : Nat, k ≤ 12 ∧ k ≤ l.length ∧ n = .int .i64 k ∧ Hid (∀ i (h : i < l.length), i < k → okB l[i] = true)) (fun n => 12 - (intOf n).toNat)
  case atStart => exact ⟨0, by omega, by omega, rfl, fun i h hn => by omega⟩
  case round =>
    obtain ⟨k, hk, hkl, rfl, ha⟩ := hrel
    by_cases h1 : k < l.length
    · by_cases h2 : k < 12
      · go_wp2_with (go_at_call 88; refine (isPartByte_c _ _).mono ?_; rintro e w' ⟨rfl, rfl⟩)
        · have hok : okN (l[k].toNat) = true := by assumption
          go_round
          case rel => exact ⟨k + 1, by omega, by omega, by go_num, fun i hi hn => by
            by_cases hik : i = k
            · subst hik; exact hok
            · exact ha i hi (by omega)⟩
          case measure => simp [intOf]; omega
        · have hok : okN (l[k].toNat) = false := by assumption
          go_ret
          exact ⟨ret_int (by rw [pl_stop k l (by omega) (by omega) ha (Or.inr (Or.inr ⟨h1, hok⟩))]), rfl⟩
      · go_wp2
        go_ret
        exact ⟨ret_int (by rw [pl_stop k l (by omega) (by omega) ha (Or.inl (by omega))]), rfl⟩
    · go_wp2
      go_ret
      exact ⟨ret_int (by rw [pl_stop k l (by omega) (by omega) ha (Or.inr (Or.inl (by omega)))]), rfl⟩

set_option maxHeartbeats 400000 in
theorem cut_c (l : Bs) (w : World) (hl : l.length ≤ 9223372036854775807) :
    Calls Try.prog 80 #[.string (B l)] w fun e w' => e = .returned (.tuple #[.string (B (cut l).1), .string (B (cut l).2)]) ∧ Dr w w' := by
  match l, hl with
  | [], _ =>
    go_enter Try.func80, Try.ntmps80
    go_wp2
    go_ret2
    exact ⟨rfl, Dr.refl _⟩
  | c :: r, hl =>
    simp at hl
    by_cases hc : c = 47
    · subst hc
      go_enter Try.func80, Try.ntmps80
      have h1 := pl_le 12 r
      have h2 := pl_len 12 r
      go_wp2_with (go_at_call 85; refine (partLen_c r _ (by omega)).mono ?_; rintro e w' ⟨rfl, rfl⟩)
      go_quiet (fail)
      go_wp2
      go_ret2
      refine ⟨?_, Dr.of _ _⟩
      have e1 : 1 + pl 12 r - 1 = pl 12 r := by omega
      have e2 : (List.drop (1 + pl 12 r) (47 :: r)) = r.drop (pl 12 r) := by rw [Nat.add_comm, List.drop_succ_cons]
      have e3 : List.take (r.length + 1 - (1 + pl 12 r)) (r.drop (pl 12 r)) = r.drop (pl 12 r) := List.take_of_length_le (by simp; omega)
      show Ending.returned (.tuple #[.string (B (List.take (1 + pl 12 r - 1) r)), .string (B (List.take (r.length + 1 - (1 + pl 12 r)) (List.drop (1 + pl 12 r) (47 :: r))))]) = _
      rw [e1, e2, e3]
      rfl
    · have hb : ((c.toNat : Int) != 47) = true := by simp; intro h; apply hc; apply UInt8.toNat.inj; exact Int.ofNat_inj.1 h
      go_enter Try.func80, Try.ntmps80
      go_wp2
      go_ret2
      exact ⟨by simp [cut, hc]; rfl, Dr.refl _⟩
end Go.Proofs.Ytdfnfkknbjageaa

namespace Go.Proofs.Ytdfnfkknbjageaa
set_option maxRecDepth 20000
open Go.RowKit Pm

def strV (p : Bs) : Value := .string (B p)

/-- A slice of strings of the call's own. -/
def Own (b0 : Nat) (w : World) (v : Value) (ps : List Bs) : Prop :=
  w.ownsRow b0 9 1 v ps.length (ps.map strV) ∧ (ps = [] → v = .slice none 0 0)

theorem Own.nil (b0 : Nat) (w : World) : Own b0 w (.slice none 0 0) [] := ⟨World.ownsRow_nil _ _ _ _, fun _ => rfl⟩

def SplitPost (l : Bs) (w : World) (e : Ending) (w' : World) : Prop :=
  ∃ v, e = .returned (.tuple #[v, .bool (split l).isSome]) ∧ Own w.heap.size w' v ((split l).getD []) ∧ Below w.heap.size w w'

theorem Try.infoS : (Try.prog.info? 9).map (fun i => (i.zero, i.size, i.bytes)) = some (some (.string ⟨#[]⟩), 1, 16) := by kernel_rfl

theorem cut_len (l : Bs) : (cut l).2.length ≤ l.length := by
  unfold cut; split
  · simp
  · split <;> simp; omega

/-- Some frame of Split's. -/
def AnyFrame (a : Act) : Prop := ∃ u0 u1 u2 u3 u4 u5 u6 u7 u8 u9 u10 u11 u12 u13 u14 u15 u16 u17 u18 u19 u20 u21 u22 u23 u24 u25 u26 u27 u28 : Value, a = { tmps := #[u0, u1, u2, u3, u4, u5, u6, u7, u8, u9, u10, u11, u12, u13, u14, u15, u16, u17, u18, u19, u20, u21, u22, u23, u24, u25, u26, u27, u28], defers := [] }

/-- What holds at each round's head. -/
def SplitRel (l : Bs) (w : World) (v r i : Value) (wr : World) : Prop :=
  ∃ (acc : List Bs) (rest : Bs), acc.length ≤ 6 ∧ r = .string (B rest) ∧ i = .int .i64 acc.length ∧ split l = (splitN (6 - acc.length) rest).map (acc ++ ·) ∧
    rest.length ≤ l.length ∧ Own w.heap.size wr v acc ∧ Below w.heap.size w wr

theorem Own.push {b0 : Nat} {w w1 w2 : World} {v v' : Value} {acc : List Bs} {x : Bs} {o : Obj} (ho : w1.ownsRow b0 9 1 v acc.length (acc.map strV)) (hbl : Below b0 w w1)
    (hsz : b0 ≤ w1.heap.size) (hown : w2.ownsRow b0 9 1 v' (acc.length + 1) (acc.map strV ++ [strV x])) (hg : (w1.alloc o).grownBy w2 v.ownBlock) :
    Own b0 w2 v' (acc ++ [x]) ∧ Below b0 w w2 := by
  refine ⟨⟨?_, fun h => by simp at h⟩, ?_⟩
  · simpa using hown
  · exact (hbl.alloc hsz o).grown hg (by simp; omega) (fun k hk => (ho.lt k hk).1)

theorem one_c2 (x : Bs) : ∀ u, u ∈ [strV x] → u.oneCell' = true := by
  intro u hu; simp at hu; subst hu; rfl

theorem cut_call (rest a b : Bs) (hc : cut rest = (a, b)) (w : World) (hl : rest.length ≤ 9223372036854775807) :
    Calls Try.prog 80 #[.string (B rest)] w fun e w' => e = .returned (.tuple #[.string (B a), .string (B b)]) ∧ Dr w w' := by
  have := cut_c rest w hl
  rwa [hc] at this

set_option maxHeartbeats 1000000 in
theorem Split_c (l : Bs) (w : World) (hl : l.length ≤ 4611686018427387904) :
    Calls Try.prog 68 #[.string (B l)] w (SplitPost l w) := by
  obtain ⟨i0, hi, hz0, hz1, hz2⟩ := info_parts Try.infoS
  by_cases hr : l = [47]
  · subst hr
    go_enter Try.func68, Try.ntmps68
    go_wp2
    go_step3
    go_wp2
    rw [Exit.noGoto_ret]
    go_ret2
    exact ⟨_, rfl, Own.nil _ _, Below.refl _ _⟩
  · have hb : (l == [47]) = false := by simpa using hr
    go_enter Try.func68, Try.ntmps68
    go_wp2
    refine wp_scope_jumps 0 (fun a' w' => split l = none ∧ Below w.heap.size w w' ∧ AnyFrame a') (fun _ _ => 0) rfl ?_ ?_
    · go_wp2
      go_loopw [4, 5, 11] (fun v r i wr => SplitRel l w v r i wr) (fun _ _ i _ => 6 - (intOf i).toNat)
      case atStart => exact ⟨[], l, by simp, rfl, rfl, by simp [split, hr], Nat.le_refl _, Own.nil _ _, Below.refl _ _⟩
      case round =>
        obtain ⟨acc, rest, hk, rfl, rfl, hsp, hlr, hown, hbl⟩ := hrel
        by_cases h6 : acc.length < 6
        · obtain ⟨a, b, hc⟩ : ∃ a b, cut rest = (a, b) := ⟨_, _, rfl⟩
          have hcl := cut_len rest
          rw [hc] at hcl
          have hcut := cut_call rest a b hc
          have hspN : split l = ((splitN (5 - acc.length + 1) rest).map (acc ++ ·)) := by rw [hsp]; congr 2; omega
          have HC := Lib.hid hcut; clear hcut
          have HS := Lib.hid hspN; clear hspN hsp
          have HB := Lib.hid hc; clear hc
          cases a with
          | nil =>
            go_wp2_with (go_at_call 80; refine (HC.out _ (by omega)).mono ?_; rintro e w1 ⟨rfl, hd⟩)
            go_step3
            refine ⟨rfl, ?_, hbl.trans (hd.below _), _, _, _, _, _, _, _, _, _, _, _, _, _, _, _, _, _, _, _, _, _, _, _, _, _, _, _, _, _, rfl⟩
            rw [HS.out]; simp [splitN, HB.out]
          | cons c a =>
            cases b with
            | nil =>
              go_wp2_with fail
              refine (HC.out _ (by omega)).mono ?_
              rintro e w1 ⟨rfl, hd⟩
              have ho1 := hd.owns hown.1
              have hb1 := hbl.trans (hd.below _)
              have hs1 := hb1.size
              go_wp2_with (at_builtin; go_must (refine wpList_append_own _ rfl _ _ 41 rfl w.heap.size 9 i0 (.string ⟨#[]⟩) 1 16 Try.underlying41 hi hz0 hz1 hz2 rfl (by decide) _ _ _ rfl (ho1.alloc _) ⟨w1.heap.size, 0, none⟩ 1 1 [strV (c :: a)] rfl rfl (cell_one_new _ _ _) (one_c2 _) (by unfold maxLen; omega) (by omega) (by simp; omega) ?_; intro v' w2 hown' hgrow _))
              obtain ⟨hO, hB⟩ := Own.push ho1 hb1 hs1 hown' hgrow
              clear hown' hgrow ho1 hown
              simp only [Exit.jump]
              go_ret2
              have e : split l = some (acc ++ [c :: a]) := by rw [HS.out]; simp [splitN, HB.out]
              exact ⟨_, by rw [e]; rfl, by rw [e]; exact hO, hB⟩
            | cons d b =>
              go_wp2_with fail
              refine (HC.out _ (by omega)).mono ?_
              rintro e w1 ⟨rfl, hd⟩
              have ho1 := hd.owns hown.1
              have hb1 := hbl.trans (hd.below _)
              have hs1 := hb1.size
              go_wp2_with (at_builtin; go_must (refine wpList_append_own _ rfl _ _ 41 rfl w.heap.size 9 i0 (.string ⟨#[]⟩) 1 16 Try.underlying41 hi hz0 hz1 hz2 rfl (by decide) _ _ _ rfl (ho1.alloc _) ⟨w1.heap.size, 0, none⟩ 1 1 [strV (c :: a)] rfl rfl (cell_one_new _ _ _) (one_c2 _) (by unfold maxLen; omega) (by omega) (by simp; omega) ?_; intro v' w2 hown' hgrow _))
              obtain ⟨hO, hB⟩ := Own.push ho1 hb1 hs1 hown' hgrow
              clear hown' hgrow ho1 hown
              go_roundw
              case rel =>
                refine ⟨acc ++ [c :: a], d :: b, by rw [List.length_append]; simp; omega, rfl, by simp, ?_, by omega, hO, hB⟩
                rw [HS.out, show 6 - (acc ++ [c :: a]).length = 5 - acc.length from by rw [List.length_append]; show 6 - (acc.length + 1) = _; omega]
                simp [splitN, HB.out, Function.comp_def]
              case measure => simp [intOf]; omega
        · have h6' : acc.length = 6 := by omega
          go_wp2
          go_step3
          go_wp2
          simp only [Exit.jump]
          go_ret2
          have e : split l = none := by rw [hsp, h6']; rfl
          exact ⟨_, by rw [e]; rfl, by rw [e]; exact Own.nil _ _, hbl⟩
    · rintro a' w' ⟨hs, hbl, u0, u1, u2, u3, u4, u5, u6, u7, u8, u9, u10, u11, u12, u13, u14, u15, u16, u17, u18, u19, u20, u21, u22, u23, u24, u25, u26, u27, u28, rfl⟩
      go_wp2
      simp only [Exit.jump]
      go_ret2
      exact ⟨_, by rw [hs]; rfl, by rw [hs]; exact Own.nil _ _, hbl⟩
end Go.Proofs.Ytdfnfkknbjageaa

/- strings.Builder over this translation (its copyCheck has a refused arm, which no call here comes to), and strings.Join with a slash between. -/
namespace Go.Proofs.Ytdfnfkknbjageaa
set_option maxRecDepth 20000
open Go.RowKit Pm

/-- A builder of the call's own that holds l. -/
abbrev IsBu (b0 b : Nat) (l : Bs) (w : World) : Prop := Lib.IsBuilder 134 5 b0 b (Lib.byteCells l) w

theorem strCells_B (s : Bs) : Lib.strCells (B s) = Lib.byteCells s := by rw [Lib.strCells_eq]; rfl

theorem Try.infoBu : (Try.prog.info? 134).map (·.size) = some 2 := by kernel_rfl
theorem Try.liesBu : liesAt Try.prog Try.prog.depth 134 (2 / Try.prog.cellsOf 134) 0 134 1 = true := by kernel_rfl
theorem Try.infoBy : (Try.prog.info? 5).map (fun i => (i.zero, i.size, i.bytes)) = some (some (.int .u8 0), 1, 1) := by kernel_rfl
theorem Try.sizeBy : (Try.prog.info? 5).map (·.size) = some 1 := by kernel_rfl
theorem Try.cellsBy : Try.prog.cellsOf 5 = 1 := by kernel_rfl

theorem noEscape_run (x : Value) (w : World) : (callFunc 97 #[x]).run Try.prog w = .ok (.value x) w := by
  rw [run_callFunc_extern (fn := Try.f97) (by kernel_rfl) (by kernel_rfl) (by kernel_rfl) (by kernel_rfl) (e := Extern.AbiNoEscape.same) (by kernel_rfl), Lib.run_noEscape]
  rfl

set_option maxHeartbeats 1000000 in
theorem copyCheck_used (b : Nat) (w : World) (h0 : w.cell? ⟨b, 0, none⟩ = some (.pointer (some ⟨b, 0, none⟩))) :
    Calls Try.prog 95 #[.pointer (some ⟨b, 0, none⟩)] w fun e w' => e = .returned (.tuple #[]) ∧ w = w' := by
  obtain ⟨j, hj, _⟩ := Option.map_eq_some_iff.1 Try.infoBu
  have hq := Lib.run_neq_ptr_same (P := Try.prog) w ⟨b, 0, none⟩ Try.underlying131 hj
  go_enter Try.func95, Try.ntmps95
  go_wp2
  go_end0
  exact ⟨rfl, rfl⟩

set_option maxHeartbeats 1000000 in
theorem copyCheck_fresh (b : Nat) (w : World) (h0 : w.cell? ⟨b, 0, none⟩ = some (.pointer none)) (hsh : w.shape? b = some (134, 2)) (hfz : w.frozen? ⟨b, 0, none⟩ = false) :
    Calls Try.prog 95 #[.pointer (some ⟨b, 0, none⟩)] w fun e w' => e = .returned (.tuple #[]) ∧ w' = w.setCell ⟨b, 0, none⟩ (.pointer (some ⟨b, 0, none⟩)) := by
  obtain ⟨j, hj, hjs⟩ := Option.map_eq_some_iff.1 Try.infoBu
  have k1 := Lib.run_to_unsafe (P := Try.prog) w ⟨b, 0, none⟩ Try.underlying131 Try.underlying142 hj (by rw [hjs]; decide) hsh (by simp)
  have k2 := Lib.run_from_unsafe (P := Try.prog) w ⟨b, 0, none⟩ Try.underlying142 Try.underlying131 hj hsh Try.liesBu
  have k3 := noEscape_run (.pointer (some ⟨b, 0, none⟩)) w
  go_enter Try.func95, Try.ntmps95
  go_wp2
  go_end0
  exact ⟨rfl, rfl⟩

theorem copyCheck_c (b0 b : Nat) (l : Bs) (w : World) (h : IsBu b0 b l w) :
    Calls Try.prog 95 #[.pointer (some ⟨b, 0, none⟩)] w fun e w' => e = .returned (.tuple #[]) ∧
      Lib.BuilderAt 134 5 b0 b (.pointer (some ⟨b, 0, none⟩)) (Lib.byteCells l) w' ∧ Below b0 w w' := by
  rcases h with h | h
  · refine (copyCheck_fresh b w h.cell0 h.shape h.frozen0).mono ?_
    rintro e w' ⟨rfl, rfl⟩
    exact ⟨rfl, h.used _, (Below.refl b0 w).setCell (p := ⟨b, 0, none⟩) h.1 _⟩
  · refine (copyCheck_used b w h.cell0).mono ?_
    rintro e w' ⟨rfl, rfl⟩
    exact ⟨rfl, h, Below.refl b0 _⟩

set_option maxHeartbeats 1000000 in
theorem WriteString_c (b0 b : Nat) (l s : Bs) (w : World) (h : IsBu b0 b l w) (hlen : l.length + s.length ≤ 1073741824) (hb0 : b0 ≤ w.heap.size) :
    Calls Try.prog 93 #[.pointer (some ⟨b, 0, none⟩), .string (B s)] w fun e w' => e = .returned (.tuple #[.int .i64 s.length, .nilIface]) ∧ IsBu b0 b (l ++ s) w' ∧ Below b0 w w' := by
  obtain ⟨i0, hi, hz0, hz1, hz2⟩ := info_parts Try.infoBy
  go_enter Try.func93, Try.ntmps93
  go_wp2_with fail
  refine (copyCheck_c b0 b l _ h).mono ?_
  rintro e w1 ⟨rfl, ⟨hB, v, hbk, hown, hne⟩, hb1⟩
  have c1 : w1.cell? ⟨b, 1, none⟩ = some v := by rw [Lib.cell_of_heap hbk]; rfl
  have hs1 := hb1.size
  have hl8 : (Lib.byteCells l).length = l.length := Lib.byteCells_length l
  go_wp2_with (at_builtin; go_must (refine Lib.wpList_append_own_string _ rfl _ _ 132 9 rfl b0 5 i0 Try.underlying132 Try.underlying9 hi hz0 hz1 hz2 _ _ _ rfl hown (B s) rfl ?c3 ?c4 ?c5 ?_))
  case c3 => rw [hl8, B_size]; unfold maxLen; omega
  case c4 => rw [hl8, B_size]; omega
  case c5 => omega
  intro v' w2 hown' hgrow _
  have hlt : b < w1.heap.size := Lib.BuilderAt.lt ⟨hB, v, hbk, hown, hne⟩
  have hb2 : w2.heap[b]? = some (.cells #[.pointer (some ⟨b, 0, none⟩), v] 134 (0, 0)) := by
    rw [hgrow.block b hlt (fun e => hne e.symm)]; exact hbk
  have d1 : w2.cell? ⟨b, 1, none⟩ = some v := by rw [Lib.cell_of_heap hb2]; rfl
  have f1 : w2.frozen? ⟨b, 1, none⟩ = false := Lib.frozen_of_heap hb2 1
  have hbel : Below b0 w (w2.setCell ⟨b, 1, none⟩ v') := (hb1.grown hgrow (by omega) (fun k hk => (hown.lt k hk).1)).setCell (p := ⟨b, 1, none⟩) hB _
  have hfin : IsBu b0 b (l ++ s) (w2.setCell ⟨b, 1, none⟩ v') := by
    refine Or.inr (Lib.BuilderAt.put hB hb2 ?_ (by decide))
    rw [Lib.byteCells_length, List.length_append, Lib.byteCells_append, ← strCells_B s]
    exact hown'
  obtain ⟨ao, n', cap, rfl⟩ : ∃ ao n' cap, v' = .slice ao n' cap := by
    rcases hown'.2 with ⟨hv, _⟩ | ⟨g, cap, cur, hv, _⟩
    · exact ⟨_, _, _, hv⟩
    · exact ⟨_, _, _, hv⟩
  clear hown' hgrow hown hb1 hs1 hbk
  go_wp2
  go_ret2
  exact ⟨rfl, hfin, hbel⟩

set_option maxHeartbeats 1000000 in
theorem grow_c (b0 b n : Nat) (w : World) (hB : b0 ≤ b) (hbk : w.heap[b]? = some (.cells #[.pointer (some ⟨b, 0, none⟩), .slice none 0 0] 134 (0, 0))) (hBw : b0 ≤ w.heap.size) (hn : n ≤ 1073741824) :
    Calls Try.prog 96 #[.pointer (some ⟨b, 0, none⟩), .int .i64 n] w fun e w' => e = .returned (.tuple #[]) ∧ IsBu b0 b [] w' ∧ Below b0 w w' := by
  obtain ⟨cs, hrun, hle, hmax⟩ := Lib.run_makeNoZero (P := Try.prog) w.drew #[3] 132 5 Try.underlying132 n (by omega)
  have hcall : (callFunc 98 #[.int .i64 n]).run Try.prog w.drew = .ok (.value (.slice (some ⟨w.drew.heap.size, 0, none⟩) n cs.size)) (w.drew.drew.drew.alloc (.cells cs 5)) := by
    rw [run_callFunc_extern (fn := Try.f98) (by kernel_rfl) (by kernel_rfl) (by kernel_rfl) (by kernel_rfl) (e := Extern.BytealgMakeNoZero.makeNoZero #[3] #[132]) (by kernel_rfl), hrun]
    rfl
  have hlt : b < w.heap.size := by
    rcases Nat.lt_or_ge b w.heap.size with h' | h'
    · exact h'
    · simp [Array.getElem?_eq_none h'] at hbk
  have c1 : w.drew.cell? ⟨b, 1, none⟩ = some (.slice none 0 0) := by
    have : w.drew.heap[b]? = _ := hbk
    rw [Lib.cell_of_heap this]; rfl
  have hbk2 := (Lib.alloc_old w (.cells cs 5) b hlt).trans hbk
  have c2 : (w.alloc (.cells cs 5)).cell? ⟨b, 1, none⟩ = some (.slice none 0 0) := by
    rw [Lib.cell_of_heap hbk2]; rfl
  have f2 : (w.alloc (.cells cs 5)).frozen? ⟨b, 1, none⟩ = false := Lib.frozen_of_heap hbk2 1
  have hcopy : ∀ W : World, (Builtin.copy_ #[132, 132] 3 #[.slice (some ⟨w.heap.size, 0, none⟩) 0 cs.size, .slice none 0 0]).run Try.prog W = .ok (goInt 0) W :=
    fun W => run_copy_none W _ _ _ 5 _ _ 0 cs.size 0 0 Try.underlying132 Try.sizeBy rfl
  have hfin := Lib.grown_fresh (T := 134) (e := 5) (cs := cs) hB hbk hBw (hmax (by unfold maxLen; omega)) (by decide)
  clear hbk2 hlt
  go_enter Try.func96, Try.ntmps96
  go_wp2
  go_region
  all_goals (go_wp2; go_end0; exact ⟨rfl, Or.inr hfin.1, hfin.2⟩)

set_option maxHeartbeats 1000000 in
theorem Grow_c (b0 b n : Nat) (w : World) (hB : b0 ≤ b) (hbk : w.heap[b]? = some (.cells #[.pointer none, .slice none 0 0] 134 (0, 0))) (hBw : b0 ≤ w.heap.size) (hn : n ≤ 1073741824) :
    Calls Try.prog 92 #[.pointer (some ⟨b, 0, none⟩), .int .i64 n] w fun e w' => e = .returned (.tuple #[]) ∧ IsBu b0 b [] w' ∧ Below b0 w w' := by
  obtain ⟨w1, hw1⟩ : ∃ w1, w1 = w.setCell ⟨b, 0, none⟩ (.pointer (some ⟨b, 0, none⟩)) := ⟨_, rfl⟩
  have hbk1 : w1.heap[b]? = some (.cells #[.pointer (some ⟨b, 0, none⟩), .slice none 0 0] 134 (0, 0)) := by
    rw [hw1]; simp [World.setCell, Array.getElem?_modify, hbk]
  have hb1 : Below b0 w w1 := by rw [hw1]; exact (Below.refl b0 w).setCell (p := ⟨b, 0, none⟩) hB _
  have hs1 := hb1.size
  have hU : IsBu b0 b [] w1 := Or.inr ⟨hB, .slice none 0 0, hbk1, World.ownsRow_nil _ _ _ _, by simp [Value.ownBlock]⟩
  have c1 : w1.cell? ⟨b, 1, none⟩ = some (.slice none 0 0) := by rw [Lib.cell_of_heap hbk1]; rfl
  have hcc := copyCheck_fresh b w (by rw [Lib.cell_of_heap hbk]; rfl) (by simp [World.shape?, hbk]) (Lib.frozen_of_heap hbk 0)
  rw [← hw1] at hcc
  clear hw1
  go_enter Try.func92, Try.ntmps92
  go_wp2_with fail
  refine hcc.mono ?_
  rintro e w' ⟨rfl, rfl⟩
  go_wp2_with fail
  go_quiet (fail)
  go_wp2_with fail
  · refine (grow_c b0 b n _ hB (by exact hbk1) (by exact Nat.le_trans hBw hs1) hn).mono ?_
    rintro e w2 ⟨rfl, h1, h2⟩
    go_wp2
    go_end0
    exact ⟨rfl, h1, (below_drewN hb1 _).trans h2⟩
  · go_end0
    exact ⟨rfl, hU, below_drewN hb1 _⟩

/-- String of a builder that holds at least one byte. -/
theorem String_some (b0 b : Nat) (l : Bs) (w : World) (h : IsBu b0 b l w) (h0 : l ≠ []) :
    Calls Try.prog 94 #[.pointer (some ⟨b, 0, none⟩)] w fun e w' => e = .returned (.string (B l)) ∧ Below b0 w w' := by
  obtain ⟨p, hB, v, hbk, hown, hne⟩ : ∃ p, Lib.BuilderAt 134 5 b0 b p (Lib.byteCells l) w := by
    rcases h with h | h
    · exact ⟨_, h⟩
    · exact ⟨_, h⟩
  rw [Lib.byteCells_length] at hown
  have hl0 : l.length ≠ 0 := by simpa using h0
  obtain ⟨g, cap, cur, rfl, hbg, hg, hnc, hcm, hcs⟩ : ∃ g cap cur, v = .slice (some ⟨g, 0, none⟩) l.length cap ∧ b0 ≤ g ∧ w.heap[g]? = some (.cells cur 5 (0, 0)) ∧ l.length ≤ cap ∧ cap ≤ maxLen ∧ cur.size = cap * 1 := by
    rcases hown.2 with ⟨_, hz⟩ | ⟨g, cap, cur, hv, r1, r2, r3, r4, r5, _⟩
    · exact absurd hz hl0
    · exact ⟨g, cap, cur, hv, r1, r2, r3, r4, r5⟩
  have c1 : w.drew.cell? ⟨b, 1, none⟩ = some (.slice (some ⟨g, 0, none⟩) l.length cap) := by
    have : w.drew.heap[b]? = _ := hbk
    rw [Lib.cell_of_heap this]; rfl
  have hSD : (Builtin.unsafeSliceData_ #[132] 141 #[.slice (some ⟨g, 0, none⟩) l.length cap]).run Try.prog w.drew = .ok (.pointer (some ⟨g, 0, none⟩)) w.drew :=
    Lib.run_unsafeSliceData_row _ _ _ _ _ _ (by omega)
  have hUS : (Builtin.unsafeString_ #[141, 3] 9 #[.pointer (some ⟨g, 0, none⟩), .int .i64 l.length]).run Try.prog w.drew = .ok (.string (B l)) (w.drew.freeze ⟨g, 0, none⟩ l.length) := by
    refine Lib.run_unsafeString_row w.drew _ _ _ 5 Try.underlying141 Try.cellsBy g cur.size (by have hg' : w.drew.heap[g]? = _ := hg; simp [World.shape?, hg']) l h0 (by omega) (by unfold maxLen at hcm; omega) ?_
    intro j x hx
    exact hown.cells (g := g) rfl j (.int .u8 x.toNat) (by simp [Lib.byteCells, hx])
  have hfin := Lib.below_freeze (Below.drew (Below.refl b0 w)) (p := ⟨g, 0, none⟩) hbg l.length
  clear hown hg hnc hcm hcs hbk
  go_enter Try.func94, Try.ntmps94
  go_wp2
  go_region
  all_goals (go_wp2; go_ret; exact ⟨rfl, hfin⟩)

/-- strings.Join with a slash between: one part, or none. -/
theorem Join_one (bk o c : Nat) (p : Bs) (w : World) (hc : w.cell? ⟨bk, o, none⟩ = some (strV p)) :
    Calls Try.prog 91 #[.slice (some ⟨bk, o, none⟩) 1 c, .string ⟨#[47]⟩] w fun e w' => e = .returned (.string (B p)) ∧ w = w' := by
  unfold strV at hc
  go_enter Try.func91, Try.ntmps91
  go_wp2
  go_ret
  exact ⟨rfl, rfl⟩

theorem Join_none (a : Option Addr) (c : Nat) (w : World) :
    Calls Try.prog 91 #[.slice a 0 c, .string ⟨#[47]⟩] w fun e w' => e = .returned (.string (B [])) ∧ w = w' := by
  go_enter Try.func91, Try.ntmps91
  go_wp2
  go_ret
  exact ⟨rfl, rfl⟩

set_option maxHeartbeats 2000000 in
theorem Join_many (bk o c : Nat) (p : Bs) (r : List Bs) (w : World) (hc : ∀ j (h : j < (p :: r).length), w.cell? ⟨bk, o + j, none⟩ = some (strV (p :: r)[j]))
    (hbk : bk < w.heap.size) (hr : 0 < r.length) (hn : r.length ≤ 1000) (hcap : r.length + 1 ≤ c) (hlen : lens (p :: r) ≤ 500000000) :
    Calls Try.prog 91 #[.slice (some ⟨bk, o, none⟩) (r.length + 1) c, .string ⟨#[47]⟩] w fun e w' => e = .returned (.string (B (jn (p :: r)))) ∧ Below w.heap.size w w' := by
  have HC := Lib.hid hc; clear hc
  have HL := Lib.hid hlen; clear hlen
  have h0 : ((r.length : Int) + 1 == 0) = false := beq_eq_false_iff_ne.2 (by omega)
  have h1 : ((r.length : Int) + 1 == 1) = false := beq_eq_false_iff_ne.2 (by omega)
  have hdv : 1 < 9223372036854775807 / (r.length : Int) := by
    have : (2 : Int) ≤ 9223372036854775807 / (r.length : Int) := Int.le_ediv_of_mul_le (by omega) (by omega)
    omega
  go_enter Try.func91, Try.ntmps91
  go_wp2_with fail
  go_loop [5, 41] (fun n i => ∃ k : Nat, k ≤ r.length + 1 ∧ i = .int .i64 k ∧ n = .int .i64 ((r.length + lens ((p :: r).take k) : Nat) : Int)) (fun _ i => r.length + 1 - (intOf i).toNat)
  case atStart => exact ⟨0, Nat.zero_le _, rfl, by simp [lens]⟩
  case round =>
    obtain ⟨k, hk, rfl, rfl⟩ := hrel
    by_cases hkn : k < r.length + 1
    · have hc := HC.out k (by simpa using hkn)
      unfold strV at hc
      have hst := lens_take_succ (p :: r) k (by simpa using hkn)
      have hbd := Nat.le_trans (lens_take_le (p :: r) (k + 1)) HL.out
      generalize hA1 : lens ((p :: r).take (k + 1)) = A1 at hst hbd
      have HA := Lib.hid hA1; clear hA1
      generalize lens ((p :: r).take k) = A0 at hst
      generalize hq : (p :: r)[k]'(by simpa using hkn) = q at hc hst
      clear hq
      have HS := Lib.hid hst; clear hst
      have hb' : q.length ≤ 500000000 ∧ A0 ≤ 500000000 := by have := HS.out; omega
      obtain ⟨hb1, hb2⟩ := hb'
      go_wp2
      go_round
      case rel => exact ⟨k + 1, by omega, by go_num, by rw [HA.out]; have := HS.out; exact congrArg _ (by omega)⟩
      case measure => simp [intOf]; omega
    · have hke : k = r.length + 1 := by omega
      subst hke
      rw [show (p :: r).take (r.length + 1) = p :: r from List.take_of_length_le (by simp)]
      have hT := HL.out
      have hfl : (jn (p :: r)).length = r.length + lens (p :: r) := by show (p ++ flat r).length = _; rw [List.length_append, flat_len]; simp [lens]; omega
      have HF := Lib.hid hfl; clear hfl
      generalize hT' : lens (p :: r) = T at hT HF
      clear hT'
      go_wp2_with fail
      rw [show ((r.length : Int) + (T : Int)) = ((r.length + T : Nat) : Int) from by omega]
      refine (Grow_c w.heap.size w.heap.size (r.length + T) _ (Nat.le_refl _) (heap_alloc_new w _) (by simp) (by omega)).mono ?_
      rintro e w1 ⟨rfl, h1, hb1⟩
      have hb1' : Below w.heap.size w w1 := ((Below.refl w.heap.size w).alloc (Nat.le_refl _) _).trans hb1
      have hc0 : w1.cell? ⟨bk, o, none⟩ = some (.string (B p)) := by
        rw [hb1'.cell (p := ⟨bk, o, none⟩) hbk]; exact HC.out 0 (by simp)
      clear hb1
      have hs1 := hb1'.size
      go_wp2_with fail
      refine (WriteString_c w.heap.size w.heap.size [] p w1 h1 (by have := HF.out; have e : (jn (p :: r)).length = p.length + (flat r).length := List.length_append; simp; omega) hs1).mono ?_
      rintro e w2 ⟨rfl, h2, hb2⟩
      have hb2' := hb1'.trans hb2
      clear hb2 h1 hc0
      go_wp2_with fail
      go_loopw [65] (fun i wr => ∃ k : Nat, k ≤ r.length ∧ i = .int .i64 k ∧ Hid (IsBu w.heap.size w.heap.size (p ++ flat (r.take k)) wr) ∧ Below w.heap.size w wr) (fun i _ => r.length - (intOf i).toNat)
      case atStart => exact ⟨0, Nat.zero_le _, rfl, by simpa [flat, Hid] using h2, hb2'⟩
      case round =>
        obtain ⟨k, hk', rfl, HB, hW⟩ := hrel
        by_cases hkr : k < r.length
        · have hcy : wr.cell? ⟨bk, o + 1 + k, none⟩ = some (.string (B r[k])) := by
            rw [hW.cell (p := ⟨bk, o + 1 + k, none⟩) hbk, show o + 1 + k = o + (k + 1) by omega]
            exact HC.out (k + 1) (by simpa using hkr)
          have hsw := hW.size
          have hst := flat_take_succ r k hkr
          have hln : (p ++ flat (r.take k)).length + 1 + (r[k]).length ≤ r.length + T := by
            have e1 : (jn (p :: r)).length = p.length + (flat r).length := List.length_append
            have e2 := HF.out
            have e3 := congrArg List.length hst
            have e4 := flat_len (r.take (k + 1))
            have e5 := flat_len r
            have e6 := lens_take_le r (k + 1)
            have e7 : (r.take (k + 1)).length ≤ r.length := by rw [List.length_take]; omega
            simp only [List.length_append, List.length_cons, List.length_nil] at e3 ⊢
            omega
          have HS := Lib.hid hst; clear hst
          generalize hq : r[k] = q at hcy hln HS
          clear hq
          generalize hJ : p ++ flat (r.take k) = J at HB hln
          have HJ := Lib.hid hJ; clear hJ
          go_wp2_with fail
          refine (WriteString_c w.heap.size w.heap.size J [47] wr HB.out (by simp; omega) hsw).mono ?_
          rintro e w3 ⟨rfl, h3, hb3⟩
          have hb3' := hW.trans hb3
          have hs3 := hb3'.size
          clear hb3
          go_wp2_with fail
          refine (WriteString_c w.heap.size w.heap.size (J ++ [47]) q w3 h3 (by simp; omega) hs3).mono ?_
          rintro e w4 ⟨rfl, h4, hb4⟩
          have hb4' := hb3'.trans hb4
          clear hb4
          have H4 := Lib.hid h4; clear h4 h3
          go_wp2
          go_roundw
          case rel => exact ⟨k + 1, by omega, by go_num, by have := H4.out; rw [← HJ.out] at this; rw [HS.out]; simpa [List.append_assoc, Hid] using this, hb4'⟩
          case measure => simp [intOf]; omega
        · have hke : k = r.length := by omega
          subst hke
          have hsw := hW.size
          have hB' := HB.out
          rw [List.take_length] at hB'
          go_wp2_with fail
          refine (String_some w.heap.size w.heap.size (jn (p :: r)) wr hB' (fun h => by have := HF.out; rw [h] at this; simp at this; omega)).mono ?_
          rintro e w5 ⟨rfl, hb5⟩
          have hb5' := hW.trans hb5
          clear hb5 hB'
          go_wp2
          go_ret
          exact ⟨rfl, hb5'⟩

end Go.Proofs.Ytdfnfkknbjageaa

/- Plain lists: what a path is made of, both ways. -/
namespace Go.Proofs.Ytdfnfkknbjageaa
set_option maxRecDepth 20000
namespace Pm

theorem pl_take : ∀ (k : Nat) (l : Bs), pl k (l.take (pl k l)) = pl k l
  | 0, l => by simp [pl]
  | k + 1, [] => by simp [pl]
  | k + 1, c :: r => by
    by_cases h : okB c = true
    · simp [pl, h, pl_take k r]
    · simp [pl, h]

theorem pl_app : ∀ (k : Nat) (p r : Bs), pl k p = p.length → (r = [] ∨ ∃ t, r = 47 :: t) → pl k (p ++ r) = p.length
  | 0, [], r, _, _ => by simp [pl]
  | 0, c :: p, r, h, _ => by simp [pl] at h
  | k + 1, [], r, _, h => by
    rcases h with rfl | ⟨t, rfl⟩
    · simp [pl]
    · simp [pl, show okB 47 = false from by decide]
  | k + 1, c :: p, r, h, hr => by
    by_cases hc : okB c = true
    · simp [pl, hc] at h ⊢
      exact pl_app k p r h hr
    · simp [pl, hc] at h

theorem isPart_iff (p : Bs) : isPart p = true ↔ p ≠ [] ∧ pl 12 p = p.length := by
  unfold isPart; cases p <;> simp

theorem isPart_len {p : Bs} (h : isPart p = true) : 1 ≤ p.length ∧ p.length ≤ 12 := by
  rw [isPart_iff] at h
  have := pl_le 12 p
  cases p with
  | nil => exact absurd rfl h.1
  | cons c r => simp at h ⊢; omega

theorem flat_head (r : List Bs) : flat r = [] ∨ ∃ t, flat r = 47 :: t := by
  cases r with
  | nil => exact Or.inl rfl
  | cons p r => exact Or.inr ⟨_, flat_cons p r⟩

theorem flat_eq_nil {r : List Bs} (h : flat r = []) : r = [] := by
  cases r with
  | nil => rfl
  | cons p r => rw [flat_cons] at h; cases h

theorem cut_flat (p : Bs) (r : List Bs) (h : isPart p = true) : cut (flat (p :: r)) = (p, flat r) := by
  rw [isPart_iff] at h
  rw [flat_cons]
  have e := pl_app 12 p (flat r) h.2 (flat_head r)
  simp [cut, e]

theorem cut_made {l : Bs} (h : (cut l).1 ≠ []) : isPart (cut l).1 = true ∧ l = 47 :: ((cut l).1 ++ (cut l).2) := by
  rw [isPart_iff]
  cases l with
  | nil => exact absurd rfl h
  | cons c r =>
    by_cases hc : c = 47
    · subst hc
      simp [cut] at h ⊢
      refine ⟨h, ?_⟩
      rw [pl_take]
      have := pl_len 12 r
      omega
    · simp [cut, hc] at h

def Parts (ps : List Bs) : Prop := ps.length ≤ 6 ∧ ∀ p ∈ ps, isPart p = true

theorem splitN_made : ∀ (n : Nat) (l : Bs) (ps : List Bs), splitN n l = some ps → ps ≠ [] ∧ ps.length ≤ n ∧ (∀ p ∈ ps, isPart p = true) ∧ flat ps = l
  | 0, l, ps, h => by simp [splitN] at h
  | n + 1, l, ps, h => by
    unfold splitN at h
    by_cases h1 : (cut l).1 = []
    · simp [h1] at h
    · have hm := cut_made h1
      rw [if_neg h1] at h
      by_cases h2 : (cut l).2 = []
      · rw [if_pos h2] at h
        injection h with h; subst h
        refine ⟨by simp, by simp, ?_, ?_⟩
        · intro p hp; simp at hp; subst hp; exact hm.1
        · rw [flat_cons, flat_nil]; rw [h2] at hm; exact hm.2.symm
      · rw [if_neg h2] at h
        cases hr : splitN n (cut l).2 with
        | none => simp [hr] at h
        | some qs =>
          simp [hr] at h; subst h
          have ih := splitN_made n _ _ hr
          refine ⟨by simp, by simpa using ih.2.1, ?_, ?_⟩
          · intro p hp; simp at hp
            rcases hp with rfl | hp
            · exact hm.1
            · exact ih.2.2.1 p hp
          · rw [flat_cons, ih.2.2.2]; exact hm.2.symm

theorem splitN_flat : ∀ (n : Nat) (ps : List Bs), ps ≠ [] → ps.length ≤ n → (∀ p ∈ ps, isPart p = true) → splitN n (flat ps) = some ps
  | _, [], h, _, _ => absurd rfl h
  | 0, p :: r, _, h, _ => by simp at h
  | n + 1, p :: r, _, hl, hp => by
    have hc := cut_flat p r (hp p (by simp))
    have hp0 := (isPart_iff p).1 (hp p (by simp))
    unfold splitN
    rw [hc]
    simp only
    rw [if_neg hp0.1]
    by_cases hr : r = []
    · subst hr; rw [if_pos flat_nil]
    · rw [if_neg (fun h => hr (flat_eq_nil h)), splitN_flat n r hr (by simpa using hl) (fun q hq => hp q (by simp [hq]))]
      rfl

theorem split_iff (l : Bs) (ps : List Bs) : split l = some ps ↔ Parts ps ∧ joinP ps = l := by
  unfold split Parts
  by_cases hl : l = [47]
  · subst hl
    rw [if_pos rfl]
    constructor
    · intro h; injection h with h; subst h; exact ⟨⟨by simp, by simp⟩, rfl⟩
    · rintro ⟨⟨_, hp⟩, hj⟩
      cases ps with
      | nil => rfl
      | cons p r =>
        have := (isPart_len (hp p (by simp))).1
        rw [joinP_cons, flat_cons] at hj
        simp at hj
        rw [hj.1] at this; simp at this
  · rw [if_neg hl]
    constructor
    · intro h
      have := splitN_made 6 l ps h
      refine ⟨⟨this.2.1, this.2.2.1⟩, ?_⟩
      cases ps with
      | nil => exact absurd rfl this.1
      | cons p r => rw [joinP_cons]; exact this.2.2.2
    · rintro ⟨⟨hn, hp⟩, rfl⟩
      cases ps with
      | nil => exact absurd rfl hl
      | cons p r => rw [joinP_cons]; exact splitN_flat 6 _ (by simp) hn hp

theorem split_join {ps : List Bs} (h : Parts ps) : split (joinP ps) = some ps := (split_iff _ _).2 ⟨h, rfl⟩
theorem Parts.lens {ps : List Bs} (h : Parts ps) : Pm.lens ps ≤ 72 := by
  obtain ⟨hn, hp⟩ := h
  have key : ∀ (qs : List Bs), (∀ p ∈ qs, isPart p = true) → Pm.lens qs ≤ 12 * qs.length := by
    intro qs
    induction qs with
    | nil => intro _; simp [Pm.lens]
    | cons q r ih =>
      intro h
      have h1 := (isPart_len (h q (by simp))).2
      have h2 := ih (fun p hp => h p (by simp [hp]))
      simp [Pm.lens] at h2 ⊢; omega
  have := key ps hp
  omega

/- The functions of package path, on lists. -/
def parent (l : Bs) : Option Bs := match split l with
  | some (p :: r) => some (joinP (p :: r).dropLast)
  | _ => none
def last (l : Bs) : Bs := match split l with
  | some (p :: r) => (p :: r).getLast (by simp)
  | _ => []
def join (l q : Bs) : Option Bs := match split l with
  | some ps => if isPart q = true ∧ ps.length < 6 then some (joinP (ps ++ [q])) else none
  | none => none
def inB (l q : Bs) : Bool := match split l, split q with
  | some a, some b => b.isPrefixOf a
  | _, _ => false
def dig (n : Nat) : Bs := [UInt8.ofNat (48 + n / 1000), UInt8.ofNat (48 + n / 100 % 10), UInt8.ofNat (48 + n / 10 % 10), UInt8.ofNat (48 + n % 10)]
def numbered (p : Bs) (n : Int) : Option Bs := if 0 ≤ n ∧ n ≤ 9999 ∧ isPart (p ++ dig n.toNat) = true then some (p ++ dig n.toNat) else none

end Pm
end Go.Proofs.Ytdfnfkknbjageaa

/- The functions of package path: contracts over plain lists. -/
namespace Go.Proofs.Ytdfnfkknbjageaa
set_option maxRecDepth 20000
open Go.RowKit Pm

/-- A slice of strings whose cells lie at a block's head. -/
structure Lies (w : World) (g cap : Nat) (ps : List Bs) : Prop where
  lt : g < w.heap.size
  room : ps.length ≤ cap
  most : cap ≤ maxLen
  cell : ∀ j (h : j < ps.length), w.cell? ⟨g, j, none⟩ = some (strV ps[j])

theorem Own.lies {b0 : Nat} {w : World} {v : Value} {p : Bs} {r : List Bs} (h : Own b0 w v (p :: r)) :
    ∃ g cap, v = .slice (some ⟨g, 0, none⟩) (r.length + 1) cap ∧ b0 ≤ g ∧ Lies w g cap (p :: r) := by
  obtain ⟨ho, _⟩ := h
  rcases ho.2 with ⟨_, h0⟩ | ⟨g, cap, cur, rfl, hb, hg, hc, hm, hs, ht⟩
  · simp at h0
  · refine ⟨g, cap, rfl, hb, (Array.getElem?_eq_some_iff.1 hg).1, hc, hm, fun j hj => ?_⟩
    have := ho.cellAt j (by simpa using hj)
    rw [this, List.getElem?_map, List.getElem?_eq_getElem hj]
    rfl

theorem Own.shape {b0 : Nat} {w : World} {v : Value} {ps : List Bs} (h : Own b0 w v ps) : ∃ ao cap, v = .slice ao ps.length cap := by
  cases ps with
  | nil => exact ⟨none, 0, h.2 rfl⟩
  | cons p r => obtain ⟨g, cap, rfl, _⟩ := h.lies; exact ⟨_, _, rfl⟩

theorem Lies.below {w w' : World} {g cap : Nat} {ps : List Bs} (h : Lies w g cap ps) {b0 : Nat} (hb : Below b0 w w') (hg : g < b0) : Lies w' g cap ps :=
  ⟨Nat.lt_of_lt_of_le h.lt hb.size, h.room, h.most, fun j hj => by rw [hb.cell (p := ⟨g, j, none⟩) hg]; exact h.cell j hj⟩

theorem Lies.take {w : World} {g cap : Nat} {ps : List Bs} (h : Lies w g cap ps) (k : Nat) : Lies w g cap (ps.take k) :=
  ⟨h.lt, by have := h.room; rw [List.length_take]; omega, h.most, fun j hj => by
    rw [List.getElem_take]; exact h.cell j (by rw [List.length_take] at hj; omega)⟩

theorem Join_c (g cap : Nat) (ps : List Bs) (w : World) (h : Lies w g cap ps) (hn : ps.length ≤ 1000) (hl : lens ps ≤ 500000000) :
    Calls Try.prog 91 #[.slice (some ⟨g, 0, none⟩) ps.length cap, .string ⟨#[47]⟩] w fun e w' => e = .returned (.string (B (jn ps))) ∧ Below w.heap.size w w' := by
  match ps, h, hn, hl with
  | [], _, _, _ => exact (Join_none _ cap w).mono fun e w' ⟨he, hw⟩ => ⟨he, hw ▸ Below.refl _ _⟩
  | [p], h, _, _ =>
    refine (Join_one g 0 cap p w (h.cell 0 (by simp))).mono fun e w' ⟨he, hw⟩ => ⟨?_, hw ▸ Below.refl _ _⟩
    rw [he]; simp [jn, flat]
  | p :: q :: r, h, hn, hl =>
    exact Join_many g 0 cap p (q :: r) w (fun j hj => by simpa using h.cell j hj) h.lt (by simp) (by simp at hn ⊢; omega) (by have := h.room; simpa using this) hl

set_option maxHeartbeats 400000 in
theorem whole_c (g cap : Nat) (ps : List Bs) (w : World) (h : Lies w g cap ps) (hn : ps.length ≤ 1000) (hl : lens ps ≤ 500000000) :
    Calls Try.prog 89 #[.slice (some ⟨g, 0, none⟩) ps.length cap] w fun e w' => e = .returned (.string (B (joinP ps))) ∧ Below w.heap.size w w' := by
  have hjl : (jn ps).length ≤ 600000000 := by
    cases ps with
    | nil => simp [jn]
    | cons p r => have := flat_len r; simp [jn, lens] at hl hn this ⊢; omega
  go_enter Try.func89, Try.ntmps89
  go_wp2_with fail
  refine (Join_c g cap ps w h hn hl).mono ?_
  rintro e w1 ⟨rfl, hb⟩
  go_wp2
  go_ret
  refine ⟨?_, hb⟩
  rfl

set_option maxHeartbeats 400000 in
theorem Right_c (l : Bs) (w : World) (hl : l.length ≤ 4611686018427387904) :
    Calls Try.prog 50 #[.string (B l)] w fun e w' => e = .returned (.bool (split l).isSome) ∧ Below w.heap.size w w' := by
  go_enter Try.func50, Try.ntmps50
  go_wp2_with fail
  refine (Split_c l w hl).mono ?_
  rintro e w1 ⟨v, rfl, _, hb⟩
  go_wp2
  go_ret
  exact ⟨rfl, hb⟩

set_option maxHeartbeats 400000 in
theorem Parent_c (l : Bs) (w : World) (hl : l.length ≤ 4611686018427387904) :
    Calls Try.prog 86 #[.string (B l)] w fun e w' => e = .returned (.tuple #[.string (B ((parent l).getD [])), .bool (parent l).isSome]) ∧ Below w.heap.size w w' := by
  cases hs : split l with
  | none =>
    have hp : parent l = none := by unfold parent; rw [hs]
    rw [hp]
    have HS := Lib.hid hs; clear hs hp
    go_enter Try.func86, Try.ntmps86
    go_wp2_with fail
    refine (Split_c l w hl).mono ?_
    rintro e w1 ⟨v, rfl, hown, hb⟩
    rw [HS.out] at hown ⊢
    go_wp2
    go_ret2
    exact ⟨rfl, hb⟩
  | some ps =>
    cases ps with
    | nil =>
      have hp : parent l = none := by unfold parent; rw [hs]
      rw [hp]
      have HS := Lib.hid hs; clear hs hp
      go_enter Try.func86, Try.ntmps86
      go_wp2_with fail
      refine (Split_c l w hl).mono ?_
      rintro e w1 ⟨v, rfl, hown, hb⟩
      rw [HS.out] at hown ⊢
      obtain rfl := hown.2 rfl
      go_wp2
      go_ret2
      exact ⟨rfl, hb⟩
    | cons p r =>
      have hp : parent l = some (joinP (p :: r).dropLast) := by unfold parent; rw [hs]
      have hP := ((split_iff _ _).1 hs).1
      rw [hp]
      have HS := Lib.hid hs; clear hs hp
      go_enter Try.func86, Try.ntmps86
      go_wp2_with fail
      refine (Split_c l w hl).mono ?_
      rintro e w1 ⟨v, rfl, hown, hb⟩
      rw [HS.out] at hown ⊢
      obtain ⟨g, cap, rfl, hg, hlies⟩ := hown.lies
      have h6 := hP.1
      have hc1 := hlies.room
      have hc2 := hlies.most
      unfold maxLen at hc2
      simp only [List.length_cons] at hc1 h6
      have hd : (p :: r).dropLast = (p :: r).take r.length := by rw [List.dropLast_eq_take]; simp
      have hlen : ((p :: r).take r.length).length = r.length := by simp
      have hln := hP.lens
      have hw := whole_c g cap ((p :: r).take r.length) w1 (hlies.take _) (by omega) (Nat.le_trans (lens_take_le _ _) (by omega))
      rw [hlen, ← hd] at hw
      have HW := Lib.hid hw; clear hw hlen hd hln hlies
      go_wp2_with fail
      refine HW.out.mono ?_
      rintro e w2 ⟨rfl, hb2⟩
      have hb2' := hb.trans (hb2.mono hb.size)
      clear hb2
      go_wp2
      go_ret2
      exact ⟨rfl, hb2'⟩

end Go.Proofs.Ytdfnfkknbjageaa

/- path.In and path.Numbered. -/
namespace Go.Proofs.Ytdfnfkknbjageaa
set_option maxRecDepth 20000
open Go.RowKit Pm

theorem prefix_take (a b : List Bs) : decide ((b.map B) = (a.map B).take b.length) = b.isPrefixOf a := by
  rw [Bool.eq_iff_iff, List.isPrefixOf_iff_prefix]
  simp only [decide_eq_true_eq]
  rw [← List.map_take, List.map_inj_right (fun x y h => B_inj h), List.prefix_iff_eq_take]

theorem Equal_c (g1 c1 g2 c2 : Nat) (b a : List Bs) (w : World) (h1 : Lies w g1 c1 b) (h2 : Lies w g2 c2 a) (h : b.length ≤ a.length) :
    Calls Try.prog 72 #[.slice (some ⟨g1, 0, none⟩) b.length c1, .slice (some ⟨g2, 0, none⟩) b.length c2] w fun e w' => e = .returned (.bool (b.isPrefixOf a)) ∧ Dr w w' := by
  have hm1 := h1.most; have hr1 := h1.room; unfold maxLen at hm1
  refine (Try.slices_Equal_string g1 0 b.length c1 g2 0 b.length c2 (b.map B) (a.map B) w (by simp) (by simpa using h) (by omega) (by omega) ?_ ?_).mono ?_
  · intro j hj
    simp at hj
    rw [Nat.zero_add, h1.cell j hj]; simp [hj, strV]
  · intro j hj
    simp at hj
    rw [Nat.zero_add, h2.cell j hj]; simp [hj, strV]
  · rintro e w' ⟨rfl, q, rfl⟩
    refine ⟨?_, Dr.of _ _⟩
    rw [← prefix_take a b, show List.take b.length (b.map B) = b.map B from List.take_of_length_le (by simp)]

set_option maxHeartbeats 1000000 in
theorem In_c (l q : Bs) (w : World) (hl : l.length ≤ 4611686018427387904) (hq : q.length ≤ 4611686018427387904) :
    Calls Try.prog 56 #[.string (B l), .string (B q)] w fun e w' => e = .returned (.bool (inB l q)) ∧ Below w.heap.size w w' := by
  cases hs : split l with
  | none =>
    have hp : inB l q = false := by unfold inB; rw [hs]
    rw [hp]
    have HS := Lib.hid hs; clear hs hp
    go_enter Try.func56, Try.ntmps56
    go_wp2_with fail
    refine (Split_c l w hl).mono ?_
    rintro e w1 ⟨v, rfl, hown, hb⟩
    rw [HS.out]
    go_wp2
    go_ret
    exact ⟨rfl, hb⟩
  | some a =>
    cases ht : split q with
    | none =>
      have hp : inB l q = false := by unfold inB; rw [hs, ht]
      rw [hp]
      have HS := Lib.hid hs; clear hs hp
      have HT := Lib.hid ht; clear ht
      go_enter Try.func56, Try.ntmps56
      go_wp2_with fail
      refine (Split_c l w hl).mono ?_
      rintro e w1 ⟨v, rfl, hown, hb⟩
      rw [HS.out]
      go_wp2_with fail
      refine (Split_c q w1 hq).mono ?_
      rintro e w2 ⟨v2, rfl, hown2, hb2⟩
      rw [HT.out]
      have hb2' := hb.trans (hb2.mono hb.size)
      clear hb2
      go_wp2
      go_ret
      exact ⟨rfl, hb2'⟩
    | some b =>
      have hp : inB l q = b.isPrefixOf a := by unfold inB; rw [hs, ht]
      rw [hp]
      have hP := ((split_iff _ _).1 hs).1
      have hQ := ((split_iff _ _).1 ht).1
      have h6 := hP.1
      have h6' := hQ.1
      have HS := Lib.hid hs; clear hs hp hP hQ
      have HT := Lib.hid ht; clear ht
      go_enter Try.func56, Try.ntmps56
      go_wp2_with fail
      refine (Split_c l w hl).mono ?_
      rintro e w1 ⟨v, rfl, hown, hb⟩
      rw [HS.out] at hown ⊢
      have hown : Own w.heap.size w1 v a := hown
      go_wp2_with fail
      refine (Split_c q w1 hq).mono ?_
      rintro e w2 ⟨v2, rfl, hown2, hb2⟩
      rw [HT.out] at hown2 ⊢
      have hown2 : Own w1.heap.size w2 v2 b := hown2
      have hb2' := hb.trans (hb2.mono hb.size)
      by_cases hlt : a.length < b.length
      · obtain ⟨ao, cap, hv⟩ := hown.shape
        obtain ⟨ao2, cap2, hv2⟩ := hown2.shape
        have hpre : b.isPrefixOf a = false := by
          cases hh : b.isPrefixOf a with
          | false => rfl
          | true => rw [List.isPrefixOf_iff_prefix] at hh; have := hh.length_le; omega
        have HP := Lib.hid hpre; clear hpre
        subst hv hv2
        clear hown hown2 hb2
        go_wp2
        go_ret
        exact ⟨ret_bool HP.out.symm, hb2'⟩
      · by_cases hb0 : b = []
        · subst hb0
          obtain rfl := hown2.2 rfl
          obtain ⟨ao, cap, rfl⟩ := hown.shape
          clear hown hown2 hb2
          go_wp2_with fail
          all_goals (
            refine (Try.slices_Equal_string_empty _ _ _ 0 _ w2 (by omega)).mono ?_
            rintro e w3 ⟨rfl, rfl⟩
            go_wp2
            go_ret
            exact ⟨ret_bool rfl, hb2'⟩)
        · obtain ⟨p, r, rfl⟩ : ∃ p r, b = p :: r := by cases b with | nil => exact absurd rfl hb0 | cons p r => exact ⟨p, r, rfl⟩
          obtain ⟨p', r', rfl⟩ : ∃ p r, a = p :: r := by cases a with | nil => simp at hlt | cons p r => exact ⟨p, r, rfl⟩
          obtain ⟨g, c, hv, hg, hli⟩ := hown.lies
          obtain ⟨g2, c2, hv2, hg2, hli2⟩ := hown2.lies
          have hE := Lib.hid (Equal_c g2 c2 g c (p :: r) (p' :: r') w2 hli2 (hli.below hb2 hli.lt) (by omega))
          have hc1 := hli.room
          have hm1 := hli.most
          unfold maxLen at hm1
          subst hv hv2
          clear hown hown2 hb2 hli hli2
          simp only [List.length_cons] at h6 h6' hlt hc1
          go_wp2_with fail
          refine hE.out.mono ?_
          rintro e w3 ⟨rfl, hd⟩
          have hb3 := hb2'.trans (hd.below _)
          clear hd
          go_wp2
          go_ret
          exact ⟨rfl, hb3⟩

end Go.Proofs.Ytdfnfkknbjageaa

/- Plain lists: what the laws of layer 1 say. -/
namespace Go.Proofs.Ytdfnfkknbjageaa
set_option maxRecDepth 20000
namespace Pm

theorem Parts.init {p : Bs} {r : List Bs} (h : Parts (p :: r)) : Parts (p :: r).dropLast := by
  obtain ⟨h1, h2⟩ := h
  refine ⟨by simp at h1 ⊢; omega, fun q hq => h2 q (List.dropLast_subset _ hq)⟩
theorem Parts.snoc {ps : List Bs} {q : Bs} (h : Parts ps) (hn : ps.length < 6) (hq : isPart q = true) : Parts (ps ++ [q]) := by
  obtain ⟨h1, h2⟩ := h
  refine ⟨by simp; omega, fun x hx => ?_⟩
  rw [List.mem_append] at hx
  rcases hx with hx | hx
  · exact h2 x hx
  · simp at hx; subst hx; exact hq

theorem joinP_len {ps : List Bs} (h : Parts ps) : (joinP ps).length ≤ 100 := by
  have h1 := h.1
  have h2 := h.lens
  cases ps with
  | nil => simp [joinP, jn]
  | cons p r => rw [joinP_cons, flat_len]; omega

theorem parent_some {l a : Bs} (h : parent l = some a) :
    ∃ ps, split l = some ps ∧ join a (last l) = some l ∧ a.length ≤ 100 ∧ (last l).length ≤ 100 ∧ l.length ≤ 100 ∧ inB l a = true ∧ inB a l = false := by
  unfold parent at h
  split at h
  · rename_i p r hs
    injection h with h; subst h
    have hP := ((split_iff _ _).1 hs)
    have hI := hP.1.init
    have hl : last l = (p :: r).getLast (by simp) := by unfold last; rw [hs]
    have hq : isPart ((p :: r).getLast (by simp)) = true := hP.1.2 _ (List.getLast_mem _)
    have hlt : (p :: r).dropLast.length < 6 := by have := hP.1.1; simp at this ⊢; omega
    refine ⟨p :: r, hs, ?_, joinP_len hI, ?_, ?_, ?_, ?_⟩
    · rw [hl]; unfold join
      rw [split_join hI]
      simp only
      rw [if_pos ⟨hq, hlt⟩, List.dropLast_concat_getLast, hP.2]
    · rw [hl]; have := (isPart_len hq).2; omega
    · rw [← hP.2]; exact joinP_len hP.1
    · unfold inB; rw [hs, split_join hI]
      simp only [List.isPrefixOf_iff_prefix]
      exact List.dropLast_prefix _
    · unfold inB; rw [hs, split_join hI]
      simp only
      rw [← Bool.not_eq_true, List.isPrefixOf_iff_prefix]
      intro hh; have := hh.length_le; simp at this; omega
  · cases h

theorem parent_none {l : Bs} (h : parent l = none) : (split l).isSome = (l == [47]) ∧ last l = [] := by
  unfold parent at h
  split at h
  · cases h
  · rename_i hx
    cases hs : split l with
    | none =>
      refine ⟨?_, by unfold last; rw [hs]⟩
      have : l ≠ [47] := by rintro rfl; cases hs
      simpa using this
    | some ps =>
      cases ps with
      | nil =>
        have := ((split_iff _ _).1 hs).2
        refine ⟨?_, by unfold last; rw [hs]⟩
        rw [← this]; rfl
      | cons p r => exact absurd hs (hx p r)

theorem join_some {l q c : Bs} (h : join l q = some c) : ∃ cs, split c = some cs ∧ parent c = some l ∧ last c = q ∧ c.length ≤ 100 := by
  unfold join at h
  split at h
  · rename_i ps hs
    split at h
    · rename_i hc
      injection h with h; subst h
      have hP := (split_iff _ _).1 hs
      have hS := hP.1.snoc hc.2 hc.1
      have h1 := split_join hS
      refine ⟨_, h1, ?_, ?_, joinP_len hS⟩
      · unfold parent; rw [h1]
        cases hh : ps ++ [q] with
        | nil => simp at hh
        | cons a b => simp only; rw [← hh]; simp [hP.2]
      · unfold last; rw [h1]
        cases hh : ps ++ [q] with
        | nil => simp at hh
        | cons a b => simp only [← hh]; simp
    · cases h
  · cases h

theorem in_refl {p : Bs} {ps : List Bs} (h : split p = some ps) : inB p p = true := by
  unfold inB; rw [h]; simp only [List.isPrefixOf_iff_prefix]; exact List.prefix_refl _
theorem in_root {p : Bs} {ps : List Bs} (h : split p = some ps) : inB p [47] = true := by
  unfold inB; rw [h, show split [47] = some [] from rfl]; simp only [List.isPrefixOf_iff_prefix]; exact List.nil_prefix
theorem in_some {p q : Bs} (h : inB p q = true) : ∃ a b, split p = some a ∧ split q = some b ∧ b <+: a := by
  unfold inB at h
  cases hp : split p with
  | none => simp [hp] at h
  | some a =>
    cases hq : split q with
    | none => simp [hp, hq] at h
    | some b => rw [hp, hq] at h; exact ⟨a, b, rfl, rfl, List.isPrefixOf_iff_prefix.1 h⟩
theorem in_of {p q : Bs} {a b : List Bs} (h1 : split p = some a) (h2 : split q = some b) (h : b <+: a) : inB p q = true := by
  unfold inB; rw [h1, h2]; exact List.isPrefixOf_iff_prefix.2 h
theorem in_trans {p q s : Bs} (h : inB p q = true) (k : inB q s = true) : inB p s = true := by
  obtain ⟨a, b, h1, h2, h3⟩ := in_some h
  obtain ⟨b', c, k1, k2, k3⟩ := in_some k
  rw [h2] at k1; injection k1 with k1; subst k1
  exact in_of h1 k2 (k3.trans h3)
theorem in_anti {p q : Bs} (h : inB p q = true) (k : inB q p = true) : p = q := by
  obtain ⟨a, b, h1, h2, h3⟩ := in_some h
  obtain ⟨b', a', k1, k2, k3⟩ := in_some k
  rw [h2] at k1; injection k1 with k1; subst k1
  rw [h1] at k2; injection k2 with k2; subst k2
  have e : b = a := h3.eq_of_length (Nat.le_antisymm h3.length_le k3.length_le)
  rw [← ((split_iff _ _).1 h1).2, ← ((split_iff _ _).1 h2).2, e]

theorem Parts.take {ps : List Bs} (h : Parts ps) (k : Nat) : Parts (ps.take k) :=
  ⟨by have := h.1; rw [List.length_take]; omega, fun p hp => h.2 p (List.mem_of_mem_take hp)⟩
theorem pl_all : ∀ (k : Nat) (d : Bs), (∀ c ∈ d, okB c = true) → pl k d = min k d.length
  | 0, d, _ => by simp [pl]
  | k + 1, [], _ => by simp [pl]
  | k + 1, c :: d, h => by
    have := pl_all k d (fun x hx => h x (by simp [hx]))
    simp [pl, h c (by simp), this]
end Pm
end Go.Proofs.Ytdfnfkknbjageaa

/- Package path's functions, as later layers use them. -/
namespace Go.Proofs.Ytdfnfkknbjageaa
set_option maxRecDepth 20000
open Go.RowKit Pm

/-- The call has made memory, and written to nothing that was there. -/
def Gr (w w' : World) : Prop := Below w.heap.size w w'
theorem Gr.refl (w : World) : Gr w w := Below.refl _ _
theorem Gr.trans {a b c : World} (h : Gr a b) (k : Gr b c) : Gr a c := Below.trans h (Below.mono k h.size)
theorem Gr.drew {a b : World} (h : Gr a b) (n : Nat) : Gr a (b.drewN n) := below_drewN h n

def sz (l : Bs) : Prop := l.length ≤ 4611686018427387904
theorem sz_of {l : Bs} {k : Nat} (h : l.length ≤ k) (hk : k ≤ 4611686018427387904) : sz l := Nat.le_trans h hk

theorem Parent_g (l : Bs) (w : World) (hl : sz l) : Calls Try.prog 86 #[.string (B l)] w fun e w' => e = .returned (.tuple #[.string (B ((parent l).getD [])), .bool (parent l).isSome]) ∧ Gr w w' := Parent_c l w hl
theorem Right_g (l : Bs) (w : World) (hl : sz l) : Calls Try.prog 50 #[.string (B l)] w fun e w' => e = .returned (.bool (split l).isSome) ∧ Gr w w' := Right_c l w hl
theorem Own.cells {b0 : Nat} {w : World} {ao : Option Addr} {n cap : Nat} {ps : List Bs} (h : Own b0 w (.slice ao n cap) ps) :
    ∀ (w3 : World), Gr w w3 → ∀ k (hk : k < ps.length), ∃ g, ao = some ⟨g, 0, none⟩ ∧ w3.cell? ⟨g, k, none⟩ = some (.string (B ps[k])) := by
  intro w3 g3 k hk
  match ps, h, hk with
  | q :: r, h, hk =>
    obtain ⟨g, c, hv, _, hl⟩ := h.lies
    injection hv with hv _ _
    refine ⟨g, hv, ?_⟩
    rw [Below.cell g3 (p := ⟨g, k, none⟩) hl.lt]
    exact hl.cell k hk



end Go.Proofs.Ytdfnfkknbjageaa

/- Plain lists: nodes, trees of them, operations and their results. Nothing of the program. -/
namespace Go.Proofs.Ytdfnfkknbjageaa
set_option maxRecDepth 20000
namespace Pm

structure Nd where
  path : Bs
  data : Bs
  ver : Int
  turn : Int
  own : Int
deriving DecidableEq

structure Opn where
  kind : Int
  path : Bs
  data : Bs
  ver : Int
  own : Int
  turns : Bool
deriving DecidableEq

structure Res where
  err : Int
  path : Bs
  data : Bs
  ver : Int
  names : List Bs
deriving DecidableEq

def Res.bad (e : Int) : Res := ⟨e, [], [], 0, []⟩

/-- The order of texts. -/
abbrev lt (a b : Bs) : Bool := Op.bytesLess a b

theorem lt_nil_right (a : Bs) : lt a [] = false := by cases a <;> rfl
theorem lt_cons (a b : UInt8) (x y : Bs) : lt (a :: x) (b :: y) = (decide (a < b) || (a == b && lt x y)) := rfl
theorem lt_irrefl : ∀ a : Bs, lt a a = false
  | [] => rfl
  | c :: a => by rw [lt_cons, lt_irrefl a]; simp
theorem lt_trans : ∀ {a b c : Bs}, lt a b = true → lt b c = true → lt a c = true
  | _, _, [], _, h => by rw [lt_nil_right] at h; cases h
  | _, [], _ :: _, h, _ => by rw [lt_nil_right] at h; cases h
  | [], _ :: _, _ :: _, _, _ => rfl
  | x :: a, y :: b, z :: c, h, k => by
    rw [lt_cons] at h k ⊢
    simp only [Bool.or_eq_true, Bool.and_eq_true, decide_eq_true_eq, beq_iff_eq] at h k ⊢
    rcases h with h | ⟨rfl, h⟩ <;> rcases k with k | ⟨rfl, k⟩
    · exact .inl (UInt8.lt_trans h k)
    · exact .inl h
    · exact .inl k
    · exact .inr ⟨rfl, lt_trans h k⟩
theorem lt_total : ∀ (a b : Bs), lt a b = false → lt b a = false → a = b
  | [], [], _, _ => rfl
  | [], _ :: _, h, _ => by cases h
  | _ :: _, [], _, h => by cases h
  | x :: a, y :: b, h, k => by
    rw [lt_cons] at h k
    simp only [Bool.or_eq_false_iff, Bool.and_eq_false_iff, decide_eq_false_iff_not, beq_eq_false_iff_ne] at h k
    have e : x = y := UInt8.le_antisymm (UInt8.not_lt.1 k.1) (UInt8.not_lt.1 h.1)
    subst e
    have h2 := h.2.resolve_left (fun f => f rfl)
    have k2 := k.2.resolve_left (fun f => f rfl)
    rw [lt_total a b h2 k2]
theorem lt_asymm {a b : Bs} (h : lt a b = true) : lt b a = false := by
  cases k : lt b a with
  | false => rfl
  | true => have := lt_trans h k; rw [lt_irrefl] at this; cases this
theorem lt_ne {a b : Bs} (h : lt a b = true) : a ≠ b := by
  rintro rfl; rw [lt_irrefl] at h; cases h
/-- not below, not alike: above. -/
theorem lt_of {a b : Bs} (h : lt a b = false) (k : a ≠ b) : lt b a = true := by
  cases h2 : lt b a with
  | true => rfl
  | false => exact absurd (lt_total a b h h2) k
def find (l : List Nd) (p : Bs) : Option Nd := l.find? (fun n => n.path == p)

def fitsB (n : Nd) : Bool := decide (n.data.length ≤ 256 ∧ 0 ≤ n.ver ∧ n.ver ≤ 281474976710656 ∧ 0 ≤ n.turn ∧ n.turn ≤ 10000 ∧ 0 ≤ n.own ∧ n.own ≤ 1099511627776 ∧ (n.own = 0 ∨ n.turn = 0))

def free (l : List Nd) (u : Bs) : Bool := match find l u with
  | some x => x.own == 0
  | none => false

def lies (l : List Nd) (n : Nd) : Bool := match parent n.path with
  | some u => free l u
  | none => false

/-- Each is above the one ahead. -/
def asc : List Nd → Prop
  | [] => True
  | [_] => True
  | a :: b :: r => lt a.path b.path = true ∧ asc (b :: r)

/-- Is it a tree? as a Prop. -/
structure Tree (l : List Nd) : Prop where
  pos : 0 < l.length
  most : l.length ≤ 512
  root : (l[0]'pos).path = [47]
  free : (l[0]'pos).own = 0
  fit : ∀ i (h : i < l.length), fitsB l[i] = true
  up : ∀ i (h : i + 1 < l.length), lt l[i].path l[i+1].path = true
  lie : ∀ i (h : i < l.length), 0 < i → lies l l[i] = true

open Classical in
noncomputable def right (l : List Nd) : Bool := decide (Tree l)
/-- Rising, any two. -/
def Asc (l : List Nd) : Prop := ∀ i j (hi : i < l.length) (hj : j < l.length), i < j → lt l[i].path l[j].path = true

theorem asc_of {l : List Nd} (h : ∀ i (h : i + 1 < l.length), lt l[i].path l[i+1].path = true) : Asc l := by
  intro i j hi hj hij
  obtain ⟨d, rfl⟩ : ∃ d, j = i + 1 + d := ⟨j - (i + 1), by omega⟩
  clear hij
  induction d with
  | zero => exact h i hj
  | succ d ih => exact lt_trans (ih (by omega)) (h (i + 1 + d) (by omega))
theorem Tree.asc {l : List Nd} (h : Tree l) : Asc l := asc_of h.up
theorem Asc.inj {l : List Nd} (h : Asc l) {i j : Nat} (hi : i < l.length) (hj : j < l.length) (e : l[i].path = l[j].path) : i = j := by
  rcases Nat.lt_trichotomy i j with k | k | k
  · exact absurd e (lt_ne (h i j hi hj k))
  · exact k
  · exact absurd e.symm (lt_ne (h j i hj hi k))

theorem asc_iff {l : List Nd} : Asc l ↔ l.Pairwise (fun a b => lt a.path b.path = true) := by
  rw [List.pairwise_iff_getElem]; rfl
theorem Asc.filter {l : List Nd} (h : Asc l) (p : Nd → Bool) : Asc (l.filter p) := asc_iff.2 ((asc_iff.1 h).filter p)
theorem Asc.tail {a : Nd} {l : List Nd} (h : Asc (a :: l)) : Asc l := by
  rw [asc_iff] at h ⊢; exact (List.pairwise_cons.1 h).2
theorem Asc.head {a : Nd} {l : List Nd} (h : Asc (a :: l)) : ∀ b ∈ l, lt a.path b.path = true := by
  rw [asc_iff] at h; exact (List.pairwise_cons.1 h).1

theorem find_mem {l : List Nd} {p : Bs} {x : Nd} (h : find l p = some x) : x ∈ l ∧ x.path = p := by
  unfold find at h
  exact ⟨List.mem_of_find?_eq_some h, by simpa using List.find?_some h⟩
theorem find_none {l : List Nd} {p : Bs} : find l p = none ↔ ∀ x ∈ l, x.path ≠ p := by
  unfold find; rw [List.find?_eq_none]; simp
end Pm
end Go.Proofs.Ytdfnfkknbjageaa

