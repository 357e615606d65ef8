/- divide at nodes, the closures of Cut, Cut (gen_op.py) -/
import Derived.Test.YtcjpgenlhphapaaOn
import Derived.Test.YtcjpgenlhphapaaOf
import Derived.Test.YtcjpgenlhphapaaRc
import Derived.Laws.EntriesVeiled
namespace Go.Proofs.Ytcjpgenlhphapaa
set_option maxRecDepth 20000
set_option linter.unusedVariables false
set_option linter.unusedSimpArgs false
open Go.RowKit Pm


/-- A function value that tells of a node what q does, and changes nothing. -/
structure PdN (wc : World) (f : Value) (q : Bs → Bool) : Prop where
  ex : ∃ k fi cap, f = .func (.func k) fi cap ∧ Enters Try.prog k ∧ ∀ p w1, p.length ≤ 1000000 → Fp Non wc w1 →
    Calls Try.prog k (fi ++ #[.agg #[.string (B p), .string ⟨#[]⟩, .int .i64 0, .int .i64 0, .int .i64 0]] ++ cap) w1 fun e w2 => e = .returned (.bool (q p)) ∧ Fp Non w1 w2

/-- Behind an append of one. -/
structure ApN (lo : Nat) (w : World) (u : Value) (m : List Bs) (v' : Value) (w' : World) : Prop where
  own : OwN lo w' v' m
  fp : Fp (fun k => u.ownBlock = some k) w w'
  new : ∀ j, v'.ownBlock = some j → u.ownBlock = some j ∨ w.heap.size ≤ j
theorem app_N (w : World) (lo : Nat) (u : Value) (l : List Bs) (x : Bs) (ty : TypeId) (X : Nat) (hv : OwN lo w u l) (hX : w.heap[X]? = some (Obj.cells #[.string (B x), .string ⟨#[]⟩, .int .i64 0, .int .i64 0, .int .i64 0] TNd (0, 0))) (h6 : l.length ≤ 90000) (hlo : lo ≤ w.heap.size) :
    ∃ v' w', (Builtin.append_ #[TLN, TLN] ty #[u, .slice (some ⟨X, 0, none⟩) 1 1]).run Try.prog w = .ok v' w' ∧ ApN lo w u (l ++ [x]) v' w' := by
  obtain ⟨v', w', hr, h1, h2, h3⟩ := app_ownG (enc := ndC) (T := TNd) (SL := TLN) ndC_len ndC_one Try.underlying31 Try.infoNd rfl (by decide) (by decide) w lo u l [x] ty ⟨X, 0, none⟩ 1 1 hv rfl (fun i hi j c hc => by
    have hi0 : i = 0 := by simp at hi; omega
    subst hi0
    rw [Addr.add_lit, cell_of_row _ _ _ _ _ _ hX]
    have : (ndC x)[j]? = some c := hc
    simpa [ndC] using this) (by simp; omega) hlo
  exact ⟨v', w', hr, h1, (Fp.refl _ w).grown h2 (fun k hk => .inl hk), h3⟩

structure DvI (l : List Bs) (q : Bs → Bool) (w : World) (k : Nat) (u1 u2 : Value) (wr : World) : Prop where
  fp : Fp Non w wr
  o1 : OwN w.heap.size wr u1 ((l.take k).filter q)
  o2 : OwN w.heap.size wr u2 ((l.take k).filter (fun p => !q p))
  ne : ∀ j, u1.ownBlock = some j → u2.ownBlock = some j → False
/-- What divide answers. -/
structure DvR (l : List Bs) (q : Bs → Bool) (w : World) (e : Ending) (w' : World) : Prop where
  ex : ∃ v1 v2, e = .returned (.tuple #[v1, v2]) ∧ SgN w' v1 (l.filter q) ∧ SgN w' v2 (l.filter (fun p => !q p))
  fp : Fp Non w w'

set_option maxHeartbeats 8000000 in
theorem divideN_c (v f : Value) (l : List Bs) (q : Bs → Bool) (w : World) (hv : SgN w v l) (hs : ∀ x ∈ l, x.length ≤ 1000000) (hq : PdN w f q) (hn : l.length ≤ 80000) :
    Calls Try.prog 42 #[v, f] w fun e w' => DvR l q w e w' := by
  obtain ⟨ao, cap, rfl⟩ := hv.shape
  obtain ⟨n, hnn⟩ : ∃ n, n = l.length := ⟨_, rfl⟩
  obtain ⟨kf, fi, fc, rfl, hen, hcall⟩ := hq.ex
  have HX := Lib.hid (And.intro hnn (And.intro hv (And.intro hs hcall)))
  rw [← hnn]
  have hnb : n ≤ 80000 := by omega
  have H0 : Hid (DvI l q w 0 (.slice none 0 0) (.slice none 0 0) w) := ⟨Fp.refl _ _, OwG.nil _ _, OwG.nil _ _, fun j h => by cases h⟩
  clear hv hs hq hcall hn hnn
  go_enter Try.func42, Try.ntmps42
  go_wp2_with fail
  go_loopw [6, 7, 12] (fun u1 u2 i wr => ∃ k : Nat, k ≤ n ∧ i = .int .i64 k ∧ Hid (DvI l q w k u1 u2 wr)) (fun _ _ i _ => n - (RowKit.intOf i).toNat)
  case atStart => exact ⟨0, Nat.zero_le _, rfl, H0⟩
  case round =>
    clear H0
    obtain ⟨k, hk, rfl, hR⟩ := hrel
    rename_i wr _
    by_cases hlt : k < n
    · have hkl : k < l.length := by rw [← HX.out.1]; exact hlt
      obtain ⟨g, o, cap', e, hcell⟩ := HX.out.2.1.at (by omega)
      rw [← HX.out.1] at e
      injection e with e1 e2 e3
      subst e1 e3
      have hnd := (hcell k hkl).keep hR.out.fp (fun h => h)
      have htk : l.take (k + 1) = l.take k ++ [l[k]] := List.take_succ_eq_append_getElem hkl
      have hcc := fun W f => HX.out.2.2.2 l[k] W (HX.out.2.2.1 _ (List.getElem_mem hkl)) f
      have hl1 : ((l.take k).filter q).length ≤ 90000 := Nat.le_trans (List.length_filter_le _ _) (by rw [List.length_take]; omega)
      have hl2 : ((l.take k).filter (fun p => !q p)).length ≤ 90000 := Nat.le_trans (List.length_filter_le _ _) (by rw [List.length_take]; omega)
      obtain ⟨x, hx⟩ : ∃ x, x = l[k] := ⟨_, rfl⟩
      rw [← hx] at hnd htk hcc
      have c0 := hnd.c0; have c1 := hnd.c1; have c2 := hnd.c2; have c3 := hnd.c3; have c4 := hnd.c4
      have q3 : ((k : Int) < (n : Int)) = True := eq_true (by omega)
      have q4 : (k < n) = True := eq_true hlt
      obtain ⟨b, hb⟩ : ∃ b, q x = b := ⟨_, rfl⟩
      rw [hb] at hcc
      have hbx := heap_alloc_new wr (Obj.cells #[.string (B x), .string ⟨#[]⟩, .int .i64 0, .int .i64 0, .int .i64 0] TNd)
      have f1 := fp_alloc wr (Obj.cells #[.string (B x), .string ⟨#[]⟩, .int .i64 0, .int .i64 0, .int .i64 0] TNd)
      have hszn := szNd
      have HB := Lib.hid (And.intro f1 hbx)
      have HC := Lib.hid hcc
      have HL := Lib.hid (And.intro hlt (And.intro htk (And.intro hb (And.intro hl1 hl2))))
      clear hnd hcell hcc hlt htk hb hx hkl f1 hbx hl1 hl2
      go_wp2_with fail
      rw [hen _ _]
      go_wp2_with fail
      refine (HC.out _ (hR.out.fp.then HB.out.1)).mono ?_
      rintro e w1 ⟨rfl, hf⟩
      have b1 := hf.heap HB.out.2 (fun h => h)
      have d0 : w1.cell? ⟨wr.heap.size, 0, none⟩ = some (.string (B x)) := by rw [cell_of_row _ _ _ _ _ _ b1]; rfl
      have d1 : w1.cell? ⟨wr.heap.size, 1, none⟩ = some (.string ⟨#[]⟩) := by rw [cell_of_row _ _ _ _ _ _ b1]; rfl
      have d2 : w1.cell? ⟨wr.heap.size, 2, none⟩ = some (.int .i64 0) := by rw [cell_of_row _ _ _ _ _ _ b1]; rfl
      have d3 : w1.cell? ⟨wr.heap.size, 3, none⟩ = some (.int .i64 0) := by rw [cell_of_row _ _ _ _ _ _ b1]; rfl
      have d4 : w1.cell? ⟨wr.heap.size, 4, none⟩ = some (.int .i64 0) := by rw [cell_of_row _ _ _ _ _ _ b1]; rfl
      have hF := HB.out.1.then hf
      have f2 := hF.then (fp_alloc w1 (Obj.cells #[.string (B x), .string ⟨#[]⟩, .int .i64 0, .int .i64 0, .int .i64 0] TNd))
      have hX := heap_alloc_new w1 (Obj.cells #[.string (B x), .string ⟨#[]⟩, .int .i64 0, .int .i64 0, .int .i64 0] TNd)
      have HA := Lib.hid (And.intro f2 (And.intro (hR.out.o1.non f2) (And.intro (hR.out.o2.non f2) (And.intro hX (show w.heap.size ≤ (w1.alloc (Obj.cells #[.string (B x), .string ⟨#[]⟩, .int .i64 0, .int .i64 0, .int .i64 0] TNd)).heap.size from Nat.le_trans hR.out.fp.size f2.size)))))
      clear hf b1 hF f2 hX
      cases b with
      | true =>
        have hap := fun ty => app_N _ w.heap.size u6 _ x ty w1.heap.size HA.out.2.1 HA.out.2.2.2.1 HL.out.2.2.2.1 HA.out.2.2.2.2
        have HP := Lib.hid hap
        clear hap
        go_wp2_with (at_builtin; go_must (refine wpList_app rfl _ _ _ _ rfl _ _ rfl rfl (ApN w.heap.size (w1.alloc (Obj.cells #[.string (B x), .string ⟨#[]⟩, .int .i64 0, .int .i64 0, .int .i64 0] TNd)) u6 ((l.take k).filter q ++ [x])) (HP.out TLN) ?_))
        intro v2 w2 hR2
        have hN : Hid (DvI l q w (k + 1) v2 u7 w2) := by
          have hf1 : [x].filter q = [x] := by simp [HL.out.2.2.1]
          have hf2 : [x].filter (fun p => !q p) = [] := by simp [HL.out.2.2.1]
          refine ⟨(hR.out.fp.then HA.out.1).trans hR2.fp (fun j hj => .inr (hR.out.o1.lt j hj).1), ?_, ?_, ?_⟩
          · rw [HL.out.2.1, List.filter_append, hf1]; exact hR2.own
          · rw [HL.out.2.1, List.filter_append, hf2, List.append_nil]; exact hR2.fp.owns HA.out.2.2.1 (fun j hj hS => hR.out.ne j hS hj)
          · intro j h1 h2
            rcases hR2.new j h1 with h | h
            · exact hR.out.ne j h h2
            · have := (HA.out.2.2.1.lt j h2).2; omega
        have hkn := HL.out.1
        clear hR2
        go_wp2
        go_roundw
        case rel => exact ⟨k + 1, by omega, by go_num, hN⟩
        case measure => simp [RowKit.intOf]; omega
      | false =>
        have hap := fun ty => app_N _ w.heap.size u7 _ x ty w1.heap.size HA.out.2.2.1 HA.out.2.2.2.1 HL.out.2.2.2.2 HA.out.2.2.2.2
        have HP := Lib.hid hap
        clear hap
        go_wp2_with (at_builtin; go_must (refine wpList_app rfl _ _ _ _ rfl _ _ rfl rfl (ApN w.heap.size (w1.alloc (Obj.cells #[.string (B x), .string ⟨#[]⟩, .int .i64 0, .int .i64 0, .int .i64 0] TNd)) u7 ((l.take k).filter (fun p => !q p) ++ [x])) (HP.out TLN) ?_))
        intro v2 w2 hR2
        have hN : Hid (DvI l q w (k + 1) u6 v2 w2) := by
          have hf1 : [x].filter q = [] := by simp [HL.out.2.2.1]
          have hf2 : [x].filter (fun p => !q p) = [x] := by simp [HL.out.2.2.1]
          refine ⟨(hR.out.fp.then HA.out.1).trans hR2.fp (fun j hj => .inr (hR.out.o2.lt j hj).1), ?_, ?_, ?_⟩
          · rw [HL.out.2.1, List.filter_append, hf1, List.append_nil]; exact hR2.fp.owns HA.out.2.1 (fun j hj hS => hR.out.ne j hj hS)
          · rw [HL.out.2.1, List.filter_append, hf2]; exact hR2.own
          · intro j h1 h2
            rcases hR2.new j h2 with h | h
            · exact hR.out.ne j h1 h
            · have := (HA.out.2.1.lt j h1).2; omega
        have hkn := HL.out.1
        clear hR2
        go_wp2
        go_roundw
        case rel => exact ⟨k + 1, by omega, by go_num, hN⟩
        case measure => simp [RowKit.intOf]; omega
    · have hke : k = n := by omega
      subst hke
      have q3 : ((k : Int) < (k : Int)) = False := eq_false (by omega)
      have htk : l.take k = l := List.take_of_length_le (by have := HX.out.1; omega)
      have h1 := hR.out.o1
      have h2 := hR.out.o2
      rw [htk] at h1 h2
      have HN := Lib.hid (And.intro (OwG.sg ndC_len h1) (OwG.sg ndC_len h2))
      clear hlt hk h1 h2 htk
      go_wp2
      go_ret2
      exact ⟨⟨_, _, rfl, HN.out.1, HN.out.2⟩, hR.out.fp⟩

set_option maxHeartbeats 1000000 in
theorem divideT_nil (f : Value) (w : World) : Calls Try.prog 45 #[.slice none 0 0, f] w fun e w' => e = .returned (.tuple #[.slice none 0 0, .slice none 0 0]) ∧ w' = w := by
  go_enter Try.func45, Try.ntmps45
  go_wp2_with fail
  go_loopw [6, 7, 12] (fun u1 u2 i wr => i = .int .i64 0 ∧ u1 = .slice none 0 0 ∧ u2 = .slice none 0 0 ∧ wr = w) (fun _ _ _ _ => 0)
  case atStart => exact ⟨rfl, rfl, rfl, rfl⟩
  case round =>
    obtain ⟨rfl, rfl, rfl, rfl⟩ := hrel
    go_wp2
    go_ret2
    exact ⟨rfl, rfl⟩

/-- The directory where a node is kept. -/
def kept (p : Bs) : Bs := (parent p).getD [47]
set_option maxHeartbeats 1000000 in
theorem keptAt_c (p : Bs) (w : World) (hp : p.length ≤ 1000000) : Calls Try.prog 44 #[.agg #[.string (B p), .string ⟨#[]⟩, .int .i64 0, .int .i64 0, .int .i64 0]] w fun e w' => e = .returned (.string (B (kept p))) ∧ Fp Non w w' := by
  have h1 := fun w => Parent_g p w (sz_of hp (by omega))
  have hb := bxN5 w p
  have HF := Lib.hid (fp_alloc w (Obj.cells #[.string (B p), .string ⟨#[]⟩, .int .i64 0, .int .i64 0, .int .i64 0] TNd))
  have H1 := Lib.hid h1
  obtain ⟨d0, d1, d2, d3, d4⟩ := hb
  cases hpar : parent p with
  | none =>
    have e : kept p = [47] := by unfold kept; rw [hpar]; rfl
    rw [e]
    rw [hpar] at H1
    clear h1 hp e hpar
    go_enter Try.func44, Try.ntmps44
    go_wp2_with fail
    refine (H1.out _).mono ?_
    rintro e w1 ⟨rfl, hg⟩
    have HG := Lib.hid (HF.out.then hg.fp)
    clear hg
    simp only [Option.isSome_none]
    go_wp2
    go_ret
    exact ⟨rfl, HG.out⟩
  | some a =>
    have e : kept p = a := by unfold kept; rw [hpar]; rfl
    rw [e]
    rw [hpar] at H1
    clear h1 hp e hpar
    go_enter Try.func44, Try.ntmps44
    go_wp2_with fail
    refine (H1.out _).mono ?_
    rintro e w1 ⟨rfl, hg⟩
    have HG := Lib.hid (HF.out.then hg.fp)
    clear hg
    simp only [Option.isSome_some, Option.getD_some]
    go_wp2
    go_ret
    exact ⟨rfl, HG.out⟩

/-- Is the range of a directory the one of that very prefix? -/
def ins1 (m : List Hl) (pre d : Bs) : Bool := match (bk m d m.length).bind (m[·]?) with | some x => x.d == pre | none => false
set_option maxHeartbeats 2000000 in
theorem inside_c (vm : Value) (m : List Hl) (pre d : Bs) (b1 b2 : Nat) (w : World) (hv : NsH w vm m) (hs : Szs m) (hd : d.length ≤ 1000000) (h1 : w.cell? ⟨b1, 0, none⟩ = some vm) (h2 : w.cell? ⟨b2, 0, none⟩ = some (.string (B pre))) :
    Calls Try.prog 41 #[.string (B d), .pointer (some ⟨b1, 0, none⟩), .pointer (some ⟨b2, 0, none⟩)] w fun e w' => e = .returned (.bool (ins1 m pre d)) ∧ Fp Non w w' := by
  have hr := rangeOf_c vm m d w hv hs.n hs.p hd
  have hsn := hs.n
  cases hb : bk m d m.length with
  | none =>
    have e : ins1 m pre d = false := by unfold ins1; rw [hb]; rfl
    rw [e]
    rw [hb] at hr
    have HR := Lib.hid hr
    have HC := Lib.hid (And.intro h1 h2)
    obtain ⟨ao, cap, rfl⟩ := hv.shape
    generalize m.length = n at *
    clear hr hv hs hd e hb hsn
    go_enter Try.func41, Try.ntmps41
    go_wp2_with fail
    refine HR.out.mono ?_
    rintro e w1 ⟨rfl, hf⟩
    have HF := Lib.hid hf
    have c1 := hf.cell HC.out.1 (fun h => h)
    have c2 := hf.cell HC.out.2 (fun h => h)
    clear hf h1 h2
    unfold idx
    go_wp2_with fail
    go_quiet (fail)
    go_wp2
    go_ret
    exact ⟨rfl, HF.out.drewN _⟩
  | some i =>
    have hi := (bk_some hb).1
    have e : ins1 m pre d = (m[i].d == pre) := by unfold ins1; rw [hb]; simp [List.getElem?_eq_getElem hi]
    rw [e]
    rw [hb] at hr
    obtain ⟨g, o, cap, rfl, _, _, _, hcell⟩ := hv.at (by omega)
    have hnd := (hcell i hi).c0
    obtain ⟨n, hn⟩ : ∃ n, n = m.length := ⟨_, rfl⟩
    rw [← hn] at hr hi hsn h1
    generalize m[i].d = y at *
    unfold strV at hnd
    have q1 : ((i : Int) != -1) = true := by rw [bne_iff_ne]; omega
    have q2 : ((i : Int) < (n : Int)) = True := eq_true (by omega)
    have q3 : (i < n) = True := eq_true hi
    have q4 : ((i : Int) = -1) = False := eq_false (by omega)
    have q5 : ((i : Int) == -1) = false := beq_eq_false_iff_ne.2 (by omega)
    have HR := Lib.hid hr
    have HC := Lib.hid (And.intro h1 (And.intro h2 hnd))
    clear hr hv hs hd e hb hcell hn hi h1 h2 hnd
    go_enter Try.func41, Try.ntmps41
    have c1 := HC.out.1
    go_wp2_with fail
    refine HR.out.mono ?_
    rintro e w1 ⟨rfl, hf⟩
    have HF := Lib.hid hf
    have d1 := hf.cell HC.out.1 (fun h => h)
    have d2 := hf.cell HC.out.2.1 (fun h => h)
    have d3 := hf.cell HC.out.2.2 (fun h => h)
    clear hf c1
    unfold idx
    go_wp2_with fail
    go_quiet (fail)
    go_wp2
    go_ret
    exact ⟨rfl, HF.out.drewN _⟩

theorem kept_len {p : Bs} : (kept p).length ≤ 1000000 := by
  unfold kept
  cases h : parent p with
  | none => simp
  | some a =>
    obtain ⟨x, r, h1, rfl⟩ := has_parent h
    have := joinP_len ((split_iff _ _).1 h1).1.init
    simp only [Option.getD_some]; omega

set_option maxHeartbeats 2000000 in
theorem Cut2_c (vm : Value) (m : List Hl) (pre p : Bs) (b1 b2 b8 : Nat) (w : World) (hv : NsH w vm m) (hs : Szs m) (hp : p.length ≤ 1000000) (h1 : w.cell? ⟨b1, 0, none⟩ = some vm) (h2 : w.cell? ⟨b2, 0, none⟩ = some (.string (B pre)))
    (h8 : w.cell? ⟨b8, 0, none⟩ = some (.func (.func 41) #[] #[.pointer (some ⟨b1, 0, none⟩), .pointer (some ⟨b2, 0, none⟩)])) :
    Calls Try.prog 43 #[.agg #[.string (B p), .string ⟨#[]⟩, .int .i64 0, .int .i64 0, .int .i64 0], .pointer (some ⟨b8, 0, none⟩)] w fun e w' => e = .returned (.bool (ins1 m pre (kept p))) ∧ Fp Non w w' := by
  have hk := fun W => keptAt_c p W hp
  have hi := fun W (f : Fp Non w W) => inside_c vm m pre (kept p) b1 b2 W (hv.non f) hs kept_len (f.cell h1 (fun h => h)) (f.cell h2 (fun h => h))
  have hbx := bxN5 w p
  have hf0 := fp_alloc w (Obj.cells #[.string (B p), .string ⟨#[]⟩, .int .i64 0, .int .i64 0, .int .i64 0] TNd)
  obtain ⟨d0, d1, d2, d3, d4⟩ := hbx
  have HS0 := Lib.hid (And.intro (hf0.cell h8 (fun h => h)) (And.intro d0 (And.intro d1 (And.intro d2 (And.intro d3 d4)))))
  have HF0 := Lib.hid hf0
  have HK := Lib.hid hk
  have HI := Lib.hid hi
  generalize ins1 m pre (kept p) = bb at *
  generalize kept p = kp at *
  clear hk hi hv hs hp h1 h2 h8 hf0 d0 d1 d2 d3 d4
  go_enter Try.func43, Try.ntmps43
  go_wp2_with fail
  refine wp_region_held_drew (S := (fun w' => w'.cell? ⟨b8, 0, none⟩ = some (.func (.func 41) #[] #[.pointer (some ⟨b1, 0, none⟩), .pointer (some ⟨b2, 0, none⟩)]) ∧ w'.cell? ⟨w.heap.size, 0, none⟩ = some (.string (B p)) ∧ w'.cell? ⟨w.heap.size, 1, none⟩ = some (.string ⟨#[]⟩) ∧ w'.cell? ⟨w.heap.size, 2, none⟩ = some (.int .i64 0) ∧ w'.cell? ⟨w.heap.size, 3, none⟩ = some (.int .i64 0) ∧ w'.cell? ⟨w.heap.size, 4, none⟩ = some (.int .i64 0))) (by kernel_rfl) ?_ (fun hHeld => ?_)
  · exact HS0.out
  try simp only [zP, zN, zS, zT, zU]
  refine tk 0 hHeld ?_
  refine tk 1 hHeld ?_
  refine rY 2 (fun K hK => ?_)
  go_simp
  go_at_call 44
  refine (HK.out _).mono ?_
  rintro e w1 ⟨rfl, f1⟩
  have HS1 := Lib.hid (And.intro (f1.cell hHeld.1 (fun h => h)) (And.intro (f1.cell hHeld.2.1 (fun h => h)) (And.intro (f1.cell hHeld.2.2.1 (fun h => h)) (And.intro (f1.cell hHeld.2.2.2.1 (fun h => h)) (And.intro (f1.cell hHeld.2.2.2.2.1 (fun h => h)) (f1.cell hHeld.2.2.2.2.2 (fun h => h)))))))
  have F1 := Lib.hid ((HF0.out.drew).then f1)
  clear f1
  go_wp2_with fail
  refine hK.out _ _ HS1.out (fun hHeld => ?_)
  clear hK K
  try simp only [zP, zN, zS, zT, zU]
  refine rY 3 (fun K hK => ?_)
  go_simp
  go_at_call 41
  refine (HI.out _ F1.out).mono ?_
  rintro e w2 ⟨rfl, f2⟩
  have HS2 := Lib.hid (And.intro (f2.cell hHeld.1 (fun h => h)) (And.intro (f2.cell hHeld.2.1 (fun h => h)) (And.intro (f2.cell hHeld.2.2.1 (fun h => h)) (And.intro (f2.cell hHeld.2.2.2.1 (fun h => h)) (And.intro (f2.cell hHeld.2.2.2.2.1 (fun h => h)) (f2.cell hHeld.2.2.2.2.2 (fun h => h)))))))
  have F2 := Lib.hid (F1.out.then f2)
  clear f2
  go_wp2_with fail
  refine hK.out _ _ HS2.out (fun hHeld => ?_)
  clear hK K
  try simp only [zP, zN, zS, zT, zU]
  refine tk 4 hHeld ?_
  refine yD ?_
  go_wp2
  go_ret
  exact ⟨rfl, F2.out⟩
end Go.Proofs.Ytcjpgenlhphapaa
