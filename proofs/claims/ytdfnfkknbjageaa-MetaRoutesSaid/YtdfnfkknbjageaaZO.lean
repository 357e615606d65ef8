/- Texts of this proof, merged. -/
import Derived.Test.YtdfnfkknbjageaaZN
import Derived.Test.YtdfnfkknbjageaaZA
set_option linter.unusedVariables false
set_option linter.unusedSimpArgs false
/- Route (gen_d7.py): a range over groups, whose body appends to a row of the call's own, and returns. -/
namespace Go.Proofs.Ytdfnfkknbjageaa
set_option maxRecDepth 100000
set_option linter.unusedVariables false
set_option linter.unusedSimpArgs false
open Go.RowKit Go.Shelf Pm
attribute [local go_sem] Oper.semAt_some

/-- The groups of directories, if there are any. -/
def rtB (l : List Mt) (ds : List Bs) : Bool := rightM l && ds.all okP
def rtL (l : List Mt) (ds : List Bs) : List Int := if rtB l ds = true then ds.map (fun d => (gkM l d).1) else []
theorem inB_bad {d q : Bs} (h : okP d = false) : inB d q = false := by
  cases e : inB d q with
  | false => rfl
  | true =>
    unfold inB at e
    unfold okP at h
    cases hs : split d with
    | none => rw [hs] at e; simp at e
    | some x => rw [hs] at h; simp at h
theorem gk_ok {l : List Mt} (h : RtM l) (d : Bs) : (gkM l d).2 = okP d := by
  cases hd : okP d with
  | true =>
    obtain ⟨k, y, hp⟩ := pkM h hd
    unfold gkM; rw [hp.kp]
  | false =>
    have : ofR l d = none := by
      unfold ofR; rw [if_pos ((right_ifft l).2 h)]
      exact bk_none fun j hj => by rw [inx_at hj]; exact inB_bad hd
    unfold gkM; rw [pick_none this]
theorem Try.infoI : (Try.prog.info? TIN).map (fun i => (i.zero, i.size, i.bytes)) = some (some (.int .i64 0), 1, 8) := by kernel_rfl
theorem own_owg {β : Type} (lo : Nat) (f : β → Value) (g : β → List Int) : Go.Own (fun s W => OwG TIN inC 1 lo W (f s) (g s)) := fun s X Y row hs hg hr => by
  refine ⟨hs.1, ?_⟩
  rcases hs.2 with h | ⟨k, cap, cur, e, h1, h2, rest⟩
  · exact .inl h
  · exact .inr ⟨k, cap, cur, e, h1, (grownBy_keeps_cells hg hr h2 rfl).trans h2, rest⟩
theorem owg_cells {lo : Nat} {W : World} {v : Value} {g : List Int} (h : OwG TIN inC 1 lo W v g) : ∀ r, v.ownBlock = some r → lo ≤ r ∧ ∃ o : Obj, W.heap[r]? = some o ∧ o.isCells = true := fun r hr => by
  rcases h.2 with ⟨rfl, _⟩ | ⟨k, cap, cur, rfl, h1, h2, _⟩
  · simp [Value.ownBlock] at hr
  · have : k = r := by simpa [Value.ownBlock] using hr
    subst this; exact ⟨h1, _, h2, rfl⟩
theorem owg_keep {lo : Nat} {W W' : World} {v : Value} {g : List Int} (h : OwG TIN inC 1 lo W v g) (hk : ∀ r, lo ≤ r → r < W.heap.size → W'.heap[r]? = W.heap[r]?) : OwG TIN inC 1 lo W' v g := by
  refine ⟨h.1, ?_⟩
  rcases h.2 with h | ⟨k, cap, cur, e, h1, h2, rest⟩
  · exact .inl h
  · exact .inr ⟨k, cap, cur, e, h1, (hk k h1 (Array.getElem?_eq_some_iff.1 h2).1).trans h2, rest⟩
theorem keepsFrom_grown {B : Nat} {W W' : World} {row : Option Nat} (hg : W.grownBy W' row) (hrow : ∀ r, row = some r → ∃ o : Obj, W.heap[r]? = some o ∧ o.isCells = true) : KeepsFrom B W W' :=
  ⟨hg.size, fun k o _ hk ho => by
    refine (hg.block k (Array.getElem?_eq_some_iff.1 hk).1 (fun e => ?_)).trans hk
    obtain ⟨o', h1, h2⟩ := hrow k e.symm
    rw [hk] at h1; cases h1; rw [ho] at h2; cases h2⟩
theorem rt_no {l : List Mt} {ds : List Bs} (h : rtB l ds = false) : rtB l ds = false ∧ rtL l ds = [] := ⟨h, by unfold rtL; rw [h]; rfl⟩
theorem rt_yes {l : List Mt} {ds : List Bs} (h : RtM l) (ha : ∀ x ∈ ds.map (gkM l), x.2 = true) : rtB l ds = true ∧ rtL l ds = (ds.map (gkM l)).map (·.1) := by
  have e : rtB l ds = true := by
    unfold rtB; rw [(right_ifft l).2 h, Bool.true_and, List.all_eq_true]
    intro d hd
    rw [← gk_ok h d]; exact ha _ (List.mem_map_of_mem hd)
  exact ⟨e, by unfold rtL; rw [e, if_pos rfl, List.map_map]; rfl⟩
theorem rt_bad {l : List Mt} {ds : List Bs} (h : RtM l) {x : Int × Bool} (hx : x ∈ ds.map (gkM l)) (h2 : x.2 = false) : rtB l ds = false := by
  obtain ⟨d, hd, rfl⟩ := List.mem_map.1 hx
  rw [gk_ok h d] at h2
  cases e : rtB l ds with
  | false => rfl
  | true =>
    unfold rtB at e
    simp only [Bool.and_eq_true, List.all_eq_true] at e
    rw [e.2 d hd] at h2; cases h2
theorem LowT.kr {n₀ b : Nat} {W W' : World} {ao : Option Addr} {l : List Bs} (h : LowT n₀ b W ao l) (k : Kr n₀ b W W') : LowT n₀ b W' ao l := by
  rcases h with h | ⟨g, o, e, h1, h2, h3⟩
  · exact .inl h
  · exact .inr ⟨g, o, e, h1, h2, fun i hi => k.cell (h3 i hi) h1 h2⟩
/-- What Route answers. -/
structure RtR (l : List Mt) (ds : List Bs) (w : World) (e : Ending) (w' : World) : Prop where
  ex : ∃ v', e = .returned (.tuple #[v', .bool (rtB l ds)]) ∧ Sg inC 1 w' v' (rtL l ds)
  fp : Fp Non w w'
theorem own_seq {n₀ : Nat} (J : List (Int × Bool) → World → Prop) (h : AbidesFrom n₀ J) : ∀ s X Y, J s X → Fp Non X Y → J s Y := fun s X Y js f => h s X Y none js (grown_non f) (fun r e => by cases e)
theorem boxed_past {W W2 : World} {o : Obj} {row : Option Nat} {b : Nat} {T : TypeId} {u : Value} (hg : (W.alloc o).grownBy W2 row) (h : Boxed W b T u) (hr : some b ≠ row) : Boxed W2 b T u := (hg.block b (Array.getElem?_eq_some_iff.1 (h.alloc o)).1 hr).trans (h.alloc o)
theorem rowne {lo b : Nat} {W : World} {v : Value} {g : List Int} (h : OwG TIN inC 1 lo W v g) (hb : b < lo) : some b ≠ v.ownBlock := fun e => by have := (owg_cells h b e.symm).1; omega
theorem c1new (w : World) (T : TypeId) (x : Value) : ∀ j u, ([x] : List Value)[j]? = some u → (w.alloc (.cells #[x] T)).cell? ((⟨w.heap.size, 0, none⟩ : Addr).add j) = some u := fun j u h => by
  cases j with
  | zero => rw [Addr.add_lit, cell_of_row _ _ _ _ _ _ (heap_alloc_new w _)]; simpa using h
  | succ j => simp at h
/-- Behind each round: what has come is in the box. -/
structure RoI (B b6 : Nat) (W0 : World) (pre : List (Int × Bool)) (v : Value) (W : World) : Prop where
  all : ∀ x ∈ pre, x.2 = true
  bx : Boxed W b6 TLI v
  ow : OwG TIN inC 1 B W v (pre.map (·.1))
  kr : Kr B b6 W0 W
theorem RoI.from (B b6 : Nat) (W0 : World) (hB : B ≤ W0.heap.size) : OwnFrom B (fun (pre : List (Int × Bool)) W => ∃ v, RoI B b6 W0 pre v W) := fun pre X Y row hs hg hr => by
  obtain ⟨v, h⟩ := hs
  have hr' : ∀ r, row = some r → ∃ o : Obj, X.heap[r]? = some o ∧ o.isCells = false := fun r e => (hr r e).2
  exact ⟨v, h.all, boxed_own b6 TLI (fun (_ : Unit) => v) () X Y row h.bx hg hr', own_owg B (fun (_ : Unit) => v) (fun _ => pre.map (·.1)) () X Y row h.ow hg hr', ownFrom_kr hB (Nat.le_refl _) () X Y row h.kr hg hr⟩
theorem RoI.shape {B b6 : Nat} {W0 : World} {pre : List (Int × Bool)} {v : Value} {W : World} (h : RoI B b6 W0 pre v W) : ∃ a c, v = .slice a pre.length c := by
  obtain ⟨a, c, e⟩ := (OwG.sg inC_len h.ow).shape
  rw [List.length_map] at e
  exact ⟨a, c, e⟩

theorem RoI.step {B b6 : Nat} {W0 W w2 : World} {pre : List (Int × Bool)} {v v' : Value} {x1 : Int} (h : RoI B b6 W0 pre v W) (hB : B ≤ W0.heap.size) (hb : b6 < B) (ho : w2.ownsRow B TIN 1 v' (pre.length + 1) (rowsG inC (pre.map (·.1)) ++ [.int .i64 x1])) (hg : (W.alloc (.cells #[.int .i64 x1] TIN)).grownBy w2 v.ownBlock) :
    KeepsFrom B W (w2.setCell ⟨b6, 0, none⟩ v') ∧ Kr B b6 W (w2.setCell ⟨b6, 0, none⟩ v') ∧ ∃ u, RoI B b6 W0 (pre ++ [(x1, true)]) u (w2.setCell ⟨b6, 0, none⟩ v') := by
  have hBW := Nat.le_trans hB h.kr.size
  have hrow : ∀ r, v.ownBlock = some r → B ≤ r ∧ ∃ o : Obj, (W.alloc (.cells #[.int .i64 x1] TIN)).heap[r]? = some o ∧ o.isCells = true := fun r e => by
    obtain ⟨h1, o, h2, h3⟩ := owg_cells h.ow r e
    exact ⟨h1, o, (Below.heap_alloc W _ r (Array.getElem?_eq_some_iff.1 h2).1).trans h2, h3⟩
  have hsa : W.heap.size < (W.alloc (.cells #[.int .i64 x1] TIN)).heap.size := by simp
  have kr : Kr B b6 W (w2.setCell ⟨b6, 0, none⟩ v') := by
    refine Kr.trans (Kr.of_below ((Below.refl B W).alloc hBW (.cells #[.int .i64 x1] TIN)) (Nat.le_refl _)) (Kr.trans (B' := w2) ⟨hg.os, hg.tape, hg.output, hg.size, fun k hk _ => hg.block k (by omega) (fun e => by have := (hrow k e.symm).1; omega)⟩ ?_)
    exact ⟨rfl, rfl, rfl, by simp [World.setCell], fun k hk hne => Below.heap_setCell _ _ _ _ hne⟩
  refine ⟨((KeepsOthers.alloc W _).from B).trans ((keepsFrom_grown hg (fun r e => (hrow r e).2)).trans ((KeepsOthers.setCell w2 _ v').from B)), kr, v', ?_, ?_, ?_, h.kr.trans kr⟩
  · intro x hx
    rcases List.mem_append.1 hx with hx | hx
    · exact h.all x hx
    · simp at hx; rw [hx]
  · exact (boxed_past hg h.bx (rowne h.ow hb)).set v'
  · refine owg_keep (W := w2) ?_ (fun r hr _ => Below.heap_setCell _ _ _ _ (by show r ≠ b6; omega))
    have e : (pre ++ [(x1, true)]).map (·.1) = pre.map (·.1) ++ [x1] := by simp
    rw [e]
    unfold OwG
    rw [rowsG_app, List.length_append, List.length_map]
    exact ho

set_option maxHeartbeats 16000000 in
theorem Route_c (v vd : Value) (l : List Mt) (ds : List Bs) (w : World) (hv : NsM w v l) (hd : Tx w vd ds) (hs : SzM l) (hsd : ∀ d ∈ ds, d.length ≤ 140737488355328) (hdn : ds.length ≤ 50000) :
    Calls Try.prog 14 #[v, vd] w (RtR l ds w) := by
  have h1 := fun W (f : Fp Non w W) => RightM_c v l W (hv.non f) hs.p hs.n
  have hvx := hv.ex
  obtain ⟨ao, cap, rfl, hcap, hcm, hN⟩ := hvx
  obtain ⟨ad, cd, rfl⟩ := hd.shape
  refine (callsIn_wide (n := 4)).1 ?_
  refine callsIn_of_wp_marks Try.func14 rfl trivial ?_ rfl
  simp only [Try.ntmps14, List.size_toArray, List.length_cons, List.length_nil, Nat.reduceAdd, Nat.reduceSub, Array.replicate_succ, Array.replicate_zero, List.push_toArray, List.append_toArray, List.nil_append, List.cons_append]
  obtain ⟨n, hn⟩ : ∃ n, n = l.length := ⟨_, rfl⟩
  obtain ⟨m, hm⟩ : ∃ m, m = ds.length := ⟨_, rfl⟩
  rw [← hn] at h1 ⊢
  rw [← hm]
  have b4 := ((Boxed.new w TLI (.slice none 0 0)).alloc (.cells #[.bool false] 4))
  have b5 := Boxed.new (w.alloc (.cells #[.slice none 0 0] TLI)) 4 (.bool false)
  have hf2 := (fp_alloc w (.cells #[.slice none 0 0] TLI)).then (fp_alloc (w.alloc (.cells #[.slice none 0 0] TLI)) (.cells #[.bool false] 4))
  have hs2 : ((w.alloc (.cells #[.slice none 0 0] TLI)).alloc (.cells #[.bool false] 4)).heap.size = w.heap.size + 2 := by simp
  simp only [World.size_alloc] at b5
  have H1 := Lib.hid h1
  have HX := Lib.hid (And.intro hn (And.intro hm (And.intro hcap (And.intro hcm (And.intro hN (And.intro hs (And.intro hsd (And.intro hdn hd))))))))
  have HB := Lib.hid (And.intro b4 (And.intro b5 (And.intro hf2 hs2)))
  clear h1 hn hm hcap hcm hN hs hsd hdn hd hv b4 b5 hf2 hs2
  cases hr : rightM l with
  | false =>
    have HR := Lib.hid (rt_no (ds := ds) (by unfold rtB; rw [hr]; rfl))
    rw [hr] at H1
    clear hr
    gi_wp2_with (refine ⟨trivial, ?_⟩; gi_at_call 19; refine (callsIn_wide.2 (H1.out _ HB.out.2.2.1)).mono ?_; rintro e w1 ⟨rfl, f1⟩; have K1 := Lib.hid (And.intro (f1.heap HB.out.1 (fun h => h)) (And.intro (f1.heap HB.out.2.1 (fun h => h)) (HB.out.2.2.1.then f1))); have c4 := (show Boxed w1 w.heap.size TLI (.slice none 0 0) from K1.out.1).cell; have z4 := (show Boxed w1 w.heap.size TLI (.slice none 0 0) from K1.out.1).frozen; have c5 := (show Boxed w1 (w.heap.size + 1) 4 (.bool false) from K1.out.2.1).cell; have z5 := (show Boxed w1 (w.heap.size + 1) 4 (.bool false) from K1.out.2.1).frozen; clear f1)
    have hne : w.heap.size ≠ w.heap.size + 1 := by omega
    have g4 := ((show Boxed w1 w.heap.size TLI (.slice none 0 0) from K1.out.1).set (.slice none 0 0)).other hne (.bool false)
    have g5 := ((show Boxed w1 (w.heap.size + 1) 4 (.bool false) from K1.out.2.1).other hne.symm (.slice none 0 0)).set (.bool false)
    have x4 := g4.cell
    have x5 := g5.cell
    refine ⟨.tuple #[.slice none 0 0, .bool false], by simp [results, Try.f14, go_sem, x4, x5], ⟨_, by rw [HR.out.1], by rw [HR.out.2]; exact Sg.nil _⟩, ?_⟩
    exact (K1.out.2.2.setCell (p := ⟨w.heap.size, 0, none⟩) (.inr (Nat.le_refl _)) _).setCell (p := ⟨w.heap.size + 1, 0, none⟩) (.inr (Nat.le_succ _)) _
  | true =>
    have HR := Lib.hid ((right_ifft l).1 hr)
    rw [hr] at H1
    clear hr
    gi_wp2_with (refine ⟨trivial, ?_⟩; first | (gi_at_call 19; refine (callsIn_wide.2 (H1.out _ HB.out.2.2.1)).mono ?_; rintro e w1 ⟨rfl, f1⟩; have K1 := Lib.hid (And.intro (f1.heap HB.out.1 (fun h => h)) (And.intro (f1.heap HB.out.2.1 (fun h => h)) (And.intro (HB.out.2.2.1.then f1) (show w.heap.size + 2 ≤ w1.heap.size from by have h1 := f1.size; have h2 := HB.out.2.2.2; omega)))); clear f1) | (gi_at_call 28; refine (groups_in _ _ _ _ _ _ _ _).mono ?_; rintro e w' ⟨rfl, rfl⟩))
    obtain ⟨b4, b5, hf1, hs1⟩ := K1.out
    have hf3 := ((fp_alloc w1 (.cells #[.slice none 0 0] TLI)).then (fp_alloc _ (.cells #[.slice ao n cap] TLM))).then (fp_alloc _ (.cells #[.slice ad m cd] TLT))
    have b6 := ((Boxed.new w1 TLI (.slice none 0 0)).alloc (.cells #[.slice ao n cap] TLM)).alloc (.cells #[.slice ad m cd] TLT)
    have bl := (Boxed.new (w1.alloc (.cells #[.slice none 0 0] TLI)) TLM (.slice ao n cap)).alloc (.cells #[.slice ad m cd] TLT)
    have bd := Boxed.new ((w1.alloc (.cells #[.slice none 0 0] TLI)).alloc (.cells #[.slice ao n cap] TLM)) TLT (.slice ad m cd)
    simp only [World.size_alloc] at bl bd
    have hsz : (((w1.alloc (.cells #[.slice none 0 0] TLI)).alloc (.cells #[.slice ao n cap] TLM)).alloc (.cells #[.slice ad m cd] TLT)).heap.size = w1.heap.size + 3 := by simp
    obtain ⟨W0, hW0⟩ : ∃ W0, ((w1.alloc (.cells #[.slice none 0 0] TLI)).alloc (.cells #[.slice ao n cap] TLM)).alloc (.cells #[.slice ad m cd] TLT) = W0 := ⟨_, rfl⟩
    rw [show (48 : TypeId) = TLI from rfl, hW0]
    rw [hW0] at hf3 b6 bl bd hsz
    clear hW0
    have c4 : Boxed W0 w.heap.size TLI (.slice none 0 0) := hf3.heap b4 (fun h => h)
    have c5 : Boxed W0 (w.heap.size + 1) 4 (.bool false) := hf3.heap b5 (fun h => h)
    have hf0 := hf1.then hf3
    obtain ⟨b, hb⟩ : ∃ b, b = w1.heap.size := ⟨_, rfl⟩
    rw [← hb] at b6 bl bd hsz hs1 ⊢
    have HH := Lib.hid (And.intro hf0 (And.intro hsz hs1))
    have HW := Lib.hid (And.intro b6 (And.intro bl (And.intro bd (And.intro c4 c5))))
    clear b4 b5 hf1 hf3 b6 bl bd hb c4 c5 K1 H1 HB
    have hLow : LowM W0.heap.size b W0 ao l := by
      rcases HX.out.2.2.2.2.1 with h | ⟨g, o, e, hg, hi⟩
      · exact .inl h
      · exact .inr ⟨g, o, e, by have := HH.out.2; omega, by have := HH.out.2; omega, fun i h => (hi i h).keep HH.out.1 (fun h => h)⟩
    have hLoT : LowT W0.heap.size b W0 ad ds := by
      obtain ⟨ax, cx, e, h⟩ := HX.out.2.2.2.2.2.2.2.2.ex
      injection e with e1 _ _
      subst e1
      rcases h with h | ⟨g, o, e, hi⟩
      · exact .inl h
      · by_cases h0 : ds = []
        · exact .inl h0
        · have hlt := World.block_lt_of_cell? w _ (hi 0 (List.length_pos_iff.2 h0))
          exact .inr ⟨g, o, e, by have := HH.out.2; simp at hlt; omega, by have := HH.out.2; simp at hlt; omega, fun i h => HH.out.1.cell (hi i h) (fun h => h)⟩
    refine wpIn_rangeFunc_ownH rfl (by omega) (gf := 46) (lb := #[.pointer (some ⟨b + 1 + 1, 0, none⟩), .pointer (some ⟨b + 1, 0, none⟩)]) rfl trivial (enters_of Try.func46 (by kernel_rfl) rfl)
      (encs := fun x : Int × Bool => #[.int .i64 x.1, .bool x.2]) (Kp := Kr W0.heap.size b) (S := fun ys => ys = ds.map (gkM l)) (Sp := fun pre => ∃ k, k ≤ ds.length ∧ pre = (ds.take k).map (gkM l)) (N := ds.length) (w0 := W0)
      (fun lp J Jx W hW hAb _ hY h0 => by
        have hx := HX.out
        rw [hx.1, hx.2.1] at HW
        refine (groups1_in _ (by omega) lp (b + 1) (b + 1 + 1) W0.heap.size b ao cap l ad cd ds hx.2.2.1 hx.2.2.2.1 hx.2.2.2.2.2.1 hx.2.2.2.2.2.2.1 (by have := hx.2.2.2.2.2.2.2.1; omega) J Jx (own_seq J hAb) hY W hW.size (by have := HH.out.2.1; omega) (by omega) (by have := HH.out.2.1; omega) (by omega)
          ((hW.cell (p := ⟨b + 1, 0, none⟩) (by have := HH.out.2.1; simp; omega)).trans (show Boxed W0 (b + 1) TLM _ from HW.out.2.1).cell) ((hW.cell (p := ⟨b + 1 + 1, 0, none⟩) (by have := HH.out.2.1; simp; omega)).trans (show Boxed W0 (b + 1 + 1) TLT _ from HW.out.2.2.1).cell) (hLow.kr (Kr.of_below hW (Nat.le_refl _))) (hLoT.kr (Kr.of_below hW (Nat.le_refl _))) h0).mono ?_
        rintro e W' ⟨he, ⟨ys, hy, hj⟩ | ⟨pre, hk, hj⟩⟩
        · exact ⟨he, .inl ⟨ys, hy, hj⟩⟩
        · exact ⟨he, .inr ⟨pre, hk, hj⟩⟩)
      (fun h k => h.trans k) (fun W l o o' h1 h2 h3 h4 => krK_b W l o o' h1 h2 h3 h4) (Below.refl _ _) (fun _ => rfl)
      (fun pre W => ∃ v, RoI W0.heap.size b W0 pre v W)
      (fun c pre W => (c = .ret ∧ (∃ x ∈ pre, x.2 = false) ∧ Boxed W w.heap.size TLI (.slice none 0 0) ∧ Boxed W (w.heap.size + 1) 4 (.bool false)) ∧ Below w.heap.size w W)
      (RoI.from _ _ _ (Nat.le_refl _))
      (fun c => OwnFrom.and (Own.from (fun s X Y row hs hg hr => ⟨hs.1, hs.2.1, boxed_own _ TLI (fun (_ : Unit) => Value.slice none 0 0) () X Y row hs.2.2.1 hg hr, boxed_own _ 4 (fun (_ : Unit) => Value.bool false) () X Y row hs.2.2.2 hg hr⟩) _) (ownFrom_below (Nat.le_refl _) (by have := HH.out.2; omega)))
      ⟨.slice none 0 0, ⟨by simp, HW.out.1, OwG.nil _ _, Kr.refl _⟩⟩
      (fun x a' W => a' = { tmps := #[.slice ao n cap, .slice ad m cd, undef, undef, .pointer (some ⟨w.heap.size, 0, none⟩), .pointer (some ⟨w.heap.size + 1, 0, none⟩), .pointer (some ⟨b, 0, none⟩), .int .i64 x.1, .bool x.2, .slice ao n cap, .bool true, .bool false, .slice ao n cap, .slice ad m cd, .func (.func 46) #[] #[.pointer (some ⟨b + 1 + 1, 0, none⟩), .pointer (some ⟨b + 1, 0, none⟩)], .int .i64 x.1, .bool x.2, undef, undef, undef, undef, undef, undef, undef], defers := [] })
      (fun x a' _ X Y row hs hg hr => hs)
      ?assign ?body ?done ?stop
    case assign =>
      rintro lp pre x W K hI hK
      gi_wp2
      exact hK _ _ (KeepsFrom.refl _ _) (Kr.refl _) hI rfl
    case body =>
      rintro lp pre x a' W hlp ⟨r, hr⟩ ⟨vR, hI⟩ rfl hlt
      obtain ⟨x1, x2⟩ := x
      have hsb := HH.out.2
      have k4 : Boxed W w.heap.size TLI (.slice none 0 0) := (hI.kr.block _ (by omega) (by omega)).trans HW.out.2.2.2.1
      have k5 : Boxed W (w.heap.size + 1) 4 (.bool false) := (hI.kr.block _ (by omega) (by omega)).trans HW.out.2.2.2.2
      have hfw := hI.kr.fp HH.out.1 (by omega) (by omega)
      have HI := Lib.hid (And.intro hI (And.intro hfw hsb))
      cases x2 with
      | false =>
        have c4 := k4.cell
        have z4 := k4.frozen
        have c5 := k5.cell
        have z5 := k5.frozen
        have hne : w.heap.size ≠ w.heap.size + 1 := by omega
        have G4 := Lib.hid ((k4.set (.slice none 0 0)).other hne (.bool false))
        have G5 := Lib.hid ((k5.other hne.symm (.slice none 0 0)).set (.bool false))
        clear hI hfw k4 k5 hne hsb
        gi_wp2
        refine ⟨((KeepsOthers.setCell _ _ _).trans (KeepsOthers.setCell _ _ _)).from _, ⟨rfl, ⟨(x1, false), by simp, rfl⟩, G4.out, G5.out⟩, ?_⟩
        exact (((HI.out.2.1.below (fun _ h => h.elim) (Nat.le_refl _)).setCell (p := ⟨w.heap.size, 0, none⟩) (Nat.le_refl _) _).setCell (p := ⟨w.heap.size + 1, 0, none⟩) (Nat.le_succ _) _)
      | true =>
        obtain ⟨aR, cR, hvr⟩ := hI.shape
        subst hvr
        have c6 := hI.bx.cell
        have z6 := hI.bx.frozen
        obtain ⟨i0, hi, hz0, hz1, hz2⟩ := info_parts Try.infoI
        have hlen : pre.length ≤ 50000 := by have := HX.out.2.2.2.2.2.2.2.1; omega
        have hw0 := hI.kr.size
        have HOW := Lib.hid hI.ow
        clear k4 k5 hfw hI hsb
        gi_wp2_with (gi_at_builtin; go_must (refine wpListIn_append_own _ rfl _ _ TLI rfl W0.heap.size TIN i0 (.int .i64 0) 1 8 Try.underlying48 hi hz0 hz1 hz2 rfl (by decide) _ _ _ rfl (World.ownsRow.alloc HOW.out _) ⟨W.heap.size, 0, none⟩ 1 1 [.int .i64 x1] rfl rfl (c1new _ _ _) (by simp [Value.oneCell']) (by unfold maxLen; simp; omega) (by simp; omega) (by simp; omega) ?_); intro v' w2 hown' hgrow _; obtain ⟨gv, cv, rfl⟩ := ownsRow_succ hown'; have HO2 := Lib.hid (And.intro hown' hgrow); have y6 : w2.cell? ⟨b, 0, none⟩ = some (.slice aR pre.length cR) := (boxed_past hgrow HI.out.1.bx (rowne HI.out.1.ow (by have := HI.out.2.2; omega))).cell; have yz : w2.frozen? ⟨b, 0, none⟩ = false := (boxed_past hgrow HI.out.1.bx (rowne HI.out.1.ow (by have := HI.out.2.2; omega))).frozen; clear hown' hgrow)
        exact RoI.step HI.out.1 (Nat.le_refl _) (by have := HI.out.2.2; omega) (by have h := HO2.out.1; simp only [List.length_map] at h; exact h) HO2.out.2
    case done =>
      rintro D ys W hD rfl ⟨vR, hI⟩ hK
      have hsb := HH.out.2
      have k4 : Boxed W w.heap.size TLI (.slice none 0 0) := (hI.kr.block _ (by omega) (by omega)).trans HW.out.2.2.2.1
      have k5 : Boxed W (w.heap.size + 1) 4 (.bool false) := (hI.kr.block _ (by omega) (by omega)).trans HW.out.2.2.2.2
      have hfw := hI.kr.fp HH.out.1 (by omega) (by omega)
      obtain ⟨aR, cR, hvr⟩ := hI.shape
      subst hvr
      have c6 := hI.bx.cell
      have c4 := k4.cell
      have z4 := k4.frozen
      have c5 := k5.cell
      have z5 := k5.frozen
      have hne : w.heap.size ≠ w.heap.size + 1 := by omega
      have HI := Lib.hid (And.intro hI (And.intro hfw (And.intro k4 (And.intro k5 (And.intro hsb hne)))))
      have hrt := rt_yes HR.out hI.all
      generalize hgn : (ds.map (gkM l)).length = gn at *
      have HT := Lib.hid (And.intro hrt hgn)
      clear hI hfw k4 k5 hsb hne hrt hgn
      gi_wp2
      have G4 := ((HI.out.2.2.1.set (.slice aR gn cR)).other HI.out.2.2.2.2.2 (.bool true))
      have G5 := ((HI.out.2.2.2.1.other HI.out.2.2.2.2.2.symm (.slice aR gn cR)).set (.bool true))
      have hK' := ((KeepsOthers.setCell W ⟨w.heap.size, 0, none⟩ (.slice aR gn cR)).trans (KeepsOthers.setCell _ ⟨w.heap.size + 1, 0, none⟩ (.bool true))).same D _ hK rfl
      have hsb := HI.out.2.2.2.2.1
      have how := owg_keep (W' := (W.setCell ⟨w.heap.size, 0, none⟩ (.slice aR gn cR)).setCell ⟨w.heap.size + 1, 0, none⟩ (.bool true)) HI.out.1.ow (fun r hr _ => (Below.heap_setCell _ _ _ _ (by show r ≠ w.heap.size + 1; omega)).trans (Below.heap_setCell _ _ _ _ (by show r ≠ w.heap.size; omega)))
      have hfx := ((HI.out.2.1.below (fun _ h => h.elim) (Nat.le_refl _)).setCell (p := ⟨w.heap.size, 0, none⟩) (Nat.le_refl _) (.slice aR gn cR)).setCell (p := ⟨w.heap.size + 1, 0, none⟩) (Nat.le_succ _) (.bool true)
      generalize ((W.setCell ⟨w.heap.size, 0, none⟩ (.slice aR gn cR)).setCell ⟨w.heap.size + 1, 0, none⟩ (.bool true)) = Wx at *
      refine ⟨by simp, .inl ⟨_, _, rfl, run_takeDeferred hK', ?_⟩⟩
      have x4 := cell_kept G4.cell (grownBy_putObj' _ D (.deferred none)) (fun r e => by cases e; exact ⟨_, hK', rfl⟩)
      have x5 := cell_kept G5.cell (grownBy_putObj' _ D (.deferred none)) (fun r e => by cases e; exact ⟨_, hK', rfl⟩)
      have hoz := own_owg W0.heap.size (fun (_ : Unit) => Value.slice aR gn cR) (fun _ => (ds.map (gkM l)).map (·.1)) () Wx _ (some D) how (grownBy_putObj' _ D (.deferred none)) (fun r e => by cases e; exact ⟨_, hK', rfl⟩)
      exact ⟨.tuple #[.slice aR gn cR, .bool true], by simp [results, Try.f14, go_sem, x4, x5], ⟨_, by rw [HT.out.1.1], by rw [HT.out.1.2]; exact OwG.sg inC_len hoz⟩, Fp.of_below (hfx.trans (belowK_b (w := w) (Nat.le_refl _) _ D _ _ (by omega) hK' rfl rfl))⟩
    case stop =>
      rintro D c pre W hD ⟨k, hk, rfl⟩ ⟨⟨rfl, ⟨x, hx, h2⟩, k4, k5⟩, hB⟩ hK
      have hsb := HH.out.2
      have hxm : x ∈ ds.map (gkM l) := by
        obtain ⟨d, hd, e⟩ := List.mem_map.1 hx
        exact List.mem_map.2 ⟨d, List.mem_of_mem_take hd, e⟩
      have HT := Lib.hid (rt_no (rt_bad HR.out hxm h2))
      clear hx hxm h2
      gi_wp2
      refine ⟨by simp, .inl ⟨_, _, rfl, run_takeDeferred hK, ?_⟩⟩
      have x4 := cell_kept k4.cell (grownBy_putObj' _ D (.deferred none)) (fun r e => by cases e; exact ⟨_, hK, rfl⟩)
      have x5 := cell_kept k5.cell (grownBy_putObj' _ D (.deferred none)) (fun r e => by cases e; exact ⟨_, hK, rfl⟩)
      exact ⟨.tuple #[.slice none 0 0, .bool false], by simp [results, Try.f14, go_sem, x4, x5], ⟨_, by rw [HT.out.1], by rw [HT.out.2]; exact Sg.nil _⟩, Fp.of_below (hB.trans (belowK_b (w := w) (Nat.le_refl _) W D _ _ (by omega) hK rfl rfl))⟩
end Go.Proofs.Ytdfnfkknbjageaa

/- Plain lists: a path taken apart byte by byte, as a loop does it. -/
namespace Go.Proofs.Ytdfnfkknbjageaa
set_option maxRecDepth 20000
namespace Pm

/-- What is still to come of the loop: parts so far, the one at hand, the rest. -/
def sp (acc : List Bs) (cur : Bs) : Bs → Option (List Bs)
  | [] => if isPart cur = true ∧ acc.length < 6 then some (acc ++ [cur]) else none
  | c :: r => if c ≠ 47 then sp acc (cur ++ [c]) r else if isPart cur = true ∧ acc.length < 6 then sp (acc ++ [cur]) [] r else none

theorem cut_head {c : UInt8} {l : Bs} (h : c ≠ 47) : cut (c :: l) = ([], []) := by simp [cut, h]
theorem splitN_bad {n : Nat} {c : UInt8} {l : Bs} (h : c ≠ 47) : splitN n (c :: l) = none := by
  cases n with
  | zero => rfl
  | succ n => unfold splitN; rw [cut_head h]; simp

/-- A piece that is no part ends it. -/
theorem splitN_no (n : Nat) (cur rest : Bs) (hc : ∀ c ∈ cur, c ≠ 47) (hr : rest = [] ∨ ∃ t, rest = 47 :: t) (hp : isPart cur = false) : splitN n (47 :: (cur ++ rest)) = none := by
  cases n with
  | zero => rfl
  | succ n =>
    by_cases h0 : cur = []
    · subst h0
      have e : pl 12 rest = 0 := by
        rcases hr with rfl | ⟨t, rfl⟩
        · rfl
        · simp [pl, show okB 47 = false from by decide]
      unfold splitN
      simp [cut, e]
    · have hlt : pl 12 cur < cur.length := by
        have h1 := pl_len 12 cur
        rcases Nat.lt_or_eq_of_le h1 with h | h
        · exact h
        · rw [(isPart_iff cur).2 ⟨h0, h⟩] at hp; cases hp
      have e : pl 12 (cur ++ rest) = pl 12 cur := by
        have key : ∀ (k : Nat) (x : Bs), pl k x < x.length → pl k (x ++ rest) = pl k x := by
          intro k
          induction k with
          | zero => intro x _; cases x <;> simp [pl]
          | succ k ih =>
            intro x hx
            cases x with
            | nil => simp at hx
            | cons c x =>
              by_cases hok : okB c = true
              · simp [pl, hok] at hx ⊢
                exact ih x hx
              · simp [pl, hok]
        exact key 12 cur hlt
      obtain ⟨c, t, hd⟩ : ∃ c t, cur.drop (pl 12 cur) = c :: t := by
        cases hh : cur.drop (pl 12 cur) with
        | nil => have := congrArg List.length hh; simp at this; omega
        | cons c t => exact ⟨c, t, rfl⟩
      have hne : c ≠ 47 := hc c (List.mem_of_mem_drop (by rw [hd]; simp))
      have e2 : (cur ++ rest).drop (pl 12 cur) = c :: (t ++ rest) := by
        rw [List.drop_append_of_le_length (by omega), hd]; rfl
      unfold splitN
      have ec : cut (47 :: (cur ++ rest)) = ((cur ++ rest).take (pl 12 cur), c :: (t ++ rest)) := by
        show ((cur ++ rest).take (pl 12 (cur ++ rest)), (cur ++ rest).drop (pl 12 (cur ++ rest))) = _
        rw [e, e2]
      rw [ec]
      simp only
      rw [splitN_bad hne]
      simp

theorem splitN_part (n : Nat) (cur rest : Bs) (hr : rest = [] ∨ ∃ t, rest = 47 :: t) (hp : isPart cur = true) :
    splitN (n + 1) (47 :: (cur ++ rest)) = if rest = [] then some [cur] else (splitN n rest).map (cur :: ·) := by
  have hi := (isPart_iff cur).1 hp
  have e := pl_app 12 cur rest hi.2 hr
  have ec : cut (47 :: (cur ++ rest)) = (cur, rest) := by
    show ((cur ++ rest).take (pl 12 (cur ++ rest)), (cur ++ rest).drop (pl 12 (cur ++ rest))) = _
    rw [e]; simp
  conv => lhs; unfold splitN
  rw [ec]; simp only; rw [if_neg hi.1]

theorem sp_eq : ∀ (rest cur : Bs) (acc : List Bs), acc.length ≤ 6 → (∀ c ∈ cur, c ≠ 47) → sp acc cur rest = (splitN (6 - acc.length) (47 :: (cur ++ rest))).map (acc ++ ·)
  | [], cur, acc, ha, hc => by
    unfold sp
    cases hp : isPart cur with
    | false => rw [splitN_no _ cur [] hc (Or.inl rfl) hp]; simp
    | true =>
      by_cases h6 : acc.length < 6
      · rw [show 6 - acc.length = (5 - acc.length) + 1 by omega, splitN_part _ cur [] (Or.inl rfl) hp]; simp [h6]
      · rw [show 6 - acc.length = 0 by omega]; simp [h6, splitN]
  | c :: r, cur, acc, ha, hc => by
    unfold sp
    by_cases h47 : c ≠ 47
    · rw [if_pos h47, sp_eq r (cur ++ [c]) acc ha (fun x hx => by rw [List.mem_append] at hx; rcases hx with hx | hx; exact hc x hx; simp at hx; rw [hx]; exact h47)]
      simp
    · have h47' : c = 47 := Decidable.not_not.1 h47
      subst h47'
      rw [if_neg h47]
      cases hp : isPart cur with
      | false => rw [splitN_no _ cur (47 :: r) hc (Or.inr ⟨r, rfl⟩) hp]; simp
      | true =>
        by_cases h6 : acc.length < 6
        · rw [if_pos ⟨rfl, h6⟩, sp_eq r [] (acc ++ [cur]) (by simp; omega) (by simp),
            show 6 - acc.length = (5 - acc.length) + 1 by omega, splitN_part _ cur (47 :: r) (Or.inr ⟨r, rfl⟩) hp]
          simp only [List.nil_append, List.length_append, List.length_cons, List.length_nil]
          rw [show 6 - (acc.length + (0 + 1)) = 5 - acc.length by omega, if_neg (by simp)]
          simp [Function.comp_def]
        · rw [if_neg (fun h => h6 h.2), show 6 - acc.length = 0 by omega]; simp [splitN]

/-- The whole loop. -/
theorem sp_split (r : Bs) (h : r ≠ []) : split (47 :: r) = sp [] [] r := by
  rw [sp_eq r [] [] (by simp) (by simp)]
  unfold split
  rw [if_neg (by simpa using h)]
  simp
theorem split_other {c : UInt8} {r : Bs} (h : c ≠ 47) : split (c :: r) = none := by
  unfold split; rw [if_neg (by rintro ⟨⟩; exact h rfl), splitN_bad h]
theorem split_nil : split [] = none := by decide

theorem isPart_all (l : Bs) : isPart l = (decide (1 ≤ l.length ∧ l.length ≤ 12) && l.all okB) := by
  rw [Bool.eq_iff_iff, isPart_iff]
  simp only [Bool.and_eq_true, decide_eq_true_eq, List.all_eq_true]
  constructor
  · rintro ⟨h0, h1⟩
    have hp := isPart_len ((isPart_iff l).2 ⟨h0, h1⟩)
    refine ⟨hp, ?_⟩
    have key : ∀ (k : Nat) (x : Bs), pl k x = x.length → ∀ c ∈ x, okB c = true := by
      intro k
      induction k with
      | zero => intro x hx c hc; cases x with
        | nil => cases hc
        | cons a x => simp [pl] at hx
      | succ k ih =>
        intro x hx c hc
        cases x with
        | nil => cases hc
        | cons a x =>
          by_cases ha : okB a = true
          · simp [pl, ha] at hx
            rcases List.mem_cons.1 hc with rfl | hc
            · exact ha
            · exact ih x hx c hc
          · simp [pl, ha] at hx
    exact key 12 l h1
  · rintro ⟨⟨h1, h2⟩, h3⟩
    refine ⟨by rintro rfl; simp at h1, ?_⟩
    rw [pl_all 12 l h3]; omega

end Pm
end Go.Proofs.Ytdfnfkknbjageaa

