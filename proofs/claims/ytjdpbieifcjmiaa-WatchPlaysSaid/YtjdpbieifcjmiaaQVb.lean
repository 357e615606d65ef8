/- A text of this proof. -/
import Derived.Test.YtjdpbieifcjmiaaZA
import Derived.Test.YtjdpbieifcjmiaaZc
import Derived.Deep.CutRange
import Derived.Deep.Upon
/- The document's Close (gen_vb.py) -/
namespace Go.Proofs.Ytjdpbieifcjmiaa
set_option maxRecDepth 20000
set_option linter.unusedVariables false
set_option linter.unusedSimpArgs false
open Go.RowKit Pm

theorem app_emptyP {w : World} {g lo : Nat} {v : Value} {l : List Wt} (hg : w.heap[g]? = some (.cells #[] TW (0, 0))) (hlo : lo ≤ g) (hv : NsW w v l) (hl : l.length ≤ 100000) (ty : TypeId) :
    ∃ v' w', (Builtin.append_ #[TLW, TLW] ty #[.slice (some ⟨g, 0, none⟩) 0 0, v]).run Try.prog w = .ok v' w' ∧ OwW lo w' v' l ∧ Fp (fun k => k = g) w w' := by
  have hlt : g < w.heap.size := (Array.getElem?_eq_some_iff.1 hg).1
  have hown : OwW lo w (.slice (some ⟨g, 0, none⟩) 0 0) [] := ⟨rfl, .inr ⟨g, 0, #[], rfl, hlo, hg, Nat.le_refl _, Nat.zero_le _, rfl, rfl⟩⟩
  obtain ⟨ao, cap, rfl, h1, h2, h3⟩ := hv.ex
  cases ao with
  | none =>
    obtain rfl : l = [] := by
      rcases h3 with h | ⟨_, _, h, _⟩
      · exact h
      · cases h
    obtain ⟨i, hi, hz, hsz, hby⟩ := info_parts Try.infoW
    exact ⟨_, _, run_append_nothing w TLW TLW ty TW i Try.underlying22 hi _ 0 0 (Nat.le_refl _) _ (Src.ofNil w Try.underlying22 cap), hown, Fp.refl _ _⟩
  | some a =>
    have hx : ∀ i (h : i < l.length) j u, (wtC l[i])[j]? = some u → w.cell? (a.add (i * 4 + j)) = some u := fun i hi j u hu => by
      rcases h3 with h | ⟨g', o, e, _, hc⟩
      · subst h; simp at hi
      · injection e with e; subst e
        have := (hc i hi).get j u hu
        rw [Addr.add_lit] at this ⊢
        rwa [Nat.add_assoc] at this
    obtain ⟨v', w', hr, ho, hgr, _⟩ := app_ownW w lo _ [] l ty a l.length cap hown rfl hx (by simp; omega) (Nat.le_trans hlo (Nat.le_of_lt hlt))
    exact ⟨v', w', hr, ho, (Fp.refl _ w).grown hgr (fun k hk => .inl (by simp [Value.ownBlock] at hk; exact hk.symm))⟩


theorem NsW.takeN {w : World} {a : Option Addr} {n cap : Nat} {l : List Wt} (h : NsW w (.slice a n cap) l) (k : Nat) (hk : k ≤ l.length) : NsW w (.slice a k cap) (l.take k) := by
  obtain ⟨ao, cap', e, h1, h2, h3⟩ := h.ex
  injection e with e1 e2 e3
  subst e1 e3
  have hl : (l.take k).length = k := by rw [List.length_take]; omega
  refine ⟨_, _, by rw [hl], by rw [hl]; omega, h2, ?_⟩
  rcases h3 with h3 | ⟨g, o, e4, hg, hc⟩
  · subst h3; exact .inl (by simp)
  · exact .inr ⟨g, o, e4, hg, fun i hi => by rw [List.getElem_take]; exact hc i (by rw [hl] at hi; omega)⟩
theorem NsW.dropN {w : World} {a : Option Addr} {n cap : Nat} {l : List Wt} (h : NsW w (.slice a n cap) l) (k : Nat) (hk : k ≤ l.length) : NsW w (.slice (a.map fun p => p.add (k * 4)) (n - k) (cap - k)) (l.drop k) := by
  obtain ⟨ao, cap', e, h1, h2, h3⟩ := h.ex
  injection e with e1 e2 e3
  subst e1 e3
  have hl : (l.drop k).length = n - k := by rw [List.length_drop]; omega
  refine ⟨_, _, by rw [hl], by rw [hl]; omega, by omega, ?_⟩
  rcases h3 with h3 | ⟨g, o, e4, hg, hc⟩
  · subst h3; exact .inl (by simp)
  · subst e4
    refine .inr ⟨g, o + k * 4, by simp [Addr.add], hg, fun i hi => ?_⟩
    rw [List.getElem_drop]
    have := hc (k + i) (by rw [hl] at hi; omega)
    rw [show o + k * 4 + i * 4 = o + (k + i) * 4 from by omega]
    exact this
theorem NsW.none {w : World} {a : Option Addr} : NsW w (.slice a 0 0) [] := ⟨_, _, rfl, Nat.le_refl _, Nat.zero_le _, .inl rfl⟩
/-- What stands while the watches are copied. -/
structure Cst (w0 : World) (l : List Wt) (e1 : Option Nat) (r1 : Option Value) (W : World) : Prop where
  f : Fp Non w0 W
  e1 : ∀ g, e1 = some g → W.heap[g]? = some (.cells #[] TW (0, 0)) ∧ w0.heap.size ≤ g
  r1 : ∀ v, r1 = some v → OwW w0.heap.size W v l
theorem Cst.start (w0 : World) (l : List Wt) : Cst w0 l none none w0 := ⟨Fp.refl _ _, fun _ h => (by cases h), fun _ h => (by cases h)⟩
theorem Cst.non {w0 : World} {l : List Wt} {e1 : Option Nat} {r1 : Option Value} {W W' : World} (h : Cst w0 l e1 r1 W) (f : Fp Non W W') : Cst w0 l e1 r1 W' :=
  ⟨h.f.then f, fun g e => ⟨f.heap (h.e1 g e).1 (fun h => h), (h.e1 g e).2⟩, fun v e => (h.r1 v e).non f⟩
theorem Cst.b1 {w0 : World} {l : List Wt} {r1 : Option Value} {W : World} (h : Cst w0 l none r1 W) : Cst w0 l (some W.heap.size) r1 (W.alloc (.cells #[] TW)) := by
  have k := h.non (fp_alloc W (.cells #[] TW))
  exact ⟨k.f, fun g e => by injection e with e; subst e; exact ⟨heap_alloc_new W (.cells #[] TW), h.f.size⟩, k.r1⟩
theorem Cst.a1 {w0 : World} {l : List Wt} {g : Nat} {W : World} (h : Cst w0 l (some g) none W) {vw : Value} (hv : NsW w0 vw l) (hl : l.length ≤ 100000) (ty : TypeId) :
    ∃ v' w', (Builtin.append_ #[TLW, TLW] ty #[.slice (some ⟨g, 0, none⟩) 0 0, vw]).run Try.prog W = .ok v' w' ∧ (∃ a c, v' = .slice a l.length c) ∧ Cst w0 l none (some v') w' := by
  obtain ⟨hg, hge⟩ := h.e1 g rfl
  obtain ⟨v', w', hr, hn, hf⟩ := app_emptyP hg hge (hv.non h.f) hl ty
  exact ⟨v', w', hr, hn.ns.shape, h.f.over hf (fun k hk => by have hk : k = g := hk; omega), fun _ h => (by cases h), fun v e => (by injection e with e; subst e; exact hn)⟩
theorem Cst.a2 {w0 : World} {l k : List Wt} {v1 vm : Value} {W : World} (h : Cst w0 l none (some v1) W) (hm : NsW w0 vm k) (hl : l.length + k.length ≤ 100000) (ty : TypeId) :
    ∃ v' w', (Builtin.append_ #[TLW, TLW] ty #[v1, vm]).run Try.prog W = .ok v' w' ∧ OwW w0.heap.size w' v' (l ++ k) ∧ Fp Non w0 w' := by
  have ho := h.r1 v1 rfl
  obtain ⟨ao, cap, rfl, h1, h2, h3⟩ := (hm.non h.f).ex
  cases ao with
  | none =>
    obtain rfl : k = [] := by
      rcases h3 with h | ⟨_, _, h, _⟩
      · exact h
      · cases h
    obtain ⟨i, hi, hz, hsz, hby⟩ := info_parts Try.infoW
    obtain ⟨a, c, rfl⟩ := ho.ns.shape
    obtain ⟨_, _, e, hle, _⟩ := ho.ns.ex
    injection e with _ _ e3
    subst e3
    rw [List.append_nil]
    exact ⟨_, _, run_append_nothing W TLW TLW ty TW i Try.underlying22 hi _ _ _ hle _ (Src.ofNil W Try.underlying22 cap), ho, h.f⟩
  | some a =>
    have hx : ∀ i (h : i < k.length) j u, (wtC k[i])[j]? = some u → W.cell? (a.add (i * 4 + j)) = some u := fun i hi j u hu => by
      rcases h3 with h | ⟨g', o, e, _, hc⟩
      · subst h; simp at hi
      · injection e with e; subst e
        have := (hc i hi).get j u hu
        rw [Addr.add_lit] at this ⊢
        rwa [Nat.add_assoc] at this
    obtain ⟨v', w', hr, ho2, hgr, _⟩ := app_ownW W w0.heap.size v1 l k ty a k.length cap ho rfl hx hl h.f.size
    exact ⟨v', w', hr, ho2, h.f.over ((Fp.refl (fun k => v1.ownBlock = some k) W).grown hgr (fun k hk => .inl hk)) (fun k hk => ho.low k hk)⟩

set_option maxHeartbeats 16000000 in
theorem rClose_w (v : Value) (d : Wd) (sx nx : Int) (w : World) (hv : WdR w v d) (hz : SzD d) :
    Calls Try.prog 12 #[v, .int .i64 sx, .int .i64 nx] w (RetW (closeM d sx nx).1 (closeM d sx nx).2 w) := by
  obtain ⟨aw, cw, at_, cs, rfl⟩ := hv.vals
  obtain ⟨n, hnn⟩ : ∃ n, n = d.ws.length := ⟨_, rfl⟩
  obtain ⟨m, hmm⟩ : ∃ m, m = d.ss.length := ⟨_, rfl⟩
  rw [← hnn, ← hmm] at hv ⊢
  have f1 := fp_alloc w (.cells #[.slice aw n cw, .slice at_ m cs] TD)
  have f2 := fp_alloc (w.alloc (.cells #[.slice aw n cw, .slice at_ m cs] TD)) (.cells #[.slice none 0 0, .slice none 0 0] TD)
  have r0 := f2.heap (heap_alloc_new w (.cells #[.slice aw n cw, .slice at_ m cs] TD)) (fun h => h)
  have r1 := heap_alloc_new (w.alloc (.cells #[.slice aw n cw, .slice at_ m cs] TD)) (.cells #[.slice none 0 0, .slice none 0 0] TD)
  have sz1 : ((w.alloc (.cells #[.slice aw n cw, .slice at_ m cs] TD))).heap.size = w.heap.size + 1 := by simp
  rw [sz1] at r1
  have K0 := Lib.hid (Kp.and (Kp.row r0) (Kp.and (Kp.row r1) (Kp.and (Kp.wd (hv.non (f1.then f2))) (Kp.fp (f1.then f2)))))
  have hrr := fun W (hW : WdR W (.agg #[.slice aw n cw, .slice at_ m cs]) d) => rRight_w (.agg #[.slice aw n cw, .slice at_ m cs]) d W hW hz
  obtain ⟨T, hT⟩ : ∃ T, T = closeM d sx nx := ⟨_, rfl⟩
  rw [← hT]
  unfold closeM at hT
  obtain ⟨br, hbr⟩ : ∃ b, rightW d = b := ⟨_, rfl⟩
  rw [hbr] at hT hrr
  have HRR := Lib.hid hrr
  have HB := Lib.hid (And.intro hbr (And.intro hz (And.intro hnn hmm)))
  have HT := Lib.hid hT
  clear hv hz hnn hmm r0 r1 sz1 f1 f2 hrr hbr hT
  obtain ⟨p0, p1⟩ := boxP2 K0.out.now.1
  go_enter Try.func12, Try.ntmps12
  go_wp2_with fail
  refine (HRR.out _ K0.out.now.2.2.1).mono ?_
  rintro e w1 ⟨rfl, hf⟩
  have K1 := Lib.hid (K0.out.later hf)
  clear hf p0 p1 HRR K0
  cases br with
  | false =>
    obtain ⟨t0, t1, t2, t3, t4, t5, hz4, hf4⟩ := two_set K1.out.now.2.1 (.slice none 0 0) (.slice none 0 0)
    have HE := Lib.hid (And.intro hz4 (And.intro (K1.out.now.2.2.2.over hf4 (fun j hj => by have hj : j = w.heap.size + 1 := hj; omega)) hf4))
    clear hz4 hf4
    go_wp2_with fail
    generalize (World.setCell (World.setCell w1 _ _) _ _) = wz at *
    obtain ⟨e0, e1⟩ := boxP2 HE.out.1
    refine bodyPost_ret (v := .tuple #[.agg #[.slice none 0 0, .slice none 0 0], .int .i64 1]) (by simp [results, Try.results12, go_sem, e0, e1]) rfl ?_
    rw [show T = (⟨[], []⟩, 1) from by rw [HT.out]; simp]
    exact ⟨⟨_, _, rfl, NsW.nil _, Ses.nil _⟩, HE.out.2.1⟩
  | true =>
    obtain ⟨p0, p1⟩ := boxP2 K1.out.now.1
    have hfi := rfind_c (.agg #[.slice aw n cw, .slice at_ m cs]) d sx nx w1 K1.out.now.2.2.1 (by have := HB.out.2.1.w; omega)
    have HFI := Lib.hid hfi
    clear hfi
    go_wp2_with fail
    refine HFI.out.mono ?_
    rintro e w3 hR
    have K3 := Lib.hid (K1.out.later hR.fp)
    rcases hR.ex with ⟨hany, rfl⟩ | ⟨i, hi, rfl, hit_⟩
    · have HTT := Lib.hid (show T = (d, 62) from by rw [HT.out]; simp [hany])
      clear hany hR HFI K1 p0 p1
      obtain ⟨p0, p1⟩ := boxP2 K3.out.now.1
      obtain ⟨t0, t1, t2, t3, t4, t5, hz4, hf4⟩ := two_set K3.out.now.2.1 (.slice aw n cw) (.slice at_ m cs)
      have HE := Lib.hid (And.intro hz4 (And.intro (K3.out.now.2.2.2.over hf4 (fun j hj => by have hj : j = w.heap.size + 1 := hj; omega)) hf4))
      clear hz4 hf4
      go_wp2_with fail
      generalize (World.setCell (World.setCell w3 _ _) _ _) = wz at *
      obtain ⟨e0, e1⟩ := boxP2 HE.out.1
      refine bodyPost_ret (v := .tuple #[.agg #[.slice aw n cw, .slice at_ m cs], .int .i64 62]) (by simp [results, Try.results12, go_sem, e0, e1]) rfl ?_
      rw [HTT.out]
      obtain ⟨vw, vs, he, h1, h2⟩ := (K3.out.now.2.2.1.off K3.out.now.2.1 HE.out.2.2).ex
      injection he with he
      injection he with he
      simp only [List.cons.injEq, and_true] at he
      obtain ⟨rfl, rfl⟩ := he
      exact ⟨⟨_, _, rfl, h1, h2⟩, HE.out.2.1⟩
    · have hany : d.ws.any (hit sx nx) = true := List.any_eq_true.2 ⟨_, List.getElem_mem hi, hit_⟩
      obtain ⟨j, hj⟩ : ∃ j, j = i + 1 := ⟨_, rfl⟩
      have HTT := Lib.hid (show T = (⟨d.ws.take i ++ d.ws.drop j, d.ss⟩, 0) from by rw [hj, HT.out, ← close_at ((right_iff d).1 HB.out.1).2.1 hi hit_]; simp [hany])
      have hin : i < n := by rw [HB.out.2.2.1]; exact hi
      have hnb : n ≤ 1000000 := by have := HB.out.2.1.w; have := HB.out.2.2.1; omega
      have HJ := Lib.hid hj
      have hjn : j ≤ n := by omega
      have r4 : IntKind.i64.wrap ((i : Int) + 1) = (j : Int) := by rw [IntKind.wrap_i64]; omega
      clear hj
      have w9 : ((i : Int) < 0) = False := eq_false (by omega)
      have HI := Lib.hid hin
      clear hR hany hit_ hi HFI K1 p0 p1
      go_upto_region 6 with (fail)
      have KD := Lib.hid (K3.out.later ((Fp.refl Non w3).drew))
      have HSZ := Lib.hid (show w.heap.size + 1 < w3.drew.heap.size from (Array.getElem?_eq_some_iff.1 KD.out.now.2.1).1)
      have Hq := Lib.hid (fun W (f : Fp Non w3.drew W) => (boxP2 (KD.out.later f).now.1).1)
      obtain ⟨vw, vs, evv, hvw, hvs⟩ := KD.out.now.2.2.1.ex
      injection evv with evv
      injection evv with evv
      simp only [List.cons.injEq, and_true] at evv
      obtain ⟨rfl, rfl⟩ := evv
      have hcap : n ≤ cw := by
        obtain ⟨_, _, e, hle, _⟩ := hvw.ex
        injection e with _ e2 e3
        omega
      have hmx : cw ≤ maxLen := by
        obtain ⟨_, _, e, _, hle, _⟩ := hvw.ex
        injection e with _ e2 e3
        omega
      have HV1 := Lib.hid (hvw.takeN i (by have := HB.out.2.2.1; omega))
      have HL1 := Lib.hid (show (d.ws.take i).length = i by rw [List.length_take]; have := HB.out.2.2.1; omega)
      have HLW := Lib.hid (show (d.ws.take i).length + (d.ws.drop j).length ≤ 100000 by have := HB.out.2.1.w; rw [List.length_take, List.length_drop]; omega)
      have ST0 := Lib.hid (Cst.start w3.drew (d.ws.take i))
      have r1 : (i ≤ cw) = True := eq_true (by omega)
      have r2 : (j ≤ n) = True := eq_true (by omega)
      have HNW : Hid (n = d.ws.length) := HB.out.2.2.1
      by_cases hce : cw = j
      · have HV2 := Lib.hid (show NsW w3.drew (.slice aw 0 0) (d.ws.drop j) from by
          rw [List.drop_eq_nil_of_le (by have := HB.out.2.2.1; omega)]; exact NsW.none)
        have hne : n = cw := by omega
        clear r1 r2
        subst hce
        subst hne
        have r5 : (i ≤ n) = True := eq_true (by omega)
        clear hvw hvs
        go_wp2_with fail
        refine wp_region_held_drew (S := (fun _ => True)) (by kernel_rfl) ?_ (fun hHeld => ?_)
        · exact trivial
        generalize w3.drew = q0 at *
        refine tk 1 hHeld ?_
        refine tk 3 hHeld ?_
        refine tk 6 hHeld ?_
        refine tk 8 hHeld ?_
        refine tk 9 hHeld ?_
        refine wpAnyH_ready (rs := [0, 2, 7]) (by kernel_rfl) (by simp) ?_
        refine (AllReadyH.cons (o := ?_) (by simp only [zA, zB, zC] <;> exact rfl) (fun K hK => ?_) (AllReadyH.cons (o := ?_) (by simp only [zA, zB, zC] <;> exact rfl) (fun K hK => ?_) (AllReadyH.cons (o := ?_) (by simp only [zA, zB, zC] <;> exact rfl) (fun K hK => ?_) AllReadyH.nil)))
        · go_simp
          have ST1 := Lib.hid ST0.out.b1
          refine hK.out _ _ trivial (fun hHeld => ?_)
          clear hK K
          try simp only [zP, zN, zS, zT, zU]
          obtain ⟨g1, hg1⟩ : ∃ q, q0.heap.size = q := ⟨_, rfl⟩
          rw [hg1] at ST1 ⊢
          clear hg1
          generalize (q0.alloc (.cells #[] TW)) = z1w at *
          refine wpAnyH_ready (rs := [2, 7]) (by kernel_rfl) (by simp) ?_
          refine (AllReadyH.cons (o := ?_) (by simp only [zA, zB, zC] <;> exact rfl) (fun K hK => ?_) (AllReadyH.cons (o := ?_) (by simp only [zA, zB, zC] <;> exact rfl) (fun K hK => ?_) AllReadyH.nil))
          · have l0 := Hq.out _ ST1.out.f
            go_simp
            refine hK.out _ _ trivial (fun hHeld => ?_)
            clear hK K l0
            try simp only [zP, zN, zS, zT, zU]
            refine tk 4 hHeld ?_
            refine wpAnyH_ready (rs := [5, 7]) (by kernel_rfl) (by simp) ?_
            refine (AllReadyH.cons (o := ?_) (by simp only [zA, zB, zC] <;> exact rfl) (fun K hK => ?_) (AllReadyH.cons (o := ?_) (by simp only [zA, zB, zC] <;> exact rfl) (fun K hK => ?_) AllReadyH.nil))
            · refine step_app rfl _ _ TLW TLW rfl (.slice (some ⟨g1, 0, none⟩) 0 0) (.slice aw i n) (by first | rfl | simp [Act.eval, Act.put]) (by first | rfl | simp [Act.eval, Act.put]) _ (ST1.out.a1 HV1.out (by have := HLW.out; omega) _) ?_
              rintro v3 z3w ⟨⟨a9, c9, rfl⟩, hR⟩
              rw [HL1.out] at hR ⊢
              have ST3 := Lib.hid hR
              clear hR
              refine hK.out _ _ trivial (fun hHeld => ?_)
              clear hK K
              try simp only [zP, zN, zS, zT, zU]
              refine wpAnyH_ready (rs := [7]) (by kernel_rfl) (by simp) ?_
              refine (AllReadyH.cons (o := ?_) (by simp only [zA, zB, zC] <;> exact rfl) (fun K hK => ?_) AllReadyH.nil)
              have l0 := Hq.out _ ST3.out.f
              go_simp
              refine hK.out _ _ trivial (fun hHeld => ?_)
              clear hK K l0
              try simp only [zP, zN, zS, zT, zU]
              refine tk 10 hHeld ?_
              refine wpAnyH_ready (rs := [11]) (by kernel_rfl) (by simp) ?_
              refine (AllReadyH.cons (o := ?_) (by simp only [zA, zB, zC] <;> exact rfl) (fun K hK => ?_) AllReadyH.nil)
              refine step_app rfl _ _ TLW TLW rfl (.slice a9 i c9) (.slice aw 0 0) (by first | rfl | simp [Act.eval, Act.put]) (by first | rfl | simp [Act.eval, Act.put]) _ (ST3.out.a2 HV2.out HLW.out _) ?_
              rintro v8 w8 ⟨hO8, hF8⟩
              obtain ⟨a8, m8, c8, rfl⟩ : ∃ a m c, v8 = .slice a m c := by obtain ⟨a, c, e⟩ := hO8.ns.shape; exact ⟨a, _, c, e⟩
              have HO8 := Lib.hid hO8
              have HF8 := Lib.hid hF8
              clear hO8 hF8
              refine hK.out _ _ trivial (fun hHeld => ?_)
              clear hK K
              try simp only [zP, zN, zS, zT, zU]
              have K8 := Lib.hid (KD.out.later HF8.out)
              have rowb := K8.out.now.1
              have y0 := (boxP2 rowb).1
              have z0 := frozen_at rowb 0
              have hx1 := heap_setCell_same w8 w.heap.size 0 _ TD (.slice a8 m8 c8) rowb
              have f8 := fp_cell w8 w.heap.size 0 (.slice a8 m8 c8)
              have row2 := f8.heap K8.out.now.2.1 (fun e => by have e : w.heap.size + 1 = w.heap.size := e; omega)
              have hfp := K8.out.now.2.2.2.over f8 (fun j hj => by have hj : j = w.heap.size := hj; omega)
              have hlo : ∀ j, (Value.slice a8 m8 c8).ownBlock = some j → w.heap.size + 1 < j := fun j hj => by have h1 := HO8.out.low j hj; have h2 := HSZ.out; omega
              have how := HO8.out.keep f8 (fun j hj e => by have e : j = w.heap.size := e; have := hlo j hj; omega)
              have hss := (K8.out.now.2.2.1.off rowb f8)
              have HX := Lib.hid (And.intro hx1 (And.intro row2 (And.intro hfp (And.intro hlo (And.intro how hss)))))
              clear rowb hx1 row2 hfp hlo how hss f8
              refine tk 12 hHeld ?_
              refine wpAnyH_ready (rs := [13]) (by kernel_rfl) (by simp) ?_
              refine (AllReadyH.cons (o := ?_) (by simp only [zA, zB, zC] <;> exact rfl) (fun K hK => ?_) AllReadyH.nil)
              go_simp
              refine hK.out _ _ trivial (fun hHeld => ?_)
              clear hK K y0 z0
              try simp only [zP, zN, zS, zT, zU]
              refine yD ?_
              generalize (World.setCell w8 _ _) = w9 at *
              obtain ⟨v0, v1⟩ := boxP2 HX.out.1
              obtain ⟨t0, t1, t2, t3, t4, t5, hz4, hf4⟩ := two_set HX.out.2.1 (.slice a8 m8 c8) (.slice at_ m cs)
              have HE := Lib.hid (And.intro hz4 (And.intro (HX.out.2.2.1.over hf4 (fun j hj => by have hj : j = w.heap.size + 1 := hj; omega)) hf4))
              clear hz4 hf4
              go_wp2_with fail
              generalize (World.setCell (World.setCell w9 _ _) _ _) = wz at *
              obtain ⟨e0, e1⟩ := boxP2 HE.out.1
              refine bodyPost_ret (v := .tuple #[.agg #[.slice a8 m8 c8, .slice at_ m cs], .int .i64 0]) (by simp [results, Try.results12, go_sem, e0, e1]) rfl ?_
              rw [HTT.out]
              obtain ⟨vw2, vs2, he, h1, h2⟩ := (HX.out.2.2.2.2.2.off HX.out.2.1 HE.out.2.2).ex
              injection he with he
              injection he with he
              simp only [List.cons.injEq, and_true] at he
              obtain ⟨rfl, rfl⟩ := he
              exact ⟨⟨_, _, rfl, (HX.out.2.2.2.2.1.keep HE.out.2.2 (fun j hj e => by have e : j = w.heap.size + 1 := e; have := HX.out.2.2.2.1 j hj; omega)).ns, h2⟩, HE.out.2.1⟩
            · have l0 := Hq.out _ ST1.out.f
              go_simp
              refine hK.out _ _ trivial (fun hHeld => ?_)
              clear hK K l0
              try simp only [zP, zN, zS, zT, zU]
              refine tk 10 hHeld ?_
              refine wpAnyH_ready (rs := [5]) (by kernel_rfl) (by simp) ?_
              refine (AllReadyH.cons (o := ?_) (by simp only [zA, zB, zC] <;> exact rfl) (fun K hK => ?_) AllReadyH.nil)
              refine step_app rfl _ _ TLW TLW rfl (.slice (some ⟨g1, 0, none⟩) 0 0) (.slice aw i n) (by first | rfl | simp [Act.eval, Act.put]) (by first | rfl | simp [Act.eval, Act.put]) _ (ST1.out.a1 HV1.out (by have := HLW.out; omega) _) ?_
              rintro v6 z6w ⟨⟨a9, c9, rfl⟩, hR⟩
              rw [HL1.out] at hR ⊢
              have ST6 := Lib.hid hR
              clear hR
              refine hK.out _ _ trivial (fun hHeld => ?_)
              clear hK K
              try simp only [zP, zN, zS, zT, zU]
              refine wpAnyH_ready (rs := [11]) (by kernel_rfl) (by simp) ?_
              refine (AllReadyH.cons (o := ?_) (by simp only [zA, zB, zC] <;> exact rfl) (fun K hK => ?_) AllReadyH.nil)
              refine step_app rfl _ _ TLW TLW rfl (.slice a9 i c9) (.slice aw 0 0) (by first | rfl | simp [Act.eval, Act.put]) (by first | rfl | simp [Act.eval, Act.put]) _ (ST6.out.a2 HV2.out HLW.out _) ?_
              rintro v8 w8 ⟨hO8, hF8⟩
              obtain ⟨a8, m8, c8, rfl⟩ : ∃ a m c, v8 = .slice a m c := by obtain ⟨a, c, e⟩ := hO8.ns.shape; exact ⟨a, _, c, e⟩
              have HO8 := Lib.hid hO8
              have HF8 := Lib.hid hF8
              clear hO8 hF8
              refine hK.out _ _ trivial (fun hHeld => ?_)
              clear hK K
              try simp only [zP, zN, zS, zT, zU]
              have K8 := Lib.hid (KD.out.later HF8.out)
              have rowb := K8.out.now.1
              have y0 := (boxP2 rowb).1
              have z0 := frozen_at rowb 0
              have hx1 := heap_setCell_same w8 w.heap.size 0 _ TD (.slice a8 m8 c8) rowb
              have f8 := fp_cell w8 w.heap.size 0 (.slice a8 m8 c8)
              have row2 := f8.heap K8.out.now.2.1 (fun e => by have e : w.heap.size + 1 = w.heap.size := e; omega)
              have hfp := K8.out.now.2.2.2.over f8 (fun j hj => by have hj : j = w.heap.size := hj; omega)
              have hlo : ∀ j, (Value.slice a8 m8 c8).ownBlock = some j → w.heap.size + 1 < j := fun j hj => by have h1 := HO8.out.low j hj; have h2 := HSZ.out; omega
              have how := HO8.out.keep f8 (fun j hj e => by have e : j = w.heap.size := e; have := hlo j hj; omega)
              have hss := (K8.out.now.2.2.1.off rowb f8)
              have HX := Lib.hid (And.intro hx1 (And.intro row2 (And.intro hfp (And.intro hlo (And.intro how hss)))))
              clear rowb hx1 row2 hfp hlo how hss f8
              refine tk 12 hHeld ?_
              refine wpAnyH_ready (rs := [13]) (by kernel_rfl) (by simp) ?_
              refine (AllReadyH.cons (o := ?_) (by simp only [zA, zB, zC] <;> exact rfl) (fun K hK => ?_) AllReadyH.nil)
              go_simp
              refine hK.out _ _ trivial (fun hHeld => ?_)
              clear hK K y0 z0
              try simp only [zP, zN, zS, zT, zU]
              refine yD ?_
              generalize (World.setCell w8 _ _) = w9 at *
              obtain ⟨v0, v1⟩ := boxP2 HX.out.1
              obtain ⟨t0, t1, t2, t3, t4, t5, hz4, hf4⟩ := two_set HX.out.2.1 (.slice a8 m8 c8) (.slice at_ m cs)
              have HE := Lib.hid (And.intro hz4 (And.intro (HX.out.2.2.1.over hf4 (fun j hj => by have hj : j = w.heap.size + 1 := hj; omega)) hf4))
              clear hz4 hf4
              go_wp2_with fail
              generalize (World.setCell (World.setCell w9 _ _) _ _) = wz at *
              obtain ⟨e0, e1⟩ := boxP2 HE.out.1
              refine bodyPost_ret (v := .tuple #[.agg #[.slice a8 m8 c8, .slice at_ m cs], .int .i64 0]) (by simp [results, Try.results12, go_sem, e0, e1]) rfl ?_
              rw [HTT.out]
              obtain ⟨vw2, vs2, he, h1, h2⟩ := (HX.out.2.2.2.2.2.off HX.out.2.1 HE.out.2.2).ex
              injection he with he
              injection he with he
              simp only [List.cons.injEq, and_true] at he
              obtain ⟨rfl, rfl⟩ := he
              exact ⟨⟨_, _, rfl, (HX.out.2.2.2.2.1.keep HE.out.2.2 (fun j hj e => by have e : j = w.heap.size + 1 := e; have := HX.out.2.2.2.1 j hj; omega)).ns, h2⟩, HE.out.2.1⟩
          · have l0 := Hq.out _ ST1.out.f
            go_simp
            refine hK.out _ _ trivial (fun hHeld => ?_)
            clear hK K l0
            try simp only [zP, zN, zS, zT, zU]
            refine tk 10 hHeld ?_
            refine wpAnyH_ready (rs := [2]) (by kernel_rfl) (by simp) ?_
            refine (AllReadyH.cons (o := ?_) (by simp only [zA, zB, zC] <;> exact rfl) (fun K hK => ?_) AllReadyH.nil)
            have l0 := Hq.out _ ST1.out.f
            go_simp
            refine hK.out _ _ trivial (fun hHeld => ?_)
            clear hK K l0
            try simp only [zP, zN, zS, zT, zU]
            refine tk 4 hHeld ?_
            refine wpAnyH_ready (rs := [5]) (by kernel_rfl) (by simp) ?_
            refine (AllReadyH.cons (o := ?_) (by simp only [zA, zB, zC] <;> exact rfl) (fun K hK => ?_) AllReadyH.nil)
            refine step_app rfl _ _ TLW TLW rfl (.slice (some ⟨g1, 0, none⟩) 0 0) (.slice aw i n) (by first | rfl | simp [Act.eval, Act.put]) (by first | rfl | simp [Act.eval, Act.put]) _ (ST1.out.a1 HV1.out (by have := HLW.out; omega) _) ?_
            rintro v9 z9w ⟨⟨a9, c9, rfl⟩, hR⟩
            rw [HL1.out] at hR ⊢
            have ST9 := Lib.hid hR
            clear hR
            refine hK.out _ _ trivial (fun hHeld => ?_)
            clear hK K
            try simp only [zP, zN, zS, zT, zU]
            refine wpAnyH_ready (rs := [11]) (by kernel_rfl) (by simp) ?_
            refine (AllReadyH.cons (o := ?_) (by simp only [zA, zB, zC] <;> exact rfl) (fun K hK => ?_) AllReadyH.nil)
            refine step_app rfl _ _ TLW TLW rfl (.slice a9 i c9) (.slice aw 0 0) (by first | rfl | simp [Act.eval, Act.put]) (by first | rfl | simp [Act.eval, Act.put]) _ (ST9.out.a2 HV2.out HLW.out _) ?_
            rintro v8 w8 ⟨hO8, hF8⟩
            obtain ⟨a8, m8, c8, rfl⟩ : ∃ a m c, v8 = .slice a m c := by obtain ⟨a, c, e⟩ := hO8.ns.shape; exact ⟨a, _, c, e⟩
            have HO8 := Lib.hid hO8
            have HF8 := Lib.hid hF8
            clear hO8 hF8
            refine hK.out _ _ trivial (fun hHeld => ?_)
            clear hK K
            try simp only [zP, zN, zS, zT, zU]
            have K8 := Lib.hid (KD.out.later HF8.out)
            have rowb := K8.out.now.1
            have y0 := (boxP2 rowb).1
            have z0 := frozen_at rowb 0
            have hx1 := heap_setCell_same w8 w.heap.size 0 _ TD (.slice a8 m8 c8) rowb
            have f8 := fp_cell w8 w.heap.size 0 (.slice a8 m8 c8)
            have row2 := f8.heap K8.out.now.2.1 (fun e => by have e : w.heap.size + 1 = w.heap.size := e; omega)
            have hfp := K8.out.now.2.2.2.over f8 (fun j hj => by have hj : j = w.heap.size := hj; omega)
            have hlo : ∀ j, (Value.slice a8 m8 c8).ownBlock = some j → w.heap.size + 1 < j := fun j hj => by have h1 := HO8.out.low j hj; have h2 := HSZ.out; omega
            have how := HO8.out.keep f8 (fun j hj e => by have e : j = w.heap.size := e; have := hlo j hj; omega)
            have hss := (K8.out.now.2.2.1.off rowb f8)
            have HX := Lib.hid (And.intro hx1 (And.intro row2 (And.intro hfp (And.intro hlo (And.intro how hss)))))
            clear rowb hx1 row2 hfp hlo how hss f8
            refine tk 12 hHeld ?_
            refine wpAnyH_ready (rs := [13]) (by kernel_rfl) (by simp) ?_
            refine (AllReadyH.cons (o := ?_) (by simp only [zA, zB, zC] <;> exact rfl) (fun K hK => ?_) AllReadyH.nil)
            go_simp
            refine hK.out _ _ trivial (fun hHeld => ?_)
            clear hK K y0 z0
            try simp only [zP, zN, zS, zT, zU]
            refine yD ?_
            generalize (World.setCell w8 _ _) = w9 at *
            obtain ⟨v0, v1⟩ := boxP2 HX.out.1
            obtain ⟨t0, t1, t2, t3, t4, t5, hz4, hf4⟩ := two_set HX.out.2.1 (.slice a8 m8 c8) (.slice at_ m cs)
            have HE := Lib.hid (And.intro hz4 (And.intro (HX.out.2.2.1.over hf4 (fun j hj => by have hj : j = w.heap.size + 1 := hj; omega)) hf4))
            clear hz4 hf4
            go_wp2_with fail
            generalize (World.setCell (World.setCell w9 _ _) _ _) = wz at *
            obtain ⟨e0, e1⟩ := boxP2 HE.out.1
            refine bodyPost_ret (v := .tuple #[.agg #[.slice a8 m8 c8, .slice at_ m cs], .int .i64 0]) (by simp [results, Try.results12, go_sem, e0, e1]) rfl ?_
            rw [HTT.out]
            obtain ⟨vw2, vs2, he, h1, h2⟩ := (HX.out.2.2.2.2.2.off HX.out.2.1 HE.out.2.2).ex
            injection he with he
            injection he with he
            simp only [List.cons.injEq, and_true] at he
            obtain ⟨rfl, rfl⟩ := he
            exact ⟨⟨_, _, rfl, (HX.out.2.2.2.2.1.keep HE.out.2.2 (fun j hj e => by have e : j = w.heap.size + 1 := e; have := HX.out.2.2.2.1 j hj; omega)).ns, h2⟩, HE.out.2.1⟩
        · have l0 := Hq.out _ ST0.out.f
          go_simp
          refine hK.out _ _ trivial (fun hHeld => ?_)
          clear hK K l0
          try simp only [zP, zN, zS, zT, zU]
          refine tk 4 hHeld ?_
          refine wpAnyH_ready (rs := [0, 7]) (by kernel_rfl) (by simp) ?_
          refine (AllReadyH.cons (o := ?_) (by simp only [zA, zB, zC] <;> exact rfl) (fun K hK => ?_) (AllReadyH.cons (o := ?_) (by simp only [zA, zB, zC] <;> exact rfl) (fun K hK => ?_) AllReadyH.nil))
          · go_simp
            have ST11 := Lib.hid ST0.out.b1
            refine hK.out _ _ trivial (fun hHeld => ?_)
            clear hK K
            try simp only [zP, zN, zS, zT, zU]
            obtain ⟨g1, hg1⟩ : ∃ q, q0.heap.size = q := ⟨_, rfl⟩
            rw [hg1] at ST11 ⊢
            clear hg1
            generalize (q0.alloc (.cells #[] TW)) = z11w at *
            refine wpAnyH_ready (rs := [5, 7]) (by kernel_rfl) (by simp) ?_
            refine (AllReadyH.cons (o := ?_) (by simp only [zA, zB, zC] <;> exact rfl) (fun K hK => ?_) (AllReadyH.cons (o := ?_) (by simp only [zA, zB, zC] <;> exact rfl) (fun K hK => ?_) AllReadyH.nil))
            · refine step_app rfl _ _ TLW TLW rfl (.slice (some ⟨g1, 0, none⟩) 0 0) (.slice aw i n) (by first | rfl | simp [Act.eval, Act.put]) (by first | rfl | simp [Act.eval, Act.put]) _ (ST11.out.a1 HV1.out (by have := HLW.out; omega) _) ?_
              rintro v12 z12w ⟨⟨a9, c9, rfl⟩, hR⟩
              rw [HL1.out] at hR ⊢
              have ST12 := Lib.hid hR
              clear hR
              refine hK.out _ _ trivial (fun hHeld => ?_)
              clear hK K
              try simp only [zP, zN, zS, zT, zU]
              refine wpAnyH_ready (rs := [7]) (by kernel_rfl) (by simp) ?_
              refine (AllReadyH.cons (o := ?_) (by simp only [zA, zB, zC] <;> exact rfl) (fun K hK => ?_) AllReadyH.nil)
              have l0 := Hq.out _ ST12.out.f
              go_simp
              refine hK.out _ _ trivial (fun hHeld => ?_)
              clear hK K l0
              try simp only [zP, zN, zS, zT, zU]
              refine tk 10 hHeld ?_
              refine wpAnyH_ready (rs := [11]) (by kernel_rfl) (by simp) ?_
              refine (AllReadyH.cons (o := ?_) (by simp only [zA, zB, zC] <;> exact rfl) (fun K hK => ?_) AllReadyH.nil)
              refine step_app rfl _ _ TLW TLW rfl (.slice a9 i c9) (.slice aw 0 0) (by first | rfl | simp [Act.eval, Act.put]) (by first | rfl | simp [Act.eval, Act.put]) _ (ST12.out.a2 HV2.out HLW.out _) ?_
              rintro v8 w8 ⟨hO8, hF8⟩
              obtain ⟨a8, m8, c8, rfl⟩ : ∃ a m c, v8 = .slice a m c := by obtain ⟨a, c, e⟩ := hO8.ns.shape; exact ⟨a, _, c, e⟩
              have HO8 := Lib.hid hO8
              have HF8 := Lib.hid hF8
              clear hO8 hF8
              refine hK.out _ _ trivial (fun hHeld => ?_)
              clear hK K
              try simp only [zP, zN, zS, zT, zU]
              have K8 := Lib.hid (KD.out.later HF8.out)
              have rowb := K8.out.now.1
              have y0 := (boxP2 rowb).1
              have z0 := frozen_at rowb 0
              have hx1 := heap_setCell_same w8 w.heap.size 0 _ TD (.slice a8 m8 c8) rowb
              have f8 := fp_cell w8 w.heap.size 0 (.slice a8 m8 c8)
              have row2 := f8.heap K8.out.now.2.1 (fun e => by have e : w.heap.size + 1 = w.heap.size := e; omega)
              have hfp := K8.out.now.2.2.2.over f8 (fun j hj => by have hj : j = w.heap.size := hj; omega)
              have hlo : ∀ j, (Value.slice a8 m8 c8).ownBlock = some j → w.heap.size + 1 < j := fun j hj => by have h1 := HO8.out.low j hj; have h2 := HSZ.out; omega
              have how := HO8.out.keep f8 (fun j hj e => by have e : j = w.heap.size := e; have := hlo j hj; omega)
              have hss := (K8.out.now.2.2.1.off rowb f8)
              have HX := Lib.hid (And.intro hx1 (And.intro row2 (And.intro hfp (And.intro hlo (And.intro how hss)))))
              clear rowb hx1 row2 hfp hlo how hss f8
              refine tk 12 hHeld ?_
              refine wpAnyH_ready (rs := [13]) (by kernel_rfl) (by simp) ?_
              refine (AllReadyH.cons (o := ?_) (by simp only [zA, zB, zC] <;> exact rfl) (fun K hK => ?_) AllReadyH.nil)
              go_simp
              refine hK.out _ _ trivial (fun hHeld => ?_)
              clear hK K y0 z0
              try simp only [zP, zN, zS, zT, zU]
              refine yD ?_
              generalize (World.setCell w8 _ _) = w9 at *
              obtain ⟨v0, v1⟩ := boxP2 HX.out.1
              obtain ⟨t0, t1, t2, t3, t4, t5, hz4, hf4⟩ := two_set HX.out.2.1 (.slice a8 m8 c8) (.slice at_ m cs)
              have HE := Lib.hid (And.intro hz4 (And.intro (HX.out.2.2.1.over hf4 (fun j hj => by have hj : j = w.heap.size + 1 := hj; omega)) hf4))
              clear hz4 hf4
              go_wp2_with fail
              generalize (World.setCell (World.setCell w9 _ _) _ _) = wz at *
              obtain ⟨e0, e1⟩ := boxP2 HE.out.1
              refine bodyPost_ret (v := .tuple #[.agg #[.slice a8 m8 c8, .slice at_ m cs], .int .i64 0]) (by simp [results, Try.results12, go_sem, e0, e1]) rfl ?_
              rw [HTT.out]
              obtain ⟨vw2, vs2, he, h1, h2⟩ := (HX.out.2.2.2.2.2.off HX.out.2.1 HE.out.2.2).ex
              injection he with he
              injection he with he
              simp only [List.cons.injEq, and_true] at he
              obtain ⟨rfl, rfl⟩ := he
              exact ⟨⟨_, _, rfl, (HX.out.2.2.2.2.1.keep HE.out.2.2 (fun j hj e => by have e : j = w.heap.size + 1 := e; have := HX.out.2.2.2.1 j hj; omega)).ns, h2⟩, HE.out.2.1⟩
            · have l0 := Hq.out _ ST11.out.f
              go_simp
              refine hK.out _ _ trivial (fun hHeld => ?_)
              clear hK K l0
              try simp only [zP, zN, zS, zT, zU]
              refine tk 10 hHeld ?_
              refine wpAnyH_ready (rs := [5]) (by kernel_rfl) (by simp) ?_
              refine (AllReadyH.cons (o := ?_) (by simp only [zA, zB, zC] <;> exact rfl) (fun K hK => ?_) AllReadyH.nil)
              refine step_app rfl _ _ TLW TLW rfl (.slice (some ⟨g1, 0, none⟩) 0 0) (.slice aw i n) (by first | rfl | simp [Act.eval, Act.put]) (by first | rfl | simp [Act.eval, Act.put]) _ (ST11.out.a1 HV1.out (by have := HLW.out; omega) _) ?_
              rintro v15 z15w ⟨⟨a9, c9, rfl⟩, hR⟩
              rw [HL1.out] at hR ⊢
              have ST15 := Lib.hid hR
              clear hR
              refine hK.out _ _ trivial (fun hHeld => ?_)
              clear hK K
              try simp only [zP, zN, zS, zT, zU]
              refine wpAnyH_ready (rs := [11]) (by kernel_rfl) (by simp) ?_
              refine (AllReadyH.cons (o := ?_) (by simp only [zA, zB, zC] <;> exact rfl) (fun K hK => ?_) AllReadyH.nil)
              refine step_app rfl _ _ TLW TLW rfl (.slice a9 i c9) (.slice aw 0 0) (by first | rfl | simp [Act.eval, Act.put]) (by first | rfl | simp [Act.eval, Act.put]) _ (ST15.out.a2 HV2.out HLW.out _) ?_
              rintro v8 w8 ⟨hO8, hF8⟩
              obtain ⟨a8, m8, c8, rfl⟩ : ∃ a m c, v8 = .slice a m c := by obtain ⟨a, c, e⟩ := hO8.ns.shape; exact ⟨a, _, c, e⟩
              have HO8 := Lib.hid hO8
              have HF8 := Lib.hid hF8
              clear hO8 hF8
              refine hK.out _ _ trivial (fun hHeld => ?_)
              clear hK K
              try simp only [zP, zN, zS, zT, zU]
              have K8 := Lib.hid (KD.out.later HF8.out)
              have rowb := K8.out.now.1
              have y0 := (boxP2 rowb).1
              have z0 := frozen_at rowb 0
              have hx1 := heap_setCell_same w8 w.heap.size 0 _ TD (.slice a8 m8 c8) rowb
              have f8 := fp_cell w8 w.heap.size 0 (.slice a8 m8 c8)
              have row2 := f8.heap K8.out.now.2.1 (fun e => by have e : w.heap.size + 1 = w.heap.size := e; omega)
              have hfp := K8.out.now.2.2.2.over f8 (fun j hj => by have hj : j = w.heap.size := hj; omega)
              have hlo : ∀ j, (Value.slice a8 m8 c8).ownBlock = some j → w.heap.size + 1 < j := fun j hj => by have h1 := HO8.out.low j hj; have h2 := HSZ.out; omega
              have how := HO8.out.keep f8 (fun j hj e => by have e : j = w.heap.size := e; have := hlo j hj; omega)
              have hss := (K8.out.now.2.2.1.off rowb f8)
              have HX := Lib.hid (And.intro hx1 (And.intro row2 (And.intro hfp (And.intro hlo (And.intro how hss)))))
              clear rowb hx1 row2 hfp hlo how hss f8
              refine tk 12 hHeld ?_
              refine wpAnyH_ready (rs := [13]) (by kernel_rfl) (by simp) ?_
              refine (AllReadyH.cons (o := ?_) (by simp only [zA, zB, zC] <;> exact rfl) (fun K hK => ?_) AllReadyH.nil)
              go_simp
              refine hK.out _ _ trivial (fun hHeld => ?_)
              clear hK K y0 z0
              try simp only [zP, zN, zS, zT, zU]
              refine yD ?_
              generalize (World.setCell w8 _ _) = w9 at *
              obtain ⟨v0, v1⟩ := boxP2 HX.out.1
              obtain ⟨t0, t1, t2, t3, t4, t5, hz4, hf4⟩ := two_set HX.out.2.1 (.slice a8 m8 c8) (.slice at_ m cs)
              have HE := Lib.hid (And.intro hz4 (And.intro (HX.out.2.2.1.over hf4 (fun j hj => by have hj : j = w.heap.size + 1 := hj; omega)) hf4))
              clear hz4 hf4
              go_wp2_with fail
              generalize (World.setCell (World.setCell w9 _ _) _ _) = wz at *
              obtain ⟨e0, e1⟩ := boxP2 HE.out.1
              refine bodyPost_ret (v := .tuple #[.agg #[.slice a8 m8 c8, .slice at_ m cs], .int .i64 0]) (by simp [results, Try.results12, go_sem, e0, e1]) rfl ?_
              rw [HTT.out]
              obtain ⟨vw2, vs2, he, h1, h2⟩ := (HX.out.2.2.2.2.2.off HX.out.2.1 HE.out.2.2).ex
              injection he with he
              injection he with he
              simp only [List.cons.injEq, and_true] at he
              obtain ⟨rfl, rfl⟩ := he
              exact ⟨⟨_, _, rfl, (HX.out.2.2.2.2.1.keep HE.out.2.2 (fun j hj e => by have e : j = w.heap.size + 1 := e; have := HX.out.2.2.2.1 j hj; omega)).ns, h2⟩, HE.out.2.1⟩
          · have l0 := Hq.out _ ST0.out.f
            go_simp
            refine hK.out _ _ trivial (fun hHeld => ?_)
            clear hK K l0
            try simp only [zP, zN, zS, zT, zU]
            refine tk 10 hHeld ?_
            refine wpAnyH_ready (rs := [0]) (by kernel_rfl) (by simp) ?_
            refine (AllReadyH.cons (o := ?_) (by simp only [zA, zB, zC] <;> exact rfl) (fun K hK => ?_) AllReadyH.nil)
            go_simp
            have ST17 := Lib.hid ST0.out.b1
            refine hK.out _ _ trivial (fun hHeld => ?_)
            clear hK K
            try simp only [zP, zN, zS, zT, zU]
            obtain ⟨g1, hg1⟩ : ∃ q, q0.heap.size = q := ⟨_, rfl⟩
            rw [hg1] at ST17 ⊢
            clear hg1
            generalize (q0.alloc (.cells #[] TW)) = z17w at *
            refine wpAnyH_ready (rs := [5]) (by kernel_rfl) (by simp) ?_
            refine (AllReadyH.cons (o := ?_) (by simp only [zA, zB, zC] <;> exact rfl) (fun K hK => ?_) AllReadyH.nil)
            refine step_app rfl _ _ TLW TLW rfl (.slice (some ⟨g1, 0, none⟩) 0 0) (.slice aw i n) (by first | rfl | simp [Act.eval, Act.put]) (by first | rfl | simp [Act.eval, Act.put]) _ (ST17.out.a1 HV1.out (by have := HLW.out; omega) _) ?_
            rintro v18 z18w ⟨⟨a9, c9, rfl⟩, hR⟩
            rw [HL1.out] at hR ⊢
            have ST18 := Lib.hid hR
            clear hR
            refine hK.out _ _ trivial (fun hHeld => ?_)
            clear hK K
            try simp only [zP, zN, zS, zT, zU]
            refine wpAnyH_ready (rs := [11]) (by kernel_rfl) (by simp) ?_
            refine (AllReadyH.cons (o := ?_) (by simp only [zA, zB, zC] <;> exact rfl) (fun K hK => ?_) AllReadyH.nil)
            refine step_app rfl _ _ TLW TLW rfl (.slice a9 i c9) (.slice aw 0 0) (by first | rfl | simp [Act.eval, Act.put]) (by first | rfl | simp [Act.eval, Act.put]) _ (ST18.out.a2 HV2.out HLW.out _) ?_
            rintro v8 w8 ⟨hO8, hF8⟩
            obtain ⟨a8, m8, c8, rfl⟩ : ∃ a m c, v8 = .slice a m c := by obtain ⟨a, c, e⟩ := hO8.ns.shape; exact ⟨a, _, c, e⟩
            have HO8 := Lib.hid hO8
            have HF8 := Lib.hid hF8
            clear hO8 hF8
            refine hK.out _ _ trivial (fun hHeld => ?_)
            clear hK K
            try simp only [zP, zN, zS, zT, zU]
            have K8 := Lib.hid (KD.out.later HF8.out)
            have rowb := K8.out.now.1
            have y0 := (boxP2 rowb).1
            have z0 := frozen_at rowb 0
            have hx1 := heap_setCell_same w8 w.heap.size 0 _ TD (.slice a8 m8 c8) rowb
            have f8 := fp_cell w8 w.heap.size 0 (.slice a8 m8 c8)
            have row2 := f8.heap K8.out.now.2.1 (fun e => by have e : w.heap.size + 1 = w.heap.size := e; omega)
            have hfp := K8.out.now.2.2.2.over f8 (fun j hj => by have hj : j = w.heap.size := hj; omega)
            have hlo : ∀ j, (Value.slice a8 m8 c8).ownBlock = some j → w.heap.size + 1 < j := fun j hj => by have h1 := HO8.out.low j hj; have h2 := HSZ.out; omega
            have how := HO8.out.keep f8 (fun j hj e => by have e : j = w.heap.size := e; have := hlo j hj; omega)
            have hss := (K8.out.now.2.2.1.off rowb f8)
            have HX := Lib.hid (And.intro hx1 (And.intro row2 (And.intro hfp (And.intro hlo (And.intro how hss)))))
            clear rowb hx1 row2 hfp hlo how hss f8
            refine tk 12 hHeld ?_
            refine wpAnyH_ready (rs := [13]) (by kernel_rfl) (by simp) ?_
            refine (AllReadyH.cons (o := ?_) (by simp only [zA, zB, zC] <;> exact rfl) (fun K hK => ?_) AllReadyH.nil)
            go_simp
            refine hK.out _ _ trivial (fun hHeld => ?_)
            clear hK K y0 z0
            try simp only [zP, zN, zS, zT, zU]
            refine yD ?_
            generalize (World.setCell w8 _ _) = w9 at *
            obtain ⟨v0, v1⟩ := boxP2 HX.out.1
            obtain ⟨t0, t1, t2, t3, t4, t5, hz4, hf4⟩ := two_set HX.out.2.1 (.slice a8 m8 c8) (.slice at_ m cs)
            have HE := Lib.hid (And.intro hz4 (And.intro (HX.out.2.2.1.over hf4 (fun j hj => by have hj : j = w.heap.size + 1 := hj; omega)) hf4))
            clear hz4 hf4
            go_wp2_with fail
            generalize (World.setCell (World.setCell w9 _ _) _ _) = wz at *
            obtain ⟨e0, e1⟩ := boxP2 HE.out.1
            refine bodyPost_ret (v := .tuple #[.agg #[.slice a8 m8 c8, .slice at_ m cs], .int .i64 0]) (by simp [results, Try.results12, go_sem, e0, e1]) rfl ?_
            rw [HTT.out]
            obtain ⟨vw2, vs2, he, h1, h2⟩ := (HX.out.2.2.2.2.2.off HX.out.2.1 HE.out.2.2).ex
            injection he with he
            injection he with he
            simp only [List.cons.injEq, and_true] at he
            obtain ⟨rfl, rfl⟩ := he
            exact ⟨⟨_, _, rfl, (HX.out.2.2.2.2.1.keep HE.out.2.2 (fun j hj e => by have e : j = w.heap.size + 1 := e; have := HX.out.2.2.2.1 j hj; omega)).ns, h2⟩, HE.out.2.1⟩
        · have l0 := Hq.out _ ST0.out.f
          go_simp
          refine hK.out _ _ trivial (fun hHeld => ?_)
          clear hK K l0
          try simp only [zP, zN, zS, zT, zU]
          refine tk 10 hHeld ?_
          refine wpAnyH_ready (rs := [0, 2]) (by kernel_rfl) (by simp) ?_
          refine (AllReadyH.cons (o := ?_) (by simp only [zA, zB, zC] <;> exact rfl) (fun K hK => ?_) (AllReadyH.cons (o := ?_) (by simp only [zA, zB, zC] <;> exact rfl) (fun K hK => ?_) AllReadyH.nil))
          · go_simp
            have ST20 := Lib.hid ST0.out.b1
            refine hK.out _ _ trivial (fun hHeld => ?_)
            clear hK K
            try simp only [zP, zN, zS, zT, zU]
            obtain ⟨g1, hg1⟩ : ∃ q, q0.heap.size = q := ⟨_, rfl⟩
            rw [hg1] at ST20 ⊢
            clear hg1
            generalize (q0.alloc (.cells #[] TW)) = z20w at *
            refine wpAnyH_ready (rs := [2]) (by kernel_rfl) (by simp) ?_
            refine (AllReadyH.cons (o := ?_) (by simp only [zA, zB, zC] <;> exact rfl) (fun K hK => ?_) AllReadyH.nil)
            have l0 := Hq.out _ ST20.out.f
            go_simp
            refine hK.out _ _ trivial (fun hHeld => ?_)
            clear hK K l0
            try simp only [zP, zN, zS, zT, zU]
            refine tk 4 hHeld ?_
            refine wpAnyH_ready (rs := [5]) (by kernel_rfl) (by simp) ?_
            refine (AllReadyH.cons (o := ?_) (by simp only [zA, zB, zC] <;> exact rfl) (fun K hK => ?_) AllReadyH.nil)
            refine step_app rfl _ _ TLW TLW rfl (.slice (some ⟨g1, 0, none⟩) 0 0) (.slice aw i n) (by first | rfl | simp [Act.eval, Act.put]) (by first | rfl | simp [Act.eval, Act.put]) _ (ST20.out.a1 HV1.out (by have := HLW.out; omega) _) ?_
            rintro v22 z22w ⟨⟨a9, c9, rfl⟩, hR⟩
            rw [HL1.out] at hR ⊢
            have ST22 := Lib.hid hR
            clear hR
            refine hK.out _ _ trivial (fun hHeld => ?_)
            clear hK K
            try simp only [zP, zN, zS, zT, zU]
            refine wpAnyH_ready (rs := [11]) (by kernel_rfl) (by simp) ?_
            refine (AllReadyH.cons (o := ?_) (by simp only [zA, zB, zC] <;> exact rfl) (fun K hK => ?_) AllReadyH.nil)
            refine step_app rfl _ _ TLW TLW rfl (.slice a9 i c9) (.slice aw 0 0) (by first | rfl | simp [Act.eval, Act.put]) (by first | rfl | simp [Act.eval, Act.put]) _ (ST22.out.a2 HV2.out HLW.out _) ?_
            rintro v8 w8 ⟨hO8, hF8⟩
            obtain ⟨a8, m8, c8, rfl⟩ : ∃ a m c, v8 = .slice a m c := by obtain ⟨a, c, e⟩ := hO8.ns.shape; exact ⟨a, _, c, e⟩
            have HO8 := Lib.hid hO8
            have HF8 := Lib.hid hF8
            clear hO8 hF8
            refine hK.out _ _ trivial (fun hHeld => ?_)
            clear hK K
            try simp only [zP, zN, zS, zT, zU]
            have K8 := Lib.hid (KD.out.later HF8.out)
            have rowb := K8.out.now.1
            have y0 := (boxP2 rowb).1
            have z0 := frozen_at rowb 0
            have hx1 := heap_setCell_same w8 w.heap.size 0 _ TD (.slice a8 m8 c8) rowb
            have f8 := fp_cell w8 w.heap.size 0 (.slice a8 m8 c8)
            have row2 := f8.heap K8.out.now.2.1 (fun e => by have e : w.heap.size + 1 = w.heap.size := e; omega)
            have hfp := K8.out.now.2.2.2.over f8 (fun j hj => by have hj : j = w.heap.size := hj; omega)
            have hlo : ∀ j, (Value.slice a8 m8 c8).ownBlock = some j → w.heap.size + 1 < j := fun j hj => by have h1 := HO8.out.low j hj; have h2 := HSZ.out; omega
            have how := HO8.out.keep f8 (fun j hj e => by have e : j = w.heap.size := e; have := hlo j hj; omega)
            have hss := (K8.out.now.2.2.1.off rowb f8)
            have HX := Lib.hid (And.intro hx1 (And.intro row2 (And.intro hfp (And.intro hlo (And.intro how hss)))))
            clear rowb hx1 row2 hfp hlo how hss f8
            refine tk 12 hHeld ?_
            refine wpAnyH_ready (rs := [13]) (by kernel_rfl) (by simp) ?_
            refine (AllReadyH.cons (o := ?_) (by simp only [zA, zB, zC] <;> exact rfl) (fun K hK => ?_) AllReadyH.nil)
            go_simp
            refine hK.out _ _ trivial (fun hHeld => ?_)
            clear hK K y0 z0
            try simp only [zP, zN, zS, zT, zU]
            refine yD ?_
            generalize (World.setCell w8 _ _) = w9 at *
            obtain ⟨v0, v1⟩ := boxP2 HX.out.1
            obtain ⟨t0, t1, t2, t3, t4, t5, hz4, hf4⟩ := two_set HX.out.2.1 (.slice a8 m8 c8) (.slice at_ m cs)
            have HE := Lib.hid (And.intro hz4 (And.intro (HX.out.2.2.1.over hf4 (fun j hj => by have hj : j = w.heap.size + 1 := hj; omega)) hf4))
            clear hz4 hf4
            go_wp2_with fail
            generalize (World.setCell (World.setCell w9 _ _) _ _) = wz at *
            obtain ⟨e0, e1⟩ := boxP2 HE.out.1
            refine bodyPost_ret (v := .tuple #[.agg #[.slice a8 m8 c8, .slice at_ m cs], .int .i64 0]) (by simp [results, Try.results12, go_sem, e0, e1]) rfl ?_
            rw [HTT.out]
            obtain ⟨vw2, vs2, he, h1, h2⟩ := (HX.out.2.2.2.2.2.off HX.out.2.1 HE.out.2.2).ex
            injection he with he
            injection he with he
            simp only [List.cons.injEq, and_true] at he
            obtain ⟨rfl, rfl⟩ := he
            exact ⟨⟨_, _, rfl, (HX.out.2.2.2.2.1.keep HE.out.2.2 (fun j hj e => by have e : j = w.heap.size + 1 := e; have := HX.out.2.2.2.1 j hj; omega)).ns, h2⟩, HE.out.2.1⟩
          · have l0 := Hq.out _ ST0.out.f
            go_simp
            refine hK.out _ _ trivial (fun hHeld => ?_)
            clear hK K l0
            try simp only [zP, zN, zS, zT, zU]
            refine tk 4 hHeld ?_
            refine wpAnyH_ready (rs := [0]) (by kernel_rfl) (by simp) ?_
            refine (AllReadyH.cons (o := ?_) (by simp only [zA, zB, zC] <;> exact rfl) (fun K hK => ?_) AllReadyH.nil)
            go_simp
            have ST24 := Lib.hid ST0.out.b1
            refine hK.out _ _ trivial (fun hHeld => ?_)
            clear hK K
            try simp only [zP, zN, zS, zT, zU]
            obtain ⟨g1, hg1⟩ : ∃ q, q0.heap.size = q := ⟨_, rfl⟩
            rw [hg1] at ST24 ⊢
            clear hg1
            generalize (q0.alloc (.cells #[] TW)) = z24w at *
            refine wpAnyH_ready (rs := [5]) (by kernel_rfl) (by simp) ?_
            refine (AllReadyH.cons (o := ?_) (by simp only [zA, zB, zC] <;> exact rfl) (fun K hK => ?_) AllReadyH.nil)
            refine step_app rfl _ _ TLW TLW rfl (.slice (some ⟨g1, 0, none⟩) 0 0) (.slice aw i n) (by first | rfl | simp [Act.eval, Act.put]) (by first | rfl | simp [Act.eval, Act.put]) _ (ST24.out.a1 HV1.out (by have := HLW.out; omega) _) ?_
            rintro v25 z25w ⟨⟨a9, c9, rfl⟩, hR⟩
            rw [HL1.out] at hR ⊢
            have ST25 := Lib.hid hR
            clear hR
            refine hK.out _ _ trivial (fun hHeld => ?_)
            clear hK K
            try simp only [zP, zN, zS, zT, zU]
            refine wpAnyH_ready (rs := [11]) (by kernel_rfl) (by simp) ?_
            refine (AllReadyH.cons (o := ?_) (by simp only [zA, zB, zC] <;> exact rfl) (fun K hK => ?_) AllReadyH.nil)
            refine step_app rfl _ _ TLW TLW rfl (.slice a9 i c9) (.slice aw 0 0) (by first | rfl | simp [Act.eval, Act.put]) (by first | rfl | simp [Act.eval, Act.put]) _ (ST25.out.a2 HV2.out HLW.out _) ?_
            rintro v8 w8 ⟨hO8, hF8⟩
            obtain ⟨a8, m8, c8, rfl⟩ : ∃ a m c, v8 = .slice a m c := by obtain ⟨a, c, e⟩ := hO8.ns.shape; exact ⟨a, _, c, e⟩
            have HO8 := Lib.hid hO8
            have HF8 := Lib.hid hF8
            clear hO8 hF8
            refine hK.out _ _ trivial (fun hHeld => ?_)
            clear hK K
            try simp only [zP, zN, zS, zT, zU]
            have K8 := Lib.hid (KD.out.later HF8.out)
            have rowb := K8.out.now.1
            have y0 := (boxP2 rowb).1
            have z0 := frozen_at rowb 0
            have hx1 := heap_setCell_same w8 w.heap.size 0 _ TD (.slice a8 m8 c8) rowb
            have f8 := fp_cell w8 w.heap.size 0 (.slice a8 m8 c8)
            have row2 := f8.heap K8.out.now.2.1 (fun e => by have e : w.heap.size + 1 = w.heap.size := e; omega)
            have hfp := K8.out.now.2.2.2.over f8 (fun j hj => by have hj : j = w.heap.size := hj; omega)
            have hlo : ∀ j, (Value.slice a8 m8 c8).ownBlock = some j → w.heap.size + 1 < j := fun j hj => by have h1 := HO8.out.low j hj; have h2 := HSZ.out; omega
            have how := HO8.out.keep f8 (fun j hj e => by have e : j = w.heap.size := e; have := hlo j hj; omega)
            have hss := (K8.out.now.2.2.1.off rowb f8)
            have HX := Lib.hid (And.intro hx1 (And.intro row2 (And.intro hfp (And.intro hlo (And.intro how hss)))))
            clear rowb hx1 row2 hfp hlo how hss f8
            refine tk 12 hHeld ?_
            refine wpAnyH_ready (rs := [13]) (by kernel_rfl) (by simp) ?_
            refine (AllReadyH.cons (o := ?_) (by simp only [zA, zB, zC] <;> exact rfl) (fun K hK => ?_) AllReadyH.nil)
            go_simp
            refine hK.out _ _ trivial (fun hHeld => ?_)
            clear hK K y0 z0
            try simp only [zP, zN, zS, zT, zU]
            refine yD ?_
            generalize (World.setCell w8 _ _) = w9 at *
            obtain ⟨v0, v1⟩ := boxP2 HX.out.1
            obtain ⟨t0, t1, t2, t3, t4, t5, hz4, hf4⟩ := two_set HX.out.2.1 (.slice a8 m8 c8) (.slice at_ m cs)
            have HE := Lib.hid (And.intro hz4 (And.intro (HX.out.2.2.1.over hf4 (fun j hj => by have hj : j = w.heap.size + 1 := hj; omega)) hf4))
            clear hz4 hf4
            go_wp2_with fail
            generalize (World.setCell (World.setCell w9 _ _) _ _) = wz at *
            obtain ⟨e0, e1⟩ := boxP2 HE.out.1
            refine bodyPost_ret (v := .tuple #[.agg #[.slice a8 m8 c8, .slice at_ m cs], .int .i64 0]) (by simp [results, Try.results12, go_sem, e0, e1]) rfl ?_
            rw [HTT.out]
            obtain ⟨vw2, vs2, he, h1, h2⟩ := (HX.out.2.2.2.2.2.off HX.out.2.1 HE.out.2.2).ex
            injection he with he
            injection he with he
            simp only [List.cons.injEq, and_true] at he
            obtain ⟨rfl, rfl⟩ := he
            exact ⟨⟨_, _, rfl, (HX.out.2.2.2.2.1.keep HE.out.2.2 (fun j hj e => by have e : j = w.heap.size + 1 := e; have := HX.out.2.2.2.1 j hj; omega)).ns, h2⟩, HE.out.2.1⟩
      · have HV2 := Lib.hid (hvw.dropN j (by have := HB.out.2.2.1; omega))
        have r3 : (cw = j) = False := eq_false hce
        clear hvw hvs
        go_wp2_with fail
        refine wp_region_held_drew (S := (fun _ => True)) (by kernel_rfl) ?_ (fun hHeld => ?_)
        · exact trivial
        generalize w3.drew = q0 at *
        refine tk 1 hHeld ?_
        refine tk 3 hHeld ?_
        refine tk 6 hHeld ?_
        refine tk 8 hHeld ?_
        refine tk 9 hHeld ?_
        refine wpAnyH_ready (rs := [0, 2, 7]) (by kernel_rfl) (by simp) ?_
        refine (AllReadyH.cons (o := ?_) (by simp only [zA, zB, zC] <;> exact rfl) (fun K hK => ?_) (AllReadyH.cons (o := ?_) (by simp only [zA, zB, zC] <;> exact rfl) (fun K hK => ?_) (AllReadyH.cons (o := ?_) (by simp only [zA, zB, zC] <;> exact rfl) (fun K hK => ?_) AllReadyH.nil)))
        · go_simp
          have ST26 := Lib.hid ST0.out.b1
          refine hK.out _ _ trivial (fun hHeld => ?_)
          clear hK K
          try simp only [zP, zN, zS, zT, zU]
          obtain ⟨g1, hg1⟩ : ∃ q, q0.heap.size = q := ⟨_, rfl⟩
          rw [hg1] at ST26 ⊢
          clear hg1
          generalize (q0.alloc (.cells #[] TW)) = z26w at *
          refine wpAnyH_ready (rs := [2, 7]) (by kernel_rfl) (by simp) ?_
          refine (AllReadyH.cons (o := ?_) (by simp only [zA, zB, zC] <;> exact rfl) (fun K hK => ?_) (AllReadyH.cons (o := ?_) (by simp only [zA, zB, zC] <;> exact rfl) (fun K hK => ?_) AllReadyH.nil))
          · have l0 := Hq.out _ ST26.out.f
            go_simp
            refine hK.out _ _ trivial (fun hHeld => ?_)
            clear hK K l0
            try simp only [zP, zN, zS, zT, zU]
            refine tk 4 hHeld ?_
            refine wpAnyH_ready (rs := [5, 7]) (by kernel_rfl) (by simp) ?_
            refine (AllReadyH.cons (o := ?_) (by simp only [zA, zB, zC] <;> exact rfl) (fun K hK => ?_) (AllReadyH.cons (o := ?_) (by simp only [zA, zB, zC] <;> exact rfl) (fun K hK => ?_) AllReadyH.nil))
            · refine step_app rfl _ _ TLW TLW rfl (.slice (some ⟨g1, 0, none⟩) 0 0) (.slice aw i cw) (by first | rfl | simp [Act.eval, Act.put]) (by first | rfl | simp [Act.eval, Act.put]) _ (ST26.out.a1 HV1.out (by have := HLW.out; omega) _) ?_
              rintro v28 z28w ⟨⟨a9, c9, rfl⟩, hR⟩
              rw [HL1.out] at hR ⊢
              have ST28 := Lib.hid hR
              clear hR
              refine hK.out _ _ trivial (fun hHeld => ?_)
              clear hK K
              try simp only [zP, zN, zS, zT, zU]
              refine wpAnyH_ready (rs := [7]) (by kernel_rfl) (by simp) ?_
              refine (AllReadyH.cons (o := ?_) (by simp only [zA, zB, zC] <;> exact rfl) (fun K hK => ?_) AllReadyH.nil)
              have l0 := Hq.out _ ST28.out.f
              go_simp
              refine hK.out _ _ trivial (fun hHeld => ?_)
              clear hK K l0
              try simp only [zP, zN, zS, zT, zU]
              refine tk 10 hHeld ?_
              refine wpAnyH_ready (rs := [11]) (by kernel_rfl) (by simp) ?_
              refine (AllReadyH.cons (o := ?_) (by simp only [zA, zB, zC] <;> exact rfl) (fun K hK => ?_) AllReadyH.nil)
              refine step_app rfl _ _ TLW TLW rfl (.slice a9 i c9) (.slice (aw.map fun p => p.add (j * 4)) (n - j) (cw - j)) (by first | rfl | simp [Act.eval, Act.put]) (by first | rfl | simp [Act.eval, Act.put]) _ (ST28.out.a2 HV2.out HLW.out _) ?_
              rintro v8 w8 ⟨hO8, hF8⟩
              obtain ⟨a8, m8, c8, rfl⟩ : ∃ a m c, v8 = .slice a m c := by obtain ⟨a, c, e⟩ := hO8.ns.shape; exact ⟨a, _, c, e⟩
              have HO8 := Lib.hid hO8
              have HF8 := Lib.hid hF8
              clear hO8 hF8
              refine hK.out _ _ trivial (fun hHeld => ?_)
              clear hK K
              try simp only [zP, zN, zS, zT, zU]
              have K8 := Lib.hid (KD.out.later HF8.out)
              have rowb := K8.out.now.1
              have y0 := (boxP2 rowb).1
              have z0 := frozen_at rowb 0
              have hx1 := heap_setCell_same w8 w.heap.size 0 _ TD (.slice a8 m8 c8) rowb
              have f8 := fp_cell w8 w.heap.size 0 (.slice a8 m8 c8)
              have row2 := f8.heap K8.out.now.2.1 (fun e => by have e : w.heap.size + 1 = w.heap.size := e; omega)
              have hfp := K8.out.now.2.2.2.over f8 (fun j hj => by have hj : j = w.heap.size := hj; omega)
              have hlo : ∀ j, (Value.slice a8 m8 c8).ownBlock = some j → w.heap.size + 1 < j := fun j hj => by have h1 := HO8.out.low j hj; have h2 := HSZ.out; omega
              have how := HO8.out.keep f8 (fun j hj e => by have e : j = w.heap.size := e; have := hlo j hj; omega)
              have hss := (K8.out.now.2.2.1.off rowb f8)
              have HX := Lib.hid (And.intro hx1 (And.intro row2 (And.intro hfp (And.intro hlo (And.intro how hss)))))
              clear rowb hx1 row2 hfp hlo how hss f8
              refine tk 12 hHeld ?_
              refine wpAnyH_ready (rs := [13]) (by kernel_rfl) (by simp) ?_
              refine (AllReadyH.cons (o := ?_) (by simp only [zA, zB, zC] <;> exact rfl) (fun K hK => ?_) AllReadyH.nil)
              go_simp
              refine hK.out _ _ trivial (fun hHeld => ?_)
              clear hK K y0 z0
              try simp only [zP, zN, zS, zT, zU]
              refine yD ?_
              generalize (World.setCell w8 _ _) = w9 at *
              obtain ⟨v0, v1⟩ := boxP2 HX.out.1
              obtain ⟨t0, t1, t2, t3, t4, t5, hz4, hf4⟩ := two_set HX.out.2.1 (.slice a8 m8 c8) (.slice at_ m cs)
              have HE := Lib.hid (And.intro hz4 (And.intro (HX.out.2.2.1.over hf4 (fun j hj => by have hj : j = w.heap.size + 1 := hj; omega)) hf4))
              clear hz4 hf4
              go_wp2_with fail
              generalize (World.setCell (World.setCell w9 _ _) _ _) = wz at *
              obtain ⟨e0, e1⟩ := boxP2 HE.out.1
              refine bodyPost_ret (v := .tuple #[.agg #[.slice a8 m8 c8, .slice at_ m cs], .int .i64 0]) (by simp [results, Try.results12, go_sem, e0, e1]) rfl ?_
              rw [HTT.out]
              obtain ⟨vw2, vs2, he, h1, h2⟩ := (HX.out.2.2.2.2.2.off HX.out.2.1 HE.out.2.2).ex
              injection he with he
              injection he with he
              simp only [List.cons.injEq, and_true] at he
              obtain ⟨rfl, rfl⟩ := he
              exact ⟨⟨_, _, rfl, (HX.out.2.2.2.2.1.keep HE.out.2.2 (fun j hj e => by have e : j = w.heap.size + 1 := e; have := HX.out.2.2.2.1 j hj; omega)).ns, h2⟩, HE.out.2.1⟩
            · have l0 := Hq.out _ ST26.out.f
              go_simp
              refine hK.out _ _ trivial (fun hHeld => ?_)
              clear hK K l0
              try simp only [zP, zN, zS, zT, zU]
              refine tk 10 hHeld ?_
              refine wpAnyH_ready (rs := [5]) (by kernel_rfl) (by simp) ?_
              refine (AllReadyH.cons (o := ?_) (by simp only [zA, zB, zC] <;> exact rfl) (fun K hK => ?_) AllReadyH.nil)
              refine step_app rfl _ _ TLW TLW rfl (.slice (some ⟨g1, 0, none⟩) 0 0) (.slice aw i cw) (by first | rfl | simp [Act.eval, Act.put]) (by first | rfl | simp [Act.eval, Act.put]) _ (ST26.out.a1 HV1.out (by have := HLW.out; omega) _) ?_
              rintro v31 z31w ⟨⟨a9, c9, rfl⟩, hR⟩
              rw [HL1.out] at hR ⊢
              have ST31 := Lib.hid hR
              clear hR
              refine hK.out _ _ trivial (fun hHeld => ?_)
              clear hK K
              try simp only [zP, zN, zS, zT, zU]
              refine wpAnyH_ready (rs := [11]) (by kernel_rfl) (by simp) ?_
              refine (AllReadyH.cons (o := ?_) (by simp only [zA, zB, zC] <;> exact rfl) (fun K hK => ?_) AllReadyH.nil)
              refine step_app rfl _ _ TLW TLW rfl (.slice a9 i c9) (.slice (aw.map fun p => p.add (j * 4)) (n - j) (cw - j)) (by first | rfl | simp [Act.eval, Act.put]) (by first | rfl | simp [Act.eval, Act.put]) _ (ST31.out.a2 HV2.out HLW.out _) ?_
              rintro v8 w8 ⟨hO8, hF8⟩
              obtain ⟨a8, m8, c8, rfl⟩ : ∃ a m c, v8 = .slice a m c := by obtain ⟨a, c, e⟩ := hO8.ns.shape; exact ⟨a, _, c, e⟩
              have HO8 := Lib.hid hO8
              have HF8 := Lib.hid hF8
              clear hO8 hF8
              refine hK.out _ _ trivial (fun hHeld => ?_)
              clear hK K
              try simp only [zP, zN, zS, zT, zU]
              have K8 := Lib.hid (KD.out.later HF8.out)
              have rowb := K8.out.now.1
              have y0 := (boxP2 rowb).1
              have z0 := frozen_at rowb 0
              have hx1 := heap_setCell_same w8 w.heap.size 0 _ TD (.slice a8 m8 c8) rowb
              have f8 := fp_cell w8 w.heap.size 0 (.slice a8 m8 c8)
              have row2 := f8.heap K8.out.now.2.1 (fun e => by have e : w.heap.size + 1 = w.heap.size := e; omega)
              have hfp := K8.out.now.2.2.2.over f8 (fun j hj => by have hj : j = w.heap.size := hj; omega)
              have hlo : ∀ j, (Value.slice a8 m8 c8).ownBlock = some j → w.heap.size + 1 < j := fun j hj => by have h1 := HO8.out.low j hj; have h2 := HSZ.out; omega
              have how := HO8.out.keep f8 (fun j hj e => by have e : j = w.heap.size := e; have := hlo j hj; omega)
              have hss := (K8.out.now.2.2.1.off rowb f8)
              have HX := Lib.hid (And.intro hx1 (And.intro row2 (And.intro hfp (And.intro hlo (And.intro how hss)))))
              clear rowb hx1 row2 hfp hlo how hss f8
              refine tk 12 hHeld ?_
              refine wpAnyH_ready (rs := [13]) (by kernel_rfl) (by simp) ?_
              refine (AllReadyH.cons (o := ?_) (by simp only [zA, zB, zC] <;> exact rfl) (fun K hK => ?_) AllReadyH.nil)
              go_simp
              refine hK.out _ _ trivial (fun hHeld => ?_)
              clear hK K y0 z0
              try simp only [zP, zN, zS, zT, zU]
              refine yD ?_
              generalize (World.setCell w8 _ _) = w9 at *
              obtain ⟨v0, v1⟩ := boxP2 HX.out.1
              obtain ⟨t0, t1, t2, t3, t4, t5, hz4, hf4⟩ := two_set HX.out.2.1 (.slice a8 m8 c8) (.slice at_ m cs)
              have HE := Lib.hid (And.intro hz4 (And.intro (HX.out.2.2.1.over hf4 (fun j hj => by have hj : j = w.heap.size + 1 := hj; omega)) hf4))
              clear hz4 hf4
              go_wp2_with fail
              generalize (World.setCell (World.setCell w9 _ _) _ _) = wz at *
              obtain ⟨e0, e1⟩ := boxP2 HE.out.1
              refine bodyPost_ret (v := .tuple #[.agg #[.slice a8 m8 c8, .slice at_ m cs], .int .i64 0]) (by simp [results, Try.results12, go_sem, e0, e1]) rfl ?_
              rw [HTT.out]
              obtain ⟨vw2, vs2, he, h1, h2⟩ := (HX.out.2.2.2.2.2.off HX.out.2.1 HE.out.2.2).ex
              injection he with he
              injection he with he
              simp only [List.cons.injEq, and_true] at he
              obtain ⟨rfl, rfl⟩ := he
              exact ⟨⟨_, _, rfl, (HX.out.2.2.2.2.1.keep HE.out.2.2 (fun j hj e => by have e : j = w.heap.size + 1 := e; have := HX.out.2.2.2.1 j hj; omega)).ns, h2⟩, HE.out.2.1⟩
          · have l0 := Hq.out _ ST26.out.f
            go_simp
            refine hK.out _ _ trivial (fun hHeld => ?_)
            clear hK K l0
            try simp only [zP, zN, zS, zT, zU]
            refine tk 10 hHeld ?_
            refine wpAnyH_ready (rs := [2]) (by kernel_rfl) (by simp) ?_
            refine (AllReadyH.cons (o := ?_) (by simp only [zA, zB, zC] <;> exact rfl) (fun K hK => ?_) AllReadyH.nil)
            have l0 := Hq.out _ ST26.out.f
            go_simp
            refine hK.out _ _ trivial (fun hHeld => ?_)
            clear hK K l0
            try simp only [zP, zN, zS, zT, zU]
            refine tk 4 hHeld ?_
            refine wpAnyH_ready (rs := [5]) (by kernel_rfl) (by simp) ?_
            refine (AllReadyH.cons (o := ?_) (by simp only [zA, zB, zC] <;> exact rfl) (fun K hK => ?_) AllReadyH.nil)
            refine step_app rfl _ _ TLW TLW rfl (.slice (some ⟨g1, 0, none⟩) 0 0) (.slice aw i cw) (by first | rfl | simp [Act.eval, Act.put]) (by first | rfl | simp [Act.eval, Act.put]) _ (ST26.out.a1 HV1.out (by have := HLW.out; omega) _) ?_
            rintro v34 z34w ⟨⟨a9, c9, rfl⟩, hR⟩
            rw [HL1.out] at hR ⊢
            have ST34 := Lib.hid hR
            clear hR
            refine hK.out _ _ trivial (fun hHeld => ?_)
            clear hK K
            try simp only [zP, zN, zS, zT, zU]
            refine wpAnyH_ready (rs := [11]) (by kernel_rfl) (by simp) ?_
            refine (AllReadyH.cons (o := ?_) (by simp only [zA, zB, zC] <;> exact rfl) (fun K hK => ?_) AllReadyH.nil)
            refine step_app rfl _ _ TLW TLW rfl (.slice a9 i c9) (.slice (aw.map fun p => p.add (j * 4)) (n - j) (cw - j)) (by first | rfl | simp [Act.eval, Act.put]) (by first | rfl | simp [Act.eval, Act.put]) _ (ST34.out.a2 HV2.out HLW.out _) ?_
            rintro v8 w8 ⟨hO8, hF8⟩
            obtain ⟨a8, m8, c8, rfl⟩ : ∃ a m c, v8 = .slice a m c := by obtain ⟨a, c, e⟩ := hO8.ns.shape; exact ⟨a, _, c, e⟩
            have HO8 := Lib.hid hO8
            have HF8 := Lib.hid hF8
            clear hO8 hF8
            refine hK.out _ _ trivial (fun hHeld => ?_)
            clear hK K
            try simp only [zP, zN, zS, zT, zU]
            have K8 := Lib.hid (KD.out.later HF8.out)
            have rowb := K8.out.now.1
            have y0 := (boxP2 rowb).1
            have z0 := frozen_at rowb 0
            have hx1 := heap_setCell_same w8 w.heap.size 0 _ TD (.slice a8 m8 c8) rowb
            have f8 := fp_cell w8 w.heap.size 0 (.slice a8 m8 c8)
            have row2 := f8.heap K8.out.now.2.1 (fun e => by have e : w.heap.size + 1 = w.heap.size := e; omega)
            have hfp := K8.out.now.2.2.2.over f8 (fun j hj => by have hj : j = w.heap.size := hj; omega)
            have hlo : ∀ j, (Value.slice a8 m8 c8).ownBlock = some j → w.heap.size + 1 < j := fun j hj => by have h1 := HO8.out.low j hj; have h2 := HSZ.out; omega
            have how := HO8.out.keep f8 (fun j hj e => by have e : j = w.heap.size := e; have := hlo j hj; omega)
            have hss := (K8.out.now.2.2.1.off rowb f8)
            have HX := Lib.hid (And.intro hx1 (And.intro row2 (And.intro hfp (And.intro hlo (And.intro how hss)))))
            clear rowb hx1 row2 hfp hlo how hss f8
            refine tk 12 hHeld ?_
            refine wpAnyH_ready (rs := [13]) (by kernel_rfl) (by simp) ?_
            refine (AllReadyH.cons (o := ?_) (by simp only [zA, zB, zC] <;> exact rfl) (fun K hK => ?_) AllReadyH.nil)
            go_simp
            refine hK.out _ _ trivial (fun hHeld => ?_)
            clear hK K y0 z0
            try simp only [zP, zN, zS, zT, zU]
            refine yD ?_
            generalize (World.setCell w8 _ _) = w9 at *
            obtain ⟨v0, v1⟩ := boxP2 HX.out.1
            obtain ⟨t0, t1, t2, t3, t4, t5, hz4, hf4⟩ := two_set HX.out.2.1 (.slice a8 m8 c8) (.slice at_ m cs)
            have HE := Lib.hid (And.intro hz4 (And.intro (HX.out.2.2.1.over hf4 (fun j hj => by have hj : j = w.heap.size + 1 := hj; omega)) hf4))
            clear hz4 hf4
            go_wp2_with fail
            generalize (World.setCell (World.setCell w9 _ _) _ _) = wz at *
            obtain ⟨e0, e1⟩ := boxP2 HE.out.1
            refine bodyPost_ret (v := .tuple #[.agg #[.slice a8 m8 c8, .slice at_ m cs], .int .i64 0]) (by simp [results, Try.results12, go_sem, e0, e1]) rfl ?_
            rw [HTT.out]
            obtain ⟨vw2, vs2, he, h1, h2⟩ := (HX.out.2.2.2.2.2.off HX.out.2.1 HE.out.2.2).ex
            injection he with he
            injection he with he
            simp only [List.cons.injEq, and_true] at he
            obtain ⟨rfl, rfl⟩ := he
            exact ⟨⟨_, _, rfl, (HX.out.2.2.2.2.1.keep HE.out.2.2 (fun j hj e => by have e : j = w.heap.size + 1 := e; have := HX.out.2.2.2.1 j hj; omega)).ns, h2⟩, HE.out.2.1⟩
        · have l0 := Hq.out _ ST0.out.f
          go_simp
          refine hK.out _ _ trivial (fun hHeld => ?_)
          clear hK K l0
          try simp only [zP, zN, zS, zT, zU]
          refine tk 4 hHeld ?_
          refine wpAnyH_ready (rs := [0, 7]) (by kernel_rfl) (by simp) ?_
          refine (AllReadyH.cons (o := ?_) (by simp only [zA, zB, zC] <;> exact rfl) (fun K hK => ?_) (AllReadyH.cons (o := ?_) (by simp only [zA, zB, zC] <;> exact rfl) (fun K hK => ?_) AllReadyH.nil))
          · go_simp
            have ST36 := Lib.hid ST0.out.b1
            refine hK.out _ _ trivial (fun hHeld => ?_)
            clear hK K
            try simp only [zP, zN, zS, zT, zU]
            obtain ⟨g1, hg1⟩ : ∃ q, q0.heap.size = q := ⟨_, rfl⟩
            rw [hg1] at ST36 ⊢
            clear hg1
            generalize (q0.alloc (.cells #[] TW)) = z36w at *
            refine wpAnyH_ready (rs := [5, 7]) (by kernel_rfl) (by simp) ?_
            refine (AllReadyH.cons (o := ?_) (by simp only [zA, zB, zC] <;> exact rfl) (fun K hK => ?_) (AllReadyH.cons (o := ?_) (by simp only [zA, zB, zC] <;> exact rfl) (fun K hK => ?_) AllReadyH.nil))
            · refine step_app rfl _ _ TLW TLW rfl (.slice (some ⟨g1, 0, none⟩) 0 0) (.slice aw i cw) (by first | rfl | simp [Act.eval, Act.put]) (by first | rfl | simp [Act.eval, Act.put]) _ (ST36.out.a1 HV1.out (by have := HLW.out; omega) _) ?_
              rintro v37 z37w ⟨⟨a9, c9, rfl⟩, hR⟩
              rw [HL1.out] at hR ⊢
              have ST37 := Lib.hid hR
              clear hR
              refine hK.out _ _ trivial (fun hHeld => ?_)
              clear hK K
              try simp only [zP, zN, zS, zT, zU]
              refine wpAnyH_ready (rs := [7]) (by kernel_rfl) (by simp) ?_
              refine (AllReadyH.cons (o := ?_) (by simp only [zA, zB, zC] <;> exact rfl) (fun K hK => ?_) AllReadyH.nil)
              have l0 := Hq.out _ ST37.out.f
              go_simp
              refine hK.out _ _ trivial (fun hHeld => ?_)
              clear hK K l0
              try simp only [zP, zN, zS, zT, zU]
              refine tk 10 hHeld ?_
              refine wpAnyH_ready (rs := [11]) (by kernel_rfl) (by simp) ?_
              refine (AllReadyH.cons (o := ?_) (by simp only [zA, zB, zC] <;> exact rfl) (fun K hK => ?_) AllReadyH.nil)
              refine step_app rfl _ _ TLW TLW rfl (.slice a9 i c9) (.slice (aw.map fun p => p.add (j * 4)) (n - j) (cw - j)) (by first | rfl | simp [Act.eval, Act.put]) (by first | rfl | simp [Act.eval, Act.put]) _ (ST37.out.a2 HV2.out HLW.out _) ?_
              rintro v8 w8 ⟨hO8, hF8⟩
              obtain ⟨a8, m8, c8, rfl⟩ : ∃ a m c, v8 = .slice a m c := by obtain ⟨a, c, e⟩ := hO8.ns.shape; exact ⟨a, _, c, e⟩
              have HO8 := Lib.hid hO8
              have HF8 := Lib.hid hF8
              clear hO8 hF8
              refine hK.out _ _ trivial (fun hHeld => ?_)
              clear hK K
              try simp only [zP, zN, zS, zT, zU]
              have K8 := Lib.hid (KD.out.later HF8.out)
              have rowb := K8.out.now.1
              have y0 := (boxP2 rowb).1
              have z0 := frozen_at rowb 0
              have hx1 := heap_setCell_same w8 w.heap.size 0 _ TD (.slice a8 m8 c8) rowb
              have f8 := fp_cell w8 w.heap.size 0 (.slice a8 m8 c8)
              have row2 := f8.heap K8.out.now.2.1 (fun e => by have e : w.heap.size + 1 = w.heap.size := e; omega)
              have hfp := K8.out.now.2.2.2.over f8 (fun j hj => by have hj : j = w.heap.size := hj; omega)
              have hlo : ∀ j, (Value.slice a8 m8 c8).ownBlock = some j → w.heap.size + 1 < j := fun j hj => by have h1 := HO8.out.low j hj; have h2 := HSZ.out; omega
              have how := HO8.out.keep f8 (fun j hj e => by have e : j = w.heap.size := e; have := hlo j hj; omega)
              have hss := (K8.out.now.2.2.1.off rowb f8)
              have HX := Lib.hid (And.intro hx1 (And.intro row2 (And.intro hfp (And.intro hlo (And.intro how hss)))))
              clear rowb hx1 row2 hfp hlo how hss f8
              refine tk 12 hHeld ?_
              refine wpAnyH_ready (rs := [13]) (by kernel_rfl) (by simp) ?_
              refine (AllReadyH.cons (o := ?_) (by simp only [zA, zB, zC] <;> exact rfl) (fun K hK => ?_) AllReadyH.nil)
              go_simp
              refine hK.out _ _ trivial (fun hHeld => ?_)
              clear hK K y0 z0
              try simp only [zP, zN, zS, zT, zU]
              refine yD ?_
              generalize (World.setCell w8 _ _) = w9 at *
              obtain ⟨v0, v1⟩ := boxP2 HX.out.1
              obtain ⟨t0, t1, t2, t3, t4, t5, hz4, hf4⟩ := two_set HX.out.2.1 (.slice a8 m8 c8) (.slice at_ m cs)
              have HE := Lib.hid (And.intro hz4 (And.intro (HX.out.2.2.1.over hf4 (fun j hj => by have hj : j = w.heap.size + 1 := hj; omega)) hf4))
              clear hz4 hf4
              go_wp2_with fail
              generalize (World.setCell (World.setCell w9 _ _) _ _) = wz at *
              obtain ⟨e0, e1⟩ := boxP2 HE.out.1
              refine bodyPost_ret (v := .tuple #[.agg #[.slice a8 m8 c8, .slice at_ m cs], .int .i64 0]) (by simp [results, Try.results12, go_sem, e0, e1]) rfl ?_
              rw [HTT.out]
              obtain ⟨vw2, vs2, he, h1, h2⟩ := (HX.out.2.2.2.2.2.off HX.out.2.1 HE.out.2.2).ex
              injection he with he
              injection he with he
              simp only [List.cons.injEq, and_true] at he
              obtain ⟨rfl, rfl⟩ := he
              exact ⟨⟨_, _, rfl, (HX.out.2.2.2.2.1.keep HE.out.2.2 (fun j hj e => by have e : j = w.heap.size + 1 := e; have := HX.out.2.2.2.1 j hj; omega)).ns, h2⟩, HE.out.2.1⟩
            · have l0 := Hq.out _ ST36.out.f
              go_simp
              refine hK.out _ _ trivial (fun hHeld => ?_)
              clear hK K l0
              try simp only [zP, zN, zS, zT, zU]
              refine tk 10 hHeld ?_
              refine wpAnyH_ready (rs := [5]) (by kernel_rfl) (by simp) ?_
              refine (AllReadyH.cons (o := ?_) (by simp only [zA, zB, zC] <;> exact rfl) (fun K hK => ?_) AllReadyH.nil)
              refine step_app rfl _ _ TLW TLW rfl (.slice (some ⟨g1, 0, none⟩) 0 0) (.slice aw i cw) (by first | rfl | simp [Act.eval, Act.put]) (by first | rfl | simp [Act.eval, Act.put]) _ (ST36.out.a1 HV1.out (by have := HLW.out; omega) _) ?_
              rintro v40 z40w ⟨⟨a9, c9, rfl⟩, hR⟩
              rw [HL1.out] at hR ⊢
              have ST40 := Lib.hid hR
              clear hR
              refine hK.out _ _ trivial (fun hHeld => ?_)
              clear hK K
              try simp only [zP, zN, zS, zT, zU]
              refine wpAnyH_ready (rs := [11]) (by kernel_rfl) (by simp) ?_
              refine (AllReadyH.cons (o := ?_) (by simp only [zA, zB, zC] <;> exact rfl) (fun K hK => ?_) AllReadyH.nil)
              refine step_app rfl _ _ TLW TLW rfl (.slice a9 i c9) (.slice (aw.map fun p => p.add (j * 4)) (n - j) (cw - j)) (by first | rfl | simp [Act.eval, Act.put]) (by first | rfl | simp [Act.eval, Act.put]) _ (ST40.out.a2 HV2.out HLW.out _) ?_
              rintro v8 w8 ⟨hO8, hF8⟩
              obtain ⟨a8, m8, c8, rfl⟩ : ∃ a m c, v8 = .slice a m c := by obtain ⟨a, c, e⟩ := hO8.ns.shape; exact ⟨a, _, c, e⟩
              have HO8 := Lib.hid hO8
              have HF8 := Lib.hid hF8
              clear hO8 hF8
              refine hK.out _ _ trivial (fun hHeld => ?_)
              clear hK K
              try simp only [zP, zN, zS, zT, zU]
              have K8 := Lib.hid (KD.out.later HF8.out)
              have rowb := K8.out.now.1
              have y0 := (boxP2 rowb).1
              have z0 := frozen_at rowb 0
              have hx1 := heap_setCell_same w8 w.heap.size 0 _ TD (.slice a8 m8 c8) rowb
              have f8 := fp_cell w8 w.heap.size 0 (.slice a8 m8 c8)
              have row2 := f8.heap K8.out.now.2.1 (fun e => by have e : w.heap.size + 1 = w.heap.size := e; omega)
              have hfp := K8.out.now.2.2.2.over f8 (fun j hj => by have hj : j = w.heap.size := hj; omega)
              have hlo : ∀ j, (Value.slice a8 m8 c8).ownBlock = some j → w.heap.size + 1 < j := fun j hj => by have h1 := HO8.out.low j hj; have h2 := HSZ.out; omega
              have how := HO8.out.keep f8 (fun j hj e => by have e : j = w.heap.size := e; have := hlo j hj; omega)
              have hss := (K8.out.now.2.2.1.off rowb f8)
              have HX := Lib.hid (And.intro hx1 (And.intro row2 (And.intro hfp (And.intro hlo (And.intro how hss)))))
              clear rowb hx1 row2 hfp hlo how hss f8
              refine tk 12 hHeld ?_
              refine wpAnyH_ready (rs := [13]) (by kernel_rfl) (by simp) ?_
              refine (AllReadyH.cons (o := ?_) (by simp only [zA, zB, zC] <;> exact rfl) (fun K hK => ?_) AllReadyH.nil)
              go_simp
              refine hK.out _ _ trivial (fun hHeld => ?_)
              clear hK K y0 z0
              try simp only [zP, zN, zS, zT, zU]
              refine yD ?_
              generalize (World.setCell w8 _ _) = w9 at *
              obtain ⟨v0, v1⟩ := boxP2 HX.out.1
              obtain ⟨t0, t1, t2, t3, t4, t5, hz4, hf4⟩ := two_set HX.out.2.1 (.slice a8 m8 c8) (.slice at_ m cs)
              have HE := Lib.hid (And.intro hz4 (And.intro (HX.out.2.2.1.over hf4 (fun j hj => by have hj : j = w.heap.size + 1 := hj; omega)) hf4))
              clear hz4 hf4
              go_wp2_with fail
              generalize (World.setCell (World.setCell w9 _ _) _ _) = wz at *
              obtain ⟨e0, e1⟩ := boxP2 HE.out.1
              refine bodyPost_ret (v := .tuple #[.agg #[.slice a8 m8 c8, .slice at_ m cs], .int .i64 0]) (by simp [results, Try.results12, go_sem, e0, e1]) rfl ?_
              rw [HTT.out]
              obtain ⟨vw2, vs2, he, h1, h2⟩ := (HX.out.2.2.2.2.2.off HX.out.2.1 HE.out.2.2).ex
              injection he with he
              injection he with he
              simp only [List.cons.injEq, and_true] at he
              obtain ⟨rfl, rfl⟩ := he
              exact ⟨⟨_, _, rfl, (HX.out.2.2.2.2.1.keep HE.out.2.2 (fun j hj e => by have e : j = w.heap.size + 1 := e; have := HX.out.2.2.2.1 j hj; omega)).ns, h2⟩, HE.out.2.1⟩
          · have l0 := Hq.out _ ST0.out.f
            go_simp
            refine hK.out _ _ trivial (fun hHeld => ?_)
            clear hK K l0
            try simp only [zP, zN, zS, zT, zU]
            refine tk 10 hHeld ?_
            refine wpAnyH_ready (rs := [0]) (by kernel_rfl) (by simp) ?_
            refine (AllReadyH.cons (o := ?_) (by simp only [zA, zB, zC] <;> exact rfl) (fun K hK => ?_) AllReadyH.nil)
            go_simp
            have ST42 := Lib.hid ST0.out.b1
            refine hK.out _ _ trivial (fun hHeld => ?_)
            clear hK K
            try simp only [zP, zN, zS, zT, zU]
            obtain ⟨g1, hg1⟩ : ∃ q, q0.heap.size = q := ⟨_, rfl⟩
            rw [hg1] at ST42 ⊢
            clear hg1
            generalize (q0.alloc (.cells #[] TW)) = z42w at *
            refine wpAnyH_ready (rs := [5]) (by kernel_rfl) (by simp) ?_
            refine (AllReadyH.cons (o := ?_) (by simp only [zA, zB, zC] <;> exact rfl) (fun K hK => ?_) AllReadyH.nil)
            refine step_app rfl _ _ TLW TLW rfl (.slice (some ⟨g1, 0, none⟩) 0 0) (.slice aw i cw) (by first | rfl | simp [Act.eval, Act.put]) (by first | rfl | simp [Act.eval, Act.put]) _ (ST42.out.a1 HV1.out (by have := HLW.out; omega) _) ?_
            rintro v43 z43w ⟨⟨a9, c9, rfl⟩, hR⟩
            rw [HL1.out] at hR ⊢
            have ST43 := Lib.hid hR
            clear hR
            refine hK.out _ _ trivial (fun hHeld => ?_)
            clear hK K
            try simp only [zP, zN, zS, zT, zU]
            refine wpAnyH_ready (rs := [11]) (by kernel_rfl) (by simp) ?_
            refine (AllReadyH.cons (o := ?_) (by simp only [zA, zB, zC] <;> exact rfl) (fun K hK => ?_) AllReadyH.nil)
            refine step_app rfl _ _ TLW TLW rfl (.slice a9 i c9) (.slice (aw.map fun p => p.add (j * 4)) (n - j) (cw - j)) (by first | rfl | simp [Act.eval, Act.put]) (by first | rfl | simp [Act.eval, Act.put]) _ (ST43.out.a2 HV2.out HLW.out _) ?_
            rintro v8 w8 ⟨hO8, hF8⟩
            obtain ⟨a8, m8, c8, rfl⟩ : ∃ a m c, v8 = .slice a m c := by obtain ⟨a, c, e⟩ := hO8.ns.shape; exact ⟨a, _, c, e⟩
            have HO8 := Lib.hid hO8
            have HF8 := Lib.hid hF8
            clear hO8 hF8
            refine hK.out _ _ trivial (fun hHeld => ?_)
            clear hK K
            try simp only [zP, zN, zS, zT, zU]
            have K8 := Lib.hid (KD.out.later HF8.out)
            have rowb := K8.out.now.1
            have y0 := (boxP2 rowb).1
            have z0 := frozen_at rowb 0
            have hx1 := heap_setCell_same w8 w.heap.size 0 _ TD (.slice a8 m8 c8) rowb
            have f8 := fp_cell w8 w.heap.size 0 (.slice a8 m8 c8)
            have row2 := f8.heap K8.out.now.2.1 (fun e => by have e : w.heap.size + 1 = w.heap.size := e; omega)
            have hfp := K8.out.now.2.2.2.over f8 (fun j hj => by have hj : j = w.heap.size := hj; omega)
            have hlo : ∀ j, (Value.slice a8 m8 c8).ownBlock = some j → w.heap.size + 1 < j := fun j hj => by have h1 := HO8.out.low j hj; have h2 := HSZ.out; omega
            have how := HO8.out.keep f8 (fun j hj e => by have e : j = w.heap.size := e; have := hlo j hj; omega)
            have hss := (K8.out.now.2.2.1.off rowb f8)
            have HX := Lib.hid (And.intro hx1 (And.intro row2 (And.intro hfp (And.intro hlo (And.intro how hss)))))
            clear rowb hx1 row2 hfp hlo how hss f8
            refine tk 12 hHeld ?_
            refine wpAnyH_ready (rs := [13]) (by kernel_rfl) (by simp) ?_
            refine (AllReadyH.cons (o := ?_) (by simp only [zA, zB, zC] <;> exact rfl) (fun K hK => ?_) AllReadyH.nil)
            go_simp
            refine hK.out _ _ trivial (fun hHeld => ?_)
            clear hK K y0 z0
            try simp only [zP, zN, zS, zT, zU]
            refine yD ?_
            generalize (World.setCell w8 _ _) = w9 at *
            obtain ⟨v0, v1⟩ := boxP2 HX.out.1
            obtain ⟨t0, t1, t2, t3, t4, t5, hz4, hf4⟩ := two_set HX.out.2.1 (.slice a8 m8 c8) (.slice at_ m cs)
            have HE := Lib.hid (And.intro hz4 (And.intro (HX.out.2.2.1.over hf4 (fun j hj => by have hj : j = w.heap.size + 1 := hj; omega)) hf4))
            clear hz4 hf4
            go_wp2_with fail
            generalize (World.setCell (World.setCell w9 _ _) _ _) = wz at *
            obtain ⟨e0, e1⟩ := boxP2 HE.out.1
            refine bodyPost_ret (v := .tuple #[.agg #[.slice a8 m8 c8, .slice at_ m cs], .int .i64 0]) (by simp [results, Try.results12, go_sem, e0, e1]) rfl ?_
            rw [HTT.out]
            obtain ⟨vw2, vs2, he, h1, h2⟩ := (HX.out.2.2.2.2.2.off HX.out.2.1 HE.out.2.2).ex
            injection he with he
            injection he with he
            simp only [List.cons.injEq, and_true] at he
            obtain ⟨rfl, rfl⟩ := he
            exact ⟨⟨_, _, rfl, (HX.out.2.2.2.2.1.keep HE.out.2.2 (fun j hj e => by have e : j = w.heap.size + 1 := e; have := HX.out.2.2.2.1 j hj; omega)).ns, h2⟩, HE.out.2.1⟩
        · have l0 := Hq.out _ ST0.out.f
          go_simp
          refine hK.out _ _ trivial (fun hHeld => ?_)
          clear hK K l0
          try simp only [zP, zN, zS, zT, zU]
          refine tk 10 hHeld ?_
          refine wpAnyH_ready (rs := [0, 2]) (by kernel_rfl) (by simp) ?_
          refine (AllReadyH.cons (o := ?_) (by simp only [zA, zB, zC] <;> exact rfl) (fun K hK => ?_) (AllReadyH.cons (o := ?_) (by simp only [zA, zB, zC] <;> exact rfl) (fun K hK => ?_) AllReadyH.nil))
          · go_simp
            have ST45 := Lib.hid ST0.out.b1
            refine hK.out _ _ trivial (fun hHeld => ?_)
            clear hK K
            try simp only [zP, zN, zS, zT, zU]
            obtain ⟨g1, hg1⟩ : ∃ q, q0.heap.size = q := ⟨_, rfl⟩
            rw [hg1] at ST45 ⊢
            clear hg1
            generalize (q0.alloc (.cells #[] TW)) = z45w at *
            refine wpAnyH_ready (rs := [2]) (by kernel_rfl) (by simp) ?_
            refine (AllReadyH.cons (o := ?_) (by simp only [zA, zB, zC] <;> exact rfl) (fun K hK => ?_) AllReadyH.nil)
            have l0 := Hq.out _ ST45.out.f
            go_simp
            refine hK.out _ _ trivial (fun hHeld => ?_)
            clear hK K l0
            try simp only [zP, zN, zS, zT, zU]
            refine tk 4 hHeld ?_
            refine wpAnyH_ready (rs := [5]) (by kernel_rfl) (by simp) ?_
            refine (AllReadyH.cons (o := ?_) (by simp only [zA, zB, zC] <;> exact rfl) (fun K hK => ?_) AllReadyH.nil)
            refine step_app rfl _ _ TLW TLW rfl (.slice (some ⟨g1, 0, none⟩) 0 0) (.slice aw i cw) (by first | rfl | simp [Act.eval, Act.put]) (by first | rfl | simp [Act.eval, Act.put]) _ (ST45.out.a1 HV1.out (by have := HLW.out; omega) _) ?_
            rintro v47 z47w ⟨⟨a9, c9, rfl⟩, hR⟩
            rw [HL1.out] at hR ⊢
            have ST47 := Lib.hid hR
            clear hR
            refine hK.out _ _ trivial (fun hHeld => ?_)
            clear hK K
            try simp only [zP, zN, zS, zT, zU]
            refine wpAnyH_ready (rs := [11]) (by kernel_rfl) (by simp) ?_
            refine (AllReadyH.cons (o := ?_) (by simp only [zA, zB, zC] <;> exact rfl) (fun K hK => ?_) AllReadyH.nil)
            refine step_app rfl _ _ TLW TLW rfl (.slice a9 i c9) (.slice (aw.map fun p => p.add (j * 4)) (n - j) (cw - j)) (by first | rfl | simp [Act.eval, Act.put]) (by first | rfl | simp [Act.eval, Act.put]) _ (ST47.out.a2 HV2.out HLW.out _) ?_
            rintro v8 w8 ⟨hO8, hF8⟩
            obtain ⟨a8, m8, c8, rfl⟩ : ∃ a m c, v8 = .slice a m c := by obtain ⟨a, c, e⟩ := hO8.ns.shape; exact ⟨a, _, c, e⟩
            have HO8 := Lib.hid hO8
            have HF8 := Lib.hid hF8
            clear hO8 hF8
            refine hK.out _ _ trivial (fun hHeld => ?_)
            clear hK K
            try simp only [zP, zN, zS, zT, zU]
            have K8 := Lib.hid (KD.out.later HF8.out)
            have rowb := K8.out.now.1
            have y0 := (boxP2 rowb).1
            have z0 := frozen_at rowb 0
            have hx1 := heap_setCell_same w8 w.heap.size 0 _ TD (.slice a8 m8 c8) rowb
            have f8 := fp_cell w8 w.heap.size 0 (.slice a8 m8 c8)
            have row2 := f8.heap K8.out.now.2.1 (fun e => by have e : w.heap.size + 1 = w.heap.size := e; omega)
            have hfp := K8.out.now.2.2.2.over f8 (fun j hj => by have hj : j = w.heap.size := hj; omega)
            have hlo : ∀ j, (Value.slice a8 m8 c8).ownBlock = some j → w.heap.size + 1 < j := fun j hj => by have h1 := HO8.out.low j hj; have h2 := HSZ.out; omega
            have how := HO8.out.keep f8 (fun j hj e => by have e : j = w.heap.size := e; have := hlo j hj; omega)
            have hss := (K8.out.now.2.2.1.off rowb f8)
            have HX := Lib.hid (And.intro hx1 (And.intro row2 (And.intro hfp (And.intro hlo (And.intro how hss)))))
            clear rowb hx1 row2 hfp hlo how hss f8
            refine tk 12 hHeld ?_
            refine wpAnyH_ready (rs := [13]) (by kernel_rfl) (by simp) ?_
            refine (AllReadyH.cons (o := ?_) (by simp only [zA, zB, zC] <;> exact rfl) (fun K hK => ?_) AllReadyH.nil)
            go_simp
            refine hK.out _ _ trivial (fun hHeld => ?_)
            clear hK K y0 z0
            try simp only [zP, zN, zS, zT, zU]
            refine yD ?_
            generalize (World.setCell w8 _ _) = w9 at *
            obtain ⟨v0, v1⟩ := boxP2 HX.out.1
            obtain ⟨t0, t1, t2, t3, t4, t5, hz4, hf4⟩ := two_set HX.out.2.1 (.slice a8 m8 c8) (.slice at_ m cs)
            have HE := Lib.hid (And.intro hz4 (And.intro (HX.out.2.2.1.over hf4 (fun j hj => by have hj : j = w.heap.size + 1 := hj; omega)) hf4))
            clear hz4 hf4
            go_wp2_with fail
            generalize (World.setCell (World.setCell w9 _ _) _ _) = wz at *
            obtain ⟨e0, e1⟩ := boxP2 HE.out.1
            refine bodyPost_ret (v := .tuple #[.agg #[.slice a8 m8 c8, .slice at_ m cs], .int .i64 0]) (by simp [results, Try.results12, go_sem, e0, e1]) rfl ?_
            rw [HTT.out]
            obtain ⟨vw2, vs2, he, h1, h2⟩ := (HX.out.2.2.2.2.2.off HX.out.2.1 HE.out.2.2).ex
            injection he with he
            injection he with he
            simp only [List.cons.injEq, and_true] at he
            obtain ⟨rfl, rfl⟩ := he
            exact ⟨⟨_, _, rfl, (HX.out.2.2.2.2.1.keep HE.out.2.2 (fun j hj e => by have e : j = w.heap.size + 1 := e; have := HX.out.2.2.2.1 j hj; omega)).ns, h2⟩, HE.out.2.1⟩
          · have l0 := Hq.out _ ST0.out.f
            go_simp
            refine hK.out _ _ trivial (fun hHeld => ?_)
            clear hK K l0
            try simp only [zP, zN, zS, zT, zU]
            refine tk 4 hHeld ?_
            refine wpAnyH_ready (rs := [0]) (by kernel_rfl) (by simp) ?_
            refine (AllReadyH.cons (o := ?_) (by simp only [zA, zB, zC] <;> exact rfl) (fun K hK => ?_) AllReadyH.nil)
            go_simp
            have ST49 := Lib.hid ST0.out.b1
            refine hK.out _ _ trivial (fun hHeld => ?_)
            clear hK K
            try simp only [zP, zN, zS, zT, zU]
            obtain ⟨g1, hg1⟩ : ∃ q, q0.heap.size = q := ⟨_, rfl⟩
            rw [hg1] at ST49 ⊢
            clear hg1
            generalize (q0.alloc (.cells #[] TW)) = z49w at *
            refine wpAnyH_ready (rs := [5]) (by kernel_rfl) (by simp) ?_
            refine (AllReadyH.cons (o := ?_) (by simp only [zA, zB, zC] <;> exact rfl) (fun K hK => ?_) AllReadyH.nil)
            refine step_app rfl _ _ TLW TLW rfl (.slice (some ⟨g1, 0, none⟩) 0 0) (.slice aw i cw) (by first | rfl | simp [Act.eval, Act.put]) (by first | rfl | simp [Act.eval, Act.put]) _ (ST49.out.a1 HV1.out (by have := HLW.out; omega) _) ?_
            rintro v50 z50w ⟨⟨a9, c9, rfl⟩, hR⟩
            rw [HL1.out] at hR ⊢
            have ST50 := Lib.hid hR
            clear hR
            refine hK.out _ _ trivial (fun hHeld => ?_)
            clear hK K
            try simp only [zP, zN, zS, zT, zU]
            refine wpAnyH_ready (rs := [11]) (by kernel_rfl) (by simp) ?_
            refine (AllReadyH.cons (o := ?_) (by simp only [zA, zB, zC] <;> exact rfl) (fun K hK => ?_) AllReadyH.nil)
            refine step_app rfl _ _ TLW TLW rfl (.slice a9 i c9) (.slice (aw.map fun p => p.add (j * 4)) (n - j) (cw - j)) (by first | rfl | simp [Act.eval, Act.put]) (by first | rfl | simp [Act.eval, Act.put]) _ (ST50.out.a2 HV2.out HLW.out _) ?_
            rintro v8 w8 ⟨hO8, hF8⟩
            obtain ⟨a8, m8, c8, rfl⟩ : ∃ a m c, v8 = .slice a m c := by obtain ⟨a, c, e⟩ := hO8.ns.shape; exact ⟨a, _, c, e⟩
            have HO8 := Lib.hid hO8
            have HF8 := Lib.hid hF8
            clear hO8 hF8
            refine hK.out _ _ trivial (fun hHeld => ?_)
            clear hK K
            try simp only [zP, zN, zS, zT, zU]
            have K8 := Lib.hid (KD.out.later HF8.out)
            have rowb := K8.out.now.1
            have y0 := (boxP2 rowb).1
            have z0 := frozen_at rowb 0
            have hx1 := heap_setCell_same w8 w.heap.size 0 _ TD (.slice a8 m8 c8) rowb
            have f8 := fp_cell w8 w.heap.size 0 (.slice a8 m8 c8)
            have row2 := f8.heap K8.out.now.2.1 (fun e => by have e : w.heap.size + 1 = w.heap.size := e; omega)
            have hfp := K8.out.now.2.2.2.over f8 (fun j hj => by have hj : j = w.heap.size := hj; omega)
            have hlo : ∀ j, (Value.slice a8 m8 c8).ownBlock = some j → w.heap.size + 1 < j := fun j hj => by have h1 := HO8.out.low j hj; have h2 := HSZ.out; omega
            have how := HO8.out.keep f8 (fun j hj e => by have e : j = w.heap.size := e; have := hlo j hj; omega)
            have hss := (K8.out.now.2.2.1.off rowb f8)
            have HX := Lib.hid (And.intro hx1 (And.intro row2 (And.intro hfp (And.intro hlo (And.intro how hss)))))
            clear rowb hx1 row2 hfp hlo how hss f8
            refine tk 12 hHeld ?_
            refine wpAnyH_ready (rs := [13]) (by kernel_rfl) (by simp) ?_
            refine (AllReadyH.cons (o := ?_) (by simp only [zA, zB, zC] <;> exact rfl) (fun K hK => ?_) AllReadyH.nil)
            go_simp
            refine hK.out _ _ trivial (fun hHeld => ?_)
            clear hK K y0 z0
            try simp only [zP, zN, zS, zT, zU]
            refine yD ?_
            generalize (World.setCell w8 _ _) = w9 at *
            obtain ⟨v0, v1⟩ := boxP2 HX.out.1
            obtain ⟨t0, t1, t2, t3, t4, t5, hz4, hf4⟩ := two_set HX.out.2.1 (.slice a8 m8 c8) (.slice at_ m cs)
            have HE := Lib.hid (And.intro hz4 (And.intro (HX.out.2.2.1.over hf4 (fun j hj => by have hj : j = w.heap.size + 1 := hj; omega)) hf4))
            clear hz4 hf4
            go_wp2_with fail
            generalize (World.setCell (World.setCell w9 _ _) _ _) = wz at *
            obtain ⟨e0, e1⟩ := boxP2 HE.out.1
            refine bodyPost_ret (v := .tuple #[.agg #[.slice a8 m8 c8, .slice at_ m cs], .int .i64 0]) (by simp [results, Try.results12, go_sem, e0, e1]) rfl ?_
            rw [HTT.out]
            obtain ⟨vw2, vs2, he, h1, h2⟩ := (HX.out.2.2.2.2.2.off HX.out.2.1 HE.out.2.2).ex
            injection he with he
            injection he with he
            simp only [List.cons.injEq, and_true] at he
            obtain ⟨rfl, rfl⟩ := he
            exact ⟨⟨_, _, rfl, (HX.out.2.2.2.2.1.keep HE.out.2.2 (fun j hj e => by have e : j = w.heap.size + 1 := e; have := HX.out.2.2.2.1 j hj; omega)).ns, h2⟩, HE.out.2.1⟩
end Go.Proofs.Ytjdpbieifcjmiaa
