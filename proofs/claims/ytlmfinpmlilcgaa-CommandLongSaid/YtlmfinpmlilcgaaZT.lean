/- Texts of this proof, merged. -/
import Derived.Test.YtlmfinpmlilcgaaZS
import Derived.Test.YtlmfinpmlilcgaaZM
import Derived.Laws.CopyRow
set_option linter.unusedVariables false
set_option linter.unusedSimpArgs false
/- Get. (gen_gp.py) -/
namespace Go.Proofs.Ytlmfinpmlilcgaa
set_option maxRecDepth 20000
set_option linter.unusedVariables false
set_option linter.unusedSimpArgs false
open Go.RowKit Pm

theorem conv_sl (w : World) (v : Value) (l : Bs) (h : Sl w v l) : (convert 32 9 v).run Try.prog w = .ok (.string (B l)) w := by
  obtain ⟨ao, cap, rfl, h1, h2, h3⟩ := h.ex
  rcases h3 with ⟨rfl, rfl⟩ | ⟨g, o, rfl, hg, hc⟩
  · have h0 : l = [] := List.eq_nil_of_length_eq_zero (by omega)
    subst h0
    rw [run_convert_bytes_nil w 32 5 Try.underlying32 Try.underlying5 _ _ 9 Try.underlying9]
    rfl
  · rw [run_convert_bytes_arg w 32 5 Try.underlying32 Try.underlying5 g o l.length cap (l.map fun x => (x.toNat : Int)) (by simp) ?_ 9 Try.underlying9]
    · have : strOfNums (l.map fun x => (x.toNat : Int)) = B l := by
        apply ByteArray.ext; apply Array.toList_inj.1
        rw [strOfNums_data]
        show _ = l
        rw [List.map_map]
        conv => rhs; rw [← List.map_id l]
        apply List.map_congr_left
        intro x _
        simp
      rw [this]
    · intro i hi
      rw [hc i hi]
      simp [List.getD, hi]

theorem New_c (lo : Nat) (v : Value) (l : Bs) (w : World) (h : Sl w v l) (hlo : lo ≤ w.heap.size) :
    Calls Try.prog 22 #[v] w fun e w' => ∃ b, e = .returned (.pointer (some ⟨b, 0, none⟩)) ∧ w.heap.size ≤ b ∧ Rr lo b (l, 0) w' ∧ Fp Non w w' := by
  have hconv := conv_sl w v l h
  have hfin : Rr lo w.heap.size (l, 0) (w.alloc (.cells #[.string (B l), .int .i64 0] TI)) := ⟨hlo, heap_alloc_new w _⟩
  have hfp : Fp Non w (w.alloc (.cells #[.string (B l), .int .i64 0] TI)) := (Fp.refl Non w).alloc _
  have HF := Lib.hid (And.intro hfin hfp); clear hfin hfp
  obtain ⟨ao, cap, rfl, _, _, _⟩ := h.ex
  clear h
  go_enter Try.func22, Try.ntmps22
  go_wp2
  go_ret
  exact ⟨_, rfl, Nat.le_refl _, HF.out.1, HF.out.2⟩

theorem ns_of {T : TypeId} {lo : Nat} {w : World} {v : Value} {l : List Nd} (h : OwG T ndC 5 lo w v l) : Ns w v l := by
  have hs := h.sg ndC_len
  rcases h.2 with ⟨h0, h1⟩ | ⟨g, cap, cur, e, hb, hg, r1, r2, r3, r4⟩
  · have hl : l = [] := List.eq_nil_of_length_eq_zero h1
    subst hl h0
    exact Ns.nil w
  · subst e
    obtain ⟨ao, c, e, h3⟩ := hs.ex
    injection e with e1 e2 e3
    subst e1 e3
    refine ⟨_, cap, rfl, r1, r2, ?_⟩
    rcases h3 with h3 | ⟨g', o, e', hc⟩
    · exact .inl h3
    · injection e' with e'
      injection e' with e1 e2
      subst e1 e2
      refine .inr ⟨g, 0, rfl, (Array.getElem?_eq_some_iff.1 hg).1, fun i hi => ?_⟩
      have := (hc i hi).get
      exact ⟨this 0 _ rfl, this 1 _ rfl, this 2 _ rfl, this 3 _ rfl, this 4 _ rfl⟩
theorem ts_of {T : TypeId} {lo : Nat} {w : World} {v : Value} {l : List Tu} (h : OwG T tuC 2 lo w v l) : Ts w v l := by
  have hs := h.sg tuC_len
  rcases h.2 with ⟨h0, h1⟩ | ⟨g, cap, cur, e, hb, hg, r1, r2, r3, r4⟩
  · have hl : l = [] := List.eq_nil_of_length_eq_zero h1
    subst hl h0
    exact Ts.nil w
  · subst e
    obtain ⟨ao, c, e, h3⟩ := hs.ex
    injection e with e1 e2 e3
    subst e1 e3
    refine ⟨_, cap, rfl, r1, r2, ?_⟩
    rcases h3 with h3 | ⟨g', o, e', hc⟩
    · exact .inl h3
    · injection e' with e'
      injection e' with e1 e2
      subst e1 e2
      refine .inr ⟨g, 0, rfl, (Array.getElem?_eq_some_iff.1 hg).1, fun i hi => ?_⟩
      have := (hc i hi).get
      exact ⟨this 0 _ rfl, this 1 _ rfl⟩
theorem tx_of {T : TypeId} {lo : Nat} {w : World} {v : Value} {l : List Bs} (h : OwG T txC 1 lo w v l) : Tx w v l := by
  obtain ⟨ao, c, e, h3⟩ := (h.sg txC_len).ex
  refine ⟨ao, c, e, ?_⟩
  rcases h3 with h3 | ⟨g, o, e', hc⟩
  · exact .inl h3
  · refine .inr ⟨g, o, e', fun i hi => ?_⟩
    have := (hc i hi).get 0 _ rfl
    simpa using this
/-- What a read command lies in. -/
structure Lis (lo : Nat) (w : World) (vp vn vt vg : Value) (u : Cd) : Prop where
  ps : OwG 48 peC 8 lo w vp u.ps
  ns : OwG 81 ndC 5 lo w vn u.st.nodes
  ts : OwG 72 tuC 2 lo w vt u.st.turns
  gs : OwG 9 txC 1 lo w vg u.gone
theorem Lis.keep {lo : Nat} {w w' : World} {vp vn vt vg : Value} {u : Cd} (h : Lis lo w vp vn vt vg u) {S : Nat → Prop} (f : Fp S w w') (hS : ∀ j, lo ≤ j → ¬ S j) : Lis lo w' vp vn vt vg u := ⟨h.ps.keep f hS, h.ns.keep f hS, h.ts.keep f hS, h.gs.keep f hS⟩
theorem Lis.cdw {lo : Nat} {w : World} {vp vn vt vg : Value} {u : Cd} (h : Lis lo w vp vn vt vg u) : CdW w (.agg (cdL u vp vn vt vg)) u := ⟨vp, vn, vt, vg, rfl, h.ps.sg peC_len, ns_of h.ns, ts_of h.ts, tx_of h.gs⟩
theorem cdw_zero (w : World) : CdW w (.agg #[.int .i64 0, .int .i64 0, .int .i64 0, .int .i64 0, .bool false, .slice none 0 0, .string ⟨#[]⟩, .int .i64 0, .int .i64 0, .slice none 0 0, .slice none 0 0, .slice none 0 0, .int .i64 0, .int .i64 0, .string ⟨#[]⟩, .bool false]) zeroC := ⟨.slice none 0 0, .slice none 0 0, .slice none 0 0, .slice none 0 0, rfl, Sg.nil w, Ns.nil w, Ts.nil w, ⟨none, 0, rfl, .inl rfl⟩⟩

/-- What stands in few bytes is small. -/
theorem fw_of {u : Cd} (ho : okCd u) (h : (encCd u).length ≤ 1000000) : Fw u := by
  rw [encCd_len, ← encS_T, encS_len, encS_len, encS_len, encS_len] at h
  have b4 := encT_len ho.pre
  have b5 := encT_len ho.wp
  have hp := fun x (hx : x ∈ u.ps) => And.intro (encF_mem (f := encPe) u.ps x hx) (encPe_len (ho.ps.2.2 x hx))
  have hn := fun x (hx : x ∈ u.st.nodes) => And.intro (encF_mem (f := encNd) u.st.nodes x hx) (encNd_len (ho.nodes.2.2 x hx))
  have ht := fun x (hx : x ∈ u.st.turns) => And.intro (encF_mem (f := encTu) u.st.turns x hx) (encTu_len (ho.turns.2.2 x hx))
  have hg := fun x (hx : x ∈ u.gone) => And.intro (encF_mem (f := encT) u.gone x hx) (encT_len (ho.gone.2.2 x hx))
  refine ⟨by omega, by omega, by have := ho.ps.1; omega, fun x hx => ?_, by have := ho.nodes.1; omega, fun x hx => ?_, by have := ho.turns.1; omega, fun x hx => ?_, by have := ho.gone.1; omega, fun x hx => ?_⟩
  · have := hp x hx; omega
  · have := hn x hx; omega
  · have := ht x hx; omega
  · have := hg x hx; omega
end Go.Proofs.Ytlmfinpmlilcgaa

/- Commands loaded and stored whole. (gen_gx.py) -/
namespace Go.Proofs.Ytlmfinpmlilcgaa
set_option maxRecDepth 20000
set_option linter.unusedVariables false
set_option linter.unusedSimpArgs false
open Go.RowKit Pm

theorem Try.infoCD : (Try.prog.info? TCD).map (·.size) = some 16 := by kernel_rfl
theorem szC (w : World) : (sizeOf TCD).run Try.prog w = .ok 16 w := by
  have := Try.infoCD
  cases hq : Try.prog.info? TCD with
  | none => simp [hq] at this
  | some i =>
    have hs : i.size = 16 := by simpa [hq] using this
    simp [sizeOf, typeInfo, hq, hs]
theorem aggC (w : World) : (isAgg TCD).run Try.prog w = .ok true w := by
  unfold isAgg
  simp [run_underlying Try.underlying31]
theorem cdL_size (c : Cd) (vp vn vt vg : Value) : (cdL c vp vn vt vg).size = 16 := rfl
/-- Its slices are slices. -/
structure Slc (vp vn vt vg : Value) : Prop where
  p : ∃ a n c, vp = .slice a n c
  n : ∃ a n c, vn = .slice a n c
  t : ∃ a n c, vt = .slice a n c
  g : ∃ a n c, vg = .slice a n c
theorem cdL_one {c : Cd} {vp vn vt vg : Value} (h : Slc vp vn vt vg) : ∀ u ∈ (cdL c vp vn vt vg).toList, u.oneCell' = true := by
  obtain ⟨⟨_, _, _, rfl⟩, ⟨_, _, _, rfl⟩, ⟨_, _, _, rfl⟩, ⟨_, _, _, rfl⟩⟩ := h
  intro u hu
  simp only [cdL, List.mem_cons, List.not_mem_nil, or_false] at hu
  rcases hu with rfl | rfl | rfl | rfl | rfl | rfl | rfl | rfl | rfl | rfl | rfl | rfl | rfl | rfl | rfl | rfl <;> rfl
theorem CdW.slc {w : World} {c : Cd} {vp vn vt vg : Value} (f1 : Sg peC 8 w vp c.ps) (f2 : Ns w vn c.st.nodes) (f3 : Ts w vt c.st.turns) (f4 : Tx w vg c.gone) : Slc vp vn vt vg := by
  obtain ⟨ap, cp, rfl⟩ := f1.shape
  obtain ⟨an, cn, rfl⟩ := f2.shape
  obtain ⟨at', ct, rfl⟩ := f3.shape
  obtain ⟨ag, cg, rfl⟩ := f4.shape
  exact ⟨⟨_, _, _, rfl⟩, ⟨_, _, _, rfl⟩, ⟨_, _, _, rfl⟩, ⟨_, _, _, rfl⟩⟩
/-- A command, loaded. -/
theorem lv_cd {w : World} {b : Nat} {cs : Array Value} (h : w.heap[b]? = some (.cells cs TCD (0, 0))) (hs : cs.size = 16) :
    (loadVar TCD ⟨b, 0, none⟩).run Try.prog w = .ok (.agg cs) w := by
  have hl := run_loadCells_list (P := Try.prog) w ⟨b, 0, none⟩ cs.toList (fun j v hv => by
    rw [Addr.add_lit, cell_of_row _ _ _ _ _ _ h, Nat.zero_add, ← hv]; simp)
  rw [Array.length_toList, hs] at hl
  simp only [loadVar, Sem.run_bind, Sem.run_pure, Result.andThen_ok, aggC, if_true, szC, hl]
theorem ld_cd {w : World} {b : Nat} {cs : Array Value} (h : w.heap[b]? = some (.cells cs TCD (0, 0))) (hs : cs.size = 16) :
    (Instr.loadAt TCD (.pointer (some ⟨b, 0, none⟩))).run Try.prog w = .ok (.agg cs) w := by
  simp only [Instr.loadAt, Instr.sureAddr, Sem.run_bind, Sem.run_pure, Result.andThen_ok, lv_cd h hs]
/-- A command, stored. -/
theorem st_cd {w : World} {b : Nat} {cur : Array Value} {c : Cd} {vp vn vt vg : Value} (h : w.heap[b]? = some (.cells cur TCD (0, 0))) (hc : cur.size = 16) (hS : Slc vp vn vt vg) :
    (Instr.storeAt TCD (.pointer (some ⟨b, 0, none⟩)) (.agg (cdL c vp vn vt vg))).run Try.prog w = .ok () (w.setRow b (cdL c vp vn vt vg)) := by
  have hst := run_storeCells_at Try.prog b 0 TCD (cdL c vp vn vt vg).toList 0 cur w h (by rw [Array.length_toList, cdL_size]; omega) (cdL_one hS)
  have e : (cur.toList.take (0 + 0) ++ (cdL c vp vn vt vg).toList ++ cur.toList.drop (0 + 0 + (cdL c vp vn vt vg).toList.length)).toArray = cdL c vp vn vt vg := by
    rw [List.drop_of_length_le (by rw [Array.length_toList, Array.length_toList, cdL_size]; omega)]
    simp
  rw [e] at hst
  have hsz : (Value.agg (cdL c vp vn vt vg)).cells.size = 16 := rfl
  have hcl : (Value.agg (cdL c vp vn vt vg)).cells.toList = (cdL c vp vn vt vg).toList := rfl
  simp only [Instr.storeAt, Instr.sureAddr, storeVar, Sem.run_bind, Sem.run_pure, Result.andThen_ok, szC, hsz, ne_eq, not_true, if_false, hcl, hst]
theorem setRow_alloc (w : World) (cs cs' : Array Value) (T : TypeId) : (w.alloc (.cells cs T)).setRow w.heap.size cs' = w.alloc (.cells cs' T) := by
  unfold World.setRow World.alloc
  congr 1
  apply Array.ext
  · simp
  · intro i h1 h2
    simp only [Array.getElem_modify]
    by_cases hi : w.heap.size = i
    · subst hi; simp
    · have : i < w.heap.size := by simp at h1; omega
      simp [hi, Array.getElem_push_lt this]
theorem sc_cd {w : World} {b : Nat} {cur : Array Value} {c : Cd} {vp vn vt vg : Value} (h : w.heap[b]? = some (.cells cur TCD (0, 0))) (hc : cur.size = 16) (hS : Slc vp vn vt vg) :
    (storeCells ⟨b, 0, none⟩ (cdL c vp vn vt vg).toList).run Try.prog w = .ok () (w.setRow b (cdL c vp vn vt vg)) := by
  have hst := run_storeCells_at Try.prog b 0 TCD (cdL c vp vn vt vg).toList 0 cur w h (by rw [Array.length_toList, cdL_size]; omega) (cdL_one hS)
  have e : (cur.toList.take (0 + 0) ++ (cdL c vp vn vt vg).toList ++ cur.toList.drop (0 + 0 + (cdL c vp vn vt vg).toList.length)).toArray = cdL c vp vn vt vg := by
    rw [List.drop_of_length_le (by rw [Array.length_toList, Array.length_toList, cdL_size]; omega)]
    simp
  rw [e] at hst; exact hst
theorem lc_cd {w : World} {b : Nat} {cs : Array Value} (h : w.heap[b]? = some (.cells cs TCD (0, 0))) (hs : cs.size = 16) :
    (loadCells ⟨b, 0, none⟩ 16).run Try.prog w = .ok cs w := by
  have hl := run_loadCells_list (P := Try.prog) w ⟨b, 0, none⟩ cs.toList (fun j v hv => by
    rw [Addr.add_lit, cell_of_row _ _ _ _ _ _ h, Nat.zero_add, ← hv]; simp)
  rw [Array.length_toList, hs] at hl; simpa using hl
/-- A command, stored into a new variable. -/
theorem stn_cd (w : World) {c : Cd} {vp vn vt vg : Value} (hS : Slc vp vn vt vg) :
    (Instr.storeAt TCD (.pointer (some ⟨w.heap.size, 0, none⟩)) (.agg (cdL c vp vn vt vg))).run Try.prog (w.alloc (.cells #[.int .i64 0, .int .i64 0, .int .i64 0, .int .i64 0, .bool false, .slice none 0 0, .string ⟨#[]⟩, .int .i64 0, .int .i64 0, .slice none 0 0, .slice none 0 0, .slice none 0 0, .int .i64 0, .int .i64 0, .string ⟨#[]⟩, .bool false] TCD)) = .ok () (w.alloc (.cells (cdL c vp vn vt vg) TCD)) := by
  rw [st_cd (heap_alloc_new w _) rfl hS, setRow_alloc]
theorem scn_cd (w : World) {c : Cd} {vp vn vt vg : Value} (hS : Slc vp vn vt vg) :
    (storeCells ⟨w.heap.size, 0, none⟩ (cdL c vp vn vt vg).toList).run Try.prog (w.alloc (.cells #[.int .i64 0, .int .i64 0, .int .i64 0, .int .i64 0, .bool false, .slice none 0 0, .string ⟨#[]⟩, .int .i64 0, .int .i64 0, .slice none 0 0, .slice none 0 0, .slice none 0 0, .int .i64 0, .int .i64 0, .string ⟨#[]⟩, .bool false] TCD)) = .ok () (w.alloc (.cells (cdL c vp vn vt vg) TCD)) := by
  rw [sc_cd (heap_alloc_new w _) rfl hS, setRow_alloc]
end Go.Proofs.Ytlmfinpmlilcgaa

