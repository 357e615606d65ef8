/- The arguments of the laws, on: lists of items. -/
import Derived.Test.YtidkihadlhkbkaaIt
namespace Go.Proofs.Ytidkihadlhkbkaa
open Go.ChangeShapes Go.WideShapes Go.ChangeAt Go.RowKit Pm Go.Deep
open Go.WideMaps Go.WideElems
open Go.ChangeMaps (setBlock shut_map_nil open_string shut_string)

/-- A slice of items, none of whose lists is longer than memory allows. -/
structure Its2 (w : World) (lo : Nat) (v : Value) (l : List It) : Prop where
  its : Its w lo v l
  len : ∀ x ∈ l, x.ps.length ≤ 8796093022208

theorem Its2.keep {w w' : World} {lo : Nat} {v : Value} {l : List It} (h : Its2 w lo v l) {S : Nat → Prop} (f : Fp S w w') (hS : ∀ k, S k → lo ≤ k) : Its2 w' lo v l := ⟨h.its.keep f hS, h.len⟩

theorem Try.bytesStr : Try.prog.bytesOf 9 = 16 := by kernel_rfl

section
variable {H : Type} {enc : TypeId × Value → H} {W : World}

/-- []string within, opened. -/
theorem open_texts {fuel : Nat} {v : Value} {y : DataW H × List MemPlace} (h : DataW.trod enc Try.prog W 0 (fun _ => true) true fuel 32 [v] = some y) :
    ∃ ps, Ss W v ps ∧ (0 < ps.length → ∀ k, v.ownBlock = some k → k < W.heap.size) ∧ ((∀ n ∈ y.1.weights Try.prog 32, n ≤ reachBytes) → ps.length ≤ 8796093022208) := by
  rcases open_strs Try.underlying32 Try.underlying9 Try.cellsStr h with ⟨hcs, hx⟩ | ⟨a, len, cap, m, Sx, hcs, _, hl, hm, hmm, hx, hcell⟩
  · simp only [List.cons.injEq, and_true] at hcs
    subst hcs
    exact ⟨[], Ss.nil W, fun h => by simp at h, fun _ => Nat.zero_le _⟩
  · simp only [List.cons.injEq, and_true] at hcs
    subst hcs
    simp only [if_true] at hmm
    subst hmm
    have hlen : ((List.range len).map fun i => (Sx i).data.toList).length = len := by simp
    have hwt : (∀ n ∈ y.1.weights Try.prog 32, n ≤ reachBytes) → len ≤ 8796093022208 := by
      intro hw
      subst hx
      have := hw ((((List.range len).map fun i => (DataW.lit (.string (Sx i).data.toList) : DataW H)).length + ((List.range (m - len)).map fun j => (DataW.lit (.string (Sx (len + j)).data.toList) : DataW H)).length) * Try.prog.bytesOf 9) (by simp [DataW.weights, Try.underlying32])
      rw [Try.bytesStr] at this
      simp only [List.length_map, List.length_range, reachBytes] at this
      omega
    by_cases h0 : m = 0
    · refine ⟨(List.range len).map fun i => (Sx i).data.toList, ⟨some a, m, by rw [hlen], by rw [hlen]; exact hl, hm, .inl h0⟩, fun h => by rw [hlen] at h; omega, fun h => by rw [hlen]; exact hwt h⟩
    · have hc0 := (hcell 0 (by omega)).1
      have hc0 : W.cell? a = some (.string (Sx 0)) := by simpa [Addr.add] using hc0
      have hlt := World.block_lt_of_cell? W a hc0
      obtain ⟨g, o, rfl⟩ := spot_none hc0
      refine ⟨(List.range len).map fun i => (Sx i).data.toList, ⟨some ⟨g, o, none⟩, m, by rw [hlen], by rw [hlen]; exact hl, hm, .inr ⟨g, o, rfl, hlt, fun j hj => ?_⟩⟩, fun _ k hk => by simp [Value.ownBlock] at hk; simp at hlt; omega, fun h => by rw [hlen]; exact hwt h⟩
      rw [hlen] at hj
      have := (hcell j (by omega)).1
      rw [Addr.add_lit] at this
      rw [this]
      simp only [List.getElem_map, List.getElem_range]
      rw [← B_of]

theorem item_of {n : Nat} {cs : List Value} {y : DataW H × List MemPlace} (hlen : cs.length = 4) (h : DataW.trod enc Try.prog W 0 (fun _ => true) true n 34 cs = some y) :
    ∃ x : It, cs = [.int .i64 x.what, .int .i64 x.n, .string (B x.s), x.lv] ∧ Ss W x.lv x.ps ∧ (0 < x.ps.length → ∀ k, x.lv.ownBlock = some k → k < W.heap.size) ∧ x.s.length ≤ maxLen ∧ ((∀ n ∈ y.1.weights Try.prog 34, n ≤ reachBytes) → x.ps.length ≤ 8796093022208) := by
  obtain ⟨xs, k, hk, hxy, _, hxl, hf⟩ := DataW.trod_struct Try.underlying34 h
  match xs, hxl, cs, hlen with
  | [y0, y1, y2, y3], _, [v0, v1, v2, v3], _ =>
    have g0 := hf 0 _ rfl
    have g1 := hf 1 _ rfl
    have g2 := hf 2 _ rfl
    have g3 := hf 3 _ rfl
    have k0 : Try.prog.cellsOf 3 = 1 := by kernel_rfl
    have k1 : Try.prog.cellsOf 2 = 1 := by kernel_rfl
    have k3 : Try.prog.cellsOf 32 = 1 := by kernel_rfl
    simp [k0] at g0
    simp [k1] at g1
    simp [Try.cellsStr] at g2
    simp [k3] at g3
    obtain ⟨z0, e0, _, _⟩ := DataW.trod_int Try.underlying3 g0
    obtain ⟨z1, e1, _, _⟩ := DataW.trod_int Try.underlying2 g1
    obtain ⟨z2, e2, _, h2⟩ := DataW.trod_string Try.underlying9 g2
    obtain ⟨ps, h3, h4, h5⟩ := open_texts g3
    simp only [List.cons.injEq, and_true] at e0 e1 e2
    subst e0 e1 e2
    refine ⟨⟨z0, z1, z2.data.toList, v3, ps⟩, by rw [← B_of], h3, h4, ?_⟩
    refine ⟨h2, fun hw => h5 fun n hn => hw n ?_⟩
    rw [hxy]
    simp only [DataW.weights, Try.underlying34, List.map_cons, List.map_nil, DataW.weightsEach, List.mem_append]
    simp [hn]

/-- []Item, opened. -/
theorem open_items {v : Value} {d : DataW H} {p : List MemPlace} {base : Nat} (hv : Value.okWide Try.prog W .any base 22 v) (h : DataW.Trod enc Try.prog W 0 (fun _ => true) true 22 v d p) (hsz : ∀ n ∈ d.weights Try.prog 22, n ≤ reachBytes) :
    ∃ l, Its2 W W.heap.size v l := by
  obtain ⟨a0, len, cap, rfl⟩ := okWide_slice Try.underlying22 hv
  obtain ⟨fuel, hf⟩ := h
  have hf : DataW.trod enc Try.prog W 0 (fun _ => true) true fuel 22 [.slice a0 len cap] = some (d, p) := by simpa [Value.cells] using hf
  rcases open_slice Try.underlying22 hf with ⟨hcs, hx⟩ | ⟨a, len', cap', m, n, D, Pl, hcs, _, hl, hm, hmm, hx, hel⟩
  · simp only [List.cons.injEq, Value.slice.injEq, and_true] at hcs
    obtain ⟨rfl, rfl, rfl⟩ := hcs
    exact ⟨[], ⟨none, 0, rfl, Nat.le_refl _, Nat.zero_le _, .inl rfl⟩, fun x hx => by cases hx⟩
  · simp only [List.cons.injEq, Value.slice.injEq, and_true] at hcs
    obtain ⟨rfl, rfl, rfl⟩ := hcs
    simp only [if_true] at hmm
    subst hmm
    have each : ∀ i, i < m → ∃ x : It, (∀ j (hj : j < 4), W.cell? (a.add (i * 4 + j)) = [Value.int .i64 x.what, .int .i64 x.n, .string (B x.s), x.lv][j]?) ∧ Ss W x.lv x.ps ∧ (0 < x.ps.length → ∀ k, x.lv.ownBlock = some k → k < W.heap.size) ∧ x.s.length ≤ maxLen ∧ ((∀ n ∈ (D i).weights Try.prog 34, n ≤ reachBytes) → x.ps.length ≤ 8796093022208) := by
      intro i hi
      obtain ⟨cs', h1, h2⟩ := hel i hi
      rw [Try.cellsItem] at h1
      obtain ⟨_, hlen, hcell⟩ := World.cells?_some h1
      obtain ⟨x, rfl, h3, h4, h5, h6⟩ := item_of hlen h2
      refine ⟨x, fun j hj => ?_, h3, h4, h5, h6⟩
      have := hcell j (by omega)
      rw [add_add] at this
      exact this
    have hex : ∃ f : Nat → It, ∀ i, i < m → (∀ j (hj : j < 4), W.cell? (a.add (i * 4 + j)) = [Value.int .i64 (f i).what, .int .i64 (f i).n, .string (B (f i).s), (f i).lv][j]?) ∧ Ss W (f i).lv (f i).ps ∧ (0 < (f i).ps.length → ∀ k, (f i).lv.ownBlock = some k → k < W.heap.size) ∧ (f i).s.length ≤ maxLen ∧ ((∀ n ∈ (D i).weights Try.prog 34, n ≤ reachBytes) → (f i).ps.length ≤ 8796093022208) := by
      haveI : Inhabited It := ⟨⟨0, 0, [], .slice none 0 0, []⟩⟩
      exact choose_lt each
    obtain ⟨f, hfi⟩ := hex
    have hlen : ((List.range len).map f).length = len := by simp
    have hps : ∀ x ∈ (List.range len).map f, x.ps.length ≤ 8796093022208 := by
      intro x hxm
      obtain ⟨i, hi, rfl⟩ := List.mem_map.1 hxm
      rw [List.mem_range] at hi
      refine (hfi i (by omega)).2.2.2.2 fun n hn => hsz n ?_
      simp only [Prod.mk.injEq] at hx
      rw [hx.1]
      have hall : ∀ (xs : List Nat), i ∈ xs → n ∈ DataW.weightsAll Try.prog 34 (xs.map D) := by
        intro xs
        induction xs with
        | nil => intro h; cases h
        | cons a r ih =>
          intro h
          simp only [List.map_cons, DataW.weightsAll, List.mem_append]
          rcases List.mem_cons.1 h with rfl | h
          · exact .inl hn
          · exact .inr (ih h)
      simp only [DataW.weights, Try.underlying22]
      exact List.mem_cons_of_mem _ (List.mem_append_left _ (hall _ (List.mem_range.2 hi)))
    by_cases h0 : m = 0
    · exact ⟨(List.range len).map f, ⟨some a, m, by rw [hlen], by rw [hlen]; exact hl, hm, .inl h0⟩, hps⟩
    · have hc0 := (hfi 0 (by omega)).1 0 (by omega)
      have hc0 : W.cell? a = some (.int .i64 (f 0).what) := by simpa [Addr.add] using hc0
      have hlt := World.block_lt_of_cell? W a hc0
      obtain ⟨g, o, rfl⟩ := spot_none hc0
      refine ⟨(List.range len).map f, ⟨some ⟨g, o, none⟩, m, by rw [hlen], by rw [hlen]; exact hl, hm, .inr ⟨g, o, rfl, hlt, fun i hi => ?_⟩⟩, hps⟩
      rw [hlen] at hi
      obtain ⟨k1, k2, k3, k4, _⟩ := hfi i (by omega)
      simp only [List.getElem_map, List.getElem_range]
      have q0 := k1 0 (by omega)
      have q1 := k1 1 (by omega)
      have q2 := k1 2 (by omega)
      have q3 := k1 3 (by omega)
      rw [Addr.add_lit] at q0 q1 q2 q3
      exact ⟨by simpa using q0, by simpa [Nat.add_assoc] using q1, by simpa [Nat.add_assoc] using q2, by simpa [Nat.add_assoc] using q3, k2, k3, k4⟩
end
end Go.Proofs.Ytidkihadlhkbkaa
