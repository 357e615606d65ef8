/- Texts of this proof, merged. -/
import Derived.Test.YtdfnfkknbjageaaZD
import Derived.Test.YtdfnfkknbjageaaZB
import Derived.Test.YtdfnfkknbjageaaShelf
import Derived.Laws.StructEq
import Derived.Lib.Bytealg
set_option linter.unusedVariables false
set_option linter.unusedSimpArgs false
/- May a part be? -/
namespace Go.Proofs.Ytdfnfkknbjageaa
set_option maxRecDepth 20000
set_option linter.unusedVariables false
set_option linter.unusedSimpArgs false
open Go.RowKit Pm

abbrev TP : TypeId := 99
def ptC (x : Pt) : List Value := [.int .i64 x.kind, strV x.dir, strV x.path, strV x.data, .int .i64 x.ver, .int .i64 x.own, .bool x.turns]
def ptV (x : Pt) : Value := .agg #[.int .i64 x.kind, strV x.dir, strV x.path, strV x.data, .int .i64 x.ver, .int .i64 x.own, .bool x.turns]
theorem boxP7 {w : World} {b : Nat} {T : TypeId} {c0 c1 c2 c3 c4 c5 c6 : Value} (h : w.heap[b]? = some (.cells #[c0, c1, c2, c3, c4, c5, c6] T (0, 0))) :
    w.cell? ⟨b, 0, none⟩ = some c0 ∧ w.cell? ⟨b, 1, none⟩ = some c1 ∧ w.cell? ⟨b, 2, none⟩ = some c2 ∧ w.cell? ⟨b, 3, none⟩ = some c3 ∧ w.cell? ⟨b, 4, none⟩ = some c4 ∧ w.cell? ⟨b, 5, none⟩ = some c5 ∧ w.cell? ⟨b, 6, none⟩ = some c6 :=
  ⟨by rw [cell_of_row _ _ _ _ _ _ h]; rfl, by rw [cell_of_row _ _ _ _ _ _ h]; rfl, by rw [cell_of_row _ _ _ _ _ _ h]; rfl, by rw [cell_of_row _ _ _ _ _ _ h]; rfl, by rw [cell_of_row _ _ _ _ _ _ h]; rfl, by rw [cell_of_row _ _ _ _ _ _ h]; rfl, by rw [cell_of_row _ _ _ _ _ _ h]; rfl⟩

theorem boxP3 {w : World} {b : Nat} {T : TypeId} {c0 c1 c2 c3 c4 c5 c6 : Value} (h : w.heap[b]? = some (.cells #[c0, c1, c2, c3, c4, c5, c6] T (0, 0))) :
    w.cell? ⟨b, 0, none⟩ = some c0 ∧ w.cell? ⟨b, 1, none⟩ = some c1 ∧ w.cell? ⟨b, 2, none⟩ = some c2 := ⟨(boxP7 h).1, (boxP7 h).2.1, (boxP7 h).2.2.1⟩

set_option maxHeartbeats 8000000 in
theorem mayP_c (x : Pt) (w : World) (hl : x.path.length ≤ 140737488355328) :
    Calls Try.prog 54 #[ptV x] w fun e w' => e = .returned (.bool (mayP x)) ∧ Fp Non w w' := by
  have hri := fun w => Right_g x.path w (sz_of hl (by omega))
  have hke := fun w => keptAt_c x.kind x.path w hl
  obtain ⟨k, d, p, da, v, o, t⟩ := x
  obtain ⟨sp, hsp⟩ : ∃ b, (split p).isSome = b := ⟨_, rfl⟩
  obtain ⟨kp, hkp⟩ : ∃ b, keptAt k p = b := ⟨_, rfl⟩
  simp only at hri hke
  rw [hsp] at hri
  rw [hkp] at hke
  obtain ⟨b1, h1⟩ : ∃ r, decide ((-1 : Int) ≤ v ∧ v ≤ 281474976710656) = r := ⟨_, rfl⟩
  obtain ⟨b3, h3⟩ : ∃ r, decide ((0 : Int) ≤ o ∧ o ≤ 1099511627776) = r := ⟨_, rfl⟩
  obtain ⟨n, hn⟩ : ∃ n, n = da.length := ⟨_, rfl⟩
  have W1 := Lib.hid (fun w => withinP_d v (-1) 281474976710656 w b1 h1)
  have W3 := Lib.hid (fun w => withinP_d o 0 1099511627776 w b3 h3)
  obtain ⟨r, hr⟩ : ∃ r, mayP ⟨k, d, p, da, v, o, t⟩ = r := ⟨_, rfl⟩
  have key : r = (decide (1 ≤ k) && decide (k ≤ 10) && sp && decide (d = kp) && !(decide (k = 2) && decide (p = [47])) && decide (n ≤ 256) && b1 && b3) := by
    rw [← hr, ← hsp, ← h1, ← h3, hn, ← hkp]
    by_cases a1 : p = [47] <;> by_cases a2 : k = 2 <;> (rw [Bool.eq_iff_iff, mayP_iff]; simp [a1, a2, and_assoc])
  have HR := Lib.hid hri
  have HKE := Lib.hid hke
  have HFin := Lib.hid (show ∀ c : Bool, (decide (1 ≤ k) && decide (k ≤ 10) && sp && decide (d = kp) && !(decide (k = 2) && decide (p = [47])) && decide (n ≤ 256) && b1 && b3) = c → r = c from fun c h => by rw [key, h])
  rw [hr]
  have hf0 := fp_alloc w (.cells #[.int .i64 k, .string (B d), .string (B p), .string (B da), .int .i64 v, .int .i64 o, .bool t] TP)
  have hb0 := heap_alloc_new w (.cells #[.int .i64 k, .string (B d), .string (B p), .string (B da), .int .i64 v, .int .i64 o, .bool t] TP)
  have HF0 := Lib.hid (And.intro hf0 hb0)
  unfold ptV strV
  clear hri hke hsp hkp h1 h3 hr key hl hf0 hb0
  by_cases ha : 1 ≤ k
  · have q1 : (k < (1 : Int)) = False := eq_false (by omega)
    by_cases hb : k ≤ 10
    · have q2 : ((11 : Int) ≤ k) = False := eq_false (by omega)
      cases sp with
      | false =>
        have Q := Lib.hid (And.intro ha (hb))
        clear ha hb hn
        go_enter Try.func54, Try.ntmps54
        go_wp2_with fail
        refine wp_region_held_drew (S := (fun w' => w'.cell? ⟨w.heap.size, 0, none⟩ = some (.int .i64 k) ∧ w'.cell? ⟨w.heap.size, 1, none⟩ = some (.string (B d)) ∧ w'.cell? ⟨w.heap.size, 2, none⟩ = some (.string (B p)))) (by kernel_rfl) ?_ (fun hHeld => ?_)
        · exact boxP3 ((Fp.refl Non _).drew.heap HF0.out.2 (fun h => h))
        refine wpAnyH_take (i := 0) (oi := ?oi245) (v := ?vi245) ?h245 (by kernel_rfl) (by kernel_rfl) (by kernel_rfl) ?q245 (Or.inl ⟨?w245, ?y245⟩) hHeld ?r245
        case h245 => first | (simp only [List.getElem?_toArray, List.getElem?_cons_zero]; done) | (simp only [List.getElem?_toArray, List.getElem?_cons_zero]; exact rfl)
        case q245 => exact fun _ _ _ h => h
        case w245 => rfl
        case y245 =>
          intro w hSw
          (try dsimp only at hSw)
          obtain ⟨s0, s1, s2⟩ := hSw
          go_simp
          try with_reducible rfl
        try simp only [Act.put, List.setIfInBounds_toArray, List.set_cons_zero, List.set_cons_succ]
        refine wpAnyH_take (i := 1) (oi := ?oi246) (v := ?vi246) ?h246 (by kernel_rfl) (by kernel_rfl) (by kernel_rfl) ?q246 (Or.inl ⟨?w246, ?y246⟩) hHeld ?r246
        case h246 => first | (simp only [List.getElem?_toArray, List.getElem?_cons_zero, List.getElem?_cons_succ]; done) | (simp only [List.getElem?_toArray, List.getElem?_cons_zero, List.getElem?_cons_succ]; exact rfl)
        case q246 => exact fun _ _ _ h => h
        case w246 => rfl
        case y246 =>
          intro w hSw
          (try dsimp only at hSw)
          obtain ⟨s0, s1, s2⟩ := hSw
          go_simp
          try with_reducible rfl
        try simp only [Act.put, List.setIfInBounds_toArray, List.set_cons_zero, List.set_cons_succ]
        refine wpAnyH_take (i := 2) (oi := ?oi247) (v := ?vi247) ?h247 (by kernel_rfl) (by kernel_rfl) (by kernel_rfl) ?q247 (Or.inl ⟨?w247, ?y247⟩) hHeld ?r247
        case h247 => first | (simp only [List.getElem?_toArray, List.getElem?_cons_zero, List.getElem?_cons_succ]; done) | (simp only [List.getElem?_toArray, List.getElem?_cons_zero, List.getElem?_cons_succ]; exact rfl)
        case q247 => exact fun _ _ _ h => h
        case w247 => rfl
        case y247 =>
          intro w hSw
          (try dsimp only at hSw)
          obtain ⟨s0, s1, s2⟩ := hSw
          go_simp
          try with_reducible rfl
        try simp only [Act.put, List.setIfInBounds_toArray, List.set_cons_zero, List.set_cons_succ]
        refine wpAnyH_take (i := 3) (oi := ?oi248) (v := ?vi248) ?h248 (by kernel_rfl) (by kernel_rfl) (by kernel_rfl) ?q248 (Or.inl ⟨?w248, ?y248⟩) hHeld ?r248
        case h248 => first | (simp only [List.getElem?_toArray, List.getElem?_cons_zero, List.getElem?_cons_succ]; done) | (simp only [List.getElem?_toArray, List.getElem?_cons_zero, List.getElem?_cons_succ]; exact rfl)
        case q248 => exact fun _ _ _ h => h
        case w248 => rfl
        case y248 =>
          intro w hSw
          (try dsimp only at hSw)
          obtain ⟨s0, s1, s2⟩ := hSw
          go_simp
          try with_reducible rfl
        try simp only [Act.put, List.setIfInBounds_toArray, List.set_cons_zero, List.set_cons_succ]
        refine wpAnyH_take (i := 4) (oi := ?oi249) (v := ?vi249) ?h249 (by kernel_rfl) (by kernel_rfl) (by kernel_rfl) ?q249 (Or.inl ⟨?w249, ?y249⟩) hHeld ?r249
        case h249 => first | (simp only [List.getElem?_toArray, List.getElem?_cons_zero, List.getElem?_cons_succ]; done) | (simp only [List.getElem?_toArray, List.getElem?_cons_zero, List.getElem?_cons_succ]; exact rfl)
        case q249 => exact fun _ _ _ h => h
        case w249 => rfl
        case y249 =>
          intro w hSw
          (try dsimp only at hSw)
          obtain ⟨s0, s1, s2⟩ := hSw
          go_simp
          try with_reducible rfl
        try simp only [Act.put, List.setIfInBounds_toArray, List.set_cons_zero, List.set_cons_succ]
        refine wpAnyH_take (i := 5) (oi := ?oi250) (v := ?vi250) ?h250 (by kernel_rfl) (by kernel_rfl) (by kernel_rfl) ?q250 (Or.inl ⟨?w250, ?y250⟩) hHeld ?r250
        case h250 => first | (simp only [List.getElem?_toArray, List.getElem?_cons_zero, List.getElem?_cons_succ]; done) | (simp only [List.getElem?_toArray, List.getElem?_cons_zero, List.getElem?_cons_succ]; exact rfl)
        case q250 => exact fun _ _ _ h => h
        case w250 => rfl
        case y250 =>
          intro w hSw
          (try dsimp only at hSw)
          obtain ⟨s0, s1, s2⟩ := hSw
          go_simp
          try with_reducible rfl
        try simp only [Act.put, List.setIfInBounds_toArray, List.set_cons_zero, List.set_cons_succ]
        refine wpAnyH_take (i := 6) (oi := ?oi251) (v := ?vi251) ?h251 (by kernel_rfl) (by kernel_rfl) (by kernel_rfl) ?q251 (Or.inl ⟨?w251, ?y251⟩) hHeld ?r251
        case h251 => first | (simp only [List.getElem?_toArray, List.getElem?_cons_zero, List.getElem?_cons_succ]; done) | (simp only [List.getElem?_toArray, List.getElem?_cons_zero, List.getElem?_cons_succ]; exact rfl)
        case q251 => exact fun _ _ _ h => h
        case w251 => rfl
        case y251 =>
          intro w hSw
          (try dsimp only at hSw)
          obtain ⟨s0, s1, s2⟩ := hSw
          go_simp
          try with_reducible rfl
        try simp only [Act.put, List.setIfInBounds_toArray, List.set_cons_zero, List.set_cons_succ]
        refine wpAnyH_take (i := 7) (oi := ?oi252) (v := ?vi252) ?h252 (by kernel_rfl) (by kernel_rfl) (by kernel_rfl) ?q252 (Or.inl ⟨?w252, ?y252⟩) hHeld ?r252
        case h252 => first | (simp only [List.getElem?_toArray, List.getElem?_cons_zero, List.getElem?_cons_succ]; done) | (simp only [List.getElem?_toArray, List.getElem?_cons_zero, List.getElem?_cons_succ]; exact rfl)
        case q252 => exact fun _ _ _ h => h
        case w252 => rfl
        case y252 =>
          intro w hSw
          (try dsimp only at hSw)
          obtain ⟨s0, s1, s2⟩ := hSw
          go_simp
          try with_reducible rfl
        try simp only [Act.put, List.setIfInBounds_toArray, List.set_cons_zero, List.set_cons_succ]
        refine wpAnyH_take (i := 8) (oi := ?oi253) (v := ?vi253) ?h253 (by kernel_rfl) (by kernel_rfl) (by kernel_rfl) ?q253 (Or.inl ⟨?w253, ?y253⟩) hHeld ?r253
        case h253 => first | (simp only [List.getElem?_toArray, List.getElem?_cons_zero, List.getElem?_cons_succ]; done) | (simp only [List.getElem?_toArray, List.getElem?_cons_zero, List.getElem?_cons_succ]; exact rfl)
        case q253 => exact fun _ _ _ h => h
        case w253 => rfl
        case y253 =>
          intro w hSw
          (try dsimp only at hSw)
          obtain ⟨s0, s1, s2⟩ := hSw
          go_simp
          try with_reducible rfl
        try simp only [Act.put, List.setIfInBounds_toArray, List.set_cons_zero, List.set_cons_succ]
        refine wpAnyH_take (i := 9) (oi := ?oi254) (v := ?vi254) ?h254 (by kernel_rfl) (by kernel_rfl) (by kernel_rfl) ?q254 (Or.inl ⟨?w254, ?y254⟩) hHeld ?r254
        case h254 => first | (simp only [List.getElem?_toArray, List.getElem?_cons_zero, List.getElem?_cons_succ]; done) | (simp only [List.getElem?_toArray, List.getElem?_cons_zero, List.getElem?_cons_succ]; exact rfl)
        case q254 => exact fun _ _ _ h => h
        case w254 => rfl
        case y254 =>
          intro w hSw
          (try dsimp only at hSw)
          obtain ⟨s0, s1, s2⟩ := hSw
          go_simp
          try with_reducible rfl
        try simp only [Act.put, List.setIfInBounds_toArray, List.set_cons_zero, List.set_cons_succ]
        refine wpAnyH_take (i := 10) (oi := ?oi255) (v := ?vi255) ?h255 (by kernel_rfl) (by kernel_rfl) (by kernel_rfl) ?q255 (Or.inl ⟨?w255, ?y255⟩) hHeld ?r255
        case h255 => first | (simp only [List.getElem?_toArray, List.getElem?_cons_zero, List.getElem?_cons_succ]; done) | (simp only [List.getElem?_toArray, List.getElem?_cons_zero, List.getElem?_cons_succ]; exact rfl)
        case q255 => exact fun _ _ _ h => h
        case w255 => rfl
        case y255 =>
          intro w hSw
          (try dsimp only at hSw)
          obtain ⟨s0, s1, s2⟩ := hSw
          go_simp
          try with_reducible rfl
        try simp only [Act.put, List.setIfInBounds_toArray, List.set_cons_zero, List.set_cons_succ]
        refine wpAnyH_ready (rs := [11]) (by kernel_rfl) (by simp) ?_
        refine AllReadyH.cons (o := ?ob256) ?hb256 (fun K hK => ?_) AllReadyH.nil
        case hb256 => first | (simp only [List.getElem?_toArray, List.getElem?_cons_zero, List.getElem?_cons_succ]; done) | (simp only [List.getElem?_toArray, List.getElem?_cons_zero, List.getElem?_cons_succ]; exact rfl)
        go_simp
        go_at_call 50
        refine (HR.out _).mono ?_
        rintro e w1 ⟨rfl, g1⟩
        have hb1 := g1.fp.heap (k := w.heap.size) ((Fp.refl Non _).drew.heap HF0.out.2 (fun h => h)) (fun h => h)
        have HB1 := Lib.hid hb1
        have HS1 := Lib.hid (boxP3 hb1)
        have F1 := Lib.hid (HF0.out.1.then (((Fp.refl Non _).drew).then g1.fp))
        clear g1 hb1
        go_wp2_with fail
        refine hK.out _ _ HS1.out (fun hHeld => ?_)
        clear hK K
        try simp only [Act.put, List.setIfInBounds_toArray, List.set_cons_zero, List.set_cons_succ]
        refine wpAnyH_take (i := 12) (oi := ?oi257) (v := ?vi257) ?h257 (by kernel_rfl) (by kernel_rfl) (by kernel_rfl) ?q257 (Or.inl ⟨?w257, ?y257⟩) hHeld ?r257
        case h257 => first | (simp only [List.getElem?_toArray, List.getElem?_cons_zero, List.getElem?_cons_succ]; done) | (simp only [List.getElem?_toArray, List.getElem?_cons_zero, List.getElem?_cons_succ]; exact rfl)
        case q257 => exact fun _ _ _ h => h
        case w257 => rfl
        case y257 =>
          intro w hSw
          (try dsimp only at hSw)
          obtain ⟨s0, s1, s2⟩ := hSw
          go_simp
          try with_reducible rfl
        try simp only [Act.put, List.setIfInBounds_toArray, List.set_cons_zero, List.set_cons_succ]
        refine wpAnyH_take (i := 13) (oi := ?oi258) (v := ?vi258) ?h258 (by kernel_rfl) (by kernel_rfl) (by kernel_rfl) ?q258 (Or.inl ⟨?w258, ?y258⟩) hHeld ?r258
        case h258 => first | (simp only [List.getElem?_toArray, List.getElem?_cons_zero, List.getElem?_cons_succ]; done) | (simp only [List.getElem?_toArray, List.getElem?_cons_zero, List.getElem?_cons_succ]; exact rfl)
        case q258 => exact fun _ _ _ h => h
        case w258 => rfl
        case y258 =>
          intro w hSw
          (try dsimp only at hSw)
          obtain ⟨s0, s1, s2⟩ := hSw
          go_simp
          try with_reducible rfl
        try simp only [Act.put, List.setIfInBounds_toArray, List.set_cons_zero, List.set_cons_succ]
        refine wpAnyH_take (i := 14) (oi := ?oi259) (v := ?vi259) ?h259 (by kernel_rfl) (by kernel_rfl) (by kernel_rfl) ?q259 (Or.inl ⟨?w259, ?y259⟩) hHeld ?r259
        case h259 => first | (simp only [List.getElem?_toArray, List.getElem?_cons_zero, List.getElem?_cons_succ]; done) | (simp only [List.getElem?_toArray, List.getElem?_cons_zero, List.getElem?_cons_succ]; exact rfl)
        case q259 => exact fun _ _ _ h => h
        case w259 => rfl
        case y259 =>
          intro w hSw
          (try dsimp only at hSw)
          obtain ⟨s0, s1, s2⟩ := hSw
          go_simp
          try with_reducible rfl
        try simp only [Act.put, List.setIfInBounds_toArray, List.set_cons_zero, List.set_cons_succ]
        refine wpAnyH_take (i := 15) (oi := ?oi260) (v := undef) ?h260 (by kernel_rfl) (by kernel_rfl) (by kernel_rfl) ?q260 (Or.inr ⟨?w260, rfl⟩) hHeld ?r260
        case h260 => first | (simp only [List.getElem?_toArray, List.getElem?_cons_zero, List.getElem?_cons_succ]; done) | (simp only [List.getElem?_toArray, List.getElem?_cons_zero, List.getElem?_cons_succ]; exact rfl)
        case q260 => exact fun _ _ _ h => h
        case w260 => rfl
        try simp only [Act.put, List.setIfInBounds_toArray, List.set_cons_zero, List.set_cons_succ]
        refine wpAnyH_take (i := 16) (oi := ?oi261) (v := undef) ?h261 (by kernel_rfl) (by kernel_rfl) (by kernel_rfl) ?q261 (Or.inr ⟨?w261, rfl⟩) hHeld ?r261
        case h261 => first | (simp only [List.getElem?_toArray, List.getElem?_cons_zero, List.getElem?_cons_succ]; done) | (simp only [List.getElem?_toArray, List.getElem?_cons_zero, List.getElem?_cons_succ]; exact rfl)
        case q261 => exact fun _ _ _ h => h
        case w261 => rfl
        try simp only [Act.put, List.setIfInBounds_toArray, List.set_cons_zero, List.set_cons_succ]
        refine wpAnyH_take (i := 17) (oi := ?oi262) (v := undef) ?h262 (by kernel_rfl) (by kernel_rfl) (by kernel_rfl) ?q262 (Or.inr ⟨?w262, rfl⟩) hHeld ?r262
        case h262 => first | (simp only [List.getElem?_toArray, List.getElem?_cons_zero, List.getElem?_cons_succ]; done) | (simp only [List.getElem?_toArray, List.getElem?_cons_zero, List.getElem?_cons_succ]; exact rfl)
        case q262 => exact fun _ _ _ h => h
        case w262 => rfl
        try simp only [Act.put, List.setIfInBounds_toArray, List.set_cons_zero, List.set_cons_succ]
        refine wpAnyH_take (i := 18) (oi := ?oi263) (v := undef) ?h263 (by kernel_rfl) (by kernel_rfl) (by kernel_rfl) ?q263 (Or.inr ⟨?w263, rfl⟩) hHeld ?r263
        case h263 => first | (simp only [List.getElem?_toArray, List.getElem?_cons_zero, List.getElem?_cons_succ]; done) | (simp only [List.getElem?_toArray, List.getElem?_cons_zero, List.getElem?_cons_succ]; exact rfl)
        case q263 => exact fun _ _ _ h => h
        case w263 => rfl
        try simp only [Act.put, List.setIfInBounds_toArray, List.set_cons_zero, List.set_cons_succ]
        refine wpAnyH_take (i := 19) (oi := ?oi264) (v := undef) ?h264 (by kernel_rfl) (by kernel_rfl) (by kernel_rfl) ?q264 (Or.inr ⟨?w264, rfl⟩) hHeld ?r264
        case h264 => first | (simp only [List.getElem?_toArray, List.getElem?_cons_zero, List.getElem?_cons_succ]; done) | (simp only [List.getElem?_toArray, List.getElem?_cons_zero, List.getElem?_cons_succ]; exact rfl)
        case q264 => exact fun _ _ _ h => h
        case w264 => rfl
        try simp only [Act.put, List.setIfInBounds_toArray, List.set_cons_zero, List.set_cons_succ]
        refine wpAnyH_take (i := 20) (oi := ?oi265) (v := undef) ?h265 (by kernel_rfl) (by kernel_rfl) (by kernel_rfl) ?q265 (Or.inr ⟨?w265, rfl⟩) hHeld ?r265
        case h265 => first | (simp only [List.getElem?_toArray, List.getElem?_cons_zero, List.getElem?_cons_succ]; done) | (simp only [List.getElem?_toArray, List.getElem?_cons_zero, List.getElem?_cons_succ]; exact rfl)
        case q265 => exact fun _ _ _ h => h
        case w265 => rfl
        try simp only [Act.put, List.setIfInBounds_toArray, List.set_cons_zero, List.set_cons_succ]
        refine wpAnyH_take (i := 21) (oi := ?oi266) (v := undef) ?h266 (by kernel_rfl) (by kernel_rfl) (by kernel_rfl) ?q266 (Or.inr ⟨?w266, rfl⟩) hHeld ?r266
        case h266 => first | (simp only [List.getElem?_toArray, List.getElem?_cons_zero, List.getElem?_cons_succ]; done) | (simp only [List.getElem?_toArray, List.getElem?_cons_zero, List.getElem?_cons_succ]; exact rfl)
        case q266 => exact fun _ _ _ h => h
        case w266 => rfl
        try simp only [Act.put, List.setIfInBounds_toArray, List.set_cons_zero, List.set_cons_succ]
        refine wpAnyH_take (i := 22) (oi := ?oi267) (v := undef) ?h267 (by kernel_rfl) (by kernel_rfl) (by kernel_rfl) ?q267 (Or.inr ⟨?w267, rfl⟩) hHeld ?r267
        case h267 => first | (simp only [List.getElem?_toArray, List.getElem?_cons_zero, List.getElem?_cons_succ]; done) | (simp only [List.getElem?_toArray, List.getElem?_cons_zero, List.getElem?_cons_succ]; exact rfl)
        case q267 => exact fun _ _ _ h => h
        case w267 => rfl
        try simp only [Act.put, List.setIfInBounds_toArray, List.set_cons_zero, List.set_cons_succ]
        refine wpAnyH_take (i := 23) (oi := ?oi268) (v := ?vi268) ?h268 (by kernel_rfl) (by kernel_rfl) (by kernel_rfl) ?q268 (Or.inl ⟨?w268, ?y268⟩) hHeld ?r268
        case h268 => first | (simp only [List.getElem?_toArray, List.getElem?_cons_zero, List.getElem?_cons_succ]; done) | (simp only [List.getElem?_toArray, List.getElem?_cons_zero, List.getElem?_cons_succ]; exact rfl)
        case q268 => exact fun _ _ _ h => h
        case w268 => rfl
        case y268 =>
          intro w hSw
          (try dsimp only at hSw)
          obtain ⟨s0, s1, s2⟩ := hSw
          go_simp
          try with_reducible rfl
        try simp only [Act.put, List.setIfInBounds_toArray, List.set_cons_zero, List.set_cons_succ]
        refine wpAnyH_done (by kernel_rfl) ?_ _
        go_wp2
        go_ret
        exact ⟨ret_bool (HFin.out _ (by simp [Q.out])).symm, F1.out⟩
      | true =>
        by_cases hd0 : d = kp
        · have q3 : (d != kp) = false := by simpa using hd0
          have q3b : (d == kp) = true := by simpa using hd0
          have q3c : (d = kp) = True := eq_true hd0
          by_cases h2 : k = 2
          · have q4 : (k == 2) = true := by simpa using h2
            have q4b : (k = 2) = True := eq_true h2
            by_cases hp : p = [47]
            · have q7 : (p == [47]) = true := by simpa using hp
              have q7b : (p = [47]) = True := eq_true hp
              have Q := Lib.hid (And.intro ha (And.intro hb (And.intro hd0 (And.intro h2 (hp)))))
              clear ha hb hd0 h2 hp hn
              go_enter Try.func54, Try.ntmps54
              go_wp2_with fail
              refine wp_region_held_drew (S := (fun w' => w'.cell? ⟨w.heap.size, 0, none⟩ = some (.int .i64 k) ∧ w'.cell? ⟨w.heap.size, 1, none⟩ = some (.string (B d)) ∧ w'.cell? ⟨w.heap.size, 2, none⟩ = some (.string (B p)))) (by kernel_rfl) ?_ (fun hHeld => ?_)
              · exact boxP3 ((Fp.refl Non _).drew.heap HF0.out.2 (fun h => h))
              refine wpAnyH_take (i := 0) (oi := ?oi101) (v := ?vi101) ?h101 (by kernel_rfl) (by kernel_rfl) (by kernel_rfl) ?q101 (Or.inl ⟨?w101, ?y101⟩) hHeld ?r101
              case h101 => first | (simp only [List.getElem?_toArray, List.getElem?_cons_zero]; done) | (simp only [List.getElem?_toArray, List.getElem?_cons_zero]; exact rfl)
              case q101 => exact fun _ _ _ h => h
              case w101 => rfl
              case y101 =>
                intro w hSw
                (try dsimp only at hSw)
                obtain ⟨s0, s1, s2⟩ := hSw
                go_simp
                try with_reducible rfl
              try simp only [Act.put, List.setIfInBounds_toArray, List.set_cons_zero, List.set_cons_succ]
              refine wpAnyH_take (i := 1) (oi := ?oi102) (v := ?vi102) ?h102 (by kernel_rfl) (by kernel_rfl) (by kernel_rfl) ?q102 (Or.inl ⟨?w102, ?y102⟩) hHeld ?r102
              case h102 => first | (simp only [List.getElem?_toArray, List.getElem?_cons_zero, List.getElem?_cons_succ]; done) | (simp only [List.getElem?_toArray, List.getElem?_cons_zero, List.getElem?_cons_succ]; exact rfl)
              case q102 => exact fun _ _ _ h => h
              case w102 => rfl
              case y102 =>
                intro w hSw
                (try dsimp only at hSw)
                obtain ⟨s0, s1, s2⟩ := hSw
                go_simp
                try with_reducible rfl
              try simp only [Act.put, List.setIfInBounds_toArray, List.set_cons_zero, List.set_cons_succ]
              refine wpAnyH_take (i := 2) (oi := ?oi103) (v := ?vi103) ?h103 (by kernel_rfl) (by kernel_rfl) (by kernel_rfl) ?q103 (Or.inl ⟨?w103, ?y103⟩) hHeld ?r103
              case h103 => first | (simp only [List.getElem?_toArray, List.getElem?_cons_zero, List.getElem?_cons_succ]; done) | (simp only [List.getElem?_toArray, List.getElem?_cons_zero, List.getElem?_cons_succ]; exact rfl)
              case q103 => exact fun _ _ _ h => h
              case w103 => rfl
              case y103 =>
                intro w hSw
                (try dsimp only at hSw)
                obtain ⟨s0, s1, s2⟩ := hSw
                go_simp
                try with_reducible rfl
              try simp only [Act.put, List.setIfInBounds_toArray, List.set_cons_zero, List.set_cons_succ]
              refine wpAnyH_take (i := 3) (oi := ?oi104) (v := ?vi104) ?h104 (by kernel_rfl) (by kernel_rfl) (by kernel_rfl) ?q104 (Or.inl ⟨?w104, ?y104⟩) hHeld ?r104
              case h104 => first | (simp only [List.getElem?_toArray, List.getElem?_cons_zero, List.getElem?_cons_succ]; done) | (simp only [List.getElem?_toArray, List.getElem?_cons_zero, List.getElem?_cons_succ]; exact rfl)
              case q104 => exact fun _ _ _ h => h
              case w104 => rfl
              case y104 =>
                intro w hSw
                (try dsimp only at hSw)
                obtain ⟨s0, s1, s2⟩ := hSw
                go_simp
                try with_reducible rfl
              try simp only [Act.put, List.setIfInBounds_toArray, List.set_cons_zero, List.set_cons_succ]
              refine wpAnyH_take (i := 4) (oi := ?oi105) (v := ?vi105) ?h105 (by kernel_rfl) (by kernel_rfl) (by kernel_rfl) ?q105 (Or.inl ⟨?w105, ?y105⟩) hHeld ?r105
              case h105 => first | (simp only [List.getElem?_toArray, List.getElem?_cons_zero, List.getElem?_cons_succ]; done) | (simp only [List.getElem?_toArray, List.getElem?_cons_zero, List.getElem?_cons_succ]; exact rfl)
              case q105 => exact fun _ _ _ h => h
              case w105 => rfl
              case y105 =>
                intro w hSw
                (try dsimp only at hSw)
                obtain ⟨s0, s1, s2⟩ := hSw
                go_simp
                try with_reducible rfl
              try simp only [Act.put, List.setIfInBounds_toArray, List.set_cons_zero, List.set_cons_succ]
              refine wpAnyH_take (i := 5) (oi := ?oi106) (v := ?vi106) ?h106 (by kernel_rfl) (by kernel_rfl) (by kernel_rfl) ?q106 (Or.inl ⟨?w106, ?y106⟩) hHeld ?r106
              case h106 => first | (simp only [List.getElem?_toArray, List.getElem?_cons_zero, List.getElem?_cons_succ]; done) | (simp only [List.getElem?_toArray, List.getElem?_cons_zero, List.getElem?_cons_succ]; exact rfl)
              case q106 => exact fun _ _ _ h => h
              case w106 => rfl
              case y106 =>
                intro w hSw
                (try dsimp only at hSw)
                obtain ⟨s0, s1, s2⟩ := hSw
                go_simp
                try with_reducible rfl
              try simp only [Act.put, List.setIfInBounds_toArray, List.set_cons_zero, List.set_cons_succ]
              refine wpAnyH_take (i := 6) (oi := ?oi107) (v := ?vi107) ?h107 (by kernel_rfl) (by kernel_rfl) (by kernel_rfl) ?q107 (Or.inl ⟨?w107, ?y107⟩) hHeld ?r107
              case h107 => first | (simp only [List.getElem?_toArray, List.getElem?_cons_zero, List.getElem?_cons_succ]; done) | (simp only [List.getElem?_toArray, List.getElem?_cons_zero, List.getElem?_cons_succ]; exact rfl)
              case q107 => exact fun _ _ _ h => h
              case w107 => rfl
              case y107 =>
                intro w hSw
                (try dsimp only at hSw)
                obtain ⟨s0, s1, s2⟩ := hSw
                go_simp
                try with_reducible rfl
              try simp only [Act.put, List.setIfInBounds_toArray, List.set_cons_zero, List.set_cons_succ]
              refine wpAnyH_take (i := 7) (oi := ?oi108) (v := ?vi108) ?h108 (by kernel_rfl) (by kernel_rfl) (by kernel_rfl) ?q108 (Or.inl ⟨?w108, ?y108⟩) hHeld ?r108
              case h108 => first | (simp only [List.getElem?_toArray, List.getElem?_cons_zero, List.getElem?_cons_succ]; done) | (simp only [List.getElem?_toArray, List.getElem?_cons_zero, List.getElem?_cons_succ]; exact rfl)
              case q108 => exact fun _ _ _ h => h
              case w108 => rfl
              case y108 =>
                intro w hSw
                (try dsimp only at hSw)
                obtain ⟨s0, s1, s2⟩ := hSw
                go_simp
                try with_reducible rfl
              try simp only [Act.put, List.setIfInBounds_toArray, List.set_cons_zero, List.set_cons_succ]
              refine wpAnyH_take (i := 8) (oi := ?oi109) (v := ?vi109) ?h109 (by kernel_rfl) (by kernel_rfl) (by kernel_rfl) ?q109 (Or.inl ⟨?w109, ?y109⟩) hHeld ?r109
              case h109 => first | (simp only [List.getElem?_toArray, List.getElem?_cons_zero, List.getElem?_cons_succ]; done) | (simp only [List.getElem?_toArray, List.getElem?_cons_zero, List.getElem?_cons_succ]; exact rfl)
              case q109 => exact fun _ _ _ h => h
              case w109 => rfl
              case y109 =>
                intro w hSw
                (try dsimp only at hSw)
                obtain ⟨s0, s1, s2⟩ := hSw
                go_simp
                try with_reducible rfl
              try simp only [Act.put, List.setIfInBounds_toArray, List.set_cons_zero, List.set_cons_succ]
              refine wpAnyH_take (i := 9) (oi := ?oi110) (v := ?vi110) ?h110 (by kernel_rfl) (by kernel_rfl) (by kernel_rfl) ?q110 (Or.inl ⟨?w110, ?y110⟩) hHeld ?r110
              case h110 => first | (simp only [List.getElem?_toArray, List.getElem?_cons_zero, List.getElem?_cons_succ]; done) | (simp only [List.getElem?_toArray, List.getElem?_cons_zero, List.getElem?_cons_succ]; exact rfl)
              case q110 => exact fun _ _ _ h => h
              case w110 => rfl
              case y110 =>
                intro w hSw
                (try dsimp only at hSw)
                obtain ⟨s0, s1, s2⟩ := hSw
                go_simp
                try with_reducible rfl
              try simp only [Act.put, List.setIfInBounds_toArray, List.set_cons_zero, List.set_cons_succ]
              refine wpAnyH_take (i := 10) (oi := ?oi111) (v := ?vi111) ?h111 (by kernel_rfl) (by kernel_rfl) (by kernel_rfl) ?q111 (Or.inl ⟨?w111, ?y111⟩) hHeld ?r111
              case h111 => first | (simp only [List.getElem?_toArray, List.getElem?_cons_zero, List.getElem?_cons_succ]; done) | (simp only [List.getElem?_toArray, List.getElem?_cons_zero, List.getElem?_cons_succ]; exact rfl)
              case q111 => exact fun _ _ _ h => h
              case w111 => rfl
              case y111 =>
                intro w hSw
                (try dsimp only at hSw)
                obtain ⟨s0, s1, s2⟩ := hSw
                go_simp
                try with_reducible rfl
              try simp only [Act.put, List.setIfInBounds_toArray, List.set_cons_zero, List.set_cons_succ]
              refine wpAnyH_ready (rs := [11]) (by kernel_rfl) (by simp) ?_
              refine AllReadyH.cons (o := ?ob112) ?hb112 (fun K hK => ?_) AllReadyH.nil
              case hb112 => first | (simp only [List.getElem?_toArray, List.getElem?_cons_zero, List.getElem?_cons_succ]; done) | (simp only [List.getElem?_toArray, List.getElem?_cons_zero, List.getElem?_cons_succ]; exact rfl)
              go_simp
              go_at_call 50
              refine (HR.out _).mono ?_
              rintro e w1 ⟨rfl, g1⟩
              have hb1 := g1.fp.heap (k := w.heap.size) ((Fp.refl Non _).drew.heap HF0.out.2 (fun h => h)) (fun h => h)
              have HB1 := Lib.hid hb1
              have HS1 := Lib.hid (boxP3 hb1)
              have F1 := Lib.hid (HF0.out.1.then (((Fp.refl Non _).drew).then g1.fp))
              clear g1 hb1
              go_wp2_with fail
              refine hK.out _ _ HS1.out (fun hHeld => ?_)
              clear hK K
              try simp only [Act.put, List.setIfInBounds_toArray, List.set_cons_zero, List.set_cons_succ]
              refine wpAnyH_take (i := 12) (oi := ?oi113) (v := ?vi113) ?h113 (by kernel_rfl) (by kernel_rfl) (by kernel_rfl) ?q113 (Or.inl ⟨?w113, ?y113⟩) hHeld ?r113
              case h113 => first | (simp only [List.getElem?_toArray, List.getElem?_cons_zero, List.getElem?_cons_succ]; done) | (simp only [List.getElem?_toArray, List.getElem?_cons_zero, List.getElem?_cons_succ]; exact rfl)
              case q113 => exact fun _ _ _ h => h
              case w113 => rfl
              case y113 =>
                intro w hSw
                (try dsimp only at hSw)
                obtain ⟨s0, s1, s2⟩ := hSw
                go_simp
                try with_reducible rfl
              try simp only [Act.put, List.setIfInBounds_toArray, List.set_cons_zero, List.set_cons_succ]
              refine wpAnyH_take (i := 13) (oi := ?oi114) (v := ?vi114) ?h114 (by kernel_rfl) (by kernel_rfl) (by kernel_rfl) ?q114 (Or.inl ⟨?w114, ?y114⟩) hHeld ?r114
              case h114 => first | (simp only [List.getElem?_toArray, List.getElem?_cons_zero, List.getElem?_cons_succ]; done) | (simp only [List.getElem?_toArray, List.getElem?_cons_zero, List.getElem?_cons_succ]; exact rfl)
              case q114 => exact fun _ _ _ h => h
              case w114 => rfl
              case y114 =>
                intro w hSw
                (try dsimp only at hSw)
                obtain ⟨s0, s1, s2⟩ := hSw
                go_simp
                try with_reducible rfl
              try simp only [Act.put, List.setIfInBounds_toArray, List.set_cons_zero, List.set_cons_succ]
              refine wpAnyH_take (i := 14) (oi := ?oi115) (v := ?vi115) ?h115 (by kernel_rfl) (by kernel_rfl) (by kernel_rfl) ?q115 (Or.inl ⟨?w115, ?y115⟩) hHeld ?r115
              case h115 => first | (simp only [List.getElem?_toArray, List.getElem?_cons_zero, List.getElem?_cons_succ]; done) | (simp only [List.getElem?_toArray, List.getElem?_cons_zero, List.getElem?_cons_succ]; exact rfl)
              case q115 => exact fun _ _ _ h => h
              case w115 => rfl
              case y115 =>
                intro w hSw
                (try dsimp only at hSw)
                obtain ⟨s0, s1, s2⟩ := hSw
                go_simp
                try with_reducible rfl
              try simp only [Act.put, List.setIfInBounds_toArray, List.set_cons_zero, List.set_cons_succ]
              refine wpAnyH_take (i := 15) (oi := ?oi116) (v := ?vi116) ?h116 (by kernel_rfl) (by kernel_rfl) (by kernel_rfl) ?q116 (Or.inl ⟨?w116, ?y116⟩) hHeld ?r116
              case h116 => first | (simp only [List.getElem?_toArray, List.getElem?_cons_zero, List.getElem?_cons_succ]; done) | (simp only [List.getElem?_toArray, List.getElem?_cons_zero, List.getElem?_cons_succ]; exact rfl)
              case q116 => exact fun _ _ _ h => h
              case w116 => rfl
              case y116 =>
                intro w hSw
                (try dsimp only at hSw)
                obtain ⟨s0, s1, s2⟩ := hSw
                go_simp
                try with_reducible rfl
              try simp only [Act.put, List.setIfInBounds_toArray, List.set_cons_zero, List.set_cons_succ]
              refine wpAnyH_take (i := 16) (oi := ?oi117) (v := ?vi117) ?h117 (by kernel_rfl) (by kernel_rfl) (by kernel_rfl) ?q117 (Or.inl ⟨?w117, ?y117⟩) hHeld ?r117
              case h117 => first | (simp only [List.getElem?_toArray, List.getElem?_cons_zero, List.getElem?_cons_succ]; done) | (simp only [List.getElem?_toArray, List.getElem?_cons_zero, List.getElem?_cons_succ]; exact rfl)
              case q117 => exact fun _ _ _ h => h
              case w117 => rfl
              case y117 =>
                intro w hSw
                (try dsimp only at hSw)
                obtain ⟨s0, s1, s2⟩ := hSw
                go_simp
                try with_reducible rfl
              try simp only [Act.put, List.setIfInBounds_toArray, List.set_cons_zero, List.set_cons_succ]
              refine wpAnyH_take (i := 17) (oi := ?oi118) (v := ?vi118) ?h118 (by kernel_rfl) (by kernel_rfl) (by kernel_rfl) ?q118 (Or.inl ⟨?w118, ?y118⟩) hHeld ?r118
              case h118 => first | (simp only [List.getElem?_toArray, List.getElem?_cons_zero, List.getElem?_cons_succ]; done) | (simp only [List.getElem?_toArray, List.getElem?_cons_zero, List.getElem?_cons_succ]; exact rfl)
              case q118 => exact fun _ _ _ h => h
              case w118 => rfl
              case y118 =>
                intro w hSw
                (try dsimp only at hSw)
                obtain ⟨s0, s1, s2⟩ := hSw
                go_simp
                try with_reducible rfl
              try simp only [Act.put, List.setIfInBounds_toArray, List.set_cons_zero, List.set_cons_succ]
              refine wpAnyH_take (i := 18) (oi := ?oi119) (v := ?vi119) ?h119 (by kernel_rfl) (by kernel_rfl) (by kernel_rfl) ?q119 (Or.inl ⟨?w119, ?y119⟩) hHeld ?r119
              case h119 => first | (simp only [List.getElem?_toArray, List.getElem?_cons_zero, List.getElem?_cons_succ]; done) | (simp only [List.getElem?_toArray, List.getElem?_cons_zero, List.getElem?_cons_succ]; exact rfl)
              case q119 => exact fun _ _ _ h => h
              case w119 => rfl
              case y119 =>
                intro w hSw
                (try dsimp only at hSw)
                obtain ⟨s0, s1, s2⟩ := hSw
                go_simp
                try with_reducible rfl
              try simp only [Act.put, List.setIfInBounds_toArray, List.set_cons_zero, List.set_cons_succ]
              refine wpAnyH_take (i := 19) (oi := ?oi120) (v := ?vi120) ?h120 (by kernel_rfl) (by kernel_rfl) (by kernel_rfl) ?q120 (Or.inl ⟨?w120, ?y120⟩) hHeld ?r120
              case h120 => first | (simp only [List.getElem?_toArray, List.getElem?_cons_zero, List.getElem?_cons_succ]; done) | (simp only [List.getElem?_toArray, List.getElem?_cons_zero, List.getElem?_cons_succ]; exact rfl)
              case q120 => exact fun _ _ _ h => h
              case w120 => rfl
              case y120 =>
                intro w hSw
                (try dsimp only at hSw)
                obtain ⟨s0, s1, s2⟩ := hSw
                go_simp
                try with_reducible rfl
              try simp only [Act.put, List.setIfInBounds_toArray, List.set_cons_zero, List.set_cons_succ]
              refine wpAnyH_take (i := 20) (oi := ?oi121) (v := ?vi121) ?h121 (by kernel_rfl) (by kernel_rfl) (by kernel_rfl) ?q121 (Or.inl ⟨?w121, ?y121⟩) hHeld ?r121
              case h121 => first | (simp only [List.getElem?_toArray, List.getElem?_cons_zero, List.getElem?_cons_succ]; done) | (simp only [List.getElem?_toArray, List.getElem?_cons_zero, List.getElem?_cons_succ]; exact rfl)
              case q121 => exact fun _ _ _ h => h
              case w121 => rfl
              case y121 =>
                intro w hSw
                (try dsimp only at hSw)
                obtain ⟨s0, s1, s2⟩ := hSw
                go_simp
                try with_reducible rfl
              try simp only [Act.put, List.setIfInBounds_toArray, List.set_cons_zero, List.set_cons_succ]
              refine wpAnyH_ready (rs := [21]) (by kernel_rfl) (by simp) ?_
              refine AllReadyH.cons (o := ?ob122) ?hb122 (fun K hK => ?_) AllReadyH.nil
              case hb122 => first | (simp only [List.getElem?_toArray, List.getElem?_cons_zero, List.getElem?_cons_succ]; done) | (simp only [List.getElem?_toArray, List.getElem?_cons_zero, List.getElem?_cons_succ]; exact rfl)
              go_simp
              go_at_call 69
              refine (HKE.out _).mono ?_
              rintro e w2 ⟨rfl, g2⟩
              have hb2 := g2.heap (k := w.heap.size) HB1.out (fun h => h)
              have HB2 := Lib.hid hb2
              have HS2 := Lib.hid (boxP3 hb2)
              have F := Lib.hid (F1.out.then g2)
              clear g2 hb2
              go_wp2_with fail
              refine hK.out _ _ HS2.out (fun hHeld => ?_)
              clear hK K
              try simp only [Act.put, List.setIfInBounds_toArray, List.set_cons_zero, List.set_cons_succ]
              refine wpAnyH_take (i := 22) (oi := ?oi123) (v := ?vi123) ?h123 (by kernel_rfl) (by kernel_rfl) (by kernel_rfl) ?q123 (Or.inl ⟨?w123, ?y123⟩) hHeld ?r123
              case h123 => first | (simp only [List.getElem?_toArray, List.getElem?_cons_zero, List.getElem?_cons_succ]; done) | (simp only [List.getElem?_toArray, List.getElem?_cons_zero, List.getElem?_cons_succ]; exact rfl)
              case q123 => exact fun _ _ _ h => h
              case w123 => rfl
              case y123 =>
                intro w hSw
                (try dsimp only at hSw)
                obtain ⟨s0, s1, s2⟩ := hSw
                go_simp
                try with_reducible rfl
              try simp only [Act.put, List.setIfInBounds_toArray, List.set_cons_zero, List.set_cons_succ]
              refine wpAnyH_take (i := 23) (oi := ?oi124) (v := ?vi124) ?h124 (by kernel_rfl) (by kernel_rfl) (by kernel_rfl) ?q124 (Or.inl ⟨?w124, ?y124⟩) hHeld ?r124
              case h124 => first | (simp only [List.getElem?_toArray, List.getElem?_cons_zero, List.getElem?_cons_succ]; done) | (simp only [List.getElem?_toArray, List.getElem?_cons_zero, List.getElem?_cons_succ]; exact rfl)
              case q124 => exact fun _ _ _ h => h
              case w124 => rfl
              case y124 =>
                intro w hSw
                (try dsimp only at hSw)
                obtain ⟨s0, s1, s2⟩ := hSw
                go_simp
                try with_reducible rfl
              try simp only [Act.put, List.setIfInBounds_toArray, List.set_cons_zero, List.set_cons_succ]
              refine wpAnyH_done (by kernel_rfl) ?_ _
              obtain ⟨c0, c1, c2, c3, c4, c5, c6⟩ := boxP7 HB2.out
              go_wp2
              go_ret
              exact ⟨ret_bool (HFin.out _ (by simp [Q.out])).symm, F.out⟩
            · have q7 : (p == [47]) = false := by simpa using hp
              have q7b : (p = [47]) = False := eq_false hp
              by_cases hd : n ≤ 256
              · have q5 : ((256 : Int) < (da.length : Int)) = False := eq_false (by omega)
                have q6 : ((da.length : Int) ≤ (256 : Int)) = True := eq_true (by omega)
                have Q := Lib.hid (And.intro ha (And.intro hb (And.intro hd0 (And.intro h2 (And.intro hp (hd))))))
                clear ha hb hd0 h2 hp hd hn
                go_enter Try.func54, Try.ntmps54
                go_wp2_with fail
                refine wp_region_held_drew (S := (fun w' => w'.cell? ⟨w.heap.size, 0, none⟩ = some (.int .i64 k) ∧ w'.cell? ⟨w.heap.size, 1, none⟩ = some (.string (B d)) ∧ w'.cell? ⟨w.heap.size, 2, none⟩ = some (.string (B p)))) (by kernel_rfl) ?_ (fun hHeld => ?_)
                · exact boxP3 ((Fp.refl Non _).drew.heap HF0.out.2 (fun h => h))
                refine wpAnyH_take (i := 0) (oi := ?oi125) (v := ?vi125) ?h125 (by kernel_rfl) (by kernel_rfl) (by kernel_rfl) ?q125 (Or.inl ⟨?w125, ?y125⟩) hHeld ?r125
                case h125 => first | (simp only [List.getElem?_toArray, List.getElem?_cons_zero]; done) | (simp only [List.getElem?_toArray, List.getElem?_cons_zero]; exact rfl)
                case q125 => exact fun _ _ _ h => h
                case w125 => rfl
                case y125 =>
                  intro w hSw
                  (try dsimp only at hSw)
                  obtain ⟨s0, s1, s2⟩ := hSw
                  go_simp
                  try with_reducible rfl
                try simp only [Act.put, List.setIfInBounds_toArray, List.set_cons_zero, List.set_cons_succ]
                refine wpAnyH_take (i := 1) (oi := ?oi126) (v := ?vi126) ?h126 (by kernel_rfl) (by kernel_rfl) (by kernel_rfl) ?q126 (Or.inl ⟨?w126, ?y126⟩) hHeld ?r126
                case h126 => first | (simp only [List.getElem?_toArray, List.getElem?_cons_zero, List.getElem?_cons_succ]; done) | (simp only [List.getElem?_toArray, List.getElem?_cons_zero, List.getElem?_cons_succ]; exact rfl)
                case q126 => exact fun _ _ _ h => h
                case w126 => rfl
                case y126 =>
                  intro w hSw
                  (try dsimp only at hSw)
                  obtain ⟨s0, s1, s2⟩ := hSw
                  go_simp
                  try with_reducible rfl
                try simp only [Act.put, List.setIfInBounds_toArray, List.set_cons_zero, List.set_cons_succ]
                refine wpAnyH_take (i := 2) (oi := ?oi127) (v := ?vi127) ?h127 (by kernel_rfl) (by kernel_rfl) (by kernel_rfl) ?q127 (Or.inl ⟨?w127, ?y127⟩) hHeld ?r127
                case h127 => first | (simp only [List.getElem?_toArray, List.getElem?_cons_zero, List.getElem?_cons_succ]; done) | (simp only [List.getElem?_toArray, List.getElem?_cons_zero, List.getElem?_cons_succ]; exact rfl)
                case q127 => exact fun _ _ _ h => h
                case w127 => rfl
                case y127 =>
                  intro w hSw
                  (try dsimp only at hSw)
                  obtain ⟨s0, s1, s2⟩ := hSw
                  go_simp
                  try with_reducible rfl
                try simp only [Act.put, List.setIfInBounds_toArray, List.set_cons_zero, List.set_cons_succ]
                refine wpAnyH_take (i := 3) (oi := ?oi128) (v := ?vi128) ?h128 (by kernel_rfl) (by kernel_rfl) (by kernel_rfl) ?q128 (Or.inl ⟨?w128, ?y128⟩) hHeld ?r128
                case h128 => first | (simp only [List.getElem?_toArray, List.getElem?_cons_zero, List.getElem?_cons_succ]; done) | (simp only [List.getElem?_toArray, List.getElem?_cons_zero, List.getElem?_cons_succ]; exact rfl)
                case q128 => exact fun _ _ _ h => h
                case w128 => rfl
                case y128 =>
                  intro w hSw
                  (try dsimp only at hSw)
                  obtain ⟨s0, s1, s2⟩ := hSw
                  go_simp
                  try with_reducible rfl
                try simp only [Act.put, List.setIfInBounds_toArray, List.set_cons_zero, List.set_cons_succ]
                refine wpAnyH_take (i := 4) (oi := ?oi129) (v := ?vi129) ?h129 (by kernel_rfl) (by kernel_rfl) (by kernel_rfl) ?q129 (Or.inl ⟨?w129, ?y129⟩) hHeld ?r129
                case h129 => first | (simp only [List.getElem?_toArray, List.getElem?_cons_zero, List.getElem?_cons_succ]; done) | (simp only [List.getElem?_toArray, List.getElem?_cons_zero, List.getElem?_cons_succ]; exact rfl)
                case q129 => exact fun _ _ _ h => h
                case w129 => rfl
                case y129 =>
                  intro w hSw
                  (try dsimp only at hSw)
                  obtain ⟨s0, s1, s2⟩ := hSw
                  go_simp
                  try with_reducible rfl
                try simp only [Act.put, List.setIfInBounds_toArray, List.set_cons_zero, List.set_cons_succ]
                refine wpAnyH_take (i := 5) (oi := ?oi130) (v := ?vi130) ?h130 (by kernel_rfl) (by kernel_rfl) (by kernel_rfl) ?q130 (Or.inl ⟨?w130, ?y130⟩) hHeld ?r130
                case h130 => first | (simp only [List.getElem?_toArray, List.getElem?_cons_zero, List.getElem?_cons_succ]; done) | (simp only [List.getElem?_toArray, List.getElem?_cons_zero, List.getElem?_cons_succ]; exact rfl)
                case q130 => exact fun _ _ _ h => h
                case w130 => rfl
                case y130 =>
                  intro w hSw
                  (try dsimp only at hSw)
                  obtain ⟨s0, s1, s2⟩ := hSw
                  go_simp
                  try with_reducible rfl
                try simp only [Act.put, List.setIfInBounds_toArray, List.set_cons_zero, List.set_cons_succ]
                refine wpAnyH_take (i := 6) (oi := ?oi131) (v := ?vi131) ?h131 (by kernel_rfl) (by kernel_rfl) (by kernel_rfl) ?q131 (Or.inl ⟨?w131, ?y131⟩) hHeld ?r131
                case h131 => first | (simp only [List.getElem?_toArray, List.getElem?_cons_zero, List.getElem?_cons_succ]; done) | (simp only [List.getElem?_toArray, List.getElem?_cons_zero, List.getElem?_cons_succ]; exact rfl)
                case q131 => exact fun _ _ _ h => h
                case w131 => rfl
                case y131 =>
                  intro w hSw
                  (try dsimp only at hSw)
                  obtain ⟨s0, s1, s2⟩ := hSw
                  go_simp
                  try with_reducible rfl
                try simp only [Act.put, List.setIfInBounds_toArray, List.set_cons_zero, List.set_cons_succ]
                refine wpAnyH_take (i := 7) (oi := ?oi132) (v := ?vi132) ?h132 (by kernel_rfl) (by kernel_rfl) (by kernel_rfl) ?q132 (Or.inl ⟨?w132, ?y132⟩) hHeld ?r132
                case h132 => first | (simp only [List.getElem?_toArray, List.getElem?_cons_zero, List.getElem?_cons_succ]; done) | (simp only [List.getElem?_toArray, List.getElem?_cons_zero, List.getElem?_cons_succ]; exact rfl)
                case q132 => exact fun _ _ _ h => h
                case w132 => rfl
                case y132 =>
                  intro w hSw
                  (try dsimp only at hSw)
                  obtain ⟨s0, s1, s2⟩ := hSw
                  go_simp
                  try with_reducible rfl
                try simp only [Act.put, List.setIfInBounds_toArray, List.set_cons_zero, List.set_cons_succ]
                refine wpAnyH_take (i := 8) (oi := ?oi133) (v := ?vi133) ?h133 (by kernel_rfl) (by kernel_rfl) (by kernel_rfl) ?q133 (Or.inl ⟨?w133, ?y133⟩) hHeld ?r133
                case h133 => first | (simp only [List.getElem?_toArray, List.getElem?_cons_zero, List.getElem?_cons_succ]; done) | (simp only [List.getElem?_toArray, List.getElem?_cons_zero, List.getElem?_cons_succ]; exact rfl)
                case q133 => exact fun _ _ _ h => h
                case w133 => rfl
                case y133 =>
                  intro w hSw
                  (try dsimp only at hSw)
                  obtain ⟨s0, s1, s2⟩ := hSw
                  go_simp
                  try with_reducible rfl
                try simp only [Act.put, List.setIfInBounds_toArray, List.set_cons_zero, List.set_cons_succ]
                refine wpAnyH_take (i := 9) (oi := ?oi134) (v := ?vi134) ?h134 (by kernel_rfl) (by kernel_rfl) (by kernel_rfl) ?q134 (Or.inl ⟨?w134, ?y134⟩) hHeld ?r134
                case h134 => first | (simp only [List.getElem?_toArray, List.getElem?_cons_zero, List.getElem?_cons_succ]; done) | (simp only [List.getElem?_toArray, List.getElem?_cons_zero, List.getElem?_cons_succ]; exact rfl)
                case q134 => exact fun _ _ _ h => h
                case w134 => rfl
                case y134 =>
                  intro w hSw
                  (try dsimp only at hSw)
                  obtain ⟨s0, s1, s2⟩ := hSw
                  go_simp
                  try with_reducible rfl
                try simp only [Act.put, List.setIfInBounds_toArray, List.set_cons_zero, List.set_cons_succ]
                refine wpAnyH_take (i := 10) (oi := ?oi135) (v := ?vi135) ?h135 (by kernel_rfl) (by kernel_rfl) (by kernel_rfl) ?q135 (Or.inl ⟨?w135, ?y135⟩) hHeld ?r135
                case h135 => first | (simp only [List.getElem?_toArray, List.getElem?_cons_zero, List.getElem?_cons_succ]; done) | (simp only [List.getElem?_toArray, List.getElem?_cons_zero, List.getElem?_cons_succ]; exact rfl)
                case q135 => exact fun _ _ _ h => h
                case w135 => rfl
                case y135 =>
                  intro w hSw
                  (try dsimp only at hSw)
                  obtain ⟨s0, s1, s2⟩ := hSw
                  go_simp
                  try with_reducible rfl
                try simp only [Act.put, List.setIfInBounds_toArray, List.set_cons_zero, List.set_cons_succ]
                refine wpAnyH_ready (rs := [11]) (by kernel_rfl) (by simp) ?_
                refine AllReadyH.cons (o := ?ob136) ?hb136 (fun K hK => ?_) AllReadyH.nil
                case hb136 => first | (simp only [List.getElem?_toArray, List.getElem?_cons_zero, List.getElem?_cons_succ]; done) | (simp only [List.getElem?_toArray, List.getElem?_cons_zero, List.getElem?_cons_succ]; exact rfl)
                go_simp
                go_at_call 50
                refine (HR.out _).mono ?_
                rintro e w1 ⟨rfl, g1⟩
                have hb1 := g1.fp.heap (k := w.heap.size) ((Fp.refl Non _).drew.heap HF0.out.2 (fun h => h)) (fun h => h)
                have HB1 := Lib.hid hb1
                have HS1 := Lib.hid (boxP3 hb1)
                have F1 := Lib.hid (HF0.out.1.then (((Fp.refl Non _).drew).then g1.fp))
                clear g1 hb1
                go_wp2_with fail
                refine hK.out _ _ HS1.out (fun hHeld => ?_)
                clear hK K
                try simp only [Act.put, List.setIfInBounds_toArray, List.set_cons_zero, List.set_cons_succ]
                refine wpAnyH_take (i := 12) (oi := ?oi137) (v := ?vi137) ?h137 (by kernel_rfl) (by kernel_rfl) (by kernel_rfl) ?q137 (Or.inl ⟨?w137, ?y137⟩) hHeld ?r137
                case h137 => first | (simp only [List.getElem?_toArray, List.getElem?_cons_zero, List.getElem?_cons_succ]; done) | (simp only [List.getElem?_toArray, List.getElem?_cons_zero, List.getElem?_cons_succ]; exact rfl)
                case q137 => exact fun _ _ _ h => h
                case w137 => rfl
                case y137 =>
                  intro w hSw
                  (try dsimp only at hSw)
                  obtain ⟨s0, s1, s2⟩ := hSw
                  go_simp
                  try with_reducible rfl
                try simp only [Act.put, List.setIfInBounds_toArray, List.set_cons_zero, List.set_cons_succ]
                refine wpAnyH_take (i := 13) (oi := ?oi138) (v := ?vi138) ?h138 (by kernel_rfl) (by kernel_rfl) (by kernel_rfl) ?q138 (Or.inl ⟨?w138, ?y138⟩) hHeld ?r138
                case h138 => first | (simp only [List.getElem?_toArray, List.getElem?_cons_zero, List.getElem?_cons_succ]; done) | (simp only [List.getElem?_toArray, List.getElem?_cons_zero, List.getElem?_cons_succ]; exact rfl)
                case q138 => exact fun _ _ _ h => h
                case w138 => rfl
                case y138 =>
                  intro w hSw
                  (try dsimp only at hSw)
                  obtain ⟨s0, s1, s2⟩ := hSw
                  go_simp
                  try with_reducible rfl
                try simp only [Act.put, List.setIfInBounds_toArray, List.set_cons_zero, List.set_cons_succ]
                refine wpAnyH_take (i := 14) (oi := ?oi139) (v := ?vi139) ?h139 (by kernel_rfl) (by kernel_rfl) (by kernel_rfl) ?q139 (Or.inl ⟨?w139, ?y139⟩) hHeld ?r139
                case h139 => first | (simp only [List.getElem?_toArray, List.getElem?_cons_zero, List.getElem?_cons_succ]; done) | (simp only [List.getElem?_toArray, List.getElem?_cons_zero, List.getElem?_cons_succ]; exact rfl)
                case q139 => exact fun _ _ _ h => h
                case w139 => rfl
                case y139 =>
                  intro w hSw
                  (try dsimp only at hSw)
                  obtain ⟨s0, s1, s2⟩ := hSw
                  go_simp
                  try with_reducible rfl
                try simp only [Act.put, List.setIfInBounds_toArray, List.set_cons_zero, List.set_cons_succ]
                refine wpAnyH_take (i := 15) (oi := ?oi140) (v := ?vi140) ?h140 (by kernel_rfl) (by kernel_rfl) (by kernel_rfl) ?q140 (Or.inl ⟨?w140, ?y140⟩) hHeld ?r140
                case h140 => first | (simp only [List.getElem?_toArray, List.getElem?_cons_zero, List.getElem?_cons_succ]; done) | (simp only [List.getElem?_toArray, List.getElem?_cons_zero, List.getElem?_cons_succ]; exact rfl)
                case q140 => exact fun _ _ _ h => h
                case w140 => rfl
                case y140 =>
                  intro w hSw
                  (try dsimp only at hSw)
                  obtain ⟨s0, s1, s2⟩ := hSw
                  go_simp
                  try with_reducible rfl
                try simp only [Act.put, List.setIfInBounds_toArray, List.set_cons_zero, List.set_cons_succ]
                refine wpAnyH_take (i := 16) (oi := ?oi141) (v := ?vi141) ?h141 (by kernel_rfl) (by kernel_rfl) (by kernel_rfl) ?q141 (Or.inl ⟨?w141, ?y141⟩) hHeld ?r141
                case h141 => first | (simp only [List.getElem?_toArray, List.getElem?_cons_zero, List.getElem?_cons_succ]; done) | (simp only [List.getElem?_toArray, List.getElem?_cons_zero, List.getElem?_cons_succ]; exact rfl)
                case q141 => exact fun _ _ _ h => h
                case w141 => rfl
                case y141 =>
                  intro w hSw
                  (try dsimp only at hSw)
                  obtain ⟨s0, s1, s2⟩ := hSw
                  go_simp
                  try with_reducible rfl
                try simp only [Act.put, List.setIfInBounds_toArray, List.set_cons_zero, List.set_cons_succ]
                refine wpAnyH_take (i := 17) (oi := ?oi142) (v := ?vi142) ?h142 (by kernel_rfl) (by kernel_rfl) (by kernel_rfl) ?q142 (Or.inl ⟨?w142, ?y142⟩) hHeld ?r142
                case h142 => first | (simp only [List.getElem?_toArray, List.getElem?_cons_zero, List.getElem?_cons_succ]; done) | (simp only [List.getElem?_toArray, List.getElem?_cons_zero, List.getElem?_cons_succ]; exact rfl)
                case q142 => exact fun _ _ _ h => h
                case w142 => rfl
                case y142 =>
                  intro w hSw
                  (try dsimp only at hSw)
                  obtain ⟨s0, s1, s2⟩ := hSw
                  go_simp
                  try with_reducible rfl
                try simp only [Act.put, List.setIfInBounds_toArray, List.set_cons_zero, List.set_cons_succ]
                refine wpAnyH_take (i := 18) (oi := ?oi143) (v := ?vi143) ?h143 (by kernel_rfl) (by kernel_rfl) (by kernel_rfl) ?q143 (Or.inl ⟨?w143, ?y143⟩) hHeld ?r143
                case h143 => first | (simp only [List.getElem?_toArray, List.getElem?_cons_zero, List.getElem?_cons_succ]; done) | (simp only [List.getElem?_toArray, List.getElem?_cons_zero, List.getElem?_cons_succ]; exact rfl)
                case q143 => exact fun _ _ _ h => h
                case w143 => rfl
                case y143 =>
                  intro w hSw
                  (try dsimp only at hSw)
                  obtain ⟨s0, s1, s2⟩ := hSw
                  go_simp
                  try with_reducible rfl
                try simp only [Act.put, List.setIfInBounds_toArray, List.set_cons_zero, List.set_cons_succ]
                refine wpAnyH_take (i := 19) (oi := ?oi144) (v := ?vi144) ?h144 (by kernel_rfl) (by kernel_rfl) (by kernel_rfl) ?q144 (Or.inl ⟨?w144, ?y144⟩) hHeld ?r144
                case h144 => first | (simp only [List.getElem?_toArray, List.getElem?_cons_zero, List.getElem?_cons_succ]; done) | (simp only [List.getElem?_toArray, List.getElem?_cons_zero, List.getElem?_cons_succ]; exact rfl)
                case q144 => exact fun _ _ _ h => h
                case w144 => rfl
                case y144 =>
                  intro w hSw
                  (try dsimp only at hSw)
                  obtain ⟨s0, s1, s2⟩ := hSw
                  go_simp
                  try with_reducible rfl
                try simp only [Act.put, List.setIfInBounds_toArray, List.set_cons_zero, List.set_cons_succ]
                refine wpAnyH_take (i := 20) (oi := ?oi145) (v := ?vi145) ?h145 (by kernel_rfl) (by kernel_rfl) (by kernel_rfl) ?q145 (Or.inl ⟨?w145, ?y145⟩) hHeld ?r145
                case h145 => first | (simp only [List.getElem?_toArray, List.getElem?_cons_zero, List.getElem?_cons_succ]; done) | (simp only [List.getElem?_toArray, List.getElem?_cons_zero, List.getElem?_cons_succ]; exact rfl)
                case q145 => exact fun _ _ _ h => h
                case w145 => rfl
                case y145 =>
                  intro w hSw
                  (try dsimp only at hSw)
                  obtain ⟨s0, s1, s2⟩ := hSw
                  go_simp
                  try with_reducible rfl
                try simp only [Act.put, List.setIfInBounds_toArray, List.set_cons_zero, List.set_cons_succ]
                refine wpAnyH_ready (rs := [21]) (by kernel_rfl) (by simp) ?_
                refine AllReadyH.cons (o := ?ob146) ?hb146 (fun K hK => ?_) AllReadyH.nil
                case hb146 => first | (simp only [List.getElem?_toArray, List.getElem?_cons_zero, List.getElem?_cons_succ]; done) | (simp only [List.getElem?_toArray, List.getElem?_cons_zero, List.getElem?_cons_succ]; exact rfl)
                go_simp
                go_at_call 69
                refine (HKE.out _).mono ?_
                rintro e w2 ⟨rfl, g2⟩
                have hb2 := g2.heap (k := w.heap.size) HB1.out (fun h => h)
                have HB2 := Lib.hid hb2
                have HS2 := Lib.hid (boxP3 hb2)
                have F := Lib.hid (F1.out.then g2)
                clear g2 hb2
                go_wp2_with fail
                refine hK.out _ _ HS2.out (fun hHeld => ?_)
                clear hK K
                try simp only [Act.put, List.setIfInBounds_toArray, List.set_cons_zero, List.set_cons_succ]
                refine wpAnyH_take (i := 22) (oi := ?oi147) (v := ?vi147) ?h147 (by kernel_rfl) (by kernel_rfl) (by kernel_rfl) ?q147 (Or.inl ⟨?w147, ?y147⟩) hHeld ?r147
                case h147 => first | (simp only [List.getElem?_toArray, List.getElem?_cons_zero, List.getElem?_cons_succ]; done) | (simp only [List.getElem?_toArray, List.getElem?_cons_zero, List.getElem?_cons_succ]; exact rfl)
                case q147 => exact fun _ _ _ h => h
                case w147 => rfl
                case y147 =>
                  intro w hSw
                  (try dsimp only at hSw)
                  obtain ⟨s0, s1, s2⟩ := hSw
                  go_simp
                  try with_reducible rfl
                try simp only [Act.put, List.setIfInBounds_toArray, List.set_cons_zero, List.set_cons_succ]
                refine wpAnyH_take (i := 23) (oi := ?oi148) (v := ?vi148) ?h148 (by kernel_rfl) (by kernel_rfl) (by kernel_rfl) ?q148 (Or.inl ⟨?w148, ?y148⟩) hHeld ?r148
                case h148 => first | (simp only [List.getElem?_toArray, List.getElem?_cons_zero, List.getElem?_cons_succ]; done) | (simp only [List.getElem?_toArray, List.getElem?_cons_zero, List.getElem?_cons_succ]; exact rfl)
                case q148 => exact fun _ _ _ h => h
                case w148 => rfl
                case y148 =>
                  intro w hSw
                  (try dsimp only at hSw)
                  obtain ⟨s0, s1, s2⟩ := hSw
                  go_simp
                  try with_reducible rfl
                try simp only [Act.put, List.setIfInBounds_toArray, List.set_cons_zero, List.set_cons_succ]
                refine wpAnyH_done (by kernel_rfl) ?_ _
                obtain ⟨c0, c1, c2, c3, c4, c5, c6⟩ := boxP7 HB2.out
                cases b1 <;> cases b3
                all_goals
                  go_wp2_with (first
                    | (go_at_call_of 70 v; refine (W1.out _).mono ?_; rintro e w3 ⟨rfl, rfl⟩)
                    | (go_at_call_of 70 o; refine (W3.out _).mono ?_; rintro e w3 ⟨rfl, rfl⟩))
                  go_ret
                  exact ⟨ret_bool (HFin.out _ (by simp [Q.out])).symm, F.out⟩
              · have q5 : ((256 : Int) < (da.length : Int)) = True := eq_true (by omega)
                have q6 : ((da.length : Int) ≤ (256 : Int)) = False := eq_false (by omega)
                have Q := Lib.hid (And.intro ha (And.intro hb (And.intro hd0 (And.intro h2 (And.intro hp (hd))))))
                clear ha hb hd0 h2 hp hd hn
                go_enter Try.func54, Try.ntmps54
                go_wp2_with fail
                refine wp_region_held_drew (S := (fun w' => w'.cell? ⟨w.heap.size, 0, none⟩ = some (.int .i64 k) ∧ w'.cell? ⟨w.heap.size, 1, none⟩ = some (.string (B d)) ∧ w'.cell? ⟨w.heap.size, 2, none⟩ = some (.string (B p)))) (by kernel_rfl) ?_ (fun hHeld => ?_)
                · exact boxP3 ((Fp.refl Non _).drew.heap HF0.out.2 (fun h => h))
                refine wpAnyH_take (i := 0) (oi := ?oi149) (v := ?vi149) ?h149 (by kernel_rfl) (by kernel_rfl) (by kernel_rfl) ?q149 (Or.inl ⟨?w149, ?y149⟩) hHeld ?r149
                case h149 => first | (simp only [List.getElem?_toArray, List.getElem?_cons_zero]; done) | (simp only [List.getElem?_toArray, List.getElem?_cons_zero]; exact rfl)
                case q149 => exact fun _ _ _ h => h
                case w149 => rfl
                case y149 =>
                  intro w hSw
                  (try dsimp only at hSw)
                  obtain ⟨s0, s1, s2⟩ := hSw
                  go_simp
                  try with_reducible rfl
                try simp only [Act.put, List.setIfInBounds_toArray, List.set_cons_zero, List.set_cons_succ]
                refine wpAnyH_take (i := 1) (oi := ?oi150) (v := ?vi150) ?h150 (by kernel_rfl) (by kernel_rfl) (by kernel_rfl) ?q150 (Or.inl ⟨?w150, ?y150⟩) hHeld ?r150
                case h150 => first | (simp only [List.getElem?_toArray, List.getElem?_cons_zero, List.getElem?_cons_succ]; done) | (simp only [List.getElem?_toArray, List.getElem?_cons_zero, List.getElem?_cons_succ]; exact rfl)
                case q150 => exact fun _ _ _ h => h
                case w150 => rfl
                case y150 =>
                  intro w hSw
                  (try dsimp only at hSw)
                  obtain ⟨s0, s1, s2⟩ := hSw
                  go_simp
                  try with_reducible rfl
                try simp only [Act.put, List.setIfInBounds_toArray, List.set_cons_zero, List.set_cons_succ]
                refine wpAnyH_take (i := 2) (oi := ?oi151) (v := ?vi151) ?h151 (by kernel_rfl) (by kernel_rfl) (by kernel_rfl) ?q151 (Or.inl ⟨?w151, ?y151⟩) hHeld ?r151
                case h151 => first | (simp only [List.getElem?_toArray, List.getElem?_cons_zero, List.getElem?_cons_succ]; done) | (simp only [List.getElem?_toArray, List.getElem?_cons_zero, List.getElem?_cons_succ]; exact rfl)
                case q151 => exact fun _ _ _ h => h
                case w151 => rfl
                case y151 =>
                  intro w hSw
                  (try dsimp only at hSw)
                  obtain ⟨s0, s1, s2⟩ := hSw
                  go_simp
                  try with_reducible rfl
                try simp only [Act.put, List.setIfInBounds_toArray, List.set_cons_zero, List.set_cons_succ]
                refine wpAnyH_take (i := 3) (oi := ?oi152) (v := ?vi152) ?h152 (by kernel_rfl) (by kernel_rfl) (by kernel_rfl) ?q152 (Or.inl ⟨?w152, ?y152⟩) hHeld ?r152
                case h152 => first | (simp only [List.getElem?_toArray, List.getElem?_cons_zero, List.getElem?_cons_succ]; done) | (simp only [List.getElem?_toArray, List.getElem?_cons_zero, List.getElem?_cons_succ]; exact rfl)
                case q152 => exact fun _ _ _ h => h
                case w152 => rfl
                case y152 =>
                  intro w hSw
                  (try dsimp only at hSw)
                  obtain ⟨s0, s1, s2⟩ := hSw
                  go_simp
                  try with_reducible rfl
                try simp only [Act.put, List.setIfInBounds_toArray, List.set_cons_zero, List.set_cons_succ]
                refine wpAnyH_take (i := 4) (oi := ?oi153) (v := ?vi153) ?h153 (by kernel_rfl) (by kernel_rfl) (by kernel_rfl) ?q153 (Or.inl ⟨?w153, ?y153⟩) hHeld ?r153
                case h153 => first | (simp only [List.getElem?_toArray, List.getElem?_cons_zero, List.getElem?_cons_succ]; done) | (simp only [List.getElem?_toArray, List.getElem?_cons_zero, List.getElem?_cons_succ]; exact rfl)
                case q153 => exact fun _ _ _ h => h
                case w153 => rfl
                case y153 =>
                  intro w hSw
                  (try dsimp only at hSw)
                  obtain ⟨s0, s1, s2⟩ := hSw
                  go_simp
                  try with_reducible rfl
                try simp only [Act.put, List.setIfInBounds_toArray, List.set_cons_zero, List.set_cons_succ]
                refine wpAnyH_take (i := 5) (oi := ?oi154) (v := ?vi154) ?h154 (by kernel_rfl) (by kernel_rfl) (by kernel_rfl) ?q154 (Or.inl ⟨?w154, ?y154⟩) hHeld ?r154
                case h154 => first | (simp only [List.getElem?_toArray, List.getElem?_cons_zero, List.getElem?_cons_succ]; done) | (simp only [List.getElem?_toArray, List.getElem?_cons_zero, List.getElem?_cons_succ]; exact rfl)
                case q154 => exact fun _ _ _ h => h
                case w154 => rfl
                case y154 =>
                  intro w hSw
                  (try dsimp only at hSw)
                  obtain ⟨s0, s1, s2⟩ := hSw
                  go_simp
                  try with_reducible rfl
                try simp only [Act.put, List.setIfInBounds_toArray, List.set_cons_zero, List.set_cons_succ]
                refine wpAnyH_take (i := 6) (oi := ?oi155) (v := ?vi155) ?h155 (by kernel_rfl) (by kernel_rfl) (by kernel_rfl) ?q155 (Or.inl ⟨?w155, ?y155⟩) hHeld ?r155
                case h155 => first | (simp only [List.getElem?_toArray, List.getElem?_cons_zero, List.getElem?_cons_succ]; done) | (simp only [List.getElem?_toArray, List.getElem?_cons_zero, List.getElem?_cons_succ]; exact rfl)
                case q155 => exact fun _ _ _ h => h
                case w155 => rfl
                case y155 =>
                  intro w hSw
                  (try dsimp only at hSw)
                  obtain ⟨s0, s1, s2⟩ := hSw
                  go_simp
                  try with_reducible rfl
                try simp only [Act.put, List.setIfInBounds_toArray, List.set_cons_zero, List.set_cons_succ]
                refine wpAnyH_take (i := 7) (oi := ?oi156) (v := ?vi156) ?h156 (by kernel_rfl) (by kernel_rfl) (by kernel_rfl) ?q156 (Or.inl ⟨?w156, ?y156⟩) hHeld ?r156
                case h156 => first | (simp only [List.getElem?_toArray, List.getElem?_cons_zero, List.getElem?_cons_succ]; done) | (simp only [List.getElem?_toArray, List.getElem?_cons_zero, List.getElem?_cons_succ]; exact rfl)
                case q156 => exact fun _ _ _ h => h
                case w156 => rfl
                case y156 =>
                  intro w hSw
                  (try dsimp only at hSw)
                  obtain ⟨s0, s1, s2⟩ := hSw
                  go_simp
                  try with_reducible rfl
                try simp only [Act.put, List.setIfInBounds_toArray, List.set_cons_zero, List.set_cons_succ]
                refine wpAnyH_take (i := 8) (oi := ?oi157) (v := ?vi157) ?h157 (by kernel_rfl) (by kernel_rfl) (by kernel_rfl) ?q157 (Or.inl ⟨?w157, ?y157⟩) hHeld ?r157
                case h157 => first | (simp only [List.getElem?_toArray, List.getElem?_cons_zero, List.getElem?_cons_succ]; done) | (simp only [List.getElem?_toArray, List.getElem?_cons_zero, List.getElem?_cons_succ]; exact rfl)
                case q157 => exact fun _ _ _ h => h
                case w157 => rfl
                case y157 =>
                  intro w hSw
                  (try dsimp only at hSw)
                  obtain ⟨s0, s1, s2⟩ := hSw
                  go_simp
                  try with_reducible rfl
                try simp only [Act.put, List.setIfInBounds_toArray, List.set_cons_zero, List.set_cons_succ]
                refine wpAnyH_take (i := 9) (oi := ?oi158) (v := ?vi158) ?h158 (by kernel_rfl) (by kernel_rfl) (by kernel_rfl) ?q158 (Or.inl ⟨?w158, ?y158⟩) hHeld ?r158
                case h158 => first | (simp only [List.getElem?_toArray, List.getElem?_cons_zero, List.getElem?_cons_succ]; done) | (simp only [List.getElem?_toArray, List.getElem?_cons_zero, List.getElem?_cons_succ]; exact rfl)
                case q158 => exact fun _ _ _ h => h
                case w158 => rfl
                case y158 =>
                  intro w hSw
                  (try dsimp only at hSw)
                  obtain ⟨s0, s1, s2⟩ := hSw
                  go_simp
                  try with_reducible rfl
                try simp only [Act.put, List.setIfInBounds_toArray, List.set_cons_zero, List.set_cons_succ]
                refine wpAnyH_take (i := 10) (oi := ?oi159) (v := ?vi159) ?h159 (by kernel_rfl) (by kernel_rfl) (by kernel_rfl) ?q159 (Or.inl ⟨?w159, ?y159⟩) hHeld ?r159
                case h159 => first | (simp only [List.getElem?_toArray, List.getElem?_cons_zero, List.getElem?_cons_succ]; done) | (simp only [List.getElem?_toArray, List.getElem?_cons_zero, List.getElem?_cons_succ]; exact rfl)
                case q159 => exact fun _ _ _ h => h
                case w159 => rfl
                case y159 =>
                  intro w hSw
                  (try dsimp only at hSw)
                  obtain ⟨s0, s1, s2⟩ := hSw
                  go_simp
                  try with_reducible rfl
                try simp only [Act.put, List.setIfInBounds_toArray, List.set_cons_zero, List.set_cons_succ]
                refine wpAnyH_ready (rs := [11]) (by kernel_rfl) (by simp) ?_
                refine AllReadyH.cons (o := ?ob160) ?hb160 (fun K hK => ?_) AllReadyH.nil
                case hb160 => first | (simp only [List.getElem?_toArray, List.getElem?_cons_zero, List.getElem?_cons_succ]; done) | (simp only [List.getElem?_toArray, List.getElem?_cons_zero, List.getElem?_cons_succ]; exact rfl)
                go_simp
                go_at_call 50
                refine (HR.out _).mono ?_
                rintro e w1 ⟨rfl, g1⟩
                have hb1 := g1.fp.heap (k := w.heap.size) ((Fp.refl Non _).drew.heap HF0.out.2 (fun h => h)) (fun h => h)
                have HB1 := Lib.hid hb1
                have HS1 := Lib.hid (boxP3 hb1)
                have F1 := Lib.hid (HF0.out.1.then (((Fp.refl Non _).drew).then g1.fp))
                clear g1 hb1
                go_wp2_with fail
                refine hK.out _ _ HS1.out (fun hHeld => ?_)
                clear hK K
                try simp only [Act.put, List.setIfInBounds_toArray, List.set_cons_zero, List.set_cons_succ]
                refine wpAnyH_take (i := 12) (oi := ?oi161) (v := ?vi161) ?h161 (by kernel_rfl) (by kernel_rfl) (by kernel_rfl) ?q161 (Or.inl ⟨?w161, ?y161⟩) hHeld ?r161
                case h161 => first | (simp only [List.getElem?_toArray, List.getElem?_cons_zero, List.getElem?_cons_succ]; done) | (simp only [List.getElem?_toArray, List.getElem?_cons_zero, List.getElem?_cons_succ]; exact rfl)
                case q161 => exact fun _ _ _ h => h
                case w161 => rfl
                case y161 =>
                  intro w hSw
                  (try dsimp only at hSw)
                  obtain ⟨s0, s1, s2⟩ := hSw
                  go_simp
                  try with_reducible rfl
                try simp only [Act.put, List.setIfInBounds_toArray, List.set_cons_zero, List.set_cons_succ]
                refine wpAnyH_take (i := 13) (oi := ?oi162) (v := ?vi162) ?h162 (by kernel_rfl) (by kernel_rfl) (by kernel_rfl) ?q162 (Or.inl ⟨?w162, ?y162⟩) hHeld ?r162
                case h162 => first | (simp only [List.getElem?_toArray, List.getElem?_cons_zero, List.getElem?_cons_succ]; done) | (simp only [List.getElem?_toArray, List.getElem?_cons_zero, List.getElem?_cons_succ]; exact rfl)
                case q162 => exact fun _ _ _ h => h
                case w162 => rfl
                case y162 =>
                  intro w hSw
                  (try dsimp only at hSw)
                  obtain ⟨s0, s1, s2⟩ := hSw
                  go_simp
                  try with_reducible rfl
                try simp only [Act.put, List.setIfInBounds_toArray, List.set_cons_zero, List.set_cons_succ]
                refine wpAnyH_take (i := 14) (oi := ?oi163) (v := ?vi163) ?h163 (by kernel_rfl) (by kernel_rfl) (by kernel_rfl) ?q163 (Or.inl ⟨?w163, ?y163⟩) hHeld ?r163
                case h163 => first | (simp only [List.getElem?_toArray, List.getElem?_cons_zero, List.getElem?_cons_succ]; done) | (simp only [List.getElem?_toArray, List.getElem?_cons_zero, List.getElem?_cons_succ]; exact rfl)
                case q163 => exact fun _ _ _ h => h
                case w163 => rfl
                case y163 =>
                  intro w hSw
                  (try dsimp only at hSw)
                  obtain ⟨s0, s1, s2⟩ := hSw
                  go_simp
                  try with_reducible rfl
                try simp only [Act.put, List.setIfInBounds_toArray, List.set_cons_zero, List.set_cons_succ]
                refine wpAnyH_take (i := 15) (oi := ?oi164) (v := ?vi164) ?h164 (by kernel_rfl) (by kernel_rfl) (by kernel_rfl) ?q164 (Or.inl ⟨?w164, ?y164⟩) hHeld ?r164
                case h164 => first | (simp only [List.getElem?_toArray, List.getElem?_cons_zero, List.getElem?_cons_succ]; done) | (simp only [List.getElem?_toArray, List.getElem?_cons_zero, List.getElem?_cons_succ]; exact rfl)
                case q164 => exact fun _ _ _ h => h
                case w164 => rfl
                case y164 =>
                  intro w hSw
                  (try dsimp only at hSw)
                  obtain ⟨s0, s1, s2⟩ := hSw
                  go_simp
                  try with_reducible rfl
                try simp only [Act.put, List.setIfInBounds_toArray, List.set_cons_zero, List.set_cons_succ]
                refine wpAnyH_take (i := 16) (oi := ?oi165) (v := ?vi165) ?h165 (by kernel_rfl) (by kernel_rfl) (by kernel_rfl) ?q165 (Or.inl ⟨?w165, ?y165⟩) hHeld ?r165
                case h165 => first | (simp only [List.getElem?_toArray, List.getElem?_cons_zero, List.getElem?_cons_succ]; done) | (simp only [List.getElem?_toArray, List.getElem?_cons_zero, List.getElem?_cons_succ]; exact rfl)
                case q165 => exact fun _ _ _ h => h
                case w165 => rfl
                case y165 =>
                  intro w hSw
                  (try dsimp only at hSw)
                  obtain ⟨s0, s1, s2⟩ := hSw
                  go_simp
                  try with_reducible rfl
                try simp only [Act.put, List.setIfInBounds_toArray, List.set_cons_zero, List.set_cons_succ]
                refine wpAnyH_take (i := 17) (oi := ?oi166) (v := ?vi166) ?h166 (by kernel_rfl) (by kernel_rfl) (by kernel_rfl) ?q166 (Or.inl ⟨?w166, ?y166⟩) hHeld ?r166
                case h166 => first | (simp only [List.getElem?_toArray, List.getElem?_cons_zero, List.getElem?_cons_succ]; done) | (simp only [List.getElem?_toArray, List.getElem?_cons_zero, List.getElem?_cons_succ]; exact rfl)
                case q166 => exact fun _ _ _ h => h
                case w166 => rfl
                case y166 =>
                  intro w hSw
                  (try dsimp only at hSw)
                  obtain ⟨s0, s1, s2⟩ := hSw
                  go_simp
                  try with_reducible rfl
                try simp only [Act.put, List.setIfInBounds_toArray, List.set_cons_zero, List.set_cons_succ]
                refine wpAnyH_take (i := 18) (oi := ?oi167) (v := ?vi167) ?h167 (by kernel_rfl) (by kernel_rfl) (by kernel_rfl) ?q167 (Or.inl ⟨?w167, ?y167⟩) hHeld ?r167
                case h167 => first | (simp only [List.getElem?_toArray, List.getElem?_cons_zero, List.getElem?_cons_succ]; done) | (simp only [List.getElem?_toArray, List.getElem?_cons_zero, List.getElem?_cons_succ]; exact rfl)
                case q167 => exact fun _ _ _ h => h
                case w167 => rfl
                case y167 =>
                  intro w hSw
                  (try dsimp only at hSw)
                  obtain ⟨s0, s1, s2⟩ := hSw
                  go_simp
                  try with_reducible rfl
                try simp only [Act.put, List.setIfInBounds_toArray, List.set_cons_zero, List.set_cons_succ]
                refine wpAnyH_take (i := 19) (oi := ?oi168) (v := ?vi168) ?h168 (by kernel_rfl) (by kernel_rfl) (by kernel_rfl) ?q168 (Or.inl ⟨?w168, ?y168⟩) hHeld ?r168
                case h168 => first | (simp only [List.getElem?_toArray, List.getElem?_cons_zero, List.getElem?_cons_succ]; done) | (simp only [List.getElem?_toArray, List.getElem?_cons_zero, List.getElem?_cons_succ]; exact rfl)
                case q168 => exact fun _ _ _ h => h
                case w168 => rfl
                case y168 =>
                  intro w hSw
                  (try dsimp only at hSw)
                  obtain ⟨s0, s1, s2⟩ := hSw
                  go_simp
                  try with_reducible rfl
                try simp only [Act.put, List.setIfInBounds_toArray, List.set_cons_zero, List.set_cons_succ]
                refine wpAnyH_take (i := 20) (oi := ?oi169) (v := ?vi169) ?h169 (by kernel_rfl) (by kernel_rfl) (by kernel_rfl) ?q169 (Or.inl ⟨?w169, ?y169⟩) hHeld ?r169
                case h169 => first | (simp only [List.getElem?_toArray, List.getElem?_cons_zero, List.getElem?_cons_succ]; done) | (simp only [List.getElem?_toArray, List.getElem?_cons_zero, List.getElem?_cons_succ]; exact rfl)
                case q169 => exact fun _ _ _ h => h
                case w169 => rfl
                case y169 =>
                  intro w hSw
                  (try dsimp only at hSw)
                  obtain ⟨s0, s1, s2⟩ := hSw
                  go_simp
                  try with_reducible rfl
                try simp only [Act.put, List.setIfInBounds_toArray, List.set_cons_zero, List.set_cons_succ]
                refine wpAnyH_ready (rs := [21]) (by kernel_rfl) (by simp) ?_
                refine AllReadyH.cons (o := ?ob170) ?hb170 (fun K hK => ?_) AllReadyH.nil
                case hb170 => first | (simp only [List.getElem?_toArray, List.getElem?_cons_zero, List.getElem?_cons_succ]; done) | (simp only [List.getElem?_toArray, List.getElem?_cons_zero, List.getElem?_cons_succ]; exact rfl)
                go_simp
                go_at_call 69
                refine (HKE.out _).mono ?_
                rintro e w2 ⟨rfl, g2⟩
                have hb2 := g2.heap (k := w.heap.size) HB1.out (fun h => h)
                have HB2 := Lib.hid hb2
                have HS2 := Lib.hid (boxP3 hb2)
                have F := Lib.hid (F1.out.then g2)
                clear g2 hb2
                go_wp2_with fail
                refine hK.out _ _ HS2.out (fun hHeld => ?_)
                clear hK K
                try simp only [Act.put, List.setIfInBounds_toArray, List.set_cons_zero, List.set_cons_succ]
                refine wpAnyH_take (i := 22) (oi := ?oi171) (v := ?vi171) ?h171 (by kernel_rfl) (by kernel_rfl) (by kernel_rfl) ?q171 (Or.inl ⟨?w171, ?y171⟩) hHeld ?r171
                case h171 => first | (simp only [List.getElem?_toArray, List.getElem?_cons_zero, List.getElem?_cons_succ]; done) | (simp only [List.getElem?_toArray, List.getElem?_cons_zero, List.getElem?_cons_succ]; exact rfl)
                case q171 => exact fun _ _ _ h => h
                case w171 => rfl
                case y171 =>
                  intro w hSw
                  (try dsimp only at hSw)
                  obtain ⟨s0, s1, s2⟩ := hSw
                  go_simp
                  try with_reducible rfl
                try simp only [Act.put, List.setIfInBounds_toArray, List.set_cons_zero, List.set_cons_succ]
                refine wpAnyH_take (i := 23) (oi := ?oi172) (v := ?vi172) ?h172 (by kernel_rfl) (by kernel_rfl) (by kernel_rfl) ?q172 (Or.inl ⟨?w172, ?y172⟩) hHeld ?r172
                case h172 => first | (simp only [List.getElem?_toArray, List.getElem?_cons_zero, List.getElem?_cons_succ]; done) | (simp only [List.getElem?_toArray, List.getElem?_cons_zero, List.getElem?_cons_succ]; exact rfl)
                case q172 => exact fun _ _ _ h => h
                case w172 => rfl
                case y172 =>
                  intro w hSw
                  (try dsimp only at hSw)
                  obtain ⟨s0, s1, s2⟩ := hSw
                  go_simp
                  try with_reducible rfl
                try simp only [Act.put, List.setIfInBounds_toArray, List.set_cons_zero, List.set_cons_succ]
                refine wpAnyH_done (by kernel_rfl) ?_ _
                obtain ⟨c0, c1, c2, c3, c4, c5, c6⟩ := boxP7 HB2.out
                go_wp2
                go_ret
                exact ⟨ret_bool (HFin.out _ (by simp [Q.out])).symm, F.out⟩
          · have q4 : (k == 2) = false := by simpa using h2
            have q4b : (k = 2) = False := eq_false h2
            by_cases hd : n ≤ 256
            · have q5 : ((256 : Int) < (da.length : Int)) = False := eq_false (by omega)
              have q6 : ((da.length : Int) ≤ (256 : Int)) = True := eq_true (by omega)
              have Q := Lib.hid (And.intro ha (And.intro hb (And.intro hd0 (And.intro h2 (hd)))))
              clear ha hb hd0 h2 hd hn
              go_enter Try.func54, Try.ntmps54
              go_wp2_with fail
              refine wp_region_held_drew (S := (fun w' => w'.cell? ⟨w.heap.size, 0, none⟩ = some (.int .i64 k) ∧ w'.cell? ⟨w.heap.size, 1, none⟩ = some (.string (B d)) ∧ w'.cell? ⟨w.heap.size, 2, none⟩ = some (.string (B p)))) (by kernel_rfl) ?_ (fun hHeld => ?_)
              · exact boxP3 ((Fp.refl Non _).drew.heap HF0.out.2 (fun h => h))
              refine wpAnyH_take (i := 0) (oi := ?oi173) (v := ?vi173) ?h173 (by kernel_rfl) (by kernel_rfl) (by kernel_rfl) ?q173 (Or.inl ⟨?w173, ?y173⟩) hHeld ?r173
              case h173 => first | (simp only [List.getElem?_toArray, List.getElem?_cons_zero]; done) | (simp only [List.getElem?_toArray, List.getElem?_cons_zero]; exact rfl)
              case q173 => exact fun _ _ _ h => h
              case w173 => rfl
              case y173 =>
                intro w hSw
                (try dsimp only at hSw)
                obtain ⟨s0, s1, s2⟩ := hSw
                go_simp
                try with_reducible rfl
              try simp only [Act.put, List.setIfInBounds_toArray, List.set_cons_zero, List.set_cons_succ]
              refine wpAnyH_take (i := 1) (oi := ?oi174) (v := ?vi174) ?h174 (by kernel_rfl) (by kernel_rfl) (by kernel_rfl) ?q174 (Or.inl ⟨?w174, ?y174⟩) hHeld ?r174
              case h174 => first | (simp only [List.getElem?_toArray, List.getElem?_cons_zero, List.getElem?_cons_succ]; done) | (simp only [List.getElem?_toArray, List.getElem?_cons_zero, List.getElem?_cons_succ]; exact rfl)
              case q174 => exact fun _ _ _ h => h
              case w174 => rfl
              case y174 =>
                intro w hSw
                (try dsimp only at hSw)
                obtain ⟨s0, s1, s2⟩ := hSw
                go_simp
                try with_reducible rfl
              try simp only [Act.put, List.setIfInBounds_toArray, List.set_cons_zero, List.set_cons_succ]
              refine wpAnyH_take (i := 2) (oi := ?oi175) (v := ?vi175) ?h175 (by kernel_rfl) (by kernel_rfl) (by kernel_rfl) ?q175 (Or.inl ⟨?w175, ?y175⟩) hHeld ?r175
              case h175 => first | (simp only [List.getElem?_toArray, List.getElem?_cons_zero, List.getElem?_cons_succ]; done) | (simp only [List.getElem?_toArray, List.getElem?_cons_zero, List.getElem?_cons_succ]; exact rfl)
              case q175 => exact fun _ _ _ h => h
              case w175 => rfl
              case y175 =>
                intro w hSw
                (try dsimp only at hSw)
                obtain ⟨s0, s1, s2⟩ := hSw
                go_simp
                try with_reducible rfl
              try simp only [Act.put, List.setIfInBounds_toArray, List.set_cons_zero, List.set_cons_succ]
              refine wpAnyH_take (i := 3) (oi := ?oi176) (v := ?vi176) ?h176 (by kernel_rfl) (by kernel_rfl) (by kernel_rfl) ?q176 (Or.inl ⟨?w176, ?y176⟩) hHeld ?r176
              case h176 => first | (simp only [List.getElem?_toArray, List.getElem?_cons_zero, List.getElem?_cons_succ]; done) | (simp only [List.getElem?_toArray, List.getElem?_cons_zero, List.getElem?_cons_succ]; exact rfl)
              case q176 => exact fun _ _ _ h => h
              case w176 => rfl
              case y176 =>
                intro w hSw
                (try dsimp only at hSw)
                obtain ⟨s0, s1, s2⟩ := hSw
                go_simp
                try with_reducible rfl
              try simp only [Act.put, List.setIfInBounds_toArray, List.set_cons_zero, List.set_cons_succ]
              refine wpAnyH_take (i := 4) (oi := ?oi177) (v := ?vi177) ?h177 (by kernel_rfl) (by kernel_rfl) (by kernel_rfl) ?q177 (Or.inl ⟨?w177, ?y177⟩) hHeld ?r177
              case h177 => first | (simp only [List.getElem?_toArray, List.getElem?_cons_zero, List.getElem?_cons_succ]; done) | (simp only [List.getElem?_toArray, List.getElem?_cons_zero, List.getElem?_cons_succ]; exact rfl)
              case q177 => exact fun _ _ _ h => h
              case w177 => rfl
              case y177 =>
                intro w hSw
                (try dsimp only at hSw)
                obtain ⟨s0, s1, s2⟩ := hSw
                go_simp
                try with_reducible rfl
              try simp only [Act.put, List.setIfInBounds_toArray, List.set_cons_zero, List.set_cons_succ]
              refine wpAnyH_take (i := 5) (oi := ?oi178) (v := ?vi178) ?h178 (by kernel_rfl) (by kernel_rfl) (by kernel_rfl) ?q178 (Or.inl ⟨?w178, ?y178⟩) hHeld ?r178
              case h178 => first | (simp only [List.getElem?_toArray, List.getElem?_cons_zero, List.getElem?_cons_succ]; done) | (simp only [List.getElem?_toArray, List.getElem?_cons_zero, List.getElem?_cons_succ]; exact rfl)
              case q178 => exact fun _ _ _ h => h
              case w178 => rfl
              case y178 =>
                intro w hSw
                (try dsimp only at hSw)
                obtain ⟨s0, s1, s2⟩ := hSw
                go_simp
                try with_reducible rfl
              try simp only [Act.put, List.setIfInBounds_toArray, List.set_cons_zero, List.set_cons_succ]
              refine wpAnyH_take (i := 6) (oi := ?oi179) (v := ?vi179) ?h179 (by kernel_rfl) (by kernel_rfl) (by kernel_rfl) ?q179 (Or.inl ⟨?w179, ?y179⟩) hHeld ?r179
              case h179 => first | (simp only [List.getElem?_toArray, List.getElem?_cons_zero, List.getElem?_cons_succ]; done) | (simp only [List.getElem?_toArray, List.getElem?_cons_zero, List.getElem?_cons_succ]; exact rfl)
              case q179 => exact fun _ _ _ h => h
              case w179 => rfl
              case y179 =>
                intro w hSw
                (try dsimp only at hSw)
                obtain ⟨s0, s1, s2⟩ := hSw
                go_simp
                try with_reducible rfl
              try simp only [Act.put, List.setIfInBounds_toArray, List.set_cons_zero, List.set_cons_succ]
              refine wpAnyH_take (i := 7) (oi := ?oi180) (v := ?vi180) ?h180 (by kernel_rfl) (by kernel_rfl) (by kernel_rfl) ?q180 (Or.inl ⟨?w180, ?y180⟩) hHeld ?r180
              case h180 => first | (simp only [List.getElem?_toArray, List.getElem?_cons_zero, List.getElem?_cons_succ]; done) | (simp only [List.getElem?_toArray, List.getElem?_cons_zero, List.getElem?_cons_succ]; exact rfl)
              case q180 => exact fun _ _ _ h => h
              case w180 => rfl
              case y180 =>
                intro w hSw
                (try dsimp only at hSw)
                obtain ⟨s0, s1, s2⟩ := hSw
                go_simp
                try with_reducible rfl
              try simp only [Act.put, List.setIfInBounds_toArray, List.set_cons_zero, List.set_cons_succ]
              refine wpAnyH_take (i := 8) (oi := ?oi181) (v := ?vi181) ?h181 (by kernel_rfl) (by kernel_rfl) (by kernel_rfl) ?q181 (Or.inl ⟨?w181, ?y181⟩) hHeld ?r181
              case h181 => first | (simp only [List.getElem?_toArray, List.getElem?_cons_zero, List.getElem?_cons_succ]; done) | (simp only [List.getElem?_toArray, List.getElem?_cons_zero, List.getElem?_cons_succ]; exact rfl)
              case q181 => exact fun _ _ _ h => h
              case w181 => rfl
              case y181 =>
                intro w hSw
                (try dsimp only at hSw)
                obtain ⟨s0, s1, s2⟩ := hSw
                go_simp
                try with_reducible rfl
              try simp only [Act.put, List.setIfInBounds_toArray, List.set_cons_zero, List.set_cons_succ]
              refine wpAnyH_take (i := 9) (oi := ?oi182) (v := ?vi182) ?h182 (by kernel_rfl) (by kernel_rfl) (by kernel_rfl) ?q182 (Or.inl ⟨?w182, ?y182⟩) hHeld ?r182
              case h182 => first | (simp only [List.getElem?_toArray, List.getElem?_cons_zero, List.getElem?_cons_succ]; done) | (simp only [List.getElem?_toArray, List.getElem?_cons_zero, List.getElem?_cons_succ]; exact rfl)
              case q182 => exact fun _ _ _ h => h
              case w182 => rfl
              case y182 =>
                intro w hSw
                (try dsimp only at hSw)
                obtain ⟨s0, s1, s2⟩ := hSw
                go_simp
                try with_reducible rfl
              try simp only [Act.put, List.setIfInBounds_toArray, List.set_cons_zero, List.set_cons_succ]
              refine wpAnyH_take (i := 10) (oi := ?oi183) (v := ?vi183) ?h183 (by kernel_rfl) (by kernel_rfl) (by kernel_rfl) ?q183 (Or.inl ⟨?w183, ?y183⟩) hHeld ?r183
              case h183 => first | (simp only [List.getElem?_toArray, List.getElem?_cons_zero, List.getElem?_cons_succ]; done) | (simp only [List.getElem?_toArray, List.getElem?_cons_zero, List.getElem?_cons_succ]; exact rfl)
              case q183 => exact fun _ _ _ h => h
              case w183 => rfl
              case y183 =>
                intro w hSw
                (try dsimp only at hSw)
                obtain ⟨s0, s1, s2⟩ := hSw
                go_simp
                try with_reducible rfl
              try simp only [Act.put, List.setIfInBounds_toArray, List.set_cons_zero, List.set_cons_succ]
              refine wpAnyH_ready (rs := [11]) (by kernel_rfl) (by simp) ?_
              refine AllReadyH.cons (o := ?ob184) ?hb184 (fun K hK => ?_) AllReadyH.nil
              case hb184 => first | (simp only [List.getElem?_toArray, List.getElem?_cons_zero, List.getElem?_cons_succ]; done) | (simp only [List.getElem?_toArray, List.getElem?_cons_zero, List.getElem?_cons_succ]; exact rfl)
              go_simp
              go_at_call 50
              refine (HR.out _).mono ?_
              rintro e w1 ⟨rfl, g1⟩
              have hb1 := g1.fp.heap (k := w.heap.size) ((Fp.refl Non _).drew.heap HF0.out.2 (fun h => h)) (fun h => h)
              have HB1 := Lib.hid hb1
              have HS1 := Lib.hid (boxP3 hb1)
              have F1 := Lib.hid (HF0.out.1.then (((Fp.refl Non _).drew).then g1.fp))
              clear g1 hb1
              go_wp2_with fail
              refine hK.out _ _ HS1.out (fun hHeld => ?_)
              clear hK K
              try simp only [Act.put, List.setIfInBounds_toArray, List.set_cons_zero, List.set_cons_succ]
              refine wpAnyH_take (i := 12) (oi := ?oi185) (v := ?vi185) ?h185 (by kernel_rfl) (by kernel_rfl) (by kernel_rfl) ?q185 (Or.inl ⟨?w185, ?y185⟩) hHeld ?r185
              case h185 => first | (simp only [List.getElem?_toArray, List.getElem?_cons_zero, List.getElem?_cons_succ]; done) | (simp only [List.getElem?_toArray, List.getElem?_cons_zero, List.getElem?_cons_succ]; exact rfl)
              case q185 => exact fun _ _ _ h => h
              case w185 => rfl
              case y185 =>
                intro w hSw
                (try dsimp only at hSw)
                obtain ⟨s0, s1, s2⟩ := hSw
                go_simp
                try with_reducible rfl
              try simp only [Act.put, List.setIfInBounds_toArray, List.set_cons_zero, List.set_cons_succ]
              refine wpAnyH_take (i := 13) (oi := ?oi186) (v := ?vi186) ?h186 (by kernel_rfl) (by kernel_rfl) (by kernel_rfl) ?q186 (Or.inl ⟨?w186, ?y186⟩) hHeld ?r186
              case h186 => first | (simp only [List.getElem?_toArray, List.getElem?_cons_zero, List.getElem?_cons_succ]; done) | (simp only [List.getElem?_toArray, List.getElem?_cons_zero, List.getElem?_cons_succ]; exact rfl)
              case q186 => exact fun _ _ _ h => h
              case w186 => rfl
              case y186 =>
                intro w hSw
                (try dsimp only at hSw)
                obtain ⟨s0, s1, s2⟩ := hSw
                go_simp
                try with_reducible rfl
              try simp only [Act.put, List.setIfInBounds_toArray, List.set_cons_zero, List.set_cons_succ]
              refine wpAnyH_take (i := 14) (oi := ?oi187) (v := ?vi187) ?h187 (by kernel_rfl) (by kernel_rfl) (by kernel_rfl) ?q187 (Or.inl ⟨?w187, ?y187⟩) hHeld ?r187
              case h187 => first | (simp only [List.getElem?_toArray, List.getElem?_cons_zero, List.getElem?_cons_succ]; done) | (simp only [List.getElem?_toArray, List.getElem?_cons_zero, List.getElem?_cons_succ]; exact rfl)
              case q187 => exact fun _ _ _ h => h
              case w187 => rfl
              case y187 =>
                intro w hSw
                (try dsimp only at hSw)
                obtain ⟨s0, s1, s2⟩ := hSw
                go_simp
                try with_reducible rfl
              try simp only [Act.put, List.setIfInBounds_toArray, List.set_cons_zero, List.set_cons_succ]
              refine wpAnyH_take (i := 15) (oi := ?oi188) (v := ?vi188) ?h188 (by kernel_rfl) (by kernel_rfl) (by kernel_rfl) ?q188 (Or.inl ⟨?w188, ?y188⟩) hHeld ?r188
              case h188 => first | (simp only [List.getElem?_toArray, List.getElem?_cons_zero, List.getElem?_cons_succ]; done) | (simp only [List.getElem?_toArray, List.getElem?_cons_zero, List.getElem?_cons_succ]; exact rfl)
              case q188 => exact fun _ _ _ h => h
              case w188 => rfl
              case y188 =>
                intro w hSw
                (try dsimp only at hSw)
                obtain ⟨s0, s1, s2⟩ := hSw
                go_simp
                try with_reducible rfl
              try simp only [Act.put, List.setIfInBounds_toArray, List.set_cons_zero, List.set_cons_succ]
              refine wpAnyH_take (i := 16) (oi := ?oi189) (v := ?vi189) ?h189 (by kernel_rfl) (by kernel_rfl) (by kernel_rfl) ?q189 (Or.inl ⟨?w189, ?y189⟩) hHeld ?r189
              case h189 => first | (simp only [List.getElem?_toArray, List.getElem?_cons_zero, List.getElem?_cons_succ]; done) | (simp only [List.getElem?_toArray, List.getElem?_cons_zero, List.getElem?_cons_succ]; exact rfl)
              case q189 => exact fun _ _ _ h => h
              case w189 => rfl
              case y189 =>
                intro w hSw
                (try dsimp only at hSw)
                obtain ⟨s0, s1, s2⟩ := hSw
                go_simp
                try with_reducible rfl
              try simp only [Act.put, List.setIfInBounds_toArray, List.set_cons_zero, List.set_cons_succ]
              refine wpAnyH_take (i := 17) (oi := ?oi190) (v := ?vi190) ?h190 (by kernel_rfl) (by kernel_rfl) (by kernel_rfl) ?q190 (Or.inl ⟨?w190, ?y190⟩) hHeld ?r190
              case h190 => first | (simp only [List.getElem?_toArray, List.getElem?_cons_zero, List.getElem?_cons_succ]; done) | (simp only [List.getElem?_toArray, List.getElem?_cons_zero, List.getElem?_cons_succ]; exact rfl)
              case q190 => exact fun _ _ _ h => h
              case w190 => rfl
              case y190 =>
                intro w hSw
                (try dsimp only at hSw)
                obtain ⟨s0, s1, s2⟩ := hSw
                go_simp
                try with_reducible rfl
              try simp only [Act.put, List.setIfInBounds_toArray, List.set_cons_zero, List.set_cons_succ]
              refine wpAnyH_take (i := 18) (oi := ?oi191) (v := ?vi191) ?h191 (by kernel_rfl) (by kernel_rfl) (by kernel_rfl) ?q191 (Or.inl ⟨?w191, ?y191⟩) hHeld ?r191
              case h191 => first | (simp only [List.getElem?_toArray, List.getElem?_cons_zero, List.getElem?_cons_succ]; done) | (simp only [List.getElem?_toArray, List.getElem?_cons_zero, List.getElem?_cons_succ]; exact rfl)
              case q191 => exact fun _ _ _ h => h
              case w191 => rfl
              case y191 =>
                intro w hSw
                (try dsimp only at hSw)
                obtain ⟨s0, s1, s2⟩ := hSw
                go_simp
                try with_reducible rfl
              try simp only [Act.put, List.setIfInBounds_toArray, List.set_cons_zero, List.set_cons_succ]
              refine wpAnyH_take (i := 19) (oi := ?oi192) (v := ?vi192) ?h192 (by kernel_rfl) (by kernel_rfl) (by kernel_rfl) ?q192 (Or.inl ⟨?w192, ?y192⟩) hHeld ?r192
              case h192 => first | (simp only [List.getElem?_toArray, List.getElem?_cons_zero, List.getElem?_cons_succ]; done) | (simp only [List.getElem?_toArray, List.getElem?_cons_zero, List.getElem?_cons_succ]; exact rfl)
              case q192 => exact fun _ _ _ h => h
              case w192 => rfl
              case y192 =>
                intro w hSw
                (try dsimp only at hSw)
                obtain ⟨s0, s1, s2⟩ := hSw
                go_simp
                try with_reducible rfl
              try simp only [Act.put, List.setIfInBounds_toArray, List.set_cons_zero, List.set_cons_succ]
              refine wpAnyH_take (i := 20) (oi := ?oi193) (v := ?vi193) ?h193 (by kernel_rfl) (by kernel_rfl) (by kernel_rfl) ?q193 (Or.inl ⟨?w193, ?y193⟩) hHeld ?r193
              case h193 => first | (simp only [List.getElem?_toArray, List.getElem?_cons_zero, List.getElem?_cons_succ]; done) | (simp only [List.getElem?_toArray, List.getElem?_cons_zero, List.getElem?_cons_succ]; exact rfl)
              case q193 => exact fun _ _ _ h => h
              case w193 => rfl
              case y193 =>
                intro w hSw
                (try dsimp only at hSw)
                obtain ⟨s0, s1, s2⟩ := hSw
                go_simp
                try with_reducible rfl
              try simp only [Act.put, List.setIfInBounds_toArray, List.set_cons_zero, List.set_cons_succ]
              refine wpAnyH_ready (rs := [21]) (by kernel_rfl) (by simp) ?_
              refine AllReadyH.cons (o := ?ob194) ?hb194 (fun K hK => ?_) AllReadyH.nil
              case hb194 => first | (simp only [List.getElem?_toArray, List.getElem?_cons_zero, List.getElem?_cons_succ]; done) | (simp only [List.getElem?_toArray, List.getElem?_cons_zero, List.getElem?_cons_succ]; exact rfl)
              go_simp
              go_at_call 69
              refine (HKE.out _).mono ?_
              rintro e w2 ⟨rfl, g2⟩
              have hb2 := g2.heap (k := w.heap.size) HB1.out (fun h => h)
              have HB2 := Lib.hid hb2
              have HS2 := Lib.hid (boxP3 hb2)
              have F := Lib.hid (F1.out.then g2)
              clear g2 hb2
              go_wp2_with fail
              refine hK.out _ _ HS2.out (fun hHeld => ?_)
              clear hK K
              try simp only [Act.put, List.setIfInBounds_toArray, List.set_cons_zero, List.set_cons_succ]
              refine wpAnyH_take (i := 22) (oi := ?oi195) (v := ?vi195) ?h195 (by kernel_rfl) (by kernel_rfl) (by kernel_rfl) ?q195 (Or.inl ⟨?w195, ?y195⟩) hHeld ?r195
              case h195 => first | (simp only [List.getElem?_toArray, List.getElem?_cons_zero, List.getElem?_cons_succ]; done) | (simp only [List.getElem?_toArray, List.getElem?_cons_zero, List.getElem?_cons_succ]; exact rfl)
              case q195 => exact fun _ _ _ h => h
              case w195 => rfl
              case y195 =>
                intro w hSw
                (try dsimp only at hSw)
                obtain ⟨s0, s1, s2⟩ := hSw
                go_simp
                try with_reducible rfl
              try simp only [Act.put, List.setIfInBounds_toArray, List.set_cons_zero, List.set_cons_succ]
              refine wpAnyH_take (i := 23) (oi := ?oi196) (v := ?vi196) ?h196 (by kernel_rfl) (by kernel_rfl) (by kernel_rfl) ?q196 (Or.inl ⟨?w196, ?y196⟩) hHeld ?r196
              case h196 => first | (simp only [List.getElem?_toArray, List.getElem?_cons_zero, List.getElem?_cons_succ]; done) | (simp only [List.getElem?_toArray, List.getElem?_cons_zero, List.getElem?_cons_succ]; exact rfl)
              case q196 => exact fun _ _ _ h => h
              case w196 => rfl
              case y196 =>
                intro w hSw
                (try dsimp only at hSw)
                obtain ⟨s0, s1, s2⟩ := hSw
                go_simp
                try with_reducible rfl
              try simp only [Act.put, List.setIfInBounds_toArray, List.set_cons_zero, List.set_cons_succ]
              refine wpAnyH_done (by kernel_rfl) ?_ _
              obtain ⟨c0, c1, c2, c3, c4, c5, c6⟩ := boxP7 HB2.out
              cases b1 <;> cases b3
              all_goals
                go_wp2_with (first
                  | (go_at_call_of 70 v; refine (W1.out _).mono ?_; rintro e w3 ⟨rfl, rfl⟩)
                  | (go_at_call_of 70 o; refine (W3.out _).mono ?_; rintro e w3 ⟨rfl, rfl⟩))
                go_ret
                exact ⟨ret_bool (HFin.out _ (by simp [Q.out])).symm, F.out⟩
            · have q5 : ((256 : Int) < (da.length : Int)) = True := eq_true (by omega)
              have q6 : ((da.length : Int) ≤ (256 : Int)) = False := eq_false (by omega)
              have Q := Lib.hid (And.intro ha (And.intro hb (And.intro hd0 (And.intro h2 (hd)))))
              clear ha hb hd0 h2 hd hn
              go_enter Try.func54, Try.ntmps54
              go_wp2_with fail
              refine wp_region_held_drew (S := (fun w' => w'.cell? ⟨w.heap.size, 0, none⟩ = some (.int .i64 k) ∧ w'.cell? ⟨w.heap.size, 1, none⟩ = some (.string (B d)) ∧ w'.cell? ⟨w.heap.size, 2, none⟩ = some (.string (B p)))) (by kernel_rfl) ?_ (fun hHeld => ?_)
              · exact boxP3 ((Fp.refl Non _).drew.heap HF0.out.2 (fun h => h))
              refine wpAnyH_take (i := 0) (oi := ?oi197) (v := ?vi197) ?h197 (by kernel_rfl) (by kernel_rfl) (by kernel_rfl) ?q197 (Or.inl ⟨?w197, ?y197⟩) hHeld ?r197
              case h197 => first | (simp only [List.getElem?_toArray, List.getElem?_cons_zero]; done) | (simp only [List.getElem?_toArray, List.getElem?_cons_zero]; exact rfl)
              case q197 => exact fun _ _ _ h => h
              case w197 => rfl
              case y197 =>
                intro w hSw
                (try dsimp only at hSw)
                obtain ⟨s0, s1, s2⟩ := hSw
                go_simp
                try with_reducible rfl
              try simp only [Act.put, List.setIfInBounds_toArray, List.set_cons_zero, List.set_cons_succ]
              refine wpAnyH_take (i := 1) (oi := ?oi198) (v := ?vi198) ?h198 (by kernel_rfl) (by kernel_rfl) (by kernel_rfl) ?q198 (Or.inl ⟨?w198, ?y198⟩) hHeld ?r198
              case h198 => first | (simp only [List.getElem?_toArray, List.getElem?_cons_zero, List.getElem?_cons_succ]; done) | (simp only [List.getElem?_toArray, List.getElem?_cons_zero, List.getElem?_cons_succ]; exact rfl)
              case q198 => exact fun _ _ _ h => h
              case w198 => rfl
              case y198 =>
                intro w hSw
                (try dsimp only at hSw)
                obtain ⟨s0, s1, s2⟩ := hSw
                go_simp
                try with_reducible rfl
              try simp only [Act.put, List.setIfInBounds_toArray, List.set_cons_zero, List.set_cons_succ]
              refine wpAnyH_take (i := 2) (oi := ?oi199) (v := ?vi199) ?h199 (by kernel_rfl) (by kernel_rfl) (by kernel_rfl) ?q199 (Or.inl ⟨?w199, ?y199⟩) hHeld ?r199
              case h199 => first | (simp only [List.getElem?_toArray, List.getElem?_cons_zero, List.getElem?_cons_succ]; done) | (simp only [List.getElem?_toArray, List.getElem?_cons_zero, List.getElem?_cons_succ]; exact rfl)
              case q199 => exact fun _ _ _ h => h
              case w199 => rfl
              case y199 =>
                intro w hSw
                (try dsimp only at hSw)
                obtain ⟨s0, s1, s2⟩ := hSw
                go_simp
                try with_reducible rfl
              try simp only [Act.put, List.setIfInBounds_toArray, List.set_cons_zero, List.set_cons_succ]
              refine wpAnyH_take (i := 3) (oi := ?oi200) (v := ?vi200) ?h200 (by kernel_rfl) (by kernel_rfl) (by kernel_rfl) ?q200 (Or.inl ⟨?w200, ?y200⟩) hHeld ?r200
              case h200 => first | (simp only [List.getElem?_toArray, List.getElem?_cons_zero, List.getElem?_cons_succ]; done) | (simp only [List.getElem?_toArray, List.getElem?_cons_zero, List.getElem?_cons_succ]; exact rfl)
              case q200 => exact fun _ _ _ h => h
              case w200 => rfl
              case y200 =>
                intro w hSw
                (try dsimp only at hSw)
                obtain ⟨s0, s1, s2⟩ := hSw
                go_simp
                try with_reducible rfl
              try simp only [Act.put, List.setIfInBounds_toArray, List.set_cons_zero, List.set_cons_succ]
              refine wpAnyH_take (i := 4) (oi := ?oi201) (v := ?vi201) ?h201 (by kernel_rfl) (by kernel_rfl) (by kernel_rfl) ?q201 (Or.inl ⟨?w201, ?y201⟩) hHeld ?r201
              case h201 => first | (simp only [List.getElem?_toArray, List.getElem?_cons_zero, List.getElem?_cons_succ]; done) | (simp only [List.getElem?_toArray, List.getElem?_cons_zero, List.getElem?_cons_succ]; exact rfl)
              case q201 => exact fun _ _ _ h => h
              case w201 => rfl
              case y201 =>
                intro w hSw
                (try dsimp only at hSw)
                obtain ⟨s0, s1, s2⟩ := hSw
                go_simp
                try with_reducible rfl
              try simp only [Act.put, List.setIfInBounds_toArray, List.set_cons_zero, List.set_cons_succ]
              refine wpAnyH_take (i := 5) (oi := ?oi202) (v := ?vi202) ?h202 (by kernel_rfl) (by kernel_rfl) (by kernel_rfl) ?q202 (Or.inl ⟨?w202, ?y202⟩) hHeld ?r202
              case h202 => first | (simp only [List.getElem?_toArray, List.getElem?_cons_zero, List.getElem?_cons_succ]; done) | (simp only [List.getElem?_toArray, List.getElem?_cons_zero, List.getElem?_cons_succ]; exact rfl)
              case q202 => exact fun _ _ _ h => h
              case w202 => rfl
              case y202 =>
                intro w hSw
                (try dsimp only at hSw)
                obtain ⟨s0, s1, s2⟩ := hSw
                go_simp
                try with_reducible rfl
              try simp only [Act.put, List.setIfInBounds_toArray, List.set_cons_zero, List.set_cons_succ]
              refine wpAnyH_take (i := 6) (oi := ?oi203) (v := ?vi203) ?h203 (by kernel_rfl) (by kernel_rfl) (by kernel_rfl) ?q203 (Or.inl ⟨?w203, ?y203⟩) hHeld ?r203
              case h203 => first | (simp only [List.getElem?_toArray, List.getElem?_cons_zero, List.getElem?_cons_succ]; done) | (simp only [List.getElem?_toArray, List.getElem?_cons_zero, List.getElem?_cons_succ]; exact rfl)
              case q203 => exact fun _ _ _ h => h
              case w203 => rfl
              case y203 =>
                intro w hSw
                (try dsimp only at hSw)
                obtain ⟨s0, s1, s2⟩ := hSw
                go_simp
                try with_reducible rfl
              try simp only [Act.put, List.setIfInBounds_toArray, List.set_cons_zero, List.set_cons_succ]
              refine wpAnyH_take (i := 7) (oi := ?oi204) (v := ?vi204) ?h204 (by kernel_rfl) (by kernel_rfl) (by kernel_rfl) ?q204 (Or.inl ⟨?w204, ?y204⟩) hHeld ?r204
              case h204 => first | (simp only [List.getElem?_toArray, List.getElem?_cons_zero, List.getElem?_cons_succ]; done) | (simp only [List.getElem?_toArray, List.getElem?_cons_zero, List.getElem?_cons_succ]; exact rfl)
              case q204 => exact fun _ _ _ h => h
              case w204 => rfl
              case y204 =>
                intro w hSw
                (try dsimp only at hSw)
                obtain ⟨s0, s1, s2⟩ := hSw
                go_simp
                try with_reducible rfl
              try simp only [Act.put, List.setIfInBounds_toArray, List.set_cons_zero, List.set_cons_succ]
              refine wpAnyH_take (i := 8) (oi := ?oi205) (v := ?vi205) ?h205 (by kernel_rfl) (by kernel_rfl) (by kernel_rfl) ?q205 (Or.inl ⟨?w205, ?y205⟩) hHeld ?r205
              case h205 => first | (simp only [List.getElem?_toArray, List.getElem?_cons_zero, List.getElem?_cons_succ]; done) | (simp only [List.getElem?_toArray, List.getElem?_cons_zero, List.getElem?_cons_succ]; exact rfl)
              case q205 => exact fun _ _ _ h => h
              case w205 => rfl
              case y205 =>
                intro w hSw
                (try dsimp only at hSw)
                obtain ⟨s0, s1, s2⟩ := hSw
                go_simp
                try with_reducible rfl
              try simp only [Act.put, List.setIfInBounds_toArray, List.set_cons_zero, List.set_cons_succ]
              refine wpAnyH_take (i := 9) (oi := ?oi206) (v := ?vi206) ?h206 (by kernel_rfl) (by kernel_rfl) (by kernel_rfl) ?q206 (Or.inl ⟨?w206, ?y206⟩) hHeld ?r206
              case h206 => first | (simp only [List.getElem?_toArray, List.getElem?_cons_zero, List.getElem?_cons_succ]; done) | (simp only [List.getElem?_toArray, List.getElem?_cons_zero, List.getElem?_cons_succ]; exact rfl)
              case q206 => exact fun _ _ _ h => h
              case w206 => rfl
              case y206 =>
                intro w hSw
                (try dsimp only at hSw)
                obtain ⟨s0, s1, s2⟩ := hSw
                go_simp
                try with_reducible rfl
              try simp only [Act.put, List.setIfInBounds_toArray, List.set_cons_zero, List.set_cons_succ]
              refine wpAnyH_take (i := 10) (oi := ?oi207) (v := ?vi207) ?h207 (by kernel_rfl) (by kernel_rfl) (by kernel_rfl) ?q207 (Or.inl ⟨?w207, ?y207⟩) hHeld ?r207
              case h207 => first | (simp only [List.getElem?_toArray, List.getElem?_cons_zero, List.getElem?_cons_succ]; done) | (simp only [List.getElem?_toArray, List.getElem?_cons_zero, List.getElem?_cons_succ]; exact rfl)
              case q207 => exact fun _ _ _ h => h
              case w207 => rfl
              case y207 =>
                intro w hSw
                (try dsimp only at hSw)
                obtain ⟨s0, s1, s2⟩ := hSw
                go_simp
                try with_reducible rfl
              try simp only [Act.put, List.setIfInBounds_toArray, List.set_cons_zero, List.set_cons_succ]
              refine wpAnyH_ready (rs := [11]) (by kernel_rfl) (by simp) ?_
              refine AllReadyH.cons (o := ?ob208) ?hb208 (fun K hK => ?_) AllReadyH.nil
              case hb208 => first | (simp only [List.getElem?_toArray, List.getElem?_cons_zero, List.getElem?_cons_succ]; done) | (simp only [List.getElem?_toArray, List.getElem?_cons_zero, List.getElem?_cons_succ]; exact rfl)
              go_simp
              go_at_call 50
              refine (HR.out _).mono ?_
              rintro e w1 ⟨rfl, g1⟩
              have hb1 := g1.fp.heap (k := w.heap.size) ((Fp.refl Non _).drew.heap HF0.out.2 (fun h => h)) (fun h => h)
              have HB1 := Lib.hid hb1
              have HS1 := Lib.hid (boxP3 hb1)
              have F1 := Lib.hid (HF0.out.1.then (((Fp.refl Non _).drew).then g1.fp))
              clear g1 hb1
              go_wp2_with fail
              refine hK.out _ _ HS1.out (fun hHeld => ?_)
              clear hK K
              try simp only [Act.put, List.setIfInBounds_toArray, List.set_cons_zero, List.set_cons_succ]
              refine wpAnyH_take (i := 12) (oi := ?oi209) (v := ?vi209) ?h209 (by kernel_rfl) (by kernel_rfl) (by kernel_rfl) ?q209 (Or.inl ⟨?w209, ?y209⟩) hHeld ?r209
              case h209 => first | (simp only [List.getElem?_toArray, List.getElem?_cons_zero, List.getElem?_cons_succ]; done) | (simp only [List.getElem?_toArray, List.getElem?_cons_zero, List.getElem?_cons_succ]; exact rfl)
              case q209 => exact fun _ _ _ h => h
              case w209 => rfl
              case y209 =>
                intro w hSw
                (try dsimp only at hSw)
                obtain ⟨s0, s1, s2⟩ := hSw
                go_simp
                try with_reducible rfl
              try simp only [Act.put, List.setIfInBounds_toArray, List.set_cons_zero, List.set_cons_succ]
              refine wpAnyH_take (i := 13) (oi := ?oi210) (v := ?vi210) ?h210 (by kernel_rfl) (by kernel_rfl) (by kernel_rfl) ?q210 (Or.inl ⟨?w210, ?y210⟩) hHeld ?r210
              case h210 => first | (simp only [List.getElem?_toArray, List.getElem?_cons_zero, List.getElem?_cons_succ]; done) | (simp only [List.getElem?_toArray, List.getElem?_cons_zero, List.getElem?_cons_succ]; exact rfl)
              case q210 => exact fun _ _ _ h => h
              case w210 => rfl
              case y210 =>
                intro w hSw
                (try dsimp only at hSw)
                obtain ⟨s0, s1, s2⟩ := hSw
                go_simp
                try with_reducible rfl
              try simp only [Act.put, List.setIfInBounds_toArray, List.set_cons_zero, List.set_cons_succ]
              refine wpAnyH_take (i := 14) (oi := ?oi211) (v := ?vi211) ?h211 (by kernel_rfl) (by kernel_rfl) (by kernel_rfl) ?q211 (Or.inl ⟨?w211, ?y211⟩) hHeld ?r211
              case h211 => first | (simp only [List.getElem?_toArray, List.getElem?_cons_zero, List.getElem?_cons_succ]; done) | (simp only [List.getElem?_toArray, List.getElem?_cons_zero, List.getElem?_cons_succ]; exact rfl)
              case q211 => exact fun _ _ _ h => h
              case w211 => rfl
              case y211 =>
                intro w hSw
                (try dsimp only at hSw)
                obtain ⟨s0, s1, s2⟩ := hSw
                go_simp
                try with_reducible rfl
              try simp only [Act.put, List.setIfInBounds_toArray, List.set_cons_zero, List.set_cons_succ]
              refine wpAnyH_take (i := 15) (oi := ?oi212) (v := ?vi212) ?h212 (by kernel_rfl) (by kernel_rfl) (by kernel_rfl) ?q212 (Or.inl ⟨?w212, ?y212⟩) hHeld ?r212
              case h212 => first | (simp only [List.getElem?_toArray, List.getElem?_cons_zero, List.getElem?_cons_succ]; done) | (simp only [List.getElem?_toArray, List.getElem?_cons_zero, List.getElem?_cons_succ]; exact rfl)
              case q212 => exact fun _ _ _ h => h
              case w212 => rfl
              case y212 =>
                intro w hSw
                (try dsimp only at hSw)
                obtain ⟨s0, s1, s2⟩ := hSw
                go_simp
                try with_reducible rfl
              try simp only [Act.put, List.setIfInBounds_toArray, List.set_cons_zero, List.set_cons_succ]
              refine wpAnyH_take (i := 16) (oi := ?oi213) (v := ?vi213) ?h213 (by kernel_rfl) (by kernel_rfl) (by kernel_rfl) ?q213 (Or.inl ⟨?w213, ?y213⟩) hHeld ?r213
              case h213 => first | (simp only [List.getElem?_toArray, List.getElem?_cons_zero, List.getElem?_cons_succ]; done) | (simp only [List.getElem?_toArray, List.getElem?_cons_zero, List.getElem?_cons_succ]; exact rfl)
              case q213 => exact fun _ _ _ h => h
              case w213 => rfl
              case y213 =>
                intro w hSw
                (try dsimp only at hSw)
                obtain ⟨s0, s1, s2⟩ := hSw
                go_simp
                try with_reducible rfl
              try simp only [Act.put, List.setIfInBounds_toArray, List.set_cons_zero, List.set_cons_succ]
              refine wpAnyH_take (i := 17) (oi := ?oi214) (v := ?vi214) ?h214 (by kernel_rfl) (by kernel_rfl) (by kernel_rfl) ?q214 (Or.inl ⟨?w214, ?y214⟩) hHeld ?r214
              case h214 => first | (simp only [List.getElem?_toArray, List.getElem?_cons_zero, List.getElem?_cons_succ]; done) | (simp only [List.getElem?_toArray, List.getElem?_cons_zero, List.getElem?_cons_succ]; exact rfl)
              case q214 => exact fun _ _ _ h => h
              case w214 => rfl
              case y214 =>
                intro w hSw
                (try dsimp only at hSw)
                obtain ⟨s0, s1, s2⟩ := hSw
                go_simp
                try with_reducible rfl
              try simp only [Act.put, List.setIfInBounds_toArray, List.set_cons_zero, List.set_cons_succ]
              refine wpAnyH_take (i := 18) (oi := ?oi215) (v := ?vi215) ?h215 (by kernel_rfl) (by kernel_rfl) (by kernel_rfl) ?q215 (Or.inl ⟨?w215, ?y215⟩) hHeld ?r215
              case h215 => first | (simp only [List.getElem?_toArray, List.getElem?_cons_zero, List.getElem?_cons_succ]; done) | (simp only [List.getElem?_toArray, List.getElem?_cons_zero, List.getElem?_cons_succ]; exact rfl)
              case q215 => exact fun _ _ _ h => h
              case w215 => rfl
              case y215 =>
                intro w hSw
                (try dsimp only at hSw)
                obtain ⟨s0, s1, s2⟩ := hSw
                go_simp
                try with_reducible rfl
              try simp only [Act.put, List.setIfInBounds_toArray, List.set_cons_zero, List.set_cons_succ]
              refine wpAnyH_take (i := 19) (oi := ?oi216) (v := ?vi216) ?h216 (by kernel_rfl) (by kernel_rfl) (by kernel_rfl) ?q216 (Or.inl ⟨?w216, ?y216⟩) hHeld ?r216
              case h216 => first | (simp only [List.getElem?_toArray, List.getElem?_cons_zero, List.getElem?_cons_succ]; done) | (simp only [List.getElem?_toArray, List.getElem?_cons_zero, List.getElem?_cons_succ]; exact rfl)
              case q216 => exact fun _ _ _ h => h
              case w216 => rfl
              case y216 =>
                intro w hSw
                (try dsimp only at hSw)
                obtain ⟨s0, s1, s2⟩ := hSw
                go_simp
                try with_reducible rfl
              try simp only [Act.put, List.setIfInBounds_toArray, List.set_cons_zero, List.set_cons_succ]
              refine wpAnyH_take (i := 20) (oi := ?oi217) (v := ?vi217) ?h217 (by kernel_rfl) (by kernel_rfl) (by kernel_rfl) ?q217 (Or.inl ⟨?w217, ?y217⟩) hHeld ?r217
              case h217 => first | (simp only [List.getElem?_toArray, List.getElem?_cons_zero, List.getElem?_cons_succ]; done) | (simp only [List.getElem?_toArray, List.getElem?_cons_zero, List.getElem?_cons_succ]; exact rfl)
              case q217 => exact fun _ _ _ h => h
              case w217 => rfl
              case y217 =>
                intro w hSw
                (try dsimp only at hSw)
                obtain ⟨s0, s1, s2⟩ := hSw
                go_simp
                try with_reducible rfl
              try simp only [Act.put, List.setIfInBounds_toArray, List.set_cons_zero, List.set_cons_succ]
              refine wpAnyH_ready (rs := [21]) (by kernel_rfl) (by simp) ?_
              refine AllReadyH.cons (o := ?ob218) ?hb218 (fun K hK => ?_) AllReadyH.nil
              case hb218 => first | (simp only [List.getElem?_toArray, List.getElem?_cons_zero, List.getElem?_cons_succ]; done) | (simp only [List.getElem?_toArray, List.getElem?_cons_zero, List.getElem?_cons_succ]; exact rfl)
              go_simp
              go_at_call 69
              refine (HKE.out _).mono ?_
              rintro e w2 ⟨rfl, g2⟩
              have hb2 := g2.heap (k := w.heap.size) HB1.out (fun h => h)
              have HB2 := Lib.hid hb2
              have HS2 := Lib.hid (boxP3 hb2)
              have F := Lib.hid (F1.out.then g2)
              clear g2 hb2
              go_wp2_with fail
              refine hK.out _ _ HS2.out (fun hHeld => ?_)
              clear hK K
              try simp only [Act.put, List.setIfInBounds_toArray, List.set_cons_zero, List.set_cons_succ]
              refine wpAnyH_take (i := 22) (oi := ?oi219) (v := ?vi219) ?h219 (by kernel_rfl) (by kernel_rfl) (by kernel_rfl) ?q219 (Or.inl ⟨?w219, ?y219⟩) hHeld ?r219
              case h219 => first | (simp only [List.getElem?_toArray, List.getElem?_cons_zero, List.getElem?_cons_succ]; done) | (simp only [List.getElem?_toArray, List.getElem?_cons_zero, List.getElem?_cons_succ]; exact rfl)
              case q219 => exact fun _ _ _ h => h
              case w219 => rfl
              case y219 =>
                intro w hSw
                (try dsimp only at hSw)
                obtain ⟨s0, s1, s2⟩ := hSw
                go_simp
                try with_reducible rfl
              try simp only [Act.put, List.setIfInBounds_toArray, List.set_cons_zero, List.set_cons_succ]
              refine wpAnyH_take (i := 23) (oi := ?oi220) (v := ?vi220) ?h220 (by kernel_rfl) (by kernel_rfl) (by kernel_rfl) ?q220 (Or.inl ⟨?w220, ?y220⟩) hHeld ?r220
              case h220 => first | (simp only [List.getElem?_toArray, List.getElem?_cons_zero, List.getElem?_cons_succ]; done) | (simp only [List.getElem?_toArray, List.getElem?_cons_zero, List.getElem?_cons_succ]; exact rfl)
              case q220 => exact fun _ _ _ h => h
              case w220 => rfl
              case y220 =>
                intro w hSw
                (try dsimp only at hSw)
                obtain ⟨s0, s1, s2⟩ := hSw
                go_simp
                try with_reducible rfl
              try simp only [Act.put, List.setIfInBounds_toArray, List.set_cons_zero, List.set_cons_succ]
              refine wpAnyH_done (by kernel_rfl) ?_ _
              obtain ⟨c0, c1, c2, c3, c4, c5, c6⟩ := boxP7 HB2.out
              go_wp2
              go_ret
              exact ⟨ret_bool (HFin.out _ (by simp [Q.out])).symm, F.out⟩
        · have q3 : (d != kp) = true := by simpa using hd0
          have q3b : (d == kp) = false := by simpa using hd0
          have q3c : (d = kp) = False := eq_false hd0
          have Q := Lib.hid (And.intro ha (And.intro hb (hd0)))
          clear ha hb hd0 hn
          go_enter Try.func54, Try.ntmps54
          go_wp2_with fail
          refine wp_region_held_drew (S := (fun w' => w'.cell? ⟨w.heap.size, 0, none⟩ = some (.int .i64 k) ∧ w'.cell? ⟨w.heap.size, 1, none⟩ = some (.string (B d)) ∧ w'.cell? ⟨w.heap.size, 2, none⟩ = some (.string (B p)))) (by kernel_rfl) ?_ (fun hHeld => ?_)
          · exact boxP3 ((Fp.refl Non _).drew.heap HF0.out.2 (fun h => h))
          refine wpAnyH_take (i := 0) (oi := ?oi221) (v := ?vi221) ?h221 (by kernel_rfl) (by kernel_rfl) (by kernel_rfl) ?q221 (Or.inl ⟨?w221, ?y221⟩) hHeld ?r221
          case h221 => first | (simp only [List.getElem?_toArray, List.getElem?_cons_zero]; done) | (simp only [List.getElem?_toArray, List.getElem?_cons_zero]; exact rfl)
          case q221 => exact fun _ _ _ h => h
          case w221 => rfl
          case y221 =>
            intro w hSw
            (try dsimp only at hSw)
            obtain ⟨s0, s1, s2⟩ := hSw
            go_simp
            try with_reducible rfl
          try simp only [Act.put, List.setIfInBounds_toArray, List.set_cons_zero, List.set_cons_succ]
          refine wpAnyH_take (i := 1) (oi := ?oi222) (v := ?vi222) ?h222 (by kernel_rfl) (by kernel_rfl) (by kernel_rfl) ?q222 (Or.inl ⟨?w222, ?y222⟩) hHeld ?r222
          case h222 => first | (simp only [List.getElem?_toArray, List.getElem?_cons_zero, List.getElem?_cons_succ]; done) | (simp only [List.getElem?_toArray, List.getElem?_cons_zero, List.getElem?_cons_succ]; exact rfl)
          case q222 => exact fun _ _ _ h => h
          case w222 => rfl
          case y222 =>
            intro w hSw
            (try dsimp only at hSw)
            obtain ⟨s0, s1, s2⟩ := hSw
            go_simp
            try with_reducible rfl
          try simp only [Act.put, List.setIfInBounds_toArray, List.set_cons_zero, List.set_cons_succ]
          refine wpAnyH_take (i := 2) (oi := ?oi223) (v := ?vi223) ?h223 (by kernel_rfl) (by kernel_rfl) (by kernel_rfl) ?q223 (Or.inl ⟨?w223, ?y223⟩) hHeld ?r223
          case h223 => first | (simp only [List.getElem?_toArray, List.getElem?_cons_zero, List.getElem?_cons_succ]; done) | (simp only [List.getElem?_toArray, List.getElem?_cons_zero, List.getElem?_cons_succ]; exact rfl)
          case q223 => exact fun _ _ _ h => h
          case w223 => rfl
          case y223 =>
            intro w hSw
            (try dsimp only at hSw)
            obtain ⟨s0, s1, s2⟩ := hSw
            go_simp
            try with_reducible rfl
          try simp only [Act.put, List.setIfInBounds_toArray, List.set_cons_zero, List.set_cons_succ]
          refine wpAnyH_take (i := 3) (oi := ?oi224) (v := ?vi224) ?h224 (by kernel_rfl) (by kernel_rfl) (by kernel_rfl) ?q224 (Or.inl ⟨?w224, ?y224⟩) hHeld ?r224
          case h224 => first | (simp only [List.getElem?_toArray, List.getElem?_cons_zero, List.getElem?_cons_succ]; done) | (simp only [List.getElem?_toArray, List.getElem?_cons_zero, List.getElem?_cons_succ]; exact rfl)
          case q224 => exact fun _ _ _ h => h
          case w224 => rfl
          case y224 =>
            intro w hSw
            (try dsimp only at hSw)
            obtain ⟨s0, s1, s2⟩ := hSw
            go_simp
            try with_reducible rfl
          try simp only [Act.put, List.setIfInBounds_toArray, List.set_cons_zero, List.set_cons_succ]
          refine wpAnyH_take (i := 4) (oi := ?oi225) (v := ?vi225) ?h225 (by kernel_rfl) (by kernel_rfl) (by kernel_rfl) ?q225 (Or.inl ⟨?w225, ?y225⟩) hHeld ?r225
          case h225 => first | (simp only [List.getElem?_toArray, List.getElem?_cons_zero, List.getElem?_cons_succ]; done) | (simp only [List.getElem?_toArray, List.getElem?_cons_zero, List.getElem?_cons_succ]; exact rfl)
          case q225 => exact fun _ _ _ h => h
          case w225 => rfl
          case y225 =>
            intro w hSw
            (try dsimp only at hSw)
            obtain ⟨s0, s1, s2⟩ := hSw
            go_simp
            try with_reducible rfl
          try simp only [Act.put, List.setIfInBounds_toArray, List.set_cons_zero, List.set_cons_succ]
          refine wpAnyH_take (i := 5) (oi := ?oi226) (v := ?vi226) ?h226 (by kernel_rfl) (by kernel_rfl) (by kernel_rfl) ?q226 (Or.inl ⟨?w226, ?y226⟩) hHeld ?r226
          case h226 => first | (simp only [List.getElem?_toArray, List.getElem?_cons_zero, List.getElem?_cons_succ]; done) | (simp only [List.getElem?_toArray, List.getElem?_cons_zero, List.getElem?_cons_succ]; exact rfl)
          case q226 => exact fun _ _ _ h => h
          case w226 => rfl
          case y226 =>
            intro w hSw
            (try dsimp only at hSw)
            obtain ⟨s0, s1, s2⟩ := hSw
            go_simp
            try with_reducible rfl
          try simp only [Act.put, List.setIfInBounds_toArray, List.set_cons_zero, List.set_cons_succ]
          refine wpAnyH_take (i := 6) (oi := ?oi227) (v := ?vi227) ?h227 (by kernel_rfl) (by kernel_rfl) (by kernel_rfl) ?q227 (Or.inl ⟨?w227, ?y227⟩) hHeld ?r227
          case h227 => first | (simp only [List.getElem?_toArray, List.getElem?_cons_zero, List.getElem?_cons_succ]; done) | (simp only [List.getElem?_toArray, List.getElem?_cons_zero, List.getElem?_cons_succ]; exact rfl)
          case q227 => exact fun _ _ _ h => h
          case w227 => rfl
          case y227 =>
            intro w hSw
            (try dsimp only at hSw)
            obtain ⟨s0, s1, s2⟩ := hSw
            go_simp
            try with_reducible rfl
          try simp only [Act.put, List.setIfInBounds_toArray, List.set_cons_zero, List.set_cons_succ]
          refine wpAnyH_take (i := 7) (oi := ?oi228) (v := ?vi228) ?h228 (by kernel_rfl) (by kernel_rfl) (by kernel_rfl) ?q228 (Or.inl ⟨?w228, ?y228⟩) hHeld ?r228
          case h228 => first | (simp only [List.getElem?_toArray, List.getElem?_cons_zero, List.getElem?_cons_succ]; done) | (simp only [List.getElem?_toArray, List.getElem?_cons_zero, List.getElem?_cons_succ]; exact rfl)
          case q228 => exact fun _ _ _ h => h
          case w228 => rfl
          case y228 =>
            intro w hSw
            (try dsimp only at hSw)
            obtain ⟨s0, s1, s2⟩ := hSw
            go_simp
            try with_reducible rfl
          try simp only [Act.put, List.setIfInBounds_toArray, List.set_cons_zero, List.set_cons_succ]
          refine wpAnyH_take (i := 8) (oi := ?oi229) (v := ?vi229) ?h229 (by kernel_rfl) (by kernel_rfl) (by kernel_rfl) ?q229 (Or.inl ⟨?w229, ?y229⟩) hHeld ?r229
          case h229 => first | (simp only [List.getElem?_toArray, List.getElem?_cons_zero, List.getElem?_cons_succ]; done) | (simp only [List.getElem?_toArray, List.getElem?_cons_zero, List.getElem?_cons_succ]; exact rfl)
          case q229 => exact fun _ _ _ h => h
          case w229 => rfl
          case y229 =>
            intro w hSw
            (try dsimp only at hSw)
            obtain ⟨s0, s1, s2⟩ := hSw
            go_simp
            try with_reducible rfl
          try simp only [Act.put, List.setIfInBounds_toArray, List.set_cons_zero, List.set_cons_succ]
          refine wpAnyH_take (i := 9) (oi := ?oi230) (v := ?vi230) ?h230 (by kernel_rfl) (by kernel_rfl) (by kernel_rfl) ?q230 (Or.inl ⟨?w230, ?y230⟩) hHeld ?r230
          case h230 => first | (simp only [List.getElem?_toArray, List.getElem?_cons_zero, List.getElem?_cons_succ]; done) | (simp only [List.getElem?_toArray, List.getElem?_cons_zero, List.getElem?_cons_succ]; exact rfl)
          case q230 => exact fun _ _ _ h => h
          case w230 => rfl
          case y230 =>
            intro w hSw
            (try dsimp only at hSw)
            obtain ⟨s0, s1, s2⟩ := hSw
            go_simp
            try with_reducible rfl
          try simp only [Act.put, List.setIfInBounds_toArray, List.set_cons_zero, List.set_cons_succ]
          refine wpAnyH_take (i := 10) (oi := ?oi231) (v := ?vi231) ?h231 (by kernel_rfl) (by kernel_rfl) (by kernel_rfl) ?q231 (Or.inl ⟨?w231, ?y231⟩) hHeld ?r231
          case h231 => first | (simp only [List.getElem?_toArray, List.getElem?_cons_zero, List.getElem?_cons_succ]; done) | (simp only [List.getElem?_toArray, List.getElem?_cons_zero, List.getElem?_cons_succ]; exact rfl)
          case q231 => exact fun _ _ _ h => h
          case w231 => rfl
          case y231 =>
            intro w hSw
            (try dsimp only at hSw)
            obtain ⟨s0, s1, s2⟩ := hSw
            go_simp
            try with_reducible rfl
          try simp only [Act.put, List.setIfInBounds_toArray, List.set_cons_zero, List.set_cons_succ]
          refine wpAnyH_ready (rs := [11]) (by kernel_rfl) (by simp) ?_
          refine AllReadyH.cons (o := ?ob232) ?hb232 (fun K hK => ?_) AllReadyH.nil
          case hb232 => first | (simp only [List.getElem?_toArray, List.getElem?_cons_zero, List.getElem?_cons_succ]; done) | (simp only [List.getElem?_toArray, List.getElem?_cons_zero, List.getElem?_cons_succ]; exact rfl)
          go_simp
          go_at_call 50
          refine (HR.out _).mono ?_
          rintro e w1 ⟨rfl, g1⟩
          have hb1 := g1.fp.heap (k := w.heap.size) ((Fp.refl Non _).drew.heap HF0.out.2 (fun h => h)) (fun h => h)
          have HB1 := Lib.hid hb1
          have HS1 := Lib.hid (boxP3 hb1)
          have F1 := Lib.hid (HF0.out.1.then (((Fp.refl Non _).drew).then g1.fp))
          clear g1 hb1
          go_wp2_with fail
          refine hK.out _ _ HS1.out (fun hHeld => ?_)
          clear hK K
          try simp only [Act.put, List.setIfInBounds_toArray, List.set_cons_zero, List.set_cons_succ]
          refine wpAnyH_take (i := 12) (oi := ?oi233) (v := ?vi233) ?h233 (by kernel_rfl) (by kernel_rfl) (by kernel_rfl) ?q233 (Or.inl ⟨?w233, ?y233⟩) hHeld ?r233
          case h233 => first | (simp only [List.getElem?_toArray, List.getElem?_cons_zero, List.getElem?_cons_succ]; done) | (simp only [List.getElem?_toArray, List.getElem?_cons_zero, List.getElem?_cons_succ]; exact rfl)
          case q233 => exact fun _ _ _ h => h
          case w233 => rfl
          case y233 =>
            intro w hSw
            (try dsimp only at hSw)
            obtain ⟨s0, s1, s2⟩ := hSw
            go_simp
            try with_reducible rfl
          try simp only [Act.put, List.setIfInBounds_toArray, List.set_cons_zero, List.set_cons_succ]
          refine wpAnyH_take (i := 13) (oi := ?oi234) (v := ?vi234) ?h234 (by kernel_rfl) (by kernel_rfl) (by kernel_rfl) ?q234 (Or.inl ⟨?w234, ?y234⟩) hHeld ?r234
          case h234 => first | (simp only [List.getElem?_toArray, List.getElem?_cons_zero, List.getElem?_cons_succ]; done) | (simp only [List.getElem?_toArray, List.getElem?_cons_zero, List.getElem?_cons_succ]; exact rfl)
          case q234 => exact fun _ _ _ h => h
          case w234 => rfl
          case y234 =>
            intro w hSw
            (try dsimp only at hSw)
            obtain ⟨s0, s1, s2⟩ := hSw
            go_simp
            try with_reducible rfl
          try simp only [Act.put, List.setIfInBounds_toArray, List.set_cons_zero, List.set_cons_succ]
          refine wpAnyH_take (i := 14) (oi := ?oi235) (v := ?vi235) ?h235 (by kernel_rfl) (by kernel_rfl) (by kernel_rfl) ?q235 (Or.inl ⟨?w235, ?y235⟩) hHeld ?r235
          case h235 => first | (simp only [List.getElem?_toArray, List.getElem?_cons_zero, List.getElem?_cons_succ]; done) | (simp only [List.getElem?_toArray, List.getElem?_cons_zero, List.getElem?_cons_succ]; exact rfl)
          case q235 => exact fun _ _ _ h => h
          case w235 => rfl
          case y235 =>
            intro w hSw
            (try dsimp only at hSw)
            obtain ⟨s0, s1, s2⟩ := hSw
            go_simp
            try with_reducible rfl
          try simp only [Act.put, List.setIfInBounds_toArray, List.set_cons_zero, List.set_cons_succ]
          refine wpAnyH_take (i := 15) (oi := ?oi236) (v := ?vi236) ?h236 (by kernel_rfl) (by kernel_rfl) (by kernel_rfl) ?q236 (Or.inl ⟨?w236, ?y236⟩) hHeld ?r236
          case h236 => first | (simp only [List.getElem?_toArray, List.getElem?_cons_zero, List.getElem?_cons_succ]; done) | (simp only [List.getElem?_toArray, List.getElem?_cons_zero, List.getElem?_cons_succ]; exact rfl)
          case q236 => exact fun _ _ _ h => h
          case w236 => rfl
          case y236 =>
            intro w hSw
            (try dsimp only at hSw)
            obtain ⟨s0, s1, s2⟩ := hSw
            go_simp
            try with_reducible rfl
          try simp only [Act.put, List.setIfInBounds_toArray, List.set_cons_zero, List.set_cons_succ]
          refine wpAnyH_take (i := 16) (oi := ?oi237) (v := ?vi237) ?h237 (by kernel_rfl) (by kernel_rfl) (by kernel_rfl) ?q237 (Or.inl ⟨?w237, ?y237⟩) hHeld ?r237
          case h237 => first | (simp only [List.getElem?_toArray, List.getElem?_cons_zero, List.getElem?_cons_succ]; done) | (simp only [List.getElem?_toArray, List.getElem?_cons_zero, List.getElem?_cons_succ]; exact rfl)
          case q237 => exact fun _ _ _ h => h
          case w237 => rfl
          case y237 =>
            intro w hSw
            (try dsimp only at hSw)
            obtain ⟨s0, s1, s2⟩ := hSw
            go_simp
            try with_reducible rfl
          try simp only [Act.put, List.setIfInBounds_toArray, List.set_cons_zero, List.set_cons_succ]
          refine wpAnyH_take (i := 17) (oi := ?oi238) (v := ?vi238) ?h238 (by kernel_rfl) (by kernel_rfl) (by kernel_rfl) ?q238 (Or.inl ⟨?w238, ?y238⟩) hHeld ?r238
          case h238 => first | (simp only [List.getElem?_toArray, List.getElem?_cons_zero, List.getElem?_cons_succ]; done) | (simp only [List.getElem?_toArray, List.getElem?_cons_zero, List.getElem?_cons_succ]; exact rfl)
          case q238 => exact fun _ _ _ h => h
          case w238 => rfl
          case y238 =>
            intro w hSw
            (try dsimp only at hSw)
            obtain ⟨s0, s1, s2⟩ := hSw
            go_simp
            try with_reducible rfl
          try simp only [Act.put, List.setIfInBounds_toArray, List.set_cons_zero, List.set_cons_succ]
          refine wpAnyH_take (i := 18) (oi := ?oi239) (v := ?vi239) ?h239 (by kernel_rfl) (by kernel_rfl) (by kernel_rfl) ?q239 (Or.inl ⟨?w239, ?y239⟩) hHeld ?r239
          case h239 => first | (simp only [List.getElem?_toArray, List.getElem?_cons_zero, List.getElem?_cons_succ]; done) | (simp only [List.getElem?_toArray, List.getElem?_cons_zero, List.getElem?_cons_succ]; exact rfl)
          case q239 => exact fun _ _ _ h => h
          case w239 => rfl
          case y239 =>
            intro w hSw
            (try dsimp only at hSw)
            obtain ⟨s0, s1, s2⟩ := hSw
            go_simp
            try with_reducible rfl
          try simp only [Act.put, List.setIfInBounds_toArray, List.set_cons_zero, List.set_cons_succ]
          refine wpAnyH_take (i := 19) (oi := ?oi240) (v := ?vi240) ?h240 (by kernel_rfl) (by kernel_rfl) (by kernel_rfl) ?q240 (Or.inl ⟨?w240, ?y240⟩) hHeld ?r240
          case h240 => first | (simp only [List.getElem?_toArray, List.getElem?_cons_zero, List.getElem?_cons_succ]; done) | (simp only [List.getElem?_toArray, List.getElem?_cons_zero, List.getElem?_cons_succ]; exact rfl)
          case q240 => exact fun _ _ _ h => h
          case w240 => rfl
          case y240 =>
            intro w hSw
            (try dsimp only at hSw)
            obtain ⟨s0, s1, s2⟩ := hSw
            go_simp
            try with_reducible rfl
          try simp only [Act.put, List.setIfInBounds_toArray, List.set_cons_zero, List.set_cons_succ]
          refine wpAnyH_take (i := 20) (oi := ?oi241) (v := ?vi241) ?h241 (by kernel_rfl) (by kernel_rfl) (by kernel_rfl) ?q241 (Or.inl ⟨?w241, ?y241⟩) hHeld ?r241
          case h241 => first | (simp only [List.getElem?_toArray, List.getElem?_cons_zero, List.getElem?_cons_succ]; done) | (simp only [List.getElem?_toArray, List.getElem?_cons_zero, List.getElem?_cons_succ]; exact rfl)
          case q241 => exact fun _ _ _ h => h
          case w241 => rfl
          case y241 =>
            intro w hSw
            (try dsimp only at hSw)
            obtain ⟨s0, s1, s2⟩ := hSw
            go_simp
            try with_reducible rfl
          try simp only [Act.put, List.setIfInBounds_toArray, List.set_cons_zero, List.set_cons_succ]
          refine wpAnyH_ready (rs := [21]) (by kernel_rfl) (by simp) ?_
          refine AllReadyH.cons (o := ?ob242) ?hb242 (fun K hK => ?_) AllReadyH.nil
          case hb242 => first | (simp only [List.getElem?_toArray, List.getElem?_cons_zero, List.getElem?_cons_succ]; done) | (simp only [List.getElem?_toArray, List.getElem?_cons_zero, List.getElem?_cons_succ]; exact rfl)
          go_simp
          go_at_call 69
          refine (HKE.out _).mono ?_
          rintro e w2 ⟨rfl, g2⟩
          have hb2 := g2.heap (k := w.heap.size) HB1.out (fun h => h)
          have HB2 := Lib.hid hb2
          have HS2 := Lib.hid (boxP3 hb2)
          have F := Lib.hid (F1.out.then g2)
          clear g2 hb2
          go_wp2_with fail
          refine hK.out _ _ HS2.out (fun hHeld => ?_)
          clear hK K
          try simp only [Act.put, List.setIfInBounds_toArray, List.set_cons_zero, List.set_cons_succ]
          refine wpAnyH_take (i := 22) (oi := ?oi243) (v := ?vi243) ?h243 (by kernel_rfl) (by kernel_rfl) (by kernel_rfl) ?q243 (Or.inl ⟨?w243, ?y243⟩) hHeld ?r243
          case h243 => first | (simp only [List.getElem?_toArray, List.getElem?_cons_zero, List.getElem?_cons_succ]; done) | (simp only [List.getElem?_toArray, List.getElem?_cons_zero, List.getElem?_cons_succ]; exact rfl)
          case q243 => exact fun _ _ _ h => h
          case w243 => rfl
          case y243 =>
            intro w hSw
            (try dsimp only at hSw)
            obtain ⟨s0, s1, s2⟩ := hSw
            go_simp
            try with_reducible rfl
          try simp only [Act.put, List.setIfInBounds_toArray, List.set_cons_zero, List.set_cons_succ]
          refine wpAnyH_take (i := 23) (oi := ?oi244) (v := ?vi244) ?h244 (by kernel_rfl) (by kernel_rfl) (by kernel_rfl) ?q244 (Or.inl ⟨?w244, ?y244⟩) hHeld ?r244
          case h244 => first | (simp only [List.getElem?_toArray, List.getElem?_cons_zero, List.getElem?_cons_succ]; done) | (simp only [List.getElem?_toArray, List.getElem?_cons_zero, List.getElem?_cons_succ]; exact rfl)
          case q244 => exact fun _ _ _ h => h
          case w244 => rfl
          case y244 =>
            intro w hSw
            (try dsimp only at hSw)
            obtain ⟨s0, s1, s2⟩ := hSw
            go_simp
            try with_reducible rfl
          try simp only [Act.put, List.setIfInBounds_toArray, List.set_cons_zero, List.set_cons_succ]
          refine wpAnyH_done (by kernel_rfl) ?_ _
          obtain ⟨c0, c1, c2, c3, c4, c5, c6⟩ := boxP7 HB2.out
          go_wp2
          go_ret
          exact ⟨ret_bool (HFin.out _ (by simp [Q.out])).symm, F.out⟩
    · have q2 : ((11 : Int) ≤ k) = True := eq_true (by omega)
      have Q := Lib.hid (And.intro ha (hb))
      clear ha hb hn
      go_enter Try.func54, Try.ntmps54
      go_wp2_with fail
      refine wp_region_held_drew (S := (fun w' => w'.cell? ⟨w.heap.size, 0, none⟩ = some (.int .i64 k) ∧ w'.cell? ⟨w.heap.size, 1, none⟩ = some (.string (B d)) ∧ w'.cell? ⟨w.heap.size, 2, none⟩ = some (.string (B p)))) (by kernel_rfl) ?_ (fun hHeld => ?_)
      · exact boxP3 ((Fp.refl Non _).drew.heap HF0.out.2 (fun h => h))
      refine wpAnyH_take (i := 0) (oi := ?oi269) (v := ?vi269) ?h269 (by kernel_rfl) (by kernel_rfl) (by kernel_rfl) ?q269 (Or.inl ⟨?w269, ?y269⟩) hHeld ?r269
      case h269 => first | (simp only [List.getElem?_toArray, List.getElem?_cons_zero]; done) | (simp only [List.getElem?_toArray, List.getElem?_cons_zero]; exact rfl)
      case q269 => exact fun _ _ _ h => h
      case w269 => rfl
      case y269 =>
        intro w hSw
        (try dsimp only at hSw)
        obtain ⟨s0, s1, s2⟩ := hSw
        go_simp
        try with_reducible rfl
      try simp only [Act.put, List.setIfInBounds_toArray, List.set_cons_zero, List.set_cons_succ]
      refine wpAnyH_take (i := 1) (oi := ?oi270) (v := ?vi270) ?h270 (by kernel_rfl) (by kernel_rfl) (by kernel_rfl) ?q270 (Or.inl ⟨?w270, ?y270⟩) hHeld ?r270
      case h270 => first | (simp only [List.getElem?_toArray, List.getElem?_cons_zero, List.getElem?_cons_succ]; done) | (simp only [List.getElem?_toArray, List.getElem?_cons_zero, List.getElem?_cons_succ]; exact rfl)
      case q270 => exact fun _ _ _ h => h
      case w270 => rfl
      case y270 =>
        intro w hSw
        (try dsimp only at hSw)
        obtain ⟨s0, s1, s2⟩ := hSw
        go_simp
        try with_reducible rfl
      try simp only [Act.put, List.setIfInBounds_toArray, List.set_cons_zero, List.set_cons_succ]
      refine wpAnyH_take (i := 2) (oi := ?oi271) (v := ?vi271) ?h271 (by kernel_rfl) (by kernel_rfl) (by kernel_rfl) ?q271 (Or.inl ⟨?w271, ?y271⟩) hHeld ?r271
      case h271 => first | (simp only [List.getElem?_toArray, List.getElem?_cons_zero, List.getElem?_cons_succ]; done) | (simp only [List.getElem?_toArray, List.getElem?_cons_zero, List.getElem?_cons_succ]; exact rfl)
      case q271 => exact fun _ _ _ h => h
      case w271 => rfl
      case y271 =>
        intro w hSw
        (try dsimp only at hSw)
        obtain ⟨s0, s1, s2⟩ := hSw
        go_simp
        try with_reducible rfl
      try simp only [Act.put, List.setIfInBounds_toArray, List.set_cons_zero, List.set_cons_succ]
      refine wpAnyH_take (i := 3) (oi := ?oi272) (v := ?vi272) ?h272 (by kernel_rfl) (by kernel_rfl) (by kernel_rfl) ?q272 (Or.inl ⟨?w272, ?y272⟩) hHeld ?r272
      case h272 => first | (simp only [List.getElem?_toArray, List.getElem?_cons_zero, List.getElem?_cons_succ]; done) | (simp only [List.getElem?_toArray, List.getElem?_cons_zero, List.getElem?_cons_succ]; exact rfl)
      case q272 => exact fun _ _ _ h => h
      case w272 => rfl
      case y272 =>
        intro w hSw
        (try dsimp only at hSw)
        obtain ⟨s0, s1, s2⟩ := hSw
        go_simp
        try with_reducible rfl
      try simp only [Act.put, List.setIfInBounds_toArray, List.set_cons_zero, List.set_cons_succ]
      refine wpAnyH_take (i := 4) (oi := ?oi273) (v := ?vi273) ?h273 (by kernel_rfl) (by kernel_rfl) (by kernel_rfl) ?q273 (Or.inl ⟨?w273, ?y273⟩) hHeld ?r273
      case h273 => first | (simp only [List.getElem?_toArray, List.getElem?_cons_zero, List.getElem?_cons_succ]; done) | (simp only [List.getElem?_toArray, List.getElem?_cons_zero, List.getElem?_cons_succ]; exact rfl)
      case q273 => exact fun _ _ _ h => h
      case w273 => rfl
      case y273 =>
        intro w hSw
        (try dsimp only at hSw)
        obtain ⟨s0, s1, s2⟩ := hSw
        go_simp
        try with_reducible rfl
      try simp only [Act.put, List.setIfInBounds_toArray, List.set_cons_zero, List.set_cons_succ]
      refine wpAnyH_take (i := 5) (oi := ?oi274) (v := ?vi274) ?h274 (by kernel_rfl) (by kernel_rfl) (by kernel_rfl) ?q274 (Or.inl ⟨?w274, ?y274⟩) hHeld ?r274
      case h274 => first | (simp only [List.getElem?_toArray, List.getElem?_cons_zero, List.getElem?_cons_succ]; done) | (simp only [List.getElem?_toArray, List.getElem?_cons_zero, List.getElem?_cons_succ]; exact rfl)
      case q274 => exact fun _ _ _ h => h
      case w274 => rfl
      case y274 =>
        intro w hSw
        (try dsimp only at hSw)
        obtain ⟨s0, s1, s2⟩ := hSw
        go_simp
        try with_reducible rfl
      try simp only [Act.put, List.setIfInBounds_toArray, List.set_cons_zero, List.set_cons_succ]
      refine wpAnyH_take (i := 6) (oi := ?oi275) (v := ?vi275) ?h275 (by kernel_rfl) (by kernel_rfl) (by kernel_rfl) ?q275 (Or.inl ⟨?w275, ?y275⟩) hHeld ?r275
      case h275 => first | (simp only [List.getElem?_toArray, List.getElem?_cons_zero, List.getElem?_cons_succ]; done) | (simp only [List.getElem?_toArray, List.getElem?_cons_zero, List.getElem?_cons_succ]; exact rfl)
      case q275 => exact fun _ _ _ h => h
      case w275 => rfl
      case y275 =>
        intro w hSw
        (try dsimp only at hSw)
        obtain ⟨s0, s1, s2⟩ := hSw
        go_simp
        try with_reducible rfl
      try simp only [Act.put, List.setIfInBounds_toArray, List.set_cons_zero, List.set_cons_succ]
      refine wpAnyH_take (i := 7) (oi := ?oi276) (v := ?vi276) ?h276 (by kernel_rfl) (by kernel_rfl) (by kernel_rfl) ?q276 (Or.inl ⟨?w276, ?y276⟩) hHeld ?r276
      case h276 => first | (simp only [List.getElem?_toArray, List.getElem?_cons_zero, List.getElem?_cons_succ]; done) | (simp only [List.getElem?_toArray, List.getElem?_cons_zero, List.getElem?_cons_succ]; exact rfl)
      case q276 => exact fun _ _ _ h => h
      case w276 => rfl
      case y276 =>
        intro w hSw
        (try dsimp only at hSw)
        obtain ⟨s0, s1, s2⟩ := hSw
        go_simp
        try with_reducible rfl
      try simp only [Act.put, List.setIfInBounds_toArray, List.set_cons_zero, List.set_cons_succ]
      refine wpAnyH_take (i := 8) (oi := ?oi277) (v := ?vi277) ?h277 (by kernel_rfl) (by kernel_rfl) (by kernel_rfl) ?q277 (Or.inl ⟨?w277, ?y277⟩) hHeld ?r277
      case h277 => first | (simp only [List.getElem?_toArray, List.getElem?_cons_zero, List.getElem?_cons_succ]; done) | (simp only [List.getElem?_toArray, List.getElem?_cons_zero, List.getElem?_cons_succ]; exact rfl)
      case q277 => exact fun _ _ _ h => h
      case w277 => rfl
      case y277 =>
        intro w hSw
        (try dsimp only at hSw)
        obtain ⟨s0, s1, s2⟩ := hSw
        go_simp
        try with_reducible rfl
      try simp only [Act.put, List.setIfInBounds_toArray, List.set_cons_zero, List.set_cons_succ]
      refine wpAnyH_take (i := 9) (oi := ?oi278) (v := undef) ?h278 (by kernel_rfl) (by kernel_rfl) (by kernel_rfl) ?q278 (Or.inr ⟨?w278, rfl⟩) hHeld ?r278
      case h278 => first | (simp only [List.getElem?_toArray, List.getElem?_cons_zero, List.getElem?_cons_succ]; done) | (simp only [List.getElem?_toArray, List.getElem?_cons_zero, List.getElem?_cons_succ]; exact rfl)
      case q278 => exact fun _ _ _ h => h
      case w278 => rfl
      try simp only [Act.put, List.setIfInBounds_toArray, List.set_cons_zero, List.set_cons_succ]
      refine wpAnyH_take (i := 10) (oi := ?oi279) (v := undef) ?h279 (by kernel_rfl) (by kernel_rfl) (by kernel_rfl) ?q279 (Or.inr ⟨?w279, rfl⟩) hHeld ?r279
      case h279 => first | (simp only [List.getElem?_toArray, List.getElem?_cons_zero, List.getElem?_cons_succ]; done) | (simp only [List.getElem?_toArray, List.getElem?_cons_zero, List.getElem?_cons_succ]; exact rfl)
      case q279 => exact fun _ _ _ h => h
      case w279 => rfl
      try simp only [Act.put, List.setIfInBounds_toArray, List.set_cons_zero, List.set_cons_succ]
      refine wpAnyH_take (i := 11) (oi := ?oi280) (v := undef) ?h280 (by kernel_rfl) (by kernel_rfl) (by kernel_rfl) ?q280 (Or.inr ⟨?w280, rfl⟩) hHeld ?r280
      case h280 => first | (simp only [List.getElem?_toArray, List.getElem?_cons_zero, List.getElem?_cons_succ]; done) | (simp only [List.getElem?_toArray, List.getElem?_cons_zero, List.getElem?_cons_succ]; exact rfl)
      case q280 => exact fun _ _ _ h => h
      case w280 => rfl
      try simp only [Act.put, List.setIfInBounds_toArray, List.set_cons_zero, List.set_cons_succ]
      refine wpAnyH_take (i := 12) (oi := ?oi281) (v := undef) ?h281 (by kernel_rfl) (by kernel_rfl) (by kernel_rfl) ?q281 (Or.inr ⟨?w281, rfl⟩) hHeld ?r281
      case h281 => first | (simp only [List.getElem?_toArray, List.getElem?_cons_zero, List.getElem?_cons_succ]; done) | (simp only [List.getElem?_toArray, List.getElem?_cons_zero, List.getElem?_cons_succ]; exact rfl)
      case q281 => exact fun _ _ _ h => h
      case w281 => rfl
      try simp only [Act.put, List.setIfInBounds_toArray, List.set_cons_zero, List.set_cons_succ]
      refine wpAnyH_take (i := 13) (oi := ?oi282) (v := ?vi282) ?h282 (by kernel_rfl) (by kernel_rfl) (by kernel_rfl) ?q282 (Or.inl ⟨?w282, ?y282⟩) hHeld ?r282
      case h282 => first | (simp only [List.getElem?_toArray, List.getElem?_cons_zero, List.getElem?_cons_succ]; done) | (simp only [List.getElem?_toArray, List.getElem?_cons_zero, List.getElem?_cons_succ]; exact rfl)
      case q282 => exact fun _ _ _ h => h
      case w282 => rfl
      case y282 =>
        intro w hSw
        (try dsimp only at hSw)
        obtain ⟨s0, s1, s2⟩ := hSw
        go_simp
        try with_reducible rfl
      try simp only [Act.put, List.setIfInBounds_toArray, List.set_cons_zero, List.set_cons_succ]
      refine wpAnyH_take (i := 14) (oi := ?oi283) (v := ?vi283) ?h283 (by kernel_rfl) (by kernel_rfl) (by kernel_rfl) ?q283 (Or.inl ⟨?w283, ?y283⟩) hHeld ?r283
      case h283 => first | (simp only [List.getElem?_toArray, List.getElem?_cons_zero, List.getElem?_cons_succ]; done) | (simp only [List.getElem?_toArray, List.getElem?_cons_zero, List.getElem?_cons_succ]; exact rfl)
      case q283 => exact fun _ _ _ h => h
      case w283 => rfl
      case y283 =>
        intro w hSw
        (try dsimp only at hSw)
        obtain ⟨s0, s1, s2⟩ := hSw
        go_simp
        try with_reducible rfl
      try simp only [Act.put, List.setIfInBounds_toArray, List.set_cons_zero, List.set_cons_succ]
      refine wpAnyH_take (i := 15) (oi := ?oi284) (v := undef) ?h284 (by kernel_rfl) (by kernel_rfl) (by kernel_rfl) ?q284 (Or.inr ⟨?w284, rfl⟩) hHeld ?r284
      case h284 => first | (simp only [List.getElem?_toArray, List.getElem?_cons_zero, List.getElem?_cons_succ]; done) | (simp only [List.getElem?_toArray, List.getElem?_cons_zero, List.getElem?_cons_succ]; exact rfl)
      case q284 => exact fun _ _ _ h => h
      case w284 => rfl
      try simp only [Act.put, List.setIfInBounds_toArray, List.set_cons_zero, List.set_cons_succ]
      refine wpAnyH_take (i := 16) (oi := ?oi285) (v := undef) ?h285 (by kernel_rfl) (by kernel_rfl) (by kernel_rfl) ?q285 (Or.inr ⟨?w285, rfl⟩) hHeld ?r285
      case h285 => first | (simp only [List.getElem?_toArray, List.getElem?_cons_zero, List.getElem?_cons_succ]; done) | (simp only [List.getElem?_toArray, List.getElem?_cons_zero, List.getElem?_cons_succ]; exact rfl)
      case q285 => exact fun _ _ _ h => h
      case w285 => rfl
      try simp only [Act.put, List.setIfInBounds_toArray, List.set_cons_zero, List.set_cons_succ]
      refine wpAnyH_take (i := 17) (oi := ?oi286) (v := undef) ?h286 (by kernel_rfl) (by kernel_rfl) (by kernel_rfl) ?q286 (Or.inr ⟨?w286, rfl⟩) hHeld ?r286
      case h286 => first | (simp only [List.getElem?_toArray, List.getElem?_cons_zero, List.getElem?_cons_succ]; done) | (simp only [List.getElem?_toArray, List.getElem?_cons_zero, List.getElem?_cons_succ]; exact rfl)
      case q286 => exact fun _ _ _ h => h
      case w286 => rfl
      try simp only [Act.put, List.setIfInBounds_toArray, List.set_cons_zero, List.set_cons_succ]
      refine wpAnyH_take (i := 18) (oi := ?oi287) (v := undef) ?h287 (by kernel_rfl) (by kernel_rfl) (by kernel_rfl) ?q287 (Or.inr ⟨?w287, rfl⟩) hHeld ?r287
      case h287 => first | (simp only [List.getElem?_toArray, List.getElem?_cons_zero, List.getElem?_cons_succ]; done) | (simp only [List.getElem?_toArray, List.getElem?_cons_zero, List.getElem?_cons_succ]; exact rfl)
      case q287 => exact fun _ _ _ h => h
      case w287 => rfl
      try simp only [Act.put, List.setIfInBounds_toArray, List.set_cons_zero, List.set_cons_succ]
      refine wpAnyH_take (i := 19) (oi := ?oi288) (v := undef) ?h288 (by kernel_rfl) (by kernel_rfl) (by kernel_rfl) ?q288 (Or.inr ⟨?w288, rfl⟩) hHeld ?r288
      case h288 => first | (simp only [List.getElem?_toArray, List.getElem?_cons_zero, List.getElem?_cons_succ]; done) | (simp only [List.getElem?_toArray, List.getElem?_cons_zero, List.getElem?_cons_succ]; exact rfl)
      case q288 => exact fun _ _ _ h => h
      case w288 => rfl
      try simp only [Act.put, List.setIfInBounds_toArray, List.set_cons_zero, List.set_cons_succ]
      refine wpAnyH_take (i := 20) (oi := ?oi289) (v := undef) ?h289 (by kernel_rfl) (by kernel_rfl) (by kernel_rfl) ?q289 (Or.inr ⟨?w289, rfl⟩) hHeld ?r289
      case h289 => first | (simp only [List.getElem?_toArray, List.getElem?_cons_zero, List.getElem?_cons_succ]; done) | (simp only [List.getElem?_toArray, List.getElem?_cons_zero, List.getElem?_cons_succ]; exact rfl)
      case q289 => exact fun _ _ _ h => h
      case w289 => rfl
      try simp only [Act.put, List.setIfInBounds_toArray, List.set_cons_zero, List.set_cons_succ]
      refine wpAnyH_take (i := 21) (oi := ?oi290) (v := undef) ?h290 (by kernel_rfl) (by kernel_rfl) (by kernel_rfl) ?q290 (Or.inr ⟨?w290, rfl⟩) hHeld ?r290
      case h290 => first | (simp only [List.getElem?_toArray, List.getElem?_cons_zero, List.getElem?_cons_succ]; done) | (simp only [List.getElem?_toArray, List.getElem?_cons_zero, List.getElem?_cons_succ]; exact rfl)
      case q290 => exact fun _ _ _ h => h
      case w290 => rfl
      try simp only [Act.put, List.setIfInBounds_toArray, List.set_cons_zero, List.set_cons_succ]
      refine wpAnyH_take (i := 22) (oi := ?oi291) (v := undef) ?h291 (by kernel_rfl) (by kernel_rfl) (by kernel_rfl) ?q291 (Or.inr ⟨?w291, rfl⟩) hHeld ?r291
      case h291 => first | (simp only [List.getElem?_toArray, List.getElem?_cons_zero, List.getElem?_cons_succ]; done) | (simp only [List.getElem?_toArray, List.getElem?_cons_zero, List.getElem?_cons_succ]; exact rfl)
      case q291 => exact fun _ _ _ h => h
      case w291 => rfl
      try simp only [Act.put, List.setIfInBounds_toArray, List.set_cons_zero, List.set_cons_succ]
      refine wpAnyH_take (i := 23) (oi := ?oi292) (v := ?vi292) ?h292 (by kernel_rfl) (by kernel_rfl) (by kernel_rfl) ?q292 (Or.inl ⟨?w292, ?y292⟩) hHeld ?r292
      case h292 => first | (simp only [List.getElem?_toArray, List.getElem?_cons_zero, List.getElem?_cons_succ]; done) | (simp only [List.getElem?_toArray, List.getElem?_cons_zero, List.getElem?_cons_succ]; exact rfl)
      case q292 => exact fun _ _ _ h => h
      case w292 => rfl
      case y292 =>
        intro w hSw
        (try dsimp only at hSw)
        obtain ⟨s0, s1, s2⟩ := hSw
        go_simp
        try with_reducible rfl
      try simp only [Act.put, List.setIfInBounds_toArray, List.set_cons_zero, List.set_cons_succ]
      refine wpAnyH_done (by kernel_rfl) ?_ _
      go_wp2
      go_ret
      exact ⟨ret_bool (HFin.out _ (by have h := Q.out; have e : (decide (1 ≤ k) && decide (k ≤ 10)) = false := (by rw [Bool.and_eq_false_iff, decide_eq_false_iff_not, decide_eq_false_iff_not]; omega); rw [e]; rfl)).symm, HF0.out.1.then (Fp.refl Non _).drew⟩
  · have q1 : (k < (1 : Int)) = True := eq_true (by omega)
    have Q := Lib.hid (ha)
    clear ha hn
    go_enter Try.func54, Try.ntmps54
    go_wp2_with fail
    refine wp_region_held_drew (S := (fun w' => w'.cell? ⟨w.heap.size, 0, none⟩ = some (.int .i64 k) ∧ w'.cell? ⟨w.heap.size, 1, none⟩ = some (.string (B d)) ∧ w'.cell? ⟨w.heap.size, 2, none⟩ = some (.string (B p)))) (by kernel_rfl) ?_ (fun hHeld => ?_)
    · exact boxP3 ((Fp.refl Non _).drew.heap HF0.out.2 (fun h => h))
    refine wpAnyH_take (i := 0) (oi := ?oi293) (v := ?vi293) ?h293 (by kernel_rfl) (by kernel_rfl) (by kernel_rfl) ?q293 (Or.inl ⟨?w293, ?y293⟩) hHeld ?r293
    case h293 => first | (simp only [List.getElem?_toArray, List.getElem?_cons_zero]; done) | (simp only [List.getElem?_toArray, List.getElem?_cons_zero]; exact rfl)
    case q293 => exact fun _ _ _ h => h
    case w293 => rfl
    case y293 =>
      intro w hSw
      (try dsimp only at hSw)
      obtain ⟨s0, s1, s2⟩ := hSw
      go_simp
      try with_reducible rfl
    try simp only [Act.put, List.setIfInBounds_toArray, List.set_cons_zero, List.set_cons_succ]
    refine wpAnyH_take (i := 1) (oi := ?oi294) (v := ?vi294) ?h294 (by kernel_rfl) (by kernel_rfl) (by kernel_rfl) ?q294 (Or.inl ⟨?w294, ?y294⟩) hHeld ?r294
    case h294 => first | (simp only [List.getElem?_toArray, List.getElem?_cons_zero, List.getElem?_cons_succ]; done) | (simp only [List.getElem?_toArray, List.getElem?_cons_zero, List.getElem?_cons_succ]; exact rfl)
    case q294 => exact fun _ _ _ h => h
    case w294 => rfl
    case y294 =>
      intro w hSw
      (try dsimp only at hSw)
      obtain ⟨s0, s1, s2⟩ := hSw
      go_simp
      try with_reducible rfl
    try simp only [Act.put, List.setIfInBounds_toArray, List.set_cons_zero, List.set_cons_succ]
    refine wpAnyH_take (i := 2) (oi := ?oi295) (v := ?vi295) ?h295 (by kernel_rfl) (by kernel_rfl) (by kernel_rfl) ?q295 (Or.inl ⟨?w295, ?y295⟩) hHeld ?r295
    case h295 => first | (simp only [List.getElem?_toArray, List.getElem?_cons_zero, List.getElem?_cons_succ]; done) | (simp only [List.getElem?_toArray, List.getElem?_cons_zero, List.getElem?_cons_succ]; exact rfl)
    case q295 => exact fun _ _ _ h => h
    case w295 => rfl
    case y295 =>
      intro w hSw
      (try dsimp only at hSw)
      obtain ⟨s0, s1, s2⟩ := hSw
      go_simp
      try with_reducible rfl
    try simp only [Act.put, List.setIfInBounds_toArray, List.set_cons_zero, List.set_cons_succ]
    refine wpAnyH_take (i := 3) (oi := ?oi296) (v := ?vi296) ?h296 (by kernel_rfl) (by kernel_rfl) (by kernel_rfl) ?q296 (Or.inl ⟨?w296, ?y296⟩) hHeld ?r296
    case h296 => first | (simp only [List.getElem?_toArray, List.getElem?_cons_zero, List.getElem?_cons_succ]; done) | (simp only [List.getElem?_toArray, List.getElem?_cons_zero, List.getElem?_cons_succ]; exact rfl)
    case q296 => exact fun _ _ _ h => h
    case w296 => rfl
    case y296 =>
      intro w hSw
      (try dsimp only at hSw)
      obtain ⟨s0, s1, s2⟩ := hSw
      go_simp
      try with_reducible rfl
    try simp only [Act.put, List.setIfInBounds_toArray, List.set_cons_zero, List.set_cons_succ]
    refine wpAnyH_take (i := 4) (oi := ?oi297) (v := undef) ?h297 (by kernel_rfl) (by kernel_rfl) (by kernel_rfl) ?q297 (Or.inr ⟨?w297, rfl⟩) hHeld ?r297
    case h297 => first | (simp only [List.getElem?_toArray, List.getElem?_cons_zero, List.getElem?_cons_succ]; done) | (simp only [List.getElem?_toArray, List.getElem?_cons_zero, List.getElem?_cons_succ]; exact rfl)
    case q297 => exact fun _ _ _ h => h
    case w297 => rfl
    try simp only [Act.put, List.setIfInBounds_toArray, List.set_cons_zero, List.set_cons_succ]
    refine wpAnyH_take (i := 5) (oi := ?oi298) (v := undef) ?h298 (by kernel_rfl) (by kernel_rfl) (by kernel_rfl) ?q298 (Or.inr ⟨?w298, rfl⟩) hHeld ?r298
    case h298 => first | (simp only [List.getElem?_toArray, List.getElem?_cons_zero, List.getElem?_cons_succ]; done) | (simp only [List.getElem?_toArray, List.getElem?_cons_zero, List.getElem?_cons_succ]; exact rfl)
    case q298 => exact fun _ _ _ h => h
    case w298 => rfl
    try simp only [Act.put, List.setIfInBounds_toArray, List.set_cons_zero, List.set_cons_succ]
    refine wpAnyH_take (i := 6) (oi := ?oi299) (v := undef) ?h299 (by kernel_rfl) (by kernel_rfl) (by kernel_rfl) ?q299 (Or.inr ⟨?w299, rfl⟩) hHeld ?r299
    case h299 => first | (simp only [List.getElem?_toArray, List.getElem?_cons_zero, List.getElem?_cons_succ]; done) | (simp only [List.getElem?_toArray, List.getElem?_cons_zero, List.getElem?_cons_succ]; exact rfl)
    case q299 => exact fun _ _ _ h => h
    case w299 => rfl
    try simp only [Act.put, List.setIfInBounds_toArray, List.set_cons_zero, List.set_cons_succ]
    refine wpAnyH_take (i := 7) (oi := ?oi300) (v := ?vi300) ?h300 (by kernel_rfl) (by kernel_rfl) (by kernel_rfl) ?q300 (Or.inl ⟨?w300, ?y300⟩) hHeld ?r300
    case h300 => first | (simp only [List.getElem?_toArray, List.getElem?_cons_zero, List.getElem?_cons_succ]; done) | (simp only [List.getElem?_toArray, List.getElem?_cons_zero, List.getElem?_cons_succ]; exact rfl)
    case q300 => exact fun _ _ _ h => h
    case w300 => rfl
    case y300 =>
      intro w hSw
      (try dsimp only at hSw)
      obtain ⟨s0, s1, s2⟩ := hSw
      go_simp
      try with_reducible rfl
    try simp only [Act.put, List.setIfInBounds_toArray, List.set_cons_zero, List.set_cons_succ]
    refine wpAnyH_take (i := 8) (oi := ?oi301) (v := ?vi301) ?h301 (by kernel_rfl) (by kernel_rfl) (by kernel_rfl) ?q301 (Or.inl ⟨?w301, ?y301⟩) hHeld ?r301
    case h301 => first | (simp only [List.getElem?_toArray, List.getElem?_cons_zero, List.getElem?_cons_succ]; done) | (simp only [List.getElem?_toArray, List.getElem?_cons_zero, List.getElem?_cons_succ]; exact rfl)
    case q301 => exact fun _ _ _ h => h
    case w301 => rfl
    case y301 =>
      intro w hSw
      (try dsimp only at hSw)
      obtain ⟨s0, s1, s2⟩ := hSw
      go_simp
      try with_reducible rfl
    try simp only [Act.put, List.setIfInBounds_toArray, List.set_cons_zero, List.set_cons_succ]
    refine wpAnyH_take (i := 9) (oi := ?oi302) (v := undef) ?h302 (by kernel_rfl) (by kernel_rfl) (by kernel_rfl) ?q302 (Or.inr ⟨?w302, rfl⟩) hHeld ?r302
    case h302 => first | (simp only [List.getElem?_toArray, List.getElem?_cons_zero, List.getElem?_cons_succ]; done) | (simp only [List.getElem?_toArray, List.getElem?_cons_zero, List.getElem?_cons_succ]; exact rfl)
    case q302 => exact fun _ _ _ h => h
    case w302 => rfl
    try simp only [Act.put, List.setIfInBounds_toArray, List.set_cons_zero, List.set_cons_succ]
    refine wpAnyH_take (i := 10) (oi := ?oi303) (v := undef) ?h303 (by kernel_rfl) (by kernel_rfl) (by kernel_rfl) ?q303 (Or.inr ⟨?w303, rfl⟩) hHeld ?r303
    case h303 => first | (simp only [List.getElem?_toArray, List.getElem?_cons_zero, List.getElem?_cons_succ]; done) | (simp only [List.getElem?_toArray, List.getElem?_cons_zero, List.getElem?_cons_succ]; exact rfl)
    case q303 => exact fun _ _ _ h => h
    case w303 => rfl
    try simp only [Act.put, List.setIfInBounds_toArray, List.set_cons_zero, List.set_cons_succ]
    refine wpAnyH_take (i := 11) (oi := ?oi304) (v := undef) ?h304 (by kernel_rfl) (by kernel_rfl) (by kernel_rfl) ?q304 (Or.inr ⟨?w304, rfl⟩) hHeld ?r304
    case h304 => first | (simp only [List.getElem?_toArray, List.getElem?_cons_zero, List.getElem?_cons_succ]; done) | (simp only [List.getElem?_toArray, List.getElem?_cons_zero, List.getElem?_cons_succ]; exact rfl)
    case q304 => exact fun _ _ _ h => h
    case w304 => rfl
    try simp only [Act.put, List.setIfInBounds_toArray, List.set_cons_zero, List.set_cons_succ]
    refine wpAnyH_take (i := 12) (oi := ?oi305) (v := undef) ?h305 (by kernel_rfl) (by kernel_rfl) (by kernel_rfl) ?q305 (Or.inr ⟨?w305, rfl⟩) hHeld ?r305
    case h305 => first | (simp only [List.getElem?_toArray, List.getElem?_cons_zero, List.getElem?_cons_succ]; done) | (simp only [List.getElem?_toArray, List.getElem?_cons_zero, List.getElem?_cons_succ]; exact rfl)
    case q305 => exact fun _ _ _ h => h
    case w305 => rfl
    try simp only [Act.put, List.setIfInBounds_toArray, List.set_cons_zero, List.set_cons_succ]
    refine wpAnyH_take (i := 13) (oi := ?oi306) (v := ?vi306) ?h306 (by kernel_rfl) (by kernel_rfl) (by kernel_rfl) ?q306 (Or.inl ⟨?w306, ?y306⟩) hHeld ?r306
    case h306 => first | (simp only [List.getElem?_toArray, List.getElem?_cons_zero, List.getElem?_cons_succ]; done) | (simp only [List.getElem?_toArray, List.getElem?_cons_zero, List.getElem?_cons_succ]; exact rfl)
    case q306 => exact fun _ _ _ h => h
    case w306 => rfl
    case y306 =>
      intro w hSw
      (try dsimp only at hSw)
      obtain ⟨s0, s1, s2⟩ := hSw
      go_simp
      try with_reducible rfl
    try simp only [Act.put, List.setIfInBounds_toArray, List.set_cons_zero, List.set_cons_succ]
    refine wpAnyH_take (i := 14) (oi := ?oi307) (v := ?vi307) ?h307 (by kernel_rfl) (by kernel_rfl) (by kernel_rfl) ?q307 (Or.inl ⟨?w307, ?y307⟩) hHeld ?r307
    case h307 => first | (simp only [List.getElem?_toArray, List.getElem?_cons_zero, List.getElem?_cons_succ]; done) | (simp only [List.getElem?_toArray, List.getElem?_cons_zero, List.getElem?_cons_succ]; exact rfl)
    case q307 => exact fun _ _ _ h => h
    case w307 => rfl
    case y307 =>
      intro w hSw
      (try dsimp only at hSw)
      obtain ⟨s0, s1, s2⟩ := hSw
      go_simp
      try with_reducible rfl
    try simp only [Act.put, List.setIfInBounds_toArray, List.set_cons_zero, List.set_cons_succ]
    refine wpAnyH_take (i := 15) (oi := ?oi308) (v := undef) ?h308 (by kernel_rfl) (by kernel_rfl) (by kernel_rfl) ?q308 (Or.inr ⟨?w308, rfl⟩) hHeld ?r308
    case h308 => first | (simp only [List.getElem?_toArray, List.getElem?_cons_zero, List.getElem?_cons_succ]; done) | (simp only [List.getElem?_toArray, List.getElem?_cons_zero, List.getElem?_cons_succ]; exact rfl)
    case q308 => exact fun _ _ _ h => h
    case w308 => rfl
    try simp only [Act.put, List.setIfInBounds_toArray, List.set_cons_zero, List.set_cons_succ]
    refine wpAnyH_take (i := 16) (oi := ?oi309) (v := undef) ?h309 (by kernel_rfl) (by kernel_rfl) (by kernel_rfl) ?q309 (Or.inr ⟨?w309, rfl⟩) hHeld ?r309
    case h309 => first | (simp only [List.getElem?_toArray, List.getElem?_cons_zero, List.getElem?_cons_succ]; done) | (simp only [List.getElem?_toArray, List.getElem?_cons_zero, List.getElem?_cons_succ]; exact rfl)
    case q309 => exact fun _ _ _ h => h
    case w309 => rfl
    try simp only [Act.put, List.setIfInBounds_toArray, List.set_cons_zero, List.set_cons_succ]
    refine wpAnyH_take (i := 17) (oi := ?oi310) (v := undef) ?h310 (by kernel_rfl) (by kernel_rfl) (by kernel_rfl) ?q310 (Or.inr ⟨?w310, rfl⟩) hHeld ?r310
    case h310 => first | (simp only [List.getElem?_toArray, List.getElem?_cons_zero, List.getElem?_cons_succ]; done) | (simp only [List.getElem?_toArray, List.getElem?_cons_zero, List.getElem?_cons_succ]; exact rfl)
    case q310 => exact fun _ _ _ h => h
    case w310 => rfl
    try simp only [Act.put, List.setIfInBounds_toArray, List.set_cons_zero, List.set_cons_succ]
    refine wpAnyH_take (i := 18) (oi := ?oi311) (v := undef) ?h311 (by kernel_rfl) (by kernel_rfl) (by kernel_rfl) ?q311 (Or.inr ⟨?w311, rfl⟩) hHeld ?r311
    case h311 => first | (simp only [List.getElem?_toArray, List.getElem?_cons_zero, List.getElem?_cons_succ]; done) | (simp only [List.getElem?_toArray, List.getElem?_cons_zero, List.getElem?_cons_succ]; exact rfl)
    case q311 => exact fun _ _ _ h => h
    case w311 => rfl
    try simp only [Act.put, List.setIfInBounds_toArray, List.set_cons_zero, List.set_cons_succ]
    refine wpAnyH_take (i := 19) (oi := ?oi312) (v := undef) ?h312 (by kernel_rfl) (by kernel_rfl) (by kernel_rfl) ?q312 (Or.inr ⟨?w312, rfl⟩) hHeld ?r312
    case h312 => first | (simp only [List.getElem?_toArray, List.getElem?_cons_zero, List.getElem?_cons_succ]; done) | (simp only [List.getElem?_toArray, List.getElem?_cons_zero, List.getElem?_cons_succ]; exact rfl)
    case q312 => exact fun _ _ _ h => h
    case w312 => rfl
    try simp only [Act.put, List.setIfInBounds_toArray, List.set_cons_zero, List.set_cons_succ]
    refine wpAnyH_take (i := 20) (oi := ?oi313) (v := undef) ?h313 (by kernel_rfl) (by kernel_rfl) (by kernel_rfl) ?q313 (Or.inr ⟨?w313, rfl⟩) hHeld ?r313
    case h313 => first | (simp only [List.getElem?_toArray, List.getElem?_cons_zero, List.getElem?_cons_succ]; done) | (simp only [List.getElem?_toArray, List.getElem?_cons_zero, List.getElem?_cons_succ]; exact rfl)
    case q313 => exact fun _ _ _ h => h
    case w313 => rfl
    try simp only [Act.put, List.setIfInBounds_toArray, List.set_cons_zero, List.set_cons_succ]
    refine wpAnyH_take (i := 21) (oi := ?oi314) (v := undef) ?h314 (by kernel_rfl) (by kernel_rfl) (by kernel_rfl) ?q314 (Or.inr ⟨?w314, rfl⟩) hHeld ?r314
    case h314 => first | (simp only [List.getElem?_toArray, List.getElem?_cons_zero, List.getElem?_cons_succ]; done) | (simp only [List.getElem?_toArray, List.getElem?_cons_zero, List.getElem?_cons_succ]; exact rfl)
    case q314 => exact fun _ _ _ h => h
    case w314 => rfl
    try simp only [Act.put, List.setIfInBounds_toArray, List.set_cons_zero, List.set_cons_succ]
    refine wpAnyH_take (i := 22) (oi := ?oi315) (v := undef) ?h315 (by kernel_rfl) (by kernel_rfl) (by kernel_rfl) ?q315 (Or.inr ⟨?w315, rfl⟩) hHeld ?r315
    case h315 => first | (simp only [List.getElem?_toArray, List.getElem?_cons_zero, List.getElem?_cons_succ]; done) | (simp only [List.getElem?_toArray, List.getElem?_cons_zero, List.getElem?_cons_succ]; exact rfl)
    case q315 => exact fun _ _ _ h => h
    case w315 => rfl
    try simp only [Act.put, List.setIfInBounds_toArray, List.set_cons_zero, List.set_cons_succ]
    refine wpAnyH_take (i := 23) (oi := ?oi316) (v := ?vi316) ?h316 (by kernel_rfl) (by kernel_rfl) (by kernel_rfl) ?q316 (Or.inl ⟨?w316, ?y316⟩) hHeld ?r316
    case h316 => first | (simp only [List.getElem?_toArray, List.getElem?_cons_zero, List.getElem?_cons_succ]; done) | (simp only [List.getElem?_toArray, List.getElem?_cons_zero, List.getElem?_cons_succ]; exact rfl)
    case q316 => exact fun _ _ _ h => h
    case w316 => rfl
    case y316 =>
      intro w hSw
      (try dsimp only at hSw)
      obtain ⟨s0, s1, s2⟩ := hSw
      go_simp
      try with_reducible rfl
    try simp only [Act.put, List.setIfInBounds_toArray, List.set_cons_zero, List.set_cons_succ]
    refine wpAnyH_done (by kernel_rfl) ?_ _
    go_wp2
    go_ret
    exact ⟨ret_bool (HFin.out _ (by have h := Q.out; have e : (decide (1 ≤ k) && decide (k ≤ 10)) = false := (by rw [Bool.and_eq_false_iff, decide_eq_false_iff_not, decide_eq_false_iff_not]; omega); rw [e]; rfl)).symm, HF0.out.1.then (Fp.refl Non _).drew⟩
end Go.Proofs.Ytdfnfkknbjageaa

