/- owned.Of, State, with -/
import Derived.Test.YtcjpgenlhphapaaOc
import Derived.Test.YtcjpgenlhphapaaOr
namespace Go.Proofs.Ytcjpgenlhphapaa
set_option maxRecDepth 20000
set_option linter.unusedVariables false
set_option linter.unusedSimpArgs false
open Go.RowKit Pm

/-- Ranges, or none. -/
structure TwoR (w : World) (o : Option (List Hl)) (e : Ending) (w' : World) : Prop where
  ex : ∃ v', e = .returned (.tuple #[v', .bool o.isSome]) ∧ NsH w' v' (o.getD [])
  fp : Fp Non w w'
theorem TwoR.none {w w' : World} (f : Fp Non w w') : TwoR w none (.returned (.tuple #[.slice none 0 0, .bool false])) w' := ⟨⟨_, rfl, NsH.nil w'⟩, f⟩
theorem TwoR.from {w w1 w' : World} {o : Option (List Hl)} {e : Ending} (h : TwoR w1 o e w') (f : Fp Non w w1) : TwoR w o e w' := ⟨h.ex, f.then h.fp⟩

/-- What is asked of ranges that are handed in. -/
structure Szs (l : List Hl) : Prop where
  n : l.length ≤ 1000000
  p : ∀ x ∈ l, x.d.length ≤ 1000000

set_option maxHeartbeats 1000000 in
theorem OfH_c (v : Value) (l : List Hl) (d : Bs) (w : World) (hv : NsH w v l) (hs : Szs l) (hd : d.length ≤ 1000000) :
    Calls Try.prog 19 #[v, .string (B d)] w fun e w' => e = .returned (.int .i64 (idx (ofR l d))) ∧ Fp Non w w' := by
  have h1 := RightH_c v l w hv hs.p hs.n
  have h2 := fun W (f : Fp Non w W) => rangeOf_c v l d W (hv.non f) hs.n hs.p hd
  obtain ⟨ao, cap, rfl⟩ := hv.shape
  have e : ofR l d = if rightH l = true then bk l d l.length else none := rfl
  rw [e]
  generalize bk l d l.length = z at *
  generalize rightH l = b at *
  generalize l.length = n at *
  have H1 := Lib.hid h1
  have H2 := Lib.hid h2
  clear h1 h2 hv hs hd e
  go_enter Try.func19, Try.ntmps19
  go_wp2_with fail
  refine H1.out.mono ?_
  rintro e w1 ⟨rfl, hf⟩
  have HF := Lib.hid hf
  clear hf
  cases b with
  | false =>
    go_wp2
    go_ret
    exact ⟨rfl, HF.out⟩
  | true =>
    go_wp2_with fail
    refine (H2.out _ HF.out).mono ?_
    rintro e w2 ⟨rfl, hf⟩
    have HG := Lib.hid (HF.out.then hf)
    clear hf
    go_wp2
    go_ret
    exact ⟨rfl, HG.out⟩

set_option maxHeartbeats 1000000 in
theorem StateH_c (v : Value) (l : List Hl) (d : Bs) (w : World) (hv : NsH w v l) (hs : Szs l) (hd : d.length ≤ 1000000) :
    Calls Try.prog 21 #[v, .string (B d)] w fun e w' => e = .returned (.int .i64 (stR l d)) ∧ Fp Non w w' := by
  have h1 := OfH_c v l d w hv hs hd
  have hsn := hs.n
  cases ho : ofR l d with
  | none =>
    have e : stR l d = 3 := by unfold stR; rw [pick_none ho]
    rw [e]
    obtain ⟨ao, cap, rfl⟩ := hv.shape
    rw [ho] at h1
    generalize l.length = n at *
    have H1 := Lib.hid h1
    clear h1 hv hs hd e ho hsn
    go_enter Try.func21, Try.ntmps21
    go_wp2_with fail
    refine H1.out.mono ?_
    rintro e w1 ⟨rfl, hf⟩
    have HF := Lib.hid hf
    clear hf
    unfold idx
    go_wp2
    go_ret
    exact ⟨rfl, HF.out⟩
  | some k =>
    have hk := ofR_lt ho
    have e : stR l d = l[k].a := by unfold stR; rw [pick_at ho]
    rw [e]
    obtain ⟨g, o, cap, rfl, _, _, _, hcell⟩ := hv.at (by omega)
    have hc := (hcell k hk).c2
    rw [ho] at h1
    obtain ⟨n, hn⟩ : ∃ n, n = l.length := ⟨_, rfl⟩
    rw [← hn] at h1 hk hsn ⊢
    generalize l[k].a = a at *
    have q1 : ((k : Int) == -1) = false := beq_eq_false_iff_ne.2 (by omega)
    have q2 : ((k : Int) < (n : Int)) = True := eq_true (by omega)
    have q3 : (k < n) = True := eq_true hk
    have q4 : ((k : Int) = -1) = False := eq_false (by omega)
    have H1 := Lib.hid h1
    have HC := Lib.hid hc
    clear h1 hv hs hd e ho hcell hn hk hc
    go_enter Try.func21, Try.ntmps21
    go_wp2_with fail
    refine H1.out.mono ?_
    rintro e w1 ⟨rfl, hf⟩
    have HF := Lib.hid hf
    have c2 := hf.cell HC.out (fun h => h)
    clear hf
    unfold idx
    go_wp2
    go_ret
    exact ⟨rfl, HF.out⟩

set_option maxHeartbeats 4000000 in
theorem with_c (v : Value) (l : List Hl) (x : Hl) (w : World) (hv : NsH w v l) (hu : UpH l) (h32 : l.length ≤ 32) :
    Calls Try.prog 32 #[v, hlV x] w fun e w' => TwoR w (withR l x) e w' := by
  obtain ⟨xd, xt, xa⟩ := x
  have f1 := fp_alloc w (.cells #[.string (B xd), .int .i64 xt, .int .i64 xa] TH)
  have hbx := heap_alloc_new w (.cells #[.string (B xd), .int .i64 xt, .int .i64 xa] TH)
  have hp := fun W (f : Fp Non w W) => place_c v l xd W (hv.non f) hu (by omega)
  have hcl := fun W (f : Fp Non w W) => Clone_ownH v l W (hv.non f) (by omega)
  obtain ⟨ao, cap, rfl⟩ := hv.shape
  obtain ⟨n, hn⟩ : ∃ n, n = l.length := ⟨_, rfl⟩
  obtain ⟨pl, hpl⟩ : ∃ k, k = plH l xd := ⟨_, rfl⟩
  have hle : pl ≤ n := by rw [hpl, hn]; exact plH_le l xd
  obtain ⟨b, hb⟩ : ∃ b, (getH l xd).isSome = b := ⟨_, rfl⟩
  have hw : withR l ⟨xd, xt, xa⟩ = if b = true ∨ n < 32 then some (putH l ⟨xd, xt, xa⟩) else none := by rw [hn, ← hb]; rfl
  have hset : b = true → pl < n ∧ putH l ⟨xd, xt, xa⟩ = l.set pl ⟨xd, xt, xa⟩ := fun h => by
    rw [hn, hpl]; exact put_set hu (x := ⟨xd, xt, xa⟩) (by rw [← h, ← hb])
  have hins : b = false → putH l ⟨xd, xt, xa⟩ = insH l pl ⟨xd, xt, xa⟩ := fun h => by
    rw [hpl]; exact put_ins (x := ⟨xd, xt, xa⟩) (by simpa [h] using hb)
  obtain ⟨o, ho⟩ : ∃ o, withR l ⟨xd, xt, xa⟩ = o := ⟨_, rfl⟩
  rw [ho] at hw ⊢
  have HO := Lib.hid hw
  rw [hb, ← hpl, ← hn] at hp
  rw [← hn] at hcl h32 ⊢
  have HP := Lib.hid hp
  have HC := Lib.hid hcl
  have HX := Lib.hid (And.intro hn (And.intro hset (And.intro hins hle)))
  have HF1 := Lib.hid (And.intro f1 hbx)
  have c0 : (w.alloc (.cells #[.string (B xd), .int .i64 xt, .int .i64 xa] TH)).cell? ⟨w.heap.size, 0, none⟩ = some (.string (B xd)) := by rw [cell_of_row _ _ _ _ _ _ hbx]; rfl
  unfold hlV strV
  clear hp hcl hv hu hn hpl hb hw hset hins f1 hbx hle ho
  simp only
  go_enter Try.func32, Try.ntmps32
  go_wp2_with fail
  refine (HP.out _ HF1.out.1).mono ?_
  rintro e w1 ⟨rfl, hf⟩
  have b1 := hf.heap HF1.out.2 (fun h => h)
  have HG := Lib.hid (And.intro (HF1.out.1.then hf) b1)
  clear hf c0 b1
  cases b with
  | true =>
    have hpn : pl < n := (HX.out.2.1 rfl).1
    have hpl2 : pl < l.length := by rw [← HX.out.1]; exact hpn
    have hput := (HX.out.2.1 rfl).2
    have hpb : pl ≤ 32 := by omega
    have q2 : ((pl : Int) < (n : Int)) = True := eq_true (by omega)
    have q3 : (pl < n) = True := eq_true hpn
    have HL := Lib.hid (And.intro hpl2 hput)
    clear hpn hpl2 hput
    go_wp2_with fail
    refine (HC.out _ HG.out.1).mono ?_
    rintro e w2 ⟨v2, rfl, hR⟩
    have b2 := hR.fp.heap HG.out.2 (fun h => h)
    have d0 : w2.cell? ⟨w.heap.size, 0, none⟩ = some (.string (B xd)) := by rw [cell_of_row _ _ _ _ _ _ b2]; rfl
    have d1 : w2.cell? ⟨w.heap.size, 1, none⟩ = some (.int .i64 xt) := by rw [cell_of_row _ _ _ _ _ _ b2]; rfl
    have d2 : w2.cell? ⟨w.heap.size, 2, none⟩ = some (.int .i64 xa) := by rw [cell_of_row _ _ _ _ _ _ b2]; rfl
    rcases hR.own.ways with ⟨rfl, h0⟩ | ⟨G, cp, rfl, hN, hlo⟩
    · exfalso; have h1 := HL.out.1; rw [h0] at h1; simp at h1
    · have hlen : l.length = n := HX.out.1.symm
      have hM := hN.put pl HL.out.1 ⟨xd, xt, xa⟩
      have hF := fp_putH (S := Non) (HG.out.1.then hR.fp) (b := G) (.inr (by have := HG.out.1.size; omega)) (pl * 3) (strV xd) (.int .i64 xt) (.int .i64 xa)
      have hnd := hN.nd pl HL.out.1
      rw [Nat.zero_add] at hnd
      have y0 := hnd.c0; have y1 := hnd.c1; have y2 := hnd.c2
      have f0 := hN.frozen (pl * 3); have f1 := hN.frozen (pl * 3 + 1); have f2 := hN.frozen (pl * 3 + 2)
      have hres := hM.ns
      rw [List.length_set, hlen, ← HL.out.2] at hres
      unfold strV at hres hF y0
      have HR := Lib.hid (And.intro hres hF)
      rw [hlen]
      clear hlen hM hF hnd hres hN hlo hR b2
      go_wp2
      go_ret2
      have ho : o = some (putH l ⟨xd, xt, xa⟩) := by rw [HO.out]; simp
      rw [ho]
      exact ⟨⟨_, rfl, HR.out.1⟩, HR.out.2⟩
  | false =>
    by_cases hn32 : n = 32
    · have q1 : ((n : Int) == 32) = true := by rw [beq_iff_eq]; omega
      have q5 : ((n : Int) = 32) = True := eq_true (by omega)
      have q2 : (n < 32) = False := eq_false (by omega)
      clear hn32
      go_wp2
      go_ret2
      have ho : o = none := by rw [HO.out]; simp [q2]
      rw [ho]
      exact TwoR.none HG.out.1
    · have q1 : ((n : Int) == 32) = false := beq_eq_false_iff_ne.2 (by omega)
      have q4 : ((n : Int) = 32) = False := eq_false (by omega)
      have q2 : (n < 32) = True := eq_true (by omega)
      have hputi := HX.out.2.2.1 rfl
      have HL := Lib.hid hputi
      clear hn32 hputi
      go_wp2_with fail
      refine (HC.out _ HG.out.1).mono ?_
      rintro e w2 ⟨v2, rfl, hR⟩
      have b2 := hR.fp.heap HG.out.2 (fun h => h)
      have d0 : w2.cell? ⟨w.heap.size, 0, none⟩ = some (.string (B xd)) := by rw [cell_of_row _ _ _ _ _ _ b2]; rfl
      have d1 : w2.cell? ⟨w.heap.size, 1, none⟩ = some (.int .i64 xt) := by rw [cell_of_row _ _ _ _ _ _ b2]; rfl
      have d2 : w2.cell? ⟨w.heap.size, 2, none⟩ = some (.int .i64 xa) := by rw [cell_of_row _ _ _ _ _ _ b2]; rfl
      have HR := Lib.hid (And.intro hR.own (And.intro (HG.out.1.then hR.fp) (And.intro hR.fp.size (show v2.ownBlock = some w2.heap.size → False from fun e => by have := (World.ownsRow.lt hR.own _ e).2; omega))))
      clear hR b2
      go_wp2_with fail
      have hX := heap_alloc_new w2 (.cells #[.string (B xd), .int .i64 xt, .int .i64 xa] TH)
      refine (Insert_ownH (x := ⟨xd, xt, xa⟩) (X := w2.heap.size) (HR.out.1.non (fp_alloc w2 _)) pl (by have := HX.out; omega) hX (fun e => HR.out.2.2.2 e) (by have := HX.out; omega) (by have h2 := HR.out.2.2.1; simp; omega)).mono ?_
      rintro e w3 ⟨v3, rfl, hI⟩
      have hFin : TwoR w (some (putH l ⟨xd, xt, xa⟩)) (.returned (.tuple #[v3, .bool true])) w3 := by
        refine ⟨⟨v3, rfl, ?_⟩, ?_⟩
        · show NsH w3 v3 (putH l ⟨xd, xt, xa⟩)
          rw [HL.out]; exact hI.own.ns
        · exact (HR.out.2.1.then (fp_alloc w2 _)).trans hI.fp (fun k hk => .inr (by have h1 := HR.out.1.low k hk; have h2 := HG.out.1.size; omega))
      have HN := Lib.hid hFin
      clear hI hFin
      go_wp2
      go_ret2
      have ho : o = some (putH l ⟨xd, xt, xa⟩) := by rw [HO.out]; simp [q2]
      rw [ho]
      exact HN.out
end Go.Proofs.Ytcjpgenlhphapaa
