/- scan: the records at the beginning of an area. -/
import Derived.Test.YtankfmlafmjaeaaGreatFe
namespace Go.Proofs.YtankfmlafmjaeaaGreat
set_option maxRecDepth 20000
open Go.RowKit Pm

def strV (l : Bs) : Value := .string (B l)
/-- A slice of strings of the call's own. -/
def Os (lo : Nat) (w : World) (v : Value) (rs : List Bs) : Prop := w.ownsRow lo 9 1 v rs.length (rs.map strV)
theorem Os.nil (lo : Nat) (w : World) : Os lo w (.slice none 0 0) [] := World.ownsRow_nil _ _ _ _
theorem Os.keep {S : Nat → Prop} {a b : World} {lo : Nat} {v : Value} {rs : List Bs} (h : Os lo a v rs) (f : Fp S a b) (hS : ∀ k, v.ownBlock = some k → ¬ S k) : Os lo b v rs := f.owns h hS
theorem Os.shape {lo : Nat} {w : World} {v : Value} {rs : List Bs} (h : Os lo w v rs) : ∃ ao cap, v = .slice ao rs.length cap := by
  rcases h.2 with ⟨hv, h0⟩ | ⟨g, cap, cur, hv, _⟩
  · exact ⟨none, 0, by rw [hv, h0]⟩
  · exact ⟨_, _, hv⟩
theorem Os.block {lo : Nat} {w : World} {v : Value} {rs : List Bs} (h : Os lo w v rs) : ∀ k, v.ownBlock = some k → lo ≤ k ∧ k < w.heap.size := by
  rcases h.2 with ⟨rfl, _⟩ | ⟨g, cap, cur, rfl, hb, hgg, _⟩
  · intro k hk; cases hk
  · intro k hk; simp [Value.ownBlock] at hk; have := (Array.getElem?_eq_some_iff.1 hgg).1; omega
theorem Os.cell {lo : Nat} {w : World} {v : Value} {rs : List Bs} (h : Os lo w v rs) : ∃ ao cap, v = .slice ao rs.length cap ∧ (0 < rs.length → ∃ g, ao = some ⟨g, 0, none⟩ ∧ ∀ k (hk : k < rs.length), w.cell? ⟨g, k, none⟩ = some (strV rs[k])) := by
  have hc := fun g hg => World.ownsRow.cells h (g := g) hg
  rcases h.2 with ⟨hv, h0⟩ | ⟨g, cap, cur, hv, hb, hgg, r1, r2, r3⟩
  · exact ⟨none, 0, by rw [hv, h0], fun hp => by omega⟩
  · refine ⟨_, cap, hv, fun _ => ⟨g, rfl, fun k hk => ?_⟩⟩
    have := hc g (by rw [hv]; rfl) k (strV rs[k]) (by simp [hk])
    rw [Addr.add_lit] at this
    simpa using this

theorem Tryz.infoStr : (Tryz.prog.info? 9).map (fun i => (i.zero, i.size, i.bytes)) = some (some (.string ⟨#[]⟩), 1, 16) := by kernel_rfl
structure AppS (lo : Nat) (w : World) (v : Value) (rs : List Bs) (v' : Value) (w' : World) : Prop where
  os : Os lo w' v' rs
  gr : ∃ m, w.grownBy m none ∧ m.grownBy w' v.ownBlock
  at' : v'.ownBlock = v.ownBlock ∨ ∀ k, v'.ownBlock = some k → w.heap.size ≤ k
theorem AppS.fp {lo : Nat} {w : World} {v : Value} {rs : List Bs} {v' : Value} {w' : World} (h : AppS lo w v rs v' w') {S : Nat → Prop} {w0 : World} (f : Fp S w0 w) (hS : ∀ k, v.ownBlock = some k → S k ∨ w0.heap.size ≤ k) : Fp S w0 w' := by
  obtain ⟨m, h1, h2⟩ := h.gr
  exact (f.grown h1 (fun k hk => by cases hk)).grown h2 hS
/-- One string more. -/
theorem app_str (w : World) (lo : Nat) (v : Value) (rs : List Bs) (s : Bs) (ty : TypeId) (ho : Os lo w v rs) (hn : rs.length ≤ 1000000) (hlo : lo ≤ w.heap.size) :
    ∃ v' w', (Builtin.append_ #[64, 64] ty #[v, .slice (some ⟨w.heap.size, 0, none⟩) 1 1]).run Tryz.prog (w.alloc (.cells #[strV s] 9)) = .ok v' w' ∧ AppS lo w v (rs ++ [s]) v' w' := by
  obtain ⟨i, hi, hz, hsz, hby⟩ := info_parts Tryz.infoStr
  have hf : Fp Non w (w.alloc (.cells #[strV s] 9)) := (Fp.refl Non w).alloc _
  have hc0 : (w.alloc (.cells #[strV s] 9)).cell? ⟨w.heap.size, 0, none⟩ = some (strV s) := by
    rw [cell_of_row _ _ _ _ _ _ (heap_alloc_new w _)]; rfl
  obtain ⟨v', w', hr, h4, h5, _, h6⟩ := run_append_own_at (P := Tryz.prog) (w.alloc (.cells #[strV s] 9)) lo 64 ty 9 i (.string ⟨#[]⟩) 1 16 Tryz.underlying64 hi hz hsz hby rfl (by decide) v rs.length (rs.map strV) (hf.owns ho (fun _ _ h => h))
    ⟨w.heap.size, 0, none⟩ 1 1 [strV s] rfl
    (fun j u hu => by
      have hj : j = 0 := by have := (List.getElem?_eq_some_iff.1 hu).1; simp at this; omega
      subst hj
      rw [Addr.add_lit]; simp only [Nat.add_zero]; rw [hc0]; simpa using hu)
    (by intro u hu; simp at hu; rw [hu]; rfl) (by unfold maxLen; omega) (by omega) (Nat.le_trans hlo hf.size)
  refine ⟨v', w', hr, ?_, ⟨_, World.grownBy_alloc w _ none, h5⟩, ?_⟩
  · unfold Os; rw [List.length_append, List.map_append]; exact h4
  · rcases h6 with h6 | h6
    · exact .inl h6
    · refine .inr (fun k hk => ?_)
      have := hf.size
      rw [h6] at hk; injection hk with hk; omega

/-- A tail of a slice that has memory. -/
theorem Sl.tail {w : World} {g o cap n0 : Nat} {l : Bs} (h : Sl w (.slice (some ⟨g, o, none⟩) n0 cap) l) (n : Nat) (hn : n ≤ l.length) :
    ∃ tb to, (if cap = n then some (⟨g, o, none⟩ : Addr) else some ⟨g, o + n, none⟩) = some ⟨tb, to, none⟩ ∧ Sl w (.slice (some ⟨tb, to, none⟩) (n0 - n) (cap - n)) (l.drop n) := by
  have := h.from n hn
  by_cases hc : cap = n
  · rw [if_pos hc] at this; exact ⟨g, o, if_pos hc, this⟩
  · rw [if_neg hc] at this; exact ⟨g, o + n, if_neg hc, this⟩

/-- What scan answers. -/
structure ScR (w w' : World) (c : Bs) (u : Value) : Prop where
  fp : Fp Non w w'
  os : Os w.heap.size w' u (scan c 0)

/-- In the midst of it. -/
structure ScM (w wr : World) (c : Bs) (acc : List Bs) (cc : Bs) (av rv : Value) : Prop where
  fp : Fp Non w wr
  os : Os w.heap.size wr rv acc
  sl : Sl w av cc
  eq : scan c 0 = acc ++ scan cc acc.length
  len : usd acc + cc.length = c.length
  md : cc.length % 16 = 0

def lenOf : Value → Nat
  | .slice _ n _ => n
  | _ => 0

set_option maxHeartbeats 4000000 in
theorem scan_c (v : Value) (c : Bs) (w : World) (hv : Sl w v c) (hc : c.length ≤ 100000) (hm : c.length % 16 = 0) :
    Calls Tryz.prog 31 #[v] w fun e w' => ∃ u, e = .returned u ∧ ScR w w' c u := by
  have H0 : Hid (ScM w w c [] c v (.slice none 0 0)) := ⟨Fp.refl _ _, Os.nil _ _, hv, by simp, by simp [usd_nil], hm⟩
  obtain ⟨ao, cap, hvv, _, _, _⟩ := hv.ex
  rw [hvv] at H0 ⊢
  clear hv hm
  go_enter Tryz.func31, Tryz.ntmps31
  go_wp2_with fail
  go_loopw [0, 3] (fun av rv wr => ∃ acc cc, Hid (ScM w wr c acc cc av rv)) (fun av _ _ => lenOf av)
  case atStart => exact ⟨[], c, H0⟩
  case round =>
    obtain ⟨acc, cc, hR⟩ := hrel
    obtain ⟨rao, rcap, hrv⟩ := hR.out.os.shape
    obtain ⟨aao, acap, hav, _, _, _⟩ := hR.out.sl.ex
    have hge := usd_ge acc
    have hal : acc.length ≤ 65535 := by have := hR.out.len; omega
    have hcl : cc.length ≤ 100000 := by have := hR.out.len; omega
    have hfr := front_c _ cc acc.length _ (hR.out.sl.keep hR.out.fp (fun _ _ h => h)) hcl hal
    subst hrv hav
    have HF := Lib.hid hfr
    have HG := Lib.hid hge
    clear hfr hge
    go_wp2_with fail
    refine HF.out.mono ?_
    rintro e w2 ⟨u, ok, rfl, hfp, hres⟩
    rcases hres with ⟨hn, rfl, rfl⟩ | ⟨b, hs, rfl, hsl⟩
    · have hend : scan c 0 = acc := by rw [hR.out.eq, scan_none hn, List.append_nil]
      have HE := Lib.hid hend
      have HP := Lib.hid hfp
      clear hn hend hfp
      go_wp2
      go_ret
      refine ⟨_, rfl, hR.out.fp.then HP.out, ?_⟩
      rw [HE.out]; exact hR.out.os.keep HP.out (fun _ _ h => h)
    · have hln := front_ln hR.out.md hs
      have hge := ln_ge b.length
      have hbl := (front_some.1 hs).2.2.1
      obtain ⟨g, o, cap2, e, h1, h2, hg⟩ := hR.out.sl.at (by omega)
      injection e with e1 e2 e3
      subst e1 e3
      obtain ⟨tb, to, htp, htl⟩ := hR.out.sl.tail (ln b.length) hln
      have k1 := conv_sl w2 u b hsl
      obtain ⟨uao, ucap, rfl, _, _, _⟩ := hsl.ex
      have hap := app_str w2 w.heap.size _ acc b 64 (hR.out.os.keep hfp (fun _ _ h => h)) (by omega) (Nat.le_trans hR.out.fp.size hfp.size)
      obtain ⟨q, hq⟩ : ∃ q, q = ln b.length := ⟨_, rfl⟩
      have hlc : ∀ w, Calls Tryz.prog 46 #[.int .i64 (b.length : Int)] w fun e w' => e = .returned (.int .i64 (q : Int)) ∧ w' = w := fun w => by rw [hq]; exact length_c b.length (by omega) w
      rw [← hq] at hln hge htp htl
      have q1 : ((q : Int) ≤ (cc.length : Int)) = True := eq_true (by omega)
      have q2 : (q ≤ cc.length) = True := eq_true (by omega)
      have hqb : q ≤ 100000 := by omega
      have HA := Lib.hid hap
      have HL := Lib.hid hlc
      have HT := Lib.hid htl
      have HS := Lib.hid (And.intro hs (And.intro hsl (And.intro hfp (And.intro hq (And.intro hln hge)))))
      unfold strV at HA
      clear hap hlc htl hs hsl hfp hq hln hge h1 h2 hg
      go_wp2_with (at_builtin; go_must (refine wpList_app rfl _ _ _ _ rfl _ _ rfl rfl _ HA.out ?_))
      intro rv' w3 hR3
      have hos := hR3.os
      obtain ⟨rao', rcap', hrv'⟩ := hos.shape
      have hown := hR.out.os.block
      have hf3 : Fp Non w w3 := hR3.fp (hR.out.fp.then HS.out.2.2.1) (fun k hk => .inr (hown k hk).1)
      have hge3 := HS.out.2.2.2.2.2
      have hle3 := HS.out.2.2.2.2.1
      have hqe := HS.out.2.2.2.1
      have hdl : (cc.drop q).length = cc.length - q := List.length_drop ..
      have hmd := hR.out.md
      have hqm := ln_mod b.length
      have hM : Hid (ScM w w3 c (acc ++ [b]) (cc.drop q) (.slice (some ⟨tb, to, none⟩) (cc.length - q) (acap - q)) rv') := by
        refine ⟨hf3, hos, HT.out, ?_, ?_, by omega⟩
        · rw [hR.out.eq, scan_some HS.out.1, hqe, List.append_assoc, List.length_append]; rfl
        · have := hR.out.len
          rw [usd_app, usd_cons, usd_nil, hdl, ← hqe]; omega
      subst hrv'
      have HLT := Lib.hid (And.intro hge3 hle3)
      clear hos hf3 hown hR3 hge3 hle3 hqe hdl hmd hqm
      go_wp2_with fail
      refine (HL.out _).mono ?_
      rintro e w4 ⟨rfl, rfl⟩
      go_wp2
      go_roundw
      case rel => exact ⟨acc ++ [b], cc.drop q, by rw [List.length_append] at hM; exact hM⟩
      case measure => have := HLT.out; show cc.length - q < cc.length; omega
end Go.Proofs.YtankfmlafmjaeaaGreat
