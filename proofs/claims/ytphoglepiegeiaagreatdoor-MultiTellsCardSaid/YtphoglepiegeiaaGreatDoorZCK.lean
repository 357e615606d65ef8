/- A text of this proof. -/
import Derived.Test.YtphoglepiegeiaaGreatDoorZCD
import Derived.Test.YtphoglepiegeiaaGreatDoorZCJ
set_option linter.unusedSimpArgs false
set_option linter.unusedVariables false
namespace Go.Proofs.YtphoglepiegeiaaGreatDoor
set_option maxRecDepth 20000
open Go.RowKit Pm
abbrev exV (k : Nat) : Value := .func (.func 155) #[] #[.pointer (some ⟨k, 0, none⟩)]
structure EfM (w' : World) (g2 g3 g4 g5 g6 g7 : Nat) : Prop where
 m2 : w'.cell? ⟨g2, 0, none⟩ = some (.func (.func 117) #[] #[])
 m3 : w'.cell? ⟨g3, 0, none⟩ = some (.func (.func 118) #[] #[])
 m4 : w'.cell? ⟨g4, 0, none⟩ = some (.func (.func 119) #[] #[])
 m5 : w'.cell? ⟨g5, 0, none⟩ = some (.func (.func 120) #[] #[])
 m6 : w'.cell? ⟨g6, 0, none⟩ = some (.func (.func 121) #[] #[])
 m7 : w'.cell? ⟨g7, 0, none⟩ = some (.func (.func 122) #[] #[])
structure EfR (w : World) (e : Ending) (w' : World) : Prop where
 ex : ∃ g2 g3 g4 g5 g6 g7, e = .returned (.agg #[.nilFunc, .func (.func 115) #[] #[], exV g2, exV g3, exV g4, exV g5, exV g6, exV g7]) ∧ EfM w' g2 g3 g4 g5 g6 g7
 fp : Fp Non w w'
theorem EfM.non {w w' : World} {g2 g3 g4 g5 g6 g7 : Nat} (h : EfM w g2 g3 g4 g5 g6 g7) (f : Fp Non w w') : EfM w' g2 g3 g4 g5 g6 g7 :=
 ⟨f.cell h.m2 id, f.cell h.m3 id, f.cell h.m4 id, f.cell h.m5 id, f.cell h.m6 id, f.cell h.m7 id⟩
theorem new_at (w : World) (v : Value) (T : TypeId) (k : Nat) (hk : w.heap.size = k) : (w.alloc (.cells #[v] T)).cell? ⟨k, 0, none⟩ = some v := by
 subst hk; rw [cell_of_row _ _ _ _ _ _ (heap_alloc_new w _)]; rfl
theorem old_at {w : World} {o : Obj} {p : Addr} {v : Value} (h : w.cell? p = some v) : (w.alloc o).cell? p = some v := ((Fp.refl Non w).alloc o).cell h id
set_option maxHeartbeats 4000000 in
theorem effects_c (w : World) :
  Calls Tryz.prog 86 #[] w (EfR w) := by
 go_enter Tryz.func86, Tryz.ntmps86
 go_wp2_with fail
 refine (existing_c _ _).mono ?_
 rintro e w1 ⟨rfl, T1, rfl⟩
 go_wp2_with fail
 refine (existing_c _ _).mono ?_
 rintro e w1 ⟨rfl, T2, rfl⟩
 go_wp2_with fail
 refine (existing_c _ _).mono ?_
 rintro e w1 ⟨rfl, T3, rfl⟩
 go_wp2_with fail
 refine (existing_c _ _).mono ?_
 rintro e w1 ⟨rfl, T4, rfl⟩
 go_wp2_with fail
 refine (existing_c _ _).mono ?_
 rintro e w1 ⟨rfl, T5, rfl⟩
 go_wp2_with fail
 refine (existing_c _ _).mono ?_
 rintro e w1 ⟨rfl, T6, rfl⟩
 go_wp2
 refine bodyPost_ret (v := .agg #[.nilFunc, .func (.func 115) #[] #[], exV (w.heap.size + 1), exV (w.heap.size + 1 + 1), exV (w.heap.size + 1 + 1 + 1), exV (w.heap.size + 1 + 1 + 1 + 1), exV (w.heap.size + 1 + 1 + 1 + 1 + 1), exV (w.heap.size + 1 + 1 + 1 + 1 + 1 + 1)]) (by simp [results, Tryz.results86, go_sem]) rfl ⟨⟨_, _, _, _, _, _, rfl, ?_⟩, ?_⟩
 ·refine ⟨old_at (old_at (old_at (old_at (old_at (new_at _ _ _ _ (by simp)))))), old_at (old_at (old_at (old_at (new_at _ _ _ _ (by simp))))), old_at (old_at (old_at (new_at _ _ _ _ (by simp)))), old_at (old_at (new_at _ _ _ _ (by simp))), old_at (new_at _ _ _ _ (by simp)), new_at _ _ _ _ (by simp)⟩
 exact (((((((Fp.refl Non w).alloc _).alloc _).alloc _).alloc _).alloc _).alloc _).alloc _
structure InW (lo b G cap : Nat) (l : List Nd) (w : World) : Prop where
 tn : Tn lo b G cap l w
 tree : Tree l
 sp : Sp l
 lo : lo ≤ w.heap.size
 tab : Tab w
theorem InW.non {lo b G cap : Nat} {l : List Nd} {w w' : World} (h : InW lo b G cap l w) (f : Fp Non w w') : InW lo b G cap l w' :=
 ⟨h.tn.non f, h.tree, h.sp, Nat.le_trans h.lo f.size, h.tab.non f⟩
theorem InW.max {lo b G cap : Nat} {l : List Nd} {w : World} (h : InW lo b G cap l w) : l.length ≤ 4000 := by have := h.tree.most; omega
theorem InW.fit {lo b G cap : Nat} {l : List Nd} {w : World} (h : InW lo b G cap l w) : ∀ n ∈ l, fitsB n = true := h.tree.tr.fit
theorem eff_1 {lo b G cap : Nat} {l : List Nd} {w : World} (h : InW lo b G cap l w) (p d : Bs) (v ow : Int) (t : Bool) (hm : may ⟨1, p, d, v, ow, t⟩ = true) :
  Calls Tryz.prog 115 #[.pointer (some ⟨b, 0, none⟩), opV ⟨1, p, d, v, ow, t⟩] w (MeR lo b G (perform l ⟨1, p, d, v, ow, t⟩).1 (perform l ⟨1, p, d, v, ow, t⟩).2 w) := by
 have e : perform l ⟨1, p, d, v, ow, t⟩ = create l ⟨1, p, d, v, ow, t⟩ := by unfold perform; rw [if_pos rfl]
 rw [e]
 exact create_m h.tn h.sp h.tree.most h.lo h.tree.asc h.tab (fun n hn => by have := (fits_iff n).1 (h.fit n hn); omega) _ (may_parent hm (.inl rfl))
theorem eff_2 {lo b G cap : Nat} {l : List Nd} {w : World} (h : InW lo b G cap l w) (p d : Bs) (v ow : Int) (t : Bool) (g : Nat) (hg : w.cell? ⟨g, 0, none⟩ = some (.func (.func 117) #[] #[])) :
  Calls Tryz.prog 155 #[.pointer (some ⟨b, 0, none⟩), opV ⟨2, p, d, v, ow, t⟩, .pointer (some ⟨g, 0, none⟩)] w (MeR lo b G (perform l ⟨2, p, d, v, ow, t⟩).1 (perform l ⟨2, p, d, v, ow, t⟩).2 w) := by
 refine existing_2 h.tn h.sp h.tree.most h.lo h.tree.asc p d v ow t g _ hg (enters_of Tryz.func117 (by kernel_rfl) rfl) ?_
 intro x w' hx hf
 obtain ⟨hat, hxe⟩ := find_at h.tree.asc (show find l p = some x from hx)
 have e : doit l ⟨2, p, d, v, ow, t⟩ x = ((if kids l p = [] then l.eraseIdx (place l p) else l), (if kids l p = [] then ⟨0, [], [], 0, []⟩ else .bad 64)) := by
  by_cases hk : kids l p = [] <;> simp [doit, hk]
 rw [e]
 exact remove_m (h.tn.non hf) h.sp h.max (Nat.le_trans h.lo hf.size) (place l p) hat x hxe ⟨2, p, d, v, ow, t⟩
theorem eff_3 {lo b G cap : Nat} {l : List Nd} {w : World} (h : InW lo b G cap l w) (p d : Bs) (v ow : Int) (t : Bool) (g : Nat) (hg : w.cell? ⟨g, 0, none⟩ = some (.func (.func 118) #[] #[])) :
  Calls Tryz.prog 155 #[.pointer (some ⟨b, 0, none⟩), opV ⟨3, p, d, v, ow, t⟩, .pointer (some ⟨g, 0, none⟩)] w (MeR lo b G (perform l ⟨3, p, d, v, ow, t⟩).1 (perform l ⟨3, p, d, v, ow, t⟩).2 w) := by
 refine existing_3 h.tn h.sp h.tree.most h.lo h.tree.asc p d v ow t g _ hg (enters_of Tryz.func118 (by kernel_rfl) rfl) ?_
 intro x w' hx hf
 obtain ⟨hat, hxe⟩ := find_at h.tree.asc (show find l p = some x from hx)
 have e : doit l ⟨3, p, d, v, ow, t⟩ x = ((if x.ver = 281474976710656 then l else l.set (place l p) { x with data := d, ver := x.ver + 1 }), (if x.ver = 281474976710656 then .bad 2 else ⟨0, [], [], x.ver + 1, []⟩)) := by
  by_cases hk : x.ver = 281474976710656 <;> simp [doit, hk]
 rw [e]
 exact set_m (h.tn.non hf) h.sp h.max (Nat.le_trans h.lo hf.size) (place l p) hat x hxe ⟨3, p, d, v, ow, t⟩ (by have := (fits_iff x).1 (h.fit x (find_mem hx).1); omega)
theorem eff_4 {lo b G cap : Nat} {l : List Nd} {w : World} (h : InW lo b G cap l w) (p d : Bs) (v ow : Int) (t : Bool) (g : Nat) (hg : w.cell? ⟨g, 0, none⟩ = some (.func (.func 119) #[] #[])) :
  Calls Tryz.prog 155 #[.pointer (some ⟨b, 0, none⟩), opV ⟨4, p, d, v, ow, t⟩, .pointer (some ⟨g, 0, none⟩)] w (MeR lo b G (perform l ⟨4, p, d, v, ow, t⟩).1 (perform l ⟨4, p, d, v, ow, t⟩).2 w) := by
 refine existing_4 h.tn h.sp h.tree.most h.lo h.tree.asc p d v ow t g _ hg (enters_of Tryz.func119 (by kernel_rfl) rfl) ?_
 intro x w' hx hf
 obtain ⟨hat, hxe⟩ := find_at h.tree.asc (show find l p = some x from hx)
 have e : doit l ⟨4, p, d, v, ow, t⟩ x = (l, ⟨0, [], [], x.ver, []⟩) := by
  simp [doit]
 rw [e]
 exact check_m (h.tn.non hf) h.sp h.max (Nat.le_trans h.lo hf.size) (place l p) hat x hxe ⟨4, p, d, v, ow, t⟩
theorem eff_5 {lo b G cap : Nat} {l : List Nd} {w : World} (h : InW lo b G cap l w) (p d : Bs) (v ow : Int) (t : Bool) (g : Nat) (hg : w.cell? ⟨g, 0, none⟩ = some (.func (.func 120) #[] #[])) :
  Calls Tryz.prog 155 #[.pointer (some ⟨b, 0, none⟩), opV ⟨5, p, d, v, ow, t⟩, .pointer (some ⟨g, 0, none⟩)] w (MeR lo b G (perform l ⟨5, p, d, v, ow, t⟩).1 (perform l ⟨5, p, d, v, ow, t⟩).2 w) := by
 refine existing_5 h.tn h.sp h.tree.most h.lo h.tree.asc p d v ow t g _ hg (enters_of Tryz.func120 (by kernel_rfl) rfl) ?_
 intro x w' hx hf
 obtain ⟨hat, hxe⟩ := find_at h.tree.asc (show find l p = some x from hx)
 have e : doit l ⟨5, p, d, v, ow, t⟩ x = (l, ⟨0, [], x.data, x.ver, []⟩) := by
  simp [doit]
 rw [e]
 exact get_m (h.tn.non hf) h.sp h.max (Nat.le_trans h.lo hf.size) (place l p) hat x hxe ⟨5, p, d, v, ow, t⟩
theorem eff_6 {lo b G cap : Nat} {l : List Nd} {w : World} (h : InW lo b G cap l w) (p d : Bs) (v ow : Int) (t : Bool) (g : Nat) (hg : w.cell? ⟨g, 0, none⟩ = some (.func (.func 121) #[] #[])) :
  Calls Tryz.prog 155 #[.pointer (some ⟨b, 0, none⟩), opV ⟨6, p, d, v, ow, t⟩, .pointer (some ⟨g, 0, none⟩)] w (MeR lo b G (perform l ⟨6, p, d, v, ow, t⟩).1 (perform l ⟨6, p, d, v, ow, t⟩).2 w) := by
 refine existing_6 h.tn h.sp h.tree.most h.lo h.tree.asc p d v ow t g _ hg (enters_of Tryz.func121 (by kernel_rfl) rfl) ?_
 intro x w' hx hf
 obtain ⟨hat, hxe⟩ := find_at h.tree.asc (show find l p = some x from hx)
 have e : doit l ⟨6, p, d, v, ow, t⟩ x = (l, ⟨0, [], [], 0, (kids l p).map (fun n => last n.path)⟩) := by
  simp [doit]
 rw [e]
 exact list_m (h.tn.non hf) h.sp h.max (Nat.le_trans h.lo hf.size) (place l p) hat x hxe ⟨6, p, d, v, ow, t⟩
theorem eff_7 {lo b G cap : Nat} {l : List Nd} {w : World} (h : InW lo b G cap l w) (p d : Bs) (v ow : Int) (t : Bool) (g : Nat) (hg : w.cell? ⟨g, 0, none⟩ = some (.func (.func 122) #[] #[])) :
  Calls Tryz.prog 155 #[.pointer (some ⟨b, 0, none⟩), opV ⟨7, p, d, v, ow, t⟩, .pointer (some ⟨g, 0, none⟩)] w (MeR lo b G (perform l ⟨7, p, d, v, ow, t⟩).1 (perform l ⟨7, p, d, v, ow, t⟩).2 w) := by
 refine existing_7 h.tn h.sp h.tree.most h.lo h.tree.asc p d v ow t g _ hg (enters_of Tryz.func122 (by kernel_rfl) rfl) ?_
 intro x w' hx hf
 obtain ⟨hat, hxe⟩ := find_at h.tree.asc (show find l p = some x from hx)
 have e : doit l ⟨7, p, d, v, ow, t⟩ x = (l.filter (fun n => !swept ⟨7, p, d, v, ow, t⟩ n), ⟨0, [], [], 0, (l.filter (swept ⟨7, p, d, v, ow, t⟩)).map (fun n => last n.path)⟩) := by
  simp [doit]
 rw [e]
 exact sweep_m (h.tn.non hf) h.sp h.max (Nat.le_trans h.lo hf.size) (place l p) hat x hxe ⟨7, p, d, v, ow, t⟩
abbrev tabV (g2 g3 g4 g5 g6 g7 : Nat) : Value := .agg #[.nilFunc, .func (.func 115) #[] #[], exV g2, exV g3, exV g4, exV g5, exV g6, exV g7]
structure Pick (lo b G cap : Nat) (l : List Nd) (o : Opn) (g2 g3 g4 g5 g6 g7 fk : Nat) (fc : Array Value) : Prop where
 ix : ∀ w, (Instr.index 116 (tabV g2 g3 g4 g5 g6 g7) (.int .i64 o.kind)).run Tryz.prog w = .ok (.func (.func fk) #[] fc) w
 en : Enters Tryz.prog fk
 call : ∀ w', InW lo b G cap l w' → EfM w' g2 g3 g4 g5 g6 g7 → Calls Tryz.prog fk (#[.pointer (some ⟨b, 0, none⟩), opV o] ++ fc) w' (MeR lo b G (perform l o).1 (perform l o).2 w')
theorem pick_fn (lo b G cap : Nat) (l : List Nd) (o : Opn) (g2 g3 g4 g5 g6 g7 : Nat) (hm : may o = true) : ∃ fk fc, Pick lo b G cap l o g2 g3 g4 g5 g6 g7 fk fc := by
 have hk := may_kind hm
 obtain ⟨kk, p, d, v, ow, t⟩ := o
 simp only at hk
 rcases hk with rfl | rfl | rfl | rfl | rfl | rfl | rfl
 ·exact ⟨_, #[], fun w => by kernel_rfl, enters_of Tryz.func115 (by kernel_rfl) rfl, fun w' h hE => eff_1 h p d v ow t hm⟩
 ·exact ⟨_, #[.pointer (some ⟨g2, 0, none⟩)], fun w => by kernel_rfl, enters_of Tryz.func155 (by kernel_rfl) rfl, fun w' h hE => eff_2 h p d v ow t g2 hE.m2⟩
 ·exact ⟨_, #[.pointer (some ⟨g3, 0, none⟩)], fun w => by kernel_rfl, enters_of Tryz.func155 (by kernel_rfl) rfl, fun w' h hE => eff_3 h p d v ow t g3 hE.m3⟩
 ·exact ⟨_, #[.pointer (some ⟨g4, 0, none⟩)], fun w => by kernel_rfl, enters_of Tryz.func155 (by kernel_rfl) rfl, fun w' h hE => eff_4 h p d v ow t g4 hE.m4⟩
 ·exact ⟨_, #[.pointer (some ⟨g5, 0, none⟩)], fun w => by kernel_rfl, enters_of Tryz.func155 (by kernel_rfl) rfl, fun w' h hE => eff_5 h p d v ow t g5 hE.m5⟩
 ·exact ⟨_, #[.pointer (some ⟨g6, 0, none⟩)], fun w => by kernel_rfl, enters_of Tryz.func155 (by kernel_rfl) rfl, fun w' h hE => eff_6 h p d v ow t g6 hE.m6⟩
 exact ⟨_, #[.pointer (some ⟨g7, 0, none⟩)], fun w => by kernel_rfl, enters_of Tryz.func155 (by kernel_rfl) rfl, fun w' h hE => eff_7 h p d v ow t g7 hE.m7⟩
structure ApS (w : World) (v : Value) (l' : List Nd) (r : Res) (e : Ending) (w' : World) : Prop where
 ex : ∃ v' nv, e = .returned (.tuple #[v', .agg #[.int .i64 r.err, strV r.path, strV r.data, .int .i64 r.ver, nv]]) ∧ Ns w' v' l' ∧ Own w.heap.size w' nv r.names ∧ (v' = v ∨ ∀ k, v'.ownBlock = some k → w.heap.size ≤ k)
 fp : Fp Non w w'
end Go.Proofs.YtphoglepiegeiaaGreatDoor
