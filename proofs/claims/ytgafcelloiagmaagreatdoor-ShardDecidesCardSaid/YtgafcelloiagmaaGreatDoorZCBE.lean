/- A text of this proof. -/
import Derived.Deep.CutRange
import Derived.Test.YtgafcelloiagmaaGreatDoorZCBD
import Derived.Test.YtgafcelloiagmaaGreatDoorZCP
import Derived.Test.YtgafcelloiagmaaGreatDoorZCS
set_option maxHeartbeats 16000000
set_option linter.unusedSimpArgs false
set_option linter.unusedVariables false
set_option maxRecDepth 20000
namespace Go.Proofs.YtgafcelloiagmaaGreatDoor
open Go.Proofs.Tryz
section
open Go.RowKit Pm
attribute [local irreducible] wpStill
abbrev aM:TypeId:=25
abbrev Kb:Value:=.agg #[.nilFunc,.func (.func 147) #[] #[],.func (.func 148) #[] #[],.func (.func 149) #[] #[],.func (.func 150) #[] #[],.func (.func 151) #[] #[],.func (.func 152) #[] #[],.func (.func 153) #[] #[],.func (.func 154) #[] #[],.func (.func 155) #[] #[],.func (.func 156) #[] #[]]
theorem qo(w:World):Calls prog 102 #[] w λe w'=>e=.returned Kb/\Fp ab w w':=by
 go_enter func102,ntmps102
 go_wp2;exact bodyPost_ret (v:=Kb) (by simp[results,results102,go_sem]) rfl ⟨rfl,(Fp.refl ab w).alloc _⟩
structure Gg(lo b:Nat)(vn vt:Value)(s:St)(x:Pt)(fk:Nat)(fc:Array Value):Prop where
 ix:∀w,(Instr.index 164 Kb (.int .i64 x.kind)).run prog w=.ok (.func (.func fk) #[] fc) w
 en:Enters prog fk
 call:∀w',Sw lo b vn vt s w'->jH w'->Calls prog fk (#[.pointer (some ⟨b,0,none⟩),fY x]++fc) w' (yU lo b vn vt (b7 s x).1 (b7 s x).2 w')
theorem RT(lo b:Nat)(vn vt:Value)(s:St)(x:Pt)(aN:dh s)(hm:cq x=true)(hn:s.nodes.length<=3900)(dJ:s.turns.length<=3900):∃fk fc,Gg lo b vn vt s x fk fc:=by
 have hk:=((bt x).1 hm).1;obtain⟨k,d,p,da,v,o,t⟩:=x;simp only at hk
 have ZO:k=1\/k=2\/k=3\/k=4\/k=5\/k=6\/k=7\/k=8\/k=9\/k=10:=by omega
 rcases ZO with rfl|rfl|rfl|rfl|rfl|rfl|rfl|rfl|rfl|rfl
 ·exact⟨_,#[],λw=>by kernel_rfl,enters_of func147 (by kernel_rfl) rfl,λw' h ht=>Kc h _ aN hm hn dJ ht rfl⟩
 ·exact⟨_,#[],λw=>by kernel_rfl,enters_of func148 (by kernel_rfl) rfl,λw' h ht=>RM h _ aN hm hn dJ ht rfl⟩
 ·exact⟨_,#[],λw=>by kernel_rfl,enters_of func149 (by kernel_rfl) rfl,λw' h ht=>Fm h _ aN hm hn dJ ht rfl⟩
 ·exact⟨_,#[],λw=>by kernel_rfl,enters_of func150 (by kernel_rfl) rfl,λw' h ht=>J6 h _ aN hm hn dJ ht rfl⟩
 ·exact⟨_,#[],λw=>by kernel_rfl,enters_of func151 (by kernel_rfl) rfl,λw' h ht=>JQ h _ aN hm hn dJ ht rfl⟩
 ·exact⟨_,#[],λw=>by kernel_rfl,enters_of func152 (by kernel_rfl) rfl,λw' h ht=>Ot h _ aN hm hn dJ ht rfl⟩
 ·exact⟨_,#[],λw=>by kernel_rfl,enters_of func153 (by kernel_rfl) rfl,λw' h ht=>Ou h _ aN hm hn dJ ht rfl⟩
 ·exact⟨_,#[],λw=>by kernel_rfl,enters_of func154 (by kernel_rfl) rfl,λw' h ht=>RV h _ aN hm hn dJ ht rfl⟩
 ·exact⟨_,#[],λw=>by kernel_rfl,enters_of func155 (by kernel_rfl) rfl,λw' h ht=>JR h _ aN hm hn dJ ht rfl⟩
 exact⟨_,#[],λw=>by kernel_rfl,enters_of func156 (by kernel_rfl) rfl,λw' h ht=>JS h _ aN hm hn dJ ht rfl⟩
structure RX(w:World)(s':St)(r:dp)(e:Ending)(w':World):Prop where
 ex:∃v' nv,e=.returned (.tuple #[v',.agg #[.int .i64 r.err,au r.path,au r.data,.int .i64 r.aX,nv]])/\tf w' v' s'/\Own w.heap.size w' nv r.names
 fp:Fp ab w w'
 Ov:r.err=0->∃vn vt x,e=.returned (.tuple #[.agg #[vn,vt],x])/\Ow w.heap.size w' vn s'.nodes/\ey w.heap.size w' vt s'.turns
structure zO(w:World)(fS fT:Value)(k:Int)(d p da:Bs)(v o:Int)(t:Bool)(W:World):Prop where
 sb:W.heap[w.heap.size]?=some (.cells #[fS,fT] aM (0,0))
 pb:W.heap[w.heap.size+1]?=some (.cells #[.int .i64 k,.string (B d),.string (B p),.string (B da),.int .i64 v,.int .i64 o,.bool t] TP (0,0))
 zs:W.heap[w.heap.size+2]?=some (.cells #[.slice none 0 0,.slice none 0 0] aM (0,0))
 zr:W.heap[w.heap.size+3]?=some (.cells #[.int .i64 0,.string ⟨#[]⟩,.string ⟨#[]⟩,.int .i64 0,.slice none 0 0] TR (0,0))
 sz:w.heap.size+4<=W.heap.size
 fp:Fp ab w W
theorem zO.made(w:World)(fS fT:Value)(k:Int)(d p da:Bs)(v o:Int)(t:Bool):zO w fS fT k d p da v o t ((((w.alloc (.cells #[fS,fT] aM)).alloc (.cells #[.int .i64 k,.string (B d),.string (B p),.string (B da),.int .i64 v,.int .i64 o,.bool t] TP)).alloc (.cells #[.slice none 0 0,.slice none 0 0] aM)).alloc (.cells #[.int .i64 0,.string ⟨#[]⟩,.string ⟨#[]⟩,.int .i64 0,.slice none 0 0] TR)):=by
 have f1:=aa w (.cells #[fS,fT] aM);have f2:=aa (w.alloc (.cells #[fS,fT] aM)) (.cells #[.int .i64 k,.string (B d),.string (B p),.string (B da),.int .i64 v,.int .i64 o,.bool t] TP);have f3:=aa ((w.alloc (.cells #[fS,fT] aM)).alloc (.cells #[.int .i64 k,.string (B d),.string (B p),.string (B da),.int .i64 v,.int .i64 o,.bool t] TP)) (.cells #[.slice none 0 0,.slice none 0 0] aM);have f4:=aa (((w.alloc (.cells #[fS,fT] aM)).alloc (.cells #[.int .i64 k,.string (B d),.string (B p),.string (B da),.int .i64 v,.int .i64 o,.bool t] TP)).alloc (.cells #[.slice none 0 0,.slice none 0 0] aM)) (.cells #[.int .i64 0,.string ⟨#[]⟩,.string ⟨#[]⟩,.int .i64 0,.slice none 0 0] TR);refine⟨((f2.then f3).then f4).heap (heap_alloc_new w _) id,?_,?_,?_,by simp,((f1.then f2).then f3).then f4⟩
 ·have:=heap_alloc_new (w.alloc (.cells #[fS,fT] aM)) (.cells #[.int .i64 k,.string (B d),.string (B p),.string (B da),.int .i64 v,.int .i64 o,.bool t] TP)
  exact(f3.then f4).heap (by simpa using this) id
 ·have:=heap_alloc_new ((w.alloc (.cells #[fS,fT] aM)).alloc (.cells #[.int .i64 k,.string (B d),.string (B p),.string (B da),.int .i64 v,.int .i64 o,.bool t] TP)) (.cells #[.slice none 0 0,.slice none 0 0] aM)
  exact f4.heap (by simpa using this) id
 have:=heap_alloc_new (((w.alloc (.cells #[fS,fT] aM)).alloc (.cells #[.int .i64 k,.string (B d),.string (B p),.string (B da),.int .i64 v,.int .i64 o,.bool t] TP)).alloc (.cells #[.slice none 0 0,.slice none 0 0] aM)) (.cells #[.int .i64 0,.string ⟨#[]⟩,.string ⟨#[]⟩,.int .i64 0,.slice none 0 0] TR);simpa using this
theorem zO.keep{w W W':World}{fS fT:Value}{k:Int}{d p da:Bs}{v o:Int}{t:Bool}(h:zO w fS fT k d p da v o t W){S:Nat->Prop}(f:Fp S W W')(hS:∀j,S j->w.heap.size+4<=j):zO w fS fT k d p da v o t W':=
 ⟨f.heap h.sb (λe=>by have:=hS _ e;omega),f.heap h.pb (λe=>by have:=hS _ e;omega),f.heap h.zs (λe=>by have:=hS _ e;omega),f.heap h.zr (λe=>by have:=hS _ e;omega),Nat.le_trans h.sz f.size,h.fp.trans f (λj hj=>.inr (by have:=hS j hj;omega))⟩
theorem zO.af{w W W':World}{fS fT:Value}{k:Int}{d p da:Bs}{v o:Int}{t:Bool}(h:zO w fS fT k d p da v o t W)(f:Fp ab W W'):zO w fS fT k d p da v o t W':=h.keep f (λ_ h=>h.elim)
theorem Kp.Z1{w W:World}{fS fT:Value}{k:Int}{d p da:Bs}{v o:Int}{t:Bool}(h:zO w fS fT k d p da v o t W):Kp (λW'=>zO w fS fT k d p da v o t W') W:=λW' f=>h.af f
theorem aI{w:World}{b:Nat}{T:TypeId}{c0 c1:Value}(h:w.heap[b]?=some (.cells #[c0,c1] T (0,0))):w.cell? ⟨b,0,none⟩=some c0/\w.cell? ⟨b,1,none⟩=some c1:=
 ⟨by rw[cell_of_row _ _ _ _ _ _ h];rfl,by rw[cell_of_row _ _ _ _ _ _ h];rfl⟩
theorem Ow.lower{lo RY:Nat}{w:World}{v:Value}{l:List Nd}(h:Ow RY w v l)(k:lo<=RY):Ow lo w v l:=by
 refine⟨h.1,?_⟩;rcases h.2 with hn|⟨g,cap,cur,e,hg,rest⟩
 ·exact .inl hn
 exact .inr ⟨g,cap,cur,e,Nat.le_trans k hg,rest⟩
theorem ey.lower{lo RY:Nat}{w:World}{v:Value}{l:List Tu}(h:ey RY w v l)(k:lo<=RY):ey lo w v l:=by
 refine⟨h.1,?_⟩;rcases h.2 with hn|⟨g,cap,cur,e,hg,rest⟩
 ·exact .inl hn
 exact .inr ⟨g,cap,cur,e,Nat.le_trans k hg,rest⟩
theorem Ow.ne{lo:Nat}{w:World}{v:Value}{l:List Nd}(h:Ow lo w v l){q:Nat}{cs:Array Value}(hq:w.heap[q]?=some (.cells cs TR (0,0))):v.ownBlock≠some q:=by
 rcases h.ways with⟨rfl,_⟩|⟨G,cap,rfl,h1,_⟩
 ·simp[Value.ownBlock]
 intro e;simp only[Value.ownBlock,Option.some.injEq]at e
 subst e;obtain⟨r,h2,_⟩:=h1.ex;rw[h2]at hq;injection hq with hq
 injection hq with _ hq _
 exact absurd hq (by decide)
theorem ey.ne{lo:Nat}{w:World}{v:Value}{l:List Tu}(h:ey lo w v l){q:Nat}{cs:Array Value}(hq:w.heap[q]?=some (.cells cs TR (0,0))):v.ownBlock≠some q:=by
 rcases h.ways with⟨rfl,_⟩|⟨G,cap,rfl,h1,_⟩
 ·simp[Value.ownBlock]
 intro e;simp only[Value.ownBlock,Option.some.injEq]at e
 subst e;obtain⟨r,h2,_⟩:=h1.ex;rw[h2]at hq;injection hq with hq
 injection hq with _ hq _
 exact absurd hq (by decide)
structure Gh(w:World)(fS fT:Value)(k:Int)(d p da:Bs)(v o:Int)(t:Bool)(b:Nat)(s':St)(r:dp)(q:Nat)(nv:Value)(W:World):Prop where
 ex:∃jB iA,Sw (w.heap.size+4) b jB iA s' W
 own:Own (w.heap.size+4) W nv r.names
 bx:zO w fS fT k d p da v o t W
 q4:w.heap.size+4<=q
 row:W.heap[q]?=some (.cells #[.int .i64 r.err,.string (B r.path),.string (B r.data),.int .i64 r.aX,nv] TR (0,0))
theorem mA{w:World}{b:Nat}{T:TypeId}{a0 a1:Value}(h:w.heap[b]?=some (.cells #[a0,a1] T (0,0)))(v0 v1:Value):
  ((w.setCell ⟨b,0,none⟩ v0).setCell ⟨b,1,none⟩ v1).heap[b]?=some (.cells #[v0,v1] T (0,0)):=heap_setCell_same _ b 1 _ T v1 (heap_setCell_same w b 0 _ T v0 h)
theorem Gh.of{w u u2 u3:World}{fS fT jK iN:Value}{k:Int}{d p da:Bs}{v o:Int}{t:Bool}{b:Nat}{s s':St}{r:dp}{q:Nat}{nv jB iA:Value}
  (h:Sw (w.heap.size+4) b jK iN s u) (hB:zO w fS fT k d p da v o t u) (hs:Sw (w.heap.size+4) b jB iA s' u2) (ho:Own u.heap.size u2 nv r.names) (f:Fp (rU b jK iN) u u2) (f3:Fp ab u2 u3)
  (hq:u3.heap[q]?=some (.cells #[.int .i64 0,.string ⟨#[]⟩,.string ⟨#[]⟩,.int .i64 0,.slice none 0 0] TR (0,0))) (Z2:w.heap.size+4<=q) (hnq:nv.ownBlock≠some q):
  Gh w fS fT k d p da v o t b s' r q nv (((((u3.setCell ⟨q,0,none⟩ (.int .i64 r.err)).setCell ⟨q,1,none⟩ (.string (B r.path))).setCell ⟨q,2,none⟩ (.string (B r.data))).setCell ⟨q,3,none⟩ (.int .i64 r.aX)).setCell ⟨q,4,none⟩ nv):=by
 have fk:=QB (S:=λj=>j=q) (Fp.refl _ u3) (b:=q) (.inl rfl) (.int .i64 r.err) (.string (B r.path)) (.string (B r.data)) (.int .i64 r.aX) nv
 have vM:=hs.af f3
 have aL:∀j,rU b jK iN j->w.heap.size+4<=j:=λj hj=>by
  rcases hj with e|e|e
  ·rw[e];exact h.low
  ·exact(World.ownsRow.lt h.own j e).1
  exact(World.ownsRow.lt h.ez j e).1
 refine⟨⟨jB,iA,vM.keep fk (λe=>?_) (λj hj e=>vM.own.ne hq (by rw[hj,e])) (λj hj e=>vM.ez.ne hq (by rw[hj,e]))⟩,?_,?_,Z2,ew hq _ _ _ _ _⟩
 ·have h1:=vM.dR
  rw[e,hq]at h1;injection h1 with h1
  injection h1 with _ h1 _
  exact absurd h1 (by decide)
 ·exact⟨fk.owns ((ho.low hB.sz).dU f3).1 (λj hj e=>hnq (by rw[hj,e])),ho.2⟩
 exact((hB.keep f aL).af f3).keep fk (λj hj=>by rw[hj];exact Z2)
theorem uJ{w W:World}{fS fT:Value}{k:Int}{d p da:Bs}{v o:Int}{t:Bool}(h:zO w fS fT k d p da v o t W)(a0 a1 v0 v1 v2 v3 v4:Value):
  (((((((W.setCell ⟨w.heap.size+2,0,none⟩ a0).setCell ⟨w.heap.size+2,1,none⟩ a1).setCell ⟨w.heap.size+3,0,none⟩ v0).setCell ⟨w.heap.size+3,1,none⟩ v1).setCell ⟨w.heap.size+3,2,none⟩ v2).setCell ⟨w.heap.size+3,3,none⟩ v3).setCell ⟨w.heap.size+3,4,none⟩ v4).heap[w.heap.size+2]?=some (.cells #[a0,a1] aM (0,0))/\
  (((((((W.setCell ⟨w.heap.size+2,0,none⟩ a0).setCell ⟨w.heap.size+2,1,none⟩ a1).setCell ⟨w.heap.size+3,0,none⟩ v0).setCell ⟨w.heap.size+3,1,none⟩ v1).setCell ⟨w.heap.size+3,2,none⟩ v2).setCell ⟨w.heap.size+3,3,none⟩ v3).setCell ⟨w.heap.size+3,4,none⟩ v4).heap[w.heap.size+3]?=some (.cells #[v0,v1,v2,v3,v4] TR (0,0))/\
  Fp ab w (((((((W.setCell ⟨w.heap.size+2,0,none⟩ a0).setCell ⟨w.heap.size+2,1,none⟩ a1).setCell ⟨w.heap.size+3,0,none⟩ v0).setCell ⟨w.heap.size+3,1,none⟩ v1).setCell ⟨w.heap.size+3,2,none⟩ v2).setCell ⟨w.heap.size+3,3,none⟩ v3).setCell ⟨w.heap.size+3,4,none⟩ v4)/\
  Fp (λj=>j=w.heap.size+2\/j=w.heap.size+3) W (((((((W.setCell ⟨w.heap.size+2,0,none⟩ a0).setCell ⟨w.heap.size+2,1,none⟩ a1).setCell ⟨w.heap.size+3,0,none⟩ v0).setCell ⟨w.heap.size+3,1,none⟩ v1).setCell ⟨w.heap.size+3,2,none⟩ v2).setCell ⟨w.heap.size+3,3,none⟩ v3).setCell ⟨w.heap.size+3,4,none⟩ v4):=by
 have f2:Fp (λj=>j=w.heap.size+2) W ((W.setCell ⟨w.heap.size+2,0,none⟩ a0).setCell ⟨w.heap.size+2,1,none⟩ a1):=((Fp.refl (λj=>j=w.heap.size+2) W).setCell (p:=⟨w.heap.size+2,0,none⟩) (.inl rfl) a0).setCell (p:=⟨w.heap.size+2,1,none⟩) (.inl rfl) a1
 have f5:=QB (S:=λj=>j=w.heap.size+3) (Fp.refl _ ((W.setCell ⟨w.heap.size+2,0,none⟩ a0).setCell ⟨w.heap.size+2,1,none⟩ a1)) (b:=w.heap.size+3) (.inl rfl) v0 v1 v2 v3 v4
 have RZ:=(f2.mono (T:=λj=>j=w.heap.size+2\/j=w.heap.size+3) (λj hj=>.inl hj)).same (f5.mono (λj hj=>.inr hj))
 refine⟨f5.heap (mA h.zs a0 a1) (λe=>by omega),ew (f2.heap h.zr (λe=>by omega)) v0 v1 v2 v3 v4,h.fp.trans RZ (λj hj=>.inr (by omega)),RZ⟩
theorem R0(fS fT:Value)(s:St)(x:Pt)(w:World)(hv:tf w (.agg #[fS,fT]) s)(hs:Sp s.nodes)(aN:∀t∈s.turns,t.dir.length<=1000000)(hn:s.nodes.length<=3900)(dJ:s.turns.length<=3900)(hp:x.path.length<=1000000)(cP:¬(dB s=true/\cq x=true)):
  Calls prog 69 #[.agg #[fS,fT],fY x] w (RX w ⟨[],[]⟩ (.bad 1)):=by
 have tg:=λW (f:Fp ab w W)=>j4 (.agg #[fS,fT]) s W (hv.af f) hs (by omega) aN (by omega)
 have rW:=λW=>zQ x W hp
 obtain⟨br,aK⟩:∃br,dB s=br:=⟨_,rfl⟩;obtain⟨bm,Dd⟩:∃bm,cq x=bm:=⟨_,rfl⟩;rw[aK]at tg;rw[Dd]at rW;rw[aK,Dd]at cP;obtain⟨k,d,p,da,v,o,t⟩:=x;have cG:fY ⟨k,d,p,da,v,o,t⟩=.agg #[.int .i64 k,.string (B d),.string (B p),.string (B da),.int .i64 v,.int .i64 o,.bool t]:=rfl;rw[cG]at rW|-;have K0:=zI (Kp.Z1 (zO.made w fS fT k d p da v o t));have HR:=zI tg;have HM:=zI rW;clear tg rW hv hs aN hn dJ hp aK Dd cG;cases br with
 |false=>
  clear cP;go_enter func69,ntmps69
  generalize dw:((((w.alloc (.cells #[fS,fT] aM)).alloc (.cells #[.int .i64 k,.string (B d),.string (B p),.string (B da),.int .i64 v,.int .i64 o,.bool t] TP)).alloc (.cells #[.slice none 0 0,.slice none 0 0] aM)).alloc (.cells #[.int .i64 0,.string ⟨#[]⟩,.string ⟨#[]⟩,.int .i64 0,.slice none 0 0] TR))=W0 at *;obtain⟨s0,s1⟩:=aI K0.now.sb;go_wp2_with fail
  clear dw;refine(HR _ K0.now.fp).mono ?_;rintro e w1⟨rfl,hf⟩;have K1:=zI (K0.later hf);clear hf s0 s1;go_wp2_with fail
  refine(bG 1 _).mono ?_;rintro e w9⟨rfl,hf⟩;have K9:=zI (K1.later hf);clear hf;unfold jI;have hb:=K9.now;obtain⟨y0,y1⟩:=aI hb.zs;have u0:=ae hb.zs 0;have u1:=ae hb.zs 1;obtain⟨r0,r1,r2,r3,r4⟩:=ji hb.zr;have z0:=ae hb.zr 0;have z1:=ae hb.zr 1;have z2:=ae hb.zr 2;have z3:=ae hb.zr 3;have z4:=ae hb.zr 4;have HD:=zI (uJ hb nS nS (.int .i64 1) (.string ⟨#[]⟩) (.string ⟨#[]⟩) (.int .i64 0) (.slice none 0 0));clear hb;go_wp2;have hd:=HD.out;generalize (((((World.setCell _ _ _).setCell _ _).setCell _ _).setCell _ _).setCell _ _)=wz at *;obtain⟨t0,t1⟩:=aI hd.1;obtain⟨s0,s1,s2,s3,s4⟩:=ji hd.2.1;exact bodyPost_ret (v:=.tuple #[.agg #[.slice none 0 0,.slice none 0 0],.agg #[.int .i64 1,.string ⟨#[]⟩,.string ⟨#[]⟩,.int .i64 0,.slice none 0 0]]) (by simp[results,results69,go_sem,t0,t1,s0,s1,s2,s3,s4]) rfl ⟨⟨_,_,rfl,⟨_,_,rfl,Ns.nil _,Ts.nil _⟩,Own.nil _ _⟩,hd.2.2.1,λh=>absurd h (by decide)⟩
 |true=>?_
 obtain rfl:bm=false:=by
  cases bm with
  |false=>rfl
  |true=>exact absurd ⟨rfl,rfl⟩ cP
 clear cP;go_enter func69,ntmps69
 generalize dw:((((w.alloc (.cells #[fS,fT] aM)).alloc (.cells #[.int .i64 k,.string (B d),.string (B p),.string (B da),.int .i64 v,.int .i64 o,.bool t] TP)).alloc (.cells #[.slice none 0 0,.slice none 0 0] aM)).alloc (.cells #[.int .i64 0,.string ⟨#[]⟩,.string ⟨#[]⟩,.int .i64 0,.slice none 0 0] TR))=W0 at *;obtain⟨s0,s1⟩:=aI K0.now.sb;go_wp2_with fail
 clear dw;refine(HR _ K0.now.fp).mono ?_;rintro e w1⟨rfl,hf⟩;have K1:=zI (K0.later hf);clear hf s0 s1;obtain⟨o0,o1,o2,o3,o4,o5,o6⟩:=aH K1.now.pb;go_wp2_with fail
 refine(HM _).mono ?_;rintro e w2⟨rfl,hf⟩;have K2:=zI (K1.later hf);clear hf o0 o1 o2 o3 o4 o5 o6;go_wp2_with fail
 refine(bG 1 _).mono ?_;rintro e w9⟨rfl,hf⟩;have K9:=zI (K2.later hf);clear hf;unfold jI;have hb:=K9.now;obtain⟨y0,y1⟩:=aI hb.zs;have u0:=ae hb.zs 0;have u1:=ae hb.zs 1;obtain⟨r0,r1,r2,r3,r4⟩:=ji hb.zr;have z0:=ae hb.zr 0;have z1:=ae hb.zr 1;have z2:=ae hb.zr 2;have z3:=ae hb.zr 3;have z4:=ae hb.zr 4;have HD:=zI (uJ hb nS nS (.int .i64 1) (.string ⟨#[]⟩) (.string ⟨#[]⟩) (.int .i64 0) (.slice none 0 0));clear hb;go_wp2;have hd:=HD.out;generalize (((((World.setCell _ _ _).setCell _ _).setCell _ _).setCell _ _).setCell _ _)=wz at *;obtain⟨t0,t1⟩:=aI hd.1;obtain⟨s0,s1,s2,s3,s4⟩:=ji hd.2.1;exact bodyPost_ret (v:=.tuple #[.agg #[.slice none 0 0,.slice none 0 0],.agg #[.int .i64 1,.string ⟨#[]⟩,.string ⟨#[]⟩,.int .i64 0,.slice none 0 0]]) (by simp[results,results69,go_sem,t0,t1,s0,s1,s2,s3,s4]) rfl ⟨⟨_,_,rfl,⟨_,_,rfl,Ns.nil _,Ts.nil _⟩,Own.nil _ _⟩,hd.2.2.1,λh=>absurd h (by decide)⟩
end
section
open Go.RowKit Pm
structure Rw where
 r:dp
 na:Option Addr
 nc:Nat
def Rw.nv(x:Rw):Value:=.slice x.na x.r.names.length x.nc
def wX(x:Rw):List Value:=[.int .i64 x.r.err,au x.r.path,au x.r.data,.int .i64 x.r.aX,x.nv]
theorem gZ(x:Rw):(wX x).length=5:=rfl
theorem BV(x:Rw):∀u∈wX x,u.oneCell'=true:=by
 intro u hu;simp only[wX,List.mem_cons,List.not_mem_nil,or_false]at hu
 rcases hu with rfl|rfl|rfl|rfl|rfl<;>rfl
structure Gi(w:World)(v:Value)(rs:List dp):Prop where
 ex:∃L:List Rw,L.map Rw.r=rs/\Sg wX 5 w v L/\∀x∈L,∃lo,Own lo w x.nv x.r.names
theorem Gi.af{w w':World}{v:Value}{rs:List dp}(h:Gi w v rs)(f:Fp ab w w'):Gi w' v rs:=by
 obtain⟨L,h1,h2,h3⟩:=h.ex;exact⟨L,h1,h2.af f,λx hx=>by obtain⟨lo,h⟩:=h3 x hx;exact⟨lo,h.dU f⟩⟩
structure oW(lo:Nat)(w:World)(v:Value)(rs:List dp):Prop where
 ex:∃L:List Rw,L.map Rw.r=rs/\dT TR wX 5 lo w v L/\∀x∈L,Own lo w x.nv x.r.names
theorem oW.af{lo:Nat}{w w':World}{v:Value}{rs:List dp}(h:oW lo w v rs)(f:Fp ab w w'):oW lo w' v rs:=by
 obtain⟨L,h1,h2,h3⟩:=h.ex;exact⟨L,h1,h2.af f,λx hx=>(h3 x hx).dU f⟩
theorem oW.nil(lo:Nat)(w:World):oW lo w (.slice none 0 0) []:=⟨[],rfl,dT.nil _ _,λ_ h=>by cases h⟩
theorem oW.rrs{lo:Nat}{w:World}{v:Value}{rs:List dp}(h:oW lo w v rs):Gi w v rs:=by
 obtain⟨L,h1,h2,h3⟩:=h.ex;exact⟨L,h1,h2.sg gZ,λx hx=>⟨lo,h3 x hx⟩⟩
theorem oW.shape{lo:Nat}{w:World}{v:Value}{rs:List dp}(h:oW lo w v rs):∃a c,v=.slice a rs.length c:=by
 obtain⟨L,h1,h2,_⟩:=h.ex;obtain⟨a,c,e⟩:=(h2.sg gZ).shape;rw[<-h1,List.length_map];exact⟨a,c,e⟩
theorem dT.type{α:Type}{T:TypeId}{enc:α->List Value}{k lo:Nat}{w:World}{v:Value}{l:List α}(h:dT T enc k lo w v l){j:Nat}(hj:v.ownBlock=some j):∃cs,w.heap[j]?=some (.cells cs T (0,0)):=by
 rcases h.2 with⟨rfl,_⟩|⟨g,cap,cur,rfl,hb,hg,_⟩
 ·simp[Value.ownBlock]at hj
 have:g=j:=by simpa[Value.ownBlock]using hj
 subst this;exact⟨_,hg⟩
theorem Tryz.MJ:(prog.info? TR).map (λi=>(i.zero,i.size,i.bytes))=some (some (.agg #[.int .i64 0,.string ⟨#[]⟩,.string ⟨#[]⟩,.int .i64 0,.slice none 0 0]),5,72):=by kernel_rfl
abbrev EF:TypeId:=37
structure Z3(lo:Nat)(w:World)(v:Value)(rs:List dp)(v':Value)(w':World):Prop where
 own:oW lo w' v' rs
 fp:Fp (λk=>v.ownBlock=some k) w w'
 new:∀j,v'.ownBlock=some j->v.ownBlock=some j\/w.heap.size<=j
theorem Own.type{lo:Nat}{w:World}{v:Value}{ps:List Bs}(h:Own lo w v ps){j:Nat}(hj:v.ownBlock=some j):∃cs,w.heap[j]?=some (.cells cs 9 (0,0)):=by
 rcases h.1.2 with⟨e0,_⟩|⟨g,cap,cur,e0,Vj,NW,_⟩
 ·rw[e0]at hj;simp[Value.ownBlock]at hj
 rw[e0]at hj;have:g=j:=by simpa[Value.ownBlock]using hj
 subst this;exact⟨_,NW⟩
theorem bP{w:World}{i:Nat}{c d:Array Value}{S T:TypeId}(h:w.heap[i]?=some (.cells c S (0,0)))(k:w.heap[i]?=some (.cells d T (0,0)))(Xg:S≠T):False:=by
 rw[k]at h;injection h with h
 injection h with _ h _
 exact Xg h.symm
theorem oW.keep{lo:Nat}{w w':World}{v:Value}{rs:List dp}(h:oW lo w v rs){b:Nat}{cs:Array Value}(hb:w.heap[b]?=some (.cells cs TR (0,0)))(hv:∀j,v.ownBlock=some j->j≠b)(f:Fp (λj=>j=b) w w'):oW lo w' v rs:=by
 obtain⟨L,h1,h2,h3⟩:=h.ex;refine⟨L,h1,f.owns h2 (λj hj e=>hv j hj e),λx hx=>⟨f.owns (h3 x hx).1 (λj hj e=>?_),(h3 x hx).2⟩⟩
 obtain⟨_,t1⟩:=(h3 x hx).type hj;have e:j=b:=e;subst e;exact bP t1 hb (by decide)
theorem oW.type{lo:Nat}{w:World}{v:Value}{rs:List dp}(h:oW lo w v rs){j:Nat}(hj:v.ownBlock=some j):∃cs,w.heap[j]?=some (.cells cs TR (0,0)):=by
 obtain⟨L,h1,h2,h3⟩:=h.ex;exact h2.type hj
theorem oW.lt{lo:Nat}{w:World}{v:Value}{rs:List dp}(h:oW lo w v rs):∀j,v.ownBlock=some j->lo<=j/\j<w.heap.size:=by
 obtain⟨L,h1,h2,h3⟩:=h.ex;exact h2.lt
theorem Kd(w:World)(lo:Nat)(v:Value)(rs:List dp)(r:dp)(na:Option Addr)(nc:Nat)(ty:TypeId)(ho:oW lo w v rs)(hn:rs.length<=50000)(bq:lo<=w.heap.size)(Jm:Own lo w (.slice na r.names.length nc) r.names):
  ∃v' w',(Builtin.append_ #[EF,EF] ty #[v,.slice (some ⟨w.heap.size,0,none⟩) 1 1]).run prog (w.alloc (.cells #[.int .i64 r.err,au r.path,au r.data,.int .i64 r.aX,.slice na r.names.length nc] TR))=.ok v' w'/\
   Z3 lo (w.alloc (.cells #[.int .i64 r.err,au r.path,au r.data,.int .i64 r.aX,.slice na r.names.length nc] TR)) v (rs++[r]) v' w':=by
 have hf:=aa w (.cells #[.int .i64 r.err,au r.path,au r.data,.int .i64 r.aX,.slice na r.names.length nc] TR);have hb:=heap_alloc_new w (.cells #[.int .i64 r.err,au r.path,au r.data,.int .i64 r.aX,.slice na r.names.length nc] TR);generalize (w.alloc (.cells #[.int .i64 r.err,au r.path,au r.data,.int .i64 r.aX,.slice na r.names.length nc] TR))=W at *;obtain⟨L,h1,h2,h3⟩:=(ho.af hf).ex;have hL:L.length=rs.length:=by rw[<-h1,List.length_map]
 obtain⟨v',w',hr,k1,k2,k3⟩:=j5 (enc:=wX) gZ BV (SL:=EF) (T:=TR) Tryz.underlying37 Tryz.MJ rfl (by decide) (by decide) W lo v L [⟨r,na,nc⟩] ty ⟨w.heap.size,0,none⟩ 1 1 h2 rfl (λi hi j u hu=>by
  have dC:i=0:=by simp at hi;omega
  subst dC;rw[Addr.add_lit,cell_of_row _ _ _ _ _ _ hb];rw[show 0+(0*5+j)=j from by omega]
  simpa[wX,Rw.nv]using hu) (by simp;omega) (Nat.le_trans bq hf.size)
 have kf:Fp (λk=>v.ownBlock=some k) W w':=(Fp.refl _ _).grown k2 (λk hk=>.inl hk)
 refine⟨v',w',hr,⟨L++[⟨r,na,nc⟩],by rw[List.map_append,h1];rfl,k1,λx hx=>?_⟩,kf,k3⟩
 have hk:∀y:Rw,Own lo W y.nv y.r.names->Own lo w' y.nv y.r.names:=λy hy=>by
  refine⟨kf.owns hy.1 (λj hj e=>?_),hy.2⟩
  obtain⟨_,t1⟩:=h2.type e
  have t2:∃cs,W.heap[j]?=some (.cells cs 9 (0,0)):=by
   rcases hy.1.2 with⟨e0,_⟩|⟨g,cap,cur,e0,Vj,NW,_⟩
   ·rw[e0]at hj;simp[Value.ownBlock]at hj
   rw[e0]at hj;have:g=j:=by simpa[Value.ownBlock]using hj
   subst this;exact⟨_,NW⟩
  obtain⟨_,t2⟩:=t2;rw[t1]at t2;injection t2 with t2
  injection t2 with _ t2 _
  exact absurd t2 (by decide)
 rcases List.mem_append.1 hx with hx|hx
 ·exact hk x (h3 x hx)
 rw[List.mem_singleton.1 hx];exact hk _ (Jm.dU hf)
theorem pF(n:Int)(w:World):Calls prog 262 #[.int .i64 n] w λe w'=>e=.returned (.bool (rX n))/\w'=w:=by
 go_enter func262,ntmps262
 go_wp2;all_goals (go_ret;refine⟨aB ?_,rfl⟩;unfold rX tj;rw[Bool.eq_iff_iff];simp;omega)
theorem uK(x:Wt)(w:World)(hp:x.p.length<=1000000):Calls prog 206 #[BW x] w λe w'=>e=.returned (.bool (Dj x))/\Fp ab w w':=by
 obtain⟨s,n,p,d⟩:=x;have h1:=λw=>pF s w
 have h2:=λw=>pF n w
 have h3:=λw=>cE p w (cH hp (by omega))
 have e:Dj ⟨s,n,p,d⟩=(rX s && rX n && (split p).isSome):=rfl;rw[e];have HF:=zI (aa w (.cells #[.int .i64 s,.int .i64 n,.string (B p),.bool d] TW));unfold BW au;generalize rX s=b1 at *;generalize rX n=b2 at *;generalize (split p).isSome=b3 at *;have H1:=zI h1;have H2:=zI h2;have H3:=zI h3;clear h1 h2 h3 hp e;go_enter func206,ntmps206
 go_wp2_with fail
 refine(H1 _).mono ?_;rintro e w1⟨rfl,rfl⟩;cases b1 with
 |false=>
  go_wp2;go_ret;exact⟨rfl,HF.out⟩
 |true=>?_
 go_wp2_with fail
 refine(H2 _).mono ?_;rintro e w1⟨rfl,rfl⟩;cases b2 with
 |false=>
  go_wp2;go_ret;exact⟨rfl,HF.out⟩
 |true=>?_
 go_wp2_with fail
 refine(H3 _).mono ?_;rintro e w2⟨rfl,hf⟩;have HG:=zI (HF.then hf.fp);clear hf;go_wp2;go_ret;exact⟨rfl,HG.out⟩
theorem wY(x:Wt)(g h:Nat)(s n:Int)(w:World)(hg:w.cell? ⟨g,0,none⟩=some (.int .i64 s))(hh:w.cell? ⟨h,0,none⟩=some (.int .i64 n)):
  Calls prog 264 #[BW x,.pointer (some ⟨g,0,none⟩),.pointer (some ⟨h,0,none⟩)] w λe w'=>e=.returned (.bool (hit s n x))/\Fp ab w w':=by
 obtain⟨a,b,p,d⟩:=x;unfold BW au;have hf:∀o,Fp ab w (w.alloc o):=λo=>(Fp.refl ab w).alloc o
 have Qx:∀o,(w.alloc o).cell? ⟨g,0,none⟩=some (.int .i64 s):=λo=>(hf o).cell hg id
 have Vm:∀o,(w.alloc o).cell? ⟨h,0,none⟩=some (.int .i64 n):=λo=>(hf o).cell hh id
 have HF:=zI hf;clear hf hg hh;go_enter func264,ntmps264
 go_wp2
 all_goals
  go_ret;refine⟨aB ?_,HF _⟩;unfold hit;rw[Bool.eq_iff_iff];simp[*]
theorem Ox(w:World)(g h:Nat)(s n:Int)(hg:w.cell? ⟨g,0,none⟩=some (.int .i64 s))(hh:w.cell? ⟨h,0,none⟩=some (.int .i64 n))(S:Nat->Prop)(hS:¬S g)(hT:¬S h):
  Gj S w (.func (.func 264) #[] #[.pointer (some ⟨g,0,none⟩),.pointer (some ⟨h,0,none⟩)]) (hit s n):=
 ⟨_,_,_,rfl,enters_of func264 (by kernel_rfl) rfl,λx w1 _ hf=>wY x g h s n w1 (hf.cell hg hS) (hf.cell hh hT)⟩
structure Xh(s n:Int)(w:World)(e:Ending)(w':World):Prop where
 ex:∃g h:Nat,e=.returned (.func (.func 264) #[] #[.pointer (some ⟨g,0,none⟩),.pointer (some ⟨h,0,none⟩)])/\w.heap.size<=g/\w.heap.size<=h/\w'.cell? ⟨g,0,none⟩=some (.int .i64 s)/\w'.cell? ⟨h,0,none⟩=some (.int .i64 n)
 fp:Fp ab w w'
theorem zR(s n:Int)(w:World):Calls prog 208 #[.int .i64 s,.int .i64 n] w (Xh s n w):=by
 go_enter func208,ntmps208
 go_wp2;go_ret;have f2:=aa (w.alloc (.cells #[.int .i64 s] 2)) (.cells #[.int .i64 n] 2);have r1:=heap_alloc_new w (.cells #[.int .i64 s] 2);have r2:=heap_alloc_new (w.alloc (.cells #[.int .i64 s] 2)) (.cells #[.int .i64 n] 2);have sz:(w.alloc (.cells #[.int .i64 s] 2)).heap.size=w.heap.size+1:=by simp
 rw[sz]at r2;refine⟨⟨w.heap.size,w.heap.size+1,rfl,Nat.le_refl _,by omega,?_,?_⟩,(aa w _).then f2⟩
 ·rw[cell_of_row _ _ _ _ _ _ (f2.heap r1 id)];rfl
 rw[cell_of_row _ _ _ _ _ _ r2];rfl
structure yY(w:World)(v:Value)(ss:List Se):Prop where
 ex:∃L:List aU,L.map aU.s=ss/\rM w v L/\∀x∈L,mB w x.ev x.s.cW
structure yZ(w:World)(v:Value)(d:Wd):Prop where
 ex:∃vw vs,v=.agg #[vw,vs]/\lM w vw d.ws/\yY w vs d.ss
theorem yY.af{w w':World}{v:Value}{ss:List Se}(h:yY w v ss)(f:Fp ab w w'):yY w' v ss:=by
 obtain⟨L,h1,h2,h3⟩:=h.ex;exact⟨L,h1,h2.af f,λx hx=>(h3 x hx).af f⟩
theorem yZ.af{w w':World}{v:Value}{d:Wd}(h:yZ w v d)(f:Fp ab w w'):yZ w' v d:=by
 obtain⟨vw,vs,h1,h2,h3⟩:=h.ex;exact⟨vw,vs,h1,h2.af f,h3.af f⟩
theorem yY.nil(w:World):yY w (.slice none 0 0) []:=⟨[],rfl,rM.nil w,λ_ h=>by cases h⟩
theorem yZ.nil(w:World):yZ w (.agg #[.slice none 0 0,.slice none 0 0]) ⟨[],[]⟩:=⟨_,_,rfl,lM.nil w,yY.nil w⟩
theorem yY.shape{w:World}{v:Value}{ss:List Se}(h:yY w v ss):∃a c,v=.slice a ss.length c:=by
 obtain⟨L,h1,h2,_⟩:=h.ex;obtain⟨a,c,e⟩:=h2.shape;rw[<-h1,List.length_map];exact⟨a,c,e⟩
structure Sa(d:Wd):Prop where
 w:d.ws.length<=30000
 s:d.ss.length<=30000
 wp:Sb d.ws
 sp:∀s∈d.ss,s.cW.length<=30000/\∀e∈s.cW,e.p.length<=1000000
theorem nH{w:World}{b:Nat}{T:TypeId}{c0 c1 c2:Value}(h:w.heap[b]?=some (.cells #[c0,c1,c2] T (0,0))):w.cell? ⟨b,0,none⟩=some c0/\w.cell? ⟨b,1,none⟩=some c1/\w.cell? ⟨b,2,none⟩=some c2:=
 ⟨by rw[cell_of_row _ _ _ _ _ _ h];rfl,by rw[cell_of_row _ _ _ _ _ _ h];rfl,by rw[cell_of_row _ _ _ _ _ _ h];rfl⟩
theorem j6{w:World}{b:Nat}{T:TypeId}{c0 c1 c2 c3:Value}(h:w.heap[b]?=some (.cells #[c0,c1,c2,c3] T (0,0))):w.cell? ⟨b,0,none⟩=some c0/\w.cell? ⟨b,1,none⟩=some c1/\w.cell? ⟨b,2,none⟩=some c2/\w.cell? ⟨b,3,none⟩=some c3:=
 ⟨by rw[cell_of_row _ _ _ _ _ _ h];rfl,by rw[cell_of_row _ _ _ _ _ _ h];rfl,by rw[cell_of_row _ _ _ _ _ _ h];rfl,by rw[cell_of_row _ _ _ _ _ _ h];rfl⟩
abbrev TD:TypeId:=57
def iO:List Se->Int->Nat
 |[],_=>0
 |s::r,n=>if s.num<n then iO r n+1 else 0
theorem Oy{l:List Se}{n:Int}{k:Nat}(hk:k<=l.length)(h1:∀i (h:i<l.length),i<k->l[i].num<n)(h2:∀i (h:i<l.length),k<=i->¬l[i].num<n):iO l n=k:=by
 induction l generalizing k with
 |nil=>
      have:k=0:=by simpa using hk
      subst this;rfl
 |cons s r ih=>
  unfold iO;cases k with
  |zero=>rw[if_neg (by have:=h2 0 (by simp) (Nat.le_refl _);simpa using this)]
  |succ k=>?_
  rw[if_pos (by have:=h1 0 (by simp) (Nat.succ_pos _);simpa using this)]
  rw[ih (k:=k) (by simpa using hk) (λi h hi=>h1 (i+1) (Nat.succ_lt_succ h) (by omega)) (λi h hi=>h2 (i+1) (Nat.succ_lt_succ h) (by omega))]
theorem qp(l:List Se)(n:Int):iO l n<=l.length:=by
 induction l with
 |nil=>exact Nat.le_refl _
 |cons s r ih=>unfold iO;split<;>simp<;>omega
theorem qu{l:List Se}(h:l.Pairwise (λa b=>a.num<b.num))(n:Int):cx l n=if h:iO l n<l.length then (if l[iO l n].num=n then some l[iO l n] else none) else none:=by
 induction l with
 |nil=>rfl
 |cons s r ih=>
  rw[List.pairwise_cons]at h;by_cases h1:s.num<n
  ·have e:iO (s::r) n=iO r n+1:=by simp only[iO,if_pos h1]
   simp only[e,cx]
   rw[if_neg (by omega),ih h.2]
   by_cases h2:iO r n<r.length
   ·rw[dif_pos h2,dif_pos (by simpa using h2)]
    simp only[List.getElem_cons_succ]
   rw[dif_neg h2,dif_neg (by simpa using h2)]
  have e:iO (s::r) n=0:=by simp only[iO,if_neg h1]
  simp only[e,cx]
  rw[dif_pos (by simp)]
  simp only[List.getElem_cons_zero]
  by_cases h2:s.num=n
  ·rw[if_pos h2,if_pos h2]
  rw[if_neg h2,if_neg h2];cases hg:cx r n with
  |none=>rfl
  |some x=>?_
  obtain⟨hx,hxn⟩:=iP hg;have:=h.1 x hx;omega
def Gk(l:List aU):Prop:=∀i j (hi:i<l.length) (hj:j<l.length),i<j->l[i].s.num<l[j].s.num
theorem Ke{l:List aU}(h:(l.map aU.s).Pairwise (λa b=>a.num<b.num)):Gk l:=λi j hi hj jR=>by
 have:=(List.pairwise_iff_getElem.1 h) i j (by simpa using hi) (by simpa using hj) jR
 simpa using this
theorem Gk.pw{l:List aU}(h:Gk l):(l.map aU.s).Pairwise (λa b=>a.num<b.num):=by
 rw[List.pairwise_iff_getElem];intro i j hi hj jR;simpa using h i j (by simpa using hi) (by simpa using hj) jR
theorem zV{l:List aU}(h:Gk l)(n:Int):cx (l.map aU.s) n=if h:iO (l.map aU.s) n<(l.map aU.s).length then (if (l.map aU.s)[iO (l.map aU.s) n].num=n then some (l.map aU.s)[iO (l.map aU.s) n] else none) else none:=qu h.pw n
theorem zW{l:List Se}(h:l.Pairwise (λa b=>a.num<b.num))(s:Se):cZ l s=l.take (iO l s.num)++s::l.drop (if (cx l s.num).isSome=true then iO l s.num+1 else iO l s.num):=by
 induction l with
 |nil=>rfl
 |cons x r ih=>
  rw[List.pairwise_cons]at h;by_cases h1:x.num<s.num
  ·simp only[cZ,iO,cx,if_pos h1,if_neg (show ¬x.num=s.num by omega)]
   rw[ih h.2];split<;>rename_i hs<;>simp[hs]
  by_cases h2:x.num=s.num
  ·simp only[cZ,iO,cx,if_neg h1,if_pos h2];simp
  have hn:cx r s.num=none:=by
   cases hg:cx r s.num with
   |none=>rfl
   |some y=>?_
   obtain⟨hy,hyn⟩:=iP hg;have:=h.1 y hy;omega
  simp only[cZ,iO,cx,if_neg h1,if_neg h2,hn];simp
def wZ(a b:Int):Int:=if a<b then -1 else if b<a then 1 else 0
theorem BZ(a:Int)(w:World):Calls prog 327 #[.int .i64 a] w λe w'=>e=.returned (.bool false)/\w'=w:=by
 go_enter func327,ntmps327
 go_wp2;go_ret;exact⟨by simp,rfl⟩
theorem Dk(a b:Int)(w:World):Calls prog 268 #[.int .i64 a,.int .i64 b] w λe w'=>e=.returned (.int .i64 (wZ a b))/\w'=w:=by
 go_enter func268,ntmps268
 go_wp2_with fail
 refine(BZ _ _).mono ?_;rintro e w1⟨rfl,rfl⟩;go_wp2_with fail
 refine(BZ _ _).mono ?_;rintro e w1⟨rfl,rfl⟩;go_wp2
 all_goals
  go_ret;refine⟨pB ?_,rfl⟩;unfold wZ;split<;>(try split)<;>omega
theorem tm(x:aU)(n:Int)(w:World):Calls prog 267 #[Oz x,.int .i64 n] w λe w'=>e=.returned (.int .i64 (wZ x.s.num n))/\Fp ab w w':=by
 obtain⟨⟨a,b,l⟩,o,c⟩:=x;unfold Oz aU.ev;have hf:∀o,Fp ab w (w.alloc o):=λo=>(Fp.refl ab w).alloc o
 have HF:=zI hf;clear hf;simp only
 generalize l.length=m;go_enter func267,ntmps267
 go_wp2_with fail
 refine(Dk _ _ _).mono ?_;rintro e w1⟨rfl,rfl⟩;go_wp2;go_ret;exact⟨rfl,HF _⟩
structure Vn(l:List aU)(p:Int)(w:World)(i j:Nat)(wr:World):Prop where
 fp:Fp ab w wr
 lo:∀x (h:x<l.length),x<i->l[x].s.num<p
 hi:∀x (h:x<l.length),j<=x->p<=l[x].s.num
 ij:i<=j
 jn:j<=l.length
theorem Dl(v:Value)(l:List aU)(p:Int)(w:World)(hv:rM w v l)(ha:Gk l)(hn:l.length<=1000000):
  Calls prog 266 #[v,.int .i64 p,.func (.func 267) #[] #[]] w λe w'=>e=.returned (.tuple #[.int .i64 (iO (l.map aU.s) p),.bool (cx (l.map aU.s) p).isSome])/\Fp ab w w':=by
 obtain⟨ao,cap,rfl⟩:=hv.shape;obtain⟨n,aR⟩:∃n,n=l.length:=⟨_,rfl⟩;have HX:=zI (yI aR (yI hv ha));have H0:Hid (Vn l p w 0 n w):=⟨Fp.refl _ _,λx _ h=>absurd h (Nat.not_lt_zero x),λx h1 h2=>by omega,Nat.zero_le _,by omega⟩
 rw[<-aR];have jS:n<=1000000:=by omega
 clear hv ha hn aR;go_enter func266,ntmps266
 go_wp2_with fail
 go_loopw [9,10] (λi j wr=>∃a b:Nat,a<=n/\b<=n/\i=.int .i64 a/\j=.int .i64 b/\Hid (Vn l p w a b wr)) (λi j _=>(RowKit.intOf j).toNat-(RowKit.intOf i).toNat)
 case atStart=>exact⟨0,n,Nat.zero_le _,Nat.le_refl _,rfl,rfl,H0⟩
 obtain⟨a,b,iQ,mC,rfl,rfl,hR⟩:=hrel;rename_i wr _
 by_cases ay:a<b
 ·obtain⟨h,hh⟩:∃h,h=(a+b) / 2:=⟨_,rfl⟩
  have eV:a<=h/\h<b:=by omega
  have he:((a:Int)+(b:Int)) / 2=(h:Int):=by omega
  have kV:h<l.length:=by rw[<-HX.1];omega
  have q5:(h<n)=True:=eq_true (by omega)
  have q6:((h:Int)<(n:Int))=True:=eq_true (by omega)
  obtain⟨g,o,aY,e,_,_,_,aq⟩:=HX.2.1.at (by omega)
  injection e with e1 e2 e3
  subst e1 e3;have aE:=(aq h kV).keep hR.fp id
  have pG:l[h].s.num<p->∀x (hx:x<l.length),x<h+1->l[x].s.num<p:=λk x hx B1=>by
   rcases Nat.lt_or_eq_of_le (show x<=h by omega) with e|e
   ·exact Int.lt_trans (HX.2.2 x h hx kV e) k
   subst e;exact k
  have eR:p<=l[h].s.num->∀x (hx:x<l.length),h<=x->p<=l[x].s.num:=λk x hx B1=>by
   rcases Nat.lt_or_eq_of_le B1 with e|e
   ·have:=HX.2.2 h x kV hx e;omega
   subst e;exact k
  have dP:=λw=>tm l[h] p w
  have HB:=zI (yI pG eR);have HA:=zI (yI eV (yI iQ mC));clear aq pG eR hh iQ mC;generalize l[h]=y at *;have c0:=aE.c0;have c1:=aE.c1;have c2:=aE.c2;unfold aU.ev at c2;unfold Oz aU.ev at dP;have q3:((a:Int)<(b:Int))=True:=eq_true (by omega)
  have q4:(a<b)=True:=eq_true ay;have zE:∃z,wZ y.s.num p=z:=⟨_,rfl⟩;obtain⟨z,hz⟩:=zE;rw[hz]at dP;have y7:=zI dP;have Sc:h<=1000000:=by have:=HA.out;omega
  clear aE dP kV ay eV;by_cases bq:y.s.num<p
  ·have z0:(z<0)=True:=eq_true (by rw[<-hz];unfold wZ;rw[if_pos bq];decide)
   have Gl:=zI bq;clear hz bq;go_wp2_with fail
   refine(y7 _).mono ?_;rintro e w2⟨rfl,bY⟩;have hM:Hid (Vn l p w (h+1) b w2):=⟨hR.fp.then bY,HB.1 Gl.out,hR.hi,by have:=HA.1;omega,hR.jn⟩
   clear bY;go_wp2;go_roundw
   case rel=>exact⟨h+1,b,by have:=HA.out;omega,HA.2.2,by go_num,rfl,hM⟩
   case measure=>have:=HA.out;simp[RowKit.intOf];omega
  have xb:p<=y.s.num:=by omega
  have z0:(z<0)=False:=eq_false (by rw[<-hz];unfold wZ;rw[if_neg bq];split<;>decide)
  have Gl:=zI xb;clear hz bq xb;go_wp2_with fail
  refine(y7 _).mono ?_;rintro e w2⟨rfl,bY⟩;have hM:Hid (Vn l p w a h w2):=⟨hR.fp.then bY,hR.lo,HB.2 Gl.out,by have:=HA.1;omega,by have:=HA.1;have:=hR.jn;omega⟩
  clear bY;go_wp2;go_roundw
  case rel=>exact⟨a,h,HA.2.1,by have:=HA.out;omega,rfl,rfl,hM⟩
  case measure=>have:=HA.out;simp[RowKit.intOf];omega
 have eV:a=b:=by have:=hR.ij;omega
 subst eV;have cC:iO (l.map aU.s) p=a:=Oy (by simpa using hR.jn) (λx hx h=>by simpa using hR.lo x (by simpa using hx) h) (λx hx h=>by have:=hR.hi x (by simpa using hx) h;simp only[List.getElem_map];omega)
 have q3:((a:Int)<(a:Int))=False:=eq_false (by omega)
 have dV:=zV HX.2.2 p;rw[cC]at dV;have HP:=zI cC;by_cases gm:a<n
 ·have mD:a<l.length:=by rw[<-HX.1];exact gm
  rw[dif_pos (by simpa using mD)]at dV
  simp only[List.getElem_map]at dV
  obtain⟨g,o,aY,e,_,_,_,aq⟩:=HX.2.1.at (by omega)
  injection e with e1 e2 e3
  subst e1 e3;have aE:=(aq a mD).keep hR.fp id;have dP:=λw=>tm l[a] p w
  have uL:=hR.hi a mD (Nat.le_refl _);clear aq;generalize l[a]=y at *;have c0:=aE.c0;have c1:=aE.c1;have c2:=aE.c2;unfold aU.ev at c2;unfold Oz aU.ev at dP;have q5:((a:Int)<(n:Int))=True:=eq_true (by omega)
  have q6:(a<n)=True:=eq_true gm;obtain⟨z,hz⟩:∃z,wZ y.s.num p=z:=⟨_,rfl⟩
  have B2:(z == 0)=(cx (l.map aU.s) p).isSome:=by
   rw[dV,<-hz];unfold wZ;rw[if_neg (by omega)]
   by_cases e:y.s.num=p
   ·rw[if_neg (by omega),if_pos e];rfl
   rw[if_pos (by omega),if_neg e];rfl
  rw[hz]at dP;have y7:=zI dP;have HZ:=zI B2;clear aE dP hz B2 dV uL gm mD cC iQ mC;go_wp2_with fail
  refine(y7 _).mono ?_;rintro e w2⟨rfl,bY⟩;have HF:=zI (hR.fp.then bY);clear bY;go_wp2;go_ret2
  exact⟨by rw[HP.out,<-HZ.out];rfl,HF.out⟩
 have q5:((a:Int)<(n:Int))=False:=eq_false (by omega)
 have q6:(a<n)=False:=eq_false gm;rw[dif_neg (by rw[List.length_map,<-HX.1];exact gm)]at dV
 have EG:=zI dV;clear dV cC gm ay iQ mC;go_wp2;go_ret2
 exact⟨by rw[HP.out,EG.out];rfl,hR.fp⟩
theorem B4(v:Value)(ss:List Se)(n:Int)(w:World)(hv:yY w v ss)(ha:ss.Pairwise (λa b=>a.num<b.num))(hn:ss.length<=1000000):
  Calls prog 212 #[v,.int .i64 n] w λe w'=>e=.returned (.tuple #[.int .i64 (iO ss n),.bool (cx ss n).isSome])/\Fp ab w w':=by
 obtain⟨L,rfl,h1,_⟩:=hv.ex;have hs:=Dl v L n w h1 (Ke ha) (by simpa using hn)
 obtain⟨ao,cap,rfl⟩:=h1.shape;generalize L.length=k at *;have HS:=zI hs;clear hs hv hn ha h1;go_enter func212,ntmps212
 go_wp2_with fail
 refine HS.mono ?_;rintro e w1⟨rfl,hf⟩;have HF:=zI hf;clear hf;go_wp2;go_ret2
 exact⟨rfl,HF.out⟩
end
end Go.Proofs.YtgafcelloiagmaaGreatDoor
