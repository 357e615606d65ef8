/- A text of this proof. -/
import Derived.Test.YtgafcelloiagmaaGreatDoorZCK
import Derived.Test.YtgafcelloiagmaaGreatDoorZCN
set_option maxHeartbeats 16000000
set_option linter.unusedSimpArgs false
set_option linter.unusedVariables false
set_option maxRecDepth 20000
namespace Go.Proofs.YtgafcelloiagmaaGreatDoor
open Go.Proofs.Tryz
open Go.RowKit Pm
theorem my(n:Int)(w:World):Calls prog 240 #[.int .i64 n] w λe w'=>e=.returned (.bool (eZ n))/\w'=w:=by
 go_enter func240,ntmps240
 go_wp2;all_goals (go_ret;refine⟨aB ?_,rfl⟩;unfold eZ tj;rw[Bool.eq_iff_iff];simp;omega)
theorem pZ(n:Int):dY n=eZ n:=by
 unfold dY eZ tj;rw[Bool.eq_iff_iff];simp
theorem Df{t a:Int}(x:Hl)(ht:eZ t=true)(ha:eZ a=true)(Zl:eZ x.t=true)(Wq:eZ x.a=true):iM x.a x.t a t=Za t a x:=by
 unfold iM Za;rw[pZ,pZ,pZ,pZ,ht,ha,Zl,Wq,Bool.eq_iff_iff];simp
theorem mx{w:World}{b:Nat}{T:TypeId}{c0:Value}(h:w.heap[b]?=some (.cells #[c0] T (0,0))):w.cell? ⟨b,0,none⟩=some c0:=by rw[cell_of_row _ _ _ _ _ _ h];rfl
theorem L4(x:Hl)(g:Nat)(t:Int)(w:World)(hg:w.cell? ⟨g,0,none⟩=some (.int .i64 t)):
  Calls prog 182 #[lF x,.pointer (some ⟨g,0,none⟩)] w λe w'=>e=.returned (.bool (decide (x.t=t)))/\Fp ab w w':=by
 obtain⟨d,t',a⟩:=x;unfold lF au;have hf:∀o,Fp ab w (w.alloc o):=λo=>(Fp.refl ab w).alloc o
 have Qx:∀o,(w.alloc o).cell? ⟨g,0,none⟩=some (.int .i64 t):=λo=>(hf o).cell hg id
 have HF:=zI hf;clear hf hg;go_enter func182,ntmps182
 go_wp2;go_ret;refine⟨aB ?_,HF _⟩;rw[Bool.eq_iff_iff];simp
theorem L5(w:World)(g:Nat)(t:Int)(hg:w.cell? ⟨g,0,none⟩=some (.int .i64 t))(S:Nat->Prop)(hS:¬S g):
  uZ S w (.func (.func 182) #[] #[.pointer (some ⟨g,0,none⟩)]) (λx=>decide (x.t=t)):=
 ⟨_,_,_,rfl,enters_of func182 (by kernel_rfl) rfl,λx w1 _ hf=>L4 x g t w1 (hf.cell hg hS)⟩
theorem L6(x:Hl)(g:Nat)(p:Bs)(w:World)(hg:w.cell? ⟨g,0,none⟩=some (.string (B p))):
  Calls prog 236 #[lF x,.pointer (some ⟨g,0,none⟩)] w λe w'=>e=.returned (.bool (decide (x.d=p)))/\Fp ab w w':=by
 obtain⟨d,t',a⟩:=x;unfold lF au;have hf:∀o,Fp ab w (w.alloc o):=λo=>(Fp.refl ab w).alloc o
 have Qx:∀o,(w.alloc o).cell? ⟨g,0,none⟩=some (.string (B p)):=λo=>(hf o).cell hg id
 have HF:=zI hf;clear hf hg;go_enter func236,ntmps236
 go_wp2;go_ret;refine⟨aB ?_,HF _⟩;rw[Bool.eq_iff_iff];simp
theorem L8(w:World)(g:Nat)(p:Bs)(hg:w.cell? ⟨g,0,none⟩=some (.string (B p)))(S:Nat->Prop)(hS:¬S g):
  uZ S w (.func (.func 236) #[] #[.pointer (some ⟨g,0,none⟩)]) (λx=>decide (x.d=p)):=
 ⟨_,_,_,rfl,enters_of func236 (by kernel_rfl) rfl,λx w1 _ hf=>L6 x g p w1 (hf.cell hg hS)⟩
theorem Qd(x:Hl)(g h:Nat)(t a:Int)(w:World)(hg:w.cell? ⟨g,0,none⟩=some (.int .i64 t))(hh:w.cell? ⟨h,0,none⟩=some (.int .i64 a)):
  Calls prog 242 #[lF x,.pointer (some ⟨g,0,none⟩),.pointer (some ⟨h,0,none⟩)] w λe w'=>e=.returned (.bool (decide (x.t=t/\x.a≠a)))/\Fp ab w w':=by
 obtain⟨d,t',a'⟩:=x;unfold lF au;have hf:∀o,Fp ab w (w.alloc o):=λo=>(Fp.refl ab w).alloc o
 have Qx:∀o,(w.alloc o).cell? ⟨g,0,none⟩=some (.int .i64 t):=λo=>(hf o).cell hg id
 have Vm:∀o,(w.alloc o).cell? ⟨h,0,none⟩=some (.int .i64 a):=λo=>(hf o).cell hh id
 have HF:=zI hf;clear hf hg hh;go_enter func242,ntmps242
 go_wp2
 all_goals
  go_ret;refine⟨aB ?_,HF _⟩;rw[Bool.eq_iff_iff];simp[*]
theorem Of(w:World)(g h:Nat)(t a:Int)(hg:w.cell? ⟨g,0,none⟩=some (.int .i64 t))(hh:w.cell? ⟨h,0,none⟩=some (.int .i64 a))(S:Nat->Prop)(hS:¬S g)(hT:¬S h):
  uZ S w (.func (.func 242) #[] #[.pointer (some ⟨g,0,none⟩),.pointer (some ⟨h,0,none⟩)]) (λx=>decide (x.t=t/\x.a≠a)):=
 ⟨_,_,_,rfl,enters_of func242 (by kernel_rfl) rfl,λx w1 _ hf=>Qd x g h t a w1 (hf.cell hg hS) (hf.cell hh hT)⟩
theorem Bv(x:Hl)(g h:Nat)(t a:Int)(w:World)(hg:w.cell? ⟨g,0,none⟩=some (.int .i64 a))(hh:w.cell? ⟨h,0,none⟩=some (.int .i64 t)):
  Calls prog 246 #[lF x,.pointer (some ⟨g,0,none⟩),.pointer (some ⟨h,0,none⟩)] w λe w'=>e=.returned (.bool (iM x.a x.t a t))/\Fp ab w w':=by
 obtain⟨d,t',a'⟩:=x;unfold lF au;have hf:∀o,Fp ab w (w.alloc o):=λo=>(Fp.refl ab w).alloc o
 have Qx:∀o,(w.alloc o).cell? ⟨g,0,none⟩=some (.int .i64 a):=λo=>(hf o).cell hg id
 have Vm:∀o,(w.alloc o).cell? ⟨h,0,none⟩=some (.int .i64 t):=λo=>(hf o).cell hh id
 have HF:=zI hf;clear hf hg hh;go_enter func246,ntmps246
 go_wp2_with fail
 refine(LZ _ _ _ _ _).mono ?_;rintro e w1⟨rfl,rfl⟩;go_wp2;go_ret;exact⟨rfl,HF _⟩
structure Qe(t a:Int)(w:World)(e:Ending)(w':World):Prop where
 ex:∃g h:Nat,e=.returned (.func (.func 246) #[] #[.pointer (some ⟨g,0,none⟩),.pointer (some ⟨h,0,none⟩)])/\w'.cell? ⟨g,0,none⟩=some (.int .i64 a)/\w'.cell? ⟨h,0,none⟩=some (.int .i64 t)
 fp:Fp ab w w'
theorem Qe.pd{t a:Int}{w w':World}{e:Ending}(h:Qe t a w e w'):∃k fi cap,e=.returned (.func (.func k) fi cap)/\uZ ab w' (.func (.func k) fi cap) (λx=>iM x.a x.t a t):=by
 obtain⟨g,h',rfl,h1,h2⟩:=h.ex;exact⟨_,_,_,rfl,_,_,_,rfl,enters_of func246 (by kernel_rfl) rfl,λx w1 _ hf=>Bv x g h' t a w1 (hf.cell h1 id) (hf.cell h2 id)⟩
theorem rV(t a:Int)(w:World):Calls prog 179 #[.int .i64 t,.int .i64 a] w (Qe t a w):=by
 go_enter func179,ntmps179
 go_wp2;go_ret;have f2:=aa (w.alloc (.cells #[.int .i64 t] 2)) (.cells #[.int .i64 a] 2);have r1:=heap_alloc_new w (.cells #[.int .i64 t] 2);have r2:=heap_alloc_new (w.alloc (.cells #[.int .i64 t] 2)) (.cells #[.int .i64 a] 2);have sz:(w.alloc (.cells #[.int .i64 t] 2)).heap.size=w.heap.size+1:=by simp
 rw[sz]at r2;refine⟨⟨w.heap.size+1,w.heap.size,rfl,?_,?_⟩,(aa w _).then f2⟩
 ·rw[cell_of_row _ _ _ _ _ _ r2];rfl
 rw[cell_of_row _ _ _ _ _ _ (f2.heap r1 id)];rfl
structure Qz(w:World)(l:List Hl)(v':Value)(w':World):Prop where
 own:gg w.heap.size w' v' l
 fp:Fp ab w w'
theorem Hs(v:Value)(l:List Hl)(t:Int)(w:World)(hv:di w v l)(hs:zG l)(hn:l.length<=100000):
  Calls prog 129 #[v,.int .i64 t] w λe w'=>∃v',e=.returned v'/\Qz w (mw l t) v' w':=by
 obtain⟨ao,cap,rfl⟩:=hv.shape;have f1:=aa w (.cells #[.int .i64 t] 2);have r1:=heap_alloc_new w (.cells #[.int .i64 t] 2);have dN:=lI _ l (w.alloc (.cells #[.int .i64 t] 2)) (hv.af f1) hn;obtain⟨n,aR⟩:∃n,n=l.length:=⟨_,rfl⟩;rw[<-aR]at dN|-;have HC:=zI dN;have HX:=zI (yI f1 (yI r1 (yI hs hn)));clear dN hv hs hn f1 r1 aR;go_enter func129,ntmps129
 go_wp2_with fail
 refine HC.mono ?_;rintro e w1⟨v1,rfl,hO⟩;have aq:=mx (hO.fp.heap HX.2.1 id);have Al:=hO.own.low;have iH:=L5 w1 w.heap.size t aq (λk=>v1.ownBlock=some k) (λh=>by have:=Al _ h;simp at this;omega)
 have My:=vF hO.own HX.2.2.1 iH HX.2.2.2;have HD:=zI My;have H1:=zI hO;clear My iH Al aq hO;go_wp2_with fail
 refine HD.mono ?_;rintro e w2⟨v2,rfl,hR⟩;have dV:Fp ab w w2:=(HX.1.then H1.fp).trans hR.fp (λk hk=>.inr (by have:=H1.own.low k hk;simp at this;omega))
 have aL:gg w.heap.size w2 v2 (mw l t):=by
  have e:mw l t=l.filter (λx=>!decide (x.t=t)):=by unfold mw;congr 1;funext x;simp
  rw[e];rcases hR.own.ways with⟨rfl,h0⟩|⟨G,cap,rfl,h1,h2⟩
  ·rw[h0];exact gg.nil _ _
  exact gg.row h1 (by simp at h2;omega)
 have HR:=zI (Qz.mk aL dV);clear hR dV aL;go_wp2;go_ret;exact⟨_,rfl,HR.out⟩
theorem I5{l:List Hl}{p:Bs}{z:Int}(h:Ek (λx=>decide (x.d=p)) l z):(z = -1/\mu l p=none)\/∃i,z=((i:Nat):Int)/\∃hi:i<l.length,mu l p=some l[i]:=by
 rcases h with⟨h1,h2⟩|⟨i,h1,hi,h2,h3⟩
 ·refine .inl ⟨h1,?_⟩
  unfold mu;rw[List.find?_eq_none];intro x hx;simpa using h2 x hx
 refine .inr ⟨i,h1,hi,?_⟩;unfold mu;rw[List.find?_eq_some_iff_getElem];exact⟨h2,i,hi,rfl,λj hj=>by simpa using h3 j (by omega) hj⟩
theorem O5(v:Value)(l:List Hl)(p:Bs)(w:World)(hv:di w v l)(hs:zG l)(hn:l.length<=1000000):
  Calls prog 173 #[v,.string (B p)] w λe w'=>e=.returned (.tuple #[.int .i64 (((mu l p).map Hl.t).getD 0),.bool (mu l p).isSome])/\Fp ab w w':=by
 obtain⟨ao,cap,rfl⟩:=hv.shape;have f1:=aa w (.cells #[.string (B p)] 9);have r1:=heap_alloc_new w (.cells #[.string (B p)] 9);have iH:=L8 (w.alloc (.cells #[.string (B p)] 9)) w.heap.size p (mx r1) ab id;have qv:=mX _ _ l _ _ (hv.af f1) hs iH hn;obtain⟨n,aR⟩:∃n,n=l.length:=⟨_,rfl⟩;rw[<-aR]at qv|-;have HI:=zI qv;have HX:=zI (yI f1 (yI aR hv));have jS:n<=1000000:=by omega
 clear qv iH hv hs hn f1 r1 aR;go_enter func173,ntmps173
 go_wp2_with fail
 refine HI.mono ?_;rintro e w1⟨⟨z,rfl,hz⟩,hf⟩;have HF:=zI (HX.1.then hf);clear hf;rcases I5 hz with⟨rfl,hh⟩|⟨i,rfl,kX,hh⟩
 ·have HH:=zI hh
  clear hz hh;go_wp2;go_ret2
  exact⟨by rw[HH.out];rfl,HF.out⟩
 obtain⟨g,o,aY,e,_,_,_,aq⟩:=HX.2.2.at (by omega)
 injection e with e1 e2 e3
 subst e1 e3;have aE:=(aq i kX).keep HF id;have q1:((i:Int)<0)=False:=eq_false (by omega)
 have q2:(i<n)=True:=eq_true (by rw[HX.2.1];exact kX)
 have q3:((i:Int)<(n:Int))=True:=eq_true (by have:=HX.2.1;omega)
 obtain⟨x,hx⟩:∃x,x=l[i]:=⟨_,rfl⟩;rw[<-hx]at hh aE;have HH:=zI hh;have c1:=aE.c1;clear hz hh aE aq hx kX e2;go_wp2;go_ret2
 exact⟨by rw[HH.out];rfl,HF.out⟩
abbrev dx:TypeId:=77
abbrev bE:TypeId:=26
structure dq(w:World)(g cap:Nat)(l:List Hl):Prop where
 ex:∃rest,w.heap[g]?=some (.cells (aP l++rest).toArray dx (0,0))/\l.length*3+rest.length=cap*3
 room:l.length<=cap
 most:cap<=maxLen
theorem dq.lt{w:World}{g cap:Nat}{l:List Hl}(h:dq w g cap l):g<w.heap.size:=by
 obtain⟨r,h,_⟩:=h.ex;exact(Array.getElem?_eq_some_iff.1 h).1
theorem dq.keep{w w':World}{g cap:Nat}{l:List Hl}(h:dq w g cap l){S:Nat->Prop}(f:Fp S w w')(hS:¬S g):dq w' g cap l:=by
 obtain⟨r,h1,h2⟩:=h.ex;exact⟨⟨r,f.heap h1 hS,h2⟩,h.room,h.most⟩
theorem dq.cell{w:World}{g cap:Nat}{l:List Hl}(h:dq w g cap l)(i j:Nat)(hi:i<l.length)(hj:j<3):w.cell? ⟨g,i*3+j,none⟩=(kU l[i])[j]?:=by
 obtain⟨r,h1,_⟩:=h.ex;rw[cell_of_row w g _ _ dx (0,0) h1];simp only[List.getElem?_toArray]
 rw[List.getElem?_append_left (by rw[aJ];omega),eh l i j hi hj]
theorem dq.nd{w:World}{g cap:Nat}{l:List Hl}(h:dq w g cap l)(i:Nat)(hi:i<l.length):dz w g (0+i*3) l[i]:=by
 rw[Nat.zero_add];exact⟨h.cell i 0 hi (by omega),h.cell i 1 hi (by omega),h.cell i 2 hi (by omega)⟩
theorem dq.ns{w:World}{g cap:Nat}{l:List Hl}(h:dq w g cap l):di w (.slice (some ⟨g,0,none⟩) l.length cap) l:=
 ⟨_,cap,rfl,h.room,h.most,.inr ⟨g,0,rfl,h.lt,h.nd⟩⟩
theorem dq.frozen{w:World}{g cap:Nat}{l:List Hl}(h:dq w g cap l)(o:Nat):w.frozen? ⟨g,o,none⟩=false:=by
 obtain⟨r,h1,_⟩:=h.ex;simp[World.frozen?,h1]
theorem dq.owns{w:World}{g cap:Nat}{l:List Hl}(h:dq w g cap l){lo:Nat}(bq:lo<=g):w.ownsRow lo dx 3 (.slice (some ⟨g,0,none⟩) l.length cap) l.length (aP l):=by
 obtain⟨r,h1,h2⟩:=h.ex;refine⟨aJ l,.inr ⟨g,cap,_,rfl,bq,h1,h.room,h.most,by simp[aJ];omega,?_⟩⟩
 simp only
 rw[<-aJ l];exact List.take_left
theorem dq.cK{w:World}{lo g cap n:Nat}{l:List Hl}(h:w.ownsRow lo dx 3 (.slice (some ⟨g,0,none⟩) n cap) n (aP l))(hn:n=l.length):dq w g cap l/\lo<=g:=by
 subst hn;rcases h.2 with⟨h0,_⟩|⟨g',aY,cur,e,hb,hg,h1,h2,h3,h4⟩
 ·cases h0
 injection e with e1 _ e3
 injection e1 with e1
 injection e1 with e1
 subst e1 e3;refine⟨⟨⟨cur.toList.drop (l.length*3),?_,?_⟩,h1,h2⟩,hb⟩
 ·rw[<-h4,List.take_append_drop];exact hg
 have e:cur.toList.length=cap*3:=by rw[Array.length_toList,h3]
 rw[List.length_drop,e];omega
theorem Tryz.vI:(prog.info? dx).map (λi=>(i.zero,i.size,i.bytes))=some (some (.agg #[.string ⟨#[]⟩,.int .i64 0,.int .i64 0]),3,32):=by kernel_rfl
theorem I6(w:World):(sizeOf dx).run prog w=.ok 3 w:=by
 obtain⟨i,hi,_,hs,_⟩:=info_parts Tryz.vI;simp[sizeOf,typeInfo,hi,hs]
theorem nW(w:World)(ty:TypeId)(g o fy jt:Nat)(a:Addr)(fA ju:Nat)(cur:List Value)(m:Nat)(cs:List Value)(hg:w.heap[g]?=some (.cells cur.toArray dx (0,0)))(hm:m=Nat.min fA fy)(hn:cs.length=m*3)
  (lZ:∀j v,cs[j]?=some v->w.cell? (a.add j)=some v) (fX:o+cs.length<=cur.length) (h1:∀v∈cs,v.oneCell'=true):
  (Builtin.copy_ #[bE,bE] ty #[.slice (some ⟨g,o,none⟩) fy jt,.slice (some a) fA ju]).run prog w=.ok (goInt m) (w.setRow g (cur.take o++cs++cur.drop (o+cs.length)).toArray):=by
 have hl:=run_loadCells_list (P:=prog) w a cs lZ;have aN:=run_storeCells_at prog g o dx cs 0 cur.toArray w hg (by simpa using fX) h1
 rw[hn]at hl;simp[Builtin.copy_,run_underlying Tryz.underlying26,Builtin.lenOf,Builtin.firstCells,<-hm,hl,aN]
theorem yu(w:World)(lo:Nat)(v:Value)(l m:List Hl)(ty:TypeId)(g o n c:Nat)(hv:w.ownsRow lo dx 3 v l.length (aP l))(hn:n=m.length)(hx:∀i (h:i<m.length),dz w g (o+i*3) m[i])(h6:l.length+m.length<=100000)(bq:lo<=w.heap.size)(h0:0<l.length+m.length):
  ∃G cap w',(Builtin.append_ #[bE,bE] ty #[v,.slice (some ⟨g,o,none⟩) n c]).run prog w=.ok (.slice (some ⟨G,0,none⟩) (l.length+m.length) cap) w'/\dq w' G cap (l++m)/\lo<=G/\w.grownBy w' v.ownBlock/\(v.ownBlock=some G\/w.heap.size<=G):=by
 obtain⟨i,hi,hz,db,qY⟩:=info_parts Tryz.vI;subst hn
 obtain⟨v',w',hr,h4,h5,h7,h8⟩:=run_append_own_at (P:=prog) w lo bE ty dx i _ 3 32 Tryz.underlying26 hi hz db qY rfl (by decide) v l.length (aP l) hv ⟨g,o,none⟩ m.length c (aP m) (aJ m)
  (λj u hu=>by
   have hj:j<m.length*3:=by rw[<-aJ];exact(List.getElem?_eq_some_iff.1 hu).1
   have hd:j / 3<m.length:=by omega
   have e:j / 3*3+j % 3=j:=by omega
   rw[<-e,eh m (j / 3) (j % 3) hd (by omega)]at hu
   have:=(hx (j / 3) hd).get (j % 3) u hu;rw[Addr.add_lit]at this|-;rwa[show o+j / 3*3+j % 3=o+j from by omega]at this)
  (kO m) (by unfold maxLen;omega) (by omega) bq
 have bA:v'≠.slice none 0 0:=λe=>by
  obtain⟨e1,e2⟩:=h7.1 e;subst e1;rcases hv.2 with⟨_,h⟩|⟨_,_,_,h,_⟩
  ·omega
  cases h
 rcases h4.2 with⟨h9,_⟩|⟨G,cap,cur,rfl,hb,hg,r1,r2,r3,r4⟩
 ·exact absurd h9 bA
 rw[<-gx]at h4;obtain⟨uH,AF⟩:=dq.cK h4 (by rw[List.length_append])
 refine⟨G,cap,w',hr,uH,AF,h5,?_⟩;rcases h8 with h8|h8
 ·exact .inl h8.symm
 right;simp[Value.ownBlock]at h8;omega
theorem yw(w:World)(a:Addr)(n c:Nat):(binOp .eql bE (.slice (some a) n c) (.slice none 0 0)).run prog w=.ok (.bool false) w:=
 Lib.run_eql_slice_nil w bE dx (some a) n c 0 0 Tryz.underlying26
def eI(lo:Nat)(w:World)(v:Value)(l:List Hl):Prop:=w.ownsRow lo dx 3 v l.length (aP l)
theorem eI.ways{lo:Nat}{w:World}{v:Value}{l:List Hl}(h:eI lo w v l):(v=.slice none 0 0/\l=[])\/∃G cap,v=.slice (some ⟨G,0,none⟩) l.length cap/\dq w G cap l/\lo<=G:=by
 have h':=h;unfold eI at h';rcases h'.2 with⟨h0,h1⟩|⟨g,cap,cur,e,hb,hg,h1,h2,h3,h4⟩
 ·refine .inl ⟨h0,?_⟩
  cases l with
  |nil=>rfl
  |cons x l=>simp at h1
 refine .inr ⟨g,cap,e,?_⟩;unfold eI at h;rw[e]at h;exact dq.cK h rfl
theorem eI.ns{lo:Nat}{w:World}{v:Value}{l:List Hl}(h:eI lo w v l):di w v l:=by
 rcases h.ways with⟨rfl,rfl⟩|⟨G,cap,rfl,h1,_⟩
 ·exact di.nil w
 exact h1.ns
theorem eI.row{lo:Nat}{w:World}{G cap:Nat}{l:List Hl}(h:dq w G cap l)(bq:lo<=G):eI lo w (.slice (some ⟨G,0,none⟩) l.length cap) l:=h.owns bq
theorem eI.nil(lo:Nat)(w:World):eI lo w (.slice none 0 0) []:=⟨rfl,.inl ⟨rfl,rfl⟩⟩
theorem eI.keep{lo:Nat}{w w':World}{v:Value}{l:List Hl}(h:eI lo w v l){S:Nat->Prop}(f:Fp S w w')(hS:∀k,v.ownBlock=some k->¬S k):eI lo w' v l:=by
 rcases h.ways with⟨rfl,rfl⟩|⟨G,cap,rfl,h1,h2⟩
 ·exact eI.nil lo w'
 exact eI.row (h1.keep f (hS G rfl)) h2
theorem eI.af{lo:Nat}{w w':World}{v:Value}{l:List Hl}(h:eI lo w v l)(f:Fp ab w w'):eI lo w' v l:=h.keep f (λ_ _ h=>h)
theorem eI.low{lo:Nat}{w:World}{v:Value}{l:List Hl}(h:eI lo w v l):∀k,v.ownBlock=some k->lo<=k:=by
 rcases h.ways with⟨rfl,rfl⟩|⟨G,cap,rfl,_,h2⟩
 ·intro k hk;simp[Value.ownBlock]at hk
 intro k hk;simp[Value.ownBlock]at hk;omega
theorem nX(w:World)(lo:Nat)(v:Value)(l m:List Hl)(ty:TypeId)(a:Addr)(n c:Nat)(hv:eI lo w v l)(hn:n=m.length)(hx:∀i (h:i<m.length) j u,(kU m[i])[j]?=some u->w.cell? (a.add (i*3+j))=some u)(h6:l.length+m.length<=100000)(bq:lo<=w.heap.size):
  ∃v' w',(Builtin.append_ #[bE,bE] ty #[v,.slice (some a) n c]).run prog w=.ok v' w'/\eI lo w' v' (l++m)/\w.grownBy w' v.ownBlock/\∀k,v'.ownBlock=some k->v.ownBlock=some k\/w.heap.size<=k:=by
 obtain⟨i,hi,hz,db,qY⟩:=info_parts Tryz.vI;subst hn
 obtain⟨v',w',hr,h4,h5,_,h8⟩:=run_append_own_at (P:=prog) w lo bE ty dx i _ 3 32 Tryz.underlying26 hi hz db qY rfl (by decide) v l.length (aP l) hv a m.length c (aP m) (aJ m)
  (λj u hu=>by
   have hj:j<m.length*3:=by rw[<-aJ];exact(List.getElem?_eq_some_iff.1 hu).1
   have hd:j / 3<m.length:=by omega
   have e:j / 3*3+j % 3=j:=by omega
   rw[<-e,eh m (j / 3) (j % 3) hd (by omega)]at hu
   have:=hx (j / 3) hd (j % 3) u hu;rwa[e]at this)
  (kO m) (by unfold maxLen;omega) (by omega) bq
 refine⟨v',w',hr,?_,h5,λk hk=>?_⟩
 ·unfold eI
  rw[gx,List.length_append];exact h4
 rcases h8 with e|e
 ·exact .inl (by rw[<-e];exact hk)
 rw[hk]at e;injection e with e;exact .inr (by omega)
structure Cr(w:World)(l:List Hl)(v':Value)(w':World):Prop where
 own:eI w.heap.size w' v' l
 fp:Fp ab w w'
theorem jX(v:Value)(l:List Hl)(w:World)(hv:di w v l)(h5:l.length<=100000):
  Calls prog 44 #[v] w λe w'=>∃v',e=.returned v'/\Cr w l v' w':=by
 obtain⟨ao,cap,rfl,h1,h2,h3⟩:=hv.ex;cases ao with
 |none=>
  obtain rfl:l=[]:=by
   rcases h3 with h|⟨_,_,h,_⟩
   ·exact h
   cases h
  have fW:∀w:World,(binOp .eql bE (.slice none 0 cap) (.slice none 0 0)).run prog w=.ok (.bool true) w:=λw=>Lib.run_eql_slice_nil w bE dx none 0 cap 0 0 Tryz.underlying26
  clear h1 h2 h3 hv h5;simp only[List.length_nil]
  go_enter func44,ntmps44
  go_wp2;go_ret;exact⟨_,rfl,eI.nil _ _,Fp.refl _ _⟩
 |some a=>?_
 have aL:eI w.heap.size (w.alloc (.cells #[] dx)) (.slice (some ⟨w.heap.size,0,none⟩) 0 0) []:=World.ownsRow_lit w #[] 0 (Nat.le_refl _) (by unfold maxLen;omega) rfl
 have hx:∀i (h:i<l.length) j u,(kU l[i])[j]?=some u->(w.alloc (.cells #[] dx)).cell? (a.add (i*3+j))=some u:=λi hi j u hu=>by
  rcases h3 with h|⟨g,o,e,_,hc⟩
  ·subst h;simp at hi
  injection e with e;subst e
  have:=((hc i hi).keep ((Fp.refl ab w).alloc (.cells #[] dx)) id).get j u hu;rw[Addr.add_lit]at this|-;rwa[Nat.add_assoc]at this
 have bM:∀ty,∃v' w',(Builtin.append_ #[bE,bE] ty #[.slice (some ⟨w.heap.size,0,none⟩) 0 0,.slice (some a) l.length cap]).run prog (w.alloc (.cells #[] dx))=.ok v' w'/\Cr w l v' w':=λty=>by
  obtain⟨v',w',hr,ho,hg,_⟩:=nX (w.alloc (.cells #[] dx)) w.heap.size _ [] l ty a l.length cap aL rfl hx (by simp;omega) (by simp)
  exact⟨v',w',hr,ho,((Fp.refl ab w).alloc _).grown hg (λk hk=>.inr (by simp[Value.ownBlock]at hk;omega))⟩
 have fW:=yw;have uS:=Lib.hid (bM bE);clear bM aL hx hv h1 h2 h3 h5;generalize l.length=n at *;go_enter func44,ntmps44
 go_wp2_with (at_builtin;go_must (refine aG rfl _ _ _ _ rfl _ _ rfl rfl (Cr w l) uS.out ?_))
 intro u w2 hR;have HR:=Lib.hid hR;clear hR;go_wp2;go_ret;exact⟨_,rfl,HR.out⟩
structure yx(lo:Nat)(w:World)(v:Value)(l:List Hl)(v':Value)(w':World):Prop where
 own:eI lo w' v' l
 fp:Fp (λk=>v.ownBlock=some k) w w'
 new:∀k,v'.ownBlock=some k->v.ownBlock=some k\/w.heap.size<=k
end Go.Proofs.YtgafcelloiagmaaGreatDoor
