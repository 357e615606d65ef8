/- A text of this proof. -/
import Derived.Test.YtgafcelloiagmaaGreatDoorZCBE
set_option maxHeartbeats 16000000
set_option linter.unusedSimpArgs false
set_option linter.unusedVariables false
set_option maxRecDepth 20000
namespace Go.Proofs.YtgafcelloiagmaaGreatDoor
open Go.Proofs.Tryz
section
open Go.RowKit Pm
attribute [local irreducible] wpStill
theorem Gh.af{w W W':World}{fS fT:Value}{k:Int}{d p da:Bs}{v o:Int}{t:Bool}{b:Nat}{s':St}{r:dp}{q:Nat}{nv:Value}(h:Gh w fS fT k d p da v o t b s' r q nv W)(f:Fp ab W W'):Gh w fS fT k d p da v o t b s' r q nv W':=by
 obtain⟨jB,iA,h1⟩:=h.ex;exact⟨⟨jB,iA,h1.af f⟩,h.own.dU f,h.bx.af f,h.q4,f.heap h.row id⟩
structure Sd(lo b:Nat)(vn vt:Value)(s s':St)(R:dp)(x:Pt)(fk:Nat)(fc:Array Value):Prop where
 ix:∀w,(Instr.index 164 Kb (.int .i64 x.kind)).run prog w=.ok (.func (.func fk) #[] fc) w
 en:Enters prog fk
 call:∀w',Sw lo b vn vt s w'->jH w'->Calls prog fk (#[.pointer (some ⟨b,0,none⟩),fY x]++fc) w' (yU lo b vn vt s' R w')
theorem Sf(fS fT:Value)(s:St)(x:Pt)(w:World)(hv:tf w (.agg #[fS,fT]) s)(hs:Sp s.nodes)(aN:∀t∈s.turns,t.dir.length<=1000000)(hn:s.nodes.length<=3900)(dJ:s.turns.length<=3900)(hp:x.path.length<=1000000)(ht:jH w)(Xi:dh s)(Xj:cq x=true):
  Calls prog 69 #[.agg #[fS,fT],fY x] w (RX w (b7 s x).1 (b7 s x).2):=by
 have tg:=λW (f:Fp ab w W)=>j4 (.agg #[fS,fT]) s W (hv.af f) hs (by omega) aN (by omega)
 have rW:=λW=>zQ x W hp
 rw[ei Xi]at tg;rw[Xj]at rW;have QC:=λlo b vn vt=>RT lo b vn vt s x Xi Xj hn dJ
 have Sh:=Kf s x;obtain⟨s',Kg⟩:∃s',(b7 s x).1=s':=⟨_,rfl⟩;obtain⟨R,hR⟩:∃R,(b7 s x).2=R:=⟨_,rfl⟩;have Xk:∀lo b vn vt,∃fk fc,Gg lo b vn vt s x fk fc:=QC;have bf:R.err≠0->s'=s:=λh=>by rw[<-Kg];exact(Sh.2 (by rw[hR];exact h)).1
 have me:=λW (f:Fp ab w W) (vn:Value) (h:Ns W vn s.nodes)=>nI vn s.nodes W h (by omega)
 have pH:=λW (f:Fp ab w W) (vt:Value) (h:Ts W vt s.turns)=>lO vt s.turns W h (by omega)
 obtain⟨aa6,aa7,e0,Gm,Vo⟩:=hv.ex;injection e0 with e0
 injection e0 with e0
 injection e0 with e1 e0
 injection e0 with e2 _
 subst e1 e2;have Jr:=zI (λW (f:Fp ab w W)=>me W f fS (Gm.af f))
 have MK:=zI (λW (f:Fp ab w W)=>pH W f fT (Vo.af f))
 have Z4:=zI (yI Gm Vo);obtain⟨an,cn,rfl⟩:=Gm.shape;obtain⟨at_,ct,rfl⟩:=Vo.shape;have Gn:=zI ht
 have EH:Hid (∀lo b vn vt,∃fk fc,Gg lo b vn vt s x fk fc/\∀w',Sw lo b vn vt s w'->jH w'->Calls prog fk (#[.pointer (some ⟨b,0,none⟩),fY x]++fc) w' (yU lo b vn vt s' R w')):=λlo b vn vt=>by
  obtain⟨fk,fc,h⟩:=QC lo b vn vt;exact⟨fk,fc,h,λw' h1 h2=>by rw[<-Kg,<-hR];exact h.call w' h1 h2⟩
 have Gp:=zI bf;rw[Kg,hR];obtain⟨k,d,p,da,v,o,t⟩:=x;have cG:fY ⟨k,d,p,da,v,o,t⟩=.agg #[.int .i64 k,.string (B d),.string (B p),.string (B da),.int .i64 v,.int .i64 o,.bool t]:=rfl;rw[cG]at rW|-;have K0:=zI (Kp.Z1 (zO.made w (.slice an s.nodes.length cn) (.slice at_ s.turns.length ct) k d p da v o t));have HR:=zI tg;have HM:=zI rW;clear tg rW hv hs aN hn dJ hp QC Xk Sh Kg hR bf me pH Gm Vo ht Xi Xj;go_enter func69,ntmps69
 generalize dw:((((w.alloc (.cells #[.slice an s.nodes.length cn,.slice at_ s.turns.length ct] aM)).alloc (.cells #[.int .i64 k,.string (B d),.string (B p),.string (B da),.int .i64 v,.int .i64 o,.bool t] TP)).alloc (.cells #[.slice none 0 0,.slice none 0 0] aM)).alloc (.cells #[.int .i64 0,.string ⟨#[]⟩,.string ⟨#[]⟩,.int .i64 0,.slice none 0 0] TR))=W0 at *;obtain⟨s0,s1⟩:=aI K0.now.sb;go_wp2_with fail
 clear dw;refine(HR _ K0.now.fp).mono ?_;rintro e w1⟨rfl,hf⟩;have K1:=zI (K0.later hf);clear hf s0 s1;obtain⟨o0,o1,o2,o3,o4,o5,o6⟩:=aH K1.now.pb;go_wp2_with fail
 refine(HM _).mono ?_;rintro e w2⟨rfl,hf⟩;have K2:=zI (K1.later hf);clear hf o0 o1 o2 o3 o4 o5 o6;have KD:=zI (K2.later (Fp.refl ab w2).drew);have cI:=zI (aI KD.now.sb);go_wp2_with fail
 refine wp_region_held_drew (S:=(λw'=>w'.cell? ⟨w.heap.size,0,none⟩=some (.slice an s.nodes.length cn)/\w'.cell? ⟨w.heap.size,1,none⟩=some (.slice at_ s.turns.length ct))) (by kernel_rfl) ?_ (λhH=>?_)
 ·exact cI.out
 generalize w2.drew=wd at *;refine tk 0 hH ?_;refine tk 1 hH ?_;refine tk 3 hH ?_;refine tk 4 hH ?_;refine rY 2 λK hK=>?_
 go_simp;go_at_call 67
 refine(Jr _ KD.now.fp).mono ?_;rintro e w3⟨jK,rfl,hR⟩;have K3:=zI (KD.later hR.fp);have uM:=zI (Ow.lower hR.own KD.now.sz);have Dm:=zI (aI K3.now.sb);obtain⟨ir,Kh,lD⟩:=hR.own.ns.shape;subst lD;clear hR;go_wp2_with fail
 refine hK _ _ Dm (λhH=>?_)
 clear hK K;try simp only[zz]
 refine rY 5 λK hK=>?_
 go_simp;go_at_call 68
 refine(MK _ K3.now.fp).mono ?_;rintro e w4⟨iN,rfl,hR⟩;have K4:=zI (K3.later hR.fp);have QD:=zI (yI (uM.af hR.fp) (yI (ey.lower hR.own K3.now.sz) (λk (hk:((.slice ir s.nodes.length Kh):Value).ownBlock=some k)=>(World.ownsRow.lt uM k hk).2)))
 have Z5:=zI (λk (hk:iN.ownBlock=some k)=>(World.ownsRow.lt hR.own k hk).1)
 have EI:=zI (aI K4.now.sb);obtain⟨EJ,ML,lD⟩:=hR.own.ns.shape;subst lD;clear hR;go_wp2_with fail
 refine hK _ _ EI (λhH=>?_)
 clear hK K;try simp only[zz]
 refine tk 6 hH ?_;have Si:=zI (aI (K4.now.af (aa w4 (.cells #[(.slice ir s.nodes.length Kh),(.slice EJ s.turns.length ML)] TS))).sb);refine rY 7 λK hK=>?_
 go_simp;refine hK _ _ Si (λhH=>?_)
 clear hK K;try simp only[zz]
 refine tk 8 hH ?_;refine yD ?_;have rL:=aa w4 (.cells #[(.slice ir s.nodes.length Kh),(.slice EJ s.turns.length ML)] TS);have yT:=heap_alloc_new w4 (.cells #[(.slice ir s.nodes.length Kh),(.slice EJ s.turns.length ML)] TS);obtain⟨b,hb⟩:∃b,w4.heap.size=b:=⟨_,rfl⟩;rw[hb]at yT|-
 have jc:Sw (w.heap.size+4) b (.slice ir s.nodes.length Kh) (.slice EJ s.turns.length ML) s (w4.alloc (.cells #[(.slice ir s.nodes.length Kh),(.slice EJ s.turns.length ML)] TS)):=by
  refine⟨yT,by rw[<-hb];exact K4.now.sz,QD.1.af rL,QD.2.1.af rL,λe=>?_,λe=>?_,λk h1 h2=>?_⟩
  ·have:=(World.ownsRow.lt QD.1 _ e).2;omega
  ·have:=(World.ownsRow.lt QD.2.1 _ e).2;omega
  have h3:=QD.2.2 k h1;have h4:=Z5 k h2;omega
 have K5:=zI (Kp.and (Kp.sw jc) (Kp.and (K4.later rL) (Kp.yV (Gn.af (K4.now.fp.then rL)))));clear rL yT jc hb Si EI Dm cI hH;generalize (w4.alloc (.cells #[(.slice ir s.nodes.length Kh),(.slice EJ s.turns.length ML)] TS))=w5 at *;obtain⟨fk,fc,Vp,MO⟩:=EH (w.heap.size+4) b (.slice ir s.nodes.length Kh) (.slice EJ s.turns.length ML);have Xl:=zI Vp;have Ki:Hid (Sd (w.heap.size+4) b (.slice ir s.nodes.length Kh) (.slice EJ s.turns.length ML) s s' R ⟨k,d,p,da,v,o,t⟩ fk fc):=⟨Vp.ix,Vp.en,MO⟩;clear Vp MO EH;have K6:=zI (K5.later (Fp.refl ab w5).drew);have Vq:=zI (aH K6.now.2.1.pb);go_upto_region 4 with (fail)
 go_cut [7] from 26 to 47 (λx7 wc=>∃q nv,x7=.pointer (some ⟨q,0,none⟩)/\Hid (Gh w (.slice an s.nodes.length cn) (.slice at_ s.turns.length ct) k d p da v o t b s' R q nv wc))
 case first=>
  go_wp2_with fail
  refine wp_region_held_drew (S:=(λw'=>w'.cell? ⟨w.heap.size+1,0,none⟩=some (.int .i64 k)/\w'.cell? ⟨w.heap.size+1,1,none⟩=some (.string (B d))/\w'.cell? ⟨w.heap.size+1,2,none⟩=some (.string (B p))/\w'.cell? ⟨w.heap.size+1,3,none⟩=some (.string (B da))/\w'.cell? ⟨w.heap.size+1,4,none⟩=some (.int .i64 v)/\w'.cell? ⟨w.heap.size+1,5,none⟩=some (.int .i64 o)/\w'.cell? ⟨w.heap.size+1,6,none⟩=some (.bool t))) (by kernel_rfl) ?_ (λhH=>?_)
  ·exact Vq.out
  generalize w5.drew=ud at *;refine tk 1 hH ?_;refine tk 2 hH ?_;refine tk 4 hH ?_;refine tk 5 hH ?_;refine wpAnyH_ready (rs:=[0,7]) (by kernel_rfl) (by simp) ?_
  refine AllReadyH.cons (o:=?_) (by simp only[zA,zB,zC]<;>exact rfl) (λK hK=>?_) (AllReadyH.cons (o:=?_) (by simp only[zA,zB,zC]<;>exact rfl) (λK hK=>?_) AllReadyH.nil)
  ·go_simp
   go_at_call 102
   refine(qo _).mono ?_;rintro e u1⟨rfl,hf⟩;have K7:=zI (K6.later hf);have J8:=zI (aH K7.now.2.1.pb);clear hf;go_wp2_with fail
   refine hK _ _ J8 (λhH=>?_)
   clear hK K;try simp only[zz]
   have qv:=Ki.ix;refine tk 3 hH ?_;clear qv;refine wpAnyH_ready (rs:=[6,7]) (by kernel_rfl) (by simp) ?_
   refine AllReadyH.cons (o:=?_) (by simp only[zA,zB,zC]<;>exact rfl) (λK hK=>?_) (AllReadyH.cons (o:=?_) (by simp only[zA,zB,zC]<;>exact rfl) (λK hK=>?_) AllReadyH.nil)
   ·go_simp
    have gU:=Ki.en;rw[gU _ _];have oX:=zI (Ki.call u1 K7.now.1 K7.now.2.2);rw[cG]at oX;go_wp2_with fail
    clear gU;refine oX.mono ?_;rintro e u2 hM;obtain⟨nv,jB,iA,rfl,aL,jc⟩:=hM.ex;unfold au;have vS:=zI (yI jc (yI aL hM.fp))
    have te:=zI (aH (K7.now.2.1.keep hM.fp (λj hj=>by
     rcases hj with e|e|e
     ·rw[e];exact K7.now.1.low
     ·exact(World.ownsRow.lt K7.now.1.own j e).1
     exact(World.ownsRow.lt K7.now.1.ez j e).1)).pb)
    obtain⟨wE,kS,rfl⟩:=aL.shape;clear hM jc aL oX;go_wp2_with fail
    refine hK _ _ te (λhH=>?_)
    clear hK K;try simp only[zz]
    have xf:=aa u2 (.cells #[.int .i64 0,.string ⟨#[]⟩,.string ⟨#[]⟩,.int .i64 0,.slice none 0 0] TR);have MP:=heap_alloc_new u2 (.cells #[.int .i64 0,.string ⟨#[]⟩,.string ⟨#[]⟩,.int .i64 0,.slice none 0 0] TR)
    have wV:=zI (aH ((K7.now.2.1.keep vS.2.2 (λj hj=>by
     rcases hj with e|e|e
     ·rw[e];exact K7.now.1.low
     ·exact(World.ownsRow.lt K7.now.1.own j e).1
     exact(World.ownsRow.lt K7.now.1.ez j e).1)).af xf).pb)
    have kD:=zI (show w.heap.size+4<=u2.heap.size from Nat.le_trans K7.now.2.1.sz vS.2.2.size);have QE:=zI (show(Value.slice wE R.names.length kS).ownBlock≠some u2.heap.size from λe=>by have:=(vS.2.1.1.lt _ e).2;omega)
    have Gq:=zI (yI xf MP);clear xf MP;refine rY 7 λK hK=>?_
    go_simp;refine hK _ _ wV (λhH=>?_)
    clear hK K;try simp only[zz]
    obtain⟨q,hq⟩:∃q,u2.heap.size=q:=⟨_,rfl⟩;rw[hq]at kD QE Gq|-;generalize (u2.alloc (.cells #[.int .i64 0,.string ⟨#[]⟩,.string ⟨#[]⟩,.int .i64 0,.slice none 0 0] TR))=u3 at *;have B5:=zI (Gh.of K7.now.1 K7.now.2.1 vS.1 vS.2.1 vS.2.2 Gq.1 Gq.2 kD QE.out);have nk:=Gq.2;obtain⟨r0,r1,r2,r3,r4⟩:=ji nk;have z0:=ae nk 0;have z1:=ae nk 1;have z2:=ae nk 2;have z3:=ae nk 3;have z4:=ae nk 4;have yX:=zI (aH B5.bx.pb);clear nk;refine rY 8 λK hK=>?_
    go_simp;refine hK _ _ yX (λhH=>?_)
    clear hK K;try simp only[zz]
    refine yD ?_;clear r0 r1 r2 r3 r4 z0 z1 z2 z3 z4;go_wp2_with fail
    go_meet
    case rel=>exact⟨_,_,rfl,B5⟩
   go_simp;have xf:=aa u1 (.cells #[.int .i64 0,.string ⟨#[]⟩,.string ⟨#[]⟩,.int .i64 0,.slice none 0 0] TR);have MP:=heap_alloc_new u1 (.cells #[.int .i64 0,.string ⟨#[]⟩,.string ⟨#[]⟩,.int .i64 0,.slice none 0 0] TR);have K8:=zI (K7.later xf);have qk:=zI (yI (Kp.row MP) (show w.heap.size+4<=u1.heap.size from K7.now.2.1.sz));have te:=zI (aH K8.now.2.1.pb);clear xf MP;refine hK _ _ te (λhH=>?_)
   clear hK K;try simp only[zz]
   obtain⟨q,hq⟩:∃q,u1.heap.size=q:=⟨_,rfl⟩;rw[hq]at qk|-;generalize (u1.alloc (.cells #[.int .i64 0,.string ⟨#[]⟩,.string ⟨#[]⟩,.int .i64 0,.slice none 0 0] TR))=u3 at *;refine rY 6 λK hK=>?_
   go_simp;have gU:=Ki.en;rw[gU _ _];have oX:=zI (Ki.call u3 K8.now.1 K8.now.2.2);rw[cG]at oX;go_wp2_with fail
   clear gU;refine oX.mono ?_;rintro e u2 hM;obtain⟨nv,jB,iA,rfl,aL,jc⟩:=hM.ex;unfold au;have vS:=zI (yI jc (yI aL hM.fp))
   have Xm:=zI (aH (K8.now.2.1.keep hM.fp (λj hj=>by
    rcases hj with e|e|e
    ·rw[e];exact K8.now.1.low
    ·exact(World.ownsRow.lt K8.now.1.own j e).1
    exact(World.ownsRow.lt K8.now.1.ez j e).1)).pb)
   obtain⟨wE,kS,rfl⟩:=aL.shape;clear hM jc aL oX;go_wp2_with fail
   refine hK _ _ Xm (λhH=>?_)
   clear hK K;try simp only[zz]
   have Sj:=zI (vS.2.2.heap qk.1.now (λe=>by
    rcases e with e|e|e
    ·have h1:=K8.now.1.dR
     rw[<-e,qk.1.now]at h1;injection h1 with h1
     injection h1 with _ h1 _
     exact absurd h1 (by decide)
    ·exact K8.now.1.own.ne qk.1.now e
    exact K8.now.1.ez.ne qk.1.now e))
   have QE:=zI (show(Value.slice wE R.names.length kS).ownBlock≠some q from λe=>by have h1:=(vS.2.1.1.lt _ e).1;have h2:=(Array.getElem?_eq_some_iff.1 qk.1.now).1;omega)
   have B5:=zI (Gh.of K8.now.1 K8.now.2.1 vS.1 vS.2.1 vS.2.2 (Fp.refl ab u2) Sj qk.2 QE.out);have nk:=Sj.out;obtain⟨r0,r1,r2,r3,r4⟩:=ji nk;have z0:=ae nk 0;have z1:=ae nk 1;have z2:=ae nk 2;have z3:=ae nk 3;have z4:=ae nk 4;have yX:=zI (aH B5.bx.pb);clear nk;refine rY 8 λK hK=>?_
   go_simp;refine hK _ _ yX (λhH=>?_)
   clear hK K;try simp only[zz]
   refine yD ?_;clear r0 r1 r2 r3 r4 z0 z1 z2 z3 z4;go_wp2_with fail
   go_meet
   case rel=>exact⟨_,_,rfl,B5⟩
  go_simp;have xf:=aa ud (.cells #[.int .i64 0,.string ⟨#[]⟩,.string ⟨#[]⟩,.int .i64 0,.slice none 0 0] TR);have MP:=heap_alloc_new ud (.cells #[.int .i64 0,.string ⟨#[]⟩,.string ⟨#[]⟩,.int .i64 0,.slice none 0 0] TR);have K8:=zI (K6.later xf);have qk:=zI (yI (Kp.row MP) (show w.heap.size+4<=ud.heap.size from K6.now.2.1.sz));have te:=zI (aH K8.now.2.1.pb);clear xf MP;refine hK _ _ te (λhH=>?_)
  clear hK K;try simp only[zz]
  obtain⟨q,hq⟩:∃q,ud.heap.size=q:=⟨_,rfl⟩;rw[hq]at qk|-;generalize (ud.alloc (.cells #[.int .i64 0,.string ⟨#[]⟩,.string ⟨#[]⟩,.int .i64 0,.slice none 0 0] TR))=u3 at *;refine rY 0 λK hK=>?_
  go_simp;go_at_call 102
  refine(qo _).mono ?_;rintro e u4⟨rfl,hf⟩;have K9:=zI (K8.later hf);have qk:=zI (yI (qk.1.later hf) qk.2);have HSC:=zI (aH K9.now.2.1.pb);clear hf;go_wp2_with fail
  refine hK _ _ HSC (λhH=>?_)
  clear hK K;try simp only[zz]
  have qv:=Ki.ix;refine tk 3 hH ?_;clear qv;refine rY 6 λK hK=>?_
  go_simp;have gU:=Ki.en;rw[gU _ _];have oX:=zI (Ki.call u4 K9.now.1 K9.now.2.2);rw[cG]at oX;go_wp2_with fail
  clear gU;refine oX.mono ?_;rintro e u2 hM;obtain⟨nv,jB,iA,rfl,aL,jc⟩:=hM.ex;unfold au;have vS:=zI (yI jc (yI aL hM.fp))
  have Xm:=zI (aH (K9.now.2.1.keep hM.fp (λj hj=>by
   rcases hj with e|e|e
   ·rw[e];exact K9.now.1.low
   ·exact(World.ownsRow.lt K9.now.1.own j e).1
   exact(World.ownsRow.lt K9.now.1.ez j e).1)).pb)
  obtain⟨wE,kS,rfl⟩:=aL.shape;clear hM jc aL oX;go_wp2_with fail
  refine hK _ _ Xm (λhH=>?_)
  clear hK K;try simp only[zz]
  have Sj:=zI (vS.2.2.heap qk.1.now (λe=>by
   rcases e with e|e|e
   ·have h1:=K9.now.1.dR
    rw[<-e,qk.1.now]at h1;injection h1 with h1
    injection h1 with _ h1 _
    exact absurd h1 (by decide)
   ·exact K9.now.1.own.ne qk.1.now e
   exact K9.now.1.ez.ne qk.1.now e))
  have QE:=zI (show(Value.slice wE R.names.length kS).ownBlock≠some q from λe=>by have h1:=(vS.2.1.1.lt _ e).1;have h2:=(Array.getElem?_eq_some_iff.1 qk.1.now).1;omega)
  have B5:=zI (Gh.of K9.now.1 K9.now.2.1 vS.1 vS.2.1 vS.2.2 (Fp.refl ab u2) Sj qk.2 QE.out);have nk:=Sj.out;obtain⟨r0,r1,r2,r3,r4⟩:=ji nk;have z0:=ae nk 0;have z1:=ae nk 1;have z2:=ae nk 2;have z3:=ae nk 3;have z4:=ae nk 4;have yX:=zI (aH B5.bx.pb);clear nk;refine rY 8 λK hK=>?_
  go_simp;refine hK _ _ yX (λhH=>?_)
  clear hK K;try simp only[zz]
  refine yD ?_;clear r0 r1 r2 r3 r4 z0 z1 z2 z3 z4;go_wp2_with fail
  go_meet
  case rel=>exact⟨_,_,rfl,B5⟩
 obtain⟨q,nv,rfl,B5⟩:=hcut;simp only[Nat.add_assoc,Nat.reduceAdd]
 clear KD K2 K3 K4 K5 K6 uM QD Z5 Vq Ki Xl Jr MK HR HM Gn;have nk:=B5.row;obtain⟨za,kW,rfl⟩:=B5.own.shape;by_cases rZ:R.err=0
 ·have q1:(R.err != 0)=false:=by simp[rZ]
  clear Gp rZ;obtain⟨jB,iA,jc⟩:=B5.ex;have HSW:=zI jc;obtain⟨MQ,MR,rfl⟩:=jc.own.ns.shape;obtain⟨at',MS,rfl⟩:=jc.ez.ns.shape;clear jc;obtain⟨s0,s1,s2,s3,s4⟩:=ji nk;go_wp2_with fail
  clear s0 s1 s2 s3 s4 nk;go_wp2_with fail
  have mE:Hid (Gh w (.slice an s.nodes.length cn) (.slice at_ s.turns.length ct) k d p da v o t b s' R q (.slice za R.names.length kW) wc.drew):=B5.af (Fp.refl ab wc).drew;have lP:=zI (HSW.af (Fp.refl ab wc).drew);have ls:=zI lP.low;have bg:=zI (yI lP.c0 (yI lP.c1 (ji mE.row)));have kD:=zI mE.q4;have hb:=mE.bx;obtain⟨y0,y1⟩:=aI hb.zs;have u0:=ae hb.zs 0;have u1:=ae hb.zs 1;have HZR:=zI hb.zr;have HD:=zI (uJ hb (.slice MQ s'.nodes.length MR) (.slice at' s'.turns.length MS) (.int .i64 R.err) (.string (B R.path)) (.string (B R.data)) (.int .i64 R.aX) (.slice za R.names.length kW));have iB:Fp (λj=>j=w.heap.size+2) wc.drew ((wc.drew.setCell ⟨w.heap.size+2,0,none⟩ (.slice MQ s'.nodes.length MR)).setCell ⟨w.heap.size+2,1,none⟩ (.slice at' s'.turns.length MS)):=((Fp.refl (λj=>j=w.heap.size+2) wc.drew).setCell (p:=⟨w.heap.size+2,0,none⟩) (.inl rfl) _).setCell (p:=⟨w.heap.size+2,1,none⟩) (.inl rfl) _
  have Xn:Hid ((λw'=>w'.cell? ⟨b,0,none⟩=some (.slice MQ s'.nodes.length MR)/\w'.cell? ⟨b,1,none⟩=some (.slice at' s'.turns.length MS)/\w'.cell? ⟨q,0,none⟩=some (.int .i64 R.err)/\w'.cell? ⟨q,1,none⟩=some (.string (B R.path))/\w'.cell? ⟨q,2,none⟩=some (.string (B R.data))/\w'.cell? ⟨q,3,none⟩=some (.int .i64 R.aX)/\w'.cell? ⟨q,4,none⟩=some (.slice za R.names.length kW)) ((wc.drew.setCell ⟨w.heap.size+2,0,none⟩ (.slice MQ s'.nodes.length MR)).setCell ⟨w.heap.size+2,1,none⟩ (.slice at' s'.turns.length MS))):=⟨iB.cell bg.1 (λe=>by have h1:=kD.out;have h2:=ls.out;simp only at e;omega),iB.cell bg.2.1 (λe=>by have h1:=kD.out;have h2:=ls.out;simp only at e;omega),iB.cell bg.2.2.1 (λe=>by have h1:=kD.out;have h2:=ls.out;simp only at e;omega),iB.cell bg.2.2.2.1 (λe=>by have h1:=kD.out;have h2:=ls.out;simp only at e;omega),iB.cell bg.2.2.2.2.1 (λe=>by have h1:=kD.out;have h2:=ls.out;simp only at e;omega),iB.cell bg.2.2.2.2.2.1 (λe=>by have h1:=kD.out;have h2:=ls.out;simp only at e;omega),iB.cell bg.2.2.2.2.2.2 (λe=>by have h1:=kD.out;have h2:=ls.out;simp only at e;omega)⟩
  have Xo:Hid ((λw'=>w'.cell? ⟨b,0,none⟩=some (.slice MQ s'.nodes.length MR)/\w'.cell? ⟨b,1,none⟩=some (.slice at' s'.turns.length MS)/\w'.cell? ⟨q,0,none⟩=some (.int .i64 R.err)/\w'.cell? ⟨q,1,none⟩=some (.string (B R.path))/\w'.cell? ⟨q,2,none⟩=some (.string (B R.data))/\w'.cell? ⟨q,3,none⟩=some (.int .i64 R.aX)/\w'.cell? ⟨q,4,none⟩=some (.slice za R.names.length kW)) (((((((wc.drew.setCell ⟨w.heap.size+2,0,none⟩ (.slice MQ s'.nodes.length MR)).setCell ⟨w.heap.size+2,1,none⟩ (.slice at' s'.turns.length MS)).setCell ⟨w.heap.size+3,0,none⟩ (.int .i64 R.err)).setCell ⟨w.heap.size+3,1,none⟩ (.string (B R.path))).setCell ⟨w.heap.size+3,2,none⟩ (.string (B R.data))).setCell ⟨w.heap.size+3,3,none⟩ (.int .i64 R.aX)).setCell ⟨w.heap.size+3,4,none⟩ (.slice za R.names.length kW))):=⟨HD.2.2.2.cell bg.1 (λe=>by have h1:=kD.out;have h2:=ls.out;simp only at e;omega),HD.2.2.2.cell bg.2.1 (λe=>by have h1:=kD.out;have h2:=ls.out;simp only at e;omega),HD.2.2.2.cell bg.2.2.1 (λe=>by have h1:=kD.out;have h2:=ls.out;simp only at e;omega),HD.2.2.2.cell bg.2.2.2.1 (λe=>by have h1:=kD.out;have h2:=ls.out;simp only at e;omega),HD.2.2.2.cell bg.2.2.2.2.1 (λe=>by have h1:=kD.out;have h2:=ls.out;simp only at e;omega),HD.2.2.2.cell bg.2.2.2.2.2.1 (λe=>by have h1:=kD.out;have h2:=ls.out;simp only at e;omega),HD.2.2.2.cell bg.2.2.2.2.2.2 (λe=>by have h1:=kD.out;have h2:=ls.out;simp only at e;omega)⟩
  have Dn:=zI (iB.heap hb.zr (λe=>by have e:w.heap.size+3=w.heap.size+2:=e;omega))
  clear hb iB;refine wp_region_held_drew (S:=(λw'=>w'.cell? ⟨b,0,none⟩=some (.slice MQ s'.nodes.length MR)/\w'.cell? ⟨b,1,none⟩=some (.slice at' s'.turns.length MS)/\w'.cell? ⟨q,0,none⟩=some (.int .i64 R.err)/\w'.cell? ⟨q,1,none⟩=some (.string (B R.path))/\w'.cell? ⟨q,2,none⟩=some (.string (B R.data))/\w'.cell? ⟨q,3,none⟩=some (.int .i64 R.aX)/\w'.cell? ⟨q,4,none⟩=some (.slice za R.names.length kW))) (by kernel_rfl) ?_ (λhH=>?_)
  ·exact bg.out
  generalize wc.drew=wd at *;refine tk 0 hH ?_;refine tk 1 hH ?_;refine tk 2 hH ?_;refine tk 3 hH ?_;refine tk 4 hH ?_;refine tk 5 hH ?_;refine tk 6 hH ?_;refine tk 7 hH ?_;refine tk 8 hH ?_;refine tk 9 hH ?_;refine rY 10 λK hK=>?_
  go_simp;refine hK _ _ Xn (λhH=>?_)
  clear hK K y0 y1 u0 u1;try simp only[zz]
  obtain⟨r0,r1,r2,r3,r4⟩:=ji Dn.out;have z0:=ae Dn.out 0;have z1:=ae Dn.out 1;have z2:=ae Dn.out 2;have z3:=ae Dn.out 3;have z4:=ae Dn.out 4;refine rY 11 λK hK=>?_
  go_simp;refine hK _ _ Xo (λhH=>?_)
  clear hK K r0 r1 r2 r3 r4 z0 z1 z2 z3 z4 hH;try simp only[zz]
  refine yD ?_;have hd:=HD.out;have je:=zI (yI (show tf _ _ s' from⟨_,_,rfl,lP.own.ns.keep HD.2.2.2 (λj hj e=>by have h1:=(World.ownsRow.lt lP.own j hj).1;have e:j=w.heap.size+2\/j=w.heap.size+3:=e;omega),lP.ez.ns.keep HD.2.2.2 (λj hj e=>by have h1:=(World.ownsRow.lt lP.ez j hj).1;have e:j=w.heap.size+2\/j=w.heap.size+3:=e;omega)⟩) (yI (Own.low (b0:=w.heap.size) (show Own (w.heap.size+4) _ (.slice za R.names.length kW) R.names from⟨HD.2.2.2.owns mE.own.1 (λj hj e=>by have h1:=(mE.own.1.lt j hj).1;have e:j=w.heap.size+2\/j=w.heap.size+3:=e;omega),mE.own.2⟩) (by omega)) (yI (Ow.lower (lP.own.keep HD.2.2.2 (λj hj e=>by have h1:=(World.ownsRow.lt lP.own j hj).1;have e:j=w.heap.size+2\/j=w.heap.size+3:=e;omega)) (show w.heap.size<=w.heap.size+4 by omega)) (ey.lower (lP.ez.keep HD.2.2.2 (λj hj e=>by have h1:=(World.ownsRow.lt lP.ez j hj).1;have e:j=w.heap.size+2\/j=w.heap.size+3:=e;omega)) (show w.heap.size<=w.heap.size+4 by omega)))))
  generalize (((((World.setCell _ _ _).setCell _ _).setCell _ _).setCell _ _).setCell _ _)=wz at *;obtain⟨t0,t1⟩:=aI hd.1;obtain⟨s0,s1,s2,s3,s4⟩:=ji hd.2.1;go_wp2;exact bodyPost_ret (v:=.tuple #[.agg #[(.slice MQ s'.nodes.length MR),(.slice at' s'.turns.length MS)],.agg #[.int .i64 R.err,.string (B R.path),.string (B R.data),.int .i64 R.aX,.slice za R.names.length kW]]) (by simp[results,results69,go_sem,t0,t1,s0,s1,s2,s3,s4]) rfl ⟨⟨_,_,rfl,je.1,je.2.1⟩,hd.2.2.1,λ_=>⟨_,_,_,rfl,je.2.2.1,je.2.2.2⟩⟩
 have q1:(R.err != 0)=true:=by simpa using rZ
 have q2:(R.err == 0)=false:=by simpa using rZ
 have q3:(R.err=0)=False:=eq_false rZ;have HSS:=zI (Gp rZ);clear Gp;obtain⟨s0,s1,s2,s3,s4⟩:=ji nk;go_wp2_with fail
 clear s0 s1 s2 s3 s4 nk;go_wp2_with fail
 have mE:Hid (Gh w (.slice an s.nodes.length cn) (.slice at_ s.turns.length ct) k d p da v o t b s' R q (.slice za R.names.length kW) wc.drew):=B5.af (Fp.refl ab wc).drew;have ls:=zI (show True from trivial);have bg:=zI (yI (aI mE.bx.sb).1 (yI (aI mE.bx.sb).2 (ji mE.row)));have kD:=zI mE.q4;have hb:=mE.bx;obtain⟨y0,y1⟩:=aI hb.zs;have u0:=ae hb.zs 0;have u1:=ae hb.zs 1;have HZR:=zI hb.zr;have HD:=zI (uJ hb (.slice an s.nodes.length cn) (.slice at_ s.turns.length ct) (.int .i64 R.err) (.string (B R.path)) (.string (B R.data)) (.int .i64 R.aX) (.slice za R.names.length kW));have iB:Fp (λj=>j=w.heap.size+2) wc.drew ((wc.drew.setCell ⟨w.heap.size+2,0,none⟩ (.slice an s.nodes.length cn)).setCell ⟨w.heap.size+2,1,none⟩ (.slice at_ s.turns.length ct)):=((Fp.refl (λj=>j=w.heap.size+2) wc.drew).setCell (p:=⟨w.heap.size+2,0,none⟩) (.inl rfl) _).setCell (p:=⟨w.heap.size+2,1,none⟩) (.inl rfl) _
 have Xn:Hid ((λw'=>w'.cell? ⟨w.heap.size,0,none⟩=some (.slice an s.nodes.length cn)/\w'.cell? ⟨w.heap.size,1,none⟩=some (.slice at_ s.turns.length ct)/\w'.cell? ⟨q,0,none⟩=some (.int .i64 R.err)/\w'.cell? ⟨q,1,none⟩=some (.string (B R.path))/\w'.cell? ⟨q,2,none⟩=some (.string (B R.data))/\w'.cell? ⟨q,3,none⟩=some (.int .i64 R.aX)/\w'.cell? ⟨q,4,none⟩=some (.slice za R.names.length kW)) ((wc.drew.setCell ⟨w.heap.size+2,0,none⟩ (.slice an s.nodes.length cn)).setCell ⟨w.heap.size+2,1,none⟩ (.slice at_ s.turns.length ct))):=⟨iB.cell bg.1 (λe=>by have h1:=kD.out;have h2:=ls.out;simp only at e;omega),iB.cell bg.2.1 (λe=>by have h1:=kD.out;have h2:=ls.out;simp only at e;omega),iB.cell bg.2.2.1 (λe=>by have h1:=kD.out;have h2:=ls.out;simp only at e;omega),iB.cell bg.2.2.2.1 (λe=>by have h1:=kD.out;have h2:=ls.out;simp only at e;omega),iB.cell bg.2.2.2.2.1 (λe=>by have h1:=kD.out;have h2:=ls.out;simp only at e;omega),iB.cell bg.2.2.2.2.2.1 (λe=>by have h1:=kD.out;have h2:=ls.out;simp only at e;omega),iB.cell bg.2.2.2.2.2.2 (λe=>by have h1:=kD.out;have h2:=ls.out;simp only at e;omega)⟩
 have Xo:Hid ((λw'=>w'.cell? ⟨w.heap.size,0,none⟩=some (.slice an s.nodes.length cn)/\w'.cell? ⟨w.heap.size,1,none⟩=some (.slice at_ s.turns.length ct)/\w'.cell? ⟨q,0,none⟩=some (.int .i64 R.err)/\w'.cell? ⟨q,1,none⟩=some (.string (B R.path))/\w'.cell? ⟨q,2,none⟩=some (.string (B R.data))/\w'.cell? ⟨q,3,none⟩=some (.int .i64 R.aX)/\w'.cell? ⟨q,4,none⟩=some (.slice za R.names.length kW)) (((((((wc.drew.setCell ⟨w.heap.size+2,0,none⟩ (.slice an s.nodes.length cn)).setCell ⟨w.heap.size+2,1,none⟩ (.slice at_ s.turns.length ct)).setCell ⟨w.heap.size+3,0,none⟩ (.int .i64 R.err)).setCell ⟨w.heap.size+3,1,none⟩ (.string (B R.path))).setCell ⟨w.heap.size+3,2,none⟩ (.string (B R.data))).setCell ⟨w.heap.size+3,3,none⟩ (.int .i64 R.aX)).setCell ⟨w.heap.size+3,4,none⟩ (.slice za R.names.length kW))):=⟨HD.2.2.2.cell bg.1 (λe=>by have h1:=kD.out;have h2:=ls.out;simp only at e;omega),HD.2.2.2.cell bg.2.1 (λe=>by have h1:=kD.out;have h2:=ls.out;simp only at e;omega),HD.2.2.2.cell bg.2.2.1 (λe=>by have h1:=kD.out;have h2:=ls.out;simp only at e;omega),HD.2.2.2.cell bg.2.2.2.1 (λe=>by have h1:=kD.out;have h2:=ls.out;simp only at e;omega),HD.2.2.2.cell bg.2.2.2.2.1 (λe=>by have h1:=kD.out;have h2:=ls.out;simp only at e;omega),HD.2.2.2.cell bg.2.2.2.2.2.1 (λe=>by have h1:=kD.out;have h2:=ls.out;simp only at e;omega),HD.2.2.2.cell bg.2.2.2.2.2.2 (λe=>by have h1:=kD.out;have h2:=ls.out;simp only at e;omega)⟩
 have Dn:=zI (iB.heap hb.zr (λe=>by have e:w.heap.size+3=w.heap.size+2:=e;omega))
 clear hb iB;refine wp_region_held_drew (S:=(λw'=>w'.cell? ⟨w.heap.size,0,none⟩=some (.slice an s.nodes.length cn)/\w'.cell? ⟨w.heap.size,1,none⟩=some (.slice at_ s.turns.length ct)/\w'.cell? ⟨q,0,none⟩=some (.int .i64 R.err)/\w'.cell? ⟨q,1,none⟩=some (.string (B R.path))/\w'.cell? ⟨q,2,none⟩=some (.string (B R.data))/\w'.cell? ⟨q,3,none⟩=some (.int .i64 R.aX)/\w'.cell? ⟨q,4,none⟩=some (.slice za R.names.length kW))) (by kernel_rfl) ?_ (λhH=>?_)
 ·exact bg.out
 generalize wc.drew=wd at *;refine tk 0 hH ?_;refine tk 1 hH ?_;refine rY 2 λK hK=>?_
 go_simp;refine hK _ _ Xn (λhH=>?_)
 clear hK K y0 y1 u0 u1;try simp only[zz]
 obtain⟨r0,r1,r2,r3,r4⟩:=ji Dn.out;have z0:=ae Dn.out 0;have z1:=ae Dn.out 1;have z2:=ae Dn.out 2;have z3:=ae Dn.out 3;have z4:=ae Dn.out 4;refine rY 3 λK hK=>?_
 go_simp;refine hK _ _ Xo (λhH=>?_)
 clear hK K r0 r1 r2 r3 r4 z0 z1 z2 z3 z4 hH;try simp only[zz]
 refine yD ?_;have hd:=HD.out;have je:=zI (yI (show tf _ _ s' from by rw[HSS.out];exact⟨_,_,rfl,Z4.1.af HD.2.2.1,Z4.2.af HD.2.2.1⟩) (yI (Own.low (b0:=w.heap.size) (show Own (w.heap.size+4) _ (.slice za R.names.length kW) R.names from⟨HD.2.2.2.owns mE.own.1 (λj hj e=>by have h1:=(mE.own.1.lt j hj).1;have e:j=w.heap.size+2\/j=w.heap.size+3:=e;omega),mE.own.2⟩) (by omega)) trivial))
 generalize (((((World.setCell _ _ _).setCell _ _).setCell _ _).setCell _ _).setCell _ _)=wz at *;obtain⟨t0,t1⟩:=aI hd.1;obtain⟨s0,s1,s2,s3,s4⟩:=ji hd.2.1;go_wp2;exact bodyPost_ret (v:=.tuple #[.agg #[(.slice an s.nodes.length cn),(.slice at_ s.turns.length ct)],.agg #[.int .i64 R.err,.string (B R.path),.string (B R.data),.int .i64 R.aX,.slice za R.names.length kW]]) (by simp[results,results69,go_sem,t0,t1,s0,s1,s2,s3,s4]) rfl ⟨⟨_,_,rfl,je.1,je.2.1⟩,hd.2.2.1,λh=>absurd h rZ⟩
end
section
open Go.RowKit Pm
theorem fV.type{lo:Nat}{w:World}{v:Value}{l:List Wt}(h:fV lo w v l){j:Nat}(hj:v.ownBlock=some j):∃cs,w.heap[j]?=some (.cells cs TW (0,0)):=by
 rcases h.ways with⟨rfl,_⟩|⟨G,cap,rfl,h1,_⟩
 ·simp[Value.ownBlock]at hj
 obtain⟨r,h,_⟩:=h1.ex;have:G=j:=by simpa[Value.ownBlock]using hj
 subst this;exact⟨_,h⟩
theorem gh.type{lo:Nat}{w:World}{v:Value}{l:List aU}(h:gh lo w v l){j:Nat}(hj:v.ownBlock=some j):∃cs,w.heap[j]?=some (.cells cs TV (0,0)):=by
 rcases h.ways with⟨rfl,_⟩|⟨G,cap,rfl,h1,_⟩
 ·simp[Value.ownBlock]at hj
 obtain⟨r,h,_⟩:=h1.ex;have:G=j:=by simpa[Value.ownBlock]using hj
 subst this;exact⟨_,h⟩
theorem fU.type{lo:Nat}{w:World}{v:Value}{l:List Ev}(h:fU lo w v l){j:Nat}(hj:v.ownBlock=some j):∃cs,w.heap[j]?=some (.cells cs TE (0,0)):=by
 rcases h.ways with⟨rfl,_⟩|⟨G,cap,rfl,h1,_⟩
 ·simp[Value.ownBlock]at hj
 obtain⟨r,h,_⟩:=h1.ex;have:G=j:=by simpa[Value.ownBlock]using hj
 subst this;exact⟨_,h⟩
def QF(lo:Nat)(w:World):Nat->Prop:=λk=>lo<=k/\∃cs T,w.heap[k]?=some (.cells cs T (0,0))/\(T=TD\/T=TV\/T=TE)
def Ft(lo:Nat)(w w':World):Prop:=Fp (QF lo w) w w'
theorem Ft.refl(lo:Nat)(w:World):Ft lo w w:=Fp.refl _ w
theorem Fp.ft{lo:Nat}{w w':World}(h:Fp ab w w'):Ft lo w w':=Fp.any h
theorem Ft.then{lo:Nat}{a b c:World}(h:Ft lo a b)(g:Ft lo b c):Ft lo a c:=Fp.trans h g (λk hk=>by
 by_cases hl:k<a.heap.size
 ·by_cases hs:QF lo a k
  ·exact .inl hs
  obtain⟨h1,cs,T,h2,h3⟩:=hk;rw[h.block k hl hs]at h2;exact .inl ⟨h1,cs,T,h2,h3⟩
 exact .inr (by omega))
theorem Ft.of{lo:Nat}{S:Nat->Prop}{a b:World}(h:Fp S a b)(hS:∀k,S k->QF lo a k):Ft lo a b:=h.mono hS
theorem fV.ft{lo l2:Nat}{w w':World}{v:Value}{l:List Wt}(h:fV lo w v l)(f:Ft l2 w w'):fV lo w' v l:=h.keep f (λk hk hs=>by
 obtain⟨_,cs,T,h2,h3⟩:=hs;obtain⟨ze,h4⟩:=h.type hk;rcases h3 with rfl|rfl|rfl<;>exact bP h4 h2 (by decide))
def Sk(lo:Nat)(w:World):Nat->Prop:=λk=>lo<=k/\∃cs T,w.heap[k]?=some (.cells cs T (0,0))/\(T=TV\/T=TE)
def Fs(lo:Nat)(w w':World):Prop:=Fp (Sk lo w) w w'
theorem Fp.fs{lo:Nat}{w w':World}(h:Fp ab w w'):Fs lo w w':=Fp.any h
theorem Fs.then{lo:Nat}{a b c:World}(h:Fs lo a b)(g:Fs lo b c):Fs lo a c:=Fp.trans h g (λk hk=>by
 by_cases hl:k<a.heap.size
 ·by_cases hs:Sk lo a k
  ·exact .inl hs
  obtain⟨h1,cs,T,h2,h3⟩:=hk;rw[h.block k hl hs]at h2;exact .inl ⟨h1,cs,T,h2,h3⟩
 exact .inr (by omega))
theorem Fs.of{lo:Nat}{S:Nat->Prop}{a b:World}(h:Fp S a b)(hS:∀k,S k->Sk lo a k):Fs lo a b:=h.mono hS
theorem Fs.ft{lo:Nat}{a b:World}(h:Fs lo a b):Ft lo a b:=Fp.mono h (λk hk=>by
 obtain⟨h1,cs,T,h2,h3⟩:=hk;exact⟨h1,cs,T,h2,.inr h3⟩)
theorem Fs.row{lo:Nat}{w w':World}(f:Fs lo w w'){k:Nat}{cs:Array Value}{T:TypeId}(h:w.heap[k]?=some (.cells cs T (0,0)))(h2:T≠TV)(h3:T≠TE):w'.heap[k]?=some (.cells cs T (0,0)):=
 Fp.heap f h (λhs=>by
  obtain⟨_,ze,T',ht,hT⟩:=hs;rcases hT with rfl|rfl
  ·exact bP h ht h2
  exact bP h ht h3)
structure Cl(lo:Nat)(vw vs:Value)(ws:List Wt)(L:List aU)(w:World):Prop where
 jj:fV lo w vw ws
 fg:gh lo w vs L
 iu:∀x∈L,fU lo w x.ev x.s.cW
 apart:L.Pairwise (λx y=>∀k,x.ev.ownBlock=some k->y.ev.ownBlock≠some k)
theorem Cl.af{lo:Nat}{vw vs:Value}{ws:List Wt}{L:List aU}{w w':World}(h:Cl lo vw vs ws L w)(f:Fp ab w w'):Cl lo vw vs ws L w':=
 ⟨h.jj.af f,h.fg.af f,λx hx=>(h.iu x hx).af f,h.apart⟩
theorem Cl.Kj{lo:Nat}{vw vs:Value}{ws:List Wt}{L:List aU}{w:World}(h:Cl lo vw vs ws L w):yY w vs (L.map aU.s):=⟨L,rfl,h.fg.ns,λx hx=>(h.iu x hx).ns⟩
theorem Cl.wd{lo:Nat}{vw vs:Value}{ws:List Wt}{L:List aU}{w:World}(h:Cl lo vw vs ws L w):yZ w (.agg #[vw,vs]) ⟨ws,L.map aU.s⟩:=⟨vw,vs,rfl,h.jj.ns,h.Kj⟩
structure Wk(lo N:Nat)(vw vs:Value)(ws:List Wt)(L:List aU)(w:World):Prop where
 dR:w.heap[N]?=some (.cells #[vw,vs] TD (0,0))
 low:lo<=N
 cl:Cl lo vw vs ws L w
theorem Wk.af{lo N:Nat}{vw vs:Value}{ws:List Wt}{L:List aU}{w w':World}(h:Wk lo N vw vs ws L w)(f:Fp ab w w'):Wk lo N vw vs ws L w':=⟨f.heap h.dR id,h.low,h.cl.af f⟩
theorem Wk.Xp{lo N:Nat}{vw vs:Value}{ws:List Wt}{L:List aU}{w:World}(h:Wk lo N vw vs ws L w):QF lo w N:=⟨h.low,_,_,h.dR,.inl rfl⟩
theorem gh.Xp{lo:Nat}{w:World}{v:Value}{l:List aU}(h:gh lo w v l){j:Nat}(hj:v.ownBlock=some j):QF lo w j:=by
 obtain⟨cs,h1⟩:=h.type hj;exact⟨h.low j hj,cs,_,h1,.inr (.inl rfl)⟩
theorem fU.Xp{lo:Nat}{w:World}{v:Value}{l:List Ev}(h:fU lo w v l){j:Nat}(hj:v.ownBlock=some j):QF lo w j:=by
 obtain⟨cs,h1⟩:=h.type hj;exact⟨h.low j hj,cs,_,h1,.inr (.inr rfl)⟩
theorem gh.Xq{lo:Nat}{w:World}{v:Value}{l:List aU}(h:gh lo w v l){j:Nat}(hj:v.ownBlock=some j):Sk lo w j:=by
 obtain⟨cs,h1⟩:=h.type hj;exact⟨h.low j hj,cs,_,h1,.inl rfl⟩
theorem fU.Xq{lo:Nat}{w:World}{v:Value}{l:List Ev}(h:fU lo w v l){j:Nat}(hj:v.ownBlock=some j):Sk lo w j:=by
 obtain⟨cs,h1⟩:=h.type hj;exact⟨h.low j hj,cs,_,h1,.inr rfl⟩
theorem Dp(l:List aU)(i j:Nat)(hi:i<l.length)(hj:j<3)(x:aU)(v:Value)(hx:eS x=(eS l[i]).set j v):(aW l).set (i*3+j) v=aW (l.set i x):=by
 apply List.ext_getElem?
 intro q;by_cases hq:q<l.length*3
 ·have hd:q / 3<l.length:=by omega
  have e:q / 3*3+q % 3=q:=by omega
  have hm:q % 3<3:=by omega
  have h1:=fh l (q / 3) (q % 3) hd hm;have h2:=fh (l.set i x) (q / 3) (q % 3) (by simpa using hd) hm
  rw[e]at h1 h2;rw[h2,List.getElem?_set,h1,List.getElem_set];by_cases hqi:i=q / 3
  ·subst hqi
   rw[if_pos rfl,hx,List.getElem?_set];by_cases hqj:j=q % 3
   ·rw[if_pos (by omega),if_pos hqj,if_pos (by rw[aV];omega),if_pos (by rw[gJ];omega)]
   rw[if_neg (by omega),if_neg hqj]
  rw[if_neg (by omega),if_neg hqi]
 rw[List.getElem?_eq_none (by rw[List.length_set,aV];omega),List.getElem?_eq_none (by rw[aV,List.length_set];omega)]
theorem iZ.set{w:World}{g cap:Nat}{l:List aU}(h:iZ w g cap l)(i j:Nat)(hi:i<l.length)(hj:j<3)(x:aU)(v:Value)(hx:eS x=(eS l[i]).set j v):iZ (w.setCell ⟨g,i*3+j,none⟩ v) g cap (l.set i x):=by
 obtain⟨r,h1,h2⟩:=h.ex;refine⟨⟨r,?_,by rw[List.length_set];exact h2⟩,by rw[List.length_set];exact h.room,h.most⟩
 have:=heap_setCell_same w g (i*3+j) _ TV v h1;rw[this];congr 2
 rw[<-Dp l i j hi hj x v hx,List.setIfInBounds_toArray,List.set_append_left _ _ (by rw[aV];omega)]
theorem bd(w:World)(g o:Nat)(v:Value):Fp (λk=>k=g) w (w.setCell ⟨g,o,none⟩ v):=(Fp.refl (λk=>k=g) w).setCell (p:=⟨g,o,none⟩) (.inl rfl) v
theorem Cl.set{lo G cap:Nat}{vw:Value}{ws:List Wt}{L:List aU}{w:World}{n:Nat}(h:Cl lo vw (.slice (some ⟨G,0,none⟩) n cap) ws L w)(i j:Nat)(hi:i<L.length)(hj:j<3)(x:aU)(v:Value)(hx:eS x=(eS L[i]).set j v)(he:fU lo w x.ev x.s.cW)(bM:∀k,x.ev.ownBlock=some k->∀m (hm:m<L.length),m≠i->L[m].ev.ownBlock≠some k):
  Cl lo vw (.slice (some ⟨G,0,none⟩) n cap) ws (L.set i x) (w.setCell ⟨G,i*3+j,none⟩ v):=by
 rcases h.fg.ways with⟨e,_⟩|⟨G',aY,e,h1,h2⟩
 ·cases e
 injection e with e1 e2 e3
 injection e1 with e1
 injection e1 with e1
 subst e1 e2 e3;have hf:=bd w G (i*3+j) v;obtain⟨cs,ht⟩:=h.fg.type (j:=G) rfl
 have hE:∀y:aU,fU lo w y.ev y.s.cW->fU lo (w.setCell ⟨G,i*3+j,none⟩ v) y.ev y.s.cW:=λy hy=>hy.keep hf (λk hk e=>by
  obtain⟨ze,zX⟩:=hy.type hk;have e:k=G:=e;subst e;exact bP zX ht (by decide))
 refine⟨h.jj.keep hf (λk hk e=>?_),?_,λy hy=>?_,?_⟩
 ·obtain⟨ze,zX⟩:=h.jj.type hk
  have e:k=G:=e;subst e;exact bP zX ht (by decide)
 ·have:=gh.row (lo:=lo) (h1.set i j hi hj x v hx) h2
  rwa[List.length_set]at this
 ·rcases List.mem_or_eq_of_mem_set hy with hy|rfl
  ·exact hE y (h.iu y hy)
  exact hE y he
 rw[List.pairwise_iff_getElem];have hp:=List.pairwise_iff_getElem.1 h.apart;intro a b ha hb eV k hk;rw[List.length_set]at ha hb;rw[List.getElem_set]at hk|-;by_cases ea:i=a
 ·subst ea
  rw[if_pos rfl]at hk;rw[if_neg (by omega)]
  exact bM k hk b hb (by omega)
 rw[if_neg ea]at hk;by_cases eb:i=b
 ·subst eb
  rw[if_pos rfl];intro hxk;exact bM k hxk a ha (by omega) hk
 rw[if_neg eb];exact hp a b ha hb eV k hk
theorem Cl.keep{lo:Nat}{vw vs:Value}{ws:List Wt}{L:List aU}{w w':World}{S:Nat->Prop}(h:Cl lo vw vs ws L w)(f:Fp S w w')(h1:∀k,vw.ownBlock=some k->¬S k)(h2:∀k,vs.ownBlock=some k->¬S k)(h3:∀x∈L,∀k,x.ev.ownBlock=some k->¬S k):Cl lo vw vs ws L w':=
 ⟨h.jj.keep f h1,h.fg.keep f h2,λx hx=>(h.iu x hx).keep f (h3 x hx),h.apart⟩
theorem Cl.Kk{lo G n cap:Nat}{vw:Value}{ws:List Wt}{L:List aU}{w:World}(h:Cl lo vw (.slice (some ⟨G,0,none⟩) n cap) ws L w):iZ w G cap L/\lo<=G/\n=L.length:=by
 rcases h.fg.ways with⟨e,_⟩|⟨G',aY,e,h1,h2⟩
 ·cases e
 injection e with e1 e2 e3
 injection e1 with e1
 injection e1 with e1
 subst e1 e2 e3;exact⟨h1,h2,rfl⟩
theorem Cl.Vr{lo G n cap:Nat}{vw:Value}{ws:List Wt}{L:List aU}{w:World}(h:Cl lo vw (.slice (some ⟨G,0,none⟩) n cap) ws L w){x:aU}(hx:x∈L):∀k,x.ev.ownBlock=some k->k≠G:=λk hk e=>by
 obtain⟨cs,ht⟩:=h.fg.type (j:=G) rfl;obtain⟨ze,zX⟩:=(h.iu x hx).type hk;subst e;exact bP zX ht (by decide)
theorem Cl.neW{lo G n cap:Nat}{vw:Value}{ws:List Wt}{L:List aU}{w:World}(h:Cl lo vw (.slice (some ⟨G,0,none⟩) n cap) ws L w):∀k,vw.ownBlock=some k->k≠G:=λk hk e=>by
 obtain⟨cs,ht⟩:=h.fg.type (j:=G) rfl;obtain⟨ze,zX⟩:=h.jj.type hk;subst e;exact bP zX ht (by decide)
theorem fU.Vs{lo:Nat}{w:World}{v:Value}{l:List Ev}(h:fU lo w v l):∀j,v.ownBlock=some j->j<w.heap.size:=λj hj=>(World.ownsRow.lt h j hj).2
theorem Cl.put{lo G n cap:Nat}{vw:Value}{ws:List Wt}{L:List aU}{w w':World}(h:Cl lo vw (.slice (some ⟨G,0,none⟩) n cap) ws L w)(i:Nat)(hi:i<L.length)(x:aU)(hx:eS x=(eS L[i]).set 2 x.ev)(f:Fp (λk=>L[i].ev.ownBlock=some k) w w')(he:fU lo w' x.ev x.s.cW)(gi:∀k,x.ev.ownBlock=some k->L[i].ev.ownBlock=some k\/w.heap.size<=k):
  Cl lo vw (.slice (some ⟨G,0,none⟩) n cap) ws (L.set i x) (w'.setCell ⟨G,i*3+2,none⟩ x.ev):=by
 obtain⟨h1,h2,hn⟩:=h.Kk;have hG:=h1.lt;have hf:=bd w' G (i*3+2) x.ev;have Sl:=h.Vr (List.getElem_mem hi);have ou:∀k,x.ev.ownBlock=some k->k≠G:=λk hk=>(gi k hk).elim (Sl k) (λe=>by omega)
 have hp:=List.pairwise_iff_getElem.1 h.apart
 have bM:∀m (hm:m<L.length),m≠i->∀k,L[m].ev.ownBlock=some k->L[i].ev.ownBlock≠some k:=λm hm Sm k hk NK=>by
  rcases Nat.lt_or_gt_of_ne Sm with ay|ay
  ·exact hp m i hm hi ay k hk NK
  exact hp i m hi hm ay k NK hk
 have ba:=(h1.keep f (λe=>Sl G e rfl)).set i 2 hi (by omega) x x.ev hx
 refine⟨?_,?_,λy hy=>?_,?_⟩
 ·refine(h.jj.keep f (λk hk e=>?_)).keep hf (λk hk e=>h.neW k hk e)
  obtain⟨cs,ht⟩:=(h.iu _ (List.getElem_mem hi)).type e;obtain⟨ze,zX⟩:=h.jj.type hk;exact bP zX ht (by decide)
 ·have:=gh.row (lo:=lo) ba h2
  rw[List.length_set,<-hn]at this;exact this
 ·obtain⟨a,ha,rfl⟩:=List.mem_iff_getElem.1 hy
  rw[List.length_set]at ha;rw[List.getElem_set];by_cases e:i=a
  ·rw[if_pos e];exact he.keep hf (λk hk e=>ou k hk e)
  rw[if_neg e];exact((h.iu _ (List.getElem_mem ha)).keep f (λk hk e2=>bM a ha (λe3=>e e3.symm) k hk e2)).keep hf (λk hk e2=>h.Vr (List.getElem_mem ha) k hk e2)
 rw[List.pairwise_iff_getElem];intro a b ha hb eV k hk;rw[List.length_set]at ha hb;rw[List.getElem_set]at hk|-;by_cases ea:i=a
 ·subst ea
  rw[if_pos rfl]at hk;rw[if_neg (by omega)]
  intro oP;rcases gi k hk with e|e
  ·exact bM b hb (by omega) k oP e
  have:=(h.iu _ (List.getElem_mem hb)).Vs k oP;omega
 rw[if_neg ea]at hk;by_cases eb:i=b
 ·subst eb
  rw[if_pos rfl];intro oP;rcases gi k oP with e|e
  ·exact bM a ha (by omega) k hk e
  have:=(h.iu _ (List.getElem_mem ha)).Vs k hk;omega
 rw[if_neg eb];exact hp a b ha hb eV k hk
theorem B9(L:List aU)(i:Nat)(x:aU):(L.set i x).map aU.s=(L.map aU.s).set i x.s:=by rw[List.map_set]
end
end Go.Proofs.YtgafcelloiagmaaGreatDoor
