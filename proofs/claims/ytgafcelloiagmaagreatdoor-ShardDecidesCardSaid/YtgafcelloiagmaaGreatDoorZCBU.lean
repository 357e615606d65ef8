/- A text of this proof. -/
import Derived.Test.YtgafcelloiagmaaGreatDoorZCBT
set_option maxHeartbeats 16000000
set_option linter.unusedSimpArgs false
set_option linter.unusedVariables false
set_option maxRecDepth 20000
namespace Go.Proofs.YtgafcelloiagmaaGreatDoor
open Go.Proofs.Tryz
open Go.RowKit Pm
attribute [local irreducible] wpStill
theorem T5{T U:TypeId}{k:Nat}(hT:Jz T k){w:World}{b o:Nat}{row cs:Array Value}(h:w.heap[b]?=some (.cells row U (0,0)))(hc:∀j v,cs.toList[j]?=some v->row[o+j]?=some v)(hs:cs.size=k):
  (Instr.loadAt T (.pointer (some ⟨b,o,none⟩))).run prog w=.ok (.agg cs) w:=by
 have hl:=run_loadCells_list (P:=prog) w ⟨b,o,none⟩ cs.toList (λj v hv=>by
  rw[Addr.add_lit,cell_of_row _ _ _ _ _ _ h,hc j v hv])
 rw[Array.length_toList,hs]at hl
 have hv:(loadVar T ⟨b,o,none⟩).run prog w=.ok (.agg cs) w:=by
  simp only[loadVar,Sem.run_bind,Sem.run_pure,Result.andThen_ok,hT.ag,if_true,hT.sz,hl]
 simp only[Instr.loadAt,Instr.sureAddr,Sem.run_bind,Sem.run_pure,Result.andThen_ok,hv]
theorem T6{w:World}{b:Nat}{y:JZ}{vp vr vn vt ve vw:Value}(h:w.heap[b]?=some (.cells (se y vp vr vn vt ve vw) Cc (0,0))):
  (Instr.loadAt aT (.pointer (some ⟨b,2,none⟩))).run prog w=.ok (.agg (aC y.a vr vn vt ve vw)) w:=by
 refine T5 bw h (λj v hv=>?_) rfl
 by_cases hj:10<=j
 ·rw[List.getElem?_eq_none (by unfold aC;simpa using hj)]at hv;cases hv
 have:j=0\/j=1\/j=2\/j=3\/j=4\/j=5\/j=6\/j=7\/j=8\/j=9:=by omega
 rcases this with rfl|rfl|rfl|rfl|rfl|rfl|rfl|rfl|rfl|rfl<;>exact hv
theorem JG{P:Program}{ops:Array Oper}{Q:Exit->Act->World->Prop}{md:Region.Mode}{S:World->Prop}(i j:Nat){o o':Oper}{fuel:Nat}{listed:Array Bool}{a:Act}{w:World}
  (h:∀K':Act->World->Prop,Shut (∀a w,S w->(S w->wpAnyH P md ops Q S fuel (listed.setIfInBounds i true) a w)->K' a w)->if Region.wanted o (yielded ops a.tmps)=true then Oper.wp P o a w K' Q else K' (a.put o.dst undef) w)
  (h':∀K':Act->World->Prop,Shut (∀a w,S w->(S w->wpAnyH P md ops Q S fuel (listed.setIfInBounds j true) a w)->K' a w)->if Region.wanted o' (yielded ops a.tmps)=true then Oper.wp P o' a w K' Q else K' (a.put o'.dst undef) w)
  (ho:ops[i]?=some o:=by simp only[zA,zB,zC]<;>exact rfl) (YI:ops[j]?=some o':=by simp only[zA,zB,zC]<;>exact rfl) (hr:Region.ready md ops listed=[i,j]:=by kernel_rfl):wpAnyH P md ops Q S (fuel+1) listed a w:=wpAnyH_ready hr (by simp) (AllReadyH.cons ho h (AllReadyH.cons YI h' AllReadyH.nil))
theorem PI{P:Program}{ops:Array Oper}{Q:Exit->Act->World->Prop}{md:Region.Mode}{S:World->Prop}(i j k:Nat){o o' p:Oper}{fuel:Nat}{listed:Array Bool}{a:Act}{w:World}
  (h:∀K':Act->World->Prop,Shut (∀a w,S w->(S w->wpAnyH P md ops Q S fuel (listed.setIfInBounds i true) a w)->K' a w)->if Region.wanted o (yielded ops a.tmps)=true then Oper.wp P o a w K' Q else K' (a.put o.dst undef) w)
  (h':∀K':Act->World->Prop,Shut (∀a w,S w->(S w->wpAnyH P md ops Q S fuel (listed.setIfInBounds j true) a w)->K' a w)->if Region.wanted o' (yielded ops a.tmps)=true then Oper.wp P o' a w K' Q else K' (a.put o'.dst undef) w)
  (h'':∀K':Act->World->Prop,Shut (∀a w,S w->(S w->wpAnyH P md ops Q S fuel (listed.setIfInBounds k true) a w)->K' a w)->if Region.wanted p (yielded ops a.tmps)=true then Oper.wp P p a w K' Q else K' (a.put p.dst undef) w)
  (ho:ops[i]?=some o:=by simp only[zA,zB,zC]<;>exact rfl) (YI:ops[j]?=some o':=by simp only[zA,zB,zC]<;>exact rfl) (hp:ops[k]?=some p:=by simp only[zA,zB,zC]<;>exact rfl) (hr:Region.ready md ops listed=[i,j,k]:=by kernel_rfl):wpAnyH P md ops Q S (fuel+1) listed a w:=wpAnyH_ready hr (by simp) (AllReadyH.cons ho h (AllReadyH.cons YI h' (AllReadyH.cons hp h'' AllReadyH.nil)))
abbrev V3:Array Value:=#[.slice none 0 0,.slice none 0 0]
theorem lW{W:World}{i j:Nat}{T T':TypeId}(h:W.heap[i]?=some (.cells V3 T (0,0)))(g:W.heap[j]?=some (.cells fq T' (0,0))):j≠i:=by
 rintro rfl;rw[h]at g;have h1:=Option.some.inj g;injection h1 with h1 _
 have h2:=congrArg Array.size h1;simp at h2
structure Lp(w9:World)(an:ck)(iE:Nat)(vr:Value)(W:World):Prop where
 fp:Fp ab w9 W
 row:W.heap[iE]?=some (.cells (aC an vr nS nS nS nS) aT (0,0))
 lt:w9.heap.size<=iE
 an:ej W an vr nS nS nS nS
theorem Lp.end{w9 V:World}{an:ck}{Cx iE:Nat}{vr u1 u2:Value}(hf:Fp ab w9 V)(h1:V.heap[Cx]?=some (.cells V3 aM (0,0)))(h2:V.heap[iE]?=some (.cells fq aT (0,0)))(l1:w9.heap.size<=Cx)(l2:w9.heap.size<=iE)
  (hA:ej V an vr nS nS nS nS):Lp w9 an iE vr ((V.setRow Cx #[u1,u2]).setRow iE (aC an vr nS nS nS nS)):=by
 have bA:=lW h1 h2;have g1:=av V Cx #[u1,u2];have r2:=g1.heap h2 bA;have g2:=av (V.setRow Cx #[u1,u2]) iE (aC an vr nS nS nS nS)
 have b1:Bl (λk=>k=Cx) V (V.setRow Cx #[u1,u2]):=⟨g1,λk hk=>by
  have hk:k=Cx:=hk;subst hk;exact .inr ⟨_,_,h1,jk (by decide) (by decide) (by intro u hu;simp only[List.mem_cons,List.not_mem_nil,or_false]at hu;rcases hu with rfl|rfl<;>exact .inl ⟨_,_,_,rfl⟩)⟩⟩
 have b2:Bl (λk=>k=iE) (V.setRow Cx #[u1,u2]) ((V.setRow Cx #[u1,u2]).setRow iE (aC an vr nS nS nS nS)):=⟨g2,λk hk=>by
  have hk:k=iE:=hk;subst hk;exact .inr ⟨_,_,r2,qG⟩⟩
 exact⟨(hf.trans g1 (λk hk=>.inr (by have hk:k=Cx:=hk;omega))).trans g2 (λk hk=>.inr (by have hk:k=iE:=hk;omega)),aj r2,l2,(hA.off b1).off b2⟩
def qR(s:St)(ps:List Pt):ck:={ (ik s ps).2 with yes:=decide ((ik s ps).2.err=0) }
theorem DJ(q a x d:Nat)(h:bQ)(c:Cd)(vp vn vt vg:Value)(N B0:Nat)(w:World)(hS:iR w q a x d h)(hI:Inv N B0 h)(hN:N<=3800)(jT:Sg Cb 8 w vp c.ps)(Cm:pN c)(hc:0<=c.bu/\c.bu<=281474976710656)(hn:h.dI.length<=1000000)(ht:xL q a x d w):
  Calls prog 87 #[.pointer (some ⟨q,0,none⟩),.agg (kg c vp vn vt vg)] w (bN q a x d (eD h c.bu c.gX (c.ps.map Pe.p)) w):=by
 have ay:=hS.lt;obtain⟨fS,fT,KY,JA,TB,QY,hP⟩:=hS.ex;obtain⟨v,sq,cP,gj⟩:=hP.dI.look (T:=EK) Tryz.underlying100 G8 hc;obtain⟨y,tp,lA,jK,iN,lB,lC,rfl,hQ⟩:=V2.of cP gj;obtain⟨ah,nh,ch,rfl⟩:∃a n c,JA=.slice a n c:=by obtain⟨a,c,e⟩:=hP.v.hh.shape;exact⟨a,_,c,e⟩
 obtain⟨ta,tl,tc,rfl⟩:=hQ.ps;have xu:=tK Cm;have xN:=Cu xu.2.1;have hF:=Fr.made w c vp vn vt vg;obtain⟨W2,gS⟩:∃W2,W2=(w.alloc (.cells (kg c vp vn vt vg) sr)).alloc (.cells fq aT):=⟨_,rfl⟩;rw[<-gS]at hF;have hq:=λW (f:Fp ab W2 W)=>yI (((hP.af hF.fp).af f).cell 7 (v:=.map (some x)) rfl) (yI ((hF.later f).cell 2 (v:=.int .i64 c.bu) rfl) (sq W (hF.fp.then f)))
 have HQ:=zI hq;have dr:=zI hF;have Nj:=jT.pcs Cm
 have cC:∀q∈c.ps.map pn,q.2.path.length<=1000000:=λz hz=>by
  obtain⟨x,hx,rfl⟩:=List.mem_map.1 hz;have:=cy ((bt _).1 (xu.2.1 x.p (List.mem_map.2 ⟨x,hx,rfl⟩))).2.1;show x.p.path.length<=1000000
  omega
 obtain⟨ps,dH⟩:∃ps,ps=c.ps.map Pe.p:=⟨_,rfl⟩;have hd:=λW (f:Fp ab w W)=>Hm (Nj.af f) (by rw[List.length_map];omega)
 have PJ:=λW (f:Fp ab w W)=>tI (.agg #[fS,fT]) vp h.st (c.ps.map pn) W ⟨fS,fT,rfl,hP.v.n.af f,hP.v.t.af f⟩ hI.st (by have:=hI.n;rw[List.length_map];omega) (by have:=hI.m;rw[List.length_map];omega) (Nj.af f) (by rw[qN];exact xu.2.1) cC (ht.yV.af f)
 have dN:=λW (f:Fp (Bk q a x d) w W)=>GQ vp (c.ps.map pn) W (Nj.off (λx=>⟨2,_,rfl⟩) ⟨f,hS.mF⟩) (by rw[List.length_map];omega)
 simp only[qN,<-dH]at hd PJ
 rw[<-dH]at xu xN|-;have eK:=λ(st:Int) W (f:Fp ab w W) e W' (g:Td q st W e W')=>g.pd ((hP.af f).cell 2 (v:=KY) rfl) (hP.v.r.af f) hI.Ni
 have Jo:ps.length=c.ps.length:=by rw[dH,List.length_map]
 have TX:(bI ps).length<=1000000:=by have h1:=xu.2.2;have h2:=xN.2;omega
 have TY:=λv W f qq (hv:uC W v (bI ps)) (hq:DA W f qq)=>oD v f (bI ps) qq W hv xN.1 hq TX
 have nK:=λv W (hv:uC W v (bI ps)) (f:Fp ab w W)=>Og (.slice ah nh ch) v h.hs c.bu c.gX (bI ps) W (hP.v.hh.af f) hI.fF hv xN.1 (by have:=hI.hn;omega) (by have h1:=xu.2.2;have h2:=xN.2;omega)
 have HP:=zI (yI ay (yI hS (yI hP (yI hc (yI hn hI)))));have HX:=zI (yI eK (yI TY (yI hd (yI nK (yI PJ (yI dN dH))))));have HT:=zI hQ;obtain⟨b1,bO⟩:∃b,b=(bI ps).any (qd h.rg 3):=⟨_,rfl⟩;obtain⟨b2,bW⟩:∃b,b=(bI ps).any (qd h.rg 2):=⟨_,rfl⟩;have Q3:=zI (yI bO bW)
 have hg:lk h.dI c.bu=none->eD h c.bu c.gX ps=if b1=true then (h,.no 132) else if b2=true then (h,.no 131) else if h.dI.length=128 then (h,.no 2)
   else if (eE h.hs c.bu c.gX (bI ps)).2.2=false then (h,{ ck.no 131 with JY:=(eE h.hs c.bu c.gX (bI ps)).2.1 })
   else ({ h with hs:=(eE h.hs c.bu c.gX (bI ps)).1,dI:=oR h.dI c.bu ⟨false,ps,qR h.st ps⟩ },qR h.st ps):=λhl=>by
  rw[vb hl,bO,bW];unfold eD qR;rw[hl]
 have mE:=zI hg;obtain⟨ap,np,cp,rfl⟩:∃a n c,vp=.slice a n c:=by obtain⟨a,c,e⟩:=jT.shape;exact⟨a,_,c,e⟩
 obtain⟨⟨g1,g2,g3,rfl⟩,⟨g4,g5,g6,rfl⟩⟩:=yI (hP.v.eL fS (by simp)) (hP.v.eL fT (by simp))
 clear ay hS hP hc hn hI sq cP gj hF hq hN ht hQ jT Cm xu xN Nj cC hd eK TY TX bO bW dH Jo nK hg PJ dN;go_enter func87,ntmps87
 go_wp2_with fail
 rw[<-gS];clear gS;refine wp_region_held_drew (S:=(λw'=>w'.cell? ⟨q,7,none⟩=some (.map (some x))/\w'.cell? ⟨w.heap.size,2,none⟩=some (.int .i64 c.bu)/\(Instr.lookup EK (.map (some x)) (.int .i64 c.bu) true).run prog w'=.ok (.tuple #[.agg (se y (.slice ta tl tc) lA jK iN lB lC),.bool (lk h.dI c.bu).isSome]) w')) (by kernel_rfl) ?_ (λhH=>?_)
 ·exact HQ _ ((Fp.refl ab _).drew)
 refine aF 0 hH ?_;refine aF 1 hH ?_;refine aF 2 hH ?_;refine aF 3 hH ?_;refine aF 4 hH ?_;refine aF 5 hH ?_;refine aF 6 hH ?_;refine aF 7 hH ?_;refine aF 8 hH ?_;refine aF 9 hH ?_;refine rY 10 (λK hK=>?_)
 go_simp;have uM:=zI (show((World.alloc W2 (.cells #[.bool false,.slice none 0 0,.int .i64 0,.int .i64 0,.bool false,.int .i64 0,.slice none 0 0,.slice none 0 0,.slice none 0 0,.slice none 0 0,.slice none 0 0,.slice none 0 0] Cc)).drew).heap[W2.heap.size]?=_ from heap_alloc_new W2 (.cells #[.bool false,.slice none 0 0,.int .i64 0,.int .i64 0,.bool false,.int .i64 0,.slice none 0 0,.slice none 0 0,.slice none 0 0,.slice none 0 0,.slice none 0 0,.slice none 0 0] Cc));have nw:=zI ((aa W2 (.cells #[.bool false,.slice none 0 0,.int .i64 0,.int .i64 0,.bool false,.int .i64 0,.slice none 0 0,.slice none 0 0,.slice none 0 0,.slice none 0 0,.slice none 0 0,.slice none 0 0] Cc)).drew);go_wp2_with fail
 refine hK _ _ (HQ _ nw.out) (λhH=>?_)
 clear hK K;try simp only[zz]
 generalize ((World.alloc W2 (.cells #[.bool false,.slice none 0 0,.int .i64 0,.int .i64 0,.bool false,.int .i64 0,.slice none 0 0,.slice none 0 0,.slice none 0 0,.slice none 0 0,.slice none 0 0,.slice none 0 0] Cc)).drew)=w3 at *;refine rY 11 (λK hK=>?_)
 refine step_st rfl Cc _ _ rfl _ _ rfl rfl (aA Tb uM rfl rfl HT.one) ?_;have qK:=zI (nw.trans (av w3 W2.heap.size (se y (.slice ta tl tc) lA jK iN lB lC)) (λk hk=>.inr (by have hk:k=W2.heap.size:=hk;omega)))
 have tw:=zI (aj (cs:=(se y (.slice ta tl tc) lA jK iN lB lC)) uM.out);refine hK _ _ (HQ _ qK.out) (λhH=>?_)
 clear hK K;try simp only[zz]
 refine aF 12 hH ?_;refine yD ?_;clear uM nw;generalize (World.setRow w3 W2.heap.size (se y (.slice ta tl tc) lA jK iN lB lC))=W3 at *;have HF:=zI (dr.later qK.out);have mc:=dr.fp.size;have vM:=(Array.getElem?_eq_some_iff.1 dr.rs).1;obtain⟨B3,T0⟩:∃b,b=W2.heap.size:=⟨_,rfl⟩;rw[<-T0]at tw|-;have Lk:=zI (show w.heap.size+1<B3 from by omega)
 clear mc vM T0 qK dr HQ;obtain⟨b0,_,_⟩:=Lj tw.out;rcases HT.is with⟨hl,Ll⟩|⟨hl,l,rO,lu⟩
 ·simp only[hl,Option.isSome_none]
  have HL:=zI hl;have k5:W3.cell? ⟨w.heap.size,5,none⟩=some (.slice ap np cp):=HF.cell 5 rfl;clear hl Ll b0 hH;go_wp2_with fail
  refine(HX.2.2.1 _ HF.fp).mono ?_;rintro e w4⟨vd,rfl,vj⟩;have F4:=zI (HF.later vj.fp);have D4:=zI (show uC w4 vd (bI ps) from dT.sg mz vj.own);clear vj k5;obtain⟨ad,cd,rfl⟩:=D4.shape;generalize aE:(bI ps).length=nd at *;clear aE;go_wp2_with fail
  refine(uY q 3 _).mono ?_;rintro e w5 g4;obtain⟨f4,rfl,CW⟩:=HX.1 3 w4 F4.fp _ _ g4;have F5:=zI (F4.later g4.fp);have D5:=zI (D4.af g4.fp);have EU:=HX.2.1 _ _ _ _ D5 CW;rw[<-Q3.1]at EU;obtain⟨kf4,fi4,fc4,rfl,_,_⟩:=CW.ex;have Yy:=zI EU;clear g4 CW EU;go_wp2_with fail
  refine Yy.mono ?_;rintro e w6⟨rfl,f6⟩;have F6:=zI (F5.later f6);have D6:=zI (D5.af f6);clear f6;cases b1 with
  |true=>
   have HD:=zI (show eD h c.bu c.gX ps=(h,.no 132) from by rw[mE HL.out];rfl)
   go_wp2_with fail
   refine(bF 132 _).mono ?_;rintro e w9⟨rfl,f9⟩;have F9:=zI (F6.later f9);clear f9;go_wp2_with (refine ak rfl aT _ _ rfl _ _ rfl rfl (aA bw (cs:=aC (.no 132) nS nS nS nS nS) F9.rs rfl rfl (aD ⟨⟨none,0,0,rfl⟩,⟨none,0,0,rfl⟩,⟨none,0,0,rfl⟩,⟨none,0,0,rfl⟩,⟨none,0,0,rfl⟩⟩)) ?_)
   obtain⟨z0,z1,z2,z3,z4,z5,z6,z7,z8,z9⟩:=bj (aj (cs:=aC (.no 132) nS nS nS nS nS) F9.rs);have HE:=zI (bN.fin (r:=(h,.no 132)) F9.fp.any F9.rs HP.1 (HP.2.1.af F9.fp) (ej.ok w9 132 0 false 0));generalize World.setRow w9 (w.heap.size+1) (aC (.no 132) nS nS nS nS nS)=wz at *;go_wp2;refine bodyPost_ret (v:=.agg (aC (.no 132) nS nS nS nS nS)) (by simp[results,results87,go_sem,z0,z1,z2,z3,z4,z5,z6,z7,z8,z9,aC]) rfl ?_
   rw[HD.out];exact HE.out
  |false=>?_
  go_wp2_with fail
  refine(uY q 2 _).mono ?_;rintro e w7 g6;obtain⟨f6,rfl,PE⟩:=HX.1 2 w6 F6.fp _ _ g6;have F7:=zI (F6.later g6.fp);have D7:=zI (D6.af g6.fp);have uW:=HX.2.1 _ _ _ _ D7 PE;rw[<-Q3.2]at uW;obtain⟨kf6,fi6,fc6,rfl,_,_⟩:=PE.ex;have TZ:=zI uW;clear g6 PE uW;go_wp2_with fail
  refine TZ.mono ?_;rintro e w8⟨rfl,f7⟩;have F8:=zI (F7.later f7);have D8:=zI (D7.af f7);clear f7;cases b2 with
  |true=>
   have HD:=zI (show eD h c.bu c.gX ps=(h,.no 131) from by rw[mE HL.out];simp)
   go_wp2_with fail
   refine(bF 131 _).mono ?_;rintro e w9⟨rfl,f9⟩;have F9:=zI (F8.later f9);clear f9;go_wp2_with (refine ak rfl aT _ _ rfl _ _ rfl rfl (aA bw (cs:=aC (.no 131) nS nS nS nS nS) F9.rs rfl rfl (aD ⟨⟨none,0,0,rfl⟩,⟨none,0,0,rfl⟩,⟨none,0,0,rfl⟩,⟨none,0,0,rfl⟩,⟨none,0,0,rfl⟩⟩)) ?_)
   obtain⟨z0,z1,z2,z3,z4,z5,z6,z7,z8,z9⟩:=bj (aj (cs:=aC (.no 131) nS nS nS nS nS) F9.rs);have HE:=zI (bN.fin (r:=(h,.no 131)) F9.fp.any F9.rs HP.1 (HP.2.1.af F9.fp) (ej.ok w9 131 0 false 0));generalize World.setRow w9 (w.heap.size+1) (aC (.no 131) nS nS nS nS nS)=wz at *;go_wp2;refine bodyPost_ret (v:=.agg (aC (.no 131) nS nS nS nS nS)) (by simp[results,results87,go_sem,z0,z1,z2,z3,z4,z5,z6,z7,z8,z9,aC]) rfl ?_
   rw[HD.out];exact HE.out
  |false=>?_
  have hlen:=(HP.2.2.1.af F8.fp).dI.len (T:=EK) Tryz.underlying100;have c7:=(HP.2.2.1.af F8.fp).cell 7 (v:=.map (some x)) rfl;obtain⟨n,aR⟩:∃n,n=h.dI.length:=⟨_,rfl⟩;rw[<-aR]at hlen;have vf:=zI aR;by_cases h128:n=128
  ·have HD:=zI (show eD h c.bu c.gX ps=(h,.no 2) from by rw[mE HL.out];simp[<-vf.out,h128])
   have q1:((n:Int)=128)=True:=eq_true (by omega)
   have q2:((n:Int) == 128)=true:=by rw[beq_iff_eq];omega
   clear aR h128;go_wp2_with fail
   refine(bF 2 _).mono ?_;rintro e w9⟨rfl,f9⟩;have F9:=zI (F8.later f9);clear f9;go_wp2_with (refine ak rfl aT _ _ rfl _ _ rfl rfl (aA bw (cs:=aC (.no 2) nS nS nS nS nS) F9.rs rfl rfl (aD ⟨⟨none,0,0,rfl⟩,⟨none,0,0,rfl⟩,⟨none,0,0,rfl⟩,⟨none,0,0,rfl⟩,⟨none,0,0,rfl⟩⟩)) ?_)
   obtain⟨z0,z1,z2,z3,z4,z5,z6,z7,z8,z9⟩:=bj (aj (cs:=aC (.no 2) nS nS nS nS nS) F9.rs);have HE:=zI (bN.fin (r:=(h,.no 2)) F9.fp.any F9.rs HP.1 (HP.2.1.af F9.fp) (ej.ok w9 2 0 false 0));generalize World.setRow w9 (w.heap.size+1) (aC (.no 2) nS nS nS nS nS)=wz at *;go_wp2;refine bodyPost_ret (v:=.agg (aC (.no 2) nS nS nS nS nS)) (by simp[results,results87,go_sem,z0,z1,z2,z3,z4,z5,z6,z7,z8,z9,aC]) rfl ?_
   rw[HD.out];exact HE.out
  have q1:((n:Int)=128)=False:=eq_false (by omega)
  have q2:((n:Int) == 128)=false:=by rw[beq_eq_false_iff_ne];omega
  have HN8:=zI h128;have lD:=λW (f:Fp ab w8 W)=>yI (((HP.2.2.1.af F8.fp).af f).cell 3 (v:=.slice ah nh ch) rfl) (yI ((F8.later f).cell 2 (v:=.int .i64 c.bu) rfl) ((F8.later f).cell 3 (v:=.int .i64 c.gX) rfl))
  have YJ:=zI lD;clear aR h128 lD;go_wp2_with fail
  refine wp_region_held_drew (S:=(λw'=>w'.cell? ⟨q,3,none⟩=some (.slice ah nh ch)/\w'.cell? ⟨w.heap.size,2,none⟩=some (.int .i64 c.bu)/\w'.cell? ⟨w.heap.size,3,none⟩=some (.int .i64 c.gX))) (by kernel_rfl) ?_ (λhH=>?_)
  ·exact YJ _ ((Fp.refl ab _).drew)
  refine aF 0 hH ?_;refine aF 1 hH ?_;refine aF 2 hH ?_;refine aF 3 hH ?_;refine aF 4 hH ?_;refine aF 5 hH ?_;refine aF 6 hH ?_;refine aF 7 hH ?_;refine aF 8 hH ?_;refine rY 9 (λK hK=>?_)
  go_simp;refine(HX.2.2.2.1 _ _ (D8.af ((Fp.refl ab _).drew)) (F8.fp.drew)).mono ?_;rintro e w9 g9;obtain⟨vh9,vi9,rfl,N9,I9⟩:=g9.ex;have N9:=zI N9;have I9:=zI I9;have f9:=zI ((Fp.refl ab w8).drew.then g9.fp);have F9:=zI (F8.later f9.out);clear g9;obtain⟨a9,c9,rfl⟩:=N9.shape;generalize hn9:(eE h.hs c.bu c.gX (bI ps)).1.length=n9 at *;clear hn9;obtain⟨ai,ni,ci,rfl⟩:∃a n c,vi9=.slice a n c:=by obtain⟨lo,h⟩:=I9.out;obtain⟨a,c,e⟩:=(dT.sg Cg h).shape;exact⟨a,_,c,e⟩
  obtain⟨b3,mc⟩:∃b,b=(eE h.hs c.bu c.gX (bI ps)).2.2:=⟨_,rfl⟩;rw[<-mc];have T7:=zI mc;clear mc;go_wp2_with fail
  refine hK _ _ (YJ _ f9.out) (λhH=>?_)
  clear hK K;try simp only[zz]
  refine aF 10 hH ?_;refine aF 11 hH ?_;refine aF 12 hH ?_;refine aF 13 hH ?_;refine aF 14 hH ?_;refine aF 15 hH ?_;refine aF 16 hH ?_;refine yD ?_;clear hH c7 hlen;cases b3 with
  |false=>
   have HD:=zI (show eD h c.bu c.gX ps=(h,{ ck.no 131 with JY:=(eE h.hs c.bu c.gX (bI ps)).2.1 }) from by rw[mE HL.out,<-T7.out];simp[<-vf.out,HN8.out])
   generalize (eE h.hs c.bu c.gX (bI ps)).2.1=wn at *;go_wp2_with (refine ak rfl aT _ _ rfl _ _ rfl rfl (aA bw (cs:=aC { ck.no 131 with JY:=wn } nS nS nS nS (.slice ai ni ci)) F9.rs rfl rfl (aD ⟨⟨none,0,0,rfl⟩,⟨none,0,0,rfl⟩,⟨none,0,0,rfl⟩,⟨none,0,0,rfl⟩,⟨_,_,_,rfl⟩⟩)) ?_)
   obtain⟨z0,z1,z2,z3,z4,z5,z6,z7,z8,z9⟩:=bj (aj (cs:=aC { ck.no 131 with JY:=wn } nS nS nS nS (.slice ai ni ci)) F9.rs)
   have HE:=zI (bN.fin (r:=(h,{ ck.no 131 with JY:=wn })) F9.fp.any F9.rs HP.1 (HP.2.1.af F9.fp) ⟨(ej.ok w9 131 0 false 0).r,Ns.nil w9,Ts.nil w9,mB.nil w9,I9.out⟩)
   generalize World.setRow w9 (w.heap.size+1) (aC { ck.no 131 with JY:=wn } nS nS nS nS (.slice ai ni ci))=wz at *
   go_wp2;refine bodyPost_ret (v:=.agg (aC { ck.no 131 with JY:=wn } nS nS nS nS (.slice ai ni ci))) (by simp[results,results87,go_sem,z0,z1,z2,z3,z4,z5,z6,z7,z8,z9,aC]) rfl ?_
   rw[HD.out];exact HE.out
  |true=>?_
  have HD:=zI (show eD h c.bu c.gX ps=({ h with hs:=(eE h.hs c.bu c.gX (bI ps)).1,dI:=oR h.dI c.bu ⟨false,ps,qR h.st ps⟩ },qR h.st ps) from by rw[mE HL.out,<-T7.out];simp[<-vf.out,HN8.out])
  have V4:=λW (f:Fp ab w9 W)=>yI ((HP.2.2.1.af (F9.later f).fp).cell 0 (v:=.slice g1 g2 g3) rfl) (yI ((HP.2.2.1.af (F9.later f).fp).cell 1 (v:=.slice g4 g5 g6) rfl) ((F9.later f).cell 5 (v:=.slice ap np cp) rfl))
  have bg:=zI V4;clear V4;obtain⟨an,iQ⟩:∃a,a=(ik h.st ps).2:=⟨_,rfl⟩;obtain⟨now,Hk⟩:∃a,a=(ik h.st ps).1:=⟨_,rfl⟩;have zj:=zI iQ;have T8:=zI Hk;clear iQ Hk;go_wp2_with fail
  go_cut [11,12] from 67 to 76 (λYo x12 wc=>∃(Cx iE:Nat) (h1:Option Addr) (h2 h3:Nat),Yo=.pointer (some ⟨Cx,0,none⟩)/\x12=.pointer (some ⟨iE,0,none⟩)/\Hid (Lp w9 an iE (.slice h1 h2 h3) wc))
  case first=>
   have Fw:=zI ((Fp.refl ab w9).drew);refine wp_region_held_drew (S:=(λw'=>w'.cell? ⟨q,0,none⟩=some (.slice g1 g2 g3)/\w'.cell? ⟨q,1,none⟩=some (.slice g4 g5 g6)/\w'.cell? ⟨w.heap.size,5,none⟩=some (.slice ap np cp))) (by kernel_rfl) ?_ (λhH=>?_)
   ·exact bg _ ((Fp.refl ab _).drew)
   refine aF 0 hH ?_;refine aF 1 hH ?_;refine aF 2 hH ?_;refine aF 3 hH ?_;refine aF 4 hH ?_;refine aF 5 hH ?_;refine PI 6 10 11 (λK hK=>?_) (λK hK=>?_) (λK hK=>?_)
   ·go_simp
    refine(HX.2.2.2.2.1 _ (F9.later Fw.out).fp).mono ?_;rintro e v1 hR;obtain⟨un,ut,ur,rfl,o1,o2,o3⟩:=hR.ex;rw[<-zj.out]at o3|-;rw[<-T8.out]at o1 o2;have f1:=zI hR.fp;have Fw:=zI (Fw.then f1.out);have AA:=zI o3;obtain⟨h1,h2,h3,rfl⟩:=o3.eL.1;obtain⟨b1,j1,rfl⟩:=o1.shape;obtain⟨b2,j2,rfl⟩:=o2.shape;generalize now.nodes.length=m1 at *;generalize now.turns.length=m2 at *;clear hR o1 o2 o3;go_wp2_with fail
    refine hK _ _ (bg _ Fw.out) (λhH=>?_)
    clear hK K;try simp only[zz]
    refine aF 7 hH ?_;refine aF 8 hH ?_;refine aF 9 hH ?_;refine JG 10 11 (λK hK=>?_) (λK hK=>?_)
    ·go_simp
     have gT:=zI (heap_alloc_new v1 (.cells #[.slice none 0 0,.slice none 0 0] aM));have f1:=zI (aa v1 (.cells #[.slice none 0 0,.slice none 0 0] aM));have rQ:=zI Fw.size;have Fw:=zI (Fw.then f1.out);have AA:=zI (AA.off (f1.out).bl);go_wp2_with fail
     refine hK _ _ (bg _ Fw.out) (λhH=>?_)
     clear hK K;try simp only[zz]
     generalize (World.alloc v1 (.cells #[.slice none 0 0,.slice none 0 0] aM))=v2 at *;refine rY 11 (λK hK=>?_)
     go_simp;have kK:=zI (heap_alloc_new v2 (.cells fq aT));have f1:=zI (aa v2 (.cells fq aT));have JH:=zI Fw.size;have Fw:=zI (Fw.then f1.out);have AA:=zI (AA.off (f1.out).bl);have gT:=zI ((f1.out).heap gT id);go_wp2_with fail
     refine hK _ _ (bg _ Fw.out) (λhH=>?_)
     clear hK K;try simp only[zz]
     generalize (World.alloc v2 (.cells fq aT))=v3 at *;refine rY 12 (λK hK=>?_)
     refine step_st rfl aM _ _ rfl _ _ rfl rfl (aA dD (cs:=#[.slice b1 m1 j1,.slice b2 m2 j2]) gT rfl rfl (by intro u hu;simp only[List.mem_cons,List.not_mem_nil,or_false]at hu;rcases hu with rfl|rfl<;>rfl)) ?_
     have bA:=lW gT kK.out;have Fx:=zI (Fw.trans (av v3 v1.heap.size #[.slice b1 m1 j1,.slice b2 m2 j2]) (λk hk=>.inr (by have h:=rQ.out;have hk:k=v1.heap.size:=hk;omega)))
     have Rx:=zI ((av v3 v1.heap.size #[.slice b1 m1 j1,.slice b2 m2 j2]).heap kK bA);refine hK _ _ (bg _ Fx.out) (λhH=>?_)
     clear hK K bA;try simp only[zz]
     refine rY 13 (λK hK=>?_)
     refine step_st rfl aT _ _ rfl _ _ rfl rfl (aA bw (cs:=aC an (.slice h1 h2 h3) nS nS nS nS) Rx rfl rfl (aD ⟨⟨_,_,_,rfl⟩,⟨none,0,0,rfl⟩,⟨none,0,0,rfl⟩,⟨none,0,0,rfl⟩,⟨none,0,0,rfl⟩⟩)) ?_;have MM:=zI (Lp.end (u1:=.slice b1 m1 j1) (u2:=.slice b2 m2 j2) Fw gT kK rQ JH AA.out);refine hK _ _ (bg _ MM.fp) (λhH=>?_)
     clear hK K;try simp only[zz]
     refine yD ?_;go_wp2_with fail
     go_meet
     case rel=>exact⟨_,_,_,_,_,rfl,rfl,MM⟩
    go_simp;have kK:=zI (heap_alloc_new v1 (.cells fq aT));have f1:=zI (aa v1 (.cells fq aT));have JH:=zI Fw.size;have Fw:=zI (Fw.then f1.out);have AA:=zI (AA.off (f1.out).bl);go_wp2_with fail
    refine hK _ _ (bg _ Fw.out) (λhH=>?_)
    clear hK K;try simp only[zz]
    generalize (World.alloc v1 (.cells fq aT))=v2 at *;refine rY 10 (λK hK=>?_)
    go_simp;have gT:=zI (heap_alloc_new v2 (.cells #[.slice none 0 0,.slice none 0 0] aM));have f1:=zI (aa v2 (.cells #[.slice none 0 0,.slice none 0 0] aM));have rQ:=zI Fw.size;have Fw:=zI (Fw.then f1.out);have AA:=zI (AA.off (f1.out).bl);have kK:=zI ((f1.out).heap kK id);go_wp2_with fail
    refine hK _ _ (bg _ Fw.out) (λhH=>?_)
    clear hK K;try simp only[zz]
    generalize (World.alloc v2 (.cells #[.slice none 0 0,.slice none 0 0] aM))=v3 at *;refine rY 12 (λK hK=>?_)
    refine step_st rfl aM _ _ rfl _ _ rfl rfl (aA dD (cs:=#[.slice b1 m1 j1,.slice b2 m2 j2]) gT rfl rfl (by intro u hu;simp only[List.mem_cons,List.not_mem_nil,or_false]at hu;rcases hu with rfl|rfl<;>rfl)) ?_
    have bA:=lW gT kK.out;have Fx:=zI (Fw.trans (av v3 v2.heap.size #[.slice b1 m1 j1,.slice b2 m2 j2]) (λk hk=>.inr (by have h:=rQ.out;have hk:k=v2.heap.size:=hk;omega)))
    have Rx:=zI ((av v3 v2.heap.size #[.slice b1 m1 j1,.slice b2 m2 j2]).heap kK bA);refine hK _ _ (bg _ Fx.out) (λhH=>?_)
    clear hK K bA;try simp only[zz]
    refine rY 13 (λK hK=>?_)
    refine step_st rfl aT _ _ rfl _ _ rfl rfl (aA bw (cs:=aC an (.slice h1 h2 h3) nS nS nS nS) Rx rfl rfl (aD ⟨⟨_,_,_,rfl⟩,⟨none,0,0,rfl⟩,⟨none,0,0,rfl⟩,⟨none,0,0,rfl⟩,⟨none,0,0,rfl⟩⟩)) ?_;have MM:=zI (Lp.end (u1:=.slice b1 m1 j1) (u2:=.slice b2 m2 j2) Fw gT kK rQ JH AA.out);refine hK _ _ (bg _ MM.fp) (λhH=>?_)
    clear hK K;try simp only[zz]
    refine yD ?_;go_wp2_with fail
    go_meet
    case rel=>exact⟨_,_,_,_,_,rfl,rfl,MM⟩
   ·go_simp
    have gT:=zI (show((World.alloc w9 (.cells #[.slice none 0 0,.slice none 0 0] aM)).drew).heap[w9.heap.size]?=_ from heap_alloc_new w9 (.cells #[.slice none 0 0,.slice none 0 0] aM));have f1:=zI ((aa w9 (.cells #[.slice none 0 0,.slice none 0 0] aM)).drew);have Fw:=zI f1.out;have rQ:=zI (Nat.le_refl w9.heap.size);go_wp2_with fail
    refine hK _ _ (bg _ Fw.out) (λhH=>?_)
    clear hK K;try simp only[zz]
    generalize ((World.alloc w9 (.cells #[.slice none 0 0,.slice none 0 0] aM)).drew)=v1 at *;refine JG 6 11 (λK hK=>?_) (λK hK=>?_)
    ·go_simp
     refine(HX.2.2.2.2.1 _ (F9.later Fw.out).fp).mono ?_;rintro e v2 hR;obtain⟨un,ut,ur,rfl,o1,o2,o3⟩:=hR.ex;rw[<-zj.out]at o3|-;rw[<-T8.out]at o1 o2;have f1:=zI hR.fp;have Fw:=zI (Fw.then f1.out);have gT:=zI ((f1.out).heap gT id);have AA:=zI o3;obtain⟨h1,h2,h3,rfl⟩:=o3.eL.1;obtain⟨b1,j1,rfl⟩:=o1.shape;obtain⟨b2,j2,rfl⟩:=o2.shape;generalize now.nodes.length=m1 at *;generalize now.turns.length=m2 at *;clear hR o1 o2 o3;go_wp2_with fail
     refine hK _ _ (bg _ Fw.out) (λhH=>?_)
     clear hK K;try simp only[zz]
     refine aF 7 hH ?_;refine aF 8 hH ?_;refine aF 9 hH ?_;refine rY 11 (λK hK=>?_)
     go_simp;have kK:=zI (heap_alloc_new v2 (.cells fq aT));have f1:=zI (aa v2 (.cells fq aT));have JH:=zI Fw.size;have Fw:=zI (Fw.then f1.out);have gT:=zI ((f1.out).heap gT id);have AA:=zI (AA.off (f1.out).bl);go_wp2_with fail
     refine hK _ _ (bg _ Fw.out) (λhH=>?_)
     clear hK K;try simp only[zz]
     generalize (World.alloc v2 (.cells fq aT))=v3 at *;refine rY 12 (λK hK=>?_)
     refine step_st rfl aM _ _ rfl _ _ rfl rfl (aA dD (cs:=#[.slice b1 m1 j1,.slice b2 m2 j2]) gT rfl rfl (by intro u hu;simp only[List.mem_cons,List.not_mem_nil,or_false]at hu;rcases hu with rfl|rfl<;>rfl)) ?_
     have bA:=lW gT kK.out;have Fx:=zI (Fw.trans (av v3 w9.heap.size #[.slice b1 m1 j1,.slice b2 m2 j2]) (λk hk=>.inr (by have h:=rQ.out;have hk:k=w9.heap.size:=hk;omega)))
     have Rx:=zI ((av v3 w9.heap.size #[.slice b1 m1 j1,.slice b2 m2 j2]).heap kK bA);refine hK _ _ (bg _ Fx.out) (λhH=>?_)
     clear hK K bA;try simp only[zz]
     refine rY 13 (λK hK=>?_)
     refine step_st rfl aT _ _ rfl _ _ rfl rfl (aA bw (cs:=aC an (.slice h1 h2 h3) nS nS nS nS) Rx rfl rfl (aD ⟨⟨_,_,_,rfl⟩,⟨none,0,0,rfl⟩,⟨none,0,0,rfl⟩,⟨none,0,0,rfl⟩,⟨none,0,0,rfl⟩⟩)) ?_;have MM:=zI (Lp.end (u1:=.slice b1 m1 j1) (u2:=.slice b2 m2 j2) Fw gT kK rQ JH AA.out);refine hK _ _ (bg _ MM.fp) (λhH=>?_)
     clear hK K;try simp only[zz]
     refine yD ?_;go_wp2_with fail
     go_meet
     case rel=>exact⟨_,_,_,_,_,rfl,rfl,MM⟩
    go_simp;have kK:=zI (heap_alloc_new v1 (.cells fq aT));have f1:=zI (aa v1 (.cells fq aT));have JH:=zI Fw.size;have Fw:=zI (Fw.then f1.out);have gT:=zI ((f1.out).heap gT id);go_wp2_with fail
    refine hK _ _ (bg _ Fw.out) (λhH=>?_)
    clear hK K;try simp only[zz]
    generalize (World.alloc v1 (.cells fq aT))=v2 at *;refine rY 6 (λK hK=>?_)
    go_simp;refine(HX.2.2.2.2.1 _ (F9.later Fw.out).fp).mono ?_;rintro e v3 hR;obtain⟨un,ut,ur,rfl,o1,o2,o3⟩:=hR.ex;rw[<-zj.out]at o3|-;rw[<-T8.out]at o1 o2;have f1:=zI hR.fp;have Fw:=zI (Fw.then f1.out);have gT:=zI ((f1.out).heap gT id);have kK:=zI ((f1.out).heap kK id);have AA:=zI o3;obtain⟨h1,h2,h3,rfl⟩:=o3.eL.1;obtain⟨b1,j1,rfl⟩:=o1.shape;obtain⟨b2,j2,rfl⟩:=o2.shape;generalize now.nodes.length=m1 at *;generalize now.turns.length=m2 at *;clear hR o1 o2 o3;go_wp2_with fail
    refine hK _ _ (bg _ Fw.out) (λhH=>?_)
    clear hK K;try simp only[zz]
    refine aF 7 hH ?_;refine aF 8 hH ?_;refine aF 9 hH ?_;refine rY 12 (λK hK=>?_)
    refine step_st rfl aM _ _ rfl _ _ rfl rfl (aA dD (cs:=#[.slice b1 m1 j1,.slice b2 m2 j2]) gT rfl rfl (by intro u hu;simp only[List.mem_cons,List.not_mem_nil,or_false]at hu;rcases hu with rfl|rfl<;>rfl)) ?_
    have bA:=lW gT kK.out;have Fx:=zI (Fw.trans (av v3 w9.heap.size #[.slice b1 m1 j1,.slice b2 m2 j2]) (λk hk=>.inr (by have h:=rQ.out;have hk:k=w9.heap.size:=hk;omega)))
    have Rx:=zI ((av v3 w9.heap.size #[.slice b1 m1 j1,.slice b2 m2 j2]).heap kK bA);refine hK _ _ (bg _ Fx.out) (λhH=>?_)
    clear hK K bA;try simp only[zz]
    refine rY 13 (λK hK=>?_)
    refine step_st rfl aT _ _ rfl _ _ rfl rfl (aA bw (cs:=aC an (.slice h1 h2 h3) nS nS nS nS) Rx rfl rfl (aD ⟨⟨_,_,_,rfl⟩,⟨none,0,0,rfl⟩,⟨none,0,0,rfl⟩,⟨none,0,0,rfl⟩,⟨none,0,0,rfl⟩⟩)) ?_;have MM:=zI (Lp.end (u1:=.slice b1 m1 j1) (u2:=.slice b2 m2 j2) Fw gT kK rQ JH AA.out);refine hK _ _ (bg _ MM.fp) (λhH=>?_)
    clear hK K;try simp only[zz]
    refine yD ?_;go_wp2_with fail
    go_meet
    case rel=>exact⟨_,_,_,_,_,rfl,rfl,MM⟩
   go_simp;have kK:=zI (show((World.alloc w9 (.cells fq aT)).drew).heap[w9.heap.size]?=_ from heap_alloc_new w9 (.cells fq aT));have f1:=zI ((aa w9 (.cells fq aT)).drew);have Fw:=zI f1.out;have JH:=zI (Nat.le_refl w9.heap.size);go_wp2_with fail
   refine hK _ _ (bg _ Fw.out) (λhH=>?_)
   clear hK K;try simp only[zz]
   generalize ((World.alloc w9 (.cells fq aT)).drew)=v1 at *;refine JG 6 10 (λK hK=>?_) (λK hK=>?_)
   ·go_simp
    refine(HX.2.2.2.2.1 _ (F9.later Fw.out).fp).mono ?_;rintro e v2 hR;obtain⟨un,ut,ur,rfl,o1,o2,o3⟩:=hR.ex;rw[<-zj.out]at o3|-;rw[<-T8.out]at o1 o2;have f1:=zI hR.fp;have Fw:=zI (Fw.then f1.out);have kK:=zI ((f1.out).heap kK id);have AA:=zI o3;obtain⟨h1,h2,h3,rfl⟩:=o3.eL.1;obtain⟨b1,j1,rfl⟩:=o1.shape;obtain⟨b2,j2,rfl⟩:=o2.shape;generalize now.nodes.length=m1 at *;generalize now.turns.length=m2 at *;clear hR o1 o2 o3;go_wp2_with fail
    refine hK _ _ (bg _ Fw.out) (λhH=>?_)
    clear hK K;try simp only[zz]
    refine aF 7 hH ?_;refine aF 8 hH ?_;refine aF 9 hH ?_;refine rY 10 (λK hK=>?_)
    go_simp;have gT:=zI (heap_alloc_new v2 (.cells #[.slice none 0 0,.slice none 0 0] aM));have f1:=zI (aa v2 (.cells #[.slice none 0 0,.slice none 0 0] aM));have rQ:=zI Fw.size;have Fw:=zI (Fw.then f1.out);have kK:=zI ((f1.out).heap kK id);have AA:=zI (AA.off (f1.out).bl);go_wp2_with fail
    refine hK _ _ (bg _ Fw.out) (λhH=>?_)
    clear hK K;try simp only[zz]
    generalize (World.alloc v2 (.cells #[.slice none 0 0,.slice none 0 0] aM))=v3 at *;refine rY 12 (λK hK=>?_)
    refine step_st rfl aM _ _ rfl _ _ rfl rfl (aA dD (cs:=#[.slice b1 m1 j1,.slice b2 m2 j2]) gT rfl rfl (by intro u hu;simp only[List.mem_cons,List.not_mem_nil,or_false]at hu;rcases hu with rfl|rfl<;>rfl)) ?_
    have bA:=lW gT kK.out;have Fx:=zI (Fw.trans (av v3 v2.heap.size #[.slice b1 m1 j1,.slice b2 m2 j2]) (λk hk=>.inr (by have h:=rQ.out;have hk:k=v2.heap.size:=hk;omega)))
    have Rx:=zI ((av v3 v2.heap.size #[.slice b1 m1 j1,.slice b2 m2 j2]).heap kK bA);refine hK _ _ (bg _ Fx.out) (λhH=>?_)
    clear hK K bA;try simp only[zz]
    refine rY 13 (λK hK=>?_)
    refine step_st rfl aT _ _ rfl _ _ rfl rfl (aA bw (cs:=aC an (.slice h1 h2 h3) nS nS nS nS) Rx rfl rfl (aD ⟨⟨_,_,_,rfl⟩,⟨none,0,0,rfl⟩,⟨none,0,0,rfl⟩,⟨none,0,0,rfl⟩,⟨none,0,0,rfl⟩⟩)) ?_;have MM:=zI (Lp.end (u1:=.slice b1 m1 j1) (u2:=.slice b2 m2 j2) Fw gT kK rQ JH AA.out);refine hK _ _ (bg _ MM.fp) (λhH=>?_)
    clear hK K;try simp only[zz]
    refine yD ?_;go_wp2_with fail
    go_meet
    case rel=>exact⟨_,_,_,_,_,rfl,rfl,MM⟩
   go_simp;have gT:=zI (heap_alloc_new v1 (.cells #[.slice none 0 0,.slice none 0 0] aM));have f1:=zI (aa v1 (.cells #[.slice none 0 0,.slice none 0 0] aM));have rQ:=zI Fw.size;have Fw:=zI (Fw.then f1.out);have kK:=zI ((f1.out).heap kK id);go_wp2_with fail
   refine hK _ _ (bg _ Fw.out) (λhH=>?_)
   clear hK K;try simp only[zz]
   generalize (World.alloc v1 (.cells #[.slice none 0 0,.slice none 0 0] aM))=v2 at *;refine rY 6 (λK hK=>?_)
   go_simp;refine(HX.2.2.2.2.1 _ (F9.later Fw.out).fp).mono ?_;rintro e v3 hR;obtain⟨un,ut,ur,rfl,o1,o2,o3⟩:=hR.ex;rw[<-zj.out]at o3|-;rw[<-T8.out]at o1 o2;have f1:=zI hR.fp;have Fw:=zI (Fw.then f1.out);have kK:=zI ((f1.out).heap kK id);have gT:=zI ((f1.out).heap gT id);have AA:=zI o3;obtain⟨h1,h2,h3,rfl⟩:=o3.eL.1;obtain⟨b1,j1,rfl⟩:=o1.shape;obtain⟨b2,j2,rfl⟩:=o2.shape;generalize now.nodes.length=m1 at *;generalize now.turns.length=m2 at *;clear hR o1 o2 o3;go_wp2_with fail
   refine hK _ _ (bg _ Fw.out) (λhH=>?_)
   clear hK K;try simp only[zz]
   refine aF 7 hH ?_;refine aF 8 hH ?_;refine aF 9 hH ?_;refine rY 12 (λK hK=>?_)
   refine step_st rfl aM _ _ rfl _ _ rfl rfl (aA dD (cs:=#[.slice b1 m1 j1,.slice b2 m2 j2]) gT rfl rfl (by intro u hu;simp only[List.mem_cons,List.not_mem_nil,or_false]at hu;rcases hu with rfl|rfl<;>rfl)) ?_
   have bA:=lW gT kK.out;have Fx:=zI (Fw.trans (av v3 v1.heap.size #[.slice b1 m1 j1,.slice b2 m2 j2]) (λk hk=>.inr (by have h:=rQ.out;have hk:k=v1.heap.size:=hk;omega)))
   have Rx:=zI ((av v3 v1.heap.size #[.slice b1 m1 j1,.slice b2 m2 j2]).heap kK bA);refine hK _ _ (bg _ Fx.out) (λhH=>?_)
   clear hK K bA;try simp only[zz]
   refine rY 13 (λK hK=>?_)
   refine step_st rfl aT _ _ rfl _ _ rfl rfl (aA bw (cs:=aC an (.slice h1 h2 h3) nS nS nS nS) Rx rfl rfl (aD ⟨⟨_,_,_,rfl⟩,⟨none,0,0,rfl⟩,⟨none,0,0,rfl⟩,⟨none,0,0,rfl⟩,⟨none,0,0,rfl⟩⟩)) ?_;have MM:=zI (Lp.end (u1:=.slice b1 m1 j1) (u2:=.slice b2 m2 j2) Fw gT kK rQ JH AA.out);refine hK _ _ (bg _ MM.fp) (λhH=>?_)
   clear hK K;try simp only[zz]
   refine yD ?_;go_wp2_with fail
   go_meet
   case rel=>exact⟨_,_,_,_,_,rfl,rfl,MM⟩
  obtain⟨Cx,iE,h1,h2,h3,rfl,rfl,MM⟩:=hcut;have y0:=(bj MM.row).1;have y2:=(bj MM.row).2.2.1;have z2:=ae MM.row 2;obtain⟨eb,PK⟩:∃b,b=decide (an.err=0):=⟨_,rfl⟩;obtain⟨am,V5⟩:∃z:ck,z={ an with yes:=eb }:=⟨_,rfl⟩
  have zk:=zI (show eD h c.bu c.gX ps=({ h with hs:=(eE h.hs c.bu c.gX (bI ps)).1,dI:=oR h.dI c.bu ⟨false,ps,am⟩ },am) from by rw[HD.out,show qR h.st ps=am from by unfold qR;rw[V5,PK,zj.out]])
  have dj:=zI (show(wc.setCell ⟨iE,2,none⟩ (.bool eb)).heap[iE]?=some (.cells (aC am (.slice h1 h2 h3) nS nS nS nS) aT (0,0)) from by rw[V5];exact heap_setCell_same wc iE 2 _ aT (.bool eb) MM.row)
  have Q5:=zI (show Fp ab w9 (wc.setCell ⟨iE,2,none⟩ (.bool eb)) from MM.fp.trans (bd wc iE 2 (.bool eb)) (λk hk=>.inr (by have h:=MM.lt;have hk:k=iE:=hk;omega)))
  have sT:Bl (λk=>k=iE) wc (wc.setCell ⟨iE,2,none⟩ (.bool eb)):=⟨bd wc iE 2 (.bool eb),λk hk=>by
   have hk:k=iE:=hk;subst hk;exact .inr ⟨_,_,MM.row,kE ⟨_,_,_,rfl⟩ ⟨none,0,0,rfl⟩ ⟨none,0,0,rfl⟩ ⟨none,0,0,rfl⟩ ⟨none,0,0,rfl⟩⟩⟩
  have A14:=zI (show ej (wc.setCell ⟨iE,2,none⟩ (.bool eb)) am (.slice h1 h2 h3) nS nS nS nS from by
   have g:=MM.an.off sT;rw[V5];exact⟨g.r,g.n,g.t,g.e,g.w⟩)
  have e1:decide (an.err=0)=eb:=PK.symm;have e2:(an.err == 0)=eb:=by rw[PK];rfl
  have Nl:=zI (HP.2.2.1.af (F9.later Q5.out).fp);obtain⟨x3,y3,ba,kA⟩:=Au Nl.row (.slice a9 n9 c9);have EW:=HP.1 q (.inl rfl);have hs9:=F9.fp.size;have oj:=(Array.getElem?_eq_some_iff.1 F9.rs).1;have hl:=MM.lt;have P15:=zI (Nl.QS (g:={ h with hs:=(eE h.hs c.bu c.gX (bI ps)).1 }) kA ba ⟨Nl.v.n,Nl.v.t,Nl.v.r,N9.af Q5.out,Nl.v.w⟩ rfl rfl rfl)
  have A15:=zI (A14.off (Nl.one (.inl rfl) kA));have dm:=zI (kA.heap dj (λe=>by have e:iE=q:=e;omega))
  have YK:=zI (kA.heap (F9.later Q5.out).rs (λe=>by have e:w.heap.size+1=q:=e;omega))
  have PL:=zI (kA.heap (F9.later Q5.out).cb (λe=>by have e:w.heap.size=q:=e;omega))
  have F15:=zI (show Fp (Bk q a x d) w (World.setCell (wc.setCell ⟨iE,2,none⟩ (.bool eb)) ⟨q,3,none⟩ (.slice a9 n9 c9)) from((F9.later Q5.out).fp.any).trans kA (λk hk=>.inl (.inl hk)))
  have rR:=zI (show w.heap.size+1<iE from by omega)
  clear ba kA EW hs9 oj hl sT V5 PK HD hH bg YJ;go_wp2_with fail
  generalize (World.setCell (wc.setCell ⟨iE,2,none⟩ (.bool eb)) ⟨q,3,none⟩ (.slice a9 n9 c9))=W15 at *;clear x3 y3 y0 y2 z2 e1 e2 dj Q5 A14 Nl MM;have hs5:=λW (f:Fp ab W15 W)=>yI ((P15.af f).cell 7 (v:=.map (some x)) rfl) (yI (pQ (f.heap PL id) 2 (v:=.int .i64 c.bu) rfl) (yI (pQ (f.heap PL id) 5 (v:=.slice ap np cp) rfl) (bj (f.heap dm id))))
  have Si:=zI hs5;clear hs5;refine wp_region_held_drew (S:=(λw'=>w'.cell? ⟨q,7,none⟩=some (.map (some x))/\w'.cell? ⟨w.heap.size,2,none⟩=some (.int .i64 c.bu)/\w'.cell? ⟨w.heap.size,5,none⟩=some (.slice ap np cp)/\w'.cell? ⟨iE,0,none⟩=some (.int .i64 am.err)/\w'.cell? ⟨iE,1,none⟩=some (.int .i64 am.idx)/\w'.cell? ⟨iE,2,none⟩=some (.bool am.yes)/\w'.cell? ⟨iE,3,none⟩=some (.int .i64 am.ep)/\w'.cell? ⟨iE,4,none⟩=some (.slice h1 h2 h3)/\w'.cell? ⟨iE,5,none⟩=some (.slice none 0 0)/\w'.cell? ⟨iE,6,none⟩=some (.slice none 0 0)/\w'.cell? ⟨iE,7,none⟩=some (.slice none 0 0)/\w'.cell? ⟨iE,8,none⟩=some (.slice none 0 0)/\w'.cell? ⟨iE,9,none⟩=some (.slice none 0 0))) (by kernel_rfl) ?_ (λhH=>?_)
  ·exact Si _ ((Fp.refl ab _).drew)
  refine aF 0 hH ?_;refine aF 1 hH ?_;refine aF 2 hH ?_;refine aF 3 hH ?_;refine aF 4 hH ?_;refine aF 5 hH ?_;refine aF 6 hH ?_;refine aF 7 hH ?_;refine aF 9 hH ?_;refine rY 8 (λK hK=>?_)
  go_simp;refine(HX.2.2.2.2.2.1 _ (F15.drew)).mono ?_;rintro e w16⟨v16,rfl,DK⟩;have f16:=zI ((Fp.refl ab W15).drew.then DK.fp);have G16:=zI (dT.sg pL DK.own);clear DK;obtain⟨a16,c16,rfl⟩:=G16.shape;generalize (c.ps.map pn).length=n16 at *;go_wp2_with fail
  refine hK _ _ (Si _ f16.out) (λhH=>?_)
  clear hK K;try simp only[zz]
  refine aF 10 hH ?_;have Q6:=zI (P15.af f16.out);have A16:=zI (A15.off f16.bl);have eR:=Q6.dI.Ca (T:=EK) Tryz.underlying100 HP.2.2.2.1 (.agg (se ⟨false,ps,am⟩ (.slice a16 n16 c16) (.slice h1 h2 h3) nS nS nS nS)) ⟨false,ps,am⟩ HP.2.2.2.2.1 (λw' f=>⟨_,_,_,_,_,_,rfl,⟨c.ps.map pn,by rw[qN];exact HX.2.2.2.2.2.2.symm,G16.off (λx=>⟨2,_,rfl⟩) (Q6.one (.inr (.inr (.inl rfl))) f)⟩,A16.off (Q6.one (.inr (.inr (.inl rfl))) f)⟩) (λw' f v t h=>h.off (Q6.one (.inr (.inr (.inl rfl))) f))
  obtain⟨w17,T9,Ua⟩:=eR;have HU:=zI Ua;have YL:=zI T9;clear Ua T9;refine rY 11 (λK hK=>?_)
  refine step_upd rfl EK _ _ _ rfl _ _ _ rfl rfl rfl YL.out ?_;have T3:=HP.1 x (.inr (.inr (.inl rfl)));have fB:=rR.out;have R17:=zI (HU.fp.heap (f16.heap dm id) (λe=>by have e:iE=x:=e;omega))
  have PM:=zI (HU.fp.heap (f16.heap YK id) (λe=>by have e:w.heap.size+1=x:=e;omega))
  have Ub:=zI (HU.fp.heap (f16.heap PL id) (λe=>by have e:w.heap.size=x:=e;omega))
  have P17:=zI (Q6.G9 HU.out);have A17:=zI (A16.off (Q6.one (.inr (.inr (.inl rfl))) HU.fp));have F17:=zI (show Fp (Bk q a x d) w w17 from(F15.then f16.out).trans HU.fp (λk hk=>.inl (.inr (.inr (.inl hk)))))
  refine hK _ _ ⟨P17.cell 7 rfl,pQ Ub.out 2 rfl,pQ Ub.out 5 rfl,bj R17.out⟩ (λhH=>?_)
  clear hK K T3 fB;try simp only[zz]
  refine yD ?_;have HD:=zk;clear hH
  go_wp2_with (first
   |(refine de (by rfl) aT _ rfl _ _ rfl (j9 bw R17 rfl) ?_)
   |(refine ak rfl aT _ _ rfl _ _ rfl rfl (aA bw (cs:=aC am (.slice h1 h2 h3) nS nS nS nS) PM rfl rfl (aD ⟨⟨_,_,_,rfl⟩,⟨none,0,0,rfl⟩,⟨none,0,0,rfl⟩,⟨none,0,0,rfl⟩,⟨none,0,0,rfl⟩⟩)) ?_))
  obtain⟨z0,z1,z2,z3,z4,z5,z6,z7,z8,z9⟩:=bj (aj (cs:=aC am (.slice h1 h2 h3) nS nS nS nS) PM.out);have HE:=zI (bN.fin (r:=({ h with hs:=(eE h.hs c.bu c.gX (bI ps)).1,dI:=oR h.dI c.bu ⟨false,ps,am⟩ },am)) F17 PM HP.1 ⟨_,_,_,_,_,_,P17.out⟩ A17.out)
  generalize World.setRow w17 (w.heap.size+1) (aC am (.slice h1 h2 h3) nS nS nS nS)=wz at *;go_wp2;refine bodyPost_ret (v:=.agg (aC am (.slice h1 h2 h3) nS nS nS nS)) (by simp[results,results87,go_sem,z0,z1,z2,z3,z4,z5,z6,z7,z8,z9,aC]) rfl ?_
  rw[HD.out];exact HE.out
 simp only[hl,Option.isSome_some]
 cases bf:y.fin with
 |true=>
  have HD:=zI (show eD h c.bu c.gX ps=(h,.no 133) from by unfold eD;rw[hl];simp[bf])
  rw[bf]at b0;clear hl rO lu bf hH;go_wp2_with fail
  refine(bF 133 _).mono ?_;rintro e w9⟨rfl,f9⟩;have F9:=zI (HF.later f9);clear f9;go_wp2_with (refine ak rfl aT _ _ rfl _ _ rfl rfl (aA bw (cs:=aC (.no 133) nS nS nS nS nS) F9.rs rfl rfl (aD ⟨⟨none,0,0,rfl⟩,⟨none,0,0,rfl⟩,⟨none,0,0,rfl⟩,⟨none,0,0,rfl⟩,⟨none,0,0,rfl⟩⟩)) ?_)
  obtain⟨z0,z1,z2,z3,z4,z5,z6,z7,z8,z9⟩:=bj (aj (cs:=aC (.no 133) nS nS nS nS nS) F9.rs);have HE:=zI (bN.fin (r:=(h,.no 133)) F9.fp.any F9.rs HP.1 (HP.2.1.af F9.fp) (ej.ok w9 133 0 false 0));generalize World.setRow w9 (w.heap.size+1) (aC (.no 133) nS nS nS nS nS)=wz at *;go_wp2;refine bodyPost_ret (v:=.agg (aC (.no 133) nS nS nS nS nS)) (by simp[results,results87,go_sem,z0,z1,z2,z3,z4,z5,z6,z7,z8,z9,aC]) rfl ?_
  rw[HD.out];exact HE.out
 |false=>?_
 have HD:=zI (show eD h c.bu c.gX ps=(h,y.a) from by unfold eD;rw[hl];simp[bf])
 rw[bf]at b0;have SL:=zI HT.an.eL;clear hl rO lu bf hH
 go_wp2_with (first
  |(refine de (by rfl) aT _ rfl _ _ rfl (T6 tw.out) ?_)
  |(refine ak rfl aT _ _ rfl _ _ rfl rfl (aA bw (cs:=aC y.a lA jK iN lB lC) HF.rs rfl rfl (aD SL.out)) ?_))
 obtain⟨z0,z1,z2,z3,z4,z5,z6,z7,z8,z9⟩:=bj (aj (cs:=aC y.a lA jK iN lB lC) HF.rs);have HE:=zI (bN.fin (r:=(h,y.a)) HF.fp.any HF.rs HP.1 (HP.2.1.af HF.fp) ((HT.an).off HF.fp.bl));generalize World.setRow W3 (w.heap.size+1) (aC y.a lA jK iN lB lC)=wz at *;go_wp2;refine bodyPost_ret (v:=.agg (aC y.a lA jK iN lB lC)) (by simp[results,results87,go_sem,z0,z1,z2,z3,z4,z5,z6,z7,z8,z9,aC]) rfl ?_
 rw[HD.out];exact HE.out
end Go.Proofs.YtgafcelloiagmaaGreatDoor
