/- A text of this proof. -/
import Derived.Test.YtgafcelloiagmaaGreatDoorZCW
set_option maxHeartbeats 16000000
set_option linter.unusedSimpArgs false
set_option linter.unusedVariables false
set_option maxRecDepth 20000
namespace Go.Proofs.YtgafcelloiagmaaGreatDoor
open Go.Proofs.Tryz
open Go.RowKit Pm
attribute [local irreducible] wpStill
theorem eO.of{lo b:Nat}{vn vt jB iA:Value}{s s':St}{w W W':World}{k:Int}{d p da:Bs}{v o:Int}{t:Bool}(h0:Sw lo b vn vt s w)(hb:Bp w k d p da v o t W)(hS:Sw lo b jB iA s' W')(f1:Fp ab w W)
  (f2:Fp (rU b vn vt) W W') (n1:∀k,jB.ownBlock=some k->vn.ownBlock=some k\/W.heap.size<=k) (n2:∀k,iA.ownBlock=some k->vt.ownBlock=some k\/W.heap.size<=k):eO lo b vn vt s' w k d p da v o t W':=by
 have ay:∀k,rU b vn vt k->k<w.heap.size:=λk hk=>by
  rcases hk with e|e|e
  ·rw[e];exact h0.lt
  ·exact h0.zq k e
  exact h0.NZ k e
 have db:=hb.sz;refine⟨⟨jB,iA,hS,λe=>?_,λe=>?_⟩,hb.keep f2 (λk hk=>.inl (ay k hk)),(f1.any (S:=rU b vn vt)).same f2,h0.lt⟩
 ·rcases n1 _ e with e|e
  ·have:=h0.zq _ e;omega
  omega
 rcases n2 _ e with e|e
 ·have:=h0.NZ _ e;omega
 omega
theorem Sw.BH{lo b:Nat}{vn vt:Value}{s:St}{w:World}(h:Sw lo b vn vt s w){G:Nat}(hG:vn.ownBlock=some G)(j:Nat):w.frozen? ⟨G,j,none⟩=false:=by
 rcases h.own.ways with⟨rfl,_⟩|⟨G',cap,rfl,h1,_⟩
 ·simp[Value.ownBlock]at hG
 simp only[Value.ownBlock,Option.some.injEq]at hG
 subst hG;exact h1.frozen j
theorem Sw.zt{lo b:Nat}{vn vt:Value}{s:St}{w:World}(h:Sw lo b vn vt s w){G:Nat}(hG:vn.ownBlock=some G)(i:Nat)(hi:i<s.nodes.length)(d:Bs)(v:Int):
  Sw lo b vn vt ⟨s.nodes.set i { s.nodes[i] with data:=d,aX:=v },s.turns⟩ ((w.setCell ⟨G,i*5+1,none⟩ (.string (B d))).setCell ⟨G,i*5+2,none⟩ (.int .i64 v))/\
   Fp (λk=>vn.ownBlock=some k) w ((w.setCell ⟨G,i*5+1,none⟩ (.string (B d))).setCell ⟨G,i*5+2,none⟩ (.int .i64 v)):=by
 have f:Fp (λk=>vn.ownBlock=some k) w ((w.setCell ⟨G,i*5+1,none⟩ (.string (B d))).setCell ⟨G,i*5+2,none⟩ (.int .i64 v)):=((Fp.refl (λk=>vn.ownBlock=some k) w).setCell (p:=⟨G,i*5+1,none⟩) (.inl hG) _).setCell (p:=⟨G,i*5+2,none⟩) (.inl hG) _
 refine⟨⟨f.heap h.dR (λe=>h.sV e),h.low,?_,h.ez.keep f (λk hk e=>h.apart k e hk),h.sV,h.zu,h.apart⟩,f⟩
 rcases h.own.ways with⟨rfl,_⟩|⟨G',cap,rfl,h1,h2⟩
 ·simp[Value.ownBlock]at hG
 simp only[Value.ownBlock,Option.some.injEq]at hG
 subst hG;have:=Ow.row (lo:=lo) (h1.zt i hi d v) h2;rw[List.length_set]at this;exact this
theorem CT(n:Nd)(g:Nat)(p:Bs)(w:World)(hg:w.cell? ⟨g,2,none⟩=some (.string (B p))):
  Calls prog 223 #[vO n,.pointer (some ⟨g,0,none⟩)] w λe w'=>e=.returned (.bool (n.path == p))/\Fp ab w w':=by
 obtain⟨np,d,v,t,o⟩:=n;unfold vO au;have hf:∀o,Fp ab w (w.alloc o):=λo=>(Fp.refl ab w).alloc o
 have Qx:∀o,(w.alloc o).cell? ⟨g,2,none⟩=some (.string (B p)):=λo=>(hf o).cell hg id
 have HF:=zI hf;clear hf hg;go_enter func223,ntmps223
 go_wp2;go_ret;exact⟨rfl,HF _⟩
theorem CU(w:World)(g:Nat)(p:Bs)(hg:w.cell? ⟨g,2,none⟩=some (.string (B p)))(S:Nat->Prop)(hS:¬S g):
  Pd S w (.func (.func 223) #[] #[.pointer (some ⟨g,0,none⟩)]) (λn=>n.path == p):=
 ⟨_,_,_,rfl,enters_of func223 (by kernel_rfl) rfl,λn w1 _ hf=>CT n g p w1 (hf.cell hg hS)⟩
abbrev Mx(k:Nat):Value:=.func (.func 280) #[] #[.pointer (some ⟨k,0,none⟩)]
theorem Fk(n:Nd)(g c k:Nat)(p:Bs)(ow:Int)(w:World)(hn:n.path.length<=1000000)(hg:w.cell? ⟨g,5,none⟩=some (.int .i64 ow))(hc:w.cell? ⟨c,0,none⟩=some (Mx k))(hk:w.cell? ⟨k,0,none⟩=some (.string (B p))):
  Calls prog 227 #[vO n,.pointer (some ⟨g,0,none⟩),.pointer (some ⟨c,0,none⟩)] w λe w'=>e=.returned (.bool (n.own == ow && parent n.path == some p))/\Fp ab w w':=by
 have JP:=λw (h:w.cell? ⟨k,0,none⟩=some (.string (B p)))=>BI n k p w hn h
 obtain⟨np,d,v,t,o⟩:=n;unfold vO au;unfold vO au at JP;simp only at JP
 have hf:∀o,Fp ab w (w.alloc o):=λo=>(Fp.refl ab w).alloc o
 have HF:=zI hf;have HC:=zI JP;have HK:=zI hk;show Calls _ _ _ _ (λe w'=>e=.returned (.bool (o == ow && parent np == some p))/\_)
 obtain⟨cb,ZP⟩:∃cb,(o == ow)=cb:=⟨_,rfl⟩;obtain⟨cp,Qy⟩:∃cp,(parent np == some p)=cp:=⟨_,rfl⟩;have q0:(o=ow)=(cb=true):=by rw[<-ZP];simp
 rw[Qy]at HC;rw[ZP,Qy];have g1:=λo=>(hf o).cell hg id
 have g2:=λo=>(hf o).cell hc id
 clear hg hc;clear hf JP hk hn Qy;cases cb
 ·have q2:(o=ow)=False:=by rw[q0];simp
  clear q0;go_enter func227,ntmps227
  go_wp2;go_ret;exact⟨rfl,HF _⟩
 have q2:(o=ow)=True:=by rw[q0];simp
 clear q0;go_enter func227,ntmps227
 go_wp2_with fail
 refine(HC _ ((HF _).cell HK id)).mono ?_;rintro e w2⟨rfl,bY⟩;have F:=zI ((HF _).then bY);clear bY;go_wp2;go_ret;exact⟨rfl,F.out⟩
theorem Fl(g c k:Nat)(p:Bs)(ow:Int)(w:World)(S:Nat->Prop)(hg:w.cell? ⟨g,5,none⟩=some (.int .i64 ow))(hc:w.cell? ⟨c,0,none⟩=some (Mx k))(hk:w.cell? ⟨k,0,none⟩=some (.string (B p)))
  (h1:¬S g) (h2:¬S c) (h3:¬S k):Pd S w (.func (.func 227) #[] #[.pointer (some ⟨g,0,none⟩),.pointer (some ⟨c,0,none⟩)]) (λn=>n.own == ow && parent n.path == some p):=
 ⟨_,_,_,rfl,enters_of func227 (by kernel_rfl) rfl,λn w1 hn hf=>Fk n g c k p ow w1 hn (hf.cell hg h1) (hf.cell hc h2) (hf.cell hk h3)⟩
theorem JQ{lo b:Nat}{vn vt:Value}{s:St}{w:World}(h:Sw lo b vn vt s w)(x:Pt)(aN:dh s)(hm:cq x=true)(hn:s.nodes.length<=3900)(dJ:s.turns.length<=3900)(ht:jH w)(hk:x.kind=5):
  Calls prog 151 #[.pointer (some ⟨b,0,none⟩),fY x] w (yU lo b vn vt (b7 s x).1 (b7 s x).2 w):=by
 have hp:x.path.length<=100:=bT ((bt x).1 hm).2.1;obtain⟨k,d,p,da,v,o,t⟩:=x;obtain rfl:k=5:=hk;simp only at hp
 have bZ:Fp ab w ((w.alloc (.cells #[.int .i64 5,.string (B d),.string (B p),.string (B da),.int .i64 v,.int .i64 o,.bool t] TP)).alloc (.cells #[.int .i64 0,.string ⟨#[]⟩,.string ⟨#[]⟩,.int .i64 0,.slice none 0 0] TR)):=((Fp.refl ab w).alloc _).alloc _;have K0:=zI (Kp.and (Kp.sw (h.af bZ)) (Kp.and (Kp.bp (Bp.made w 5 d p da v o t)) (Kp.and (Kp.fp bZ) (Kp.yV (ht.af bZ)))));have HX:=zI (yI h (yI aN (yI hm (yI hn dJ))));have cG:fY ⟨5,d,p,da,v,o,t⟩=.agg #[.int .i64 5,.string (B d),.string (B p),.string (B da),.int .i64 v,.int .i64 o,.bool t]:=rfl;cases hf:find s.nodes p with
 |none=>
  have e:b7 s ⟨5,d,p,da,v,o,t⟩=(s,.bad 62):=by unfold b7;simp[hf]
  rw[e];have hs:=λW (hW:Sw lo b vn vt s W)=>gD hW ⟨5,d,p,da,v,o,t⟩ aN.kR (by omega) hf
  rw[cG]at hs;have HS:=zI hs;clear hs;clear bZ h ht aN hm hn dJ hp hf e;rw[cG];clear cG;go_enter func151,ntmps151
  generalize dw:((w.alloc (.cells #[.int .i64 5,.string (B d),.string (B p),.string (B da),.int .i64 v,.int .i64 o,.bool t] TP)).alloc (.cells #[.int .i64 0,.string ⟨#[]⟩,.string ⟨#[]⟩,.int .i64 0,.slice none 0 0] TR))=W0 at *;obtain⟨o0,o1,o2,o3,o4,o5,o6⟩:=aH K0.now.2.1.op;go_wp2_with fail
  clear dw;refine(HS _ K0.now.1).mono ?_;rintro e w1⟨rfl,hf⟩;have K1:=zI (K0.later hf);clear hf;clear o0 o1 o2 o3 o4 o5 o6;go_wp2_with fail
  refine(bG 62 _).mono ?_;rintro e w9⟨rfl,hf⟩;have K9:=zI (K1.later hf);clear hf;unfold jI;have aK:=(eO.still HX.1 K9.now.1 K9.now.2.1 K9.now.2.2.1).bp;obtain⟨r0,r1,r2,r3,r4⟩:=aK.r;have z0:=aK.fz 0;have z1:=aK.fz 1;have z2:=aK.fz 2;have z3:=aK.fz 3;have z4:=aK.fz 4;have HP:=zI ((eO.still HX.1 K9.now.1 K9.now.2.1 K9.now.2.2.1).done (.bad 62) (.slice none 0 0) (Own.nil _ _) (λe=>by simp[Value.ownBlock]at e) (62) (⟨#[]⟩) (⟨#[]⟩) (0) rfl rfl rfl rfl)
  have fH:=zI (ew aK.res (.int .i64 62) (.string ⟨#[]⟩) (.string ⟨#[]⟩) (.int .i64 0) (.slice none 0 0));clear aK;go_wp2;have fI:=fH.out;have fJ:=HP.out;generalize (((((World.setCell _ _ _).setCell _ _).setCell _ _).setCell _ _).setCell _ _)=wz at *;obtain⟨s0,s1,s2,s3,s4⟩:=b5 fI;exact bodyPost_ret (v:=.agg #[.int .i64 62,.string ⟨#[]⟩,.string ⟨#[]⟩,.int .i64 0,.slice none 0 0]) (by simp[results,results151,go_sem,s0,s1,s2,s3,s4]) rfl fJ
 |some y=>?_
 by_cases hv:0<=v/\v≠y.aX
 ·have e:b7 s ⟨5,d,p,da,v,o,t⟩=(s,.bad 63):=by unfold b7;simp[hf,cz,hv]
  rw[e];have hs:=λW (hW:Sw lo b vn vt s W)=>ig hW ⟨5,d,p,da,v,o,t⟩ aN.kR (by omega) hf hv
  rw[cG]at hs;have HS:=zI hs;clear hs;clear bZ h ht aN hm hn dJ hp hf e hv;rw[cG];clear cG;go_enter func151,ntmps151
  generalize dw:((w.alloc (.cells #[.int .i64 5,.string (B d),.string (B p),.string (B da),.int .i64 v,.int .i64 o,.bool t] TP)).alloc (.cells #[.int .i64 0,.string ⟨#[]⟩,.string ⟨#[]⟩,.int .i64 0,.slice none 0 0] TR))=W0 at *;obtain⟨o0,o1,o2,o3,o4,o5,o6⟩:=aH K0.now.2.1.op;go_wp2_with fail
  clear dw;refine(HS _ K0.now.1).mono ?_;rintro e w1⟨rfl,hf⟩;have K1:=zI (K0.later hf);clear hf;clear o0 o1 o2 o3 o4 o5 o6;go_wp2_with fail
  refine(bG 63 _).mono ?_;rintro e w9⟨rfl,hf⟩;have K9:=zI (K1.later hf);clear hf;unfold jI;have aK:=(eO.still HX.1 K9.now.1 K9.now.2.1 K9.now.2.2.1).bp;obtain⟨r0,r1,r2,r3,r4⟩:=aK.r;have z0:=aK.fz 0;have z1:=aK.fz 1;have z2:=aK.fz 2;have z3:=aK.fz 3;have z4:=aK.fz 4;have HP:=zI ((eO.still HX.1 K9.now.1 K9.now.2.1 K9.now.2.2.1).done (.bad 63) (.slice none 0 0) (Own.nil _ _) (λe=>by simp[Value.ownBlock]at e) (63) (⟨#[]⟩) (⟨#[]⟩) (0) rfl rfl rfl rfl)
  have fH:=zI (ew aK.res (.int .i64 63) (.string ⟨#[]⟩) (.string ⟨#[]⟩) (.int .i64 0) (.slice none 0 0));clear aK;go_wp2;have fI:=fH.out;have fJ:=HP.out;generalize (((((World.setCell _ _ _).setCell _ _).setCell _ _).setCell _ _).setCell _ _)=wz at *;obtain⟨s0,s1,s2,s3,s4⟩:=b5 fI;exact bodyPost_ret (v:=.agg #[.int .i64 63,.string ⟨#[]⟩,.string ⟨#[]⟩,.int .i64 0,.slice none 0 0]) (by simp[results,results151,go_sem,s0,s1,s2,s3,s4]) rfl fJ
 have kA:=ml aN.kR hf;by_cases hvm:y.aX=281474976710656
 ·have e:b7 s ⟨5,d,p,da,v,o,t⟩=(s,.bad 2):=by
   unfold b7;rw[if_neg (show ¬(5:Int)=2 by decide),if_neg (show ¬(5:Int)=4 by decide),if_neg (show ¬(5:Int)=9 by decide),if_neg (show ¬(5:Int)=10 by decide)]
   simp only[hf]
   rw[if_neg (λk=>hv k.2),if_neg (show ¬(5:Int)=1 by decide),if_neg (show ¬(5:Int)=3 by decide),if_pos trivial,if_pos hvm]
  rw[e];have q3:(y.aX == 281474976710656)=true:=beq_iff_eq.2 hvm;have q4:(y.aX=281474976710656)=True:=eq_true hvm;have hs:=λW (hW:Sw lo b vn vt s W)=>gd hW ⟨5,d,p,da,v,o,t⟩ aN.kR (by omega) hf hv
  rw[cG]at hs;simp only at hs
  obtain⟨q,hq⟩:∃q,q=place s.nodes p:=⟨_,rfl⟩;rw[<-hq]at hs;have HS:=zI hs;clear hs;clear bZ h ht aN hm hn dJ hp hf e hq hv hvm kA;rw[cG];clear cG;go_enter func151,ntmps151
  generalize dw:((w.alloc (.cells #[.int .i64 5,.string (B d),.string (B p),.string (B da),.int .i64 v,.int .i64 o,.bool t] TP)).alloc (.cells #[.int .i64 0,.string ⟨#[]⟩,.string ⟨#[]⟩,.int .i64 0,.slice none 0 0] TR))=W0 at *;obtain⟨o0,o1,o2,o3,o4,o5,o6⟩:=aH K0.now.2.1.op;go_wp2_with fail
  clear dw;refine(HS _ K0.now.1).mono ?_;rintro e w1⟨G,hG,aE,rfl,hf⟩;have K1:=zI (K0.later hf);have jQ:=zI (yI hG (aE.keep hf id));clear aE hG;clear hf;clear o0 o1 o2 o3 o4 o5 o6;have c0:=jQ.2.c0;have c1:=jQ.2.c1;have c2:=jQ.2.c2;have c3:=jQ.2.c3;have c4:=jQ.2.c4;unfold au at c0 c1;go_wp2_with fail
  refine(bG 2 _).mono ?_;rintro e w9⟨rfl,hf⟩;have K9:=zI (K1.later hf);clear hf;unfold jI;have aK:=(eO.still HX.1 K9.now.1 K9.now.2.1 K9.now.2.2.1).bp;obtain⟨r0,r1,r2,r3,r4⟩:=aK.r;have z0:=aK.fz 0;have z1:=aK.fz 1;have z2:=aK.fz 2;have z3:=aK.fz 3;have z4:=aK.fz 4;have HP:=zI ((eO.still HX.1 K9.now.1 K9.now.2.1 K9.now.2.2.1).done (.bad 2) (.slice none 0 0) (Own.nil _ _) (λe=>by simp[Value.ownBlock]at e) (2) (⟨#[]⟩) (⟨#[]⟩) (0) rfl rfl rfl rfl)
  have fH:=zI (ew aK.res (.int .i64 2) (.string ⟨#[]⟩) (.string ⟨#[]⟩) (.int .i64 0) (.slice none 0 0));clear aK;go_wp2;have fI:=fH.out;have fJ:=HP.out;generalize (((((World.setCell _ _ _).setCell _ _).setCell _ _).setCell _ _).setCell _ _)=wz at *;obtain⟨s0,s1,s2,s3,s4⟩:=b5 fI;exact bodyPost_ret (v:=.agg #[.int .i64 2,.string ⟨#[]⟩,.string ⟨#[]⟩,.int .i64 0,.slice none 0 0]) (by simp[results,results151,go_sem,s0,s1,s2,s3,s4]) rfl fJ
 have e:b7 s ⟨5,d,p,da,v,o,t⟩=(⟨s.nodes.set (place s.nodes p) { y with data:=da,aX:=y.aX+1 },s.turns⟩,⟨0,[],[],y.aX+1,[]⟩):=by unfold b7;simp[hf,cz,hv,hvm]
 rw[e];have q3:(y.aX == 281474976710656)=false:=beq_eq_false_iff_ne.2 hvm;have q4:(y.aX=281474976710656)=False:=eq_false hvm;have hyb:0<=y.aX/\y.aX<=281474976710656:=by have:=(gE y).1 (aN.fit y (gF hf).1);omega
 have hs:=λW (hW:Sw lo b vn vt s W)=>gd hW ⟨5,d,p,da,v,o,t⟩ aN.kR (by omega) hf hv
 rw[cG]at hs;simp only at hs
 obtain⟨q,hq⟩:∃q,q=place s.nodes p:=⟨_,rfl⟩;rw[<-hq]at hs kA|-;have HQ:=zI kA;have HS:=zI hs;clear hs;obtain⟨yp,yd,yv,yt,yo⟩:=y;simp only at hyb q3 q4
 clear bZ h ht aN hm hn dJ hp hf e hq hv hvm kA;rw[cG];clear cG;go_enter func151,ntmps151
 generalize dw:((w.alloc (.cells #[.int .i64 5,.string (B d),.string (B p),.string (B da),.int .i64 v,.int .i64 o,.bool t] TP)).alloc (.cells #[.int .i64 0,.string ⟨#[]⟩,.string ⟨#[]⟩,.int .i64 0,.slice none 0 0] TR))=W0 at *;obtain⟨o0,o1,o2,o3,o4,o5,o6⟩:=aH K0.now.2.1.op;go_wp2_with fail
 clear dw;refine(HS _ K0.now.1).mono ?_;rintro e w1⟨G,hG,aE,rfl,hf⟩;have K1:=zI (K0.later hf);have jQ:=zI (yI hG (aE.keep hf id));clear aE hG;clear hf;clear o0 o1 o2 o3 o4 o5 o6;have c0:=jQ.2.c0;have c1:=jQ.2.c1;have c2:=jQ.2.c2;have c3:=jQ.2.c3;have c4:=jQ.2.c4;unfold au at c0 c1;simp only at c0 c1 c2 c3 c4
 obtain⟨ZQ,ZR⟩:=HQ.out;have fG1:=K1.now.1.BH jQ.1 (q*5+1);have fG2:=K1.now.1.BH jQ.1 (q*5+2);have lE:=K1.now.1.zt jQ.1 q ZQ da (yv+1);rw[ZR]at lE;have HC:=zI (eO.of HX.1 K1.now.2.1 lE.1 K1.now.2.2.1 (lE.2.mono (λk hk=>.inr (.inl hk))) (λk hk=>.inl hk) (λk hk=>.inl hk))
 obtain⟨o0,o1,o2,o3,o4,o5,o6⟩:=aH K1.now.2.1.op;clear lE ZQ ZR;have aK:=(HC.out).bp;obtain⟨r0,r1,r2,r3,r4⟩:=aK.r;have z0:=aK.fz 0;have z1:=aK.fz 1;have z2:=aK.fz 2;have z3:=aK.fz 3;have z4:=aK.fz 4;have HP:=zI ((HC.out).done ⟨0,[],[],yv+1,[]⟩ (.slice none 0 0) (Own.nil _ _) (λe=>by simp[Value.ownBlock]at e) (0) (⟨#[]⟩) (⟨#[]⟩) ((yv+1)) rfl rfl rfl rfl)
 have fH:=zI (ew aK.res (.int .i64 0) (.string ⟨#[]⟩) (.string ⟨#[]⟩) (.int .i64 (yv+1)) (.slice none 0 0));clear aK;go_wp2;have fI:=fH.out;have fJ:=HP.out;generalize (((((World.setCell _ _ _).setCell _ _).setCell _ _).setCell _ _).setCell _ _)=wz at *;obtain⟨s0,s1,s2,s3,s4⟩:=b5 fI;exact bodyPost_ret (v:=.agg #[.int .i64 0,.string ⟨#[]⟩,.string ⟨#[]⟩,.int .i64 (yv+1),.slice none 0 0]) (by simp[results,results151,go_sem,s0,s1,s2,s3,s4]) rfl fJ
theorem Fm{lo b:Nat}{vn vt:Value}{s:St}{w:World}(h:Sw lo b vn vt s w)(x:Pt)(aN:dh s)(hm:cq x=true)(hn:s.nodes.length<=3900)(dJ:s.turns.length<=3900)(ht:jH w)(hk:x.kind=3):
  Calls prog 149 #[.pointer (some ⟨b,0,none⟩),fY x] w (yU lo b vn vt (b7 s x).1 (b7 s x).2 w):=by
 have hp:x.path.length<=100:=bT ((bt x).1 hm).2.1;obtain⟨k,d,p,da,v,o,t⟩:=x;obtain rfl:k=3:=hk;simp only at hp
 have bZ:Fp ab w ((w.alloc (.cells #[.int .i64 3,.string (B d),.string (B p),.string (B da),.int .i64 v,.int .i64 o,.bool t] TP)).alloc (.cells #[.int .i64 0,.string ⟨#[]⟩,.string ⟨#[]⟩,.int .i64 0,.slice none 0 0] TR)):=((Fp.refl ab w).alloc _).alloc _;have K0:=zI (Kp.and (Kp.sw (h.af bZ)) (Kp.and (Kp.bp (Bp.made w 3 d p da v o t)) (Kp.and (Kp.fp bZ) (Kp.yV (ht.af bZ)))));have HX:=zI (yI h (yI aN (yI hm (yI hn dJ))));have cG:fY ⟨3,d,p,da,v,o,t⟩=.agg #[.int .i64 3,.string (B d),.string (B p),.string (B da),.int .i64 v,.int .i64 o,.bool t]:=rfl;cases hf:find s.nodes p with
 |none=>
  have e:b7 s ⟨3,d,p,da,v,o,t⟩=(s,.bad 62):=by unfold b7;simp[hf]
  rw[e];have hs:=λW (hW:Sw lo b vn vt s W)=>gD hW ⟨3,d,p,da,v,o,t⟩ aN.kR (by omega) hf
  rw[cG]at hs;have HS:=zI hs;clear hs;clear bZ h ht aN hm hn dJ hp hf e;rw[cG];clear cG;go_enter func149,ntmps149
  generalize dw:((w.alloc (.cells #[.int .i64 3,.string (B d),.string (B p),.string (B da),.int .i64 v,.int .i64 o,.bool t] TP)).alloc (.cells #[.int .i64 0,.string ⟨#[]⟩,.string ⟨#[]⟩,.int .i64 0,.slice none 0 0] TR))=W0 at *;obtain⟨o0,o1,o2,o3,o4,o5,o6⟩:=aH K0.now.2.1.op;go_wp2_with fail
  clear dw;refine(HS _ K0.now.1).mono ?_;rintro e w1⟨rfl,hf⟩;have K1:=zI (K0.later hf);clear hf;clear o0 o1 o2 o3 o4 o5 o6;go_wp2_with fail
  refine(bG 62 _).mono ?_;rintro e w9⟨rfl,hf⟩;have K9:=zI (K1.later hf);clear hf;unfold jI;have aK:=(eO.still HX.1 K9.now.1 K9.now.2.1 K9.now.2.2.1).bp;obtain⟨r0,r1,r2,r3,r4⟩:=aK.r;have z0:=aK.fz 0;have z1:=aK.fz 1;have z2:=aK.fz 2;have z3:=aK.fz 3;have z4:=aK.fz 4;have HP:=zI ((eO.still HX.1 K9.now.1 K9.now.2.1 K9.now.2.2.1).done (.bad 62) (.slice none 0 0) (Own.nil _ _) (λe=>by simp[Value.ownBlock]at e) (62) (⟨#[]⟩) (⟨#[]⟩) (0) rfl rfl rfl rfl)
  have fH:=zI (ew aK.res (.int .i64 62) (.string ⟨#[]⟩) (.string ⟨#[]⟩) (.int .i64 0) (.slice none 0 0));clear aK;go_wp2;have fI:=fH.out;have fJ:=HP.out;generalize (((((World.setCell _ _ _).setCell _ _).setCell _ _).setCell _ _).setCell _ _)=wz at *;obtain⟨s0,s1,s2,s3,s4⟩:=b5 fI;exact bodyPost_ret (v:=.agg #[.int .i64 62,.string ⟨#[]⟩,.string ⟨#[]⟩,.int .i64 0,.slice none 0 0]) (by simp[results,results149,go_sem,s0,s1,s2,s3,s4]) rfl fJ
 |some y=>?_
 by_cases hv:0<=v/\v≠y.aX
 ·have e:b7 s ⟨3,d,p,da,v,o,t⟩=(s,.bad 63):=by unfold b7;simp[hf,cz,hv]
  rw[e];have hs:=λW (hW:Sw lo b vn vt s W)=>ig hW ⟨3,d,p,da,v,o,t⟩ aN.kR (by omega) hf hv
  rw[cG]at hs;have HS:=zI hs;clear hs;clear bZ h ht aN hm hn dJ hp hf e hv;rw[cG];clear cG;go_enter func149,ntmps149
  generalize dw:((w.alloc (.cells #[.int .i64 3,.string (B d),.string (B p),.string (B da),.int .i64 v,.int .i64 o,.bool t] TP)).alloc (.cells #[.int .i64 0,.string ⟨#[]⟩,.string ⟨#[]⟩,.int .i64 0,.slice none 0 0] TR))=W0 at *;obtain⟨o0,o1,o2,o3,o4,o5,o6⟩:=aH K0.now.2.1.op;go_wp2_with fail
  clear dw;refine(HS _ K0.now.1).mono ?_;rintro e w1⟨rfl,hf⟩;have K1:=zI (K0.later hf);clear hf;clear o0 o1 o2 o3 o4 o5 o6;go_wp2_with fail
  refine(bG 63 _).mono ?_;rintro e w9⟨rfl,hf⟩;have K9:=zI (K1.later hf);clear hf;unfold jI;have aK:=(eO.still HX.1 K9.now.1 K9.now.2.1 K9.now.2.2.1).bp;obtain⟨r0,r1,r2,r3,r4⟩:=aK.r;have z0:=aK.fz 0;have z1:=aK.fz 1;have z2:=aK.fz 2;have z3:=aK.fz 3;have z4:=aK.fz 4;have HP:=zI ((eO.still HX.1 K9.now.1 K9.now.2.1 K9.now.2.2.1).done (.bad 63) (.slice none 0 0) (Own.nil _ _) (λe=>by simp[Value.ownBlock]at e) (63) (⟨#[]⟩) (⟨#[]⟩) (0) rfl rfl rfl rfl)
  have fH:=zI (ew aK.res (.int .i64 63) (.string ⟨#[]⟩) (.string ⟨#[]⟩) (.int .i64 0) (.slice none 0 0));clear aK;go_wp2;have fI:=fH.out;have fJ:=HP.out;generalize (((((World.setCell _ _ _).setCell _ _).setCell _ _).setCell _ _).setCell _ _)=wz at *;obtain⟨s0,s1,s2,s3,s4⟩:=b5 fI;exact bodyPost_ret (v:=.agg #[.int .i64 63,.string ⟨#[]⟩,.string ⟨#[]⟩,.int .i64 0,.slice none 0 0]) (by simp[results,results149,go_sem,s0,s1,s2,s3,s4]) rfl fJ
 have e:b7 s ⟨3,d,p,da,v,o,t⟩=(⟨s.nodes.eraseIdx (place s.nodes p),s.turns⟩,EB):=by unfold b7;simp[hf,cz,hv]
 rw[e];rw[jd aN.kR hf];have hs:=λW (hW:Sw lo b vn vt s W)=>gd hW ⟨3,d,p,da,v,o,t⟩ aN.kR (by omega) hf hv
 rw[cG]at hs;simp only at hs
 obtain⟨q,hq⟩:∃q,q=place s.nodes p:=⟨_,rfl⟩;rw[<-hq]at hs;have HS:=zI hs;clear hs;have Jl:=zI (dh.sp aN);clear bZ h ht aN hm hn dJ hp hf e hq hv;rw[cG];clear cG;go_enter func149,ntmps149
 generalize dw:((w.alloc (.cells #[.int .i64 3,.string (B d),.string (B p),.string (B da),.int .i64 v,.int .i64 o,.bool t] TP)).alloc (.cells #[.int .i64 0,.string ⟨#[]⟩,.string ⟨#[]⟩,.int .i64 0,.slice none 0 0] TR))=W0 at *;obtain⟨o0,o1,o2,o3,o4,o5,o6⟩:=aH K0.now.2.1.op;go_wp2_with fail
 clear dw;refine(HS _ K0.now.1).mono ?_;rintro e w1⟨G,hG,aE,rfl,hf⟩;have K1:=zI (K0.later hf);have jQ:=zI (yI hG (aE.keep hf id));clear aE hG;clear hf;clear o0 o1 o2 o3 o4 o5 o6;obtain⟨o0,o1,o2,o3,o4,o5,o6⟩:=aH K1.now.2.1.op;have iH:=CU w1 w.heap.size p o2 (λk=>vn.ownBlock=some k) (λe=>by have:=HX.1.zq _ e;omega)
 have My:=jV K1.now.1.own Jl iH (by have:=HX.2.2.2.1;omega)
 have Rp:=zI My;have cb:=K1.now.1.c0;obtain⟨ao,cap,rfl⟩:=K1.now.1.own.ns.shape;clear iH My o0 o1 o2 o3 o4 o5 o6;go_wp2_with fail
 refine Rp.mono ?_;rintro e w2⟨v2,rfl,hc⟩;have oQ:=K1.now.1.CV (Fp.refl ab w1) hc;have WS:=hc.fp.cell cb (λe=>K1.now.1.sV e)
 have zb2:w2.frozen? ⟨b,0,none⟩=false:=by have:=hc.fp.heap K1.now.1.dR (λe=>K1.now.1.sV e);simp[World.frozen?,this]
 have HC:=zI (eO.of HX.1 K1.now.2.1 oQ.1 K1.now.2.2.1 (oQ.2.1.mono (λk hk=>hk.imp id .inl)) oQ.2.2 (λk hk=>.inl hk))
 obtain⟨a2,c2,rfl⟩:=hc.own.ns.shape;clear hc oQ cb Rp;generalize (s.nodes.filter (λn=>!(n.path == p))).length=n2 at *
 have aK:=(HC.out).bp;obtain⟨r0,r1,r2,r3,r4⟩:=aK.r;have z0:=aK.fz 0;have z1:=aK.fz 1;have z2:=aK.fz 2;have z3:=aK.fz 3;have z4:=aK.fz 4;have HP:=zI ((HC.out).done EB (.slice none 0 0) (Own.nil _ _) (λe=>by simp[Value.ownBlock]at e) (0) (⟨#[]⟩) (⟨#[]⟩) (0) rfl rfl rfl rfl)
 have fH:=zI (ew aK.res (.int .i64 0) (.string ⟨#[]⟩) (.string ⟨#[]⟩) (.int .i64 0) (.slice none 0 0));clear aK;go_wp2;have fI:=fH.out;have fJ:=HP.out;generalize (((((World.setCell _ _ _).setCell _ _).setCell _ _).setCell _ _).setCell _ _)=wz at *;obtain⟨s0,s1,s2,s3,s4⟩:=b5 fI;exact bodyPost_ret (v:=.agg #[.int .i64 0,.string ⟨#[]⟩,.string ⟨#[]⟩,.int .i64 0,.slice none 0 0]) (by simp[results,results149,go_sem,s0,s1,s2,s3,s4]) rfl fJ
theorem JR{lo b:Nat}{vn vt:Value}{s:St}{w:World}(h:Sw lo b vn vt s w)(x:Pt)(aN:dh s)(hm:cq x=true)(hn:s.nodes.length<=3900)(dJ:s.turns.length<=3900)(ht:jH w)(hk:x.kind=9):
  Calls prog 155 #[.pointer (some ⟨b,0,none⟩),fY x] w (yU lo b vn vt (b7 s x).1 (b7 s x).2 w):=by
 have hp:x.path.length<=100:=bT ((bt x).1 hm).2.1;obtain⟨k,d,p,da,v,o,t⟩:=x;obtain rfl:k=9:=hk;simp only at hp
 have bZ:Fp ab w ((w.alloc (.cells #[.int .i64 9,.string (B d),.string (B p),.string (B da),.int .i64 v,.int .i64 o,.bool t] TP)).alloc (.cells #[.int .i64 0,.string ⟨#[]⟩,.string ⟨#[]⟩,.int .i64 0,.slice none 0 0] TR)):=((Fp.refl ab w).alloc _).alloc _;have K0:=zI (Kp.and (Kp.sw (h.af bZ)) (Kp.and (Kp.bp (Bp.made w 9 d p da v o t)) (Kp.and (Kp.fp bZ) (Kp.yV (ht.af bZ)))));have HX:=zI (yI h (yI aN (yI hm (yI hn dJ))));have cG:fY ⟨9,d,p,da,v,o,t⟩=.agg #[.int .i64 9,.string (B d),.string (B p),.string (B da),.int .i64 v,.int .i64 o,.bool t]:=rfl;have e:b7 s ⟨9,d,p,da,v,o,t⟩=(s,⟨0,[],[],0,(kids s.nodes p).map (λn=>last n.path)⟩):=by unfold b7;simp
 rw[e];have Jl:=zI (dh.sp aN);clear bZ h ht aN hm hn dJ hp e;rw[cG];clear cG;go_enter func155,ntmps155
 generalize dw:((w.alloc (.cells #[.int .i64 9,.string (B d),.string (B p),.string (B da),.int .i64 v,.int .i64 o,.bool t] TP)).alloc (.cells #[.int .i64 0,.string ⟨#[]⟩,.string ⟨#[]⟩,.int .i64 0,.slice none 0 0] TR))=W0 at *;obtain⟨o0,o1,o2,o3,o4,o5,o6⟩:=aH K0.now.2.1.op;go_wp2_with fail
 clear dw;refine(mm p W0).mono ?_;rintro e w1⟨rfl,gV⟩;obtain rfl:=gV.symm;have K1:=zI (K0.later (aa W0 (.cells #[.string (B p)] 9)));have iH:=nz p W0 ab (λ_ h=>h.elim)
 have Jm:=oq K1.now.1 Jl iH (by have:=HX.2.2.2.1;omega)
 have Rq:=zI Jm;clear iH Jm gV o0 o1 o2 o3 o4 o5 o6;generalize W0.alloc (.cells #[.string (B p)] 9)=W1 at *;go_wp2_with fail
 refine Rq.mono ?_;rintro e w2⟨nv,rfl,aL,hf⟩;have K2:=zI (K1.later hf);obtain⟨ps,dH⟩:∃ps,ps=(kids s.nodes p).map (λn=>last n.path):=⟨_,rfl⟩
 have eA:Own w.heap.size w2 nv ps:=by rw[dH];exact aL.low K1.now.2.2.1.size
 have nj:=zI (show nv.ownBlock=some (w.heap.size+1)->False from λe=>by have h1:=(aL.1.lt _ e).1;have h2:=K1.now.2.1.sz;omega)
 have uw:=zI eA;have wy:=zI dH;obtain⟨wE,kS,rfl⟩:=eA.shape;clear aL eA hf dH Rq;have aK:=(eO.still HX.1 K2.now.1 K2.now.2.1 K2.now.2.2.1).bp;obtain⟨r0,r1,r2,r3,r4⟩:=aK.r;have z0:=aK.fz 0;have z1:=aK.fz 1;have z2:=aK.fz 2;have z3:=aK.fz 3;have z4:=aK.fz 4;have HP:=zI ((eO.still HX.1 K2.now.1 K2.now.2.1 K2.now.2.2.1).done ⟨0,[],[],0,(kids s.nodes p).map (λn=>last n.path)⟩ (.slice wE ps.length kS) (by rw[<-wy.out];exact uw.out) nj (0) (⟨#[]⟩) (⟨#[]⟩) (0) rfl rfl rfl rfl)
 have fH:=zI (ew aK.res (.int .i64 0) (.string ⟨#[]⟩) (.string ⟨#[]⟩) (.int .i64 0) (.slice wE ps.length kS));clear aK;go_wp2;have fI:=fH.out;have fJ:=HP.out;generalize (((((World.setCell _ _ _).setCell _ _).setCell _ _).setCell _ _).setCell _ _)=wz at *;obtain⟨s0,s1,s2,s3,s4⟩:=b5 fI;exact bodyPost_ret (v:=.agg #[.int .i64 0,.string ⟨#[]⟩,.string ⟨#[]⟩,.int .i64 0,.slice wE ps.length kS]) (by simp[results,results155,go_sem,s0,s1,s2,s3,s4]) rfl fJ
theorem JS{lo b:Nat}{vn vt:Value}{s:St}{w:World}(h:Sw lo b vn vt s w)(x:Pt)(aN:dh s)(hm:cq x=true)(hn:s.nodes.length<=3900)(dJ:s.turns.length<=3900)(ht:jH w)(hk:x.kind=10):
  Calls prog 156 #[.pointer (some ⟨b,0,none⟩),fY x] w (yU lo b vn vt (b7 s x).1 (b7 s x).2 w):=by
 have hp:x.path.length<=100:=bT ((bt x).1 hm).2.1;obtain⟨k,d,p,da,v,o,t⟩:=x;obtain rfl:k=10:=hk;simp only at hp
 have bZ:Fp ab w ((w.alloc (.cells #[.int .i64 10,.string (B d),.string (B p),.string (B da),.int .i64 v,.int .i64 o,.bool t] TP)).alloc (.cells #[.int .i64 0,.string ⟨#[]⟩,.string ⟨#[]⟩,.int .i64 0,.slice none 0 0] TR)):=((Fp.refl ab w).alloc _).alloc _;have K0:=zI (Kp.and (Kp.sw (h.af bZ)) (Kp.and (Kp.bp (Bp.made w 10 d p da v o t)) (Kp.and (Kp.fp bZ) (Kp.yV (ht.af bZ)))));have HX:=zI (yI h (yI aN (yI hm (yI hn dJ))));have cG:fY ⟨10,d,p,da,v,o,t⟩=.agg #[.int .i64 10,.string (B d),.string (B p),.string (B da),.int .i64 v,.int .i64 o,.bool t]:=rfl;have e:b7 s ⟨10,d,p,da,v,o,t⟩=(⟨s.nodes.filter (λn=>!(n.own == o && parent n.path == some p)),s.turns⟩,⟨0,[],[],0,(s.nodes.filter (λn=>n.own == o && parent n.path == some p)).map (λn=>last n.path)⟩):=by unfold b7;rw[if_neg (show ¬(10:Int)=2 by decide),if_neg (show ¬(10:Int)=4 by decide),if_neg (show ¬(10:Int)=9 by decide),if_pos rfl];rfl
 rw[e];have Jl:=zI (dh.sp aN);clear bZ h ht aN hm hn dJ hp e;rw[cG];clear cG;go_enter func156,ntmps156
 generalize dw:((w.alloc (.cells #[.int .i64 10,.string (B d),.string (B p),.string (B da),.int .i64 v,.int .i64 o,.bool t] TP)).alloc (.cells #[.int .i64 0,.string ⟨#[]⟩,.string ⟨#[]⟩,.int .i64 0,.slice none 0 0] TR))=W0 at *;obtain⟨o0,o1,o2,o3,o4,o5,o6⟩:=aH K0.now.2.1.op;go_wp2_with fail
 clear dw;refine(mm p W0).mono ?_;rintro e w1⟨rfl,gV⟩;obtain rfl:=gV.symm;have K1:=zI (Kp.and (Kp.row (heap_alloc_new W0 (.cells #[.string (B p)] 9))) (K0.later (aa W0 (.cells #[.string (B p)] 9))));have rI:=zI (show(W0.alloc (.cells #[.string (B p)] 9)).heap.size=W0.heap.size+1 by simp)
 have ZS:=zI (show w.heap.size+2<=W0.heap.size from K0.now.2.1.sz);clear gV o0 o1 o2 o3 o4 o5 o6;generalize W0.alloc (.cells #[.string (B p)] 9)=w1 at *;go_wp2_with fail
 have K2:=zI (Kp.and (Kp.row (heap_alloc_new w1 (.cells #[Mx W0.heap.size] 115))) (K1.later (aa w1 (.cells #[Mx W0.heap.size] 115))));obtain⟨o0,o1,o2,o3,o4,o5,o6⟩:=aH K2.now.2.2.2.1.op;have fG:(w1.alloc (.cells #[Mx W0.heap.size] 115)).cell? ⟨w1.heap.size,0,none⟩=some (Mx W0.heap.size):=by rw[cell_of_row _ _ _ _ _ _ K2.now.1];rfl
 have EC:(w1.alloc (.cells #[Mx W0.heap.size] 115)).cell? ⟨W0.heap.size,0,none⟩=some (.string (B p)):=by rw[cell_of_row _ _ _ _ _ _ K2.now.2.1];rfl
 have iH:=Fl w.heap.size w1.heap.size W0.heap.size p o _ (λk=>vn.ownBlock=some k) o5 fG EC (λe=>by have:=HX.1.zq _ e;omega) (λe=>by have h1:=HX.1.zq _ e;have h2:=rI.out;have h3:=ZS.out;omega) (λe=>by have h1:=HX.1.zq _ e;have h3:=ZS.out;omega)
 have Jm:=oq K2.now.2.2.1 Jl iH.af (by have:=HX.2.2.2.1;omega)
 have Rq:=zI Jm;have HPD:=zI iH;have WS:=K2.now.2.2.1.c0;clear fG EC iH Jm o0 o1 o2 o3 o4 o5 o6;generalize w1.alloc (.cells #[Mx W0.heap.size] 115)=w2 at *;refine Rq.mono ?_;rintro e w3⟨nv,rfl,aL,hf⟩;have K3:=zI (K2.later hf);obtain⟨ps,dH⟩:∃ps,ps=(s.nodes.filter (λn=>n.own == o && parent n.path == some p)).map (λn=>last n.path):=⟨_,rfl⟩
 have jW:Own w.heap.size w3 nv ps:=by rw[dH];exact aL.low K2.now.2.2.2.2.1.size
 have nj:=zI (show ∀k,nv.ownBlock=some k->w.heap.size+2<=k from λk e=>by have h1:=(aL.1.lt k e).1;have h2:=K2.now.2.2.2.1.sz;omega)
 have uw:=zI jW;have wy:=zI dH;have My:=jV K3.now.2.2.1.own Jl (HPD.later hf.any) (by have:=HX.2.2.2.1;omega)
 have Rp:=zI My;have ZT:=hf.cell WS id;obtain⟨ao,cap,rfl⟩:=K3.now.2.2.1.own.ns.shape;obtain⟨wE,kS,rfl⟩:=jW.shape;clear aL jW hf dH My WS Rq;go_wp2_with fail
 refine Rp.mono ?_;rintro e w4⟨v4,rfl,hc⟩;have CW:=K3.now.2.2.1.CV (Fp.refl ab w3) hc;have cb4:=hc.fp.cell ZT (λe=>K3.now.2.2.1.sV e)
 have zb4:w4.frozen? ⟨b,0,none⟩=false:=by have:=hc.fp.heap K3.now.2.2.1.dR (λe=>K3.now.2.2.1.sV e);simp[World.frozen?,this]
 have HC:=zI (eO.of HX.1 K3.now.2.2.2.1 CW.1 K3.now.2.2.2.2.1 (CW.2.1.mono (λk hk=>hk.imp id .inl)) CW.2.2 (λk hk=>.inl hk))
 have Mz:Own w.heap.size (w4.setCell ⟨b,0,none⟩ v4) (.slice wE ps.length kS) ps:=⟨CW.2.1.owns uw.1 (λk hk e=>by
  have h1:=nj k hk;rcases e with e|e
  ·have:=HX.1.lt;omega
  have:=HX.1.zq _ e;omega),uw.2⟩
 have WT:=zI Mz;obtain⟨a4,c4,rfl⟩:=hc.own.ns.shape;have WU:=zI (show(Value.slice wE ps.length kS).ownBlock=some (w.heap.size+1)->False from λe=>by have:=nj _ e;omega)
 clear hc CW ZT Rp Mz;generalize (s.nodes.filter (λn=>!(n.own == o && parent n.path == some p))).length=n4 at *
 have aK:=(HC.out).bp;obtain⟨r0,r1,r2,r3,r4⟩:=aK.r;have z0:=aK.fz 0;have z1:=aK.fz 1;have z2:=aK.fz 2;have z3:=aK.fz 3;have z4:=aK.fz 4;have HP:=zI ((HC.out).done ⟨0,[],[],0,(s.nodes.filter (λn=>n.own == o && parent n.path == some p)).map (λn=>last n.path)⟩ (.slice wE ps.length kS) (by rw[<-wy.out];exact WT.out) WU (0) (⟨#[]⟩) (⟨#[]⟩) (0) rfl rfl rfl rfl)
 have fH:=zI (ew aK.res (.int .i64 0) (.string ⟨#[]⟩) (.string ⟨#[]⟩) (.int .i64 0) (.slice wE ps.length kS));clear aK;go_wp2;have fI:=fH.out;have fJ:=HP.out;generalize (((((World.setCell _ _ _).setCell _ _).setCell _ _).setCell _ _).setCell _ _)=wz at *;obtain⟨s0,s1,s2,s3,s4⟩:=b5 fI;exact bodyPost_ret (v:=.agg #[.int .i64 0,.string ⟨#[]⟩,.string ⟨#[]⟩,.int .i64 0,.slice wE ps.length kS]) (by simp[results,results156,go_sem,s0,s1,s2,s3,s4]) rfl fJ
end Go.Proofs.YtgafcelloiagmaaGreatDoor
