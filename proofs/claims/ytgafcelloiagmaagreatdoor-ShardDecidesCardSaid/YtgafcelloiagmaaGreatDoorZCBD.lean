/- A text of this proof. -/
import Derived.Test.YtgafcelloiagmaaGreatDoorZCBA
set_option maxHeartbeats 16000000
set_option linter.unusedSimpArgs false
set_option linter.unusedVariables false
set_option maxRecDepth 20000
namespace Go.Proofs.YtgafcelloiagmaaGreatDoor
open Go.Proofs.Tryz
open Go.RowKit Pm
attribute [local irreducible] wpStill
theorem wrap_small{n:Int}(h1:-9223372036854775808<=n)(h2:n<=9223372036854775807):IntKind.i64.wrap n=n:=by
 simp[IntKind.wrap,IntKind.bits,IntKind.signed];omega
theorem J6{lo b:Nat}{vn vt:Value}{s:St}{w:World}(h:Sw lo b vn vt s w)(x:Pt)(aN:dh s)(hm:cq x=true)(hn:s.nodes.length<=3900)(dJ:s.turns.length<=3900)(ht:jH w)(hk:x.kind=4):
  Calls prog 150 #[.pointer (some ⟨b,0,none⟩),fY x] w (yU lo b vn vt (b7 s x).1 (b7 s x).2 w):=by
 have hp:x.path.length<=100:=bT ((bt x).1 hm).2.1;obtain⟨k,d,p,da,v,o,t⟩:=x;obtain rfl:k=4:=hk;simp only at hp
 have bZ:Fp ab w ((w.alloc (.cells #[.int .i64 4,.string (B d),.string (B p),.string (B da),.int .i64 v,.int .i64 o,.bool t] TP)).alloc (.cells #[.int .i64 0,.string ⟨#[]⟩,.string ⟨#[]⟩,.int .i64 0,.slice none 0 0] TR)):=((Fp.refl ab w).alloc _).alloc _;have K0:=zI (Kp.and (Kp.sw (h.af bZ)) (Kp.and (Kp.bp (Bp.made w 4 d p da v o t)) (Kp.and (Kp.fp bZ) (Kp.yV (ht.af bZ)))));have HX:=zI (yI h (yI aN (yI hm (yI hn dJ))));have cG:fY ⟨4,d,p,da,v,o,t⟩=.agg #[.int .i64 4,.string (B d),.string (B p),.string (B da),.int .i64 v,.int .i64 o,.bool t]:=rfl;have Jl:=zI (dh.sp aN);have JX:=Ga s.nodes p;obtain⟨c,hc⟩:∃c,s.nodes.any (λn=>parent n.path == some p)=c:=⟨_,rfl⟩
 have RJ:=zI hc;rw[hc]at JX;cases c with
 |true=>
  have e:b7 s ⟨4,d,p,da,v,o,t⟩=(s,.bad 64):=by
   have:kids s.nodes p≠[]:=λk=>by have:=JX.2 k;cases this
   unfold b7;simp[this]
  rw[e];clear bZ h ht aN hm hn dJ hp e hc JX;rw[cG];clear cG;go_enter func150,ntmps150
  generalize dw:((w.alloc (.cells #[.int .i64 4,.string (B d),.string (B p),.string (B da),.int .i64 v,.int .i64 o,.bool t] TP)).alloc (.cells #[.int .i64 0,.string ⟨#[]⟩,.string ⟨#[]⟩,.int .i64 0,.slice none 0 0] TR))=W0 at *;obtain⟨o0,o1,o2,o3,o4,o5,o6⟩:=aH K0.now.2.1.op;obtain⟨ao,cap,fF⟩:=K0.now.1.own.ns.shape;subst fF;go_wp2_with fail
  clear dw;have KD:=zI (K0.later (Fp.refl ab W0).drew);have bg:=zI (yI KD.now.1.c0 (aH KD.now.2.1.op).2.2.1);refine wp_region_held_drew (S:=(λw'=>w'.cell? ⟨b,0,none⟩=some (.slice ao s.nodes.length cap)/\w'.cell? ⟨w.heap.size,2,none⟩=some (.string (B p)))) (by kernel_rfl) ?_ (λhH=>?_)
  ·exact bg.out
  clear o0 o1 o2 o3 o4 o5 o6;generalize W0.drew=Wd at *;refine tk 0 hH ?_;refine tk 1 hH ?_;refine tk 2 hH ?_;refine tk 3 hH ?_;refine tk 4 hH ?_;refine tk 5 hH ?_;refine rY 6 λK hK=>?_
  go_simp;go_at_call 225
  refine(mm p _).mono ?_;rintro e w1⟨rfl,gV⟩;obtain rfl:=gV.symm;have K1:=zI (KD.later (aa Wd (.cells #[.string (B p)] 9)));have iH:=nz p Wd ab (λ_ h=>h.elim)
  have Dg:=j0 _ _ s.nodes _ _ K1.now.1.own.ns Jl iH (by have:=HX.2.2.2.1;omega)
  rw[RJ.out]at Dg;have Xd:=zI Dg;have dQ:=zI (yI K1.now.1.c0 (aH K1.now.2.1.op).2.2.1);clear iH Dg gV;go_wp2_with fail
  refine hK _ _ dQ (λhH=>?_)
  clear hK K;try simp only[zz]
  refine rY 7 λK hK=>?_
  go_simp;go_at_call 224
  refine Xd.mono ?_;rintro e w2⟨rfl,hf⟩;have K2:=zI (K1.later hf);have cI:=zI (yI K2.now.1.c0 (aH K2.now.2.1.op).2.2.1);clear hf;go_wp2_with fail
  refine hK _ _ cI (λhH=>?_)
  clear hK K;try simp only[zz]
  refine yD ?_;go_wp2_with fail
  refine(bG 64 _).mono ?_;rintro e w9⟨rfl,hf⟩;have K9:=zI (K2.later hf);clear hf;unfold jI;have aK:=(eO.still HX.1 K9.now.1 K9.now.2.1 K9.now.2.2.1).bp;obtain⟨r0,r1,r2,r3,r4⟩:=aK.r;have z0:=aK.fz 0;have z1:=aK.fz 1;have z2:=aK.fz 2;have z3:=aK.fz 3;have z4:=aK.fz 4;have HP:=zI ((eO.still HX.1 K9.now.1 K9.now.2.1 K9.now.2.2.1).done (.bad 64) (.slice none 0 0) (Own.nil _ _) (λe=>by simp[Value.ownBlock]at e) (64) (⟨#[]⟩) (⟨#[]⟩) (0) rfl rfl rfl rfl)
  have fH:=zI (ew aK.res (.int .i64 64) (.string ⟨#[]⟩) (.string ⟨#[]⟩) (.int .i64 0) (.slice none 0 0));clear aK;go_wp2;have fI:=fH.out;have fJ:=HP.out;generalize (((((World.setCell _ _ _).setCell _ _).setCell _ _).setCell _ _).setCell _ _)=wz at *;obtain⟨s0,s1,s2,s3,s4⟩:=b5 fI;exact bodyPost_ret (v:=.agg #[.int .i64 64,.string ⟨#[]⟩,.string ⟨#[]⟩,.int .i64 0,.slice none 0 0]) (by simp[results,results150,go_sem,s0,s1,s2,s3,s4]) rfl fJ
 |false=>?_
 have e:b7 s ⟨4,d,p,da,v,o,t⟩=(⟨s.nodes,lL s.turns p 0⟩,EB):=by
  have:kids s.nodes p=[]:=JX.1 rfl;unfold b7;simp[this]
 rw[e];clear bZ h ht aN hm hn dJ hp e hc JX;rw[cG];clear cG;go_enter func150,ntmps150
 generalize dw:((w.alloc (.cells #[.int .i64 4,.string (B d),.string (B p),.string (B da),.int .i64 v,.int .i64 o,.bool t] TP)).alloc (.cells #[.int .i64 0,.string ⟨#[]⟩,.string ⟨#[]⟩,.int .i64 0,.slice none 0 0] TR))=W0 at *;obtain⟨o0,o1,o2,o3,o4,o5,o6⟩:=aH K0.now.2.1.op;obtain⟨ao,cap,fF⟩:=K0.now.1.own.ns.shape;subst fF;go_wp2_with fail
 clear dw;have KD:=zI (K0.later (Fp.refl ab W0).drew);have bg:=zI (yI KD.now.1.c0 (aH KD.now.2.1.op).2.2.1);refine wp_region_held_drew (S:=(λw'=>w'.cell? ⟨b,0,none⟩=some (.slice ao s.nodes.length cap)/\w'.cell? ⟨w.heap.size,2,none⟩=some (.string (B p)))) (by kernel_rfl) ?_ (λhH=>?_)
 ·exact bg.out
 clear o0 o1 o2 o3 o4 o5 o6;generalize W0.drew=Wd at *;refine tk 0 hH ?_;refine tk 1 hH ?_;refine tk 2 hH ?_;refine tk 3 hH ?_;refine tk 4 hH ?_;refine tk 5 hH ?_;refine rY 6 λK hK=>?_
 go_simp;go_at_call 225
 refine(mm p _).mono ?_;rintro e w1⟨rfl,gV⟩;obtain rfl:=gV.symm;have K1:=zI (KD.later (aa Wd (.cells #[.string (B p)] 9)));have iH:=nz p Wd ab (λ_ h=>h.elim)
 have Dg:=j0 _ _ s.nodes _ _ K1.now.1.own.ns Jl iH (by have:=HX.2.2.2.1;omega)
 rw[RJ.out]at Dg;have Xd:=zI Dg;have dQ:=zI (yI K1.now.1.c0 (aH K1.now.2.1.op).2.2.1);clear iH Dg gV;go_wp2_with fail
 refine hK _ _ dQ (λhH=>?_)
 clear hK K;try simp only[zz]
 refine rY 7 λK hK=>?_
 go_simp;go_at_call 224
 refine Xd.mono ?_;rintro e w2⟨rfl,hf⟩;have K2:=zI (K1.later hf);have cI:=zI (yI K2.now.1.c0 (aH K2.now.2.1.op).2.2.1);clear hf;go_wp2_with fail
 refine hK _ _ cI (λhH=>?_)
 clear hK K;try simp only[zz]
 refine yD ?_;obtain⟨o0,o1,o2,o3,o4,o5,o6⟩:=aH K2.now.2.1.op;have FP:=nG K2.now.1 p 0 HX.2.1.oU HX.2.2.2.2;have RL:=zI FP;clear FP;go_wp2_with fail
 clear o0 o1 o2 o3 o4 o5 o6;refine RL.mono ?_;rintro e w3⟨rfl,hR⟩;obtain⟨iA,jc,BU⟩:=hR.ex;have HC:=zI (eO.of HX.1 K2.now.2.1 jc K2.now.2.2.1 (hR.fp.mono (λk hk=>hk.imp id .inr)) (λk hk=>.inl hk) BU)
 clear hR jc BU;have aK:=(HC.out).bp;obtain⟨r0,r1,r2,r3,r4⟩:=aK.r;have z0:=aK.fz 0;have z1:=aK.fz 1;have z2:=aK.fz 2;have z3:=aK.fz 3;have z4:=aK.fz 4;have HP:=zI ((HC.out).done EB (.slice none 0 0) (Own.nil _ _) (λe=>by simp[Value.ownBlock]at e) (0) (⟨#[]⟩) (⟨#[]⟩) (0) rfl rfl rfl rfl)
 have fH:=zI (ew aK.res (.int .i64 0) (.string ⟨#[]⟩) (.string ⟨#[]⟩) (.int .i64 0) (.slice none 0 0));clear aK;go_wp2;have fI:=fH.out;have fJ:=HP.out;generalize (((((World.setCell _ _ _).setCell _ _).setCell _ _).setCell _ _).setCell _ _)=wz at *;obtain⟨s0,s1,s2,s3,s4⟩:=b5 fI;exact bodyPost_ret (v:=.agg #[.int .i64 0,.string ⟨#[]⟩,.string ⟨#[]⟩,.int .i64 0,.slice none 0 0]) (by simp[results,results150,go_sem,s0,s1,s2,s3,s4]) rfl fJ
theorem RM{lo b:Nat}{vn vt:Value}{s:St}{w:World}(h:Sw lo b vn vt s w)(x:Pt)(aN:dh s)(hm:cq x=true)(hn:s.nodes.length<=3900)(dJ:s.turns.length<=3900)(ht:jH w)(hk:x.kind=2):
  Calls prog 148 #[.pointer (some ⟨b,0,none⟩),fY x] w (yU lo b vn vt (b7 s x).1 (b7 s x).2 w):=by
 have hp:x.path.length<=100:=bT ((bt x).1 hm).2.1;obtain⟨k,d,p,da,v,o,t⟩:=x;obtain rfl:k=2:=hk;simp only at hp
 have bZ:Fp ab w ((w.alloc (.cells #[.int .i64 2,.string (B d),.string (B p),.string (B da),.int .i64 v,.int .i64 o,.bool t] TP)).alloc (.cells #[.int .i64 0,.string ⟨#[]⟩,.string ⟨#[]⟩,.int .i64 0,.slice none 0 0] TR)):=((Fp.refl ab w).alloc _).alloc _;have K0:=zI (Kp.and (Kp.sw (h.af bZ)) (Kp.and (Kp.bp (Bp.made w 2 d p da v o t)) (Kp.and (Kp.fp bZ) (Kp.yV (ht.af bZ)))));have HX:=zI (yI h (yI aN (yI hm (yI hn dJ))));have cG:fY ⟨2,d,p,da,v,o,t⟩=.agg #[.int .i64 2,.string (B d),.string (B p),.string (B da),.int .i64 v,.int .i64 o,.bool t]:=rfl;have Oj:=zI (λW (hW:Sw lo b vn vt s W) (hT:jH W)=>Dh hW ⟨2,d,p,da,v,o,t⟩ aN hm (by omega) hT)
 have je:=zI aN;obtain⟨np,J7⟩:∃np,jh s ⟨2,d,p,da,v,o,t⟩=np:=⟨_,rfl⟩;rw[J7,cG]at Oj;cases np with
 |none=>
  have e:b7 s ⟨2,d,p,da,v,o,t⟩=(s,.bad 66):=by unfold b7 qh;rw[if_pos rfl,J7]
  rw[e];simp only[Option.getD_none,Option.isSome_none]at Oj
  clear bZ h ht aN hm hn dJ hp e J7;rw[cG];clear cG;go_enter func148,ntmps148
  generalize dw:((w.alloc (.cells #[.int .i64 2,.string (B d),.string (B p),.string (B da),.int .i64 v,.int .i64 o,.bool t] TP)).alloc (.cells #[.int .i64 0,.string ⟨#[]⟩,.string ⟨#[]⟩,.int .i64 0,.slice none 0 0] TR))=W0 at *;obtain⟨o0,o1,o2,o3,o4,o5,o6⟩:=aH K0.now.2.1.op;go_wp2_with fail
  clear dw;refine(Oj _ K0.now.1 K0.now.2.2.2).mono ?_;rintro e w1⟨rfl,cv⟩;have K1:=zI (K0.later cv);clear cv;clear o0 o1 o2 o3 o4 o5 o6;go_wp2_with fail
  refine(bG 66 _).mono ?_;rintro e w9⟨rfl,hf⟩;have K9:=zI (K1.later hf);clear hf;unfold jI;have aK:=(eO.still HX.1 K9.now.1 K9.now.2.1 K9.now.2.2.1).bp;obtain⟨r0,r1,r2,r3,r4⟩:=aK.r;have z0:=aK.fz 0;have z1:=aK.fz 1;have z2:=aK.fz 2;have z3:=aK.fz 3;have z4:=aK.fz 4;have HP:=zI ((eO.still HX.1 K9.now.1 K9.now.2.1 K9.now.2.2.1).done (.bad 66) (.slice none 0 0) (Own.nil _ _) (λe=>by simp[Value.ownBlock]at e) (66) (⟨#[]⟩) (⟨#[]⟩) (0) rfl rfl rfl rfl)
  have fH:=zI (ew aK.res (.int .i64 66) (.string ⟨#[]⟩) (.string ⟨#[]⟩) (.int .i64 0) (.slice none 0 0));clear aK;go_wp2;have fI:=fH.out;have fJ:=HP.out;generalize (((((World.setCell _ _ _).setCell _ _).setCell _ _).setCell _ _).setCell _ _)=wz at *;obtain⟨s0,s1,s2,s3,s4⟩:=b5 fI;exact bodyPost_ret (v:=.agg #[.int .i64 66,.string ⟨#[]⟩,.string ⟨#[]⟩,.int .i64 0,.slice none 0 0]) (by simp[results,results148,go_sem,s0,s1,s2,s3,s4]) rfl fJ
 |some q=>?_
 obtain⟨kq,Ol⟩:∃kq,kq=place s.nodes q:=⟨_,rfl⟩;have wU:=zI (λW (hW:Sw lo b vn vt s W)=>qj vn s.nodes q W hW.own.ns aN.kR (by omega))
 rw[<-Ol]at wU;simp only[Option.getD_some,Option.isSome_some]at Oj
 cases hf:find s.nodes q with
 |some y=>
  have e:b7 s ⟨2,d,p,da,v,o,t⟩=(s,.bad 61):=by unfold b7 qh;rw[if_pos rfl,J7];simp[hf]
  rw[e];rw[hf]at wU;simp only[Option.isSome_some]at wU
  clear bZ h ht aN hm hn dJ hp e J7 hf Ol;rw[cG];clear cG;go_enter func148,ntmps148
  generalize dw:((w.alloc (.cells #[.int .i64 2,.string (B d),.string (B p),.string (B da),.int .i64 v,.int .i64 o,.bool t] TP)).alloc (.cells #[.int .i64 0,.string ⟨#[]⟩,.string ⟨#[]⟩,.int .i64 0,.slice none 0 0] TR))=W0 at *;obtain⟨o0,o1,o2,o3,o4,o5,o6⟩:=aH K0.now.2.1.op;go_wp2_with fail
  clear dw;refine(Oj _ K0.now.1 K0.now.2.2.2).mono ?_;rintro e w1⟨rfl,cv⟩;have K1:=zI (K0.later cv);clear cv;clear o0 o1 o2 o3 o4 o5 o6;have RN:=K1.now.1.c0;obtain⟨ao,cap,fF⟩:=K1.now.1.own.ns.shape;subst fF;go_wp2_with fail
  refine(wU _ K1.now.1).mono ?_;rintro e w2⟨rfl,bY⟩;have K2:=zI (K1.later bY);clear bY RN wU;go_wp2_with fail
  refine(bG 61 _).mono ?_;rintro e w9⟨rfl,hf⟩;have K9:=zI (K2.later hf);clear hf;unfold jI;have aK:=(eO.still HX.1 K9.now.1 K9.now.2.1 K9.now.2.2.1).bp;obtain⟨r0,r1,r2,r3,r4⟩:=aK.r;have z0:=aK.fz 0;have z1:=aK.fz 1;have z2:=aK.fz 2;have z3:=aK.fz 3;have z4:=aK.fz 4;have HP:=zI ((eO.still HX.1 K9.now.1 K9.now.2.1 K9.now.2.2.1).done (.bad 61) (.slice none 0 0) (Own.nil _ _) (λe=>by simp[Value.ownBlock]at e) (61) (⟨#[]⟩) (⟨#[]⟩) (0) rfl rfl rfl rfl)
  have fH:=zI (ew aK.res (.int .i64 61) (.string ⟨#[]⟩) (.string ⟨#[]⟩) (.int .i64 0) (.slice none 0 0));clear aK;go_wp2;have fI:=fH.out;have fJ:=HP.out;generalize (((((World.setCell _ _ _).setCell _ _).setCell _ _).setCell _ _).setCell _ _)=wz at *;obtain⟨s0,s1,s2,s3,s4⟩:=b5 fI;exact bodyPost_ret (v:=.agg #[.int .i64 61,.string ⟨#[]⟩,.string ⟨#[]⟩,.int .i64 0,.slice none 0 0]) (by simp[results,results148,go_sem,s0,s1,s2,s3,s4]) rfl fJ
 |none=>?_
 rw[hf]at wU;simp only[Option.isSome_none]at wU
 have qk:=zI (show kq<=s.nodes.length by rw[Ol];exact Gb _ _)
 cases t with
 |false=>
  have e:b7 s ⟨2,d,p,da,v,o,false⟩=(⟨ins s.nodes kq ⟨q,da,0,0,o⟩,s.turns⟩,⟨0,q,[],0,[]⟩):=by unfold b7 qh;rw[if_pos rfl,J7];simp[hf,Ol]
  rw[e];clear bZ h ht aN hm hn dJ hp e J7 hf Ol;rw[cG];clear cG;go_enter func148,ntmps148
  generalize dw:((w.alloc (.cells #[.int .i64 2,.string (B d),.string (B p),.string (B da),.int .i64 v,.int .i64 o,.bool false] TP)).alloc (.cells #[.int .i64 0,.string ⟨#[]⟩,.string ⟨#[]⟩,.int .i64 0,.slice none 0 0] TR))=W0 at *;obtain⟨o0,o1,o2,o3,o4,o5,o6⟩:=aH K0.now.2.1.op;go_wp2_with fail
  clear dw;refine(Oj _ K0.now.1 K0.now.2.2.2).mono ?_;rintro e w1⟨rfl,cv⟩;have K1:=zI (K0.later cv);clear cv;clear o0 o1 o2 o3 o4 o5 o6;have RN:=K1.now.1.c0;obtain⟨ao,cap,fF⟩:=K1.now.1.own.ns.shape;subst fF;go_wp2_with fail
  refine(wU _ K1.now.1).mono ?_;rintro e w2⟨rfl,bY⟩;have K2:=zI (K1.later bY);clear bY RN wU;go_wp2_with fail
  have KD:=zI (K2.later (Fp.refl ab w2).drew);have RO:=zI (yI (aH KD.now.2.1.op).2.2.2.1 (aH KD.now.2.1.op).2.2.2.2.2.1);have RP:=KD.now.1.c0;refine wp_region_held_drew (S:=(λw'=>w'.cell? ⟨w.heap.size,3,none⟩=some (.string (B da))/\w'.cell? ⟨w.heap.size,5,none⟩=some (.int .i64 o))) (by kernel_rfl) ?_ (λhH=>?_)
  ·exact RO.out
  generalize w2.drew=wd at *;refine tk 0 hH ?_;refine tk 1 hH ?_;refine tk 2 hH ?_;refine tk 3 hH ?_;refine tk 5 hH ?_;refine tk 6 hH ?_;refine tk 7 hH ?_;refine tk 8 hH ?_;refine tk 9 hH ?_;refine tk 10 hH ?_;refine tk 11 hH ?_;have iB:=aa wd (.cells #[.string (B q),.string (B da),.int .i64 0,.int .i64 0,.int .i64 o] TN);have RQ:(wd.alloc (.cells #[.string (B q),.string (B da),.int .i64 0,.int .i64 0,.int .i64 o] TN)).heap[wd.heap.size]?=some (.cells (oV ⟨q,da,0,0,o⟩).toArray TN (0,0)):=heap_alloc_new wd _;have KA:=zI (KD.later iB);have wV:=zI (yI (aH KA.now.2.1.op).2.2.2.1 (aH KA.now.2.1.op).2.2.2.2.2.1);have eK:=ql (x:=⟨q,da,0,0,o⟩) KA.now.1.own kq qk RQ (λe=>by have:=KD.now.1.zq _ e;omega) (by have:=HX.2.2.2.1;omega) (by have h1:=HX.1.low;have h2:=HX.1.lt;have h3:=KA.now.2.2.1.size;omega)
  have Gc:=zI eK;have RR:=KA.now.1.c0;clear iB RQ eK;refine wpAnyH_ready (rs:=[4,12]) (by kernel_rfl) (by simp) ?_
  refine AllReadyH.cons (o:=?_) (by simp only[zA,zB,zC]<;>exact rfl) (λK hK=>?_) (AllReadyH.cons (o:=?_) (by simp only[zA,zB,zC]<;>exact rfl) (λK hK=>?_) AllReadyH.nil)
  ·go_simp
   refine hK _ _ RO (λhH=>?_)
   clear hK K;try simp only[zz]
   refine rY 12 λK hK=>?_
   go_simp;refine hK _ _ wV (λhH=>?_)
   clear hK K RP RR;try simp only[zz]
   generalize (wd.alloc (.cells #[.string (B q),.string (B da),.int .i64 0,.int .i64 0,.int .i64 o] TN))=wa at *;refine rY 13 λK hK=>?_
   go_simp;go_at_call 218
   refine Gc.mono ?_;rintro e w7⟨v7,rfl,hc⟩;have qm:=KA.now.1.CV (Fp.refl ab wa) hc;have zK:∀k,k=w.heap.size->¬(Value.slice ao s.nodes.length cap).ownBlock=some k:=λk hk e=>by have:=HX.1.zq _ e;omega
   have zL:b≠w.heap.size:=λe=>by have:=HX.1.lt;omega
   have uF:=yI (hc.fp.cell wV.1 (λe=>zK _ rfl e)) (hc.fp.cell wV.2 (λe=>zK _ rfl e))
   have J8:=zI uF;have wx:Fp (λk=>k=b) w7 (w7.setCell ⟨b,0,none⟩ v7):=(Fp.refl (λk=>k=b) w7).setCell (p:=⟨b,0,none⟩) (.inl rfl) v7
   have te:=zI (yI (wx.cell uF.1 (λe=>zL e.symm)) (wx.cell uF.2 (λe=>zL e.symm)))
   have Om:=hc.fp.cell KA.now.1.c0 (λe=>KA.now.1.sV e)
   have On:w7.frozen? ⟨b,0,none⟩=false:=by have:=hc.fp.heap KA.now.1.dR (λe=>KA.now.1.sV e);simp[World.frozen?,this]
   have uG:=zI (eO.of HX.1 KA.now.2.1 qm.1 KA.now.2.2.1 (qm.2.1.mono (λk hk=>hk.imp id .inl)) qm.2.2 (λk hk=>.inl hk))
   have wW:=zI qm;obtain⟨a7,c7,rfl⟩:=hc.own.ns.shape;obtain⟨n7,Gd⟩:∃n7,n7=(ins s.nodes kq ⟨q,da,0,0,o⟩).length:=⟨_,rfl⟩;rw[<-Gd]at te uG wW|-;clear hc qm zK zL uF wx Gd Gc;go_wp2_with fail
   refine hK _ _ J8 (λhH=>?_)
   clear hK K;try simp only[zz]
   refine tk 14 hH ?_;refine tk 15 hH ?_;refine rY 16 λK hK=>?_
   go_simp;refine hK _ _ te (λhH=>?_)
   clear hK K hH Om On;try simp only[zz]
   refine yD ?_;generalize (w7.setCell ⟨b,0,none⟩ _)=W8 at *;obtain⟨o0,o1,o2,o3,o4,o5,o6⟩:=aH uG.bp.op;have aK:=(uG.out).bp;obtain⟨r0,r1,r2,r3,r4⟩:=aK.r;have z0:=aK.fz 0;have z1:=aK.fz 1;have z2:=aK.fz 2;have z3:=aK.fz 3;have z4:=aK.fz 4;have HP:=zI ((uG.out).done ⟨0,q,[],0,[]⟩ (.slice none 0 0) (Own.nil _ _) (λe=>by simp[Value.ownBlock]at e) (0) ((B q)) (⟨#[]⟩) (0) rfl rfl rfl rfl)
   have fH:=zI (ew aK.res (.int .i64 0) (.string (B q)) (.string ⟨#[]⟩) (.int .i64 0) (.slice none 0 0));clear aK;go_wp2;have fI:=fH.out;have fJ:=HP.out;generalize (((((World.setCell _ _ _).setCell _ _).setCell _ _).setCell _ _).setCell _ _)=wz at *;obtain⟨s0,s1,s2,s3,s4⟩:=b5 fI;exact bodyPost_ret (v:=.agg #[.int .i64 0,.string (B q),.string ⟨#[]⟩,.int .i64 0,.slice none 0 0]) (by simp[results,results148,go_sem,s0,s1,s2,s3,s4]) rfl fJ
  go_simp;refine hK _ _ wV (λhH=>?_)
  clear hK K RP;try simp only[zz]
  generalize (wd.alloc (.cells #[.string (B q),.string (B da),.int .i64 0,.int .i64 0,.int .i64 o] TN))=wa at *;refine rY 4 λK hK=>?_
  go_simp;refine hK _ _ wV (λhH=>?_)
  clear hK K RR;try simp only[zz]
  refine rY 13 λK hK=>?_
  go_simp;go_at_call 218
  refine Gc.mono ?_;rintro e w7⟨v7,rfl,hc⟩;have qm:=KA.now.1.CV (Fp.refl ab wa) hc;have zK:∀k,k=w.heap.size->¬(Value.slice ao s.nodes.length cap).ownBlock=some k:=λk hk e=>by have:=HX.1.zq _ e;omega
  have zL:b≠w.heap.size:=λe=>by have:=HX.1.lt;omega
  have uF:=yI (hc.fp.cell wV.1 (λe=>zK _ rfl e)) (hc.fp.cell wV.2 (λe=>zK _ rfl e))
  have J8:=zI uF;have wx:Fp (λk=>k=b) w7 (w7.setCell ⟨b,0,none⟩ v7):=(Fp.refl (λk=>k=b) w7).setCell (p:=⟨b,0,none⟩) (.inl rfl) v7
  have te:=zI (yI (wx.cell uF.1 (λe=>zL e.symm)) (wx.cell uF.2 (λe=>zL e.symm)))
  have Om:=hc.fp.cell KA.now.1.c0 (λe=>KA.now.1.sV e)
  have On:w7.frozen? ⟨b,0,none⟩=false:=by have:=hc.fp.heap KA.now.1.dR (λe=>KA.now.1.sV e);simp[World.frozen?,this]
  have uG:=zI (eO.of HX.1 KA.now.2.1 qm.1 KA.now.2.2.1 (qm.2.1.mono (λk hk=>hk.imp id .inl)) qm.2.2 (λk hk=>.inl hk))
  have wW:=zI qm;obtain⟨a7,c7,rfl⟩:=hc.own.ns.shape;obtain⟨n7,Gd⟩:∃n7,n7=(ins s.nodes kq ⟨q,da,0,0,o⟩).length:=⟨_,rfl⟩;rw[<-Gd]at te uG wW|-;clear hc qm zK zL uF wx Gd Gc;go_wp2_with fail
  refine hK _ _ J8 (λhH=>?_)
  clear hK K;try simp only[zz]
  refine tk 14 hH ?_;refine tk 15 hH ?_;refine rY 16 λK hK=>?_
  go_simp;refine hK _ _ te (λhH=>?_)
  clear hK K hH Om On;try simp only[zz]
  refine yD ?_;generalize (w7.setCell ⟨b,0,none⟩ _)=W8 at *;obtain⟨o0,o1,o2,o3,o4,o5,o6⟩:=aH uG.bp.op;have aK:=(uG.out).bp;obtain⟨r0,r1,r2,r3,r4⟩:=aK.r;have z0:=aK.fz 0;have z1:=aK.fz 1;have z2:=aK.fz 2;have z3:=aK.fz 3;have z4:=aK.fz 4;have HP:=zI ((uG.out).done ⟨0,q,[],0,[]⟩ (.slice none 0 0) (Own.nil _ _) (λe=>by simp[Value.ownBlock]at e) (0) ((B q)) (⟨#[]⟩) (0) rfl rfl rfl rfl)
  have fH:=zI (ew aK.res (.int .i64 0) (.string (B q)) (.string ⟨#[]⟩) (.int .i64 0) (.slice none 0 0));clear aK;go_wp2;have fI:=fH.out;have fJ:=HP.out;generalize (((((World.setCell _ _ _).setCell _ _).setCell _ _).setCell _ _).setCell _ _)=wz at *;obtain⟨s0,s1,s2,s3,s4⟩:=b5 fI;exact bodyPost_ret (v:=.agg #[.int .i64 0,.string (B q),.string ⟨#[]⟩,.int .i64 0,.slice none 0 0]) (by simp[results,results148,go_sem,s0,s1,s2,s3,s4]) rfl fJ
 |true=>?_
 have e:b7 s ⟨2,d,p,da,v,o,true⟩=(⟨ins s.nodes kq ⟨q,da,0,0,o⟩,lL s.turns d (dt s.turns d+1)⟩,⟨0,q,[],0,[]⟩):=by unfold b7 qh;rw[if_pos rfl,J7];simp[hf,Ol]
 rw[e];have J9:=iq aN.fe d;have Xe:=λ(W:World) (jB:Value) (l':List Nd) (hW:Sw lo b jB vt ⟨l',s.turns⟩ W)=>Ge hW d aN.oU (by have:=dJ;show s.turns.length<=1000000;omega)
 obtain⟨tt,Oo⟩:∃tt,tt=dt s.turns d:=⟨_,rfl⟩;simp only[<-Oo]at Xe J9|-
 have Z0:=zI Xe;have Di:IntKind.i64.wrap (tt+1)=tt+1:=wrap_small (by omega) (by omega)
 have Ka:=zI Di;clear Di Xe Oo J9;clear bZ h ht aN hm hn dJ hp e J7 hf Ol;rw[cG];clear cG;go_enter func148,ntmps148
 generalize dw:((w.alloc (.cells #[.int .i64 2,.string (B d),.string (B p),.string (B da),.int .i64 v,.int .i64 o,.bool true] TP)).alloc (.cells #[.int .i64 0,.string ⟨#[]⟩,.string ⟨#[]⟩,.int .i64 0,.slice none 0 0] TR))=W0 at *;obtain⟨o0,o1,o2,o3,o4,o5,o6⟩:=aH K0.now.2.1.op;go_wp2_with fail
 clear dw;refine(Oj _ K0.now.1 K0.now.2.2.2).mono ?_;rintro e w1⟨rfl,cv⟩;have K1:=zI (K0.later cv);clear cv;clear o0 o1 o2 o3 o4 o5 o6;have RN:=K1.now.1.c0;obtain⟨ao,cap,fF⟩:=K1.now.1.own.ns.shape;subst fF;go_wp2_with fail
 refine(wU _ K1.now.1).mono ?_;rintro e w2⟨rfl,bY⟩;have K2:=zI (K1.later bY);clear bY RN wU;go_wp2_with fail
 have KD:=zI (K2.later (Fp.refl ab w2).drew);have RO:=zI (yI (aH KD.now.2.1.op).2.2.2.1 (aH KD.now.2.1.op).2.2.2.2.2.1);have RP:=KD.now.1.c0;refine wp_region_held_drew (S:=(λw'=>w'.cell? ⟨w.heap.size,3,none⟩=some (.string (B da))/\w'.cell? ⟨w.heap.size,5,none⟩=some (.int .i64 o))) (by kernel_rfl) ?_ (λhH=>?_)
 ·exact RO.out
 generalize w2.drew=wd at *;refine tk 0 hH ?_;refine tk 1 hH ?_;refine tk 2 hH ?_;refine tk 3 hH ?_;refine tk 5 hH ?_;refine tk 6 hH ?_;refine tk 7 hH ?_;refine tk 8 hH ?_;refine tk 9 hH ?_;refine tk 10 hH ?_;refine tk 11 hH ?_;have iB:=aa wd (.cells #[.string (B q),.string (B da),.int .i64 0,.int .i64 0,.int .i64 o] TN);have RQ:(wd.alloc (.cells #[.string (B q),.string (B da),.int .i64 0,.int .i64 0,.int .i64 o] TN)).heap[wd.heap.size]?=some (.cells (oV ⟨q,da,0,0,o⟩).toArray TN (0,0)):=heap_alloc_new wd _;have KA:=zI (KD.later iB);have wV:=zI (yI (aH KA.now.2.1.op).2.2.2.1 (aH KA.now.2.1.op).2.2.2.2.2.1);have eK:=ql (x:=⟨q,da,0,0,o⟩) KA.now.1.own kq qk RQ (λe=>by have:=KD.now.1.zq _ e;omega) (by have:=HX.2.2.2.1;omega) (by have h1:=HX.1.low;have h2:=HX.1.lt;have h3:=KA.now.2.2.1.size;omega)
 have Gc:=zI eK;have RR:=KA.now.1.c0;clear iB RQ eK;refine wpAnyH_ready (rs:=[4,12]) (by kernel_rfl) (by simp) ?_
 refine AllReadyH.cons (o:=?_) (by simp only[zA,zB,zC]<;>exact rfl) (λK hK=>?_) (AllReadyH.cons (o:=?_) (by simp only[zA,zB,zC]<;>exact rfl) (λK hK=>?_) AllReadyH.nil)
 ·go_simp
  refine hK _ _ RO (λhH=>?_)
  clear hK K;try simp only[zz]
  refine rY 12 λK hK=>?_
  go_simp;refine hK _ _ wV (λhH=>?_)
  clear hK K RP RR;try simp only[zz]
  generalize (wd.alloc (.cells #[.string (B q),.string (B da),.int .i64 0,.int .i64 0,.int .i64 o] TN))=wa at *;refine rY 13 λK hK=>?_
  go_simp;go_at_call 218
  refine Gc.mono ?_;rintro e w7⟨v7,rfl,hc⟩;have qm:=KA.now.1.CV (Fp.refl ab wa) hc;have zK:∀k,k=w.heap.size->¬(Value.slice ao s.nodes.length cap).ownBlock=some k:=λk hk e=>by have:=HX.1.zq _ e;omega
  have zL:b≠w.heap.size:=λe=>by have:=HX.1.lt;omega
  have uF:=yI (hc.fp.cell wV.1 (λe=>zK _ rfl e)) (hc.fp.cell wV.2 (λe=>zK _ rfl e))
  have J8:=zI uF;have wx:Fp (λk=>k=b) w7 (w7.setCell ⟨b,0,none⟩ v7):=(Fp.refl (λk=>k=b) w7).setCell (p:=⟨b,0,none⟩) (.inl rfl) v7
  have te:=zI (yI (wx.cell uF.1 (λe=>zL e.symm)) (wx.cell uF.2 (λe=>zL e.symm)))
  have Om:=hc.fp.cell KA.now.1.c0 (λe=>KA.now.1.sV e)
  have On:w7.frozen? ⟨b,0,none⟩=false:=by have:=hc.fp.heap KA.now.1.dR (λe=>KA.now.1.sV e);simp[World.frozen?,this]
  have uG:=zI (eO.of HX.1 KA.now.2.1 qm.1 KA.now.2.2.1 (qm.2.1.mono (λk hk=>hk.imp id .inl)) qm.2.2 (λk hk=>.inl hk))
  have wW:=zI qm;obtain⟨a7,c7,rfl⟩:=hc.own.ns.shape;obtain⟨n7,Gd⟩:∃n7,n7=(ins s.nodes kq ⟨q,da,0,0,o⟩).length:=⟨_,rfl⟩;rw[<-Gd]at te uG wW|-;clear hc qm zK zL uF wx Gd Gc;go_wp2_with fail
  refine hK _ _ J8 (λhH=>?_)
  clear hK K;try simp only[zz]
  refine tk 14 hH ?_;refine tk 15 hH ?_;refine rY 16 λK hK=>?_
  go_simp;refine hK _ _ te (λhH=>?_)
  clear hK K hH Om On;try simp only[zz]
  refine yD ?_;generalize (w7.setCell ⟨b,0,none⟩ _)=W8 at *;obtain⟨o0,o1,o2,o3,o4,o5,o6⟩:=aH uG.bp.op;go_wp2_with fail
  have yX:=zI (aH ((uG.bp.af (Fp.refl ab W8).drew).op)).2.1;clear o0 o1 o2 o3 o4 o5 o6;refine wp_region_held_drew (S:=(λw'=>w'.cell? ⟨w.heap.size,1,none⟩=some (.string (B d)))) (by kernel_rfl) ?_ (λhH=>?_)
  ·exact yX.out
  refine tk 0 hH ?_;refine tk 1 hH ?_;refine tk 2 hH ?_;refine tk 3 hH ?_;refine tk 4 hH ?_;refine tk 5 hH ?_;refine rY 6 λK hK=>?_
  go_simp;go_at_call 220
  refine(Z0 _ _ _ (wW.1.af (Fp.refl ab W8).drew)).mono ?_;rintro e Xf⟨rfl,Gf⟩;have ux:Fp ab W8 Xf:=((Fp.refl ab W8).drew).then Gf;have uH:=wW.1.af ux;have zM:=uG.bp.af ux;have uI:=zI (aH zM.op).2.1;have FP:=nG uH d (tt+1) je.oU (show s.turns.length<=3900 from HX.2.2.2.2);have RL:=zI FP;have EE:=zI (yI ux zM);have Di:=Ka.out;clear Gf ux uH zM FP;go_wp2_with fail
  refine hK _ _ uI (λhH=>?_)
  clear hK K;try simp only[zz]
  refine tk 7 hH ?_;clear Di;refine rY 8 λK hK=>?_
  go_simp;go_at_call 219
  try rw[Ka.out]
  refine RL.mono ?_;rintro e w11⟨rfl,hR⟩;obtain⟨iA,jc,BU⟩:=hR.ex
  have Oq:=zI (hR.fp.cell uI (λe=>by
   rcases e with e|e
   ·have:=HX.1.lt;simp only at e;omega
   have:=HX.1.NZ _ e;simp only at this;omega))
  have HC:=zI (eO.of HX.1 KA.now.2.1 jc KA.now.2.2.1 ((((wW.2.1.mono (T:=rU b (.slice ao s.nodes.length cap) vt) (λk hk=>hk.imp id .inl)).same (EE.1.any)).same (hR.fp.mono (λk hk=>hk.imp id .inr)))) wW.2.2 (λk hk=>(BU k hk).imp id (λh=>by have h1:=wW.2.1.size;have h2:=EE.1.size;omega)))
  clear hR jc BU;go_wp2_with fail
  refine hK _ _ Oq (λhH=>?_)
  clear hK K;try simp only[zz]
  refine yD ?_;have aK:=(HC.out).bp;obtain⟨r0,r1,r2,r3,r4⟩:=aK.r;have z0:=aK.fz 0;have z1:=aK.fz 1;have z2:=aK.fz 2;have z3:=aK.fz 3;have z4:=aK.fz 4;have HP:=zI ((HC.out).done ⟨0,q,[],0,[]⟩ (.slice none 0 0) (Own.nil _ _) (λe=>by simp[Value.ownBlock]at e) (0) ((B q)) (⟨#[]⟩) (0) rfl rfl rfl rfl)
  have fH:=zI (ew aK.res (.int .i64 0) (.string (B q)) (.string ⟨#[]⟩) (.int .i64 0) (.slice none 0 0));clear aK;go_wp2;have fI:=fH.out;have fJ:=HP.out;generalize (((((World.setCell _ _ _).setCell _ _).setCell _ _).setCell _ _).setCell _ _)=wz at *;obtain⟨s0,s1,s2,s3,s4⟩:=b5 fI;exact bodyPost_ret (v:=.agg #[.int .i64 0,.string (B q),.string ⟨#[]⟩,.int .i64 0,.slice none 0 0]) (by simp[results,results148,go_sem,s0,s1,s2,s3,s4]) rfl fJ
 go_simp;refine hK _ _ wV (λhH=>?_)
 clear hK K RP;try simp only[zz]
 generalize (wd.alloc (.cells #[.string (B q),.string (B da),.int .i64 0,.int .i64 0,.int .i64 o] TN))=wa at *;refine rY 4 λK hK=>?_
 go_simp;refine hK _ _ wV (λhH=>?_)
 clear hK K RR;try simp only[zz]
 refine rY 13 λK hK=>?_
 go_simp;go_at_call 218
 refine Gc.mono ?_;rintro e w7⟨v7,rfl,hc⟩;have qm:=KA.now.1.CV (Fp.refl ab wa) hc;have zK:∀k,k=w.heap.size->¬(Value.slice ao s.nodes.length cap).ownBlock=some k:=λk hk e=>by have:=HX.1.zq _ e;omega
 have zL:b≠w.heap.size:=λe=>by have:=HX.1.lt;omega
 have uF:=yI (hc.fp.cell wV.1 (λe=>zK _ rfl e)) (hc.fp.cell wV.2 (λe=>zK _ rfl e))
 have J8:=zI uF;have wx:Fp (λk=>k=b) w7 (w7.setCell ⟨b,0,none⟩ v7):=(Fp.refl (λk=>k=b) w7).setCell (p:=⟨b,0,none⟩) (.inl rfl) v7
 have te:=zI (yI (wx.cell uF.1 (λe=>zL e.symm)) (wx.cell uF.2 (λe=>zL e.symm)))
 have Om:=hc.fp.cell KA.now.1.c0 (λe=>KA.now.1.sV e)
 have On:w7.frozen? ⟨b,0,none⟩=false:=by have:=hc.fp.heap KA.now.1.dR (λe=>KA.now.1.sV e);simp[World.frozen?,this]
 have uG:=zI (eO.of HX.1 KA.now.2.1 qm.1 KA.now.2.2.1 (qm.2.1.mono (λk hk=>hk.imp id .inl)) qm.2.2 (λk hk=>.inl hk))
 have wW:=zI qm;obtain⟨a7,c7,rfl⟩:=hc.own.ns.shape;obtain⟨n7,Gd⟩:∃n7,n7=(ins s.nodes kq ⟨q,da,0,0,o⟩).length:=⟨_,rfl⟩;rw[<-Gd]at te uG wW|-;clear hc qm zK zL uF wx Gd Gc;go_wp2_with fail
 refine hK _ _ J8 (λhH=>?_)
 clear hK K;try simp only[zz]
 refine tk 14 hH ?_;refine tk 15 hH ?_;refine rY 16 λK hK=>?_
 go_simp;refine hK _ _ te (λhH=>?_)
 clear hK K hH Om On;try simp only[zz]
 refine yD ?_;generalize (w7.setCell ⟨b,0,none⟩ _)=W8 at *;obtain⟨o0,o1,o2,o3,o4,o5,o6⟩:=aH uG.bp.op;go_wp2_with fail
 have yX:=zI (aH ((uG.bp.af (Fp.refl ab W8).drew).op)).2.1;clear o0 o1 o2 o3 o4 o5 o6;refine wp_region_held_drew (S:=(λw'=>w'.cell? ⟨w.heap.size,1,none⟩=some (.string (B d)))) (by kernel_rfl) ?_ (λhH=>?_)
 ·exact yX.out
 refine tk 0 hH ?_;refine tk 1 hH ?_;refine tk 2 hH ?_;refine tk 3 hH ?_;refine tk 4 hH ?_;refine tk 5 hH ?_;refine rY 6 λK hK=>?_
 go_simp;go_at_call 220
 refine(Z0 _ _ _ (wW.1.af (Fp.refl ab W8).drew)).mono ?_;rintro e Xf⟨rfl,Gf⟩;have ux:Fp ab W8 Xf:=((Fp.refl ab W8).drew).then Gf;have uH:=wW.1.af ux;have zM:=uG.bp.af ux;have uI:=zI (aH zM.op).2.1;have FP:=nG uH d (tt+1) je.oU (show s.turns.length<=3900 from HX.2.2.2.2);have RL:=zI FP;have EE:=zI (yI ux zM);have Di:=Ka.out;clear Gf ux uH zM FP;go_wp2_with fail
 refine hK _ _ uI (λhH=>?_)
 clear hK K;try simp only[zz]
 refine tk 7 hH ?_;clear Di;refine rY 8 λK hK=>?_
 go_simp;go_at_call 219
 try rw[Ka.out]
 refine RL.mono ?_;rintro e w11⟨rfl,hR⟩;obtain⟨iA,jc,BU⟩:=hR.ex
 have Oq:=zI (hR.fp.cell uI (λe=>by
  rcases e with e|e
  ·have:=HX.1.lt;simp only at e;omega
  have:=HX.1.NZ _ e;simp only at this;omega))
 have HC:=zI (eO.of HX.1 KA.now.2.1 jc KA.now.2.2.1 ((((wW.2.1.mono (T:=rU b (.slice ao s.nodes.length cap) vt) (λk hk=>hk.imp id .inl)).same (EE.1.any)).same (hR.fp.mono (λk hk=>hk.imp id .inr)))) wW.2.2 (λk hk=>(BU k hk).imp id (λh=>by have h1:=wW.2.1.size;have h2:=EE.1.size;omega)))
 clear hR jc BU;go_wp2_with fail
 refine hK _ _ Oq (λhH=>?_)
 clear hK K;try simp only[zz]
 refine yD ?_;have aK:=(HC.out).bp;obtain⟨r0,r1,r2,r3,r4⟩:=aK.r;have z0:=aK.fz 0;have z1:=aK.fz 1;have z2:=aK.fz 2;have z3:=aK.fz 3;have z4:=aK.fz 4;have HP:=zI ((HC.out).done ⟨0,q,[],0,[]⟩ (.slice none 0 0) (Own.nil _ _) (λe=>by simp[Value.ownBlock]at e) (0) ((B q)) (⟨#[]⟩) (0) rfl rfl rfl rfl)
 have fH:=zI (ew aK.res (.int .i64 0) (.string (B q)) (.string ⟨#[]⟩) (.int .i64 0) (.slice none 0 0));clear aK;go_wp2;have fI:=fH.out;have fJ:=HP.out;generalize (((((World.setCell _ _ _).setCell _ _).setCell _ _).setCell _ _).setCell _ _)=wz at *;obtain⟨s0,s1,s2,s3,s4⟩:=b5 fI;exact bodyPost_ret (v:=.agg #[.int .i64 0,.string (B q),.string ⟨#[]⟩,.int .i64 0,.slice none 0 0]) (by simp[results,results148,go_sem,s0,s1,s2,s3,s4]) rfl fJ
end Go.Proofs.YtgafcelloiagmaaGreatDoor
