/- A text of this proof. -/
import Derived.Test.YtgafcelloiagmaaGreatDoorZCT
set_option maxHeartbeats 16000000
set_option linter.unusedSimpArgs false
set_option linter.unusedVariables false
set_option maxRecDepth 20000
namespace Go.Proofs.YtgafcelloiagmaaGreatDoor
open Go.Proofs.Tryz
open Go.RowKit Pm
attribute [local irreducible] wpStill
theorem Kc{lo b:Nat}{vn vt:Value}{s:St}{w:World}(h:Sw lo b vn vt s w)(x:Pt)(aN:dh s)(hm:cq x=true)(hn:s.nodes.length<=3900)(dJ:s.turns.length<=3900)(ht:jH w)(hk:x.kind=1):
  Calls prog 147 #[.pointer (some ⟨b,0,none⟩),fY x] w (yU lo b vn vt (b7 s x).1 (b7 s x).2 w):=by
 have hp:x.path.length<=100:=bT ((bt x).1 hm).2.1;obtain⟨k,d,p,da,v,o,t⟩:=x;obtain rfl:k=1:=hk;simp only at hp
 have bZ:Fp ab w ((w.alloc (.cells #[.int .i64 1,.string (B d),.string (B p),.string (B da),.int .i64 v,.int .i64 o,.bool t] TP)).alloc (.cells #[.int .i64 0,.string ⟨#[]⟩,.string ⟨#[]⟩,.int .i64 0,.slice none 0 0] TR)):=((Fp.refl ab w).alloc _).alloc _;have K0:=zI (Kp.and (Kp.sw (h.af bZ)) (Kp.and (Kp.bp (Bp.made w 1 d p da v o t)) (Kp.and (Kp.fp bZ) (Kp.yV (ht.af bZ)))));have HX:=zI (yI h (yI aN (yI hm (yI hn dJ))));have cG:fY ⟨1,d,p,da,v,o,t⟩=.agg #[.int .i64 1,.string (B d),.string (B p),.string (B da),.int .i64 v,.int .i64 o,.bool t]:=rfl;cases hf:find s.nodes p with
 |none=>
  have e:b7 s ⟨1,d,p,da,v,o,t⟩=(s,.bad 62):=by unfold b7;simp[hf]
  rw[e];have hs:=λW (hW:Sw lo b vn vt s W)=>kQ hW ⟨1,d,p,da,v,o,t⟩ aN.kR (by omega) hf
  rw[cG]at hs;have HS:=zI hs;clear hs;clear bZ h ht aN hm hn dJ hp hf e;rw[cG];clear cG;go_enter func147,ntmps147
  generalize dw:((w.alloc (.cells #[.int .i64 1,.string (B d),.string (B p),.string (B da),.int .i64 v,.int .i64 o,.bool t] TP)).alloc (.cells #[.int .i64 0,.string ⟨#[]⟩,.string ⟨#[]⟩,.int .i64 0,.slice none 0 0] TR))=W0 at *;obtain⟨o0,o1,o2,o3,o4,o5,o6⟩:=aH K0.now.2.1.op;go_wp2_with fail
  clear dw;refine(HS _ K0.now.1).mono ?_;rintro e w1⟨rfl,hf⟩;have K1:=zI (K0.later hf);clear hf;clear o0 o1 o2 o3 o4 o5 o6;go_wp2_with fail
  refine(bG 62 _).mono ?_;rintro e w9⟨rfl,hf⟩;have K9:=zI (K1.later hf);clear hf;unfold jI;have aK:=(eO.still HX.1 K9.now.1 K9.now.2.1 K9.now.2.2.1).bp;obtain⟨r0,r1,r2,r3,r4⟩:=aK.r;have z0:=aK.fz 0;have z1:=aK.fz 1;have z2:=aK.fz 2;have z3:=aK.fz 3;have z4:=aK.fz 4;have HP:=zI ((eO.still HX.1 K9.now.1 K9.now.2.1 K9.now.2.2.1).done (.bad 62) (.slice none 0 0) (Own.nil _ _) (λe=>by simp[Value.ownBlock]at e) (62) (⟨#[]⟩) (⟨#[]⟩) (0) rfl rfl rfl rfl)
  have fH:=zI (ew aK.res (.int .i64 62) (.string ⟨#[]⟩) (.string ⟨#[]⟩) (.int .i64 0) (.slice none 0 0));clear aK;go_wp2;have fI:=fH.out;have fJ:=HP.out;generalize (((((World.setCell _ _ _).setCell _ _).setCell _ _).setCell _ _).setCell _ _)=wz at *;obtain⟨s0,s1,s2,s3,s4⟩:=b5 fI;exact bodyPost_ret (v:=.agg #[.int .i64 62,.string ⟨#[]⟩,.string ⟨#[]⟩,.int .i64 0,.slice none 0 0]) (by simp[results,results147,go_sem,s0,s1,s2,s3,s4]) rfl fJ
 |some y=>?_
 by_cases ho:y.own=0
 ·have e:b7 s ⟨1,d,p,da,v,o,t⟩=(s,EB):=by unfold b7;simp[hf,cz,ho]
  rw[e];have hs:=λW (hW:Sw lo b vn vt s W)=>gA hW ⟨1,d,p,da,v,o,t⟩ aN.kR (by omega) hf
  rw[cG]at hs;simp only at hs
  obtain⟨q,hq⟩:∃q,q=place s.nodes p:=⟨_,rfl⟩;rw[<-hq]at hs;have HS:=zI hs;clear hs;obtain⟨yp,yd,yv,yt,yo⟩:=y;simp only at ho
  subst ho;clear bZ h ht aN hm hn dJ hp hf e hq;rw[cG];clear cG;go_enter func147,ntmps147
  generalize dw:((w.alloc (.cells #[.int .i64 1,.string (B d),.string (B p),.string (B da),.int .i64 v,.int .i64 o,.bool t] TP)).alloc (.cells #[.int .i64 0,.string ⟨#[]⟩,.string ⟨#[]⟩,.int .i64 0,.slice none 0 0] TR))=W0 at *;obtain⟨o0,o1,o2,o3,o4,o5,o6⟩:=aH K0.now.2.1.op;go_wp2_with fail
  clear dw;refine(HS _ K0.now.1).mono ?_;rintro e w1⟨G,hG,aE,rfl,hf⟩;have K1:=zI (K0.later hf);have jQ:=zI (yI hG (aE.keep hf id));clear aE hG;clear hf;clear o0 o1 o2 o3 o4 o5 o6;have c0:=jQ.2.c0;have c1:=jQ.2.c1;have c2:=jQ.2.c2;have c3:=jQ.2.c3;have c4:=jQ.2.c4;unfold au at c0 c1;simp only at c0 c1 c2 c3 c4
  have aK:=(eO.still HX.1 K1.now.1 K1.now.2.1 K1.now.2.2.1).bp;obtain⟨r0,r1,r2,r3,r4⟩:=aK.r;have z0:=aK.fz 0;have z1:=aK.fz 1;have z2:=aK.fz 2;have z3:=aK.fz 3;have z4:=aK.fz 4;have HP:=zI ((eO.still HX.1 K1.now.1 K1.now.2.1 K1.now.2.2.1).done EB (.slice none 0 0) (Own.nil _ _) (λe=>by simp[Value.ownBlock]at e) (0) (⟨#[]⟩) (⟨#[]⟩) (0) rfl rfl rfl rfl)
  have fH:=zI (ew aK.res (.int .i64 0) (.string ⟨#[]⟩) (.string ⟨#[]⟩) (.int .i64 0) (.slice none 0 0));clear aK;go_wp2;have fI:=fH.out;have fJ:=HP.out;generalize (((((World.setCell _ _ _).setCell _ _).setCell _ _).setCell _ _).setCell _ _)=wz at *;obtain⟨s0,s1,s2,s3,s4⟩:=b5 fI;exact bodyPost_ret (v:=.agg #[.int .i64 0,.string ⟨#[]⟩,.string ⟨#[]⟩,.int .i64 0,.slice none 0 0]) (by simp[results,results147,go_sem,s0,s1,s2,s3,s4]) rfl fJ
 have e:b7 s ⟨1,d,p,da,v,o,t⟩=(s,.bad 65):=by unfold b7;simp[hf,cz,ho]
 rw[e];have q1:(y.own != 0)=true:=by simpa using ho
 have q2:(y.own == 0)=false:=by simpa using ho
 have q3:(y.own=0)=False:=eq_false ho;have hs:=λW (hW:Sw lo b vn vt s W)=>gA hW ⟨1,d,p,da,v,o,t⟩ aN.kR (by omega) hf
 rw[cG]at hs;simp only at hs
 obtain⟨q,hq⟩:∃q,q=place s.nodes p:=⟨_,rfl⟩;rw[<-hq]at hs;have HS:=zI hs;clear hs;clear bZ h ht aN hm hn dJ hp hf e hq ho;rw[cG];clear cG;go_enter func147,ntmps147
 generalize dw:((w.alloc (.cells #[.int .i64 1,.string (B d),.string (B p),.string (B da),.int .i64 v,.int .i64 o,.bool t] TP)).alloc (.cells #[.int .i64 0,.string ⟨#[]⟩,.string ⟨#[]⟩,.int .i64 0,.slice none 0 0] TR))=W0 at *;obtain⟨o0,o1,o2,o3,o4,o5,o6⟩:=aH K0.now.2.1.op;go_wp2_with fail
 clear dw;refine(HS _ K0.now.1).mono ?_;rintro e w1⟨G,hG,aE,rfl,hf⟩;have K1:=zI (K0.later hf);have jQ:=zI (yI hG (aE.keep hf id));clear aE hG;clear hf;clear o0 o1 o2 o3 o4 o5 o6;have c0:=jQ.2.c0;have c1:=jQ.2.c1;have c2:=jQ.2.c2;have c3:=jQ.2.c3;have c4:=jQ.2.c4;unfold au at c0 c1;go_wp2_with fail
 refine(bG 65 _).mono ?_;rintro e w9⟨rfl,hf⟩;have K9:=zI (K1.later hf);clear hf;unfold jI;have aK:=(eO.still HX.1 K9.now.1 K9.now.2.1 K9.now.2.2.1).bp;obtain⟨r0,r1,r2,r3,r4⟩:=aK.r;have z0:=aK.fz 0;have z1:=aK.fz 1;have z2:=aK.fz 2;have z3:=aK.fz 3;have z4:=aK.fz 4;have HP:=zI ((eO.still HX.1 K9.now.1 K9.now.2.1 K9.now.2.2.1).done (.bad 65) (.slice none 0 0) (Own.nil _ _) (λe=>by simp[Value.ownBlock]at e) (65) (⟨#[]⟩) (⟨#[]⟩) (0) rfl rfl rfl rfl)
 have fH:=zI (ew aK.res (.int .i64 65) (.string ⟨#[]⟩) (.string ⟨#[]⟩) (.int .i64 0) (.slice none 0 0));clear aK;go_wp2;have fI:=fH.out;have fJ:=HP.out;generalize (((((World.setCell _ _ _).setCell _ _).setCell _ _).setCell _ _).setCell _ _)=wz at *;obtain⟨s0,s1,s2,s3,s4⟩:=b5 fI;exact bodyPost_ret (v:=.agg #[.int .i64 65,.string ⟨#[]⟩,.string ⟨#[]⟩,.int .i64 0,.slice none 0 0]) (by simp[results,results147,go_sem,s0,s1,s2,s3,s4]) rfl fJ
theorem RV{lo b:Nat}{vn vt:Value}{s:St}{w:World}(h:Sw lo b vn vt s w)(x:Pt)(aN:dh s)(hm:cq x=true)(hn:s.nodes.length<=3900)(dJ:s.turns.length<=3900)(ht:jH w)(hk:x.kind=8):
  Calls prog 154 #[.pointer (some ⟨b,0,none⟩),fY x] w (yU lo b vn vt (b7 s x).1 (b7 s x).2 w):=by
 have hp:x.path.length<=100:=bT ((bt x).1 hm).2.1;obtain⟨k,d,p,da,v,o,t⟩:=x;obtain rfl:k=8:=hk;simp only at hp
 have bZ:Fp ab w ((w.alloc (.cells #[.int .i64 8,.string (B d),.string (B p),.string (B da),.int .i64 v,.int .i64 o,.bool t] TP)).alloc (.cells #[.int .i64 0,.string ⟨#[]⟩,.string ⟨#[]⟩,.int .i64 0,.slice none 0 0] TR)):=((Fp.refl ab w).alloc _).alloc _;have K0:=zI (Kp.and (Kp.sw (h.af bZ)) (Kp.and (Kp.bp (Bp.made w 8 d p da v o t)) (Kp.and (Kp.fp bZ) (Kp.yV (ht.af bZ)))));have HX:=zI (yI h (yI aN (yI hm (yI hn dJ))));have cG:fY ⟨8,d,p,da,v,o,t⟩=.agg #[.int .i64 8,.string (B d),.string (B p),.string (B da),.int .i64 v,.int .i64 o,.bool t]:=rfl;cases hf:find s.nodes p with
 |none=>
  have e:b7 s ⟨8,d,p,da,v,o,t⟩=(s,.bad 62):=by unfold b7;simp[hf]
  rw[e];have hs:=λW (hW:Sw lo b vn vt s W)=>kQ hW ⟨8,d,p,da,v,o,t⟩ aN.kR (by omega) hf
  rw[cG]at hs;have HS:=zI hs;clear hs;clear bZ h ht aN hm hn dJ hp hf e;rw[cG];clear cG;go_enter func154,ntmps154
  generalize dw:((w.alloc (.cells #[.int .i64 8,.string (B d),.string (B p),.string (B da),.int .i64 v,.int .i64 o,.bool t] TP)).alloc (.cells #[.int .i64 0,.string ⟨#[]⟩,.string ⟨#[]⟩,.int .i64 0,.slice none 0 0] TR))=W0 at *;obtain⟨o0,o1,o2,o3,o4,o5,o6⟩:=aH K0.now.2.1.op;go_wp2_with fail
  clear dw;refine(HS _ K0.now.1).mono ?_;rintro e w1⟨rfl,hf⟩;have K1:=zI (K0.later hf);clear hf;clear o0 o1 o2 o3 o4 o5 o6;have aK:=(eO.still HX.1 K1.now.1 K1.now.2.1 K1.now.2.2.1).bp;obtain⟨r0,r1,r2,r3,r4⟩:=aK.r;have z0:=aK.fz 0;have z1:=aK.fz 1;have z2:=aK.fz 2;have z3:=aK.fz 3;have z4:=aK.fz 4;have HP:=zI ((eO.still HX.1 K1.now.1 K1.now.2.1 K1.now.2.2.1).done (.bad 62) (.slice none 0 0) (Own.nil _ _) (λe=>by simp[Value.ownBlock]at e) (62) (⟨#[]⟩) (⟨#[]⟩) (0) rfl rfl rfl rfl)
  have fH:=zI (ew aK.res (.int .i64 62) (.string ⟨#[]⟩) (.string ⟨#[]⟩) (.int .i64 0) (.slice none 0 0));clear aK;go_wp2;have fI:=fH.out;have fJ:=HP.out;generalize (((((World.setCell _ _ _).setCell _ _).setCell _ _).setCell _ _).setCell _ _)=wz at *;obtain⟨s0,s1,s2,s3,s4⟩:=b5 fI;exact bodyPost_ret (v:=.agg #[.int .i64 62,.string ⟨#[]⟩,.string ⟨#[]⟩,.int .i64 0,.slice none 0 0]) (by simp[results,results154,go_sem,s0,s1,s2,s3,s4]) rfl fJ
 |some y=>?_
 have e:b7 s ⟨8,d,p,da,v,o,t⟩=(s,EB):=by unfold b7;simp[hf,cz]
 rw[e];have hs:=λW (hW:Sw lo b vn vt s W)=>gA hW ⟨8,d,p,da,v,o,t⟩ aN.kR (by omega) hf
 rw[cG]at hs;simp only at hs
 obtain⟨q,hq⟩:∃q,q=place s.nodes p:=⟨_,rfl⟩;rw[<-hq]at hs;have HS:=zI hs;clear hs;clear bZ h ht aN hm hn dJ hp hf e hq;rw[cG];clear cG;go_enter func154,ntmps154
 generalize dw:((w.alloc (.cells #[.int .i64 8,.string (B d),.string (B p),.string (B da),.int .i64 v,.int .i64 o,.bool t] TP)).alloc (.cells #[.int .i64 0,.string ⟨#[]⟩,.string ⟨#[]⟩,.int .i64 0,.slice none 0 0] TR))=W0 at *;obtain⟨o0,o1,o2,o3,o4,o5,o6⟩:=aH K0.now.2.1.op;go_wp2_with fail
 clear dw;refine(HS _ K0.now.1).mono ?_;rintro e w1⟨G,hG,aE,rfl,hf⟩;have K1:=zI (K0.later hf);have jQ:=zI (yI hG (aE.keep hf id));clear aE hG;clear hf;clear o0 o1 o2 o3 o4 o5 o6;have aK:=(eO.still HX.1 K1.now.1 K1.now.2.1 K1.now.2.2.1).bp;obtain⟨r0,r1,r2,r3,r4⟩:=aK.r;have z0:=aK.fz 0;have z1:=aK.fz 1;have z2:=aK.fz 2;have z3:=aK.fz 3;have z4:=aK.fz 4;have HP:=zI ((eO.still HX.1 K1.now.1 K1.now.2.1 K1.now.2.2.1).done EB (.slice none 0 0) (Own.nil _ _) (λe=>by simp[Value.ownBlock]at e) (0) (⟨#[]⟩) (⟨#[]⟩) (0) rfl rfl rfl rfl)
 have fH:=zI (ew aK.res (.int .i64 0) (.string ⟨#[]⟩) (.string ⟨#[]⟩) (.int .i64 0) (.slice none 0 0));clear aK;go_wp2;have fI:=fH.out;have fJ:=HP.out;generalize (((((World.setCell _ _ _).setCell _ _).setCell _ _).setCell _ _).setCell _ _)=wz at *;obtain⟨s0,s1,s2,s3,s4⟩:=b5 fI;exact bodyPost_ret (v:=.agg #[.int .i64 0,.string ⟨#[]⟩,.string ⟨#[]⟩,.int .i64 0,.slice none 0 0]) (by simp[results,results154,go_sem,s0,s1,s2,s3,s4]) rfl fJ
theorem Ot{lo b:Nat}{vn vt:Value}{s:St}{w:World}(h:Sw lo b vn vt s w)(x:Pt)(aN:dh s)(hm:cq x=true)(hn:s.nodes.length<=3900)(dJ:s.turns.length<=3900)(ht:jH w)(hk:x.kind=6):
  Calls prog 152 #[.pointer (some ⟨b,0,none⟩),fY x] w (yU lo b vn vt (b7 s x).1 (b7 s x).2 w):=by
 have hp:x.path.length<=100:=bT ((bt x).1 hm).2.1;obtain⟨k,d,p,da,v,o,t⟩:=x;obtain rfl:k=6:=hk;simp only at hp
 have bZ:Fp ab w ((w.alloc (.cells #[.int .i64 6,.string (B d),.string (B p),.string (B da),.int .i64 v,.int .i64 o,.bool t] TP)).alloc (.cells #[.int .i64 0,.string ⟨#[]⟩,.string ⟨#[]⟩,.int .i64 0,.slice none 0 0] TR)):=((Fp.refl ab w).alloc _).alloc _;have K0:=zI (Kp.and (Kp.sw (h.af bZ)) (Kp.and (Kp.bp (Bp.made w 6 d p da v o t)) (Kp.and (Kp.fp bZ) (Kp.yV (ht.af bZ)))));have HX:=zI (yI h (yI aN (yI hm (yI hn dJ))));have cG:fY ⟨6,d,p,da,v,o,t⟩=.agg #[.int .i64 6,.string (B d),.string (B p),.string (B da),.int .i64 v,.int .i64 o,.bool t]:=rfl;cases hf:find s.nodes p with
 |none=>
  have e:b7 s ⟨6,d,p,da,v,o,t⟩=(s,.bad 62):=by unfold b7;simp[hf]
  rw[e];have hs:=λW (hW:Sw lo b vn vt s W)=>gD hW ⟨6,d,p,da,v,o,t⟩ aN.kR (by omega) hf
  rw[cG]at hs;have HS:=zI hs;clear hs;clear bZ h ht aN hm hn dJ hp hf e;rw[cG];clear cG;go_enter func152,ntmps152
  generalize dw:((w.alloc (.cells #[.int .i64 6,.string (B d),.string (B p),.string (B da),.int .i64 v,.int .i64 o,.bool t] TP)).alloc (.cells #[.int .i64 0,.string ⟨#[]⟩,.string ⟨#[]⟩,.int .i64 0,.slice none 0 0] TR))=W0 at *;obtain⟨o0,o1,o2,o3,o4,o5,o6⟩:=aH K0.now.2.1.op;go_wp2_with fail
  clear dw;refine(HS _ K0.now.1).mono ?_;rintro e w1⟨rfl,hf⟩;have K1:=zI (K0.later hf);clear hf;clear o0 o1 o2 o3 o4 o5 o6;go_wp2_with fail
  refine(bG 62 _).mono ?_;rintro e w9⟨rfl,hf⟩;have K9:=zI (K1.later hf);clear hf;unfold jI;have aK:=(eO.still HX.1 K9.now.1 K9.now.2.1 K9.now.2.2.1).bp;obtain⟨r0,r1,r2,r3,r4⟩:=aK.r;have z0:=aK.fz 0;have z1:=aK.fz 1;have z2:=aK.fz 2;have z3:=aK.fz 3;have z4:=aK.fz 4;have HP:=zI ((eO.still HX.1 K9.now.1 K9.now.2.1 K9.now.2.2.1).done (.bad 62) (.slice none 0 0) (Own.nil _ _) (λe=>by simp[Value.ownBlock]at e) (62) (⟨#[]⟩) (⟨#[]⟩) (0) rfl rfl rfl rfl)
  have fH:=zI (ew aK.res (.int .i64 62) (.string ⟨#[]⟩) (.string ⟨#[]⟩) (.int .i64 0) (.slice none 0 0));clear aK;go_wp2;have fI:=fH.out;have fJ:=HP.out;generalize (((((World.setCell _ _ _).setCell _ _).setCell _ _).setCell _ _).setCell _ _)=wz at *;obtain⟨s0,s1,s2,s3,s4⟩:=b5 fI;exact bodyPost_ret (v:=.agg #[.int .i64 62,.string ⟨#[]⟩,.string ⟨#[]⟩,.int .i64 0,.slice none 0 0]) (by simp[results,results152,go_sem,s0,s1,s2,s3,s4]) rfl fJ
 |some y=>?_
 by_cases hv:0<=v/\v≠y.aX
 ·have e:b7 s ⟨6,d,p,da,v,o,t⟩=(s,.bad 63):=by unfold b7;simp[hf,cz,hv]
  rw[e];have hs:=λW (hW:Sw lo b vn vt s W)=>ig hW ⟨6,d,p,da,v,o,t⟩ aN.kR (by omega) hf hv
  rw[cG]at hs;have HS:=zI hs;clear hs;clear bZ h ht aN hm hn dJ hp hf e hv;rw[cG];clear cG;go_enter func152,ntmps152
  generalize dw:((w.alloc (.cells #[.int .i64 6,.string (B d),.string (B p),.string (B da),.int .i64 v,.int .i64 o,.bool t] TP)).alloc (.cells #[.int .i64 0,.string ⟨#[]⟩,.string ⟨#[]⟩,.int .i64 0,.slice none 0 0] TR))=W0 at *;obtain⟨o0,o1,o2,o3,o4,o5,o6⟩:=aH K0.now.2.1.op;go_wp2_with fail
  clear dw;refine(HS _ K0.now.1).mono ?_;rintro e w1⟨rfl,hf⟩;have K1:=zI (K0.later hf);clear hf;clear o0 o1 o2 o3 o4 o5 o6;go_wp2_with fail
  refine(bG 63 _).mono ?_;rintro e w9⟨rfl,hf⟩;have K9:=zI (K1.later hf);clear hf;unfold jI;have aK:=(eO.still HX.1 K9.now.1 K9.now.2.1 K9.now.2.2.1).bp;obtain⟨r0,r1,r2,r3,r4⟩:=aK.r;have z0:=aK.fz 0;have z1:=aK.fz 1;have z2:=aK.fz 2;have z3:=aK.fz 3;have z4:=aK.fz 4;have HP:=zI ((eO.still HX.1 K9.now.1 K9.now.2.1 K9.now.2.2.1).done (.bad 63) (.slice none 0 0) (Own.nil _ _) (λe=>by simp[Value.ownBlock]at e) (63) (⟨#[]⟩) (⟨#[]⟩) (0) rfl rfl rfl rfl)
  have fH:=zI (ew aK.res (.int .i64 63) (.string ⟨#[]⟩) (.string ⟨#[]⟩) (.int .i64 0) (.slice none 0 0));clear aK;go_wp2;have fI:=fH.out;have fJ:=HP.out;generalize (((((World.setCell _ _ _).setCell _ _).setCell _ _).setCell _ _).setCell _ _)=wz at *;obtain⟨s0,s1,s2,s3,s4⟩:=b5 fI;exact bodyPost_ret (v:=.agg #[.int .i64 63,.string ⟨#[]⟩,.string ⟨#[]⟩,.int .i64 0,.slice none 0 0]) (by simp[results,results152,go_sem,s0,s1,s2,s3,s4]) rfl fJ
 have e:b7 s ⟨6,d,p,da,v,o,t⟩=(s,⟨0,[],[],y.aX,[]⟩):=by unfold b7;simp[hf,cz,hv]
 rw[e];have hs:=λW (hW:Sw lo b vn vt s W)=>gd hW ⟨6,d,p,da,v,o,t⟩ aN.kR (by omega) hf hv
 rw[cG]at hs;simp only at hs
 obtain⟨q,hq⟩:∃q,q=place s.nodes p:=⟨_,rfl⟩;rw[<-hq]at hs;have HS:=zI hs;clear hs;clear bZ h ht aN hm hn dJ hp hf e hq hv;rw[cG];clear cG;go_enter func152,ntmps152
 generalize dw:((w.alloc (.cells #[.int .i64 6,.string (B d),.string (B p),.string (B da),.int .i64 v,.int .i64 o,.bool t] TP)).alloc (.cells #[.int .i64 0,.string ⟨#[]⟩,.string ⟨#[]⟩,.int .i64 0,.slice none 0 0] TR))=W0 at *;obtain⟨o0,o1,o2,o3,o4,o5,o6⟩:=aH K0.now.2.1.op;go_wp2_with fail
 clear dw;refine(HS _ K0.now.1).mono ?_;rintro e w1⟨G,hG,aE,rfl,hf⟩;have K1:=zI (K0.later hf);have jQ:=zI (yI hG (aE.keep hf id));clear aE hG;clear hf;clear o0 o1 o2 o3 o4 o5 o6;have c0:=jQ.2.c0;have c1:=jQ.2.c1;have c2:=jQ.2.c2;have c3:=jQ.2.c3;have c4:=jQ.2.c4;unfold au at c0 c1;have aK:=(eO.still HX.1 K1.now.1 K1.now.2.1 K1.now.2.2.1).bp;obtain⟨r0,r1,r2,r3,r4⟩:=aK.r;have z0:=aK.fz 0;have z1:=aK.fz 1;have z2:=aK.fz 2;have z3:=aK.fz 3;have z4:=aK.fz 4;have HP:=zI ((eO.still HX.1 K1.now.1 K1.now.2.1 K1.now.2.2.1).done ⟨0,[],[],y.aX,[]⟩ (.slice none 0 0) (Own.nil _ _) (λe=>by simp[Value.ownBlock]at e) (0) (⟨#[]⟩) (⟨#[]⟩) (y.aX) rfl rfl rfl rfl)
 have fH:=zI (ew aK.res (.int .i64 0) (.string ⟨#[]⟩) (.string ⟨#[]⟩) (.int .i64 y.aX) (.slice none 0 0));clear aK;go_wp2;have fI:=fH.out;have fJ:=HP.out;generalize (((((World.setCell _ _ _).setCell _ _).setCell _ _).setCell _ _).setCell _ _)=wz at *;obtain⟨s0,s1,s2,s3,s4⟩:=b5 fI;exact bodyPost_ret (v:=.agg #[.int .i64 0,.string ⟨#[]⟩,.string ⟨#[]⟩,.int .i64 y.aX,.slice none 0 0]) (by simp[results,results152,go_sem,s0,s1,s2,s3,s4]) rfl fJ
theorem Ou{lo b:Nat}{vn vt:Value}{s:St}{w:World}(h:Sw lo b vn vt s w)(x:Pt)(aN:dh s)(hm:cq x=true)(hn:s.nodes.length<=3900)(dJ:s.turns.length<=3900)(ht:jH w)(hk:x.kind=7):
  Calls prog 153 #[.pointer (some ⟨b,0,none⟩),fY x] w (yU lo b vn vt (b7 s x).1 (b7 s x).2 w):=by
 have hp:x.path.length<=100:=bT ((bt x).1 hm).2.1;obtain⟨k,d,p,da,v,o,t⟩:=x;obtain rfl:k=7:=hk;simp only at hp
 have bZ:Fp ab w ((w.alloc (.cells #[.int .i64 7,.string (B d),.string (B p),.string (B da),.int .i64 v,.int .i64 o,.bool t] TP)).alloc (.cells #[.int .i64 0,.string ⟨#[]⟩,.string ⟨#[]⟩,.int .i64 0,.slice none 0 0] TR)):=((Fp.refl ab w).alloc _).alloc _;have K0:=zI (Kp.and (Kp.sw (h.af bZ)) (Kp.and (Kp.bp (Bp.made w 7 d p da v o t)) (Kp.and (Kp.fp bZ) (Kp.yV (ht.af bZ)))));have HX:=zI (yI h (yI aN (yI hm (yI hn dJ))));have cG:fY ⟨7,d,p,da,v,o,t⟩=.agg #[.int .i64 7,.string (B d),.string (B p),.string (B da),.int .i64 v,.int .i64 o,.bool t]:=rfl;cases hf:find s.nodes p with
 |none=>
  have e:b7 s ⟨7,d,p,da,v,o,t⟩=(s,.bad 62):=by unfold b7;simp[hf]
  rw[e];have hs:=λW (hW:Sw lo b vn vt s W)=>kQ hW ⟨7,d,p,da,v,o,t⟩ aN.kR (by omega) hf
  rw[cG]at hs;have HS:=zI hs;clear hs;clear bZ h ht aN hm hn dJ hp hf e;rw[cG];clear cG;go_enter func153,ntmps153
  generalize dw:((w.alloc (.cells #[.int .i64 7,.string (B d),.string (B p),.string (B da),.int .i64 v,.int .i64 o,.bool t] TP)).alloc (.cells #[.int .i64 0,.string ⟨#[]⟩,.string ⟨#[]⟩,.int .i64 0,.slice none 0 0] TR))=W0 at *;obtain⟨o0,o1,o2,o3,o4,o5,o6⟩:=aH K0.now.2.1.op;go_wp2_with fail
  clear dw;refine(HS _ K0.now.1).mono ?_;rintro e w1⟨rfl,hf⟩;have K1:=zI (K0.later hf);clear hf;clear o0 o1 o2 o3 o4 o5 o6;go_wp2_with fail
  refine(bG 62 _).mono ?_;rintro e w9⟨rfl,hf⟩;have K9:=zI (K1.later hf);clear hf;unfold jI;have aK:=(eO.still HX.1 K9.now.1 K9.now.2.1 K9.now.2.2.1).bp;obtain⟨r0,r1,r2,r3,r4⟩:=aK.r;have z0:=aK.fz 0;have z1:=aK.fz 1;have z2:=aK.fz 2;have z3:=aK.fz 3;have z4:=aK.fz 4;have HP:=zI ((eO.still HX.1 K9.now.1 K9.now.2.1 K9.now.2.2.1).done (.bad 62) (.slice none 0 0) (Own.nil _ _) (λe=>by simp[Value.ownBlock]at e) (62) (⟨#[]⟩) (⟨#[]⟩) (0) rfl rfl rfl rfl)
  have fH:=zI (ew aK.res (.int .i64 62) (.string ⟨#[]⟩) (.string ⟨#[]⟩) (.int .i64 0) (.slice none 0 0));clear aK;go_wp2;have fI:=fH.out;have fJ:=HP.out;generalize (((((World.setCell _ _ _).setCell _ _).setCell _ _).setCell _ _).setCell _ _)=wz at *;obtain⟨s0,s1,s2,s3,s4⟩:=b5 fI;exact bodyPost_ret (v:=.agg #[.int .i64 62,.string ⟨#[]⟩,.string ⟨#[]⟩,.int .i64 0,.slice none 0 0]) (by simp[results,results153,go_sem,s0,s1,s2,s3,s4]) rfl fJ
 |some y=>?_
 have e:b7 s ⟨7,d,p,da,v,o,t⟩=(s,⟨0,[],y.data,y.aX,[]⟩):=by unfold b7;simp[hf,cz]
 rw[e];have hs:=λW (hW:Sw lo b vn vt s W)=>gA hW ⟨7,d,p,da,v,o,t⟩ aN.kR (by omega) hf
 rw[cG]at hs;simp only at hs
 obtain⟨q,hq⟩:∃q,q=place s.nodes p:=⟨_,rfl⟩;rw[<-hq]at hs;have HS:=zI hs;clear hs;clear bZ h ht aN hm hn dJ hp hf e hq;rw[cG];clear cG;go_enter func153,ntmps153
 generalize dw:((w.alloc (.cells #[.int .i64 7,.string (B d),.string (B p),.string (B da),.int .i64 v,.int .i64 o,.bool t] TP)).alloc (.cells #[.int .i64 0,.string ⟨#[]⟩,.string ⟨#[]⟩,.int .i64 0,.slice none 0 0] TR))=W0 at *;obtain⟨o0,o1,o2,o3,o4,o5,o6⟩:=aH K0.now.2.1.op;go_wp2_with fail
 clear dw;refine(HS _ K0.now.1).mono ?_;rintro e w1⟨G,hG,aE,rfl,hf⟩;have K1:=zI (K0.later hf);have jQ:=zI (yI hG (aE.keep hf id));clear aE hG;clear hf;clear o0 o1 o2 o3 o4 o5 o6;have KD:=zI (K1.later ((Fp.refl ab w1).drew));have Qg:=zI (jQ.2.keep ((Fp.refl ab w1).drew) id);have c1:=Qg.c1;have c2:=Qg.c2;unfold au at c1;go_wp2_with fail
 refine wp_region_still_tail 9 (by kernel_rfl) (by kernel_rfl) ?_
 simp only[List.take_succ_cons,List.take_zero,List.drop_succ_cons,List.drop_zero]
 change wpStill _ _ (World.drew _) _ _ _
 repeat still_step
 refine wpStill_nil ?_;change wpList _ _ _ _ _ (World.drew _)
 generalize World.drew w1=W1 at *;have aK:=(eO.still HX.1 KD.now.1 KD.now.2.1 KD.now.2.2.1).bp;obtain⟨r0,r1,r2,r3,r4⟩:=aK.r;have z0:=aK.fz 0;have z1:=aK.fz 1;have z2:=aK.fz 2;have z3:=aK.fz 3;have z4:=aK.fz 4;have HP:=zI ((eO.still HX.1 KD.now.1 KD.now.2.1 KD.now.2.2.1).done ⟨0,[],y.data,y.aX,[]⟩ (.slice none 0 0) (Own.nil _ _) (λe=>by simp[Value.ownBlock]at e) (0) (⟨#[]⟩) ((B y.data)) (y.aX) rfl rfl rfl rfl)
 have fH:=zI (ew aK.res (.int .i64 0) (.string ⟨#[]⟩) (.string (B y.data)) (.int .i64 y.aX) (.slice none 0 0));clear aK;go_wp2;have fI:=fH.out;have fJ:=HP.out;generalize (((((World.setCell _ _ _).setCell _ _).setCell _ _).setCell _ _).setCell _ _)=wz at *;obtain⟨s0,s1,s2,s3,s4⟩:=b5 fI;exact bodyPost_ret (v:=.agg #[.int .i64 0,.string ⟨#[]⟩,.string (B y.data),.int .i64 y.aX,.slice none 0 0]) (by simp[results,results153,go_sem,s0,s1,s2,s3,s4]) rfl fJ
end Go.Proofs.YtgafcelloiagmaaGreatDoor
