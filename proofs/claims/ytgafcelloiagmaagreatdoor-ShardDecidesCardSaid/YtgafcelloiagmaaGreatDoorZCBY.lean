/- A text of this proof. -/
import Derived.Test.YtgafcelloiagmaaGreatDoorZCBX
set_option maxHeartbeats 16000000
set_option linter.unusedSimpArgs false
set_option linter.unusedVariables false
set_option maxRecDepth 20000
namespace Go.Proofs.YtgafcelloiagmaaGreatDoor
open Go.Proofs.Tryz
open Go.RowKit Pm
attribute [local irreducible] wpStill
theorem EZ.cell{w:World}{v:Value}{l:List Bool}{n:Nat}{ao:Option Addr}{cp:Nat}(h:EZ w v l)(e:v=.slice ao n cp)(k:Nat)(hk:k<l.length):∃g o,ao=some ⟨g,o,none⟩/\∀w',Fp ab w w'->w'.cell? ⟨g,o,none⟩=some (.bool (AH l 0))/\w'.cell? ⟨g,o+k,none⟩=some (.bool (AH l k)):=by
 obtain⟨a,c,e2,_,_,h3⟩:=h.ex;rcases h3 with h3|⟨g,o,rfl,_,hc⟩
 ·subst h3;simp at hk
 rw[e2]at e;injection e with e1 _ _
 refine⟨g,o,e1.symm,λw' f=>⟨?_,?_⟩⟩
 ·have:=f.cell (hc 0 (by omega)) id
  rw[Nat.add_zero]at this;rw[this];unfold AH;rw[List.getElem?_eq_getElem (by omega)];rfl
 rw[f.cell (hc k hk) id];unfold AH;rw[List.getElem?_eq_getElem hk];rfl
theorem E0.cell{w:World}{v:Value}{l:Bs}{n:Nat}{ao:Option Addr}{cp:Nat}(h:E0 w v l)(e:v=.slice ao n cp)(k:Nat)(hk:k<l.length):∃g o,ao=some ⟨g,o,none⟩/\∀w',Fp ab w w'->w'.cell? ⟨g,o+k,none⟩=some (.int .u8 (jN l k)):=by
 obtain⟨a,c,e2,_,_,h3⟩:=h.ex;rcases h3 with h3|⟨g,o,rfl,_,hc⟩
 ·subst h3;simp at hk
 rw[e2]at e;injection e with e1 _ _
 refine⟨g,o,e1.symm,λw' f=>?_⟩
 rw[f.cell (hc k hk) id];unfold jN;rw[List.getElem?_eq_getElem hk];rfl
theorem CA{E:Bs}{k:Nat}(h:¬k<E.length):jN E k=0:=by
 unfold jN;rw[List.getElem?_eq_none (by omega)];rfl
structure Nw(q a x d:Nat)(t:Int)(y0:Bool)(e0:Int)(w:World)(k:Nat)(wr:World):Prop where
 sh:iR wr q a x d (E2 t y0 e0 k)
 fp:Fp ab w wr
 tb:xL q a x d wr
 out:∀k,Bk q a x d k->w.heap.size<=k
theorem Nw.next{q a x d:Nat}{t:Int}{y0:Bool}{e0:Int}{w wr w':World}{k:Nat}{r:ck}{e:Ending}(h:Nw q a x d t y0 e0 w k wr)(k2:bN q a x d (E2 t y0 e0 (k+1),r) wr e w'):Nw q a x d t y0 e0 w (k+1) w':=
 ⟨k2.sh,h.fp.trans k2.fp (λj hj=>.inr (h.out j hj)),h.tb.bk k2.fp,h.out⟩
theorem Nw.af{q a x d:Nat}{t:Int}{y0:Bool}{e0:Int}{w wr w':World}{k:Nat}(h:Nw q a x d t y0 e0 w k wr)(f:Fp ab wr w'):Nw q a x d t y0 e0 w k w':=
 ⟨h.sh.af f,h.fp.then f,h.tb.af f,h.out⟩
theorem qS(bu:Int)(vy:Value)(L:List Bool)(ve:Value)(E:Bs)(w:World)(hy:EZ w vy L)(_:True)(he:E0 w ve E)(_:True)(ht:jH w):
  Calls prog 8 #[.int .i64 bu,vy,ve] w λe w'=>e=.returned (.bool true)/\Fp ab w w':=by
 obtain⟨bo,bc,hvy⟩:=hy.shape;obtain⟨co,cc,hve⟩:=he.shape;obtain⟨n,hn⟩:∃n,n=L.length:=⟨_,rfl⟩;obtain⟨m,hm⟩:∃m,m=E.length:=⟨_,rfl⟩;rw[<-hn]at hvy;rw[<-hm]at hve;subst hvy hve;have HY:=zI (yI hn hy);have HE:=zI (yI hm he);obtain⟨y0,Ll⟩:∃y,y=AH L 0:=⟨_,rfl⟩;obtain⟨e0,he0⟩:∃y,y=jN E 0:=⟨_,rfl⟩;have HDS:=zI (λk=>UC bu L E k)
 have Wo:=zI Ll;have DN:=zI he0
 have GH:m<=9223372036854775807:=by
  obtain⟨a,c,e,h1,h2,_⟩:=he.ex;unfold maxLen at h2;omega
 have jS:n<=9223372036854775807:=by
  obtain⟨a,c,e,h1,h2,_⟩:=hy.ex;unfold maxLen at h2;omega
 have HT:=zI ht;clear ht hy he hn hm Ll he0;go_enter func8,ntmps8
 go_wp2_with fail
 refine(Ig _ HT.out).mono ?_;rintro e w1⟨rfl,f1⟩;have F1:=zI f1;clear f1;go_wp2_with fail
 refine(Ie _).mono ?_;intro e w2 hR;obtain⟨q,a,x,d,rfl,hS,hB⟩:=hR.ex;have ay:=HT.lt;have HI:=zI (show Nw q a x d bu y0 e0 w 0 w2 from⟨by rw[YZ];exact hS,F1.then hR.fp,⟨(HT.af F1.out).af hR.fp,λj hj=>Nat.lt_of_lt_of_le ay (Nat.le_trans F1.size (hB j hj))⟩,λj hj=>Nat.le_trans F1.size (hB j hj)⟩)
 clear hR hS hB ay F1 HT;by_cases hg:60<n
 ·have q1:((60:Int)<(n:Int))=True:=eq_true (by omega)
  have q2:(60<n)=True:=eq_true hg;clear hg;go_wp2;go_ret;exact⟨rfl,HI.fp⟩
 have q1:((60:Int)<(n:Int))=False:=eq_false (by omega)
 have q2:(60<n)=False:=eq_false hg;have ab9:n<=60:=by omega
 clear hg;by_cases hg:bu<0
 ·have q3:(bu<0)=True:=eq_true hg
  clear hg;go_wp2;go_ret;exact⟨rfl,HI.fp⟩
 have q3:(bu<0)=False:=eq_false hg;have ht0:0<=bu:=by omega
 clear hg;by_cases hg:281474976710656<bu
 ·have q4:(281474976710656<bu)=True:=eq_true hg
  clear hg;go_wp2;go_ret;exact⟨rfl,HI.fp⟩
 have q4:(281474976710656<bu)=False:=eq_false hg;have Y0:=zI (show 0<=bu/\bu<=281474976710656 from⟨ht0,by omega⟩)
 clear ht0;clear hg;go_wp2_with fail
 clear q1 q2 q3 q4;go_loopw [9] (λi wr=>∃k:Nat,k<=n/\i=.int .i64 k/\Hid (Nw q a x d bu y0 e0 w k wr)) (λi _=>n-(RowKit.intOf i).toNat)
 case atStart=>exact⟨0,Nat.zero_le _,rfl,HI⟩
 clear HI;obtain⟨k,hk,rfl,hR⟩:=hrel;rename_i wr _
 by_cases ay:k<n
 ·have q5:((k:Int)<(n:Int))=True:=eq_true (by omega)
  have q6:(k<n)=True:=eq_true ay;obtain⟨g1,o1,rfl,eN⟩:=HY.2.cell rfl k (by rw[<-HY.1];exact ay)
  have bO:=(eN wr hR.fp).2;have zn:=zI eN;have HK:=zI ay;have xN:=HDS k;rw[<-Wo.out,<-DN.out]at xN;have PK:=AJ E k;obtain⟨yk,Y1⟩:∃y,y=AH L k:=⟨_,rfl⟩;obtain⟨ek,Q9⟩:∃y,y=jN E k:=⟨_,rfl⟩;rw[<-Y1,<-Q9]at xN;rw[<-Y1]at bO;rw[<-Q9]at PK;have Y2:=zI xN;have Y3:=zI PK;clear xN Y1 ay eN;by_cases cV:k<m
  ·obtain⟨g2,o2,rfl,fG⟩:=HE.2.cell rfl k (by rw[<-HE.1];exact cV)
   have q7:((k:Int)<(m:Int))=True:=eq_true (by omega)
   have q8:(k<m)=True:=eq_true cV;have zi:0<m:=by omega
   have q9:((0:Int)<(m:Int))=True:=eq_true (by omega)
   have SF:(0<m)=True:=eq_true zi;have bW:=fG wr hR.fp;rw[<-Q9]at bW;obtain⟨g3,o3,e3,xm⟩:=HE.2.cell rfl 0 (by rw[<-HE.1];exact zi)
   injection e3 with e3
   injection e3 with e31 e32 _
   subst e31 e32;have Y4:=zI xm;clear cV Q9 fG xm zi;go_wp2_with fail
   refine(JI q a x d (E2 bu y0 e0 k) (E1 bu yk ek) _ (.slice none 0 0) wr hR.sh (AK _ _ _ _) (nP Y0 Y3.out) ⟨show(1:Int)<=4 by decide,show(4:Int)<=5 by decide⟩ rfl rfl (Sg.nil _) hR.tb Y2 rfl).mono ?_
   intro e wd hD;obtain⟨v,rfl,hA⟩:=hD.xF;obtain⟨vr,vn,vt,ve,vw,rfl,hP⟩:=hA.ex;have one:=aD (a:=sH y0 e0) hP.eL;have HN:=zI ((hR.next hD).af (aa wd (.cells (aC (sH y0 e0) vr vn vt ve vw) aT)));have ba:=heap_alloc_new wd (.cells (aC (sH y0 e0) vr vn vt ve vw) aT);have x0:(wd.alloc (.cells (aC (sH y0 e0) vr vn vt ve vw) aT)).cell? ⟨wd.heap.size,0,none⟩=some (.int .i64 0):=(bj ba).1;have x2:(wd.alloc (.cells (aC (sH y0 e0) vr vn vt ve vw) aT)).cell? ⟨wd.heap.size,2,none⟩=some (.bool y0):=(bj ba).2.2.1;have x3:(wd.alloc (.cells (aC (sH y0 e0) vr vn vt ve vw) aT)).cell? ⟨wd.heap.size,3,none⟩=some (.int .i64 e0):=(bj ba).2.2.2.1;have x4:=(zn _ HN.fp).1;rw[<-Wo.out]at x4;have n1:(y0 != y0)=false:=by cases y0<;>rfl
   have n2:(e0 != e0)=false:=by simp
   have n3:(y0 == y0)=true:=by cases y0<;>rfl
   have n4:(e0 == e0)=true:=by simp
   have x5:=Y4 _ HN.fp;rw[Nat.add_zero,<-DN.out]at x5;have eJ:=HK.out;have UD:0<=e0/\e0<=255:=(DN.symm▸AJ E 0);clear ba hD hA hP hR;go_wp2_with (refine ak rfl aT _ _ rfl _ _ rfl rfl (eG bw _ rfl rfl (by assumption)) ?_)
   go_quiet (fail)
   go_wp2;refine⟨⟨k+1,by omega,by go_num,HN.af ((Fp.refl _ _).drewN _)⟩,?_⟩
   simp[RowKit.intOf];omega
  have q7:((k:Int)<(m:Int))=False:=eq_false (by omega)
  have q8:(k<m)=False:=eq_false cV;rw[CA (by rw[<-HE.1];exact cV)]at Q9
  subst Q9;by_cases zi:0<m
  ·have q9:((0:Int)<(m:Int))=True:=eq_true (by omega)
   have SF:(0<m)=True:=eq_true zi;obtain⟨g2,o2,rfl,xm⟩:=HE.2.cell rfl 0 (by rw[<-HE.1];exact zi)
   have Y4:=zI xm;clear cV xm zi;go_wp2_with fail
   refine(JI q a x d (E2 bu y0 e0 k) (E1 bu yk 0) _ (.slice none 0 0) wr hR.sh (AK _ _ _ _) (nP Y0 Y3.out) ⟨show(1:Int)<=4 by decide,show(4:Int)<=5 by decide⟩ rfl rfl (Sg.nil _) hR.tb Y2 rfl).mono ?_
   intro e wd hD;obtain⟨v,rfl,hA⟩:=hD.xF;obtain⟨vr,vn,vt,ve,vw,rfl,hP⟩:=hA.ex;have one:=aD (a:=sH y0 e0) hP.eL;have HN:=zI ((hR.next hD).af (aa wd (.cells (aC (sH y0 e0) vr vn vt ve vw) aT)));have ba:=heap_alloc_new wd (.cells (aC (sH y0 e0) vr vn vt ve vw) aT);have x0:(wd.alloc (.cells (aC (sH y0 e0) vr vn vt ve vw) aT)).cell? ⟨wd.heap.size,0,none⟩=some (.int .i64 0):=(bj ba).1;have x2:(wd.alloc (.cells (aC (sH y0 e0) vr vn vt ve vw) aT)).cell? ⟨wd.heap.size,2,none⟩=some (.bool y0):=(bj ba).2.2.1;have x3:(wd.alloc (.cells (aC (sH y0 e0) vr vn vt ve vw) aT)).cell? ⟨wd.heap.size,3,none⟩=some (.int .i64 e0):=(bj ba).2.2.2.1;have x4:=(zn _ HN.fp).1;rw[<-Wo.out]at x4;have n1:(y0 != y0)=false:=by cases y0<;>rfl
   have n2:(e0 != e0)=false:=by simp
   have n3:(y0 == y0)=true:=by cases y0<;>rfl
   have n4:(e0 == e0)=true:=by simp
   have x5:=Y4 _ HN.fp;rw[Nat.add_zero,<-DN.out]at x5;have eJ:=HK.out;have UD:0<=e0/\e0<=255:=(DN.symm▸AJ E 0);clear ba hD hA hP hR;go_wp2_with (refine ak rfl aT _ _ rfl _ _ rfl rfl (eG bw _ rfl rfl (by assumption)) ?_)
   go_quiet (fail)
   go_wp2;refine⟨⟨k+1,by omega,by go_num,HN.af ((Fp.refl _ _).drewN _)⟩,?_⟩
   simp[RowKit.intOf];omega
  have q9:((0:Int)<(m:Int))=False:=eq_false (by omega)
  have SF:(0<m)=False:=eq_false zi;have Y5:e0=0:=by rw[DN.out];exact CA (by rw[<-HE.1];exact zi)
  clear cV zi;subst Y5;go_wp2_with fail
  refine(JI q a x d (E2 bu y0 0 k) (E1 bu yk 0) _ (.slice none 0 0) wr hR.sh (AK _ _ _ _) (nP Y0 Y3.out) ⟨show(1:Int)<=4 by decide,show(4:Int)<=5 by decide⟩ rfl rfl (Sg.nil _) hR.tb Y2 rfl).mono ?_
  intro e wd hD;obtain⟨v,rfl,hA⟩:=hD.xF;obtain⟨vr,vn,vt,ve,vw,rfl,hP⟩:=hA.ex;have one:=aD (a:=sH y0 0) hP.eL;have HN:=zI ((hR.next hD).af (aa wd (.cells (aC (sH y0 0) vr vn vt ve vw) aT)));have ba:=heap_alloc_new wd (.cells (aC (sH y0 0) vr vn vt ve vw) aT);have x0:(wd.alloc (.cells (aC (sH y0 0) vr vn vt ve vw) aT)).cell? ⟨wd.heap.size,0,none⟩=some (.int .i64 0):=(bj ba).1;have x2:(wd.alloc (.cells (aC (sH y0 0) vr vn vt ve vw) aT)).cell? ⟨wd.heap.size,2,none⟩=some (.bool y0):=(bj ba).2.2.1;have x3:(wd.alloc (.cells (aC (sH y0 0) vr vn vt ve vw) aT)).cell? ⟨wd.heap.size,3,none⟩=some (.int .i64 0):=(bj ba).2.2.2.1;have x4:=(zn _ HN.fp).1;rw[<-Wo.out]at x4;have n1:(y0 != y0)=false:=by cases y0<;>rfl
  have n2:(0 != 0)=false:=by simp
  have n3:(y0 == y0)=true:=by cases y0<;>rfl
  have n4:(0 == 0)=true:=by simp
  have eJ:=HK.out;have UD:0<=0/\0<=255:=by decide
  clear ba hD hA hP hR;go_wp2_with (refine ak rfl aT _ _ rfl _ _ rfl rfl (eG bw _ rfl rfl (by assumption)) ?_)
  go_quiet (fail)
  go_wp2;refine⟨⟨k+1,by omega,by go_num,HN.af ((Fp.refl _ _).drewN _)⟩,?_⟩
  simp[RowKit.intOf];omega
 have q5:((k:Int)<(n:Int))=False:=eq_false (by omega)
 have q6:(k<n)=False:=eq_false ay;have HKN:=zI ay;clear ay;go_wp2_with fail
 have aN:=Cs q a x d _ _ hR.sh (show(1:Nat)<=50000 by decide) (show(0:Nat)<=50000 by decide)
 refine aN.mono ?_;intro e wA hA;obtain⟨vn,vt,rfl,hn,ht⟩:=hA.ex;obtain⟨s1,s2,rfl⟩:∃a c,vn=.slice a 1 c:=hn.shape;obtain⟨s3,s4,rfl⟩:∃a c,vt=.slice a 0 c:=ht.shape;have Jv:∀w:World,(Instr.field aM (.agg #[.slice s1 1 s2,.slice s3 0 s4]) 0).run prog w=.ok (.slice s1 1 s2) w:=λ_=>by kernel_rfl
 have HZ:=zI (hR.fp.then hA.fp);clear aN hA hn ht hR;go_wp2;go_ret;exact⟨rfl,HZ.out⟩
end Go.Proofs.YtgafcelloiagmaaGreatDoor
