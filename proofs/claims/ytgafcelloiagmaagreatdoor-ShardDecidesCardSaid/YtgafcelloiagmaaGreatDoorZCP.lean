/- A text of this proof. -/
import Derived.Test.YtgafcelloiagmaaGreatDoorZCJ
import Derived.Test.YtgafcelloiagmaaGreatDoorZCK
set_option maxHeartbeats 16000000
set_option linter.unusedSimpArgs false
set_option linter.unusedVariables false
set_option maxRecDepth 20000
namespace Go.Proofs.YtgafcelloiagmaaGreatDoor
open Go.Proofs.Tryz
section
open Go.RowKit
section
variable {P : Program} {ops : Array Oper} {Q : Exit → Act → World → Prop} {md : Region.Mode} {S : World → Prop}
theorem aF(i:Nat){oi:Oper}{v:Value}{fuel:Nat}{listed:Array Bool}{a a':Act}{w:World}(hS:S w)(k:wpAnyH P md ops Q S fuel (listed.setIfInBounds i true) a' w)(hi:ops[i]?=some oi:=by simp only[zA,zB,zC]<;>exact rfl)
  (y:∀w,S w->(execOp a.eval oi).run P w=.ok (.value v) w:=by intro w;(try dsimp only);(try simp only[and_imp]);intros;go_simp;try with_reducible rfl)
  (ha:a.put oi.dst v=a':=by simp only[zP,zN,zS,zT,zU]<;>exact rfl)
  (hs:Region.noSelect ops=true:=by kernel_rfl) (hf:Region.free md ops listed i=true:=by kernel_rfl) (hr:(Region.ready md ops listed).contains i=true:=by kernel_rfl)
  (hq:∀c a w,Q (.panic c) (a.put oi.dst v) w->Q (.panic c) a w:=by exact λ_ _ _ h=>h) (hw:Region.wanted oi (yielded ops a.tmps)=true:=by rfl):
  wpAnyH P md ops Q S (fuel+1) listed a w:=by subst ha;exact wpAnyH_take hi hs hf hr hq (.inl ⟨hw,y⟩) hS k
theorem gv(i:Nat){oi:Oper}{fuel:Nat}{listed:Array Bool}{a a':Act}{w:World}(hS:S w)
  (k:wpAnyH P md ops Q S fuel (listed.setIfInBounds i true) a' w) (hi:ops[i]?=some oi:=by simp only[zA,zB,zC]<;>exact rfl)
  (ha:a.put oi.dst undef=a':=by simp only[zP,zN,zS,zT,zU]<;>exact rfl)
  (hs:Region.noSelect ops=true:=by kernel_rfl) (hf:Region.free md ops listed i=true:=by kernel_rfl) (hr:(Region.ready md ops listed).contains i=true:=by kernel_rfl)
  (hq:∀c a w,Q (.panic c) (a.put oi.dst undef) w->Q (.panic c) a w:=by exact λ_ _ _ h=>h) (hw:Region.wanted oi (yielded ops a.tmps)=false:=by rfl):
  wpAnyH P md ops Q S (fuel+1) listed a w:=by subst ha;exact wpAnyH_take hi hs hf hr hq (.inr ⟨hw,rfl⟩) hS k
end
end
section
open Go.RowKit
section
variable {P : Program} {ops : Array Oper} {Q : Exit → Act → World → Prop} {md : Region.Mode} {S : World → Prop}
theorem gR(i:Nat){oi:Oper}{v:Value}{fuel:Nat}{listed:Array Bool}{a a':Act}{w:World}(hS:S w)(k:wpAnyH P md ops Q S fuel (listed.setIfInBounds i true) a' w)(hi:ops[i]?=some oi:=by simp only[zA,zB,zC]<;>exact rfl)
  (y:∀w,S w->(execOp a.eval oi).run P w=.ok (.value v) w:=by intro w;(try dsimp only);(try simp only[and_imp]);intros;go_simp;try with_reducible rfl)
  (ha:a.put oi.dst v=a':=by simp only[zP,zN,zS,zT,zU]<;>exact rfl)
  (hs:Region.noSelect ops=true:=by kernel_rfl) (hf:Region.free md ops listed i=true:=by kernel_rfl) (hr:(Region.ready md ops listed).contains i=true:=by kernel_rfl)
  (hq:∀c a w,Q (.panic c) (a.put oi.dst v) w->Q (.panic c) a w:=by exact λ_ _ _ h=>h) (hw:Region.wanted oi (yielded ops a.tmps)=true:=by rfl):
  wpAnyH P md ops Q S (fuel+1) listed a w:=by subst ha;exact wpAnyH_take hi hs hf hr hq (.inl ⟨hw,y⟩) hS k
theorem rK(i:Nat){oi:Oper}{fuel:Nat}{listed:Array Bool}{a a':Act}{w:World}(hS:S w)
  (k:wpAnyH P md ops Q S fuel (listed.setIfInBounds i true) a' w) (hi:ops[i]?=some oi:=by simp only[zA,zB,zC]<;>exact rfl)
  (ha:a.put oi.dst undef=a':=by simp only[zP,zN,zS,zT,zU]<;>exact rfl)
  (hs:Region.noSelect ops=true:=by kernel_rfl) (hf:Region.free md ops listed i=true:=by kernel_rfl) (hr:(Region.ready md ops listed).contains i=true:=by kernel_rfl)
  (hq:∀c a w,Q (.panic c) (a.put oi.dst undef) w->Q (.panic c) a w:=by exact λ_ _ _ h=>h) (hw:Region.wanted oi (yielded ops a.tmps)=false:=by rfl):
  wpAnyH P md ops Q S (fuel+1) listed a w:=by subst ha;exact wpAnyH_take hi hs hf hr hq (.inr ⟨hw,rfl⟩) hS k
end
end
section
open Go.RowKit Pm
def Vw(l:List fD):Prop:=∀x∈l,x.path.length<=1000000
structure L1(S:Nat->Prop)(wc:World)(f:Value)(q:fD->Bool):Prop where
 ex:∃k fi cap,f=.func (.func k) fi cap/\Enters prog k/\∀n w1,n.path.length<=1000000->Fp S wc w1->
  Calls prog k (fi++#[pK n]++cap) w1 λe w2=>e=.returned (.bool (q n))/\Fp ab w1 w2
theorem L1.later{S:Nat->Prop}{wc w:World}{f:Value}{q:fD->Bool}(h:L1 S wc f q)(g:Fp S wc w):L1 S w f q:=by
 obtain⟨k,fi,cap,e,h1,h2⟩:=h.ex;exact⟨k,fi,cap,e,h1,λn w1 hn hf=>h2 n w1 hn (g.same hf)⟩
theorem L1.af{S:Nat->Prop}{wc:World}{f:Value}{q:fD->Bool}(h:L1 S wc f q):L1 ab wc f q:=by
 obtain⟨k,fi,cap,e,h1,h2⟩:=h.ex;exact⟨k,fi,cap,e,h1,λn w1 hn hf=>h2 n w1 hn hf.any⟩
def I0(q:fD->Bool)(l:List fD)(z:Int):Prop:=(z = -1/\∀n∈l,q n=false)\/∃i,z=((i:Nat):Int)/\∃h:i<l.length,q l[i]=true/\∀j (hj:j<l.length),j<i->q l[j]=false
theorem vH(v f:Value)(l:List fD)(q:fD->Bool)(w:World)(hv:ER w v l)(hs:Vw l)(hq:L1 ab w f q)(hn:l.length<=1000000):
  Calls prog 165 #[v,f] w λe w'=>(∃z,e=.returned (.int .i64 z)/\I0 q l z)/\Fp ab w w':=by
 obtain⟨ao,cap,rfl⟩:=hv.shape;obtain⟨n,aR⟩:∃n,n=l.length:=⟨_,rfl⟩;obtain⟨kf,fi,fc,rfl,gU,bB⟩:=hq.ex;have HX:=zI (yI aR (yI hv (yI hs bB)));rw[<-aR];have jS:n<=1000000:=by omega
 clear hv hs hq bB hn aR;go_enter func165,ntmps165
 go_wp2_with fail
 go_loopw [8] (λi wr=>∃k:Nat,k<=n/\i=.int .i64 k/\Hid (Fp ab w wr/\∀j (hj:j<l.length),j<k->q l[j]=false)) (λi _=>n-(RowKit.intOf i).toNat)
 case atStart=>exact⟨0,Nat.zero_le _,rfl,Fp.refl _ _,λj _ h=>absurd h (Nat.not_lt_zero j)⟩
 obtain⟨k,hk,rfl,hR⟩:=hrel;rename_i wr _
 by_cases ay:k<n
 ·have aS:k<l.length:=by rw[<-HX.1];exact ay
  obtain⟨g,o,aY,e,aq⟩:=HX.2.1.at (by omega)
  injection e with e1 e2 e3
  subst e1 e3;have aE:=(aq k aS).keep hR.1 id;have dy:=HX.2.2.2 l[k] wr (HX.2.2.1 _ (List.getElem_mem aS)) hR.1;obtain⟨b,hb⟩:∃b,q l[k]=b:=⟨_,rfl⟩;rw[hb]at dy;have HB:=zI (yI aS (yI hb ay));have HL:=zI (yI aS ay)
  have gi:b=false->∀j (hj:j<l.length),j<k+1->q l[j]=false:=λh j hj rJ=>by
   rcases Nat.lt_or_eq_of_le (show j<=k by omega) with e|e
   ·exact hR.2 j hj e
   subst e;rw[hb,h]
  have bf:b=true->I0 q l (k:Int):=λh=>.inr ⟨k,rfl,aS,by rw[hb,h],λj hj rJ=>hR.2 j hj rJ⟩
  have HN:=zI (yI gi bf);clear HB gi bf hb aq;generalize l[k]=x at *;have c0:=aE.c0;have c1:=aE.c1;have c2:=aE.c2;have c3:=aE.c3;have c4:=aE.c4;have c5:=aE.c5;unfold au at c1 c2;unfold pK au at dy;have q3:((k:Int)<(n:Int))=True:=eq_true (by omega)
  have q4:(k<n)=True:=eq_true ay;have uR:=zI dy;clear aE dy aS ay;go_wp2_with fail
  rw[gU _ _];go_wp2_with fail
  refine uR.mono ?_;rintro e w2⟨rfl,bY⟩;have HF:=zI (hR.1.then bY);clear bY;cases b with
  |true=>
   have hI:=HN.2 rfl;have HI:=zI hI;clear HN hI;go_wp2;go_ret;exact⟨⟨_,rfl,HI.out⟩,HF.out⟩
  |false=>?_
  have hM:Hid (Fp ab w w2/\∀j (hj:j<l.length),j<k+1->q l[j]=false):=⟨HF.out,HN.1 rfl⟩;have eJ:=HL.2;clear HN;go_wp2;go_roundw
  case rel=>exact⟨k+1,by omega,by go_num,hM⟩
  case measure=>simp[RowKit.intOf];omega
 have cV:k=n:=by omega
 subst cV;have q3:((k:Int)<(k:Int))=False:=eq_false (by omega)
 have hI:I0 q l (-1):=.inl ⟨rfl,λx hx=>by
  obtain⟨i,hi,rfl⟩:=List.getElem_of_mem hx;exact hR.2 i hi (by rw[HX.1];exact hi)⟩
 have HI:=zI hI;clear ay hk hI;go_wp2;go_ret;exact⟨⟨_,rfl,HI.out⟩,hR.1⟩
theorem I0.pos{q:fD->Bool}{l:List fD}{z:Int}(h:I0 q l z):decide (0<=z)=l.any q:=by
 rcases h with⟨rfl,h⟩|⟨i,rfl,hi,h,_⟩
 ·have:l.any q=false:=by rw[List.any_eq_false];intro x hx;simp[h x hx]
  rw[this];rfl
 have:l.any q=true:=List.any_eq_true.2 ⟨_,List.getElem_mem hi,h⟩;rw[this];simp
theorem pz(v f:Value)(l:List fD)(q:fD->Bool)(w:World)(hv:ER w v l)(hs:Vw l)(hq:L1 ab w f q)(hn:l.length<=1000000):
  Calls prog 114 #[v,f] w λe w'=>e=.returned (.bool (l.any q))/\Fp ab w w':=by
 have hi:=vH v f l q w hv hs hq hn;have HI:=zI hi;obtain⟨ao,cap,rfl⟩:=hv.shape;obtain⟨kf,fi,fc,rfl,_,_⟩:=hq.ex;clear hi hv hq hs hn;go_enter func114,ntmps114
 go_wp2_with fail
 refine HI.mono ?_;rintro e w1⟨⟨z,rfl,hz⟩,hf⟩;have HZ:=zI (yI hz.pos hf);clear hz hf;go_wp2;go_ret;exact⟨aB HZ.1,HZ.2⟩
theorem L3(o:fD)(w:World)(hl:o.path.length<=1000000):
  Calls prog 115 #[pK o] w λe w'=>e=.returned (.bool (!may o))/\Fp ab w w':=by
 have hm:=λw=>M0 o w hl
 obtain⟨b,hb⟩:∃b,may o=b:=⟨_,rfl⟩;rw[hb]at hm;rw[hb];obtain⟨kk,p,d,v,ow,tt⟩:=o;unfold pK au at *;simp only at *
 have bZ:=aa w (.cells #[.int .i64 kk,.string (B p),.string (B d),.int .i64 v,.int .i64 ow,.bool tt] Ac);have dr:=zI bZ;have HM:=zI hm;clear hm bZ hb hl;go_enter func115,ntmps115
 go_wp2_with fail
 refine(HM _).mono ?_;rintro e w1⟨rfl,hf⟩;have F:=zI (dr.then hf);clear hf;go_wp2;go_ret;exact⟨rfl,F.out⟩
theorem yr(l:List fD):(l.any λo=>!may o) = !(l.all may):=by
 induction l with
 |nil=>rfl
 |cons o l ih=>rw[List.any_cons,List.all_cons,ih,Bool.not_and]
theorem OO(v:Value)(l:List fD)(w:World)(hv:ER w v l)(hs:Vw l)(hn:l.length<=1000000):
  Calls prog 75 #[v] w λe w'=>e=.returned (.bool (sn l))/\Fp ab w w':=by
 have gU:Enters prog 115:=λargs w=>enters_of func115 (by kernel_rfl) rfl args w
 have iH:L1 ab w (.func (.func 115) #[] #[]) (λo=>!may o):=⟨_,#[],#[],rfl,gU,λo w1 ho _=>L3 o w1 ho⟩
 have Dg:=pz v _ l _ w hv hs iH hn;rw[yr]at Dg;obtain⟨ao,cap,rfl⟩:=hv.shape;obtain⟨n,aR⟩:∃n,n=l.length:=⟨_,rfl⟩;obtain⟨al,gm⟩:∃b,l.all may=b:=⟨_,rfl⟩;have key:sn l=(decide (1<=n/\n<=8) && al):=by unfold sn;rw[gm,aR]
 rw[gm]at Dg;rw[<-aR]at Dg|-;have HC:=zI Dg;have HK:=zI key;clear Dg gm key aR hv hs hn iH gU;by_cases h1:n<1
 ·have q1:((n:Int)<1)=True:=eq_true (by omega)
  have q2:(n<1)=True:=eq_true h1;have q3:n=0:=by omega
  subst q3;have HE:=zI (show sn l=false by rw[HK.out];rfl)
  clear h1;go_enter func75,ntmps75
  go_wp2;go_ret;exact⟨aB HE.symm,Fp.refl _ _⟩
 have q1:((n:Int)<1)=False:=eq_false (by omega)
 have q2:(n<1)=False:=eq_false h1;have q2b:(n=0)=False:=eq_false (by omega)
 by_cases h8:8<n
 ·have q3:((8:Int)<(n:Int))=True:=eq_true (by omega)
  have q4:(8<n)=True:=eq_true h8;have HE:=zI (show sn l=false by rw[HK.out,decide_eq_false (by omega)];rfl)
  clear h1 h8;go_enter func75,ntmps75
  go_wp2;go_ret;exact⟨aB HE.symm,Fp.refl _ _⟩
 have q3:((8:Int)<(n:Int))=False:=eq_false (by omega)
 have q4:(8<n)=False:=eq_false h8;have HE:=zI (show sn l=al by rw[HK.out,decide_eq_true (by omega)];rfl)
 clear h1 h8;go_enter func75,ntmps75
 go_wp2_with fail
 refine HC.mono ?_;rintro e w1⟨rfl,hf⟩;have F:=zI hf;clear hf;go_wp2;go_ret;exact⟨aB (by rw[HE.out];first|done|simp),F.out⟩
end
section
namespace Pm
open Go.Proofs.Tryz
theorem dh.next{s:St}(h:dh s){t:Tu}(ht:t∈s.turns):t.next≠0:=by
 have:=h.fe t ht;unfold Pm.fe at this;simp only[Bool.and_eq_true,decide_eq_true_eq]at this
 omega
end Pm
open Go.RowKit
section
variable {P : Program} {ops : Array Oper} {Q : Exit → Act → World → Prop} {md : Region.Mode} {S : World → Prop}
theorem cY(i:Nat){oi:Oper}{v:Value}{fuel:Nat}{listed:Array Bool}{a a':Act}{w:World}(hS:S w)(k:wpAnyH P md ops Q S fuel (listed.setIfInBounds i true) a' w)(hi:ops[i]?=some oi:=by simp only[zA,zB,zC]<;>exact rfl)
  (y:∀w,S w->(execOp a.eval oi).run P w=.ok (.value v) w:=by intro w;(try dsimp only);(try simp only[and_imp]);intros;go_simp;try with_reducible rfl)
  (ha:a.put oi.dst v=a':=by simp only[zP,zN,zS,zT,zU]<;>exact rfl)
  (hs:Region.noSelect ops=true:=by kernel_rfl) (hf:Region.free md ops listed i=true:=by kernel_rfl) (hr:(Region.ready md ops listed).contains i=true:=by kernel_rfl)
  (hq:∀c a w,Q (.panic c) (a.put oi.dst v) w->Q (.panic c) a w:=by exact λ_ _ _ h=>h) (hw:Region.wanted oi (yielded ops a.tmps)=true:=by rfl):
  wpAnyH P md ops Q S (fuel+1) listed a w:=by subst ha;exact wpAnyH_take hi hs hf hr hq (.inl ⟨hw,y⟩) hS k
theorem bV(i:Nat){oi:Oper}{fuel:Nat}{listed:Array Bool}{a a':Act}{w:World}(hS:S w)
  (k:wpAnyH P md ops Q S fuel (listed.setIfInBounds i true) a' w) (hi:ops[i]?=some oi:=by simp only[zA,zB,zC]<;>exact rfl)
  (ha:a.put oi.dst undef=a':=by simp only[zP,zN,zS,zT,zU]<;>exact rfl)
  (hs:Region.noSelect ops=true:=by kernel_rfl) (hf:Region.free md ops listed i=true:=by kernel_rfl) (hr:(Region.ready md ops listed).contains i=true:=by kernel_rfl)
  (hq:∀c a w,Q (.panic c) (a.put oi.dst undef) w->Q (.panic c) a w:=by exact λ_ _ _ h=>h) (hw:Region.wanted oi (yielded ops a.tmps)=false:=by rfl):
  wpAnyH P md ops Q S (fuel+1) listed a w:=by subst ha;exact wpAnyH_take hi hs hf hr hq (.inr ⟨hw,rfl⟩) hS k
end
end
end Go.Proofs.YtgafcelloiagmaaGreatDoor
