/- A text of this proof. -/
import Derived.Test.YtgafcelloiagmaaGreatDoorZCP
import Derived.Test.YtgafcelloiagmaaGreatDoorZCV
set_option maxHeartbeats 16000000
set_option linter.unusedSimpArgs false
set_option linter.unusedVariables false
set_option maxRecDepth 20000
namespace Go.Proofs.YtgafcelloiagmaaGreatDoor
open Go.Proofs.Tryz
open Go.RowKit Pm
theorem oh{w:World}{b:Nat}{T:TypeId}{c0 c1 c2:Value}(h:w.heap[b]?=some (.cells #[c0,c1,c2] T (0,0))):w.cell? ⟨b,0,none⟩=some c0/\w.cell? ⟨b,1,none⟩=some c1/\w.cell? ⟨b,2,none⟩=some c2:=
 ⟨by rw[cell_of_row _ _ _ _ _ _ h];rfl,by rw[cell_of_row _ _ _ _ _ _ h];rfl,by rw[cell_of_row _ _ _ _ _ _ h];rfl⟩
theorem Ms{l:List Hl}{k:Nat}(hk:k<l.length)(h:zJ (l.take k))(ho:FU l[k]=true)(hl:∀h0:0<k,lt (l[k-1]'(by omega)).d l[k].d=true)(ha:∀y∈l.take k,y.t=l[k].t->y.a=l[k].a):zJ (l.take (k+1)):=by
 rw[List.take_succ_eq_append_getElem hk];refine⟨λx hx=>?_,?_,λx hx y hy e=>?_⟩
 ·rcases List.mem_append.1 hx with hx|hx
  ·exact h.ok x hx
  rw[List.mem_singleton]at hx;subst hx;exact ho
 ·show List.Pairwise _ _
  rw[List.pairwise_append];refine⟨h.up,List.pairwise_singleton _ _,λx hx y hy=>?_⟩
  rw[List.mem_singleton]at hy;subst hy;obtain⟨j,hj,rfl⟩:=List.getElem_of_mem hx;have hj2:j<k:=by rw[List.length_take]at hj;omega
  have NJ:=hl (by omega)
  rcases Nat.lt_or_eq_of_le (show j<=k-1 by omega) with c|c
  ·have:=List.pairwise_iff_getElem.1 h.up j (k-1) hj (by rw[List.length_take];omega) c
   rw[List.getElem_take (i:=k-1)]at this;exact lt_trans this NJ
  subst c;rw[List.getElem_take];exact NJ
 rcases List.mem_append.1 hx with hx|hx<;>rcases List.mem_append.1 hy with hy|hy
 ·exact h.one x hx y hy e
 ·rw[List.mem_singleton]at hy;subst hy;exact ha x hx e
 ·rw[List.mem_singleton]at hx;subst hx;exact(ha y hy e.symm).symm
 rw[List.mem_singleton]at hx hy;subst hx;subst hy;rfl
theorem Mt(a b:Bs):(Op.bytesLess a b||a == b) = !lt b a:=by
 cases h:lt b a with
 |true=>
  have h1:Op.bytesLess a b=false:=lt_asymm h;rw[h1,beq_eq_false_iff_ne.2 (λe=>by rw[e,lt_irrefl]at h;cases h)];rfl
 |false=>?_
 by_cases e:a=b
 ·subst e;simp
 have h1:Op.bytesLess a b=true:=lr h (Ne.symm e);rw[h1];rfl
theorem FX(v:Value)(l:List Hl)(w:World)(hv:di w v l)(hs:zG l)(hn:l.length<=90000):
  Calls prog 175 #[v] w λe w'=>e=.returned (.bool (lJ l))/\Fp ab w w':=by
 obtain⟨ao,cap,rfl⟩:=hv.shape;obtain⟨br,aK⟩:∃b,lJ l=b:=⟨_,rfl⟩;rw[aK];have iL:br=true↔zJ l:=by rw[<-aK];exact lK l
 obtain⟨n,aR⟩:∃n,n=l.length:=⟨_,rfl⟩;have HX:=zI (yI aR (yI hv (yI hs iL)));rw[<-aR];have jS:n<=90000:=by omega
 have H0:Hid (Fp ab w (w.alloc (.map #[] 0))/\yK (w.alloc (.map #[] 0)) w.heap.size 0 (l.take 0)/\zJ (l.take 0)):=⟨aa w _,yK.made w,⟨λx hx=>by simp at hx,List.Pairwise.nil,λx hx=>by simp at hx⟩⟩
 clear hv hs hn aR iL aK;have jE:=@run_makeMap prog;go_enter func175,ntmps175
 go_wp2_with fail
 go_loopw [11] (λi wr=>∃k:Nat,k<=n/\i=.int .i64 k/\Hid (Fp ab w wr/\yK wr w.heap.size k (l.take k)/\zJ (l.take k))) (λi _=>n-(RowKit.intOf i).toNat)
 case atStart=>exact⟨0,Nat.zero_le _,rfl,H0⟩
 clear H0;obtain⟨k,hk,rfl,hR⟩:=hrel;rename_i wr _
 by_cases ay:k<n
 ·have aS:k<l.length:=by rw[<-HX.1];exact ay
  obtain⟨g,o,aY,e,_,_,_,aq⟩:=HX.2.1.at (by omega)
  injection e with e1 e2 e3
  subst e1 e3;clear e2;have aE:=(aq k aS).keep hR.1 id;have Ve:br=true->FU l[k]=true:=λh=>(HX.2.2.2.1 h).ok _ (List.getElem_mem aS)
  have WH:br=true->∀y∈l.take k,y.t=l[k].t->y.a=l[k].a:=λh y hy=>(HX.2.2.2.1 h).one y (List.take_subset _ _ hy) _ (List.getElem_mem aS)
  have Vf:br=true->∀h0:0<k,lt (l[k-1]'(by omega)).d l[k].d=true:=λh h0=>List.pairwise_iff_getElem.1 (HX.2.2.2.1 h).up (k-1) k (by omega) aS (by omega)
  have Vg:=λho hl ha=>Ms aS hR.2.2 ho hl ha
  have EX:=HX.2.2.1 _ (List.getElem_mem aS);have nK:l.take (k+1)=l.take k++[l[k]]:=List.take_succ_eq_append_getElem aS;have Vh:∀h0:0<k,wr.cell? ⟨g,o+(k-1)*3,none⟩=some (.string (B (l[k-1]'(by omega)).d)):=λh0=>((aq (k-1) (by omega)).keep hR.1 id).c0
  obtain⟨pd,iH⟩:∃pd:Bs,∀h0:0<k,(l[k-1]'(by omega)).d=pd:=by
   by_cases h0:0<k
   ·exact⟨(l[k-1]'(by omega)).d,λ_=>rfl⟩
   exact⟨[],λh=>absurd h h0⟩
  have sT:br=true->0<k->lt pd l[k].d=true:=λh h0=>by rw[<-iH h0];exact Vf h h0
  have ou:FU l[k]=true->(0<k->lt pd l[k].d=true)->(∀y∈l.take k,y.t=l[k].t->y.a=l[k].a)->zJ (l.take (k+1)):=λho hl ha=>Vg ho (λh0=>by rw[iH h0];exact hl h0) ha
  have dP:0<k->wr.cell? ⟨g,o+(k-1)*3,none⟩=some (.string (B pd)):=λh0=>by rw[<-iH h0];exact Vh h0
  clear iH Vf Vg Vh;obtain⟨x,hx⟩:∃x,x=l[k]:=⟨_,rfl⟩;rw[<-hx]at aE Ve WH sT ou EX nK;clear hx aq;obtain⟨xd,xt,xa⟩:=x;have c0:=aE.c0;have c1:=aE.c1;have c2:=aE.c2;unfold au at c0;simp only at c0 c1 c2 Ve WH sT ou EX nK
  have Pg:=λW=>cE xd W (cH EX (by omega))
  obtain⟨b1,bO⟩:∃b,(split xd).isSome=b:=⟨_,rfl⟩;obtain⟨b2,bW⟩:∃b,eZ xt=b:=⟨_,rfl⟩;obtain⟨b3,mc⟩:∃b,eZ xa=b:=⟨_,rfl⟩;have hoe:FU ⟨xd,xt,xa⟩=(b1 && b2 && b3):=by unfold FU nF;simp only;rw[bO,bW,mc]
  rw[hoe]at Ve ou;rw[bO]at Pg;have si:=λW=>my xt W
  rw[bW]at si;have QV:=λW=>my xa W
  rw[mc]at QV;have M9:=zI (yI Pg (yI si QV));have HN:=zI (yI Ve (yI WH (yI sT (yI ou (yI nK bW)))));have HL:=zI ay;have f1:=aa wr (.cells #[.string (B xd),.int .i64 xt,.int .i64 xa] TH);have K1:=zI (Kp.and (Kp.row (heap_alloc_new wr (.cells #[.string (B xd),.int .i64 xt,.int .i64 xa] TH))) (Kp.and (Kp.fp f1) (λW' f=>(hR.1.then (f1.then f)))))
  have Jv:=(Fp.refl ab (wr.alloc (.cells #[.string (B xd),.int .i64 xt,.int .i64 xa] TH))).drew;have Co:=zI Jv;have q3:((k:Int)<(n:Int))=True:=eq_true (by omega)
  have q4:(k<n)=True:=eq_true ay;clear aE aS ay Ve WH sT ou EX nK Pg bO bW mc hoe Jv f1 si QV;cases k with
  |zero=>
   clear dP;simp only[Nat.zero_mul,Nat.add_zero]at c0 c1 c2
   have HD:=zI (λW (f:Fp ab (wr.alloc (.cells #[.string (B xd),.int .i64 xt,.int .i64 xa] TH)) W)=>oh (K1 W f).1)
   go_wp2_with fail
   refine wp_region_held_drew (S:=(λW=>W.cell? ⟨wr.heap.size,0,none⟩=some (.string (B xd))/\W.cell? ⟨wr.heap.size,1,none⟩=some (.int .i64 xt)/\W.cell? ⟨wr.heap.size,2,none⟩=some (.int .i64 xa))) (by kernel_rfl) ?_ (λhH=>?_)
   ·exact HD _ Co.out
   refine cY 0 hH ?_;refine cY 1 hH ?_;refine rY 2 (λK hK=>?_)
   go_simp;refine(M9.1 _).mono ?_;rintro e w2⟨rfl,hf⟩;have F2:=zI (Co.then hf.fp);clear hf;go_wp2_with fail
   refine hK _ _ (HD _ F2.out) (λhH=>?_)
   clear hK K;try simp only[zz]
   cases b1 with
   |false=>
    refine cY 3 hH ?_;refine cY 4 hH ?_;refine bV 5 hH ?_;refine bV 6 hH ?_;refine bV 7 hH ?_;refine bV 8 hH ?_;refine cY 9 hH ?_;refine cY 10 hH ?_;refine bV 11 hH ?_;refine bV 12 hH ?_;refine bV 13 hH ?_;refine bV 14 hH ?_;refine cY 15 hH ?_;refine cY 16 hH ?_;refine bV 17 hH ?_;refine bV 18 hH ?_;refine bV 19 hH ?_;refine bV 20 hH ?_;refine bV 21 hH ?_;refine bV 22 hH ?_;refine bV 23 hH ?_;refine bV 24 hH ?_;refine bV 25 hH ?_;refine bV 26 hH ?_;refine bV 27 hH ?_;refine bV 28 hH ?_;refine bV 29 hH ?_;refine cY 30 hH ?_;refine yD ?_
    have yS:br=false:=by
     cases br with
     |false=>rfl
     |true=>have:=HN.1 rfl;simp at this
    subst yS;go_wp2;go_ret;exact⟨rfl,(K1 _ F2.out).2.2⟩
   |true=>?_
   refine cY 3 hH ?_;refine cY 4 hH ?_;refine cY 5 hH ?_;refine cY 6 hH ?_;refine rY 7 (λK hK=>?_)
   go_simp;refine(M9.2.1 _).mono ?_;rintro e w3⟨rfl,rfl⟩;go_wp2_with fail
   refine hK _ _ (HD _ F2.out) (λhH=>?_)
   clear hK K;try simp only[zz]
   cases b2 with
   |false=>
    refine cY 8 hH ?_;refine cY 9 hH ?_;refine cY 10 hH ?_;refine bV 11 hH ?_;refine bV 12 hH ?_;refine bV 13 hH ?_;refine bV 14 hH ?_;refine cY 15 hH ?_;refine cY 16 hH ?_;refine bV 17 hH ?_;refine bV 18 hH ?_;refine bV 19 hH ?_;refine bV 20 hH ?_;refine bV 21 hH ?_;refine bV 22 hH ?_;refine bV 23 hH ?_;refine bV 24 hH ?_;refine bV 25 hH ?_;refine bV 26 hH ?_;refine bV 27 hH ?_;refine bV 28 hH ?_;refine bV 29 hH ?_;refine cY 30 hH ?_;refine yD ?_
    have yS:br=false:=by
     cases br with
     |false=>rfl
     |true=>have:=HN.1 rfl;simp at this
    subst yS;go_wp2;go_ret;exact⟨rfl,(K1 _ F2.out).2.2⟩
   |true=>?_
   refine cY 8 hH ?_;refine cY 9 hH ?_;refine cY 10 hH ?_;refine cY 11 hH ?_;refine cY 12 hH ?_;refine rY 13 (λK hK=>?_)
   go_simp;refine(M9.2.2 _).mono ?_;rintro e w3⟨rfl,rfl⟩;go_wp2_with fail
   refine hK _ _ (HD _ F2.out) (λhH=>?_)
   clear hK K;try simp only[zz]
   cases b3 with
   |false=>
    refine cY 14 hH ?_;refine cY 15 hH ?_;refine cY 16 hH ?_;refine bV 17 hH ?_;refine bV 18 hH ?_;refine bV 19 hH ?_;refine bV 20 hH ?_;refine bV 21 hH ?_;refine bV 22 hH ?_;refine bV 23 hH ?_;refine bV 24 hH ?_;refine bV 25 hH ?_;refine bV 26 hH ?_;refine bV 27 hH ?_;refine bV 28 hH ?_;refine bV 29 hH ?_;refine cY 30 hH ?_;refine yD ?_
    have yS:br=false:=by
     cases br with
     |false=>rfl
     |true=>have:=HN.1 rfl;simp at this
    subst yS;go_wp2;go_ret;exact⟨rfl,(K1 _ F2.out).2.2⟩
   |true=>?_
   refine cY 14 hH ?_;refine cY 15 hH ?_;refine cY 16 hH ?_;refine cY 17 hH ?_;refine cY 18 hH ?_;refine cY 19 hH ?_;refine bV 20 hH ?_;refine bV 21 hH ?_;refine bV 22 hH ?_;refine bV 23 hH ?_;refine bV 24 hH ?_;refine bV 25 hH ?_;refine bV 26 hH ?_;refine bV 27 hH ?_;refine bV 28 hH ?_;refine cY 29 hH ?_;refine cY 30 hH ?_;refine yD ?_;have ES:(0<0->lt pd xd=true):=λh=>absurd h (Nat.lt_irrefl 0)
   have Vi:=zI ES;have hF:=F2.out;obtain⟨p0,p1,p2⟩:=oh (K1 _ hF).1;have Qt:=(hR.2.1.keep (S:=ab) ((aa wr (.cells #[.string (B xd),.int .i64 xt,.int .i64 xa] TH)).then hF) id);have sq:=Qt.look xt HN.2.2.2.2.2;obtain⟨lv,lb,Qu,Ir,Eu⟩:=sq;have vL:=zI (yI Qu (yI Ir (yI Eu Qt)));clear ES Qu Ir Eu Qt hF;cases lb with
   |true=>
    by_cases qM:lv=xa
    ·have ZK:(lv != xa)=false:=by simp[qM]
     have eQ:∀y∈l.take 0,y.t=xt->y.a=xa:=λy hy e=>by rw[<-vL.2.2.1 y hy e];exact qM
     have eR:=vL.2.2.2.Ca ⟨xd,xt,xa⟩ HN.2.2.2.2.2 (by have:=HL.out;omega) eQ
     have HU:=zI (yI eR eQ);clear eR eQ qM;go_wp2_with (first
     |(at_lookup;refine cf rfl E3 _ _ _ rfl _ _ _ rfl rfl vL.1 ?_)
     |(refine gO rfl E3 _ _ _ rfl _ _ _ rfl rfl rfl _ HU.1 ?_))
     intro w9 hU;have hM:Hid (Fp ab w w9/\yK w9 w.heap.size (0+1) (l.take (0+1))/\zJ (l.take (0+1))):=⟨((K1 _ F2.out).2.2).trans hU.fp (λj hj=>.inr (by rw[hj];exact Nat.le_refl _)),by rw[HN.2.2.2.2.1];exact hU.mp,HN.2.2.2.1 rfl Vi HU.2⟩
     have eJ:=HL.out;clear hU;go_wp2;go_roundw
     case rel=>exact⟨0+1,by omega,by go_num,hM⟩
     case measure=>simp[RowKit.intOf];omega
    have ZK:(lv != xa)=true:=by simp[qM]
    have yS:br=false:=by
     cases br with
     |false=>rfl
     |true=>?_
     obtain⟨y,hy,e⟩:=vL.2.1.1 rfl;exact absurd ((vL.2.2.1 y hy e).trans (HN.2.1 rfl y hy e)) qM
    subst yS;clear qM;go_wp2_with (at_lookup;refine cf rfl E3 _ _ _ rfl _ _ _ rfl rfl vL.1 ?_)
    go_ret;exact⟨rfl,(K1 _ F2.out).2.2⟩
   |false=>?_
   have eQ:∀y∈l.take 0,y.t=xt->y.a=xa:=λy hy e=>by have:=vL.2.1.2 ⟨y,hy,e⟩;cases this
   have eR:=vL.2.2.2.Ca ⟨xd,xt,xa⟩ HN.2.2.2.2.2 (by have:=HL.out;omega) eQ
   have HU:=zI (yI eR eQ);clear eR eQ
   go_wp2_with (first
    |(at_lookup;refine cf rfl E3 _ _ _ rfl _ _ _ rfl rfl vL.1 ?_)
    |(refine gO rfl E3 _ _ _ rfl _ _ _ rfl rfl rfl _ HU.1 ?_))
   intro w9 hU;have hM:Hid (Fp ab w w9/\yK w9 w.heap.size (0+1) (l.take (0+1))/\zJ (l.take (0+1))):=⟨((K1 _ F2.out).2.2).trans hU.fp (λj hj=>.inr (by rw[hj];exact Nat.le_refl _)),by rw[HN.2.2.2.2.1];exact hU.mp,HN.2.2.2.1 rfl Vi HU.2⟩
   have eJ:=HL.out;clear hU;go_wp2;go_roundw
   case rel=>exact⟨0+1,by omega,by go_num,hM⟩
   case measure=>simp[RowKit.intOf];omega
  |succ k=>?_
  have dP:=dP (Nat.succ_pos k);rw[Nat.add_sub_cancel]at dP;have HD:=zI (λW (f:Fp ab (wr.alloc (.cells #[.string (B xd),.int .i64 xt,.int .i64 xa] TH)) W)=>yI (oh (K1 W f).1).1 (yI (oh (K1 W f).1).2.1 (yI (oh (K1 W f).1).2.2 (((aa wr _).then f).cell dP id))))
  have q7:(k<n)=True:=eq_true (by have:=HL.out;omega)
  have q8:((k:Int)<(n:Int))=True:=eq_true (by have:=HL.out;omega)
  have q9:((0:Int)<(k:Int)+1)=True:=eq_true (by omega)
  have SF:((k:Int)+1<(n:Int))=True:=eq_true (by have:=HL.out;omega)
  have q11:IntKind.i64.wrap (k:Int)=(k:Int):=by rw[IntKind.wrap_i64];have:=HL.out;omega
  have q12:((0:Int)<=(k:Int))=True:=eq_true (by omega)
  clear dP;go_wp2_with fail
  refine wp_region_held_drew (S:=(λW=>W.cell? ⟨wr.heap.size,0,none⟩=some (.string (B xd))/\W.cell? ⟨wr.heap.size,1,none⟩=some (.int .i64 xt)/\W.cell? ⟨wr.heap.size,2,none⟩=some (.int .i64 xa)/\W.cell? ⟨g,o+k*3,none⟩=some (.string (B pd)))) (by kernel_rfl) ?_ (λhH=>?_)
  ·exact HD _ Co.out
  refine cY 0 hH ?_;refine cY 1 hH ?_;refine rY 2 (λK hK=>?_)
  go_simp;refine(M9.1 _).mono ?_;rintro e w2⟨rfl,hf⟩;have F2:=zI (Co.then hf.fp);clear hf;go_wp2_with fail
  refine hK _ _ (HD _ F2.out) (λhH=>?_)
  clear hK K;try simp only[zz]
  cases b1 with
  |false=>
   refine cY 3 hH ?_;refine cY 4 hH ?_;refine bV 5 hH ?_;refine bV 6 hH ?_;refine bV 7 hH ?_;refine bV 8 hH ?_;refine cY 9 hH ?_;refine cY 10 hH ?_;refine bV 11 hH ?_;refine bV 12 hH ?_;refine bV 13 hH ?_;refine bV 14 hH ?_;refine cY 15 hH ?_;refine cY 16 hH ?_;refine bV 17 hH ?_;refine bV 18 hH ?_;refine bV 19 hH ?_;refine bV 20 hH ?_;refine bV 21 hH ?_;refine bV 22 hH ?_;refine bV 23 hH ?_;refine bV 24 hH ?_;refine bV 25 hH ?_;refine bV 26 hH ?_;refine bV 27 hH ?_;refine bV 28 hH ?_;refine bV 29 hH ?_;refine cY 30 hH ?_;refine yD ?_
   have yS:br=false:=by
    cases br with
    |false=>rfl
    |true=>have:=HN.1 rfl;simp at this
   subst yS;go_wp2;go_ret;exact⟨rfl,(K1 _ F2.out).2.2⟩
  |true=>?_
  refine cY 3 hH ?_;refine cY 4 hH ?_;refine cY 5 hH ?_;refine cY 6 hH ?_;refine rY 7 (λK hK=>?_)
  go_simp;refine(M9.2.1 _).mono ?_;rintro e w3⟨rfl,rfl⟩;go_wp2_with fail
  refine hK _ _ (HD _ F2.out) (λhH=>?_)
  clear hK K;try simp only[zz]
  cases b2 with
  |false=>
   refine cY 8 hH ?_;refine cY 9 hH ?_;refine cY 10 hH ?_;refine bV 11 hH ?_;refine bV 12 hH ?_;refine bV 13 hH ?_;refine bV 14 hH ?_;refine cY 15 hH ?_;refine cY 16 hH ?_;refine bV 17 hH ?_;refine bV 18 hH ?_;refine bV 19 hH ?_;refine bV 20 hH ?_;refine bV 21 hH ?_;refine bV 22 hH ?_;refine bV 23 hH ?_;refine bV 24 hH ?_;refine bV 25 hH ?_;refine bV 26 hH ?_;refine bV 27 hH ?_;refine bV 28 hH ?_;refine bV 29 hH ?_;refine cY 30 hH ?_;refine yD ?_
   have yS:br=false:=by
    cases br with
    |false=>rfl
    |true=>have:=HN.1 rfl;simp at this
   subst yS;go_wp2;go_ret;exact⟨rfl,(K1 _ F2.out).2.2⟩
  |true=>?_
  refine cY 8 hH ?_;refine cY 9 hH ?_;refine cY 10 hH ?_;refine cY 11 hH ?_;refine cY 12 hH ?_;refine rY 13 (λK hK=>?_)
  go_simp;refine(M9.2.2 _).mono ?_;rintro e w3⟨rfl,rfl⟩;go_wp2_with fail
  refine hK _ _ (HD _ F2.out) (λhH=>?_)
  clear hK K;try simp only[zz]
  cases b3 with
  |false=>
   refine cY 14 hH ?_;refine cY 15 hH ?_;refine cY 16 hH ?_;refine bV 17 hH ?_;refine bV 18 hH ?_;refine bV 19 hH ?_;refine bV 20 hH ?_;refine bV 21 hH ?_;refine bV 22 hH ?_;refine bV 23 hH ?_;refine bV 24 hH ?_;refine bV 25 hH ?_;refine bV 26 hH ?_;refine bV 27 hH ?_;refine bV 28 hH ?_;refine bV 29 hH ?_;refine cY 30 hH ?_;refine yD ?_
   have yS:br=false:=by
    cases br with
    |false=>rfl
    |true=>have:=HN.1 rfl;simp at this
   subst yS;go_wp2;go_ret;exact⟨rfl,(K1 _ F2.out).2.2⟩
  |true=>?_
  refine cY 14 hH ?_;refine cY 15 hH ?_;refine cY 16 hH ?_;refine cY 17 hH ?_;refine cY 18 hH ?_;refine cY 19 hH ?_;refine cY 20 hH ?_;refine cY 21 hH ?_;refine cY 22 hH ?_;refine cY 23 hH ?_;refine cY 24 hH ?_;refine cY 25 hH ?_;refine cY 26 hH ?_;refine cY 27 hH ?_;refine cY 28 hH ?_;refine cY 29 hH ?_;refine cY 30 hH ?_;refine yD ?_;rw[Mt];cases SG:lt pd xd with
  |true=>
   have ES:(0<k+1->lt pd xd=true):=λ_=>SG
   have Vi:=zI ES;have hF:=F2.out;obtain⟨p0,p1,p2⟩:=oh (K1 _ hF).1;have Qt:=(hR.2.1.keep (S:=ab) ((aa wr (.cells #[.string (B xd),.int .i64 xt,.int .i64 xa] TH)).then hF) id);have sq:=Qt.look xt HN.2.2.2.2.2;obtain⟨lv,lb,Qu,Ir,Eu⟩:=sq;have vL:=zI (yI Qu (yI Ir (yI Eu Qt)));clear ES Qu Ir Eu Qt hF;cases lb with
   |true=>
    by_cases qM:lv=xa
    ·have ZK:(lv != xa)=false:=by simp[qM]
     have eQ:∀y∈l.take (k+1),y.t=xt->y.a=xa:=λy hy e=>by rw[<-vL.2.2.1 y hy e];exact qM
     have eR:=vL.2.2.2.Ca ⟨xd,xt,xa⟩ HN.2.2.2.2.2 (by have:=HL.out;omega) eQ
     have HU:=zI (yI eR eQ);clear eR eQ qM;go_wp2_with (first
     |(at_lookup;refine cf rfl E3 _ _ _ rfl _ _ _ rfl rfl vL.1 ?_)
     |(refine gO rfl E3 _ _ _ rfl _ _ _ rfl rfl rfl _ HU.1 ?_))
     intro w9 hU;have hM:Hid (Fp ab w w9/\yK w9 w.heap.size ((k+1)+1) (l.take ((k+1)+1))/\zJ (l.take ((k+1)+1))):=⟨((K1 _ F2.out).2.2).trans hU.fp (λj hj=>.inr (by rw[hj];exact Nat.le_refl _)),by rw[HN.2.2.2.2.1];exact hU.mp,HN.2.2.2.1 rfl Vi HU.2⟩
     have eJ:=HL.out;clear hU;go_wp2;go_roundw
     case rel=>exact⟨(k+1)+1,by omega,by go_num,hM⟩
     case measure=>simp[RowKit.intOf];omega
    have ZK:(lv != xa)=true:=by simp[qM]
    have yS:br=false:=by
     cases br with
     |false=>rfl
     |true=>?_
     obtain⟨y,hy,e⟩:=vL.2.1.1 rfl;exact absurd ((vL.2.2.1 y hy e).trans (HN.2.1 rfl y hy e)) qM
    subst yS;clear qM;go_wp2_with (at_lookup;refine cf rfl E3 _ _ _ rfl _ _ _ rfl rfl vL.1 ?_)
    go_ret;exact⟨rfl,(K1 _ F2.out).2.2⟩
   |false=>?_
   have eQ:∀y∈l.take (k+1),y.t=xt->y.a=xa:=λy hy e=>by have:=vL.2.1.2 ⟨y,hy,e⟩;cases this
   have eR:=vL.2.2.2.Ca ⟨xd,xt,xa⟩ HN.2.2.2.2.2 (by have:=HL.out;omega) eQ
   have HU:=zI (yI eR eQ);clear eR eQ
   go_wp2_with (first
    |(at_lookup;refine cf rfl E3 _ _ _ rfl _ _ _ rfl rfl vL.1 ?_)
    |(refine gO rfl E3 _ _ _ rfl _ _ _ rfl rfl rfl _ HU.1 ?_))
   intro w9 hU;have hM:Hid (Fp ab w w9/\yK w9 w.heap.size ((k+1)+1) (l.take ((k+1)+1))/\zJ (l.take ((k+1)+1))):=⟨((K1 _ F2.out).2.2).trans hU.fp (λj hj=>.inr (by rw[hj];exact Nat.le_refl _)),by rw[HN.2.2.2.2.1];exact hU.mp,HN.2.2.2.1 rfl Vi HU.2⟩
   have eJ:=HL.out;clear hU;go_wp2;go_roundw
   case rel=>exact⟨(k+1)+1,by omega,by go_num,hM⟩
   case measure=>simp[RowKit.intOf];omega
  |false=>?_
  have yS:br=false:=by
   cases br with
   |false=>rfl
   |true=>have:=HN.2.2.1 rfl (Nat.succ_pos k);rw[SG]at this;cases this
  subst yS;go_wp2;go_ret;exact⟨rfl,(K1 _ F2.out).2.2⟩
 have cV:k=n:=by omega
 subst cV;have q3:((k:Int)<(k:Int))=False:=eq_false (by omega)
 have C0:=hR.2.2;rw[HX.1,List.take_length]at C0;have hbt:br=true:=HX.2.2.2.2 C0;subst hbt;clear ay hk C0;go_wp2;go_ret;exact⟨rfl,hR.1⟩
end Go.Proofs.YtgafcelloiagmaaGreatDoor
