/- A text of this proof. -/
import Derived.Test.YtgafcelloiagmaaGreatDoorZCBG
set_option maxHeartbeats 16000000
set_option linter.unusedSimpArgs false
set_option linter.unusedVariables false
set_option maxRecDepth 20000
namespace Go.Proofs.YtgafcelloiagmaaGreatDoor
open Go.Proofs.Tryz
open Go.RowKit Pm
theorem Ky(v:Value)(d:Wd)(w:World)(hv:yZ w v d)(hz:Sa d):
  Calls prog 205 #[v] w λe w'=>e=.returned (.bool (eF d))/\Fp ab w w':=by
 obtain⟨vw,vs,rfl,hw,hs⟩:=hv.ex;obtain⟨aw,cw,rfl⟩:=hw.shape;obtain⟨at_,cs,rfl⟩:=hs.shape;clear hv;have jS:=hz.w;have GH:=hz.s;obtain⟨br,aK⟩:∃b,eF d=b:=⟨_,rfl⟩;rw[aK]
 have iL:br=true↔d.ws.length<=64/\(∀i,i<d.ws.length->mH d.ws i=true)/\∀i,i<d.ss.length->mI d.ss i=true:=by
  rw[<-aK];unfold eF;exact decide_eq_true_iff
 obtain⟨n,hn⟩:∃n,n=d.ws.length:=⟨_,rfl⟩;obtain⟨m,hm⟩:∃n,n=d.ss.length:=⟨_,rfl⟩;have HN:=zI (yI hn hm);rw[<-hn]at hw jS|-;rw[<-hm]at hs GH|-;have HR:=zI iL;have HX:=zI (yI hw (yI hs hz));have bZ:=aa w (.cells #[.slice aw n cw,.slice at_ m cs] TD);have r0:=heap_alloc_new w (.cells #[.slice aw n cw,.slice at_ m cs] TD);have K0:=zI (Kp.and (Kp.fp bZ) (Kp.row r0));clear hw hs hz hn hm bZ r0 aK iL;go_enter func205,ntmps205
 by_cases h64:n<=64
 ·have t1:((64:Int)<(n:Int))=False:=eq_false (by omega)
  go_wp2_with fail
  go_loopw [14] (λi wr=>∃k:Nat,k<=n/\i=.int .i64 k/\Hid (Kp (λW'=>Fp ab w W'/\W'.heap[w.heap.size]?=some (.cells #[.slice aw n cw,.slice at_ m cs] TD (0,0))) wr/\∀j,j<d.ws.length->j<k->mH d.ws j=true)) (λi _=>n-(RowKit.intOf i).toNat)
  case atStart=>exact⟨0,Nat.zero_le _,rfl,K0.out,λj _ h=>absurd h (Nat.not_lt_zero j)⟩
  obtain⟨k,hk,rfl,hR⟩:=hrel;rename_i wr _
  by_cases ay:k<n
  ·have aS:k<d.ws.length:=by rw[<-HN.1];exact ay
   obtain⟨g,o,aY,e,eN,fG,oZ,aq⟩:=HX.1.at (by omega)
   injection e with e1 e2 e3
   subst e1 e3;clear e2;have aE:=(aq k aS).keep hR.1.now.1 id;have MZ:=HX.1.take k cw (by omega) (by omega) fG oZ
   have wi:mH d.ws k=(Dj d.ws[k] && !(d.ws.take k).any (hit d.ws[k].s d.ws[k].n)):=by unfold mH;rw[dif_pos aS]
   have cC:=HX.2.2.wp _ (List.getElem_mem aS)
   have eT:mH d.ws k=false->br=false:=λh=>by
    cases br with
    |false=>rfl
    |true=>have:=(HR.1 rfl).2.1 k aS;rw[h]at this;cases this
   have ga:mH d.ws k=true->∀j,j<d.ws.length->j<k+1->mH d.ws j=true:=λh j hj rJ=>by
    rcases Nat.lt_or_eq_of_le (show j<=k by omega) with e|e
    ·exact hR.2 j hj e
    subst e;exact h
   rw[wi]at eT ga;have EO:=λw=>uK d.ws[k] w cC
   clear aq wi;generalize d.ws[k]=x at *;obtain⟨xs,xn,xp,xd⟩:=x;have c0:=aE.c0;have c1:=aE.c1;have c2:=aE.c2;have c3:=aE.c3;unfold BW au at EO;unfold au at c2;simp only at c0 c1 c2 c3 eT ga EO
   obtain⟨b1,bO⟩:∃b,Dj ⟨xs,xn,xp,xd⟩=b:=⟨_,rfl⟩;rw[bO]at EO eT ga;have fF:Sb (d.ws.take k):=λy hy=>HX.2.2.wp y (List.take_subset _ _ hy)
   have eQ:=λW (f:Fp ab w W) (q:Wt->Bool) (fv:Value) (hq:Gj ab W fv q)=>oA _ fv _ q W (MZ.af f) fF hq (by rw[List.length_take];omega)
   obtain⟨b2,bW⟩:∃b,(d.ws.take k).any (hit xs xn)=b:=⟨_,rfl⟩;rw[bW]at eT ga;have HCO:=zI (yI eQ bW);have Vv:=zI EO;have HG:=zI (yI eT ga);have HL:=zI (yI aS ay);have K1:=zI (Kp.and (Kp.row (heap_alloc_new wr (.cells #[.int .i64 xs,.int .i64 xn,.string (B xp),.bool xd] TW))) (hR.1.later (aa wr (.cells #[.int .i64 xs,.int .i64 xn,.string (B xp),.bool xd] TW))));have HD:=zI (λW (f:Fp ab (wr.alloc (.cells #[.int .i64 xs,.int .i64 xn,.string (B xp),.bool xd] TW)) W)=>yI (j6 (K1 W f).1).1 (yI (j6 (K1 W f).1).2.1 (yI (j6 (K1 W f).1).2.2.1 (yI (j6 (K1 W f).1).2.2.2 (aI (K1 W f).2.2).1))))
   have q5:((k:Int)<(n:Int))=True:=eq_true (by omega)
   have q6:(k<n)=True:=eq_true ay;have q7:(k<=cw)=True:=eq_true (by omega)
   have q8:((k:Int)<=(cw:Int))=True:=eq_true (by omega)
   have Jv:=(Fp.refl ab (wr.alloc (.cells #[.int .i64 xs,.int .i64 xn,.string (B xp),.bool xd] TW))).drew;have Co:=zI Jv;clear aE aS ay cC eT ga EO bO bW fF eQ MZ eN Jv;go_wp2_with fail
   refine wp_region_held_drew (S:=(λW=>W.cell? ⟨wr.heap.size,0,none⟩=some (.int .i64 xs)/\W.cell? ⟨wr.heap.size,1,none⟩=some (.int .i64 xn)/\W.cell? ⟨wr.heap.size,2,none⟩=some (.string (B xp))/\W.cell? ⟨wr.heap.size,3,none⟩=some (.bool xd)/\W.cell? ⟨w.heap.size,0,none⟩=some (.slice (some ⟨g,o,none⟩) n cw))) (by kernel_rfl) ?_ (λhH=>?_)
   ·exact HD _ Co.out
   refine aF 0 hH ?_;refine rY 1 (λK hK=>?_)
   go_simp;refine(Vv _).mono ?_;rintro e w2⟨rfl,hf⟩;have F2:=zI (Co.then hf);clear hf;go_wp2_with fail
   refine hK _ _ (HD _ F2.out) (λhH=>?_)
   clear hK K;try simp only[zz]
   cases b1 with
   |false=>
    refine aF 2 hH ?_;refine aF 3 hH ?_;refine gv 4 hH ?_;refine gv 5 hH ?_;refine gv 6 hH ?_;refine gv 7 hH ?_;refine gv 8 hH ?_;refine gv 9 hH ?_;refine gv 10 hH ?_;refine gv 11 hH ?_;refine gv 12 hH ?_;refine gv 13 hH ?_;refine aF 14 hH ?_;refine yD ?_;obtain rfl:=HG.1 (by simp)
    go_wp2;go_ret;exact⟨rfl,(K1 _ F2.out).2.1⟩
   |true=>?_
   refine aF 2 hH ?_;refine aF 3 hH ?_;refine aF 4 hH ?_;refine aF 5 hH ?_;refine aF 6 hH ?_;refine aF 7 hH ?_;refine aF 8 hH ?_;refine aF 9 hH ?_;refine aF 10 hH ?_;refine aF 11 hH ?_;refine rY 12 (λK hK=>?_)
   go_simp;refine(zR xs xn _).mono ?_;rintro e w3 hN;obtain⟨h1,h2,rfl,hh1,Vm,hh3,hh4⟩:=hN.ex;have F3:=zI (F2.then hN.fp);have HP:=zI (Ox w3 h1 h2 xs xn hh3 hh4 ab id id);clear hN hh1 Vm hh3 hh4;go_wp2_with fail
   refine hK _ _ (HD _ F3.out) (λhH=>?_)
   clear hK K;try simp only[zz]
   refine rY 13 (λK hK=>?_)
   go_simp;refine(HCO.1 _ (K1 _ F3.out).2.1 _ _ HP.out).mono ?_;rintro e w4⟨rfl,hf⟩;have F4:=zI (F3.then hf);rw[HCO.2];clear hf;go_wp2_with fail
   refine hK _ _ (HD _ F4.out) (λhH=>?_)
   clear hK K;try simp only[zz]
   refine aF 14 hH ?_;refine yD ?_;cases b2 with
   |true=>
    obtain rfl:=HG.1 (by simp)
    go_wp2;go_ret;exact⟨rfl,(K1 _ F4.out).2.1⟩
   |false=>?_
   have hM:Hid (Kp (λW'=>Fp ab w W'/\W'.heap[w.heap.size]?=some (.cells #[.slice (some ⟨g,o,none⟩) n cw,.slice at_ m cs] TD (0,0))) w4/\∀j,j<d.ws.length->j<k+1->mH d.ws j=true):=⟨λW f=>(K1 W (F4.then f)).2,HG.2 rfl⟩
   have eJ:=HL.2;clear HG;go_wp2;go_roundw
   case rel=>exact⟨k+1,by omega,by go_num,hM⟩
   case measure=>simp[RowKit.intOf];omega
  have cV:k=n:=by omega
  subst cV;have q5:((k:Int)<(k:Int))=False:=eq_false (by omega)
  obtain⟨p0,p1⟩:=aI hR.1.now.2;have HA:=zI (show ∀i,i<d.ws.length->mH d.ws i=true from λi hi=>hR.2 i hi (by rw[HN.1];exact hi))
  clear ay hk;go_wp2_with fail
  obtain⟨L,hL,hv,he⟩:=HX.2.1.ex;have hLm:L.length=m:=by rw[HN.2,<-hL,List.length_map]
  have SC:=zI (yI hL (yI hLm (yI hv he)));have K2:=zI hR.1;clear hL hLm hv he hR p0 p1;go_loopw [38] (λi wr=>∃j:Nat,j<=m/\i=.int .i64 j/\Hid (Kp (λW'=>Fp ab w W'/\W'.heap[w.heap.size]?=some (.cells #[.slice aw k cw,.slice at_ m cs] TD (0,0))) wr/\∀i,i<d.ss.length->i<j->mI d.ss i=true)) (λi _=>m-(RowKit.intOf i).toNat)
  case atStart=>exact⟨0,Nat.zero_le _,rfl,K2.out,λj _ h=>absurd h (Nat.not_lt_zero j)⟩
  clear K2;obtain⟨j,hj,rfl,hR⟩:=hrel;rename_i wr _
  by_cases ay:j<m
  ·have SD:j<L.length:=by rw[SC.2.1];exact ay
   have Mu:j<d.ss.length:=by rw[<-HN.2];exact ay
   have nJ:d.ss[j]=L[j].s:=by simp only[<-SC.1,List.getElem_map]
   obtain⟨g,o,aY,e,eN,fG,oZ,aq⟩:=SC.2.2.1.at (by omega)
   injection e with e1 e2 e3
   subst e1 e3;clear e2;have aE:=(aq j SD).keep hR.1.now.1 id;have mG:=SC.2.2.2 _ (List.getElem_mem SD);have db:=HX.2.2.sp d.ss[j] (List.getElem_mem Mu);rw[nJ]at db;have wi:mI d.ss j=(xh d.ss[j] && (if h0:0<j then decide (d.ss[j-1].num<d.ss[j].num) else true)):=by unfold mI;rw[dif_pos Mu]
   rw[nJ]at wi;obtain⟨pb,N2⟩:∃b,(if h0:0<j then decide ((d.ss[j-1]'(by omega)).num<L[j].s.num) else true)=b:=⟨_,rfl⟩
   rw[N2]at wi
   have eT:mI d.ss j=false->br=false:=λh=>by
    cases br with
    |false=>rfl
    |true=>have:=(HR.1 rfl).2.2 j Mu;rw[h]at this;cases this
   have ga:mI d.ss j=true->∀i,i<d.ss.length->i<j+1->mI d.ss i=true:=λh i hi NK=>by
    rcases Nat.lt_or_eq_of_le (show i<=j by omega) with e|e
    ·exact hR.2 i hi e
    subst e;exact h
   rw[wi]at eT ga;have EO:=λW (f:Fp ab w W)=>qw L[j] W (mG.af f) db.1 db.2
   have HL:=zI (yI SD (yI ay Mu));have SE:=zI aq;clear wi mG db;generalize L[j]=x at *;obtain⟨⟨xs,xn,xe⟩,xa,xc⟩:=x;have c0:=aE.c0;have c1:=aE.c1;have c2:=aE.c2;unfold aU.ev at c2;unfold Oz aU.ev at EO;simp only at c0 c1 c2 eT ga EO
   obtain⟨xl,uQ⟩:∃n,n=xe.length:=⟨_,rfl⟩;rw[<-uQ]at c2 EO;obtain⟨b1,bO⟩:∃b,xh ⟨xs,xn,xe⟩=b:=⟨_,rfl⟩;rw[bO]at EO eT ga;have Vv:=zI EO;have HG:=zI (yI eT ga);have K1:=zI (Kp.and (Kp.row (heap_alloc_new wr (.cells #[.int .i64 xs,.int .i64 xn,.slice xa xl xc] TV))) (hR.1.later (aa wr (.cells #[.int .i64 xs,.int .i64 xn,.slice xa xl xc] TV))));have q5:((j:Int)<(m:Int))=True:=eq_true (by omega)
   have q6:(j<m)=True:=eq_true ay;have Jv:=(Fp.refl ab (wr.alloc (.cells #[.int .i64 xs,.int .i64 xn,.slice xa xl xc] TV))).drew;have Co:=zI Jv;simp only at N2
   clear aE ay eT ga EO bO aq eN Jv nJ uQ;cases j with
   |zero=>
    have HD:=zI (λW (f:Fp ab (wr.alloc (.cells #[.int .i64 xs,.int .i64 xn,.slice xa xl xc] TV)) W)=>yI (nH (K1 W f).1).1 (yI (nH (K1 W f).1).2.1 (nH (K1 W f).1).2.2))
    have cG:pb=true:=by simpa using N2.symm
    subst cG;clear N2 SD Mu;simp only[Nat.zero_mul,Nat.add_zero]at c0 c1 c2
    have q7:((0:Int)<(m:Int))=True:=eq_true (by have:=HL.2.1;omega)
    go_wp2_with fail
    refine wp_region_held_drew (S:=(λW=>W.cell? ⟨wr.heap.size,0,none⟩=some (.int .i64 xs)/\W.cell? ⟨wr.heap.size,1,none⟩=some (.int .i64 xn)/\W.cell? ⟨wr.heap.size,2,none⟩=some (.slice xa xl xc))) (by kernel_rfl) ?_ (λhH=>?_)
    ·exact HD _ Co.out
    refine aF 0 hH ?_;refine rY 1 (λK hK=>?_)
    go_simp;refine(Vv _ (K1 _ Co.out).2.1).mono ?_;rintro e w2⟨rfl,hf⟩;have F2:=zI (Co.then hf);clear hf;go_wp2_with fail
    refine hK _ _ (HD _ F2.out) (λhH=>?_)
    clear hK K;try simp only[zz]
    cases b1 with
    |false=>
     refine aF 2 hH ?_;refine aF 3 hH ?_;refine gv 4 hH ?_;refine gv 5 hH ?_;refine gv 6 hH ?_;refine gv 7 hH ?_;refine gv 8 hH ?_;refine gv 9 hH ?_;refine gv 10 hH ?_;refine gv 11 hH ?_;refine gv 12 hH ?_;refine gv 13 hH ?_;refine gv 14 hH ?_;refine gv 15 hH ?_;refine gv 16 hH ?_;refine gv 17 hH ?_;refine aF 18 hH ?_;refine yD ?_;obtain rfl:=HG.1 (by simp[*])
     go_wp2;go_ret;exact⟨rfl,(K1 _ F2.out).2.1⟩
    |true=>?_
    refine aF 2 hH ?_;refine aF 3 hH ?_;refine aF 4 hH ?_;refine aF 5 hH ?_;refine aF 6 hH ?_;refine gv 7 hH ?_;refine gv 8 hH ?_;refine gv 9 hH ?_;refine gv 10 hH ?_;refine gv 11 hH ?_;refine gv 12 hH ?_;refine gv 13 hH ?_;refine gv 14 hH ?_;refine gv 15 hH ?_;refine gv 16 hH ?_;refine aF 17 hH ?_;refine aF 18 hH ?_;refine yD ?_;have hM:Hid (Kp (λW'=>Fp ab w W'/\W'.heap[w.heap.size]?=some (.cells #[.slice aw k cw,.slice (some ⟨g,o,none⟩) m cs] TD (0,0))) w2/\∀q,q<d.ss.length->q<0+1->mI d.ss q=true):=⟨λW f=>(K1 W (F2.then f)).2,HG.2 (by simp[*])⟩
    have eJ:=HL.2.1;clear HG;go_wp2;go_roundw
    case rel=>exact⟨0+1,by omega,by go_num,hM⟩
    case measure=>simp[RowKit.intOf];omega
   |succ i=>?_
   have kX:i<L.length:=by omega
   have iH:=(SE i kX).keep hR.1.now.1 id;have Jo:(d.ss[i+1-1]'(by omega)).num=L[i].s.num:=by simp only[<-SC.1,List.getElem_map,Nat.add_sub_cancel]
   obtain⟨pn,lQ⟩:∃p,p=L[i].s.num:=⟨_,rfl⟩;have XD:pb=decide (pn<xs):=by rw[<-N2,dif_pos (Nat.succ_pos i),Jo,<-lQ]
   subst XD;have EP:=iH.c0;rw[<-lQ]at EP;have HD:=zI (λW (f:Fp ab (wr.alloc (.cells #[.int .i64 xs,.int .i64 xn,.slice xa xl xc] TV)) W)=>yI (nH (K1 W f).1).1 (yI (nH (K1 W f).1).2.1 (yI (nH (K1 W f).1).2.2 (yI (aI (K1 W f).2.2).2 (((aa wr _).then f).cell EP id)))))
   have q7:(i<m)=True:=eq_true (by omega)
   have q8:((i:Int)<(m:Int))=True:=eq_true (by omega)
   have q9:((0:Int)<(i:Int)+1)=True:=eq_true (by omega)
   have SF:((i:Int)+1<(m:Int))=True:=eq_true (by have:=HL.2.1;omega)
   have q11:IntKind.i64.wrap (i:Int)=(i:Int):=by rw[IntKind.wrap_i64];omega
   have q12:((0:Int)<=(i:Int))=True:=eq_true (by omega)
   clear N2 SD Mu kX iH Jo lQ EP;go_wp2_with fail
   refine wp_region_held_drew (S:=(λW=>W.cell? ⟨wr.heap.size,0,none⟩=some (.int .i64 xs)/\W.cell? ⟨wr.heap.size,1,none⟩=some (.int .i64 xn)/\W.cell? ⟨wr.heap.size,2,none⟩=some (.slice xa xl xc)/\W.cell? ⟨w.heap.size,1,none⟩=some (.slice (some ⟨g,o,none⟩) m cs)/\W.cell? ⟨g,o+i*3,none⟩=some (.int .i64 pn))) (by kernel_rfl) ?_ (λhH=>?_)
   ·exact HD _ Co.out
   refine aF 0 hH ?_;refine rY 1 (λK hK=>?_)
   go_simp;refine(Vv _ (K1 _ Co.out).2.1).mono ?_;rintro e w2⟨rfl,hf⟩;have F2:=zI (Co.then hf);clear hf;go_wp2_with fail
   refine hK _ _ (HD _ F2.out) (λhH=>?_)
   clear hK K;try simp only[zz]
   cases b1 with
   |false=>
    refine aF 2 hH ?_;refine aF 3 hH ?_;refine gv 4 hH ?_;refine gv 5 hH ?_;refine gv 6 hH ?_;refine gv 7 hH ?_;refine gv 8 hH ?_;refine gv 9 hH ?_;refine gv 10 hH ?_;refine gv 11 hH ?_;refine gv 12 hH ?_;refine gv 13 hH ?_;refine gv 14 hH ?_;refine gv 15 hH ?_;refine gv 16 hH ?_;refine gv 17 hH ?_;refine aF 18 hH ?_;refine yD ?_;obtain rfl:=HG.1 (by simp[*])
    go_wp2;go_ret;exact⟨rfl,(K1 _ F2.out).2.1⟩
   |true=>?_
   refine aF 2 hH ?_;refine aF 3 hH ?_;refine aF 4 hH ?_;refine aF 5 hH ?_;refine aF 6 hH ?_;refine aF 7 hH ?_;refine aF 8 hH ?_;refine aF 9 hH ?_;refine aF 10 hH ?_;refine aF 11 hH ?_;refine aF 12 hH ?_;refine aF 13 hH ?_;refine aF 14 hH ?_;refine aF 15 hH ?_;refine aF 16 hH ?_;refine aF 17 hH ?_;refine aF 18 hH ?_;refine yD ?_;by_cases SG:pn<xs
   ·have lq:(xs<=pn)=False:=eq_false (by omega)
    have hM:Hid (Kp (λW'=>Fp ab w W'/\W'.heap[w.heap.size]?=some (.cells #[.slice aw k cw,.slice (some ⟨g,o,none⟩) m cs] TD (0,0))) w2/\∀q,q<d.ss.length->q<(i+1)+1->mI d.ss q=true):=⟨λW f=>(K1 W (F2.then f)).2,HG.2 (by simp[*])⟩
    have eJ:=HL.2.1;clear HG;go_wp2;go_roundw
    case rel=>exact⟨(i+1)+1,by omega,by go_num,hM⟩
    case measure=>simp[RowKit.intOf];omega
   have lq:(xs<=pn)=True:=eq_true (by omega)
   obtain rfl:=HG.1 (by simp[*])
   go_wp2;go_ret;exact⟨rfl,(K1 _ F2.out).2.1⟩
  have OL:j=m:=by omega
  subst OL;have q5:((j:Int)<(j:Int))=False:=eq_false (by omega)
  have hb:=HR.2 ⟨by rw[<-HN.1];exact h64,HA.out,λi hi=>hR.2 i hi (by rw[HN.2];exact hi)⟩
  subst hb;clear ay hj;go_wp2;go_ret;exact⟨rfl,hR.1.now.1⟩
 have t1:((64:Int)<(n:Int))=True:=eq_true (by omega)
 have hb:br=false:=by
  cases br with
  |false=>rfl
  |true=>exact absurd ((HR.1 rfl).1) (by rw[<-HN.1];exact h64)
 subst hb;go_wp2;go_ret;exact⟨rfl,K0.now.1⟩
end Go.Proofs.YtgafcelloiagmaaGreatDoor
