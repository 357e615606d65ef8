/- A text of this proof. -/
import Derived.Test.YtgafcelloiagmaaGreatDoorZCN
import Derived.Test.YtgafcelloiagmaaGreatDoorZCQ
set_option maxHeartbeats 16000000
set_option linter.unusedSimpArgs false
set_option linter.unusedVariables false
set_option maxRecDepth 20000
namespace Go.Proofs.YtgafcelloiagmaaGreatDoor
open Go.Proofs.Tryz
section
open Go.RowKit Pm
def rU(b:Nat)(vn vt:Value):Nat->Prop:=λk=>k=b\/vn.ownBlock=some k\/vt.ownBlock=some k
theorem bT{p:Bs}(h:(split p).isSome=true):p.length<=100:=by
 obtain⟨ps,dH⟩:=Option.isSome_iff_exists.1 h;obtain⟨hP,e⟩:=(bL _ _).1 dH;have:=dK hP;rw[e]at this;exact this
theorem dh.sp{s:St}(h:dh s):Sp s.nodes:=λn hn=>by
 have:=bT ((gE n).1 (h.fit n hn)).1;omega
theorem Pd.sub{S T:Nat->Prop}{wc:World}{f:Value}{q:Nd->Bool}(h:Pd S wc f q)(k:∀i,T i->S i):Pd T wc f q:=by
 obtain⟨kf,fi,cap,e,h1,h2⟩:=h.ex;exact⟨kf,fi,cap,e,h1,λn w1 hn hf=>h2 n w1 hn (hf.mono k)⟩
theorem jV{lo:Nat}{w:World}{v f:Value}{l:List Nd}{q:Nd->Bool}(h:Ow lo w v l)(hs:Sp l)(hq:Pd (λk=>v.ownBlock=some k) w f q)(hl:l.length<=4000):
  Calls prog 222 #[v,f] w λe w'=>∃v',e=.returned v'/\Jw lo w v (l.filter (λn=>!q n)) v' w':=by
 rcases h.ways with⟨rfl,rfl⟩|⟨G,cap,rfl,h1,h2⟩
 ·have HI:=zI (ky (.slice none 0 0) f [] q w (Ns.nil w) hs hq.af (by simp))
  obtain⟨kf,fi,fc,rfl,gU,bB⟩:=hq.ex;clear hq bB h hs hl;go_enter func222,ntmps222
  go_wp2_with fail
  refine HI.mono ?_;rintro e w1⟨⟨z,rfl,hz⟩,cv⟩;rcases hz with⟨rfl,hz⟩|⟨i,rfl,kX,hqi,hz⟩
  ·have HF:=zI cv
   clear cv hz;go_wp2;go_ret;exact⟨_,rfl,Ow.nil _ _,HF.any,λk hk=>.inl hk⟩
  simp at kX
 refine(vC h1 hs (hq.sub (λi hi=>by rw[hi];rfl)) hl).mono ?_
 rintro e w'⟨v',rfl,hR⟩;obtain rfl:=hR.v;exact⟨_,rfl,Ow.row hR.row h2,hR.fp.mono (λk hk=>by rw[hk];rfl),λk hk=>.inl hk⟩
theorem oq{lo b:Nat}{vn vt:Value}{s:St}{w:World}{f:Value}{q:Nd->Bool}(h:Sw lo b vn vt s w)(hs:Sp s.nodes)(hq:Pd ab w f q)(hl:s.nodes.length<=4000):
  Calls prog 226 #[.pointer (some ⟨b,0,none⟩),f] w λe w'=>∃v',e=.returned v'/\Own w.heap.size w' v' ((s.nodes.filter q).map (λn=>last n.path))/\Fp ab w w':=by
 have c0:=h.c0;have Gm:=h.own.ns;obtain⟨n,hn⟩:∃n,n=s.nodes.length:=⟨_,rfl⟩;obtain⟨kf,fi,fc,rfl,gU,bB⟩:=hq.ex;obtain⟨wE,vcp,rfl⟩:=Gm.shape;rw[<-hn]at c0;have HX:=zI (yI hn (yI hs (yI bB Gm)));have AD:n<=4000:=by omega
 have H0:Hid (Own w.heap.size w (.slice none 0 0) (((s.nodes.take 0).filter q).map (λn=>last n.path))/\Fp ab w w):=⟨by rw[List.take_zero];exact Own.nil _ _,Fp.refl _ _⟩
 clear hq bB h hs hn hl Gm;go_enter func226,ntmps226
 go_wp2_with fail
 go_loopw [5,13] (λv i wr=>∃k:Nat,k<=n/\i=.int .i64 k/\Hid (Own w.heap.size wr v (((s.nodes.take k).filter q).map (λn=>last n.path))/\Fp ab w wr)) (λ_ i _=>n-(RowKit.intOf i).toNat)
 case atStart=>exact⟨0,Nat.zero_le _,rfl,H0⟩
 clear H0;obtain⟨k,hk,rfl,hR⟩:=hrel;rename_i wr _
 by_cases ay:k<n
 ·have aS:k<s.nodes.length:=by rw[<-HX.1];exact ay
  obtain⟨g,og,aY,e9,_,_,_,aq⟩:=HX.2.2.2.at (by omega)
  injection e9 with e1 e2 e3
  subst e1 e3;have aE:=(aq k aS).keep hR.2 id;clear aq;have cO:=kN s.nodes k aS q;have dy:=λw1 hf=>HX.2.2.1 s.nodes[k] w1 (HX.2.1 _ (List.getElem_mem aS)) hf
  have fF:=HX.2.1 _ (List.getElem_mem aS);obtain⟨b,hb⟩:∃b,q s.nodes[k]=b:=⟨_,rfl⟩;rw[hb]at dy cO;clear hb;generalize s.nodes[k]=x at *;have fB:=dM.box wr x;have Eu:=λw=>Is x.path w (cH fF (by omega))
  have c0:=aE.c0;have c1:=aE.c1;have c2:=aE.c2;have c3:=aE.c3;have c4:=aE.c4;unfold au at c0 c1;unfold vO au at dy;have q3:((k:Int)<(n:Int))=True:=eq_true (by omega)
  have q4:(k<n)=True:=eq_true ay;have uR:=zI dy;have HLA:=zI Eu;have HB:=zI (yI cO fB);have HL:=zI ay;clear aE dy cO fB aS ay Eu fF;go_wp2_with fail
  rw[gU _ _];go_wp2_with fail
  refine(uR _ (hR.2.trans ((Fp.refl ab wr).alloc _) (λ_ h=>h.elim))).mono ?_
  rintro e w2⟨rfl,bY⟩;have Ew:Fp ab wr w2:=((Fp.refl ab wr).alloc _).then bY;have yi:=(HB.2.keep bY id).UJ;have eA:Own w.heap.size w2 _ _:=hR.1.dU Ew;cases b with
  |false=>
   have hM:Hid (Own w.heap.size w2 _ (((s.nodes.take (k+1)).filter q).map (λn=>last n.path))/\Fp ab w w2):=⟨by rw[HB.1];simpa using eA,hR.2.then Ew⟩
   have Ju:=HL.out;clear bY yi eA Ew;go_wp2;go_roundw
   case rel=>exact⟨k+1,by omega,by go_num,hM⟩
   case measure=>simp[RowKit.intOf];omega
  |true=>?_
  obtain⟨b0,_,_,_,_⟩:=yi;have HO2:=zI (yI eA (yI (hR.2.then Ew) Ew));clear bY eA Ew;go_wp2_with fail
  refine(HLA _).mono ?_;rintro e w3⟨rfl,g3⟩;have jW:Own w.heap.size w3 _ _:=HO2.1.dU g3.fp;have Qf:Fp ab w w3:=HO2.2.1.then g3.fp;obtain⟨ps,dH⟩:∃ps,ps=((s.nodes.take k).filter q).map (λn=>last n.path):=⟨_,rfl⟩
  rw[<-dH]at jW;have cC:ps.length<=4000:=by rw[dH,List.length_map];exact Nat.le_trans (List.length_filter_le _ _) (by rw[List.length_take];omega)
  have bM:=IZ w3 w.heap.size _ ps (last x.path) Wx jW (by omega) Qf.size
  obtain⟨wE,kS,rfl⟩:=jW.shape;have wy:=zI dH;have OI:=zI bM;have nw:=zI Qf;clear g3 jW Qf bM dH cC;go_wp2_with (at_builtin;go_must (refine aG rfl _ _ _ _ rfl _ _ rfl rfl _ OI.out ?_))
  intro v4 w4 gu;have hM:Hid (Own w.heap.size w4 v4 (((s.nodes.take (k+1)).filter q).map (λn=>last n.path))/\Fp ab w w4):=⟨by rw[HB.1];have:=gu.own;rw[wy.out]at this;simpa using this,nw.trans gu.fp (λk hk=>.inr hk)⟩
  have Ju:=HL.out;clear gu;go_wp2;go_roundw
  case rel=>exact⟨k+1,by omega,by go_num,hM⟩
  case measure=>simp[RowKit.intOf];omega
 have cV:k=n:=by omega
 subst cV;have q3:((k:Int)<(k:Int))=False:=eq_false (by omega)
 have bf:=hR.1;rw[List.take_of_length_le (by rw[<-HX.1];exact Nat.le_refl _)]at bf
 have HF:=zI bf;clear ay hk bf;go_wp2;go_ret;exact⟨_,rfl,HF.out,hR.2⟩
theorem L9{lo b:Nat}{vn vt:Value}{s:St}{w:World}(h:Sw lo b vn vt s w)(ha:fw s.nodes){p:Bs}{y:Nd}(hf:find s.nodes p=some y):∃G,vn.ownBlock=some G/\dM w G (place s.nodes p*5) y:=by
 obtain⟨hk,e⟩:=ml ha hf;rcases h.own.ways with⟨_,e2⟩|⟨G,cap,rfl,h1,_⟩
 ·rw[e2]at hk;simp at hk
 have:=h1.nd _ hk;rw[e,Nat.zero_add]at this;exact⟨G,rfl,this⟩
theorem gD{lo b:Nat}{vn vt:Value}{s:St}{w:World}(h:Sw lo b vn vt s w)(x:Pt)(ha:fw s.nodes)(hn:s.nodes.length<=1000000)(hf:find s.nodes x.path=none):
  Calls prog 221 #[.pointer (some ⟨b,0,none⟩),fY x] w λe w'=>e=.returned (.tuple #[.pointer none,.int .i64 62])/\Fp ab w w':=by
 obtain⟨k,d,p,da,v,o,t⟩:=x;have HS:=zI (λw' (f:Fp ab w w')=>kQ (h.af f) ⟨k,d,p,da,v,o,t⟩ ha hn hf)
 have HA:=zI (λo=>aa w o)
 unfold fY au;unfold fY au at HS;clear h hn ha hf;go_enter func221,ntmps221
 go_wp2_with fail
 refine(HS _ (HA _)).mono ?_;rintro e w1⟨rfl,hf⟩;have HF:=zI ((HA _).then hf);clear hf HS;go_wp2_with fail
 refine wp_region_held_drew (S:=(λ_=>True)) (by kernel_rfl) ?_ (λhH=>?_)
 ·trivial
 refine tk 0 hH ?_;refine tk 1 hH ?_;refine tk 2 hH ?_;refine sk 3 hH ?_;refine sk 4 hH ?_;refine sk 5 hH ?_;refine tk 6 hH ?_;refine tk 7 hH ?_;refine sk 8 hH ?_;refine sk 9 hH ?_;refine sk 10 hH ?_;refine sk 11 hH ?_;refine sk 12 hH ?_;refine sk 13 hH ?_;refine sk 14 hH ?_;refine tk 15 hH ?_;refine yD ?_;go_wp2;go_ret2
 exact⟨rfl,HF.then (Fp.refl ab _).drew⟩
theorem ig{lo b:Nat}{vn vt:Value}{s:St}{w:World}(h:Sw lo b vn vt s w)(x:Pt)(ha:fw s.nodes)(hn:s.nodes.length<=1000000){y:Nd}(hf:find s.nodes x.path=some y)(eT:0<=x.aX/\x.aX≠y.aX):
  Calls prog 221 #[.pointer (some ⟨b,0,none⟩),fY x] w λe w'=>e=.returned (.tuple #[.pointer none,.int .i64 63])/\Fp ab w w':=by
 obtain⟨k,d,p,da,v,o,t⟩:=x;have hs:=λw' (f:Fp ab w w')=>gA (h.af f) ⟨k,d,p,da,v,o,t⟩ ha hn hf
 simp only at hs
 have bZ:=aa w (Obj.cells #[.int .i64 k,.string (B d),.string (B p),.string (B da),.int .i64 v,.int .i64 o,.bool t] TP);have om:=heap_alloc_new w (Obj.cells #[.int .i64 k,.string (B d),.string (B p),.string (B da),.int .i64 v,.int .i64 o,.bool t] TP);have HA:=zI (yI bZ om);simp only at eT
 obtain⟨q,hq⟩:∃q,q=place s.nodes p:=⟨_,rfl⟩;rw[<-hq]at hs;show Calls _ _ _ _ (λe w'=>e=.returned (.tuple #[.pointer none,.int .i64 63])/\Fp ab w w')
 obtain⟨yp,yd,yv,yt,yo⟩:=y;unfold fY au;unfold fY au at hs;have HS:=zI hs;clear h hn ha hf bZ om hs hq;have q1:((0:Int)<=v)=True:=eq_true eT.1;have q2:(v != yv)=true:=by simpa using eT.2
 have q3:(v == yv)=false:=by simpa using eT.2
 have q4:(v=yv)=False:=eq_false eT.2;clear eT;go_enter func221,ntmps221
 go_wp2_with fail
 refine(HS _ HA.1).mono ?_;rintro e w1⟨G,hG,aE,rfl,hf⟩;have HF:=zI (yI (HA.1.then hf) (yI (hf.heap HA.2 id) (yI (aE.keep hf id) hG)));have bg:Hid (w1.drew.cell? ⟨w.heap.size,4,none⟩=some (.int .i64 v)/\w1.drew.cell? ⟨G,q*5+2,none⟩=some (.int .i64 yv)):=⟨(Fp.refl ab w1).drew.cell (aH HF.2.1).2.2.2.2.1 id,(Fp.refl ab w1).drew.cell HF.2.2.1.c2 id⟩;clear hf aE HS hG;go_wp2_with fail
 refine wp_region_held_drew (S:=(λw'=>w'.cell? ⟨w.heap.size,4,none⟩=some (.int .i64 v)/\w'.cell? ⟨G,q*5+2,none⟩=some (.int .i64 yv))) (by kernel_rfl) ?_ (λhH=>?_)
 ·exact bg.out
 refine tk 0 hH ?_;refine tk 1 hH ?_;refine tk 2 hH ?_;refine tk 3 hH ?_;refine tk 4 hH ?_;refine tk 5 hH ?_;refine tk 6 hH ?_;refine tk 7 hH ?_;refine tk 8 hH ?_;refine tk 9 hH ?_;refine tk 10 hH ?_;refine tk 11 hH ?_;refine tk 12 hH ?_;refine tk 13 hH ?_;refine tk 14 hH ?_;refine tk 15 hH ?_;refine yD ?_;go_wp2;go_ret2
 exact⟨rfl,HF.1.then (Fp.refl ab _).drew⟩
theorem gd{lo b:Nat}{vn vt:Value}{s:St}{w:World}(h:Sw lo b vn vt s w)(x:Pt)(ha:fw s.nodes)(hn:s.nodes.length<=1000000){y:Nd}(hf:find s.nodes x.path=some y)(eT:¬(0<=x.aX/\x.aX≠y.aX)):
  Calls prog 221 #[.pointer (some ⟨b,0,none⟩),fY x] w λe w'=>∃G,vn.ownBlock=some G/\dM w G (place s.nodes x.path*5) y/\e=.returned (.tuple #[.pointer (some ⟨G,place s.nodes x.path*5,none⟩),.int .i64 0])/\Fp ab w w':=by
 obtain⟨k,d,p,da,v,o,t⟩:=x;obtain⟨G0,Zn,Ma⟩:=L9 h ha hf;simp only at Zn Ma
 have hs:=λw' (f:Fp ab w w')=>gA (h.af f) ⟨k,d,p,da,v,o,t⟩ ha hn hf
 simp only at hs
 have bZ:=aa w (Obj.cells #[.int .i64 k,.string (B d),.string (B p),.string (B da),.int .i64 v,.int .i64 o,.bool t] TP);have om:=heap_alloc_new w (Obj.cells #[.int .i64 k,.string (B d),.string (B p),.string (B da),.int .i64 v,.int .i64 o,.bool t] TP);have HA:=zI (yI bZ om);simp only at eT
 obtain⟨q,hq⟩:∃q,q=place s.nodes p:=⟨_,rfl⟩;rw[<-hq]at hs Ma;have Qg:=zI (yI Zn Ma);clear Zn Ma;show Calls _ _ _ _ (λe w'=>∃G,vn.ownBlock=some G/\dM w G (place s.nodes p*5) y/\e=.returned (.tuple #[.pointer (some ⟨G,place s.nodes p*5,none⟩),.int .i64 0])/\Fp ab w w')
 rw[<-hq];obtain⟨yp,yd,yv,yt,yo⟩:=y;unfold fY au;unfold fY au at hs;have HS:=zI hs;clear h hn ha hf bZ om hs hq;by_cases hv:0<=v
 ·obtain rfl:v=yv:=Decidable.byContradiction λe=>eT ⟨hv,e⟩
  have q1:((0:Int)<=v)=True:=eq_true hv;clear eT hv;go_enter func221,ntmps221
  go_wp2_with fail
  refine(HS _ HA.1).mono ?_;rintro e w1⟨G,hG,aE,rfl,hf⟩;obtain rfl:G=G0:=Option.some.inj (hG.symm.trans Qg.1);have HF:=zI (yI (HA.1.then hf) (yI (hf.heap HA.2 id) (yI (aE.keep hf id) (yI hG Qg.2))));have bg:Hid (w1.drew.cell? ⟨w.heap.size,4,none⟩=some (.int .i64 v)/\w1.drew.cell? ⟨G,q*5+2,none⟩=some (.int .i64 v)):=⟨(Fp.refl ab w1).drew.cell (aH HF.2.1).2.2.2.2.1 id,(Fp.refl ab w1).drew.cell HF.2.2.1.c2 id⟩;clear hf aE HS hG;go_wp2_with fail
  refine wp_region_held_drew (S:=(λw'=>w'.cell? ⟨w.heap.size,4,none⟩=some (.int .i64 v)/\w'.cell? ⟨G,q*5+2,none⟩=some (.int .i64 v))) (by kernel_rfl) ?_ (λhH=>?_)
  ·exact bg.out
  refine tk 0 hH ?_;refine tk 1 hH ?_;refine tk 2 hH ?_;refine tk 3 hH ?_;refine tk 4 hH ?_;refine tk 5 hH ?_;refine tk 6 hH ?_;refine tk 7 hH ?_;refine tk 8 hH ?_;refine tk 9 hH ?_;refine tk 10 hH ?_;refine tk 11 hH ?_;refine tk 12 hH ?_;refine tk 13 hH ?_;refine tk 14 hH ?_;refine tk 15 hH ?_;refine yD ?_;go_wp2;go_ret2
  exact⟨G,HF.2.2.2.1,HF.2.2.2.2,rfl,HF.1.then (Fp.refl ab _).drew⟩
 have q1:((0:Int)<=v)=False:=eq_false hv;clear eT hv;go_enter func221,ntmps221
 go_wp2_with fail
 refine(HS _ HA.1).mono ?_;rintro e w1⟨G,hG,aE,rfl,hf⟩;obtain rfl:G=G0:=Option.some.inj (hG.symm.trans Qg.1);have HF:=zI (yI (HA.1.then hf) (yI (hf.heap HA.2 id) (yI (aE.keep hf id) (yI hG Qg.2))));have bg:Hid (w1.drew.cell? ⟨w.heap.size,4,none⟩=some (.int .i64 v)/\w1.drew.cell? ⟨G,q*5+2,none⟩=some (.int .i64 yv)):=⟨(Fp.refl ab w1).drew.cell (aH HF.2.1).2.2.2.2.1 id,(Fp.refl ab w1).drew.cell HF.2.2.1.c2 id⟩;clear hf aE HS hG;go_wp2_with fail
 refine wp_region_held_drew (S:=(λw'=>w'.cell? ⟨w.heap.size,4,none⟩=some (.int .i64 v)/\w'.cell? ⟨G,q*5+2,none⟩=some (.int .i64 yv))) (by kernel_rfl) ?_ (λhH=>?_)
 ·exact bg.out
 refine tk 0 hH ?_;refine tk 1 hH ?_;refine tk 2 hH ?_;refine tk 3 hH ?_;refine tk 4 hH ?_;refine tk 5 hH ?_;refine tk 6 hH ?_;refine tk 7 hH ?_;refine sk 8 hH ?_;refine sk 9 hH ?_;refine sk 10 hH ?_;refine sk 11 hH ?_;refine sk 12 hH ?_;refine sk 13 hH ?_;refine sk 14 hH ?_;refine tk 15 hH ?_;refine yD ?_;go_wp2;go_ret2
 exact⟨G,HF.2.2.2.1,HF.2.2.2.2,rfl,HF.1.then (Fp.refl ab _).drew⟩
section
variable {lo b : Nat} {vn vt : Value} {s : St} {w w1 w2 : World}
theorem Sw.lt(h:Sw lo b vn vt s w):b<w.heap.size:=(Array.getElem?_eq_some_iff.1 h.dR).1
theorem Sw.zq(h:Sw lo b vn vt s w):∀k,vn.ownBlock=some k->k<w.heap.size:=λk hk=>(World.ownsRow.lt h.own k hk).2
theorem Sw.NZ(h:Sw lo b vn vt s w):∀k,vt.ownBlock=some k->k<w.heap.size:=λk hk=>(World.ownsRow.lt h.ez k hk).2
theorem Sw.Mb(h:Sw lo b vn vt s w){iA:Value}{l':List Tu}(f0:Fp ab w w1)(c:o9 lo w1 vt l' iA w2):
  Sw lo b vn iA ⟨s.nodes,l'⟩ (w2.setCell ⟨b,1,none⟩ iA)/\Fp (λk=>k=b\/vt.ownBlock=some k) w (w2.setCell ⟨b,1,none⟩ iA)/\∀k,iA.ownBlock=some k->vt.ownBlock=some k\/w.heap.size<=k:=by
 have bO:=(h.af f0).dR;have sT:=(h.af f0).lt;have bW:=c.fp.heap bO (λe=>h.zu e)
 have fs:Fp (λk=>k=b) w2 (w2.setCell ⟨b,1,none⟩ iA):=(Fp.refl (λk=>k=b) w2).setCell (p:=⟨b,1,none⟩) (.inl rfl) _
 have bA:iA.ownBlock≠some b:=λe=>(c.new b e).elim h.zu (λk=>by omega)
 have ay:=(h.af f0).zq;refine⟨⟨heap_setCell_same w2 b 1 _ TS _ bW,h.low,?_,c.own.keep fs (λk hk e=>bA (by rw[hk,e])),h.sV,bA,λk hk e=>?_⟩,?_,λk hk=>?_⟩
 ·exact((h.own.af f0).keep c.fp (λk hk e=>h.apart k hk e)).keep fs (λk hk e=>h.sV (by rw[hk,e]))
 ·rcases c.new k e with e|e
  ·exact h.apart k hk e
  have:=ay k hk;omega
 ·exact((f0.any (S:=λk=>k=b\/vt.ownBlock=some k)).same (c.fp.mono (λk hk=>.inr hk))).same (fs.mono (λk hk=>.inl hk))
 rcases c.new k hk with e|e
 ·exact .inl e
 have:=f0.size;exact .inr (by omega)
theorem Sw.CV(h:Sw lo b vn vt s w){jB:Value}{l':List Nd}(f0:Fp ab w w1)(c:Jw lo w1 vn l' jB w2):
  Sw lo b jB vt ⟨l',s.turns⟩ (w2.setCell ⟨b,0,none⟩ jB)/\Fp (λk=>k=b\/vn.ownBlock=some k) w (w2.setCell ⟨b,0,none⟩ jB)/\∀k,jB.ownBlock=some k->vn.ownBlock=some k\/w.heap.size<=k:=by
 have bO:=(h.af f0).dR;have sT:=(h.af f0).lt;have bW:=c.fp.heap bO (λe=>h.sV e)
 have fs:Fp (λk=>k=b) w2 (w2.setCell ⟨b,0,none⟩ jB):=(Fp.refl (λk=>k=b) w2).setCell (p:=⟨b,0,none⟩) (.inl rfl) _
 have bA:jB.ownBlock≠some b:=λe=>(c.new b e).elim h.sV (λk=>by omega)
 have ay:=(h.af f0).NZ;refine⟨⟨heap_setCell_same w2 b 0 _ TS _ bW,h.low,c.own.keep fs (λk hk e=>bA (by rw[hk,e])),?_,bA,h.zu,λk hk e=>?_⟩,?_,λk hk=>?_⟩
 ·exact((h.ez.af f0).keep c.fp (λk hk e=>h.apart k e hk)).keep fs (λk hk e=>h.zu (by rw[hk,e]))
 ·rcases c.new k hk with k'|k'
  ·exact h.apart k k' e
  have:=ay k e;omega
 ·exact((f0.any (S:=λk=>k=b\/vn.ownBlock=some k)).same (c.fp.mono (λk hk=>.inr hk))).same (fs.mono (λk hk=>.inl hk))
 rcases c.new k hk with e|e
 ·exact .inl e
 have:=f0.size;exact .inr (by omega)
end
theorem Fp.j8{S:Nat->Prop}{a b c:World}(f:Fp ab a b)(g:Fp S b c):Fp S a c:=(f.any (S:=S)).same g
structure yC(lo b:Nat)(vn vt:Value)(s:St)(T:List Tu)(w w':World):Prop where
 ex:∃iA,Sw lo b vn iA ⟨s.nodes,T⟩ w'/\∀k,iA.ownBlock=some k->vt.ownBlock=some k\/w.heap.size<=k
 fp:Fp (λk=>k=b\/vt.ownBlock=some k) w w'
theorem yC.still{lo b:Nat}{vn vt:Value}{s:St}{w w':World}(h:Sw lo b vn vt s w)(f:Fp ab w w'):yC lo b vn vt s s.turns w w':=
 ⟨⟨vt,h.af f,λk hk=>.inl hk⟩,f.any⟩
theorem yC.then{lo b:Nat}{vn vt iN:Value}{s:St}{T1 T2:List Tu}{w w1 w2:World}(hn:∀k,iN.ownBlock=some k->vt.ownBlock=some k\/w.heap.size<=k)(f:Fp (λk=>k=b\/vt.ownBlock=some k) w w1)(g:yC lo b vn iN ⟨s.nodes,T1⟩ T2 w1 w2):yC lo b vn vt s T2 w w2:=by
 obtain⟨KQ,h1,h2⟩:=g.ex;refine⟨⟨KQ,h1,λk hk=>?_⟩,f.trans g.fp (λk hk=>?_)⟩
 ·rcases h2 k hk with e|e
  ·exact hn k e
  have:=f.size;exact .inr (by omega)
 rcases hk with e|e
 ·exact .inl (.inl e)
 rcases hn k e with e2|e2
 ·exact .inl (.inr e2)
 exact .inr e2
theorem Ex(l:List Tu)(p:Bs):cj l p<=l.length:=List.countP_le_length
theorem U4{lo b:Nat}{vn vt:Value}{s:St}{w:World}(h:Sw lo b vn vt s w)(p:Bs)(n:Int)(k:Nat)(hk:k<=s.turns.length)(hl:s.turns.length<=4000):
  Calls prog 278 #[vt,.int .i64 (k:Int),.slice (some ⟨w.heap.size,0,none⟩) 1 1] (w.alloc (.cells #[.string (B p),.int .i64 n] TU)) λe w'=>∃v',e=.returned v'/\o9 lo (w.alloc (.cells #[.string (B p),.int .i64 n] TU)) vt (fj s.turns k ⟨p,n⟩) v' w':=by
 have hf:=aa w (.cells #[.string (B p),.int .i64 n] TU);refine yn (h.af hf).ez k hk (X:=w.heap.size) (x:=⟨p,n⟩) (heap_alloc_new w _) (λe=>by have:=h.NZ _ e;omega) hl ?_
 have:=h.low;have:=h.lt;simp;omega
theorem U5{lo b:Nat}{vn vt:Value}{s:St}{w:World}(h:Sw lo b vn vt s w)(k:Nat)(hk:k<s.turns.length)(hl:s.turns.length<=4000):
  Calls prog 277 #[vt,.int .i64 (k:Int),.int .i64 ((k:Int)+1)] w λe w'=>∃v',e=.returned v'/\o9 lo w vt (s.turns.eraseIdx k) v' w':=yq h.ez k hk hl
theorem nG{lo b:Nat}{vn vt:Value}{s:St}{w:World}(h:Sw lo b vn vt s w)(p:Bs)(n:Int)(ha:jO s.turns)(hl:s.turns.length<=3900):
  Calls prog 219 #[.pointer (some ⟨b,0,none⟩),.string (B p),.int .i64 n] w λe w'=>e=.returned (.tuple #[])/\yC lo b vn vt s (lL s.turns p n) w w':=by
 have hs:=oM h p ha (by omega)
 obtain⟨k,hk⟩:∃k,k=cj s.turns p:=⟨_,rfl⟩;have aS:k<=s.turns.length:=by rw[hk];exact Ex _ _
 have hk4:k<=4000:=by omega
 obtain⟨T,hT⟩:∃T,T=lL s.turns p n:=⟨_,rfl⟩;rw[<-hT];unfold lL at hT;rw[<-hk]at hs hT;obtain⟨n0,Ma⟩:∃n0,n0=s.turns.length:=⟨_,rfl⟩;have hd:=h;cases hf:eH s.turns p with
 |none=>
  rw[hf]at hs hT;simp only[Option.isSome_none,Bool.false_eq_true,if_false]at hs hT
  have HS:=zI hs;have HD:=zI (yI hd (yI hT (yI aS hl)));by_cases hn:n=0
  ·have q1:(n != 0)=false:=by simp[hn]
   have q2:(n=0)=True:=eq_true hn;rw[if_neg (by simpa using hn)]at hT
   have HT:=zI hT;clear hs h hd hT aS hl hf hk hn ha Ma;go_enter func219,ntmps219
   go_wp2_with fail
   refine HS.mono ?_;rintro e w1⟨rfl,cv⟩;have H1:=zI (yI (HD.1.af cv) cv);clear cv HS;go_wp2;go_end0
   exact⟨rfl,by rw[HT.out];exact yC.still HD.1 H1.2⟩
  have q1:(n != 0)=true:=by simpa using hn
  have q2:(n=0)=False:=eq_false hn;rw[if_pos hn]at hT;have HT:=zI hT;clear hs h hd hT aS hl hf hk hn ha Ma;go_enter func219,ntmps219
  go_wp2_with fail
  refine HS.mono ?_;rintro e w1⟨rfl,cv⟩;have H1:=zI (yI (HD.1.af cv) cv);clear cv HS;have c1:=(H1.1).c1;have z1:=(H1.1).fz 1;have hi:=U4 (H1.1) p n k HD.2.2.1 (by have:=HD.2.2.2;omega)
  have fF:=(H1.1).ez.ns.shape;have HI:=zI hi;have FY:=aa w1 (.cells #[.string (B p),.int .i64 n] TU);have Mc:=zI FY;have NC:=FY.cell c1 id;clear hi FY;obtain⟨ai,ci,rfl⟩:=fF;go_wp2_with fail
  refine HI.mono ?_;rintro e w5⟨v5,rfl,hc⟩;have U6:=(H1.1).Mb Mc hc;have yT:=hc.fp.cell NC (λe=>(H1.1).zu e)
  have z5:w5.frozen? ⟨b,1,none⟩=false:=by have:=hc.fp.heap ((H1.1).af Mc.out).dR (λe=>(H1.1).zu e);simp[World.frozen?,this]
  obtain⟨a5,c5,rfl⟩:=hc.own.ns.shape;have Qh:=zI U6;clear hc U6 c1 z1 NC;go_wp2_with fail
  go_end0
  exact⟨rfl,by rw[HT.out];exact⟨⟨_,Qh.1,λk hk=>(Qh.2.2 k hk).imp id (λh=>Nat.le_trans H1.2.size h)⟩,H1.2.j8 Qh.2.1⟩⟩
 |some t=>?_
 have dV:=kz ha p;rw[hf,<-hk]at dV
 have Qi:k<s.turns.length:=by
  apply Decidable.byContradiction;intro c
  rw[dif_neg c]at dV;cases dV
 rw[hf]at hs hT;simp only[Option.isSome_some,if_true]at hs hT
 have HS:=zI hs;have HD:=zI (yI hd (yI hT (yI Qi hl)));clear dV;by_cases hn:n=0
 ·have q1:(n != 0)=false:=by simp[hn]
  have q2:(n=0)=True:=eq_true hn;rw[if_neg (by simpa using hn)]at hT
  have HT:=zI hT;clear hs h hd hT aS Qi hl hf hk hn ha Ma;go_enter func219,ntmps219
  go_wp2_with fail
  refine HS.mono ?_;rintro e w1⟨rfl,cv⟩;have H1:=zI (yI (HD.1.af cv) cv);clear cv HS;have c1:=H1.1.c1;have z1:=H1.1.fz 1;have hi:=U5 H1.1 k HD.2.2.1 (by have:=HD.2.2.2;omega)
  have fF:=H1.1.ez.ns.shape;have HI:=zI hi;clear hi;obtain⟨ad,cd,rfl⟩:=fF;go_wp2_with fail
  refine HI.mono ?_;rintro e w2⟨v2,rfl,hc⟩;have oQ:=H1.1.Mb (Fp.refl ab w1) hc;have bW:=hc.fp.cell c1 (λe=>H1.1.zu e)
  have z2:w2.frozen? ⟨b,1,none⟩=false:=by have:=hc.fp.heap H1.1.dR (λe=>H1.1.zu e);simp[World.frozen?,this]
  have hle:(s.turns.eraseIdx k).length<=4000:=by rw[List.length_eraseIdx];have:=HD.2.2.2;split<;>omega
  have cV:k<=(s.turns.eraseIdx k).length:=by rw[List.length_eraseIdx,if_pos HD.2.2.1];have:=HD.2.2.1;omega
  have U7:=zI (yI cV hle);obtain⟨l1,rO⟩:∃l1,l1=s.turns.eraseIdx k:=⟨_,rfl⟩;rw[<-rO]at hc oQ U7 HT;obtain⟨a2,c2,rfl⟩:=hc.own.ns.shape;have mL:=zI (yI oQ (H1.2.j8 oQ.2.1));have HL1:=zI rO;clear hc oQ c1 z1 HI hle cV rO;go_wp2;go_end0
  exact⟨rfl,by rw[HT.out];exact⟨⟨_,mL.1.1,λk hk=>(mL.1.2.2 k hk).imp id (λh=>Nat.le_trans H1.2.size h)⟩,mL.2⟩⟩
 have q1:(n != 0)=true:=by simpa using hn
 have q2:(n=0)=False:=eq_false hn;rw[if_pos hn]at hT;have HT:=zI hT;clear hs h hd hT aS Qi hl hf hk hn ha Ma;go_enter func219,ntmps219
 go_wp2_with fail
 refine HS.mono ?_;rintro e w1⟨rfl,cv⟩;have H1:=zI (yI (HD.1.af cv) cv);clear cv HS;have c1:=H1.1.c1;have z1:=H1.1.fz 1;have hi:=U5 H1.1 k HD.2.2.1 (by have:=HD.2.2.2;omega)
 have fF:=H1.1.ez.ns.shape;have HI:=zI hi;clear hi;obtain⟨ad,cd,rfl⟩:=fF;go_wp2_with fail
 refine HI.mono ?_;rintro e w2⟨v2,rfl,hc⟩;have oQ:=H1.1.Mb (Fp.refl ab w1) hc;have bW:=hc.fp.cell c1 (λe=>H1.1.zu e)
 have z2:w2.frozen? ⟨b,1,none⟩=false:=by have:=hc.fp.heap H1.1.dR (λe=>H1.1.zu e);simp[World.frozen?,this]
 have hle:(s.turns.eraseIdx k).length<=4000:=by rw[List.length_eraseIdx];have:=HD.2.2.2;split<;>omega
 have cV:k<=(s.turns.eraseIdx k).length:=by rw[List.length_eraseIdx,if_pos HD.2.2.1];have:=HD.2.2.1;omega
 have U7:=zI (yI cV hle);obtain⟨l1,rO⟩:∃l1,l1=s.turns.eraseIdx k:=⟨_,rfl⟩;rw[<-rO]at hc oQ U7 HT;obtain⟨a2,c2,rfl⟩:=hc.own.ns.shape;have mL:=zI (yI oQ (H1.2.j8 oQ.2.1));have HL1:=zI rO;clear hc oQ c1 z1 HI hle cV rO;have c1:=(mL.1.1).c1;have z1:=(mL.1.1).fz 1;have hi:=U4 (mL.1.1) p n k U7.1 U7.2;have fF:=(mL.1.1).ez.ns.shape;rw[show(w2.setCell ⟨b,1,none⟩ (.slice a2 l1.length c2)).heap.size=w2.heap.size from by simp[World.setCell]]at hi
 have HI:=zI hi;have FY:=aa (w2.setCell ⟨b,1,none⟩ (.slice a2 l1.length c2)) (.cells #[.string (B p),.int .i64 n] TU);have Mc:=zI FY;have NC:=FY.cell c1 id;clear hi FY;clear fF c1 z1;go_wp2_with fail
 refine HI.mono ?_;rintro e w5⟨v5,rfl,hc⟩;have U6:=(mL.1.1).Mb Mc hc;have yT:=hc.fp.cell NC (λe=>(mL.1.1).zu e)
 have z5:w5.frozen? ⟨b,1,none⟩=false:=by have:=hc.fp.heap ((mL.1.1).af Mc.out).dR (λe=>(mL.1.1).zu e);simp[World.frozen?,this]
 obtain⟨a5,c5,rfl⟩:=hc.own.ns.shape;have Qh:=zI U6;clear hc U6 NC;go_wp2_with fail
 go_end0
 exact⟨rfl,by rw[HT.out];exact yC.then (λk hk=>(mL.1.2.2 k hk).imp id (λh=>Nat.le_trans H1.2.size h)) mL.2 ⟨⟨_,Qh.1,Qh.2.2⟩,Qh.2.1⟩⟩
end
section
open Go.RowKit Pm
theorem xM(p:Bs):(last p).length<=100:=by
 cases h:parent p with
 |none=>rw[(oH h).2];simp
 |some u=>obtain⟨_,_,_,_,h1,_⟩:=hZ h;exact h1
theorem Dh{lo b:Nat}{vn vt:Value}{s:St}{w:World}(h:Sw lo b vn vt s w)(x:Pt)(aN:dh s)(hm:cq x=true)(hn:s.turns.length<=4000)(ht:jH w):
  Calls prog 216 #[.pointer (some ⟨b,0,none⟩),fY x] w λe w'=>e=.returned (.tuple #[.string (B ((jh s x).getD [])),.bool (jh s x).isSome])/\Fp ab w w':=by
 have hp:x.path.length<=100:=bT ((bt x).1 hm).2.1
 have hd:x.dir.length<=100:=by
  rw[((bt x).1 hm).2.2.1];unfold bU;split
  ·exact hp
  exact bT (qO _)
 have J9:=iq aN.fe x.dir;obtain⟨k,d,p,da,v,o,t⟩:=x;simp only at hp hd J9
 unfold jh;simp only
 have bZ:=aa w (Obj.cells #[.int .i64 k,.string (B d),.string (B p),.string (B da),.int .i64 v,.int .i64 o,.bool t] TP);have om:=heap_alloc_new w (Obj.cells #[.int .i64 k,.string (B d),.string (B p),.string (B da),.int .i64 v,.int .i64 o,.bool t] TP);have zn:=zI (yI bZ om);unfold fY au;cases t with
 |false=>
  simp only[Bool.false_eq_true,if_false]
  clear bZ om hp hd J9 aN hm hn ht h;go_enter func216,ntmps216
  go_wp2;go_ret2
  exact⟨rfl,zn.1⟩
 |true=>?_
 simp only[if_true]
 obtain⟨q,Wz⟩:∃q,last p=q:=⟨_,rfl⟩;have hq:=xM p;rw[Wz]at hq;have Eu:=λw=>Is p w (cH hp (by omega))
 rw[Wz]at Eu|-;obtain⟨tt,Oo⟩:∃tt,dt s.turns d=tt:=⟨_,rfl⟩;have WA:=λw' (f:Fp ab w w')=>Ge (h.af f) d aN.oU (by omega)
 rw[Oo]at J9;simp only[Oo]at WA|-
 obtain⟨nn,aR⟩:∃nn,bH q tt=nn:=⟨_,rfl⟩;have WB:=λw (ht:jH w)=>AO q tt w (cH hq (by omega)) (by omega) (by omega) (Or.inr ht.is)
 rw[aR]at WB|-;have HL:=zI Eu;have HT:=zI WA;have HN:=zI WB;have Gn:=zI ht;have HB:Hid (Fp ab w (w.alloc (Obj.cells #[.int .i64 k,.string (B d),.string (B p),.string (B da),.int .i64 v,.int .i64 o,.bool true] TP)).drew/\(w.alloc (Obj.cells #[.int .i64 k,.string (B d),.string (B p),.string (B da),.int .i64 v,.int .i64 o,.bool true] TP)).drew.heap[w.heap.size]?=some (.cells #[.int .i64 k,.string (B d),.string (B p),.string (B da),.int .i64 v,.int .i64 o,.bool true] TP (0,0))):=⟨zn.1.drew,(Fp.refl ab _).drew.heap zn.2 id⟩;have bg:=zI (yI (aH HB.2).2.2.1 (aH HB.2).2.1);have uL:∀q',nn=some q'->q'.length<=12:=λq' e=>vG (by rw[aR,e])
 cases nn with
 |none=>
  clear bZ om hp hd J9 aN hm hn ht h Eu WA WB uL hq Wz Oo aR zn;show Calls _ _ _ _ (λe w'=>e=.returned (.tuple #[.string (B []),.bool false])/\_)
  go_enter func216,ntmps216
  go_wp2_with fail
  refine wp_region_held_drew (S:=(λw'=>w'.cell? ⟨w.heap.size,2,none⟩=some (.string (B p))/\w'.cell? ⟨w.heap.size,1,none⟩=some (.string (B d)))) (by kernel_rfl) ?_ (λhH=>?_)
  ·exact bg.out
  refine tk 0 hH ?_;refine tk 1 hH ?_;refine tk 3 hH ?_;refine tk 4 hH ?_;refine tk 5 hH ?_;refine rY 2 λK hK=>?_
  go_simp;go_at_call 270
  refine(HL _).mono ?_;rintro e w2⟨rfl,g2⟩;have Qj:Fp ab _ _:=g2.fp;have F2:=zI (yI (HB.1.then Qj) (Qj.heap HB.2 id));have cI:=zI (yI (aH F2.2).2.2.1 (aH F2.2).2.1);clear g2 Qj;go_wp2_with fail
  refine hK _ _ cI (λhH=>?_)
  clear hK K;try simp only[zz]
  refine rY 6 λK hK=>?_
  go_simp;go_at_call 220
  refine(HT _ F2.1).mono ?_;rintro e w3⟨rfl,g3⟩;have Qk:Fp ab _ _:=g3;have F3:=zI (yI (F2.1.then Qk) (Qk.heap F2.2 id));have Dm:=zI (yI (aH F3.2).2.2.1 (aH F3.2).2.1);clear g3 Qk;go_wp2_with fail
  refine hK _ _ Dm (λhH=>?_)
  clear hK K;try simp only[zz]
  refine rY 7 λK hK=>?_
  go_simp;go_at_call 269
  refine(HN _ (Gn.af F3.1)).mono ?_;rintro e w4⟨rfl,g4⟩;have Ql:Fp ab _ _:=Gr.fp g4;have F4:=zI (yI (F3.1.then Ql) (Ql.heap F3.2 id));have EI:=zI (yI (aH F4.2).2.2.1 (aH F4.2).2.1);clear g4 Ql;go_wp2_with fail
  refine hK _ _ EI (λhH=>?_)
  clear hK K;try simp only[zz]
  refine tk 8 hH ?_;refine tk 9 hH ?_;refine tk 10 hH ?_;refine tk 11 hH ?_;refine tk 12 hH ?_;refine yD ?_;go_wp2;go_ret2
  exact⟨rfl,F4.1⟩
 |some q'=>?_
 have hjo:=λw=>Hd d q' w (cH hd (by omega)) (cH (uL _ rfl) (by omega))
 have HJ:=zI hjo;clear bZ om hp hd J9 aN hm hn ht h Eu WA WB uL hq Wz Oo aR hjo zn;show Calls _ _ _ _ (λe w'=>e=.returned (.tuple #[.string (B ((join d q').getD [])),.bool (join d q').isSome])/\_)
 generalize (join d q').getD []=r1 at *;generalize (join d q').isSome=r2 at *;go_enter func216,ntmps216
 go_wp2_with fail
 refine wp_region_held_drew (S:=(λw'=>w'.cell? ⟨w.heap.size,2,none⟩=some (.string (B p))/\w'.cell? ⟨w.heap.size,1,none⟩=some (.string (B d)))) (by kernel_rfl) ?_ (λhH=>?_)
 ·exact bg.out
 refine tk 0 hH ?_;refine tk 1 hH ?_;refine tk 3 hH ?_;refine tk 4 hH ?_;refine tk 5 hH ?_;refine rY 2 λK hK=>?_
 go_simp;go_at_call 270
 refine(HL _).mono ?_;rintro e w2⟨rfl,g2⟩;have Qj:Fp ab _ _:=g2.fp;have F2:=zI (yI (HB.1.then Qj) (Qj.heap HB.2 id));have cI:=zI (yI (aH F2.2).2.2.1 (aH F2.2).2.1);clear g2 Qj;go_wp2_with fail
 refine hK _ _ cI (λhH=>?_)
 clear hK K;try simp only[zz]
 refine rY 6 λK hK=>?_
 go_simp;go_at_call 220
 refine(HT _ F2.1).mono ?_;rintro e w3⟨rfl,g3⟩;have Qk:Fp ab _ _:=g3;have F3:=zI (yI (F2.1.then Qk) (Qk.heap F2.2 id));have Dm:=zI (yI (aH F3.2).2.2.1 (aH F3.2).2.1);clear g3 Qk;go_wp2_with fail
 refine hK _ _ Dm (λhH=>?_)
 clear hK K;try simp only[zz]
 refine rY 7 λK hK=>?_
 go_simp;go_at_call 269
 refine(HN _ (Gn.af F3.1)).mono ?_;rintro e w4⟨rfl,g4⟩;have Ql:Fp ab _ _:=Gr.fp g4;have F4:=zI (yI (F3.1.then Ql) (Ql.heap F3.2 id));have EI:=zI (yI (aH F4.2).2.2.1 (aH F4.2).2.1);clear g4 Ql;go_wp2_with fail
 refine hK _ _ EI (λhH=>?_)
 clear hK K;try simp only[zz]
 refine tk 8 hH ?_;refine tk 9 hH ?_;refine tk 10 hH ?_;refine tk 11 hH ?_;refine tk 12 hH ?_;refine yD ?_;obtain⟨s0,s1⟩:=EI.out;go_wp2_with fail
 refine(HJ _).mono ?_;rintro e w5⟨rfl,g5⟩;have F5:=zI (F4.1.then (Gr.fp g5));clear g5 s0 s1;go_wp2;go_ret2
 exact⟨rfl,F5.out⟩
structure yU(lo b:Nat)(vn vt:Value)(s':St)(r:dp)(w:World)(e:Ending)(w':World):Prop where
 ex:∃nv jB iA,e=.returned (.agg #[.int .i64 r.err,au r.path,au r.data,.int .i64 r.aX,nv])/\Own w.heap.size w' nv r.names/\Sw lo b jB iA s' w'
 fp:Fp (rU b vn vt) w w'
theorem yU.still{lo b:Nat}{vn vt:Value}{s:St}{w w':World}{r:dp}{nv:Value}(h:Sw lo b vn vt s w)(f:Fp ab w w')(ho:Own w.heap.size w' nv r.names):
  yU lo b vn vt s r w (.returned (.agg #[.int .i64 r.err,au r.path,au r.data,.int .i64 r.aX,nv])) w':=⟨⟨nv,vn,vt,rfl,ho,h.af f⟩,f.any⟩
structure Bp(w:World)(k:Int)(d p da:Bs)(v o:Int)(t:Bool)(W:World):Prop where
 op:W.heap[w.heap.size]?=some (.cells #[.int .i64 k,.string (B d),.string (B p),.string (B da),.int .i64 v,.int .i64 o,.bool t] TP (0,0))
 res:W.heap[w.heap.size+1]?=some (.cells #[.int .i64 0,.string ⟨#[]⟩,.string ⟨#[]⟩,.int .i64 0,.slice none 0 0] TR (0,0))
 sz:w.heap.size+2<=W.heap.size
theorem Bp.made(w:World)(k:Int)(d p da:Bs)(v o:Int)(t:Bool):Bp w k d p da v o t ((w.alloc (.cells #[.int .i64 k,.string (B d),.string (B p),.string (B da),.int .i64 v,.int .i64 o,.bool t] TP)).alloc (.cells #[.int .i64 0,.string ⟨#[]⟩,.string ⟨#[]⟩,.int .i64 0,.slice none 0 0] TR)):=by
 refine⟨?_,?_,by simp⟩
 ·exact Fp.heap ((Fp.refl ab (w.alloc (.cells #[.int .i64 k,.string (B d),.string (B p),.string (B da),.int .i64 v,.int .i64 o,.bool t] TP))).alloc _) (heap_alloc_new w _) id
 have:=heap_alloc_new (w.alloc (.cells #[.int .i64 k,.string (B d),.string (B p),.string (B da),.int .i64 v,.int .i64 o,.bool t] TP)) (.cells #[.int .i64 0,.string ⟨#[]⟩,.string ⟨#[]⟩,.int .i64 0,.slice none 0 0] TR);simpa using this
section
variable {w W W' : World} {k : Int} {d p da : Bs} {v o : Int} {t : Bool}
theorem Bp.keep(h:Bp w k d p da v o t W){S:Nat->Prop}(f:Fp S W W')(hS:∀k,S k->k<w.heap.size\/w.heap.size+2<=k):Bp w k d p da v o t W':=
 ⟨f.heap h.op (λh=>by have:=hS _ h;omega),f.heap h.res (λh=>by have:=hS _ h;omega),Nat.le_trans h.sz f.size⟩
theorem Bp.af(h:Bp w k d p da v o t W)(f:Fp ab W W'):Bp w k d p da v o t W':=h.keep f (λ_ h=>h.elim)
theorem Bp.r(h:Bp w k d p da v o t W):W.cell? ⟨w.heap.size+1,0,none⟩=some (.int .i64 0)/\W.cell? ⟨w.heap.size+1,1,none⟩=some (.string ⟨#[]⟩)/\W.cell? ⟨w.heap.size+1,2,none⟩=some (.string ⟨#[]⟩)/\W.cell? ⟨w.heap.size+1,3,none⟩=some (.int .i64 0)/\W.cell? ⟨w.heap.size+1,4,none⟩=some (.slice none 0 0):=
 ⟨by rw[cell_of_row _ _ _ _ _ _ h.res];rfl,by rw[cell_of_row _ _ _ _ _ _ h.res];rfl,by rw[cell_of_row _ _ _ _ _ _ h.res];rfl,by rw[cell_of_row _ _ _ _ _ _ h.res];rfl,by rw[cell_of_row _ _ _ _ _ _ h.res];rfl⟩
theorem Bp.fz(h:Bp w k d p da v o t W):∀j,W.frozen? ⟨w.heap.size+1,j,none⟩=false:=λj=>by simp[World.frozen?,h.res]
theorem Kp.bp(h:Bp w k d p da v o t W):Kp (λW'=>Bp w k d p da v o t W') W:=λW' f=>h.af f
end
theorem Kp.sw{lo b:Nat}{vn vt:Value}{s:St}{W:World}(h:Sw lo b vn vt s W):Kp (λW'=>Sw lo b vn vt s W') W:=λW' f=>h.af f
theorem Sw.keep{lo b:Nat}{vn vt:Value}{s:St}{w w':World}(h:Sw lo b vn vt s w){S:Nat->Prop}(f:Fp S w w')(hb:¬S b)(h1:∀k,vn.ownBlock=some k->¬S k)(h2:∀k,vt.ownBlock=some k->¬S k):Sw lo b vn vt s w':=
 ⟨f.heap h.dR hb,h.low,h.own.keep f h1,h.ez.keep f h2,h.sV,h.zu,h.apart⟩
structure eO(lo b:Nat)(vn vt:Value)(s':St)(w:World)(k:Int)(d p da:Bs)(v o:Int)(t:Bool)(W:World):Prop where
 ex:∃jB iA,Sw lo b jB iA s' W/\jB.ownBlock≠some (w.heap.size+1)/\iA.ownBlock≠some (w.heap.size+1)
 bp:Bp w k d p da v o t W
 fp:Fp (rU b vn vt) w W
 lt:b<w.heap.size
theorem eO.still{lo b:Nat}{vn vt:Value}{s:St}{w W:World}{k:Int}{d p da:Bs}{v o:Int}{t:Bool}(h0:Sw lo b vn vt s w)(h:Sw lo b vn vt s W)(hb:Bp w k d p da v o t W)(f:Fp ab w W):eO lo b vn vt s w k d p da v o t W:=
 ⟨⟨vn,vt,h,λe=>by have:=h0.zq _ e;omega,λe=>by have:=h0.NZ _ e;omega⟩,hb,f.any,h0.lt⟩
theorem eO.af{lo b:Nat}{vn vt:Value}{s':St}{w W W':World}{k:Int}{d p da:Bs}{v o:Int}{t:Bool}(h:eO lo b vn vt s' w k d p da v o t W)(f:Fp ab W W'):eO lo b vn vt s' w k d p da v o t W':=by
 obtain⟨jB,iA,h1,h2,h3⟩:=h.ex;exact⟨⟨jB,iA,h1.af f,h2,h3⟩,h.bp.af f,h.fp.then f,h.lt⟩
theorem eO.done{lo b:Nat}{vn vt:Value}{s':St}{w W:World}{k:Int}{d p da:Bs}{v o:Int}{t:Bool}(h:eO lo b vn vt s' w k d p da v o t W)(r:dp)(nv:Value)(ho:Own w.heap.size W nv r.names)(jS:nv.ownBlock=some (w.heap.size+1)->False)
  (re:Int) (rp rd:ByteArray) (rv:Int) (e1:re=r.err) (e2:rp=B r.path) (e3:rd=B r.data) (e4:rv=r.aX):
  yU lo b vn vt s' r w (.returned (.agg #[.int .i64 re,.string rp,.string rd,.int .i64 rv,nv]))
   (((((W.setCell ⟨w.heap.size+1,0,none⟩ (.int .i64 re)).setCell ⟨w.heap.size+1,1,none⟩ (.string rp)).setCell ⟨w.heap.size+1,2,none⟩ (.string rd)).setCell ⟨w.heap.size+1,3,none⟩ (.int .i64 rv)).setCell ⟨w.heap.size+1,4,none⟩ nv):=by
 subst e1 e2 e3 e4;obtain⟨jB,iA,h1,h2,h3⟩:=h.ex;have fk:=QB (S:=λk=>k=w.heap.size+1) (Fp.refl _ W) (b:=w.heap.size+1) (.inl rfl) (.int .i64 r.err) (.string (B r.path)) (.string (B r.data)) (.int .i64 r.aX) nv
 refine⟨⟨nv,jB,iA,rfl,Zi ho jS _ _ _ _ _,h1.keep fk (λe=>by have:=h.lt;omega) (λk hk e=>h2 (by rw[hk,e])) (λk hk e=>h3 (by rw[hk,e]))⟩,?_⟩
 exact QB (S:=rU b vn vt) h.fp (b:=w.heap.size+1) (.inr (by omega)) _ _ _ _ _
end
end Go.Proofs.YtgafcelloiagmaaGreatDoor
