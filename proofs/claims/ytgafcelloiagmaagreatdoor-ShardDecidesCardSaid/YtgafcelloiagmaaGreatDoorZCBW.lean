/- A text of this proof. -/
import Derived.Test.YtgafcelloiagmaaGreatDoorZCBU
set_option maxHeartbeats 16000000
set_option linter.unusedSimpArgs false
set_option linter.unusedVariables false
set_option maxRecDepth 20000
namespace Go.Proofs.YtgafcelloiagmaaGreatDoor
open Go.Proofs.Tryz
section
open Go.RowKit Pm
attribute [local irreducible] wpStill
theorem tL(h:bQ)(c:Cd):(bn h c).1.ids=h.ids:=by
 have e1:∀h ps,(fZ h ps).1.ids=h.ids:=λh ps=>by unfold fZ;split<;>rfl
 have e2:∀d e,(nE h d e).1.ids=h.ids:=λd e=>by unfold nE;split<;>rfl
 unfold bn;split
 ·unfold oS;split;· rfl
  split;· rfl
  exact e1 _ _
 split
 ·unfold eD;split
  ·rfl
  split;· rfl
  split;· rfl
  split;· rfl
  split<;>rfl
 split
 ·unfold il;split
  ·split;· rfl
   split<;>rfl
  split;· rfl
  split
  ·exact e1 _ _
  rfl
 split
 ·unfold oT;split
  ·rfl
  split<;>rfl
 split
 ·unfold jf;split;· rfl
  split;· rfl
  split;· rfl
  split;· rfl
  split<;>rfl
 split
 ·unfold ME;(repeat' split)<;>rfl
 split
 ·unfold Ry;split;· rfl
  split<;>rfl
 split
 ·exact e2 _ _
 split
 ·exact e2 _ _
 exact e2 _ _
theorem PR(q a x d:Nat)(h:bQ)(c:Cd)(vp vn vt vg:Value)(fk:Nat)(fc:Array Value)(w:World)(hS:iR w q a x d h)(EX:V6 vp vn vt vg)(hc:0<=c.id/\c.id<=281474976710656)(hn:h.ids.length<=1000000)(gU:Enters prog fk)
  (QR:∀W,Fp ab w W->Calls prog fk (#[.pointer (some ⟨q,0,none⟩),.agg (kg c vp vn vt vg)]++fc) W (bN q a x d (bn h c) W)):
  Calls prog 52 #[.pointer (some ⟨q,0,none⟩),.agg (kg c vp vn vt vg),.func (.func fk) #[] fc] w (bN q a x d (fK h c) w):=by
 have ay:=hS.lt;obtain⟨fS,fT,KY,JA,TB,QY,hP⟩:=hS.ex;obtain⟨v,sq,cP,gj⟩:=hP.ids.look (T:=Sr) Tryz.underlying99 O8 hc
 obtain⟨y,lA,jK,iN,lB,lC,rfl,hA,hy⟩:∃y vr vn vt ve vw,v=.agg (aC y vr vn vt ve vw)/\ej w y vr vn vt ve vw/\(lk h.ids c.id=none\/lk h.ids c.id=some y):=by
  cases hl:lk h.ids c.id with
  |none=>exact⟨.ok,.slice none 0 0,.slice none 0 0,.slice none 0 0,.slice none 0 0,.slice none 0 0,cP hl,ej.ok w 0 0 false 0,.inl rfl⟩
  |some y=>?_
  obtain⟨vr,vn,vt,ve,vw,e,g⟩:=(gj y hl).ex;exact⟨_,_,_,_,_,_,e,g,.inr rfl⟩
 have hF:=Fr.made w c vp vn vt vg;obtain⟨W2,gS⟩:∃W2,W2=(w.alloc (.cells (kg c vp vn vt vg) sr)).alloc (.cells fq aT):=⟨_,rfl⟩;rw[<-gS]at hF;have hq:=λW (f:Fp ab W2 W)=>yI (((hP.af hF.fp).af f).cell 6 (v:=.map (some a)) rfl) (yI ((hF.later f).cell 1 (v:=.int .i64 c.id) rfl) (sq W (hF.fp.then f)))
 have HQ:=zI hq;have dr:=zI hF;have HP:=zI (yI ay (yI hS (yI hP (yI hc (yI hn (yI QR EX))))));have HT:=zI hA;have HY:=zI hy;clear ay hS hP hc hn sq cP gj hF hq hA hy QR EX;go_enter func52,ntmps52
 go_wp2_with fail
 rw[<-gS];clear gS;refine wp_region_held_drew (S:=(λw'=>w'.cell? ⟨q,6,none⟩=some (.map (some a))/\w'.cell? ⟨w.heap.size,1,none⟩=some (.int .i64 c.id)/\(Instr.lookup Sr (.map (some a)) (.int .i64 c.id) true).run prog w'=.ok (.tuple #[.agg (aC y lA jK iN lB lC),.bool (lk h.ids c.id).isSome]) w')) (by kernel_rfl) ?_ (λhH=>?_)
 ·exact HQ _ ((Fp.refl ab _).drew)
 refine aF 0 hH ?_;refine aF 1 hH ?_;refine aF 2 hH ?_;refine aF 3 hH ?_;refine aF 4 hH ?_;refine aF 5 hH ?_;refine aF 6 hH ?_;refine aF 7 hH ?_;refine aF 8 hH ?_;refine aF 9 hH ?_;refine rY 10 (λK hK=>?_)
 go_simp;have uM:=zI (show((World.alloc W2 (.cells #[.int .i64 0,.int .i64 0,.bool false,.int .i64 0,.slice none 0 0,.slice none 0 0,.slice none 0 0,.slice none 0 0,.slice none 0 0,.slice none 0 0] aT)).drew).heap[W2.heap.size]?=_ from heap_alloc_new W2 (.cells #[.int .i64 0,.int .i64 0,.bool false,.int .i64 0,.slice none 0 0,.slice none 0 0,.slice none 0 0,.slice none 0 0,.slice none 0 0,.slice none 0 0] aT));have nw:=zI ((aa W2 (.cells #[.int .i64 0,.int .i64 0,.bool false,.int .i64 0,.slice none 0 0,.slice none 0 0,.slice none 0 0,.slice none 0 0,.slice none 0 0,.slice none 0 0] aT)).drew);go_wp2_with fail
 refine hK _ _ (HQ _ nw.out) (λhH=>?_)
 clear hK K;try simp only[zz]
 generalize ((World.alloc W2 (.cells #[.int .i64 0,.int .i64 0,.bool false,.int .i64 0,.slice none 0 0,.slice none 0 0,.slice none 0 0,.slice none 0 0,.slice none 0 0,.slice none 0 0] aT)).drew)=w3 at *;refine rY 11 (λK hK=>?_)
 refine step_st rfl aT _ _ rfl _ _ rfl rfl (aA bw uM rfl rfl (aD HT.eL)) ?_;have qK:=zI (nw.trans (av w3 W2.heap.size (aC y lA jK iN lB lC)) (λk hk=>.inr (by have hk:k=W2.heap.size:=hk;omega)))
 have tw:=zI (aj (cs:=(aC y lA jK iN lB lC)) uM.out);refine hK _ _ (HQ _ qK.out) (λhH=>?_)
 clear hK K;try simp only[zz]
 refine aF 12 hH ?_;refine yD ?_;clear uM nw;generalize (World.setRow w3 W2.heap.size (aC y lA jK iN lB lC))=W3 at *;have HF:=zI (dr.later qK.out);clear qK dr HQ;rcases HY.out with hl|hl
 ·have HL:=zI hl
  simp only[hl,Option.isSome_none]
  have hlen:=(HP.2.2.1.af HF.fp).ids.len (T:=Sr) Tryz.underlying99;have c6:=(HP.2.2.1.af HF.fp).cell 6 (v:=.map (some a)) rfl;obtain⟨n,aR⟩:∃n,n=h.ids.length:=⟨_,rfl⟩;rw[<-aR]at hlen;have vf:=zI aR;by_cases h512:n=512
  ·have HD:=zI (show fK h c=(h,.no 2) from by unfold fK;rw[hl];simp[<-aR,h512])
   have q1:((n:Int)=512)=True:=eq_true (by omega)
   have q2:((n:Int) == 512)=true:=by rw[beq_iff_eq];omega
   clear hl aR h512 hH;go_wp2_with fail
   refine(bF 2 _).mono ?_;rintro e w9⟨rfl,f9⟩;have F9:=zI (HF.later f9);clear f9;go_wp2_with (refine ak rfl aT _ _ rfl _ _ rfl rfl (aA bw (cs:=aC (.no 2) nS nS nS nS nS) F9.rs rfl rfl (aD ⟨⟨none,0,0,rfl⟩,⟨none,0,0,rfl⟩,⟨none,0,0,rfl⟩,⟨none,0,0,rfl⟩,⟨none,0,0,rfl⟩⟩)) ?_)
   obtain⟨z0,z1,z2,z3,z4,z5,z6,z7,z8,z9⟩:=bj (aj (cs:=aC (.no 2) nS nS nS nS nS) F9.rs);have HE:=zI (bN.fin (r:=(h,.no 2)) F9.fp.any F9.rs HP.1 (HP.2.1.af F9.fp) (ej.ok w9 2 0 false 0));generalize World.setRow w9 (w.heap.size+1) (aC (.no 2) nS nS nS nS nS)=wz at *;go_wp2;refine bodyPost_ret (v:=.agg (aC (.no 2) nS nS nS nS nS)) (by simp[results,results52,go_sem,z0,z1,z2,z3,z4,z5,z6,z7,z8,z9,aC]) rfl ?_
   rw[HD.out];exact HE.out
  have q1:((n:Int)=512)=False:=eq_false (by omega)
  have q2:((n:Int) == 512)=false:=by rw[beq_eq_false_iff_ne];omega
  have HD:=zI (show fK h c=if (bn h c).2.err≠131/\(bn h c).2.err≠132 then ({ (bn h c).1 with ids:=oR (bn h c).1.ids c.id (bn h c).2 },(bn h c).2) else bn h c from by rw[vb (by rw[tL];exact hl)];unfold fK;rw[hl];simp[<-aR,h512])
  have Uj:=tL h c;have VO:=zI (HP.2.2.2.2.2.1 _ HF.fp);clear hl aR h512 hH;generalize bn h c=r at *;have YQ:=zI Uj;clear Uj;have k0:W3.cell? ⟨w.heap.size,0,none⟩=some (.int .i64 c.kind):=HF.cell 0 rfl;have k1:W3.cell? ⟨w.heap.size,1,none⟩=some (.int .i64 c.id):=HF.cell 1 rfl;have k2:W3.cell? ⟨w.heap.size,2,none⟩=some (.int .i64 c.bu):=HF.cell 2 rfl;have k3:W3.cell? ⟨w.heap.size,3,none⟩=some (.int .i64 c.gX):=HF.cell 3 rfl;have k4:W3.cell? ⟨w.heap.size,4,none⟩=some (.bool c.yes):=HF.cell 4 rfl;have k5:W3.cell? ⟨w.heap.size,5,none⟩=some (vp):=HF.cell 5 rfl;have k6:W3.cell? ⟨w.heap.size,6,none⟩=some (.string (B c.pre)):=HF.cell 6 rfl;have k7:W3.cell? ⟨w.heap.size,7,none⟩=some (.int .i64 c.ep):=HF.cell 7 rfl;have k8:W3.cell? ⟨w.heap.size,8,none⟩=some (.int .i64 c.to):=HF.cell 8 rfl;have k9:W3.cell? ⟨w.heap.size,9,none⟩=some (vn):=HF.cell 9 rfl
  have uU:W3.cell? ⟨w.heap.size,10,none⟩=some (vt):=HF.cell 10 rfl;have Hw:W3.cell? ⟨w.heap.size,11,none⟩=some (vg):=HF.cell 11 rfl;have Hx:W3.cell? ⟨w.heap.size,12,none⟩=some (.int .i64 c.ws):=HF.cell 12 rfl;have Lr:W3.cell? ⟨w.heap.size,13,none⟩=some (.int .i64 c.wn):=HF.cell 13 rfl;have Ls:W3.cell? ⟨w.heap.size,14,none⟩=some (.string (B c.wp)):=HF.cell 14 rfl;have Lt:W3.cell? ⟨w.heap.size,15,none⟩=some (.bool c.deep):=HF.cell 15 rfl;go_wp2_with fail
  rw[gU _ _];go_wp2_with fail
  refine VO.mono ?_;rintro e w5 g5;obtain⟨v5,rfl,lh,lj,ll,ln,ki,rfl,EY⟩:=g5.xF;have ay:=HP.1;have xD:=HF.fp.size;have rL:=g5.fp.size;have qQ:=zI ((aa w5 (.cells (aC r.2 lh lj ll ln ki) aT)).heap (g5.fp.heap HF.rs (λk=>by have:=ay _ k;omega)) id)
  have Nk:=zI ((aa w5 (.cells (aC r.2 lh lj ll ln ki) aT)).heap (g5.fp.heap HF.cb (λk=>by have:=ay _ k;omega)) id)
  have R6:=zI (heap_alloc_new w5 (.cells (aC r.2 lh lj ll ln ki) aT));have A6:=zI (EY.off (aa w5 (.cells (aC r.2 lh lj ll ln ki) aT)).bl);have S6:=zI (g5.sh.af (aa w5 (.cells (aC r.2 lh lj ll ln ki) aT)));have YR:=zI (show Fp (Bk q a x d) w _ from((HF.fp.any).same g5.fp).then (aa w5 (.cells (aC r.2 lh lj ll ln ki) aT)));have V7:=zI EY.eL;have HB6:=zI (show w.heap.size<=w5.heap.size from by omega)
  clear g5 EY ay xD rL VO k0 k1 k2 k3 k4 k5 k6 k7 k8 k9 uU Hw Hx Lr Ls Lt hlen c6 q1 q2;go_upto_region 7 with (refine ak rfl aT _ _ rfl _ _ rfl rfl (eG bw _ rfl rfl (aD V7.out)) ?_)
  generalize World.alloc w5 (.cells (aC r.2 lh lj ll ln ki) aT)=W6 at *;obtain⟨B6,mK⟩:∃b,b=w5.heap.size:=⟨_,rfl⟩;rw[<-mK]at R6 HB6|-;clear mK;obtain⟨y0,_⟩:=bj R6.out;by_cases h131:r.2.err=131
  ·have zk:=zI (show fK h c=r from by rw[HD.out];simp[h131])
   have HD:=zk;have e1:(r.2.err=131)=True:=eq_true h131;have e2:(r.2.err == 131)=true:=beq_iff_eq.2 h131;have e3:(r.2.err != 131)=false:=by simp[h131]
   clear h131 zk
   go_wp2_with (first
    |(refine de (by rfl) aT _ rfl _ _ rfl (j9 bw R6 rfl) ?_)
    |(refine ak rfl aT _ _ rfl _ _ rfl rfl (aA bw (cs:=aC r.2 lh lj ll ln ki) qQ rfl rfl (aD V7.out)) ?_))
   obtain⟨z0,z1,z2,z3,z4,z5,z6,z7,z8,z9⟩:=bj (aj (cs:=aC r.2 lh lj ll ln ki) qQ.out);have HE:=zI (bN.fin (r:=r) YR qQ HP.1 S6 A6.out);generalize World.setRow W6 (w.heap.size+1) (aC r.2 lh lj ll ln ki)=wz at *;go_wp2;refine bodyPost_ret (v:=.agg (aC r.2 lh lj ll ln ki)) (by simp[results,results52,go_sem,z0,z1,z2,z3,z4,z5,z6,z7,z8,z9,aC]) rfl ?_
   rw[HD.out];exact HE.out
  have e1:(r.2.err=131)=False:=eq_false h131;have e2:(r.2.err == 131)=false:=beq_eq_false_iff_ne.2 h131;have e3:(r.2.err != 131)=true:=by rw[bne_iff_ne];exact h131
  by_cases h132:r.2.err=132
  ·have zk:=zI (show fK h c=r from by rw[HD.out];simp[h132])
   have HD:=zk;have e4:(r.2.err=132)=True:=eq_true h132;have e5:(r.2.err == 132)=true:=beq_iff_eq.2 h132;have e6:(r.2.err != 132)=false:=by simp[h132]
   clear h131 h132 zk
   go_wp2_with (first
    |(refine de (by rfl) aT _ rfl _ _ rfl (j9 bw R6 rfl) ?_)
    |(refine ak rfl aT _ _ rfl _ _ rfl rfl (aA bw (cs:=aC r.2 lh lj ll ln ki) qQ rfl rfl (aD V7.out)) ?_))
   obtain⟨z0,z1,z2,z3,z4,z5,z6,z7,z8,z9⟩:=bj (aj (cs:=aC r.2 lh lj ll ln ki) qQ.out);have HE:=zI (bN.fin (r:=r) YR qQ HP.1 S6 A6.out);generalize World.setRow W6 (w.heap.size+1) (aC r.2 lh lj ll ln ki)=wz at *;go_wp2;refine bodyPost_ret (v:=.agg (aC r.2 lh lj ll ln ki)) (by simp[results,results52,go_sem,z0,z1,z2,z3,z4,z5,z6,z7,z8,z9,aC]) rfl ?_
   rw[HD.out];exact HE.out
  have zk:=zI (show fK h c=({ r.1 with ids:=oR r.1.ids c.id r.2 },r.2) from by rw[HD.out];simp[h131,h132])
  have HD:=zk;have e4:(r.2.err=132)=False:=eq_false h132;have e5:(r.2.err == 132)=false:=beq_eq_false_iff_ne.2 h132;have e6:(r.2.err != 132)=true:=by rw[bne_iff_ne];exact h132
  obtain⟨zm,tM,tN,vh6,tO,vs6,YS⟩:=S6.ex;have P6:=zI (YS.af (Fp.refl ab W6).drew);have hs6:Hid (∀W,Fp ab W6 W->W.cell? ⟨q,6,none⟩=some (.map (some a))/\W.cell? ⟨w.heap.size,1,none⟩=some (.int .i64 c.id)/\(W.cell? ⟨B6,0,none⟩=some (.int .i64 r.2.err)/\W.cell? ⟨B6,1,none⟩=some (.int .i64 r.2.idx)/\W.cell? ⟨B6,2,none⟩=some (.bool r.2.yes)/\W.cell? ⟨B6,3,none⟩=some (.int .i64 r.2.ep)/\W.cell? ⟨B6,4,none⟩=some (lh)/\W.cell? ⟨B6,5,none⟩=some (lj)/\W.cell? ⟨B6,6,none⟩=some (ll)/\W.cell? ⟨B6,7,none⟩=some (ln)/\W.cell? ⟨B6,8,none⟩=some (.slice none 0 0)/\W.cell? ⟨B6,9,none⟩=some (ki))):=zI (λW f=>⟨(YS.af f).cell 6 rfl,pQ (f.heap Nk id) 1 rfl,bj (f.heap R6 id)⟩)
  have eR:=P6.ids.Ca (T:=Sr) Tryz.underlying99 HP.2.2.2.1 (.agg (aC r.2 lh lj ll ln ki)) r.2 (by rw[YQ.out];exact HP.2.2.2.2.1) (λw' f=>⟨_,_,_,_,_,rfl,(A6.off (Fp.refl ab W6).drew.bl).off (P6.one (.inr (.inl rfl)) f)⟩) (λw' f v t h=>h.off (P6.one (.inr (.inl rfl)) f))
  have Ds:=zI eR;clear h131 h132 zk YS eR;go_wp2_with fail
  refine wp_region_held_drew (S:=(λw'=>w'.cell? ⟨q,6,none⟩=some (.map (some a))/\w'.cell? ⟨w.heap.size,1,none⟩=some (.int .i64 c.id)/\w'.cell? ⟨B6,0,none⟩=some (.int .i64 r.2.err)/\w'.cell? ⟨B6,1,none⟩=some (.int .i64 r.2.idx)/\w'.cell? ⟨B6,2,none⟩=some (.bool r.2.yes)/\w'.cell? ⟨B6,3,none⟩=some (.int .i64 r.2.ep)/\w'.cell? ⟨B6,4,none⟩=some (lh)/\w'.cell? ⟨B6,5,none⟩=some (lj)/\w'.cell? ⟨B6,6,none⟩=some (ll)/\w'.cell? ⟨B6,7,none⟩=some (ln)/\w'.cell? ⟨B6,8,none⟩=some (.slice none 0 0)/\w'.cell? ⟨B6,9,none⟩=some (ki))) (by kernel_rfl) ?_ (λhH=>?_)
  ·exact hs6 _ ((Fp.refl ab _).drew)
  refine aF 0 hH ?_;refine aF 1 hH ?_;refine aF 2 hH ?_;refine aF 3 hH ?_;refine aF 4 hH ?_;refine aF 5 hH ?_;refine aF 6 hH ?_;obtain⟨w7,lS,hu7⟩:=Ds.out;have HU:=zI hu7;have HR7:=zI lS;clear hu7 lS Ds;refine rY 7 (λK hK=>?_)
  refine step_upd rfl Sr _ _ _ rfl _ _ _ rfl rfl rfl HR7.out ?_;have Uk:=HP.1 a (.inr (.inl rfl));have mK:=HB6.out;have R7:=zI (HU.fp.heap (show W6.drew.heap[B6]?=_ from R6.out) (λe=>by have e:B6=a:=e;omega))
  have AE:=zI (HU.fp.heap (show W6.drew.heap[w.heap.size+1]?=_ from qQ.out) (λe=>by have e:w.heap.size+1=a:=e;omega))
  have PH:=zI (HU.fp.heap (show W6.drew.heap[w.heap.size]?=_ from Nk.out) (λe=>by have e:w.heap.size=a:=e;omega))
  have P7:=zI (P6.Tg HU.out);have A7:=zI ((A6.off (Fp.refl ab W6).drew.bl).off (P6.one (.inr (.inl rfl)) HU.fp));have F7:=zI (show Fp (Bk q a x d) w w7 from(YR.drew).trans HU.fp (λk hk=>.inl (.inr (.inl hk))))
  refine hK _ _ ⟨P7.cell 6 rfl,pQ PH.out 1 rfl,bj R7.out⟩ (λhH=>?_)
  clear hK K Uk mK;try simp only[zz]
  refine yD ?_;clear hH
  go_wp2_with (first
   |(refine de (by rfl) aT _ rfl _ _ rfl (j9 bw R7 rfl) ?_)
   |(refine ak rfl aT _ _ rfl _ _ rfl rfl (aA bw (cs:=aC r.2 lh lj ll ln ki) AE rfl rfl (aD V7.out)) ?_))
  obtain⟨z0,z1,z2,z3,z4,z5,z6,z7,z8,z9⟩:=bj (aj (cs:=aC r.2 lh lj ll ln ki) AE.out);have HE:=zI (bN.fin (r:=({ r.1 with ids:=oR r.1.ids c.id r.2 },r.2)) F7 AE HP.1 ⟨_,_,_,_,_,_,P7.out⟩ A7.out)
  generalize World.setRow w7 (w.heap.size+1) (aC r.2 lh lj ll ln ki)=wz at *;go_wp2;refine bodyPost_ret (v:=.agg (aC r.2 lh lj ll ln ki)) (by simp[results,results52,go_sem,z0,z1,z2,z3,z4,z5,z6,z7,z8,z9,aC]) rfl ?_
  rw[HD.out];exact HE.out
 have HD:=zI (show fK h c=(h,y) from by unfold fK;rw[hl])
 simp only[hl,Option.isSome_some]
 have SL:=zI HT.eL;clear hl hH
 go_wp2_with (first
  |(refine de (by rfl) aT _ rfl _ _ rfl (j9 bw tw rfl) ?_)
  |(refine ak rfl aT _ _ rfl _ _ rfl rfl (aA bw (cs:=aC y lA jK iN lB lC) HF.rs rfl rfl (aD SL.out)) ?_))
 obtain⟨z0,z1,z2,z3,z4,z5,z6,z7,z8,z9⟩:=bj (aj (cs:=aC y lA jK iN lB lC) HF.rs);have HE:=zI (bN.fin (r:=(h,y)) HF.fp.any HF.rs HP.1 (HP.2.1.af HF.fp) (HT.off HF.fp.bl));generalize World.setRow W3 (w.heap.size+1) (aC y lA jK iN lB lC)=wz at *;go_wp2;refine bodyPost_ret (v:=.agg (aC y lA jK iN lB lC)) (by simp[results,results52,go_sem,z0,z1,z2,z3,z4,z5,z6,z7,z8,z9,aC]) rfl ?_
 rw[HD.out];exact HE.out
end
section
open Go.RowKit Pm
attribute [local irreducible] wpStill
structure tP(q a x d:Nat)(h:bQ)(c:Cd)(vp vn vt vg:Value)(w:World)(fk:Nat)(fc:Array Value):Prop where
 ix:∀w,(Instr.index 110 PF (.int .i64 c.kind)).run prog w=.ok (.func (.func fk) #[] fc) w
 en:Enters prog fk
 call:∀W,Fp ab w W->Calls prog fk (#[.pointer (some ⟨q,0,none⟩),.agg (kg c vp vn vt vg)]++fc) W (bN q a x d (bn h c) W)
theorem Ul(q a x d:Nat)(h:bQ)(c:Cd)(vp vn vt vg:Value)(w:World)(hS:iR w q a x d h)(Cm:PS w (.agg (kg c vp vn vt vg)) c)(TA:Fw c)(EX:V6 vp vn vt vg)(hc:0<=c.id/\c.id<=281474976710656)(hn:h.ids.length<=1000000)(hk:0<=c.kind)
  (QC:im c=true->c.kind<11->∃fk fc,tP q a x d h c vp vn vt vg w fk fc) (hz:(zD h c).2.res.length<=100000/\(∀r∈(zD h c).2.res,r.names.length<=100000)/\(zD h c).2.cW.length<=100000):
  Calls prog 17 #[.pointer (some ⟨q,0,none⟩),.agg (kg c vp vn vt vg)] w (bN q a x d (zD h c) w):=by
 have ay:=hS.lt;have hF:=Fr.made w c vp vn vt vg;obtain⟨W2,gS⟩:∃W2,W2=(w.alloc (.cells (kg c vp vn vt vg) sr)).alloc (.cells fq aT):=⟨_,rfl⟩;rw[<-gS]at hF;have pP:=Hy (.agg (kg c vp vn vt vg)) c W2 (Cm.af hF.fp) TA;have hsc:=hF.cb;have HC:=zI pP;have HF:=zI hF;have HP:=zI (yI ay (yI hS (yI hc (yI hn (yI EX (yI QC hz))))));clear ay hS hF pP Cm TA hc hn EX QC hz hk;obtain⟨rt,C0⟩:∃b,b=im c:=⟨_,rfl⟩;rw[<-C0]at HC;have HR:=zI C0;clear C0;have k0:W2.cell? ⟨w.heap.size,0,none⟩=some (.int .i64 c.kind):=HF.cell 0 rfl;have k1:W2.cell? ⟨w.heap.size,1,none⟩=some (.int .i64 c.id):=HF.cell 1 rfl;have k2:W2.cell? ⟨w.heap.size,2,none⟩=some (.int .i64 c.bu):=HF.cell 2 rfl;have k3:W2.cell? ⟨w.heap.size,3,none⟩=some (.int .i64 c.gX):=HF.cell 3 rfl;have k4:W2.cell? ⟨w.heap.size,4,none⟩=some (.bool c.yes):=HF.cell 4 rfl;have k5:W2.cell? ⟨w.heap.size,5,none⟩=some (vp):=HF.cell 5 rfl
 have k6:W2.cell? ⟨w.heap.size,6,none⟩=some (.string (B c.pre)):=HF.cell 6 rfl;have k7:W2.cell? ⟨w.heap.size,7,none⟩=some (.int .i64 c.ep):=HF.cell 7 rfl;have k8:W2.cell? ⟨w.heap.size,8,none⟩=some (.int .i64 c.to):=HF.cell 8 rfl;have k9:W2.cell? ⟨w.heap.size,9,none⟩=some (vn):=HF.cell 9 rfl;have uU:W2.cell? ⟨w.heap.size,10,none⟩=some (vt):=HF.cell 10 rfl;have Hw:W2.cell? ⟨w.heap.size,11,none⟩=some (vg):=HF.cell 11 rfl;have Hx:W2.cell? ⟨w.heap.size,12,none⟩=some (.int .i64 c.ws):=HF.cell 12 rfl;have Lr:W2.cell? ⟨w.heap.size,13,none⟩=some (.int .i64 c.wn):=HF.cell 13 rfl;have Ls:W2.cell? ⟨w.heap.size,14,none⟩=some (.string (B c.wp)):=HF.cell 14 rfl;have Lt:W2.cell? ⟨w.heap.size,15,none⟩=some (.bool c.deep):=HF.cell 15 rfl;rw[gS]at k0 k1 k2 k3 k4 k5 k6 k7 k8 k9 uU Hw Hx Lr Ls Lt;go_enter func17,ntmps17
 go_wp2_with fail
 rw[<-gS]at *;clear gS;refine HC.mono ?_;rintro e w3⟨rfl,f3⟩;have F3:=zI (HF.later f3);clear f3 k0 k1 k2 k3 k4 k5 k6 k7 k8 k9 uU Hw Hx Lr Ls Lt;cases rt with
 |false=>
  have HD:=zI (show zD h c=(h,.no 1) from by unfold zD;rw[if_neg];rw[<-HR.out];simp)
  go_wp2_with fail
  refine(bF 1 _).mono ?_;rintro e w9⟨rfl,f9⟩;have F9:=zI (F3.later f9);clear f9;go_wp2_with (refine ak rfl aT _ _ rfl _ _ rfl rfl (aA bw (cs:=aC (.no 1) nS nS nS nS nS) F9.rs rfl rfl (aD ⟨⟨none,0,0,rfl⟩,⟨none,0,0,rfl⟩,⟨none,0,0,rfl⟩,⟨none,0,0,rfl⟩,⟨none,0,0,rfl⟩⟩)) ?_)
  obtain⟨z0,z1,z2,z3,z4,z5,z6,z7,z8,z9⟩:=bj (aj (cs:=aC (.no 1) nS nS nS nS nS) F9.rs);have HE:=zI (bN.fin (r:=(h,.no 1)) F9.fp.any F9.rs HP.1 (HP.2.1.af F9.fp) (ej.ok w9 1 0 false 0));generalize World.setRow w9 (w.heap.size+1) (aC (.no 1) nS nS nS nS nS)=wz at *;go_wp2;refine bodyPost_ret (v:=.agg (aC (.no 1) nS nS nS nS nS)) (by simp[results,results17,go_sem,z0,z1,z2,z3,z4,z5,z6,z7,z8,z9,aC]) rfl ?_
  rw[HD.out];exact HE.out
 |true=>?_
 have k0:w3.cell? ⟨w.heap.size,0,none⟩=some (.int .i64 c.kind):=F3.cell 0 rfl;by_cases AF:c.kind<11
 ·have q1:(c.kind≥11)=False:=eq_false (by omega)
  have q2:(11<=c.kind)=False:=eq_false (by omega)
  have q3:(c.kind<11)=True:=eq_true AF;have DN:=zI (s9 (h:=h) HR.symm AF);obtain⟨fk,fc,hp⟩:=HP.2.2.2.2.2.1 HR.symm AF;have EH:=zI hp;have qv:=hp.ix;have Dm:=zI (λW (f:Fp ab w3 W)=>(F3.later f).cell 0 (v:=.int .i64 c.kind) rfl)
  clear AF hp;go_wp2_with fail
  refine wp_region_held_drew (S:=(λw'=>w'.cell? ⟨w.heap.size,0,none⟩=some (.int .i64 c.kind))) (by kernel_rfl) ?_ (λhH=>?_)
  ·exact(Dm _ ((Fp.refl ab _).drew))
  refine aF 1 hH ?_;refine aF 2 hH ?_;refine rY 0 (λK hK=>?_)
  go_simp;refine(DI _).mono ?_;rintro e w4⟨rfl,f4⟩;have f4:=zI ((Fp.refl ab w3).drew.then f4);have F4:=zI (F3.later f4.out);go_wp2_with fail
  refine hK _ _ (Dm _ f4.out) (λhH=>?_)
  clear hK K;try simp only[zz]
  refine aF 3 hH ?_;refine aF 4 hH ?_;refine yD ?_;clear qv q1 q2 q3 k0 hH;have k0:w4.cell? ⟨w.heap.size,0,none⟩=some (.int .i64 c.kind):=F4.cell 0 rfl;have k1:w4.cell? ⟨w.heap.size,1,none⟩=some (.int .i64 c.id):=F4.cell 1 rfl;by_cases h0:c.id=0
  ·have HD:=zI (show zD h c=bn h c from by rw[DN.out,if_pos (.inl h0)])
   have q1:(c.id=0)=True:=eq_true h0;have q2:(c.id == 0)=true:=beq_iff_eq.2 h0;clear h0 k0 k1;have k1:w4.cell? ⟨w.heap.size,1,none⟩=some (.int .i64 c.id):=F4.cell 1 rfl;have k0:w4.cell? ⟨w.heap.size,0,none⟩=some (.int .i64 c.kind):=F4.cell 0 rfl;have k1:w4.cell? ⟨w.heap.size,1,none⟩=some (.int .i64 c.id):=F4.cell 1 rfl;have k2:w4.cell? ⟨w.heap.size,2,none⟩=some (.int .i64 c.bu):=F4.cell 2 rfl;have k3:w4.cell? ⟨w.heap.size,3,none⟩=some (.int .i64 c.gX):=F4.cell 3 rfl;have k4:w4.cell? ⟨w.heap.size,4,none⟩=some (.bool c.yes):=F4.cell 4 rfl;have k5:w4.cell? ⟨w.heap.size,5,none⟩=some (vp):=F4.cell 5 rfl;have k6:w4.cell? ⟨w.heap.size,6,none⟩=some (.string (B c.pre)):=F4.cell 6 rfl;have k7:w4.cell? ⟨w.heap.size,7,none⟩=some (.int .i64 c.ep):=F4.cell 7 rfl;have k8:w4.cell? ⟨w.heap.size,8,none⟩=some (.int .i64 c.to):=F4.cell 8 rfl;have k9:w4.cell? ⟨w.heap.size,9,none⟩=some (vn):=F4.cell 9 rfl
   have uU:w4.cell? ⟨w.heap.size,10,none⟩=some (vt):=F4.cell 10 rfl;have Hw:w4.cell? ⟨w.heap.size,11,none⟩=some (vg):=F4.cell 11 rfl;have Hx:w4.cell? ⟨w.heap.size,12,none⟩=some (.int .i64 c.ws):=F4.cell 12 rfl;have Lr:w4.cell? ⟨w.heap.size,13,none⟩=some (.int .i64 c.wn):=F4.cell 13 rfl;have Ls:w4.cell? ⟨w.heap.size,14,none⟩=some (.string (B c.wp)):=F4.cell 14 rfl;have Lt:w4.cell? ⟨w.heap.size,15,none⟩=some (.bool c.deep):=F4.cell 15 rfl;go_wp2_with fail
   rw[EH.en _ _];go_wp2_with fail
   refine(EH.call _ F4.fp).mono ?_;rintro e w5 g5;obtain⟨v5,rfl,lh,lj,ll,ln,ki,rfl,EY⟩:=g5.xF;have ay:=HP.1;have xD:=F4.fp.size;have Ln:=zI (g5.fp.heap F4.rs (λk=>by have:=ay _ k;omega))
   have S5:=zI g5.sh;have F5:=zI ((F4.fp.any).same g5.fp);have vV:=HP.2.2.2.2.2.2;rw[HD.out]at vV;have Nn:=zI (qP (bn h c).2 lh lj ll ln ki w5 EY vV.1 vV.2.1 vV.2.2);clear g5 EY ay xD vV EH DN k0 k1 k2 k3 k4 k5 k6 k7 k8 k9 uU Hw Hx Lr Ls Lt;generalize bn h c=r at *;go_wp2_with fail
   refine Nn.mono ?_;rintro e w6⟨⟨v6,rfl,Np⟩,f6⟩;obtain⟨tN,zm,tM,vk,tO,rfl,vi⟩:=Np.ex;have A6:=zI vi;have Um:=zI vi.eL;have qQ:=zI (f6.heap Ln id);have S6:=zI (S5.af f6);have F6:=zI (show Fp (Bk q a x d) w w6 from F5.then f6);clear f6 Np vi Nn;go_wp2_with (refine ak rfl aT _ _ rfl _ _ rfl rfl (aA bw (cs:=aC r.2 tN zm tM vk tO) qQ rfl rfl (aD Um.out)) ?_)
   obtain⟨z0,z1,z2,z3,z4,z5,z6,z7,z8,z9⟩:=bj (aj (cs:=aC r.2 tN zm tM vk tO) qQ.out);have HE:=zI (bN.fin (r:=r) F6 qQ HP.1 S6 A6.out);generalize World.setRow w6 (w.heap.size+1) (aC r.2 tN zm tM vk tO)=wz at *;go_wp2;refine bodyPost_ret (v:=.agg (aC r.2 tN zm tM vk tO)) (by simp[results,results17,go_sem,z0,z1,z2,z3,z4,z5,z6,z7,z8,z9,aC]) rfl ?_
   rw[HD.out];exact HE.out
  have q1:(c.id=0)=False:=eq_false h0;have q2:(c.id == 0)=false:=beq_eq_false_iff_ne.2 h0;go_wp2_with fail
  refine(G4 c.kind _).mono ?_;rintro e w5⟨rfl,hw5⟩;obtain rfl:w4=w5:=hw5.symm;clear hw5;have k0:w4.cell? ⟨w.heap.size,0,none⟩=some (.int .i64 c.kind):=F4.cell 0 rfl;have k1:w4.cell? ⟨w.heap.size,1,none⟩=some (.int .i64 c.id):=F4.cell 1 rfl;have k2:w4.cell? ⟨w.heap.size,2,none⟩=some (.int .i64 c.bu):=F4.cell 2 rfl;have k3:w4.cell? ⟨w.heap.size,3,none⟩=some (.int .i64 c.gX):=F4.cell 3 rfl;have k4:w4.cell? ⟨w.heap.size,4,none⟩=some (.bool c.yes):=F4.cell 4 rfl;have k5:w4.cell? ⟨w.heap.size,5,none⟩=some (vp):=F4.cell 5 rfl;have k6:w4.cell? ⟨w.heap.size,6,none⟩=some (.string (B c.pre)):=F4.cell 6 rfl;have k7:w4.cell? ⟨w.heap.size,7,none⟩=some (.int .i64 c.ep):=F4.cell 7 rfl;have k8:w4.cell? ⟨w.heap.size,8,none⟩=some (.int .i64 c.to):=F4.cell 8 rfl;have k9:w4.cell? ⟨w.heap.size,9,none⟩=some (vn):=F4.cell 9 rfl;have uU:w4.cell? ⟨w.heap.size,10,none⟩=some (vt):=F4.cell 10 rfl
  have Hw:w4.cell? ⟨w.heap.size,11,none⟩=some (vg):=F4.cell 11 rfl;have Hx:w4.cell? ⟨w.heap.size,12,none⟩=some (.int .i64 c.ws):=F4.cell 12 rfl;have Lr:w4.cell? ⟨w.heap.size,13,none⟩=some (.int .i64 c.wn):=F4.cell 13 rfl;have Ls:w4.cell? ⟨w.heap.size,14,none⟩=some (.string (B c.wp)):=F4.cell 14 rfl;have Lt:w4.cell? ⟨w.heap.size,15,none⟩=some (.bool c.deep):=F4.cell 15 rfl;cases ho:sZ c.kind with
  |false=>
   have HD:=zI (show zD h c=bn h c from by rw[DN.out,if_pos (.inr ho)])
   clear h0 ho;go_wp2_with fail
   rw[EH.en _ _];go_wp2_with fail
   refine(EH.call _ F4.fp).mono ?_;rintro e w5 g5;obtain⟨v5,rfl,lh,lj,ll,ln,ki,rfl,EY⟩:=g5.xF;have ay:=HP.1;have xD:=F4.fp.size;have Ln:=zI (g5.fp.heap F4.rs (λk=>by have:=ay _ k;omega))
   have S5:=zI g5.sh;have F5:=zI ((F4.fp.any).same g5.fp);have vV:=HP.2.2.2.2.2.2;rw[HD.out]at vV;have Nn:=zI (qP (bn h c).2 lh lj ll ln ki w5 EY vV.1 vV.2.1 vV.2.2);clear g5 EY ay xD vV EH DN k0 k1 k2 k3 k4 k5 k6 k7 k8 k9 uU Hw Hx Lr Ls Lt;generalize bn h c=r at *;go_wp2_with fail
   refine Nn.mono ?_;rintro e w6⟨⟨v6,rfl,Np⟩,f6⟩;obtain⟨tN,zm,tM,vk,tO,rfl,vi⟩:=Np.ex;have A6:=zI vi;have Um:=zI vi.eL;have qQ:=zI (f6.heap Ln id);have S6:=zI (S5.af f6);have F6:=zI (show Fp (Bk q a x d) w w6 from F5.then f6);clear f6 Np vi Nn;go_wp2_with (refine ak rfl aT _ _ rfl _ _ rfl rfl (aA bw (cs:=aC r.2 tN zm tM vk tO) qQ rfl rfl (aD Um.out)) ?_)
   obtain⟨z0,z1,z2,z3,z4,z5,z6,z7,z8,z9⟩:=bj (aj (cs:=aC r.2 tN zm tM vk tO) qQ.out);have HE:=zI (bN.fin (r:=r) F6 qQ HP.1 S6 A6.out);generalize World.setRow w6 (w.heap.size+1) (aC r.2 tN zm tM vk tO)=wz at *;go_wp2;refine bodyPost_ret (v:=.agg (aC r.2 tN zm tM vk tO)) (by simp[results,results17,go_sem,z0,z1,z2,z3,z4,z5,z6,z7,z8,z9,aC]) rfl ?_
   rw[HD.out];exact HE.out
  |true=>?_
  have HD:=zI (show zD h c=fK h c from by rw[DN.out,if_neg (by simp[h0,ho])])
  clear h0 ho;go_wp2_with fail
  refine(PR q a x d h c vp vn vt vg fk fc w4 (HP.2.1.af F4.fp) HP.2.2.2.2.1 HP.2.2.1 HP.2.2.2.1 EH.en (λW f=>EH.call W (F4.fp.then f))).mono ?_
  rintro e w5 g5;obtain⟨v5,rfl,lh,lj,ll,ln,ki,rfl,EY⟩:=g5.xF;have ay:=HP.1;have xD:=F4.fp.size;have Ln:=zI (g5.fp.heap F4.rs (λk=>by have:=ay _ k;omega))
  have S5:=zI g5.sh;have F5:=zI ((F4.fp.any).same g5.fp);have vV:=HP.2.2.2.2.2.2;rw[HD.out]at vV;have Nn:=zI (qP (fK h c).2 lh lj ll ln ki w5 EY vV.1 vV.2.1 vV.2.2);clear g5 EY ay xD vV EH DN k0 k1 k2 k3 k4 k5 k6 k7 k8 k9 uU Hw Hx Lr Ls Lt;generalize fK h c=r at *;go_wp2_with fail
  refine Nn.mono ?_;rintro e w6⟨⟨v6,rfl,Np⟩,f6⟩;obtain⟨tN,zm,tM,vk,tO,rfl,vi⟩:=Np.ex;have A6:=zI vi;have Um:=zI vi.eL;have qQ:=zI (f6.heap Ln id);have S6:=zI (S5.af f6);have F6:=zI (show Fp (Bk q a x d) w w6 from F5.then f6);clear f6 Np vi Nn;go_wp2_with (refine ak rfl aT _ _ rfl _ _ rfl rfl (aA bw (cs:=aC r.2 tN zm tM vk tO) qQ rfl rfl (aD Um.out)) ?_)
  obtain⟨z0,z1,z2,z3,z4,z5,z6,z7,z8,z9⟩:=bj (aj (cs:=aC r.2 tN zm tM vk tO) qQ.out);have HE:=zI (bN.fin (r:=r) F6 qQ HP.1 S6 A6.out);generalize World.setRow w6 (w.heap.size+1) (aC r.2 tN zm tM vk tO)=wz at *;go_wp2;refine bodyPost_ret (v:=.agg (aC r.2 tN zm tM vk tO)) (by simp[results,results17,go_sem,z0,z1,z2,z3,z4,z5,z6,z7,z8,z9,aC]) rfl ?_
  rw[HD.out];exact HE.out
 have q1:(c.kind≥11)=True:=eq_true (by omega)
 have q2:(11<=c.kind)=True:=eq_true (by omega)
 have q3:(c.kind<11)=False:=eq_false AF;have HD:=zI (show zD h c=(h,.no 1) from by unfold zD;rw[if_neg (λh=>AF h.2)])
 clear AF;go_wp2_with fail
 refine(bF 1 _).mono ?_;rintro e w9⟨rfl,f9⟩;have F9:=zI (F3.later f9);clear f9;go_wp2_with (refine ak rfl aT _ _ rfl _ _ rfl rfl (aA bw (cs:=aC (.no 1) nS nS nS nS nS) F9.rs rfl rfl (aD ⟨⟨none,0,0,rfl⟩,⟨none,0,0,rfl⟩,⟨none,0,0,rfl⟩,⟨none,0,0,rfl⟩,⟨none,0,0,rfl⟩⟩)) ?_)
 obtain⟨z0,z1,z2,z3,z4,z5,z6,z7,z8,z9⟩:=bj (aj (cs:=aC (.no 1) nS nS nS nS nS) F9.rs);have HE:=zI (bN.fin (r:=(h,.no 1)) F9.fp.any F9.rs HP.1 (HP.2.1.af F9.fp) (ej.ok w9 1 0 false 0));generalize World.setRow w9 (w.heap.size+1) (aC (.no 1) nS nS nS nS nS)=wz at *;go_wp2;refine bodyPost_ret (v:=.agg (aC (.no 1) nS nS nS nS nS)) (by simp[results,results17,go_sem,z0,z1,z2,z3,z4,z5,z6,z7,z8,z9,aC]) rfl ?_
 rw[HD.out];exact HE.out
end
end Go.Proofs.YtgafcelloiagmaaGreatDoor
