/- A text of this proof. -/
import Derived.Test.YtgafcelloiagmaaGreatDoorZCBV
import Derived.Test.YtgafcelloiagmaaGreatDoorZCBW
set_option maxHeartbeats 16000000
set_option linter.unusedSimpArgs false
set_option linter.unusedVariables false
set_option maxRecDepth 20000
namespace Go.Proofs.YtgafcelloiagmaaGreatDoor
open Go.Proofs.Tryz
section
open Go.RowKit Pm
attribute [local irreducible] wpStill
theorem Un(q a x d:Nat)(h:bQ)(c:Cd)(vp vn vt vg:Value)(N B0:Nat)(w:World)(hS:iR w q a x d h)(hI:Inv N B0 h)(hN:N<=3800)(hB:B0<=30000)(jT:Sg Cb 8 w vp c.ps)(hc:pN c)(ht:xL q a x d w)(hk:c.kind=1):∃fk fc,tP q a x d h c vp vn vt vg w fk fc:=by
 refine⟨86,#[],λw=>?_,enters_of func86 (by kernel_rfl) rfl,λW f=>?_⟩
 ·rw[hk];kernel_rfl
 have e:bn h c=oS h (c.ps.map Pe.p):=by unfold bn;simp[hk]
 rw[e];exact TT q a x d h c vp vn vt vg N B0 W (hS.af f) hI hN hB (jT.af f) hc (ht.af f)
theorem Uo(q a x d:Nat)(h:bQ)(c:Cd)(vp vn vt vg:Value)(N B0:Nat)(w:World)(hS:iR w q a x d h)(hI:Inv N B0 h)(hN:N<=3800)(jT:Sg Cb 8 w vp c.ps)(hc:pN c)(Jp:0<=c.bu/\c.bu<=281474976710656)(hn:h.dI.length<=1000000)(ht:xL q a x d w)(hk:c.kind=2):∃fk fc,tP q a x d h c vp vn vt vg w fk fc:=by
 refine⟨87,#[],λw=>?_,enters_of func87 (by kernel_rfl) rfl,λW f=>?_⟩
 ·rw[hk];kernel_rfl
 have e:bn h c=eD h c.bu c.gX (c.ps.map Pe.p):=by unfold bn;simp[hk]
 rw[e];exact DJ q a x d h c vp vn vt vg N B0 W (hS.af f) hI hN (jT.af f) hc Jp hn (ht.af f)
theorem Uq(q a x d:Nat)(h:bQ)(c:Cd)(vp vn vt vg:Value)(N B0:Nat)(w:World)(hS:iR w q a x d h)(hI:Inv N B0 h)(hN:N<=3800)(hB:B0<=30000)(Jp:0<=c.bu/\c.bu<=281474976710656)(hn:h.dI.length<=1000000)(ht:xL q a x d w)(hk:c.kind=3):∃fk fc,tP q a x d h c vp vn vt vg w fk fc:=by
 refine⟨88,#[],λw=>?_,enters_of func88 (by kernel_rfl) rfl,λW f=>?_⟩
 ·rw[hk];kernel_rfl
 have e:bn h c=il h c.bu c.yes:=by unfold bn;simp[hk]
 rw[e];exact Ho q a x d h c vp vn vt vg N B0 W (hS.af f) hI hN hB Jp hn (ht.af f)
theorem Ur(q a x d:Nat)(h:bQ)(c:Cd)(vp vn vt vg:Value)(N B0:Nat)(w:World)(hS:iR w q a x d h)(Jp:0<=c.bu/\c.bu<=281474976710656)(hn:h.ds.length<=1000)(hk:c.kind=4):∃fk fc,tP q a x d h c vp vn vt vg w fk fc:=by
 refine⟨89,#[],λw=>?_,enters_of func89 (by kernel_rfl) rfl,λW f=>?_⟩
 ·rw[hk];kernel_rfl
 have e:bn h c=oT h c.bu c.yes c.ep:=by unfold bn;simp[hk]
 rw[e];exact Hh q a x d h c vp vn vt vg W (hS.af f) Jp hn
theorem Us(q a x d:Nat)(h:bQ)(c:Cd)(vp vn vt vg:Value)(N B0:Nat)(w:World)(hS:iR w q a x d h)(hI:Inv N B0 h)(hN:N<=3800)(cC:c.pre.length<=1000000)(hk:c.kind=5):∃fk fc,tP q a x d h c vp vn vt vg w fk fc:=by
 refine⟨90,#[],λw=>?_,enters_of func90 (by kernel_rfl) rfl,λW f=>?_⟩
 ·rw[hk];kernel_rfl
 have e:bn h c=jf h c.pre c.ep:=by unfold bn;simp[hk]
 rw[e];exact Ht q a x d h c vp vn vt vg N B0 W (hS.af f) hI hN cC
end
section
open Pm
namespace Pm
open Go.Proofs.Tryz
theorem xQ{h:bQ}{ps:List Pt}(hs:dh h.st)(hp:∀p∈ps,cq p=true):dh (fZ h ps).1.st:=by
 unfold fZ;cases e:ox h.st [] 0 ps with
 |inl x=>exact C6 hs hp e
 |inr x=>exact hs
theorem Lu{h:bQ}{ps:List Pt}(hs:dh h.st)(hp:∀p∈ps,cq p=true):dh (oS h ps).1.st:=by
 unfold oS;split
 ·exact hs
 split
 ·exact hs
 exact xQ hs hp
theorem Lv(h:bQ)(t a:Int)(ps:List Pt):(eD h t a ps).1.st=h.st:=by
 unfold eD;split
 ·rfl
 split
 ·rfl
 split
 ·rfl
 split
 ·rfl
 split<;>rfl
theorem Lw{h:bQ}{t:Int}{y:Bool}(hs:dh h.st)(hp:∀x∈h.dI,∀p∈x.2.ps,cq p=true):dh (il h t y).1.st:=by
 unfold il;split
 ·split
  ·exact hs
  split<;>exact hs
 next x hx=>
 split
 ·exact hs
 split
 ·exact xQ (h:=gH h t) hs (hp _ (uA hx))
 exact hs
theorem PT(h:bQ)(p:Bs)(e:Int):(jf h p e).1.st=h.st:=by
 unfold jf;split
 ·rfl
 split
 ·rfl
 split
 ·rfl
 split
 ·rfl
 split<;>rfl
theorem vq{h:bQ}{c:Cd}(hs:dh h.st)(hk:dh (bn h c).1.st):dh (dS h c).1.st:=by
 unfold dS;split
 ·exact hk
 unfold fK;split
 ·exact hs
 split
 ·exact hs
 split<;>exact hk
theorem vu{h:bQ}{c:Cd}(hs:dh h.st)(hc:pN c)(hk:c.kind=1):dh (dS h c).1.st:=vq hs (by
 have e:bn h c=oS h (c.ps.map Pe.p):=by unfold bn;simp[hk]
 rw[e];exact Lu hs (Go.Proofs.YtgafcelloiagmaaGreatDoor.tK hc).2.1)
theorem Cy:dh ja.st:=by
 refine⟨by decide +kernel,λi j hi hj jR=>?_,by decide +kernel,λi j hi hj jR=>?_⟩
 ·simp[ja]at hi hj;omega
 simp[ja]at hi
theorem Lx:pN eN:=iS _ (by simp)
theorem YT:pN xm:=iS _ (by simp)
theorem Ut:pN EU:=iS _ (by simp)
theorem YU:pN vY:=iS _ (by simp)
theorem YV:pN uW:=iS _ (by simp)
theorem Uu:pN VS:=iS _ (by simp)
theorem Nq:dh Ck.1.st:=vu Cy Lx rfl
theorem Hz:dh mi.1.st:=vu Nq Lx rfl
theorem Nt:dh EV.1.st:=vq Hz (by
 have e:bn mi.1 xm=eD mi.1 xm.bu xm.gX (xm.ps.map Pe.p):=by unfold bn;simp[xm,cm]
 rw[e,Lv];exact Hz)
theorem H7:dh Ao.1.st:=vu Nt Ut rfl
theorem YW:∀x∈Ao.1.dI,x.2.ps.length<=16/\∀p∈x.2.ps,cq p=true:=by decide +kernel
theorem Ia:dh pO.1.st:=vq H7 (by
 have e:bn Ao.1 vY=il Ao.1 vY.bu vY.yes:=by unfold bn;simp[vY,cm]
 rw[e];exact Lw H7 (λx hx=>(YW x hx).2))
theorem Nu:dh xE.1.st:=vq Ia (by
 have e:bn pO.1 uW=jf pO.1 uW.pre uW.ep:=by unfold bn;simp[uW,cm]
 rw[e,PT];exact Ia)
theorem Uv:dh lS.1.st:=vu Nu Uu rfl
def Ib(h:bQ):Bool:=decide (h.st.nodes.length<=100) && decide (h.st.turns.length<=100) && dO h.rg && lJ h.hs && decide (h.hs.length<=100) && h.wd.ws.isEmpty && h.wd.ss.isEmpty && (h.dI.all λx=>decide (x.2.ps.length<=16) && x.2.ps.all cq) && decide (h.ids.length<=100) && decide (h.dI.length<=100) && decide (h.ds.length<=100) && decide (h.rg.length<=100)
structure Ic(h:bQ):Prop where
 inv:Inv 100 0 h
 ids:h.ids.length<=100
 dI:h.dI.length<=100
 ds:h.ds.length<=100
 rg:h.rg.length<=100
theorem Nv{h:bQ}(hs:dh h.st)(k:Ib h=true):Ic h:=by
 unfold Ib at k;simp only[Bool.and_eq_true,decide_eq_true_eq,List.isEmpty_iff,List.all_eq_true]at k
 obtain⟨⟨⟨⟨⟨⟨⟨⟨⟨⟨⟨k1,k2⟩,k3⟩,k4⟩,k5⟩,k6⟩,k7⟩,k8⟩,k9⟩,uU⟩,Hw⟩,Hx⟩:=k
 have hw:h.wd=⟨[],[]⟩:=by
  cases e:h.wd with
  |mk a b=>rw[e]at k6 k7;simp only at k6 k7;rw[k6,k7]
 exact⟨⟨hs,k1,k2,(dA _).1 k3,(lK _).1 k4,by omega,by rw[hw];exact⟨by decide +kernel,(λx hx=>by cases hx),Nat.le_refl _⟩,k8⟩,k9,uU,Hw,Hx⟩
theorem Cz:Ic ja:=Nv Cy (by decide +kernel)
theorem sm1:Ic Ck.1:=Nv Nq (by decide +kernel)
theorem sm2:Ic mi.1:=Nv Hz (by decide +kernel)
theorem sm3:Ic EV.1:=Nv Nt (by decide +kernel)
theorem sm4:Ic Ao.1:=Nv H7 (by decide +kernel)
theorem sm5:Ic pO.1:=Nv Ia (by decide +kernel)
theorem sm6:Ic xE.1:=Nv Nu (by decide +kernel)
theorem V8:Ic lS.1:=Nv Uv (by decide +kernel)
def iy(a:ck):Bool:=decide (a.res.length<=100) && (a.res.all λr=>decide (r.names.length<=100)) && decide (a.cW.length<=100)
theorem smA{a:ck}(k:iy a=true):a.res.length<=100000/\(∀r∈a.res,r.names.length<=100000)/\a.cW.length<=100000:=by
 unfold iy at k;simp only[Bool.and_eq_true,decide_eq_true_eq,List.all_eq_true]at k
 exact⟨by omega,λr hr=>by have:=k.1.2 r hr;omega,by omega⟩
theorem lX:iy Ck.2=true/\iy mi.2=true/\iy EV.2=true/\iy Ao.2=true/\iy pO.2=true/\iy xE.2=true/\iy lS.2=true:=by decide +kernel
end Pm
open Go.RowKit Pm
attribute [local irreducible] wpStill
theorem Sg.YX{w:World}{v:Value}{l:List Pe}(h:Sg mf 8 w v (l.map pn))(h0:∀x∈l,0<=x.op):Sg Cb 8 w v l:=by
 obtain⟨ao,cap,rfl,h3⟩:=h.ex;rw[List.length_map]at *;refine⟨ao,cap,rfl,?_⟩;rcases h3 with h3|⟨g,o,rfl,hc⟩
 ·left;exact List.map_eq_nil_iff.1 h3
 refine .inr ⟨g,o,rfl,λi hi=>⟨λj v hv=>?_⟩⟩
 have:=(hc i (by rw[List.length_map];exact hi)).get j v
 rw[List.getElem_map,MT (h0 _ (List.getElem_mem hi))]at this;exact this hv
structure CrR(ps:List Pe)(w:World)(e:Ending)(w':World):Prop where
 ex:∃v',e=.returned v'/\Sg Cb 8 w' v' ps
 fp:Fp ab w w'
theorem ks(p:Bs)(ps:List Pe)(w:World)(hp:p.length<=100000)(dP:fL [An p]=ps.map pn)(h0:∀x∈ps,0<=x.op):
  Calls prog 40 #[.string (B p)] w (CrR ps w):=by
 have hr:=heap_alloc_new w (.cells #[.int .i64 1,.string (B p),.string ⟨#[]⟩,.int .i64 0,.int .i64 0,.bool false] 88)
 have hOp:ER (w.alloc (.cells #[.int .i64 1,.string (B p),.string ⟨#[]⟩,.int .i64 0,.int .i64 0,.bool false] 88)) (.slice (some ⟨w.heap.size,0,none⟩) 1 1) [An p]:=
  ⟨some ⟨w.heap.size,0,none⟩,1,rfl,.inr ⟨_,0,rfl,λi hi=>by
   have dC:i=0:=by simp at hi;omega
   subst dC;exact⟨by rw[cell_of_row _ _ _ _ _ _ hr];rfl,by rw[cell_of_row _ _ _ _ _ _ hr];rfl,by rw[cell_of_row _ _ _ _ _ _ hr];rfl,by rw[cell_of_row _ _ _ _ _ _ hr];rfl,by rw[cell_of_row _ _ _ _ _ _ hr];rfl,by rw[cell_of_row _ _ _ _ _ _ hr];rfl⟩⟩⟩
 have hm:=SI _ [An p] _ hOp (λx hx=>by simp at hx;subst hx;show p.length<=1000000;omega) (by simp)
 rw[dP]at hm;have HM:=zI hm;have HF:=zI (aa w (.cells #[.int .i64 1,.string (B p),.string ⟨#[]⟩,.int .i64 0,.int .i64 0,.bool false] 88));have HZ:=zI h0;clear hm hOp hr hp dP h0;go_enter func40,ntmps40
 go_wp2_with fail
 refine HM.mono ?_;rintro e w1⟨⟨v',rfl,ho⟩,hf⟩;have HE:=zI (show CrR ps w (.returned v') w1 from⟨⟨v',rfl,Sg.YX (dT.sg pL ho) HZ.out⟩,HF.then hf⟩);clear ho hf;go_wp2;go_ret;exact HE.out
structure RoR(w:World)(e:Ending)(w':World):Prop where
 ex:∃q a x d,e=.returned (.pointer (some ⟨q,0,none⟩))/\iR w' q a x d ja/\∀k,Bk q a x d k->w.heap.size<=k
 fp:Fp ab w w'
theorem Ie(w:World):Calls prog 38 #[] w (RoR w):=by
 have hr:=heap_alloc_new w (.cells #[.string ⟨#[47]⟩,.string ⟨#[]⟩,.int .i64 0,.int .i64 0,.int .i64 0] TN);have mi:=heap_alloc_new (w.alloc (.cells #[.string ⟨#[47]⟩,.string ⟨#[]⟩,.int .i64 0,.int .i64 0,.int .i64 0] TN)) (.cells #[.string ⟨#[47]⟩,.int .i64 1,.int .i64 1] dx);have f2:=aa (w.alloc (.cells #[.string ⟨#[47]⟩,.string ⟨#[]⟩,.int .i64 0,.int .i64 0,.int .i64 0] TN)) (.cells #[.string ⟨#[47]⟩,.int .i64 1,.int .i64 1] dx);have z:(w.alloc (.cells #[.string ⟨#[47]⟩,.string ⟨#[]⟩,.int .i64 0,.int .i64 0,.int .i64 0] TN)).heap.size=w.heap.size+1:=by simp
 rw[z]at mi
 have hN:Ns ((w.alloc (.cells #[.string ⟨#[47]⟩,.string ⟨#[]⟩,.int .i64 0,.int .i64 0,.int .i64 0] TN)).alloc (.cells #[.string ⟨#[47]⟩,.int .i64 1,.int .i64 1] dx)) (.slice (some ⟨w.heap.size,0,none⟩) 1 1) ja.st.nodes:=
  Ns.af ⟨some ⟨w.heap.size,0,none⟩,1,rfl,Nat.le_refl _,by decide,.inr ⟨_,0,rfl,by simp,λi hi=>by
   have dC:i=0:=by simp[ja]at hi;omega
   subst dC;exact⟨by rw[cell_of_row _ _ _ _ _ _ hr];rfl,by rw[cell_of_row _ _ _ _ _ _ hr];rfl,by rw[cell_of_row _ _ _ _ _ _ hr];rfl,by rw[cell_of_row _ _ _ _ _ _ hr];rfl,by rw[cell_of_row _ _ _ _ _ _ hr];rfl⟩⟩⟩ f2
 have hL:di ((w.alloc (.cells #[.string ⟨#[47]⟩,.string ⟨#[]⟩,.int .i64 0,.int .i64 0,.int .i64 0] TN)).alloc (.cells #[.string ⟨#[47]⟩,.int .i64 1,.int .i64 1] dx)) (.slice (some ⟨w.heap.size+1,0,none⟩) 1 1) ja.rg:=
  ⟨some ⟨w.heap.size+1,0,none⟩,1,rfl,Nat.le_refl _,by decide,.inr ⟨_,0,rfl,by simp,λi hi=>by
   have dC:i=0:=by simp[ja]at hi;omega
   subst dC;exact⟨by rw[cell_of_row _ _ _ _ _ _ mi];rfl,by rw[cell_of_row _ _ _ _ _ _ mi];rfl,by rw[cell_of_row _ _ _ _ _ _ mi];rfl⟩⟩⟩
 have hn:=M8 (.agg #[.slice (some ⟨w.heap.size,0,none⟩) 1 1,.slice none 0 0]) _ ja.st ja.rg _ ⟨_,_,rfl,hN,Ts.nil _⟩ (λn hn=>by simp[ja]at hn;subst hn;decide) (by decide) (by decide) (by decide) hL (by decide) (by decide)
 have HN:=zI hn;have HF:=zI ((aa w (.cells #[.string ⟨#[47]⟩,.string ⟨#[]⟩,.int .i64 0,.int .i64 0,.int .i64 0] TN)).then f2);clear hn hN hL hr mi f2 z;go_enter func38,ntmps38
 go_wp2_with fail
 refine HN.mono ?_;rintro e w1 hR;have hf:=HF.then hR.fp;rcases hR.VE with⟨h,_⟩|⟨_,q,a,x,d,rfl,hS,hB⟩
 ·exact absurd ⟨Cz.inv.st,Cz.inv.rg⟩ h
 have HE:=zI (show RoR w (.returned (.pointer (some ⟨q,0,none⟩))) w1 from⟨⟨q,a,x,d,rfl,hS,λk hk=>Nat.le_trans HF.size (hB k hk)⟩,hf⟩)
 clear hR hf hS hB;go_wp2;go_ret;exact HE.out
theorem mQ{p:Bs}(h:nO p=true):p.length<=100:=by
 unfold nO at h;simp only[Bool.or_eq_true,decide_eq_true_eq]at h
 rcases h with rfl|h
 ·simp
 exact cy h
theorem Uw{c:Cd}(hc:pN c)(hs:c.st=⟨[],[]⟩)(hg:c.gone=[]):Fw c:=by
 have hp:=Go.Proofs.YtgafcelloiagmaaGreatDoor.tK hc;refine⟨by have:=mQ hc.pre;omega,by have:=mQ hc.wp;omega,by have:=hp.2.2;omega,λx hx=>?_,by rw[hs];exact Nat.zero_le _,(by rw[hs];intro x hx;cases hx),by rw[hs];exact Nat.zero_le _,(by rw[hs];intro x hx;cases hx),by rw[hg];exact Nat.zero_le _,(by rw[hg];intro x hx;cases hx)⟩
 obtain⟨_,h1,h2,_,h3,_⟩:=(bt _).1 (hp.2.1 x.p (List.mem_map.2 ⟨x,hx,rfl⟩));have e1:=cy h1;refine⟨?_,by omega,by omega⟩
 rw[h2];unfold bU;split
 ·omega
 have:=cy (qO x.p.path);omega
theorem Ly{c:Cd}(hc:pN c):(0<=c.id/\c.id<=281474976710656)/\(0<=c.bu/\c.bu<=281474976710656):=by
 have h:=hc.Ux;unfold kt num at h;simp only[List.all_cons,Bool.and_eq_true,decide_eq_true_eq]at h
 exact⟨of_decide_eq_true h.1,of_decide_eq_true h.2.1⟩
theorem JI(q a x d:Nat)(h:bQ)(c:Cd)(r:bQ×ck)(vp:Value)(w:World)(hS:iR w q a x d h)(hm:Ic h)(hc:pN c)(hk:1<=c.kind/\c.kind<=5)(hs:c.st=⟨[],[]⟩)(hg:c.gone=[])(jT:Sg Cb 8 w vp c.ps)(ht:xL q a x d w)(hr:dS h c=r)(hz:iy r.2=true):
  Calls prog 17 #[.pointer (some ⟨q,0,none⟩),.agg (kg c vp nS nS nS)] w (bN q a x d r w):=by
 have hd:zD h c=r:=by rw[Ta hc (by omega),hr]
 have hn:=Ly hc;have hI:=hm.inv;have hvs:∃a n c,vp=.slice a n c:=by obtain⟨a,c,e⟩:=jT.shape;exact⟨a,_,c,e⟩
 have EX:V6 vp nS nS nS:=⟨hvs,⟨_,_,_,rfl⟩,⟨_,_,_,rfl⟩,⟨_,_,_,rfl⟩⟩;have Cm:PS w (.agg (kg c vp nS nS nS)) c:=⟨_,_,_,_,rfl,jT,by rw[hs];exact Ns.nil w,by rw[hs];exact Ts.nil w,by rw[hg];exact⟨none,0,rfl,.inl rfl⟩⟩
 have hi:=hm.ids;have Jp:=hm.dI;have xN:=hm.ds;have hp:=mQ hc.pre
 have k:=Ul q a x d h c vp nS nS nS w hS Cm (Uw hc hs hg) EX hn.1 (by omega) (by omega) (λ_ _=>by
  have Fi:c.kind=1\/c.kind=2\/c.kind=3\/c.kind=4\/c.kind=5:=by omega
  rcases Fi with e|e|e|e|e
  ·exact Un q a x d h c _ _ _ _ 100 0 w hS hI (by omega) (by omega) jT hc ht e
  ·exact Uo q a x d h c _ _ _ _ 100 0 w hS hI (by omega) jT hc hn.2 (by omega) ht e
  ·exact Uq q a x d h c _ _ _ _ 100 0 w hS hI (by omega) (by omega) hn.2 (by omega) ht e
  ·exact Ur q a x d h c _ _ _ _ 100 0 w hS hn.2 (by omega) e
  exact Us q a x d h c _ _ _ _ 100 0 w hS hI (by omega) (by omega) e) (by rw[hd];exact smA hz)
 rw[hd]at k;exact k
end
section
open Go.RowKit Pm
attribute [local irreducible] wpStill
def KB(q a x d:Nat)(P:World->Prop)(W:World):Prop:=∀W',Fp (Bk q a x d) W W'->P W'
section
variable {q a x d : Nat} {P R : World → Prop} {W W' : World}
theorem KB.now(h:KB q a x d P W):P W:=h W (Fp.refl _ _)
theorem KB.later(h:KB q a x d P W)(f:Fp (Bk q a x d) W W'):KB q a x d P W':=λV g=>h V (f.same g)
theorem KB.af(h:KB q a x d P W)(f:Fp ab W W'):KB q a x d P W':=h.later f.any
theorem KB.and(h:KB q a x d P W)(k:KB q a x d R W):KB q a x d (λV=>P V/\R V) W:=λV f=>⟨h V f,k V f⟩
theorem KB.row{b:Nat}{o:Obj}(h:W.heap[b]?=some o)(hb:¬Bk q a x d b):KB q a x d (λV=>V.heap[b]?=some o) W:=λV f=>f.heap h hb
theorem KB.fp{w:World}(h:Fp ab w W)(hb:∀k,Bk q a x d k->w.heap.size<=k):KB q a x d (λV=>Fp ab w V) W:=λV f=>h.trans f (λk hk=>.inr (hb k hk))
theorem KB.tb(h:xL q a x d W):KB q a x d (λV=>xL q a x d V) W:=λV f=>h.bk f
theorem KB.out(hb:∀k,Bk q a x d k->k<W.heap.size):KB q a x d (λV=>∀k,Bk q a x d k->k<V.heap.size) W:=λV f k hk=>Nat.lt_of_lt_of_le (hb k hk) f.size
end
theorem xR(p:Bs):∀x∈pg p,0<=x.op:=λx hx=>by simp[pg]at hx;rcases hx with rfl|rfl<;>exact Int.le_refl 0
theorem pc1:fL [An [47,97]]=(pg [47,97]).map pn:=by decide +kernel
theorem pc3:fL [An [47,97,47,98]]=(pg [47,97,47,98]).map pn:=by decide +kernel
theorem pc4:fL [An [47,97,47,99]]=(pg [47,97,47,99]).map pn:=by decide +kernel
theorem pc7:fL [An [47,97,47,100]]=(pg [47,97,47,100]).map pn:=by decide +kernel
theorem hd7:lS.1.st.nodes.length=3:=by decide +kernel
theorem ej.YY{w:World}{a:ck}{vr vn vt ve vw:Value}(h:ej w a vr vn vt ve vw):∃b c,vr=.slice b a.res.length c:=by
 obtain⟨L,h1,h2,_⟩:=h.r.ex;obtain⟨b,c,e⟩:=h2.shape;have:a.res.length=L.length:=by rw[<-h1,List.length_map]
 rw[this];exact⟨b,c,e⟩
theorem ej.stn{w:World}{a:ck}{vr vn vt ve vw:Value}(h:ej w a vr vn vt ve vw):∃b c,vn=.slice b a.st.nodes.length c:=h.n.shape
theorem Ig(w:World)(ht:jH w):Calls prog 11 #[] w λe w'=>e=.returned (.bool true)/\Fp ab w w':=by
 have HT:=zI ht;clear ht;go_enter func11,ntmps11
 go_wp2_with fail
 refine(Ie _).mono ?_;intro e w1 hR;obtain⟨q,a,x,d,rfl,hS,hB⟩:=hR.ex;have ay:=HT.lt;have KK:=zI (KB.and (KB.fp hR.fp hB) (KB.and (KB.tb (q:=q) (a:=a) (x:=x) (d:=d) ⟨HT.af hR.fp,λj hj=>Nat.lt_of_lt_of_le ay (hB j hj)⟩) (KB.out hS.lt)))
 have S0:=zI hS;clear hR hS hB ay HT;go_wp2_with fail
 refine(ks [47,97] (pg [47,97]) w1 (by decide) pc1 (xR _)).mono ?_
 intro e wc hC;obtain⟨vp,rfl,jT⟩:=hC.ex;obtain⟨va,vl,vc,rfl⟩:∃a n c,vp=Value.slice a n c:=by obtain⟨a,c,e⟩:=jT.shape;exact⟨a,_,c,e⟩
 have KK:=zI (KK.af hC.fp);have S0:=zI (S0.af hC.fp);have VP:=zI jT;clear hC jT;go_wp2_with fail
 refine(JI q a x d ja eN Ck (.slice va vl vc) wc S0 Cz Lx (by decide) rfl rfl VP KK.now.2.1 rfl lX.1).mono ?_
 intro e wd hD;obtain⟨v,rfl,hA⟩:=hD.xF;obtain⟨lA,jK,iN,lB,lC,rfl,hP⟩:=hA.ex;have KK:=zI (KK.later hD.fp);have S0:=zI hD.sh;have one:=aD (a:=Ck.2) hP.eL;clear hD hA hP;go_wp2_with (refine ak rfl aT _ _ rfl _ _ rfl rfl (eG bw _ rfl rfl (by assumption)) ?_)
 have KK:=zI (KB.and (KB.row (heap_alloc_new wd (.cells (aC Ck.2 lA jK iN lB lC) aT)) (λhk=>by have:=KK.now.2.2 _ hk;omega)) (KK.af (aa wd (.cells (aC Ck.2 lA jK iN lB lC) aT))))
 have S0:=zI (S0.af (aa wd (.cells (aC Ck.2 lA jK iN lB lC) aT)));obtain⟨b1,bO⟩:∃b,b=wd.heap.size:=⟨_,rfl⟩;rw[<-bO]at KK|-;clear bO one;generalize (World.alloc wd (.cells (aC Ck.2 lA jK iN lB lC) aT))=wq at *;refine(ks [47,97] (pg [47,97]) wq (by decide) pc1 (xR _)).mono ?_
 intro e wc hC;obtain⟨vp,rfl,jT⟩:=hC.ex;obtain⟨va,vl,vc,rfl⟩:∃a n c,vp=Value.slice a n c:=by obtain⟨a,c,e⟩:=jT.shape;exact⟨a,_,c,e⟩
 have KK:=zI (KK.af hC.fp);have S0:=zI (S0.af hC.fp);have VP:=zI jT;clear hC jT;go_wp2_with fail
 refine(JI q a x d Ck.1 eN mi (.slice va vl vc) wc S0 sm1 Lx (by decide) rfl rfl VP KK.now.2.2.1 rfl lX.2.1).mono ?_
 intro e wd hD;obtain⟨v,rfl,hA⟩:=hD.xF;obtain⟨vr2,Tf,KQ,V9,Wb,rfl,hP⟩:=hA.ex;have KK:=zI (KK.later hD.fp);have S0:=zI hD.sh;have one:=aD (a:=mi.2) hP.eL;obtain⟨Uy,Uz,rfl⟩:=hP.YY;clear hD hA hP;go_wp2_with (refine ak rfl aT _ _ rfl _ _ rfl rfl (eG bw _ rfl rfl (by assumption)) ?_)
 have KK:=zI (KB.and (KB.row (heap_alloc_new wd (.cells (aC mi.2 (.slice Uy mi.2.res.length Uz) Tf KQ V9 Wb) aT)) (λhk=>by have:=KK.now.2.2.2 _ hk;omega)) (KK.af (aa wd (.cells (aC mi.2 (.slice Uy mi.2.res.length Uz) Tf KQ V9 Wb) aT))))
 have S0:=zI (S0.af (aa wd (.cells (aC mi.2 (.slice Uy mi.2.res.length Uz) Tf KQ V9 Wb) aT)));obtain⟨b2,bW⟩:∃b,b=wd.heap.size:=⟨_,rfl⟩;rw[<-bW]at KK|-;clear bW one;generalize (World.alloc wd (.cells (aC mi.2 (.slice Uy mi.2.res.length Uz) Tf KQ V9 Wb) aT))=wq at *;refine(ks [47,97,47,98] (pg [47,97,47,98]) wq (by decide) pc3 (xR _)).mono ?_
 intro e wc hC;obtain⟨vp,rfl,jT⟩:=hC.ex;obtain⟨va,vl,vc,rfl⟩:∃a n c,vp=Value.slice a n c:=by obtain⟨a,c,e⟩:=jT.shape;exact⟨a,_,c,e⟩
 have KK:=zI (KK.af hC.fp);have S0:=zI (S0.af hC.fp);have VP:=zI jT;clear hC jT;go_wp2_with fail
 refine(JI q a x d mi.1 xm EV (.slice va vl vc) wc S0 sm2 YT (by decide) rfl rfl VP KK.now.2.2.2.1 rfl lX.2.2.1).mono ?_
 intro e wd hD;obtain⟨v,rfl,hA⟩:=hD.xF;obtain⟨Wc,We,Wf,Wg,Wh,rfl,hP⟩:=hA.ex;have KK:=zI (KK.later hD.fp);have S0:=zI hD.sh;have one:=aD (a:=EV.2) hP.eL;clear hD hA hP;go_wp2_with (refine ak rfl aT _ _ rfl _ _ rfl rfl (eG bw _ rfl rfl (by assumption)) ?_)
 have KK:=zI (KB.and (KB.row (heap_alloc_new wd (.cells (aC EV.2 Wc We Wf Wg Wh) aT)) (λhk=>by have:=KK.now.2.2.2.2 _ hk;omega)) (KK.af (aa wd (.cells (aC EV.2 Wc We Wf Wg Wh) aT))))
 have S0:=zI (S0.af (aa wd (.cells (aC EV.2 Wc We Wf Wg Wh) aT)));obtain⟨b3,mc⟩:∃b,b=wd.heap.size:=⟨_,rfl⟩;rw[<-mc]at KK|-;clear mc one;generalize (World.alloc wd (.cells (aC EV.2 Wc We Wf Wg Wh) aT))=wq at *;refine(ks [47,97,47,99] (pg [47,97,47,99]) wq (by decide) pc4 (xR _)).mono ?_
 intro e wc hC;obtain⟨vp,rfl,jT⟩:=hC.ex;obtain⟨va,vl,vc,rfl⟩:∃a n c,vp=Value.slice a n c:=by obtain⟨a,c,e⟩:=jT.shape;exact⟨a,_,c,e⟩
 have KK:=zI (KK.af hC.fp);have S0:=zI (S0.af hC.fp);have VP:=zI jT;clear hC jT;go_wp2_with fail
 refine(JI q a x d EV.1 EU Ao (.slice va vl vc) wc S0 sm3 Ut (by decide) rfl rfl VP KK.now.2.2.2.2.1 rfl lX.2.2.2.1).mono ?_
 intro e wd hD;obtain⟨v,rfl,hA⟩:=hD.xF;obtain⟨Wi,Wj,Wl,Wm,Wn,rfl,hP⟩:=hA.ex;have KK:=zI (KK.later hD.fp);have S0:=zI hD.sh;have one:=aD (a:=Ao.2) hP.eL;clear hD hA hP;go_wp2_with (refine ak rfl aT _ _ rfl _ _ rfl rfl (eG bw _ rfl rfl (by assumption)) ?_)
 have KK:=zI (KB.and (KB.row (heap_alloc_new wd (.cells (aC Ao.2 Wi Wj Wl Wm Wn) aT)) (λhk=>by have:=KK.now.2.2.2.2.2 _ hk;omega)) (KK.af (aa wd (.cells (aC Ao.2 Wi Wj Wl Wm Wn) aT))))
 have S0:=zI (S0.af (aa wd (.cells (aC Ao.2 Wi Wj Wl Wm Wn) aT)));obtain⟨b4,Ro⟩:∃b,b=wd.heap.size:=⟨_,rfl⟩;rw[<-Ro]at KK|-;clear Ro one;generalize (World.alloc wd (.cells (aC Ao.2 Wi Wj Wl Wm Wn) aT))=wq at *;refine(JI q a x d Ao.1 vY pO (.slice none 0 0) wq S0 sm4 YU (by decide) rfl rfl (Sg.nil _) KK.now.2.2.2.2.2.1 rfl lX.2.2.2.2.1).mono ?_
 intro e wd hD;obtain⟨v,rfl,hA⟩:=hD.xF;obtain⟨lh,lj,ll,ln,ki,rfl,hP⟩:=hA.ex;have KK:=zI (KK.later hD.fp);have S0:=zI hD.sh;have one:=aD (a:=pO.2) hP.eL;clear hD hA hP;go_wp2_with (refine ak rfl aT _ _ rfl _ _ rfl rfl (eG bw _ rfl rfl (by assumption)) ?_)
 have KK:=zI (KB.and (KB.row (heap_alloc_new wd (.cells (aC pO.2 lh lj ll ln ki) aT)) (λhk=>by have:=KK.now.2.2.2.2.2.2 _ hk;omega)) (KK.af (aa wd (.cells (aC pO.2 lh lj ll ln ki) aT))))
 have S0:=zI (S0.af (aa wd (.cells (aC pO.2 lh lj ll ln ki) aT)));obtain⟨b5,yT⟩:∃b,b=wd.heap.size:=⟨_,rfl⟩;rw[<-yT]at KK|-;clear yT one;generalize (World.alloc wd (.cells (aC pO.2 lh lj ll ln ki) aT))=wq at *;refine(JI q a x d pO.1 uW xE (.slice none 0 0) wq S0 sm5 YV (by decide) rfl rfl (Sg.nil _) KK.now.2.2.2.2.2.2.1 rfl lX.2.2.2.2.2.1).mono ?_
 intro e wd hD;obtain⟨v,rfl,hA⟩:=hD.xF;obtain⟨tN,zm,tM,vk,tO,rfl,hP⟩:=hA.ex;have KK:=zI (KK.later hD.fp);have S0:=zI hD.sh;have one:=aD (a:=xE.2) hP.eL;obtain⟨UA,UB,rfl⟩:=hP.stn;clear hD hA hP;go_wp2_with (refine ak rfl aT _ _ rfl _ _ rfl rfl (eG bw _ rfl rfl (by assumption)) ?_)
 have KK:=zI (KB.and (KB.row (heap_alloc_new wd (.cells (aC xE.2 tN (.slice UA xE.2.st.nodes.length UB) tM vk tO) aT)) (λhk=>by have:=KK.now.2.2.2.2.2.2.2 _ hk;omega)) (KK.af (aa wd (.cells (aC xE.2 tN (.slice UA xE.2.st.nodes.length UB) tM vk tO) aT))))
 have S0:=zI (S0.af (aa wd (.cells (aC xE.2 tN (.slice UA xE.2.st.nodes.length UB) tM vk tO) aT)));obtain⟨b6,mK⟩:∃b,b=wd.heap.size:=⟨_,rfl⟩;rw[<-mK]at KK|-;clear mK one;generalize (World.alloc wd (.cells (aC xE.2 tN (.slice UA xE.2.st.nodes.length UB) tM vk tO) aT))=wq at *;refine(ks [47,97,47,100] (pg [47,97,47,100]) wq (by decide) pc7 (xR _)).mono ?_
 intro e wc hC;obtain⟨vp,rfl,jT⟩:=hC.ex;obtain⟨va,vl,vc,rfl⟩:∃a n c,vp=Value.slice a n c:=by obtain⟨a,c,e⟩:=jT.shape;exact⟨a,_,c,e⟩
 have KK:=zI (KK.af hC.fp);have S0:=zI (S0.af hC.fp);have VP:=zI jT;clear hC jT;go_wp2_with fail
 refine(JI q a x d xE.1 VS lS (.slice va vl vc) wc S0 sm6 Uu (by decide) rfl rfl VP KK.now.2.2.2.2.2.2.2.1 rfl lX.2.2.2.2.2.2).mono ?_
 intro e wd hD;obtain⟨v,rfl,hA⟩:=hD.xF;obtain⟨JD,JB,JC,Lz,JE,rfl,hP⟩:=hA.ex;have KK:=zI (KK.later hD.fp);have S0:=zI hD.sh;have one:=aD (a:=lS.2) hP.eL;clear hD hA hP;have KZ:=zI (KB.and (KB.row (heap_alloc_new wd (.cells (aC lS.2 JD JB JC Lz JE) aT)) (λhk=>by have:=KK.now.2.2.2.2.2.2.2.2 _ hk;omega)) (KK.af (aa wd (.cells (aC lS.2 JD JB JC Lz JE) aT))))
 have SZ:=zI (S0.af (aa wd (.cells (aC lS.2 JD JB JC Lz JE) aT)));have x1:(wd.alloc (.cells (aC lS.2 JD JB JC Lz JE) aT)).cell? ⟨b1,0,none⟩=some (.int .i64 0):=by rw[(bj KZ.now.2.2.2.2.2.2.1).1,cA.1]
 have x2:(wd.alloc (.cells (aC lS.2 JD JB JC Lz JE) aT)).cell? ⟨b2,0,none⟩=some (.int .i64 0):=by rw[(bj KZ.now.2.2.2.2.2.1).1,cA.2.1]
 have x2l:(wd.alloc (.cells (aC lS.2 JD JB JC Lz JE) aT)).cell? ⟨b2,4,none⟩=some (.slice Uy 2 Uz):=by rw[(bj KZ.now.2.2.2.2.2.1).2.2.2.2.1,cA.2.2.1]
 have x3:(wd.alloc (.cells (aC lS.2 JD JB JC Lz JE) aT)).cell? ⟨b3,2,none⟩=some (.bool true):=by rw[(bj KZ.now.2.2.2.2.1).2.2.1,cA.2.2.2.1]
 have x4:(wd.alloc (.cells (aC lS.2 JD JB JC Lz JE) aT)).cell? ⟨b4,0,none⟩=some (.int .i64 131):=by rw[(bj KZ.now.2.2.2.1).1,cA.2.2.2.2.1]
 have x5:(wd.alloc (.cells (aC lS.2 JD JB JC Lz JE) aT)).cell? ⟨b5,0,none⟩=some (.int .i64 0):=by rw[(bj KZ.now.2.2.1).1,cA.2.2.2.2.2.1]
 go_wp2_with (refine ak rfl aT _ _ rfl _ _ rfl rfl (eG bw _ rfl rfl (by assumption)) ?_)
 have aN:=Cs q a x d lS.1 _ SZ (by have:=V8.inv.n;omega) (by have:=V8.inv.m;omega)
 refine aN.mono ?_;intro e wA hR;obtain⟨vn,vt,rfl,hn,ht⟩:=hR.ex;obtain⟨s1,s2,rfl⟩:=hn.shape;obtain⟨s3,s4,rfl⟩:=ht.shape;rw[hd7];generalize lS.1.st.turns.length=tn7 at *;have Jv:∀w:World,(Instr.field aM (.agg #[.slice s1 3 s2,.slice s3 tn7 s4]) 0).run prog w=.ok (.slice s1 3 s2) w:=λ_=>by kernel_rfl
 have KA:=zI (KZ.af hR.fp);have SA:=zI (SZ.af hR.fp);clear aN hR hn ht x1 x2 x2l x3 x4 x5;have x6:wA.cell? ⟨b6,3,none⟩=some (.int .i64 1):=by rw[(bj KA.now.2.1).2.2.2.1,cA.2.2.2.2.2.2.2.1]
 have x6n:wA.cell? ⟨b6,5,none⟩=some (.slice UA 1 UB):=by rw[(bj KA.now.2.1).2.2.2.2.2.1,cA.2.2.2.2.2.2.2.2.1]
 have x7:wA.cell? ⟨wd.heap.size,0,none⟩=some (.int .i64 131):=by rw[(bj KA.now.1).1,cA.2.2.2.2.2.2.2.2.2.1]
 go_wp2_with fail
 have aN:=Ha q a x d lS.1 _ SA (by have:=V8.rg;omega)
 refine aN.mono ?_;rintro e wB⟨v,rfl,hR⟩
 obtain⟨s5,s6,rfl⟩:∃a c,v=Value.slice a lS.1.rg.length c:=by
  rcases hR.own.2 with⟨e,h⟩|⟨g,c,cur,e,_⟩
  ·exact⟨none,0,by rw[e,h]⟩
  exact⟨_,_,e⟩
 rw[cA.2.2.2.2.2.2.2.2.2.2.1];have KB':=zI (KA.af hR.fp);have SB:=zI (SA.af hR.fp);clear aN hR x6 x6n x7;go_wp2_with fail
 have aN:=KR q a x d lS.1 _ SB (by have:=V8.inv.hn;omega)
 refine aN.mono ?_;rintro e wC⟨v,rfl,hR⟩
 obtain⟨s7,s8,rfl⟩:∃a c,v=Value.slice a lS.1.hs.length c:=by
  rcases hR.own.2 with⟨e,h⟩|⟨g,c,cur,e,_⟩
  ·exact⟨none,0,by rw[e,h]⟩
  exact⟨_,_,e⟩
 rw[cA.2.2.2.2.2.2.2.2.2.2.2];have KC:=zI (KB'.af hR.fp);clear aN hR;go_wp2_with fail
 have hr:=heap_alloc_new wC (.cells #[.string ⟨#[]⟩,.int .i64 0,.int .i64 0] dx)
 have hL:di (wC.alloc (.cells #[.string ⟨#[]⟩,.int .i64 0,.int .i64 0] dx)) (.slice (some ⟨wC.heap.size,0,none⟩) 1 1) [⟨[],0,0⟩]:=
  ⟨some ⟨wC.heap.size,0,none⟩,1,rfl,Nat.le_refl _,by decide,.inr ⟨_,0,rfl,by simp,λi hi=>by
   have dC:i=0:=by simp at hi;omega
   subst dC;exact⟨by rw[cell_of_row _ _ _ _ _ _ hr];rfl,by rw[cell_of_row _ _ _ _ _ _ hr];rfl,by rw[cell_of_row _ _ _ _ _ _ hr];rfl⟩⟩⟩
 have BU:=M8 (.agg #[.slice none 0 0,.slice none 0 0]) _ ⟨[],[]⟩ [⟨[],0,0⟩] _ ⟨_,_,rfl,Ns.nil _,Ts.nil _⟩ (λn hn=>by cases hn) (by decide) (λn hn=>by cases hn) (by decide) hL (by decide) (by decide)
 refine BU.mono ?_;intro e wD hR;have HZ:=zI (KC.now.2.2.2.2.2.2.2.1.then ((aa wC _).then hR.fp));rcases hR.VE with⟨_,rfl⟩|⟨⟨_,h⟩,_⟩
 ·clear hR BU hL hr
  go_wp2;go_ret;exact⟨rfl,HZ.out⟩
 exact absurd (h.ok ⟨[],0,0⟩ (List.mem_singleton.2 rfl)) (by decide +kernel)
end
section
open Go.ChangeShapes Go.WideShapes Go.ChangeAt Go.RowKit Pm Go.Deep
open Go.WideMaps Go.WideElems
open Go.ChangeMaps (setBlock shut_map_nil open_string shut_string)
attribute [local irreducible] wpStill
theorem AG{w:World}{a:Addr}{v:Value}(h:w.cell? a=some v):∃g o,a=⟨g,o,none⟩:=by
 obtain⟨g,o,spot⟩:=a;have hs:spot=none:=World.cell?_spot h;exact⟨g,o,by rw[hs]⟩
theorem Tryz.LA:prog.cellsOf 4=1:=by kernel_rfl
theorem Tryz.LB:prog.cellsOf 5=1:=by kernel_rfl
structure EZ(w:World)(v:Value)(l:List Bool):Prop where
 ex:∃ao cap,v=.slice ao l.length cap/\l.length<=cap/\cap<=maxLen/\(l=[]\/∃g o,ao=some ⟨g,o,none⟩/\g<w.heap.size/\∀i (h:i<l.length),w.cell? ⟨g,o+i,none⟩=some (.bool l[i]))
theorem EZ.nil(w:World):EZ w (.slice none 0 0) []:=⟨none,0,rfl,Nat.le_refl _,Nat.zero_le _,.inl rfl⟩
theorem EZ.af{w w':World}{v:Value}{l:List Bool}(h:EZ w v l)(f:Fp ab w w'):EZ w' v l:=by
 obtain⟨ao,cap,rfl,h1,h2,h3⟩:=h.ex;refine⟨ao,cap,rfl,h1,h2,?_⟩;rcases h3 with h3|⟨g,o,rfl,hg,hc⟩
 ·exact .inl h3
 exact .inr ⟨g,o,rfl,Nat.lt_of_lt_of_le hg f.size,λi hi=>f.cell (hc i hi) id⟩
theorem EZ.shape{w:World}{v:Value}{l:List Bool}(h:EZ w v l):∃ao cap,v=.slice ao l.length cap:=by
 obtain⟨ao,cap,rfl,_⟩:=h.ex;exact⟨ao,cap,rfl⟩
section
variable {H : Type} {enc : TypeId × Value → H} {W : World}
theorem xT{v:Value}{d:DataW H}{p:List MemPlace}{base:Nat}(hv:Value.okWide prog W .any base 82 v)(h:DataW.Trod enc prog W 0 (λ_=>true) true 82 v d p)(db:∀n∈d.weights prog 82,n<=reachBytes):
  ∃l,EZ W v l/\True/\True:=by
 obtain⟨a0,len,cap,rfl⟩:=okWide_slice Tryz.underlying82 hv;obtain⟨fuel,hf⟩:=h;have hf:DataW.trod enc prog W 0 (λ_=>true) true fuel 82 [.slice a0 len cap]=some (d,p):=by simpa[Value.cells]using hf
 rcases open_bools Tryz.underlying82 Tryz.underlying4 Tryz.LA hf with⟨pC,hx⟩|⟨a,len',aY,Bf,pC,_,hl,hm,hx,aq⟩
 ·simp only[List.cons.injEq,Value.slice.injEq,and_true]at pC
  obtain⟨rfl,rfl,rfl⟩:=pC;exact⟨[],EZ.nil W,trivial,trivial⟩
 simp only[List.cons.injEq,Value.slice.injEq,and_true]at pC
 obtain⟨rfl,rfl,rfl⟩:=pC;have hlen:((List.range len).map Bf).length=len:=by simp
 by_cases h0:len=0
 ·subst h0
  exact⟨[],⟨some a,cap,rfl,Nat.zero_le _,hm,.inl rfl⟩,trivial,trivial⟩
 have wo:=aq 0 (by omega)
 have wo:W.cell? a=some (.bool (Bf 0)):=by simpa[Addr.add]using wo
 have ay:=World.block_lt_of_cell? W a wo;obtain⟨g,o,rfl⟩:=AG wo;refine⟨(List.range len).map Bf,⟨some ⟨g,o,none⟩,cap,by rw[hlen],by rw[hlen];exact hl,hm,.inr ⟨g,o,rfl,ay,λj hj=>?_⟩⟩,trivial,trivial⟩
 rw[hlen]at hj;have:=aq j (by omega)
 rw[Addr.add_lit]at this;rw[this];simp
end
structure E0(w:World)(v:Value)(l:Bs):Prop where
 ex:∃ao cap,v=.slice ao l.length cap/\l.length<=cap/\cap<=maxLen/\(l=[]\/∃g o,ao=some ⟨g,o,none⟩/\g<w.heap.size/\∀i (h:i<l.length),w.cell? ⟨g,o+i,none⟩=some (.int .u8 (l[i].toNat:Int)))
theorem E0.nil(w:World):E0 w (.slice none 0 0) []:=⟨none,0,rfl,Nat.le_refl _,Nat.zero_le _,.inl rfl⟩
theorem E0.af{w w':World}{v:Value}{l:Bs}(h:E0 w v l)(f:Fp ab w w'):E0 w' v l:=by
 obtain⟨ao,cap,rfl,h1,h2,h3⟩:=h.ex;refine⟨ao,cap,rfl,h1,h2,?_⟩;rcases h3 with h3|⟨g,o,rfl,hg,hc⟩
 ·exact .inl h3
 exact .inr ⟨g,o,rfl,Nat.lt_of_lt_of_le hg f.size,λi hi=>f.cell (hc i hi) id⟩
theorem E0.shape{w:World}{v:Value}{l:Bs}(h:E0 w v l):∃ao cap,v=.slice ao l.length cap:=by
 obtain⟨ao,cap,rfl,_⟩:=h.ex;exact⟨ao,cap,rfl⟩
section
variable {H : Type} {enc : TypeId × Value → H} {W : World}
theorem xU{v:Value}{d:DataW H}{p:List MemPlace}{base:Nat}(hv:Value.okWide prog W .any base 83 v)(h:DataW.Trod enc prog W 0 (λ_=>true) true 83 v d p)(db:∀n∈d.weights prog 83,n<=reachBytes):
  ∃l,E0 W v l/\True/\True:=by
 obtain⟨a0,len,cap,rfl⟩:=okWide_slice Tryz.underlying83 hv;obtain⟨fuel,hf⟩:=h;have hf:DataW.trod enc prog W 0 (λ_=>true) true fuel 83 [.slice a0 len cap]=some (d,p):=by simpa[Value.cells]using hf
 rcases open_ints Tryz.underlying83 Tryz.underlying5 Tryz.LB hf with⟨pC,hx⟩|⟨a,len',aY,zs,pC,_,hl,hm,hz,hx,aq,hwz⟩
 ·simp only[List.cons.injEq,Value.slice.injEq,and_true]at pC
  obtain⟨rfl,rfl,rfl⟩:=pC;exact⟨[],E0.nil W,trivial,trivial⟩
 simp only[List.cons.injEq,Value.slice.injEq,and_true]at pC
 obtain⟨rfl,rfl,rfl⟩:=pC;simp only[if_true]at hz
 have hw:a.spot=none/\a.block<W.heap.size:=by
  simp only[Value.okWide,Cell.okWide,Cell.ok,Tryz.underlying83]at hv
  obtain⟨_,_,_,hs,row,cells,lD,_⟩:=hv;refine⟨hs,?_⟩;unfold World.shape? at lD;rcases Nat.lt_or_ge a.block W.heap.size with h|h
  ·exact h
  rw[Array.getElem?_eq_none h]at lD;simp at lD
 obtain⟨g,o,sp⟩:=a;simp only at hw
 obtain⟨rfl,hg⟩:=hw;have WK:∀j (h:j<zs.length),0<=zs[j]/\zs[j]<=255:=λj h=>bounds_u8 (hwz _ (List.getElem_mem h))
 refine⟨(zs.take len).map λx=>UInt8.ofNat x.toNat,⟨some ⟨g,o,none⟩,cap,by simp;omega,by simp;omega,hm,.inr ⟨g,o,rfl,hg,λj hj=>?_⟩⟩,trivial,trivial⟩
 have MF:j<zs.length:=by simp at hj;omega
 have hc:=aq j MF;rw[Addr.add_lit]at hc;rw[hc];have:=WK j MF;simp[List.getD,List.getElem?_eq_getElem MF]
 omega
end
namespace Pm
open Go.Proofs.Tryz
def E1(t:Int)(y:Bool)(e:Int):Cd:=cm 4 0 t 0 y [] [] e
def sH(y:Bool)(e:Int):ck:=⟨0,0,y,e,[],⟨[],[]⟩,[],[]⟩
def E2(t:Int)(y:Bool)(e:Int)(k:Nat):bQ:=⟨ja.st,ja.rg,ja.hs,ja.wd,ja.ids,ja.dI,if k=0 then [] else [(t,y,e)]⟩
def AH(L:List Bool)(k:Nat):Bool:=(L[k]?).getD false
def jN(E:Bs)(k:Nat):Int:=((E[k]?).map (λb=>(b.toNat:Int))).getD 0
theorem AJ(E:Bs)(k:Nat):0<=jN E k/\jN E k<=255:=by
 unfold jN;cases h:E[k]? with
 |none=>exact⟨Int.le_refl _,by decide⟩
 |some b=>have:=b.toNat_lt;simp;omega
theorem nP{t:Int}{y:Bool}{e:Int}(ht:0<=t/\t<=281474976710656)(he:0<=e/\e<=255):pN (E1 t y e):=by
 have aN:Ap ⟨[],[]⟩:=⟨by simp,by simp,⟨by simp,λi j hi=>by simp at hi,by simp,λi j hi=>by simp at hi⟩⟩
 have vX:∀p,qF p []:=λp=>⟨by simp,λk h=>by simp at h⟩
 have fW:lx []:=⟨by simp,λk h=>by simp at h⟩
 refine⟨show(1:Int)<=4/\(4:Int)<=13 by decide,show(0:Int)<=0/\(0:Int)<4 by decide,?_,show nO []=true by decide,show nO []=true by decide,fW,aN,vX _⟩
 unfold kt;simp only[List.all_cons,List.all_nil,Bool.and_true,Bool.and_eq_true,decide_eq_true_eq]
 exact⟨⟨Int.le_refl _,show(0:Int)<=281474976710656 by decide⟩,ht,⟨Int.le_refl _,show(0:Int)<=281474976710656 by decide⟩,⟨he.1,Int.le_trans he.2 (by decide)⟩,⟨Int.le_refl _,show(0:Int)<=281474976710656 by decide⟩,⟨Int.le_refl _,show(0:Int)<=281474976710656 by decide⟩⟩
theorem AK(t:Int)(y:Bool)(e:Int)(k:Nat):Ic (E2 t y e k):=
 ⟨⟨Cz.inv.st,Cz.inv.n,Cz.inv.m,Cz.inv.rg,Cz.inv.hs,Cz.inv.hn,Cz.inv.wd,Cz.inv.dI⟩,Cz.ids,Cz.dI,(by unfold E2;split<;>simp),Cz.rg⟩
theorem UC(t:Int)(L:List Bool)(E:Bs)(k:Nat):dS (E2 t (AH L 0) (jN E 0) k) (E1 t (AH L k) (jN E k))=(E2 t (AH L 0) (jN E 0) (k+1),sH (AH L 0) (jN E 0)):=by
 unfold dS;rw[if_pos (Or.inl (show(E1 t (AH L k) (jN E k)).id=0 from rfl))];unfold bn;rw[if_neg (show ¬(E1 t (AH L k) (jN E k)).kind=1 from(show ¬(4:Int)=1 by decide)),if_neg (show ¬(E1 t (AH L k) (jN E k)).kind=2 from(show ¬(4:Int)=2 by decide)),if_neg (show ¬(E1 t (AH L k) (jN E k)).kind=3 from(show ¬(4:Int)=3 by decide)),if_pos (show(E1 t (AH L k) (jN E k)).kind=4 from rfl)]
 by_cases h:k=0
 ·subst h
  simp[oT,E1,cm,E2,lk,sH,ck.ok]
 simp[oT,E1,cm,E2,lk,sH,ck.ok,h]
theorem YZ(t:Int)(y:Bool)(e:Int):E2 t y e 0=ja:=rfl
end Pm
end
end Go.Proofs.YtgafcelloiagmaaGreatDoor
