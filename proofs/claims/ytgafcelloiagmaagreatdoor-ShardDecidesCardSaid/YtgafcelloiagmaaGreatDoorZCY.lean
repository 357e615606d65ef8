/- A text of this proof. -/
import Derived.Lib.OwnBridge
import Derived.Test.YtgafcelloiagmaaGreatDoorZCU
import Derived.Test.YtgafcelloiagmaaGreatDoorZCV
set_option maxHeartbeats 16000000
set_option linter.unusedSimpArgs false
set_option linter.unusedVariables false
set_option maxRecDepth 20000
namespace Go.Proofs.YtgafcelloiagmaaGreatDoor
open Go.Proofs.Tryz
open Go.RowKit Pm
theorem CO(a b:Bs):(a<=b)↔lt b a=false:=by
 unfold lt;rw[bytesLess_eq,decide_eq_false_iff_not];exact List.not_lt.symm
theorem Mr(ss:List Bs):(ss.mergeSort λx y=>decide (x<=y)).Pairwise (λa b=>lt b a=false):=by
 have h:=List.pairwise_mergeSort (le:=λx y:Bs=>decide (x<=y)) (λa b c h1 h2=>by
  rw[decide_eq_true_eq]at *;rw[CO]at *;cases e:lt c a with
  |false=>rfl
  |true=>
   have:=oI (a:=b) (b:=c) (c:=a) h2 e;rw[h1]at this;cases this) (λa b=>by
  rw[Bool.or_eq_true,decide_eq_true_eq,decide_eq_true_eq,CO,CO];cases e:lt b a with
  |false=>exact .inl rfl
  |true=>exact .inr (lt_asymm e)) ss
 exact h.imp (λ{a b} k=>(CO a b).1 (by simpa using k))
theorem Ji{s:List Bs}(h:s.Pairwise (λa b=>lt b a=false)):∀m,m<=s.length->Up (Lib.compactUpTo s.toArray m)/\∀x,x∈Lib.compactUpTo s.toArray m↔∃j,∃hj:j<s.length,j<m/\s[j]=x
 |0,_=>⟨List.Pairwise.nil,λx=>by simp[Lib.compactUpTo]⟩
 |m+1,hm=>by
  obtain⟨h1,h2⟩:=Ji h m (by omega)
  have jE:m<s.length:=by omega
  have e1:s.toArray[m]! =s[m]:=by rw[getElem!_pos s.toArray m (by simpa using jE)];simp
  have hw:∀i j (hi:i<s.length) (hj:j<s.length),i<j->lt s[j] s[i]=false:=λi j hi hj jR=>List.pairwise_iff_getElem.1 h i j hi hj jR
  rw[Lib.compactUpTo_succ,e1];cases hk:Lib.keeps s.toArray m with
  |true=>
   rw[if_pos rfl];refine⟨?_,λx=>?_⟩
   ·show List.Pairwise _ _
    rw[List.pairwise_append];refine⟨h1,List.pairwise_singleton _ _,λx hx y hy=>?_⟩
    rw[List.mem_singleton]at hy;subst hy;obtain⟨j,hj,WG,rfl⟩:=(h2 x).1 hx;unfold Lib.keeps at hk;rw[decide_eq_true_eq]at hk
    have bA:s[m]≠s[m-1]'(by omega):=by
     rcases hk with hk|hk
     ·omega
     rw[e1,getElem!_pos s.toArray (m-1) (by simpa using (by omega:m-1<s.length))]at hk
     simpa using hk
    have h3:=lr (hw (m-1) m (by omega) jE (by omega)) bA
    rcases Nat.lt_or_eq_of_le (show j<=m-1 by omega) with e|e
    ·exact oI (hw j (m-1) hj (by omega) e) h3
    subst e;exact h3
   rw[List.mem_append,List.mem_singleton,h2];constructor
   ·rintro(⟨j,hj,WG,e⟩|e)
    ·exact⟨j,hj,by omega,e⟩
    exact⟨m,jE,by omega,e.symm⟩
   rintro⟨j,hj,WG,e⟩;rcases Nat.lt_or_eq_of_le (show j<=m by omega) with c|c
   ·exact .inl ⟨j,hj,c,e⟩
   subst c;exact .inr e.symm
  |false=>?_
  rw[if_neg (by simp),List.append_nil]
  refine⟨h1,λx=>?_⟩
  unfold Lib.keeps at hk;rw[decide_eq_false_iff_not,not_or,Decidable.not_not]at hk;obtain⟨h0,hk⟩:=hk;rw[e1,getElem!_pos s.toArray (m-1) (by simpa using (by omega:m-1<s.length))]at hk
  have hk:s[m]=s[m-1]'(by omega):=by simpa using hk
  rw[h2];constructor
  ·rintro⟨j,hj,WG,e⟩;exact⟨j,hj,by omega,e⟩
  rintro⟨j,hj,WG,e⟩;rcases Nat.lt_or_eq_of_le (show j<=m by omega) with c|c
  ·exact⟨j,hj,c,e⟩
  subst c;exact⟨j-1,by omega,by omega,by rw[<-hk];exact e⟩
theorem CP(ss:List Bs):Lib.compact (ss.mergeSort λx y=>decide (x<=y))=gG ss:=by
 have h:=Ji (Mr ss) (ss.mergeSort λx y=>decide (x<=y)).length (Nat.le_refl _)
 refine LO h.1 (λx=>?_)
 show x∈Lib.compactUpTo _ _↔_
 rw[h.2,<-(List.mergeSort_perm ss (λx y=>decide (x<=y))).mem_iff]
 constructor
 ·rintro⟨j,hj,_,rfl⟩;exact List.getElem_mem hj
 intro hx;obtain⟨j,hj,e⟩:=List.getElem_of_mem hx;exact⟨j,hj,hj,e⟩
theorem pS(l:List Bs):bC JJ l=l.map encStr:=by
 unfold bC JJ au B;induction l with
 |nil=>rfl
 |cons x l ih=>rw[List.flatMap_cons,ih,List.map_cons];rfl
structure Vd(lo:Nat)(w:World)(v:Value)(l:List Bs)(v':Value)(w':World):Prop where
 own:AB lo w' v' l
 fp:Fp (λk=>v.ownBlock=some k) w w'
 new:∀k,v'.ownBlock=some k->v.ownBlock=some k
theorem td{lo:Nat}{w:World}{v:Value}{l:List Bs}(h:AB lo w v l)(hn:l.length<=1000000):
  Calls prog 170 #[v] w λe w'=>∃v',e=.returned v'/\Vd lo w v (gG l) v' w':=by
 rcases h.U8 with⟨rfl,rfl⟩|⟨G,cap,rfl,bq,hG,eN,fG⟩
 ·have h1:=λW=>Tryz.slices_Sort_string_none none 0 W
  have h2:=λW=>Tryz.slices_Compact_string_empty none 0 W
  have H:=zI (yI h1 h2);clear h1 h2 h hn;go_enter func170,ntmps170
  go_wp2_with fail
  refine(H.1 _).mono ?_;rintro e w1⟨rfl,rfl⟩;go_wp2_with fail
  refine(H.2 _).mono ?_;rintro e w1⟨rfl,rfl⟩;go_wp2;go_ret;exact⟨_,rfl,dT.nil _ _,Fp.refl _ _,λk hk=>by simp[Value.ownBlock]at hk⟩
 have ho:w.ownsRow lo Ay 1 (.slice (some ⟨G,0,none⟩) l.length cap) l.length (l.map encStr):=by have:=h;unfold AB dT at this;rwa[pS]at this
 obtain⟨g,aY,e,_,_,_,_,_,hH⟩:=Lib.holds_of_ownsRow ho (by intro e;cases e)
 injection e with e1 _ e3
 injection e1 with e1
 injection e1 with e1
 subst e1 e3;have MH:=Tryz.slices_Sort_string G 0 cap l w hH hG (by omega)
 have Rm:∀n os,Calls prog 234 #[.slice (some ⟨G,0,none⟩) l.length cap] (Go.Sort.grow (Go.Sort.putRow encStr (Sort.ahead w n) G 0 (l.mergeSort λx y=>decide (x<=y)).toArray) os) λe w'=>∃v',e=.returned v'/\Vd lo w (.slice (some ⟨G,0,none⟩) l.length cap) (gG l) v' w':=λn os=>by
  rcases ho.2 with⟨h0,_⟩|⟨g',aY,cur,e0,hb,hg,Aw,hm,hs,ht⟩
  ·cases h0
  injection e0 with e1 _ e3
  injection e1 with e1
  injection e1 with e1
  subst e1 e3;have hl:(l.mergeSort λx y=>decide (x<=y)).length=l.length:=(List.mergeSort_perm _ _).length_eq
  have aL:=ownsRow_sorted (n:=n) (os:=os) hl hb hg Aw hm hs;have Ea:=grownBy_sorted (w:=w) (g:=G) (n:=n) (os:=os) (l.mergeSort λx y=>decide (x<=y)).toArray
  generalize hW:(Go.Sort.grow (Go.Sort.putRow encStr (Sort.ahead w n) G 0 (l.mergeSort λx y=>decide (x<=y)).toArray) os)=W at *
  obtain⟨g,aa5,e,_,hGW,_,_,_,hH2⟩:=Lib.holds_of_ownsRow aL (by intro e;cases e)
  injection e with e1 _ e3
  injection e1 with e1
  injection e1 with e1
  subst e1 e3;have hc:=Tryz.slices_Compact_string G 0 cap (l.mergeSort λx y=>decide (x<=y)) W hH2 (by omega) (by omega)
  rw[hl,CP]at hc;refine hc.mono ?_;rintro e w'⟨rfl,q,rfl⟩;have hk:(gG l).length<=l.length:=by rw[<-CP,<-hl];exact Lib.compact_length_le _
  have hy:(gG l++List.replicate (l.length-(gG l).length) []).length=l.length:=by simp;omega
  have bf:=Lib.ownsRow_putRow (q:=q) aL hy hk;have nK:(gG l++List.replicate (l.length-(gG l).length) []).take (gG l).length=gG l:=List.take_left;rw[nK]at bf;refine⟨_,rfl,?_,?_,λk hk=>hk⟩
  ·unfold AB dT;rw[pS];exact bf
  have f1:Fp (λk=>(Value.slice (some ⟨G,0,none⟩) l.length cap).ownBlock=some k) w W:=(Fp.refl _ w).grown Ea (λk hk=>.inl (by injection hk with hk;rw[<-hk];rfl))
  refine f1.same ⟨rfl,rfl,rfl,by simp[Sort.ahead],λk hk hS=>?_⟩
  have bA:G≠k:=λe=>hS (by rw[<-e];rfl)
  simp[Go.Sort.putRow,Go.Sort.mapBlock,Sort.ahead,Array.getElem?_modify,bA]
 have HS:=zI (yI MH Rm);clear MH Rm ho hH h hn eN;generalize l.length=n at *;go_enter func170,ntmps170
 go_wp2_with fail
 refine HS.1.mono ?_;rintro e w1⟨rfl,m,os,rfl⟩;go_wp2_with fail
 refine(HS.2 m os).mono ?_;rintro e w2⟨v',rfl,hR⟩;have HR:=zI hR;clear hR;go_wp2;go_ret;exact⟨_,rfl,HR.out⟩
structure Pc where
 op:Int
 kind:Int
 dir:Bs
 path:Bs
 data:Bs
 aX:Int
 own:Int
 turns:Bool
def OB(x:Pc):List Value:=[.int .i64 x.op,.int .i64 x.kind,au x.dir,au x.path,au x.data,.int .i64 x.aX,.int .i64 x.own,.bool x.turns]
structure ZD(w:World)(g o:Nat)(x:Pc):Prop where
 c0:w.cell? ⟨g,o,none⟩=some (.int .i64 x.op)
 c1:w.cell? ⟨g,o+1,none⟩=some (.int .i64 x.kind)
 c2:w.cell? ⟨g,o+2,none⟩=some (.string (B x.dir))
 c3:w.cell? ⟨g,o+3,none⟩=some (.string (B x.path))
 c4:w.cell? ⟨g,o+4,none⟩=some (.string (B x.data))
 c5:w.cell? ⟨g,o+5,none⟩=some (.int .i64 x.aX)
 c6:w.cell? ⟨g,o+6,none⟩=some (.int .i64 x.own)
 c7:w.cell? ⟨g,o+7,none⟩=some (.bool x.turns)
theorem iI.pc{w:World}{g o:Nat}{x:Pc}(h:iI OB w g o x):ZD w g o x:=
 ⟨h.get 0 _ rfl,h.get 1 _ rfl,h.get 2 _ rfl,h.get 3 _ rfl,h.get 4 _ rfl,h.get 5 _ rfl,h.get 6 _ rfl,h.get 7 _ rfl⟩
structure ZE(lo:Nat)(w:World)(v:Value)(l:List Bs)(v':Value)(w':World):Prop where
 own:AB lo w' v' l
 fp:Fp (λk=>v.ownBlock=some k) w w'
theorem Jj(w:World)(lo:Nat)(v:Value)(l:List Bs)(s:Bs)(ty:TypeId)(hv:AB lo w v l)(h6:l.length<=99999)(bq:lo<=w.heap.size):
  ∃v' w',(Builtin.append_ #[Cv,Cv] ty #[v,.slice (some ⟨w.heap.size,0,none⟩) 1 1]).run prog (w.alloc (.cells #[.string (B s)] Ay))=.ok v' w'/\ZE lo w v (l++[s]) v' w':=by
 have hf:Fp ab w (w.alloc (.cells #[.string (B s)] Ay)):=aa w _
 obtain⟨v',w',hr,h1,h2,h3⟩:=yE (w.alloc (.cells #[.string (B s)] Ay)) lo v l [s] ty ⟨w.heap.size,0,none⟩ 1 1 (hv.af hf) rfl (λi hi=>by
  have:i=0:=by simpa using hi
  subst this;rw[Addr.add_lit];rw[cell_of_row _ _ _ _ _ _ (heap_alloc_new w _)];rfl) (by simp;omega) (Nat.le_trans bq hf.size)
 exact⟨v',w',hr,h1,hf.any.grown h2 (λk hk=>.inl hk)⟩
theorem sQ(p:List Pc)(k:Nat)(h:k<p.length):(p.map Pc.dir).take (k+1)=(p.map Pc.dir).take k++[p[k].dir]:=by
 rw[List.take_succ_eq_append_getElem (by simpa using h),List.getElem_map]
theorem PD(v:Value)(p:List Pc)(w:World)(hv:Sg OB 8 w v p)(hn:p.length<=90000):
  Calls prog 121 #[v] w λe w'=>∃v',e=.returned v'/\Q2 w (gG (p.map Pc.dir)) v' w':=by
 obtain⟨ao,cap,rfl⟩:=hv.shape;obtain⟨n,aR⟩:∃n,n=p.length:=⟨_,rfl⟩;have HX:=zI (yI aR hv);rw[<-aR];have jS:n<=90000:=by omega
 have H0:Hid (AB w.heap.size w (.slice none 0 0) ((p.map Pc.dir).take 0)/\Fp ab w w):=⟨dT.nil _ _,Fp.refl _ _⟩;clear hv hn aR;go_enter func121,ntmps121
 go_wp2_with fail
 go_loopw [3,8] (λd i wr=>∃k:Nat,k<=n/\i=.int .i64 k/\Hid (AB w.heap.size wr d ((p.map Pc.dir).take k)/\Fp ab w wr)) (λ_ i _=>n-(RowKit.intOf i).toNat)
 case atStart=>exact⟨0,Nat.zero_le _,rfl,H0⟩
 clear H0;obtain⟨k,hk,rfl,hR⟩:=hrel;rename_i wr _
 by_cases ay:k<n
 ·have aS:k<p.length:=by rw[<-HX.1];exact ay
  obtain⟨g,o,aY,e,aq⟩:=HX.2.at (by omega)
  injection e with e1 e2 e3
  subst e1 e3;have aE:=((aq k aS).keep hR.2 id).pc;have aN:=sQ p k aS;obtain⟨x,hx⟩:∃x,x=p[k]:=⟨_,rfl⟩;rw[<-hx]at aE aN;clear hx aq;obtain⟨x0,x1,x2,x3,x4,x5,x6,x7⟩:=x;have c0:=aE.c0;have c1:=aE.c1;have c2:=aE.c2;have c3:=aE.c3;have c4:=aE.c4;have c5:=aE.c5;have c6:=aE.c6;have c7:=aE.c7;simp only at c0 c1 c2 c3 c4 c5 c6 c7 aN
  have fB:=heap_alloc_new wr (.cells #[.int .i64 x0,.int .i64 x1,.string (B x2),.string (B x3),.string (B x4),.int .i64 x5,.int .i64 x6,.bool x7] 132);have iB:=aa wr (.cells #[.int .i64 x0,.int .i64 x1,.string (B x2),.string (B x3),.string (B x4),.int .i64 x5,.int .i64 x6,.bool x7] 132);have bM:=Jj (wr.alloc (.cells #[.int .i64 x0,.int .i64 x1,.string (B x2),.string (B x3),.string (B x4),.int .i64 x5,.int .i64 x6,.bool x7] 132)) w.heap.size u3 _ x2 Cv (hR.1.af iB) (by rw[List.length_take,List.length_map];omega) (Nat.le_trans hR.2.size iB.size)
  rw[show(wr.alloc (.cells #[.int .i64 x0,.int .i64 x1,.string (B x2),.string (B x3),.string (B x4),.int .i64 x5,.int .i64 x6,.bool x7] 132)).heap.size=wr.heap.size+1 from by simp]at bM
  have b2:(wr.alloc (.cells #[.int .i64 x0,.int .i64 x1,.string (B x2),.string (B x3),.string (B x4),.int .i64 x5,.int .i64 x6,.bool x7] 132)).cell? ⟨wr.heap.size,2,none⟩=some (.string (B x2)):=by rw[cell_of_row _ _ _ _ _ _ fB];rfl
  have q3:((k:Int)<(n:Int))=True:=eq_true (by omega)
  have q4:(k<n)=True:=eq_true ay;have HA:=zI bM;have HL:=zI (yI ay (yI aN (yI iB hR.out)));have dN:=hR.1.lt;have oX:=zI dN;clear aE bM ay aS fB iB aN hR dN;go_wp2_with (at_builtin;go_must (refine aG rfl _ _ _ _ rfl _ _ rfl rfl _ HA.out ?_))
  intro v' w' hA;have hM:Hid (AB w.heap.size w' v' ((p.map Pc.dir).take (k+1))/\Fp ab w w'):=⟨by rw[HL.2.1];exact hA.own,(HL.2.2.2.2.then HL.2.2.1).trans hA.fp (λj hj=>.inr (oX j hj).1)⟩
  have eJ:=HL.1;clear hA HL HA;go_wp2;go_roundw
  case rel=>exact⟨k+1,by omega,by go_num,hM⟩
  case measure=>simp[RowKit.intOf];omega
 have cV:k=n:=by omega
 subst cV;have q3:((k:Int)<(k:Int))=False:=eq_false (by omega)
 have e:(p.map Pc.dir).take k=p.map Pc.dir:=List.take_of_length_le (by rw[List.length_map,<-HX.1];exact Nat.le_refl _)
 have hO:=hR.1;rw[e]at hO;have eK:=td hO (by rw[List.length_map,<-HX.1];omega)
 have nT:=hR.2;have RG:=hO.lt;have HI:=zI eK;have HF:=zI (yI nT RG);clear ay hk e hO eK nT RG hR;go_wp2_with fail
 refine HI.mono ?_;rintro e w2⟨v2,rfl,hC⟩;have HR:Hid (Q2 w (gG (p.map Pc.dir)) v2 w2):=⟨hC.own,HF.1.trans hC.fp (λj hj=>.inr (HF.2 j hj).1)⟩
 clear hC;go_wp2;go_ret;exact⟨_,rfl,HR.out⟩
structure BxC(w:World)(b:Nat)(c:Cd)(vp vn vt vg:Value):Prop where
 c0:w.cell? ⟨b,0,none⟩=some (.int .i64 c.kind)
 c1:w.cell? ⟨b,1,none⟩=some (.int .i64 c.id)
 c2:w.cell? ⟨b,2,none⟩=some (.int .i64 c.bu)
 c3:w.cell? ⟨b,3,none⟩=some (.int .i64 c.gX)
 c4:w.cell? ⟨b,4,none⟩=some (.bool c.yes)
 c5:w.cell? ⟨b,5,none⟩=some vp
 c6:w.cell? ⟨b,6,none⟩=some (.string (B c.pre))
 c7:w.cell? ⟨b,7,none⟩=some (.int .i64 c.ep)
 c8:w.cell? ⟨b,8,none⟩=some (.int .i64 c.to)
 c9:w.cell? ⟨b,9,none⟩=some vn
 c10:w.cell? ⟨b,10,none⟩=some vt
 c11:w.cell? ⟨b,11,none⟩=some vg
 c12:w.cell? ⟨b,12,none⟩=some (.int .i64 c.ws)
 c13:w.cell? ⟨b,13,none⟩=some (.int .i64 c.wn)
 NC:w.cell? ⟨b,14,none⟩=some (.string (B c.wp))
 c15:w.cell? ⟨b,15,none⟩=some (.bool c.deep)
theorem Qs{w:World}{b:Nat}{c:Cd}{vp vn vt vg:Value}(h:w.heap[b]?=some (.cells (kg c vp vn vt vg) sr (0,0))):BxC w b c vp vn vt vg:=by
 constructor<;>(rw[cell_of_row _ _ _ _ _ _ h];rfl)
theorem Hy(v:Value)(c:Cd)(w:World)(hv:PS w v c)(hw:Fw c):
  Calls prog 47 #[v] w λe w'=>e=.returned (.bool (im c))/\Fp ab w w':=by
 obtain⟨vp,vn,vt,vg,rfl,h1,h2,h3,h4⟩:=hv.ex;obtain⟨ap,cp,rfl⟩:=h1.shape;obtain⟨an,cn,rfl⟩:=h2.shape;obtain⟨at',ct,rfl⟩:=h3.shape;obtain⟨ag,cg,rfl⟩:=h4.shape;obtain⟨r,hr⟩:∃r,im c=r:=⟨_,rfl⟩;have cP:¬pN c->r=false:=λh=>by rw[<-hr];exact vE h
 have gj:pN c->r=true:=λh=>by rw[<-hr];exact oC h
 rw[hr];have hb:=heap_alloc_new w (.cells (kg c (.slice ap c.ps.length cp) (.slice an c.st.nodes.length cn) (.slice at' c.st.turns.length ct) (.slice ag c.gone.length cg)) sr);have HF:=zI (aa w (.cells (kg c (.slice ap c.ps.length cp) (.slice an c.st.nodes.length cn) (.slice at' c.st.turns.length ct) (.slice ag c.gone.length cg)) sr));have H0:=zI (yI hb (yI h1 (yI h2 (yI h3 h4))));have HR:=zI (yI cP (yI gj hw));clear h1 h2 h3 h4 hv hw cP gj hr hb;unfold kg at HF H0|-;by_cases k1:c.kind<1
 ·have t1:(c.kind<1)=True:=eq_true k1
  have HN:=zI (HR.1 (λh=>by have:=h.kind;omega))
  clear k1;go_enter func47,ntmps47
  go_wp2;go_ret;exact⟨by rw[HN.out];rfl,HF.out⟩
 have t1:(c.kind<1)=False:=eq_false k1;by_cases k2:13<c.kind
 ·have t2:(13<c.kind)=True:=eq_true k2
  have HN:=zI (HR.1 (λh=>by have:=h.kind;omega))
  clear k1 k2;go_enter func47,ntmps47
  go_wp2;go_ret;exact⟨by rw[HN.out];rfl,HF.out⟩
 have t2:(13<c.kind)=False:=eq_false k2;by_cases k3:c.to<0
 ·have t3:(c.to<0)=True:=eq_true k3
  have HN:=zI (HR.1 (λh=>by have:=h.to;omega))
  clear k1 k2 k3;go_enter func47,ntmps47
  go_wp2;go_ret;exact⟨by rw[HN.out];rfl,HF.out⟩
 have t3:(c.to<0)=False:=eq_false k3;by_cases k4:4<=c.to
 ·have t4:(4<=c.to)=True:=eq_true k4
  have HN:=zI (HR.1 (λh=>by have:=h.to;omega))
  clear k1 k2 k3 k4;go_enter func47,ntmps47
  go_wp2;go_ret;exact⟨by rw[HN.out];rfl,HF.out⟩
 have t4:(4<=c.to)=False:=eq_false k4;have HK:=zI (show(1<=c.kind/\c.kind<=13)/\0<=c.to/\c.to<4 from⟨⟨by omega,by omega⟩,by omega,by omega⟩)
 clear k1 k2 k3 k4;have zn:=zI (Qs (c:=c) H0.1);obtain⟨W0,dw⟩:∃W0,W0=w.alloc (.cells #[.int .i64 c.kind,.int .i64 c.id,.int .i64 c.bu,.int .i64 c.gX,.bool c.yes,.slice ap c.ps.length cp,.string (B c.pre),.int .i64 c.ep,.int .i64 c.to,.slice an c.st.nodes.length cn,.slice at' c.st.turns.length ct,.slice ag c.gone.length cg,.int .i64 c.ws,.int .i64 c.wn,.string (B c.wp),.bool c.deep] sr):=⟨_,rfl⟩;have db:W0.heap.size=w.heap.size+1:=by rw[dw];simp
 have HA:=zI (Ez (.slice (some ⟨W0.heap.size,0,none⟩) 6 6) [c.id,c.bu,c.gX,c.ep,c.ws,c.wn] (W0.alloc (.cells #[.int .i64 c.id,.int .i64 c.bu,.int .i64 c.gX,.int .i64 c.ep,.int .i64 c.ws,.int .i64 c.wn] 2)) (Sg.block (l:=[c.id,c.bu,c.gX,c.ep,c.ws,c.wn]) Me (heap_alloc_new W0 (.cells #[.int .i64 c.id,.int .i64 c.bu,.int .i64 c.gX,.int .i64 c.ep,.int .i64 c.ws,.int .i64 c.wn] 2)) rfl 6) (by simp))
 have ef:=zI (HF.then (aa (w.alloc (.cells #[.int .i64 c.kind,.int .i64 c.id,.int .i64 c.bu,.int .i64 c.gX,.bool c.yes,.slice ap c.ps.length cp,.string (B c.pre),.int .i64 c.ep,.int .i64 c.to,.slice an c.st.nodes.length cn,.slice at' c.st.turns.length ct,.slice ag c.gone.length cg,.int .i64 c.ws,.int .i64 c.wn,.string (B c.wp),.bool c.deep] sr)) (.cells #[.int .i64 c.id,.int .i64 c.bu,.int .i64 c.gX,.int .i64 c.ep,.int .i64 c.ws,.int .i64 c.wn] 2)));rw[<-dw]at zn ef;have iW:=zI (show BxC (W0.alloc (.cells #[.int .i64 c.id,.int .i64 c.bu,.int .i64 c.gX,.int .i64 c.ep,.int .i64 c.ws,.int .i64 c.wn] 2)) w.heap.size c (.slice ap c.ps.length cp) (.slice an c.st.nodes.length cn) (.slice at' c.st.turns.length ct) (.slice ag c.gone.length cg) from Qs ((aa W0 _).heap (by rw[dw];exact H0.1) id))
 have bO:(W0.alloc (.cells #[.int .i64 c.id,.int .i64 c.bu,.int .i64 c.gX,.int .i64 c.ep,.int .i64 c.ws,.int .i64 c.wn] 2)).heap[w.heap.size]?=some (.cells (kg c (.slice ap c.ps.length cp) (.slice an c.st.nodes.length cn) (.slice at' c.st.turns.length ct) (.slice ag c.gone.length cg)) sr (0,0)):=(aa W0 _).heap (by rw[dw];exact H0.1) id
 have HH:=zI bO;clear bO;have HS:=zI db;obtain⟨a0,Mq⟩:∃b,kt [c.id,c.bu,c.gX,c.ep,c.ws,c.wn]=b:=⟨_,rfl⟩;obtain⟨a1,Uk⟩:∃b,nO c.pre=b:=⟨_,rfl⟩;obtain⟨a2,ZF⟩:∃b,nO c.wp=b:=⟨_,rfl⟩;obtain⟨a3,ZG⟩:∃b,Mh c.ps=b:=⟨_,rfl⟩;obtain⟨a4,ZH⟩:∃b,Mj c.st=b:=⟨_,rfl⟩;obtain⟨a5,ZI⟩:∃b,Ml c.pre c.gone=b:=⟨_,rfl⟩;have HY:=zI (yI Mq (yI Uk (yI ZF (yI ZG (yI ZH ZI)))));rw[Mq]at HA;have C1:=zI (show ∀W,Calls prog 82 #[.string (B c.pre)] W λe w'=>e=.returned (.bool a1)/\Fp ab W w' from λW=>by have:=Je c.pre W HR.2.2.pre;rwa[Uk]at this)
 have C2:=zI (show ∀W,Calls prog 82 #[.string (B c.wp)] W λe w'=>e=.returned (.bool a2)/\Fp ab W w' from λW=>by have:=Je c.wp W HR.2.2.wp;rwa[ZF]at this)
 have C3:=zI (show ∀W,Fp ab w W->Calls prog 83 #[.slice ap c.ps.length cp] W λe w'=>e=.returned (.bool a3)/\Fp ab W w' from λW f=>by
  have:=Mn _ c.ps W (H0.2.1.af f) (λx hx=>(HR.2.2.ps x hx).2.1);rwa[ZG]at this)
 have C4:=zI (show ∀W,Fp ab w W->Calls prog 84 #[.agg #[.slice an c.st.nodes.length cn,.slice at' c.st.turns.length ct]] W λe w'=>e=.returned (.bool a4)/\Fp ab W w' from λW f=>by
  have:=Qr _ c.st W ⟨_,_,rfl,H0.2.2.1.af f,H0.2.2.2.1.af f⟩ (λx hx=>(HR.2.2.nodes x hx).1) HR.2.2.nn HR.2.2.turns HR.2.2.tn;rwa[ZH]at this)
 have C5:=zI (show ∀W,Fp ab w W->Calls prog 85 #[.string (B c.pre),.slice ag c.gone.length cg] W λe w'=>e=.returned (.bool a5)/\Fp ab W w' from λW f=>by
  have:=Mo c.pre _ c.gone W (H0.2.2.2.2.af f) HR.2.2.pre HR.2.2.gone;rwa[ZI]at this)
 clear Mq Uk ZF ZG ZH ZI;go_enter func47,ntmps47
 go_wp2_with fail
 rw[show(49:TypeId)=sr from rfl,<-dw,<-db];clear dw db;refine HA.mono ?_;rintro e w1⟨rfl,hf⟩;have hh:=hf.heap HH id;have iD:=zI (ef.then hf);have HH2:=zI hh;have b:=Qs (c:=c) hh;have d6:=b.c6;have d14:=b.NC;clear hf hh b HA;cases a0 with
 |false=>
  have HN:=zI (HR.1 (λh=>by have:=h.Ux;rw[HY.1]at this;exact Bool.noConfusion this))
  go_wp2;go_ret;exact⟨by rw[HN.out];rfl,iD.out⟩
 |true=>
 go_wp2_with fail
 refine(C1 _).mono ?_;rintro e w2⟨rfl,hf⟩;have hh:=hf.heap HH2 id;have nw:=zI (iD.then hf);have HH3:=zI hh;have b:=Qs (c:=c) hh;clear d6 d14;have d14:=b.NC;clear hf hh b;cases a1 with
 |false=>
  have HN:=zI (HR.1 (λh=>by have:=h.pre;rw[HY.2.1]at this;exact Bool.noConfusion this))
  go_wp2;go_ret;exact⟨by rw[HN.out];rfl,nw.out⟩
 |true=>
 go_wp2_with fail
 refine(C2 _).mono ?_;rintro e w3⟨rfl,hf⟩;have hh:=hf.heap HH3 id;have Mc:=zI (nw.then hf);have HH4:=zI hh;have b:=Qs (c:=c) hh;clear d14;have d5:=b.c5;clear hf hh b;cases a2 with
 |false=>
  have HN:=zI (HR.1 (λh=>by have:=h.wp;rw[HY.2.2.1]at this;exact Bool.noConfusion this))
  go_wp2;go_ret;exact⟨by rw[HN.out];rfl,Mc.out⟩
 |true=>
 go_wp2_with fail
 refine(C3 _ Mc.out).mono ?_;rintro e w4⟨rfl,hf⟩;have hh:=hf.heap HH4 id;have O2:=zI (Mc.then hf);have HH5:=zI hh;have b:=Qs (c:=c) hh;clear d5;have d9:=b.c9;have d10:=b.c10;clear hf hh b;cases a3 with
 |false=>
  have HN:=zI (HR.1 (λh=>by have:=yM h.ps;rw[HY.2.2.2.1]at this;exact Bool.noConfusion this))
  go_wp2;go_ret;exact⟨by rw[HN.out];rfl,O2.out⟩
 |true=>
 go_wp2_with fail
 refine(C4 _ O2.out).mono ?_;rintro e w5⟨rfl,hf⟩;have hh:=hf.heap HH5 id;have ZJ:=zI (O2.then hf);have b:=Qs (c:=c) hh;clear d9 d10;have d6:=b.c6;have d11:=b.c11;clear hf hh b;cases a4 with
 |false=>
  have HN:=zI (HR.1 (λh=>by have:=yN h.st;rw[HY.2.2.2.2.1]at this;exact Bool.noConfusion this))
  go_wp2;go_ret;exact⟨by rw[HN.out];rfl,ZJ.out⟩
 |true=>
 go_wp2_with fail
 refine(C5 _ ZJ.out).mono ?_;rintro e w6⟨rfl,hf⟩;have HF7:=zI (ZJ.then hf);clear d6 d11 hf;cases a5 with
 |false=>
  have HN:=zI (HR.1 (λh=>by have:=yO h.gone;rw[HY.2.2.2.2.2]at this;exact Bool.noConfusion this))
  go_wp2;go_ret;exact⟨by rw[HN.out];rfl,HF7.out⟩
 |true=>?_
 have HN:=zI (HR.2.1 ⟨HK.1,HK.2,HY.1,HY.2.1,HY.2.2.1,(Mi _).1 HY.2.2.2.1,(Mk _).1 HY.2.2.2.2.1,(Mm _ _).1 HY.2.2.2.2.2⟩);go_wp2;go_ret;exact⟨by rw[HN.out];rfl,HF7.out⟩
structure V6(vp vn vt vg:Value):Prop where
 p:∃a n c,vp=.slice a n c
 n:∃a n c,vn=.slice a n c
 t:∃a n c,vt=.slice a n c
 g:∃a n c,vg=.slice a n c
theorem PS.eL{w:World}{c:Cd}{vp vn vt vg:Value}(f1:Sg Cb 8 w vp c.ps)(f2:Ns w vn c.st.nodes)(f3:Ts w vt c.st.turns)(f4:Tx w vg c.gone):V6 vp vn vt vg:=by
 obtain⟨ap,cp,rfl⟩:=f1.shape;obtain⟨an,cn,rfl⟩:=f2.shape;obtain⟨at',ct,rfl⟩:=f3.shape;obtain⟨ag,cg,rfl⟩:=f4.shape;exact⟨⟨_,_,_,rfl⟩,⟨_,_,_,rfl⟩,⟨_,_,_,rfl⟩,⟨_,_,_,rfl⟩⟩
theorem uX(w:World)(cs ze:Array Value)(T:TypeId):(w.alloc (.cells cs T)).setRow w.heap.size ze=w.alloc (.cells ze T):=by
 unfold World.setRow World.alloc;congr 1
 apply Array.ext
 ·simp
 intro i h1 h2;simp only[Array.getElem_modify]
 by_cases hi:w.heap.size=i
 ·subst hi;simp
 have:i<w.heap.size:=by simp at h1;omega
 simp[hi,Array.getElem_push_lt this]
theorem de{P:Program}{w:World}{ops:Array Oper}{rest:List Oper}{o:Oper}{a:Act}{Q:Exit->Act->World->Prop}(hw:Region.wanted o (yielded ops a.tmps)=true)(t:TypeId)(x:Operand)(ho:o.op=.load t x)(xv r:Value)(hx:a.eval x=xv)
  (hr:(Instr.loadAt t xv).run P w=.ok r w) (h:wpList P ops Q rest (a.put o.dst r) w):wpList P ops Q (o::rest) a w:=by
 refine wpList_step λK hK=>?_
 rw[if_pos hw];unfold Oper.wp;simp[execOp,ho,hx,hr,Result.andThen]
 exact hK _ _ h
theorem ak{P:Program}{w w':World}{ops:Array Oper}{rest:List Oper}{o:Oper}{a:Act}{Q:Exit->Act->World->Prop}(Aq:o.guard=none)(t:TypeId)(p x:Operand)(ho:o.op=.store t p x)(pv xv:Value)(hp:a.eval p=pv)(hx:a.eval x=xv)
  (hr:(Instr.storeAt t pv xv).run P w=.ok () w') (h:wpList P ops Q rest (a.put o.dst undef) w'):wpList P ops Q (o::rest) a w:=by
 refine wpList_plain Aq λK hK=>?_
 unfold Oper.wp;simp[execOp,ho,hp,hx,hr,Result.andThen]
 exact hK _ _ h
end Go.Proofs.YtgafcelloiagmaaGreatDoor
