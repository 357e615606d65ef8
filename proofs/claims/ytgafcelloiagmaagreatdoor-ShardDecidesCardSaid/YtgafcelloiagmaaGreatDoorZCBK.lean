/- A text of this proof. -/
import Derived.Test.YtgafcelloiagmaaGreatDoorZCBI
set_option maxHeartbeats 16000000
set_option linter.unusedSimpArgs false
set_option linter.unusedVariables false
set_option maxRecDepth 20000
namespace Go.Proofs.YtgafcelloiagmaaGreatDoor
open Go.Proofs.Tryz
open Go.RowKit Pm
theorem Sg.OM{α:Type}{enc:α->List Value}{k:Nat}(hk:∀x,(enc x).length=k){w:World}{G:Nat}{T:TypeId}{l:List α}(c:Nat)(h:w.heap[G]?=some (.cells (bC enc l).toArray T (0,0))):Sg enc k w (.slice (some ⟨G,0,none⟩) l.length c) l:=by
 refine⟨_,c,rfl,.inr ⟨G,0,rfl,λi hi=>⟨λj v hv=>?_⟩⟩⟩
 have hj:j<k:=by rw[<-hk l[i]];exact(List.getElem?_eq_some_iff.1 hv).1
 rw[cell_of_row w G _ _ T (0,0) h,Nat.zero_add,List.getElem?_toArray,kI hk l i j hi hj];exact hv
theorem jm{q:Bs}(l:List Pt)(g:Nat)(w:World)(hg:w.cell? ⟨g,1,none⟩=some (.string (B q)))(oZ:g<w.heap.size)(hq:q.length<=100)(hl:l.length<=10):
  Calls prog 117 #[.slice (some ⟨w.heap.size,0,none⟩) l.length l.length,.pointer (some ⟨g,0,none⟩)] (w.alloc (.cells (bC jl l).toArray TP)) λe w'=>e=.returned (.slice (some ⟨w.heap.size,0,none⟩) l.length l.length)/\Sg jl 7 w' (.slice (some ⟨w.heap.size,0,none⟩) l.length l.length) (l.map (du q))/\Fp ab w w':=by
 have hf:=aa w (.cells (bC jl l).toArray TP);refine(Sx l w.heap.size g q _ (heap_alloc_new w _) (hf.cell hg id) (by omega) hq hl).mono ?_
 rintro e w'⟨rfl,h1,h2⟩;refine⟨rfl,?_,hf.trans h2 (λk hk=>.inr (by omega))⟩
 have:=Sg.OM Cj l.length h1;rwa[List.length_map]at this
theorem XE(o:fD)(w:World)(hl:o.path.length<=1000000):
  Calls prog 76 #[pK o] w λe w'=>(∃v',e=.returned v'/\Sg jl 7 w' v' (partsOf o)/\∀j,v'.ownBlock=some j->w.heap.size<=j)/\Fp ab w w':=by
 have rW:=λw=>M0 o w hl
 obtain⟨kk,p,d,v,ow,t⟩:=o;obtain⟨bm,hm⟩:∃b,may ⟨kk,p,d,v,ow,t⟩=b:=⟨_,rfl⟩;rw[hm]at rW;have bZ:=aa w (.cells #[.int .i64 kk,.string (B p),.string (B d),.int .i64 v,.int .i64 ow,.bool t] Ac);have om:=heap_alloc_new w (.cells #[.int .i64 kk,.string (B p),.string (B d),.int .i64 v,.int .i64 ow,.bool t] Ac);have dr:=zI (yI bZ om);unfold pK au at rW|-;simp only at rW|-
 have HM:=zI rW;clear rW bZ om;cases bm with
 |false=>
  have e:partsOf ⟨kk,p,d,v,ow,t⟩=[]:=by unfold partsOf;rw[hm];rfl
  rw[e];clear e hm hl;go_enter func76,ntmps76
  go_wp2_with fail
  refine(HM _).mono ?_;rintro e w1⟨rfl,hf⟩;have F:=zI (dr.1.then hf);clear hf;go_wp2;go_ret;exact⟨⟨_,rfl,Sg.nil _,λj hj=>by simp[Value.ownBlock]at hj⟩,F.out⟩
 |true=>?_
 have hk:=xq hm;have hp:p.length<=100:=bT (tz hm);clear hl;simp only at hk
 rcases hk with rfl|rfl|rfl|rfl|rfl|rfl|rfl
 ·obtain⟨ps,dH⟩:∃ps,ps=partsOf ⟨1,p,d,v,ow,t⟩:=⟨_,rfl⟩
  have lQ:([⟨1,[],[],[],0,0,false⟩,⟨2,[],[],d,0,ow,t⟩]:List Pt).map (du p)=ps:=by rw[dH];unfold partsOf;rw[if_pos hm];simp[du,bU]
  rw[<-dH];have tA:=zI (yI lQ hp);clear lQ dH hp hm;go_enter func76,ntmps76
  go_wp2_with fail
  refine(HM _).mono ?_;rintro e w1⟨rfl,hf⟩;have K1:=zI (yI (dr.1.then hf) (hf.heap dr.2 id));clear hf;obtain⟨o0,o1,o2,o3,o4,o5⟩:=iv K1.2;have HC:=zI (jm (q:=p) ([⟨1,[],[],[],0,0,false⟩,⟨2,[],[],d,0,ow,t⟩]:List Pt) w.heap.size w1 o1 (Array.getElem?_eq_some_iff.1 K1.2).1 tA.2 (by simp))
  go_wp2_with fail
  refine HC.mono ?_;rintro e w2⟨rfl,o7,hf⟩;have HE:=zI (yI (show Sg jl 7 w2 (.slice (some ⟨w1.heap.size,0,none⟩) 2 2) ps by rw[<-tA.1];exact o7) (K1.1.then hf))
  clear o7 hf;go_wp2;go_ret;exact⟨⟨_,rfl,HE.1,λj hj=>by have h1:=K1.1.size;simp[Value.ownBlock]at hj;omega⟩,HE.2⟩
 ·obtain⟨ps,dH⟩:∃ps,ps=partsOf ⟨2,p,d,v,ow,t⟩:=⟨_,rfl⟩
  have lQ:([⟨3,[],[],[],v,0,false⟩,⟨4,[],[],[],0,0,false⟩]:List Pt).map (du p)=ps:=by rw[dH];unfold partsOf;rw[if_pos hm];simp[du,bU]
  rw[<-dH];have tA:=zI (yI lQ hp);clear lQ dH hp hm;go_enter func76,ntmps76
  go_wp2_with fail
  refine(HM _).mono ?_;rintro e w1⟨rfl,hf⟩;have K1:=zI (yI (dr.1.then hf) (hf.heap dr.2 id));clear hf;obtain⟨o0,o1,o2,o3,o4,o5⟩:=iv K1.2;have HC:=zI (jm (q:=p) ([⟨3,[],[],[],v,0,false⟩,⟨4,[],[],[],0,0,false⟩]:List Pt) w.heap.size w1 o1 (Array.getElem?_eq_some_iff.1 K1.2).1 tA.2 (by simp))
  go_wp2_with fail
  refine HC.mono ?_;rintro e w2⟨rfl,o7,hf⟩;have HE:=zI (yI (show Sg jl 7 w2 (.slice (some ⟨w1.heap.size,0,none⟩) 2 2) ps by rw[<-tA.1];exact o7) (K1.1.then hf))
  clear o7 hf;go_wp2;go_ret;exact⟨⟨_,rfl,HE.1,λj hj=>by have h1:=K1.1.size;simp[Value.ownBlock]at hj;omega⟩,HE.2⟩
 ·obtain⟨ps,dH⟩:∃ps,ps=partsOf ⟨3,p,d,v,ow,t⟩:=⟨_,rfl⟩
  have lQ:([⟨5,[],[],d,v,0,false⟩]:List Pt).map (du p)=ps:=by rw[dH];unfold partsOf;rw[if_pos hm];simp[du,bU]
  rw[<-dH];have tA:=zI (yI lQ hp);clear lQ dH hp hm;go_enter func76,ntmps76
  go_wp2_with fail
  refine(HM _).mono ?_;rintro e w1⟨rfl,hf⟩;have K1:=zI (yI (dr.1.then hf) (hf.heap dr.2 id));clear hf;obtain⟨o0,o1,o2,o3,o4,o5⟩:=iv K1.2;have HC:=zI (jm (q:=p) ([⟨5,[],[],d,v,0,false⟩]:List Pt) w.heap.size w1 o1 (Array.getElem?_eq_some_iff.1 K1.2).1 tA.2 (by simp))
  go_wp2_with fail
  refine HC.mono ?_;rintro e w2⟨rfl,o7,hf⟩;have HE:=zI (yI (show Sg jl 7 w2 (.slice (some ⟨w1.heap.size,0,none⟩) 1 1) ps by rw[<-tA.1];exact o7) (K1.1.then hf))
  clear o7 hf;go_wp2;go_ret;exact⟨⟨_,rfl,HE.1,λj hj=>by have h1:=K1.1.size;simp[Value.ownBlock]at hj;omega⟩,HE.2⟩
 ·obtain⟨ps,dH⟩:∃ps,ps=partsOf ⟨4,p,d,v,ow,t⟩:=⟨_,rfl⟩
  have lQ:([⟨6,[],[],[],v,0,false⟩]:List Pt).map (du p)=ps:=by rw[dH];unfold partsOf;rw[if_pos hm];simp[du,bU]
  rw[<-dH];have tA:=zI (yI lQ hp);clear lQ dH hp hm;go_enter func76,ntmps76
  go_wp2_with fail
  refine(HM _).mono ?_;rintro e w1⟨rfl,hf⟩;have K1:=zI (yI (dr.1.then hf) (hf.heap dr.2 id));clear hf;obtain⟨o0,o1,o2,o3,o4,o5⟩:=iv K1.2;have HC:=zI (jm (q:=p) ([⟨6,[],[],[],v,0,false⟩]:List Pt) w.heap.size w1 o1 (Array.getElem?_eq_some_iff.1 K1.2).1 tA.2 (by simp))
  go_wp2_with fail
  refine HC.mono ?_;rintro e w2⟨rfl,o7,hf⟩;have HE:=zI (yI (show Sg jl 7 w2 (.slice (some ⟨w1.heap.size,0,none⟩) 1 1) ps by rw[<-tA.1];exact o7) (K1.1.then hf))
  clear o7 hf;go_wp2;go_ret;exact⟨⟨_,rfl,HE.1,λj hj=>by have h1:=K1.1.size;simp[Value.ownBlock]at hj;omega⟩,HE.2⟩
 ·obtain⟨ps,dH⟩:∃ps,ps=partsOf ⟨5,p,d,v,ow,t⟩:=⟨_,rfl⟩
  have lQ:([⟨7,[],[],[],0,0,false⟩]:List Pt).map (du p)=ps:=by rw[dH];unfold partsOf;rw[if_pos hm];simp[du,bU]
  rw[<-dH];have tA:=zI (yI lQ hp);clear lQ dH hp hm;go_enter func76,ntmps76
  go_wp2_with fail
  refine(HM _).mono ?_;rintro e w1⟨rfl,hf⟩;have K1:=zI (yI (dr.1.then hf) (hf.heap dr.2 id));clear hf;obtain⟨o0,o1,o2,o3,o4,o5⟩:=iv K1.2;have HC:=zI (jm (q:=p) ([⟨7,[],[],[],0,0,false⟩]:List Pt) w.heap.size w1 o1 (Array.getElem?_eq_some_iff.1 K1.2).1 tA.2 (by simp))
  go_wp2_with fail
  refine HC.mono ?_;rintro e w2⟨rfl,o7,hf⟩;have HE:=zI (yI (show Sg jl 7 w2 (.slice (some ⟨w1.heap.size,0,none⟩) 1 1) ps by rw[<-tA.1];exact o7) (K1.1.then hf))
  clear o7 hf;go_wp2;go_ret;exact⟨⟨_,rfl,HE.1,λj hj=>by have h1:=K1.1.size;simp[Value.ownBlock]at hj;omega⟩,HE.2⟩
 ·obtain⟨ps,dH⟩:∃ps,ps=partsOf ⟨6,p,d,v,ow,t⟩:=⟨_,rfl⟩
  have lQ:([⟨8,[],[],[],0,0,false⟩,⟨9,[],[],[],0,0,false⟩]:List Pt).map (du p)=ps:=by rw[dH];unfold partsOf;rw[if_pos hm];simp[du,bU]
  rw[<-dH];have tA:=zI (yI lQ hp);clear lQ dH hp hm;go_enter func76,ntmps76
  go_wp2_with fail
  refine(HM _).mono ?_;rintro e w1⟨rfl,hf⟩;have K1:=zI (yI (dr.1.then hf) (hf.heap dr.2 id));clear hf;obtain⟨o0,o1,o2,o3,o4,o5⟩:=iv K1.2;have HC:=zI (jm (q:=p) ([⟨8,[],[],[],0,0,false⟩,⟨9,[],[],[],0,0,false⟩]:List Pt) w.heap.size w1 o1 (Array.getElem?_eq_some_iff.1 K1.2).1 tA.2 (by simp))
  go_wp2_with fail
  refine HC.mono ?_;rintro e w2⟨rfl,o7,hf⟩;have HE:=zI (yI (show Sg jl 7 w2 (.slice (some ⟨w1.heap.size,0,none⟩) 2 2) ps by rw[<-tA.1];exact o7) (K1.1.then hf))
  clear o7 hf;go_wp2;go_ret;exact⟨⟨_,rfl,HE.1,λj hj=>by have h1:=K1.1.size;simp[Value.ownBlock]at hj;omega⟩,HE.2⟩
 obtain⟨ps,dH⟩:∃ps,ps=partsOf ⟨7,p,d,v,ow,t⟩:=⟨_,rfl⟩;have lQ:([⟨8,[],[],[],0,0,false⟩,⟨10,[],[],[],0,ow,false⟩]:List Pt).map (du p)=ps:=by rw[dH];unfold partsOf;rw[if_pos hm];simp[du,bU]
 rw[<-dH];have tA:=zI (yI lQ hp);clear lQ dH hp hm;go_enter func76,ntmps76
 go_wp2_with fail
 refine(HM _).mono ?_;rintro e w1⟨rfl,hf⟩;have K1:=zI (yI (dr.1.then hf) (hf.heap dr.2 id));clear hf;obtain⟨o0,o1,o2,o3,o4,o5⟩:=iv K1.2;have HC:=zI (jm (q:=p) ([⟨8,[],[],[],0,0,false⟩,⟨10,[],[],[],0,ow,false⟩]:List Pt) w.heap.size w1 o1 (Array.getElem?_eq_some_iff.1 K1.2).1 tA.2 (by simp))
 go_wp2_with fail
 refine HC.mono ?_;rintro e w2⟨rfl,o7,hf⟩;have HE:=zI (yI (show Sg jl 7 w2 (.slice (some ⟨w1.heap.size,0,none⟩) 2 2) ps by rw[<-tA.1];exact o7) (K1.1.then hf))
 clear o7 hf;go_wp2;go_ret;exact⟨⟨_,rfl,HE.1,λj hj=>by have h1:=K1.1.size;simp[Value.ownBlock]at hj;omega⟩,HE.2⟩
abbrev sl:TypeId:=132
abbrev o8:TypeId:=44
theorem Tryz.GI:(prog.info? sl).map (λi=>(i.zero,i.size,i.bytes))=some (some (.agg #[.int .i64 0,.int .i64 0,.string ⟨#[]⟩,.string ⟨#[]⟩,.string ⟨#[]⟩,.int .i64 0,.int .i64 0,.bool false]),8,88):=by kernel_rfl
abbrev Kz(lo:Nat)(w:World)(v:Value)(l:List (Nat×Pt)):Prop:=dT sl mf 8 lo w v l
structure ChP(lo:Nat)(w:World)(v:Value)(l:List (Nat×Pt))(v':Value)(w':World):Prop where
 own:Kz lo w' v' l
 fp:Fp (λk=>v.ownBlock=some k) w w'
 new:∀j,v'.ownBlock=some j->v.ownBlock=some j\/w.heap.size<=j
theorem Sg.SH{α:Type}{enc:α->List Value}{k:Nat}{w w':World}{v:Value}{l:List α}(h:Sg enc k w v l){S:Nat->Prop}(f:Fp S w w')(hS:∀j,v.ownBlock=some j->¬S j):Sg enc k w' v l:=by
 obtain⟨ao,cap,rfl,h3⟩:=h.ex;refine⟨ao,cap,rfl,?_⟩;rcases h3 with h3|⟨g,o,rfl,hc⟩
 ·exact .inl h3
 exact .inr ⟨g,o,rfl,λi hi=>(hc i hi).keep f (hS g rfl)⟩
theorem ON(w:World)(lo:Nat)(v:Value)(l:List (Nat×Pt))(x:Nat×Pt)(ty:TypeId)(ho:Kz lo w v l)(hn:l.length<=50000)(bq:lo<=w.heap.size):
  ∃v' w',(Builtin.append_ #[o8,o8] ty #[v,.slice (some ⟨w.heap.size,0,none⟩) 1 1]).run prog (w.alloc (.cells (mf x).toArray sl))=.ok v' w'/\ChP lo (w.alloc (.cells (mf x).toArray sl)) v (l++[x]) v' w':=by
 have hf:=aa w (.cells (mf x).toArray sl);have hb:=heap_alloc_new w (.cells (mf x).toArray sl);generalize (w.alloc (.cells (mf x).toArray sl))=W at *
 obtain⟨v',w',hr,k1,k2,k3⟩:=j5 (enc:=mf) pL Cp (SL:=o8) (T:=sl) Tryz.underlying44 Tryz.GI rfl (by decide) (by decide) W lo v l [x] ty ⟨w.heap.size,0,none⟩ 1 1 (ho.af hf) rfl (λi hi j u hu=>by
  have dC:i=0:=by simp at hi;omega
  subst dC;rw[Addr.add_lit,cell_of_row _ _ _ _ _ _ hb];rw[show 0+(0*8+j)=j from by omega]
  simpa using hu) (by simp;omega) (Nat.le_trans bq hf.size)
 exact⟨v',w',hr,k1,(Fp.refl _ _).grown k2 (λk hk=>.inl hk),k3⟩
theorem xr(l:List fD)(k:Nat)(hk:k<l.length):aZ 0 (l.take (k+1))=aZ 0 (l.take k)++(partsOf l[k]).map (λp=>(k,p)):=by
 rw[take_one hk,Ad];congr 1
 have:(l.take k).length=k:=by rw[List.length_take];omega
 rw[this];simp[aZ]
theorem tB(o:fD):(partsOf o).length<=2:=by
 unfold partsOf;repeat' split
 all_goals simp
theorem qA:∀(l:List fD) (i:Nat),(aZ i l).length<=2*l.length
 |[],_=>by simp[aZ]
 |o::l,i=>by
  unfold aZ;rw[List.length_append,List.length_map,List.length_cons];have:=qA l (i+1);have h2:=tB o;omega
theorem SI(lv:Value)(l:List fD)(w:World)(hl:ER w lv l)(ES:Vw l)(wu:l.length<=1000000):
  Calls prog 39 #[lv] w λe w'=>(∃v',e=.returned v'/\Kz w.heap.size w' v' (fL l))/\Fp ab w w':=by
 have jE:=OO lv l w hl ES wu;obtain⟨al,cl,rfl⟩:=hl.shape;obtain⟨n,hn⟩:∃n,n=l.length:=⟨_,rfl⟩;obtain⟨bm,Dd⟩:∃b,sn l=b:=⟨_,rfl⟩;rw[Dd,<-hn]at jE;have xu:fL l=if bm=true then aZ 0 l else []:=by unfold fL;rw[Dd]
 have HM:=zI (yI jE (yI Dd xu));have HN:=zI (yI hn (yI hl ES));rw[<-hn];clear hl ES wu jE Dd xu hn;go_enter func39,ntmps39
 go_wp2_with fail
 refine HM.1.mono ?_;rintro e w1⟨rfl,hf⟩;have F1:=zI hf;clear hf;cases bm with
 |false=>
  have hp:=HM.2.2;simp only[Bool.false_eq_true,if_false]at hp
  have HP:=zI hp;clear hp;go_wp2;go_ret;exact⟨⟨_,rfl,by rw[HP.out];exact dT.nil _ _⟩,F1.out⟩
 |true=>?_
 have hp:=HM.2.2;simp only[if_true]at hp
 have HP:=zI hp;have jS:n<=8:=by rw[HN.1];exact((GJ l).1 HM.2.1).1.2
 have H0:Hid (Kz w.heap.size w1 (.slice none 0 0) (aZ 0 (l.take 0))/\Fp ab w w1):=⟨by rw[List.take_zero];exact dT.nil _ _,F1.out⟩
 clear hp F1;go_wp2_with fail
 go_loopw [3,13] (λv i wr=>∃k:Nat,k<=n/\i=.int .i64 k/\Hid (Kz w.heap.size wr v (aZ 0 (l.take k))/\Fp ab w wr)) (λ_ i _=>n-(RowKit.intOf i).toNat)
 case atStart=>exact⟨0,Nat.zero_le _,rfl,H0⟩
 clear H0;obtain⟨k,hk,rfl,hR⟩:=hrel;rename_i wr _
 by_cases ay:k<n
 ·have aS:k<l.length:=by rw[<-HN.1];exact ay
  obtain⟨g,og,aY,e9,aq⟩:=(HN.2.1.af hR.2).at (by omega)
  injection e9 with e1 e2 e3
  subst e1 e3;clear e2;have ET:=aq k aS;have fF:=HN.2.2 _ (List.getElem_mem aS);have cG:=xr l k aS;have cC:(aZ 0 (l.take k)).length<=16:=by have:=qA (l.take k) 0;rw[List.length_take]at this;omega
  obtain⟨x,hx⟩:∃x,l[k]=x:=⟨_,rfl⟩;rw[hx]at ET fF cG;have Ae:=λW=>XE x W fF
  have oQ:=tB x;obtain⟨ps,dH⟩:∃ps,partsOf x=ps:=⟨_,rfl⟩;rw[dH]at Ae cG oQ;obtain⟨kk,op,od,ov,oo,ot⟩:=x;have c0:=ET.c0;have c1:=ET.c1;have c2:=ET.c2;have c3:=ET.c3;have c4:=ET.c4;have c5:=ET.c5;unfold pK au at Ae;unfold au at c1 c2;simp only at c0 c1 c2 c3 c4 c5 Ae
  have Vx:=zI (yI Ae (yI cG (yI oQ cC)));have HL:=zI ay;have HF:=zI hR.out;have q3:((k:Int)<(n:Int))=True:=eq_true (by omega)
  have q4:(k<n)=True:=eq_true ay;have fb:=aa wr (.cells #[.int .i64 kk,.string (B op),.string (B od),.int .i64 ov,.int .i64 oo,.bool ot] Ac);have FB:=zI (HF.2.then fb);have FB2:=zI fb;clear aq ET fF cG cC hx Ae oQ dH ay aS hR fb;go_wp2_with fail
  refine(Vx.1 _).mono ?_;rintro e w5⟨⟨v5,rfl,o7,gi⟩,hf⟩;obtain⟨a5,M1,rfl⟩:=o7.shape;obtain⟨m,hm⟩:∃m,m=ps.length:=⟨_,rfl⟩;rw[<-hm]at o7|-;have GH:m<=2:=by rw[hm];exact Vx.2.2.1
  have H5:Hid (Kz w.heap.size w5 u3 (aZ 0 (l.take k)++(ps.take 0).map (λp=>(k,p)))/\Fp ab w w5/\Sg jl 7 w5 (.slice a5 m M1) ps/\∀j,u3.ownBlock=some j->(Value.slice a5 m M1).ownBlock≠some j):=⟨by rw[List.take_zero,List.map_nil,List.append_nil];exact HF.1.af (FB2.then hf),FB.then hf,o7,λj hj e=>by
   have h1:=gi j (by rw[<-hm];exact e)
   have h2:=(HF.1.lt j hj).2;exact absurd (Nat.lt_of_lt_of_le h2 (Nat.le_trans FB2.size h1)) (Nat.lt_irrefl _)⟩
  have HM5:=zI hm;clear o7 hf hm gi;go_wp2_with fail
  go_loopw [3,21] (λv i wr=>∃j:Nat,j<=m/\i=.int .i64 j/\Hid (Kz w.heap.size wr v (aZ 0 (l.take k)++(ps.take j).map (λp=>(k,p)))/\Fp ab w wr/\Sg jl 7 wr (.slice a5 m M1) ps/\∀j,v.ownBlock=some j->(Value.slice a5 m M1).ownBlock≠some j)) (λ_ i _=>m-(RowKit.intOf i).toNat)
  case atStart=>exact⟨0,Nat.zero_le _,rfl,H5⟩
  clear H5;obtain⟨j,hj,rfl,hR⟩:=hrel;rename World=>oB
  by_cases ay:j<m
  ·have tC:j<ps.length:=by rw[<-HM5.out];exact ay
   obtain⟨g5,o5,ab2,e9,aq⟩:=hR.2.2.1.at (by omega)
   injection e9 with e1 e2 e3
   subst e1 e3;clear e2;have nJ:=aq j tC;have nK:(ps.take (j+1)).map (λp=>(k,p))=(ps.take j).map (λp=>(k,p))++[(k,ps[j])]:=by rw[List.take_succ_eq_append_getElem tC,List.map_append];rfl
   obtain⟨y,hy⟩:∃y,ps[j]=y:=⟨_,rfl⟩;rw[hy]at nJ nK;obtain⟨yk,yd,yp,ya,yv,yo,yt⟩:=y;have d0:=nJ.get 0 _ rfl;have d1:=nJ.get 1 _ rfl;have d2:=nJ.get 2 _ rfl;have d3:=nJ.get 3 _ rfl;have d4:=nJ.get 4 _ rfl;have d5:=nJ.get 5 _ rfl;have d6:=nJ.get 6 _ rfl;rw[Nat.add_zero]at d0;unfold au at d1 d2 d3;simp only at d0 d1 d2 d3 d4 d5 d6
   have q5:((j:Int)<(m:Int))=True:=eq_true (by omega)
   have q6:(j<m)=True:=eq_true ay
   obtain⟨p3,n3,c3,rfl⟩:∃p3 n3 c3,u3=.slice p3 n3 c3:=by
    rcases hR.1.2 with⟨h,_⟩|⟨_,_,_,h,_⟩
    ·exact⟨_,_,_,h⟩
    exact⟨_,_,_,h⟩
   have fb:=aa oB (.cells #[.int .i64 yk,.string (B yd),.string (B yp),.string (B ya),.int .i64 yv,.int .i64 yo,.bool yt] TP);have bM:=ON (oB.alloc (.cells #[.int .i64 yk,.string (B yd),.string (B yp),.string (B ya),.int .i64 yv,.int .i64 yo,.bool yt] TP)) w.heap.size (.slice p3 n3 c3) (aZ 0 (l.take k)++(ps.take j).map (λp=>(k,p))) (k,⟨yk,yd,yp,ya,yv,yo,yt⟩) o8 (hR.1.af fb) (by rw[List.length_append,List.length_map,List.length_take];have:=Vx.2.2.2;omega) (Nat.le_trans hR.2.1.size fb.size)
   rw[show(mf (k,⟨yk,yd,yp,ya,yv,yo,yt⟩)).toArray=#[.int .i64 (k:Int),.int .i64 yk,.string (B yd),.string (B yp),.string (B ya),.int .i64 yv,.int .i64 yo,.bool yt] from rfl]at bM;rw[show(oB.alloc (.cells #[.int .i64 yk,.string (B yd),.string (B yp),.string (B ya),.int .i64 yv,.int .i64 yo,.bool yt] TP)).heap.size=oB.heap.size+1 from by simp]at bM
   have OI:=zI bM;have HTK:=zI nK;have HL2:=zI ay;have XF:=zI (fb.then (aa (oB.alloc (.cells #[.int .i64 yk,.string (B yd),.string (B yp),.string (B ya),.int .i64 yv,.int .i64 yo,.bool yt] TP)) (.cells #[.int .i64 (k:Int),.int .i64 yk,.string (B yd),.string (B yp),.string (B ya),.int .i64 yv,.int .i64 yo,.bool yt] sl)));clear aq nJ nK hy bM fb ay tC;go_wp2_with (at_builtin;go_must (refine aG rfl _ _ _ _ rfl _ _ rfl rfl _ OI.out ?_))
   intro v7 w7 hc;have SJ:=(hR.2.1.then XF.out).trans hc.fp (λi hi=>.inr (hR.1.lt i hi).1)
   have hs7:Sg jl 7 w7 (.slice (some ⟨g5,o5,none⟩) m M1) ps:=(hR.2.2.1.af XF.out).SH hc.fp (λi hi e=>hR.2.2.2 i e hi)
   have SK:∀i,v7.ownBlock=some i->(Value.slice (some ⟨g5,o5,none⟩) m M1).ownBlock≠some i:=λi hi e=>by
    rcases hc.new i hi with h|h
    ·exact hR.2.2.2 i h e
    have h1:g5<oB.heap.size:=World.block_lt_of_cell? oB _ d0;have h2:g5=i:=by simpa[Value.ownBlock]using e
    have h3:=XF.size;omega
   have hM:Hid (Kz w.heap.size w7 v7 (aZ 0 (l.take k)++(ps.take (j+1)).map (λp=>(k,p)))/\Fp ab w w7/\Sg jl 7 w7 (.slice (some ⟨g5,o5,none⟩) m M1) ps/\∀j,v7.ownBlock=some j->(Value.slice (some ⟨g5,o5,none⟩) m M1).ownBlock≠some j):=⟨by rw[HTK.out,List.map_take];exact hc.own,SJ,hs7,SK⟩
   clear hc SJ hs7 SK d0 d1 d2 d3 d4 d5 d6;have Ju:=HL2.out;go_wp2;go_roundw
   case rel=>exact⟨j+1,by omega,by go_num,hM⟩
   case measure=>simp[RowKit.intOf];omega
  have OL:j=m:=by omega
  subst OL;have q5:((j:Int)<(j:Int))=False:=eq_false (by omega)
  have hO:=hR.1;have SM:ps.take j=ps:=by rw[HM5.out,List.take_length]
  rw[SM,<-Vx.2.1]at hO;have hM:Hid (Kz w.heap.size oB u3 (aZ 0 (l.take (k+1)))/\Fp ab w oB):=⟨hO,hR.2.1⟩;clear hO SM ay hj hR;have Ju:=HL.out;go_wp2;go_roundw
  case rel=>exact⟨k+1,by omega,by go_num,hM⟩
  case measure=>simp[RowKit.intOf];omega
 have cV:k=n:=by omega
 subst cV;have q3:((k:Int)<(k:Int))=False:=eq_false (by omega)
 have hO:=hR.1;have SM:l.take k=l:=by rw[HN.1,List.take_length]
 rw[SM,<-HP.out]at hO;have H9:=zI (yI hO hR.2);clear hO SM ay hk hR;go_wp2;go_ret;exact⟨⟨_,rfl,H9.1⟩,H9.2⟩
theorem GK(w:World)(lo:Nat)(v:Value)(l:List Nd)(x:Nd)(ty:TypeId)(ho:Ow lo w v l)(hn:l.length<=50000)(bq:lo<=w.heap.size):
  ∃v' w',(Builtin.append_ #[TL,TL] ty #[v,.slice (some ⟨w.heap.size,0,none⟩) 1 1]).run prog (w.alloc (.cells #[.string (B x.path),.string (B x.data),.int .i64 x.aX,.int .i64 x.turn,.int .i64 x.own] TN))=.ok v' w'/\Jw lo (w.alloc (.cells #[.string (B x.path),.string (B x.data),.int .i64 x.aX,.int .i64 x.turn,.int .i64 x.own] TN)) v (l++[x]) v' w':=by
 have hf:=aa w (.cells #[.string (B x.path),.string (B x.data),.int .i64 x.aX,.int .i64 x.turn,.int .i64 x.own] TN);have aE:dM (w.alloc (.cells #[.string (B x.path),.string (B x.data),.int .i64 x.aX,.int .i64 x.turn,.int .i64 x.own] TN)) w.heap.size 0 x:=dM.box w x
 obtain⟨v',w',hr,h1,h2,h3⟩:=pM (w.alloc (.cells #[.string (B x.path),.string (B x.data),.int .i64 x.aX,.int .i64 x.turn,.int .i64 x.own] TN)) lo v l [x] ty ⟨w.heap.size,0,none⟩ 1 1 (ho.af hf) rfl (λi hi j u hu=>by
  have dC:i=0:=by simp at hi;omega
  subst dC;have:=aE.get j u hu;rwa[show 0*5+j=j from by omega]) (by simp;omega) (by simp;omega)
 exact⟨v',w',hr,h1,(Fp.refl _ _).grown h2 (λk hk=>.inl hk),h3⟩
theorem GL(w:World)(lo:Nat)(v:Value)(l:List Tu)(x:Tu)(ty:TypeId)(ho:ey lo w v l)(hn:l.length<=50000)(bq:lo<=w.heap.size):
  ∃v' w',(Builtin.append_ #[eM,eM] ty #[v,.slice (some ⟨w.heap.size,0,none⟩) 1 1]).run prog (w.alloc (.cells #[.string (B x.dir),.int .i64 x.next] TU))=.ok v' w'/\o9 lo (w.alloc (.cells #[.string (B x.dir),.int .i64 x.next] TU)) v (l++[x]) v' w':=by
 have hf:=aa w (.cells #[.string (B x.dir),.int .i64 x.next] TU);have hb:=heap_alloc_new w (.cells #[.string (B x.dir),.int .i64 x.next] TU);have aE:jL (w.alloc (.cells #[.string (B x.dir),.int .i64 x.next] TU)) w.heap.size 0 x:=⟨by rw[cell_of_row _ _ _ _ _ _ hb];rfl,by rw[cell_of_row _ _ _ _ _ _ hb];rfl⟩
 obtain⟨v',w',hr,h1,h2,h3⟩:=mJ (w.alloc (.cells #[.string (B x.dir),.int .i64 x.next] TU)) lo v l [x] ty ⟨w.heap.size,0,none⟩ 1 1 (ho.af hf) rfl (λi hi j u hu=>by
  have dC:i=0:=by simp at hi;omega
  subst dC;have:=aE.get j u hu;rwa[show 0*2+j=j from by omega]) (by simp;omega) (by simp;omega)
 exact⟨v',w',hr,h1,(Fp.refl _ _).grown h2 (λk hk=>.inl hk),h3⟩
theorem fV.ltW{lo:Nat}{w:World}{v:Value}{l:List Wt}(h:fV lo w v l):∀j,v.ownBlock=some j->j<w.heap.size:=λj hj=>(World.ownsRow.lt h j hj).2
theorem OP(w:World)(lo:Nat)(v:Value)(l:List Wt)(x:Wt)(ty:TypeId)(ho:fV lo w v l)(hn:l.length<=50000)(bq:lo<=w.heap.size):
  ∃v' w',(Builtin.append_ #[Dw,Dw] ty #[v,.slice (some ⟨w.heap.size,0,none⟩) 1 1]).run prog (w.alloc (.cells #[.int .i64 x.s,.int .i64 x.n,.string (B x.p),.bool x.d] TW))=.ok v' w'/\XG lo (w.alloc (.cells #[.int .i64 x.s,.int .i64 x.n,.string (B x.p),.bool x.d] TW)) v (l++[x]) v' w':=by
 have hf:=aa w (.cells #[.int .i64 x.s,.int .i64 x.n,.string (B x.p),.bool x.d] TW);have hb:=heap_alloc_new w (.cells #[.int .i64 x.s,.int .i64 x.n,.string (B x.p),.bool x.d] TW);generalize (w.alloc (.cells #[.int .i64 x.s,.int .i64 x.n,.string (B x.p),.bool x.d] TW))=W at *
 obtain⟨v',w',hr,h1,h2,h3⟩:=xx W lo v l [x] ty ⟨w.heap.size,0,none⟩ 1 1 (ho.af hf) rfl (λi hi j u hu=>by
  have dC:i=0:=by simp at hi;omega
  subst dC;rw[Addr.add_lit,cell_of_row _ _ _ _ _ _ hb];rw[show 0+(0*4+j)=j from by omega]
  simpa[GM,au]using hu) (by simp;omega) (Nat.le_trans bq hf.size)
 exact⟨v',w',hr,h1,(Fp.refl _ _).grown h2 (λk hk=>.inl hk),h3⟩
def QK(lo:Nat)(w w':World):Prop:=Fp (λk=>lo<=k/\∃cs,w.heap[k]?=some (.cells cs TW (0,0))) w w'
structure SN(lo l2:Nat)(l:List Wt)(f:Value)(q:Nat->Bool)(I:Nat->World->Prop):Prop where
 ex:∃k fi cap,f=.func (.func k) fi cap/\Enters prog k/\∀i (h:i<l.length) W,I i W->lo<=W.heap.size->Calls prog k (fi++#[BW l[i]]++cap) W λe W'=>e=.returned (.bool (q i))/\I (i+1) W'/\Ft lo W W'
 still:∀i W W',I i W->QK l2 W W'->I i W'
structure WoR(lo:Nat)(l:List Wt)(K:List Wt)(I:Nat->World->Prop)(w:World)(e:Ending)(w':World):Prop where
 ex:∃v',e=.returned v'/\fV lo w' v' K
 inv:I l.length w'
 fp:Fp (λk=>lo<=k) w w'
structure QL(lo l2:Nat)(v:Value)(l:List Wt)(I:Nat->World->Prop)(K:List Wt)(i:Nat)(w:World)(u:Value)(W:World):Prop where
 own:fV lo W v l
 left:fV l2 W u K
 inv:I i W
 fp:Fp (λk=>lo<=k) w W
 sz:l2<=W.heap.size
 lv:∀k,v.ownBlock=some k->k<l2
theorem fV.lower{lo l2:Nat}{w:World}{v:Value}{l:List Wt}(h:fV l2 w v l)(hl:lo<=l2):fV lo w v l:=by
 rcases h.ways with⟨rfl,rfl⟩|⟨G,cap,rfl,h1,h2⟩
 ·exact fV.nil _ _
 exact fV.row h1 (Nat.le_trans hl h2)
theorem fU.lower{lo l2:Nat}{w:World}{v:Value}{l:List Ev}(h:fU l2 w v l)(hl:lo<=l2):fU lo w v l:=by
 rcases h.ways with⟨rfl,rfl⟩|⟨G,cap,rfl,h1,h2⟩
 ·exact fU.nil _ _
 exact fU.row h1 (Nat.le_trans hl h2)
theorem QK.of{lo:Nat}{w w':World}(f:Fp ab w w'):QK lo w w':=f.any
theorem Dx(lo:Nat)(v f:Value)(l:List Wt)(q:Nat->Bool)(I:Nat->World->Prop)(K:Nat->List Wt)(w:World)(hv:fV lo w v l)(hg:SN lo w.heap.size l f q I)(hI:I 0 w)(hK0:K 0=[])(hK:∀i (h:i<l.length),K (i+1)=if q i=true then K i else K i++[l[i]])(GN:∀i,i<=l.length->(K i).length<=40000)(hn:l.length<=40000)(bq:lo<=w.heap.size):
  Calls prog 211 #[v,f] w (WoR lo l (K l.length) I w):=by
 obtain⟨ao,cap,rfl⟩:=hv.ns.shape;obtain⟨kf,fi,fc,rfl,gU,bB⟩:=hg.ex;obtain⟨n,aR⟩:∃n,n=l.length:=⟨_,rfl⟩;have HX:=zI (yI aR (yI bB (yI hg.still (yI hK (yI GN bq)))));have H0:=zI (show QL lo w.heap.size (.slice ao n cap) l I (K 0) 0 w (.slice none 0 0) w from⟨by rw[aR];exact hv,by rw[hK0];exact fV.nil _ _,hI,Fp.refl _ _,Nat.le_refl _,by rw[aR];exact hv.ltW⟩)
 rw[<-aR]at hn|-;clear hv hg hI hK0 hK GN bq aR bB;go_enter func211,ntmps211
 go_wp2_with fail
 go_loopw [5,10] (λu i wr=>∃k:Nat,k<=n/\i=.int .i64 k/\Hid (QL lo w.heap.size (.slice ao n cap) l I (K k) k w u wr)) (λ_ i _=>n-(RowKit.intOf i).toNat)
 case atStart=>exact⟨0,Nat.zero_le _,rfl,H0⟩
 clear H0;obtain⟨k,hk,rfl,hR⟩:=hrel;rename_i wr _
 by_cases ay:k<n
 ·have aS:k<l.length:=by rw[<-HX.1];exact ay
  obtain⟨g,o,aY,e,_,_,oZ,aq⟩:=hR.own.ns.at (by omega)
  injection e with e1 e2 e3
  subst e1 e3;clear e2;have aE:=aq k aS;have dy:=HX.2.1 k aS;have XH:=HX.2.2.2.1 k aS;have hKn:=HX.2.2.2.2.1 k (by omega)
  obtain⟨b,hb⟩:∃b,q k=b:=⟨_,rfl⟩;rw[hb]at dy XH;have HL:=zI (yI aS ay);clear aq hb;generalize l[k]=x at *;obtain⟨xs,xn,xp,xd⟩:=x;have c0:=aE.c0;have c1:=aE.c1;have c2:=aE.c2;have c3:=aE.c3;unfold au at c2;unfold BW au at dy;simp only at c0 c1 c2 c3
  have f0:=aa wr (.cells #[.int .i64 xs,.int .i64 xn,.string (B xp),.bool xd] TW);have rb:=heap_alloc_new wr (.cells #[.int .i64 xs,.int .i64 xn,.string (B xp),.bool xd] TW);have hi1:=HX.2.2.1 k _ _ hR.inv (QK.of f0);have uR:=zI (dy _ hi1 (by have:=HX.2.2.2.2.2;have:=hR.sz;have:=f0.size;omega))
  have HB:=zI (yI f0 (yI rb (yI XH hKn)));have q3:((k:Int)<(n:Int))=True:=eq_true (by omega)
  have q4:(k<n)=True:=eq_true ay;clear aE dy aS ay f0 rb hi1 XH hKn;go_wp2_with fail
  rw[gU _ _];go_wp2_with fail
  refine uR.mono ?_;rintro e w2⟨rfl,hi2,bY⟩;have SO:=bY.row HB.2.1 (by decide) (by decide) (by decide)
  have gS:QL lo w.heap.size (.slice (some ⟨g,o,none⟩) n cap) l I (K k) (k+1) w _ w2:=⟨(hR.own.af HB.1).ft bY,(hR.left.af HB.1).ft bY,hi2,(hR.fp.trans (HB.1.any (S:=λk=>lo<=k)) (λ_ h=>.inl h)).trans bY (λk hk=>.inl hk.1),Nat.le_trans hR.sz (Nat.le_trans HB.1.size bY.size),hR.lv⟩
  obtain⟨b0,b1,b2,b3⟩:=j6 SO;have lP:=zI gS;have eJ:=HL.2;clear hi2 bY SO gS;cases b with
  |true=>
   have hM:Hid (QL lo w.heap.size (.slice (some ⟨g,o,none⟩) n cap) l I (K (k+1)) (k+1) w _ w2):=⟨lP.own,by have:=HB.2.2.1;rw[if_pos rfl]at this;rw[this];exact lP.left,lP.inv,lP.fp,lP.sz,lP.lv⟩
   clear b0 b1 b2 b3;go_wp2;go_roundw
   case rel=>exact⟨k+1,by omega,by go_num,hM⟩
   case measure=>simp[RowKit.intOf];omega
  |false=>?_
  have bM:=OP w2 w.heap.size _ (K k) ⟨xs,xn,xp,xd⟩ Dw lP.left (by have:=HB.2.2.2;omega) lP.sz
  obtain⟨ua,uc,hue⟩:=lP.left.ns.shape;obtain⟨un,XI⟩:∃n,n=(K k).length:=⟨_,rfl⟩;rw[<-XI]at hue;subst hue;have ab3:un<=40000:=by rw[XI];exact HB.2.2.2
  have OI:=zI bM;clear bM XI;go_wp2_with (at_builtin;go_must (refine aG rfl _ _ _ _ rfl _ _ rfl rfl _ OI.out ?_))
  intro v4 w4 gu;have f3:=aa w2 (.cells #[.int .i64 xs,.int .i64 xn,.string (B xp),.bool xd] TW);have jW:=lP.left.af f3
  have hM:Hid (QL lo w.heap.size (.slice (some ⟨g,o,none⟩) n cap) l I (K (k+1)) (k+1) w v4 w4):=by
   refine⟨(lP.own.af f3).keep gu.fp (λj hj e=>?_),?_,?_,?_,Nat.le_trans lP.sz (Nat.le_trans f3.size gu.fp.size),lP.lv⟩
   ·have h1:=lP.lv j hj
    have h2:=lP.left.low j e;omega
   ·have:=HB.2.2.1
    rw[if_neg Bool.false_ne_true]at this;rw[this];exact gu.own
   ·refine HX.2.2.1 _ _ _ (HX.2.2.1 _ _ _ lP.inv (QK.of f3)) (gu.fp.mono (λj hj=>⟨lP.left.low j hj,jW.type hj⟩))
   exact(lP.fp.trans (f3.any (S:=λk=>lo<=k)) (λ_ h=>.inl h)).trans gu.fp (λj hj=>.inl (Nat.le_trans HX.2.2.2.2.2 (lP.left.low j hj)))
  clear gu f3 jW b0 b1 b2 b3;go_wp2;go_roundw
  case rel=>exact⟨k+1,by omega,by go_num,hM⟩
  case measure=>simp[RowKit.intOf];omega
 have cV:k=n:=by omega
 subst cV;have q3:((k:Int)<(k:Int))=False:=eq_false (by omega)
 have HF:=zI (show ∀u,QL lo w.heap.size (.slice ao k cap) l I (K k) k w u wr->WoR lo l (K k) I w (.returned u) wr from λu h=>⟨⟨u,rfl,h.left.lower HX.2.2.2.2.2⟩,by rw[<-HX.1];exact h.inv,h.fp⟩)
 clear ay hk;go_wp2;go_ret;exact HF _ hR.out
structure GO(lo l2 N pb kb:Nat)(vw:Value)(ws:List Wt)(ss:List Se)(kd:Int)(p:Bs)(i:Nat)(W:World):Prop where
 ex:∃vs L,Wk lo N vw vs ws L W/\L.map aU.s=(cu kd p (ws.take i) ss).2
 pr:W.heap[pb]?=some (.cells #[.string (B p)] 9 (0,0))
 kr:W.heap[kb]?=some (.cells #[.int .i64 kd] 3 (0,0))
 lv:∀k,vw.ownBlock=some k->k<l2
theorem GO.still{lo l2 N pb kb:Nat}{vw:Value}{ws:List Wt}{ss:List Se}{kd:Int}{p:Bs}{i:Nat}{W W':World}(h:GO lo l2 N pb kb vw ws ss kd p i W)(f:QK l2 W W'):GO lo l2 N pb kb vw ws ss kd p i W':=by
 have bA:∀{k:Nat} {cs:Array Value} {T:TypeId},W.heap[k]?=some (.cells cs T (0,0))->T≠TW->¬(l2<=k/\∃cs,W.heap[k]?=some (.cells cs TW (0,0))):=λht hT hk=>by
  obtain⟨_,cs,h2⟩:=hk;exact bP ht h2 hT
 obtain⟨vs,L,h1,h2⟩:=h.ex;refine⟨⟨vs,L,⟨Fp.heap f h1.dR (bA h1.dR (by decide)),h1.low,h1.cl.keep f (λk hk e=>?_) (λk hk=>?_) (λy hy k hk=>?_)⟩,h2⟩,Fp.heap f h.pr (bA h.pr (by decide)),Fp.heap f h.kr (bA h.kr (by decide)),h.lv⟩
 ·have:=h.lv k hk;have:=e.1;omega
 ·obtain⟨cs,ht⟩:=h1.cl.fg.type hk;exact bA ht (by decide)
 obtain⟨cs,ht⟩:=(h1.cl.iu y hy).type hk;exact bA ht (by decide)
theorem GO.ft{lo N:Nat}{vw vs:Value}{ws:List Wt}{L:List aU}{W W':World}(f:Ft lo W W'){k:Nat}{cs:Array Value}{T:TypeId}(h:W.heap[k]?=some (.cells cs T (0,0)))(h1:T≠TD)(h2:T≠TV)(h3:T≠TE):W'.heap[k]?=some (.cells cs T (0,0)):=f.row h h1 h2 h3
def QM(kd:Int)(p:Bs)(ws:List Wt)(ss:List Se)(i:Nat):Bool:=if h:i<ws.length then (if xy p ws[i]=true then !(mh (sf (cu kd p (ws.take i) ss).2 ws[i].s) ws[i] kd p).2 else false) else false
theorem tD{w:World}{b:Nat}{T:TypeId}{c0:Value}(h:w.heap[b]?=some (.cells #[c0] T (0,0))):w.cell? ⟨b,0,none⟩=some c0:=by rw[cell_of_row _ _ _ _ _ _ h];rfl
theorem KE{lo l2 N pb kb:Nat}{vw:Value}{ws:List Wt}{ss:List Se}{kd:Int}{p:Bs}(i:Nat)(hi:i<ws.length){w:World}(h:GO lo l2 N pb kb vw ws ss kd p i w)(Jy:RS (cu kd p (ws.take i) ss).2)(hl:(cu kd p (ws.take i) ss).2.length<=39000)(cC:p.length<=1000000)(uQ:ws[i].p.length<=1000000)(XJ:rX ws[i].s=true)(bq:lo<=w.heap.size):
  Calls prog 284 #[BW ws[i],.pointer (some ⟨pb,0,none⟩),.pointer (some ⟨N,0,none⟩),.pointer (some ⟨kb,0,none⟩)] w λe w'=>e=.returned (.bool (QM kd p ws ss i))/\GO lo l2 N pb kb vw ws ss kd p (i+1) w'/\Ft lo w w':=by
 have xz:=gq kd p ws ss i hi;have vX:QM kd p ws ss i=(if xy p ws[i]=true then !(mh (sf (cu kd p (ws.take i) ss).2 ws[i].s) ws[i] kd p).2 else false):=by unfold QM;rw[dif_pos hi]
 rw[vX];obtain⟨S0,Vy⟩:∃S0,S0=(cu kd p (ws.take i) ss).2:=⟨_,rfl⟩;have aN:(cu kd p (ws.take (i+1)) ss).2=(EN kd p (cu kd p (ws.take i) ss) ws[i]).2:=by rw[xz]
 unfold EN at aN;rw[<-Vy]at aN Jy hl|-;obtain⟨x,hx⟩:∃x,x=ws[i]:=⟨_,rfl⟩;rw[<-hx]at aN uQ XJ|-;clear xz vX hx
 -- what is left behind,in each case
 have cP:xy p x=false->∀w',Fp ab w w'->GO lo l2 N pb kb vw ws ss kd p (i+1) w':=λho w' f=>by
  rw[if_neg (by rw[ho];exact Bool.false_ne_true)]at aN
  obtain⟨vs,L,h1,h2⟩:=h.ex;exact⟨⟨vs,L,h1.af f,by rw[aN,h2,<-Vy]⟩,f.heap h.pr id,f.heap h.kr id,h.lv⟩
 have ET:∀w',Fp ab w w'->Calls prog 210 #[.pointer (some ⟨N,0,none⟩),.int .i64 x.s] w' (XB lo N vw ws S0 x.s w'):=λw' f=>by
  obtain⟨vs,L,h1,h2⟩:=h.ex;rw[<-Vy]at h2;have:=OJ (h1.af f) x.s (by rw[h2];exact Jy.2) (by rw[<-h2,List.length_map]at hl;exact hl) (Nat.le_trans bq f.size)
  rw[h2]at this;exact this
 have dJ:∀(G m cap:Nat) (L':List aU) (W:World),Wk lo N vw (.slice (some ⟨G,0,none⟩) m cap) ws L' W->L'.map aU.s=vW S0 x.s->lo<=W.heap.size->Calls prog 285 #[.pointer (some ⟨G,iO S0 x.s*3,none⟩),BW x,.int .i64 kd,.string (B p)] W λe W'=>e=.returned (.bool (mh (sf S0 x.s) x kd p).2)/\∃L2,Cl lo vw (.slice (some ⟨G,0,none⟩) m cap) ws L2 W'/\L2.map aU.s=cZ S0 (mh (sf S0 x.s) x kd p).1/\Ft lo W W'/\W'.heap[N]?=some (.cells #[vw,.slice (some ⟨G,0,none⟩) m cap] TD (0,0)):=λG m cap L' W h1 h2 h3=>by
  have ay:=uP Jy.2 x.s;have hg:=Kv Jy.2 x.s;have hk:iO S0 x.s<L'.length:=by rw[<-h2,List.length_map]at ay;exact ay
  have he:L'[iO S0 x.s].s=sf S0 x.s:=by
   rw[<-hg];simp only[<-h2,List.getElem_map]
  have hr:=(kF _).1 (tE Jy XJ);refine(GG h1.cl (iO S0 x.s) hk x kd p (by rw[he];exact hr.2.1.2.2.1) (by rw[he];exact⟨hr.2.1.1,hr.2.1.2.1⟩) h3).mono ?_
  rintro e W'⟨rfl,hR⟩;rw[he]at hR|-;obtain⟨L2,g1,g2⟩:=hR.ex;refine⟨rfl,L2,g1,?_,hR.fp.ft,hR.fp.row h1.dR (by decide) (by decide)⟩
  rw[g2,h2];have j7:=Ch (sf S0 x.s) x kd p;rw[Ci]at j7;have:=Kw Jy.2 (mh (sf S0 x.s) x kd p).1;rw[j7]at this;exact this
 have gj:xy p x=true->∀(W W':World) (G m cap:Nat) (L2:List aU),GO lo l2 N pb kb vw ws ss kd p i W->Ft lo W W'->W'.heap[N]?=some (.cells #[vw,.slice (some ⟨G,0,none⟩) m cap] TD (0,0))->Cl lo vw (.slice (some ⟨G,0,none⟩) m cap) ws L2 W'->L2.map aU.s=cZ S0 (mh (sf S0 x.s) x kd p).1->GO lo l2 N pb kb vw ws ss kd p (i+1) W':=λho W W' G m cap L2 h1 f hb h2 h3=>by
  rw[if_pos ho]at aN;obtain⟨vs,L,k1,k2⟩:=h1.ex;exact⟨⟨_,L2,⟨hb,k1.low,h2⟩,by rw[h3,aN]⟩,f.row h1.pr (by decide) (by decide) (by decide),f.row h1.kr (by decide) (by decide) (by decide),h1.lv⟩
 have eK:=λw=>XK p x.p w (cH cC (by omega)) (cH uQ (by omega))
 have Ae:xy p x=(decide (x.p=p)||(x.d && lR p x.p)):=rfl
 have dP:w.cell? ⟨pb,0,none⟩=some (.string (B p)):=by rw[cell_of_row _ _ _ _ _ _ h.pr];rfl
 have Vz:w.cell? ⟨kb,0,none⟩=some (.int .i64 kd):=by rw[cell_of_row _ _ _ _ _ _ h.kr];rfl
 obtain⟨xs,xn,xp,xd⟩:=x;simp only at Ae eK ET uQ
 unfold BW au at dJ|-;simp only at dJ|-
 have f0:=aa w (.cells #[.int .i64 xs,.int .i64 xn,.string (B xp),.bool xd] TW);have rb:=heap_alloc_new w (.cells #[.int .i64 xs,.int .i64 xn,.string (B xp),.bool xd] TW);have K0:=zI (Kp.and (Kp.fp f0) (Kp.and (Kp.row rb) (Kp.and (Kp.row (f0.heap h.pr id)) (Kp.row (f0.heap h.kr id)))));have HH:=zI (yI h bq);have wF:=zI cP;have HOP:=zI ET;have XL:=zI dJ;have KF:=zI gj;have Gc:=zI eK;obtain⟨c,hc⟩:∃c,xy p ⟨xs,xn,xp,xd⟩=c:=⟨_,rfl⟩;rw[hc]at Ae wF KF|-;obtain⟨R,hR⟩:∃R,mh (sf S0 xs) ⟨xs,xn,xp,xd⟩ kd p=R:=⟨_,rfl⟩;rw[hR]at XL KF|-;have gp:=f0.cell dP id;have gk:=f0.cell Vz id;clear Vy h Jy hl cC uQ XJ bq aN cP ET dJ gj eK dP Vz rb f0 hc hR;go_enter func284,ntmps284
 by_cases h1:xp=p
 ·obtain rfl:c=true:=by rw[Ae];simp[h1]
  clear Ae;have q1:(xp != p)=false:=by simpa using h1
  subst h1;go_wp2_with fail
  have Hq:=zI (show ∀W,Ft lo (w.alloc (.cells #[.int .i64 xs,.int .i64 xn,.string (B xp),.bool xd] TW)) W->(W.heap[w.heap.size]?=some (.cells #[.int .i64 xs,.int .i64 xn,.string (B xp),.bool xd] TW (0,0))/\W.heap[pb]?=some (.cells #[.string (B xp)] 9 (0,0))/\W.heap[kb]?=some (.cells #[.int .i64 kd] 3 (0,0))) from λW f=>⟨f.row K0.now.2.1 (by decide) (by decide) (by decide),f.row K0.now.2.2.1 (by decide) (by decide) (by decide),f.row K0.now.2.2.2 (by decide) (by decide) (by decide)⟩)
  have Hr:=zI (λW (f:Ft lo (w.alloc (.cells #[.int .i64 xs,.int .i64 xn,.string (B xp),.bool xd] TW)) W)=>yI (j6 (Hq W f).1) (yI (tD (Hq W f).2.1) (tD (Hq W f).2.2)))
  have mj:=zI ((Fp.refl ab (w.alloc (.cells #[.int .i64 xs,.int .i64 xn,.string (B xp),.bool xd] TW))).drew);refine wp_region_held_drew (S:=(λW=>(W.cell? ⟨w.heap.size,0,none⟩=some (.int .i64 xs)/\W.cell? ⟨w.heap.size,1,none⟩=some (.int .i64 xn)/\W.cell? ⟨w.heap.size,2,none⟩=some (.string (B xp))/\W.cell? ⟨w.heap.size,3,none⟩=some (.bool xd))/\W.cell? ⟨pb,0,none⟩=some (.string (B xp))/\W.cell? ⟨kb,0,none⟩=some (.int .i64 kd))) (by kernel_rfl) ?_ (λhH=>?_)
  ·exact Hr _ mj.ft
  refine aF 0 hH ?_;refine aF 1 hH ?_;refine aF 3 hH ?_;refine aF 4 hH ?_;refine aF 5 hH ?_;refine rY 2 (λK hK=>?_)
  go_simp;refine(HOP _ (K0.now.1.then mj.out)).mono ?_;rintro e w5 hO;obtain⟨G,m,cap,L',rfl,vR,EC⟩:=hO.ex;have F5:=zI (yI (mj.ft.then hO.fp) (yI ((K0.now.1.ft (lo:=lo)).then (mj.ft.then hO.fp)) (yI vR EC)));clear hO vR EC;go_wp2_with fail
  refine hK _ _ (Hr _ F5.1) (λhH=>?_)
  clear hK K;try simp only[zz]
  refine rY 6 (λK hK=>?_)
  go_simp;refine(XL _ _ _ _ _ F5.2.2.1 F5.2.2.2 (by have:=HH.2;have:=F5.2.1.size;omega)).mono ?_
  rintro e w6⟨rfl,L2,fG,Dv,F0,mK⟩;have F6:=zI (yI (F5.1.then F0) (yI (F5.2.1.then F0) (yI fG (yI Dv mK))));clear fG Dv F0 mK;go_wp2_with fail
  refine hK _ _ (Hr _ F6.1) (λhH=>?_)
  clear hK K;try simp only[zz]
  refine aF 7 hH ?_;refine aF 8 hH ?_;refine yD ?_;go_wp2;go_ret;exact⟨rfl,KF (by first|rfl|trivial) _ _ _ _ _ _ HH.1 F6.2.1 F6.2.2.2.2 F6.2.2.1 F6.2.2.2.1,F6.2.1⟩
 have q1:(xp != p)=true:=by simpa using h1
 have q2:(xp=p)=False:=eq_false h1;have q3:(xp == p)=false:=by simpa using h1
 cases xd with
 |false=>
  obtain rfl:c=false:=by rw[Ae];simp[h1]
  clear Ae;go_wp2;go_ret;exact⟨rfl,wF (by first|rfl|trivial) _ K0.now.1,K0.now.1.ft⟩
 |true=>?_
 go_wp2_with fail
 refine(Gc _).mono ?_;rintro e w1⟨rfl,hf⟩;have K1:=zI (K0.later hf.fp);clear hf;obtain⟨bi,Qw⟩:∃b,lR p xp=b:=⟨_,rfl⟩;rw[Qw]at Ae|-;have rN:c=bi:=by rw[Ae];simp[h1]
 subst rN;clear Ae Qw;cases c with
 |false=>
  go_wp2;go_ret;exact⟨rfl,wF (by first|rfl|trivial) _ K1.now.1,K1.now.1.ft⟩
 |true=>?_
 go_wp2_with fail
 have Hq:=zI (show ∀W,Ft lo w1 W->(W.heap[w.heap.size]?=some (.cells #[.int .i64 xs,.int .i64 xn,.string (B xp),.bool true] TW (0,0))/\W.heap[pb]?=some (.cells #[.string (B p)] 9 (0,0))/\W.heap[kb]?=some (.cells #[.int .i64 kd] 3 (0,0))) from λW f=>⟨f.row K1.now.2.1 (by decide) (by decide) (by decide),f.row K1.now.2.2.1 (by decide) (by decide) (by decide),f.row K1.now.2.2.2 (by decide) (by decide) (by decide)⟩)
 have Hr:=zI (λW (f:Ft lo w1 W)=>yI (j6 (Hq W f).1) (yI (tD (Hq W f).2.1) (tD (Hq W f).2.2)))
 have mj:=zI ((Fp.refl ab w1).drew);refine wp_region_held_drew (S:=(λW=>(W.cell? ⟨w.heap.size,0,none⟩=some (.int .i64 xs)/\W.cell? ⟨w.heap.size,1,none⟩=some (.int .i64 xn)/\W.cell? ⟨w.heap.size,2,none⟩=some (.string (B xp))/\W.cell? ⟨w.heap.size,3,none⟩=some (.bool true))/\W.cell? ⟨pb,0,none⟩=some (.string (B p))/\W.cell? ⟨kb,0,none⟩=some (.int .i64 kd))) (by kernel_rfl) ?_ (λhH=>?_)
 ·exact Hr _ mj.ft
 refine aF 0 hH ?_;refine aF 1 hH ?_;refine aF 3 hH ?_;refine aF 4 hH ?_;refine aF 5 hH ?_;refine rY 2 (λK hK=>?_)
 go_simp;refine(HOP _ (K1.now.1.then mj.out)).mono ?_;rintro e w5 hO;obtain⟨G,m,cap,L',rfl,vR,EC⟩:=hO.ex;have F5:=zI (yI (mj.ft.then hO.fp) (yI ((K1.now.1.ft (lo:=lo)).then (mj.ft.then hO.fp)) (yI vR EC)));clear hO vR EC;go_wp2_with fail
 refine hK _ _ (Hr _ F5.1) (λhH=>?_)
 clear hK K;try simp only[zz]
 refine rY 6 (λK hK=>?_)
 go_simp;refine(XL _ _ _ _ _ F5.2.2.1 F5.2.2.2 (by have:=HH.2;have:=F5.2.1.size;omega)).mono ?_
 rintro e w6⟨rfl,L2,fG,Dv,F0,mK⟩;have F6:=zI (yI (F5.1.then F0) (yI (F5.2.1.then F0) (yI fG (yI Dv mK))));clear fG Dv F0 mK;go_wp2_with fail
 refine hK _ _ (Hr _ F6.1) (λhH=>?_)
 clear hK K;try simp only[zz]
 refine aF 7 hH ?_;refine aF 8 hH ?_;refine yD ?_;go_wp2;go_ret;exact⟨rfl,KF (by first|rfl|trivial) _ _ _ _ _ _ HH.1 F6.2.1 F6.2.2.2.2 F6.2.2.1 F6.2.2.2.1,F6.2.1⟩
end Go.Proofs.YtgafcelloiagmaaGreatDoor
