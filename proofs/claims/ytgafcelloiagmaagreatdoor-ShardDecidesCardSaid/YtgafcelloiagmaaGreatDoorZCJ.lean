/- A text of this proof. -/
import Derived.Test.YtgafcelloiagmaaGreatDoorZCH
set_option maxHeartbeats 16000000
set_option linter.unusedSimpArgs false
set_option linter.unusedVariables false
set_option maxRecDepth 20000
namespace Go.Proofs.YtgafcelloiagmaaGreatDoor
open Go.Proofs.Tryz
open Go.RowKit Pm
structure II(w:World)(G n:Nat)(l:List Nd)(v':Value)(w':World):Prop where
 ex:∃G' aY,v'=.slice (some ⟨G',0,none⟩) n aY/\Nr w' G' aY l/\(G'=G\/w.heap.size<=G')/\Fp (λj=>j=G) w w'
theorem Bc{w:World}{G cap X:Nat}{l:List Nd}{x:Nd}(h:Nr w G cap l)(hX:dM w X 0 x)(hl:l.length<=4000)(h0:0<l.length):
  Calls prog 218 #[.slice (some ⟨G,0,none⟩) l.length cap,.int .i64 (l.length:Int),.slice (some ⟨X,0,none⟩) 1 1] w λe w'=>∃v',e=.returned v'/\II w G (l.length+1) (l++[x]) v' w':=by
 have bM:∀ty,∃v' w',(Builtin.append_ #[TL,TL] ty #[.slice (some ⟨G,0,none⟩) l.length cap,.slice (some ⟨X,0,none⟩) 1 1]).run prog w=.ok v' w'/\II w G (l.length+1) (l++[x]) v' w':=λty=>by
  obtain⟨G',aY,w',hr,h1,_,h2,h3⟩:=DW w 0 _ l [x] ty X 0 1 1 (h.owns (Nat.zero_le _)) rfl (λi hi=>by
   have dC:i=0:=by simp at hi;omega
   subst dC;exact hX) (by simp;omega) (Nat.zero_le _) (by omega)
  refine⟨_,w',hr,⟨G',aY,rfl,h1,?_,(Fp.refl _ w).grown h2 (λk hk=>.inl (by simp[Value.ownBlock]at hk;exact hk.symm))⟩⟩
  rcases h3 with h3|h3
  ·left;simp[Value.ownBlock]at h3;exact h3.symm
  exact .inr h3
 have hm:=h.most;have hr:=h.room;unfold maxLen at hm;generalize l.length=n at *;have HA:=Lib.hid bM;have Aw:(0:Int)<=(n:Int):=by omega
 clear bM h hX;go_enter func218,ntmps218
 go_wp2_with (at_builtin;go_must (refine aG rfl _ _ _ _ rfl _ _ rfl rfl (II w G (n+1) (l++[x])) (HA TL) ?_))
 all_goals
  intro v2 w2 cN;have HR:=Lib.hid cN;obtain⟨G',aY,rfl,_⟩:=cN.ex;clear cN;go_wp2;go_ret;exact⟨_,rfl,HR.out⟩
structure UU(w:World)(n gc:Nat)(W1:World)(v':Value)(w':World):Prop where
 v:v'=.slice (some ⟨w.heap.size,0,none⟩) (n+1) gc
 w:w'=W1
theorem zer{w W1:World}{n gc k G cap:Nat}{ty:TypeId}(h:∀ty,(Builtin.append_ #[TL,3] ty #[.slice (some ⟨G,0,none⟩) k cap,.int .i64 ((n+1-k:Nat):Int)]).run prog w=.ok (.slice (some ⟨w.heap.size,0,none⟩) (n+1) gc) W1):
  ∃v' w',(Builtin.append_ #[TL,3] ty #[.slice (some ⟨G,0,none⟩) k cap,.int .i64 ((n+1-k:Nat):Int)]).run prog w=.ok v' w'/\UU w n gc W1 v' w':=⟨_,_,h ty,rfl,rfl⟩
theorem Bd(l:List Nd)(k:Nat)(hk:k<=l.length)(x:Nd)(cur:List Value)(h1:cur.take (k*5)=rows (l.take k))(h2:(l.length+1)*5<=cur.length):
  ∃rest,((cur.take (k*5)++rows [x]++cur.drop (k*5+[x].length*5)).take ((k+1)*5)++rows (l.drop k)++(cur.take (k*5)++rows [x]++cur.drop (k*5+[x].length*5)).drop ((k+1)*5+(l.drop k).length*5))=rows (ins l k x)++rest/\
   (l.length+1)*5+rest.length=cur.length:=by
 have e0:(rows (l.take k)++rows [x]).length=(k+1)*5:=by rw[List.length_append,be,be,List.length_take];simp;omega
 refine⟨(cur.take (k*5)++rows [x]++cur.drop (k*5+[x].length*5)).drop ((k+1)*5+(l.drop k).length*5),?_,?_⟩
 ·rw[h1]
  rw[List.take_append_of_le_length (by rw[e0];omega),List.take_of_length_le (by rw[e0];omega)]
  congr 1
  rw[ins,ku];simp[rows,List.append_assoc]
 rw[h1,List.length_drop,List.length_append,e0,List.length_drop,List.length_drop];simp;omega
theorem yh{w:World}{G cap X:Nat}{l:List Nd}{x:Nd}(h:Nr w G cap l)(k:Nat)(hk:k<l.length)(jF:cap<l.length+1)(hX:dM w X 0 x)(hl:l.length<=4000):
  Calls prog 218 #[.slice (some ⟨G,0,none⟩) l.length cap,.int .i64 (k:Int),.slice (some ⟨X,0,none⟩) 1 1] w λe w'=>∃v',e=.returned v'/\II w G (l.length+1) (ins l k x) v' w':=by
 have hm:=h.most;have pP:=h.room;unfold maxLen at hm;obtain⟨n,hn⟩:∃n,n=l.length:=⟨_,rfl⟩;obtain⟨i0,dC,l6,IJ,zh⟩:=info_parts Tryz.CG
 have hold:(Builtin.firstCells i0.size k (.slice (some ⟨G,0,none⟩) k cap)).run prog w.drew=.ok (rows (l.take k)).toArray w.drew:=by
  rw[IJ];refine run_firstCells_some w.drew 5 k ⟨G,0,none⟩ k cap (rows (l.take k)) (by rw[be,List.length_take];omega) (λj v hj=>?_)
  have hj5:j<k*5:=by have:=(List.getElem?_eq_some_iff.1 hj).1;rw[be,List.length_take]at this;omega
  have hd:j / 5<(l.take k).length:=by rw[List.length_take];omega
  have e:j / 5*5+j % 5=j:=by omega
  rw[<-e,kx _ (j / 5) (j % 5) hd (by omega),List.getElem_take]at hj
  have:=h.cell (j / 5) (j % 5) (by omega) (by omega)
  rw[e,hj]at this;rw[Addr.add_lit,Nat.zero_add];exact this
 have sj:∀ty,_:=λty=>Lib.run_append_grow_zeros w TL 3 ty TN i0 _ .i64 .i64 Tryz.underlying22 Tryz.underlying3 dC l6 (some ⟨G,0,none⟩) k cap (rows (l.take k)) hold (n+1-k) (by omega) (by omega) (by omega) (by omega) (by rw[zh];omega) (by rw[zh];exact growslice_fits (by omega) (by omega))
 rw[show k+(n+1-k)=n+1 from by omega]at sj
 obtain⟨gc,vA⟩:∃gc,gc=grownCap w (n+1) cap TN:=⟨_,rfl⟩;have oZ:n+1<=gc:=by rw[vA];exact grownCap_ge w (n+1) cap TN
 have CJ:gc<=maxLen:=by rw[vA];exact grownCap_le_maxLen w (n+1) cap TN (by unfold maxLen;omega)
 rw[<-vA]at sj;obtain⟨cur,jw⟩:∃cur:List Value,cur=((rows (l.take k)).toArray++Builtin.zeroCells (Value.cells (.agg #[.string ⟨#[]⟩,.string ⟨#[]⟩,.int .i64 0,.int .i64 0,.int .i64 0])) (n+1-k)++Builtin.zeroCells (Value.cells (.agg #[.string ⟨#[]⟩,.string ⟨#[]⟩,.int .i64 0,.int .i64 0,.int .i64 0])) (gc-(n+1))).toList:=⟨_,rfl⟩
 have dN:cur.length=gc*5:=by
  rw[jw,Array.length_toList,Array.size_append,Array.size_append,size_zeroCells,size_zeroCells,List.size_toArray,be,List.length_take];show min k l.length*5+(n+1-k)*5+(gc-(n+1))*5=gc*5
  omega
 have pH:cur.take (k*5)=rows (l.take k):=by
  rw[jw,Array.toList_append,Array.toList_append,List.append_assoc,List.take_append_of_le_length (by simp[be];omega),List.take_of_length_le (by simp[be];omega)]
 obtain⟨W1,jM⟩:∃W1,W1=w.drew.alloc (.cells cur.toArray TN):=⟨_,rfl⟩
 have ry:∀ty,(Builtin.append_ #[TL,3] ty #[.slice (some ⟨G,0,none⟩) k cap,.int .i64 ((n+1-k:Nat):Int)]).run prog w=.ok (.slice (some ⟨w.heap.size,0,none⟩) (n+1) gc) W1:=λty=>by
  rw[jM,jw];exact sj ty
 have cv:Fp ab w W1:=by rw[jM];exact((Fp.refl ab w).drew).alloc _
 have IK:W1.heap[w.heap.size]?=some (.cells cur.toArray TN (0,0)):=by rw[jM];exact heap_alloc_new w.drew _
 have rl:=hX.keep cv id;have h1:=h.keep cv id;have rz:=h.lt
 have eN:∀ty,∃v' w',(Builtin.copy_ #[TL,TL] ty #[.slice (some ⟨w.heap.size,k*5,none⟩) (n+1-k) (gc-k),.slice (some ⟨X,0,none⟩) 1 1]).run prog W1=.ok v' w'/\D2 w.heap.size gc (cur.take (k*5)++rows [x]++cur.drop (k*5+[x].length*5)) W1 w':=λty=>
  pU IK dN ty (k*5) (n+1-k) (gc-k) ⟨X,0,none⟩ 1 1 [x] (by simp only[Nat.min_def,List.length_cons,List.length_nil];split<;>omega) (λi hi j v hv=>by
   have dC:i=0:=by simp at hi;omega
   subst dC;have:=rl.get j v hv;rwa[show 0*5+j=j from by omega]) (by simp;omega)
 have q1:((k:Int) == (n:Int))=false:=beq_eq_false_iff_ne.2 (by omega)
 have q2:((cap:Int)<(n:Int)+1)=True:=eq_true (by omega)
 have eJ:k<n:=by omega
 have AD:n<=4000:=by omega
 have me:cap=n:=by omega
 have wk:IntKind.i64.wrap ((k:Int)+1)=((k+1:Nat):Int):=by rw[IntKind.wrap_i64];omega
 have wn:(n:Int)+1-(k:Int)=((n+1-k:Nat):Int):=by omega
 have r1:(gc=k+1)=False:=eq_false (by omega)
 have r2:(gc=k)=False:=eq_false (by omega)
 have r8:(cap=k)=False:=eq_false (by omega)
 have r3:(((k+1:Nat):Int)<=(n:Int)+1)=True:=eq_true (by omega)
 have r4:(k<=n)=True:=eq_true (by omega)
 have r5:((0:Int)<=((k+1:Nat):Int))=True:=eq_true (by omega)
 have r7:((k:Int)<=(n:Int)+1)=True:=eq_true (by omega)
 have r6:((0:Int)<=(k:Int)+1)=True:=eq_true (by omega)
 have r9:(k<=cap)=True:=eq_true (by omega)
 have KM:((k:Int)<=(cap:Int))=True:=eq_true (by omega)
 have e5:n+1-(k+1)=n-k:=by omega
 rw[<-hn];have HZ:=Lib.hid ry;have A8:=Lib.hid eN;have HX:=Lib.hid (And.intro hn (And.intro h1 (And.intro dN (And.intro pH (And.intro CJ (And.intro oZ (And.intro cv rz)))))));unfold maxLen at CJ;clear ry eN sj hold hn h1 rl IK cv jM dN pH jw vA hX h rz me hk jF hl pP dC l6 IJ zh;go_enter func218,ntmps218
 go_wp2_with (at_builtin;go_must (refine aG rfl _ _ _ _ rfl _ _ rfl rfl (λv' w'=>UU w n gc W1 v' w') (zer HZ.out) ?_))
 intro v2 w2 cN;obtain⟨rfl,rfl⟩:=cN;go_wp2_with fail
 obtain⟨v3,w3,hr,lz⟩:=A8.out 3;rw[hr];simp only[Result.andThen]
 rw[Oper.upon_value];clear hr;have h3:Nr w3 G cap l:=HX.2.1.keep lz.fp (λe=>by have:=HX.2.2.2.2.2.2.2;omega)
 have vj:Nr w3.drew G cap l:=h3.keep ((Fp.refl ab w3).drew) id;have IL:=HX.1
 have fG:∀ty,∃v' w',(Builtin.copy_ #[TL,TL] ty #[.slice (some ⟨w.heap.size,(k+1)*5,none⟩) (n-k) (gc-(k+1)),.slice (some ⟨G,k*5,none⟩) (n-k) (cap-k)]).run prog w3.drew=.ok v' w'/\D2 w.heap.size gc _ w3.drew w':=λty=>
  pU (w:=w3.drew) lz.hp lz.len ty ((k+1)*5) (n-k) (gc-(k+1)) ⟨G,k*5,none⟩ (n-k) (cap-k) (l.drop k) (by rw[List.length_drop,<-IL];simp only[Nat.min_def];split<;>omega) (vj.src k) (by rw[List.length_drop];omega)
 have Ba:=Lib.hid fG;have nw:=Lib.hid lz.fp;clear lz h3 vj IL fG;go_wp2_with fail
 go_region_law ((refine step_copy rfl _ _ TL TL rfl (.slice (some ⟨w.heap.size,(k+1)*5,none⟩) (n-k) (gc-(k+1))) (.slice (some ⟨G,k*5,none⟩) (n-k) (cap-k)) (by simp[Act.eval,Act.put]) (by simp[Act.eval,Act.put]) (λ_ w'=>D2 w.heap.size gc _ w3.drew w') (Ba _) ?_;intro v4 w4 gu))
 obtain⟨gP,he,lu⟩:=Bd l k (by have:=HX.1;omega) x cur HX.2.2.2.1 (by have h1:=HX.1;have h2:=HX.2.2.1;have h3:=HX.2.2.2.2.2.1;omega)
 have ba:Nr w4 w.heap.size gc (ins l k x):=by
  refine⟨⟨gP,?_,?_⟩,?_,HX.2.2.2.2.1⟩
  ·have:=gu.hp;rw[he]at this;exact this
  ·rw[dX];have:=HX.2.2.1;omega
  rw[dX];have h1:=HX.1;have h3:=HX.2.2.2.2.2.1;omega
 have dV:Fp (λj=>j=G) w w4:=(((HX.2.2.2.2.2.2.1.any (S:=λj=>j=G)).trans nw (λk hk=>.inr (by rw[hk];exact Nat.le_refl _))).trans (((Fp.refl ab w3).drew.any (S:=λj=>j=w.heap.size)).same gu.fp) (λk hk=>.inr (by rw[hk];exact Nat.le_refl _)))
 have HR:=Lib.hid (And.intro ba dV);clear gu he lu ba dV;go_wp2;go_ret;exact⟨_,rfl,⟨w.heap.size,gc,rfl,HR.1,.inr (Nat.le_refl _),HR.2⟩⟩
theorem IM{w:World}{G cap X:Nat}{l:List Nd}{x:Nd}(h:Nr w G cap l)(k:Nat)(hk:k<=l.length)(hX:w.heap[X]?=some (.cells (oV x).toArray TN (0,0)))(bA:X≠G)(hl:l.length<=4000)(h0:0<l.length):
  Calls prog 218 #[.slice (some ⟨G,0,none⟩) l.length cap,.int .i64 (k:Int),.slice (some ⟨X,0,none⟩) 1 1] w λe w'=>∃v',e=.returned v'/\II w G (l.length+1) (ins l k x) v' w':=by
 have aE:dM w X 0 x:=⟨by rw[cell_of_row _ _ _ _ _ _ hX];rfl,by rw[cell_of_row _ _ _ _ _ _ hX];rfl,by rw[cell_of_row _ _ _ _ _ _ hX];rfl,by rw[cell_of_row _ _ _ _ _ _ hX];rfl,by rw[cell_of_row _ _ _ _ _ _ hX];rfl⟩
 by_cases aS:k<l.length
 ·by_cases hr:l.length+1<=cap
  ·refine(A5 h k aS hr aE bA hl hX).mono ?_
   rintro e w'⟨rfl,h1,h2⟩;exact⟨_,rfl,⟨G,cap,rfl,h1,.inl rfl,h2⟩⟩
  exact yh h k aS (by omega) aE hl
 obtain rfl:k=l.length:=by omega
 have e:ins l l.length x=l++[x]:=by unfold ins;simp
 rw[e];exact Bc h aE hl h0
theorem step_app{P:Program}{ops:Array Oper}{o:Oper}{a:Act}{w:World}{K:Act->World->Prop}{Q:Exit->Act->World->Prop}{E:Prop}(Aq:o.guard=none)(s x:Operand)(t u:TypeId)
  (ho:o.op=.call { callee:=.builtin .append,args:=#[s,x],argTypes:=#[t,u] }) (v xv:Value) (hs:a.eval s=v) (hx:a.eval x=xv) (R:Value->World->Prop)
  (hr:∃v' w',(Builtin.append_ #[t,u] o.type #[v,xv]).run P w=.ok v' w'/\R v' w') (h:∀v' w',R v' w'->K (a.put o.dst v') w'):
  if Region.wanted o (yielded ops a.tmps)=true then Oper.wp P o a w K Q else E:=by
 have hw:Region.wanted o (yielded ops a.tmps)=true:=by simp[Region.wanted,Aq]
 rw[if_pos hw];obtain⟨v',w',hr,h2⟩:=hr;unfold Oper.wp execOp;simp only[ho,resolve,invoke,builtin,Sem.run_bind,Sem.run_pure,Result.andThen_ok,List.map_toArray,List.map_cons,List.map_nil,hs,hx,hr]
 exact h v' w' h2
theorem IP{w:World}{G cap:Nat}{l:List Nd}(h:Nr w G cap l)(ty:TypeId)(n c:Nat)(h0:0<n)(hn:l.length+n<=cap):
  ∃w',(Builtin.clear_ #[TL] ty #[.slice (some ⟨G,l.length*5,none⟩) n c]).run prog w=.ok (.tuple #[]) w'/\Nr w' G cap l/\Fp (λj=>j=G) w w':=by
 obtain⟨rest,hg,rP⟩:=h.ex;have l0:(rows l++rest).length=cap*5:=by rw[List.length_append,be];omega
 obtain⟨zs,hz,hr⟩:=pq w ty G (l.length*5) n c (rows l++rest) hg (by rw[l0];omega) h0
 refine⟨_,hr,⟨⟨zs++(rows l++rest).drop (l.length*5+n*5),?_,?_⟩,h.room,h.most⟩,av w G _⟩
 ·rw[setRow_heap w G _ _ TN _ hg]
  congr 2
  rw[<-be l,List.take_left,List.append_assoc]
 rw[List.length_append,List.length_drop,hz,l0];omega
structure tT(S:Nat->Prop)(q:Nd->Bool)(l:List Nd)(G cap:Nat)(w:World)(i j:Nat)(wr:World):Prop where
 ex:∃m,Nr wr G cap m/\m.length=l.length/\m.take i=(l.take j).filter (λn=>!q n)/\m.drop j=l.drop j
 ij:i<j
 fp:Fp (λk=>k=G) w wr
theorem tT.keep{S:Nat->Prop}{q:Nd->Bool}{l:List Nd}{G cap i j:Nat}{w wr w':World}(h:tT S q l G cap w i j wr)(f:Fp ab wr w'):tT S q l G cap w i j w':=by
 obtain⟨m,h1,h2⟩:=h.ex;exact⟨⟨m,h1.keep f id,h2⟩,h.ij,h.fp.then f⟩
theorem kN(l:List Nd)(j:Nat)(hj:j<l.length)(p:Nd->Bool):(l.take (j+1)).filter p=(l.take j).filter p++if p l[j]=true then [l[j]] else []:=by
 rw[List.take_succ_eq_append_getElem hj,List.filter_append];congr 1
 by_cases h:p l[j]=true<;>simp[h]
theorem tT.gone{S:Nat->Prop}{q:Nd->Bool}{l:List Nd}{G cap i j:Nat}{w wr:World}(h:tT S q l G cap w i j wr)(hj:j<l.length)(hq:q l[j]=true):tT S q l G cap w i (j+1) wr:=by
 obtain⟨m,h1,h2,h3,h4⟩:=h.ex;refine⟨⟨m,h1,h2,?_,?_⟩,Nat.lt_succ_of_lt h.ij,h.fp⟩
 ·rw[kN l j hj,h3];simp[hq]
 have:=congrArg (List.drop 1) h4;rwa[List.drop_drop,List.drop_drop]at this
theorem tT.stays{S:Nat->Prop}{q:Nd->Bool}{l:List Nd}{G cap i j:Nat}{w wr w':World}(h:tT S q l G cap w i j wr)(hj:j<l.length)(hq:q l[j]=false)
  (hs:∀m,Nr wr G cap m->i<m.length->Nr w' G cap (m.set i l[j])) (f:Fp (λk=>k=G) wr w'):tT S q l G cap w (i+1) (j+1) w':=by
 obtain⟨m,h1,h2,h3,h4⟩:=h.ex;have hi:=h.ij;refine⟨⟨m.set i l[j],hs m h1 (by omega),by rw[List.length_set,h2],?_,?_⟩,by omega,h.fp.same f⟩
 ·rw[kN l j hj,<-h3]
  simp only[hq,Bool.not_false,if_true]
  rw[List.take_succ_eq_append_getElem (by rw[List.length_set];omega),List.getElem_set_self,List.take_set_of_le (Nat.le_refl _)]
 rw[List.drop_set_of_lt (by omega)]
 have:=congrArg (List.drop 1) h4;rwa[List.drop_drop,List.drop_drop]at this
theorem tT.cell{S:Nat->Prop}{q:Nd->Bool}{l:List Nd}{G cap i j:Nat}{w wr:World}(h:tT S q l G cap w i j wr)(hj:j<l.length):dM wr G (0+j*5) l[j]:=by
 obtain⟨m,h1,h2,h3,h4⟩:=h.ex;have hm:j<m.length:=by omega
 have e:m[j]=l[j]:=by
  have h5:(m.drop j)[0]?=(l.drop j)[0]?:=by rw[h4]
  rw[List.getElem?_drop,List.getElem?_drop,List.getElem?_eq_getElem (by omega),List.getElem?_eq_getElem (by omega)]at h5
  exact Option.some.inj h5
 rw[<-e];exact h1.nd j hm
theorem tT.there{S:Nat->Prop}{q:Nd->Bool}{l:List Nd}{G cap i j:Nat}{w wr:World}(h:tT S q l G cap w i j wr)(hj:j<=l.length):∃y,dM wr G (i*5) y:=by
 obtain⟨m,h1,h2,h3,h4⟩:=h.ex;have hi:=h.ij;have:=h1.nd i (by omega)
 rw[Nat.zero_add]at this;exact⟨_,this⟩
theorem tT.frozen{S:Nat->Prop}{q:Nd->Bool}{l:List Nd}{G cap i j:Nat}{w wr:World}(h:tT S q l G cap w i j wr)(o:Nat):wr.frozen? ⟨G,o,none⟩=false:=by
 obtain⟨m,h1,_⟩:=h.ex;exact h1.frozen o
theorem IQ(l:List Nd)(i:Nat)(hi:i<l.length)(x:Nd)(rest:List Value):(((((rows l++rest).set (i*5) (au x.path)).set (i*5+1) (au x.data)).set (i*5+2) (.int .i64 x.aX)).set (i*5+3) (.int .i64 x.turn)).set (i*5+4) (.int .i64 x.own)=rows (l.set i x)++rest:=by
 induction l generalizing i with
 |nil=>simp at hi
 |cons a l ih=>
  cases i with
  |zero=>rw[List.set_cons_zero,cJ,cJ];simp[oV]
  |succ i=>?_
  rw[List.set_cons_succ,cJ,cJ,List.append_assoc,List.append_assoc,<-ih i (by simpa using hi)]
  simp only[show(i+1)*5=5+i*5 from by omega,show ∀j,5+i*5+j=5+(i*5+j) from λj=>by omega]
  have e:∀(j:Nat) (v:Value) (m:List Value),(oV a++m).set (5+j) v=oV a++m.set j v:=λj v m=>by
   rw[List.set_append_right _ _ (by rw[fE];omega),fE,Nat.add_sub_cancel_left]
  rw[e,e,e,e,e]
theorem Nr.put{w:World}{G cap:Nat}{l:List Nd}(h:Nr w G cap l)(i:Nat)(hi:i<l.length)(x:Nd):
  Nr (((((w.setCell ⟨G,i*5,none⟩ (au x.path)).setCell ⟨G,i*5+1,none⟩ (au x.data)).setCell ⟨G,i*5+2,none⟩ (.int .i64 x.aX)).setCell ⟨G,i*5+3,none⟩ (.int .i64 x.turn)).setCell ⟨G,i*5+4,none⟩ (.int .i64 x.own)) G cap (l.set i x):=by
 obtain⟨rest,hg,rP⟩:=h.ex;have h1:=heap_setCell_same w G (i*5) _ TN (au x.path) hg;have h2:=heap_setCell_same _ G (i*5+1) _ TN (au x.data) h1;have h3:=heap_setCell_same _ G (i*5+2) _ TN (.int .i64 x.aX) h2;have h4:=heap_setCell_same _ G (i*5+3) _ TN (.int .i64 x.turn) h3;have h5:=heap_setCell_same _ G (i*5+4) _ TN (.int .i64 x.own) h4;refine⟨⟨rest,?_,by rw[List.length_set];exact rP⟩,by rw[List.length_set];exact h.room,h.most⟩
 rw[h5,<-IQ l i hi x rest];simp[List.setIfInBounds_toArray]
theorem P9{S:Nat->Prop}{a w:World}(f:Fp S a w){b:Nat}(hb:S b\/a.heap.size<=b)(o:Nat)(v0 v1 v2 v3 v4:Value):
  Fp S a (((((w.setCell ⟨b,o,none⟩ v0).setCell ⟨b,o+1,none⟩ v1).setCell ⟨b,o+2,none⟩ v2).setCell ⟨b,o+3,none⟩ v3).setCell ⟨b,o+4,none⟩ v4):=
 ((((f.setCell (p:=⟨b,o,none⟩) hb v0).setCell (p:=⟨b,o+1,none⟩) hb v1).setCell (p:=⟨b,o+2,none⟩) hb v2).setCell (p:=⟨b,o+3,none⟩) hb v3).setCell (p:=⟨b,o+4,none⟩) hb v4
theorem oJ{q:Nd->Bool}{l:List Nd}(h:∀n∈l,q n=false):l.filter (λn=>!q n)=l:=by
 rw[List.filter_eq_self];intro n hn;simp[h n hn]
theorem vB{q:Nd->Bool}{l:List Nd}{i:Nat}(hi:i<l.length)(hq:q l[i]=true)(h:∀j (hj:j<l.length),j<i->q l[j]=false):(l.take (i+1)).filter (λn=>!q n)=l.take i:=by
 rw[kN l i hi,hq,oJ]
 ·simp
 intro n hn;obtain⟨j,hj,rfl⟩:=List.getElem_of_mem hn;rw[List.length_take]at hj;rw[List.getElem_take];exact h j (by omega) (by omega)
theorem Nr.take{w:World}{G cap:Nat}{l:List Nd}(h:Nr w G cap l)(k:Nat):Nr w G cap (l.take k):=by
 obtain⟨rest,hg,hl⟩:=h.ex;refine⟨⟨rows (l.drop k)++rest,?_,?_⟩,by have:=h.room;rw[List.length_take];omega,h.most⟩
 ·rw[<-List.append_assoc,<-ku,List.take_append_drop];exact hg
 rw[List.length_append,be,List.length_take,List.length_drop];omega
structure DfR(w:World)(G cap:Nat)(l:List Nd)(v':Value)(w':World):Prop where
 v:v'=.slice (some ⟨G,0,none⟩) l.length cap
 row:Nr w' G cap l
 fp:Fp (λk=>k=G) w w'
theorem vC{w:World}{G cap:Nat}{l:List Nd}{f:Value}{q:Nd->Bool}(h:Nr w G cap l)(hs:Sp l)(hq:Pd (λk=>k=G) w f q)(hl:l.length<=4000):
  Calls prog 222 #[.slice (some ⟨G,0,none⟩) l.length cap,f] w λe w'=>∃v',e=.returned v'/\DfR w G cap (l.filter (λn=>!q n)) v' w':=by
 have hm:=h.most;have pP:=h.room;unfold maxLen at hm;obtain⟨n,hn⟩:∃n,n=l.length:=⟨_,rfl⟩;have hi:=ky _ f l q w h.ns hs hq.af (by omega)
 obtain⟨kf,fi,fc,rfl,gU,bB⟩:=hq.ex;have HI:=Lib.hid hi;have HX:=Lib.hid (And.intro hn (And.intro hs (And.intro bB h)));rw[<-hn]at HI|-;have AD:n<=4000:=by omega
 have me:n<=cap:=by omega
 clear hi hq bB h hs hn hl pP;go_enter func222,ntmps222
 go_wp2_with fail
 refine HI.mono ?_;rintro e w1⟨⟨z,rfl,hz⟩,cv⟩;rcases hz with⟨rfl,hz⟩|⟨i,rfl,kX,hqi,hz⟩
 ·have HR:Hid (DfR w G cap (l.filter (λn=>!q n)) (.slice (some ⟨G,0,none⟩) n cap) w1):=by
   rw[oJ hz];exact⟨by rw[HX.1],HX.2.2.2.keep cv id,cv.any⟩
  clear hz cv;go_wp2;go_ret;exact⟨_,rfl,HR.out⟩
 have H0:Hid (tT ab q l G cap w i (i+1) w1):=⟨⟨l,HX.2.2.2.keep cv id,rfl,(vB kX hqi hz).symm,rfl⟩,Nat.lt_succ_self i,cv.any⟩;have eK:i<n:=by rw[HX.1];exact kX
 have q1:((i:Int) == -1)=false:=beq_eq_false_iff_ne.2 (by omega)
 clear hz cv hqi kX;go_wp2_with fail
 go_loopw [5,6] (λa b wr=>∃i j:Nat,j<=n/\i<n/\a=.int .i64 i/\b=.int .i64 j/\Hid (tT ab q l G cap w i j wr)) (λ_ b _=>n-(RowKit.intOf b).toNat)
 case atStart=>exact⟨i,i+1,by omega,eK,rfl,by go_num,H0⟩
 clear H0 eK q1;obtain⟨i,j,hj,eK,rfl,rfl,hR⟩:=hrel;rename_i wr _
 by_cases ay:j<n
 ·have tC:j<l.length:=by rw[<-HX.1];exact ay
  have aE:=hR.cell tC;have rA:=λw' (M:tT ab q l G cap w i j w')=>M.gone tC
  have rB:=λw' Ze (M:tT ab q l G cap w i j w')=>M.stays (w':=Ze) tC
  have dy:=λw1 hf=>HX.2.2.1 l[j] w1 (HX.2.1 _ (List.getElem_mem tC)) hf
  obtain⟨b,hb⟩:∃b,q l[j]=b:=⟨_,rfl⟩;rw[hb]at dy rA rB;clear hb;generalize l[j]=x at *;have fB:=dM.box wr x;have c0:=aE.c0;have c1:=aE.c1;have c2:=aE.c2;have c3:=aE.c3;have c4:=aE.c4;unfold au at c0 c1;unfold vO au at dy;simp only[Nat.zero_add]at c0 c1 c2 c3 c4
  have q3:((j:Int)<(n:Int))=True:=eq_true (by omega)
  have q4:(j<n)=True:=eq_true ay;have uR:=Lib.hid dy;have HB:=Lib.hid (And.intro rA (And.intro rB fB));have HL:=Lib.hid ay;clear aE dy rA rB fB tC ay;go_wp2_with fail
  rw[gU _ _];go_wp2_with fail
  refine(uR _ (hR.fp.trans ((Fp.refl ab wr).alloc _) (λ_ h=>h.elim))).mono ?_
  rintro e w2⟨rfl,bY⟩;have sN:=hR.keep (((Fp.refl ab wr).alloc _).then bY);have yi:=(HB.2.2.keep bY id).UJ;cases b with
  |true=>
   have hM:Hid (tT ab q l G cap w i (j+1) w2):=HB.1 w2 sN rfl;have Ju:=HL.out;clear bY sN yi;go_wp2;go_roundw
   case rel=>exact⟨i,j+1,by omega,eK,rfl,by go_num,hM⟩
   case measure=>simp[RowKit.intOf];omega
  |false=>?_
  obtain⟨y,hy⟩:=sN.there (by rw[<-HX.1];exact hj)
  obtain⟨b0,b1,b2,b3,b4⟩:=yi;have y0:=hy.c0;have y1:=hy.c1;have y2:=hy.c2;have y3:=hy.c3;have y4:=hy.c4;have f0:=sN.frozen (i*5);have f1:=sN.frozen (i*5+1);have f2:=sN.frozen (i*5+2);have f3:=sN.frozen (i*5+3);have f4:=sN.frozen (i*5+4);have hM:=Lib.hid (HB.2.1 w2 (((((w2.setCell ⟨G,i*5,none⟩ (au x.path)).setCell ⟨G,i*5+1,none⟩ (au x.data)).setCell ⟨G,i*5+2,none⟩ (.int .i64 x.aX)).setCell ⟨G,i*5+3,none⟩ (.int .i64 x.turn)).setCell ⟨G,i*5+4,none⟩ (.int .i64 x.own)) sN rfl (λm hm hi=>hm.put i hi x) (P9 (S:=λk=>k=G) (Fp.refl _ w2) (.inl rfl) _ _ _ _ _ _))
  have jR:=sN.ij;have Ju:=HL.out;have q5:((i:Int)<(n:Int))=True:=eq_true (by omega)
  have q6:(i<n)=True:=eq_true eK;unfold au at hM;clear bY sN hy;go_wp2;go_roundw
  case rel=>exact⟨i+1,j+1,by omega,by omega,by go_num,by go_num,hM⟩
  case measure=>simp[RowKit.intOf];omega
 have OL:j=n:=by omega
 subst OL;obtain⟨m,h1,h2,h3,h4⟩:=hR.ex;have kX:(m.take i).length=i:=by rw[List.length_take,h2,<-HX.1];omega
 have dN:=IP (h1.take i) 0 (j-i) (cap-i) (by omega) (by rw[kX];omega)
 rw[kX]at dN;have bf:m.take i=l.filter (λn=>!q n):=by rw[h3,List.take_of_length_le (by rw[<-HX.1];exact Nat.le_refl _)]
 rw[bf]at dN kX;have oX:=Lib.hid dN;have HL:=Lib.hid kX;have q3:((j:Int)<(j:Int))=False:=eq_false (by omega)
 have q4:(cap=i)=False:=eq_false (by omega)
 have q5:(i<=j)=True:=eq_true (by omega)
 have q6:((i:Int)<=(j:Int))=True:=eq_true (by omega)
 have q7:(i<=cap)=True:=eq_true (by omega)
 have q8:((i:Int)<=(cap:Int))=True:=eq_true (by omega)
 have q9:∃d,j-i=d+1:=⟨j-i-1,by omega⟩
 obtain⟨d,hd⟩:=q9;rw[hd]at oX;clear h1 h2 h3 h4 kX dN bf hj ay;go_wp2_with fail
 obtain⟨w5,hr,ba,rL⟩:=oX.out;rw[hr];simp only[Result.andThen]
 rw[Oper.upon_value];have HR:=Lib.hid (And.intro ba (hR.fp.same rL));clear hr ba rL;go_wp2;go_ret;exact⟨_,rfl,⟨by rw[HL.out];rfl,HR.1,HR.2⟩⟩
structure IU(w:World)(G n:Nat)(l:List Tu)(v':Value)(w':World):Prop where
 ex:∃G' aY,v'=.slice (some ⟨G',0,none⟩) n aY/\iF w' G' aY l/\(G'=G\/w.heap.size<=G')/\Fp (λj=>j=G) w w'
theorem yj{w:World}{G cap X:Nat}{l:List Tu}{x:Tu}(h:iF w G cap l)(hX:jL w X 0 x)(hl:l.length<=4000)(h0:0<l.length):
  Calls prog 278 #[.slice (some ⟨G,0,none⟩) l.length cap,.int .i64 (l.length:Int),.slice (some ⟨X,0,none⟩) 1 1] w λe w'=>∃v',e=.returned v'/\IU w G (l.length+1) (l++[x]) v' w':=by
 have bM:∀ty,∃v' w',(Builtin.append_ #[eM,eM] ty #[.slice (some ⟨G,0,none⟩) l.length cap,.slice (some ⟨X,0,none⟩) 1 1]).run prog w=.ok v' w'/\IU w G (l.length+1) (l++[x]) v' w':=λty=>by
  obtain⟨G',aY,w',hr,h1,_,h2,h3⟩:=Ec w 0 _ l [x] ty X 0 1 1 (h.owns (Nat.zero_le _)) rfl (λi hi=>by
   have dC:i=0:=by simp at hi;omega
   subst dC;exact hX) (by simp;omega) (Nat.zero_le _) (by omega)
  refine⟨_,w',hr,⟨G',aY,rfl,h1,?_,(Fp.refl _ w).grown h2 (λk hk=>.inl (by simp[Value.ownBlock]at hk;exact hk.symm))⟩⟩
  rcases h3 with h3|h3
  ·left;simp[Value.ownBlock]at h3;exact h3.symm
  exact .inr h3
 have hm:=h.most;have hr:=h.room;unfold maxLen at hm;generalize l.length=n at *;have HA:=Lib.hid bM;have Aw:(0:Int)<=(n:Int):=by omega
 clear bM h hX;go_enter func278,ntmps278
 go_wp2_with (at_builtin;go_must (refine aG rfl _ _ _ _ rfl _ _ rfl rfl (IU w G (n+1) (l++[x])) (HA eM) ?_))
 all_goals
  intro v2 w2 cN;have HR:=Lib.hid cN;obtain⟨G',aY,rfl,_⟩:=cN.ex;clear cN;go_wp2;go_ret;exact⟨_,rfl,HR.out⟩
structure UW(w:World)(n gc:Nat)(W1:World)(v':Value)(w':World):Prop where
 v:v'=.slice (some ⟨w.heap.size,0,none⟩) (n+1) gc
 w:w'=W1
theorem Zf{w W1:World}{n gc k G cap:Nat}{ty:TypeId}(h:∀ty,(Builtin.append_ #[eM,3] ty #[.slice (some ⟨G,0,none⟩) k cap,.int .i64 ((n+1-k:Nat):Int)]).run prog w=.ok (.slice (some ⟨w.heap.size,0,none⟩) (n+1) gc) W1):
  ∃v' w',(Builtin.append_ #[eM,3] ty #[.slice (some ⟨G,0,none⟩) k cap,.int .i64 ((n+1-k:Nat):Int)]).run prog w=.ok v' w'/\UW w n gc W1 v' w':=⟨_,_,h ty,rfl,rfl⟩
theorem yl(l:List Tu)(k:Nat)(hk:k<=l.length)(x:Tu)(cur:List Value)(h1:cur.take (k*2)=aQ (l.take k))(h2:(l.length+1)*2<=cur.length):
  ∃rest,((cur.take (k*2)++aQ [x]++cur.drop (k*2+[x].length*2)).take ((k+1)*2)++aQ (l.drop k)++(cur.take (k*2)++aQ [x]++cur.drop (k*2+[x].length*2)).drop ((k+1)*2+(l.drop k).length*2))=aQ (fj l k x)++rest/\
   (l.length+1)*2+rest.length=cur.length:=by
 have e0:(aQ (l.take k)++aQ [x]).length=(k+1)*2:=by rw[List.length_append,aO,aO,List.length_take];simp;omega
 refine⟨(cur.take (k*2)++aQ [x]++cur.drop (k*2+[x].length*2)).drop ((k+1)*2+(l.drop k).length*2),?_,?_⟩
 ·rw[h1]
  rw[List.take_append_of_le_length (by rw[e0];omega),List.take_of_length_le (by rw[e0];omega)]
  congr 1
  rw[fj,iV];simp[aQ,List.append_assoc]
 rw[h1,List.length_drop,List.length_append,e0,List.length_drop,List.length_drop];simp;omega
theorem vD{w:World}{G cap X:Nat}{l:List Tu}{x:Tu}(h:iF w G cap l)(k:Nat)(hk:k<l.length)(jF:cap<l.length+1)(hX:jL w X 0 x)(hl:l.length<=4000):
  Calls prog 278 #[.slice (some ⟨G,0,none⟩) l.length cap,.int .i64 (k:Int),.slice (some ⟨X,0,none⟩) 1 1] w λe w'=>∃v',e=.returned v'/\IU w G (l.length+1) (fj l k x) v' w':=by
 have hm:=h.most;have pP:=h.room;unfold maxLen at hm;obtain⟨n,hn⟩:∃n,n=l.length:=⟨_,rfl⟩;obtain⟨i0,dC,l6,IJ,zh⟩:=info_parts Tryz.yf
 have hold:(Builtin.firstCells i0.size k (.slice (some ⟨G,0,none⟩) k cap)).run prog w.drew=.ok (aQ (l.take k)).toArray w.drew:=by
  rw[IJ];refine run_firstCells_some w.drew 2 k ⟨G,0,none⟩ k cap (aQ (l.take k)) (by rw[aO,List.length_take];omega) (λj v hj=>?_)
  have hj2:j<k*2:=by have:=(List.getElem?_eq_some_iff.1 hj).1;rw[aO,List.length_take]at this;omega
  have hd:j / 2<(l.take k).length:=by rw[List.length_take];omega
  have e:j / 2*2+j % 2=j:=by omega
  rw[<-e,gw _ (j / 2) (j % 2) hd (by omega),List.getElem_take]at hj
  have:=h.cell (j / 2) (j % 2) (by omega) (by omega)
  rw[e,hj]at this;rw[Addr.add_lit,Nat.zero_add];exact this
 have sj:∀ty,_:=λty=>Lib.run_append_grow_zeros w eM 3 ty TU i0 _ .i64 .i64 Tryz.underlying23 Tryz.underlying3 dC l6 (some ⟨G,0,none⟩) k cap (aQ (l.take k)) hold (n+1-k) (by omega) (by omega) (by omega) (by omega) (by rw[zh];omega) (by rw[zh];exact growslice_fits (by omega) (by omega))
 rw[show k+(n+1-k)=n+1 from by omega]at sj
 obtain⟨gc,vA⟩:∃gc,gc=grownCap w (n+1) cap TU:=⟨_,rfl⟩;have oZ:n+1<=gc:=by rw[vA];exact grownCap_ge w (n+1) cap TU
 have CJ:gc<=maxLen:=by rw[vA];exact grownCap_le_maxLen w (n+1) cap TU (by unfold maxLen;omega)
 rw[<-vA]at sj;obtain⟨cur,jw⟩:∃cur:List Value,cur=((aQ (l.take k)).toArray++Builtin.zeroCells (Value.cells (.agg #[.string ⟨#[]⟩,.int .i64 0])) (n+1-k)++Builtin.zeroCells (Value.cells (.agg #[.string ⟨#[]⟩,.int .i64 0])) (gc-(n+1))).toList:=⟨_,rfl⟩
 have dN:cur.length=gc*2:=by
  rw[jw,Array.length_toList,Array.size_append,Array.size_append,size_zeroCells,size_zeroCells,List.size_toArray,aO,List.length_take];show min k l.length*2+(n+1-k)*2+(gc-(n+1))*2=gc*2
  omega
 have pH:cur.take (k*2)=aQ (l.take k):=by
  rw[jw,Array.toList_append,Array.toList_append,List.append_assoc,List.take_append_of_le_length (by simp[aO];omega),List.take_of_length_le (by simp[aO];omega)]
 obtain⟨W1,jM⟩:∃W1,W1=w.drew.alloc (.cells cur.toArray TU):=⟨_,rfl⟩
 have ry:∀ty,(Builtin.append_ #[eM,3] ty #[.slice (some ⟨G,0,none⟩) k cap,.int .i64 ((n+1-k:Nat):Int)]).run prog w=.ok (.slice (some ⟨w.heap.size,0,none⟩) (n+1) gc) W1:=λty=>by
  rw[jM,jw];exact sj ty
 have cv:Fp ab w W1:=by rw[jM];exact((Fp.refl ab w).drew).alloc _
 have IK:W1.heap[w.heap.size]?=some (.cells cur.toArray TU (0,0)):=by rw[jM];exact heap_alloc_new w.drew _
 have rl:=hX.keep cv id;have h1:=h.keep cv id;have rz:=h.lt
 have eN:∀ty,∃v' w',(Builtin.copy_ #[eM,eM] ty #[.slice (some ⟨w.heap.size,k*2,none⟩) (n+1-k) (gc-k),.slice (some ⟨X,0,none⟩) 1 1]).run prog W1=.ok v' w'/\Ed w.heap.size gc (cur.take (k*2)++aQ [x]++cur.drop (k*2+[x].length*2)) W1 w':=λty=>
  mV IK dN ty (k*2) (n+1-k) (gc-k) ⟨X,0,none⟩ 1 1 [x] (by simp only[Nat.min_def,List.length_cons,List.length_nil];split<;>omega) (λi hi j v hv=>by
   have dC:i=0:=by simp at hi;omega
   subst dC;have:=rl.get j v hv;rwa[show 0*2+j=j from by omega]) (by simp;omega)
 have q1:((k:Int) == (n:Int))=false:=beq_eq_false_iff_ne.2 (by omega)
 have q2:((cap:Int)<(n:Int)+1)=True:=eq_true (by omega)
 have eJ:k<n:=by omega
 have AD:n<=4000:=by omega
 have me:cap=n:=by omega
 have wk:IntKind.i64.wrap ((k:Int)+1)=((k+1:Nat):Int):=by rw[IntKind.wrap_i64];omega
 have wn:(n:Int)+1-(k:Int)=((n+1-k:Nat):Int):=by omega
 have r1:(gc=k+1)=False:=eq_false (by omega)
 have r2:(gc=k)=False:=eq_false (by omega)
 have r8:(cap=k)=False:=eq_false (by omega)
 have r3:(((k+1:Nat):Int)<=(n:Int)+1)=True:=eq_true (by omega)
 have r4:(k<=n)=True:=eq_true (by omega)
 have r5:((0:Int)<=((k+1:Nat):Int))=True:=eq_true (by omega)
 have r7:((k:Int)<=(n:Int)+1)=True:=eq_true (by omega)
 have r6:((0:Int)<=(k:Int)+1)=True:=eq_true (by omega)
 have r9:(k<=cap)=True:=eq_true (by omega)
 have KM:((k:Int)<=(cap:Int))=True:=eq_true (by omega)
 have e5:n+1-(k+1)=n-k:=by omega
 rw[<-hn];have HZ:=Lib.hid ry;have A8:=Lib.hid eN;have HX:=Lib.hid (And.intro hn (And.intro h1 (And.intro dN (And.intro pH (And.intro CJ (And.intro oZ (And.intro cv rz)))))));unfold maxLen at CJ;clear ry eN sj hold hn h1 rl IK cv jM dN pH jw vA hX h rz me hk jF hl pP dC l6 IJ zh;go_enter func278,ntmps278
 go_wp2_with (at_builtin;go_must (refine aG rfl _ _ _ _ rfl _ _ rfl rfl (λv' w'=>UW w n gc W1 v' w') (Zf HZ.out) ?_))
 intro v2 w2 cN;obtain⟨rfl,rfl⟩:=cN;go_wp2_with fail
 obtain⟨v3,w3,hr,lz⟩:=A8.out 3;rw[hr];simp only[Result.andThen]
 rw[Oper.upon_value];clear hr;have h3:iF w3 G cap l:=HX.2.1.keep lz.fp (λe=>by have:=HX.2.2.2.2.2.2.2;omega)
 have vj:iF w3.drew G cap l:=h3.keep ((Fp.refl ab w3).drew) id;have IL:=HX.1
 have fG:∀ty,∃v' w',(Builtin.copy_ #[eM,eM] ty #[.slice (some ⟨w.heap.size,(k+1)*2,none⟩) (n-k) (gc-(k+1)),.slice (some ⟨G,k*2,none⟩) (n-k) (cap-k)]).run prog w3.drew=.ok v' w'/\Ed w.heap.size gc _ w3.drew w':=λty=>
  mV (w:=w3.drew) lz.hp lz.len ty ((k+1)*2) (n-k) (gc-(k+1)) ⟨G,k*2,none⟩ (n-k) (cap-k) (l.drop k) (by rw[List.length_drop,<-IL];simp only[Nat.min_def];split<;>omega) (vj.src k) (by rw[List.length_drop];omega)
 have Ba:=Lib.hid fG;have nw:=Lib.hid lz.fp;clear lz h3 vj IL fG;go_wp2_with fail
 go_region_law ((refine step_copy rfl _ _ eM eM rfl (.slice (some ⟨w.heap.size,(k+1)*2,none⟩) (n-k) (gc-(k+1))) (.slice (some ⟨G,k*2,none⟩) (n-k) (cap-k)) (by simp[Act.eval,Act.put]) (by simp[Act.eval,Act.put]) (λ_ w'=>Ed w.heap.size gc _ w3.drew w') (Ba _) ?_;intro v4 w4 gu))
 obtain⟨gP,he,lu⟩:=yl l k (by have:=HX.1;omega) x cur HX.2.2.2.1 (by have h1:=HX.1;have h2:=HX.2.2.1;have h3:=HX.2.2.2.2.2.1;omega)
 have ba:iF w4 w.heap.size gc (fj l k x):=by
  refine⟨⟨gP,?_,?_⟩,?_,HX.2.2.2.2.1⟩
  ·have:=gu.hp;rw[he]at this;exact this
  ·rw[fM];have:=HX.2.2.1;omega
  rw[fM];have h1:=HX.1;have h3:=HX.2.2.2.2.2.1;omega
 have dV:Fp (λj=>j=G) w w4:=(((HX.2.2.2.2.2.2.1.any (S:=λj=>j=G)).trans nw (λk hk=>.inr (by rw[hk];exact Nat.le_refl _))).trans (((Fp.refl ab w3).drew.any (S:=λj=>j=w.heap.size)).same gu.fp) (λk hk=>.inr (by rw[hk];exact Nat.le_refl _)))
 have HR:=Lib.hid (And.intro ba dV);clear gu he lu ba dV;go_wp2;go_ret;exact⟨_,rfl,⟨w.heap.size,gc,rfl,HR.1,.inr (Nat.le_refl _),HR.2⟩⟩
theorem Ef{w:World}{G cap X:Nat}{l:List Tu}{x:Tu}(h:iF w G cap l)(k:Nat)(hk:k<=l.length)(hX:w.heap[X]?=some (.cells (wb x).toArray TU (0,0)))(bA:X≠G)(hl:l.length<=4000)(h0:0<l.length):
  Calls prog 278 #[.slice (some ⟨G,0,none⟩) l.length cap,.int .i64 (k:Int),.slice (some ⟨X,0,none⟩) 1 1] w λe w'=>∃v',e=.returned v'/\IU w G (l.length+1) (fj l k x) v' w':=by
 have aE:jL w X 0 x:=⟨by rw[cell_of_row _ _ _ _ _ _ hX];rfl,by rw[cell_of_row _ _ _ _ _ _ hX];rfl⟩
 by_cases aS:k<l.length
 ·by_cases hr:l.length+1<=cap
  ·refine(yg h k aS hr aE bA hl hX).mono ?_
   rintro e w'⟨rfl,h1,h2⟩;exact⟨_,rfl,⟨G,cap,rfl,h1,.inl rfl,h2⟩⟩
  exact vD h k aS (by omega) aE hl
 obtain rfl:k=l.length:=by omega
 have e:fj l l.length x=l++[x]:=by unfold fj;simp
 rw[e];exact yj h aE hl h0
structure LV(w:World)(G cap n:Nat)(l:List Tu)(v':Value)(w':World):Prop where
 v:v'=.slice (some ⟨G,0,none⟩) n cap
 row:iF w' G cap l
 fp:Fp (λj=>j=G) w w'
theorem LW{w:World}{G cap:Nat}{l m:List Tu}(h:iF w G cap l)(k:Nat)(ty:TypeId)(a:Addr)(c:Nat)(hk:k+m.length<=l.length)(hm:∀i (h:i<m.length) j v,(wb m[i])[j]?=some v->w.cell? (a.add (i*2+j))=some v):
  ∃v' w',(Builtin.append_ #[eM,eM] ty #[.slice (some ⟨G,0,none⟩) k cap,.slice (some a) m.length c]).run prog w=.ok v' w'/\LV w G cap (k+m.length) (l.take k++m) v' w':=by
 obtain⟨i,hi,_,hs,_⟩:=info_parts Tryz.yf;obtain⟨rest,hg,rP⟩:=h.ex;have l0:(aQ l++rest).length=cap*2:=by rw[List.length_append,aO];omega
 have jF:=h.room
 have hr:=run_append_room (P:=prog) w eM ty TU i Tryz.underlying23 hi G k cap (aQ l++rest).toArray hg a m.length c (aQ m) (by rw[aO,hs]) (λj v hv=>by
  have hj:j<m.length*2:=by rw[<-aO];exact(List.getElem?_eq_some_iff.1 hv).1
  have hd:j / 2<m.length:=by omega
  have e:j / 2*2+j % 2=j:=by omega
  rw[<-e,gw m (j / 2) (j % 2) hd (by omega)]at hv
  have:=hm (j / 2) hd (j % 2) v hv;rwa[e]at this) (kM m) (by omega) (by rw[hs,aO,List.size_toArray,l0];omega)
 refine⟨_,_,hr,rfl,⟨⟨(aQ l++rest).drop (k*2+(aQ m).length),?_,?_⟩,?_,h.most⟩,av w G _⟩
 ·have:=setRow_heap w G _ (((aQ l++rest).take (k*i.size))++aQ m++(aQ l++rest).drop (k*i.size+(aQ m).length)).toArray TU _ hg
  rw[hs]at this;rw[hs];rw[this];congr 2
  rw[iV,List.take_append_of_le_length (by rw[aO];omega),rm]
 ·rw[List.length_drop,l0,aO,List.length_append,List.length_take];omega
 rw[List.length_append,List.length_take];omega
theorem tU{w:World}{G cap:Nat}{l:List Tu}(h:iF w G cap l)(ty:TypeId)(n c:Nat)(h0:0<n)(hn:l.length+n<=cap):
  ∃w',(Builtin.clear_ #[eM] ty #[.slice (some ⟨G,l.length*2,none⟩) n c]).run prog w=.ok (.tuple #[]) w'/\iF w' G cap l/\Fp (λj=>j=G) w w':=by
 obtain⟨rest,hg,rP⟩:=h.ex;have l0:(aQ l++rest).length=cap*2:=by rw[List.length_append,aO];omega
 obtain⟨zs,hz,hr⟩:=pt w ty G (l.length*2) n c (aQ l++rest) hg (by rw[l0];omega) h0
 refine⟨_,hr,⟨⟨zs++(aQ l++rest).drop (l.length*2+n*2),?_,?_⟩,h.room,h.most⟩,av w G _⟩
 ·rw[setRow_heap w G _ _ TU _ hg]
  congr 2
  rw[<-aO l,List.take_left,List.append_assoc]
 rw[List.length_append,List.length_drop,hz,l0];omega
theorem Eg{w:World}{G cap:Nat}{l:List Tu}(h:iF w G cap l)(k:Nat)(hk:k<l.length)(hl:l.length<=4000):
  Calls prog 277 #[.slice (some ⟨G,0,none⟩) l.length cap,.int .i64 (k:Int),.int .i64 ((k:Int)+1)] w λe w'=>e=.returned (.slice (some ⟨G,0,none⟩) (l.length-1) cap)/\iF w' G cap (l.eraseIdx k)/\Fp (λj=>j=G) w w':=by
 have hm:=h.most;have pP:=h.room;unfold maxLen at hm;obtain⟨n,hn⟩:∃n,n=l.length:=⟨_,rfl⟩;have PO:iF w.drew G cap l:=h.keep ((Fp.refl ab w).drew) id;have he:l.take k++l.drop (k+1)=l.eraseIdx k:=(List.eraseIdx_eq_take_drop_succ ..).symm;obtain⟨a,ha⟩:∃a:Addr,a=(if cap=k+1 then ⟨G,0,none⟩ else ⟨G,(k+1)*2,none⟩):=⟨_,rfl⟩
 have bM:∀ty c,∃v' w',(Builtin.append_ #[eM,eM] ty #[.slice (some ⟨G,0,none⟩) k cap,.slice (some a) (n-(k+1)) c]).run prog w.drew=.ok v' w'/\LV w.drew G cap (n-1) (l.eraseIdx k) v' w':=λty c=>by
  have:=LW (m:=l.drop (k+1)) PO k ty a c (by rw[List.length_drop];omega) (λi hi j v hv=>by
   rw[List.length_drop]at hi;rw[ha,if_neg (by omega)]
   exact PO.src (k+1) i (by rw[List.length_drop];omega) j v hv)
  rw[he,List.length_drop,<-hn,show k+(n-(k+1))=n-1 from by omega]at this
  exact this
 have nJ:(l.eraseIdx k).length=n-1:=by rw[List.length_eraseIdx,if_pos hk,hn]
 have q1:((k:Int) == (k:Int)+1)=false:=beq_eq_false_iff_ne.2 (by omega)
 have eJ:k<n:=by omega
 have AD:n<=4000:=by omega
 have me:n<=cap:=by omega
 have r1:(k<=cap)=True:=eq_true (by omega)
 have r2:((k:Int)<=(cap:Int))=True:=eq_true (by omega)
 have r3:((0:Int)<=(k:Int)+1)=True:=eq_true (by omega)
 have r4:((k:Int)+1<=(n:Int))=True:=eq_true (by omega)
 have r5:((k:Int)+1).toNat=k+1:=by omega
 have r7:(n-1<=n)=True:=eq_true (by omega)
 have r8:(cap=n-1)=False:=eq_false (by omega)
 have KM:(n<=cap)=True:=eq_true me;have r11:(((n-1:Nat):Int)<=(n:Int))=True:=eq_true (by omega)
 have r12:n-(n-1)=1:=by omega
 rw[<-hn];have HX:=Lib.hid (And.intro hn (And.intro nJ (And.intro me eJ)));by_cases hc:cap=k+1
 ·have r6:(cap=k+1)=True:=eq_true hc
  rw[if_pos hc]at ha;subst ha;have HA:=Lib.hid bM;clear bM PO he h hn hk hl pP nJ hc;go_enter func277,ntmps277
  go_wp2_with fail
  go_region_law ((refine step_app rfl _ _ eM eM rfl (.slice (some ⟨G,0,none⟩) k cap) (.slice (some ⟨G,0,none⟩) (n-(k+1)) (cap-(k+1))) (by simp[Act.eval,Act.put]) (by simp[Act.eval,Act.put]) (LV w.drew G cap (n-1) (l.eraseIdx k)) (HA _ _) ?_;intro v4 w4 gu))
  obtain rfl:=gu.v;have dN:=tU gu.row 0 1 (cap-(n-1)) (by omega) (by have:=HX.out;omega)
  rw[HX.2.1]at dN;have oX:=Lib.hid dN;have HF:=Lib.hid (((Fp.refl ab w).drew.any (S:=λj=>j=G)).same gu.fp)
  clear gu dN;go_wp2_with fail
  obtain⟨w5,hr,ba,rL⟩:=oX.out;rw[hr];simp only[Result.andThen]
  rw[Oper.upon_value];have HR:=Lib.hid (And.intro ba (HF.same rL));clear hr ba rL;go_wp2;go_ret;exact⟨rfl,HR.1,HR.2⟩
 have r6:(cap=k+1)=False:=eq_false hc;rw[if_neg hc]at ha;subst ha;have HA:=Lib.hid bM;clear bM PO he h hn hk hl pP nJ hc;go_enter func277,ntmps277
 go_wp2_with fail
 go_region_law ((refine step_app rfl _ _ eM eM rfl (.slice (some ⟨G,0,none⟩) k cap) (.slice (some ⟨G,(k+1)*2,none⟩) (n-(k+1)) (cap-(k+1))) (by simp[Act.eval,Act.put]) (by simp[Act.eval,Act.put]) (LV w.drew G cap (n-1) (l.eraseIdx k)) (HA _ _) ?_;intro v4 w4 gu))
 obtain rfl:=gu.v;have dN:=tU gu.row 0 1 (cap-(n-1)) (by omega) (by have:=HX.out;omega)
 rw[HX.2.1]at dN;have oX:=Lib.hid dN;have HF:=Lib.hid (((Fp.refl ab w).drew.any (S:=λj=>j=G)).same gu.fp)
 clear gu dN;go_wp2_with fail
 obtain⟨w5,hr,ba,rL⟩:=oX.out;rw[hr];simp only[Result.andThen]
 rw[Oper.upon_value];have HR:=Lib.hid (And.intro ba (HF.same rL));clear hr ba rL;go_wp2;go_ret;exact⟨rfl,HR.1,HR.2⟩
end Go.Proofs.YtgafcelloiagmaaGreatDoor
