/- A text of this proof. -/
import Derived.Lib.AppendZerosOnto
import Derived.Lib.Overlaps
import Derived.Test.YtgafcelloiagmaaGreatDoorZCF
set_option maxHeartbeats 16000000
set_option linter.unusedSimpArgs false
set_option linter.unusedVariables false
set_option maxRecDepth 20000
namespace Go.Proofs.YtgafcelloiagmaaGreatDoor
open Go.Proofs.Tryz
namespace Pm
open Go.Proofs.Tryz
def tn(t:Tu):Nd:=⟨t.dir,[],0,t.next,0⟩
theorem IC{a b:Tu}(h:tn a=tn b):a=b:=by
 obtain⟨_,_⟩:=a;obtain⟨_,_⟩:=b;unfold tn at h;injection h with h1 _ _ h2 _;subst h1 h2;rfl
theorem iU{l:List Tu}:jO l↔fw (l.map tn):=by
 constructor
 ·intro h i j hi hj jR
  simp only[List.length_map]at hi hj
  simp only[List.getElem_map]
  exact h i j hi hj jR
 intro h i j hi hj jR;have:=h i j (by simpa using hi) (by simpa using hj) jR
 simp only[List.getElem_map]at this
 exact this
theorem vz(l:List Tu)(p:Bs):find (l.map tn) p=(eH l p).map tn:=by
 unfold find eH;rw[List.find?_map];rfl
theorem mU(l:List Tu)(p:Bs):place (l.map tn) p=cj l p:=by
 unfold place cj;rw[List.countP_map];rfl
theorem ID(l:List Tu)(k:Nat)(x:Tu):(fj l k x).map tn=ins (l.map tn) k (tn x):=by
 unfold fj ins;rw[List.map_append,List.map_cons,List.map_take,List.map_drop]
theorem yc:∀(l:List Tu) (k:Nat),(l.eraseIdx k).map tn=(l.map tn).eraseIdx k
 |[],k=>by simp
 |a::l,0=>rfl
 |a::l,k+1=>by rw[List.eraseIdx_cons_succ,List.map_cons,List.map_cons,List.eraseIdx_cons_succ,yc l k]
theorem ra:∀{a b:List Tu},a.map tn=b.map tn->a=b
 |[],[],_=>rfl
 |[],_::_,h=>by cases h
 |_::_,[],h=>by cases h
 |x::a,y::b,h=>by
  rw[List.map_cons,List.map_cons]at h;injection h with h1 h2
  rw[IC h1,ra h2]
theorem rf{l:List Tu}{p:Bs}:eH l p=none↔∀t∈l,t.dir≠p:=by
 unfold eH;rw[List.find?_eq_none];simp
theorem D1{l:List Tu}{p:Bs}{t:Tu}(h:eH l p=some t):t∈l/\t.dir=p:=by
 unfold eH at h;exact⟨List.mem_of_find?_eq_some h,by simpa using List.find?_some h⟩
theorem P1{l:List Tu}(h:jO l){p:Bs}{t:Tu}(ht:eH l p=some t):l.eraseIdx (cj l p)=l.filter (λt=>t.dir != p):=by
 have hA:=iU.1 h;have hf:find (l.map tn) p=some (tn t):=by rw[vz,ht];rfl
 have e:=jd hA hf;rw[mU,<-yc,List.filter_map]at e;exact(ra e)
theorem ye{l:List Tu}(h:jO l)(q:Tu->Bool):jO (l.filter q):=by
 have:l.Pairwise (λa b=>lt a.dir b.dir=true):=by rw[List.pairwise_iff_getElem];exact h
 have h2:=this.filter q;rw[List.pairwise_iff_getElem]at h2;exact h2
theorem sM{l:List Tu}(p:Bs):cj (l.filter (λt=>t.dir != p)) p=cj l p:=by
 unfold cj;rw[List.countP_filter];apply List.countP_congr
 intro t _;simp only[Bool.and_eq_true,bne_iff_ne]
 constructor
 ·exact λk=>k.1
 exact λk=>⟨k,gY k⟩
theorem IE{l:List Tu}(h:jO l){p:Bs}(n:Int)(hn:eH l p=none):jO (fj l (cj l p) ⟨p,n⟩):=by
 rw[iU,ID,<-mU];exact(iU.1 h).ins (tn ⟨p,n⟩) (by rw[show(tn ⟨p,n⟩).path=p from rfl,vz,hn];rfl)
theorem IF{l:List Tu}{k:Nat}{x y:Tu}(h:y∈fj l k x):y=x\/y∈l:=by
 unfold fj at h;rw[List.mem_append,List.mem_cons]at h;rcases h with h|h|h
 ·exact .inr (List.mem_of_mem_take h)
 ·exact .inl h
 exact .inr (List.mem_of_mem_drop h)
theorem LS{l:List Tu}(h:jO l)(p:Bs)(n:Int):lL l p n=if n≠0 then fj (l.filter (λt=>t.dir != p)) (cj (l.filter (λt=>t.dir != p)) p) ⟨p,n⟩ else l.filter (λt=>t.dir != p):=by
 unfold lL;rw[sM];cases hf:eH l p with
 |some t=>simp only[Option.isSome_some,if_true];rw[P1 h hf]
 |none=>?_
 have:l.filter (λt=>t.dir != p)=l:=by rw[List.filter_eq_self];intro t ht;simpa using rf.1 hf t ht
 simp only[Option.isSome_none,Bool.false_eq_true,if_false];rw[this]
theorem rh{l:List Tu}(h:jO l)(hf:∀t∈l,fe t=true){p:Bs}{n:Int}(hp:(split p).isSome=true)(h0:0<=n)(h1:n<=10000):
  jO (lL l p n)/\∀t∈lL l p n,fe t=true:=by
 rw[LS h];have hA:=ye h (λt=>t.dir != p)
 have hn:eH (l.filter (λt=>t.dir != p)) p=none:=by
  rw[rf];intro t ht;have:=(List.mem_filter.1 ht).2;simpa using this
 split
 ·rename_i bA
  refine⟨IE hA n hn,λt ht=>?_⟩
  rcases IF ht with rfl|ht
  ·unfold fe;simp only[hp,Bool.true_and,decide_eq_true_eq];omega
  exact hf t (List.mem_filter.1 ht).1
 exact⟨hA,λt ht=>hf t (List.mem_filter.1 ht).1⟩
theorem iq{l:List Tu}(hf:∀t∈l,fe t=true)(p:Bs):0<=dt l p/\dt l p<=10000:=by
 unfold dt;cases h:eH l p with
 |none=>simp
 |some t=>?_
 have:=hf t (D1 h).1;unfold fe at this;simp only[Bool.and_eq_true,decide_eq_true_eq]at this
 simp only[Option.map_some,Option.getD_some];omega
theorem gE(n:Nd):sJ n=true↔(split n.path).isSome=true/\n.data.length<=256/\n.turn=0/\¬(n.path=[47]/\n.own≠0)/\0<=n.aX/\n.aX<=281474976710656/\0<=n.own/\n.own<=1099511627776:=by
 unfold sJ;rw[Bool.and_eq_true,decide_eq_true_eq]
theorem bt(x:Pt):cq x=true↔(1<=x.kind/\x.kind<=10)/\(split x.path).isSome=true/\x.dir=bU x.kind x.path/\¬(x.kind=2/\x.path=[47])/\x.data.length<=256/\-1<=x.aX/\x.aX<=281474976710656/\0<=x.own/\x.own<=1099511627776:=by
 unfold cq;simp only[Bool.and_eq_true,decide_eq_true_eq,and_assoc]
end Pm
namespace Pm
open Go.Proofs.Tryz
theorem mP{s:St}{x:Pt}{q:Bs}(hm:cq x=true)(hk:x.kind=2)(h:jh s x=some q):
  (split q).isSome=true/\q≠[47]/\parent q=some x.dir/\(x.turns=true->dt s.turns x.dir<=9999):=by
 obtain⟨_,hp,hd,hr,_⟩:=(bt x).1 hm;have Zd:x.dir=iC x.path:=by rw[hd,hk];rfl
 unfold jh at h;split at h
 ·cases hn:bH (last x.path) (dt s.turns x.dir) with
  |none=>rw[hn]at h;cases h
  |some y=>
   rw[hn]at h;obtain⟨cs,h1,h2,_⟩:=join_some (show join x.dir y=some q from h);exact⟨by rw[h1];rfl,qV h2,h2,λ_=>(sI hn).2⟩
 rename_i ht
 obtain rfl:=Option.some.inj h;have bA:x.path≠[47]:=λe=>hr ⟨hk,e⟩
 refine⟨hp,bA,?_,λk=>absurd k ht⟩
 cases hpp:parent x.path with
 |none=>have:=(oH hpp).1;rw[hp]at this;exact absurd (by simpa using this.symm) bA
 |some u=>rw[Zd];unfold iC;rw[hpp];rfl
theorem dh.put{s:St}(h:dh s){x:Pt}(hm:cq x=true)(hk:x.kind=2):dh (qh s x).1:=by
 obtain⟨_,hp,hd,hr,hl⟩:=(bt x).1 hm;unfold qh;split
 ·exact h
 rename_i q hq
 obtain⟨h1,h2,h3,h4⟩:=mP hm hk hq;split
 ·exact h
 rename_i hf
 have hn:find s.nodes q=none:=by simpa using hf
 have ZM:(split x.dir).isSome=true:=by rw[hd,hk];exact qO _
 have J9:=iq h.fe x.dir
 have hT:jO (if x.turns=true then lL s.turns x.dir (dt s.turns x.dir+1) else s.turns)/\∀t∈(if x.turns=true then lL s.turns x.dir (dt s.turns x.dir+1) else s.turns),Pm.fe t=true:=by
  split
  ·rename_i ht;exact rh h.oU h.fe ZM (by omega) (by have:=h4 ht;omega)
  exact⟨h.oU,h.fe⟩
 refine⟨λn hn'=>?_,?_,hT.2,hT.1⟩
 ·rcases CE.1 hn' with rfl|k
  ·rw[gE];exact⟨h1,hl.1,rfl,λk=>h2 k.1,Int.le_refl 0,(show(0:Int)<=281474976710656 by decide),hl.2.2.2.1,hl.2.2.2.2⟩
  exact h.fit n k
 exact h.kR.ins ⟨q,x.data,0,0,x.own⟩ hn
theorem mem_erase{l:List Nd}{k:Nat}{n:Nd}(h:n∈l.eraseIdx k):n∈l:=List.mem_of_mem_eraseIdx h
theorem dh.b7{s:St}(h:dh s){x:Pt}(hm:cq x=true):dh (Pm.b7 s x).1:=by
 obtain⟨hk,hp,hd,hr,hl⟩:=(bt x).1 hm;unfold Pm.b7;split
 ·rename_i k;exact h.put hm k
 split
 ·split
  ·have:=rh h.oU h.fe hp (Int.le_refl 0) (by decide)
   exact⟨h.fit,h.kR,this.2,this.1⟩
  exact h
 split
 ·exact h
 split
 ·exact⟨λn hn=>h.fit n (List.mem_filter.1 hn).1,h.kR.filter _,h.fe,h.oU⟩
 split
 ·exact h
 rename_i n hf
 split
 ·exact h
 split
 ·split<;>exact h
 split
 ·refine⟨λm hm=>h.fit m (mem_erase hm),?_,h.fe,h.oU⟩
  show fw (s.nodes.eraseIdx (place s.nodes x.path))
  rw[jd h.kR hf];exact h.kR.filter _
 split
 ·split
  ·exact h
  rename_i hv
  obtain⟨EC,e⟩:=ml h.kR hf;have hn:=(gE n).1 (h.fit n (gF hf).1);refine⟨λm hm=>?_,h.kR.set EC _ (by rw[e]),h.fe,h.oU⟩
  rcases List.mem_or_eq_of_mem_set hm with k|rfl
  ·exact h.fit m k
  rw[gE];obtain⟨a1,a2,a3,a4,a5,a6,a7,a8⟩:=hn;exact⟨a1,hl.1,a3,a4,by simp only;omega,by simp only;omega,a7,a8⟩
 split
 ·exact h
 split
 ·exact h
 exact h
end Pm
open Go.RowKit Pm
theorem gO{P:Program}{w:World}{ops:Array Oper}{rest:List Oper}{o:Oper}{a:Act}{Q:Exit->Act->World->Prop}(Aq:o.guard=none)(t:TypeId)(mo x v:Operand)(ho:o.op=.mapUpdate t mo x v)(mv xv vv:Value)(hm:a.eval mo=mv)(hx:a.eval x=xv)(hv:a.eval v=vv)(R:World->Prop)
  (hr:∃w',(Instr.mapUpdate t mv xv vv).run P w=.ok () w'/\R w') (h:∀w',R w'->wpList P ops Q rest (a.put o.dst undef) w'):wpList P ops Q (o::rest) a w:=by
 refine wpList_plain Aq λK hK=>?_
 obtain⟨w',hr,h2⟩:=hr;unfold Oper.wp;simp[execOp,ho,hm,hx,hv,hr,Result.andThen]
 exact hK _ _ (h w' h2)
theorem step_copy{P:Program}{ops:Array Oper}{o:Oper}{a:Act}{w:World}{K:Act->World->Prop}{Q:Exit->Act->World->Prop}{E:Prop}(Aq:o.guard=none)(s x:Operand)(t u:TypeId)
  (ho:o.op=.call { callee:=.builtin .copy,args:=#[s,x],argTypes:=#[t,u] }) (v xv:Value) (hs:a.eval s=v) (hx:a.eval x=xv) (R:Value->World->Prop)
  (hr:∃v' w',(Builtin.copy_ #[t,u] o.type #[v,xv]).run P w=.ok v' w'/\R v' w') (h:∀v' w',R v' w'->K (a.put o.dst v') w'):
  if Region.wanted o (yielded ops a.tmps)=true then Oper.wp P o a w K Q else E:=by
 have hw:Region.wanted o (yielded ops a.tmps)=true:=by simp[Region.wanted,Aq]
 rw[if_pos hw];obtain⟨v',w',hr,h2⟩:=hr;unfold Oper.wp execOp;simp only[ho,resolve,invoke,builtin,Sem.run_bind,Sem.run_pure,Result.andThen_ok,List.map_toArray,List.map_cons,List.map_nil,hs,hx,hr]
 exact h v' w' h2
structure D2(G cap:Nat)(cur:List Value)(w w':World):Prop where
 hp:w'.heap[G]?=some (.cells cur.toArray TN (0,0))
 len:cur.length=cap*5
 fp:Fp (λk=>k=G) w w'
theorem pU{w:World}{G cap:Nat}{cur:List Value}(hg:w.heap[G]?=some (.cells cur.toArray TN (0,0)))(hl:cur.length=cap*5)(ty:TypeId)(o fy jt:Nat)(a:Addr)(fA ju:Nat)(l:List Nd)(hm:l.length=Nat.min fA fy)
  (lZ:∀i (h:i<l.length) j v,(oV l[i])[j]?=some v->w.cell? (a.add (i*5+j))=some v) (fX:o+l.length*5<=cap*5):
  ∃v' w',(Builtin.copy_ #[TL,TL] ty #[.slice (some ⟨G,o,none⟩) fy jt,.slice (some a) fA ju]).run prog w=.ok v' w'/\D2 G cap (cur.take o++rows l++cur.drop (o+l.length*5)) w w':=by
 have h:=qX w ty G o fy jt a fA ju cur l.length (rows l) hg hm (be l) (λj v hv=>by
  have hj:j<l.length*5:=by rw[<-be];exact(List.getElem?_eq_some_iff.1 hv).1
  have hd:j / 5<l.length:=by omega
  have e:j / 5*5+j % 5=j:=by omega
  rw[<-e,kx l (j / 5) (j % 5) hd (by omega)]at hv
  have:=lZ (j / 5) hd (j % 5) v hv;rwa[e]at this) (by rw[be,hl];exact fX) (qW l)
 rw[be]at h;refine⟨_,_,h,setRow_heap w G _ _ TN _ hg,?_,av w G _⟩;simp only[List.length_append,List.length_take,List.length_drop,be,hl]
 omega
theorem Nr.src{w:World}{G cap:Nat}{l:List Nd}(h:Nr w G cap l)(k:Nat):∀i (hi:i<(l.drop k).length) j v,(oV (l.drop k)[i])[j]?=some v->w.cell? ((⟨G,k*5,none⟩:Addr).add (i*5+j))=some v:=by
 intro i hi j v hv;rw[List.length_drop]at hi;rw[List.getElem_drop]at hv;have hj:j<5:=by have:=(List.getElem?_eq_some_iff.1 hv).1;simpa[oV]using this
 rw[Addr.add_lit,show k*5+(i*5+j)=(k+i)*5+j from by omega,h.cell (k+i) j (by omega) hj,hv]
theorem D9(l:List Nd)(k:Nat)(hk:k<=l.length)(x:Nd)(cur:List Value)(h1:cur.take (k*5)=rows (l.take k))(h2:(l.length+1)*5<=cur.length):
  ∃rest,((cur.take ((k+1)*5)++rows (l.drop k)++cur.drop ((k+1)*5+(l.drop k).length*5)).take (k*5)++rows [x]++(cur.take ((k+1)*5)++rows (l.drop k)++cur.drop ((k+1)*5+(l.drop k).length*5)).drop (k*5+[x].length*5))=rows (ins l k x)++rest/\
   (l.length+1)*5+rest.length=cur.length:=by
 refine⟨cur.drop ((k+1)*5+(l.drop k).length*5),?_,?_⟩
 ·have e1:(cur.take ((k+1)*5)).length=(k+1)*5:=by rw[List.length_take];omega
  have e2:(cur.take ((k+1)*5)++rows (l.drop k)++cur.drop ((k+1)*5+(l.drop k).length*5)).take (k*5)=rows (l.take k):=by
   rw[List.append_assoc,List.take_append_of_le_length (by rw[e1];omega),List.take_take,Nat.min_eq_left (by omega),h1]
  have e3:(cur.take ((k+1)*5)++rows (l.drop k)++cur.drop ((k+1)*5+(l.drop k).length*5)).drop (k*5+[x].length*5)=rows (l.drop k)++cur.drop ((k+1)*5+(l.drop k).length*5):=by
   rw[List.append_assoc,List.drop_append,List.drop_of_length_le (by rw[e1];simp;omega),e1,show k*5+[x].length*5-(k+1)*5=0 from by simp;omega]
   rfl
  rw[e2,e3,ins,ku];simp[rows,List.append_assoc]
 simp only[List.length_drop];omega
theorem A5{w:World}{G cap X:Nat}{l:List Nd}{x:Nd}(h:Nr w G cap l)(k:Nat)(hk:k<l.length)(jF:l.length+1<=cap)(hX:dM w X 0 x)(bA:X≠G)(hl:l.length<=4000)(nT:w.heap[X]?=some (.cells (oV x).toArray TN (0,0))):
  Calls prog 218 #[.slice (some ⟨G,0,none⟩) l.length cap,.int .i64 (k:Int),.slice (some ⟨X,0,none⟩) 1 1] w λe w'=>e=.returned (.slice (some ⟨G,0,none⟩) (l.length+1) cap)/\Nr w' G cap (ins l k x)/\Fp (λj=>j=G) w w':=by
 have hm:=h.most;unfold maxLen at hm;obtain⟨n,hn⟩:∃n,n=l.length:=⟨_,rfl⟩;have q1:((k:Int) == (n:Int))=false:=beq_eq_false_iff_ne.2 (by omega)
 have q2:((cap:Int)<(n:Int)+1)=False:=eq_false (by omega)
 have eJ:k<n:=by omega
 have AD:n<=4000:=by omega
 have me:n+1<=cap:=by omega
 have wk:IntKind.i64.wrap ((k:Int)+1)=((k+1:Nat):Int):=by rw[IntKind.wrap_i64];omega
 have r1:(cap=k+1)=False:=eq_false (by omega)
 have r2:(cap=k)=False:=eq_false (by omega)
 have r3:(((k+1:Nat):Int)<=(n:Int)+1)=True:=eq_true (by omega)
 have r4:(k<=n)=True:=eq_true (by omega)
 have r5:((0:Int)<=((k+1:Nat):Int))=True:=eq_true (by omega)
 have r7:((k:Int)<=(n:Int)+1)=True:=eq_true (by omega)
 have r6:((0:Int)<=(k:Int)+1)=True:=eq_true (by omega)
 have e5:n+1-(k+1)=n-k:=by omega
 obtain⟨rest,Ea,rP⟩:=h.ex;have hd:Nr w.drew G cap l:=h.keep ((Fp.refl ab w).drew) id;have l0:(rows l++rest).length=cap*5:=by rw[List.length_append,be];omega
 have eN:∀ty,∃v' w',(Builtin.copy_ #[TL,TL] ty #[.slice (some ⟨G,(k+1)*5,none⟩) (n-k) (cap-(k+1)),.slice (some ⟨G,k*5,none⟩) (n+1-k) (cap-k)]).run prog w.drew=.ok v' w'/\D2 G cap ((rows l++rest).take ((k+1)*5)++rows (l.drop k)++(rows l++rest).drop ((k+1)*5+(l.drop k).length*5)) w.drew w':=λty=>
  pU (w:=w.drew) Ea l0 ty ((k+1)*5) (n-k) (cap-(k+1)) ⟨G,k*5,none⟩ (n+1-k) (cap-k) (l.drop k) (by rw[List.length_drop,<-hn];simp only[Nat.min_def];split<;>omega) (hd.src k) (by rw[List.length_drop];omega)
 have A8:=Lib.hid eN;have HX:=Lib.hid (And.intro hX bA);have IG:=Lib.hid (And.intro (show(rows l++rest).take (k*5)=rows (l.take k) by rw[List.take_append_of_le_length (by rw[be];omega),DV]) (show(l.length+1)*5<=(rows l++rest).length by rw[l0];omega))
 have IH:=Lib.hid (And.intro l0 h.most)
 have P2:∀o lb cb,(callFunc 274 #[.slice (some ⟨X,0,none⟩) 1 1,.slice (some ⟨G,o,none⟩) lb cb]).run prog w=.ok (.value (.bool false)) w:=λo lb cb=>by
  obtain⟨r,hg,hr⟩:=h.ex
  rw[run_callFunc_extern func274 (by kernel_rfl) (by kernel_rfl) (by kernel_rfl) (e:=Extern.SlicesOverlaps.overlaps #[TL,TL] #[4]) (by kernel_rfl),
   Lib.run_overlaps_apart w TL 4 TN Tryz.underlying22 5 szN ⟨X,0,none⟩ ⟨G,o,none⟩ 1 1 lb cb bA TN TN 5 (cap*5) (by simp[World.shape?,nT,oV]) (by simp[World.shape?,hg,be];omega) (by omega) (by simp[World.frozen?,nT]) (by simp[World.frozen?,nT])]
  rfl
 rw[<-hn];have HN:=Lib.hid hn;clear hn;go_enter func218,ntmps218
 clear h hX nT eN hd l0 Ea rP;go_wp2_with (simp only[P2])
 go_region_law ((refine step_copy rfl _ _ TL TL rfl (.slice (some ⟨G,(k+1)*5,none⟩) (n-k) (cap-(k+1))) (.slice (some ⟨G,k*5,none⟩) (n+1-k) (cap-k)) (by simp[Act.eval,Act.put]) (by simp[Act.eval,Act.put]) (λ_ w'=>D2 G cap _ w.drew w') (A8 _) ?_;intro v1 w1 rk))
 have rl:dM w1 X 0 x:=(HX.1.keep ((Fp.refl ab w).drew) id).keep rk.fp HX.2
 have fG:=λty=>pU rk.hp rk.len ty (k*5) (n+1-k) (cap-k) ⟨X,0,none⟩ 1 1 [x] (by simp only[Nat.min_def,List.length_cons,List.length_nil];split<;>omega) (λi hi j v hv=>by
  have dC:i=0:=by simp at hi;omega
  subst dC;have:=rl.get j v hv;rwa[show 0*5+j=j from by omega]) (by simp;omega)
 have Ba:=Lib.hid fG;have ef:=Lib.hid (((Fp.refl ab w).drew.any (S:=λj=>j=G)).same rk.fp)
 clear rk rl fG;go_wp2_with fail
 obtain⟨v2,w2,hr,cN⟩:=Ba.out 3;rw[hr];simp only[Result.andThen]
 rw[Oper.upon_value];clear hr;obtain⟨gP,he,lu⟩:=D9 l k (by have:=HN.out;omega) x (rows l++rest) IG.1 IG.2
 have ba:Nr w2 G cap (ins l k x):=by
  refine⟨⟨gP,?_,?_⟩,?_,IH.2⟩
  ·have:=cN.hp;rw[he]at this;exact this
  ·rw[dX];have:=IH.1;omega
  rw[dX];have:=HN.out;omega
 have HR:=Lib.hid (And.intro ba (ef.same cN.fp));clear cN he lu ba;go_wp2;go_ret;exact⟨rfl,HR.1,HR.2⟩
abbrev TU:TypeId:=105
abbrev eM:TypeId:=23
theorem fM(l:List Tu)(k:Nat)(x:Tu):(fj l k x).length=l.length+1:=by
 have:=congrArg List.length (ID l k x);rw[List.length_map,dX,List.length_map]at this;exact this
theorem Eb{l:List Tu}{p:Bs}{k:Nat}(hk:k<=l.length)(h1:∀i (h:i<l.length),i<k->lt l[i].dir p=true)(h2:∀i (h:i<l.length),k<=i->lt l[i].dir p=false):cj l p=k:=by
 rw[<-mU];exact xW (by simpa using hk) (λi h hi=>by rw[List.getElem_map];exact h1 i (by simpa using h) hi) (λi h hi=>by rw[List.getElem_map];exact h2 i (by simpa using h) hi)
theorem kz{l:List Tu}(ha:jO l)(p:Bs):eH l p=if h:cj l p<l.length then (if (l[cj l p]).dir=p then some l[cj l p] else none) else none:=by
 have h:=lY (iU.1 ha) p;rw[vz]at h
 have inj:∀{a b:Option Tu},a.map tn=b.map tn->a=b:=λ{a b} e=>by
  cases a<;>cases b<;>first|rfl|(cases e;done)|(exact congrArg some (IC (Option.some.inj e)))
 apply inj
 rw[h];have hp:=mU l p;by_cases hl:cj l p<l.length
 ·rw[dif_pos hl,dif_pos (by rw[hp,List.length_map];exact hl)]
  have e:(l.map tn)[place (l.map tn) p]'(by rw[hp,List.length_map];exact hl)=tn l[cj l p]:=by
   simp only[hp,List.getElem_map]
  rw[e];show(if (l[cj l p]).dir=p then some (tn l[cj l p]) else none)=_
  split<;>rfl
 rw[dif_neg hl,dif_neg (by rw[hp,List.length_map];exact hl)];rfl
def wb(n:Tu):List Value:=[au n.dir,.int .i64 n.next]
def Wv(n:Tu):Value:=.agg #[au n.dir,.int .i64 n.next]
def aQ(l:List Tu):List Value:=l.flatMap wb
theorem kL(n:Tu):(wb n).length=2:=rfl
theorem jv(n:Tu)(l:List Tu):aQ (n::l)=wb n++aQ l:=by simp[aQ]
theorem iV(a b:List Tu):aQ (a++b)=aQ a++aQ b:=by simp[aQ]
theorem aO(l:List Tu):(aQ l).length=l.length*2:=by
 induction l with
 |nil=>rfl
 |cons n l ih=>rw[jv,List.length_append,kL,ih,List.length_cons];omega
theorem gw(l:List Tu)(i j:Nat)(hi:i<l.length)(hj:j<2):(aQ l)[i*2+j]?=(wb l[i])[j]?:=by
 induction l generalizing i with
 |nil=>simp at hi
 |cons n l ih=>
  rw[jv];cases i with
  |zero=>rw[List.getElem?_append_left (by rw[kL];omega)];simp
  |succ i=>?_
  rw[List.getElem?_append_right (by rw[kL];omega),kL,show(i+1)*2+j-2=i*2+j from by omega,ih i (by simpa using hi)]
  simp
theorem kM(l:List Tu):∀u∈aQ l,u.oneCell'=true:=by
 intro u hu;unfold aQ at hu;rw[List.mem_flatMap]at hu;obtain⟨n,_,hu⟩:=hu;simp only[wb,List.mem_cons,List.not_mem_nil,or_false]at hu
 rcases hu with rfl|rfl<;>rfl
theorem rm(l:List Tu)(k:Nat):(aQ l).take (k*2)=aQ (l.take k):=by
 induction l generalizing k with
 |nil=>simp[aQ]
 |cons n l ih=>
  cases k with
  |zero=>simp[aQ]
  |succ k=>rw[List.take_succ_cons,jv,jv,<-ih,List.take_append,kL,List.take_of_length_le (by rw[kL];omega),show(k+1)*2-2=k*2 from by omega]
structure jL(w:World)(g o:Nat)(n:Tu):Prop where
 c0:w.cell? ⟨g,o,none⟩=some (au n.dir)
 c1:w.cell? ⟨g,o+1,none⟩=some (.int .i64 n.next)
theorem jL.keep{w w':World}{g o:Nat}{n:Tu}(h:jL w g o n){S:Nat->Prop}(f:Fp S w w')(hS:¬S g):jL w' g o n:=
 ⟨f.cell h.c0 hS,f.cell h.c1 hS⟩
theorem jL.get{w:World}{g o:Nat}{n:Tu}(h:jL w g o n):∀j v,(wb n)[j]?=some v->w.cell? ((⟨g,o,none⟩:Addr).add j)=some v:=by
 intro j v hv;rw[Addr.add_lit];match j,hv with
 |0,hv=>rw[<-Option.some.inj hv];exact h.c0
 |1,hv=>rw[<-Option.some.inj hv];exact h.c1
 |j+2,hv=>simp[wb]at hv
structure Ts(w:World)(v:Value)(l:List Tu):Prop where
 ex:∃ao cap,v=.slice ao l.length cap/\l.length<=cap/\cap<=maxLen/\(l=[]\/∃g o,ao=some ⟨g,o,none⟩/\g<w.heap.size/\∀i (h:i<l.length),jL w g (o+i*2) l[i])
theorem Ts.keep{w w':World}{v:Value}{l:List Tu}(h:Ts w v l){S:Nat->Prop}(f:Fp S w w')(hS:∀k,v.ownBlock=some k->¬S k):Ts w' v l:=by
 obtain⟨ao,cap,rfl,h1,h2,h3⟩:=h.ex;refine⟨ao,cap,rfl,h1,h2,?_⟩;rcases h3 with h3|⟨g,o,rfl,hg,hc⟩
 ·exact .inl h3
 exact .inr ⟨g,o,rfl,Nat.lt_of_lt_of_le hg f.size,λi hi=>(hc i hi).keep f (hS g rfl)⟩
theorem Ts.af{w w':World}{v:Value}{l:List Tu}(h:Ts w v l)(f:Fp ab w w'):Ts w' v l:=h.keep f (λ_ _ h=>h)
theorem Ts.nil(w:World):Ts w (.slice none 0 0) []:=⟨none,0,rfl,Nat.le_refl _,Nat.zero_le _,.inl rfl⟩
theorem Ts.shape{w:World}{v:Value}{l:List Tu}(h:Ts w v l):∃ao cap,v=.slice ao l.length cap:=by
 obtain⟨ao,cap,rfl,_⟩:=h.ex;exact⟨ao,cap,rfl⟩
theorem Ts.at{w:World}{v:Value}{l:List Tu}(h:Ts w v l)(h0:0<l.length):∃g o cap,v=.slice (some ⟨g,o,none⟩) l.length cap/\l.length<=cap/\cap<=maxLen/\g<w.heap.size/\∀i (h:i<l.length),jL w g (o+i*2) l[i]:=by
 obtain⟨ao,cap,rfl,h1,h2,h3⟩:=h.ex;rcases h3 with h3|⟨g,o,rfl,hg,hc⟩
 ·subst h3;simp at h0
 exact⟨g,o,cap,rfl,h1,h2,hg,hc⟩
structure iF(w:World)(g cap:Nat)(l:List Tu):Prop where
 ex:∃rest,w.heap[g]?=some (.cells (aQ l++rest).toArray TU (0,0))/\l.length*2+rest.length=cap*2
 room:l.length<=cap
 most:cap<=maxLen
theorem iF.lt{w:World}{g cap:Nat}{l:List Tu}(h:iF w g cap l):g<w.heap.size:=by
 obtain⟨r,h,_⟩:=h.ex;exact(Array.getElem?_eq_some_iff.1 h).1
theorem iF.keep{w w':World}{g cap:Nat}{l:List Tu}(h:iF w g cap l){S:Nat->Prop}(f:Fp S w w')(hS:¬S g):iF w' g cap l:=by
 obtain⟨r,h1,h2⟩:=h.ex;exact⟨⟨r,f.heap h1 hS,h2⟩,h.room,h.most⟩
theorem iF.cell{w:World}{g cap:Nat}{l:List Tu}(h:iF w g cap l)(i j:Nat)(hi:i<l.length)(hj:j<2):w.cell? ⟨g,i*2+j,none⟩=(wb l[i])[j]?:=by
 obtain⟨r,h1,_⟩:=h.ex;rw[cell_of_row w g _ _ TU (0,0) h1];simp only[List.getElem?_toArray]
 rw[List.getElem?_append_left (by rw[aO];omega),gw l i j hi hj]
theorem iF.nd{w:World}{g cap:Nat}{l:List Tu}(h:iF w g cap l)(i:Nat)(hi:i<l.length):jL w g (0+i*2) l[i]:=by
 rw[Nat.zero_add];exact⟨h.cell i 0 hi (by omega),h.cell i 1 hi (by omega)⟩
theorem iF.ns{w:World}{g cap:Nat}{l:List Tu}(h:iF w g cap l):Ts w (.slice (some ⟨g,0,none⟩) l.length cap) l:=
 ⟨_,cap,rfl,h.room,h.most,.inr ⟨g,0,rfl,h.lt,h.nd⟩⟩
theorem iF.frozen{w:World}{g cap:Nat}{l:List Tu}(h:iF w g cap l)(o:Nat):w.frozen? ⟨g,o,none⟩=false:=by
 obtain⟨r,h1,_⟩:=h.ex;simp[World.frozen?,h1]
theorem iF.owns{w:World}{g cap:Nat}{l:List Tu}(h:iF w g cap l){lo:Nat}(bq:lo<=g):w.ownsRow lo TU 2 (.slice (some ⟨g,0,none⟩) l.length cap) l.length (aQ l):=by
 obtain⟨r,h1,h2⟩:=h.ex;refine⟨aO l,.inr ⟨g,cap,_,rfl,bq,h1,h.room,h.most,by simp[aO];omega,?_⟩⟩
 simp only
 rw[<-aO l];exact List.take_left
theorem iF.cK{w:World}{lo g cap n:Nat}{l:List Tu}(h:w.ownsRow lo TU 2 (.slice (some ⟨g,0,none⟩) n cap) n (aQ l))(hn:n=l.length):iF w g cap l/\lo<=g:=by
 subst hn;rcases h.2 with⟨h0,_⟩|⟨g',aY,cur,e,hb,hg,h1,h2,h3,h4⟩
 ·cases h0
 injection e with e1 _ e3
 injection e1 with e1
 injection e1 with e1
 subst e1 e3;refine⟨⟨⟨cur.toList.drop (l.length*2),?_,?_⟩,h1,h2⟩,hb⟩
 ·rw[<-h4,List.take_append_drop];exact hg
 have e:cur.toList.length=cap*2:=by rw[Array.length_toList,h3]
 rw[List.length_drop,e];omega
theorem Tryz.yf:(prog.info? TU).map (λi=>(i.zero,i.size,i.bytes))=some (some (.agg #[.string ⟨#[]⟩,.int .i64 0]),2,24):=by kernel_rfl
theorem szU(w:World):(sizeOf TU).run prog w=.ok 2 w:=by
 obtain⟨i,hi,_,hs,_⟩:=info_parts Tryz.yf;simp[sizeOf,typeInfo,hi,hs]
theorem rr(w:World)(ty:TypeId)(g o fy jt:Nat)(a:Addr)(fA ju:Nat)(cur:List Value)(m:Nat)(cs:List Value)(hg:w.heap[g]?=some (.cells cur.toArray TU (0,0)))(hm:m=Nat.min fA fy)(hn:cs.length=m*2)
  (lZ:∀j v,cs[j]?=some v->w.cell? (a.add j)=some v) (fX:o+cs.length<=cur.length) (h1:∀v∈cs,v.oneCell'=true):
  (Builtin.copy_ #[eM,eM] ty #[.slice (some ⟨g,o,none⟩) fy jt,.slice (some a) fA ju]).run prog w=.ok (goInt m) (w.setRow g (cur.take o++cs++cur.drop (o+cs.length)).toArray):=by
 have hl:=run_loadCells_list (P:=prog) w a cs lZ;have aN:=run_storeCells_at prog g o TU cs 0 cur.toArray w hg (by simpa using fX) h1
 rw[hn]at hl;simp[Builtin.copy_,run_underlying Tryz.underlying23,Builtin.lenOf,Builtin.firstCells,<-hm,hl,aN]
theorem pt(w:World)(ty:TypeId)(g o n c:Nat)(cur:List Value)(hg:w.heap[g]?=some (.cells cur.toArray TU (0,0)))(fX:o+n*2<=cur.length)(h0:0<n):
  ∃zs:List Value,zs.length=n*2/\(Builtin.clear_ #[eM] ty #[.slice (some ⟨g,o,none⟩) n c]).run prog w=.ok (.tuple #[]) (w.setRow g (cur.take o++zs++cur.drop (o+n*2)).toArray):=by
 refine⟨(Builtin.zeroCells #[.string ⟨#[]⟩,.int .i64 0] n).toList,by simp[size_zeroCells],?_⟩
 have aN:=run_storeCells_at prog g o TU (Builtin.zeroCells #[.string ⟨#[]⟩,.int .i64 0] n).toList 0 cur.toArray w hg (by simpa[size_zeroCells]using fX) (by
  intro v hv;simp only[Builtin.zeroCells,Array.toList_map,List.mem_map,Array.toList_range]at hv
  obtain⟨i,_,rfl⟩:=hv;have:i % 2<2:=Nat.mod_lt _ (by omega)
  generalize i % 2=k at this;match k,this with
  |0,_=>rfl
  |1,_=>rfl)
 obtain⟨m,rfl⟩:∃m,n=m+1:=⟨n-1,by omega⟩
 simp[size_zeroCells]at aN
 simp[Builtin.clear_,run_underlying Tryz.underlying23,Value.cells,aN]
theorem Ec(w:World)(lo:Nat)(v:Value)(l m:List Tu)(ty:TypeId)(g o n c:Nat)(hv:w.ownsRow lo TU 2 v l.length (aQ l))(hn:n=m.length)(hx:∀i (h:i<m.length),jL w g (o+i*2) m[i])(h6:l.length+m.length<=100000)(bq:lo<=w.heap.size)(h0:0<l.length+m.length):
  ∃G cap w',(Builtin.append_ #[eM,eM] ty #[v,.slice (some ⟨g,o,none⟩) n c]).run prog w=.ok (.slice (some ⟨G,0,none⟩) (l.length+m.length) cap) w'/\iF w' G cap (l++m)/\lo<=G/\w.grownBy w' v.ownBlock/\(v.ownBlock=some G\/w.heap.size<=G):=by
 obtain⟨i,hi,hz,db,qY⟩:=info_parts Tryz.yf;subst hn
 obtain⟨v',w',hr,h4,h5,h7,h8⟩:=run_append_own_at (P:=prog) w lo eM ty TU i _ 2 24 Tryz.underlying23 hi hz db qY rfl (by decide) v l.length (aQ l) hv ⟨g,o,none⟩ m.length c (aQ m) (aO m)
  (λj u hu=>by
   have hj:j<m.length*2:=by rw[<-aO];exact(List.getElem?_eq_some_iff.1 hu).1
   have hd:j / 2<m.length:=by omega
   have e:j / 2*2+j % 2=j:=by omega
   rw[<-e,gw m (j / 2) (j % 2) hd (by omega)]at hu
   have:=(hx (j / 2) hd).get (j % 2) u hu;rw[Addr.add_lit]at this|-;rwa[show o+j / 2*2+j % 2=o+j from by omega]at this)
  (kM m) (by unfold maxLen;omega) (by omega) bq
 have bA:v'≠.slice none 0 0:=λe=>by
  obtain⟨e1,e2⟩:=h7.1 e;subst e1;rcases hv.2 with⟨_,h⟩|⟨_,_,_,h,_⟩
  ·omega
  cases h
 rcases h4.2 with⟨h9,_⟩|⟨G,cap,cur,rfl,hb,hg,r1,r2,r3,r4⟩
 ·exact absurd h9 bA
 rw[<-iV]at h4;obtain⟨uH,AF⟩:=iF.cK h4 (by rw[List.length_append])
 refine⟨G,cap,w',hr,uH,AF,h5,?_⟩;rcases h8 with h8|h8
 ·exact .inl h8.symm
 right;simp[Value.ownBlock]at h8;omega
structure Ed(G cap:Nat)(cur:List Value)(w w':World):Prop where
 hp:w'.heap[G]?=some (.cells cur.toArray TU (0,0))
 len:cur.length=cap*2
 fp:Fp (λk=>k=G) w w'
theorem mV{w:World}{G cap:Nat}{cur:List Value}(hg:w.heap[G]?=some (.cells cur.toArray TU (0,0)))(hl:cur.length=cap*2)(ty:TypeId)(o fy jt:Nat)(a:Addr)(fA ju:Nat)(l:List Tu)(hm:l.length=Nat.min fA fy)
  (lZ:∀i (h:i<l.length) j v,(wb l[i])[j]?=some v->w.cell? (a.add (i*2+j))=some v) (fX:o+l.length*2<=cap*2):
  ∃v' w',(Builtin.copy_ #[eM,eM] ty #[.slice (some ⟨G,o,none⟩) fy jt,.slice (some a) fA ju]).run prog w=.ok v' w'/\Ed G cap (cur.take o++aQ l++cur.drop (o+l.length*2)) w w':=by
 have h:=rr w ty G o fy jt a fA ju cur l.length (aQ l) hg hm (aO l) (λj v hv=>by
  have hj:j<l.length*2:=by rw[<-aO];exact(List.getElem?_eq_some_iff.1 hv).1
  have hd:j / 2<l.length:=by omega
  have e:j / 2*2+j % 2=j:=by omega
  rw[<-e,gw l (j / 2) (j % 2) hd (by omega)]at hv
  have:=lZ (j / 2) hd (j % 2) v hv;rwa[e]at this) (by rw[aO,hl];exact fX) (kM l)
 rw[aO]at h;refine⟨_,_,h,setRow_heap w G _ _ TU _ hg,?_,av w G _⟩;simp only[List.length_append,List.length_take,List.length_drop,aO,hl]
 omega
theorem iF.src{w:World}{G cap:Nat}{l:List Tu}(h:iF w G cap l)(k:Nat):∀i (hi:i<(l.drop k).length) j v,(wb (l.drop k)[i])[j]?=some v->w.cell? ((⟨G,k*2,none⟩:Addr).add (i*2+j))=some v:=by
 intro i hi j v hv;rw[List.length_drop]at hi;rw[List.getElem_drop]at hv;have hj:j<2:=by have:=(List.getElem?_eq_some_iff.1 hv).1;simpa[wb]using this
 rw[Addr.add_lit,show k*2+(i*2+j)=(k+i)*2+j from by omega,h.cell (k+i) j (by omega) hj,hv]
theorem Bb(l:List Tu)(k:Nat)(hk:k<=l.length)(x:Tu)(cur:List Value)(h1:cur.take (k*2)=aQ (l.take k))(h2:(l.length+1)*2<=cur.length):
  ∃rest,((cur.take ((k+1)*2)++aQ (l.drop k)++cur.drop ((k+1)*2+(l.drop k).length*2)).take (k*2)++aQ [x]++(cur.take ((k+1)*2)++aQ (l.drop k)++cur.drop ((k+1)*2+(l.drop k).length*2)).drop (k*2+[x].length*2))=aQ (fj l k x)++rest/\
   (l.length+1)*2+rest.length=cur.length:=by
 refine⟨cur.drop ((k+1)*2+(l.drop k).length*2),?_,?_⟩
 ·have e1:(cur.take ((k+1)*2)).length=(k+1)*2:=by rw[List.length_take];omega
  have e2:(cur.take ((k+1)*2)++aQ (l.drop k)++cur.drop ((k+1)*2+(l.drop k).length*2)).take (k*2)=aQ (l.take k):=by
   rw[List.append_assoc,List.take_append_of_le_length (by rw[e1];omega),List.take_take,Nat.min_eq_left (by omega),h1]
  have e3:(cur.take ((k+1)*2)++aQ (l.drop k)++cur.drop ((k+1)*2+(l.drop k).length*2)).drop (k*2+[x].length*2)=aQ (l.drop k)++cur.drop ((k+1)*2+(l.drop k).length*2):=by
   rw[List.append_assoc,List.drop_append,List.drop_of_length_le (by rw[e1];simp;omega),e1,show k*2+[x].length*2-(k+1)*2=0 from by simp;omega]
   rfl
  rw[e2,e3,fj,iV];simp[aQ,List.append_assoc]
 simp only[List.length_drop];omega
theorem yg{w:World}{G cap X:Nat}{l:List Tu}{x:Tu}(h:iF w G cap l)(k:Nat)(hk:k<l.length)(jF:l.length+1<=cap)(hX:jL w X 0 x)(bA:X≠G)(hl:l.length<=4000)(nT:w.heap[X]?=some (.cells (wb x).toArray TU (0,0))):
  Calls prog 278 #[.slice (some ⟨G,0,none⟩) l.length cap,.int .i64 (k:Int),.slice (some ⟨X,0,none⟩) 1 1] w λe w'=>e=.returned (.slice (some ⟨G,0,none⟩) (l.length+1) cap)/\iF w' G cap (fj l k x)/\Fp (λj=>j=G) w w':=by
 have hm:=h.most;unfold maxLen at hm;obtain⟨n,hn⟩:∃n,n=l.length:=⟨_,rfl⟩;have q1:((k:Int) == (n:Int))=false:=beq_eq_false_iff_ne.2 (by omega)
 have q2:((cap:Int)<(n:Int)+1)=False:=eq_false (by omega)
 have eJ:k<n:=by omega
 have AD:n<=4000:=by omega
 have me:n+1<=cap:=by omega
 have wk:IntKind.i64.wrap ((k:Int)+1)=((k+1:Nat):Int):=by rw[IntKind.wrap_i64];omega
 have r1:(cap=k+1)=False:=eq_false (by omega)
 have r2:(cap=k)=False:=eq_false (by omega)
 have r3:(((k+1:Nat):Int)<=(n:Int)+1)=True:=eq_true (by omega)
 have r4:(k<=n)=True:=eq_true (by omega)
 have r5:((0:Int)<=((k+1:Nat):Int))=True:=eq_true (by omega)
 have r7:((k:Int)<=(n:Int)+1)=True:=eq_true (by omega)
 have r6:((0:Int)<=(k:Int)+1)=True:=eq_true (by omega)
 have e5:n+1-(k+1)=n-k:=by omega
 obtain⟨rest,Ea,rP⟩:=h.ex;have hd:iF w.drew G cap l:=h.keep ((Fp.refl ab w).drew) id;have l0:(aQ l++rest).length=cap*2:=by rw[List.length_append,aO];omega
 have eN:∀ty,∃v' w',(Builtin.copy_ #[eM,eM] ty #[.slice (some ⟨G,(k+1)*2,none⟩) (n-k) (cap-(k+1)),.slice (some ⟨G,k*2,none⟩) (n+1-k) (cap-k)]).run prog w.drew=.ok v' w'/\Ed G cap ((aQ l++rest).take ((k+1)*2)++aQ (l.drop k)++(aQ l++rest).drop ((k+1)*2+(l.drop k).length*2)) w.drew w':=λty=>
  mV (w:=w.drew) Ea l0 ty ((k+1)*2) (n-k) (cap-(k+1)) ⟨G,k*2,none⟩ (n+1-k) (cap-k) (l.drop k) (by rw[List.length_drop,<-hn];simp only[Nat.min_def];split<;>omega) (hd.src k) (by rw[List.length_drop];omega)
 have A8:=Lib.hid eN;have HX:=Lib.hid (And.intro hX bA);have IG:=Lib.hid (And.intro (show(aQ l++rest).take (k*2)=aQ (l.take k) by rw[List.take_append_of_le_length (by rw[aO];omega),rm]) (show(l.length+1)*2<=(aQ l++rest).length by rw[l0];omega))
 have IH:=Lib.hid (And.intro l0 h.most)
 have P2:∀o lb cb,(callFunc 333 #[.slice (some ⟨X,0,none⟩) 1 1,.slice (some ⟨G,o,none⟩) lb cb]).run prog w=.ok (.value (.bool false)) w:=λo lb cb=>by
  obtain⟨r,hg,hr⟩:=h.ex
  rw[run_callFunc_extern func333 (by kernel_rfl) (by kernel_rfl) (by kernel_rfl) (e:=Extern.SlicesOverlaps.overlaps #[eM,eM] #[4]) (by kernel_rfl),
   Lib.run_overlaps_apart w eM 4 TU Tryz.underlying23 2 szU ⟨X,0,none⟩ ⟨G,o,none⟩ 1 1 lb cb bA TU TU 2 (cap*2) (by simp[World.shape?,nT,wb]) (by simp[World.shape?,hg,aO];omega) (by omega) (by simp[World.frozen?,nT]) (by simp[World.frozen?,nT])]
  rfl
 rw[<-hn];have HN:=Lib.hid hn;clear hn;go_enter func278,ntmps278
 clear h hX nT eN hd l0 Ea rP;go_wp2_with (simp only[P2])
 go_region_law ((refine step_copy rfl _ _ eM eM rfl (.slice (some ⟨G,(k+1)*2,none⟩) (n-k) (cap-(k+1))) (.slice (some ⟨G,k*2,none⟩) (n+1-k) (cap-k)) (by simp[Act.eval,Act.put]) (by simp[Act.eval,Act.put]) (λ_ w'=>Ed G cap _ w.drew w') (A8 _) ?_;intro v1 w1 rk))
 have rl:jL w1 X 0 x:=(HX.1.keep ((Fp.refl ab w).drew) id).keep rk.fp HX.2
 have fG:=λty=>mV rk.hp rk.len ty (k*2) (n+1-k) (cap-k) ⟨X,0,none⟩ 1 1 [x] (by simp only[Nat.min_def,List.length_cons,List.length_nil];split<;>omega) (λi hi j v hv=>by
  have dC:i=0:=by simp at hi;omega
  subst dC;have:=rl.get j v hv;rwa[show 0*2+j=j from by omega]) (by simp;omega)
 have Ba:=Lib.hid fG;have ef:=Lib.hid (((Fp.refl ab w).drew.any (S:=λj=>j=G)).same rk.fp)
 clear rk rl fG;go_wp2_with fail
 obtain⟨v2,w2,hr,cN⟩:=Ba.out 3;rw[hr];simp only[Result.andThen]
 rw[Oper.upon_value];clear hr;obtain⟨gP,he,lu⟩:=Bb l k (by have:=HN.out;omega) x (aQ l++rest) IG.1 IG.2
 have ba:iF w2 G cap (fj l k x):=by
  refine⟨⟨gP,?_,?_⟩,?_,IH.2⟩
  ·have:=cN.hp;rw[he]at this;exact this
  ·rw[fM];have:=IH.1;omega
  rw[fM];have:=HN.out;omega
 have HR:=Lib.hid (And.intro ba (ef.same cN.fp));clear cN he lu ba;go_wp2;go_ret;exact⟨rfl,HR.1,HR.2⟩
end Go.Proofs.YtgafcelloiagmaaGreatDoor
