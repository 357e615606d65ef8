/- A text of this proof. -/
import Derived.Test.YtgafcelloiagmaaGreatDoorZCBJ
import Derived.Test.YtgafcelloiagmaaGreatDoorZCBM
import Derived.Test.YtgafcelloiagmaaGreatDoorZCBN
set_option maxHeartbeats 16000000
set_option linter.unusedSimpArgs false
set_option linter.unusedVariables false
set_option maxRecDepth 20000
namespace Go.Proofs.YtgafcelloiagmaaGreatDoor
open Go.Proofs.Tryz
section
open Go.RowKit Pm
structure DA(wc:World)(f:Value)(q:Bs->Bool):Prop where
 ex:∃k fi cap,f=.func (.func k) fi cap/\Enters prog k/\∀s:Bs,∀w1,s.length<=1000000->Fp ab wc w1->
  Calls prog k (fi++#[.string (B s)]++cap) w1 λe w2=>e=.returned (.bool (q s))/\Fp ab w1 w2
theorem DA.later{wc w:World}{f:Value}{q:Bs->Bool}(h:DA wc f q)(g:Fp ab wc w):DA w f q:=by
 obtain⟨k,fi,cap,e,h1,h2⟩:=h.ex;exact⟨k,fi,cap,e,h1,λn w1 hn hf=>h2 n w1 hn (g.then hf)⟩
def G1(l:List Bs)(q:Bs->Bool)(z:Int):Prop:=(z = -1/\∀n∈l,q n=false)\/∃i,z=((i:Nat):Int)/\∃h:i<l.length,q l[i]=true
theorem G1.pos{l:List Bs}{q:Bs->Bool}{z:Int}(h:G1 l q z):decide (0<=z)=l.any q:=by
 rcases h with⟨rfl,h⟩|⟨i,rfl,hi,h⟩
 ·have:l.any q=false:=List.any_eq_false.2 λx hx=>by simp[h x hx]
  rw[this];rfl
 have:l.any q=true:=List.any_eq_true.2 ⟨_,List.getElem_mem hi,h⟩;rw[this];simp
theorem G2(v f:Value)(l:List Bs)(q:Bs->Bool)(w:World)(hv:uC w v l)(hs:Oe l)(hq:DA w f q)(hn:l.length<=1000000):
  Calls prog 171 #[v,f] w λe w'=>(∃z,e=.returned (.int .i64 z)/\G1 l q z)/\Fp ab w w':=by
 obtain⟨ao,cap,rfl⟩:=hv.shape;obtain⟨n,aR⟩:∃n,n=l.length:=⟨_,rfl⟩;obtain⟨kf,fi,fc,rfl,gU,bB⟩:=hq.ex;have HX:=zI (yI aR (yI hv (yI hs bB)));rw[<-aR];have jS:n<=1000000:=by omega
 clear hv hs hn aR hq bB;go_enter func171,ntmps171
 go_wp2_with fail
 go_loopw [8] (λi wr=>∃k:Nat,k<=n/\i=.int .i64 k/\Hid (Fp ab w wr/\∀j (hj:j<l.length),j<k->q l[j]=false)) (λi _=>n-(RowKit.intOf i).toNat)
 case atStart=>exact⟨0,Nat.zero_le _,rfl,Fp.refl _ _,λj _ h=>absurd h (Nat.not_lt_zero j)⟩
 obtain⟨k,hk,rfl,hR⟩:=hrel;rename_i wr _
 by_cases ay:k<n
 ·have aS:k<l.length:=by rw[<-HX.1];exact ay
  obtain⟨g,o,aY,e,aq⟩:=HX.2.1.dI (by omega)
  injection e with e1 e2 e3
  subst e1 e3;have aE:=hR.1.cell (aq k aS) id;have dy:=HX.2.2.2 l[k] wr (HX.2.2.1 _ (List.getElem_mem aS)) hR.1;obtain⟨b,hb⟩:∃b,q l[k]=b:=⟨_,rfl⟩;rw[hb]at dy;have HL:=zI (yI aS ay)
  have gi:b=false->∀j (hj:j<l.length),j<k+1->q l[j]=false:=λh j hj rJ=>by
   rcases Nat.lt_or_eq_of_le (show j<=k by omega) with e|e
   ·exact hR.2 j hj e
   subst e;rw[hb,h]
  have bf:b=true->G1 l q (k:Int):=λh=>.inr ⟨k,rfl,aS,by rw[hb,h]⟩
  have HN:=zI (yI gi bf);clear gi bf hb aq;generalize l[k]=x at *;have q3:((k:Int)<(n:Int))=True:=eq_true (by omega)
  have q4:(k<n)=True:=eq_true ay;have uR:=zI dy;clear dy aS ay;go_wp2_with fail
  rw[gU _ _];go_wp2_with fail
  refine uR.mono ?_;rintro e w2⟨rfl,bY⟩;have HF:=zI (hR.1.then bY);clear bY;cases b with
  |true=>
   have hI:=HN.2 rfl;have HI:=zI hI;clear HN hI;go_wp2;go_ret;exact⟨⟨_,rfl,HI.out⟩,HF.out⟩
  |false=>?_
  have hM:Hid (Fp ab w w2/\∀j (hj:j<l.length),j<k+1->q l[j]=false):=⟨HF.out,HN.1 rfl⟩;have eJ:=HL.2;clear HN;go_wp2;go_roundw
  case rel=>exact⟨k+1,by omega,by go_num,hM⟩
  case measure=>simp[RowKit.intOf];omega
 have cV:k=n:=by omega
 subst cV;have q3:((k:Int)<(k:Int))=False:=eq_false (by omega)
 have hI:G1 l q (-1):=.inl ⟨rfl,λx hx=>by
  obtain⟨i,hi,rfl⟩:=List.getElem_of_mem hx;exact hR.2 i hi (by rw[HX.1];exact hi)⟩
 have HI:=zI hI;clear ay hk hI;go_wp2;go_ret;exact⟨⟨_,rfl,HI.out⟩,hR.1⟩
theorem oD(v f:Value)(l:List Bs)(q:Bs->Bool)(w:World)(hv:uC w v l)(hs:Oe l)(hq:DA w f q)(hn:l.length<=1000000):
  Calls prog 122 #[v,f] w λe w'=>e=.returned (.bool (l.any q))/\Fp ab w w':=by
 have hi:=G2 v f l q w hv hs hq hn;have HI:=zI hi;obtain⟨ao,cap,rfl⟩:=hv.shape;obtain⟨kf,fi,fc,rfl,_,_⟩:=hq.ex;clear hi hv hs hn hq;go_enter func122,ntmps122
 go_wp2_with fail
 refine HI.mono ?_;rintro e w1⟨⟨z,rfl,hz⟩,hf⟩;have hp:=hz.pos;have HF:=zI (yI hp hf);clear hz hf hp;go_wp2;go_ret;exact⟨aB HF.1,HF.2⟩
theorem mg.cell{w:World}{q a x d:Nat}{vn vt vr vh vw vs:Value}{h:bQ}(k:mg w q a x d vn vt vr vh vw vs h)(j:Nat){v:Value}(hv:(xg vn vt vr vh vw vs a x d)[j]?=some v):w.cell? ⟨q,j,none⟩=some v:=by
 rw[cell_of_row _ _ _ _ _ _ k.row];exact hv
structure Jz(T:TypeId)(k:Nat):Prop where
 sz:∀w,(sizeOf T).run prog w=.ok k w
 ag:∀w,(isAgg T).run prog w=.ok true w
theorem VT{T:TypeId}{k:Nat}(h:(prog.info? T).map (·.size)=some k){fs:TypeDesc}(hu:prog.underlying T=some fs)(ha:∀w,(isAgg T).run prog w=.ok true w):Jz T k:=
 ⟨λw=>by
  cases hq:prog.info? T with
  |none=>simp[hq]at h
  |some i=>?_
  have hs:i.size=k:=by simpa[hq]using h
  simp[sizeOf,typeInfo,hq,hs],ha⟩
theorem bw:Jz aT 10:=VT (by kernel_rfl) Tryz.underlying42 (λw=>by unfold isAgg;simp[run_underlying Tryz.underlying42])
theorem Tb:Jz Cc 12:=VT (by kernel_rfl) Tryz.underlying184 (λw=>by unfold isAgg;simp[run_underlying Tryz.underlying184])
theorem Tc:Jz Km 2:=VT (by kernel_rfl) Tryz.underlying193 (λw=>by unfold isAgg;simp[run_underlying Tryz.underlying193])
theorem G3{T:TypeId}{k:Nat}(hT:Jz T k){w:World}{b:Nat}{cs:Array Value}(h:w.heap[b]?=some (.cells cs T (0,0)))(hs:cs.size=k):
  (loadVar T ⟨b,0,none⟩).run prog w=.ok (.agg cs) w:=by
 have hl:=run_loadCells_list (P:=prog) w ⟨b,0,none⟩ cs.toList (λj v hv=>by
  rw[Addr.add_lit,cell_of_row _ _ _ _ _ _ h,Nat.zero_add,<-hv];simp)
 rw[Array.length_toList,hs]at hl;simp only[loadVar,Sem.run_bind,Sem.run_pure,Result.andThen_ok,hT.ag,if_true,hT.sz,hl]
theorem j9{T:TypeId}{k:Nat}(hT:Jz T k){w:World}{b:Nat}{cs:Array Value}(h:w.heap[b]?=some (.cells cs T (0,0)))(hs:cs.size=k):
  (Instr.loadAt T (.pointer (some ⟨b,0,none⟩))).run prog w=.ok (.agg cs) w:=by
 simp only[Instr.loadAt,Instr.sureAddr,Sem.run_bind,Sem.run_pure,Result.andThen_ok,G3 hT h hs]
theorem aA{T:TypeId}{k:Nat}(hT:Jz T k){w:World}{b:Nat}{cur cs:Array Value}(h:w.heap[b]?=some (.cells cur T (0,0)))(hc:cur.size=k)(hs:cs.size=k)(h1:∀u∈cs.toList,u.oneCell'=true):
  (Instr.storeAt T (.pointer (some ⟨b,0,none⟩)) (.agg cs)).run prog w=.ok () (w.setRow b cs):=by
 have aN:=run_storeCells_at prog b 0 T cs.toList 0 cur w h (by rw[Array.length_toList,hs,hc];omega) h1
 have e:(cur.toList.take (0+0)++cs.toList++cur.toList.drop (0+0+cs.toList.length)).toArray=cs:=by
  rw[List.drop_of_length_le (by rw[Array.length_toList,Array.length_toList,hs,hc];omega)]
  simp
 rw[e]at aN;have db:(Value.agg cs).cells.size=k:=hs;have dN:(Value.agg cs).cells.toList=cs.toList:=rfl;simp only[Instr.storeAt,Instr.sureAddr,storeVar,Sem.run_bind,Sem.run_pure,Result.andThen_ok,hT.sz,db,ne_eq,not_true,if_false,dN,aN]
theorem eG{T:TypeId}{k:Nat}(hT:Jz T k)(w:World){cur cs:Array Value}(hc:cur.size=k)(hs:cs.size=k)(h1:∀u∈cs.toList,u.oneCell'=true):
  (Instr.storeAt T (.pointer (some ⟨w.heap.size,0,none⟩)) (.agg cs)).run prog (w.alloc (.cells cur T))=.ok () (w.alloc (.cells cs T)):=by
 rw[aA hT (heap_alloc_new w _) hc hs h1,uX]
theorem aj{w:World}{b:Nat}{cur cs:Array Value}{T:TypeId}(h:w.heap[b]?=some (.cells cur T (0,0))):(w.setRow b cs).heap[b]?=some (.cells cs T (0,0)):=by
 unfold World.setRow;simp[Array.getElem?_modify,h]
theorem dD:Jz aM 2:=VT (by kernel_rfl) Tryz.underlying25 (λw=>by unfold isAgg;simp[run_underlying Tryz.underlying25])
theorem step_st{P:Program}{ops:Array Oper}{o:Oper}{a:Act}{w w':World}{K:Act->World->Prop}{Q:Exit->Act->World->Prop}{E:Prop}(Aq:o.guard=none)(t:TypeId)(p x:Operand)(ho:o.op=.store t p x)(pv xv:Value)(hp:a.eval p=pv)(hx:a.eval x=xv)
  (hr:(Instr.storeAt t pv xv).run P w=.ok () w') (h:K (a.put o.dst undef) w'):if Region.wanted o (yielded ops a.tmps)=true then Oper.wp P o a w K Q else E:=by
 have hw:Region.wanted o (yielded ops a.tmps)=true:=by simp[Region.wanted,Aq]
 rw[if_pos hw];unfold Oper.wp;simp[execOp,ho,hp,hx,hr,Result.andThen]
 exact h
theorem pQ{W:World}{b:Nat}{c:Cd}{vp vn vt vg:Value}(h:W.heap[b]?=some (.cells (kg c vp vn vt vg) sr (0,0)))(j:Nat){v:Value}(hv:(kg c vp vn vt vg)[j]?=some v):W.cell? ⟨b,j,none⟩=some v:=by
 rw[cell_of_row _ _ _ _ _ _ h];exact hv
abbrev fq:Array Value:=#[.int .i64 0,.int .i64 0,.bool false,.int .i64 0,.slice none 0 0,.slice none 0 0,.slice none 0 0,.slice none 0 0,.slice none 0 0,.slice none 0 0]
theorem ej.ok(w:World)(e:Int)(i:Nat)(y:Bool)(ep:Int):ej w ⟨e,i,y,ep,[],⟨[],[]⟩,[],[]⟩ nS nS nS nS nS:=
 ⟨⟨[],rfl,Sg.nil w,λ_ h=>by cases h⟩,Ns.nil w,Ts.nil w,mB.nil w,0,dT.nil 0 w⟩
structure bN(q a x d:Nat)(r:bQ×ck)(w:World)(e:Ending)(w':World):Prop where
 xF:∃v,e=.returned v/\EL w' v r.2
 sh:iR w' q a x d r.1
 fp:Fp (Bk q a x d) w w'
theorem bF(n:Int)(w:World):Calls prog 48 #[.int .i64 n] w λe w'=>e=.returned (.agg (aC (.no n) nS nS nS nS nS))/\Fp ab w w':=by
 go_enter func48,ntmps48
 go_wp2;exact bodyPost_ret (v:=.agg (aC (.no n) nS nS nS nS nS)) (by simp[results,results48,go_sem,aC,ck.no]) rfl ⟨rfl,aa w _⟩
theorem G4(n:Int)(w:World):Calls prog 50 #[.int .i64 n] w λe w'=>e=.returned (.bool (sZ n))/\w'=w:=by
 go_enter func50,ntmps50
 go_wp2;all_goals (go_ret;refine⟨aB ?_,rfl⟩;unfold sZ;simp_all)
attribute [local irreducible] wpStill
theorem KP(s:Bs)(st:Int)(bh bs q:Nat)(vr:Value)(l:List Hl)(w:World)(hs:s.length<=1000000)(h1:w.cell? ⟨bh,0,none⟩=some (.pointer (some ⟨q,0,none⟩)))(h2:w.cell? ⟨bs,0,none⟩=some (.int .i64 st))
  (h3:w.cell? ⟨q,2,none⟩=some vr) (hv:di w vr l) (hz:BK l):
  Calls prog 172 #[.string (B s),.pointer (some ⟨bh,0,none⟩),.pointer (some ⟨bs,0,none⟩)] w λe w'=>e=.returned (.bool (qd l st s))/\Fp ab w w':=by
 have hc:=λW (f:Fp ab w W)=>FA vr l s W (hv.af f) hz hs
 have hq:=λW (f:Fp ab w W)=>yI (f.cell h1 id) (yI (f.cell h2 id) (f.cell h3 id))
 unfold qd;obtain⟨ao,cap,rfl⟩:=hv.shape;generalize N1 l s=z at *;generalize l.length=n at *;have HC:=zI hc;have HQ:=zI hq;clear hc hq hv hz hs h1 h2 h3;go_enter func172,ntmps172
 go_wp2_with fail
 refine wp_region_held_drew (S:=(λw'=>w'.cell? ⟨bh,0,none⟩=some (.pointer (some ⟨q,0,none⟩))/\w'.cell? ⟨bs,0,none⟩=some (.int .i64 st)/\w'.cell? ⟨q,2,none⟩=some (.slice ao n cap))) (by kernel_rfl) ?_ (λhH=>?_)
 ·exact HQ _ ((Fp.refl ab _).drew)
 refine aF 0 hH ?_;refine aF 1 hH ?_;refine aF 2 hH ?_;refine aF 3 hH ?_;refine aF 4 hH ?_;refine aF 6 hH ?_;refine rY 5 (λK hK=>?_)
 go_simp;refine(HC _ ((Fp.refl ab _).drew)).mono ?_;rintro e w1⟨rfl,hf⟩;have HF:=zI (((Fp.refl ab w).drew).then hf);clear hf;go_wp2_with fail
 refine hK _ _ (HQ _ HF.out) (λhH=>?_)
 clear hK K;try simp only[zz]
 refine aF 7 hH ?_;refine aF 8 hH ?_;refine yD ?_;go_wp2;go_ret;exact⟨aB (by rw[Bool.eq_iff_iff];simp),HF.out⟩
structure Td(q:Nat)(st:Int)(w:World)(e:Ending)(w':World):Prop where
 ex:∃bh bs:Nat,e=.returned (.func (.func 172) #[] #[.pointer (some ⟨bh,0,none⟩),.pointer (some ⟨bs,0,none⟩)])/\w'.cell? ⟨bh,0,none⟩=some (.pointer (some ⟨q,0,none⟩))/\w'.cell? ⟨bs,0,none⟩=some (.int .i64 st)
 fp:Fp ab w w'
theorem uY(q:Nat)(st:Int)(w:World):Calls prog 123 #[.pointer (some ⟨q,0,none⟩),.int .i64 st] w (Td q st w):=by
 go_enter func123,ntmps123
 go_wp2;go_ret;have f2:=aa (w.alloc (.cells #[.pointer (some ⟨q,0,none⟩)] 29)) (.cells #[.int .i64 st] 3);have r1:=heap_alloc_new w (.cells #[.pointer (some ⟨q,0,none⟩)] 29);have r2:=heap_alloc_new (w.alloc (.cells #[.pointer (some ⟨q,0,none⟩)] 29)) (.cells #[.int .i64 st] 3);have sz:(w.alloc (.cells #[.pointer (some ⟨q,0,none⟩)] 29)).heap.size=w.heap.size+1:=by simp
 rw[sz]at r2;refine⟨⟨w.heap.size,w.heap.size+1,rfl,?_,?_⟩,(aa w _).then f2⟩
 ·rw[cell_of_row _ _ _ _ _ _ (f2.heap r1 id)];rfl
 rw[cell_of_row _ _ _ _ _ _ r2];rfl
theorem Td.pd{q:Nat}{st:Int}{w w':World}{e:Ending}(h:Td q st w e w'){vr:Value}{l:List Hl}(h3:w.cell? ⟨q,2,none⟩=some vr)(hv:di w vr l)(hz:BK l):∃f,e=.returned f/\DA w' f (qd l st):=by
 obtain⟨bh,bs,rfl,h1,h2⟩:=h.ex
 exact⟨_,rfl,_,_,_,rfl,enters_of func172 (by kernel_rfl) rfl,λs w1 hs f=>
  KP s st bh bs q vr l w1 hs (f.cell h1 id) (f.cell h2 id) (f.cell (h.fp.cell h3 id) id) ((hv.af h.fp).af f) hz⟩
theorem G5(s:Bs)(q:Nat)(vh:Value)(l:List Hl)(w:World)(h3:w.cell? ⟨q,3,none⟩=some vh)(hv:di w vh l)(hs:zG l)(hn:l.length<=1000000):
  Calls prog 124 #[.pointer (some ⟨q,0,none⟩),.string (B s)] w λe w'=>e=.returned (.bool (FG l s))/\Fp ab w w':=by
 have hc:=O5 vh l s w hv hs hn;unfold FG;obtain⟨ao,cap,rfl⟩:=hv.shape;generalize ((mu l s).map Hl.t).getD 0=z at *;generalize (mu l s).isSome=b at *;generalize l.length=n at *;have HC:=zI hc;clear hc hv hs hn;go_enter func124,ntmps124
 go_wp2_with fail
 refine HC.mono ?_;rintro e w1⟨rfl,hf⟩;have HF:=zI hf;clear hf;go_wp2;go_ret;exact⟨rfl,HF.out⟩
theorem DB{q:Nat}{vh:Value}{l:List Hl}{w:World}(h3:w.cell? ⟨q,3,none⟩=some vh)(hv:di w vh l)(hs:zG l)(hn:l.length<=1000000):DA w (.func (.func 124) #[.pointer (some ⟨q,0,none⟩)] #[]) (FG l):=
 ⟨_,_,_,rfl,enters_of func124 (by kernel_rfl) rfl,λs w1 _ f=>G5 s q vh l w1 (f.cell h3 id) (hv.af f) hs hn⟩
theorem Ar(v:Value)(l:List Hl)(s:Bs)(w:World)(hv:di w v l)(hz:BK l)(hs:s.length<=1000000):
  Calls prog 134 #[v,.string (B s)] w λe w'=>e=.returned (.string (B (qe l s)))/\Fp ab w w':=by
 have hc:=Fy v l s w hv hz hs;have hn:=hz.n;unfold qe;cases ho:CX l s with
 |none=>
  rw[kC ho];rw[ho]at hc;obtain⟨ao,cap,rfl⟩:=hv.shape;generalize l.length=n at *;have HC:=zI hc;clear hc hv hz hs ho hn;go_enter func134,ntmps134
  go_wp2_with fail
  refine HC.mono ?_;rintro e w1⟨rfl,hf⟩;have HF:=zI hf;clear hf;unfold idx;go_wp2;go_ret;exact⟨rfl,HF.out⟩
 |some i=>?_
 rw[mq ho];rw[ho]at hc;have hi:=uy ho;obtain⟨g,o,cap,rfl,_,_,_,aq⟩:=hv.at (by omega)
 have wo:=λW (f:Fp ab w W)=>(((aq i hi).keep f id).c0)
 simp only[Option.map_some,Option.getD_some]
 obtain⟨n,aR⟩:∃n,n=l.length:=⟨_,rfl⟩;rw[<-aR]at hc hi hn;generalize l[i].d=y at *;unfold au at wo;have q1:((i:Int)<0)=False:=eq_false (by omega)
 have q2:((i:Int)<(n:Int))=True:=eq_true (by omega)
 have q3:(i<n)=True:=eq_true hi;have HC:=zI hc;have H0:=zI wo;rw[<-aR];clear hc hv hz hs ho aq wo aR;go_enter func134,ntmps134
 go_wp2_with fail
 refine HC.mono ?_;rintro e w1⟨rfl,hf⟩;have c0:=H0 _ hf;have HF:=zI hf;clear hf;unfold idx;go_wp2;go_ret;exact⟨rfl,HF.out⟩
theorem O6(w:World)(f:Value)(q:Bs->Bool)(b:Nat)(hb:w.cell? ⟨b,0,none⟩=some f)(hq:DA w f q):uZ ab w (.func (.func 186) #[] #[.pointer (some ⟨b,0,none⟩)]) (λx=>q x.d):=by
 refine⟨_,_,_,rfl,enters_of func186 (by kernel_rfl) rfl,λn w1 hn g=>?_⟩
 obtain⟨kf,fi,fc,rfl,gU,bB⟩:=hq.ex;have bO:=g.cell hb id;have dy:=λW f=>bB n.d W hn f
 obtain⟨d,t,a⟩:=n;simp only at dy hn
 unfold lF au;have fB:=heap_alloc_new w1 (.cells #[.string (B d),.int .i64 t,.int .i64 a] TH);have f1:=aa w1 (.cells #[.string (B d),.int .i64 t,.int .i64 a] TH);have c0:(w1.alloc (.cells #[.string (B d),.int .i64 t,.int .i64 a] TH)).cell? ⟨w1.heap.size,0,none⟩=some (.string (B d)):=by rw[cell_of_row _ _ _ _ _ _ fB];rfl
 have cb:=f1.cell bO id;have HC:=zI (dy _ (g.then f1));have HF:=zI f1;clear dy fB f1 bO hb hn g;go_enter func186,ntmps186
 go_wp2_with fail
 rw[gU _ _];go_wp2_with fail
 refine HC.mono ?_;rintro e w2⟨rfl,hf⟩;have HG:=zI (HF.then hf);clear hf;go_wp2;go_ret;exact⟨rfl,HG.out⟩
theorem As(f vh:Value)(q:Nat)(p:Bs->Bool)(l:List Hl)(w:World)(h3:w.cell? ⟨q,3,none⟩=some vh)(hv:di w vh l)(hs:zG l)(hn:l.length<=1000000)(hp:DA w f p):
  Calls prog 132 #[.pointer (some ⟨q,0,none⟩),f] w λe w'=>e=.returned (.bool (l.any λx=>p x.d))/\Fp ab w w':=by
 obtain⟨kf,fi,fc,rfl,gU,bB⟩:=hp.ex;have f1:=aa w (.cells #[.func (.func kf) fi fc] 118);have fB:=heap_alloc_new w (.cells #[.func (.func kf) fi fc] 118);have iH:=O6 (w.alloc (.cells #[.func (.func kf) fi fc] 118)) (.func (.func kf) fi fc) p w.heap.size (by rw[cell_of_row _ _ _ _ _ _ fB];rfl) (hp.later f1)
 have hc:=oy vh _ l _ (w.alloc (.cells #[.func (.func kf) fi fc] 118)) (hv.af f1) hs iH hn;have c3:=f1.cell h3 id;generalize (l.any λx=>p x.d)=b at *
 obtain⟨ao,cap,rfl⟩:=hv.shape;generalize l.length=n at *;have HC:=zI hc;have HF:=zI f1;clear hc f1 fB iH hv hs hn hp h3 gU bB;go_enter func132,ntmps132
 go_wp2_with fail
 refine HC.mono ?_;rintro e w2⟨rfl,hf⟩;have HG:=zI (HF.then hf);clear hf;go_wp2;go_ret;exact⟨rfl,HG.out⟩
end
section
open Go.RowKit Pm
attribute [local irreducible] wpStill
structure Te(s:St)(w:World)(e:Ending)(w':World):Prop where
 ex:∃vn vt,e=.returned (.agg #[vn,vt])/\Ns w' vn s.nodes/\Ts w' vt s.turns
 fp:Fp ab w w'
theorem ly(vn vt:Value)(s:St)(w:World)(h1:Ns w vn s.nodes)(h2:Ts w vt s.turns)(hn:s.nodes.length<=50000)(hm:s.turns.length<=50000):
  Calls prog 43 #[.agg #[vn,vt]] w (Te s w):=by
 have me:=λW (f:Fp ab w W)=>nI vn s.nodes W (h1.af f) (by omega)
 have pH:=λW (f:Fp ab w W)=>lO vt s.turns W (h2.af f) (by omega)
 obtain⟨an,cn,rfl⟩:=h1.shape;obtain⟨at',ct,rfl⟩:=h2.shape;generalize aR:s.nodes.length=n at *;generalize jE:s.turns.length=m at *;have Jr:=zI me;have MK:=zI pH;have HL:=zI (yI aR jE);obtain⟨W1,jM⟩:∃W1,W1=(w.alloc (.cells #[.slice an n cn,.slice at' m ct] aM)).alloc (.cells #[.slice none 0 0,.slice none 0 0] aM):=⟨_,rfl⟩;have f0:=aa w (.cells #[.slice an n cn,.slice at' m ct] aM);have f1:=aa (w.alloc (.cells #[.slice an n cn,.slice at' m ct] aM)) (.cells #[.slice none 0 0,.slice none 0 0] aM);have r0:=f1.heap (heap_alloc_new w (.cells #[.slice an n cn,.slice at' m ct] aM)) id;have r1:=heap_alloc_new (w.alloc (.cells #[.slice an n cn,.slice at' m ct] aM)) (.cells #[.slice none 0 0,.slice none 0 0] aM);rw[show(w.alloc (.cells #[.slice an n cn,.slice at' m ct] aM)).heap.size=w.heap.size+1 from by simp]at r1
 have F1:=f0.then f1;rw[<-jM]at r0 r1 F1;have HR:=zI (yI r0 (yI r1 F1));clear me pH h1 h2 hn hm aR jE f0 f1 r0 r1 F1;go_enter func43,ntmps43
 go_wp2_with fail
 rw[<-jM];clear jM;refine wp_region_held_drew (S:=λw'=>w'.cell? ⟨w.heap.size,0,none⟩=some (.slice an n cn)/\w'.cell? ⟨w.heap.size,1,none⟩=some (.slice at' m ct)) (by kernel_rfl) ?_ (λhH=>?_)
 ·exact aI (show W1.drew.heap[w.heap.size]?=_ from HR.1)
 refine aF 0 hH ?_;refine aF 1 hH ?_;refine aF 3 hH ?_;refine aF 4 hH ?_;refine rY 2 (λK hK=>?_)
 go_simp;refine(Jr _ (HR.2.2.drew)).mono ?_;rintro e w2⟨Tf,rfl,hN⟩;have R2:=zI (yI (hN.fp.heap (show W1.drew.heap[w.heap.size]?=_ from HR.1) id) (yI (hN.fp.heap (show W1.drew.heap[w.heap.size+1]?=_ from HR.2.1) id) (yI (HR.2.2.drew.then hN.fp) hN.own.ns)));obtain⟨a2,c2,e2⟩:=hN.own.ns.shape;rw[HL.1]at e2;subst e2;clear hN;go_wp2_with fail
 refine hK _ _ (aI R2.1) (λhH=>?_)
 clear hK K;try simp only[zz]
 refine rY 5 (λK hK=>?_)
 go_simp;refine(MK _ R2.2.2.1).mono ?_;rintro e w3⟨KQ,rfl,hT⟩;have R3:=zI (yI (hT.fp.heap R2.1 id) (yI (hT.fp.heap R2.2.1 id) (yI (R2.2.2.1.then hT.fp) (yI (R2.2.2.2.af hT.fp) hT.own.ns))));obtain⟨a3,c3,e3⟩:=hT.own.ns.shape;rw[HL.2]at e3;subst e3;clear hT;go_wp2_with fail
 refine hK _ _ (aI R3.1) (λhH=>?_)
 clear hK K;try simp only[zz]
 refine aF 6 hH ?_;refine rY 7 (λK hK=>?_)
 refine step_st rfl aM _ _ rfl _ _ rfl rfl (aA dD R3.2.1 rfl rfl (by intro u hu;simp only[List.mem_cons,List.not_mem_nil,or_false]at hu;rcases hu with rfl|rfl<;>rfl)) ?_
 have G:=zI (av w3 (w.heap.size+1) #[.slice a2 n c2,.slice a3 m c3]);have R4:=zI (aj (cs:=#[.slice a2 n c2,.slice a3 m c3]) R3.2.1);refine hK _ _ (aI (G.heap R3.1 (by simp))) (λhH=>?_)
 clear hK K;try simp only[zz]
 refine yD ?_;go_wp2;have hlv:=G3 dD R4 rfl;obtain⟨t0,t1⟩:=aI R4.out;refine bodyPost_ret (v:=.agg #[.slice a2 n c2,.slice a3 m c3]) (by simp[results,results43,go_sem,t0,t1]) rfl ?_
 have F4:Fp ab w (w3.setRow (w.heap.size+1) #[.slice a2 n c2,.slice a3 m c3]):=R3.2.2.1.trans G (λk hk=>.inr (by omega))
 have hB:Bl (λk=>k=w.heap.size+1) w3 (w3.setRow (w.heap.size+1) #[.slice a2 n c2,.slice a3 m c3]):=⟨G.out,λk hk=>by
  have hk:k=w.heap.size+1:=hk;subst hk;exact .inr ⟨_,_,R3.2.1,jk (by decide) (by decide) (by intro u hu;simp only[List.mem_cons,List.not_mem_nil,or_false]at hu;rcases hu with rfl|rfl<;>exact .inl ⟨_,_,_,rfl⟩)⟩⟩
 exact⟨⟨_,_,rfl,R3.2.2.2.1.off hB,R3.2.2.2.2.off hB⟩,F4⟩
end
section
open Go.RowKit Pm
structure Fr(w:World)(c:Cd)(vp vn vt vg:Value)(W:World):Prop where
 cb:W.heap[w.heap.size]?=some (.cells (kg c vp vn vt vg) sr (0,0))
 rs:W.heap[w.heap.size+1]?=some (.cells fq aT (0,0))
 fp:Fp ab w W
theorem Fr.made(w:World)(c:Cd)(vp vn vt vg:Value):Fr w c vp vn vt vg ((w.alloc (.cells (kg c vp vn vt vg) sr)).alloc (.cells fq aT)):=by
 have f0:=aa w (.cells (kg c vp vn vt vg) sr);have f1:=aa (w.alloc (.cells (kg c vp vn vt vg) sr)) (.cells fq aT);refine⟨f1.heap (heap_alloc_new w _) id,?_,f0.then f1⟩;have:=heap_alloc_new (w.alloc (.cells (kg c vp vn vt vg) sr)) (.cells fq aT);rwa[show(w.alloc (.cells (kg c vp vn vt vg) sr)).heap.size=w.heap.size+1 from by simp]at this
theorem Fr.later{w:World}{c:Cd}{vp vn vt vg:Value}{W W':World}(h:Fr w c vp vn vt vg W)(f:Fp ab W W'):Fr w c vp vn vt vg W':=⟨f.heap h.cb id,f.heap h.rs id,h.fp.then f⟩
theorem Fr.cell{w:World}{c:Cd}{vp vn vt vg:Value}{W:World}(h:Fr w c vp vn vt vg W)(j:Nat){v:Value}(hv:(kg c vp vn vt vg)[j]?=some v):W.cell? ⟨w.heap.size,j,none⟩=some v:=pQ h.cb j hv
theorem qG:Ce fq aT:=kE (a:=.ok) ⟨none,0,0,rfl⟩ ⟨none,0,0,rfl⟩ ⟨none,0,0,rfl⟩ ⟨none,0,0,rfl⟩ ⟨none,0,0,rfl⟩
theorem bN.fin{q a x d:Nat}{r:bQ×ck}{w W:World}{vr vn vt ve vw:Value}(hF:Fp (Bk q a x d) w W)(hR:W.heap[w.heap.size+1]?=some (.cells fq aT (0,0)))(ay:∀j,Bk q a x d j->j<w.heap.size)(hS:iR W q a x d r.1)(hA:ej W r.2 vr vn vt ve vw):
  bN q a x d r w (.returned (.agg (aC r.2 vr vn vt ve vw))) (W.setRow (w.heap.size+1) (aC r.2 vr vn vt ve vw)):=by
 have G:=av W (w.heap.size+1) (aC r.2 vr vn vt ve vw)
 have hB:Bl (λk=>k=w.heap.size+1) W (W.setRow (w.heap.size+1) (aC r.2 vr vn vt ve vw)):=⟨G,λk hk=>by
  have hk:k=w.heap.size+1:=hk;subst hk;exact .inr ⟨_,_,hR,qG⟩⟩
 exact⟨⟨_,rfl,_,_,_,_,_,rfl,hA.off hB⟩,hS.off hB (λj hj e=>by have:=ay j hj;have e:j=w.heap.size+1:=e;omega),hF.trans G (λk hk=>.inr (by have hk:k=w.heap.size+1:=hk;omega))⟩
theorem bj{W:World}{b:Nat}{a:ck}{vr vn vt ve vw:Value}{T:TypeId}(h:W.heap[b]?=some (.cells (aC a vr vn vt ve vw) T (0,0))):
  W.cell? ⟨b,0,none⟩=some (.int .i64 a.err)/\W.cell? ⟨b,1,none⟩=some (.int .i64 a.idx)/\W.cell? ⟨b,2,none⟩=some (.bool a.yes)/\W.cell? ⟨b,3,none⟩=some (.int .i64 a.ep)/\W.cell? ⟨b,4,none⟩=some vr/\W.cell? ⟨b,5,none⟩=some vn/\W.cell? ⟨b,6,none⟩=some vt/\W.cell? ⟨b,7,none⟩=some ve/\W.cell? ⟨b,8,none⟩=some (.slice none 0 0)/\W.cell? ⟨b,9,none⟩=some vw:=by
 refine⟨?_,?_,?_,?_,?_,?_,?_,?_,?_,?_⟩<;>(rw[cell_of_row _ _ _ _ _ _ h];rfl)
theorem O7(w:World):(zeroValue Km).run prog w=.ok (.agg #[.bool false,.int .i64 0]) w:=by
 obtain⟨h,_⟩:(∀w,(zeroValue Km).run prog w=.ok (.agg #[.bool false,.int .i64 0]) w)/\True:=⟨λw=>by kernel_rfl,trivial⟩
 exact h w
theorem O8(w:World):(zeroValue aT).run prog w=.ok (.agg fq) w:=by
 obtain⟨h,_⟩:(∀w,(zeroValue aT).run prog w=.ok (.agg fq) w)/\True:=⟨λw=>by kernel_rfl,trivial⟩
 exact h w
theorem G8(w:World):(zeroValue Cc).run prog w=.ok (.agg (se ⟨false,[],.ok⟩ nS nS nS nS nS nS)) w:=by
 obtain⟨h,_⟩:(∀w,(zeroValue Cc).run prog w=.ok (.agg (se ⟨false,[],.ok⟩ nS nS nS nS nS nS)) w)/\True:=⟨λw=>by kernel_rfl,trivial⟩
 exact h w
theorem step_upd{P:Program}{ops:Array Oper}{o:Oper}{a:Act}{w w':World}{K:Act->World->Prop}{Q:Exit->Act->World->Prop}{E:Prop}(Aq:o.guard=none)(t:TypeId)(m k v:Operand)(ho:o.op=.mapUpdate t m k v)(mv kv vv:Value)(hm:a.eval m=mv)(hk:a.eval k=kv)(hv:a.eval v=vv)
  (hr:(Instr.mapUpdate t mv kv vv).run P w=.ok () w') (h:K (a.put o.dst undef) w'):if Region.wanted o (yielded ops a.tmps)=true then Oper.wp P o a w K Q else E:=by
 have hw:Region.wanted o (yielded ops a.tmps)=true:=by simp[Region.wanted,Aq]
 rw[if_pos hw];unfold Oper.wp;simp[execOp,ho,hm,hk,hv,hr,Result.andThen]
 exact h
theorem Js.as{w:World}{vn vt vr vh vw vs:Value}{h g:bQ}(k:Js w vn vt vr vh vw vs h)(h1:g.st=h.st)(h2:g.rg=h.rg)(h3:g.hs=h.hs)(h4:g.wd=h.wd):Js w vn vt vr vh vw vs g:=
 ⟨by rw[h1];exact k.n,by rw[h1];exact k.t,by rw[h2];exact k.r,by rw[h3];exact k.hh,by rw[h4];exact k.w⟩
theorem mg.one{w w':World}{q a x d:Nat}{vn vt vr vh vw vs:Value}{h:bQ}(k:mg w q a x d vn vt vr vh vw vs h){j:Nat}(hj:Bk q a x d j)(f:Fp (λi=>i=j) w w'):Bl (λi=>i=j) w w':=⟨f,λi hi=>by have hi:i=j:=hi;subst hi;exact k.mF _ hj⟩
theorem mg.X8{w w':World}{q a x d:Nat}{vn vt vr vh vw vs:Value}{h:bQ}(k:mg w q a x d vn vt vr vh vw vs h){l:List (Int×Bool×Int)}(u:Vu (λ_ v y=>v=Su y) d l w w'):mg w' q a x d vn vt vr vh vw vs { h with ds:=l }:=by
 have f:=k.one (.inr (.inr (.inr rfl))) u.fp;exact⟨f.fp.heap k.row k.qa.2.2,(k.v.off f).as rfl rfl rfl rfl,k.ids.keep f.fp k.ad (λ_ _ h=>h.off f),k.dI.keep f.fp k.xd (λ_ _ h=>h.off f),u.mp,k.ax,k.ad,k.xd⟩
theorem mg.G9{w w':World}{q a x d:Nat}{vn vt vr vh vw vs:Value}{h:bQ}(k:mg w q a x d vn vt vr vh vw vs h){l:List (Int×JZ)}(u:Vu OC x l w w'):mg w' q a x d vn vt vr vh vw vs { h with dI:=l }:=by
 have f:=k.one (.inr (.inr (.inl rfl))) u.fp;exact⟨f.fp.heap k.row k.qa.2.1,(k.v.off f).as rfl rfl rfl rfl,k.ids.keep f.fp k.ax (λ_ _ h=>h.off f),u.mp,k.ds.keep f.fp (λe=>k.xd e.symm) (λ_ _ h=>h),k.ax,k.ad,k.xd⟩
theorem mg.Tg{w w':World}{q a x d:Nat}{vn vt vr vh vw vs:Value}{h:bQ}(k:mg w q a x d vn vt vr vh vw vs h){l:List (Int×ck)}(u:Vu EL a l w w'):mg w' q a x d vn vt vr vh vw vs { h with ids:=l }:=by
 have f:=k.one (.inr (.inl rfl)) u.fp;exact⟨f.fp.heap k.row k.qa.1,(k.v.off f).as rfl rfl rfl rfl,u.mp,k.dI.keep f.fp (λe=>k.ax e.symm) (λ_ _ h=>h.off f),k.ds.keep f.fp (λe=>k.ad e.symm) (λ_ _ h=>h),k.ax,k.ad,k.xd⟩
theorem vb{α:Type}{l:List (Int×α)}{t:Int}(h:lk l t=none)(v:α):oR l t v=l++[(t,v)]:=by unfold oR;rw[h];rfl
attribute [local irreducible] wpStill
theorem O9{w:World}{q a x d:Nat}{vn vt vr vh vw vs:Value}(h:w.heap[q]?=some (.cells (xg vn vt vr vh vw vs a x d) sd (0,0)))(u v:Value):
  w.cell? ⟨q,4,none⟩=some vw/\w.cell? ⟨q,5,none⟩=some vs/\w.frozen? ⟨q,4,none⟩=false/\w.frozen? ⟨q,5,none⟩=false/\(w.setCell ⟨q,4,none⟩ u).cell? ⟨q,5,none⟩=some vs/\(w.setCell ⟨q,4,none⟩ u).frozen? ⟨q,5,none⟩=false/\
   ((w.setCell ⟨q,4,none⟩ u).setCell ⟨q,5,none⟩ v).heap[q]?=some (.cells (xg vn vt vr vh u v a x d) sd (0,0))/\Fp (λk=>k=q) w ((w.setCell ⟨q,4,none⟩ u).setCell ⟨q,5,none⟩ v):=by
 have h1:=heap_setCell_same w q 4 _ sd u h;have h2:=heap_setCell_same _ q 5 _ sd v h1;refine⟨by rw[cell_of_row _ _ _ _ _ _ h];rfl,by rw[cell_of_row _ _ _ _ _ _ h];rfl,ae h 4,ae h 5,by rw[cell_of_row _ _ _ _ _ _ h1];rfl,ae h1 5,h2,?_⟩
 exact((Fp.refl (λk=>k=q) w).setCell (p:=⟨q,4,none⟩) (.inl rfl) u).setCell (p:=⟨q,5,none⟩) (.inl rfl) v
theorem Th{w:World}{q a x d:Nat}{vn vt vr vh vw vs:Value}(h:w.heap[q]?=some (.cells (xg vn vt vr vh vw vs a x d) sd (0,0)))(u v:Value):
  w.cell? ⟨q,0,none⟩=some vn/\w.cell? ⟨q,1,none⟩=some vt/\w.frozen? ⟨q,0,none⟩=false/\w.frozen? ⟨q,1,none⟩=false/\(w.setCell ⟨q,0,none⟩ u).cell? ⟨q,1,none⟩=some vt/\(w.setCell ⟨q,0,none⟩ u).frozen? ⟨q,1,none⟩=false/\
   ((w.setCell ⟨q,0,none⟩ u).setCell ⟨q,1,none⟩ v).heap[q]?=some (.cells (xg u v vr vh vw vs a x d) sd (0,0))/\Fp (λk=>k=q) w ((w.setCell ⟨q,0,none⟩ u).setCell ⟨q,1,none⟩ v):=by
 have h1:=heap_setCell_same w q 0 _ sd u h;have h2:=heap_setCell_same _ q 1 _ sd v h1;refine⟨by rw[cell_of_row _ _ _ _ _ _ h];rfl,by rw[cell_of_row _ _ _ _ _ _ h];rfl,ae h 0,ae h 1,by rw[cell_of_row _ _ _ _ _ _ h1];rfl,ae h1 1,h2,?_⟩
 exact((Fp.refl (λk=>k=q) w).setCell (p:=⟨q,0,none⟩) (.inl rfl) u).setCell (p:=⟨q,1,none⟩) (.inl rfl) v
theorem Au{w:World}{q a x d:Nat}{vn vt vr vh vw vs:Value}(h:w.heap[q]?=some (.cells (xg vn vt vr vh vw vs a x d) sd (0,0)))(u:Value):
  w.cell? ⟨q,3,none⟩=some vh/\w.frozen? ⟨q,3,none⟩=false/\(w.setCell ⟨q,3,none⟩ u).heap[q]?=some (.cells (xg vn vt vr u vw vs a x d) sd (0,0))/\Fp (λk=>k=q) w (w.setCell ⟨q,3,none⟩ u):=
 ⟨by rw[cell_of_row _ _ _ _ _ _ h];rfl,ae h 3,heap_setCell_same w q 3 _ sd u h,(Fp.refl (λk=>k=q) w).setCell (p:=⟨q,3,none⟩) (.inl rfl) u⟩
theorem Ti{w:World}{q a x d:Nat}{vn vt vr vh vw vs:Value}(h:w.heap[q]?=some (.cells (xg vn vt vr vh vw vs a x d) sd (0,0)))(u:Value):
  w.cell? ⟨q,2,none⟩=some vr/\w.frozen? ⟨q,2,none⟩=false/\(w.setCell ⟨q,2,none⟩ u).heap[q]?=some (.cells (xg vn vt u vh vw vs a x d) sd (0,0))/\Fp (λk=>k=q) w (w.setCell ⟨q,2,none⟩ u):=
 ⟨by rw[cell_of_row _ _ _ _ _ _ h];rfl,ae h 2,heap_setCell_same w q 2 _ sd u h,(Fp.refl (λk=>k=q) w).setCell (p:=⟨q,2,none⟩) (.inl rfl) u⟩
theorem mg.QS{w w':World}{q a x d:Nat}{vn vt vr vh vw vs jB iA X9 Ya Yb Yc:Value}{h g:bQ}(k:mg w q a x d vn vt vr vh vw vs h)(f:Fp (λi=>i=q) w w')(hr:w'.heap[q]?=some (.cells (xg jB iA X9 Ya Yb Yc a x d) sd (0,0)))
  (hv:Js w jB iA X9 Ya Yb Yc g) (h1:g.ids=h.ids) (h2:g.dI=h.dI) (h3:g.ds=h.ds):mg w' q a x d jB iA X9 Ya Yb Yc g:=by
 have f:=k.one (.inl rfl) f;exact⟨hr,hv.off f,by rw[h1];exact k.ids.keep f.fp (λe=>k.qa.1 e.symm) (λ_ _ h=>h.off f),by rw[h2];exact k.dI.keep f.fp (λe=>k.qa.2.1 e.symm) (λ_ _ h=>h.off f),by rw[h3];exact k.ds.keep f.fp (λe=>k.qa.2.2 e.symm) (λ_ _ h=>h),k.ax,k.ad,k.xd⟩
theorem Av(q a x d:Nat)(h:bQ)(v:Value)(dd:Wd)(er:Int)(w:World)(hS:iR w q a x d h)(hW:yZ w v dd):
  Calls prog 143 #[.pointer (some ⟨q,0,none⟩),v,.int .i64 er] w (bN q a x d (nE h dd er) w):=by
 have ay:=hS.lt;obtain⟨vn,vt,vr,vh,vw,vs,hP⟩:=hS.ex;obtain⟨u1,u2,rfl,gV,su⟩:=hW.ex;obtain⟨a1,c1,rfl⟩:=gV.shape;obtain⟨a2,c2,rfl⟩:=su.shape;generalize dd.ws.length=n1 at *;generalize dd.ss.length=n2 at *;obtain⟨W2,gS⟩:∃W2,W2=(w.alloc (.cells #[.slice a1 n1 c1,.slice a2 n2 c2] TD)).alloc (.cells fq aT):=⟨_,rfl⟩;have f0:=aa w (.cells #[.slice a1 n1 c1,.slice a2 n2 c2] TD);have f1:=aa (w.alloc (.cells #[.slice a1 n1 c1,.slice a2 n2 c2] TD)) (.cells fq aT);have r0:=f1.heap (heap_alloc_new w (.cells #[.slice a1 n1 c1,.slice a2 n2 c2] TD)) id;have r1:=heap_alloc_new (w.alloc (.cells #[.slice a1 n1 c1,.slice a2 n2 c2] TD)) (.cells fq aT);rw[show(w.alloc (.cells #[.slice a1 n1 c1,.slice a2 n2 c2] TD)).heap.size=w.heap.size+1 from by simp]at r1
 have F:=f0.then f1;rw[<-gS]at r0 r1 F;have HR:=zI (yI r0 (yI r1 F));have HP:=zI (yI ay (yI hS (yI hP hW)));clear f0 f1 r0 r1 F ay hS hP hW gV su;by_cases he:er=0
 ·subst he
  have HD:=zI (show nE h dd 0=({ h with wd:=dd },.ok) from by unfold nE;rw[if_pos rfl])
  have mL:=zI (HP.2.2.1.af HR.2.2);obtain⟨x4,x5,y4,y5,x5',y5',ba,kA⟩:=O9 mL.row (.slice a1 n1 c1) (.slice a2 n2 c2);obtain⟨b0,b1⟩:=aI HR.1;have HQ:=zI (yI ba kA);clear ba kA;have P3:=zI (mL.QS (g:={ h with wd:=dd }) HQ.2 HQ.1 ⟨mL.v.n,mL.v.t,mL.v.r,mL.v.hh,HP.2.2.2.af HR.2.2⟩ rfl rfl rfl)
  have RS:=zI (HQ.2.heap HR.2.1 (λe=>by have e:w.heap.size+1=q:=e;have:=HP.1 q (.inl rfl);omega))
  subst gS;go_enter func143,ntmps143
  go_wp2_with (refine ak rfl aT _ _ rfl _ _ rfl rfl (aA bw (cs:=aC .ok nS nS nS nS nS) RS rfl rfl (aD ⟨⟨none,0,0,rfl⟩,⟨none,0,0,rfl⟩,⟨none,0,0,rfl⟩,⟨none,0,0,rfl⟩,⟨none,0,0,rfl⟩⟩)) ?_)
  obtain⟨z0,z1,z2,z3,z4,z5,z6,z7,z8,z9⟩:=bj (aj (cs:=aC .ok nS nS nS nS nS) RS.out);have HE:=zI (bN.fin (r:=(_,.ok)) (HR.2.2.any.trans HQ.2 (λk hk=>.inl (.inl hk))) RS HP.1 ⟨_,_,_,_,_,_,P3.out⟩ (ej.ok _ 0 0 false 0))
  generalize World.setRow ((((w.alloc (.cells #[.slice a1 n1 c1,.slice a2 n2 c2] TD)).alloc (.cells fq aT)).setCell ⟨q,4,none⟩ (.slice a1 n1 c1)).setCell ⟨q,5,none⟩ (.slice a2 n2 c2)) (w.heap.size+1) (aC .ok nS nS nS nS nS)=wz at *;go_wp2;refine bodyPost_ret (v:=.agg (aC .ok nS nS nS nS nS)) (by simp[results,results143,go_sem,z0,z1,z2,z3,z4,z5,z6,z7,z8,z9,aC]) rfl ?_
  rw[HD.out];exact HE.out
 have HD:=zI (show nE h dd er=(h,.no er) from by unfold nE;rw[if_neg he])
 have e1:(er=0)=False:=eq_false he;have e2:(er == 0)=false:=beq_eq_false_iff_ne.2 he;have e3:(er != 0)=true:=by rw[bne_iff_ne];exact he
 have S2:=zI (HP.2.1.af HR.2.2);clear he;go_enter func143,ntmps143
 go_wp2_with fail
 rw[<-gS];clear gS;refine(bF er _).mono ?_;rintro e w4⟨rfl,f4⟩;have RS:=zI (f4.heap HR.2.1 id);have F4:=zI (HR.2.2.then f4);have S4:=zI (S2.af f4);clear f4;go_wp2_with (refine ak rfl aT _ _ rfl _ _ rfl rfl (aA bw (cs:=aC (.no er) nS nS nS nS nS) RS rfl rfl (aD ⟨⟨none,0,0,rfl⟩,⟨none,0,0,rfl⟩,⟨none,0,0,rfl⟩,⟨none,0,0,rfl⟩,⟨none,0,0,rfl⟩⟩)) ?_)
 obtain⟨z0,z1,z2,z3,z4,z5,z6,z7,z8,z9⟩:=bj (aj (cs:=aC (.no er) nS nS nS nS nS) RS.out);have HE:=zI (bN.fin (r:=(h,.no er)) F4.any RS HP.1 S4 (ej.ok _ er 0 false 0));generalize World.setRow w4 (w.heap.size+1) (aC (.no er) nS nS nS nS nS)=wz at *;go_wp2;refine bodyPost_ret (v:=.agg (aC (.no er) nS nS nS nS nS)) (by simp[results,results143,go_sem,z0,z1,z2,z3,z4,z5,z6,z7,z8,z9,aC]) rfl ?_
 rw[HD.out];exact HE.out
end
section
open Go.RowKit Pm
structure Yd(d:Wd)(err:Int)(w:World)(e:Ending)(w':World):Prop where
 ex:∃vw vs,e=.returned (.tuple #[.agg #[vw,vs],.int .i64 err])/\lM w' vw d.ws/\yY w' vs d.ss
 fp:Fp ab w w'
theorem kh{w:World}{R:Nat}{a b:Value}(h:w.heap[R]?=some (.cells #[a,b] TD (0,0)))(v0 v1:Value):w.cell? ⟨R,0,none⟩=some a/\w.cell? ⟨R,1,none⟩=some b/\w.frozen? ⟨R,0,none⟩=false/\w.frozen? ⟨R,1,none⟩=false/\(w.setCell ⟨R,0,none⟩ v0).cell? ⟨R,1,none⟩=some b/\(w.setCell ⟨R,0,none⟩ v0).frozen? ⟨R,1,none⟩=false/\((w.setCell ⟨R,0,none⟩ v0).setCell ⟨R,1,none⟩ v1).heap[R]?=some (.cells #[v0,v1] TD (0,0))/\Fp (λk=>k=R) w ((w.setCell ⟨R,0,none⟩ v0).setCell ⟨R,1,none⟩ v1):=by
 have h1:=heap_setCell_same w R 0 _ TD v0 h;exact⟨(aI h).1,(aI h).2,ae h 0,ae h 1,(aI h1).2,ae h1 1,heap_setCell_same _ R 1 _ TD v1 h1,(bd w R 0 v0).same (bd _ R 1 v1)⟩
theorem Wk.Ye{lo N:Nat}{vw vs v':Value}{ws ws':List Wt}{L:List aU}{w:World}(h:Wk lo N vw vs ws L w)(o:fV lo w v' ws'):
  Wk lo N v' vs ws' L (w.setCell ⟨N,0,none⟩ v')/\Fp (λk=>lo<=k) w (w.setCell ⟨N,0,none⟩ v'):=by
 have hf:=bd w N 0 v'
 have bA:∀{cs:Array Value} {T:TypeId} {j:Nat},w.heap[j]?=some (.cells cs T (0,0))->T≠TD->j≠N:=λht hT e=>by
  subst e;exact bP ht h.dR hT
 refine⟨⟨heap_setCell_same w N 0 _ TD v' h.dR,h.low,⟨?_,?_,λx hx=>?_,h.cl.apart⟩⟩,hf.mono (λk hk=>by have hk:k=N:=hk;rw[hk];exact h.low)⟩
 ·exact o.keep hf (λk hk e=>by obtain⟨cs,ht⟩:=o.type hk;exact bA ht (by decide) e)
 ·exact h.cl.fg.keep hf (λk hk e=>by obtain⟨cs,ht⟩:=h.cl.fg.type hk;exact bA ht (by decide) e)
 exact(h.cl.iu x hx).keep hf (λk hk e=>by obtain⟨cs,ht⟩:=(h.cl.iu x hx).type hk;exact bA ht (by decide) e)
end
end Go.Proofs.YtgafcelloiagmaaGreatDoor
