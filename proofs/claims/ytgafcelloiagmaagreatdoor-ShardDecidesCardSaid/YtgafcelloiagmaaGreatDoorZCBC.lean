/- A text of this proof. -/
import Derived.Shelf.SlSortCmp.NoneTotal
import Derived.Test.YtgafcelloiagmaaGreatDoorZCX
import Derived.Test.YtgafcelloiagmaaGreatDoorZCY
import Derived.Test.YtgafcelloiagmaaGreatDoorZCZ
set_option maxHeartbeats 16000000
set_option linter.unusedSimpArgs false
set_option linter.unusedVariables false
set_option maxRecDepth 20000
namespace Go.Proofs.YtgafcelloiagmaaGreatDoor
open Go.Proofs.Tryz
section
open Go.RowKit Pm Go.Sort
def BP(l:List Hl):Prop:=∀i j (hi:i<l.length) (hj:j<l.length),i<j->lt l[j].d l[i].d=false
instance:Inhabited Hl:=⟨⟨[],0,0⟩⟩
def wN(a b:Hl):Int:=cF a.d b.d
theorem pD(a b:Hl):ltOf wN a b=lt a.d b.d:=by
 unfold ltOf wN cF;cases h:lt a.d b.d with
 |true=>simp
 |false=>?_
 simp only[Bool.false_eq_true,if_false]
 split<;>simp
theorem FI:SWO (ltOf wN) where
 irrefl x:=by rw[pD];exact lt_irrefl _
 trans x y z h1 h2:=by rw[pD]at *;exact lt_trans h1 h2
 ntrans x y z h1 h2:=by
  rw[pD]at *;cases h:lt x.d z.d with
  |false=>rfl
  |true=>?_
  have:=lt_le_trans h h2;rw[h1]at this;cases this
theorem FJ(l:List Hl)(dk:Array Hl)(rest:List Value)(hs:dk.size=l.length):putCells id 0 (flatK kU 3 dk) (aP l++rest).toArray=(aP dk.toList++rest).toArray:=by
 apply Array.ext
 ·simp[putCells,aJ,hs]
 intro i h1 h2;simp only[putCells,Array.getElem_mapIdx,List.getElem_toArray,size_flatK,id,Nat.zero_add,Nat.sub_zero,Nat.zero_le,true_and]
 by_cases hi:i<dk.size*3
 ·have h5:i / 3<dk.size:=by omega
  have h6:=eh dk.toList (i / 3) (i % 3) (by simpa using h5) (by omega)
  rw[show i / 3*3+i % 3=i by omega]at h6
  rw[if_pos hi,get_flatK _ _ _ _ hi,List.getElem_append_left (by rw[aJ];simpa using hi)]
  rw[List.getElem?_eq_getElem (by rw[aJ];simpa using hi)]at h6
  simp only[Array.getElem_toList]at h6
  rw[getElem!_pos dk (i / 3) h5,List.getElem!_eq_getElem?_getD,<-h6];rfl
 rw[if_neg hi,List.getElem_append_right (by rw[aJ];omega),List.getElem_append_right (by rw[aJ];simp;omega)]
 simp[aJ,hs]
theorem FK{w:World}{G cap:Nat}{l:List Hl}(h:jC w G cap l)(m:Nat)(dk:Array Hl)(os:Array Obj)(hs:dk.size=l.length):jC (sortWorldK kU 3 w G 0 m dk os) G cap dk.toList:=by
 obtain⟨rest,h1,h2⟩:=h.ex;have hG:=h.lt;refine⟨⟨rest,?_,by simp[hs];omega⟩,by simp[hs];exact h.room,h.most⟩
 unfold sortWorldK grow putRowK putRow mapBlock Go.Sort.ahead;simp only
 rw[Array.getElem?_append_left (by simpa using hG),Array.getElem?_modify,if_pos rfl,h1]
 simp only[Option.map_some,onCells]
 rw[FJ l dk rest hs]
theorem FL{w:World}{G:Nat}(m:Nat)(dk:Array Hl)(os:Array Obj):Fp (λk=>k=G) w (sortWorldK kU 3 w G 0 m dk os):=by
 refine⟨rfl,rfl,rfl,?_,λk hk hS=>?_⟩
 ·unfold sortWorldK grow putRowK putRow mapBlock Go.Sort.ahead;simp
 unfold sortWorldK grow putRowK putRow mapBlock Go.Sort.ahead;simp only
 rw[Array.getElem?_append_left (by simpa using hk),Array.getElem?_modify,if_neg (λe=>hS e.symm)]
theorem C7{w:World}{G cap:Nat}{l:List Hl}(h:jC w G cap l):HoldsK kU 3 w G 0 l.toArray:=by
 intro j hj;simp only[size_flatK,List.size_toArray]at hj
 rw[Nat.zero_add];refine⟨?_,h.frozen j⟩;have h5:j / 3<l.length:=by omega
 have h6:=h.cell (j / 3) (j % 3) h5 (by omega)
 rw[show j / 3*3+j % 3=j by omega]at h6
 rw[h6,get_flatK _ _ _ _ (by simpa using hj)]
 simp only[id]
 rw[getElem!_pos l.toArray (j / 3) (by simpa using h5)]
 simp only[List.getElem_toArray]
 rw[List.getElem!_eq_getElem?_getD];have h7:j % 3<(kU l[j / 3]).length:=by rw[fC];omega
 rw[List.getElem?_eq_getElem h7];rfl
theorem uB{l:List Hl}{d':Array Hl}(hs:d'.size=l.length)(h:SortedIn (ltOf wN) 0 l.length d'):BP d'.toList:=by
 intro i j hi hj jR;have Vl:i<d'.size:=by simpa using hi
 have MF:j<d'.size:=by simpa using hj
 have:=h i j (Nat.zero_le _) jR (by omega)
 rw[pD,getElem!_pos d' j MF,getElem!_pos d' i Vl]at this;simpa using this
theorem FM{l:List Hl}{d':Array Hl}(h:PermIn 0 l.toArray.size l.toArray d'):d'.size=l.length/\d'.toList.Perm l:=by
 obtain⟨h1,_,h3⟩:=h;have ZX:d'.size=l.length:=by simpa using h1
 refine⟨ZX,?_⟩;have e1:(d'.extract 0 l.toArray.size)=d':=by rw[show l.toArray.size=d'.size by simp[ZX]];simp
 have e2:(l.toArray.extract 0 l.toArray.size)=l.toArray:=by simp
 rw[e1,e2]at h3;exact h3
theorem C9(x y:Hl)(W:World):
  Calls prog 250 #[lF x,lF y] W λe w'=>e=.returned (.int .i64 (wN x y))/\∃q os',w'=grow (W.drewN q) os':=by
 obtain⟨d,t,a⟩:=x;obtain⟨d',t',a'⟩:=y;unfold lF au wN;have hc:=λw=>qf d d' w
 have HC:=zI hc;clear hc;go_enter func250,ntmps250
 go_wp2_with fail
 refine(HC _).mono ?_;rintro e w1⟨rfl,rfl⟩;go_wp2;go_ret;exact⟨rfl,0,_,by rw[alloc_eq_grow,alloc_eq_grow,grow_grow];rfl⟩
structure Xb(w:World)(G cap:Nat)(l:List Hl)(w':World):Prop where
 ex:∃l',jC w' G cap l'/\l'.Perm l/\BP l'
 fp:Fp (λk=>k=G) w w'
theorem Ob(w:World)(G cap:Nat)(l:List Hl)(h:jC w G cap l)(hl:l.length<=1000000):
  Calls prog 249 #[.slice (some ⟨G,0,none⟩) l.length cap,.func (.func 250) #[] #[]] w λe w'=>e=.returned (.tuple #[])/\Xb w G cap l w':=by
 have eg:∀args w,(callFunc 250 args).run prog w=.ok (.enter 250 args) w:=enters_of func250 (by kernel_rfl) rfl
 have zE:CmpLays prog 250 #[] kU 3 wN G 0 l.toArray.size w:=λ_ _ _ _ x y=>C9 x y _
 have h1:∀x,∀v∈kU x,v.oneCell'=true:=λx v hv=>by
  simp only[kU,List.mem_cons,List.not_mem_nil,or_false]at hv
  rcases hv with rfl|rfl|rfl<;>rfl
 have eQ:=AnyQ.slices_SortFunc Tryz.sortN 3 Tryz.isAgg62 Tryz.sizeOf62 kU fC h1 wN FI 250 #[] G 0 cap l.toArray w eg zE (C7 h) h.lt (by simp;omega)
 simp only[List.size_toArray]at eQ
 refine Calls.mono (show Calls prog 249 _ _ _ from eQ) ?_;rintro e w'⟨he,d',n,os,hp,hs,rfl⟩;have MG:PermIn 0 l.toArray.size l.toArray d':=by simpa using hp
 obtain⟨k1,k2⟩:=FM MG;exact⟨he,⟨d'.toList,FK h n d' os k1,k2,uB k1 hs⟩,FL n d' os⟩
theorem zF(w:World)(fv:Value):
  Calls prog 249 #[.slice none 0 0,fv] w λe w'=>e=.returned (.tuple #[])/\w'=w:=
 AnyF.slices_SortFunc_none Tryz.sortN none 0 fv w
theorem wO(w:World)(lo:Nat)(v:Value)(l:List Hl)(x:Hl)(ty:TypeId)(hv:gg lo w v l)(h6:l.length<=99999)(bq:lo<=w.heap.size):
  ∃v' w',(Builtin.append_ #[yW,yW] ty #[v,.slice (some ⟨w.heap.size,0,none⟩) 1 1]).run prog (w.alloc (.cells #[au x.d,.int .i64 x.t,.int .i64 x.a] TH))=.ok v' w'/\RA lo w v (l++[x]) v' w':=by
 have hf:Fp ab w (w.alloc (.cells #[au x.d,.int .i64 x.t,.int .i64 x.a] TH)):=aa w _;have hb:=heap_alloc_new w (.cells #[au x.d,.int .i64 x.t,.int .i64 x.a] TH);have db:=hf.size
 obtain⟨v',w',hr,h1,h2,h3⟩:=wP (w.alloc (.cells #[au x.d,.int .i64 x.t,.int .i64 x.a] TH)) lo v l [x] ty ⟨w.heap.size,0,none⟩ 1 1 (hv.af hf) rfl (λi hi j u hu=>by
  have:i=0:=by simpa using hi
  subst this;rw[Addr.add_lit,cell_of_row _ _ _ _ _ _ hb];rw[show 0+(0*3+j)=j from by omega]
  simpa[kU]using hu) (by simp;omega) (Nat.le_trans bq hf.size)
 refine⟨v',w',hr,h1,hf.any.grown h2 (λk hk=>.inl hk),λk hk=>?_⟩
 rcases h3 k hk with h|h
 ·exact .inl h
 exact .inr (Nat.le_trans db h)
theorem FN(l:List Hl)(t:Int)(ds:List Bs)(k:Nat)(h:k<l.length):eY (l.take (k+1)) t ds=eY (l.take k) t ds++(if l[k].d∈ds/\l[k].t≠t then [l[k]] else []):=by
 unfold eY;rw[List.take_succ_eq_append_getElem h,List.filter_append];congr 1
 by_cases c:l[k].d∈ds/\l[k].t≠t
 ·rw[if_pos c,List.filter_cons_of_pos (by rw[decide_eq_true_eq];exact c)];rfl
 rw[if_neg c,List.filter_cons_of_neg (by rw[decide_eq_true_eq];exact c)];rfl
theorem FO(v vd:Value)(l:List Hl)(t:Int)(ds:List Bs)(w:World)(hv:di w v l)(hd:uC w vd ds)(hu:Up ds)(hn:l.length<=90000)(hm:ds.length<=1000000):
  Calls prog 177 #[v,.int .i64 t,vd] w λe w'=>∃v',e=.returned v'/\Qz w (eY l t ds) v' w':=by
 obtain⟨ao,cap,rfl⟩:=hv.shape;obtain⟨ad,cd,rfl⟩:=hd.shape;have FP:=λp W (hW:uC W (.slice ad ds.length cd) ds)=>Da _ ds p W hW hu hm
 obtain⟨n,aR⟩:∃n,n=l.length:=⟨_,rfl⟩;generalize ds.length=m at *;have HX:=zI (yI aR (yI hv (yI hd FP)));rw[<-aR];have jS:n<=90000:=by omega
 have H0:Hid (gg w.heap.size w (.slice none 0 0) (eY (l.take 0) t ds)/\Fp ab w w):=⟨gg.nil _ _,Fp.refl _ _⟩;clear hv hn aR hd hu FP hm;go_enter func177,ntmps177
 go_wp2_with fail
 go_loopw [7,14] (λd i wr=>∃k:Nat,k<=n/\i=.int .i64 k/\Hid (gg w.heap.size wr d (eY (l.take k) t ds)/\Fp ab w wr)) (λ_ i _=>n-(RowKit.intOf i).toNat)
 case atStart=>exact⟨0,Nat.zero_le _,rfl,H0⟩
 clear H0;obtain⟨k,hk,rfl,hR⟩:=hrel;rename_i wr _
 by_cases ay:k<n
 ·have aS:k<l.length:=by rw[<-HX.1];exact ay
  obtain⟨g,o,aY,e,_,_,_,aq⟩:=HX.2.1.at (by omega)
  injection e with e1 e2 e3
  subst e1 e3;clear e2;have aE:=(aq k aS).keep hR.2 id;have aN:=FN l t ds k aS;have RB:(eY (l.take k) t ds).length<=k:=Nat.le_trans (List.length_filter_le _ _) (by rw[List.length_take];omega)
  obtain⟨x,hx⟩:∃x,x=l[k]:=⟨_,rfl⟩;rw[<-hx]at aE aN;clear hx aq;obtain⟨xd,xt,xa⟩:=x;have c0:=aE.c0;have c1:=aE.c1;have c2:=aE.c2;unfold au at c0;simp only at c0 c1 c2 aN
  have fB:=heap_alloc_new wr (.cells #[.string (B xd),.int .i64 xt,.int .i64 xa] TH);have iB:=aa wr (.cells #[.string (B xd),.int .i64 xt,.int .i64 xa] TH);have q3:((k:Int)<(n:Int))=True:=eq_true (by omega)
  have q4:(k<n)=True:=eq_true ay;have HB:=zI (yI fB (yI iB (yI ay (yI aN RB))));have b0:(wr.alloc (.cells #[.string (B xd),.int .i64 xt,.int .i64 xa] TH)).cell? ⟨wr.heap.size,0,none⟩=some (.string (B xd)):=by rw[cell_of_row _ _ _ _ _ _ fB];rfl
  have jc:=HX.2.2.2 xd (wr.alloc (.cells #[.string (B xd),.int .i64 xt,.int .i64 xa] TH)) (HX.2.2.1.af (hR.2.then iB));have HS:=zI jc;have Jk:=hR.1.low;have Xc:=zI Jk;clear aE aS fB iB aN jc ay RB Jk;go_wp2_with fail
  refine HS.mono ?_;rintro e w1⟨⟨z,rfl⟩,cv⟩;have r1:=cv.heap HB.1 id;have p0:w1.cell? ⟨wr.heap.size,0,none⟩=some (.string (B xd)):=by rw[cell_of_row _ _ _ _ _ _ r1];rfl
  have p1:w1.cell? ⟨wr.heap.size,1,none⟩=some (.int .i64 xt):=by rw[cell_of_row _ _ _ _ _ _ r1];rfl
  have p2:w1.cell? ⟨wr.heap.size,2,none⟩=some (.int .i64 xa):=by rw[cell_of_row _ _ _ _ _ _ r1];rfl
  have HF:=zI (HB.2.1.then cv);clear r1 cv b0;by_cases eK:xd∈ds
  ·rw[decide_eq_true eK]
   by_cases bA:xt=t
   ·have q5:(xt == t)=true:=beq_iff_eq.2 bA
    have hM:Hid (gg w.heap.size w1 u7 (eY (l.take (k+1)) t ds)/\Fp ab w w1):=⟨by rw[HB.2.2.2.1,if_neg (λh=>h.2 bA),List.append_nil];exact hR.1.af HF.out,hR.2.then HF.out⟩
    have eJ:=HB.2.2.1;clear bA eK;go_wp2;go_roundw
    case rel=>exact⟨k+1,by omega,by go_num,hM⟩
    case measure=>simp[RowKit.intOf];omega
   have q5:(xt == t)=false:=beq_eq_false_iff_ne.2 bA;have bM:=wO w1 w.heap.size u7 _ ⟨xd,xt,xa⟩ yW (hR.1.af HF.out) (by have:=HB.2.2.2.2;omega) (hR.2.then HF.out).size
   rw[show(⟨xd,xt,xa⟩:Hl).d=xd from rfl]at bM;unfold au at bM;have HA:=zI bM;have HN:=zI (yI eK bA);clear bM bA eK;go_wp2_with (at_builtin;go_must (refine aG rfl _ _ _ _ rfl _ _ rfl rfl _ HA.out ?_))
   intro v' w' hA;have hM:Hid (gg w.heap.size w' v' (eY (l.take (k+1)) t ds)/\Fp ab w w'):=⟨by rw[HB.2.2.2.1,if_pos HN.out];exact hA.own,(hR.2.then HF.out).trans hA.fp (λj hj=>.inr (Xc j hj))⟩
   have eJ:=HB.2.2.1;clear hA HA;go_wp2;go_roundw
   case rel=>exact⟨k+1,by omega,by go_num,hM⟩
   case measure=>simp[RowKit.intOf];omega
  rw[decide_eq_false eK];have hM:Hid (gg w.heap.size w1 u7 (eY (l.take (k+1)) t ds)/\Fp ab w w1):=⟨by rw[HB.2.2.2.1,if_neg (λh=>eK h.1),List.append_nil];exact hR.1.af HF.out,hR.2.then HF.out⟩
  have eJ:=HB.2.2.1;clear eK;go_wp2;go_roundw
  case rel=>exact⟨k+1,by omega,by go_num,hM⟩
  case measure=>simp[RowKit.intOf];omega
 have cV:k=n:=by omega
 subst cV;have q3:((k:Int)<(k:Int))=False:=eq_false (by omega)
 have hO:=hR.out;rw[HX.1,List.take_length]at hO;have HR:Hid (Qz w (eY l t ds) u7 wr):=⟨hO.1,hO.2⟩;clear ay hk hO;go_wp2;go_ret;exact⟨_,rfl,HR.out⟩
def lH(l:List Hl)(t a:Int)(ds:List Bs):List Hl:=l++(ds.filter (λd=>decide (d∉l.map Hl.d))).map (λd=>⟨d,t,a⟩)
theorem Db(l:List Hl)(t a:Int)(ds:List Bs)(k:Nat)(h:k<ds.length):lH l t a (ds.take (k+1))=lH l t a (ds.take k)++(if ds[k]∉l.map Hl.d then [⟨ds[k],t,a⟩] else []):=by
 unfold lH;rw[List.take_succ_eq_append_getElem h,List.filter_append,List.map_append,List.append_assoc];congr 2
 by_cases c:ds[k]∉l.map Hl.d
 ·rw[if_pos c,List.filter_cons_of_pos (by rw[decide_eq_true_eq];exact c)];rfl
 rw[if_neg c,List.filter_cons_of_neg (by rw[decide_eq_true_eq];exact c)];rfl
theorem wQ(l:List Hl)(t a:Int)(ds:List Bs):(lH l t a ds).length<=l.length+ds.length:=by
 unfold lH;rw[List.length_append,List.length_map];exact Nat.add_le_add_left (List.length_filter_le _ _) _
theorem Dc{l:List Hl}{t a:Int}{ds:List Bs}(hu:kB l)(hd:Up ds)(ho:∀y∈l,y.d∈ds->y=⟨y.d,t,a⟩){l':List Hl}(hp:l'.Perm (lH l t a ds))(ha:BP l'):l'=jD l t a ds:=by
 have aE:(lH l t a ds).Pairwise (λx y=>x.d≠y.d):=by
  unfold lH;rw[List.pairwise_append];refine⟨hu.imp (λh=>gY h),?_,?_⟩
  ·rw[List.pairwise_map]
   exact(hd.filter _).imp (λ{a b} h=>gY h)
  intro x hx y hy;obtain⟨d,hd,rfl⟩:=List.mem_map.1 hy;have:=(List.mem_filter.1 hd).2;rw[decide_eq_true_eq]at this;exact λe=>this (List.mem_map.2 ⟨x,hx,e⟩)
 have RC:l'.Pairwise (λx y=>x.d≠y.d):=(List.Perm.pairwise_iff (λ{a b} h=>Ne.symm h) hp).2 aE
 refine BQ hu ho ?_ ?_
 ·show List.Pairwise _ _
  rw[List.pairwise_iff_getElem]at RC|-;intro i j hi hj jR;exact lr (ha i j hi hj jR) (Ne.symm (RC i j hi hj jR))
 intro x;rw[hp.mem_iff];unfold lH;rw[List.mem_append,List.mem_map];constructor
 ·rintro(h|⟨d,h,rfl⟩)
  ·exact .inl h
  exact .inr ⟨(List.mem_filter.1 h).1,rfl⟩
 rintro(h|⟨h,e⟩)
 ·exact .inl h
 by_cases c:x.d∈l.map Hl.d
 ·obtain⟨y,hy,e2⟩:=List.mem_map.1 c
  have:=ho y hy (by rw[e2];exact h)
  rw[e2,<-e]at this;subst this;exact .inl hy
 exact .inr ⟨x.d,List.mem_filter.2 ⟨h,by rw[decide_eq_true_eq];exact c⟩,e.symm⟩
theorem FQ{lo:Nat}{w:World}{v:Value}{l:List Hl}(h:gg lo w v l)(hl:l.length<=1000000):
  Calls prog 249 #[v,.func (.func 250) #[] #[]] w λe w'=>e=.returned (.tuple #[])/\∃l',gg lo w' v l'/\l'.Perm l/\BP l'/\Fp (λk=>v.ownBlock=some k) w w':=by
 rcases h.ways with⟨rfl,rfl⟩|⟨G,cap,rfl,h1,h2⟩
 ·refine(zF w _).mono ?_
  rintro e w'⟨rfl,rfl⟩;exact⟨rfl,[],gg.nil _ _,List.Perm.refl _,λi j hi=>absurd hi (Nat.not_lt_zero i),Fp.refl _ _⟩
 refine(Ob w G cap l h1 hl).mono ?_;rintro e w'⟨rfl,hR⟩;obtain⟨l',h3,h4,h5⟩:=hR.ex;refine⟨rfl,l',?_,h4,h5,hR.fp.mono (λk hk=>by rw[hk];rfl)⟩
 have:=gg.row h3 h2;rw[h4.length_eq]at this;exact this
theorem Oc(v vd:Value)(l:List Hl)(t a:Int)(ds:List Bs)(w:World)(hv:di w v l)(hd:uC w vd ds)(hu:kB l)(ZY:Up ds)(ho:∀y∈l,y.d∈ds->y=⟨y.d,t,a⟩)(hn:l.length<=30000)(hm:ds.length<=30000):
  Calls prog 180 #[v,.int .i64 t,.int .i64 a,vd] w λe w'=>∃v',e=.returned v'/\Qz w (jD l t a ds) v' w':=by
 obtain⟨ao,cap,rfl⟩:=hv.shape;obtain⟨ad,cd,rfl⟩:=hd.shape;have cC:=λp W (f:Fp ab w W)=>FR _ l p W (hv.af f) (Od hu) (by omega)
 have dN:=lI _ l w hv (by omega)
 obtain⟨n,aR⟩:∃n,n=l.length:=⟨_,rfl⟩;obtain⟨m,jE⟩:∃m,m=ds.length:=⟨_,rfl⟩;rw[<-aR]at cC dN|-;rw[<-jE]at hd|-;have HX:=zI (yI aR (yI jE (yI hd (yI hu (yI ZY (yI ho cC))))));have HC:=zI dN;have jS:n<=30000/\m<=30000:=by omega
 clear hv hn aR hd hu ZY ho cC hm jE dN;go_enter func180,ntmps180
 go_wp2_with fail
 refine HC.mono ?_;rintro e w0⟨v0,rfl,hC⟩;have H0:Hid (gg w.heap.size w0 v0 (lH l t a (ds.take 0))/\Fp ab w w0):=⟨by unfold lH;simpa using hC.own,hC.fp⟩
 clear hC;go_wp2_with fail
 go_loopw [9,18] (λd i wr=>∃k:Nat,k<=m/\i=.int .i64 k/\Hid (gg w.heap.size wr d (lH l t a (ds.take k))/\Fp ab w wr)) (λ_ i _=>m-(RowKit.intOf i).toNat)
 case atStart=>exact⟨0,Nat.zero_le _,rfl,H0⟩
 clear H0;obtain⟨k,hk,rfl,hR⟩:=hrel;rename_i wr _
 by_cases ay:k<m
 ·have aS:k<ds.length:=by rw[<-HX.2.1];exact ay
  obtain⟨g,o,aY,e,aq⟩:=HX.2.2.1.dI (by omega)
  injection e with e1 e2 e3
  subst e1 e3;clear e2;have c0:=hR.2.cell (aq k aS) id;have aN:=Db l t a ds k aS;have RB:(lH l t a (ds.take k)).length<=n+k:=Nat.le_trans (wQ _ _ _ _) (by rw[List.length_take,<-HX.1];omega)
  obtain⟨x,hx⟩:∃x,x=ds[k]:=⟨_,rfl⟩;rw[<-hx]at c0 aN;clear hx aq;have q3:((k:Int)<(m:Int))=True:=eq_true (by omega)
  have q4:(k<m)=True:=eq_true ay;have jc:=HX.2.2.2.2.2.2 x wr hR.2;have HB:=zI (yI ay (yI aN RB));have HS:=zI jc;have Jk:=hR.1.low;have Xc:=zI Jk;clear aS aN jc ay RB Jk;by_cases eK:x∈l.map Hl.d
  ·rw[decide_eq_true eK]at HS
   have HN:=zI eK;clear eK;go_wp2_with fail
   refine HS.mono ?_;rintro e w1⟨⟨z,rfl⟩,cv⟩;have hM:Hid (gg w.heap.size w1 u9 (lH l t a (ds.take (k+1)))/\Fp ab w w1):=⟨by rw[HB.2.1,if_neg (λh=>h HN.out),List.append_nil];exact hR.1.af cv,hR.2.then cv⟩
   have eJ:=HB.1;clear cv;go_wp2;go_roundw
   case rel=>exact⟨k+1,by omega,by go_num,hM⟩
   case measure=>simp[RowKit.intOf];omega
  rw[decide_eq_false eK]at HS;have HN:=zI eK;clear eK;go_wp2_with fail
  refine HS.mono ?_;rintro e w1⟨⟨z,rfl⟩,cv⟩;have HF:=zI cv;have bM:=wO w1 w.heap.size u9 _ ⟨x,t,a⟩ yW (hR.1.af cv) (by have:=HB.2.2;omega) (hR.2.then cv).size
  rw[show(⟨x,t,a⟩:Hl).d=x from rfl]at bM;unfold au at bM;have HA:=zI bM;clear bM cv;go_wp2_with (at_builtin;go_must (refine aG rfl _ _ _ _ rfl _ _ rfl rfl _ HA.out ?_))
  intro v' w' hA;have hM:Hid (gg w.heap.size w' v' (lH l t a (ds.take (k+1)))/\Fp ab w w'):=⟨by rw[HB.2.1,if_pos HN.out];exact hA.own,(hR.2.then HF.out).trans hA.fp (λj hj=>.inr (Xc j hj))⟩
  have eJ:=HB.1;clear hA HA;go_wp2;go_roundw
  case rel=>exact⟨k+1,by omega,by go_num,hM⟩
  case measure=>simp[RowKit.intOf];omega
 have cV:k=m:=by omega
 subst cV;have q3:((k:Int)<(k:Int))=False:=eq_false (by omega)
 have hO:=hR.out;rw[HX.2.1,List.take_length]at hO;have MH:=FQ hO.1 (by have:=wQ l t a ds;have:=HX.1;have:=HX.2.1;omega)
 have Jk:=hO.1.low;have HS:=zI (yI MH (yI Jk hO.2));clear ay hk hO MH Jk hR;go_wp2_with fail
 refine HS.1.mono ?_;rintro e w1⟨rfl,l',h1,h2,h3,h4⟩;have e9:=Dc HX.2.2.2.1 HX.2.2.2.2.1 HX.2.2.2.2.2.1 h2 h3;subst e9;have HR:Hid (Qz w (jD l t a ds) u9 w1):=⟨h1,HS.2.2.trans h4 (λj hj=>.inr (HS.2.1 j hj))⟩
 clear h1 h2 h3 h4;go_wp2;go_ret;exact⟨_,rfl,HR.out⟩
end
section
open Go.RowKit Pm
theorem J1(l:List Hl)(t a:Int):(!l.any (λx=>decide (x.t=t/\x.a≠a)))=l.all (λx=>decide (x.t=t->x.a=a)):=by
 induction l with
 |nil=>rfl
 |cons x l ih=>
  rw[List.any_cons,List.all_cons,Bool.not_or,ih];congr 1
  by_cases h1:x.t=t<;>by_cases h2:x.a=a<;>simp[h1,h2]
theorem RD(v vd:Value)(l:List Hl)(t a:Int)(ds:List Bs)(w:World)(hv:di w v l)(hs:zG l)(hd:uC w vd ds)(MI:Oe ds)(hn:l.length<=1000000)(hm:ds.length<=1000000):
  Calls prog 176 #[v,.int .i64 t,.int .i64 a,vd] w λe w'=>e=.returned (.bool (zH l t a ds))/\Fp ab w w':=by
 obtain⟨ao,cap,rfl⟩:=hv.shape;obtain⟨ad,cd,rfl⟩:=hd.shape;have f1:=aa w (.cells #[.int .i64 t] TI);have r1:=heap_alloc_new w (.cells #[.int .i64 t] TI);have f2:=aa (w.alloc (.cells #[.int .i64 t] TI)) (.cells #[.int .i64 a] TI);have r2:=heap_alloc_new (w.alloc (.cells #[.int .i64 t] TI)) (.cells #[.int .i64 a] TI);have sz:(w.alloc (.cells #[.int .i64 t] TI)).heap.size=w.heap.size+1:=by simp
 rw[sz]at r2;have F2:=zI (f1.then f2);have k1:=mx (f2.heap r1 id);have k2:=mx r2;have pC:=λW (f:Fp ab w W)=>wR _ ds W (hd.af f) MI hm
 have JP:=λW (f:Fp ab ((w.alloc (.cells #[.int .i64 t] TI)).alloc (.cells #[.int .i64 a] TI)) W)=>oy _ _ l _ W (hv.af (F2.then f)) hs (Of W w.heap.size (w.heap.size+1) t a (f.cell k1 id) (f.cell k2 id) ab id id) hn
 have e:zH l t a ds=(eZ t && eZ a && ds.all nF && !l.any (λx=>decide (x.t=t/\x.a≠a))):=by rw[J1];rfl
 rw[e];generalize l.length=n at *;generalize ds.length=m at *;generalize ds.all nF=b3 at *;generalize l.any (λx=>decide (x.t=t/\x.a≠a))=b4 at *
 have HC:=zI (yI pC JP);have h1:=λW=>my t W
 have h2:=λW=>my a W
 generalize eZ t=b1 at *;generalize eZ a=b2 at *;have HN:=zI (yI h1 h2);clear h1 h2 pC JP hv hd hs MI hn hm e f1 r1 f2 r2 sz;go_enter func176,ntmps176
 go_wp2_with fail
 refine(HN.1 _).mono ?_;rintro e w1⟨rfl,rfl⟩;cases b1 with
 |false=>
  go_wp2;go_ret;exact⟨rfl,F2.out⟩
 |true=>?_
 go_wp2_with fail
 refine(HN.2 _).mono ?_;rintro e w1⟨rfl,rfl⟩;cases b2 with
 |false=>
  go_wp2;go_ret;exact⟨rfl,F2.out⟩
 |true=>?_
 go_wp2_with fail
 refine(HC.1 _ F2.out).mono ?_;rintro e w2⟨rfl,hf⟩;have HF:=zI hf;clear hf;cases b3 with
 |false=>
  go_wp2;go_ret;exact⟨rfl,F2.then HF.out⟩
 |true=>?_
 go_wp2_with fail
 refine(HC.2 _ HF.out).mono ?_;rintro e w3⟨rfl,hf⟩;have HG:=zI ((F2.then HF.out).then hf);clear hf;go_wp2;go_ret;exact⟨rfl,HG.out⟩
theorem FT{p:Bs}(h:nF p=true):p.length<=100:=by
 obtain⟨ps,dH⟩:=Option.isSome_iff_exists.1 h;obtain⟨hP,e⟩:=(bL _ _).1 dH;have h1:=hP.lens;have h2:=hP.1;rw[<-e]
 have:(gB ps).length<=1+ps.length+Pm.lens ps:=by
  cases ps with
  |nil=>simp[gB,jn]
  |cons a r=>rw[gC,iG];omega
 omega
theorem Pm.zJ.sp{l:List Hl}(h:zJ l):zG l:=λx hx=>by
 have h1:=h.ok x hx;unfold FU at h1;simp only[Bool.and_eq_true]at h1
 have:=FT h1.1.1;omega
structure RE(l:List Hl)(t a:Int)(ds:List Bs)(w:World)(e:Ending)(w':World):Prop where
 ex:∃v' vn,e=.returned (.tuple #[v',vn,.bool (eE l t a ds).2.2])/\di w' v' (eE l t a ds).1/\∃lo,J2 lo w' vn (eE l t a ds).2.1
 fp:Fp ab w w'
theorem uD{l:List Hl}{t:Int}{ds:List Bs}{x:Hl}(h:x∈eY l t ds):x∈l:=(List.mem_filter.1 h).1
theorem J3(l:List Hl)(t:Int)(ds:List Bs):eY l t (gG ds)=eY l t ds:=by
 unfold eY;refine List.filter_congr λx _=>?_
 rw[Bool.eq_iff_iff,decide_eq_true_eq,decide_eq_true_eq,gI]
theorem FV{l:List Hl}{t a:Int}{ds:List Bs}(hu:kB l)(ho:∀y∈l,y.d∈ds->y=⟨y.d,t,a⟩):jD l t a (gG ds)=jD l t a ds:=
 BQ hu ho (BR hu) (λx=>by rw[wS (λy hy hd=>ho y hy (gI.1 hd)),gI])
theorem uE(ds:List Bs):(gG ds).length<=ds.length:=
 BS ((pE ds).imp (λh=>gY h)) (λx hx=>gI.1 hx)
theorem Og(v vd:Value)(l:List Hl)(t a:Int)(ds:List Bs)(w:World)(hv:di w v l)(hs:zG l)(hd:uC w vd ds)(MI:Oe ds)(hn:l.length<=30000)(hm:ds.length<=30000):
  Calls prog 126 #[v,.int .i64 t,.int .i64 a,vd] w (RE l t a ds w):=by
 obtain⟨ao,cap,rfl⟩:=hv.shape;obtain⟨ad,cd,rfl⟩:=hd.shape;have iL:=λW (f:Fp ab w W)=>FX _ l W (hv.af f) hs (by omega)
 have RF:=λW (f:Fp ab w W)=>RD _ _ l t a ds W (hv.af f) hs (hd.af f) MI (by omega) (by omega)
 have dN:=λW (f:Fp ab w W)=>wT _ ds W (hd.af f) (by omega)
 obtain⟨br,aK⟩:∃b,lJ l=b:=⟨_,rfl⟩;obtain⟨bm,Dd⟩:∃b,zH l t a ds=b:=⟨_,rfl⟩;rw[aK]at iL;rw[Dd]at RF;have ZZ:eE l t a ds=if br=true/\bm=true then (if eY l t ds=[] then (jD l t a ds,[],true) else (l,J4 l t a ds,false)) else ([],[],false):=by unfold eE;rw[aK,Dd]
 obtain⟨n,aR⟩:∃n,n=l.length:=⟨_,rfl⟩;obtain⟨m,jE⟩:∃m,m=ds.length:=⟨_,rfl⟩;rw[<-aR]at hv iL RF|-;rw[<-jE]at hd RF dN|-;have HX:=zI (yI aR (yI jE (yI hv (yI hd (yI aK Dd)))));have HT:=zI ZZ;have HC:=zI (yI iL (yI RF dN));have jS:n<=30000/\m<=30000:=by omega
 have Jl:=zI hs;clear hv hs hd MI hn hm aR jE iL RF dN ZZ aK Dd;go_enter func126,ntmps126
 go_wp2_with fail
 refine(HC.1 _ (Fp.refl _ _)).mono ?_;rintro e w1⟨rfl,cv⟩;have F1:=zI cv;clear cv;cases br with
 |false=>
  have hR:Hid (RE l t a ds w (.returned (.tuple #[.slice none 0 0,.slice none 0 0,.bool false])) w1):=⟨by rw[HT.out,if_neg (λh=>by cases h.1)];exact⟨_,_,rfl,di.nil w1,0,dT.nil 0 w1⟩,F1.out⟩
  clear HT;go_wp2;refine bodyPost_ret (v:=.tuple #[.slice none 0 0,.slice none 0 0,.bool false]) (by simp[results,results126,go_sem]) rfl ?_
  exact hR.out
 |true=>?_
 go_wp2_with fail
 refine(HC.2.1 _ F1.out).mono ?_;rintro e w2⟨rfl,bY⟩;have F2:=zI (F1.then bY);clear bY;cases bm with
 |false=>
  have hR:Hid (RE l t a ds w (.returned (.tuple #[.slice none 0 0,.slice none 0 0,.bool false])) w2):=⟨by rw[HT.out,if_neg (λh=>by cases h.2)];exact⟨_,_,rfl,di.nil w2,0,dT.nil 0 w2⟩,F2.out⟩
  clear HT;go_wp2;refine bodyPost_ret (v:=.tuple #[.slice none 0 0,.slice none 0 0,.bool false]) (by simp[results,results126,go_sem]) rfl ?_
  exact hR.out
 |true=>?_
 have C0:zJ l:=(lK l).1 HX.2.2.2.2.1;have HR:=zI C0;clear C0;go_wp2_with fail
 refine(HC.2.2 _ F2.out).mono ?_;rintro e w3⟨v3,rfl,h3⟩;have eK:=td h3.own (by have:=HX.2.1;omega)
 have RG:=h3.own.lt;have H3:=zI (yI eK (yI RG (F2.then h3.fp)));have bq:=F2.size;clear eK RG h3;go_wp2_with fail
 refine H3.1.mono ?_;rintro e w4⟨v4,rfl,h4⟩;have FY:Fp ab w w4:=H3.2.2.trans h4.fp (λj hj=>.inr (Nat.le_trans bq (H3.2.1 j hj).1))
 have Jp:uC w4 v4 (gG ds):=dT.sg mz h4.own;have Jq:=FO _ v4 l t (gG ds) w4 (HX.2.2.1.af FY|> λh=>by rw[HX.1]at h;exact h) Jp (pE ds) (by have:=HX.1;omega) (by have:=uE ds;have:=HX.2.1;omega)
 rw[J3,<-HX.1]at Jq;have H4:=zI (yI FY (yI Jp Jq));clear FY Jp Jq h4 bq;go_wp2_with fail
 refine H4.2.2.mono ?_;rintro e w5⟨v5,rfl,h5⟩;have J5:=h5.own.ns;have rL:=H4.1.then h5.fp;obtain⟨a5,c5,rfl⟩:=J5.shape;have Oh:=h5.fp;have H5:=zI (yI J5 rL);obtain⟨k5,QA⟩:∃k,k=(eY l t ds).length:=⟨_,rfl⟩;rw[<-QA];clear h5 rL;by_cases hw:eY l t ds=[]
 ·have nC:k5=0:=by rw[QA,hw];rfl
  subst nC;have wK:=Oc _ v4 l t a (gG ds) w5 (HX.2.2.1.af H5.2|> λh=>by rw[HX.1]at h;exact h) (H4.2.1.af Oh) HR.up (pE ds) (λy hy hd=>FZ HX.2.2.2.2.2 hw y hy (gI.1 hd)) (by have:=HX.1;omega) (by have:=uE ds;have:=HX.2.1;omega)
  rw[FV HR.up (FZ HX.2.2.2.2.2 hw),<-HX.1]at wK;have HW:=zI (yI wK hw);clear wK hw QA J5 Oh;go_wp2_with fail
  refine HW.1.mono ?_;rintro e w6⟨v6,rfl,h6⟩;have hR:Hid (RE l t a ds w (.returned (.tuple #[v6,.slice none 0 0,.bool true])) w6):=⟨by rw[HT.out,if_pos (by simp),if_pos HW.2];exact⟨_,_,rfl,h6.own.ns,0,dT.nil 0 w6⟩,H5.2.then h6.fp⟩
  clear h6 HT;go_wp2;refine bodyPost_ret (v:=.tuple #[v6,.slice none 0 0,.bool true]) (by simp[results,results126,go_sem]) rfl ?_
  exact hR.out
 have nC:(0<k5)=True:=eq_true (by rw[QA];exact List.length_pos_iff.2 hw)
 have vR:((0:Int)<(k5:Int))=True:=eq_true (by have:=of_eq_true nC;omega)
 have HW:=zI (yI hw QA);clear hw QA J5 Oh;go_wp2_with fail
 refine(rV t a w5).mono ?_;intro e w6 h6;obtain⟨kf,fi,fc,rfl,iH⟩:=h6.pd;have F0:=h6.fp
 have RH:∀x∈eY l t ds,eZ x.t=true:=λx hx=>by
  have h:=HR.ok x (uD hx);unfold FU at h;simp only[Bool.and_eq_true]at h
  exact h.1.2
 have Oi:=De _ _ (eY l t ds) _ w6 (H5.1.af F0) (λx hx=>HR.sp x (uD hx)) iH RH (by have:=List.length_filter_le (λx:Hl=>decide (x.d∈ds/\x.t≠t)) l;have:=HX.1;unfold eY;omega)
 rw[<-HW.2]at Oi
 have heq:qg (((eY l t ds).filter (λx=>iM x.a x.t a t)).map Hl.t)=J4 l t a ds:=by
  unfold J4;congr 2
  refine List.filter_congr λx hx=>?_
  have h:=HR.ok x (uD hx);unfold FU at h;simp only[Bool.and_eq_true]at h
  obtain⟨k1,k2,_⟩:=(BT _ _ _ _).1 HX.2.2.2.2.2;exact Df x k1 k2 h.1.2 h.2
 rw[heq]at Oi;have H6:=zI (yI Oi (H5.2.then F0));clear Oi F0 iH RH heq h6;go_wp2_with fail
 refine H6.1.mono ?_;rintro e w7⟨v7,rfl,h7⟩;have hR:Hid (RE l t a ds w (.returned (.tuple #[.slice ao n cap,v7,.bool false])) w7):=⟨by rw[HT.out,if_pos (by simp),if_neg HW.1];exact⟨_,_,rfl,HX.2.2.1.af (H6.2.then h7.fp),_,h7.own⟩,H6.2.then h7.fp⟩
 clear h7 HT;go_wp2;refine bodyPost_ret (v:=.tuple #[.slice ao n cap,v7,.bool false]) (by simp[results,results126,go_sem]) rfl ?_
 exact hR.out
end
end Go.Proofs.YtgafcelloiagmaaGreatDoor
