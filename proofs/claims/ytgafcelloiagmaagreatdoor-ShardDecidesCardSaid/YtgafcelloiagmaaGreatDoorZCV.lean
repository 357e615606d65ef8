/- A text of this proof. -/
import Derived.Test.YtgafcelloiagmaaGreatDoorZCL
import Derived.Test.YtgafcelloiagmaaGreatDoorZCQ
import Derived.Test.YtgafcelloiagmaaGreatDoorZCR
set_option maxHeartbeats 16000000
set_option linter.unusedSimpArgs false
set_option linter.unusedVariables false
set_option maxRecDepth 20000
namespace Go.Proofs.YtgafcelloiagmaaGreatDoor
open Go.Proofs.Tryz
section
open Go.RowKit Pm
def inC(n:Int):List Value:=[.int .i64 n]
def Cb(x:Pe):List Value:=.int .i64 x.op::jl x.p
theorem Me(n:Int):(inC n).length=1:=rfl
theorem Sg.block{α:Type}{enc:α->List Value}{k:Nat}(hk:∀x,(enc x).length=k){w:World}{g:Nat}{cs:Array Value}{T:TypeId}{l:List α}(h:w.heap[g]?=some (.cells cs T (0,0)))(pC:cs.toList=bC enc l)(c:Nat):
  Sg enc k w (.slice (some ⟨g,0,none⟩) l.length c) l:=by
 refine⟨_,c,rfl,.inr ⟨g,0,rfl,λi hi=>⟨λj v hv=>?_⟩⟩⟩
 have hj:j<k:=by rw[<-hk l[i]];exact(List.getElem?_eq_some_iff.1 hv).1
 rw[<-kI hk l i j hi hj,<-pC]at hv;rw[cell_of_row w g _ _ T (0,0) h,Nat.zero_add];rw[<-hv];simp
abbrev sr:TypeId:=49
def kg(c:Cd)(vp vn vt vg:Value):Array Value:=
 #[.int .i64 c.kind,.int .i64 c.id,.int .i64 c.bu,.int .i64 c.gX,.bool c.yes,vp,.string (B c.pre),.int .i64 c.ep,.int .i64 c.to,vn,vt,vg,.int .i64 c.ws,.int .i64 c.wn,.string (B c.wp),.bool c.deep]
structure PS(w:World)(v:Value)(c:Cd):Prop where
 ex:∃vp vn vt vg,v=.agg (kg c vp vn vt vg)/\Sg Cb 8 w vp c.ps/\Ns w vn c.st.nodes/\Ts w vt c.st.turns/\Tx w vg c.gone
theorem PS.af{w w':World}{v:Value}{c:Cd}(h:PS w v c)(f:Fp ab w w'):PS w' v c:=by
 obtain⟨vp,vn,vt,vg,e,h1,h2,h3,h4⟩:=h.ex;exact⟨vp,vn,vt,vg,e,h1.af f,h2.af f,h3.af f,h4.af f⟩
structure Fw(c:Cd):Prop where
 pre:c.pre.length<=1000000
 wp:c.wp.length<=1000000
 psn:c.ps.length<=1000000
 ps:∀x∈c.ps,x.p.dir.length<=1000000/\x.p.path.length<=1000000/\x.p.data.length<=1000000
 nn:c.st.nodes.length<=1000000
 nodes:∀x∈c.st.nodes,x.path.length<=1000000/\x.data.length<=1000000
 tn:c.st.turns.length<=1000000
 turns:∀x∈c.st.turns,x.dir.length<=1000000
 gn:c.gone.length<=1000000
 gone:∀x∈c.gone,x.length<=1000000
theorem Je(p:Bs)(w:World)(hl:p.length<=1000000):
  Calls prog 82 #[.string (B p)] w λe w'=>e=.returned (.bool (nO p))/\Fp ab w w':=by
 cases p with
 |nil=>
  go_enter func82,ntmps82
  go_wp2;go_ret;exact⟨rfl,Fp.refl _ _⟩
 |cons c r=>?_
 have hr:=cE (c::r) w (cH hl (by omega))
 have he:nO (c::r)=(split (c::r)).isSome:=by simp[nO]
 rw[he];generalize (split (c::r)).isSome=b at hr|-;have HR:=zI hr;clear hr he;go_enter func82,ntmps82
 go_wp2_with fail
 refine HR.mono ?_;rintro e w1⟨rfl,hg⟩;have HG:=zI hg.fp;clear hg;cases b<;>(go_wp2;go_ret;exact⟨rfl,HG.out⟩)
theorem Ez(v:Value)(l:List Int)(w:World)(hv:Sg inC 1 w v l)(hl:l.length<=1000000):
  Calls prog 81 #[v] w λe w'=>e=.returned (.bool (kt l))/\Fp ab w w':=by
 obtain⟨ao,cap,rfl⟩:=hv.shape;obtain⟨n,aR⟩:∃n,n=l.length:=⟨_,rfl⟩;obtain⟨r,hr⟩:∃r,kt l=r:=⟨_,rfl⟩
 have nM:(∀k (h:k<l.length),num l[k])->r=true:=λh=>by
  rw[<-hr];unfold kt;rw[List.all_eq_true];intro x hx;obtain⟨i,hi,rfl⟩:=List.getElem_of_mem hx;exact decide_eq_true (h i hi)
 have oN:∀k (h:k<l.length),¬num l[k]->r=false:=λk h hn=>by
  rw[<-hr];apply Bool.eq_false_iff.2;intro h2;unfold kt at h2;rw[List.all_eq_true]at h2;exact hn (of_decide_eq_true (h2 _ (List.getElem_mem h)))
 have HX:=zI (yI aR (yI hv (yI nM oN)));have jS:n<=1000000:=by omega
 rw[hr,<-aR];clear hv aR hr nM oN hl;go_enter func81,ntmps81
 go_wp2_with fail
 go_loopw [7] (λi wr=>∃k:Nat,k<=n/\i=.int .i64 k/\Hid (Fp ab w wr/\∀j (h:j<l.length),j<k->num l[j])) (λi _=>n-(RowKit.intOf i).toNat)
 case atStart=>exact⟨0,Nat.zero_le _,rfl,Fp.refl _ _,λj _ h=>absurd h (Nat.not_lt_zero j)⟩
 obtain⟨k,hk,rfl,hR⟩:=hrel;rename_i wr _
 by_cases ay:k<n
 ·have aS:k<l.length:=by rw[<-HX.1];exact ay
  obtain⟨g,o,aY,e,aq⟩:=HX.2.1.at (by omega)
  injection e with e1 e2 e3
  subst e1 e3;have c0:=((aq k aS).keep hR.1 id).get 0 _ rfl;simp only[Nat.mul_one,Nat.add_zero]at c0
  have cO:num l[k]->∀j (h:j<l.length),j<k+1->num l[j]:=λh j hj rJ=>by
   rcases Nat.lt_or_eq_of_le (show j<=k by omega) with e|e
   ·exact hR.2 j hj e
   subst e;exact h
  have cP:=HX.2.2.2 k aS;generalize l[k]=x at *;have q3:((k:Int)<(n:Int))=True:=eq_true (by omega)
  have q4:(k<n)=True:=eq_true ay;have HL:=zI (yI ay (yI cO cP));have eJ:=ay;clear aq aS ay cO cP;by_cases h1:x<0
  ·have t1:(x<0)=True:=eq_true h1
   have HN:=zI (HL.2.2 (λh=>by have:=h.1;omega))
   clear h1;go_wp2;go_ret;exact⟨by rw[HN.out];rfl,hR.1⟩
  have t1:(x<0)=False:=eq_false h1;by_cases h2:281474976710656<x
  ·have t2:(281474976710656<x)=True:=eq_true h2
   have HN:=zI (HL.2.2 (λh=>by have:=h.2;omega))
   clear h1 h2;go_wp2;go_ret;exact⟨by rw[HN.out];rfl,hR.1⟩
  have t2:(281474976710656<x)=False:=eq_false h2;have HN:=zI (HL.2.1 ⟨by omega,by omega⟩)
  clear h1 h2;go_wp2;go_roundw
  case rel=>exact⟨k+1,by omega,by go_num,hR.1,HN.out⟩
  case measure=>simp[RowKit.intOf];omega
 have cV:k=n:=by omega
 subst cV;have q3:((k:Int)<(k:Int))=False:=eq_false (by omega)
 have HT:=zI (HX.2.2.1 (λj h=>hR.2 j h (by rw[HX.1];exact h)))
 clear ay hk;go_wp2;go_ret;exact⟨by rw[HT.out];rfl,hR.1⟩
open Go.RowKit Pm Go.Maps Go.Sort Go.Shelf
abbrev TI:TypeId:=2
abbrev E3:TypeId:=284
abbrev U9:TypeId:=286
theorem lawI:Keyed prog TI:=int_keyed Tryz.underlying2
theorem Qo(n:Int)(h:eZ n=true):keyOf prog TI (.int .i64 n)=some (.int .i64 n):=keyOf_int_mk Tryz.underlying2 (WalkArith.wf_i64 (by unfold eZ tj at h;simp only[decide_eq_true_eq]at h;omega))
theorem Va(w:World):(zeroValue TI).run prog w=.ok (.int .i64 0) w:=by
 obtain⟨h,_⟩:(∀w,(zeroValue TI).run prog w=.ok (.int .i64 0) w)/\True:=⟨λw=>by kernel_rfl,trivial⟩
 exact h w
def RI:Value->Option (DataW Unit×List MemPlace)
 |.int .i64 n=>some (.lit (.int .i64 n),[])
 |_=>none
theorem Qp{v:Value}{z:DataW Unit×List MemPlace}(h:RI v=some z):∃n,v=.int .i64 n/\z=(.lit (.int .i64 n),[]):=by
 unfold RI at h;split at h
 ·rename_i n;exact⟨n,rfl,(Option.some.inj h).symm⟩
 cases h
def RU:Value->Option (DataW Unit×List MemPlace)
 |.agg _=>some (.lit (.bool true),[])
 |_=>none
theorem rG{i j:Int}(h:Lit.int .i64 i=.int .i64 j):i=j:=by simpa using h
structure yK(w:World)(m n:Nat)(l:List Hl):Prop where
 ex:∃D,w.ownsMap prog TI RI m n D/\(∀kl,Maps.has D kl=true↔∃x∈l,kl=.int .i64 x.t)/\∀x∈l,∀zd,D.atKey (.int .i64 x.t) zd=.lit (.int .i64 x.a)
theorem yK.keep{w w':World}{m n:Nat}{l:List Hl}(h:yK w m n l){S:Nat->Prop}(f:Fp S w w')(hS:¬S m):yK w' m n l:=by
 obtain⟨D,⟨es,clock,hb,F,hs,e⟩,h2,h3⟩:=h.ex;exact⟨D,⟨es,clock,f.heap hb hS,F,hs,e⟩,h2,h3⟩
theorem yK.made(w:World):yK (w.alloc (.map #[] 0)) w.heap.size 0 []:=
 ⟨.map [],World.ownsMap_made w _ _ _,λkl=>⟨λh=>by simp[Maps.has]at h,λ⟨x,hx,_⟩=>by cases hx⟩,λx hx=>by cases hx⟩
theorem yK.look{w:World}{m n:Nat}{l:List Hl}(h:yK w m n l)(t:Int)(ht:eZ t=true):
  ∃(v:Int) (b:Bool),(Instr.lookup E3 (.map (some m)) (.int .i64 t) true).run prog w=.ok (.tuple #[.int .i64 v,.bool b]) w/\(b=true↔∃x∈l,x.t=t)/\∀x∈l,x.t=t->v=x.a:=by
 obtain⟨D,h1,h2,h3⟩:=h.ex;obtain⟨v,ps,hr,hv⟩:=h1.look_ok lawI Tryz.underlying284 (Va w) (show RI (.int .i64 0)=some (.lit (.int .i64 0),[]) from rfl) (Qo t ht);obtain⟨a,rfl,e⟩:=Qp hv;refine⟨a,Maps.has D (.int .i64 t),hr,?_,λx hx Zl=>?_⟩
 ·rw[h2]
  exact⟨λ⟨x,hx,e⟩=>⟨x,hx,(rG e).symm⟩,λ⟨x,hx,e⟩=>⟨x,hx,by rw[e]⟩⟩
 have:=congrArg Prod.fst e;simp only at this
 rw[<-Zl,h3 x hx]at this;simpa using this.symm
structure UpA(m n:Nat)(l:List Hl)(w w':World):Prop where
 mp:yK w' m n l
 fp:Fp (λk=>k=m) w w'
theorem yK.Ca{w:World}{m n:Nat}{l:List Hl}(h:yK w m n l)(x:Hl)(ht:eZ x.t=true)(hn:n<=1000000)(hc:∀y∈l,y.t=x.t->y.a=x.a):
  ∃w',(Instr.mapUpdate E3 (.map (some m)) (.int .i64 x.t) (.int .i64 x.a)).run prog w=.ok () w'/\UpA m (n+1) (l++[x]) w w':=by
 obtain⟨D,h1,h2,h3⟩:=h.ex;obtain⟨w',hr,ho,hg⟩:=h1.update lawI Tryz.underlying284 (by unfold maxLen;omega) (Qo x.t ht) (show RI (.int .i64 x.a)=some (.lit (.int .i64 x.a),[]) from rfl)
 have hm:IsMap D:=h1.isMap;have hk:WideAt.IsKeyLit (.int .i64 x.t):=trivial;refine⟨w',hr,⟨_,ho,λkl=>?_,λy hy zd=>?_⟩,(Fp.refl _ w).grown hg (λk hk=>.inl (by injection hk with hk;exact hk.symm))⟩
 ·by_cases e:kl=.int .i64 x.t
  ·subst e
   rw[has_put_same hm hk];simp only[true_iff]
   exact⟨x,by simp,rfl⟩
  rw[has_put_other e,h2];constructor
  ·rintro⟨y,hy,e2⟩;exact⟨y,by simp[hy],e2⟩
  rintro⟨y,hy,e2⟩;rcases List.mem_append.1 hy with hy|hy
  ·exact⟨y,hy,e2⟩
  rw[List.mem_singleton]at hy;subst hy;exact absurd e2 e
 by_cases e:y.t=x.t
 ·rw[e,atKey_put_same hm hk]
  rcases List.mem_append.1 hy with hy|hy
  ·rw[hc y hy e]
  rw[List.mem_singleton]at hy;subst hy;rfl
 rw[atKey_put_other (λe2=>e (rG e2))]
 rcases List.mem_append.1 hy with hy|hy
 ·exact h3 y hy zd
 rw[List.mem_singleton]at hy;subst hy;exact absurd rfl e
structure jP(w:World)(m n:Nat)(l:List Int):Prop where
 ex:∃D,w.ownsMap prog TI RU m n D/\(∀kl,Maps.has D kl=true↔∃x∈l,kl=.int .i64 x)
theorem jP.keep{w w':World}{m n:Nat}{l:List Int}(h:jP w m n l){S:Nat->Prop}(f:Fp S w w')(hS:¬S m):jP w' m n l:=by
 obtain⟨D,⟨es,clock,hb,F,hs,e⟩,h2⟩:=h.ex;exact⟨D,⟨es,clock,f.heap hb hS,F,hs,e⟩,h2⟩
theorem jP.lt{w:World}{m n:Nat}{l:List Int}(h:jP w m n l):m<w.heap.size:=by
 obtain⟨D,h,_⟩:=h.ex;exact h.lt
theorem jP.made(w:World):jP (w.alloc (.map #[] 0)) w.heap.size 0 []:=
 ⟨.map [],World.ownsMap_made w _ _ _,λkl=>⟨λh=>by simp[Maps.has]at h,λ⟨x,hx,_⟩=>by cases hx⟩⟩
structure UpU(m n:Nat)(l:List Int)(w w':World):Prop where
 mp:jP w' m n l
 fp:Fp (λk=>k=m) w w'
theorem jP.Ca{w:World}{m n:Nat}{l:List Int}(h:jP w m n l)(x:Int)(ht:eZ x=true)(hn:n<=1000000):
  ∃w',(Instr.mapUpdate U9 (.map (some m)) (.int .i64 x) (.agg #[])).run prog w=.ok () w'/\UpU m (n+1) (l++[x]) w w':=by
 obtain⟨D,h1,h2⟩:=h.ex;obtain⟨w',hr,ho,hg⟩:=h1.update lawI Tryz.underlying286 (by unfold maxLen;omega) (Qo x ht) (show RU (.agg #[])=some (.lit (.bool true),[]) from rfl)
 have hm:IsMap D:=h1.isMap;have hk:WideAt.IsKeyLit (.int .i64 x):=trivial;refine⟨w',hr,⟨_,ho,λkl=>?_⟩,(Fp.refl _ w).grown hg (λk hk=>.inl (by injection hk with hk;exact hk.symm))⟩
 by_cases e:kl=.int .i64 x
 ·subst e
  rw[has_put_same hm hk];simp only[true_iff]
  exact⟨x,by simp,rfl⟩
 rw[has_put_other e,h2];constructor
 ·rintro⟨y,hy,e2⟩;exact⟨y,by simp[hy],e2⟩
 rintro⟨y,hy,e2⟩;rcases List.mem_append.1 hy with hy|hy
 ·exact⟨y,hy,e2⟩
 rw[List.mem_singleton]at hy;subst hy;exact absurd e2 e
def WC(n:Int):List Value:=[.int .i64 n]
theorem Cg(n:Int):(WC n).length=1:=rfl
theorem Mf(l:List Int):bC WC l=l.map encZ:=by
 unfold bC WC;induction l with
 |nil=>rfl
 |cons x l ih=>rw[List.flatMap_cons,ih,List.map_cons];rfl
abbrev J2(lo:Nat)(w:World)(v:Value)(l:List Int):Prop:=dT TI WC 1 lo w v l
structure Zp(w:World)(l:List Int)(v':Value)(w':World):Prop where
 own:J2 w.heap.size w' v' l
 fp:Fp ab w w'
theorem Vb(m:Nat):AnyZI.SortsIn prog Tryz.sortedA_ren Fence.wide m:=
 ⟨λdR off cap ss W hH hblk db=>callsIn_wide.2 (AnyM.slices_Sort_int Tryz.sortA dR off cap ss W hH hblk db),
  λp cap W=>callsIn_wide.2 (AnyM.slices_Sort_int_none Tryz.sortA p cap W)⟩
theorem Qq(mb:Option Nat)(W:World):Calls prog 245 #[.map mb] W λe w'=>e=.returned (.func (.func 291) #[] #[.pointer (some ⟨W.heap.size,0,none⟩)])/\w'=W.alloc (.cells #[.map mb] U9):=
 (callsIn_wide (n:=5)).1 (AnyZI.keys_in Tryz.keysA Fence.wide 5 trivial rfl mb W)
theorem jP.keys{w:World}{m n:Nat}{l:List Int}{D:DataW Unit}(h1:w.ownsMap prog TI RU m n D)(h2:∀kl,Maps.has D kl=true↔∃x∈l,kl=.int .i64 x):(qg l).Perm (intKeys D):=by
 obtain⟨es,rfl,hp,hk⟩:=h1.entries lawI
 have Zq:∀p∈es,∃i,i∈l/\p.1=.int .i64 i:=λp MG=>(h2 p.1).1 (by
  rw[Maps.has_eq,List.any_eq_true];exact⟨p,MG,WideAt.sameKey_self (hk p MG)⟩)
 refine perm_intKeys hp (λp MG=>by obtain⟨i,_,e⟩:=Zq p MG;exact⟨_,e⟩) ?_ λx=>?_
 ·exact(CH l).imp (λ{a b} (h:a<b)=>by omega)
 rw[h2,IB];exact⟨λh=>⟨x,h,rfl⟩,λ⟨y,hy,e⟩=>by rw[rG e];exact hy⟩
theorem Jf(b n:Nat)(l:List Int)(w:World)(h:jP w b n l)(hn:n<=1000000):
  Calls prog 244 #[.func (.func 291) #[] #[.pointer (some ⟨w.heap.size,0,none⟩)]] (w.alloc (.cells #[.map (some b)] U9)) λe w'=>∃v,e=.returned v/\Zp w (qg l) v w':=by
 obtain⟨D,aL,Zr⟩:=h.ex;have NF:=jP.keys aL Zr;have db:=aL.size_le;have sT:=aL.lt
 have Zs:SeqGives Fence.wide 2 prog 291 #[.pointer (some ⟨w.heap.size,0,none⟩)] encZ (λss=>ss.Perm (intKeys D)) (Maps.size D) (w.alloc (.cells #[.map (some b)] U9)):=
  AnyZI.keys_gives (ρ:=Tryz.keysA_ren) { Tryz.keysA with } Fence.wide _ trivial rfl (by omega) w.heap.size b _ D _ (by simp) (by simp) (by
   obtain⟨es,clock,hb,Ft,hs,hD⟩:=aL;exact⟨es,clock,(Below.heap_alloc _ _ b sT).trans hb,Ft,hs,hD⟩)
 have cS:=AnyZI.sorted_in Tryz.sortedA Fence.wide 5 trivial trivial trivial trivial rfl (by omega) (Vb _) (enters_of func290 (by kernel_rfl) rfl) 291 #[.pointer (some ⟨w.heap.size,0,none⟩)] trivial (enters_of func291 (by kernel_rfl) rfl) _ _ (by unfold maxLen;omega) (by omega) _ Zs
 change CallsIn _ _ prog 244 _ _ _ at cS
 refine(callsIn_wide.1 cS).mono ?_;rintro e w'⟨v,ss,rfl,hS,ba,fW,hb⟩
 have Pq:ss.mergeSort (λx y=>decide (x<=y))=qg l:=by
  have e1:ss.mergeSort (λx y=>decide (x<=y))=ss.mergeSort leI:=rfl
  rw[e1,mergeSort_of_perm_i (hS.trans NF.symm)];refine List.mergeSort_of_pairwise ?_;exact(CH l).imp (λ{a b} (h:a<b)=>by simp only[decide_eq_true_eq];omega)
 have hlen:ss.length=(qg l).length:=(hS.trans NF.symm).length_eq;refine⟨v,rfl,?_,?_⟩
 ·have:=ownsRow_base_a ba (show w.heap.size<=_ by simp)
  rw[hlen,Pq]at this;unfold J2 dT;rw[Mf];exact this
 exact((Fp.refl ab w).alloc _).then (Fp.cB hb)
theorem De(v f:Value)(l:List Hl)(q:Hl->Bool)(w:World)(hv:di w v l)(hs:zG l)(hq:uZ ab w f q)(wi:∀x∈l,eZ x.t=true)(hn:l.length<=90000):
  Calls prog 178 #[v,f] w λe w'=>∃v',e=.returned v'/\Zp w (qg ((l.filter q).map Hl.t)) v' w':=by
 obtain⟨ao,cap,rfl⟩:=hv.shape;obtain⟨n,aR⟩:∃n,n=l.length:=⟨_,rfl⟩;obtain⟨kf,fi,fc,rfl,gU,bB⟩:=hq.ex;have HX:=zI (yI aR (yI hv (yI hs (yI bB wi))));rw[<-aR];have jS:n<=90000:=by omega
 have H0:Hid (Fp ab w (w.alloc (.map #[] 0))/\∃c,c<=0/\jP (w.alloc (.map #[] 0)) w.heap.size c (((l.take 0).filter q).map Hl.t)):=⟨aa w _,0,Nat.le_refl _,jP.made w⟩;clear hv hs hq bB hn aR wi;have jE:=@run_makeMap prog;go_enter func178,ntmps178
 go_wp2_with fail
 go_loopw [11] (λi wr=>∃k:Nat,k<=n/\i=.int .i64 k/\Hid (Fp ab w wr/\∃c,c<=k/\jP wr w.heap.size c (((l.take k).filter q).map Hl.t))) (λi _=>n-(RowKit.intOf i).toNat)
 case atStart=>exact⟨0,Nat.zero_le _,rfl,H0⟩
 clear H0;obtain⟨k,hk,rfl,hR⟩:=hrel;rename_i wr _
 by_cases ay:k<n
 ·have aS:k<l.length:=by rw[<-HX.1];exact ay
  obtain⟨g,o,aY,e,_,_,_,aq⟩:=HX.2.1.at (by omega)
  injection e with e1 e2 e3
  subst e1 e3;clear e2;have aE:=(aq k aS).keep hR.1 id;have dy:=λW hf=>HX.2.2.2.1 l[k] W (HX.2.2.1 _ (List.getElem_mem aS)) hf
  have cP:=HX.2.2.2.2 l[k] (List.getElem_mem aS)
  have aN:((l.take (k+1)).filter q).map Hl.t=((l.take k).filter q).map Hl.t++(if q l[k]=true then [l[k].t] else []):=by
   rw[List.take_succ_eq_append_getElem aS,List.filter_append,List.map_append];congr 1
   by_cases c:q l[k]=true
   ·rw[if_pos c,List.filter_cons_of_pos c];rfl
   rw[if_neg c,List.filter_cons_of_neg c];rfl
  obtain⟨b,hb⟩:∃b,q l[k]=b:=⟨_,rfl⟩;rw[hb]at dy aN;obtain⟨x,hx⟩:∃x,x=l[k]:=⟨_,rfl⟩;rw[<-hx]at aE aN dy cP;clear hx aq hb;obtain⟨xd,xt,xa⟩:=x;have c0:=aE.c0;have c1:=aE.c1;have c2:=aE.c2;unfold au at c0;unfold lF au at dy;simp only at c0 c1 c2 aN dy cP
  have fB:=heap_alloc_new wr (.cells #[.string (B xd),.int .i64 xt,.int .i64 xa] TH);have iB:=aa wr (.cells #[.string (B xd),.int .i64 xt,.int .i64 xa] TH);have b0:(wr.alloc (.cells #[.string (B xd),.int .i64 xt,.int .i64 xa] TH)).cell? ⟨wr.heap.size,0,none⟩=some (.string (B xd)):=by rw[cell_of_row _ _ _ _ _ _ fB];rfl
  have b1:(wr.alloc (.cells #[.string (B xd),.int .i64 xt,.int .i64 xa] TH)).cell? ⟨wr.heap.size,1,none⟩=some (.int .i64 xt):=by rw[cell_of_row _ _ _ _ _ _ fB];rfl
  have b2:(wr.alloc (.cells #[.string (B xd),.int .i64 xt,.int .i64 xa] TH)).cell? ⟨wr.heap.size,2,none⟩=some (.int .i64 xa):=by rw[cell_of_row _ _ _ _ _ _ fB];rfl
  have q3:((k:Int)<(n:Int))=True:=eq_true (by omega)
  have q4:(k<n)=True:=eq_true ay;have HB:=zI (yI fB (yI iB (yI ay (yI aN cP))));have HS:=zI (dy _ (hR.1.then iB));clear aE aS fB iB aN dy ay cP;go_wp2_with fail
  rw[gU _ _];go_wp2_with fail
  refine HS.mono ?_;rintro e w1⟨rfl,cv⟩;have r1:=cv.heap HB.1 id;have p0:w1.cell? ⟨wr.heap.size,0,none⟩=some (.string (B xd)):=by rw[cell_of_row _ _ _ _ _ _ r1];rfl
  have p1:w1.cell? ⟨wr.heap.size,1,none⟩=some (.int .i64 xt):=by rw[cell_of_row _ _ _ _ _ _ r1];rfl
  have p2:w1.cell? ⟨wr.heap.size,2,none⟩=some (.int .i64 xa):=by rw[cell_of_row _ _ _ _ _ _ r1];rfl
  have HF:=zI (HB.2.1.then cv);clear r1 cv b0 b1 b2;obtain⟨c,hc,lG⟩:=hR.2;have CL:=lG.keep HF id;have nT:=hR.1.then HF.out;clear lG hR;cases b with
  |true=>
   have eR:=CL.Ca xt HB.2.2.2.2 (by omega)
   have HU:=zI eR;have HC:=zI (yI hc nT);clear eR CL hc nT;go_wp2_with (refine gO rfl U9 _ _ _ rfl _ _ _ rfl rfl rfl _ HU.out ?_)
   intro w2 hU;have hM:Hid (Fp ab w w2/\∃c,c<=k+1/\jP w2 w.heap.size c (((l.take (k+1)).filter q).map Hl.t)):=⟨HC.2.trans hU.fp (λj hj=>.inr (by rw[hj];exact Nat.le_refl _)),c+1,by have:=HC.1;omega,by rw[HB.2.2.2.1,if_pos trivial];exact hU.mp⟩
   have eJ:=HB.2.2.1;clear hU;go_wp2;go_roundw
   case rel=>exact⟨k+1,by omega,by go_num,hM⟩
   case measure=>simp[RowKit.intOf];omega
  |false=>?_
  have hM:Hid (Fp ab w w1/\∃c,c<=k+1/\jP w1 w.heap.size c (((l.take (k+1)).filter q).map Hl.t)):=⟨nT,c,by omega,by rw[HB.2.2.2.1,if_neg (by simp),List.append_nil];exact CL⟩
  have eJ:=HB.2.2.1;clear CL nT hc;go_wp2;go_roundw
  case rel=>exact⟨k+1,by omega,by go_num,hM⟩
  case measure=>simp[RowKit.intOf];omega
 have cV:k=n:=by omega
 subst cV;have q3:((k:Int)<(k:Int))=False:=eq_false (by omega)
 obtain⟨hf,c,hc,lG⟩:=hR.out;rw[HX.1,List.take_length]at lG;have MH:=Jf _ _ _ wr lG (by omega)
 have HS:=zI (yI MH hf);clear ay hk lG MH hf hR hc;go_wp2_with fail
 refine(Qq _ _).mono ?_;rintro e w1⟨rfl,rfl⟩;go_wp2_with fail
 refine HS.1.mono ?_;rintro e w2⟨v',rfl,hN⟩;have HR:Hid (Zp w (qg ((l.filter q).map Hl.t)) v' w2):=⟨by have:=hN.own;exact ownsRow_base_a this HS.2.size,HS.2.then hN.fp⟩
 clear hN;go_wp2;go_ret;exact⟨_,rfl,HR.out⟩
end
section
open Go.RowKit Pm
def Mg(l:List Pe)(k:Nat):Int:=if h:0<k/\k-1<l.length then (l[k-1]'h.2).op else 0
def oO(l:List Pe)(k:Nat)(h:k<l.length):Prop:=Mg l k<=l[k].op/\l[k].op<8/\cq l[k].p=true/\l[k].p.aX≠281474976710656
theorem yL(l:List Pe)(k:Nat)(h:k<l.length):Mg l (k+1)=l[k].op:=by
 unfold Mg;rw[dif_pos ⟨by omega,by simpa using h⟩];simp
theorem ug(l:List Pe):lx l↔l.length<=16/\∀k (h:k<l.length),oO l k h:=by
 constructor
 ·intro h
  refine⟨h.1,λk hk=>?_⟩
  obtain⟨h1,h2,h3,h4,h5⟩:=h.2 k hk;refine⟨?_,h2,h3,h4⟩;unfold Mg;split
  ·rename_i h6;exact h5 h6.1 h6.2
  exact h1
 intro h
 have h0:∀k (hk:k<l.length),0<=l[k].op:=by
  intro k;induction k with
  |zero=>intro hk;have:=(h.2 0 hk).1;unfold Mg at this;rw[dif_neg (by omega)]at this;exact this
  |succ k ih=>intro hk;have:=(h.2 (k+1) hk).1;rw[yL l k (by omega)]at this;have:=ih (by omega);omega
 refine⟨h.1,λk hk=>?_⟩
 obtain⟨h1,h2,h3,h4⟩:=h.2 k hk;refine⟨h0 k hk,h2,h3,h4,λg1 g2=>?_⟩
 unfold Mg at h1;rw[dif_pos ⟨g1,g2⟩]at h1;exact h1
open Classical in
noncomputable def Mh(l:List Pe):Bool:=decide (lx l)
theorem yM{l:List Pe}(h:lx l):Mh l=true:=by unfold Mh;simp[h]
theorem uh{l:List Pe}(h:¬lx l):Mh l=false:=by unfold Mh;simp[h]
theorem Mi(l:List Pe):Mh l=true↔lx l:=by unfold Mh;simp
open Classical in
noncomputable def Mj(s:St):Bool:=decide (Ap s)
theorem yN{l:St}(h:Ap l):Mj l=true:=by unfold Mj;simp[h]
theorem nY{l:St}(h:¬Ap l):Mj l=false:=by unfold Mj;simp[h]
theorem Mk(l:St):Mj l=true↔Ap l:=by unfold Mj;simp
open Classical in
noncomputable def Ml(p:Bs)(l:List Bs):Bool:=decide (qF p l)
theorem yO{p:Bs}{l:List Bs}(h:qF p l):Ml p l=true:=by unfold Ml;simp[h]
theorem ui{p:Bs}{l:List Bs}(h:¬qF p l):Ml p l=false:=by unfold Ml;simp[h]
theorem Mm(p:Bs)(l:List Bs):Ml p l=true↔qF p l:=by unfold Ml;simp
theorem NG{w:World}{b:Nat}{T:TypeId}{c0 c1 c2 c3 c4 c5 c6 c7:Value}(h:w.heap[b]?=some (.cells #[c0,c1,c2,c3,c4,c5,c6,c7] T (0,0))):
  w.cell? ⟨b,0,none⟩=some c0/\w.cell? ⟨b,1,none⟩=some c1/\w.cell? ⟨b,2,none⟩=some c2/\w.cell? ⟨b,3,none⟩=some c3/\w.cell? ⟨b,4,none⟩=some c4/\w.cell? ⟨b,5,none⟩=some c5/\w.cell? ⟨b,6,none⟩=some c6/\w.cell? ⟨b,7,none⟩=some c7:=
 ⟨by rw[cell_of_row _ _ _ _ _ _ h];rfl,by rw[cell_of_row _ _ _ _ _ _ h];rfl,by rw[cell_of_row _ _ _ _ _ _ h];rfl,by rw[cell_of_row _ _ _ _ _ _ h];rfl,by rw[cell_of_row _ _ _ _ _ _ h];rfl,by rw[cell_of_row _ _ _ _ _ _ h];rfl,by rw[cell_of_row _ _ _ _ _ _ h];rfl,by rw[cell_of_row _ _ _ _ _ _ h];rfl⟩
theorem Jg{w:World}{g o:Nat}{x:Pe}(h:iI Cb w g o x):
  w.cell? ⟨g,o,none⟩=some (.int .i64 x.op)/\w.cell? ⟨g,o+1,none⟩=some (.int .i64 x.p.kind)/\w.cell? ⟨g,o+2,none⟩=some (.string (B x.p.dir))/\w.cell? ⟨g,o+3,none⟩=some (.string (B x.p.path))/\w.cell? ⟨g,o+4,none⟩=some (.string (B x.p.data))/\
  w.cell? ⟨g,o+5,none⟩=some (.int .i64 x.p.aX)/\w.cell? ⟨g,o+6,none⟩=some (.int .i64 x.p.own)/\w.cell? ⟨g,o+7,none⟩=some (.bool x.p.turns):=
 ⟨h.get 0 _ rfl,h.get 1 _ rfl,h.get 2 _ rfl,h.get 3 _ rfl,h.get 4 _ rfl,h.get 5 _ rfl,h.get 6 _ rfl,h.get 7 _ rfl⟩
theorem Mn(v:Value)(l:List Pe)(w:World)(hv:Sg Cb 8 w v l)(hs:∀x∈l,x.p.path.length<=1000000):
  Calls prog 83 #[v] w λe w'=>e=.returned (.bool (Mh l))/\Fp ab w w':=by
 obtain⟨ao,cap,rfl⟩:=hv.shape;obtain⟨n,aR⟩:∃n,n=l.length:=⟨_,rfl⟩;obtain⟨r,hr⟩:∃r,Mh l=r:=⟨_,rfl⟩;by_cases DK:16<n
 ·have t0:((16:Int)<(n:Int))=True:=eq_true (by omega)
  have t1:(16<n)=True:=eq_true DK;have HN:=zI (show r=false from by rw[<-hr];exact uh (λh=>by have:=h.1;omega))
  rw[hr,<-aR];clear hv aR hr DK hs;go_enter func83,ntmps83
  go_wp2;go_ret;exact⟨by rw[HN.out];rfl,Fp.refl _ _⟩
 have t0:((16:Int)<(n:Int))=False:=eq_false (by omega)
 have t1:(16<n)=False:=eq_false DK
 have nM:(∀k (h:k<l.length),oO l k h)->r=true:=λh=>by
  rw[<-hr];exact yM ((ug l).2 ⟨by omega,h⟩)
 have oN:∀k (h:k<l.length),¬oO l k h->r=false:=λk h hn=>by
  rw[<-hr];exact uh (λc=>hn (((ug l).1 c).2 k h))
 have HX:=zI (yI aR (yI hv (yI nM (yI oN hs))));have jS:n<=16:=by omega
 rw[hr,<-aR];clear hv aR hr nM oN DK hs;go_enter func83,ntmps83
 go_wp2_with fail
 go_loopw [3,11] (λm i wr=>∃k:Nat,k<=n/\i=.int .i64 k/\m=.int .i64 (Mg l k)/\Hid (Fp ab w wr/\∀j (h:j<l.length),j<k->oO l j h)) (λ_ i _=>n-(RowKit.intOf i).toNat)
 case atStart=>exact⟨0,Nat.zero_le _,rfl,by simp[Mg],Fp.refl _ _,λj _ h=>absurd h (Nat.not_lt_zero j)⟩
 obtain⟨k,hk,rfl,rfl,hR⟩:=hrel;rename_i wr _
 by_cases ay:k<n
 ·have aS:k<l.length:=by rw[<-HX.1];exact ay
  obtain⟨g,o,aY,e,aq⟩:=HX.2.1.at (by omega)
  injection e with e1 e2 e3
  subst e1 e3;obtain⟨c0,c1,c2,c3,c4,c5,c6,c7⟩:=Jg ((aq k aS).keep hR.1 id)
  have cO:oO l k aS->∀j (h:j<l.length),j<k+1->oO l j h:=λh j hj rJ=>by
   rcases Nat.lt_or_eq_of_le (show j<=k by omega) with e|e
   ·exact hR.2 j hj e
   subst e;exact h
  have cP:=HX.2.2.2.1 k aS;have Zt:=yL l k aS;have zw:=HX.2.2.2.2 _ (List.getElem_mem aS);unfold oO at cP;unfold oO at cO;generalize Mg l k=m at *;generalize l[k]=x at *;obtain⟨op,x⟩:=x;have rW:=λw=>zQ x w zw
  obtain⟨mp,Ng⟩:∃b,cq x=b:=⟨_,rfl⟩;simp only at cP cO c0 c1 c2 c3 c4 c5 c6 c7 Zt
  rw[Ng]at cP cO;simp only[Ng]at rW
  unfold fY au at rW;obtain⟨kd,d,p,da,vr,ow,tn⟩:=x;simp only at cP cO rW c0 c1 c2 c3 c4 c5 c6 c7
  have q3:((k:Int)<(n:Int))=True:=eq_true (by omega)
  have q4:(k<n)=True:=eq_true ay;have HL:=zI (yI ay (yI cO (yI cP Zt)));have HF:=zI (hR.1.then (aa wr (.cells #[.int .i64 op,.int .i64 kd,.string (B d),.string (B p),.string (B da),.int .i64 vr,.int .i64 ow,.bool tn] 132)));have HM:=zI rW;clear aq aS ay cO cP zw Ng rW Zt;by_cases h1:op<m
  ·have s1:(op<m)=True:=eq_true h1
   have HN:=zI (HL.2.2.1 (λh=>by have:=h.1;omega))
   clear h1;go_wp2;go_ret;exact⟨by rw[HN.out];rfl,HF.out⟩
  have s1:(op<m)=False:=eq_false h1;by_cases h2:8<=op
  ·have s2:(8<=op)=True:=eq_true h2
   have HN:=zI (HL.2.2.1 (λh=>by have:=h.2.1;omega))
   clear h1 h2;go_wp2;go_ret;exact⟨by rw[HN.out];rfl,HF.out⟩
  have s2:(8<=op)=False:=eq_false h2;have HO:=zI (yI (Int.not_lt.1 h1) (Int.not_le.1 h2));clear h1 h2;cases mp with
  |false=>
   have HN:=zI (HL.2.2.1 (λh=>by have:=h.2.2.1;exact Bool.noConfusion this))
   go_wp2_with fail
   refine(HM _).mono ?_;rintro e w1⟨rfl,hf⟩;have ef:=zI (HF.then hf);clear hf;go_wp2;go_ret;exact⟨by rw[HN.out];rfl,ef.out⟩
  |true=>?_
  by_cases h3:vr=281474976710656
  ·subst h3
   have HN:=zI (HL.2.2.1 (λh=>h.2.2.2 rfl))
   have hb:=heap_alloc_new wr (.cells #[.int .i64 op,.int .i64 kd,.string (B d),.string (B p),.string (B da),.int .i64 281474976710656,.int .i64 ow,.bool tn] 132);have HB:=zI hb;clear hb;go_wp2_with fail
   refine(HM _).mono ?_;rintro e w1⟨rfl,hf⟩;have d5:=(NG (hf.heap HB id)).2.2.2.2.2.1;have ef:=zI (HF.then hf);clear hf;go_wp2;go_ret;exact⟨by rw[HN.out];rfl,ef.out⟩
  have s3:(vr == 281474976710656)=false:=beq_eq_false_iff_ne.2 h3;have s4:(vr=281474976710656)=False:=eq_false h3;have HN:=zI (HL.2.1 ⟨HO.1,HO.2,rfl,h3⟩);have hb:=heap_alloc_new wr (.cells #[.int .i64 op,.int .i64 kd,.string (B d),.string (B p),.string (B da),.int .i64 vr,.int .i64 ow,.bool tn] 132);have HB:=zI hb;have eJ:=HL.1;clear hb h3;go_wp2_with fail
  refine(HM _).mono ?_;rintro e w1⟨rfl,hf⟩;have bO:=NG (hf.heap HB id);have d5:=bO.2.2.2.2.2.1;have d0:=bO.1;have ef:=zI (HF.then hf);clear hf bO;go_wp2;go_roundw
  case rel=>exact⟨k+1,by omega,by go_num,by rw[HL.2.2.2],ef.out,HN.out⟩
  case measure=>simp[RowKit.intOf];omega
 have cV:k=n:=by omega
 subst cV;have q3:((k:Int)<(k:Int))=False:=eq_false (by omega)
 have HT:=zI (HX.2.2.1 (λj h=>hR.2 j h (by rw[HX.1];exact h)))
 clear ay hk;go_wp2;go_ret;exact⟨by rw[HT.out];rfl,hR.1⟩
theorem Qr(v:Value)(s:St)(w:World)(hv:tf w v s)(hs:Sp s.nodes)(hn:s.nodes.length<=1000000)(aN:∀t∈s.turns,t.dir.length<=1000000)(jE:s.turns.length<=1000000):
  Calls prog 84 #[v] w λe w'=>e=.returned (.bool (Mj s))/\Fp ab w w':=by
 obtain⟨vn,vt,rfl,h1,h2⟩:=hv.ex;obtain⟨ao,cap,rfl⟩:=h1.shape;obtain⟨at',lV,rfl⟩:=h2.shape;obtain⟨n,aR⟩:∃n,n=s.nodes.length:=⟨_,rfl⟩;obtain⟨m,hm⟩:∃m,m=s.turns.length:=⟨_,rfl⟩;have HF:=zI (aa w (.cells #[.slice ao s.nodes.length cap,.slice at' s.turns.length lV] 25));have hb:=heap_alloc_new w (.cells #[.slice ao s.nodes.length cap,.slice at' s.turns.length lV] 25);have tg:=j4 _ s (w.alloc (.cells #[.slice ao s.nodes.length cap,.slice at' s.turns.length lV] 25)) (hv.af HF.out) hs hn aN jE;rw[<-aR,<-hm]at HF hb tg;rw[<-aR,<-hm];have WD:=zI tg;by_cases h5:n<=512
 ·have t0:((n:Int)<=512)=True:=eq_true (by omega)
  have t1:(n<=512)=True:=eq_true h5;by_cases h6:m<=512
  ·have t2:((m:Int)<=512)=True:=eq_true (by omega)
   have t3:(m<=512)=True:=eq_true h6;obtain⟨r,hr⟩:∃r,dB s=r:=⟨_,rfl⟩
   have he:Mj s=r:=by
    cases r with
    |true=>exact yN ⟨by omega,by omega,(fm s).1 hr⟩
    |false=>exact nY (λh=>by rw[ei h.2.2]at hr;exact Bool.noConfusion hr)
   rw[he];rw[hr]at WD;clear h1 h2 hv aR hm hs hn aN jE hb tg h5 h6 hr he;go_enter func84,ntmps84
   go_wp2_with fail
   refine WD.mono ?_;rintro e w1⟨rfl,hf⟩;have ef:=zI (HF.then hf);clear hf;cases r<;>(go_wp2;go_ret;exact⟨rfl,ef.out⟩)
  have t2:((m:Int)<=512)=False:=eq_false (by omega)
  have t3:(m<=512)=False:=eq_false h6;rw[nY (λh=>h6 (by have:=h.2.1;omega))]
  clear h1 h2 hv aR hm hs hn aN jE hb tg h5 h6 WD;go_enter func84,ntmps84
  go_wp2;go_ret;exact⟨rfl,HF.out⟩
 have t0:((n:Int)<=512)=False:=eq_false (by omega)
 have t1:(n<=512)=False:=eq_false h5;rw[nY (λh=>h5 (by have:=h.1;omega))]
 clear h1 h2 hv aR hm hs hn aN jE hb tg h5 WD;go_enter func84,ntmps84
 go_wp2;go_ret;exact⟨rfl,HF.out⟩
def rH(pre:Bs)(l:List Bs)(k:Nat)(h:k<l.length):Prop:=l[k]≠pre/\lR l[k] pre=true/\(∀(_:0<k) (h1:k-1<l.length),lt l[k-1] l[k]=true)
theorem Mo(pre:Bs)(v:Value)(l:List Bs)(w:World)(hv:Tx w v l)(hp:pre.length<=1000000)(hs:∀x∈l,x.length<=1000000):
  Calls prog 85 #[.string (B pre),v] w λe w'=>e=.returned (.bool (Ml pre l))/\Fp ab w w':=by
 obtain⟨ao,cap,rfl⟩:=hv.shape;obtain⟨n,aR⟩:∃n,n=l.length:=⟨_,rfl⟩;obtain⟨r,hr⟩:∃r,Ml pre l=r:=⟨_,rfl⟩;by_cases DK:32<n
 ·have t0:((32:Int)<(n:Int))=True:=eq_true (by omega)
  have t1:(32<n)=True:=eq_true DK;have HN:=zI (show r=false from by rw[<-hr];exact ui (λh=>by have:=h.1;omega))
  rw[hr,<-aR];clear hv aR hr DK hs;go_enter func85,ntmps85
  go_wp2;go_ret;exact⟨by rw[HN.out];rfl,Fp.refl _ _⟩
 have t0:((32:Int)<(n:Int))=False:=eq_false (by omega)
 have t1:(32<n)=False:=eq_false DK
 have nM:(∀k (h:k<l.length),rH pre l k h)->r=true:=λh=>by
  rw[<-hr];exact yO ⟨by omega,h⟩
 have oN:∀k (h:k<l.length),¬rH pre l k h->r=false:=λk h hn=>by
  rw[<-hr];exact ui (λc=>hn (c.2 k h))
 have HX:=zI (yI aR (yI hv (yI nM (yI oN (yI hs hp)))));have jS:n<=32:=by omega
 rw[hr,<-aR];clear hv aR hr nM oN DK hs hp;go_enter func85,ntmps85
 go_wp2_with fail
 go_loopw [12] (λi wr=>∃k:Nat,k<=n/\i=.int .i64 k/\Hid (Fp ab w wr/\∀j (h:j<l.length),j<k->rH pre l j h)) (λi _=>n-(RowKit.intOf i).toNat)
 case atStart=>exact⟨0,Nat.zero_le _,rfl,Fp.refl _ _,λj _ h=>absurd h (Nat.not_lt_zero j)⟩
 obtain⟨k,hk,rfl,hR⟩:=hrel;rename_i wr _
 by_cases ay:k<n
 ·have aS:k<l.length:=by rw[<-HX.1];exact ay
  obtain⟨g,o,aY,e,aq⟩:=HX.2.1.at (by omega)
  injection e with e1 e2 e3
  subst e1 e3;have c0:=hR.1.cell (aq k aS) id
  have NH:∀h0:0<k,∀W,Fp ab wr W->∃z,W.cell? ⟨g,o+(k-1),none⟩=some (.string (B z))/\∀h1:k-1<l.length,z=l[k-1]:=λh0 W f=>by
   have h1:k-1<l.length:=by omega
   exact⟨l[k-1],(hR.1.then f).cell (aq (k-1) h1) id,λ_=>rfl⟩
  have cO:rH pre l k aS->∀j (h:j<l.length),j<k+1->rH pre l j h:=λh j hj rJ=>by
   rcases Nat.lt_or_eq_of_le (show j<=k by omega) with e|e
   ·exact hR.2 j hj e
   subst e;exact h
  have cP:=HX.2.2.2.1 k aS;have zw:=HX.2.2.2.2.1 _ (List.getElem_mem aS);have vR:k-1<l.length:=by omega
  unfold rH at cP;unfold rH at cO;have Re:=zI (yI cO (yI cP NH));clear cO cP NH aq;generalize l[k]=x at *;have Zu:=λw=>PW x pre w (by omega) (by have:=HX.2.2.2.2.2;omega)
  obtain⟨ip,Zv⟩:∃b,lR x pre=b:=⟨_,rfl⟩;simp only[Zv]at Zu
  have q3:((k:Int)<(n:Int))=True:=eq_true (by omega)
  have q4:(k<n)=True:=eq_true ay;have HL:=zI (yI ay (yI Zv vR));have HI:=zI Zu;clear aS ay Zv Zu zw vR;by_cases h1:x=pre
  ·subst h1
   have HN:=zI (Re.2.1 (λh=>h.1 rfl))
   go_wp2;go_ret;exact⟨by rw[HN.out];rfl,hR.1⟩
  have s1:(x == pre)=false:=beq_eq_false_iff_ne.2 h1;have s2:(x=pre)=False:=eq_false h1;have H1:=zI h1;clear h1;cases ip with
  |false=>
   have HN:=zI (Re.2.1 (λh=>by have:=h.2.1;rw[HL.2.1]at this;exact Bool.noConfusion this))
   go_wp2_with fail
   refine(HI _).mono ?_;rintro e w1⟨rfl,hf⟩;have ef:=zI (hR.1.then (Fp.cB hf));clear hf;go_wp2;go_ret;exact⟨by rw[HN.out];rfl,ef.out⟩
  |true=>?_
  rcases Nat.eq_zero_or_pos k with h0|h0
  ·subst h0
   simp only[Nat.add_zero]at c0
   have HN:=zI (Re.1 ⟨H1.out,HL.2.1,λh=>absurd h (Nat.lt_irrefl 0)⟩)
   have eJ:=HL.1;go_wp2_with fail
   refine(HI _).mono ?_;rintro e w1⟨rfl,hf⟩;have ef:=zI (hR.1.then (Fp.cB hf));clear hf;go_wp2;go_roundw
   case rel=>exact⟨1,by omega,rfl,ef.out,HN.out⟩
   case measure=>simp[RowKit.intOf];omega
  have p1:((0:Int)<(k:Int))=True:=eq_true (by omega)
  have p2:(0<k)=True:=eq_true h0;have eJ:=HL.1;have p3:((k:Int)-1<(n:Int))=True:=eq_true (by omega)
  have p4:((0:Int)<=(k:Int)-1)=True:=eq_true (by omega)
  have Ko:(k:Int)-1=((k-1:Nat):Int):=by omega
  go_wp2_with fail
  refine(HI _).mono ?_;rintro e w1⟨rfl,hf⟩;obtain⟨z,hz,hzl⟩:=Re.2.2 h0 w1 (Fp.cB hf);have ef:=zI (hR.1.then (Fp.cB hf));have HZ:=zI (hzl HL.2.2);have ac0:k-1<n:=by omega
  clear hf hzl;obtain⟨bb,zx⟩:∃b,(Op.bytesLess x z||x == z)=b:=⟨_,rfl⟩
  cases bb with
  |true=>
   have HN:=zI (Re.2.1 (λh=>by have h5:=h.2.2 h0 HL.2.2;rw[<-HZ.out,BJ zx]at h5;exact Bool.noConfusion h5))
   go_wp2;go_ret;exact⟨by rw[HN.out];rfl,ef.out⟩
  |false=>?_
  have HN:=zI (Re.1 ⟨H1.out,HL.2.1,λ_ h1=>by rw[<-HZ.out];exact JV zx⟩)
  go_wp2;go_roundw
  case rel=>exact⟨k+1,by omega,by go_num,ef.out,HN.out⟩
  case measure=>simp[RowKit.intOf];omega
 have cV:k=n:=by omega
 subst cV;have q3:((k:Int)<(k:Int))=False:=eq_false (by omega)
 have HT:=zI (HX.2.2.1 (λj h=>hR.2 j h (by rw[HX.1];exact h)))
 clear ay hk;go_wp2;go_ret;exact⟨by rw[HT.out];rfl,hR.1⟩
end
end Go.Proofs.YtgafcelloiagmaaGreatDoor
