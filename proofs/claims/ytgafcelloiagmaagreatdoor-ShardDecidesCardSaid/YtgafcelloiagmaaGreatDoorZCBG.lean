/- A text of this proof. -/
import Derived.Test.YtgafcelloiagmaaGreatDoorZCBB
import Derived.Test.YtgafcelloiagmaaGreatDoorZCBE
import Derived.Test.YtgafcelloiagmaaGreatDoorZCY
set_option maxHeartbeats 16000000
set_option linter.unusedSimpArgs false
set_option linter.unusedVariables false
set_option maxRecDepth 20000
namespace Go.Proofs.YtgafcelloiagmaaGreatDoor
open Go.Proofs.Tryz
section
open Go.RowKit Pm Go.Maps
theorem lawZ:Keyed prog 2:=int_keyed Tryz.underlying2
theorem Sn{n:Int}(h:0<=n/\n<=281474976710656):keyOf prog 2 (.int .i64 n)=some (.int .i64 n):=keyOf_int_mk Tryz.underlying2 (WalkArith.wf_i64 (by omega))
def Vt(v:Value):Option (DataW Value×List MemPlace):=some (.held v,[])
theorem sa{P:Program}{k:TypeId}{R:Value->Option (DataW Value×List MemPlace)}{w:World}{b n:Nat}{D:DataW Value}(h:w.ownsMap P k R b n D):w.ownsMap P k R b (Maps.size D) D:=by
 obtain⟨es,clock,hb,F,hs,rfl⟩:=h;exact⟨es,clock,hb,F,by simp[Maps.size,length_sorted],rfl⟩
structure vU(w:World)(m:Nat)(l:List (Int×Value)):Prop where
 ex:∃D,w.ownsMap prog 2 Vt m l.length D/\Maps.size D=l.length/\∀t zd,D.atKey (.int .i64 t) zd=match lk l t with|some a=>.held a|none=>zd
theorem vU.keep{w w':World}{m:Nat}{l:List (Int×Value)}(h:vU w m l){S:Nat->Prop}(f:Fp S w w')(hS:¬S m):vU w' m l:=by
 obtain⟨D,⟨es,clock,hb,F,hs,e⟩,h2⟩:=h.ex;exact⟨D,⟨es,clock,f.heap hb hS,F,hs,e⟩,h2⟩
theorem vU.lt{w:World}{m:Nat}{l:List (Int×Value)}(h:vU w m l):m<w.heap.size:=by
 obtain⟨D,h,_⟩:=h.ex;exact h.lt
theorem vU.made(w:World):vU (w.alloc (.map #[] 0)) w.heap.size []:=
 ⟨.map [],World.ownsMap_made w _ _ _,rfl,λt zd=>by simp[lk,DataW.atKey]⟩
theorem vU.cells{w:World}{m:Nat}{l:List (Int×Value)}(h:vU w m l){cs:Array Value}{T:TypeId}{fz:Nat×Nat}:w.heap[m]?≠some (.cells cs T fz):=by
 obtain⟨D,⟨es,clock,hb,_⟩,_⟩:=h.ex;rw[hb];intro e;cases e
theorem vU.look{w:World}{m:Nat}{l:List (Int×Value)}(h:vU w m l){T E:TypeId}(hT:prog.underlying T=some (.map 2 E)){z:Value}(hz:(zeroValue E).run prog w=.ok z w){t:Int}(ht:0<=t/\t<=281474976710656):
  (Instr.lookup T (.map (some m)) (.int .i64 t) true).run prog w=.ok (.tuple #[(lk l t).getD z,.bool (lk l t).isSome]) w:=by
 obtain⟨D,h1,h2,h3⟩:=h.ex;obtain⟨v,ps,hr,hv⟩:=h1.look_ok lawZ hT hz (show Vt z=some (.held z,[]) from rfl) (Sn ht);have h4:=h3 t (.held z);rw[hr];unfold Vt at hv;injection hv with hv
 injection hv with hv _
 rw[h4]at hv;cases hl:lk l t with
 |none=>
  rw[hl]at hv;injection hv with hv
  have hb:Maps.has D (.int .i64 t)=false:=Maps.has_false_of_atKey (λzd=>by rw[h3 t zd,hl])
  rw[hb,hv];rfl
 |some a=>?_
 rw[hl]at hv;injection hv with hv
 have hb:Maps.has D (.int .i64 t)=true:=Maps.has_true_of_atKey (y:=.held a) (λzd=>by rw[h3 t zd,hl])
 rw[hb,hv];rfl
theorem vU.len{w:World}{m:Nat}{l:List (Int×Value)}(h:vU w m l){T E:TypeId}(hT:prog.underlying T=some (.map 2 E))(ty:TypeId):(Builtin.len_ #[T] ty #[.map (some m)]).run prog w=.ok (.int .i64 (l.length:Int)) w:=by
 obtain⟨D,h1,h2,_⟩:=h.ex;rw[h1.len hT ty,h2]
theorem OA{α:Type}(l:List (Int×α))(k:Int)(v:α)(j:Int):lk (oR l k v) j=if j=k then some v else lk l j:=by
 unfold oR;split
 ·next hs=>
  unfold lk at hs|-;rw[List.find?_map]
  have e:((λx:Int×α=>x.1 == j) ∘ λx=>if x.1=k then (k,v) else x)=λx=>x.1 == j:=by
   funext x
   simp only[Function.comp]
   split
   ·next h=>rw[h]
   rfl
  rw[e];by_cases c:j=k
  ·subst c
   rw[if_pos rfl];cases hf:l.find? (λx=>x.1 == j) with
   |none=>rw[hf]at hs;simp at hs
   |some x=>?_
   have:=List.find?_some hf;simp only[beq_iff_eq]at this
   simp[this]
  rw[if_neg c];cases hf:l.find? (λx=>x.1 == j) with
  |none=>rfl
  |some x=>?_
  have:=List.find?_some hf;simp only[beq_iff_eq]at this
  simp[this,c]
 next hs=>exact Oa (by simpa using hs) v j
structure UpV(m:Nat)(l:List (Int×Value))(w w':World):Prop where
 mp:vU w' m l
 fp:Fp (λk=>k=m) w w'
theorem Kl{α:Type}(l:List (Int×α))(k:Int)(v:α):(oR l k v).length=if (lk l k).isSome=true then l.length else l.length+1:=by
 unfold oR;split<;>simp
theorem vU.Ca{w:World}{m:Nat}{l:List (Int×Value)}(h:vU w m l){T E:TypeId}(hT:prog.underlying T=some (.map 2 E)){t:Int}(ht:0<=t/\t<=281474976710656)(v:Value)(hn:l.length<=1000000):
  ∃w',(Instr.mapUpdate T (.map (some m)) (.int .i64 t) v).run prog w=.ok () w'/\UpV m (oR l t v) w w':=by
 obtain⟨D,h1,h2,h3⟩:=h.ex;obtain⟨w',hr,ho,hg⟩:=h1.update lawZ hT (by unfold maxLen;omega) (Sn ht) (show Vt v=some (.held v,[]) from rfl)
 have hm:IsMap D:=h1.isMap;have hk:WideAt.IsKeyLit (.int .i64 t):=trivial
 have db:Maps.size (D.put (.int .i64 t) (.held v))=(oR l t v).length:=by
  rw[Maps.size_put (h1.tidy lawZ),Kl,h2];cases hl:lk l t with
  |none=>rw[Maps.has_false_of_atKey (λzd=>by rw[h3 t zd,hl])];rfl
  |some a=>rw[Maps.has_true_of_atKey (y:=.held a) (λzd=>by rw[h3 t zd,hl])];rfl
 refine⟨w',hr,⟨_,by rw[<-db];exact sa ho,db,λj zd=>?_⟩,(Fp.refl _ w).grown hg (λk hk=>.inl (by injection hk with hk;exact hk.symm))⟩
 rw[OA];by_cases e:j=t
 ·subst e;rw[if_pos rfl,atKey_put_same hm hk]
 rw[if_neg e,atKey_put_other (λe2=>e (by simpa using e2)),h3]
def pn(x:Pe):Nat×Pt:=(x.op.toNat,x.p)
theorem Sg.conv{α β:Type}{e1:α->List Value}{e2:β->List Value}{k:Nat}{w:World}{v:Value}{l:List α}(h:Sg e1 k w v l)(f:α->β)(hf:∀x∈l,e2 (f x)=e1 x):Sg e2 k w v (l.map f):=by
 obtain⟨ao,cap,rfl,h3⟩:=h.ex;refine⟨ao,cap,by rw[List.length_map],?_⟩
 rcases h3 with rfl|⟨g,o,rfl,hc⟩
 ·exact .inl rfl
 refine .inr ⟨g,o,rfl,λi hi=>?_⟩
 have Vl:i<l.length:=by simpa using hi
 refine⟨λj v hv=>(hc i Vl).get j v ?_⟩
 rw[List.getElem_map,hf _ (List.getElem_mem Vl)]at hv;exact hv
theorem MT{x:Pe}(h:0<=x.op):mf (pn x)=Cb x:=by
 unfold mf pn Cb;rw[Int.toNat_of_nonneg h]
def pk(x:Nat×Pt):Pc:=⟨x.1,x.2.kind,x.2.dir,x.2.path,x.2.data,x.2.aX,x.2.own,x.2.turns⟩
theorem Sq(x:Nat×Pt):OB (pk x)=mf x:=rfl
end
section
open Go.RowKit Pm
abbrev sd:TypeId:=103
abbrev aT:TypeId:=42
abbrev Cc:TypeId:=184
abbrev Km:TypeId:=193
abbrev Sr:TypeId:=99
abbrev EK:TypeId:=100
abbrev Ss:TypeId:=101
structure Ce(cs:Array Value)(T:TypeId):Prop where
 ts:T≠9
 ti:T≠2
 str:∀(j:Nat) (s:ByteArray),cs[j]?≠some (Value.string s)
 Kj:∀(j:Nat) (n m:Int) (a:Option Addr) (b c:Nat),cs[j]?=some (Value.int .i64 n)->cs[j+1]?=some (Value.int .i64 m)->cs[j+2]?=some (Value.slice a b c)->False
def oY(w:World)(k:Nat):Prop:=(∃es cl,w.heap[k]?=some (.map es cl))\/∃(cs:Array Value) (T:TypeId),w.heap[k]?=some (.cells cs T (0,0))/\Ce cs T
theorem oY.str{w:World}{k:Nat}(h:oY w k){o:Nat}{s:ByteArray}(hc:w.cell? ⟨k,o,none⟩=some (.string s)):False:=by
 rcases h with⟨es,cl,h⟩|⟨cs,T,h,hd⟩
 ·unfold World.cell? at hc;simp[h]at hc
 rw[cell_of_row _ _ _ _ _ _ h]at hc;exact hd.str _ _ hc
theorem oY.Kj{w:World}{k:Nat}(h:oY w k){o:Nat}{n m:Int}{a:Option Addr}{b c:Nat}(h0:w.cell? ⟨k,o,none⟩=some (.int .i64 n))(h1:w.cell? ⟨k,o+1,none⟩=some (.int .i64 m))(h2:w.cell? ⟨k,o+2,none⟩=some (.slice a b c)):False:=by
 rcases h with⟨es,cl,h⟩|⟨cs,T,h,hd⟩
 ·unfold World.cell? at h0;simp[h]at h0
 rw[cell_of_row _ _ _ _ _ _ h]at h0 h1 h2;exact hd.Kj _ _ _ _ _ _ h0 h1 h2
theorem oY.row{w:World}{k:Nat}(h:oY w k){cs:Array Value}{T:TypeId}(hc:w.heap[k]?=some (.cells cs T (0,0))):T≠9/\T≠2:=by
 rcases h with⟨es,cl,h⟩|⟨ze,T',h,hd⟩
 ·rw[h]at hc;cases hc
 rw[h]at hc;injection hc with hc;injection hc with _ hc;rw[<-hc];exact⟨hd.ts,hd.ti⟩
structure Bl(S:Nat->Prop)(w w':World):Prop where
 fp:Fp S w w'
 bl:∀k,S k->oY w k
theorem Fp.bl{w w':World}(f:Fp ab w w'):Bl ab w w':=⟨f,λ_ h=>h.elim⟩
theorem Ns.off{S:Nat->Prop}{w w':World}{v:Value}{l:List Nd}(h:Ns w v l)(f:Bl S w w'):Ns w' v l:=by
 obtain⟨ao,cap,rfl,h1,h2,h3⟩:=h.ex;refine⟨ao,cap,rfl,h1,h2,?_⟩;rcases h3 with h3|⟨g,o,rfl,hg,hc⟩
 ·exact .inl h3
 by_cases h0:l=[]
 ·exact .inl h0
 have h1:0<l.length:=List.length_pos_iff.2 h0;have hS:¬S g:=λc=>(f.bl g c).str (hc 0 h1).c0
 exact .inr ⟨g,o,rfl,Nat.lt_of_lt_of_le hg f.fp.size,λi hi=>(hc i hi).keep f.fp hS⟩
theorem Ts.off{S:Nat->Prop}{w w':World}{v:Value}{l:List Tu}(h:Ts w v l)(f:Bl S w w'):Ts w' v l:=by
 obtain⟨ao,cap,rfl,h1,h2,h3⟩:=h.ex;refine⟨ao,cap,rfl,h1,h2,?_⟩;rcases h3 with h3|⟨g,o,rfl,hg,hc⟩
 ·exact .inl h3
 by_cases h0:l=[]
 ·exact .inl h0
 have h1:0<l.length:=List.length_pos_iff.2 h0;have hS:¬S g:=λc=>(f.bl g c).str (hc 0 h1).c0
 exact .inr ⟨g,o,rfl,Nat.lt_of_lt_of_le hg f.fp.size,λi hi=>(hc i hi).keep f.fp hS⟩
theorem di.off{S:Nat->Prop}{w w':World}{v:Value}{l:List Hl}(h:di w v l)(f:Bl S w w'):di w' v l:=by
 obtain⟨ao,cap,rfl,h1,h2,h3⟩:=h.ex;refine⟨ao,cap,rfl,h1,h2,?_⟩;rcases h3 with h3|⟨g,o,rfl,hg,hc⟩
 ·exact .inl h3
 by_cases h0:l=[]
 ·exact .inl h0
 have h1:0<l.length:=List.length_pos_iff.2 h0;have hS:¬S g:=λc=>(f.bl g c).str (hc 0 h1).c0
 exact .inr ⟨g,o,rfl,Nat.lt_of_lt_of_le hg f.fp.size,λi hi=>(hc i hi).keep f.fp hS⟩
theorem lM.off{S:Nat->Prop}{w w':World}{v:Value}{l:List Wt}(h:lM w v l)(f:Bl S w w'):lM w' v l:=by
 obtain⟨ao,cap,rfl,h1,h2,h3⟩:=h.ex;refine⟨ao,cap,rfl,h1,h2,?_⟩;rcases h3 with h3|⟨g,o,rfl,hg,hc⟩
 ·exact .inl h3
 by_cases h0:l=[]
 ·exact .inl h0
 have h1:0<l.length:=List.length_pos_iff.2 h0;have hS:¬S g:=λc=>(f.bl g c).str (hc 0 h1).c2
 exact .inr ⟨g,o,rfl,Nat.lt_of_lt_of_le hg f.fp.size,λi hi=>(hc i hi).keep f.fp hS⟩
theorem mB.off{S:Nat->Prop}{w w':World}{v:Value}{l:List Ev}(h:mB w v l)(f:Bl S w w'):mB w' v l:=by
 obtain⟨ao,cap,rfl,h1,h2,h3⟩:=h.ex;refine⟨ao,cap,rfl,h1,h2,?_⟩;rcases h3 with h3|⟨g,o,rfl,hg,hc⟩
 ·exact .inl h3
 by_cases h0:l=[]
 ·exact .inl h0
 have h1:0<l.length:=List.length_pos_iff.2 h0;have hS:¬S g:=λc=>(f.bl g c).str (hc 0 h1).c2
 exact .inr ⟨g,o,rfl,Nat.lt_of_lt_of_le hg f.fp.size,λi hi=>(hc i hi).keep f.fp hS⟩
theorem tf.off{S:Nat->Prop}{w w':World}{v:Value}{s:St}(h:tf w v s)(f:Bl S w w'):tf w' v s:=by
 obtain⟨vn,vt,e,h1,h2⟩:=h.ex;exact⟨vn,vt,e,h1.off f,h2.off f⟩
theorem rM.off{S:Nat->Prop}{w w':World}{v:Value}{l:List aU}(h:rM w v l)(he:∀x∈l,∃a b c,x.ev=.slice a b c)(f:Bl S w w'):rM w' v l:=by
 obtain⟨ao,cap,rfl,h1,h2,h3⟩:=h.ex;refine⟨ao,cap,rfl,h1,h2,?_⟩;rcases h3 with h3|⟨g,o,rfl,hg,hc⟩
 ·exact .inl h3
 by_cases h0:l=[]
 ·exact .inl h0
 have h1:0<l.length:=List.length_pos_iff.2 h0;obtain⟨a,b,c,e⟩:=he l[0] (List.getElem_mem h1);have hS:¬S g:=λk=>(f.bl g k).Kj (hc 0 h1).c0 (hc 0 h1).c1 (by have:=(hc 0 h1).c2;rw[e]at this;exact this)
 exact .inr ⟨g,o,rfl,Nat.lt_of_lt_of_le hg f.fp.size,λi hi=>(hc i hi).keep f.fp hS⟩
theorem yZ.off{S:Nat->Prop}{w w':World}{v:Value}{d:Wd}(h:yZ w v d)(f:Bl S w w'):yZ w' v d:=by
 obtain⟨vw,vs,h1,h2,h3⟩:=h.ex;obtain⟨L,h4,h5,h6⟩:=h3.ex;exact⟨vw,vs,h1,h2.off f,⟨L,h4,h5.off (λx hx=>by obtain⟨a,c,e⟩:=(h6 x hx).shape;exact⟨a,_,c,e⟩) f,λx hx=>(h6 x hx).off f⟩⟩
def Xr{α:Type}(enc:α->List Value):Prop:=∀x,∃(j:Nat) (s:ByteArray),(enc x)[j]?=some (Value.string s)
theorem Sg.off{α:Type}{enc:α->List Value}{k:Nat}(hF:Xr enc){S:Nat->Prop}{w w':World}{v:Value}{l:List α}(h:Sg enc k w v l)(f:Bl S w w'):Sg enc k w' v l:=by
 obtain⟨ao,cap,rfl,h3⟩:=h.ex;refine⟨ao,cap,rfl,?_⟩;rcases h3 with h3|⟨g,o,rfl,hc⟩
 ·exact .inl h3
 by_cases h0:l=[]
 ·exact .inl h0
 have h1:0<l.length:=List.length_pos_iff.2 h0
 have hS:¬S g:=λc=>by
  obtain⟨j,s,e⟩:=hF l[0];exact(f.bl g c).str ((hc 0 h1).get j _ e)
 exact .inr ⟨g,o,rfl,λi hi=>(hc i hi).keep f.fp hS⟩
theorem Own.off{S:Nat->Prop}{lo:Nat}{w w':World}{v:Value}{ps:List Bs}(h:Own lo w v ps)(f:Bl S w w'):Own lo w' v ps:=
 ⟨f.fp.owns h.1 (λk hk hs=>by
  obtain⟨cs,hr⟩:=h.type hk;exact((f.bl k hs).row hr).1 rfl),h.2⟩
theorem J2.off{S:Nat->Prop}{lo:Nat}{w w':World}{v:Value}{l:List Int}(h:J2 lo w v l)(f:Bl S w w'):J2 lo w' v l:=
 f.fp.owns h (λk hk hs=>by
  obtain⟨cs,hr⟩:=dT.type h hk;exact((f.bl k hs).row hr).2 rfl)
theorem Gi.off{S:Nat->Prop}{w w':World}{v:Value}{rs:List dp}(h:Gi w v rs)(f:Bl S w w'):Gi w' v rs:=by
 obtain⟨L,h1,h2,h3⟩:=h.ex;exact⟨L,h1,h2.off (λx=>⟨1,_,rfl⟩) f,λx hx=>by obtain⟨lo,h⟩:=h3 x hx;exact⟨lo,h.off f⟩⟩
def oz(v:Value):Prop:=∃a n c,v=.slice a n c
def aC(a:ck)(vr vn vt ve vw:Value):Array Value:=#[.int .i64 a.err,.int .i64 a.idx,.bool a.yes,.int .i64 a.ep,vr,vn,vt,ve,.slice none 0 0,vw]
structure ej(w:World)(a:ck)(vr vn vt ve vw:Value):Prop where
 r:Gi w vr a.res
 n:Ns w vn a.st.nodes
 t:Ts w vt a.st.turns
 e:mB w ve a.cW
 w:∃lo,J2 lo w vw a.JY
structure EL(w:World)(v:Value)(a:ck):Prop where
 ex:∃vr vn vt ve vw,v=.agg (aC a vr vn vt ve vw)/\ej w a vr vn vt ve vw
theorem ej.off{S:Nat->Prop}{w w':World}{a:ck}{vr vn vt ve vw:Value}(h:ej w a vr vn vt ve vw)(f:Bl S w w'):ej w' a vr vn vt ve vw:=
 ⟨h.r.off f,h.n.off f,h.t.off f,h.e.off f,by obtain⟨lo,h⟩:=h.w;exact⟨lo,J2.off h f⟩⟩
theorem EL.off{S:Nat->Prop}{w w':World}{v:Value}{a:ck}(h:EL w v a)(f:Bl S w w'):EL w' v a:=by
 obtain⟨vr,vn,vt,ve,vw,e,h1⟩:=h.ex;exact⟨vr,vn,vt,ve,vw,e,h1.off f⟩
theorem EL.af{w w':World}{v:Value}{a:ck}(h:EL w v a)(f:Fp ab w w'):EL w' v a:=h.off f.bl
def se(x:JZ)(vp vr vn vt ve vw:Value):Array Value:=#[.bool x.fin,vp,.int .i64 x.a.err,.int .i64 x.a.idx,.bool x.a.yes,.int .i64 x.a.ep,vr,vn,vt,ve,.slice none 0 0,vw]
structure OC(w:World)(v:Value)(x:JZ):Prop where
 ex:∃vp vr vn vt ve vw,v=.agg (se x vp vr vn vt ve vw)/\(∃l:List (Nat×Pt),l.map Prod.snd=x.ps/\Sg mf 8 w vp l)/\ej w x.a vr vn vt ve vw
theorem OC.off{S:Nat->Prop}{w w':World}{v:Value}{x:JZ}(h:OC w v x)(f:Bl S w w'):OC w' v x:=by
 obtain⟨vp,vr,vn,vt,ve,vw,e,⟨l,h1,h2⟩,h3⟩:=h.ex;exact⟨vp,vr,vn,vt,ve,vw,e,⟨l,h1,h2.off (λx=>⟨2,_,rfl⟩) f⟩,h3.off f⟩
structure pI{α:Type}(R:World->Value->α->Prop)(w:World)(m:Nat)(l:List (Int×α)):Prop where
 ex:∃L:List (Int×Value×α),vU w m (L.map λx=>(x.1,x.2.1))/\L.map (λx=>(x.1,x.2.2))=l/\∀y∈L,R w y.2.1 y.2.2
theorem pI.keep{α:Type}{R:World->Value->α->Prop}{w w':World}{m:Nat}{l:List (Int×α)}(h:pI R w m l){S:Nat->Prop}(f:Fp S w w')(hS:¬S m)(hR:∀v a,R w v a->R w' v a):pI R w' m l:=by
 obtain⟨L,h1,h2,h3⟩:=h.ex;exact⟨L,h1.keep f hS,h2,λy hy=>hR _ _ (h3 y hy)⟩
theorem zY{α β:Type}(g:α->β)(l:List (Int×α))(t:Int):lk (l.map λx=>(x.1,g x.2)) t=(lk l t).map g:=by
 unfold lk;rw[List.find?_map,Option.map_map,Option.map_map];rfl
theorem Cf{α β:Type}(g:α->β)(l:List (Int×α))(t:Int)(a:α):oR (l.map λx=>(x.1,g x.2)) t (g a)=(oR l t a).map λx=>(x.1,g x.2):=by
 unfold oR;rw[zY,Option.isSome_map];split
 ·rw[List.map_map,List.map_map]
  refine List.map_congr_left λx _=>?_
  simp only[Function.comp]
  split<;>rfl
 rw[List.map_append];rfl
theorem Kn{α:Type}{l:List (Int×α)}{t:Int}{a:α}{y:Int×α}(h:y∈oR l t a):y=(t,a)\/y∈l:=by
 unfold oR at h;split at h
 ·obtain⟨x,hx,rfl⟩:=List.mem_map.1 h
  split
  ·exact .inl rfl
  exact .inr hx
 rcases List.mem_append.1 h with h|h
 ·exact .inr h
 exact .inl (by simpa using h)
theorem pI.look{α:Type}{R:World->Value->α->Prop}{w:World}{m:Nat}{l:List (Int×α)}(h:pI R w m l){T E:TypeId}(hT:prog.underlying T=some (.map 2 E)){z:Value}(hz:∀w,(zeroValue E).run prog w=.ok z w){t:Int}(ht:0<=t/\t<=281474976710656):
  ∃v,(∀W,Fp ab w W->(Instr.lookup T (.map (some m)) (.int .i64 t) true).run prog W=.ok (.tuple #[v,.bool (lk l t).isSome]) W)/\(lk l t=none->v=z)/\∀a,lk l t=some a->R w v a:=by
 obtain⟨L,h1,h2,h3⟩:=h.ex;have hr:=λW (f:Fp ab w W)=>(h1.keep f id).look hT (hz W) ht
 have e:lk l t=(lk L t).map Prod.snd:=by rw[<-h2,zY (λx:Value×α=>x.2)]
 refine⟨((lk L t).map Prod.fst).getD z,λW f=>?_,?_,?_⟩
 ·have:=hr W f
  rw[zY (λx:Value×α=>x.1)]at this
  rw[this,e];simp
 ·intro hn
  rw[e]at hn;have:lk L t=none:=by simpa using hn
  rw[this];rfl
 intro a ha;rw[e]at ha;cases hl:lk L t with
 |none=>rw[hl]at ha;cases ha
 |some y=>?_
 rw[hl]at ha;have:y.2=a:=by simpa using ha
 rw[<-this];exact h3 _ (uA hl)
theorem pI.len{α:Type}{R:World->Value->α->Prop}{w:World}{m:Nat}{l:List (Int×α)}(h:pI R w m l){T E:TypeId}(hT:prog.underlying T=some (.map 2 E))(ty:TypeId):(Builtin.len_ #[T] ty #[.map (some m)]).run prog w=.ok (.int .i64 (l.length:Int)) w:=by
 obtain⟨L,h1,h2,h3⟩:=h.ex;rw[h1.len hT ty,List.length_map,<-h2,List.length_map]
structure Vu{α:Type}(R:World->Value->α->Prop)(m:Nat)(l:List (Int×α))(w w':World):Prop where
 mp:pI R w' m l
 fp:Fp (λk=>k=m) w w'
theorem pI.Ca{α:Type}{R:World->Value->α->Prop}{w:World}{m:Nat}{l:List (Int×α)}(h:pI R w m l){T E:TypeId}(hT:prog.underlying T=some (.map 2 E)){t:Int}(ht:0<=t/\t<=281474976710656)(v:Value)(a:α)(hn:l.length<=1000000)
  (hv:∀w',Fp (λk=>k=m) w w'->R w' v a) (hR:∀w',Fp (λk=>k=m) w w'->∀v a,R w v a->R w' v a):
  ∃w',(Instr.mapUpdate T (.map (some m)) (.int .i64 t) v).run prog w=.ok () w'/\Vu R m (oR l t a) w w':=by
 obtain⟨L,h1,h2,h3⟩:=h.ex;obtain⟨w',hr,hu⟩:=h1.Ca hT ht v (by rw[List.length_map];rw[<-h2,List.length_map]at hn;exact hn)
 refine⟨w',hr,⟨oR L t (v,a),?_,?_,λy hy=>?_⟩,hu.fp⟩
 ·rw[<-Cf (λx:Value×α=>x.1)];exact hu.mp
 ·rw[<-Cf (λx:Value×α=>x.2),h2]
 rcases Kn hy with rfl|hy
 ·exact hv w' hu.fp
 exact hR w' hu.fp _ _ (h3 y hy)
theorem pI.made{α:Type}(R:World->Value->α->Prop)(w:World):pI R (w.alloc (.map #[] 0)) w.heap.size []:=⟨[],vU.made w,rfl,λ_ h=>by cases h⟩
theorem pI.cells{α:Type}{R:World->Value->α->Prop}{w:World}{m:Nat}{l:List (Int×α)}(h:pI R w m l){cs:Array Value}{T:TypeId}{fz:Nat×Nat}:w.heap[m]?≠some (.cells cs T fz):=by
 obtain⟨L,h1,_⟩:=h.ex;exact h1.cells
def Su(x:Bool×Int):Value:=.agg #[.bool x.1,.int .i64 x.2]
def xg(vn vt vr vh vw vs:Value)(a x d:Nat):Array Value:=#[vn,vt,vr,vh,vw,vs,.map (some a),.map (some x),.map (some d)]
def Bk(q a x d:Nat):Nat->Prop:=λk=>k=q\/k=a\/k=x\/k=d
structure Js(w:World)(vn vt vr vh vw vs:Value)(h:bQ):Prop where
 n:Ns w vn h.st.nodes
 t:Ts w vt h.st.turns
 r:di w vr h.rg
 hh:di w vh h.hs
 w:yZ w (.agg #[vw,vs]) h.wd
structure mg(w:World)(q a x d:Nat)(vn vt vr vh vw vs:Value)(h:bQ):Prop where
 row:w.heap[q]?=some (.cells (xg vn vt vr vh vw vs a x d) sd (0,0))
 v:Js w vn vt vr vh vw vs h
 ids:pI EL w a h.ids
 dI:pI OC w x h.dI
 ds:pI (λ_ v y=>v=Su y) w d h.ds
 ax:a≠x
 ad:a≠d
 xd:x≠d
structure iR(w:World)(q a x d:Nat)(h:bQ):Prop where
 ex:∃vn vt vr vh vw vs,mg w q a x d vn vt vr vh vw vs h
theorem Ns.eL{w:World}{v:Value}{l:List Nd}(h:Ns w v l):∃a n c,v=.slice a n c:=by obtain⟨a,c,e⟩:=h.shape;exact⟨a,_,c,e⟩
theorem pI.mF{α:Type}{R:World->Value->α->Prop}{w:World}{m:Nat}{l:List (Int×α)}(h:pI R w m l):oY w m:=by
 obtain⟨L,h1,_⟩:=h.ex;obtain⟨D,⟨es,clock,hb,_⟩,_⟩:=h1.ex;exact .inl ⟨es,clock,hb⟩
theorem jk{cs:Array Value}{T:TypeId}(h1:T≠9)(h2:T≠2)(h:∀v∈cs.toList,oz v\/∃m,v=.map m):Ce cs T:=by
 have hm:∀j v,cs[j]?=some v->oz v\/∃m,v=.map m:=λj v hv=>h v (Array.mem_toList_iff.2 (Array.mem_of_getElem? hv))
 refine⟨h1,h2,λj s e=>?_,λj n m a b c e _ _=>?_⟩
 ·rcases hm j _ e with⟨_,_,_,e⟩|⟨_,e⟩<;>cases e
 rcases hm j _ e with⟨_,_,_,e⟩|⟨_,e⟩<;>cases e
theorem kE{a:ck}{vr vn vt ve vw:Value}(h1:oz vr)(h2:oz vn)(h3:oz vt)(h4:oz ve)(h5:oz vw):Ce (aC a vr vn vt ve vw) aT:=by
 have uH:∀j,10<=j->(aC a vr vn vt ve vw)[j]?=none:=λj hj=>Array.getElem?_eq_none (by unfold aC;simpa using hj)
 obtain⟨_,_,_,rfl⟩:=h1;obtain⟨_,_,_,rfl⟩:=h2;obtain⟨_,_,_,rfl⟩:=h3;obtain⟨_,_,_,rfl⟩:=h4;obtain⟨_,_,_,rfl⟩:=h5;refine⟨by decide,by decide,λj s e=>?_,λj n m x b c e f g=>?_⟩
 ·by_cases hj:10<=j
  ·rw[uH j hj]at e;cases e
  have:j=0\/j=1\/j=2\/j=3\/j=4\/j=5\/j=6\/j=7\/j=8\/j=9:=by omega
  rcases this with rfl|rfl|rfl|rfl|rfl|rfl|rfl|rfl|rfl|rfl<;>cases e
 by_cases hj:10<=j
 ·rw[uH j hj]at e;cases e
 have:j=0\/j=1\/j=2\/j=3\/j=4\/j=5\/j=6\/j=7\/j=8\/j=9:=by omega
 rcases this with rfl|rfl|rfl|rfl|rfl|rfl|rfl|rfl|rfl|rfl
 ·cases g
 ·cases f
 ·cases e
 ·cases f
 all_goals cases e
theorem Js.eL{w:World}{vn vt vr vh vw vs:Value}{h:bQ}(k:Js w vn vt vr vh vw vs h):∀v∈[vn,vt,vr,vh,vw,vs],∃a n c,v=.slice a n c:=by
 obtain⟨a1,c1,e1⟩:=k.n.shape;obtain⟨a2,c2,e2⟩:=k.t.shape;obtain⟨a3,c3,e3⟩:=k.r.shape;obtain⟨a4,c4,e4⟩:=k.hh.shape;obtain⟨w1,w2,e,h5,h6⟩:=k.w.ex;injection e with e
 have e':=congrArg Array.toList e;simp only[List.cons.injEq,and_true]at e'
 have e5:vw=w1:=e'.1;have e6:vs=w2:=e'.2;obtain⟨a5,c5,e7⟩:=h5.shape;obtain⟨a6,c6,e8⟩:=h6.shape;intro v hv;simp only[List.mem_cons,List.not_mem_nil,or_false]at hv
 rcases hv with rfl|rfl|rfl|rfl|rfl|rfl
 ·exact⟨_,_,_,e1⟩
 ·exact⟨_,_,_,e2⟩
 ·exact⟨_,_,_,e3⟩
 ·exact⟨_,_,_,e4⟩
 ·exact⟨_,_,_,e5.trans e7⟩
 exact⟨_,_,_,e6.trans e8⟩
theorem mg.mF{w:World}{q a x d:Nat}{vn vt vr vh vw vs:Value}{h:bQ}(k:mg w q a x d vn vt vr vh vw vs h):∀j,Bk q a x d j->oY w j:=by
 intro j hj;rcases hj with rfl|rfl|rfl|rfl
 ·refine .inr ⟨_,_,k.row,jk (by decide) (by decide) λv hv=>?_⟩
  have hs:=k.v.eL;simp only[xg,List.mem_cons,List.not_mem_nil,or_false]at hv
  rcases hv with rfl|rfl|rfl|rfl|rfl|rfl|rfl|rfl|rfl
  ·exact .inl (hs _ (by simp))
  ·exact .inl (hs _ (by simp))
  ·exact .inl (hs _ (by simp))
  ·exact .inl (hs _ (by simp))
  ·exact .inl (hs _ (by simp))
  ·exact .inl (hs _ (by simp))
  ·exact .inr ⟨_,rfl⟩
  ·exact .inr ⟨_,rfl⟩
  exact .inr ⟨_,rfl⟩
 ·exact k.ids.mF
 ·exact k.dI.mF
 exact k.ds.mF
theorem Js.off{S:Nat->Prop}{w w':World}{vn vt vr vh vw vs:Value}{h:bQ}(k:Js w vn vt vr vh vw vs h)(f:Bl S w w'):Js w' vn vt vr vh vw vs h:=
 ⟨k.n.off f,k.t.off f,k.r.off f,k.hh.off f,k.w.off f⟩
theorem mg.qa{w:World}{q a x d:Nat}{vn vt vr vh vw vs:Value}{h:bQ}(k:mg w q a x d vn vt vr vh vw vs h):q≠a/\q≠x/\q≠d:=by
 refine⟨?_,?_,?_⟩
 ·rintro rfl;exact k.ids.cells k.row
 ·rintro rfl;exact k.dI.cells k.row
 rintro rfl;exact k.ds.cells k.row
theorem mg.af{w w':World}{q a x d:Nat}{vn vt vr vh vw vs:Value}{h:bQ}(k:mg w q a x d vn vt vr vh vw vs h)(f:Fp ab w w'):mg w' q a x d vn vt vr vh vw vs h:=
 ⟨f.heap k.row id,k.v.off f.bl,k.ids.keep f id (λ_ _ h=>h.af f),k.dI.keep f id (λ_ _ h=>h.off f.bl),k.ds.keep f id (λ_ _ h=>h),k.ax,k.ad,k.xd⟩
theorem iR.af{w w':World}{q a x d:Nat}{h:bQ}(k:iR w q a x d h)(f:Fp ab w w'):iR w' q a x d h:=by
 obtain⟨vn,vt,vr,vh,vw,vs,k⟩:=k.ex;exact⟨vn,vt,vr,vh,vw,vs,k.af f⟩
theorem pI.lt{α:Type}{R:World->Value->α->Prop}{w:World}{m:Nat}{l:List (Int×α)}(h:pI R w m l):m<w.heap.size:=by
 obtain⟨L,h1,_⟩:=h.ex;exact h1.lt
theorem mg.lt{w:World}{q a x d:Nat}{vn vt vr vh vw vs:Value}{h:bQ}(k:mg w q a x d vn vt vr vh vw vs h):∀j,Bk q a x d j->j<w.heap.size:=by
 intro j hj;rcases hj with rfl|rfl|rfl|rfl
 ·exact(Array.getElem?_eq_some_iff.1 k.row).1
 ·exact k.ids.lt
 ·exact k.dI.lt
 exact k.ds.lt
theorem mg.off{S:Nat->Prop}{w w':World}{q a x d:Nat}{vn vt vr vh vw vs:Value}{h:bQ}(k:mg w q a x d vn vt vr vh vw vs h)(f:Bl S w w')(hS:∀j,Bk q a x d j->¬S j):mg w' q a x d vn vt vr vh vw vs h:=
 ⟨f.fp.heap k.row (hS q (.inl rfl)),k.v.off f,k.ids.keep f.fp (hS a (.inr (.inl rfl))) (λ_ _ h=>h.off f),k.dI.keep f.fp (hS x (.inr (.inr (.inl rfl)))) (λ_ _ h=>h.off f),k.ds.keep f.fp (hS d (.inr (.inr (.inr rfl)))) (λ_ _ h=>h),k.ax,k.ad,k.xd⟩
theorem iR.off{S:Nat->Prop}{w w':World}{q a x d:Nat}{h:bQ}(k:iR w q a x d h)(f:Bl S w w')(hS:∀j,Bk q a x d j->¬S j):iR w' q a x d h:=by
 obtain⟨vn,vt,vr,vh,vw,vs,k⟩:=k.ex;exact⟨vn,vt,vr,vh,vw,vs,k.off f hS⟩
theorem iR.mF{w:World}{q a x d:Nat}{h:bQ}(k:iR w q a x d h):∀j,Bk q a x d j->oY w j:=by
 obtain⟨vn,vt,vr,vh,vw,vs,k⟩:=k.ex;exact k.mF
theorem iR.lt{w:World}{q a x d:Nat}{h:bQ}(k:iR w q a x d h):∀j,Bk q a x d j->j<w.heap.size:=by
 obtain⟨vn,vt,vr,vh,vw,vs,k⟩:=k.ex;exact k.lt
theorem ej.eL{w:World}{a:ck}{vr vn vt ve vw:Value}(h:ej w a vr vn vt ve vw):oz vr/\oz vn/\oz vt/\oz ve/\oz vw:=by
 obtain⟨L,_,h1,_⟩:=h.r.ex;obtain⟨a1,c1,e1⟩:=h1.shape;obtain⟨a2,c2,e2⟩:=h.n.shape;obtain⟨a3,c3,e3⟩:=h.t.shape;obtain⟨a4,c4,e4⟩:=h.e.shape;obtain⟨lo,h5⟩:=h.w;obtain⟨a5,c5,e5⟩:=(dT.sg Cg h5).shape;exact⟨⟨_,_,_,e1⟩,⟨_,_,_,e2⟩,⟨_,_,_,e3⟩,⟨_,_,_,e4⟩,⟨_,_,_,e5⟩⟩
theorem aD{a:ck}{vr vn vt ve vw:Value}(h:oz vr/\oz vn/\oz vt/\oz ve/\oz vw):∀u∈(aC a vr vn vt ve vw).toList,u.oneCell'=true:=by
 obtain⟨⟨_,_,_,rfl⟩,⟨_,_,_,rfl⟩,⟨_,_,_,rfl⟩,⟨_,_,_,rfl⟩,⟨_,_,_,rfl⟩⟩:=h;intro u hu;simp only[aC,List.mem_cons,List.not_mem_nil,or_false]at hu
 rcases hu with rfl|rfl|rfl|rfl|rfl|rfl|rfl|rfl|rfl|rfl<;>rfl
def MU(ct:Int)(cW:List Ev):Prop:=∀i (h:i<cW.length),Gs (ct-cW.length+1+i) cW[i]=true
theorem qw(x:aU)(w:World)(hx:mB w x.ev x.s.cW)(hl:x.s.cW.length<=30000)(hp:∀e∈x.s.cW,e.p.length<=1000000):
  Calls prog 261 #[Oz x] w λe w'=>e=.returned (.bool (xh x.s))/\Fp ab w w':=by
 obtain⟨⟨nm,ct,cW⟩,a,c⟩:=x;have h1:=λw=>pF nm w
 unfold Oz aU.ev;simp only at hx hl hp|-
 obtain⟨n,hn⟩:∃n,n=cW.length:=⟨_,rfl⟩;have iL:xh ⟨nm,ct,cW⟩=true↔rX nm=true/\(0<=ct/\ct<=tj/\n<=8/\(n:Int)<=ct)/\MU ct cW:=by rw[hn];exact kF _
 unfold aU.ev at hx;simp only at hx
 rw[<-hn]at hx|-;rw[<-hn]at hl;have bZ:=aa w (.cells #[.int .i64 nm,.int .i64 ct,.slice a n c] TV);have r0:=heap_alloc_new w (.cells #[.int .i64 nm,.int .i64 ct,.slice a n c] TV);have K0:=zI (Kp.and (Kp.fp bZ) (Kp.row r0));obtain⟨b1,bO⟩:∃b,rX nm=b:=⟨_,rfl⟩;rw[bO]at h1 iL;have H1:=zI h1;have HX:=zI (yI hx (yI hn hp));obtain⟨br,aK⟩:∃b,xh ⟨nm,ct,cW⟩=b:=⟨_,rfl⟩;rw[aK]at iL|-
 have cP:¬(b1=true/\(0<=ct/\ct<=tj/\n<=8/\(n:Int)<=ct))->br=false:=λh=>by
  cases br with
  |false=>rfl
  |true=>exact absurd ((iL.1 rfl)) (λk=>h ⟨k.1,k.2.1⟩)
 have HR:=zI (yI iL cP);unfold tj at cP;clear h1 hx hn hp bO bZ r0 iL aK;go_enter func261,ntmps261
 go_wp2_with fail
 refine(H1 _).mono ?_;rintro e w1⟨rfl,rfl⟩;cases b1 with
 |false=>
  obtain rfl:=cP (λh=>by simp at h)
  clear cP;go_wp2;go_ret;exact⟨rfl,K0.now.1⟩
 |true=>?_
 by_cases hq:0<=ct/\ct<=281474976710656/\n<=8/\(n:Int)<=ct
 ·clear cP
  have HQ:=zI hq;obtain⟨q1,q2,q3,q4⟩:=hq;have t1:(ct<0)=False:=eq_false (by omega)
  have t2:(281474976710656<ct)=False:=eq_false (by omega)
  have t3:((8:Int)<(n:Int))=False:=eq_false (by omega)
  have t4:(ct-(n:Int)<0)=False:=eq_false (by omega)
  go_wp2_with fail
  have HB:=zI (show MU ct cW->br=true from λh=>HR.1.2 ⟨by first|rfl|trivial,HQ.out,h⟩)
  have HC:=zI (show ∀k (h:k<cW.length),¬Gs (ct-n+1+k) cW[k]=true->br=false from λk h hh=>by
   cases br with
   |false=>rfl
   |true=>?_
   have:=(HR.1.1 rfl).2.2 k h;rw[<-HX.2.1]at this;exact absurd this hh)
  clear HR t1 t2 t3 t4;go_loopw [37] (λi wr=>∃k:Nat,k<=n/\i=.int .i64 k/\Hid (Kp (λW'=>Fp ab w W'/\W'.heap[w.heap.size]?=some (.cells #[.int .i64 nm,.int .i64 ct,.slice a n c] TV (0,0))) wr/\∀j (hj:j<cW.length),j<k->Gs (ct-n+1+j) cW[j]=true)) (λi _=>n-(RowKit.intOf i).toNat)
  case atStart=>exact⟨0,Nat.zero_le _,rfl,K0.out,λj _ h=>absurd h (Nat.not_lt_zero j)⟩
  obtain⟨k,hk,rfl,hR⟩:=hrel;rename_i wr _
  by_cases ay:k<n
  ·have aS:k<cW.length:=by rw[<-HX.2.1];exact ay
   obtain⟨g,o,aY,e,_,_,oZ,aq⟩:=HX.1.at (by omega)
   injection e with e1 e2 e3
   subst e1 e3;clear e2;have aE:=(aq k aS).keep hR.1.now.1 id;have eT:=HC k aS
   have ga:Gs (ct-n+1+k) cW[k]=true->∀j (hj:j<cW.length),j<k+1->Gs (ct-n+1+j) cW[j]=true:=λh j hj rJ=>by
    rcases Nat.lt_or_eq_of_le (show j<=k by omega) with e|e
    ·exact hR.2 j hj e
    subst e;exact h
   have cC:=HX.2.2 _ (List.getElem_mem aS);have HL:=zI (yI aS ay);clear aq;generalize cW[k]=x at *;obtain⟨xn,xk,xp,xw⟩:=x;have c0:=aE.c0;have c1:=aE.c1;have c2:=aE.c2;have c3:=aE.c3;unfold au at c2;simp only at c0 c1 c2 c3 cC
   have cv:=aa wr (.cells #[.int .i64 xn,.int .i64 xk,.string (B xp),.int .i64 xw] TE);have h2:=λw=>cE xp w (cH cC (by omega))
   have h3:=λw=>pF xw w
   have rZ:Gs (ct-n+1+k) ⟨xn,xk,xp,xw⟩=(decide (xn=ct-n+1+k/\1<=xk/\xk<=4) && (split xp).isSome && rX xw):=rfl;rw[rZ]at eT ga;generalize (split xp).isSome=b2 at *;generalize rX xw=b3 at *;have H2:=zI h2;have H3:=zI h3;have HG:=zI (yI eT ga);have K1:=zI (Kp.and (Kp.row (heap_alloc_new wr (.cells #[.int .i64 xn,.int .i64 xk,.string (B xp),.int .i64 xw] TE))) (hR.1.later cv));have KA:=zI (λo=>(hR.1.later (aa wr o)).now.1)
   have q5:((k:Int)<(n:Int))=True:=eq_true (by omega)
   have q6:(k<n)=True:=eq_true ay;clear aE aS ay cC eT ga rZ cv h2 h3 HC;by_cases hq:xn=ct-n+1+k/\1<=xk/\xk<=4
   ·obtain rfl:=hq.1
    have u2:(xk<1)=False:=eq_false (by omega)
    have u3:(4<xk)=False:=eq_false (by omega)
    have hd:decide (ct-(n:Int)+1+k=ct-n+1+k/\1<=xk/\xk<=4)=true:=decide_eq_true hq;rw[hd]at HG;clear hd hq;go_wp2_with fail
    refine(H2 _).mono ?_;rintro e w2⟨rfl,hf⟩;have K2:=zI (K1.later hf.fp);clear hf;cases b2 with
    |false=>
     obtain rfl:=HG.1 (by simp)
     go_wp2;go_ret;exact⟨rfl,K2.now.2.1⟩
    |true=>?_
    obtain⟨_,_,_,d3⟩:=j6 K2.now.1;go_wp2_with fail
    refine(H3 _).mono ?_;rintro e w3⟨rfl,EM⟩;obtain rfl:=EM.symm;clear EM;cases b3 with
    |false=>
     obtain rfl:=HG.1 (by simp)
     go_wp2;go_ret;exact⟨rfl,K2.now.2.1⟩
    |true=>?_
    have hM:Hid (Kp (λW'=>Fp ab w W'/\W'.heap[w.heap.size]?=some (.cells #[.int .i64 nm,.int .i64 ct,.slice (some ⟨g,o,none⟩) n c] TV (0,0))) w2/\∀j (hj:j<cW.length),j<k+1->Gs (ct-n+1+j) cW[j]=true):=⟨λW f=>(K2 W f).2,HG.2 rfl⟩
    have eJ:=HL.2;clear HG d3;go_wp2;go_roundw
    case rel=>exact⟨k+1,by omega,by go_num,hM⟩
    case measure=>simp[RowKit.intOf];omega
   have hd:decide (xn=ct-n+1+k/\1<=xk/\xk<=4)=false:=decide_eq_false hq;rw[hd]at HG;obtain rfl:=HG.1 (by simp)
   have Z6:=zI hq;clear hd hq;go_wp2_with fail
   all_goals first
    |(go_ret;exact⟨rfl,KA _⟩)
    |(exfalso;apply Z6.out;omega)
    |(exfalso;apply Z6.out;refine⟨?_,?_,?_⟩<;>first|assumption|omega)
  have cV:k=n:=by omega
  subst cV;have q5:((k:Int)<(k:Int))=False:=eq_false (by omega)
  obtain rfl:=HB (λi hi=>by rw[<-HX.2.1];exact hR.2 i hi (by rw[HX.2.1];exact hi))
  clear ay hk;go_wp2;go_ret;exact⟨rfl,hR.1.now.1⟩
 obtain rfl:=cP (λh=>hq h.2)
 clear cP;have HQ:=zI hq;clear hq;go_wp2_with fail
 all_goals first
  |(go_ret;exact⟨rfl,K0.now.1⟩)
  |(exfalso;apply HQ.out;omega)
  |go_goals
end
end Go.Proofs.YtgafcelloiagmaaGreatDoor
