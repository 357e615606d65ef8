/- A text of this proof. -/
import Derived.Laws.EntriesVeiled
import Derived.StillTailTactics
import Derived.Test.YtgafcelloiagmaaGreatDoorZCI
import Derived.Test.YtgafcelloiagmaaGreatDoorZCJ
set_option maxHeartbeats 16000000
set_option linter.unusedSimpArgs false
set_option linter.unusedVariables false
set_option maxRecDepth 20000
namespace Go.Proofs.YtgafcelloiagmaaGreatDoor
open Go.Proofs.Tryz
section
open Go.RowKit Pm
abbrev TH:TypeId:=62
abbrev yW:TypeId:=34
def kU(n:Hl):List Value:=[au n.d,.int .i64 n.t,.int .i64 n.a]
def lF(n:Hl):Value:=.agg #[au n.d,.int .i64 n.t,.int .i64 n.a]
def aP(l:List Hl):List Value:=l.flatMap kU
theorem fC(n:Hl):(kU n).length=3:=rfl
theorem dG(n:Hl)(l:List Hl):aP (n::l)=kU n++aP l:=by simp[aP]
theorem gx(a b:List Hl):aP (a++b)=aP a++aP b:=by simp[aP]
theorem aJ(l:List Hl):(aP l).length=l.length*3:=by
 induction l with
 |nil=>rfl
 |cons n l ih=>rw[dG,List.length_append,fC,ih,List.length_cons];omega
theorem eh(l:List Hl)(i j:Nat)(hi:i<l.length)(hj:j<3):(aP l)[i*3+j]?=(kU l[i])[j]?:=by
 induction l generalizing i with
 |nil=>simp at hi
 |cons n l ih=>
  rw[dG];cases i with
  |zero=>rw[List.getElem?_append_left (by rw[fC];omega)];simp
  |succ i=>?_
  rw[List.getElem?_append_right (by rw[fC];omega),fC,show(i+1)*3+j-3=i*3+j from by omega,ih i (by simpa using hi)]
  simp
theorem kO(l:List Hl):∀u∈aP l,u.oneCell'=true:=by
 intro u hu;unfold aP at hu;rw[List.mem_flatMap]at hu;obtain⟨n,_,hu⟩:=hu;simp only[kU,List.mem_cons,List.not_mem_nil,or_false]at hu
 rcases hu with rfl|rfl|rfl<;>rfl
theorem Bh(l:List Hl)(k:Nat):(aP l).take (k*3)=aP (l.take k):=by
 induction l generalizing k with
 |nil=>simp[aP]
 |cons n l ih=>
  cases k with
  |zero=>simp[aP]
  |succ k=>rw[List.take_succ_cons,dG,dG,<-ih,List.take_append,fC,List.take_of_length_le (by rw[fC];omega),show(k+1)*3-3=k*3 from by omega]
structure dz(w:World)(g o:Nat)(n:Hl):Prop where
 c0:w.cell? ⟨g,o,none⟩=some (au n.d)
 c1:w.cell? ⟨g,o+1,none⟩=some (.int .i64 n.t)
 c2:w.cell? ⟨g,o+2,none⟩=some (.int .i64 n.a)
theorem dz.keep{w w':World}{g o:Nat}{n:Hl}(h:dz w g o n){S:Nat->Prop}(f:Fp S w w')(hS:¬S g):dz w' g o n:=
 ⟨f.cell h.c0 hS,f.cell h.c1 hS,f.cell h.c2 hS⟩
theorem dz.get{w:World}{g o:Nat}{n:Hl}(h:dz w g o n):∀j v,(kU n)[j]?=some v->w.cell? ((⟨g,o,none⟩:Addr).add j)=some v:=by
 intro j v hv;rw[Addr.add_lit];match j,hv with
 |0,hv=>rw[<-Option.some.inj hv];exact h.c0
 |1,hv=>rw[<-Option.some.inj hv];exact h.c1
 |2,hv=>rw[<-Option.some.inj hv];exact h.c2
 |j+3,hv=>simp[kU]at hv
structure di(w:World)(v:Value)(l:List Hl):Prop where
 ex:∃ao cap,v=.slice ao l.length cap/\l.length<=cap/\cap<=maxLen/\(l=[]\/∃g o,ao=some ⟨g,o,none⟩/\g<w.heap.size/\∀i (h:i<l.length),dz w g (o+i*3) l[i])
theorem di.keep{w w':World}{v:Value}{l:List Hl}(h:di w v l){S:Nat->Prop}(f:Fp S w w')(hS:∀k,v.ownBlock=some k->¬S k):di w' v l:=by
 obtain⟨ao,cap,rfl,h1,h2,h3⟩:=h.ex;refine⟨ao,cap,rfl,h1,h2,?_⟩;rcases h3 with h3|⟨g,o,rfl,hg,hc⟩
 ·exact .inl h3
 exact .inr ⟨g,o,rfl,Nat.lt_of_lt_of_le hg f.size,λi hi=>(hc i hi).keep f (hS g rfl)⟩
theorem di.af{w w':World}{v:Value}{l:List Hl}(h:di w v l)(f:Fp ab w w'):di w' v l:=h.keep f (λ_ _ h=>h)
theorem di.nil(w:World):di w (.slice none 0 0) []:=⟨none,0,rfl,Nat.le_refl _,Nat.zero_le _,.inl rfl⟩
theorem di.shape{w:World}{v:Value}{l:List Hl}(h:di w v l):∃ao cap,v=.slice ao l.length cap:=by
 obtain⟨ao,cap,rfl,_⟩:=h.ex;exact⟨ao,cap,rfl⟩
theorem di.at{w:World}{v:Value}{l:List Hl}(h:di w v l)(h0:0<l.length):∃g o cap,v=.slice (some ⟨g,o,none⟩) l.length cap/\l.length<=cap/\cap<=maxLen/\g<w.heap.size/\∀i (h:i<l.length),dz w g (o+i*3) l[i]:=by
 obtain⟨ao,cap,rfl,h1,h2,h3⟩:=h.ex;rcases h3 with h3|⟨g,o,rfl,hg,hc⟩
 ·subst h3;simp at h0
 exact⟨g,o,cap,rfl,h1,h2,hg,hc⟩
structure jC(w:World)(g cap:Nat)(l:List Hl):Prop where
 ex:∃rest,w.heap[g]?=some (.cells (aP l++rest).toArray TH (0,0))/\l.length*3+rest.length=cap*3
 room:l.length<=cap
 most:cap<=maxLen
theorem jC.lt{w:World}{g cap:Nat}{l:List Hl}(h:jC w g cap l):g<w.heap.size:=by
 obtain⟨r,h,_⟩:=h.ex;exact(Array.getElem?_eq_some_iff.1 h).1
theorem jC.keep{w w':World}{g cap:Nat}{l:List Hl}(h:jC w g cap l){S:Nat->Prop}(f:Fp S w w')(hS:¬S g):jC w' g cap l:=by
 obtain⟨r,h1,h2⟩:=h.ex;exact⟨⟨r,f.heap h1 hS,h2⟩,h.room,h.most⟩
theorem jC.cell{w:World}{g cap:Nat}{l:List Hl}(h:jC w g cap l)(i j:Nat)(hi:i<l.length)(hj:j<3):w.cell? ⟨g,i*3+j,none⟩=(kU l[i])[j]?:=by
 obtain⟨r,h1,_⟩:=h.ex;rw[cell_of_row w g _ _ TH (0,0) h1];simp only[List.getElem?_toArray]
 rw[List.getElem?_append_left (by rw[aJ];omega),eh l i j hi hj]
theorem jC.nd{w:World}{g cap:Nat}{l:List Hl}(h:jC w g cap l)(i:Nat)(hi:i<l.length):dz w g (0+i*3) l[i]:=by
 rw[Nat.zero_add];exact⟨h.cell i 0 hi (by omega),h.cell i 1 hi (by omega),h.cell i 2 hi (by omega)⟩
theorem jC.ns{w:World}{g cap:Nat}{l:List Hl}(h:jC w g cap l):di w (.slice (some ⟨g,0,none⟩) l.length cap) l:=
 ⟨_,cap,rfl,h.room,h.most,.inr ⟨g,0,rfl,h.lt,h.nd⟩⟩
theorem jC.frozen{w:World}{g cap:Nat}{l:List Hl}(h:jC w g cap l)(o:Nat):w.frozen? ⟨g,o,none⟩=false:=by
 obtain⟨r,h1,_⟩:=h.ex;simp[World.frozen?,h1]
theorem jC.owns{w:World}{g cap:Nat}{l:List Hl}(h:jC w g cap l){lo:Nat}(bq:lo<=g):w.ownsRow lo TH 3 (.slice (some ⟨g,0,none⟩) l.length cap) l.length (aP l):=by
 obtain⟨r,h1,h2⟩:=h.ex;refine⟨aJ l,.inr ⟨g,cap,_,rfl,bq,h1,h.room,h.most,by simp[aJ];omega,?_⟩⟩
 simp only
 rw[<-aJ l];exact List.take_left
theorem jC.cK{w:World}{lo g cap n:Nat}{l:List Hl}(h:w.ownsRow lo TH 3 (.slice (some ⟨g,0,none⟩) n cap) n (aP l))(hn:n=l.length):jC w g cap l/\lo<=g:=by
 subst hn;rcases h.2 with⟨h0,_⟩|⟨g',aY,cur,e,hb,hg,h1,h2,h3,h4⟩
 ·cases h0
 injection e with e1 _ e3
 injection e1 with e1
 injection e1 with e1
 subst e1 e3;refine⟨⟨⟨cur.toList.drop (l.length*3),?_,?_⟩,h1,h2⟩,hb⟩
 ·rw[<-h4,List.take_append_drop];exact hg
 have e:cur.toList.length=cap*3:=by rw[Array.length_toList,h3]
 rw[List.length_drop,e];omega
theorem Tryz.UZ:(prog.info? TH).map (λi=>(i.zero,i.size,i.bytes))=some (some (.agg #[.string ⟨#[]⟩,.int .i64 0,.int .i64 0]),3,32):=by kernel_rfl
theorem nU(w:World)(ty:TypeId)(g o n c:Nat)(cur:List Value)(hg:w.heap[g]?=some (.cells cur.toArray TH (0,0)))(fX:o+n*3<=cur.length)(h0:0<n):
  ∃zs:List Value,zs.length=n*3/\(Builtin.clear_ #[yW] ty #[.slice (some ⟨g,o,none⟩) n c]).run prog w=.ok (.tuple #[]) (w.setRow g (cur.take o++zs++cur.drop (o+n*3)).toArray):=by
 refine⟨(Builtin.zeroCells #[.string ⟨#[]⟩,.int .i64 0,.int .i64 0] n).toList,by simp[size_zeroCells],?_⟩
 have aN:=run_storeCells_at prog g o TH (Builtin.zeroCells #[.string ⟨#[]⟩,.int .i64 0,.int .i64 0] n).toList 0 cur.toArray w hg (by simpa[size_zeroCells]using fX) (by
  intro v hv;simp only[Builtin.zeroCells,Array.toList_map,List.mem_map,Array.toList_range]at hv
  obtain⟨i,_,rfl⟩:=hv;have:i % 3<3:=Nat.mod_lt _ (by omega)
  generalize i % 3=k at this;match k,this with
  |0,_=>rfl
  |1,_=>rfl
  |2,_=>rfl)
 obtain⟨m,rfl⟩:∃m,n=m+1:=⟨n-1,by omega⟩
 simp[size_zeroCells]at aN
 simp[Builtin.clear_,run_underlying Tryz.underlying34,Value.cells,aN]
theorem Bi(w:World)(a:Addr)(n c:Nat):(binOp .eql yW (.slice (some a) n c) (.slice none 0 0)).run prog w=.ok (.bool false) w:=
 Lib.run_eql_slice_nil w yW TH (some a) n c 0 0 Tryz.underlying34
def gg(lo:Nat)(w:World)(v:Value)(l:List Hl):Prop:=w.ownsRow lo TH 3 v l.length (aP l)
theorem gg.ways{lo:Nat}{w:World}{v:Value}{l:List Hl}(h:gg lo w v l):(v=.slice none 0 0/\l=[])\/∃G cap,v=.slice (some ⟨G,0,none⟩) l.length cap/\jC w G cap l/\lo<=G:=by
 have h':=h;unfold gg at h';rcases h'.2 with⟨h0,h1⟩|⟨g,cap,cur,e,hb,hg,h1,h2,h3,h4⟩
 ·refine .inl ⟨h0,?_⟩
  cases l with
  |nil=>rfl
  |cons x l=>simp at h1
 refine .inr ⟨g,cap,e,?_⟩;unfold gg at h;rw[e]at h;exact jC.cK h rfl
theorem gg.ns{lo:Nat}{w:World}{v:Value}{l:List Hl}(h:gg lo w v l):di w v l:=by
 rcases h.ways with⟨rfl,rfl⟩|⟨G,cap,rfl,h1,_⟩
 ·exact di.nil w
 exact h1.ns
theorem gg.row{lo:Nat}{w:World}{G cap:Nat}{l:List Hl}(h:jC w G cap l)(bq:lo<=G):gg lo w (.slice (some ⟨G,0,none⟩) l.length cap) l:=h.owns bq
theorem gg.nil(lo:Nat)(w:World):gg lo w (.slice none 0 0) []:=⟨rfl,.inl ⟨rfl,rfl⟩⟩
theorem gg.keep{lo:Nat}{w w':World}{v:Value}{l:List Hl}(h:gg lo w v l){S:Nat->Prop}(f:Fp S w w')(hS:∀k,v.ownBlock=some k->¬S k):gg lo w' v l:=by
 rcases h.ways with⟨rfl,rfl⟩|⟨G,cap,rfl,h1,h2⟩
 ·exact gg.nil lo w'
 exact gg.row (h1.keep f (hS G rfl)) h2
theorem gg.af{lo:Nat}{w w':World}{v:Value}{l:List Hl}(h:gg lo w v l)(f:Fp ab w w'):gg lo w' v l:=h.keep f (λ_ _ h=>h)
theorem gg.low{lo:Nat}{w:World}{v:Value}{l:List Hl}(h:gg lo w v l):∀k,v.ownBlock=some k->lo<=k:=by
 rcases h.ways with⟨rfl,rfl⟩|⟨G,cap,rfl,_,h2⟩
 ·intro k hk;simp[Value.ownBlock]at hk
 intro k hk;simp[Value.ownBlock]at hk;omega
theorem wP(w:World)(lo:Nat)(v:Value)(l m:List Hl)(ty:TypeId)(a:Addr)(n c:Nat)(hv:gg lo w v l)(hn:n=m.length)(hx:∀i (h:i<m.length) j u,(kU m[i])[j]?=some u->w.cell? (a.add (i*3+j))=some u)(h6:l.length+m.length<=100000)(bq:lo<=w.heap.size):
  ∃v' w',(Builtin.append_ #[yW,yW] ty #[v,.slice (some a) n c]).run prog w=.ok v' w'/\gg lo w' v' (l++m)/\w.grownBy w' v.ownBlock/\∀k,v'.ownBlock=some k->v.ownBlock=some k\/w.heap.size<=k:=by
 obtain⟨i,hi,hz,db,qY⟩:=info_parts Tryz.UZ;subst hn
 obtain⟨v',w',hr,h4,h5,_,h8⟩:=run_append_own_at (P:=prog) w lo yW ty TH i _ 3 32 Tryz.underlying34 hi hz db qY rfl (by decide) v l.length (aP l) hv a m.length c (aP m) (aJ m)
  (λj u hu=>by
   have hj:j<m.length*3:=by rw[<-aJ];exact(List.getElem?_eq_some_iff.1 hu).1
   have hd:j / 3<m.length:=by omega
   have e:j / 3*3+j % 3=j:=by omega
   rw[<-e,eh m (j / 3) (j % 3) hd (by omega)]at hu
   have:=hx (j / 3) hd (j % 3) u hu;rwa[e]at this)
  (kO m) (by unfold maxLen;omega) (by omega) bq
 refine⟨v',w',hr,?_,h5,λk hk=>?_⟩
 ·unfold gg
  rw[gx,List.length_append];exact h4
 rcases h8 with e|e
 ·exact .inl (by rw[<-e];exact hk)
 rw[hk]at e;injection e with e;exact .inr (by omega)
structure KS(w:World)(l:List Hl)(v':Value)(w':World):Prop where
 own:gg w.heap.size w' v' l
 fp:Fp ab w w'
theorem lI(v:Value)(l:List Hl)(w:World)(hv:di w v l)(h5:l.length<=100000):
  Calls prog 46 #[v] w λe w'=>∃v',e=.returned v'/\KS w l v' w':=by
 obtain⟨ao,cap,rfl,h1,h2,h3⟩:=hv.ex;cases ao with
 |none=>
  obtain rfl:l=[]:=by
   rcases h3 with h|⟨_,_,h,_⟩
   ·exact h
   cases h
  have fW:∀w:World,(binOp .eql yW (.slice none 0 cap) (.slice none 0 0)).run prog w=.ok (.bool true) w:=λw=>Lib.run_eql_slice_nil w yW TH none 0 cap 0 0 Tryz.underlying34
  clear h1 h2 h3 hv h5;simp only[List.length_nil]
  go_enter func46,ntmps46
  go_wp2;go_ret;exact⟨_,rfl,gg.nil _ _,Fp.refl _ _⟩
 |some a=>?_
 have aL:gg w.heap.size (w.alloc (.cells #[] TH)) (.slice (some ⟨w.heap.size,0,none⟩) 0 0) []:=World.ownsRow_lit w #[] 0 (Nat.le_refl _) (by unfold maxLen;omega) rfl
 have hx:∀i (h:i<l.length) j u,(kU l[i])[j]?=some u->(w.alloc (.cells #[] TH)).cell? (a.add (i*3+j))=some u:=λi hi j u hu=>by
  rcases h3 with h|⟨g,o,e,_,hc⟩
  ·subst h;simp at hi
  injection e with e;subst e
  have:=((hc i hi).keep ((Fp.refl ab w).alloc (.cells #[] TH)) id).get j u hu;rw[Addr.add_lit]at this|-;rwa[Nat.add_assoc]at this
 have bM:∀ty,∃v' w',(Builtin.append_ #[yW,yW] ty #[.slice (some ⟨w.heap.size,0,none⟩) 0 0,.slice (some a) l.length cap]).run prog (w.alloc (.cells #[] TH))=.ok v' w'/\KS w l v' w':=λty=>by
  obtain⟨v',w',hr,ho,hg,_⟩:=wP (w.alloc (.cells #[] TH)) w.heap.size _ [] l ty a l.length cap aL rfl hx (by simp;omega) (by simp)
  exact⟨v',w',hr,ho,((Fp.refl ab w).alloc _).grown hg (λk hk=>.inr (by simp[Value.ownBlock]at hk;omega))⟩
 have fW:=Bi;have uS:=Lib.hid (bM yW);clear bM aL hx hv h1 h2 h3 h5;generalize l.length=n at *;go_enter func46,ntmps46
 go_wp2_with (at_builtin;go_must (refine aG rfl _ _ _ _ rfl _ _ rfl rfl (KS w l) uS.out ?_))
 intro u w2 hR;have HR:=Lib.hid hR;clear hR;go_wp2;go_ret;exact⟨_,rfl,HR.out⟩
structure RA(lo:Nat)(w:World)(v:Value)(l:List Hl)(v':Value)(w':World):Prop where
 own:gg lo w' v' l
 fp:Fp (λk=>v.ownBlock=some k) w w'
 new:∀k,v'.ownBlock=some k->v.ownBlock=some k\/w.heap.size<=k
def zG(l:List Hl):Prop:=∀x∈l,x.d.length<=1000000
structure uZ(S:Nat->Prop)(wc:World)(f:Value)(q:Hl->Bool):Prop where
 ex:∃k fi cap,f=.func (.func k) fi cap/\Enters prog k/\∀n w1,n.d.length<=1000000->Fp S wc w1->
  Calls prog k (fi++#[lF n]++cap) w1 λe w2=>e=.returned (.bool (q n))/\Fp ab w1 w2
theorem uZ.later{S:Nat->Prop}{wc w:World}{f:Value}{q:Hl->Bool}(h:uZ S wc f q)(g:Fp S wc w):uZ S w f q:=by
 obtain⟨k,fi,cap,e,h1,h2⟩:=h.ex;exact⟨k,fi,cap,e,h1,λn w1 hn hf=>h2 n w1 hn (g.same hf)⟩
theorem uZ.af{S:Nat->Prop}{wc:World}{f:Value}{q:Hl->Bool}(h:uZ S wc f q):uZ ab wc f q:=by
 obtain⟨k,fi,cap,e,h1,h2⟩:=h.ex;exact⟨k,fi,cap,e,h1,λn w1 hn hf=>h2 n w1 hn hf.any⟩
def Ek(q:Hl->Bool)(l:List Hl)(z:Int):Prop:=(z = -1/\∀n∈l,q n=false)\/∃i,z=((i:Nat):Int)/\∃h:i<l.length,q l[i]=true/\∀j (hj:j<l.length),j<i->q l[j]=false
theorem mX(v f:Value)(l:List Hl)(q:Hl->Bool)(w:World)(hv:di w v l)(hs:zG l)(hq:uZ ab w f q)(hn:l.length<=1000000):
  Calls prog 235 #[v,f] w λe w'=>(∃z,e=.returned (.int .i64 z)/\Ek q l z)/\Fp ab w w':=by
 obtain⟨ao,cap,rfl⟩:=hv.shape;obtain⟨n,aR⟩:∃n,n=l.length:=⟨_,rfl⟩;obtain⟨kf,fi,fc,rfl,gU,bB⟩:=hq.ex;have HX:=Lib.hid (And.intro aR (And.intro hv (And.intro hs bB)));rw[<-aR];have jS:n<=1000000:=by omega
 clear hv hs hq bB hn aR;go_enter func235,ntmps235
 go_wp2_with fail
 go_loopw [8] (λi wr=>∃k:Nat,k<=n/\i=.int .i64 k/\Hid (Fp ab w wr/\∀j (hj:j<l.length),j<k->q l[j]=false)) (λi _=>n-(RowKit.intOf i).toNat)
 case atStart=>exact⟨0,Nat.zero_le _,rfl,Fp.refl _ _,λj _ h=>absurd h (Nat.not_lt_zero j)⟩
 obtain⟨k,hk,rfl,hR⟩:=hrel;rename_i wr _
 by_cases ay:k<n
 ·have aS:k<l.length:=by rw[<-HX.1];exact ay
  obtain⟨g,o,aY,e,_,_,_,aq⟩:=HX.2.1.at (by omega)
  injection e with e1 e2 e3
  subst e1 e3;have aE:=(aq k aS).keep hR.1 id;have dy:=HX.2.2.2 l[k] wr (HX.2.2.1 _ (List.getElem_mem aS)) hR.1;obtain⟨b,hb⟩:∃b,q l[k]=b:=⟨_,rfl⟩;rw[hb]at dy;have HB:=Lib.hid (And.intro aS (And.intro hb ay));have HL:=Lib.hid (And.intro aS ay)
  have gi:b=false->∀j (hj:j<l.length),j<k+1->q l[j]=false:=λh j hj rJ=>by
   rcases Nat.lt_or_eq_of_le (show j<=k by omega) with e|e
   ·exact hR.2 j hj e
   subst e;rw[hb,h]
  have bf:b=true->Ek q l (k:Int):=λh=>.inr ⟨k,rfl,aS,by rw[hb,h],λj hj rJ=>hR.2 j hj rJ⟩
  have HN:=Lib.hid (And.intro gi bf);clear HB gi bf hb aq;generalize l[k]=x at *;have c0:=aE.c0;have c1:=aE.c1;have c2:=aE.c2;unfold au at c0;unfold lF au at dy;have q3:((k:Int)<(n:Int))=True:=eq_true (by omega)
  have q4:(k<n)=True:=eq_true ay;have uR:=Lib.hid dy;clear aE dy aS ay;go_wp2_with fail
  rw[gU _ _];go_wp2_with fail
  refine uR.mono ?_;rintro e w2⟨rfl,bY⟩;have HF:=Lib.hid (hR.1.then bY);clear bY;cases b with
  |true=>
   have hI:=HN.2 rfl;have HI:=Lib.hid hI;clear HN hI;go_wp2;go_ret;exact⟨⟨_,rfl,HI.out⟩,HF.out⟩
  |false=>?_
  have hM:Hid (Fp ab w w2/\∀j (hj:j<l.length),j<k+1->q l[j]=false):=⟨HF.out,HN.1 rfl⟩;have eJ:=HL.2;clear HN;go_wp2;go_roundw
  case rel=>exact⟨k+1,by omega,by go_num,hM⟩
  case measure=>simp[RowKit.intOf];omega
 have cV:k=n:=by omega
 subst cV;have q3:((k:Int)<(k:Int))=False:=eq_false (by omega)
 have hI:Ek q l (-1):=.inl ⟨rfl,λx hx=>by
  obtain⟨i,hi,rfl⟩:=List.getElem_of_mem hx;exact hR.2 i hi (by rw[HX.1];exact hi)⟩
 have HI:=Lib.hid hI;clear ay hk hI;go_wp2;go_ret;exact⟨⟨_,rfl,HI.out⟩,hR.1⟩
theorem Ek.pos{q:Hl->Bool}{l:List Hl}{z:Int}(h:Ek q l z):decide (0<=z)=l.any q:=by
 rcases h with⟨rfl,h⟩|⟨i,rfl,hi,h,_⟩
 ·have:l.any q=false:=by rw[List.any_eq_false];intro x hx;simp[h x hx]
  rw[this];rfl
 have:l.any q=true:=List.any_eq_true.2 ⟨_,List.getElem_mem hi,h⟩;rw[this];simp
theorem oy(v f:Value)(l:List Hl)(q:Hl->Bool)(w:World)(hv:di w v l)(hs:zG l)(hq:uZ ab w f q)(hn:l.length<=1000000):
  Calls prog 185 #[v,f] w λe w'=>e=.returned (.bool (l.any q))/\Fp ab w w':=by
 have hi:=mX v f l q w hv hs hq hn;have HI:=Lib.hid hi;obtain⟨ao,cap,rfl⟩:=hv.shape;obtain⟨kf,fi,fc,rfl,_,_⟩:=hq.ex;clear hi hv hq hs hn;go_enter func185,ntmps185
 go_wp2_with fail
 refine HI.mono ?_;rintro e w1⟨⟨z,rfl,hz⟩,hf⟩;have HZ:=Lib.hid (And.intro hz.pos hf);clear hz hf;go_wp2;go_ret;exact⟨aB HZ.1,HZ.2⟩
theorem uZ.sub{S T:Nat->Prop}{wc:World}{f:Value}{q:Hl->Bool}(h:uZ S wc f q)(k:∀i,T i->S i):uZ T wc f q:=by
 obtain⟨kf,fi,cap,e,h1,h2⟩:=h.ex;exact⟨kf,fi,cap,e,h1,λn w1 hn hf=>h2 n w1 hn (hf.mono k)⟩
theorem El{w:World}{G cap:Nat}{l:List Hl}(h:jC w G cap l)(ty:TypeId)(n c:Nat)(h0:0<n)(hn:l.length+n<=cap):
  ∃w',(Builtin.clear_ #[yW] ty #[.slice (some ⟨G,l.length*3,none⟩) n c]).run prog w=.ok (.tuple #[]) w'/\jC w' G cap l/\Fp (λj=>j=G) w w':=by
 obtain⟨rest,hg,rP⟩:=h.ex;have l0:(aP l++rest).length=cap*3:=by rw[List.length_append,aJ];omega
 obtain⟨zs,hz,hr⟩:=nU w ty G (l.length*3) n c (aP l++rest) hg (by rw[l0];omega) h0
 refine⟨_,hr,⟨⟨zs++(aP l++rest).drop (l.length*3+n*3),?_,?_⟩,h.room,h.most⟩,av w G _⟩
 ·rw[setRow_heap w G _ _ TH _ hg]
  congr 2
  rw[<-aJ l,List.take_left,List.append_assoc]
 rw[List.length_append,List.length_drop,hz,l0];omega
structure iY(S:Nat->Prop)(q:Hl->Bool)(l:List Hl)(G cap:Nat)(w:World)(i j:Nat)(wr:World):Prop where
 ex:∃m,jC wr G cap m/\m.length=l.length/\m.take i=(l.take j).filter (λn=>!q n)/\m.drop j=l.drop j
 ij:i<j
 fp:Fp (λk=>k=G) w wr
theorem iY.keep{S:Nat->Prop}{q:Hl->Bool}{l:List Hl}{G cap i j:Nat}{w wr w':World}(h:iY S q l G cap w i j wr)(f:Fp ab wr w'):iY S q l G cap w i j w':=by
 obtain⟨m,h1,h2⟩:=h.ex;exact⟨⟨m,h1.keep f id,h2⟩,h.ij,h.fp.then f⟩
theorem l4(l:List Hl)(j:Nat)(hj:j<l.length)(p:Hl->Bool):(l.take (j+1)).filter p=(l.take j).filter p++if p l[j]=true then [l[j]] else []:=by
 rw[List.take_succ_eq_append_getElem hj,List.filter_append];congr 1
 by_cases h:p l[j]=true<;>simp[h]
theorem iY.gone{S:Nat->Prop}{q:Hl->Bool}{l:List Hl}{G cap i j:Nat}{w wr:World}(h:iY S q l G cap w i j wr)(hj:j<l.length)(hq:q l[j]=true):iY S q l G cap w i (j+1) wr:=by
 obtain⟨m,h1,h2,h3,h4⟩:=h.ex;refine⟨⟨m,h1,h2,?_,?_⟩,Nat.lt_succ_of_lt h.ij,h.fp⟩
 ·rw[l4 l j hj,h3];simp[hq]
 have:=congrArg (List.drop 1) h4;rwa[List.drop_drop,List.drop_drop]at this
theorem iY.stays{S:Nat->Prop}{q:Hl->Bool}{l:List Hl}{G cap i j:Nat}{w wr w':World}(h:iY S q l G cap w i j wr)(hj:j<l.length)(hq:q l[j]=false)
  (hs:∀m,jC wr G cap m->i<m.length->jC w' G cap (m.set i l[j])) (f:Fp (λk=>k=G) wr w'):iY S q l G cap w (i+1) (j+1) w':=by
 obtain⟨m,h1,h2,h3,h4⟩:=h.ex;have hi:=h.ij;refine⟨⟨m.set i l[j],hs m h1 (by omega),by rw[List.length_set,h2],?_,?_⟩,by omega,h.fp.same f⟩
 ·rw[l4 l j hj,<-h3]
  simp only[hq,Bool.not_false,if_true]
  rw[List.take_succ_eq_append_getElem (by rw[List.length_set];omega),List.getElem_set_self,List.take_set_of_le (Nat.le_refl _)]
 rw[List.drop_set_of_lt (by omega)]
 have:=congrArg (List.drop 1) h4;rwa[List.drop_drop,List.drop_drop]at this
theorem iY.cell{S:Nat->Prop}{q:Hl->Bool}{l:List Hl}{G cap i j:Nat}{w wr:World}(h:iY S q l G cap w i j wr)(hj:j<l.length):dz wr G (0+j*3) l[j]:=by
 obtain⟨m,h1,h2,h3,h4⟩:=h.ex;have hm:j<m.length:=by omega
 have e:m[j]=l[j]:=by
  have h5:(m.drop j)[0]?=(l.drop j)[0]?:=by rw[h4]
  rw[List.getElem?_drop,List.getElem?_drop,List.getElem?_eq_getElem (by omega),List.getElem?_eq_getElem (by omega)]at h5
  exact Option.some.inj h5
 rw[<-e];exact h1.nd j hm
theorem iY.there{S:Nat->Prop}{q:Hl->Bool}{l:List Hl}{G cap i j:Nat}{w wr:World}(h:iY S q l G cap w i j wr)(hj:j<=l.length):∃y,dz wr G (i*3) y:=by
 obtain⟨m,h1,h2,h3,h4⟩:=h.ex;have hi:=h.ij;have:=h1.nd i (by omega)
 rw[Nat.zero_add]at this;exact⟨_,this⟩
theorem iY.frozen{S:Nat->Prop}{q:Hl->Bool}{l:List Hl}{G cap i j:Nat}{w wr:World}(h:iY S q l G cap w i j wr)(o:Nat):wr.frozen? ⟨G,o,none⟩=false:=by
 obtain⟨m,h1,_⟩:=h.ex;exact h1.frozen o
theorem tV(l:List Hl)(i:Nat)(hi:i<l.length)(x:Hl)(rest:List Value):(((aP l++rest).set (i*3) (au x.d)).set (i*3+1) (.int .i64 x.t)).set (i*3+2) (.int .i64 x.a)=aP (l.set i x)++rest:=by
 induction l generalizing i with
 |nil=>simp at hi
 |cons a l ih=>
  cases i with
  |zero=>rw[List.set_cons_zero,dG,dG];simp[kU]
  |succ i=>?_
  rw[List.set_cons_succ,dG,dG,List.append_assoc,List.append_assoc,<-ih i (by simpa using hi)]
  simp only[show(i+1)*3=3+i*3 from by omega,show ∀j,3+i*3+j=3+(i*3+j) from λj=>by omega]
  have e:∀(j:Nat) (v:Value) (m:List Value),(kU a++m).set (3+j) v=kU a++m.set j v:=λj v m=>by
   rw[List.set_append_right _ _ (by rw[fC];omega),fC,Nat.add_sub_cancel_left]
  rw[e,e,e]
theorem jC.put{w:World}{G cap:Nat}{l:List Hl}(h:jC w G cap l)(i:Nat)(hi:i<l.length)(x:Hl):
  jC (((w.setCell ⟨G,i*3,none⟩ (au x.d)).setCell ⟨G,i*3+1,none⟩ (.int .i64 x.t)).setCell ⟨G,i*3+2,none⟩ (.int .i64 x.a)) G cap (l.set i x):=by
 obtain⟨rest,hg,rP⟩:=h.ex;have h1:=heap_setCell_same w G (i*3) _ TH (au x.d) hg;have h2:=heap_setCell_same _ G (i*3+1) _ TH (.int .i64 x.t) h1;have h3:=heap_setCell_same _ G (i*3+2) _ TH (.int .i64 x.a) h2;refine⟨⟨rest,?_,by rw[List.length_set];exact rP⟩,by rw[List.length_set];exact h.room,h.most⟩
 rw[h3,<-tV l i hi x rest];simp[List.setIfInBounds_toArray]
theorem BL{S:Nat->Prop}{a w:World}(f:Fp S a w){b:Nat}(hb:S b\/a.heap.size<=b)(o:Nat)(v0 v1 v2:Value):
  Fp S a (((w.setCell ⟨b,o,none⟩ v0).setCell ⟨b,o+1,none⟩ v1).setCell ⟨b,o+2,none⟩ v2):=
 ((f.setCell (p:=⟨b,o,none⟩) hb v0).setCell (p:=⟨b,o+1,none⟩) hb v1).setCell (p:=⟨b,o+2,none⟩) hb v2
theorem U0(w:World)(x:Hl):(w.alloc (.cells #[au x.d,.int .i64 x.t,.int .i64 x.a] TH)).cell? ⟨w.heap.size,0,none⟩=some (au x.d)/\(w.alloc (.cells #[au x.d,.int .i64 x.t,.int .i64 x.a] TH)).cell? ⟨w.heap.size,1,none⟩=some (.int .i64 x.t)/\(w.alloc (.cells #[au x.d,.int .i64 x.t,.int .i64 x.a] TH)).cell? ⟨w.heap.size,2,none⟩=some (.int .i64 x.a):=by
 have h:=heap_alloc_new w (.cells #[au x.d,.int .i64 x.t,.int .i64 x.a] TH);exact⟨by rw[cell_of_row _ _ _ _ _ _ h];rfl,by rw[cell_of_row _ _ _ _ _ _ h];rfl,by rw[cell_of_row _ _ _ _ _ _ h];rfl⟩
theorem mY{q:Hl->Bool}{l:List Hl}(h:∀n∈l,q n=false):l.filter (λn=>!q n)=l:=by
 rw[List.filter_eq_self];intro n hn;simp[h n hn]
theorem sO{q:Hl->Bool}{l:List Hl}{i:Nat}(hi:i<l.length)(hq:q l[i]=true)(h:∀j (hj:j<l.length),j<i->q l[j]=false):(l.take (i+1)).filter (λn=>!q n)=l.take i:=by
 rw[l4 l i hi,hq,mY]
 ·simp
 intro n hn;obtain⟨j,hj,rfl⟩:=List.getElem_of_mem hn;rw[List.length_take]at hj;rw[List.getElem_take];exact h j (by omega) (by omega)
theorem jC.take{w:World}{G cap:Nat}{l:List Hl}(h:jC w G cap l)(k:Nat):jC w G cap (l.take k):=by
 obtain⟨rest,hg,hl⟩:=h.ex;refine⟨⟨aP (l.drop k)++rest,?_,?_⟩,by have:=h.room;rw[List.length_take];omega,h.most⟩
 ·rw[<-List.append_assoc,<-gx,List.take_append_drop];exact hg
 rw[List.length_append,aJ,List.length_take,List.length_drop];omega
structure U1(w:World)(G cap:Nat)(l:List Hl)(v':Value)(w':World):Prop where
 v:v'=.slice (some ⟨G,0,none⟩) l.length cap
 row:jC w' G cap l
 fp:Fp (λk=>k=G) w w'
theorem Bj{w:World}{G cap:Nat}{l:List Hl}{f:Value}{q:Hl->Bool}(h:jC w G cap l)(hs:zG l)(hq:uZ (λk=>k=G) w f q)(hl:l.length<=100000):
  Calls prog 181 #[.slice (some ⟨G,0,none⟩) l.length cap,f] w λe w'=>∃v',e=.returned v'/\U1 w G cap (l.filter (λn=>!q n)) v' w':=by
 have hm:=h.most;have pP:=h.room;unfold maxLen at hm;obtain⟨n,hn⟩:∃n,n=l.length:=⟨_,rfl⟩;have hi:=mX _ f l q w h.ns hs hq.af (by omega)
 obtain⟨kf,fi,fc,rfl,gU,bB⟩:=hq.ex;have HI:=Lib.hid hi;have HX:=Lib.hid (And.intro hn (And.intro hs (And.intro bB h)));rw[<-hn]at HI|-;have AD:n<=100000:=by omega
 have me:n<=cap:=by omega
 clear hi hq bB h hs hn hl pP;go_enter func181,ntmps181
 go_wp2_with fail
 refine HI.mono ?_;rintro e w1⟨⟨z,rfl,hz⟩,cv⟩;rcases hz with⟨rfl,hz⟩|⟨i,rfl,kX,hqi,hz⟩
 ·have HR:Hid (U1 w G cap (l.filter (λn=>!q n)) (.slice (some ⟨G,0,none⟩) n cap) w1):=by
   rw[mY hz];exact⟨by rw[HX.1],HX.2.2.2.keep cv id,cv.any⟩
  clear hz cv;go_wp2;go_ret;exact⟨_,rfl,HR.out⟩
 have H0:Hid (iY ab q l G cap w i (i+1) w1):=⟨⟨l,HX.2.2.2.keep cv id,rfl,(sO kX hqi hz).symm,rfl⟩,Nat.lt_succ_self i,cv.any⟩;have eK:i<n:=by rw[HX.1];exact kX
 have q1:((i:Int) == -1)=false:=beq_eq_false_iff_ne.2 (by omega)
 clear hz cv hqi kX;go_wp2_with fail
 go_loopw [5,6] (λa b wr=>∃i j:Nat,j<=n/\i<n/\a=.int .i64 i/\b=.int .i64 j/\Hid (iY ab q l G cap w i j wr)) (λ_ b _=>n-(RowKit.intOf b).toNat)
 case atStart=>exact⟨i,i+1,by omega,eK,rfl,by go_num,H0⟩
 clear H0 eK q1;obtain⟨i,j,hj,eK,rfl,rfl,hR⟩:=hrel;rename_i wr _
 by_cases ay:j<n
 ·have tC:j<l.length:=by rw[<-HX.1];exact ay
  have aE:=hR.cell tC;have rA:=λw' (M:iY ab q l G cap w i j w')=>M.gone tC
  have rB:=λw' Ze (M:iY ab q l G cap w i j w')=>M.stays (w':=Ze) tC
  have dy:=λw1 hf=>HX.2.2.1 l[j] w1 (HX.2.1 _ (List.getElem_mem tC)) hf
  obtain⟨b,hb⟩:∃b,q l[j]=b:=⟨_,rfl⟩;rw[hb]at dy rA rB;clear hb;generalize l[j]=x at *;have fB:=U0 wr x;have c0:=aE.c0;have c1:=aE.c1;have c2:=aE.c2;unfold au at c0;unfold lF au at dy;unfold au at fB;simp only[Nat.zero_add]at c0 c1 c2
  have q3:((j:Int)<(n:Int))=True:=eq_true (by omega)
  have q4:(j<n)=True:=eq_true ay;have uR:=Lib.hid dy;have HB:=Lib.hid (And.intro rA (And.intro rB fB));have HL:=Lib.hid ay;clear aE dy rA rB fB tC ay;go_wp2_with fail
  rw[gU _ _];go_wp2_with fail
  refine(uR _ (hR.fp.trans ((Fp.refl ab wr).alloc _) (λ_ h=>h.elim))).mono ?_
  rintro e w2⟨rfl,bY⟩;have sN:=hR.keep (((Fp.refl ab wr).alloc _).then bY);have yi:=And.intro (bY.cell HB.2.2.1 id) (And.intro (bY.cell HB.2.2.2.1 id) (bY.cell HB.2.2.2.2 id));cases b with
  |true=>
   have hM:Hid (iY ab q l G cap w i (j+1) w2):=HB.1 w2 sN rfl;have Ju:=HL.out;clear bY sN yi;go_wp2;go_roundw
   case rel=>exact⟨i,j+1,by omega,eK,rfl,by go_num,hM⟩
   case measure=>simp[RowKit.intOf];omega
  |false=>?_
  obtain⟨y,hy⟩:=sN.there (by rw[<-HX.1];exact hj)
  obtain⟨b0,b1,b2⟩:=yi;have y0:=hy.c0;have y1:=hy.c1;have y2:=hy.c2;have f0:=sN.frozen (i*3);have f1:=sN.frozen (i*3+1);have f2:=sN.frozen (i*3+2);have hM:=Lib.hid (HB.2.1 w2 (((w2.setCell ⟨G,i*3,none⟩ (au x.d)).setCell ⟨G,i*3+1,none⟩ (.int .i64 x.t)).setCell ⟨G,i*3+2,none⟩ (.int .i64 x.a)) sN rfl (λm hm hi=>hm.put i hi x) (BL (S:=λk=>k=G) (Fp.refl _ w2) (.inl rfl) (i*3) _ _ _))
  have jR:=sN.ij;have Ju:=HL.out;have q5:((i:Int)<(n:Int))=True:=eq_true (by omega)
  have q6:(i<n)=True:=eq_true eK;unfold au at hM;clear bY sN hy;go_wp2;go_roundw
  case rel=>exact⟨i+1,j+1,by omega,by omega,by go_num,by go_num,hM⟩
  case measure=>simp[RowKit.intOf];omega
 have OL:j=n:=by omega
 subst OL;obtain⟨m,h1,h2,h3,h4⟩:=hR.ex;have kX:(m.take i).length=i:=by rw[List.length_take,h2,<-HX.1];omega
 have dN:=El (h1.take i) 0 (j-i) (cap-i) (by omega) (by rw[kX];omega)
 rw[kX]at dN;have bf:m.take i=l.filter (λn=>!q n):=by rw[h3,List.take_of_length_le (by rw[<-HX.1];exact Nat.le_refl _)]
 rw[bf]at dN kX;have oX:=Lib.hid dN;have HL:=Lib.hid kX;have q3:((j:Int)<(j:Int))=False:=eq_false (by omega)
 have q4:(cap=i)=False:=eq_false (by omega)
 have q5:(i<=j)=True:=eq_true (by omega)
 have q6:((i:Int)<=(j:Int))=True:=eq_true (by omega)
 have q7:(i<=cap)=True:=eq_true (by omega)
 have q8:((i:Int)<=(cap:Int))=True:=eq_true (by omega)
 have q9:∃d,j-i=d+1:=⟨j-i-1,by omega⟩
 obtain⟨d,hd⟩:=q9;rw[hd]at oX;clear h1 h2 h3 h4 kX dN bf hj ay;go_wp2_with fail
 obtain⟨w5,hr,ba,rL⟩:=oX.out;rw[hr];simp only[Result.andThen]
 rw[Oper.upon_value];have HR:=Lib.hid (And.intro ba (hR.fp.same rL));clear hr ba rL;go_wp2;go_ret;exact⟨_,rfl,⟨by rw[HL.out];rfl,HR.1,HR.2⟩⟩
theorem vF{lo:Nat}{w:World}{v f:Value}{l:List Hl}{q:Hl->Bool}(h:gg lo w v l)(hs:zG l)(hq:uZ (λk=>v.ownBlock=some k) w f q)(hl:l.length<=100000):
  Calls prog 181 #[v,f] w λe w'=>∃v',e=.returned v'/\RA lo w v (l.filter (λn=>!q n)) v' w':=by
 rcases h.ways with⟨rfl,rfl⟩|⟨G,cap,rfl,h1,h2⟩
 ·have HI:=Lib.hid (mX (.slice none 0 0) f [] q w (di.nil w) hs hq.af (by simp))
  obtain⟨kf,fi,fc,rfl,gU,bB⟩:=hq.ex;clear hq bB h hs hl;go_enter func181,ntmps181
  go_wp2_with fail
  refine HI.mono ?_;rintro e w1⟨⟨z,rfl,hz⟩,cv⟩;rcases hz with⟨rfl,hz⟩|⟨i,rfl,kX,hqi,hz⟩
  ·have HF:=Lib.hid cv
   clear cv hz;go_wp2;go_ret;exact⟨_,rfl,gg.nil _ _,HF.any,λk hk=>.inl hk⟩
  simp at kX
 refine(Bj h1 hs (hq.sub (λi hi=>by rw[hi];rfl)) hl).mono ?_
 rintro e w'⟨v',rfl,hR⟩;obtain rfl:=hR.v;exact⟨_,rfl,gg.row hR.row h2,hR.fp.mono (λk hk=>by rw[hk];rfl),λk hk=>.inl hk⟩
def dY(n:Int):Bool:=decide (0<=n) && decide (n<=281474976710656)
def iM(a b c d:Int):Bool:=(dY a && dY b && dY c && dY d) && (decide (c<a)||(a == c && decide (d<b)))
theorem dv(n:Int)(w:World):
  Calls prog 292 #[.int .i64 n] w λe w'=>e=.returned (.bool (dY n))/\w=w':=by
 by_cases h1:0<=n
 ·have q1:((0:Int)<=n)=True:=eq_true h1
  have e:dY n=decide (n<=281474976710656):=by unfold dY;rw[decide_eq_true h1,Bool.true_and]
  rw[e];clear e h1;go_enter func292,ntmps292
  go_wp2;go_ret;exact⟨rfl,rfl⟩
 have q1:((0:Int)<=n)=False:=eq_false h1;have e:dY n=false:=by unfold dY;rw[decide_eq_false h1,Bool.false_and]
 rw[e];clear e h1;go_enter func292,ntmps292
 go_wp2;go_ret;exact⟨rfl,rfl⟩
theorem IW(a b:Nat)(w:World)(ha:a<2 ^ 53)(hb:b<2 ^ 53):
  Calls prog 293 #[.int .i64 (a:Int),.int .i64 (b:Int)] w λe w'=>e=.returned (.complex .f64 (Mw a) (Mw b))/\w=w':=by
 have e1:=BG a ha;have e2:=BG b hb;clear ha hb;go_enter func293,ntmps293
 go_wp2;go_ret;exact⟨rfl,rfl⟩
def says:Ordering->Ordering->Bool
 |.gt,_=>true
 |.eq,.gt=>true
 |_,_=>false
theorem Em(a b c d:Int)(w:World)(x y u v p q:Nat)(oa:dY a=true)(ob:dY b=true)(oc:dY c=true)(od:dY d=true)
  (hp:Calls prog 293 #[.int .i64 a,.int .i64 b] w λe w'=>e=.returned (.complex .f64 x y)/\w=w')
  (hq:Calls prog 293 #[.int .i64 c,.int .i64 d] w λe w'=>e=.returned (.complex .f64 u v)/\w=w')
  (Ko:∀t:TypeId,(binOp .sub t (.complex .f64 x y) (.complex .f64 u v)).run prog w=.ok (.complex .f64 p q) w)
  (o1 o2:Ordering) (q1:FloatKind.f64.format.order p 0=some o1) (q2:FloatKind.f64.format.order q 0=some o2):
  Calls prog 247 #[.int .i64 a,.int .i64 b,.int .i64 c,.int .i64 d] w λe w'=>e=.returned (.bool (says o1 o2))/\w=w':=by
 have HP:=Lib.hid (And.intro hp hq);clear hp hq
 cases o1<;>cases o2<;>(
  simp only[says]
  go_enter func247,ntmps247
  go_wp2_with fail
  refine(dv _ w).mono ?_;rintro e w1⟨rfl,rfl⟩;rw[oa];go_wp2_with fail
  refine(dv _ w).mono ?_;rintro e w1⟨rfl,rfl⟩;rw[ob];go_wp2_with fail
  refine(dv _ w).mono ?_;rintro e w1⟨rfl,rfl⟩;rw[oc];go_wp2_with fail
  refine(dv _ w).mono ?_;rintro e w1⟨rfl,rfl⟩;rw[od];go_wp2_with fail
  refine HP.1.mono ?_;rintro e w1⟨rfl,rfl⟩;go_wp2_with fail
  refine HP.2.mono ?_;rintro e w1⟨rfl,rfl⟩;go_wp2;go_ret;exact⟨rfl,rfl⟩)
theorem IX(a b c d:Nat)(w:World)(ha:a<=281474976710656)(hb:b<=281474976710656)(hc:c<=281474976710656)(hd:d<=281474976710656):
  Calls prog 247 #[.int .i64 (a:Int),.int .i64 (b:Int),.int .i64 (c:Int),.int .i64 (d:Int)] w λe w'=>e=.returned (.bool (iM a b c d))/\w=w':=by
 have o:∀n:Nat,n<=281474976710656->dY (n:Int)=true:=λn h=>by unfold dY;rw[decide_eq_true (by omega),decide_eq_true (by omega)];rfl
 have s1:=Fj a c (by omega) (by omega)
 have s2:=Fj b d (by omega) (by omega)
 have k:=Em a b c d w _ _ _ _ (df a c) (df b d) (o a ha) (o b hb) (o c hc) (o d hd) (IW a b w (by omega) (by omega)) (IW c d w (by omega) (by omega))
  (λt=>run_complex_sum w .sub (.inr rfl) t .f64 _ _ _ _ _ _ (by unfold cSumBits;rw[s1,s2];rfl))
  (compare a c) (compare b d) (qb a c (by omega) (by omega)) (qb b d (by omega) (by omega))
 have e:iM a b c d=says (compare a c) (compare b d):=by
  have en:iM a b c d=(decide ((c:Int)<a)||(((a:Int) == c) && decide ((d:Int)<b))):=by unfold iM;rw[o a ha,o b hb,o c hc,o d hd];rfl
  rw[en];rcases Nat.lt_trichotomy a c with h|h|h
  ·rw[Nat.compare_eq_lt.2 h,decide_eq_false (by omega),beq_eq_false_iff_ne.2 (by omega)];rfl
  ·subst h
   rw[Nat.compare_eq_eq.2 rfl,decide_eq_false (by omega),beq_self_eq_true]
   rcases Nat.lt_trichotomy b d with h|h|h
   ·rw[Nat.compare_eq_lt.2 h,decide_eq_false (by omega)];rfl
   ·subst h;rw[Nat.compare_eq_eq.2 rfl,decide_eq_false (by omega)];rfl
   rw[Nat.compare_eq_gt.2 h,decide_eq_true (by omega)];rfl
  rw[Nat.compare_eq_gt.2 h,decide_eq_true (by omega)];rfl
 rw[e];exact k
theorem IY(a b c d:Int)(w:World)(h:(dY a && dY b && dY c && dY d)=false):
  Calls prog 247 #[.int .i64 a,.int .i64 b,.int .i64 c,.int .i64 d] w λe w'=>e=.returned (.bool (iM a b c d))/\w=w':=by
 have en:iM a b c d=false:=by unfold iM;rw[h];rfl
 rw[en];clear en;cases ea:dY a with
 |false=>
  clear h;go_enter func247,ntmps247
  go_wp2_with fail
  refine(dv _ w).mono ?_;rintro e w1⟨rfl,rfl⟩;rw[ea];go_wp2;go_ret;exact⟨rfl,rfl⟩
 |true=>
 cases eb:dY b with
 |false=>
  clear h;go_enter func247,ntmps247
  go_wp2_with fail
  refine(dv _ w).mono ?_;rintro e w1⟨rfl,rfl⟩;rw[ea];go_wp2_with fail
  refine(dv _ w).mono ?_;rintro e w1⟨rfl,rfl⟩;rw[eb];go_wp2;go_ret;exact⟨rfl,rfl⟩
 |true=>
 cases ec:dY c with
 |false=>
  clear h;go_enter func247,ntmps247
  go_wp2_with fail
  refine(dv _ w).mono ?_;rintro e w1⟨rfl,rfl⟩;rw[ea];go_wp2_with fail
  refine(dv _ w).mono ?_;rintro e w1⟨rfl,rfl⟩;rw[eb];go_wp2_with fail
  refine(dv _ w).mono ?_;rintro e w1⟨rfl,rfl⟩;rw[ec];go_wp2;go_ret;exact⟨rfl,rfl⟩
 |true=>
 cases ed:dY d with
 |false=>
  clear h;go_enter func247,ntmps247
  go_wp2_with fail
  refine(dv _ w).mono ?_;rintro e w1⟨rfl,rfl⟩;rw[ea];go_wp2_with fail
  refine(dv _ w).mono ?_;rintro e w1⟨rfl,rfl⟩;rw[eb];go_wp2_with fail
  refine(dv _ w).mono ?_;rintro e w1⟨rfl,rfl⟩;rw[ec];go_wp2_with fail
  refine(dv _ w).mono ?_;rintro e w1⟨rfl,rfl⟩;rw[ed];go_wp2;go_ret;exact⟨rfl,rfl⟩
 |true=>
 rw[ea,eb,ec,ed]at h;cases h
theorem pW{n:Int}(h:dY n=true):∃k:Nat,n=(k:Int)/\k<=281474976710656:=by
 unfold dY at h;simp only[Bool.and_eq_true,decide_eq_true_eq]at h
 exact⟨n.toNat,by omega,by omega⟩
theorem LZ(a b c d:Int)(w:World):
  Calls prog 247 #[.int .i64 a,.int .i64 b,.int .i64 c,.int .i64 d] w λe w'=>e=.returned (.bool (iM a b c d))/\w=w':=by
 cases h:(dY a && dY b && dY c && dY d) with
 |false=>exact IY a b c d w h
 |true=>?_
 simp only[Bool.and_eq_true]at h
 obtain⟨⟨⟨ha,hb⟩,hc⟩,hd⟩:=h;obtain⟨a,rfl,ka⟩:=pW ha;obtain⟨b,rfl,kb⟩:=pW hb;obtain⟨c,rfl,kc⟩:=pW hc;obtain⟨d,rfl,kd⟩:=pW hd;exact IX a b c d w ka kb kc kd
abbrev Wx:TypeId:=45
structure AnR(lo:Nat)(w:World)(ps:List Bs)(v':Value)(w':World):Prop where
 own:Own lo w' v' ps
 fp:Fp (λk=>lo<=k) w w'
theorem IZ(w:World)(lo:Nat)(v:Value)(ps:List Bs)(x:Bs)(ty:TypeId)(ho:Own lo w v ps)(hn:ps.length<=100000)(bq:lo<=w.heap.size):
  ∃v' w',(Builtin.append_ #[Wx,Wx] ty #[v,.slice (some ⟨w.heap.size,0,none⟩) 1 1]).run prog (w.alloc (.cells #[.string (B x)] 9))=.ok v' w'/\AnR lo w (ps++[x]) v' w':=by
 obtain⟨i0,hi,l6,jG,l7⟩:=info_parts Tryz.E8;have hc:(w.alloc (.cells #[.string (B x)] 9)).cell? ⟨w.heap.size,0,none⟩=some (au x):=by rw[cell_of_row _ _ _ _ _ _ (heap_alloc_new w _)];rfl
 obtain⟨v',w',hr,h4,h5,h7,_⟩:=run_append_own_at (P:=prog) (w.alloc (.cells #[.string (B x)] 9)) lo Wx ty 9 i0 (.string ⟨#[]⟩) 1 16 Tryz.underlying45 hi l6 jG l7 rfl (by decide) v ps.length (ps.map au) (ho.1.alloc _)
  ⟨w.heap.size,0,none⟩ 1 1 [au x] rfl (λj u hu=>by
   cases j with
   |zero=>rw[Addr.add_lit,<-Option.some.inj hu];exact hc
   |succ j=>simp at hu) (uo x) (by unfold maxLen;omega) (by omega) (by simp;omega)
 refine⟨v',w',hr,⟨⟨by simpa using h4,λe=>by simp at e⟩,?_⟩⟩
 refine((Fp.refl (λk=>lo<=k) w).alloc _).grown h5 (λk hk=>.inl ?_)
 exact(ho.1.lt k hk).1
theorem Own.dU{b0:Nat}{w w':World}{v:Value}{ps:List Bs}(h:Own b0 w v ps)(g:Fp ab w w'):Own b0 w' v ps:=⟨g.owns h.1 (λ_ _ h=>h),h.2⟩
attribute [local irreducible] wpStill
abbrev TR:TypeId:=92
theorem Own.low{b0 b1:Nat}{w:World}{v:Value}{ps:List Bs}(h:Own b1 w v ps)(hb:b0<=b1):Own b0 w v ps:=by
 refine⟨⟨h.1.1,?_⟩,h.2⟩;rcases h.1.2 with hn|⟨g,cap,cur,e,hg,rest⟩
 ·exact .inl hn
 exact .inr ⟨g,cap,cur,e,Nat.le_trans hb hg,rest⟩
theorem Zi{b0:Nat}{w:World}{nv:Value}{ps:List Bs}(h:Own b0 w nv ps){b:Nat}(hb:nv.ownBlock=some b->False)(v0 v1 v2 v3 v4:Value):
  Own b0 (((((w.setCell ⟨b,0,none⟩ v0).setCell ⟨b,1,none⟩ v1).setCell ⟨b,2,none⟩ v2).setCell ⟨b,3,none⟩ v3).setCell ⟨b,4,none⟩ v4) nv ps:=
 ⟨(QB (S:=λk=>k=b) (Fp.refl _ w) (.inl rfl) v0 v1 v2 v3 v4).owns h.1 (λk hk e=>hb (by rw[hk,e])),h.2⟩
end
section
open Go.RowKit Pm
theorem En(l:List Nd)(i:Nat)(hi:i<l.length)(d:Bs)(v:Int)(rest:List Value):(((rows l++rest).set (i*5+1) (au d)).set (i*5+2) (.int .i64 v))=rows (l.set i { l[i] with data:=d,aX:=v })++rest:=by
 induction l generalizing i with
 |nil=>simp at hi
 |cons a l ih=>
  cases i with
  |zero=>rw[List.set_cons_zero,cJ,cJ];simp[oV]
  |succ i=>?_
  rw[List.set_cons_succ,cJ,cJ,List.append_assoc,List.append_assoc];simp only[List.getElem_cons_succ]
  rw[<-ih i (by simpa using hi)]
  simp only[show(i+1)*5=5+i*5 from by omega,show ∀j,5+i*5+j=5+(i*5+j) from λj=>by omega]
  have e:∀(j:Nat) (v:Value) (m:List Value),(oV a++m).set (5+j) v=oV a++m.set j v:=λj v m=>by
   rw[List.set_append_right _ _ (by rw[fE];omega),fE,Nat.add_sub_cancel_left]
  rw[e,e]
theorem Nr.zt{w:World}{G cap:Nat}{l:List Nd}(h:Nr w G cap l)(i:Nat)(hi:i<l.length)(d:Bs)(v:Int):
  Nr ((w.setCell ⟨G,i*5+1,none⟩ (au d)).setCell ⟨G,i*5+2,none⟩ (.int .i64 v)) G cap (l.set i { l[i] with data:=d,aX:=v }):=by
 obtain⟨rest,hg,rP⟩:=h.ex;have h1:=heap_setCell_same w G (i*5+1) _ TN (au d) hg;have h2:=heap_setCell_same _ G (i*5+2) _ TN (.int .i64 v) h1;refine⟨⟨rest,?_,by rw[List.length_set];exact rP⟩,by rw[List.length_set];exact h.room,h.most⟩
 rw[h2,<-En l i hi d v rest];simp[List.setIfInBounds_toArray]
theorem Ga(l:List Nd)(p:Bs):l.any (λn=>parent n.path == some p)=false↔kids l p=[]:=by
 unfold kids;rw[List.any_eq_false,List.filter_eq_nil_iff]
theorem vG{p q:Bs}{t:Int}(h:bH p t=some q):q.length<=12:=by
 unfold bH at h;split at h
 ·rename_i k
  rw[<-Option.some.inj h];exact(fu k.2.2).2
 cases h
end
end Go.Proofs.YtgafcelloiagmaaGreatDoor
