/- A text of this proof. -/
import Derived.Test.YtgafcelloiagmaaGreatDoorZCI
import Derived.Test.YtgafcelloiagmaaGreatDoorZCJ
set_option maxHeartbeats 16000000
set_option linter.unusedSimpArgs false
set_option linter.unusedVariables false
set_option maxRecDepth 20000
namespace Go.Proofs.YtgafcelloiagmaaGreatDoor
open Go.Proofs.Tryz
open Go.RowKit Pm
abbrev TW:TypeId:=47
abbrev Dw:TypeId:=54
def GM(n:Wt):List Value:=[.int .i64 n.s,.int .i64 n.n,au n.p,.bool n.d]
def BW(n:Wt):Value:=.agg #[.int .i64 n.s,.int .i64 n.n,au n.p,.bool n.d]
def fN(l:List Wt):List Value:=l.flatMap GM
theorem pX(n:Wt):(GM n).length=4:=rfl
theorem rD(n:Wt)(l:List Wt):fN (n::l)=GM n++fN l:=by simp[fN]
theorem Eo(a b:List Wt):fN (a++b)=fN a++fN b:=by simp[fN]
theorem gy(l:List Wt):(fN l).length=l.length*4:=by
 induction l with
 |nil=>rfl
 |cons n l ih=>rw[rD,List.length_append,pX,ih,List.length_cons];omega
theorem tW(l:List Wt)(i j:Nat)(hi:i<l.length)(hj:j<4):(fN l)[i*4+j]?=(GM l[i])[j]?:=by
 induction l generalizing i with
 |nil=>simp at hi
 |cons n l ih=>
  rw[rD];cases i with
  |zero=>rw[List.getElem?_append_left (by rw[pX];omega)];simp
  |succ i=>?_
  rw[List.getElem?_append_right (by rw[pX];omega),pX,show(i+1)*4+j-4=i*4+j from by omega,ih i (by simpa using hi)]
  simp
theorem Ep(l:List Wt):∀u∈fN l,u.oneCell'=true:=by
 intro u hu;unfold fN at hu;rw[List.mem_flatMap]at hu;obtain⟨n,_,hu⟩:=hu;simp only[GM,List.mem_cons,List.not_mem_nil,or_false]at hu
 rcases hu with rfl|rfl|rfl|rfl<;>rfl
structure oK(w:World)(g o:Nat)(n:Wt):Prop where
 c0:w.cell? ⟨g,o,none⟩=some (.int .i64 n.s)
 c1:w.cell? ⟨g,o+1,none⟩=some (.int .i64 n.n)
 c2:w.cell? ⟨g,o+2,none⟩=some (au n.p)
 c3:w.cell? ⟨g,o+3,none⟩=some (.bool n.d)
theorem oK.keep{w w':World}{g o:Nat}{n:Wt}(h:oK w g o n){S:Nat->Prop}(f:Fp S w w')(hS:¬S g):oK w' g o n:=
 ⟨f.cell h.c0 hS,f.cell h.c1 hS,f.cell h.c2 hS,f.cell h.c3 hS⟩
theorem oK.get{w:World}{g o:Nat}{n:Wt}(h:oK w g o n):∀j v,(GM n)[j]?=some v->w.cell? ((⟨g,o,none⟩:Addr).add j)=some v:=by
 intro j v hv;rw[Addr.add_lit];match j,hv with
 |0,hv=>rw[<-Option.some.inj hv];exact h.c0
 |1,hv=>rw[<-Option.some.inj hv];exact h.c1
 |2,hv=>rw[<-Option.some.inj hv];exact h.c2
 |3,hv=>rw[<-Option.some.inj hv];exact h.c3
 |j+4,hv=>simp[GM]at hv
structure lM(w:World)(v:Value)(l:List Wt):Prop where
 ex:∃ao cap,v=.slice ao l.length cap/\l.length<=cap/\cap<=maxLen/\(l=[]\/∃g o,ao=some ⟨g,o,none⟩/\g<w.heap.size/\∀i (h:i<l.length),oK w g (o+i*4) l[i])
theorem lM.keep{w w':World}{v:Value}{l:List Wt}(h:lM w v l){S:Nat->Prop}(f:Fp S w w')(hS:∀k,v.ownBlock=some k->¬S k):lM w' v l:=by
 obtain⟨ao,cap,rfl,h1,h2,h3⟩:=h.ex;refine⟨ao,cap,rfl,h1,h2,?_⟩;rcases h3 with h3|⟨g,o,rfl,hg,hc⟩
 ·exact .inl h3
 exact .inr ⟨g,o,rfl,Nat.lt_of_lt_of_le hg f.size,λi hi=>(hc i hi).keep f (hS g rfl)⟩
theorem lM.af{w w':World}{v:Value}{l:List Wt}(h:lM w v l)(f:Fp ab w w'):lM w' v l:=h.keep f (λ_ _ h=>h)
theorem lM.nil(w:World):lM w (.slice none 0 0) []:=⟨none,0,rfl,Nat.le_refl _,Nat.zero_le _,.inl rfl⟩
theorem lM.shape{w:World}{v:Value}{l:List Wt}(h:lM w v l):∃ao cap,v=.slice ao l.length cap:=by
 obtain⟨ao,cap,rfl,_⟩:=h.ex;exact⟨ao,cap,rfl⟩
theorem lM.at{w:World}{v:Value}{l:List Wt}(h:lM w v l)(h0:0<l.length):∃g o cap,v=.slice (some ⟨g,o,none⟩) l.length cap/\l.length<=cap/\cap<=maxLen/\g<w.heap.size/\∀i (h:i<l.length),oK w g (o+i*4) l[i]:=by
 obtain⟨ao,cap,rfl,h1,h2,h3⟩:=h.ex;rcases h3 with h3|⟨g,o,rfl,hg,hc⟩
 ·subst h3;simp at h0
 exact⟨g,o,cap,rfl,h1,h2,hg,hc⟩
theorem lM.take{w:World}{g o n cap:Nat}{l:List Wt}(h:lM w (.slice (some ⟨g,o,none⟩) n cap) l)(k c:Nat)(hk:k<=l.length)(Vz:k<=c)(hc:c<=maxLen)(h0:g<w.heap.size):lM w (.slice (some ⟨g,o,none⟩) k c) (l.take k):=by
 obtain⟨ao,aY,e,h1,h2,h3⟩:=h.ex;injection e with e1 e2 e3
 have hl:(l.take k).length=k:=by rw[List.length_take];omega
 refine⟨some ⟨g,o,none⟩,c,by rw[hl],by rw[hl];exact Vz,hc,?_⟩
 rcases h3 with h3|⟨g',o',e4,hg,aq⟩
 ·subst h3;exact .inl (by simp)
 rw[e4]at e1;injection e1 with e1;injection e1 with e5 e6;subst e5 e6
 refine .inr ⟨g,o,rfl,h0,λi hi=>?_⟩
 rw[List.getElem_take];exact aq i (by rw[hl]at hi;omega)
structure tX(w:World)(g cap:Nat)(l:List Wt):Prop where
 ex:∃rest,w.heap[g]?=some (.cells (fN l++rest).toArray TW (0,0))/\l.length*4+rest.length=cap*4
 room:l.length<=cap
 most:cap<=maxLen
theorem tX.lt{w:World}{g cap:Nat}{l:List Wt}(h:tX w g cap l):g<w.heap.size:=by
 obtain⟨r,h,_⟩:=h.ex;exact(Array.getElem?_eq_some_iff.1 h).1
theorem tX.keep{w w':World}{g cap:Nat}{l:List Wt}(h:tX w g cap l){S:Nat->Prop}(f:Fp S w w')(hS:¬S g):tX w' g cap l:=by
 obtain⟨r,h1,h2⟩:=h.ex;exact⟨⟨r,f.heap h1 hS,h2⟩,h.room,h.most⟩
theorem tX.cell{w:World}{g cap:Nat}{l:List Wt}(h:tX w g cap l)(i j:Nat)(hi:i<l.length)(hj:j<4):w.cell? ⟨g,i*4+j,none⟩=(GM l[i])[j]?:=by
 obtain⟨r,h1,_⟩:=h.ex;rw[cell_of_row w g _ _ TW (0,0) h1];simp only[List.getElem?_toArray]
 rw[List.getElem?_append_left (by rw[gy];omega),tW l i j hi hj]
theorem tX.nd{w:World}{g cap:Nat}{l:List Wt}(h:tX w g cap l)(i:Nat)(hi:i<l.length):oK w g (0+i*4) l[i]:=by
 rw[Nat.zero_add];exact⟨h.cell i 0 hi (by omega),h.cell i 1 hi (by omega),h.cell i 2 hi (by omega),h.cell i 3 hi (by omega)⟩
theorem tX.ns{w:World}{g cap:Nat}{l:List Wt}(h:tX w g cap l):lM w (.slice (some ⟨g,0,none⟩) l.length cap) l:=
 ⟨_,cap,rfl,h.room,h.most,.inr ⟨g,0,rfl,h.lt,h.nd⟩⟩
theorem tX.frozen{w:World}{g cap:Nat}{l:List Wt}(h:tX w g cap l)(o:Nat):w.frozen? ⟨g,o,none⟩=false:=by
 obtain⟨r,h1,_⟩:=h.ex;simp[World.frozen?,h1]
theorem tX.owns{w:World}{g cap:Nat}{l:List Wt}(h:tX w g cap l){lo:Nat}(bq:lo<=g):w.ownsRow lo TW 4 (.slice (some ⟨g,0,none⟩) l.length cap) l.length (fN l):=by
 obtain⟨r,h1,h2⟩:=h.ex;refine⟨gy l,.inr ⟨g,cap,_,rfl,bq,h1,h.room,h.most,by simp[gy];omega,?_⟩⟩
 simp only
 rw[<-gy l];exact List.take_left
theorem tX.cK{w:World}{lo g cap n:Nat}{l:List Wt}(h:w.ownsRow lo TW 4 (.slice (some ⟨g,0,none⟩) n cap) n (fN l))(hn:n=l.length):tX w g cap l/\lo<=g:=by
 subst hn;rcases h.2 with⟨h0,_⟩|⟨g',aY,cur,e,hb,hg,h1,h2,h3,h4⟩
 ·cases h0
 injection e with e1 _ e3
 injection e1 with e1
 injection e1 with e1
 subst e1 e3;refine⟨⟨⟨cur.toList.drop (l.length*4),?_,?_⟩,h1,h2⟩,hb⟩
 ·rw[<-h4,List.take_append_drop];exact hg
 have e:cur.toList.length=cap*4:=by rw[Array.length_toList,h3]
 rw[List.length_drop,e];omega
theorem Tryz.U2:(prog.info? TW).map (λi=>(i.zero,i.size,i.bytes))=some (some (.agg #[.int .i64 0,.int .i64 0,.string ⟨#[]⟩,.bool false]),4,40):=by kernel_rfl
theorem Bm(w:World)(a:Addr)(n c:Nat):(binOp .eql Dw (.slice (some a) n c) (.slice none 0 0)).run prog w=.ok (.bool false) w:=
 Lib.run_eql_slice_nil w Dw TW (some a) n c 0 0 Tryz.underlying54
def fV(lo:Nat)(w:World)(v:Value)(l:List Wt):Prop:=w.ownsRow lo TW 4 v l.length (fN l)
theorem fV.ways{lo:Nat}{w:World}{v:Value}{l:List Wt}(h:fV lo w v l):(v=.slice none 0 0/\l=[])\/∃G cap,v=.slice (some ⟨G,0,none⟩) l.length cap/\tX w G cap l/\lo<=G:=by
 have h':=h;unfold fV at h';rcases h'.2 with⟨h0,h1⟩|⟨g,cap,cur,e,hb,hg,h1,h2,h3,h4⟩
 ·refine .inl ⟨h0,?_⟩
  cases l with
  |nil=>rfl
  |cons x l=>simp at h1
 refine .inr ⟨g,cap,e,?_⟩;unfold fV at h;rw[e]at h;exact tX.cK h rfl
theorem fV.ns{lo:Nat}{w:World}{v:Value}{l:List Wt}(h:fV lo w v l):lM w v l:=by
 rcases h.ways with⟨rfl,rfl⟩|⟨G,cap,rfl,h1,_⟩
 ·exact lM.nil w
 exact h1.ns
theorem fV.row{lo:Nat}{w:World}{G cap:Nat}{l:List Wt}(h:tX w G cap l)(bq:lo<=G):fV lo w (.slice (some ⟨G,0,none⟩) l.length cap) l:=h.owns bq
theorem fV.nil(lo:Nat)(w:World):fV lo w (.slice none 0 0) []:=⟨rfl,.inl ⟨rfl,rfl⟩⟩
theorem fV.keep{lo:Nat}{w w':World}{v:Value}{l:List Wt}(h:fV lo w v l){S:Nat->Prop}(f:Fp S w w')(hS:∀k,v.ownBlock=some k->¬S k):fV lo w' v l:=by
 rcases h.ways with⟨rfl,rfl⟩|⟨G,cap,rfl,h1,h2⟩
 ·exact fV.nil lo w'
 exact fV.row (h1.keep f (hS G rfl)) h2
theorem fV.af{lo:Nat}{w w':World}{v:Value}{l:List Wt}(h:fV lo w v l)(f:Fp ab w w'):fV lo w' v l:=h.keep f (λ_ _ h=>h)
theorem fV.low{lo:Nat}{w:World}{v:Value}{l:List Wt}(h:fV lo w v l):∀k,v.ownBlock=some k->lo<=k:=by
 rcases h.ways with⟨rfl,rfl⟩|⟨G,cap,rfl,_,h2⟩
 ·intro k hk;simp[Value.ownBlock]at hk
 intro k hk;simp[Value.ownBlock]at hk;omega
theorem xx(w:World)(lo:Nat)(v:Value)(l m:List Wt)(ty:TypeId)(a:Addr)(n c:Nat)(hv:fV lo w v l)(hn:n=m.length)(hx:∀i (h:i<m.length) j u,(GM m[i])[j]?=some u->w.cell? (a.add (i*4+j))=some u)(h6:l.length+m.length<=100000)(bq:lo<=w.heap.size):
  ∃v' w',(Builtin.append_ #[Dw,Dw] ty #[v,.slice (some a) n c]).run prog w=.ok v' w'/\fV lo w' v' (l++m)/\w.grownBy w' v.ownBlock/\∀k,v'.ownBlock=some k->v.ownBlock=some k\/w.heap.size<=k:=by
 obtain⟨i,hi,hz,db,qY⟩:=info_parts Tryz.U2;subst hn
 obtain⟨v',w',hr,h4,h5,_,h8⟩:=run_append_own_at (P:=prog) w lo Dw ty TW i _ 4 40 Tryz.underlying54 hi hz db qY rfl (by decide) v l.length (fN l) hv a m.length c (fN m) (gy m)
  (λj u hu=>by
   have hj:j<m.length*4:=by rw[<-gy];exact(List.getElem?_eq_some_iff.1 hu).1
   have hd:j / 4<m.length:=by omega
   have e:j / 4*4+j % 4=j:=by omega
   rw[<-e,tW m (j / 4) (j % 4) hd (by omega)]at hu
   have:=hx (j / 4) hd (j % 4) u hu;rwa[e]at this)
  (Ep m) (by unfold maxLen;omega) (by omega) bq
 refine⟨v',w',hr,?_,h5,λk hk=>?_⟩
 ·unfold fV
  rw[Eo,List.length_append];exact h4
 rcases h8 with e|e
 ·exact .inl (by rw[<-e];exact hk)
 rw[hk]at e;injection e with e;exact .inr (by omega)
structure Qa(w:World)(l:List Wt)(v':Value)(w':World):Prop where
 own:fV w.heap.size w' v' l
 fp:Fp ab w w'
theorem Ai(v:Value)(l:List Wt)(w:World)(hv:lM w v l)(h5:l.length<=100000):
  Calls prog 58 #[v] w λe w'=>∃v',e=.returned v'/\Qa w l v' w':=by
 obtain⟨ao,cap,rfl,h1,h2,h3⟩:=hv.ex;cases ao with
 |none=>
  obtain rfl:l=[]:=by
   rcases h3 with h|⟨_,_,h,_⟩
   ·exact h
   cases h
  have fW:∀w:World,(binOp .eql Dw (.slice none 0 cap) (.slice none 0 0)).run prog w=.ok (.bool true) w:=λw=>Lib.run_eql_slice_nil w Dw TW none 0 cap 0 0 Tryz.underlying54
  clear h1 h2 h3 hv h5;simp only[List.length_nil]
  go_enter func58,ntmps58
  go_wp2;go_ret;exact⟨_,rfl,fV.nil _ _,Fp.refl _ _⟩
 |some a=>?_
 have aL:fV w.heap.size (w.alloc (.cells #[] TW)) (.slice (some ⟨w.heap.size,0,none⟩) 0 0) []:=World.ownsRow_lit w #[] 0 (Nat.le_refl _) (by unfold maxLen;omega) rfl
 have hx:∀i (h:i<l.length) j u,(GM l[i])[j]?=some u->(w.alloc (.cells #[] TW)).cell? (a.add (i*4+j))=some u:=λi hi j u hu=>by
  rcases h3 with h|⟨g,o,e,_,hc⟩
  ·subst h;simp at hi
  injection e with e;subst e
  have:=((hc i hi).keep ((Fp.refl ab w).alloc (.cells #[] TW)) id).get j u hu;rw[Addr.add_lit]at this|-;rwa[Nat.add_assoc]at this
 have bM:∀ty,∃v' w',(Builtin.append_ #[Dw,Dw] ty #[.slice (some ⟨w.heap.size,0,none⟩) 0 0,.slice (some a) l.length cap]).run prog (w.alloc (.cells #[] TW))=.ok v' w'/\Qa w l v' w':=λty=>by
  obtain⟨v',w',hr,ho,hg,_⟩:=xx (w.alloc (.cells #[] TW)) w.heap.size _ [] l ty a l.length cap aL rfl hx (by simp;omega) (by simp)
  exact⟨v',w',hr,ho,((Fp.refl ab w).alloc _).grown hg (λk hk=>.inr (by simp[Value.ownBlock]at hk;omega))⟩
 have fW:=Bm;have uS:=Lib.hid (bM Dw);clear bM aL hx hv h1 h2 h3 h5;generalize l.length=n at *;go_enter func58,ntmps58
 go_wp2_with (at_builtin;go_must (refine aG rfl _ _ _ _ rfl _ _ rfl rfl (Qa w l) uS.out ?_))
 intro u w2 hR;have HR:=Lib.hid hR;clear hR;go_wp2;go_ret;exact⟨_,rfl,HR.out⟩
structure XG(lo:Nat)(w:World)(v:Value)(l:List Wt)(v':Value)(w':World):Prop where
 own:fV lo w' v' l
 fp:Fp (λk=>v.ownBlock=some k) w w'
 new:∀k,v'.ownBlock=some k->v.ownBlock=some k\/w.heap.size<=k
abbrev TV:TypeId:=122
abbrev iz:TypeId:=55
structure aU where
 s:Se
 a:Option Addr
 c:Nat
def aU.ev(x:aU):Value:=.slice x.a x.s.cW.length x.c
def eS(n:aU):List Value:=[.int .i64 n.s.num,.int .i64 n.s.count,n.ev]
def Oz(n:aU):Value:=.agg #[.int .i64 n.s.num,.int .i64 n.s.count,n.ev]
def aW(l:List aU):List Value:=l.flatMap eS
theorem gJ(n:aU):(eS n).length=3:=rfl
theorem jx(n:aU)(l:List aU):aW (n::l)=eS n++aW l:=by simp[aW]
theorem kP(a b:List aU):aW (a++b)=aW a++aW b:=by simp[aW]
theorem aV(l:List aU):(aW l).length=l.length*3:=by
 induction l with
 |nil=>rfl
 |cons n l ih=>rw[jx,List.length_append,gJ,ih,List.length_cons];omega
theorem fh(l:List aU)(i j:Nat)(hi:i<l.length)(hj:j<3):(aW l)[i*3+j]?=(eS l[i])[j]?:=by
 induction l generalizing i with
 |nil=>simp at hi
 |cons n l ih=>
  rw[jx];cases i with
  |zero=>rw[List.getElem?_append_left (by rw[gJ];omega)];simp
  |succ i=>?_
  rw[List.getElem?_append_right (by rw[gJ];omega),gJ,show(i+1)*3+j-3=i*3+j from by omega,ih i (by simpa using hi)]
  simp
theorem nV(l:List aU):∀u∈aW l,u.oneCell'=true:=by
 intro u hu;unfold aW at hu;rw[List.mem_flatMap]at hu;obtain⟨n,_,hu⟩:=hu;simp only[eS,List.mem_cons,List.not_mem_nil,or_false]at hu
 rcases hu with rfl|rfl|rfl<;>rfl
theorem Bn(l:List aU)(k:Nat):(aW l).take (k*3)=aW (l.take k):=by
 induction l generalizing k with
 |nil=>simp[aW]
 |cons n l ih=>
  cases k with
  |zero=>simp[aW]
  |succ k=>rw[List.take_succ_cons,jx,jx,<-ih,List.take_append,gJ,List.take_of_length_le (by rw[gJ];omega),show(k+1)*3-3=k*3 from by omega]
structure gQ(w:World)(g o:Nat)(n:aU):Prop where
 c0:w.cell? ⟨g,o,none⟩=some (.int .i64 n.s.num)
 c1:w.cell? ⟨g,o+1,none⟩=some (.int .i64 n.s.count)
 c2:w.cell? ⟨g,o+2,none⟩=some (n.ev)
theorem gQ.keep{w w':World}{g o:Nat}{n:aU}(h:gQ w g o n){S:Nat->Prop}(f:Fp S w w')(hS:¬S g):gQ w' g o n:=
 ⟨f.cell h.c0 hS,f.cell h.c1 hS,f.cell h.c2 hS⟩
theorem gQ.get{w:World}{g o:Nat}{n:aU}(h:gQ w g o n):∀j v,(eS n)[j]?=some v->w.cell? ((⟨g,o,none⟩:Addr).add j)=some v:=by
 intro j v hv;rw[Addr.add_lit];match j,hv with
 |0,hv=>rw[<-Option.some.inj hv];exact h.c0
 |1,hv=>rw[<-Option.some.inj hv];exact h.c1
 |2,hv=>rw[<-Option.some.inj hv];exact h.c2
 |j+3,hv=>simp[eS]at hv
structure rM(w:World)(v:Value)(l:List aU):Prop where
 ex:∃ao cap,v=.slice ao l.length cap/\l.length<=cap/\cap<=maxLen/\(l=[]\/∃g o,ao=some ⟨g,o,none⟩/\g<w.heap.size/\∀i (h:i<l.length),gQ w g (o+i*3) l[i])
theorem rM.keep{w w':World}{v:Value}{l:List aU}(h:rM w v l){S:Nat->Prop}(f:Fp S w w')(hS:∀k,v.ownBlock=some k->¬S k):rM w' v l:=by
 obtain⟨ao,cap,rfl,h1,h2,h3⟩:=h.ex;refine⟨ao,cap,rfl,h1,h2,?_⟩;rcases h3 with h3|⟨g,o,rfl,hg,hc⟩
 ·exact .inl h3
 exact .inr ⟨g,o,rfl,Nat.lt_of_lt_of_le hg f.size,λi hi=>(hc i hi).keep f (hS g rfl)⟩
theorem rM.af{w w':World}{v:Value}{l:List aU}(h:rM w v l)(f:Fp ab w w'):rM w' v l:=h.keep f (λ_ _ h=>h)
theorem rM.nil(w:World):rM w (.slice none 0 0) []:=⟨none,0,rfl,Nat.le_refl _,Nat.zero_le _,.inl rfl⟩
theorem rM.shape{w:World}{v:Value}{l:List aU}(h:rM w v l):∃ao cap,v=.slice ao l.length cap:=by
 obtain⟨ao,cap,rfl,_⟩:=h.ex;exact⟨ao,cap,rfl⟩
theorem rM.at{w:World}{v:Value}{l:List aU}(h:rM w v l)(h0:0<l.length):∃g o cap,v=.slice (some ⟨g,o,none⟩) l.length cap/\l.length<=cap/\cap<=maxLen/\g<w.heap.size/\∀i (h:i<l.length),gQ w g (o+i*3) l[i]:=by
 obtain⟨ao,cap,rfl,h1,h2,h3⟩:=h.ex;rcases h3 with h3|⟨g,o,rfl,hg,hc⟩
 ·subst h3;simp at h0
 exact⟨g,o,cap,rfl,h1,h2,hg,hc⟩
structure iZ(w:World)(g cap:Nat)(l:List aU):Prop where
 ex:∃rest,w.heap[g]?=some (.cells (aW l++rest).toArray TV (0,0))/\l.length*3+rest.length=cap*3
 room:l.length<=cap
 most:cap<=maxLen
theorem iZ.lt{w:World}{g cap:Nat}{l:List aU}(h:iZ w g cap l):g<w.heap.size:=by
 obtain⟨r,h,_⟩:=h.ex;exact(Array.getElem?_eq_some_iff.1 h).1
theorem iZ.keep{w w':World}{g cap:Nat}{l:List aU}(h:iZ w g cap l){S:Nat->Prop}(f:Fp S w w')(hS:¬S g):iZ w' g cap l:=by
 obtain⟨r,h1,h2⟩:=h.ex;exact⟨⟨r,f.heap h1 hS,h2⟩,h.room,h.most⟩
theorem iZ.cell{w:World}{g cap:Nat}{l:List aU}(h:iZ w g cap l)(i j:Nat)(hi:i<l.length)(hj:j<3):w.cell? ⟨g,i*3+j,none⟩=(eS l[i])[j]?:=by
 obtain⟨r,h1,_⟩:=h.ex;rw[cell_of_row w g _ _ TV (0,0) h1];simp only[List.getElem?_toArray]
 rw[List.getElem?_append_left (by rw[aV];omega),fh l i j hi hj]
theorem iZ.nd{w:World}{g cap:Nat}{l:List aU}(h:iZ w g cap l)(i:Nat)(hi:i<l.length):gQ w g (0+i*3) l[i]:=by
 rw[Nat.zero_add];exact⟨h.cell i 0 hi (by omega),h.cell i 1 hi (by omega),h.cell i 2 hi (by omega)⟩
theorem iZ.ns{w:World}{g cap:Nat}{l:List aU}(h:iZ w g cap l):rM w (.slice (some ⟨g,0,none⟩) l.length cap) l:=
 ⟨_,cap,rfl,h.room,h.most,.inr ⟨g,0,rfl,h.lt,h.nd⟩⟩
theorem iZ.frozen{w:World}{g cap:Nat}{l:List aU}(h:iZ w g cap l)(o:Nat):w.frozen? ⟨g,o,none⟩=false:=by
 obtain⟨r,h1,_⟩:=h.ex;simp[World.frozen?,h1]
theorem iZ.owns{w:World}{g cap:Nat}{l:List aU}(h:iZ w g cap l){lo:Nat}(bq:lo<=g):w.ownsRow lo TV 3 (.slice (some ⟨g,0,none⟩) l.length cap) l.length (aW l):=by
 obtain⟨r,h1,h2⟩:=h.ex;refine⟨aV l,.inr ⟨g,cap,_,rfl,bq,h1,h.room,h.most,by simp[aV];omega,?_⟩⟩
 simp only
 rw[<-aV l];exact List.take_left
theorem iZ.cK{w:World}{lo g cap n:Nat}{l:List aU}(h:w.ownsRow lo TV 3 (.slice (some ⟨g,0,none⟩) n cap) n (aW l))(hn:n=l.length):iZ w g cap l/\lo<=g:=by
 subst hn;rcases h.2 with⟨h0,_⟩|⟨g',aY,cur,e,hb,hg,h1,h2,h3,h4⟩
 ·cases h0
 injection e with e1 _ e3
 injection e1 with e1
 injection e1 with e1
 subst e1 e3;refine⟨⟨⟨cur.toList.drop (l.length*3),?_,?_⟩,h1,h2⟩,hb⟩
 ·rw[<-h4,List.take_append_drop];exact hg
 have e:cur.toList.length=cap*3:=by rw[Array.length_toList,h3]
 rw[List.length_drop,e];omega
theorem Tryz.CK:(prog.info? TV).map (λi=>(i.zero,i.size,i.bytes))=some (some (.agg #[.int .i64 0,.int .i64 0,.slice none 0 0]),3,40):=by kernel_rfl
theorem Zj(w:World):(sizeOf TV).run prog w=.ok 3 w:=by
 obtain⟨i,hi,_,hs,_⟩:=info_parts Tryz.CK;simp[sizeOf,typeInfo,hi,hs]
theorem py(w:World)(ty:TypeId)(g o fy jt:Nat)(a:Addr)(fA ju:Nat)(cur:List Value)(m:Nat)(cs:List Value)(hg:w.heap[g]?=some (.cells cur.toArray TV (0,0)))(hm:m=Nat.min fA fy)(hn:cs.length=m*3)
  (lZ:∀j v,cs[j]?=some v->w.cell? (a.add j)=some v) (fX:o+cs.length<=cur.length) (h1:∀v∈cs,v.oneCell'=true):
  (Builtin.copy_ #[iz,iz] ty #[.slice (some ⟨g,o,none⟩) fy jt,.slice (some a) fA ju]).run prog w=.ok (goInt m) (w.setRow g (cur.take o++cs++cur.drop (o+cs.length)).toArray):=by
 have hl:=run_loadCells_list (P:=prog) w a cs lZ;have aN:=run_storeCells_at prog g o TV cs 0 cur.toArray w hg (by simpa using fX) h1
 rw[hn]at hl;simp[Builtin.copy_,run_underlying Tryz.underlying55,Builtin.lenOf,Builtin.firstCells,<-hm,hl,aN]
theorem Bo(w:World)(lo:Nat)(v:Value)(l m:List aU)(ty:TypeId)(g o n c:Nat)(hv:w.ownsRow lo TV 3 v l.length (aW l))(hn:n=m.length)(hx:∀i (h:i<m.length),gQ w g (o+i*3) m[i])(h6:l.length+m.length<=100000)(bq:lo<=w.heap.size)(h0:0<l.length+m.length):
  ∃G cap w',(Builtin.append_ #[iz,iz] ty #[v,.slice (some ⟨g,o,none⟩) n c]).run prog w=.ok (.slice (some ⟨G,0,none⟩) (l.length+m.length) cap) w'/\iZ w' G cap (l++m)/\lo<=G/\w.grownBy w' v.ownBlock/\(v.ownBlock=some G\/w.heap.size<=G):=by
 obtain⟨i,hi,hz,db,qY⟩:=info_parts Tryz.CK;subst hn
 obtain⟨v',w',hr,h4,h5,h7,h8⟩:=run_append_own_at (P:=prog) w lo iz ty TV i _ 3 40 Tryz.underlying55 hi hz db qY rfl (by decide) v l.length (aW l) hv ⟨g,o,none⟩ m.length c (aW m) (aV m)
  (λj u hu=>by
   have hj:j<m.length*3:=by rw[<-aV];exact(List.getElem?_eq_some_iff.1 hu).1
   have hd:j / 3<m.length:=by omega
   have e:j / 3*3+j % 3=j:=by omega
   rw[<-e,fh m (j / 3) (j % 3) hd (by omega)]at hu
   have:=(hx (j / 3) hd).get (j % 3) u hu;rw[Addr.add_lit]at this|-;rwa[show o+j / 3*3+j % 3=o+j from by omega]at this)
  (nV m) (by unfold maxLen;omega) (by omega) bq
 have bA:v'≠.slice none 0 0:=λe=>by
  obtain⟨e1,e2⟩:=h7.1 e;subst e1;rcases hv.2 with⟨_,h⟩|⟨_,_,_,h,_⟩
  ·omega
  cases h
 rcases h4.2 with⟨h9,_⟩|⟨G,cap,cur,rfl,hb,hg,r1,r2,r3,r4⟩
 ·exact absurd h9 bA
 rw[<-kP]at h4;obtain⟨uH,AF⟩:=iZ.cK h4 (by rw[List.length_append])
 refine⟨G,cap,w',hr,uH,AF,h5,?_⟩;rcases h8 with h8|h8
 ·exact .inl h8.symm
 right;simp[Value.ownBlock]at h8;omega
theorem Bq(w:World)(a:Addr)(n c:Nat):(binOp .eql iz (.slice (some a) n c) (.slice none 0 0)).run prog w=.ok (.bool false) w:=
 Lib.run_eql_slice_nil w iz TV (some a) n c 0 0 Tryz.underlying55
def gh(lo:Nat)(w:World)(v:Value)(l:List aU):Prop:=w.ownsRow lo TV 3 v l.length (aW l)
theorem gh.ways{lo:Nat}{w:World}{v:Value}{l:List aU}(h:gh lo w v l):(v=.slice none 0 0/\l=[])\/∃G cap,v=.slice (some ⟨G,0,none⟩) l.length cap/\iZ w G cap l/\lo<=G:=by
 have h':=h;unfold gh at h';rcases h'.2 with⟨h0,h1⟩|⟨g,cap,cur,e,hb,hg,h1,h2,h3,h4⟩
 ·refine .inl ⟨h0,?_⟩
  cases l with
  |nil=>rfl
  |cons x l=>simp at h1
 refine .inr ⟨g,cap,e,?_⟩;unfold gh at h;rw[e]at h;exact iZ.cK h rfl
theorem gh.ns{lo:Nat}{w:World}{v:Value}{l:List aU}(h:gh lo w v l):rM w v l:=by
 rcases h.ways with⟨rfl,rfl⟩|⟨G,cap,rfl,h1,_⟩
 ·exact rM.nil w
 exact h1.ns
theorem gh.row{lo:Nat}{w:World}{G cap:Nat}{l:List aU}(h:iZ w G cap l)(bq:lo<=G):gh lo w (.slice (some ⟨G,0,none⟩) l.length cap) l:=h.owns bq
theorem gh.nil(lo:Nat)(w:World):gh lo w (.slice none 0 0) []:=⟨rfl,.inl ⟨rfl,rfl⟩⟩
theorem gh.keep{lo:Nat}{w w':World}{v:Value}{l:List aU}(h:gh lo w v l){S:Nat->Prop}(f:Fp S w w')(hS:∀k,v.ownBlock=some k->¬S k):gh lo w' v l:=by
 rcases h.ways with⟨rfl,rfl⟩|⟨G,cap,rfl,h1,h2⟩
 ·exact gh.nil lo w'
 exact gh.row (h1.keep f (hS G rfl)) h2
theorem gh.af{lo:Nat}{w w':World}{v:Value}{l:List aU}(h:gh lo w v l)(f:Fp ab w w'):gh lo w' v l:=h.keep f (λ_ _ h=>h)
theorem gh.low{lo:Nat}{w:World}{v:Value}{l:List aU}(h:gh lo w v l):∀k,v.ownBlock=some k->lo<=k:=by
 rcases h.ways with⟨rfl,rfl⟩|⟨G,cap,rfl,_,h2⟩
 ·intro k hk;simp[Value.ownBlock]at hk
 intro k hk;simp[Value.ownBlock]at hk;omega
theorem rE(w:World)(lo:Nat)(v:Value)(l m:List aU)(ty:TypeId)(a:Addr)(n c:Nat)(hv:gh lo w v l)(hn:n=m.length)(hx:∀i (h:i<m.length) j u,(eS m[i])[j]?=some u->w.cell? (a.add (i*3+j))=some u)(h6:l.length+m.length<=100000)(bq:lo<=w.heap.size):
  ∃v' w',(Builtin.append_ #[iz,iz] ty #[v,.slice (some a) n c]).run prog w=.ok v' w'/\gh lo w' v' (l++m)/\w.grownBy w' v.ownBlock/\∀k,v'.ownBlock=some k->v.ownBlock=some k\/w.heap.size<=k:=by
 obtain⟨i,hi,hz,db,qY⟩:=info_parts Tryz.CK;subst hn
 obtain⟨v',w',hr,h4,h5,_,h8⟩:=run_append_own_at (P:=prog) w lo iz ty TV i _ 3 40 Tryz.underlying55 hi hz db qY rfl (by decide) v l.length (aW l) hv a m.length c (aW m) (aV m)
  (λj u hu=>by
   have hj:j<m.length*3:=by rw[<-aV];exact(List.getElem?_eq_some_iff.1 hu).1
   have hd:j / 3<m.length:=by omega
   have e:j / 3*3+j % 3=j:=by omega
   rw[<-e,fh m (j / 3) (j % 3) hd (by omega)]at hu
   have:=hx (j / 3) hd (j % 3) u hu;rwa[e]at this)
  (nV m) (by unfold maxLen;omega) (by omega) bq
 refine⟨v',w',hr,?_,h5,λk hk=>?_⟩
 ·unfold gh
  rw[kP,List.length_append];exact h4
 rcases h8 with e|e
 ·exact .inl (by rw[<-e];exact hk)
 rw[hk]at e;injection e with e;exact .inr (by omega)
structure Qb(w:World)(l:List aU)(v':Value)(w':World):Prop where
 own:gh w.heap.size w' v' l
 fp:Fp ab w w'
theorem Aj(v:Value)(l:List aU)(w:World)(hv:rM w v l)(h5:l.length<=100000):
  Calls prog 59 #[v] w λe w'=>∃v',e=.returned v'/\Qb w l v' w':=by
 obtain⟨ao,cap,rfl,h1,h2,h3⟩:=hv.ex;cases ao with
 |none=>
  obtain rfl:l=[]:=by
   rcases h3 with h|⟨_,_,h,_⟩
   ·exact h
   cases h
  have fW:∀w:World,(binOp .eql iz (.slice none 0 cap) (.slice none 0 0)).run prog w=.ok (.bool true) w:=λw=>Lib.run_eql_slice_nil w iz TV none 0 cap 0 0 Tryz.underlying55
  clear h1 h2 h3 hv h5;simp only[List.length_nil]
  go_enter func59,ntmps59
  go_wp2;go_ret;exact⟨_,rfl,gh.nil _ _,Fp.refl _ _⟩
 |some a=>?_
 have aL:gh w.heap.size (w.alloc (.cells #[] TV)) (.slice (some ⟨w.heap.size,0,none⟩) 0 0) []:=World.ownsRow_lit w #[] 0 (Nat.le_refl _) (by unfold maxLen;omega) rfl
 have hx:∀i (h:i<l.length) j u,(eS l[i])[j]?=some u->(w.alloc (.cells #[] TV)).cell? (a.add (i*3+j))=some u:=λi hi j u hu=>by
  rcases h3 with h|⟨g,o,e,_,hc⟩
  ·subst h;simp at hi
  injection e with e;subst e
  have:=((hc i hi).keep ((Fp.refl ab w).alloc (.cells #[] TV)) id).get j u hu;rw[Addr.add_lit]at this|-;rwa[Nat.add_assoc]at this
 have bM:∀ty,∃v' w',(Builtin.append_ #[iz,iz] ty #[.slice (some ⟨w.heap.size,0,none⟩) 0 0,.slice (some a) l.length cap]).run prog (w.alloc (.cells #[] TV))=.ok v' w'/\Qb w l v' w':=λty=>by
  obtain⟨v',w',hr,ho,hg,_⟩:=rE (w.alloc (.cells #[] TV)) w.heap.size _ [] l ty a l.length cap aL rfl hx (by simp;omega) (by simp)
  exact⟨v',w',hr,ho,((Fp.refl ab w).alloc _).grown hg (λk hk=>.inr (by simp[Value.ownBlock]at hk;omega))⟩
 have fW:=Bq;have uS:=Lib.hid (bM iz);clear bM aL hx hv h1 h2 h3 h5;generalize l.length=n at *;go_enter func59,ntmps59
 go_wp2_with (at_builtin;go_must (refine aG rfl _ _ _ _ rfl _ _ rfl rfl (Qb w l) uS.out ?_))
 intro u w2 hR;have HR:=Lib.hid hR;clear hR;go_wp2;go_ret;exact⟨_,rfl,HR.out⟩
structure Ab(lo:Nat)(w:World)(v:Value)(l:List aU)(v':Value)(w':World):Prop where
 own:gh lo w' v' l
 fp:Fp (λk=>v.ownBlock=some k) w w'
 new:∀k,v'.ownBlock=some k->v.ownBlock=some k\/w.heap.size<=k
abbrev TE:TypeId:=94
abbrev zg:TypeId:=38
def GD(n:Ev):List Value:=[.int .i64 n.num,.int .i64 n.kind,au n.p,.int .i64 n.wt]
def fP(l:List Ev):List Value:=l.flatMap GD
theorem pY(n:Ev):(GD n).length=4:=rfl
theorem rF(n:Ev)(l:List Ev):fP (n::l)=GD n++fP l:=by simp[fP]
theorem Er(a b:List Ev):fP (a++b)=fP a++fP b:=by simp[fP]
theorem gz(l:List Ev):(fP l).length=l.length*4:=by
 induction l with
 |nil=>rfl
 |cons n l ih=>rw[rF,List.length_append,pY,ih,List.length_cons];omega
theorem tY(l:List Ev)(i j:Nat)(hi:i<l.length)(hj:j<4):(fP l)[i*4+j]?=(GD l[i])[j]?:=by
 induction l generalizing i with
 |nil=>simp at hi
 |cons n l ih=>
  rw[rF];cases i with
  |zero=>rw[List.getElem?_append_left (by rw[pY];omega)];simp
  |succ i=>?_
  rw[List.getElem?_append_right (by rw[pY];omega),pY,show(i+1)*4+j-4=i*4+j from by omega,ih i (by simpa using hi)]
  simp
theorem Es(l:List Ev):∀u∈fP l,u.oneCell'=true:=by
 intro u hu;unfold fP at hu;rw[List.mem_flatMap]at hu;obtain⟨n,_,hu⟩:=hu;simp only[GD,List.mem_cons,List.not_mem_nil,or_false]at hu
 rcases hu with rfl|rfl|rfl|rfl<;>rfl
structure oL(w:World)(g o:Nat)(n:Ev):Prop where
 c0:w.cell? ⟨g,o,none⟩=some (.int .i64 n.num)
 c1:w.cell? ⟨g,o+1,none⟩=some (.int .i64 n.kind)
 c2:w.cell? ⟨g,o+2,none⟩=some (au n.p)
 c3:w.cell? ⟨g,o+3,none⟩=some (.int .i64 n.wt)
theorem oL.keep{w w':World}{g o:Nat}{n:Ev}(h:oL w g o n){S:Nat->Prop}(f:Fp S w w')(hS:¬S g):oL w' g o n:=
 ⟨f.cell h.c0 hS,f.cell h.c1 hS,f.cell h.c2 hS,f.cell h.c3 hS⟩
theorem oL.get{w:World}{g o:Nat}{n:Ev}(h:oL w g o n):∀j v,(GD n)[j]?=some v->w.cell? ((⟨g,o,none⟩:Addr).add j)=some v:=by
 intro j v hv;rw[Addr.add_lit];match j,hv with
 |0,hv=>rw[<-Option.some.inj hv];exact h.c0
 |1,hv=>rw[<-Option.some.inj hv];exact h.c1
 |2,hv=>rw[<-Option.some.inj hv];exact h.c2
 |3,hv=>rw[<-Option.some.inj hv];exact h.c3
 |j+4,hv=>simp[GD]at hv
structure mB(w:World)(v:Value)(l:List Ev):Prop where
 ex:∃ao cap,v=.slice ao l.length cap/\l.length<=cap/\cap<=maxLen/\(l=[]\/∃g o,ao=some ⟨g,o,none⟩/\g<w.heap.size/\∀i (h:i<l.length),oL w g (o+i*4) l[i])
theorem mB.keep{w w':World}{v:Value}{l:List Ev}(h:mB w v l){S:Nat->Prop}(f:Fp S w w')(hS:∀k,v.ownBlock=some k->¬S k):mB w' v l:=by
 obtain⟨ao,cap,rfl,h1,h2,h3⟩:=h.ex;refine⟨ao,cap,rfl,h1,h2,?_⟩;rcases h3 with h3|⟨g,o,rfl,hg,hc⟩
 ·exact .inl h3
 exact .inr ⟨g,o,rfl,Nat.lt_of_lt_of_le hg f.size,λi hi=>(hc i hi).keep f (hS g rfl)⟩
theorem mB.af{w w':World}{v:Value}{l:List Ev}(h:mB w v l)(f:Fp ab w w'):mB w' v l:=h.keep f (λ_ _ h=>h)
theorem mB.nil(w:World):mB w (.slice none 0 0) []:=⟨none,0,rfl,Nat.le_refl _,Nat.zero_le _,.inl rfl⟩
theorem mB.shape{w:World}{v:Value}{l:List Ev}(h:mB w v l):∃ao cap,v=.slice ao l.length cap:=by
 obtain⟨ao,cap,rfl,_⟩:=h.ex;exact⟨ao,cap,rfl⟩
theorem mB.at{w:World}{v:Value}{l:List Ev}(h:mB w v l)(h0:0<l.length):∃g o cap,v=.slice (some ⟨g,o,none⟩) l.length cap/\l.length<=cap/\cap<=maxLen/\g<w.heap.size/\∀i (h:i<l.length),oL w g (o+i*4) l[i]:=by
 obtain⟨ao,cap,rfl,h1,h2,h3⟩:=h.ex;rcases h3 with h3|⟨g,o,rfl,hg,hc⟩
 ·subst h3;simp at h0
 exact⟨g,o,cap,rfl,h1,h2,hg,hc⟩
structure tZ(w:World)(g cap:Nat)(l:List Ev):Prop where
 ex:∃rest,w.heap[g]?=some (.cells (fP l++rest).toArray TE (0,0))/\l.length*4+rest.length=cap*4
 room:l.length<=cap
 most:cap<=maxLen
theorem tZ.lt{w:World}{g cap:Nat}{l:List Ev}(h:tZ w g cap l):g<w.heap.size:=by
 obtain⟨r,h,_⟩:=h.ex;exact(Array.getElem?_eq_some_iff.1 h).1
theorem tZ.keep{w w':World}{g cap:Nat}{l:List Ev}(h:tZ w g cap l){S:Nat->Prop}(f:Fp S w w')(hS:¬S g):tZ w' g cap l:=by
 obtain⟨r,h1,h2⟩:=h.ex;exact⟨⟨r,f.heap h1 hS,h2⟩,h.room,h.most⟩
theorem tZ.cell{w:World}{g cap:Nat}{l:List Ev}(h:tZ w g cap l)(i j:Nat)(hi:i<l.length)(hj:j<4):w.cell? ⟨g,i*4+j,none⟩=(GD l[i])[j]?:=by
 obtain⟨r,h1,_⟩:=h.ex;rw[cell_of_row w g _ _ TE (0,0) h1];simp only[List.getElem?_toArray]
 rw[List.getElem?_append_left (by rw[gz];omega),tY l i j hi hj]
theorem tZ.nd{w:World}{g cap:Nat}{l:List Ev}(h:tZ w g cap l)(i:Nat)(hi:i<l.length):oL w g (0+i*4) l[i]:=by
 rw[Nat.zero_add];exact⟨h.cell i 0 hi (by omega),h.cell i 1 hi (by omega),h.cell i 2 hi (by omega),h.cell i 3 hi (by omega)⟩
theorem tZ.ns{w:World}{g cap:Nat}{l:List Ev}(h:tZ w g cap l):mB w (.slice (some ⟨g,0,none⟩) l.length cap) l:=
 ⟨_,cap,rfl,h.room,h.most,.inr ⟨g,0,rfl,h.lt,h.nd⟩⟩
theorem tZ.frozen{w:World}{g cap:Nat}{l:List Ev}(h:tZ w g cap l)(o:Nat):w.frozen? ⟨g,o,none⟩=false:=by
 obtain⟨r,h1,_⟩:=h.ex;simp[World.frozen?,h1]
theorem tZ.owns{w:World}{g cap:Nat}{l:List Ev}(h:tZ w g cap l){lo:Nat}(bq:lo<=g):w.ownsRow lo TE 4 (.slice (some ⟨g,0,none⟩) l.length cap) l.length (fP l):=by
 obtain⟨r,h1,h2⟩:=h.ex;refine⟨gz l,.inr ⟨g,cap,_,rfl,bq,h1,h.room,h.most,by simp[gz];omega,?_⟩⟩
 simp only
 rw[<-gz l];exact List.take_left
theorem tZ.cK{w:World}{lo g cap n:Nat}{l:List Ev}(h:w.ownsRow lo TE 4 (.slice (some ⟨g,0,none⟩) n cap) n (fP l))(hn:n=l.length):tZ w g cap l/\lo<=g:=by
 subst hn;rcases h.2 with⟨h0,_⟩|⟨g',aY,cur,e,hb,hg,h1,h2,h3,h4⟩
 ·cases h0
 injection e with e1 _ e3
 injection e1 with e1
 injection e1 with e1
 subst e1 e3;refine⟨⟨⟨cur.toList.drop (l.length*4),?_,?_⟩,h1,h2⟩,hb⟩
 ·rw[<-h4,List.take_append_drop];exact hg
 have e:cur.toList.length=cap*4:=by rw[Array.length_toList,h3]
 rw[List.length_drop,e];omega
theorem Tryz.U3:(prog.info? TE).map (λi=>(i.zero,i.size,i.bytes))=some (some (.agg #[.int .i64 0,.int .i64 0,.string ⟨#[]⟩,.int .i64 0]),4,40):=by kernel_rfl
theorem Br(w:World)(a:Addr)(n c:Nat):(binOp .eql zg (.slice (some a) n c) (.slice none 0 0)).run prog w=.ok (.bool false) w:=
 Lib.run_eql_slice_nil w zg TE (some a) n c 0 0 Tryz.underlying38
def fU(lo:Nat)(w:World)(v:Value)(l:List Ev):Prop:=w.ownsRow lo TE 4 v l.length (fP l)
theorem fU.ways{lo:Nat}{w:World}{v:Value}{l:List Ev}(h:fU lo w v l):(v=.slice none 0 0/\l=[])\/∃G cap,v=.slice (some ⟨G,0,none⟩) l.length cap/\tZ w G cap l/\lo<=G:=by
 have h':=h;unfold fU at h';rcases h'.2 with⟨h0,h1⟩|⟨g,cap,cur,e,hb,hg,h1,h2,h3,h4⟩
 ·refine .inl ⟨h0,?_⟩
  cases l with
  |nil=>rfl
  |cons x l=>simp at h1
 refine .inr ⟨g,cap,e,?_⟩;unfold fU at h;rw[e]at h;exact tZ.cK h rfl
theorem fU.ns{lo:Nat}{w:World}{v:Value}{l:List Ev}(h:fU lo w v l):mB w v l:=by
 rcases h.ways with⟨rfl,rfl⟩|⟨G,cap,rfl,h1,_⟩
 ·exact mB.nil w
 exact h1.ns
theorem fU.row{lo:Nat}{w:World}{G cap:Nat}{l:List Ev}(h:tZ w G cap l)(bq:lo<=G):fU lo w (.slice (some ⟨G,0,none⟩) l.length cap) l:=h.owns bq
theorem fU.nil(lo:Nat)(w:World):fU lo w (.slice none 0 0) []:=⟨rfl,.inl ⟨rfl,rfl⟩⟩
theorem fU.keep{lo:Nat}{w w':World}{v:Value}{l:List Ev}(h:fU lo w v l){S:Nat->Prop}(f:Fp S w w')(hS:∀k,v.ownBlock=some k->¬S k):fU lo w' v l:=by
 rcases h.ways with⟨rfl,rfl⟩|⟨G,cap,rfl,h1,h2⟩
 ·exact fU.nil lo w'
 exact fU.row (h1.keep f (hS G rfl)) h2
theorem fU.af{lo:Nat}{w w':World}{v:Value}{l:List Ev}(h:fU lo w v l)(f:Fp ab w w'):fU lo w' v l:=h.keep f (λ_ _ h=>h)
theorem fU.low{lo:Nat}{w:World}{v:Value}{l:List Ev}(h:fU lo w v l):∀k,v.ownBlock=some k->lo<=k:=by
 rcases h.ways with⟨rfl,rfl⟩|⟨G,cap,rfl,_,h2⟩
 ·intro k hk;simp[Value.ownBlock]at hk
 intro k hk;simp[Value.ownBlock]at hk;omega
theorem xj(w:World)(lo:Nat)(v:Value)(l m:List Ev)(ty:TypeId)(a:Addr)(n c:Nat)(hv:fU lo w v l)(hn:n=m.length)(hx:∀i (h:i<m.length) j u,(GD m[i])[j]?=some u->w.cell? (a.add (i*4+j))=some u)(h6:l.length+m.length<=100000)(bq:lo<=w.heap.size):
  ∃v' w',(Builtin.append_ #[zg,zg] ty #[v,.slice (some a) n c]).run prog w=.ok v' w'/\fU lo w' v' (l++m)/\w.grownBy w' v.ownBlock/\∀k,v'.ownBlock=some k->v.ownBlock=some k\/w.heap.size<=k:=by
 obtain⟨i,hi,hz,db,qY⟩:=info_parts Tryz.U3;subst hn
 obtain⟨v',w',hr,h4,h5,_,h8⟩:=run_append_own_at (P:=prog) w lo zg ty TE i _ 4 40 Tryz.underlying38 hi hz db qY rfl (by decide) v l.length (fP l) hv a m.length c (fP m) (gz m)
  (λj u hu=>by
   have hj:j<m.length*4:=by rw[<-gz];exact(List.getElem?_eq_some_iff.1 hu).1
   have hd:j / 4<m.length:=by omega
   have e:j / 4*4+j % 4=j:=by omega
   rw[<-e,tY m (j / 4) (j % 4) hd (by omega)]at hu
   have:=hx (j / 4) hd (j % 4) u hu;rwa[e]at this)
  (Es m) (by unfold maxLen;omega) (by omega) bq
 refine⟨v',w',hr,?_,h5,λk hk=>?_⟩
 ·unfold fU
  rw[Er,List.length_append];exact h4
 rcases h8 with e|e
 ·exact .inl (by rw[<-e];exact hk)
 rw[hk]at e;injection e with e;exact .inr (by omega)
structure Qc(w:World)(l:List Ev)(v':Value)(w':World):Prop where
 own:fU w.heap.size w' v' l
 fp:Fp ab w w'
theorem qD(v:Value)(l:List Ev)(w:World)(hv:mB w v l)(h5:l.length<=100000):
  Calls prog 60 #[v] w λe w'=>∃v',e=.returned v'/\Qc w l v' w':=by
 obtain⟨ao,cap,rfl,h1,h2,h3⟩:=hv.ex;cases ao with
 |none=>
  obtain rfl:l=[]:=by
   rcases h3 with h|⟨_,_,h,_⟩
   ·exact h
   cases h
  have fW:∀w:World,(binOp .eql zg (.slice none 0 cap) (.slice none 0 0)).run prog w=.ok (.bool true) w:=λw=>Lib.run_eql_slice_nil w zg TE none 0 cap 0 0 Tryz.underlying38
  clear h1 h2 h3 hv h5;simp only[List.length_nil]
  go_enter func60,ntmps60
  go_wp2;go_ret;exact⟨_,rfl,fU.nil _ _,Fp.refl _ _⟩
 |some a=>?_
 have aL:fU w.heap.size (w.alloc (.cells #[] TE)) (.slice (some ⟨w.heap.size,0,none⟩) 0 0) []:=World.ownsRow_lit w #[] 0 (Nat.le_refl _) (by unfold maxLen;omega) rfl
 have hx:∀i (h:i<l.length) j u,(GD l[i])[j]?=some u->(w.alloc (.cells #[] TE)).cell? (a.add (i*4+j))=some u:=λi hi j u hu=>by
  rcases h3 with h|⟨g,o,e,_,hc⟩
  ·subst h;simp at hi
  injection e with e;subst e
  have:=((hc i hi).keep ((Fp.refl ab w).alloc (.cells #[] TE)) id).get j u hu;rw[Addr.add_lit]at this|-;rwa[Nat.add_assoc]at this
 have bM:∀ty,∃v' w',(Builtin.append_ #[zg,zg] ty #[.slice (some ⟨w.heap.size,0,none⟩) 0 0,.slice (some a) l.length cap]).run prog (w.alloc (.cells #[] TE))=.ok v' w'/\Qc w l v' w':=λty=>by
  obtain⟨v',w',hr,ho,hg,_⟩:=xj (w.alloc (.cells #[] TE)) w.heap.size _ [] l ty a l.length cap aL rfl hx (by simp;omega) (by simp)
  exact⟨v',w',hr,ho,((Fp.refl ab w).alloc _).grown hg (λk hk=>.inr (by simp[Value.ownBlock]at hk;omega))⟩
 have fW:=Br;have uS:=Lib.hid (bM zg);clear bM aL hx hv h1 h2 h3 h5;generalize l.length=n at *;go_enter func60,ntmps60
 go_wp2_with (at_builtin;go_must (refine aG rfl _ _ _ _ rfl _ _ rfl rfl (Qc w l) uS.out ?_))
 intro u w2 hR;have HR:=Lib.hid hR;clear hR;go_wp2;go_ret;exact⟨_,rfl,HR.out⟩
structure OH(lo:Nat)(w:World)(v:Value)(l:List Ev)(v':Value)(w':World):Prop where
 own:fU lo w' v' l
 fp:Fp (λk=>v.ownBlock=some k) w w'
 new:∀k,v'.ownBlock=some k->v.ownBlock=some k\/w.heap.size<=k
end Go.Proofs.YtgafcelloiagmaaGreatDoor
