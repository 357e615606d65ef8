/- A text of this proof. -/
import Derived.Deep.RegionHeld
import Derived.Deep.Upon
import Derived.Test.YtgafcelloiagmaaGreatDoorZCE
set_option maxHeartbeats 16000000
set_option linter.unusedSimpArgs false
set_option linter.unusedVariables false
set_option maxRecDepth 20000
namespace Go.Proofs.YtgafcelloiagmaaGreatDoor
open Go.Proofs.Tryz
section
namespace Pm
open Go.Proofs.Tryz
structure Tr(l:List Nd):Prop where
 most:l.length<=512
 root:∃r,find l [47]=some r/\r.own=0
 fit:∀n∈l,Nx n=true
 kR:fw l
 lie:∀n∈l,n.path≠[47]->po l n=true
theorem DU{l:List Nd}{n:Nd}(h:po l n=true):∃u x,parent n.path=some u/\find l u=some x/\x.own=0:=by
 unfold po at h;split at h
 ·rename_i u hu
  unfold free at h;split at h
  ·rename_i x hx
   exact⟨u,x,hu,hx,by simpa using h⟩
  cases h
 cases h
theorem tz{o:fD}(h:may o=true):(split o.path).isSome=true:=by
 unfold may at h;simp only[Bool.and_eq_true]at h;exact h.1.1
theorem xq{o:fD}(h:may o=true):o.kind=1\/o.kind=2\/o.kind=3\/o.kind=4\/o.kind=5\/o.kind=6\/o.kind=7:=by
 unfold may at h;simp only[Bool.and_eq_true]at h;have:=h.2;split at this
 ·exact .inl ‹_›
 split at this
 ·exact .inr (.inl ‹_›)
 split at this
 ·exact .inr (.inr (.inl ‹_›))
 split at this
 ·exact .inr (.inr (.inr (.inl ‹_›)))
 split at this
 ·rename_i k;rcases k with k|k
  ·exact .inr (.inr (.inr (.inr (.inl k))))
  exact .inr (.inr (.inr (.inr (.inr (.inl k)))))
 split at this
 ·exact .inr (.inr (.inr (.inr (.inr (.inr ‹_›)))))
 cases this
theorem qV{p u:Bs}(h:parent p=some u):p≠[47]:=by rintro rfl;cases h
theorem sI{p q:Bs}{t:Int}(h:bH p t=some q):0<=t/\t<=9999:=by
 unfold bH at h;split at h
 ·rename_i k;exact⟨k.1,k.2.1⟩
 cases h
theorem jd{l:List Nd}(h:fw l){p:Bs}{x:Nd}(hx:find l p=some x):l.eraseIdx (place l p)=l.filter (λn=>n.path != p):=by
 obtain⟨hk,e⟩:=ml h hx;exact(erase_eq h hk (by rw[e];exact(gF hx).2)).symm
end Pm
namespace Pm
open Go.Proofs.Tryz
theorem Tr.valid{l:List Nd}(h:Tr l){n:Nd}(hn:n∈l):∃ps,split n.path=some ps:=by
 by_cases e:n.path=[47]
 ·rw[e];exact⟨[],rfl⟩
 obtain⟨u,x,h1,_,_⟩:=DU (h.lie n hn e);obtain⟨ps,hs,_⟩:=hZ h1;exact⟨ps,hs⟩
theorem Tr.refl{l:List Nd}(h:Tr l){n:Nd}(hn:n∈l):lR n.path n.path=true:=by
 obtain⟨ps,hs⟩:=h.valid hn;exact LC hs
def pre:List Bs->Bs
 |[]=>[47]
 |p::r=>flat (p::r)++[47]
end Pm
namespace Pm
open Go.Proofs.Tryz
structure Tu where
 dir:Bs
 next:Int
deriving DecidableEq
structure St where
 nodes:List Nd
 turns:List Tu
deriving DecidableEq
structure Pt where
 kind:Int
 dir:Bs
 path:Bs
 data:Bs
 aX:Int
 own:Int
 turns:Bool
deriving DecidableEq
def iC(p:Bs):Bs:=(parent p).getD [47]
def bU(k:Int)(p:Bs):Bs:=if k=4\/k=9\/k=10 then p else iC p
def cq(x:Pt):Bool:=
 decide (1<=x.kind/\x.kind<=10) && (split x.path).isSome && decide (x.dir=bU x.kind x.path) && decide (¬(x.kind=2/\x.path=[47])) &&
 decide (x.data.length<=256/\-1<=x.aX/\x.aX<=281474976710656/\0<=x.own/\x.own<=1099511627776)
def sJ(n:Nd):Bool:=
 (split n.path).isSome && decide (n.data.length<=256/\n.turn=0/\¬(n.path=[47]/\n.own≠0)/\0<=n.aX/\n.aX<=281474976710656/\0<=n.own/\n.own<=1099511627776)
def fe(t:Tu):Bool:=(split t.dir).isSome && decide (1<=t.next/\t.next<=10000)
def jO(l:List Tu):Prop:=∀i j (hi:i<l.length) (hj:j<l.length),i<j->lt l[i].dir l[j].dir=true
structure dh(s:St):Prop where
 fit:∀n∈s.nodes,sJ n=true
 kR:fw s.nodes
 fe:∀t∈s.turns,fe t=true
 oU:jO s.turns
open Classical in
noncomputable def dB(s:St):Bool:=decide (dh s)
theorem fm(s:St):dB s=true↔dh s:=by unfold dB;simp
theorem ei{s:St}(h:dh s):dB s=true:=by unfold dB;simp[h]
theorem mT{s:St}(h:¬dh s):dB s=false:=by unfold dB;simp[h]
def eH(l:List Tu)(p:Bs):Option Tu:=l.find? (λt=>t.dir == p)
def dt(l:List Tu)(p:Bs):Int:=((eH l p).map Tu.next).getD 0
def cj(l:List Tu)(p:Bs):Nat:=l.countP (λt=>lt t.dir p)
def fj(l:List Tu)(k:Nat)(x:Tu):List Tu:=l.take k++x::l.drop k
def lL(l:List Tu)(p:Bs)(n:Int):List Tu:=
 let l1:=if (eH l p).isSome=true then l.eraseIdx (cj l p) else l
 if n≠0 then fj l1 (cj l p) ⟨p,n⟩ else l1
def EB:dp:=⟨0,[],[],0,[]⟩
def cz(k:Int):Bool:=k == 3||k == 5||k == 6
def jh(s:St)(x:Pt):Option Bs:=if x.turns=true then (bH (last x.path) (dt s.turns x.dir)).bind (join x.dir) else some x.path
def qh(s:St)(x:Pt):St×dp:=
 match jh s x with
 |none=>(s,.bad 66)
 |some q=>if (find s.nodes q).isSome=true then (s,.bad 61) else
   (⟨ins s.nodes (place s.nodes q) ⟨q,x.data,0,0,x.own⟩,if x.turns=true then lL s.turns x.dir (dt s.turns x.dir+1) else s.turns⟩,⟨0,q,[],0,[]⟩)
def uT(x:Pt)(n:Nd):Bool:=n.own == x.own && parent n.path == some x.path
def b7(s:St)(x:Pt):St×dp:=
 if x.kind=2 then qh s x
 else if x.kind=4 then (if kids s.nodes x.path=[] then (⟨s.nodes,lL s.turns x.path 0⟩,EB) else (s,.bad 64))
 else if x.kind=9 then (s,⟨0,[],[],0,(kids s.nodes x.path).map (λn=>last n.path)⟩)
 else if x.kind=10 then (⟨s.nodes.filter (λn=>!uT x n),s.turns⟩,⟨0,[],[],0,(s.nodes.filter (uT x)).map (λn=>last n.path)⟩)
 else match find s.nodes x.path with
  |none=>(s,.bad 62)
  |some n=>if cz x.kind=true/\0<=x.aX/\x.aX≠n.aX then (s,.bad 63)
   else if x.kind=1 then (if n.own≠0 then (s,.bad 65) else (s,EB))
   else if x.kind=3 then (⟨s.nodes.eraseIdx (place s.nodes x.path),s.turns⟩,EB)
   else if x.kind=5 then (if n.aX=281474976710656 then (s,.bad 2) else (⟨s.nodes.set (place s.nodes x.path) { n with data:=x.data,aX:=n.aX+1 },s.turns⟩,⟨0,[],[],n.aX+1,[]⟩))
   else if x.kind=6 then (s,⟨0,[],[],n.aX,[]⟩)
   else if x.kind=7 then (s,⟨0,[],n.data,n.aX,[]⟩)
   else (s,EB)
noncomputable def cT(s:St)(x:Pt):St×dp:=if dB s && cq x then b7 s x else (⟨[],[]⟩,.bad 1)
theorem tv{s:St}{x:Pt}(h:¬(dB s=true/\cq x=true)):cT s x=(⟨[],[]⟩,.bad 1):=by
 unfold cT;rw[if_neg];simpa[Bool.and_eq_true]using h
theorem jg{s:St}{x:Pt}(h:dh s)(k:cq x=true):cT s x=b7 s x:=by
 unfold cT;rw[if_pos];rw[ei h,k];rfl
theorem Kf(s:St)(x:Pt):(b7 s x).2.err≠1/\((b7 s x).2.err≠0->(b7 s x).1=s/\(b7 s x).2=.bad (b7 s x).2.err):=by
 have bad:∀e:Int,e≠1->((s,dp.bad e).2.err≠1/\((s,dp.bad e).2.err≠0->(s,dp.bad e).1=s/\(s,dp.bad e).2=.bad (s,dp.bad e).2.err)):=λe h=>⟨h,λ_=>⟨rfl,rfl⟩⟩
 have sL:∀(t:St) (r:dp),r.err=0->((t,r).2.err≠1/\((t,r).2.err≠0->(t,r).1=s/\(t,r).2=.bad (t,r).2.err)):=λt r h=>⟨by rw[show(t,r).2=r from rfl,h];decide,λk=>absurd h k⟩
 unfold b7;split
 ·unfold qh
  split
  ·exact bad _ (by decide)
  split
  ·exact bad _ (by decide)
  exact sL _ _ rfl
 split
 ·split
  ·exact sL _ _ rfl
  exact bad _ (by decide)
 split
 ·exact sL _ _ rfl
 split
 ·exact sL _ _ rfl
 split
 ·exact bad _ (by decide)
 split
 ·exact bad _ (by decide)
 split
 ·split
  ·exact bad _ (by decide)
  exact sL _ _ rfl
 split
 ·exact sL _ _ rfl
 split
 ·split
  ·exact bad _ (by decide)
  exact sL _ _ rfl
 split
 ·exact sL _ _ rfl
 split
 ·exact sL _ _ rfl
 exact sL _ _ rfl
def partsOf(o:fD):List Pt:=
 if may o=true then
  (if o.kind=1 then [⟨1,iC (iC o.path),iC o.path,[],0,0,false⟩,⟨2,iC o.path,o.path,o.data,0,o.own,o.turns⟩]
  else if o.kind=2 then [⟨3,iC o.path,o.path,[],o.aX,0,false⟩,⟨4,o.path,o.path,[],0,0,false⟩]
  else if o.kind=3 then [⟨5,iC o.path,o.path,o.data,o.aX,0,false⟩]
  else if o.kind=4 then [⟨6,iC o.path,o.path,[],o.aX,0,false⟩]
  else if o.kind=5 then [⟨7,iC o.path,o.path,[],0,0,false⟩]
  else if o.kind=6 then [⟨8,iC o.path,o.path,[],0,0,false⟩,⟨9,o.path,o.path,[],0,0,false⟩]
  else [⟨8,iC o.path,o.path,[],0,0,false⟩,⟨10,o.path,o.path,[],0,o.own,false⟩])
 else []
theorem qO(p:Bs):(split (iC p)).isSome=true:=by
 unfold iC;cases h:parent p with
 |none=>rfl
 |some u=>?_
 simp only[Option.getD_some]
 obtain⟨ps,hs,hj,_⟩:=hZ h;unfold join at hj;cases hu:split u with
 |none=>rw[hu]at hj;cases hj
 |some _=>rfl
end Pm
open Go.RowKit Pm
def Gr(w w':World):Prop:=Below w.heap.size w w'
theorem Gr.refl(w:World):Gr w w:=Below.refl _ _
theorem Gr.trans{a b c:World}(h:Gr a b)(k:Gr b c):Gr a c:=Below.trans h (Below.mono k h.size)
theorem Gr.drew{a b:World}(h:Gr a b)(n:Nat):Gr a (b.drewN n):=below_drewN h n
def sz(l:Bs):Prop:=l.length<=4611686018427387904
theorem cH{l:Bs}{k:Nat}(h:l.length<=k)(hk:k<=4611686018427387904):sz l:=Nat.le_trans h hk
theorem qJ(l:Bs)(w:World)(hl:sz l):Calls prog 168 #[.string (B l)] w λe w'=>e=.returned (.tuple #[.string (B ((parent l).getD [])),.bool (parent l).isSome])/\Gr w w':=Iq l w hl
theorem Is(l:Bs)(w:World)(hl:sz l):Calls prog 270 #[.string (B l)] w λe w'=>e=.returned (.string (B (last l)))/\Gr w w':=PV l w hl
theorem cE(l:Bs)(w:World)(hl:sz l):Calls prog 78 #[.string (B l)] w λe w'=>e=.returned (.bool (split l).isSome)/\Gr w w':=LD l w hl
theorem Hd(l q:Bs)(w:World)(hl:sz l)(hq:sz q):Calls prog 239 #[.string (B l),.string (B q)] w λe w'=>e=.returned (.tuple #[.string (B ((join l q).getD [])),.bool (join l q).isSome])/\Gr w w':=xX l q w hl hq
theorem Own.cells{b0:Nat}{w:World}{ao:Option Addr}{n cap:Nat}{ps:List Bs}(h:Own b0 w (.slice ao n cap) ps):
  ∀(w3:World),Gr w w3->∀k (hk:k<ps.length),∃g,ao=some ⟨g,0,none⟩/\w3.cell? ⟨g,k,none⟩=some (.string (B ps[k])):=by
 intro w3 g3 k hk;match ps,h,hk with
 |q::r,h,hk=>
  obtain⟨g,c,hv,_,hl⟩:=h.po;injection hv with hv _ _
  refine⟨g,hv,?_⟩;rw[Below.cell g3 (p:=⟨g,k,none⟩) hl.lt];exact hl.cell k hk
structure jH(w:World):Prop where
 is:Lib.TabIs prog w "internal/strconv.uint64pow10" .u64 Lib.pow10Tab
theorem Lb:prog.globalNamed "internal/strconv.uint64pow10" = some 1:=by kernel_rfl
theorem jH.lt{w:World}(h:jH w):1<w.heap.size:=by
 have:=h.is;unfold Lib.TabIs World.var? at this;rw[Lb]at this;simp only[Option.bind_some]at this
 rcases Nat.lt_or_ge 1 w.heap.size with k|k
 ·exact k
 rw[Array.getElem?_eq_none k]at this;cases this
theorem jH.grown{w w':World}(h:jH w)(g:Gr w w'):jH w':=⟨var?_below g Lb h.lt h.is⟩
structure Fp(S:Nat->Prop)(w w':World):Prop where
 os:w'.os=w.os
 tape:w'.tape=w.tape
 output:w'.output=w.output
 size:w.heap.size<=w'.heap.size
 block:∀k,k<w.heap.size->¬S k->w'.heap[k]?=w.heap[k]?
def ab:Nat->Prop:=λ_=>False
theorem Fp.refl(S:Nat->Prop)(w:World):Fp S w w:=⟨rfl,rfl,rfl,Nat.le_refl _,λ_ _ _=>rfl⟩
theorem Fp.trans{S T:Nat->Prop}{a b c:World}(h:Fp S a b)(g:Fp T b c)(hT:∀k,T k->S k\/a.heap.size<=k):Fp S a c:=
 ⟨g.os.trans h.os,g.tape.trans h.tape,g.output.trans h.output,Nat.le_trans h.size g.size,
  λk hk hS=>(g.block k (Nat.lt_of_lt_of_le hk h.size) (λht=>(hT k ht).elim hS (λh1=>absurd hk (by omega)))).trans (h.block k hk hS)⟩
theorem Fp.then{S:Nat->Prop}{a b c:World}(h:Fp S a b)(g:Fp ab b c):Fp S a c:=h.trans g (λ_ h=>h.elim)
theorem Fp.same{S:Nat->Prop}{a b c:World}(h:Fp S a b)(g:Fp S b c):Fp S a c:=h.trans g (λ_ h=>.inl h)
theorem Fp.mono{S T:Nat->Prop}{a b:World}(h:Fp S a b)(hS:∀k,S k->T k):Fp T a b:=⟨h.os,h.tape,h.output,h.size,λk hk ht=>h.block k hk (λhs=>ht (hS k hs))⟩
theorem Fp.any{S:Nat->Prop}{a b:World}(h:Fp ab a b):Fp S a b:=h.mono (λ_ h=>h.elim)
theorem Fp.drewN{S:Nat->Prop}{a b:World}(h:Fp S a b)(n:Nat):Fp S a (b.drewN n):=⟨h.os,h.tape,h.output,h.size,h.block⟩
theorem Fp.drew{S:Nat->Prop}{a b:World}(h:Fp S a b):Fp S a b.drew:=⟨h.os,h.tape,h.output,h.size,h.block⟩
theorem Fp.below{S:Nat->Prop}{a b:World}(h:Fp S a b){lo:Nat}(hS:∀k,S k->lo<=k)(hl:lo<=a.heap.size):Below lo a b:=
 ⟨h.os,h.tape,h.output,h.size,λk hk=>h.block k (by omega) (λhs=>by have:=hS k hs;omega)⟩
theorem Fp.cB{a b:World}(h:Below a.heap.size a b):Fp ab a b:=⟨h.os,h.tape,h.output,h.size,λk hk _=>h.block k hk⟩
theorem Fp.grown{S:Nat->Prop}{a b c:World}{row:Option Nat}(h:Fp S a b)(g:b.grownBy c row)(hr:∀k,row=some k->S k\/a.heap.size<=k):Fp S a c:=
 ⟨g.os.trans h.os,g.tape.trans h.tape,g.output.trans h.output,Nat.le_trans h.size g.size,
  λk hk hS=>(g.block k (Nat.lt_of_lt_of_le hk h.size) (λht=>(hr k ht.symm).elim hS (λh1=>absurd hk (by omega)))).trans (h.block k hk hS)⟩
theorem Fp.alloc{S:Nat->Prop}{a b:World}(h:Fp S a b)(o:Obj):Fp S a (b.alloc o):=h.grown (World.grownBy_alloc b o none) (λ_ h=>by cases h)
theorem Fp.setCell{S:Nat->Prop}{a b:World}(h:Fp S a b){p:Addr}(hp:S p.block\/a.heap.size<=p.block)(v:Value):Fp S a (b.setCell p v):=by
 refine⟨h.os,h.tape,h.output,by simpa[World.setCell]using h.size,λk hk hS=>?_⟩
 have bA:k≠p.block:=by rintro rfl;exact hp.elim hS (λh1=>absurd hk (by omega))
 have:(b.setCell p v).heap[k]?=b.heap[k]?:=by
  unfold World.setCell;simp[Array.getElem?_modify,Ne.symm bA]
 exact this.trans (h.block k hk hS)
theorem Fp.heap{S:Nat->Prop}{a b:World}(h:Fp S a b){k:Nat}{o:Obj}(hk:a.heap[k]?=some o)(hS:¬S k):b.heap[k]?=some o:=by
 rw[h.block k (Array.getElem?_eq_some_iff.1 hk).1 hS];exact hk
theorem Fp.cell{S:Nat->Prop}{a b:World}(h:Fp S a b){p:Addr}{v:Value}(hc:a.cell? p=some v)(hS:¬S p.block):b.cell? p=some v:=
 (World.cell?_of_block (h.block p.block (World.block_lt_of_cell? a p hc) hS)).trans hc
theorem Fp.owns{S:Nat->Prop}{a b:World}(h:Fp S a b){lo:Nat}{e:TypeId}{size:Nat}{v:Value}{n:Nat}{xs:List Value}(ho:a.ownsRow lo e size v n xs)(hS:∀k,v.ownBlock=some k->¬S k):b.ownsRow lo e size v n xs:=by
 refine⟨ho.1,?_⟩;rcases ho.2 with hn|⟨g,cap,cur,rfl,hb,hgg,rest⟩
 ·exact .inl hn
 exact .inr ⟨g,cap,cur,rfl,hb,h.heap hgg (hS g rfl),rest⟩
theorem Fp.gr{w w':World}(h:Fp ab w w'):Gr w w':=h.below (λ_ h=>h.elim) (Nat.le_refl _)
theorem Gr.fp{w w':World}(h:Gr w w'):Fp ab w w':=Fp.cB h
theorem jH.af{w w':World}(h:jH w)(g:Fp ab w w'):jH w':=h.grown g.gr
abbrev TN:TypeId:=117
abbrev TL:TypeId:=22
def oV(n:Nd):List Value:=[au n.path,au n.data,.int .i64 n.aX,.int .i64 n.turn,.int .i64 n.own]
def vO(n:Nd):Value:=.agg #[au n.path,au n.data,.int .i64 n.aX,.int .i64 n.turn,.int .i64 n.own]
def rows(l:List Nd):List Value:=l.flatMap oV
theorem fE(n:Nd):(oV n).length=5:=rfl
theorem cJ(n:Nd)(l:List Nd):rows (n::l)=oV n++rows l:=by simp[rows]
theorem ku(a b:List Nd):rows (a++b)=rows a++rows b:=by simp[rows]
theorem be(l:List Nd):(rows l).length=l.length*5:=by
 induction l with
 |nil=>rfl
 |cons n l ih=>rw[cJ,List.length_append,fE,ih,List.length_cons];omega
theorem kx(l:List Nd)(i j:Nat)(hi:i<l.length)(hj:j<5):(rows l)[i*5+j]?=(oV l[i])[j]?:=by
 induction l generalizing i with
 |nil=>simp at hi
 |cons n l ih=>
  rw[cJ];cases i with
  |zero=>rw[List.getElem?_append_left (by rw[fE];omega)];simp
  |succ i=>?_
  rw[List.getElem?_append_right (by rw[fE];omega),fE,show(i+1)*5+j-5=i*5+j from by omega,ih i (by simpa using hi)]
  simp
theorem qW(l:List Nd):∀u∈rows l,u.oneCell'=true:=by
 intro u hu;unfold rows at hu;rw[List.mem_flatMap]at hu;obtain⟨n,_,hu⟩:=hu;simp only[oV,List.mem_cons,List.not_mem_nil,or_false]at hu
 rcases hu with rfl|rfl|rfl|rfl|rfl<;>rfl
theorem DV(l:List Nd)(k:Nat):(rows l).take (k*5)=rows (l.take k):=by
 induction l generalizing k with
 |nil=>simp[rows]
 |cons n l ih=>
  cases k with
  |zero=>simp[rows]
  |succ k=>rw[List.take_succ_cons,cJ,cJ,<-ih,List.take_append,fE,List.take_of_length_le (by rw[fE];omega),show(k+1)*5-5=k*5 from by omega]
structure dM(w:World)(g o:Nat)(n:Nd):Prop where
 c0:w.cell? ⟨g,o,none⟩=some (au n.path)
 c1:w.cell? ⟨g,o+1,none⟩=some (au n.data)
 c2:w.cell? ⟨g,o+2,none⟩=some (.int .i64 n.aX)
 c3:w.cell? ⟨g,o+3,none⟩=some (.int .i64 n.turn)
 c4:w.cell? ⟨g,o+4,none⟩=some (.int .i64 n.own)
theorem dM.keep{w w':World}{g o:Nat}{n:Nd}(h:dM w g o n){S:Nat->Prop}(f:Fp S w w')(hS:¬S g):dM w' g o n:=
 ⟨f.cell h.c0 hS,f.cell h.c1 hS,f.cell h.c2 hS,f.cell h.c3 hS,f.cell h.c4 hS⟩
theorem dM.get{w:World}{g o:Nat}{n:Nd}(h:dM w g o n):∀j v,(oV n)[j]?=some v->w.cell? ((⟨g,o,none⟩:Addr).add j)=some v:=by
 intro j v hv;rw[Addr.add_lit];match j,hv with
 |0,hv=>rw[<-Option.some.inj hv];exact h.c0
 |1,hv=>rw[<-Option.some.inj hv];exact h.c1
 |2,hv=>rw[<-Option.some.inj hv];exact h.c2
 |3,hv=>rw[<-Option.some.inj hv];exact h.c3
 |4,hv=>rw[<-Option.some.inj hv];exact h.c4
 |j+5,hv=>simp[oV]at hv
structure Ns(w:World)(v:Value)(l:List Nd):Prop where
 ex:∃ao cap,v=.slice ao l.length cap/\l.length<=cap/\cap<=maxLen/\(l=[]\/∃g o,ao=some ⟨g,o,none⟩/\g<w.heap.size/\∀i (h:i<l.length),dM w g (o+i*5) l[i])
theorem Ns.keep{w w':World}{v:Value}{l:List Nd}(h:Ns w v l){S:Nat->Prop}(f:Fp S w w')(hS:∀k,v.ownBlock=some k->¬S k):Ns w' v l:=by
 obtain⟨ao,cap,rfl,h1,h2,h3⟩:=h.ex;refine⟨ao,cap,rfl,h1,h2,?_⟩;rcases h3 with h3|⟨g,o,rfl,hg,hc⟩
 ·exact .inl h3
 exact .inr ⟨g,o,rfl,Nat.lt_of_lt_of_le hg f.size,λi hi=>(hc i hi).keep f (hS g rfl)⟩
theorem Ns.af{w w':World}{v:Value}{l:List Nd}(h:Ns w v l)(f:Fp ab w w'):Ns w' v l:=h.keep f (λ_ _ h=>h)
theorem Ns.nil(w:World):Ns w (.slice none 0 0) []:=⟨none,0,rfl,Nat.le_refl _,Nat.zero_le _,.inl rfl⟩
theorem Ns.shape{w:World}{v:Value}{l:List Nd}(h:Ns w v l):∃ao cap,v=.slice ao l.length cap:=by
 obtain⟨ao,cap,rfl,_⟩:=h.ex;exact⟨ao,cap,rfl⟩
theorem Ns.at{w:World}{v:Value}{l:List Nd}(h:Ns w v l)(h0:0<l.length):∃g o cap,v=.slice (some ⟨g,o,none⟩) l.length cap/\l.length<=cap/\cap<=maxLen/\g<w.heap.size/\∀i (h:i<l.length),dM w g (o+i*5) l[i]:=by
 obtain⟨ao,cap,rfl,h1,h2,h3⟩:=h.ex;rcases h3 with h3|⟨g,o,rfl,hg,hc⟩
 ·subst h3;simp at h0
 exact⟨g,o,cap,rfl,h1,h2,hg,hc⟩
structure Nr(w:World)(g cap:Nat)(l:List Nd):Prop where
 ex:∃rest,w.heap[g]?=some (.cells (rows l++rest).toArray TN (0,0))/\l.length*5+rest.length=cap*5
 room:l.length<=cap
 most:cap<=maxLen
theorem Nr.lt{w:World}{g cap:Nat}{l:List Nd}(h:Nr w g cap l):g<w.heap.size:=by
 obtain⟨r,h,_⟩:=h.ex;exact(Array.getElem?_eq_some_iff.1 h).1
theorem Nr.keep{w w':World}{g cap:Nat}{l:List Nd}(h:Nr w g cap l){S:Nat->Prop}(f:Fp S w w')(hS:¬S g):Nr w' g cap l:=by
 obtain⟨r,h1,h2⟩:=h.ex;exact⟨⟨r,f.heap h1 hS,h2⟩,h.room,h.most⟩
theorem Nr.cell{w:World}{g cap:Nat}{l:List Nd}(h:Nr w g cap l)(i j:Nat)(hi:i<l.length)(hj:j<5):w.cell? ⟨g,i*5+j,none⟩=(oV l[i])[j]?:=by
 obtain⟨r,h1,_⟩:=h.ex;rw[cell_of_row w g _ _ TN (0,0) h1];simp only[List.getElem?_toArray]
 rw[List.getElem?_append_left (by rw[be];omega),kx l i j hi hj]
theorem Nr.nd{w:World}{g cap:Nat}{l:List Nd}(h:Nr w g cap l)(i:Nat)(hi:i<l.length):dM w g (0+i*5) l[i]:=by
 rw[Nat.zero_add];exact⟨h.cell i 0 hi (by omega),h.cell i 1 hi (by omega),h.cell i 2 hi (by omega),h.cell i 3 hi (by omega),h.cell i 4 hi (by omega)⟩
theorem Nr.ns{w:World}{g cap:Nat}{l:List Nd}(h:Nr w g cap l):Ns w (.slice (some ⟨g,0,none⟩) l.length cap) l:=
 ⟨_,cap,rfl,h.room,h.most,.inr ⟨g,0,rfl,h.lt,h.nd⟩⟩
theorem Nr.frozen{w:World}{g cap:Nat}{l:List Nd}(h:Nr w g cap l)(o:Nat):w.frozen? ⟨g,o,none⟩=false:=by
 obtain⟨r,h1,_⟩:=h.ex;simp[World.frozen?,h1]
theorem Nr.owns{w:World}{g cap:Nat}{l:List Nd}(h:Nr w g cap l){lo:Nat}(bq:lo<=g):w.ownsRow lo TN 5 (.slice (some ⟨g,0,none⟩) l.length cap) l.length (rows l):=by
 obtain⟨r,h1,h2⟩:=h.ex;refine⟨be l,.inr ⟨g,cap,_,rfl,bq,h1,h.room,h.most,by simp[be];omega,?_⟩⟩
 simp only
 rw[<-be l];exact List.take_left
theorem Nr.cK{w:World}{lo g cap n:Nat}{l:List Nd}(h:w.ownsRow lo TN 5 (.slice (some ⟨g,0,none⟩) n cap) n (rows l))(hn:n=l.length):Nr w g cap l/\lo<=g:=by
 subst hn;rcases h.2 with⟨h0,_⟩|⟨g',aY,cur,e,hb,hg,h1,h2,h3,h4⟩
 ·cases h0
 injection e with e1 _ e3
 injection e1 with e1
 injection e1 with e1
 subst e1 e3;refine⟨⟨⟨cur.toList.drop (l.length*5),?_,?_⟩,h1,h2⟩,hb⟩
 ·rw[<-h4,List.take_append_drop];exact hg
 have e:cur.toList.length=cap*5:=by rw[Array.length_toList,h3]
 rw[List.length_drop,e];omega
theorem av(w:World)(g:Nat)(cs:Array Value):Fp (λk=>k=g) w (w.setRow g cs):=
 ⟨rfl,rfl,rfl,by simp[World.setRow],λk _ bA=>setRow_other w g k cs bA⟩
theorem Tryz.CG:(prog.info? TN).map (λi=>(i.zero,i.size,i.bytes))=some (some (.agg #[.string ⟨#[]⟩,.string ⟨#[]⟩,.int .i64 0,.int .i64 0,.int .i64 0]),5,56):=by kernel_rfl
theorem szN(w:World):(sizeOf TN).run prog w=.ok 5 w:=by
 obtain⟨i,hi,_,hs,_⟩:=info_parts Tryz.CG;simp[sizeOf,typeInfo,hi,hs]
theorem qX(w:World)(ty:TypeId)(g o fy jt:Nat)(a:Addr)(fA ju:Nat)(cur:List Value)(m:Nat)(cs:List Value)(hg:w.heap[g]?=some (.cells cur.toArray TN (0,0)))(hm:m=Nat.min fA fy)(hn:cs.length=m*5)
  (lZ:∀j v,cs[j]?=some v->w.cell? (a.add j)=some v) (fX:o+cs.length<=cur.length) (h1:∀v∈cs,v.oneCell'=true):
  (Builtin.copy_ #[TL,TL] ty #[.slice (some ⟨g,o,none⟩) fy jt,.slice (some a) fA ju]).run prog w=.ok (goInt m) (w.setRow g (cur.take o++cs++cur.drop (o+cs.length)).toArray):=by
 have hl:=run_loadCells_list (P:=prog) w a cs lZ;have aN:=run_storeCells_at prog g o TN cs 0 cur.toArray w hg (by simpa using fX) h1
 rw[hn]at hl;simp[Builtin.copy_,run_underlying Tryz.underlying22,Builtin.lenOf,Builtin.firstCells,<-hm,hl,aN]
theorem pq(w:World)(ty:TypeId)(g o n c:Nat)(cur:List Value)(hg:w.heap[g]?=some (.cells cur.toArray TN (0,0)))(fX:o+n*5<=cur.length)(h0:0<n):
  ∃zs:List Value,zs.length=n*5/\(Builtin.clear_ #[TL] ty #[.slice (some ⟨g,o,none⟩) n c]).run prog w=.ok (.tuple #[]) (w.setRow g (cur.take o++zs++cur.drop (o+n*5)).toArray):=by
 refine⟨(Builtin.zeroCells #[.string ⟨#[]⟩,.string ⟨#[]⟩,.int .i64 0,.int .i64 0,.int .i64 0] n).toList,by simp[size_zeroCells],?_⟩
 have aN:=run_storeCells_at prog g o TN (Builtin.zeroCells #[.string ⟨#[]⟩,.string ⟨#[]⟩,.int .i64 0,.int .i64 0,.int .i64 0] n).toList 0 cur.toArray w hg (by simpa[size_zeroCells]using fX) (by
  intro v hv;simp only[Builtin.zeroCells,Array.toList_map,List.mem_map,Array.toList_range]at hv
  obtain⟨i,_,rfl⟩:=hv;have:i % 5<5:=Nat.mod_lt _ (by omega)
  generalize i % 5=k at this;match k,this with
  |0,_=>rfl
  |1,_=>rfl
  |2,_=>rfl
  |3,_=>rfl
  |4,_=>rfl)
 obtain⟨m,rfl⟩:∃m,n=m+1:=⟨n-1,by omega⟩
 simp[size_zeroCells]at aN
 simp[Builtin.clear_,run_underlying Tryz.underlying22,Value.cells,aN]
theorem DW(w:World)(lo:Nat)(v:Value)(l m:List Nd)(ty:TypeId)(g o n c:Nat)(hv:w.ownsRow lo TN 5 v l.length (rows l))(hn:n=m.length)(hx:∀i (h:i<m.length),dM w g (o+i*5) m[i])(h6:l.length+m.length<=100000)(bq:lo<=w.heap.size)(h0:0<l.length+m.length):
  ∃G cap w',(Builtin.append_ #[TL,TL] ty #[v,.slice (some ⟨g,o,none⟩) n c]).run prog w=.ok (.slice (some ⟨G,0,none⟩) (l.length+m.length) cap) w'/\Nr w' G cap (l++m)/\lo<=G/\w.grownBy w' v.ownBlock/\(v.ownBlock=some G\/w.heap.size<=G):=by
 obtain⟨i,hi,hz,db,qY⟩:=info_parts Tryz.CG;subst hn
 obtain⟨v',w',hr,h4,h5,h7,h8⟩:=run_append_own_at (P:=prog) w lo TL ty TN i _ 5 56 Tryz.underlying22 hi hz db qY rfl (by decide) v l.length (rows l) hv ⟨g,o,none⟩ m.length c (rows m) (be m)
  (λj u hu=>by
   have hj:j<m.length*5:=by rw[<-be];exact(List.getElem?_eq_some_iff.1 hu).1
   have hd:j / 5<m.length:=by omega
   have e:j / 5*5+j % 5=j:=by omega
   rw[<-e,kx m (j / 5) (j % 5) hd (by omega)]at hu
   have:=(hx (j / 5) hd).get (j % 5) u hu;rw[Addr.add_lit]at this|-;rwa[show o+j / 5*5+j % 5=o+j from by omega]at this)
  (qW m) (by unfold maxLen;omega) (by omega) bq
 have bA:v'≠.slice none 0 0:=λe=>by
  obtain⟨e1,e2⟩:=h7.1 e;subst e1;rcases hv.2 with⟨_,h⟩|⟨_,_,_,h,_⟩
  ·omega
  cases h
 rcases h4.2 with⟨h9,_⟩|⟨G,cap,cur,rfl,hb,hg,r1,r2,r3,r4⟩
 ·exact absurd h9 bA
 rw[<-ku]at h4;obtain⟨uH,AF⟩:=Nr.cK h4 (by rw[List.length_append])
 refine⟨G,cap,w',hr,uH,AF,h5,?_⟩;rcases h8 with h8|h8
 ·exact .inl h8.symm
 right;simp[Value.ownBlock]at h8;omega
open Go.RowKit Pm Go.Maps
def jI(e:Int):Value:=.agg #[.int .i64 e,.string ⟨#[]⟩,.string ⟨#[]⟩,.int .i64 0,.slice none 0 0]
theorem It(n a b:Int)(w:World):
  Calls prog 167 #[.int .i64 n,.int .i64 a,.int .i64 b] w λe w'=>e=.returned (.bool (decide (a<=n/\n<=b)))/\w=w':=by
 go_enter func167,ntmps167
 go_wp2;all_goals (go_ret;refine⟨aB ?_,rfl⟩;simp;omega)
theorem cL(n a b:Int)(w:World)(r:Bool)(hr:decide (a<=n/\n<=b)=r):
  Calls prog 167 #[.int .i64 n,.int .i64 a,.int .i64 b] w λe w'=>e=.returned (.bool r)/\w=w':=by
 rw[<-hr];exact It n a b w
theorem gN(w:World):
  Calls prog 166 #[] w λe w'=>e=.returned (.agg #[.int .i64 0,.int .i64 43,.int .i64 5,.int .i64 6,.int .i64 4,.int .i64 0,.int .i64 0,.int .i64 24])/\Fp ab w w':=by
 go_enter func166,ntmps166
 go_wp2;exact bodyPost_ret (v:=.agg #[.int .i64 0,.int .i64 43,.int .i64 5,.int .i64 6,.int .i64 4,.int .i64 0,.int .i64 0,.int .i64 24]) (by simp[results,results166,go_sem]) rfl ⟨rfl,(Fp.refl ab w).alloc _⟩
theorem cf{P:Program}{w:World}{ops:Array Oper}{rest:List Oper}{o:Oper}{a:Act}{Q:Exit->Act->World->Prop}(Aq:o.guard=none)(t:TypeId)(mo x:Operand)(c:Bool)(ho:o.op=.lookup t mo x c)(mv xv r:Value)(hm:a.eval mo=mv)(hx:a.eval x=xv)
  (hr:(Instr.lookup t mv xv c).run P w=.ok r w) (h:wpList P ops Q rest (a.put o.dst r) w):wpList P ops Q (o::rest) a w:=by
 refine wpList_plain Aq λK hK=>?_
 unfold Oper.wp;simp[execOp,ho,hm,hx,hr,Result.andThen]
 exact hK _ _ h
end
section
open Go.RowKit Pm
def Sp(l:List Nd):Prop:=∀n∈l,n.path.length<=1000000
theorem dM.box(w:World)(x:Nd):dM (w.alloc (Obj.cells #[.string (B x.path),.string (B x.data),.int .i64 x.aX,.int .i64 x.turn,.int .i64 x.own] 117)) w.heap.size 0 x:=by
 have h:=heap_alloc_new w (Obj.cells #[.string (B x.path),.string (B x.data),.int .i64 x.aX,.int .i64 x.turn,.int .i64 x.own] 117);exact⟨by rw[cell_of_row _ _ _ _ _ _ h];rfl,by rw[cell_of_row _ _ _ _ _ _ h];rfl,by rw[cell_of_row _ _ _ _ _ _ h];rfl,by rw[cell_of_row _ _ _ _ _ _ h];rfl,by rw[cell_of_row _ _ _ _ _ _ h];rfl⟩
theorem dM.UJ{w:World}{g:Nat}{x:Nd}(h:dM w g 0 x):w.cell? ⟨g,0,none⟩=some (.string (B x.path))/\w.cell? ⟨g,1,none⟩=some (.string (B x.data))/\w.cell? ⟨g,2,none⟩=some (.int .i64 x.aX)/\w.cell? ⟨g,3,none⟩=some (.int .i64 x.turn)/\w.cell? ⟨g,4,none⟩=some (.int .i64 x.own):=
 ⟨h.c0,h.c1,h.c2,h.c3,h.c4⟩
structure Pd(S:Nat->Prop)(wc:World)(f:Value)(q:Nd->Bool):Prop where
 ex:∃k fi cap,f=.func (.func k) fi cap/\Enters prog k/\∀n w1,n.path.length<=1000000->Fp S wc w1->
  Calls prog k (fi++#[vO n]++cap) w1 λe w2=>e=.returned (.bool (q n))/\Fp ab w1 w2
theorem Pd.later{S:Nat->Prop}{wc w:World}{f:Value}{q:Nd->Bool}(h:Pd S wc f q)(g:Fp S wc w):Pd S w f q:=by
 obtain⟨k,fi,cap,e,h1,h2⟩:=h.ex;exact⟨k,fi,cap,e,h1,λn w1 hn hf=>h2 n w1 hn (g.same hf)⟩
theorem Pd.af{S:Nat->Prop}{wc:World}{f:Value}{q:Nd->Bool}(h:Pd S wc f q):Pd ab wc f q:=by
 obtain⟨k,fi,cap,e,h1,h2⟩:=h.ex;exact⟨k,fi,cap,e,h1,λn w1 hn hf=>h2 n w1 hn hf.any⟩
def UK(q:Nd->Bool)(l:List Nd)(z:Int):Prop:=(z = -1/\∀n∈l,q n=false)\/∃i,z=((i:Nat):Int)/\∃h:i<l.length,q l[i]=true/\∀j (hj:j<l.length),j<i->q l[j]=false
theorem ky(v f:Value)(l:List Nd)(q:Nd->Bool)(w:World)(hv:Ns w v l)(hs:Sp l)(hq:Pd ab w f q)(hn:l.length<=1000000):
  Calls prog 279 #[v,f] w λe w'=>(∃z,e=.returned (.int .i64 z)/\UK q l z)/\Fp ab w w':=by
 obtain⟨ao,cap,rfl⟩:=hv.shape;obtain⟨n,aR⟩:∃n,n=l.length:=⟨_,rfl⟩;obtain⟨kf,fi,fc,rfl,gU,bB⟩:=hq.ex;have HX:=Lib.hid (And.intro aR (And.intro hv (And.intro hs bB)));rw[<-aR];have jS:n<=1000000:=by omega
 clear hv hs hq bB hn aR;go_enter func279,ntmps279
 go_wp2_with fail
 go_loopw [8] (λi wr=>∃k:Nat,k<=n/\i=.int .i64 k/\Hid (Fp ab w wr/\∀j (hj:j<l.length),j<k->q l[j]=false)) (λi _=>n-(RowKit.intOf i).toNat)
 case atStart=>exact⟨0,Nat.zero_le _,rfl,Fp.refl _ _,λj _ h=>absurd h (Nat.not_lt_zero j)⟩
 obtain⟨k,hk,rfl,hR⟩:=hrel;rename_i wr _
 by_cases ay:k<n
 ·have aS:k<l.length:=by rw[<-HX.1];exact ay
  obtain⟨g,o,aY,e,_,_,_,aq⟩:=HX.2.1.at (by omega)
  injection e with e1 e2 e3
  subst e1 e3;have aE:=(aq k aS).keep hR.1 id;have dy:=HX.2.2.2 l[k] wr (HX.2.2.1 _ (List.getElem_mem aS)) hR.1;obtain⟨b,hb⟩:∃b,q l[k]=b:=⟨_,rfl⟩;rw[hb]at dy;have HB:=Lib.hid (And.intro aS (And.intro hb ay));have HL:=Lib.hid (And.intro aS ay)
  have gi:b=false->∀j (hj:j<l.length),j<k+1->q l[j]=false:=λh j hj rJ=>by
   rcases Nat.lt_or_eq_of_le (show j<=k by omega) with e|e
   ·exact hR.2 j hj e
   subst e;rw[hb,h]
  have bf:b=true->UK q l (k:Int):=λh=>.inr ⟨k,rfl,aS,by rw[hb,h],λj hj rJ=>hR.2 j hj rJ⟩
  have HN:=Lib.hid (And.intro gi bf);clear HB gi bf hb aq;generalize l[k]=x at *;have c0:=aE.c0;have c1:=aE.c1;have c2:=aE.c2;have c3:=aE.c3;have c4:=aE.c4;unfold au at c0 c1;unfold vO au at dy;have q3:((k:Int)<(n:Int))=True:=eq_true (by omega)
  have q4:(k<n)=True:=eq_true ay;have uR:=Lib.hid dy;clear aE dy aS ay;go_wp2_with fail
  rw[gU _ _];go_wp2_with fail
  refine uR.mono ?_;rintro e w2⟨rfl,bY⟩;have HF:=Lib.hid (hR.1.then bY);clear bY;cases b with
  |true=>
   have hI:=HN.2 rfl;have HI:=Lib.hid hI;clear HN hI;go_wp2;go_ret;exact⟨⟨_,rfl,HI.out⟩,HF.out⟩
  |false=>?_
  have hM:Hid (Fp ab w w2/\∀j (hj:j<l.length),j<k+1->q l[j]=false):=⟨HF.out,HN.1 rfl⟩;have eJ:=HL.2;clear HN;go_wp2;go_roundw
  case rel=>exact⟨k+1,by omega,by go_num,hM⟩
  case measure=>simp[RowKit.intOf];omega
 have cV:k=n:=by omega
 subst cV;have q3:((k:Int)<(k:Int))=False:=eq_false (by omega)
 have hI:UK q l (-1):=.inl ⟨rfl,λx hx=>by
  obtain⟨i,hi,rfl⟩:=List.getElem_of_mem hx;exact hR.2 i hi (by rw[HX.1];exact hi)⟩
 have HI:=Lib.hid hI;clear ay hk hI;go_wp2;go_ret;exact⟨⟨_,rfl,HI.out⟩,hR.1⟩
theorem UK.pos{q:Nd->Bool}{l:List Nd}{z:Int}(h:UK q l z):decide (0<=z)=l.any q:=by
 rcases h with⟨rfl,h⟩|⟨i,rfl,hi,h,_⟩
 ·have:l.any q=false:=by rw[List.any_eq_false];intro x hx;simp[h x hx]
  rw[this];rfl
 have:l.any q=true:=List.any_eq_true.2 ⟨_,List.getElem_mem hi,h⟩;rw[this];simp
theorem j0(v f:Value)(l:List Nd)(q:Nd->Bool)(w:World)(hv:Ns w v l)(hs:Sp l)(hq:Pd ab w f q)(hn:l.length<=1000000):
  Calls prog 224 #[v,f] w λe w'=>e=.returned (.bool (l.any q))/\Fp ab w w':=by
 have hi:=ky v f l q w hv hs hq hn;have HI:=Lib.hid hi;obtain⟨ao,cap,rfl⟩:=hv.shape;obtain⟨kf,fi,fc,rfl,_,_⟩:=hq.ex;clear hi hv hq hs hn;go_enter func224,ntmps224
 go_wp2_with fail
 refine HI.mono ?_;rintro e w1⟨⟨z,rfl,hz⟩,hf⟩;have HZ:=Lib.hid (And.intro hz.pos hf);clear hz hf;go_wp2;go_ret;exact⟨aB HZ.1,HZ.2⟩
theorem ew{w:World}{b:Nat}{T:TypeId}{a0 a1 a2 a3 a4:Value}(h:w.heap[b]?=some (.cells #[a0,a1,a2,a3,a4] T (0,0)))(v0 v1 v2 v3 v4:Value):
  (((((w.setCell ⟨b,0,none⟩ v0).setCell ⟨b,1,none⟩ v1).setCell ⟨b,2,none⟩ v2).setCell ⟨b,3,none⟩ v3).setCell ⟨b,4,none⟩ v4).heap[b]?=some (.cells #[v0,v1,v2,v3,v4] T (0,0)):=by
 have h1:=heap_setCell_same w b 0 _ T v0 h;have h2:=heap_setCell_same _ b 1 _ T v1 h1;have h3:=heap_setCell_same _ b 2 _ T v2 h2;have h4:=heap_setCell_same _ b 3 _ T v3 h3;have h5:=heap_setCell_same _ b 4 _ T v4 h4;exact h5
theorem QB{S:Nat->Prop}{a w:World}(f:Fp S a w){b:Nat}(hb:S b\/a.heap.size<=b)(v0 v1 v2 v3 v4:Value):
  Fp S a (((((w.setCell ⟨b,0,none⟩ v0).setCell ⟨b,1,none⟩ v1).setCell ⟨b,2,none⟩ v2).setCell ⟨b,3,none⟩ v3).setCell ⟨b,4,none⟩ v4):=
 ((((f.setCell (p:=⟨b,0,none⟩) hb v0).setCell (p:=⟨b,1,none⟩) hb v1).setCell (p:=⟨b,2,none⟩) hb v2).setCell (p:=⟨b,3,none⟩) hb v3).setCell (p:=⟨b,4,none⟩) hb v4
def cF(a b:Bs):Int:=if lt a b=true then -1 else if a=b then 0 else 1
theorem cmp_eq:∀a b:Bs,Lib.compareBytes a b=cF a b
 |[],[]=>rfl
 |[],_::_=>rfl
 |x::a,[]=>by unfold cF;rw[jr];simp[Lib.compareBytes]
 |x::a,y::b=>by
  have ih:=cmp_eq a b;unfold Lib.compareBytes cF;rw[pT];by_cases h1:x<y
  ·simp[h1]
  rw[if_neg h1];by_cases h2:y<x
  ·have bA:x≠y:=λe=>by subst e;exact h1 h2
   simp[h1,h2,bA]
  have e:x=y:=UInt8.le_antisymm (UInt8.not_lt.1 h2) (UInt8.not_lt.1 h1);subst e;rw[if_neg h2,ih];unfold cF;simp[h1]
structure Wr(l:List Nd)(p:Bs)(w:World)(i j:Nat)(wr:World):Prop where
 fp:Fp ab w wr
 lo:∀x (h:x<l.length),x<i->lt l[x].path p=true
 hi:∀x (h:x<l.length),j<=x->lt l[x].path p=false
 ij:i<=j
 jn:j<=l.length
abbrev Ac:TypeId:=88
def pK(o:fD):Value:=.agg #[.int .i64 o.kind,au o.path,au o.data,.int .i64 o.aX,.int .i64 o.own,.bool o.turns]
def ez(b G:Nat):Nat->Prop:=λk=>k=b\/k=G
theorem fO:(prog.fieldsOf Ac).toList=[⟨ "Kind",3,0,false,"","",0⟩,⟨ "Path",9,1,false,"","",8⟩,⟨ "Data",9,2,false,"","",24⟩,⟨ "Version",2,3,false,"","",40⟩,⟨ "Owner",2,4,false,"","",48⟩,⟨ "Turns",4,5,false,"","",56⟩]:=by kernel_rfl
theorem qZ(w:World)(k k':Int)(p p' d d':ByteArray)(v v' o o':Int)(t t':Bool):(Op.equalIn 10000 Ac (.agg #[.int .i64 k,.string p,.string d,.int .i64 v,.int .i64 o,.bool t]) (.agg #[.int .i64 k',.string p',.string d',.int .i64 v',.int .i64 o',.bool t'])).run prog w =
  .ok (decide (k=k'/\p.toList=p'.toList/\d.toList=d'.toList/\v=v'/\o=o'/\t=t')) w:=by
 rw[run_equalIn_agg w 9999 Ac _ _ (by kernel_rfl) (by kernel_rfl),fO]
 have e1:=λw a b=>run_equalIn_int (P:=prog) w 9998 3 .i64 .i64 a b Tryz.underlying3
 have e2:=λw a b=>run_equalIn_int (P:=prog) w 9998 2 .i64 .i64 a b Tryz.underlying2
 have e3:=λw a b=>run_equalIn_string (P:=prog) w 9998 9 a b Tryz.underlying9
 have e4:=λw a b=>run_equalIn_bool' (P:=prog) w 9998 4 a b Tryz.underlying4
 simp only[Op.eqFields]
 simp[e1,e2,e3,e4,go_sem]
 by_cases h1:k=k'<;>by_cases h2:p.toList=p'.toList<;>by_cases h3:d.toList=d'.toList<;>by_cases h4:v=v'<;>by_cases h5:o=o'<;>by_cases h6:t=t'<;>simp[h1,h2,h3,h4,h5,h6]
theorem iv{w:World}{b:Nat}{T:TypeId}{c0 c1 c2 c3 c4 c5:Value}(h:w.heap[b]?=some (.cells #[c0,c1,c2,c3,c4,c5] T (0,0))):
  w.cell? ⟨b,0,none⟩=some c0/\w.cell? ⟨b,1,none⟩=some c1/\w.cell? ⟨b,2,none⟩=some c2/\w.cell? ⟨b,3,none⟩=some c3/\w.cell? ⟨b,4,none⟩=some c4/\w.cell? ⟨b,5,none⟩=some c5:=
 ⟨by rw[cell_of_row _ _ _ _ _ _ h];rfl,by rw[cell_of_row _ _ _ _ _ _ h];rfl,by rw[cell_of_row _ _ _ _ _ _ h];rfl,by rw[cell_of_row _ _ _ _ _ _ h];rfl,by rw[cell_of_row _ _ _ _ _ _ h];rfl,by rw[cell_of_row _ _ _ _ _ _ h];rfl⟩
theorem AP(w:World):(Instr.index 220 (.agg #[.int .i64 0,.int .i64 43,.int .i64 5,.int .i64 6,.int .i64 4,.int .i64 0,.int .i64 0,.int .i64 24]) (.int .i64 1)).run prog w=.ok (.int .i64 43) w:=by kernel_rfl
theorem AQ(w:World):(Instr.index 220 (.agg #[.int .i64 0,.int .i64 43,.int .i64 5,.int .i64 6,.int .i64 4,.int .i64 0,.int .i64 0,.int .i64 24]) (.int .i64 2)).run prog w=.ok (.int .i64 5) w:=by kernel_rfl
theorem AR(w:World):(Instr.index 220 (.agg #[.int .i64 0,.int .i64 43,.int .i64 5,.int .i64 6,.int .i64 4,.int .i64 0,.int .i64 0,.int .i64 24]) (.int .i64 3)).run prog w=.ok (.int .i64 6) w:=by kernel_rfl
theorem AU(w:World):(Instr.index 220 (.agg #[.int .i64 0,.int .i64 43,.int .i64 5,.int .i64 6,.int .i64 4,.int .i64 0,.int .i64 0,.int .i64 24]) (.int .i64 4)).run prog w=.ok (.int .i64 4) w:=by kernel_rfl
theorem AV(w:World):(Instr.index 220 (.agg #[.int .i64 0,.int .i64 43,.int .i64 5,.int .i64 6,.int .i64 4,.int .i64 0,.int .i64 0,.int .i64 24]) (.int .i64 5)).run prog w=.ok (.int .i64 0) w:=by kernel_rfl
theorem AW(w:World):(Instr.index 220 (.agg #[.int .i64 0,.int .i64 43,.int .i64 5,.int .i64 6,.int .i64 4,.int .i64 0,.int .i64 0,.int .i64 24]) (.int .i64 6)).run prog w=.ok (.int .i64 0) w:=by kernel_rfl
theorem AX(w:World):(Instr.index 220 (.agg #[.int .i64 0,.int .i64 43,.int .i64 5,.int .i64 6,.int .i64 4,.int .i64 0,.int .i64 0,.int .i64 24]) (.int .i64 7)).run prog w=.ok (.int .i64 24) w:=by kernel_rfl
theorem aG{P:Program}{w:World}{ops:Array Oper}{rest:List Oper}{o:Oper}{a:Act}{Q:Exit->Act->World->Prop}(Aq:o.guard=none)(s x:Operand)(t u:TypeId)
  (ho:o.op=.call { callee:=.builtin .append,args:=#[s,x],argTypes:=#[t,u] }) (v xv:Value) (hs:a.eval s=v) (hx:a.eval x=xv) (R:Value->World->Prop)
  (hr:∃v' w',(Builtin.append_ #[t,u] o.type #[v,xv]).run P w=.ok v' w'/\R v' w') (h:∀v' w',R v' w'->wpList P ops Q rest (a.put o.dst v') w'):wpList P ops Q (o::rest) a w:=by
 refine wpList_plain Aq λK hK=>?_
 obtain⟨v',w',hr,h2⟩:=hr;unfold Oper.wp execOp;simp only[ho,resolve,invoke,builtin,Sem.run_bind,Sem.run_pure,Result.andThen_ok,List.map_toArray,List.map_cons,List.map_nil,hs,hx,hr]
 exact hK _ _ (h v' w' h2)
theorem DX(w:World)(a:Addr)(n c:Nat):(binOp .eql TL (.slice (some a) n c) (.slice none 0 0)).run prog w=.ok (.bool false) w:=
 Lib.run_eql_slice_nil w TL TN (some a) n c 0 0 Tryz.underlying22
end
end Go.Proofs.YtgafcelloiagmaaGreatDoor
