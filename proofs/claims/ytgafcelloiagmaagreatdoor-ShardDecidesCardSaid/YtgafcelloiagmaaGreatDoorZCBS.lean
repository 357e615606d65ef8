/- A text of this proof. -/
import Derived.Test.YtgafcelloiagmaaGreatDoorZCBC
import Derived.Test.YtgafcelloiagmaaGreatDoorZCBO
import Derived.Test.YtgafcelloiagmaaGreatDoorZCBQ
import Derived.Test.YtgafcelloiagmaaGreatDoorZCBR
set_option maxHeartbeats 16000000
set_option linter.unusedSimpArgs false
set_option linter.unusedVariables false
set_option maxRecDepth 20000
namespace Go.Proofs.YtgafcelloiagmaaGreatDoor
open Go.Proofs.Tryz
section
open Go.RowKit Pm
attribute [local irreducible] wpStill
structure xL(q a x d:Nat)(w:World):Prop where
 yV:jH w
 off:∀j,Bk q a x d j->1<j
theorem jH.TF{w w':World}(h:jH w){S:Nat->Prop}(f:Fp S w w')(hS:¬S 1):jH w':=⟨by
 have h2:=h.is;unfold Lib.TabIs World.var? at h2|-;rw[Lb]at h2|-;simp only[Option.bind_some]at h2|-
 rw[f.block _ h.lt hS];exact h2⟩
theorem xL.af{q a x d:Nat}{w w':World}(h:xL q a x d w)(f:Fp ab w w'):xL q a x d w':=⟨h.yV.af f,h.off⟩
theorem xL.bk{q a x d:Nat}{w w':World}(h:xL q a x d w)(f:Fp (Bk q a x d) w w'):xL q a x d w':=⟨h.yV.TF f (λk=>Nat.lt_irrefl _ (h.off _ k)),h.off⟩
theorem Lc{s now:St}{ps:List Pt}{rs:List dp}(hs:dh s)(hp:∀p∈ps,cq p=true)(h:iK s ps ps.length now rs):ox s [] 0 ps=.inl (now,rs):=by
 have:=(wM hs hp h).2;rwa[List.take_length]at this
theorem Ld{s now:St}{ps:List Pt}{rs:List dp}{i:Nat}(hs:dh s)(hp:∀p∈ps,cq p=true)(h:iK s ps i now rs)(hi:i<ps.length)(he:(cT now ps[i]).2.err≠0):ox s [] 0 ps=.inr ((cT now ps[i]).2.err,i):=by
 obtain⟨h1,h2⟩:=wM hs hp h;have hm:=hp _ (List.getElem_mem hi);have e:ps=ps.take i++(ps[i]::ps.drop (i+1)):=by rw[List.getElem_cons_drop hi,List.take_append_drop]
 rw[jg h1 hm]at he|-;generalize ps[i]=p at *;have hl:(ps.take i).length=i:=by rw[List.length_take];omega
 rw[e,BO,h2];simp only[ox]
 rw[if_neg he,hl,Nat.zero_add]
structure Yt(s:St)(ps:List Pt)(w:World)(e:Ending)(w':World):Prop where
 ex:∃vn vt vr,e=.returned (.tuple #[.agg #[vn,vt],.agg (aC (ik s ps).2 vr nS nS nS nS)])/\Ns w' vn (ik s ps).1.nodes/\Ts w' vt (ik s ps).1.turns/\ej w' (ik s ps).2 vr nS nS nS nS
 fp:Fp ab w w'
theorem Le{s:St}{v:Value}{ps:List Pt}{w w':World}{e:Ending}(h:OS s v ps w e w')(hv:tf w v s)(hs:dh s)(hp:∀p∈ps,cq p=true):
  ∃(er:Int) (ix:Nat) (rs:List dp) (now:St) (vn vt vr:Value),e=.returned (.tuple #[.agg #[vn,vt],vr,.int .i64 er,.int .i64 ix])/\Ns w' vn now.nodes/\Ts w' vt now.turns/\Gi w' vr rs/\ik s ps=(now,{ ck.no er with idx:=ix,res:=rs }):=by
 rcases h.VE with⟨now,rs,v',rv,h1,rfl,h2,h3⟩|⟨i,now,rs,h1,hi,he,rfl⟩
 ·obtain⟨vn,vt,rfl,g1,g2⟩:=h2.ex
  exact⟨0,0,rs,now,vn,vt,rv,rfl,g1,g2,h3,by unfold ik;rw[Lc hs hp h1];rfl⟩
 obtain⟨vn,vt,rfl,g1,g2⟩:=hv.ex;exact⟨_,i,[],s,vn,vt,_,rfl,g1.af h.fp,g2.af h.fp,⟨[],rfl,Sg.nil w',λ_ h=>by cases h⟩,by unfold ik;rw[Ld hs hp h1 hi he];rfl⟩
theorem tI(v lv:Value)(s:St)(l:List (Nat×Pt))(w:World)(hv:tf w v s)(hs:dh s)(hn:s.nodes.length+l.length<=3900)(hm:s.turns.length+l.length<=3900)(hl:Sg mf 8 w lv l)(hp:∀p∈l.map Prod.snd,cq p=true)(cC:∀q∈l,q.2.path.length<=1000000)(ht:jH w):
  Calls prog 127 #[v,lv] w (Yt s (l.map Prod.snd) w):=by
 obtain⟨vn,vt,rfl,h1,h2⟩:=hv.ex;obtain⟨W3,vZ⟩:∃W3,W3=((w.alloc (.cells #[vn,vt] aM)).alloc (.cells #[.slice none 0 0,.slice none 0 0] aM)).alloc (.cells fq aT):=⟨_,rfl⟩
 have hB:W3.heap[w.heap.size]?=some (.cells #[vn,vt] aM (0,0))/\W3.heap[w.heap.size+1]?=some (.cells #[.slice none 0 0,.slice none 0 0] aM (0,0))/\W3.heap[w.heap.size+1+1]?=some (.cells fq aT (0,0))/\Fp ab w W3:=by
  obtain⟨w1,gV⟩:∃w1,w1=w.alloc (.cells #[vn,vt] aM):=⟨_,rfl⟩;have z1:w1.heap.size=w.heap.size+1:=by rw[gV];simp
  have f1:=aa w (.cells #[vn,vt] aM);have r1:=heap_alloc_new w (.cells #[vn,vt] aM);rw[<-gV]at f1 r1 vZ;obtain⟨w2,su⟩:∃w2,w2=w1.alloc (.cells #[.slice none 0 0,.slice none 0 0] aM):=⟨_,rfl⟩;have z2:w2.heap.size=w.heap.size+1+1:=by rw[su];simp[z1]
  have f2:=aa w1 (.cells #[.slice none 0 0,.slice none 0 0] aM);have r2:=heap_alloc_new w1 (.cells #[.slice none 0 0,.slice none 0 0] aM);rw[<-su]at f2 r2 vZ;rw[z1]at r2;have f3:=aa w2 (.cells fq aT);have r3:=heap_alloc_new w2 (.cells fq aT);rw[z2]at r3;rw[vZ];exact⟨(f2.then f3).heap r1 id,f3.heap r2 id,r3,(f1.then f2).then f3⟩
 obtain⟨r0,r1,r2,f⟩:=hB;have hc:=OT (.agg #[vn,vt]) lv s l W3 (hv.af f) hs hn hm (hl.af f) cC (ht.af f);have nM:=λe w' (g:OS s (.agg #[vn,vt]) (l.map Prod.snd) W3 e w')=>Le g (hv.af f) hs hp
 have HC:=zI (yI hc (yI nM (yI r0 (yI r1 (yI r2 f)))));obtain⟨al,cl,rfl⟩:=hl.shape;obtain⟨a1,k1,rfl⟩:=h1.shape;obtain⟨a2,k2,rfl⟩:=h2.shape;clear hc nM hv hs hn hm hl hp cC ht h1 h2 r0 r1 r2 f;go_enter func127,ntmps127
 go_wp2_with fail
 rw[<-vZ];clear vZ;refine HC.1.mono ?_;rintro e w4 hM;obtain⟨er,ix,rs,now,un,ut,vr,rfl,g1,g2,g3,hO⟩:=HC.2.1 _ _ hM;have F4:=zI (HC.2.2.2.2.2.then hM.fp);have R1:=zI (hM.fp.heap HC.2.2.2.1 id);have R2:=zI (hM.fp.heap HC.2.2.2.2.1 id);have HO:=zI (yI hO (yI g1 (yI g2 g3)));obtain⟨L,hL,GV,_⟩:=g3.ex;obtain⟨b1,j1,rfl⟩:=g1.shape;obtain⟨b2,j2,rfl⟩:=g2.shape;obtain⟨b3,j3,rfl⟩:=GV.shape;clear hM hO g1 g2 g3 hL GV HC;generalize QZ:now.nodes.length=m1 at *;generalize Dv:now.turns.length=m2 at *;generalize hm3:L.length=m3 at *;have F5:=zI (aa w4 (.cells #[.slice b1 m1 j1,.slice b2 m2 j2] aM));have Yu:=zI (F5.heap R1 id);have R52:=zI (F5.heap R2 id);have G6:=zI (av (w4.alloc (.cells #[.slice b1 m1 j1,.slice b2 m2 j2] aM)) (w.heap.size+1) #[.slice b1 m1 j1,.slice b2 m2 j2]);have Yv:=zI (G6.heap R52 (by simp))
 have R61:=zI (aj (cs:=#[.slice b1 m1 j1,.slice b2 m2 j2]) Yu.out);clear QZ Dv hm3
 go_wp2_with (first
  |(refine ak rfl aM _ _ rfl _ _ rfl rfl (aA dD (cs:=#[.slice b1 m1 j1,.slice b2 m2 j2]) Yu rfl rfl (by intro u hu;simp only[List.mem_cons,List.not_mem_nil,or_false]at hu;rcases hu with rfl|rfl<;>rfl)) ?_)
  |(refine ak rfl aT _ _ rfl _ _ rfl rfl (aA bw (cs:=aC { ck.no er with idx:=ix,res:=rs } (.slice b3 m3 j3) nS nS nS nS) Yv rfl rfl (aD ⟨⟨_,_,_,rfl⟩,⟨none,0,0,rfl⟩,⟨none,0,0,rfl⟩,⟨none,0,0,rfl⟩,⟨none,0,0,rfl⟩⟩)) ?_))
 have B6:Bl (λk=>k=w.heap.size+1) (w4.alloc (.cells #[.slice b1 m1 j1,.slice b2 m2 j2] aM)) ((w4.alloc (.cells #[.slice b1 m1 j1,.slice b2 m2 j2] aM)).setRow (w.heap.size+1) #[.slice b1 m1 j1,.slice b2 m2 j2]):=⟨G6.out,λk hk=>by
  have hk:k=w.heap.size+1:=hk;subst hk;exact .inr ⟨_,_,Yu.out,jk (by decide) (by decide) (by intro u hu;simp only[List.mem_cons,List.not_mem_nil,or_false]at hu;rcases hu with rfl|rfl<;>exact .inl ⟨_,_,_,rfl⟩)⟩⟩
 have VX:=zI (yI ((HO.2.1.af F5.out).off B6) (yI ((HO.2.2.1.af F5.out).off B6) (yI ((HO.2.2.2.af F5.out).off B6) ((F4.then F5.out).trans G6 (λk hk=>.inr (by have hk:k=w.heap.size+1:=hk;omega))))))
 clear B6;generalize World.setRow (World.alloc w4 _) (w.heap.size+1) _=W6 at *;have G7:=av W6 (w.heap.size+1+1) (aC { ck.no er with idx:=ix,res:=rs } (.slice b3 m3 j3) nS nS nS nS)
 have B7:Bl (λk=>k=w.heap.size+1+1) W6 (W6.setRow (w.heap.size+1+1) (aC { ck.no er with idx:=ix,res:=rs } (.slice b3 m3 j3) nS nS nS nS)):=⟨G7,λk hk=>by
  have hk:k=w.heap.size+1+1:=hk;subst hk;exact .inr ⟨_,_,Yv.out,qG⟩⟩
 obtain⟨t0,t1⟩:=aI (G7.heap R61 (by simp))
 obtain⟨z0,z1,z2,z3,z4,z5,z6,z7,z8,z9⟩:=bj (aj (cs:=aC { ck.no er with idx:=ix,res:=rs } (.slice b3 m3 j3) nS nS nS nS) Yv.out)
 have HE:=zI (yI (VX.1.off B7) (yI (VX.2.1.off B7) (yI (VX.2.2.1.off B7) (VX.2.2.2.trans G7 (λk hk=>.inr (by have hk:k=w.heap.size+1+1:=hk;omega))))))
 clear B7 G7;generalize World.setRow W6 (w.heap.size+1+1) _=wz at *;refine bodyPost_ret (v:=.tuple #[.agg #[.slice b1 m1 j1,.slice b2 m2 j2],.agg (aC { ck.no er with idx:=ix,res:=rs } (.slice b3 m3 j3) nS nS nS nS)]) (by simp[results,results127,go_sem,t0,t1,z0,z1,z2,z3,z4,z5,z6,z7,z8,z9,aC]) rfl ?_
 exact⟨⟨_,_,.slice b3 m3 j3,by rw[HO.1],by rw[HO.1];exact HE.1,by rw[HO.1];exact HE.2.1,by rw[HO.1];exact⟨HE.2.2.1,Ns.nil _,Ts.nil _,mB.nil _,0,dT.nil 0 _⟩⟩,HE.2.2.2⟩
end
section
open Go.RowKit Pm
attribute [local irreducible] wpStill
structure qL(x:Pt)(r:dp)(n:Nat):Prop where
 path:r.path.length<=1000
 names:∀p∈r.names,p.length<=1000
 len:r.names.length<=n
 join:∀p∈r.names,((join x.path p).getD []).length<=1000
theorem mO(a b:Bs):((join a b).getD []).length<=1000:=by
 cases h:join a b with
 |none=>simp
 |some c=>?_
 obtain⟨_,_,_,_,h5⟩:=join_some h;simp only[Option.getD_some];omega
theorem Ps{s:St}{x:Pt}(hm:cq x=true):qL x (b7 s x).2 s.nodes.length:=by
 have hb:∀e,qL x (.bad e) s.nodes.length:=λe=>⟨by simp[dp.bad],by simp[dp.bad],by simp[dp.bad],λp _=>mO _ _⟩
 have ho:∀d v,qL x ⟨0,[],d,v,[]⟩ s.nodes.length:=λd v=>⟨by simp,by simp,by simp,λp _=>mO _ _⟩
 have hn:∀l:List Nd,l.length<=s.nodes.length->qL x ⟨0,[],[],0,l.map λn=>last n.path⟩ s.nodes.length:=λl hl=>
  ⟨by simp,λp hp=>by obtain⟨n,_,rfl⟩:=List.mem_map.1 hp;exact Nat.le_trans (xM _) (by omega),by simpa using hl,λp _=>mO _ _⟩
 unfold b7;split
 ·next hk=>
  unfold qh;split
  ·exact hb _
  next q hq=>
  split
  ·exact hb _
  refine⟨?_,by simp,by simp,λp _=>mO _ _⟩
  have h1:=(mP hm hk hq).1;obtain⟨ps,dH⟩:=Option.isSome_iff_exists.1 h1;obtain⟨hP,e⟩:=(bL _ _).1 dH;have:=dK hP;rw[e]at this;show q.length<=1000
  omega
 split
 ·split
  ·exact ho _ _
  exact hb _
 split
 ·exact hn _ (List.length_filter_le _ _)
 split
 ·exact hn _ (List.length_filter_le _ _)
 split
 ·exact hb _
 split
 ·exact hb _
 split
 ·split
  ·exact hb _
  exact ho _ _
 split
 ·exact ho _ _
 split
 ·split
  ·exact hb _
  exact ho _ _
 split
 ·exact ho _ _
 split
 ·exact ho _ _
 exact ho _ _
theorem Hi(s:St)(x:Pt):(b7 s x).1.nodes.length<=s.nodes.length+1:=by
 unfold b7;split
 ·unfold qh
  split
  ·simp
  split
  ·simp
  simp only[ins];rw[List.length_append,List.length_cons,List.length_take,List.length_drop];omega
 split
 ·split<;>simp
 split
 ·simp
 split
 ·exact Nat.le_trans (List.length_filter_le _ _) (by omega)
 split
 ·simp
 split
 ·simp
 split
 ·split<;>simp
 split
 ·simp only;rw[List.length_eraseIdx];split<;>omega
 split
 ·split<;>simp
 split
 ·simp
 split<;>simp
theorem Lf{now:St}{rs:List dp}{i:Nat}{ps:List Pt}{N:Nat}(hN:now.nodes.length+ps.length<=N)(hm:∀p∈ps,cq p=true){z:St×List dp}(h:ox now rs i ps=.inl z):
  ∃q,z.2=rs++q/\q.length=ps.length/\∀j (h1:j<ps.length) (h2:j<q.length),qL ps[j] q[j] N:=by
 induction ps generalizing now rs i with
 |nil=>simp only[ox,Sum.inl.injEq]at h;rw[<-h];exact⟨[],by simp,rfl,λj h=>by simp at h⟩
 |cons p r ih=>
  simp only[ox]at h
  split at h
  ·have hg:=Hi now p
   rw[List.length_cons]at hN;obtain⟨q,e1,e2,e3⟩:=ih (by omega) (λp hp=>hm p (by simp[hp])) h
   refine⟨(b7 now p).2::q,by rw[e1];simp,by rw[List.length_cons,e2,List.length_cons],λj h1 h2=>?_⟩
   cases j with
   |zero=>
    have h0:=Ps (s:=now) (hm p (by simp))
    exact⟨h0.path,h0.names,Nat.le_trans h0.len (by omega),h0.join⟩
   |succ j=>simpa using e3 j (by simpa using h1) (by simpa using h2)
  cases h
end
section
open Go.RowKit Pm
attribute [local irreducible] wpStill
structure Q0(w:World)(q a x d:Nat)(h:bQ)(now:St)(lv:Value)(l:List (Nat×Pt))(L:List Rw)(an:ck)(vr:Value)(b6:Nat)(B0:Nat)(i:Nat)(W:World):Prop where
 sh:iR W q a x d { h with st:=now,wd:=(((l.map Prod.snd).zip an.res).take i).foldl (λd x=>eC d x.1 x.2) h.wd }
 ok:xi B0 ((((l.map Prod.snd).zip an.res).take i).foldl (λd x=>eC d x.1 x.2) h.wd)
 rs:W.heap[w.heap.size]?=some (.cells fq aT (0,0))
 bx:W.heap[b6]?=some (.cells (aC an vr nS nS nS nS) aT (0,0))
 pc:Sg mf 8 W lv l
 rw:Sg wX 5 W vr L/\∀x∈L,∃lo,Own lo W x.nv x.r.names
 fp:Fp (Bk q a x d) w W
theorem Q0.af{w:World}{q a x d:Nat}{h:bQ}{now:St}{lv:Value}{l:List (Nat×Pt)}{L:List Rw}{an:ck}{vr:Value}{b6 B0 i:Nat}{W W':World}(k:Q0 w q a x d h now lv l L an vr b6 B0 i W)(f:Fp ab W W'):Q0 w q a x d h now lv l L an vr b6 B0 i W':=
 ⟨k.sh.af f,k.ok,f.heap k.rs id,f.heap k.bx id,k.pc.af f,⟨k.rw.1.af f,λx hx=>by obtain⟨lo,h⟩:=k.rw.2 x hx;exact⟨lo,h.dU f⟩⟩,k.fp.then f⟩
theorem bN.TG{q a x d:Nat}{r:bQ×ck}{w W:World}{vr vn vt ve vw:Value}(hF:Fp (Bk q a x d) w W)(hR:W.heap[w.heap.size]?=some (.cells fq aT (0,0)))(ay:∀j,Bk q a x d j->j<w.heap.size)(hS:iR W q a x d r.1)(hA:ej W r.2 vr vn vt ve vw):
  bN q a x d r w (.returned (.agg (aC r.2 vr vn vt ve vw))) (W.setRow w.heap.size (aC r.2 vr vn vt ve vw)):=by
 have G:=av W w.heap.size (aC r.2 vr vn vt ve vw)
 have hB:Bl (λk=>k=w.heap.size) W (W.setRow w.heap.size (aC r.2 vr vn vt ve vw)):=⟨G,λk hk=>by
  have hk:k=w.heap.size:=hk;subst hk;exact .inr ⟨_,_,hR,qG⟩⟩
 exact⟨⟨_,rfl,_,_,_,_,_,rfl,hA.off hB⟩,hS.off hB (λj hj e=>by have:=ay j hj;have e:j=w.heap.size:=e;omega),hF.trans G (λk hk=>.inr (by have hk:k=w.heap.size:=hk;omega))⟩
theorem ej.af{w w':World}{a:ck}{vr vn vt ve vw:Value}(h:ej w a vr vn vt ve vw)(f:Fp ab w w'):ej w' a vr vn vt ve vw:=h.off f.bl
theorem Lg{now:St}{rs:List dp}{i:Nat}{ps:List Pt}{z:Int×Nat}(h:ox now rs i ps=.inr z):z.1≠0:=by
 induction ps generalizing now rs i with
 |nil=>cases h
 |cons p r ih=>
  simp only[ox]at h
  split at h
  ·exact ih h
  next bA=>injection h with h;rw[<-h];exact bA
theorem Hj{B0:Nat}{d:Wd}(h:xi B0 d)(x:Pt)(r:dp):xi B0 (eC d x r):=by
 unfold eC;split
 ·exact h.mh _ _
 split
 ·exact h.mh _ _
 split
 ·exact h.mh _ _
 split
 ·suffices ∀(l:List Bs) (d:Wd),xi B0 d->xi B0 (l.foldl (λd n=>iJ d 2 ((join x.path n).getD [])) d) from this _ _ h
  intro l;induction l with
  |nil=>intro d h;exact h
  |cons n l ih=>intro d h;exact ih _ (h.mh _ _)
 exact h
theorem Pu(q a x d:Nat)(h:bQ)(y:Pt)(r:Rw)(B0:Nat)(w:World)(hS:iR w q a x d h)(hn:∃lo,Own lo w r.nv r.r.names)(hz:xi B0 h.wd)(hB:B0<=30000)(hp:y.path.length<=1000000){N:Nat}(hr:qL y r.r N)(hN:N<=1000000):
  Calls prog 174 #[.pointer (some ⟨q,0,none⟩),fY y,.agg #[.int .i64 r.r.err,au r.r.path,au r.r.data,.int .i64 r.r.aX,r.nv]] w (Ph q a x d { h with wd:=eC h.wd y r.r } w):=by
 have h1:=hr.path;have h2:=hr.len;exact Pj q a x d h y.kind y.dir y.path y.data y.aX y.own y.turns r.r.err r.r.path r.r.data r.r.aX r.r.names r.nv B0 w hS hn hz hB hp (by omega) (λp hp=>Nat.le_trans (hr.names p hp) (by omega)) (by omega) (λp hp=>Nat.le_trans (hr.join p hp) (by omega))
theorem tJ(q a x d:Nat)(h:bQ)(lv:Value)(l:List (Nat×Pt))(B0:Nat)(w:World)(hS:iR w q a x d h)(aN:dh h.st)(hn:h.st.nodes.length+l.length<=3900)(hm:h.st.turns.length+l.length<=3900)(hl:Sg mf 8 w lv l)(hp:∀p∈l.map Prod.snd,cq p=true)(cC:∀q∈l,q.2.path.length<=1000000)(ht:xL q a x d w)(hz:xi B0 h.wd)(hB:B0<=30000):
  Calls prog 125 #[.pointer (some ⟨q,0,none⟩),lv] w (bN q a x d (fZ h (l.map Prod.snd)) w):=by
 have ay:=hS.lt;obtain⟨vn,vt,KY,vh,vw,vs,hP⟩:=hS.ex;have f1:=aa w (.cells fq aT);have r1:=heap_alloc_new w (.cells fq aT);obtain⟨W1,jM⟩:∃W1,W1=w.alloc (.cells fq aT):=⟨_,rfl⟩;rw[<-jM]at f1 r1;have hc:=tI (.agg #[vn,vt]) lv h.st l W1 ⟨vn,vt,rfl,hP.v.n.af f1,hP.v.t.af f1⟩ aN hn hm (hl.af f1) hp cC (ht.yV.af f1);have c0:=(hP.af f1).cell 0 (v:=vn) rfl;have c1:=(hP.af f1).cell 1 (v:=vt) rfl;have HX:=zI (yI ay (yI (hS.af f1) (yI f1 (yI r1 (yI (hl.af f1) (yI hp (yI cC (yI hz hB))))))));have HC:=zI hc;have HN:=zI (yI aN hn);obtain⟨⟨a1,n1,e1,rfl⟩,⟨a2,n2,e2,rfl⟩⟩:=yI (hP.v.eL vn (by simp)) (hP.v.eL vt (by simp))
 obtain⟨al,cl,rfl⟩:=hl.shape;obtain⟨n,aR⟩:∃n,n=l.length:=⟨_,rfl⟩;have vf:=zI aR;rw[<-aR]at HX HC|-;clear ay hS hP aN hm hl hp cC ht hz hB hc f1 r1;rw[jM]at c0 c1;have HG:=zI (show ∀z,ox h.st [] 0 (l.map Prod.snd)=.inr z->z.1≠0 from λz hz=>Lg hz)
 obtain⟨ps,dH⟩:∃ps,ps=l.map Prod.snd:=⟨_,rfl⟩;have wy:=zI dH;rw[<-dH]at HC HG|-;obtain⟨an,iQ⟩:∃a,a=(ik h.st ps).2:=⟨_,rfl⟩;obtain⟨now,Hk⟩:∃a,a=(ik h.st ps).1:=⟨_,rfl⟩;have HO:=zI (yI iQ Hk);clear dH iQ Hk aR hn;go_enter func125,ntmps125
 go_wp2_with fail
 rw[<-jM];clear jM;refine HC.mono ?_;rintro e w2 hR;obtain⟨un,ut,ur,rfl,g1,g2,g3⟩:=hR.ex;rw[<-HO.1]at g3;rw[<-HO.1];rw[<-HO.2]at g1 g2;have F2:=zI hR.fp;obtain⟨b1,j1,rfl⟩:=g1.shape;obtain⟨b2,j2,rfl⟩:=g2.shape;obtain⟨b3,m3,j3,rfl⟩:=g3.eL.1;have H2:=zI (yI g1 (yI g2 g3));generalize now.nodes.length=m1 at *;generalize now.turns.length=m2 at *;clear hR g1 g2 g3 HC c0 c1;have z4:(w2.alloc (.cells #[.slice none 0 0,.slice none 0 0] aM)).heap.size=w2.heap.size+1:=by simp
 have f4:=aa w2 (.cells #[.slice none 0 0,.slice none 0 0] aM);have f5:=aa (w2.alloc (.cells #[.slice none 0 0,.slice none 0 0] aM)) (.cells fq aT);have r5:=f5.heap (heap_alloc_new w2 (.cells #[.slice none 0 0,.slice none 0 0] aM)) id;have r6:=heap_alloc_new (w2.alloc (.cells #[.slice none 0 0,.slice none 0 0] aM)) (.cells fq aT);rw[z4]at r6;have G6:=av ((w2.alloc (.cells #[.slice none 0 0,.slice none 0 0] aM)).alloc (.cells fq aT)) w2.heap.size #[.slice b1 m1 j1,.slice b2 m2 j2];have r56:=aj (cs:=#[.slice b1 m1 j1,.slice b2 m2 j2]) r5;have r66:=G6.heap r6 (by simp)
 have F6:=zI ((f4.then f5).trans G6 (λk hk=>.inr (by have hk:k=w2.heap.size:=hk;omega)))
 have R5:=zI r5;have Yw:=zI r66;have R56:=zI r56;clear f4 f5 r5 r6 G6 r56 r66 z4
 go_upto_region 2 with (first
  |(refine ak rfl aM _ _ rfl _ _ rfl rfl (aA dD (cs:=#[.slice b1 m1 j1,.slice b2 m2 j2]) R5 rfl rfl (by intro u hu;simp only[List.mem_cons,List.not_mem_nil,or_false]at hu;rcases hu with rfl|rfl<;>rfl)) ?_)
  |(refine ak rfl aT _ _ rfl _ _ rfl rfl (aA bw (cs:=aC an (.slice b3 m3 j3) nS nS nS nS) Yw rfl rfl (aD ⟨⟨_,_,_,rfl⟩,⟨none,0,0,rfl⟩,⟨none,0,0,rfl⟩,⟨none,0,0,rfl⟩,⟨none,0,0,rfl⟩⟩)) ?_))
 have G7:=av (((w2.alloc (.cells #[.slice none 0 0,.slice none 0 0] aM)).alloc (.cells fq aT)).setRow w2.heap.size #[.slice b1 m1 j1,.slice b2 m2 j2]) (w2.heap.size+1) (aC an (.slice b3 m3 j3) nS nS nS nS);have F7:=zI (F6.trans G7 (λk hk=>.inr (by have hk:k=w2.heap.size+1:=hk;omega)))
 have R57:=zI (G7.heap R56 (by simp))
 have VY:=zI (aj (cs:=aC an (.slice b3 m3 j3) nS nS nS nS) Yw.out);clear G7 R5 Yw R56 F6;generalize World.setRow (World.setRow _ _ _) _ _=W7 at *;have FW:=zI (F2.then F7.out);have RS:=zI (FW.heap HX.2.2.2.1 id);have S7:=zI (HX.2.1.af FW.out);have FW0:=zI (HX.2.2.1.then FW.out);have A7:=zI (H2.2.2.af F7.out);obtain⟨y0,_⟩:=bj VY.out;cases vX:ox h.st [] 0 ps with
 |inr z=>
  have he:an.err≠0:=by rw[HO.1];unfold ik;rw[vX];exact HG z vX
  have HD:=zI (show fZ h ps=(h,an) from by unfold fZ;rw[vX,HO.1];unfold ik;rw[vX])
  have e1:(an.err=0)=False:=eq_false he;have e2:(an.err == 0)=false:=beq_eq_false_iff_ne.2 he;have e3:(an.err != 0)=true:=by rw[bne_iff_ne];exact he
  clear he vX HG
  go_wp2_with (first
   |(refine de (by rfl) aT _ rfl _ _ rfl (j9 bw VY rfl) ?_)
   |(refine ak rfl aT _ _ rfl _ _ rfl rfl (aA bw (cs:=aC an (.slice b3 m3 j3) nS nS nS nS) RS rfl rfl (aD ⟨⟨_,_,_,rfl⟩,⟨none,0,0,rfl⟩,⟨none,0,0,rfl⟩,⟨none,0,0,rfl⟩,⟨none,0,0,rfl⟩⟩)) ?_))
  obtain⟨z0,z1,z2,z3,z4,z5,z6,z7,z8,z9⟩:=bj (aj (cs:=aC an (.slice b3 m3 j3) nS nS nS nS) RS.out);have HE:=zI (bN.TG (r:=(h,an)) FW0.any RS HX.1 S7 A7.out);generalize World.setRow W7 w.heap.size (aC an (.slice b3 m3 j3) nS nS nS nS)=wz at *;go_wp2;refine bodyPost_ret (v:=.agg (aC an (.slice b3 m3 j3) nS nS nS nS)) (by simp[results,results125,go_sem,z0,z1,z2,z3,z4,z5,z6,z7,z8,z9,aC]) rfl ?_
  rw[HD.out];exact HE.out
 |inl z=>?_
 have jG:=J0 vX;have zi:an={ ck.ok with res:=z.2 }:=by rw[HO.1];unfold ik;rw[vX]
 have BU:now=z.1:=by rw[HO.2];unfold ik;rw[vX]
 have CY:=Lf (N:=3900) (by have:=HN.2;rw[wy.out,List.length_map];exact this) (by rw[wy.out];exact HX.2.2.2.2.2.1) vX
 obtain⟨rq,EW,hq2,hq3⟩:=CY;rw[List.nil_append]at EW;have qM:an.res=z.2:=by rw[zi]
 have VZ:an.err=0:=by rw[zi];rfl
 have zj:=zI zi;have HD:=zI (show fZ h ps=({ h with st:=now,wd:=(ps.zip an.res).foldl (λd x=>eC d x.1 x.2) h.wd },an) from by unfold fZ;rw[vX,BU,zi];rfl)
 obtain⟨L,Nf,Pv,TJ⟩:=A7.r.ex;obtain⟨u1,u2,hu⟩:=Pv.shape;injection hu with QX hu hu3
 clear QX hu3
 have uL:m3=n:=by
  rw[hu,<-List.length_map (f:=Rw.r),Nf,qM,EW,hq2,wy.out,List.length_map,vf.out]
 have HZ:=zI (yI uL (yI Nf (yI hu (show ∀j (h1:j<ps.length) (h2:j<an.res.length),qL ps[j] an.res[j] 3900 from by rw[qM,EW];exact hq3))))
 obtain⟨JB,JC,JD,vh7,JE,vs7,Pw⟩:=S7.ex;obtain⟨x0,x1,x2,x3,x4,x5,ba,kA⟩:=Th Pw.row (.slice b1 m1 j1) (.slice b2 m2 j2);have B8:Bl (λk=>k=q) W7 ((W7.setCell ⟨q,0,none⟩ (.slice b1 m1 j1)).setCell ⟨q,1,none⟩ (.slice b2 m2 j2)):=Pw.one (.inl rfl) kA
 have SG:=HX.1 q (.inl rfl);have Yx:=(Array.getElem?_eq_some_iff.1 VY.out).1;have TK:=F2.size;have TM:=HX.2.2.1.size;have hP8:=Pw.QS (g:={ h with st:=now }) kA ba ⟨H2.1.af F7.out,H2.2.1.af F7.out,Pw.v.r,Pw.v.hh,Pw.v.w⟩ rfl rfl rfl
 have H0:Hid (Q0 w q a x d h now (.slice al n cl) l L an (.slice b3 m3 j3) (w2.heap.size+1) B0 0 ((W7.setCell ⟨q,0,none⟩ (.slice b1 m1 j1)).setCell ⟨q,1,none⟩ (.slice b2 m2 j2))):=
  ⟨⟨_,_,_,_,_,_,hP8⟩,HX.2.2.2.2.2.2.2.1,kA.heap RS (λe=>by have e:w.heap.size=q:=e;omega),kA.heap VY (λe=>by have e:w2.heap.size+1=q:=e;omega),(HX.2.2.2.2.1.af FW.out).off (λx=>⟨2,_,rfl⟩) B8,⟨Pv.off (λx=>⟨1,_,rfl⟩) B8,λx hx=>by obtain⟨lo,h⟩:=TJ x hx;exact⟨lo,h.off B8⟩⟩,(FW0.any).trans kA (λk hk=>.inl (.inl hk))⟩
 have y4:((W7.setCell ⟨q,0,none⟩ (.slice b1 m1 j1)).setCell ⟨q,1,none⟩ (.slice b2 m2 j2)).cell? ⟨w2.heap.size+1,4,none⟩=some (.slice b3 m3 j3):=(bj H0.bx).2.2.2.2.1;obtain⟨t0,t1⟩:=aI R57.out;have e1:(an.err=0)=True:=eq_true VZ;have e2:(an.err == 0)=true:=beq_iff_eq.2 VZ;have e3:(an.err != 0)=false:=by simp[VZ]
 have GH:m3<=100000:=by have:=HN.2;rw[uL,vf.out];omega
 clear jG zi BU EW hq2 hq3 qM VZ Nf Pv TJ hu uL Pw ba kA B8 SG Yx TK TM hP8 vX HG;go_wp2_with fail
 generalize World.setCell (World.setCell W7 _ _) _ _=W8 at *;go_loopw [29] (λi wr=>∃m:Nat,m<=m3/\i=.int .i64 m/\Hid (Q0 w q a x d h now (.slice al n cl) l L an (.slice b3 m3 j3) (w2.heap.size+1) B0 m wr)) (λi _=>m3-(RowKit.intOf i).toNat)
 case atStart=>exact⟨0,Nat.zero_le _,rfl,H0⟩
 clear H0 y4 t0 t1 x0 x1 x2 x3 x4 x5;obtain⟨m,hm,rfl,hR⟩:=hrel;by_cases ay:m<m3
 ·have sv:m<L.length:=by rw[<-HZ.2.2.1];exact ay
  have Ng:m<l.length:=by rw[<-vf.out,<-HZ.1];exact ay
  have hmq:m<ps.length:=by rw[wy.out,List.length_map];exact Ng
  have hmr:m<an.res.length:=by rw[<-HZ.2.1,List.length_map];exact sv
  have JF:=HZ.2.2.2 m hmq hmr
  have aN:((ps.zip an.res).take (m+1)).foldl (λd x=>eC d x.1 x.2) h.wd=eC (((ps.zip an.res).take m).foldl (λd x=>eC d x.1 x.2) h.wd) ps[m] an.res[m]:=by
   have hz:m<(ps.zip an.res).length:=by rw[List.length_zip];omega
   rw[List.take_succ_eq_append_getElem hz,List.foldl_append,List.getElem_zip];rfl
  have ep:ps[m]=l[m].2:=by simp only[wy.out,List.getElem_map]
  have er:an.res[m]=L[m].r:=by simp only[<-HZ.2.1,List.getElem_map]
  rw[ep,er]at aN JF;have cC:=HX.2.2.2.2.2.2.1 _ (List.getElem_mem Ng);obtain⟨gl,ol,cp,ee,Qy⟩:=hR.pc.at (by omega)
  injection ee with ee1 ee2 ee3
  subst ee1;clear ee2 ee3;obtain⟨gr,or,cr,er2,pP⟩:=hR.rw.1.at (by omega)
  injection er2 with er3 er4 er5
  subst er3;clear er4 er5;have si:=hR.rw.2 _ (List.getElem_mem sv);have dP:=Qy m Ng;have tg:=pP m sv;generalize l[m]=y0 at *;generalize L[m]=x0 at *;obtain⟨y9,yk,yd,yp,ya,yv,yo,yt⟩:=y0;obtain⟨⟨re,rp,rd,rv,oE⟩,TO,TQ⟩:=x0;have k1:=dP.get 1 _ rfl;have k2:=dP.get 2 _ rfl;have k3:=dP.get 3 _ rfl;have k4:=dP.get 4 _ rfl;have k5:=dP.get 5 _ rfl;have k6:=dP.get 6 _ rfl;have k7:=dP.get 7 _ rfl;have v0:=tg.get 0 _ rfl;have v1:=tg.get 1 _ rfl;have v2:=tg.get 2 _ rfl;have v3:=tg.get 3 _ rfl;have v4:=tg.get 4 _ rfl;unfold Rw.nv at v4 si;simp only at v0 v1 v2 v3 v4 k1 k2 k3 k4 k5 k6 k7 aN JF cC si
  unfold au at v1 v2 k2 k3 k4;rw[Nat.add_zero]at v0;obtain⟨V0,Px⟩:∃z,z=oE.length:=⟨_,rfl⟩;rw[<-Px]at v4 si;have hKQ:=λW (f:Fp ab wr W)=>yI (f.cell k1 id) (yI (f.cell k2 id) (yI (f.cell k3 id) (yI (f.cell k4 id) (yI (f.cell k5 id) (yI (f.cell k6 id) (f.cell k7 id))))))
  have qk:=zI hKQ;have Py:=zI (yI aN (yI JF (yI cC (yI si Px))));have HLT:=zI ay;have q3:((m:Int)<(m3:Int))=True:=eq_true (by omega)
  have q4:(m<m3)=True:=eq_true ay;have q5:((m:Int)<(n:Int))=True:=eq_true (by have:=HZ.1;omega)
  have q6:(m<n)=True:=eq_true (by have:=HZ.1;omega)
  have f9:=aa wr (.cells #[.int .i64 re,.string (B rp),.string (B rd),.int .i64 rv,.slice TO V0 TQ] TR);have r9:=heap_alloc_new wr (.cells #[.int .i64 re,.string (B rp),.string (B rd),.int .i64 rv,.slice TO V0 TQ] TR);have Gq:=zI (yI f9 r9);clear hKQ aN JF cC si Px dP tg Qy pP ay sv Ng hmq hmr ep er k1 k2 k3 k4 k5 k6 k7 f9 r9;go_wp2_with fail
  generalize World.alloc wr (.cells #[.int .i64 re,.string (B rp),.string (B rd),.int .i64 rv,.slice TO V0 TQ] TR)=W9 at *;have HQ9:=zI (λW (f:Fp ab W9 W)=>yI (qk W (Gq.1.then f)) (b5 (f.heap Gq.2 id)))
  clear v0 v1 v2 v3 v4;refine wp_region_held_drew (S:=(λw'=>(w'.cell? ⟨gl,ol+m*8+1,none⟩=some (.int .i64 yk)/\w'.cell? ⟨gl,ol+m*8+2,none⟩=some (.string (B yd))/\w'.cell? ⟨gl,ol+m*8+3,none⟩=some (.string (B yp))/\w'.cell? ⟨gl,ol+m*8+4,none⟩=some (.string (B ya))/\w'.cell? ⟨gl,ol+m*8+5,none⟩=some (.int .i64 yv)/\w'.cell? ⟨gl,ol+m*8+6,none⟩=some (.int .i64 yo)/\w'.cell? ⟨gl,ol+m*8+7,none⟩=some (.bool yt))/\w'.cell? ⟨wr.heap.size,0,none⟩=some (.int .i64 re)/\w'.cell? ⟨wr.heap.size,1,none⟩=some (.string (B rp))/\w'.cell? ⟨wr.heap.size,2,none⟩=some (.string (B rd))/\w'.cell? ⟨wr.heap.size,3,none⟩=some (.int .i64 rv)/\w'.cell? ⟨wr.heap.size,4,none⟩=some (.slice TO V0 TQ))) (by kernel_rfl) ?_ (λhH=>?_)
  ·exact HQ9 _ ((Fp.refl ab _).drew)
  refine aF 0 hH ?_;refine aF 1 hH ?_;refine aF 2 hH ?_;refine aF 3 hH ?_;refine aF 4 hH ?_;refine aF 5 hH ?_;refine aF 6 hH ?_;refine rY 7 (λK hK=>?_)
  go_simp
  have hc:=Pu q a x d { h with st:=now,wd:=((ps.zip an.res).take m).foldl (λd x=>eC d x.1 x.2) h.wd } ⟨yk,yd,yp,ya,yv,yo,yt⟩ ⟨⟨re,rp,rd,rv,oE⟩,TO,TQ⟩ B0 W9.drew (by have h1:=(hR.sh.af Gq.1).af ((Fp.refl ab W9).drew);rw[<-wy.out]at h1;exact h1)
   (by obtain⟨lo,h1⟩:=Py.2.2.2.1;exact⟨lo,by have h2:=(h1.dU Gq.1).dU ((Fp.refl ab W9).drew);rw[Py.2.2.2.2]at h2;exact h2⟩) (by have h1:=hR.ok;rw[<-wy.out]at h1;exact h1) HX.2.2.2.2.2.2.2.2 Py.2.2.1 Py.2.1 (by omega)
  unfold fY au Rw.nv at hc;simp only at hc
  rw[<-Py.2.2.2.2]at hc;refine hc.mono ?_;rintro e w6 g6;have e6:=g6.e;subst e6;have mM:=HX.1;have PA:=hR.sh.af (Gq.1.then ((Fp.refl ab W9).drew));obtain⟨⟨c1,c2,c3,c4,c5,c6,c7⟩,d0,d1,d2,d3,d4⟩:=HQ9 _ ((Fp.refl ab W9).drew);have oZ:¬Bk q a x d gl:=λk=>(PA.mF _ k).str c2
  have Q1:¬Bk q a x d wr.heap.size:=λk=>by have h1:=mM _ k;have h2:=hR.fp.size;omega
  have vi:Bl (Bk q a x d) W9.drew w6:=⟨g6.fp,PA.mF⟩;have PB:=hR.af (Gq.1.then ((Fp.refl ab W9).drew))
  have hM:Hid (Q0 w q a x d h now (.slice (some ⟨gl,ol,none⟩) n cl) l L an (.slice (some ⟨gr,or,none⟩) m3 j3) (w2.heap.size+1) B0 (m+1) w6):=by
   have wi:=hR.ok;rw[<-wy.out]at wi;have l7:=F2.size;have hz3:=HX.2.2.1.size;refine⟨?_,?_,g6.fp.heap PB.rs (λk=>by have h1:=mM _ k;omega),g6.fp.heap PB.bx (λk=>by have h1:=mM _ k;omega),PB.pc.off (λx=>⟨2,_,rfl⟩) vi,⟨PB.rw.1.off (λx=>⟨1,_,rfl⟩) vi,λx hx=>by obtain⟨lo,h⟩:=PB.rw.2 x hx;exact⟨lo,h.off vi⟩⟩,PB.fp.same g6.fp⟩
   ·rw[<-wy.out,Py.1];exact g6.sh
   rw[<-wy.out,Py.1];exact Hj wi _ _
  go_wp2_with fail
  refine hK _ _ ⟨⟨g6.fp.cell c1 oZ,g6.fp.cell c2 oZ,g6.fp.cell c3 oZ,g6.fp.cell c4 oZ,g6.fp.cell c5 oZ,g6.fp.cell c6 oZ,g6.fp.cell c7 oZ⟩,g6.fp.cell d0 Q1,g6.fp.cell d1 Q1,g6.fp.cell d2 Q1,g6.fp.cell d3 Q1,g6.fp.cell d4 Q1⟩ (λhH=>?_)
  clear hK K;try simp only[zz]
  refine yD ?_;clear c1 c2 c3 c4 c5 c6 c7 d0 d1 d2 d3 d4 oZ Q1 vi PB mM PA g6 hc;have eJ:=HLT.out;go_wp2;go_roundw
  case rel=>exact⟨m+1,by omega,by go_num,hM⟩
  case measure=>simp[RowKit.intOf];omega
 have vQ:m=m3:=by omega
 subst vQ;have q3:((m:Int)<(m:Int))=False:=eq_false (by omega)
 have hS9:iR wr q a x d { h with st:=now,wd:=(ps.zip an.res).foldl (λd x=>eC d x.1 x.2) h.wd }:=by
  have h1:=hR.sh;rw[<-wy.out,List.take_of_length_le (by rw[List.length_zip,<-HZ.2.1,List.length_map,<-HZ.2.2.1];omega)]at h1
  exact h1
 have S9:=zI hS9;have RS:=zI hR.rs;have BX:=zI hR.bx
 have hA9:ej wr an (.slice b3 m j3) nS nS nS nS:=by
  have h1:Gi wr (.slice b3 m j3) an.res:=⟨L,HZ.2.1,hR.rw.1,hR.rw.2⟩;rw[zj.out]at h1|-;exact⟨h1,Ns.nil _,Ts.nil _,mB.nil _,0,dT.nil 0 _⟩
 have A9:=zI hA9;clear hS9 hA9 ay hm
 go_wp2_with (first
  |(refine de (by rfl) aT _ rfl _ _ rfl (j9 bw BX rfl) ?_)
  |(refine ak rfl aT _ _ rfl _ _ rfl rfl (aA bw (cs:=aC an (.slice b3 m j3) nS nS nS nS) RS rfl rfl (aD ⟨⟨_,_,_,rfl⟩,⟨none,0,0,rfl⟩,⟨none,0,0,rfl⟩,⟨none,0,0,rfl⟩,⟨none,0,0,rfl⟩⟩)) ?_))
 obtain⟨z0,z1,z2,z3,z4,z5,z6,z7,z8,z9⟩:=bj (aj (cs:=aC an (.slice b3 m j3) nS nS nS nS) RS.out);have HE:=zI (bN.TG (r:=(_,an)) hR.fp RS HX.1 S9 A9.out);generalize World.setRow wr w.heap.size (aC an (.slice b3 m j3) nS nS nS nS)=wz at *;go_wp2;refine bodyPost_ret (v:=.agg (aC an (.slice b3 m j3) nS nS nS nS)) (by simp[results,results125,go_sem,z0,z1,z2,z3,z4,z5,z6,z7,z8,z9,aC]) rfl ?_
 rw[HD.out];exact HE.out
end
section
open Go.RowKit Pm
attribute [local irreducible] wpStill
theorem cy{p:Bs}(h:(split p).isSome=true):p.length<=100:=by
 obtain⟨ps,dH⟩:=Option.isSome_iff_exists.1 h;obtain⟨hP,e⟩:=(bL _ _).1 dH;have:=dK hP;rw[e]at this;exact this
structure Inv(N B0:Nat)(h:bQ):Prop where
 st:dh h.st
 n:h.st.nodes.length<=N
 m:h.st.turns.length<=N
 rg:kT h.rg
 hs:zJ h.hs
 hn:h.hs.length<=20000
 wd:xi B0 h.wd
 dI:∀x∈h.dI,x.2.ps.length<=16/\∀p∈x.2.ps,cq p=true
theorem Inv.Ni{N B0:Nat}{h:bQ}(k:Inv N B0 h):BK h.rg:=⟨by have:=k.rg.len;omega,λx hx=>by
 have h1:=k.rg.ok x hx;unfold nA nF at h1;simp only[Bool.and_eq_true]at h1
 have:=cy h1.1.1;omega⟩
theorem Inv.fF{N B0:Nat}{h:bQ}(k:Inv N B0 h):zG h.hs:=λx hx=>by
 have h1:=k.hs.ok x hx;unfold FU nF at h1;simp only[Bool.and_eq_true]at h1
 have:=cy h1.1.1;omega
theorem tK{c:Cd}(h:pN c):(∀x∈c.ps,0<=x.op)/\(∀p∈c.ps.map Pe.p,cq p=true)/\c.ps.length<=16:=by
 refine⟨λx hx=>?_,λp hp=>?_,h.ps.1⟩
 ·obtain⟨i,hi,rfl⟩:=List.getElem_of_mem hx
  exact(h.ps.2 i hi).1
 obtain⟨x,hx,rfl⟩:=List.mem_map.1 hp;obtain⟨i,hi,rfl⟩:=List.getElem_of_mem hx;exact(h.ps.2 i hi).2.2.1
theorem qN(l:List Pe):(l.map pn).map Prod.snd=l.map Pe.p:=by rw[List.map_map];rfl
theorem PC(l:List (Nat×Pt)):(l.map pk).map Pc.dir=(l.map Prod.snd).map Pt.dir:=by rw[List.map_map,List.map_map];rfl
theorem Sg.pcs{w:World}{v:Value}{c:Cd}(h:Sg Cb 8 w v c.ps)(hc:pN c):Sg mf 8 w v (c.ps.map pn):=h.conv pn (λx hx=>MT ((tK hc).1 x hx))
theorem Hm{w:World}{v:Value}{l:List (Nat×Pt)}(h:Sg mf 8 w v l)(hn:l.length<=1000):
  Calls prog 121 #[v] w λe w'=>∃v',e=.returned v'/\Q2 w (bI (l.map Prod.snd)) v' w':=by
 have:=PD v (l.map pk) w (h.conv pk (λx _=>Sq x)) (by rw[List.length_map];omega)
 rwa[PC]at this
theorem Cu{ps:List Pt}(h:∀p∈ps,cq p=true):Oe (bI ps)/\(bI ps).length<=ps.length:=by
 refine⟨λx hx=>?_,?_⟩
 ·unfold bI at hx
  rw[gI]at hx;obtain⟨p,hp,rfl⟩:=List.mem_map.1 hx;obtain⟨_,h1,h2,_⟩:=(bt p).1 (h p hp);rw[h2];unfold bU;split
  ·have:=cy h1;omega
  have:=cy (qO p.path);omega
 have h1:=uE (ps.map Pt.dir);rw[List.length_map]at h1;exact h1
theorem TT(q a x d:Nat)(h:bQ)(c:Cd)(vp vn vt vg:Value)(N B0:Nat)(w:World)(hS:iR w q a x d h)(hI:Inv N B0 h)(hN:N<=3800)(hB:B0<=30000)(jT:Sg Cb 8 w vp c.ps)(hc:pN c)(ht:xL q a x d w):
  Calls prog 86 #[.pointer (some ⟨q,0,none⟩),.agg (kg c vp vn vt vg)] w (bN q a x d (oS h (c.ps.map Pe.p)) w):=by
 have ay:=hS.lt;obtain⟨fS,fT,KY,JA,TB,QY,hP⟩:=hS.ex;have xu:=tK hc;have xN:=Cu xu.2.1;have hF:=Fr.made w c vp vn vt vg;obtain⟨W2,gS⟩:∃W2,W2=(w.alloc (.cells (kg c vp vn vt vg) sr)).alloc (.cells fq aT):=⟨_,rfl⟩;rw[<-gS]at hF;have Nj:=jT.pcs hc
 have cC:∀q∈c.ps.map pn,q.2.path.length<=1000000:=λz hz=>by
  obtain⟨x,hx,rfl⟩:=List.mem_map.1 hz;have:=cy ((bt _).1 (xu.2.1 x.p (List.mem_map.2 ⟨x,hx,rfl⟩))).2.1;show x.p.path.length<=1000000
  omega
 obtain⟨ps,dH⟩:∃ps,ps=c.ps.map Pe.p:=⟨_,rfl⟩;have hd:=Hm (Nj.af hF.fp) (by rw[List.length_map];omega)
 have hex:=λW (f:Fp ab w W)=>tJ q a x d h vp (c.ps.map pn) B0 W (hS.af f) hI.st (by have:=hI.n;rw[List.length_map];omega) (by have:=hI.m;rw[List.length_map];omega) (Nj.af f) (by rw[qN];exact xu.2.1) cC (ht.af f) hI.wd hB
 rw[qN,<-dH]at hd hex;rw[<-dH]at xu xN|-;have eK:=λ(st:Int) W (f:Fp ab w W) e W' (g:Td q st W e W')=>g.pd ((hP.af f).cell 2 (v:=KY) rfl) (hP.v.r.af f) hI.Ni
 have hhd:=λW (f:Fp ab w W)=>DB ((hP.af f).cell 3 (v:=JA) rfl) (hP.v.hh.af f) hI.fF (by have:=hI.hn;omega)
 have Jo:ps.length=c.ps.length:=by rw[dH,List.length_map]
 have TX:(bI ps).length<=1000000:=by have h1:=xu.2.2;have h2:=xN.2;omega
 have TY:=λv W f qq (hv:uC W v (bI ps)) (hq:DA W f qq)=>oD v f (bI ps) qq W hv xN.1 hq TX
 have HX:=zI (yI ay (yI hS (yI eK (yI hhd (yI TY hex)))));have HDC:=zI hd;have HF:=zI hF;obtain⟨b1,bO⟩:∃b,b=(bI ps).any (qd h.rg 3):=⟨_,rfl⟩;obtain⟨b2,bW⟩:∃b,b=(bI ps).any (qd h.rg 2):=⟨_,rfl⟩;obtain⟨b3,mc⟩:∃b,b=(bI ps).any (FG h.hs):=⟨_,rfl⟩;have mE:=zI (show oS h ps=if b1=true then (h,.no 132) else if b2=true\/b3=true then (h,.no 131) else fZ h ps from by rw[bO,bW,mc];rfl)
 have Q3:=zI (yI bO (yI bW mc));have k5:=hF.cell 5 (v:=vp) rfl;rw[gS]at k5;obtain⟨ap,np,cp,rfl⟩:∃a n c,vp=.slice a n c:=by obtain⟨a,c,e⟩:=jT.shape;exact⟨a,_,c,e⟩
 clear ay hS hI jT hc ht hP xu xN hF Nj cC hd hex eK hhd TY TX bO bW mc dH Jo;go_enter func86,ntmps86
 go_wp2_with fail
 rw[<-gS];clear gS k5;refine HDC.mono ?_;rintro e w3⟨vd,rfl,vj⟩;have F3:=zI (HF.later vj.fp);have D3:=zI (show uC w3 vd (bI ps) from dT.sg mz vj.own);clear vj HDC;obtain⟨ad,cd,rfl⟩:=D3.shape;generalize aE:(bI ps).length=nd at *;go_wp2_with fail
 refine(uY q 3 _).mono ?_;rintro e w4 g4;obtain⟨f4,rfl,CW⟩:=HX.2.2.1 3 w3 F3.fp _ _ g4;have F4:=zI (F3.later g4.fp);have D4:=zI (D3.af g4.fp);have EU:=HX.2.2.2.2.1 _ _ _ _ D4 CW;rw[<-Q3.1]at EU;obtain⟨kf4,fi4,fc4,rfl,_,_⟩:=CW.ex;have Yy:=zI EU;clear g4 CW EU;go_wp2_with fail
 refine Yy.mono ?_;rintro e w5⟨rfl,f5⟩;have F5:=zI (F4.later f5);have D5:=zI (D4.af f5);clear f5;cases b1 with
 |true=>
  have HD:=zI (show oS h ps=(h,.no 132) from by rw[mE.out];rfl)
  go_wp2_with fail
  refine(bF 132 _).mono ?_;rintro e w9⟨rfl,f9⟩;have F9:=zI (F5.later f9);clear f9;go_wp2_with (refine ak rfl aT _ _ rfl _ _ rfl rfl (aA bw (cs:=aC (.no 132) nS nS nS nS nS) F9.rs rfl rfl (aD ⟨⟨none,0,0,rfl⟩,⟨none,0,0,rfl⟩,⟨none,0,0,rfl⟩,⟨none,0,0,rfl⟩,⟨none,0,0,rfl⟩⟩)) ?_)
  obtain⟨z0,z1,z2,z3,z4,z5,z6,z7,z8,z9⟩:=bj (aj (cs:=aC (.no 132) nS nS nS nS nS) F9.rs);have HE:=zI (bN.fin (r:=(h,.no 132)) F9.fp.any F9.rs HX.1 (HX.2.1.af F9.fp) (ej.ok w9 132 0 false 0));generalize World.setRow w9 (w.heap.size+1) (aC (.no 132) nS nS nS nS nS)=wz at *;go_wp2;refine bodyPost_ret (v:=.agg (aC (.no 132) nS nS nS nS nS)) (by simp[results,results86,go_sem,z0,z1,z2,z3,z4,z5,z6,z7,z8,z9,aC]) rfl ?_
  rw[HD.out];exact HE.out
 |false=>?_
 go_wp2_with fail
 refine(uY q 2 _).mono ?_;rintro e w6 g6;obtain⟨f6,rfl,PE⟩:=HX.2.2.1 2 w5 F5.fp _ _ g6;have F6:=zI (F5.later g6.fp);have D6:=zI (D5.af g6.fp);have uW:=HX.2.2.2.2.1 _ _ _ _ D6 PE;rw[<-Q3.2.1]at uW;obtain⟨kf6,fi6,fc6,rfl,_,_⟩:=PE.ex;have TZ:=zI uW;clear g6 PE uW;go_wp2_with fail
 refine TZ.mono ?_;rintro e w7⟨rfl,f7⟩;have F7:=zI (F6.later f7);have D7:=zI (D6.af f7);clear f7;cases b2 with
 |true=>
  have HD:=zI (show oS h ps=(h,.no 131) from by rw[mE.out];simp)
  go_wp2_with fail
  refine(bF 131 _).mono ?_;rintro e w9⟨rfl,f9⟩;have F9:=zI (F7.later f9);clear f9;go_wp2_with (refine ak rfl aT _ _ rfl _ _ rfl rfl (aA bw (cs:=aC (.no 131) nS nS nS nS nS) F9.rs rfl rfl (aD ⟨⟨none,0,0,rfl⟩,⟨none,0,0,rfl⟩,⟨none,0,0,rfl⟩,⟨none,0,0,rfl⟩,⟨none,0,0,rfl⟩⟩)) ?_)
  obtain⟨z0,z1,z2,z3,z4,z5,z6,z7,z8,z9⟩:=bj (aj (cs:=aC (.no 131) nS nS nS nS nS) F9.rs);have HE:=zI (bN.fin (r:=(h,.no 131)) F9.fp.any F9.rs HX.1 (HX.2.1.af F9.fp) (ej.ok w9 131 0 false 0));generalize World.setRow w9 (w.heap.size+1) (aC (.no 131) nS nS nS nS nS)=wz at *;go_wp2;refine bodyPost_ret (v:=.agg (aC (.no 131) nS nS nS nS nS)) (by simp[results,results86,go_sem,z0,z1,z2,z3,z4,z5,z6,z7,z8,z9,aC]) rfl ?_
  rw[HD.out];exact HE.out
 |false=>?_
 have Yz:=HX.2.2.2.2.1 _ _ _ _ D7 (HX.2.2.2.1 _ F7.fp);rw[<-Q3.2.2]at Yz;have HC8:=zI Yz;clear Yz;go_wp2_with fail
 refine HC8.mono ?_;rintro e w8⟨rfl,f8⟩;have F8:=zI (F7.later f8);clear f8;cases b3 with
 |true=>
  have HD:=zI (show oS h ps=(h,.no 131) from by rw[mE.out];simp)
  go_wp2_with fail
  refine(bF 131 _).mono ?_;rintro e w9⟨rfl,f9⟩;have F9:=zI (F8.later f9);clear f9;go_wp2_with (refine ak rfl aT _ _ rfl _ _ rfl rfl (aA bw (cs:=aC (.no 131) nS nS nS nS nS) F9.rs rfl rfl (aD ⟨⟨none,0,0,rfl⟩,⟨none,0,0,rfl⟩,⟨none,0,0,rfl⟩,⟨none,0,0,rfl⟩,⟨none,0,0,rfl⟩⟩)) ?_)
  obtain⟨z0,z1,z2,z3,z4,z5,z6,z7,z8,z9⟩:=bj (aj (cs:=aC (.no 131) nS nS nS nS nS) F9.rs);have HE:=zI (bN.fin (r:=(h,.no 131)) F9.fp.any F9.rs HX.1 (HX.2.1.af F9.fp) (ej.ok w9 131 0 false 0));generalize World.setRow w9 (w.heap.size+1) (aC (.no 131) nS nS nS nS nS)=wz at *;go_wp2;refine bodyPost_ret (v:=.agg (aC (.no 131) nS nS nS nS nS)) (by simp[results,results86,go_sem,z0,z1,z2,z3,z4,z5,z6,z7,z8,z9,aC]) rfl ?_
  rw[HD.out];exact HE.out
 |false=>?_
 have HD:=zI (show oS h ps=fZ h ps from by rw[mE.out];simp)
 have k5:=F8.cell 5 (v:=.slice ap np cp) rfl;have O4:=zI (HX.2.2.2.2.2 _ F8.fp);go_wp2_with fail
 refine O4.mono ?_;rintro e w9 g9;obtain⟨va,rfl,lA,jK,iN,lB,lC,rfl,hA⟩:=g9.xF;have mM:=HX.1;have RS:=zI (g9.fp.heap F8.rs (λk=>by have:=mM _ k;omega))
 have A9:=zI hA;have S9:=zI g9.sh;have YA:=zI ((F8.fp.any).same g9.fp);have SL:=zI hA.eL;generalize fZ h ps=r at *;clear g9 hA k5 O4;go_wp2_with (refine ak rfl aT _ _ rfl _ _ rfl rfl (aA bw (cs:=aC r.2 lA jK iN lB lC) RS rfl rfl (aD SL.out)) ?_)
 obtain⟨z0,z1,z2,z3,z4,z5,z6,z7,z8,z9⟩:=bj (aj (cs:=aC r.2 lA jK iN lB lC) RS.out);have HE:=zI (bN.fin (r:=r) YA RS HX.1 S9 A9.out);generalize World.setRow w9 (w.heap.size+1) (aC r.2 lA jK iN lB lC)=wz at *;go_wp2;refine bodyPost_ret (v:=.agg (aC r.2 lA jK iN lB lC)) (by simp[results,results86,go_sem,z0,z1,z2,z3,z4,z5,z6,z7,z8,z9,aC]) rfl ?_
 rw[HD.out];exact HE.out
end
end Go.Proofs.YtgafcelloiagmaaGreatDoor
