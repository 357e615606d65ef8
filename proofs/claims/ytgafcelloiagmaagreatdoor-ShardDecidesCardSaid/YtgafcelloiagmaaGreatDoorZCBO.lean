/- A text of this proof. -/
import Derived.Test.YtgafcelloiagmaaGreatDoorZCBK
import Derived.Test.YtgafcelloiagmaaGreatDoorZCBL
set_option maxHeartbeats 16000000
set_option linter.unusedSimpArgs false
set_option linter.unusedVariables false
set_option maxRecDepth 20000
namespace Go.Proofs.YtgafcelloiagmaaGreatDoor
open Go.Proofs.Tryz
section
open Go.RowKit Pm
theorem Pm.Dy{s:St}{x:Pt}(h:(cT s x).2.err=0):dh s/\cq x=true/\cT s x=b7 s x:=by
 by_cases h2:dB s=true/\cq x=true
 ·exact⟨(fm s).1 h2.1,h2.2,jg ((fm s).1 h2.1) h2.2⟩
 rw[tv h2]at h;exact absurd h (by decide)
theorem Pm.KJ(s:St)(x:Pt):(b7 s x).1.nodes.length<=s.nodes.length+1/\(b7 s x).1.turns.length<=s.turns.length+1:=by
 have fl:∀q:Nd->Bool,(s.nodes.filter q).length<=s.nodes.length:=λq=>List.length_filter_le _ _
 have st:=λp n=>Gw s.turns p n
 unfold b7;split
 ·unfold qh
  split
  ·exact⟨by simp only;omega,by simp only;omega⟩
  split
  ·exact⟨by simp only;omega,by simp only;omega⟩
  refine⟨by simp only[dX];omega,?_⟩
  simp only
  split
  ·have:=st x.dir (dt s.turns x.dir+1);omega
  omega
 split
 ·split
  ·exact⟨by simp only;omega,by have:=st x.path 0;simp only;omega⟩
  exact⟨by simp only;omega,by simp only;omega⟩
 split
 ·exact⟨by simp only;omega,by simp only;omega⟩
 split
 ·exact⟨by have:=fl (λn=>!uT x n);simp only;omega,by simp only;omega⟩
 split
 ·exact⟨by simp only;omega,by simp only;omega⟩
 have el:∀k,(s.nodes.eraseIdx k).length<=s.nodes.length:=λk=>by rw[List.length_eraseIdx];split<;>omega
 repeat' split
 all_goals first
  |exact⟨by simp only;omega,by simp only;omega⟩
  |exact⟨by simp only[List.length_set];omega,by simp only;omega⟩
  |exact⟨by have:=el (place s.nodes x.path);simp only;omega,by simp only;omega⟩
theorem Pm.iK.XV{s:St}{ps:List Pt}{k:Nat}{now:St}{rs:List dp}(h:iK s ps k now rs)(hs:dh s):dh now/\now.nodes.length<=s.nodes.length+k/\now.turns.length<=s.turns.length+k:=by
 induction h with
 |zero=>exact⟨hs,Nat.le_refl _,Nat.le_refl _⟩
 |@succ k now x rs r h hk ha h0 ih=>
  have h0':(cT now ps[k]).2.err=0:=by rw[ha];exact h0
  obtain⟨g1,g2,g3⟩:=Dy h0';have hx:x=(b7 now ps[k]).1:=by rw[<-g3,ha]
  have:=KJ now ps[k];refine⟨by rw[hx];exact g1.b7 g2,?_,?_⟩
  ·rw[hx];omega
  rw[hx];omega
theorem Kp.ow{W:World}{lo:Nat}{v:Value}{l:List Nd}(h:Ow lo W v l):Kp (λW'=>Ow lo W' v l) W:=λW' f=>h.af f
theorem Kp.XW{W:World}{lo:Nat}{v:Value}{l:List Tu}(h:ey lo W v l):Kp (λW'=>ey lo W' v l) W:=λW' f=>h.af f
section
variable {u0 u : World} {vN vT : Value} {lN : List Nd} {lT : List Tu} {b : Nat} {x : Bool}
theorem xA.GX(h:xA u0 (.slice none 0 0) [] vT lT b x u){l:List Nd}{v:Value}{u':World}(hR:VD u l v u'):xA u0 v l vT lT b x u':=by
 have k:=h.af hR.fp;exact⟨k.f,Ow.lower hR.own h.f.size,k.t,k.x⟩
theorem xA.Ak(h:xA u0 vN lN (.slice none 0 0) [] b x u){l:List Tu}{v:Value}{u':World}(hR:KL u l v u'):xA u0 vN lN v l b x u':=by
 have k:=h.af hR.fp;exact⟨k.f,k.n,ey.lower hR.own h.f.size,k.x⟩
theorem xA.zt(h:xA u0 vN lN vT lT b true u):Fp ab u0 ((u.setCell ⟨b,0,none⟩ vN).setCell ⟨b,1,none⟩ vT)/\((u.setCell ⟨b,0,none⟩ vN).setCell ⟨b,1,none⟩ vT).heap[b]?=some (.cells #[vN,vT] aM (0,0))/\Ow u0.heap.size ((u.setCell ⟨b,0,none⟩ vN).setCell ⟨b,1,none⟩ vT) vN lN/\ey u0.heap.size ((u.setCell ⟨b,0,none⟩ vN).setCell ⟨b,1,none⟩ vT) vT lT:=by
 obtain⟨h1,h2⟩:=h.x rfl;have iB:Fp (λj=>j=b) u ((u.setCell ⟨b,0,none⟩ vN).setCell ⟨b,1,none⟩ vT):=((Fp.refl (λj=>j=b) u).setCell (p:=⟨b,0,none⟩) (.inl rfl) _).setCell (p:=⟨b,1,none⟩) (.inl rfl) _
 refine⟨h.f.trans iB (λj hj=>.inr (by have hj:j=b:=hj;omega)),mA h2 vN vT,h.n.keep iB (λj hj e=>?_),h.t.keep iB (λj hj e=>?_)⟩
 ·obtain⟨_,k1⟩:=h.n.type hj
  have e:j=b:=e;exact iw k1 h2 (by decide) e
 obtain⟨_,k1⟩:=h.t.type hj;have e:j=b:=e;exact iw k1 h2 (by decide) e
end
abbrev Pcs(w:World)(v:Value)(l:List (Nat×Pt)):Prop:=Sg mf 8 w v l
structure OS(s:St)(v:Value)(ps:List Pt)(w:World)(e:Ending)(w':World):Prop where
 VE:(∃now rs v' rv,iK s ps ps.length now rs/\e=.returned (.tuple #[v',rv,.int .i64 0,.int .i64 0])/\tf w' v' now/\Gi w' rv rs)\/
  (∃i now rs,iK s ps i now rs/\∃h:i<ps.length,(cT now ps[i]).2.err≠0/\e=.returned (.tuple #[v,.slice none 0 0,.int .i64 (cT now ps[i]).2.err,.int .i64 i]))
 fp:Fp ab w w'
theorem RX.both{w:World}{s':St}{r:dp}{e:Ending}{w':World}(h:RX w s' r e w'):∃vn vt nv,e=.returned (.tuple #[.agg #[vn,vt],.agg #[.int .i64 r.err,au r.path,au r.data,.int .i64 r.aX,nv]])/\tf w' (.agg #[vn,vt]) s'/\Own w.heap.size w' nv r.names/\(r.err=0->Ow w.heap.size w' vn s'.nodes/\ey w.heap.size w' vt s'.turns):=by
 obtain⟨v',nv,rfl,hs,ho⟩:=h.ex;obtain⟨vn,vt,rfl,h1,h2⟩:=hs.ex;refine⟨vn,vt,nv,rfl,⟨vn,vt,rfl,h1,h2⟩,ho,λh0=>?_⟩
 obtain⟨a,b,x,e,k1,k2⟩:=h.Ov h0;injection e with e
 injection e with e
 injection e with e
 injection e with e _
 injection e with e
 injection e with e
 injection e with e1 e
 injection e with e2 _
 subst e1 e2;exact⟨k1,k2⟩
theorem oW.ia{lo:Nat}{w w':World}{v:Value}{rs:List dp}(h:oW lo w v rs){b:Nat}{cs:Array Value}{T:TypeId}(hb:w.heap[b]?=some (.cells cs T (0,0)))(h1:TR≠T)(h2:9≠T)(f:Fp (λj=>j=b) w w'):oW lo w' v rs:=by
 obtain⟨L,k1,k2,k3⟩:=h.ex;refine⟨L,k1,f.owns k2 (λj hj e=>?_),λx hx=>⟨f.owns (k3 x hx).1 (λj hj e=>?_),(k3 x hx).2⟩⟩
 ·obtain⟨_,t1⟩:=k2.type hj
  have e:j=b:=e;subst e;exact bP t1 hb h1
 obtain⟨_,t1⟩:=(k3 x hx).type hj;have e:j=b:=e;subst e;exact bP t1 hb h2
theorem Own.ia{lo:Nat}{w w':World}{v:Value}{ps:List Bs}(h:Own lo w v ps){b:Nat}{cs:Array Value}{T:TypeId}(hb:w.heap[b]?=some (.cells cs T (0,0)))(h2:9≠T)(f:Fp (λj=>j=b) w w'):Own lo w' v ps:=by
 refine⟨f.owns h.1 (λj hj e=>?_),h.2⟩
 obtain⟨_,t1⟩:=h.type hj;have e:j=b:=e;subst e;exact bP t1 hb h2
theorem Ow.ia{lo:Nat}{w w':World}{v:Value}{l:List Nd}(h:Ow lo w v l){b:Nat}{cs:Array Value}{T:TypeId}(hb:w.heap[b]?=some (.cells cs T (0,0)))(h2:TN≠T)(f:Fp (λj=>j=b) w w'):Ow lo w' v l:=
 h.keep f (λj hj e=>by
  obtain⟨_,t1⟩:=h.type hj;have e:j=b:=e;exact iw t1 hb h2 e)
theorem ey.ia{lo:Nat}{w w':World}{v:Value}{l:List Tu}(h:ey lo w v l){b:Nat}{cs:Array Value}{T:TypeId}(hb:w.heap[b]?=some (.cells cs T (0,0)))(h2:TU≠T)(f:Fp (λj=>j=b) w w'):ey lo w' v l:=
 h.keep f (λj hj e=>by
  obtain⟨_,t1⟩:=h.type hj;have e:j=b:=e;exact iw t1 hb h2 e)
abbrev VF(b:Nat)(vn vt:Value)(u:World):World:=(u.setCell ⟨b,0,none⟩ vn).setCell ⟨b,1,none⟩ vt
abbrev SV(b:Nat)(a0 a1 a2 a3 a4:Value)(u:World):World:=((((u.setCell ⟨b,0,none⟩ a0).setCell ⟨b,1,none⟩ a1).setCell ⟨b,2,none⟩ a2).setCell ⟨b,3,none⟩ a3).setCell ⟨b,4,none⟩ a4
theorem Cq(b:Nat)(vn vt:Value)(u:World):Fp (λj=>j=b) u (VF b vn vt u):=((Fp.refl (λj=>j=b) u).setCell (p:=⟨b,0,none⟩) (.inl rfl) _).setCell (p:=⟨b,1,none⟩) (.inl rfl) _
structure QO(s:St)(ps:List Pt)(w:World)(c0:Array Value)(b8 nu k:Nat)(vr:Value)(wr:World):Prop where
 ex:∃now rs vn vt,iK s ps k now rs/\wr.heap[b8]?=some (.cells #[vn,vt] aM (0,0))/\Ow w.heap.size wr vn now.nodes/\ey w.heap.size wr vt now.turns/\oW w.heap.size wr vr rs
 rb:∃a0 a1 a2 a3 a4,wr.heap[nu]?=some (.cells #[a0,a1,a2,a3,a4] TR (0,0))
 fp:Fp ab w wr
 sb:wr.heap[w.heap.size]?=some (.cells c0 aM (0,0))
 zb:wr.heap[w.heap.size+1]?=some (.cells #[.slice none 0 0,.slice none 0 0] aM (0,0))
 ne:∀j,vr.ownBlock=some j->j≠nu
structure VG(w:World)(c0:Array Value)(b8 nu:Nat)(vr:Value)(rs:List dp)(x:St)(r:dp)(vn vt nv:Value)(w6:World):Prop where
 r8:w6.heap[b8]?=some (.cells #[vn,vt] aM (0,0))
 KM:w6.heap[nu]?=some (.cells #[.int .i64 r.err,au r.path,au r.data,.int .i64 r.aX,nv] TR (0,0))
 fp:Fp ab w w6
 sb:w6.heap[w.heap.size]?=some (.cells c0 aM (0,0))
 zb:w6.heap[w.heap.size+1]?=some (.cells #[.slice none 0 0,.slice none 0 0] aM (0,0))
 XX:oW w.heap.size w6 vr rs
 ne:∀j,vr.ownBlock=some j->j≠nu
 own:Own w.heap.size w6 nv r.names
 Ov:r.err=0->Ow w.heap.size w6 vn x.nodes/\ey w.heap.size w6 vt x.turns
theorem VG.of{w wd w5:World}{c0:Array Value}{b8 nu:Nat}{vr:Value}{rs:List dp}{x:St}{r:dp}{vn vt nv o0 o1 a0 a1 a2 a3 a4:Value}
  (h8:wd.heap[b8]?=some (.cells #[o0,o1] aM (0,0))) (uH:wd.heap[nu]?=some (.cells #[a0,a1,a2,a3,a4] TR (0,0))) (hF:Fp ab w wd) (sb:wd.heap[w.heap.size]?=some (.cells c0 aM (0,0))) (zb:wd.heap[w.heap.size+1]?=some (.cells #[.slice none 0 0,.slice none 0 0] aM (0,0)))
  (ho:oW w.heap.size wd vr rs) (bA:∀j,vr.ownBlock=some j->j≠nu) (l8:w.heap.size+1<b8) (l10:w.heap.size+1<nu) (f5:Fp ab wd w5) (cP:Own wd.heap.size w5 nv r.names) (hm:r.err=0->Ow wd.heap.size w5 vn x.nodes/\ey wd.heap.size w5 vt x.turns):
  VG w c0 b8 nu vr rs x r vn vt nv (SV nu (.int .i64 r.err) (au r.path) (au r.data) (.int .i64 r.aX) nv (VF b8 vn vt w5)):=by
 have e:b8≠nu:=iw h8 uH (by decide)
 have k8:=f5.heap h8 id;have uU:=f5.heap uH id;have g1:=Cq b8 vn vt w5;have y8:=mA k8 vn vt;have GY:=g1.heap uU (λh=>e h.symm)
 have g2:=SX GY (.int .i64 r.err) (au r.path) (au r.data) (.int .i64 r.aX) nv;have hF5:=hF.then f5;have q1:=hF5.trans g1 (λj hj=>.inr (by have hj:j=b8:=hj;omega))
 have k0:=g1.heap (f5.heap sb id) (λh=>by have h:w.heap.size=b8:=h;omega)
 have k1:=g1.heap (f5.heap zb id) (λh=>by have h:w.heap.size+1=b8:=h;omega)
 refine⟨g2.heap y8 e,ew GY _ _ _ _ _,q1.trans g2 (λj hj=>.inr (by have hj:j=nu:=hj;omega)),g2.heap k0 (λh=>by have h:w.heap.size=nu:=h;omega),g2.heap k1 (λh=>by have h:w.heap.size+1=nu:=h;omega),((ho.af f5).ia k8 (by decide) (by decide) g1).keep GY bA g2,bA,((cP.low hF.size).ia k8 (by decide) g1).ia GY (by decide) g2,λh0=>⟨?_,?_⟩⟩
 ·exact(((hm h0).1.lower hF.size).ia k8 (by decide) g1).ia GY (by decide) g2
 exact(((hm h0).2.lower hF.size).ia k8 (by decide) g1).ia GY (by decide) g2
theorem QO.next{s:St}{ps:List Pt}{k:Nat}{w w6 w7:World}{c0:Array Value}{b8 nu:Nat}{vr v7:Value}{rs:List dp}{x:St}{r:dp}{vn vt nv:Value}(h:VG w c0 b8 nu vr rs x r vn vt nv w6)(h0:r.err=0)(p9:iK s ps (k+1) x (rs++[r])){o:Obj}(hc:Z3 w.heap.size (w6.alloc o) vr (rs++[r]) v7 w7):QO s ps w c0 b8 nu (k+1) v7 w7:=by
 have fa:=aa w6 o;have ty:∀j,vr.ownBlock=some j->∃cs,(w6.alloc o).heap[j]?=some (.cells cs TR (0,0)):=λj hj=>(h.XX.af fa).type hj
 have nt:∀{i:Nat} {cs:Array Value},(w6.alloc o).heap[i]?=some (.cells cs aM (0,0))->¬vr.ownBlock=some i:=λhi e=>by
  obtain⟨_,k1⟩:=ty _ e;exact iw k1 hi (by decide) rfl
 have a8:=fa.heap h.r8 id;have a10:=fa.heap h.KM id;have a_s:=fa.heap h.sb id;have az:=fa.heap h.zb id;obtain⟨m1,m2⟩:=h.Ov h0;refine⟨⟨x,_,vn,vt,p9,hc.fp.heap a8 (nt a8),(m1.af fa).keep hc.fp (λj hj e=>?_),(m2.af fa).keep hc.fp (λj hj e=>?_),hc.own⟩,⟨_,_,_,_,_,hc.fp.heap a10 (λe=>h.ne _ e rfl)⟩,(h.fp.then fa).trans hc.fp (λj hj=>.inr (h.XX.lt j hj).1),hc.fp.heap a_s (nt a_s),hc.fp.heap az (nt az),λj hj e=>?_⟩
 ·obtain⟨_,k1⟩:=ty j e
  obtain⟨_,k2⟩:=(m1.af fa).type hj;exact iw k1 k2 (by decide) rfl
 ·obtain⟨_,k1⟩:=ty j e
  obtain⟨_,k2⟩:=(m2.af fa).type hj;exact iw k1 k2 (by decide) rfl
 rcases hc.new j hj with h1|h1
 ·exact h.ne j h1 e
 have h2:=(Array.getElem?_eq_some_iff.1 h.KM).1;have h3:=fa.size;omega
attribute [local irreducible] wpStill
theorem OT(v lv:Value)(s:St)(l:List (Nat×Pt))(w:World)(hv:tf w v s)(hs:dh s)(hn:s.nodes.length+l.length<=3900)(hm:s.turns.length+l.length<=3900)(hl:Pcs w lv l)(hp:∀q∈l,q.2.path.length<=1000000)(ht:jH w):
  Calls prog 32 #[v,lv] w (OS s v (l.map Prod.snd) w):=by
 obtain⟨vn,vt,rfl,h1,h2⟩:=hv.ex;have me:=λW (f:Fp ab w W)=>nI vn s.nodes W (h1.af f) (by omega)
 have pH:=λW (f:Fp ab w W)=>lO vt s.turns W (h2.af f) (by omega)
 obtain⟨an,cn,rfl⟩:=h1.shape;obtain⟨at_,ct,rfl⟩:=h2.shape;obtain⟨al,cl,rfl⟩:=hl.shape;obtain⟨n,aR⟩:∃n,n=s.nodes.length:=⟨_,rfl⟩;obtain⟨m,jE⟩:∃m,m=s.turns.length:=⟨_,rfl⟩;obtain⟨z,hz⟩:∃z,z=l.length:=⟨_,rfl⟩;rw[<-aR]at me hv h1|-;rw[<-jE]at pH hv h2|-;rw[<-hz]at hl|-;have xB:=zI aR;have XY:=zI jE;have HZ:=zI hz;have SY:=zI me;have S3:=zI pH;have HV:=zI (yI hv (yI hs (yI hl (yI hp (yI ht (yI (show s.nodes.length+l.length<=3900 by omega) (show s.turns.length+l.length<=3900 by omega)))))))
 have f0:=aa w (.cells #[.slice an n cn,.slice at_ m ct] aM);have f1:=aa (w.alloc (.cells #[.slice an n cn,.slice at_ m ct] aM)) (.cells #[.slice none 0 0,.slice none 0 0] aM);have r0:=f1.heap (heap_alloc_new w (.cells #[.slice an n cn,.slice at_ m ct] aM)) id;have r1:=heap_alloc_new (w.alloc (.cells #[.slice an n cn,.slice at_ m ct] aM)) (.cells #[.slice none 0 0,.slice none 0 0] aM);rw[show(w.alloc (.cells #[.slice an n cn,.slice at_ m ct] aM)).heap.size=w.heap.size+1 from by simp]at r1
 have K0:=zI (Kp.and (Kp.fp (f0.then f1)) (Kp.and (Kp.row r0) (Kp.row r1)));clear me pH hv h1 h2 hs hn hm hl hp ht aR jE hz f0 f1 r0 r1;go_enter func32,ntmps32
 go_wp2_with fail
 generalize ((w.alloc (.cells #[.slice an n cn,.slice at_ m ct] aM)).alloc (.cells #[.slice none 0 0,.slice none 0 0] aM))=w0 at *;refine wp_scope_jumps 0 (λa' w'=>∃(i:Nat) (nu:Nat) (er:Int) (c1 c2 c3 c4:Value) (u3 u5 u6 u7 u8 u11 u12 u13 u14 u15 u16 u17 u18 u19 u20 u21 u22 u23 u24 u25 u26 u27 u28 u29 u30 u31 u32 u33 u34 u35 u36 u37 u38 u39 u40 u41 u42 u43 u44 u45 u46 u47:Value),a'={ tmps:=#[.agg #[.slice an n cn,.slice at_ m ct],.slice al z cl,.pointer (some ⟨w.heap.size,0,none⟩),u3,.pointer (some ⟨w.heap.size+1,0,none⟩),u5,u6,u7,u8,.int .i64 i,.pointer (some ⟨nu,0,none⟩),u11,u12,u13,u14,u15,u16,u17,u18,u19,u20,u21,u22,u23,u24,u25,u26,u27,u28,u29,u30,u31,u32,u33,u34,u35,u36,u37,u38,u39,u40,u41,u42,u43,u44,u45,u46,u47],defers:=[] }/\Hid ((∃now rs,iK s (l.map Prod.snd) i now rs/\∃h:i<(l.map Prod.snd).length,(cT now (l.map Prod.snd)[i]).2.err=er/\er≠0)/\Fp ab w w'/\w'.heap[w.heap.size]?=some (.cells #[.slice an n cn,.slice at_ m ct] aM (0,0))/\w'.heap[w.heap.size+1]?=some (.cells #[.slice none 0 0,.slice none 0 0] aM (0,0))/\w'.heap[nu]?=some (.cells #[.int .i64 er,c1,c2,c3,c4] TR (0,0)))) (λ_ _=>0) rfl ?_ ?_
 rotate_left
 ·rintro a' w'⟨i,nu,er,c1,c2,c3,c4,u3,u5,u6,u7,u8,u11,u12,u13,u14,u15,u16,u17,u18,u19,u20,u21,u22,u23,u24,u25,u26,u27,u28,u29,u30,u31,u32,u33,u34,u35,u36,u37,u38,u39,u40,u41,u42,u43,u44,u45,u46,u47,rfl,HJ⟩
  obtain⟨s0,s1⟩:=aI HJ.2.2.1;obtain⟨d0,d1⟩:=aI HJ.2.2.2.1;obtain⟨r0,r1,r2,r3,r4⟩:=ji HJ.2.2.2.2;have z0:=ae HJ.2.2.2.1 0;have z1:=ae HJ.2.2.2.1 1;have lG:=mA HJ.2.2.2.1 (.slice an n cn) (.slice at_ m ct);have xD:=Cq (w.heap.size+1) (.slice an n cn) (.slice at_ m ct) w';have HJS:=zI (yI ((Fp.refl ab _).drew.heap lG id) ((HJ.2.1.trans xD (λj hj=>.inr (by have hj:j=w.heap.size+1:=hj;omega))).then (Fp.refl ab _).drew))
  have rs:=xD.heap HJ.2.2.2.2 (λe=>iw HJ.2.2.2.2 HJ.2.2.2.1 (by decide) e)
  obtain⟨rs0,_,_,_,_⟩:=ji rs;clear lG xD rs;go_wp2_with fail
  go_region
  all_goals
   clear rs0 d0 d1 z0 z1 r0 r1 r2 r3 r4 s0 s1;generalize ((World.setCell w' _ _).setCell _ _).drew=wz at *;obtain⟨t0,t1⟩:=aI HJS.1;go_wp2_with fail
   simp only[Exit.jump]
   refine bodyPost_ret (v:=.tuple #[.agg #[.slice an n cn,.slice at_ m ct],.slice none 0 0,.int .i64 er,.int .i64 i]) (by simp[results,results32,go_sem,t0,t1]) rfl ?_
   obtain⟨now,rs,h1,h2,h3,h4⟩:=HJ.1;exact⟨.inr ⟨i,now,rs,h1,h2,by rw[h3];exact h4,by rw[h3]⟩,HJS.2⟩
 go_upto_region 1 with (fail)
 go_cut [8,9] from 12 to 19 (λx8 x9 wc=>∃b6 XZ X0 X1 X2,x8=.pointer (some ⟨b6,0,none⟩)/\x9=.int .i64 0/\Hid (w0.heap.size<=b6/\Kp (λW=>(Fp ab w W/\W.heap[w.heap.size]?=some (.cells #[.slice an n cn,.slice at_ m ct] aM (0,0))/\W.heap[w.heap.size+1]?=some (.cells #[.slice none 0 0,.slice none 0 0] aM (0,0)))/\W.heap[b6]?=some (.cells #[.slice XZ n X0,.slice X1 m X2] aM (0,0))/\Ow w0.heap.size W (.slice XZ n X0) s.nodes/\ey w0.heap.size W (.slice X1 m X2) s.turns) wc))
 case first=>
  have QP:=zI (K0.later (Fp.refl ab w0).drew);have Hq:=zI (λW (f:Fp ab w0.drew W)=>aI (QP.later f).now.2.1)
  have Jr:=zI (λW (f:Fp ab w0.drew W)=>SY W (QP.now.1.then f))
  have MK:=zI (λW (f:Fp ab w0.drew W)=>S3 W (QP.now.1.then f))
  have X3:=zI (xA.start w0.drew);go_wp2_with fail
  refine wp_region_held_drew (S:=(λw'=>w'.cell? ⟨w.heap.size,0,none⟩=some (.slice an n cn)/\w'.cell? ⟨w.heap.size,1,none⟩=some (.slice at_ m ct))) (by kernel_rfl) ?_ (λhH=>?_)
  ·exact Hq _ (Fp.refl _ _)
  have rI:Hid (w0.heap.size=w0.drew.heap.size):=rfl;generalize w0.drew=u0 at *;refine tk 0 hH ?_;refine tk 1 hH ?_;refine tk 3 hH ?_;refine tk 4 hH ?_;refine wpAnyH_ready (rs:=[2,7]) (by kernel_rfl) (by simp) ?_
  refine(AllReadyH.cons (o:=?_) (by simp only[zA,zB,zC]<;>exact rfl) (λK hK=>?_) (AllReadyH.cons (o:=?_) (by simp only[zA,zB,zC]<;>exact rfl) (λK hK=>?_) AllReadyH.nil))
  ·go_simp
   go_at_call 67
   refine(Jr u0 X3.f).mono ?_;rintro e u1⟨v1,rfl,hR⟩;have S8:=zI (X3.GX hR);obtain⟨a1,c1,lD⟩:=S8.n.ns.shape;rw[<-xB.out]at lD;subst lD;clear hR;go_wp2_with fail
   refine hK _ _ (Hq _ S8.f) (λhH=>?_)
   clear hK K;try simp only[zz]
   refine wpAnyH_ready (rs:=[5,7]) (by kernel_rfl) (by simp) ?_
   refine(AllReadyH.cons (o:=?_) (by simp only[zA,zB,zC]<;>exact rfl) (λK hK=>?_) (AllReadyH.cons (o:=?_) (by simp only[zA,zB,zC]<;>exact rfl) (λK hK=>?_) AllReadyH.nil))
   ·go_simp
    go_at_call 68
    refine(MK u1 S8.f).mono ?_;rintro e u2⟨v2,rfl,hR⟩;have X4:=zI (S8.Ak hR);obtain⟨a2,c2,lD⟩:=X4.t.ns.shape;rw[<-XY.out]at lD;subst lD;clear hR;go_wp2_with fail
    refine hK _ _ (Hq _ X4.f) (λhH=>?_)
    clear hK K;try simp only[zz]
    refine tk 6 hH ?_;refine rY 7 λK hK=>?_
    go_simp;have OU:=zI X4.box;refine hK _ _ (Hq _ OU.f) (λhH=>?_)
    clear hK K;try simp only[zz]
    obtain⟨b6,mK⟩:∃q,u2.heap.size=q:=⟨_,rfl⟩;rw[mK]at OU|-;clear mK;generalize (u2.alloc (.cells #[.slice none 0 0,.slice none 0 0] aM))=u3 at *;obtain⟨y0,y1⟩:=aI (OU.x rfl).2;have z0:=ae (OU.x rfl).2 0;have z1:=ae (OU.x rfl).2 1;have tF:=zI OU.zt;refine rY 8 λK hK=>?_
    go_simp;refine hK _ _ (Hq _ tF.1) (λhH=>?_)
    clear hK K y0 y1 z0 z1;try simp only[zz]
    refine rY 9 λK hK=>?_
    go_simp;refine hK _ _ (Hq _ tF.1) (λhH=>?_)
    clear hK K;try simp only[zz]
    refine yD ?_;go_wp2_with fail
    go_meet
    case rel=>exact⟨b6,_,_,_,_,rfl,rfl,by rw[rI.out];exact(OU.x rfl).1,QP.later tF.1|>.and (Kp.and (Kp.row tF.2.1) (Kp.and (Kp.ow (by rw[rI.out];exact tF.2.2.1)) (Kp.XW (by rw[rI.out];exact tF.2.2.2))))⟩
   go_simp;have VH:=zI S8.box;refine hK _ _ (Hq _ VH.f) (λhH=>?_)
   clear hK K;try simp only[zz]
   obtain⟨b6,mK⟩:∃q,u1.heap.size=q:=⟨_,rfl⟩;rw[mK]at VH|-;clear mK;generalize (u1.alloc (.cells #[.slice none 0 0,.slice none 0 0] aM))=u4 at *;refine rY 5 λK hK=>?_
   go_simp;go_at_call 68
   refine(MK u4 VH.f).mono ?_;rintro e u5⟨v5,rfl,hR⟩;have OV:=zI (VH.Ak hR);obtain⟨a5,c5,lD⟩:=OV.t.ns.shape;rw[<-XY.out]at lD;subst lD;clear hR;go_wp2_with fail
   refine hK _ _ (Hq _ OV.f) (λhH=>?_)
   clear hK K;try simp only[zz]
   refine tk 6 hH ?_;obtain⟨y0,y1⟩:=aI (OV.x rfl).2;have z0:=ae (OV.x rfl).2 0;have z1:=ae (OV.x rfl).2 1;have tF:=zI OV.zt;refine rY 8 λK hK=>?_
   go_simp;refine hK _ _ (Hq _ tF.1) (λhH=>?_)
   clear hK K y0 y1 z0 z1;try simp only[zz]
   refine rY 9 λK hK=>?_
   go_simp;refine hK _ _ (Hq _ tF.1) (λhH=>?_)
   clear hK K;try simp only[zz]
   refine yD ?_;go_wp2_with fail
   go_meet
   case rel=>exact⟨b6,_,_,_,_,rfl,rfl,by rw[rI.out];exact(OV.x rfl).1,QP.later tF.1|>.and (Kp.and (Kp.row tF.2.1) (Kp.and (Kp.ow (by rw[rI.out];exact tF.2.2.1)) (Kp.XW (by rw[rI.out];exact tF.2.2.2))))⟩
  go_simp;have VI:=zI X3.box;refine hK _ _ (Hq _ VI.f) (λhH=>?_)
  clear hK K;try simp only[zz]
  obtain⟨b6,mK⟩:∃q,u0.heap.size=q:=⟨_,rfl⟩;rw[mK]at VI|-;clear mK;generalize (u0.alloc (.cells #[.slice none 0 0,.slice none 0 0] aM))=u6 at *;refine rY 2 λK hK=>?_
  go_simp;go_at_call 67
  refine(Jr u6 VI.f).mono ?_;rintro e u7⟨v7,rfl,hR⟩;have VJ:=zI (VI.GX hR);obtain⟨a7,c7,lD⟩:=VJ.n.ns.shape;rw[<-xB.out]at lD;subst lD;clear hR;go_wp2_with fail
  refine hK _ _ (Hq _ VJ.f) (λhH=>?_)
  clear hK K;try simp only[zz]
  refine rY 5 λK hK=>?_
  go_simp;go_at_call 68
  refine(MK u7 VJ.f).mono ?_;rintro e u8⟨v8,rfl,hR⟩;have OW:=zI (VJ.Ak hR);obtain⟨a8,c8,lD⟩:=OW.t.ns.shape;rw[<-XY.out]at lD;subst lD;clear hR;go_wp2_with fail
  refine hK _ _ (Hq _ OW.f) (λhH=>?_)
  clear hK K;try simp only[zz]
  refine tk 6 hH ?_;obtain⟨y0,y1⟩:=aI (OW.x rfl).2;have z0:=ae (OW.x rfl).2 0;have z1:=ae (OW.x rfl).2 1;have tF:=zI OW.zt;refine rY 8 λK hK=>?_
  go_simp;refine hK _ _ (Hq _ tF.1) (λhH=>?_)
  clear hK K y0 y1 z0 z1;try simp only[zz]
  refine rY 9 λK hK=>?_
  go_simp;refine hK _ _ (Hq _ tF.1) (λhH=>?_)
  clear hK K;try simp only[zz]
  refine yD ?_;go_wp2_with fail
  go_meet
  case rel=>exact⟨b6,_,_,_,_,rfl,rfl,by rw[rI.out];exact(OW.x rfl).1,QP.later tF.1|>.and (Kp.and (Kp.row tF.2.1) (Kp.and (Kp.ow (by rw[rI.out];exact tF.2.2.1)) (Kp.XW (by rw[rI.out];exact tF.2.2.2))))⟩
 obtain⟨b6,XZ,X0,X1,X2,rfl,rfl,HC⟩:=hcut;have Al:w.heap.size+1<w0.heap.size:=(Array.getElem?_eq_some_iff.1 K0.now.2.2).1;have fb:=aa wc (.cells #[.int .i64 0,.string ⟨#[]⟩,.string ⟨#[]⟩,.int .i64 0,.slice none 0 0] TR);have rb:=heap_alloc_new wc (.cells #[.int .i64 0,.string ⟨#[]⟩,.string ⟨#[]⟩,.int .i64 0,.slice none 0 0] TR);have pC:b6<wc.heap.size:=(Array.getElem?_eq_some_iff.1 HC.2.now.2.1).1;have Qv:w.heap.size+1<b6:=Nat.lt_of_lt_of_le Al HC.1;have OX:Hid (w.heap.size+1<b6/\w.heap.size+1<wc.heap.size):=⟨Qv,Nat.lt_trans Qv pC⟩;have hk:=(HC.2.later fb).now
 have H0:Hid (QO s (l.map Prod.snd) w #[.slice an n cn,.slice at_ m ct] b6 wc.heap.size 0 (.slice none 0 0) (wc.alloc (.cells #[.int .i64 0,.string ⟨#[]⟩,.string ⟨#[]⟩,.int .i64 0,.slice none 0 0] TR))):=
  ⟨⟨s,[],_,_,.zero,hk.2.1,hk.2.2.1.lower (Nat.le_of_lt (Nat.lt_of_succ_lt Al)),hk.2.2.2.lower (Nat.le_of_lt (Nat.lt_of_succ_lt Al)),oW.nil _ _⟩,⟨_,_,_,_,_,rb⟩,hk.1.1,hk.1.2.1,hk.1.2.2,λj hj=>by simp[Value.ownBlock]at hj⟩
 have zh:z<=3900:=by rw[HZ.out];have:=HV.2.2.2.2.2.1;omega
 clear K0 SY S3 Al fb rb pC Qv hk HC;go_wp2_with fail
 generalize wc.heap.size=nu at *;generalize (World.alloc wc _)=w3 at *;go_loopw [11,21] (λvr i wr=>∃k:Nat,k<=z/\i=.int .i64 k/\Hid (QO s (l.map Prod.snd) w #[.slice an n cn,.slice at_ m ct] b6 nu k vr wr)) (λ_ i _=>z-(RowKit.intOf i).toNat)
 case atStart=>exact⟨0,Nat.zero_le _,rfl,H0⟩
 clear H0;obtain⟨k,hk,rfl,hR⟩:=hrel;rename_i wr _
 obtain⟨now,rs,vn8,vt8,p9,GZ,QQ,Jq,Dz⟩:=hR.ex;obtain⟨x0,x1,x2,x3,x4,fB⟩:=hR.rb;obtain⟨VK,VL,rfl⟩:=QQ.ns.shape;obtain⟨at8,VM,rfl⟩:=Jq.ns.shape;obtain⟨ar,cr,rfl⟩:=Dz.shape;obtain⟨n8,uV⟩:∃q,q=now.nodes.length:=⟨_,rfl⟩;obtain⟨m8,X5⟩:∃q,q=now.turns.length:=⟨_,rfl⟩;obtain⟨nr,KN⟩:∃q,q=rs.length:=⟨_,rfl⟩;rw[<-uV]at GZ QQ;rw[<-X5]at GZ Jq;rw[<-KN]at Dz hR|-;by_cases ay:k<z
 ·have aS:k<l.length:=by rw[<-HZ.out];exact ay
  have OY:k<(l.map Prod.snd).length:=by rw[List.length_map];exact aS
  obtain⟨g,og,aY,e9,aq⟩:=(HV.2.2.1.af hR.fp).at (by rw[<-HZ.out];omega)
  injection e9 with e1 e2 e3
  subst e1 e3;clear e2;have nJ:=aq k aS;have cC:=HV.2.2.2.1 _ (List.getElem_mem aS);have OZ:=p9.XV HV.2.1;have sq:(l.map Prod.snd)[k]=l[k].2:=List.getElem_map ..;obtain⟨q,hq⟩:∃q,l[k]=q:=⟨_,rfl⟩;rw[hq]at nJ cC sq;obtain⟨qi,yk,yd,yp,ya,yv,yo,yt⟩:=q;have d1:=nJ.get 1 _ rfl;have d2:=nJ.get 2 _ rfl;have d3:=nJ.get 3 _ rfl;have d4:=nJ.get 4 _ rfl;have d5:=nJ.get 5 _ rfl;have d6:=nJ.get 6 _ rfl;have d7:=nJ.get 7 _ rfl;unfold au at d2 d3 d4;simp only at d1 d2 d3 d4 d5 d6 d7 cC sq
  have QR:=λW (f:Fp ab wr W)=>Xs (.agg #[.slice VK n8 VL,.slice at8 m8 VM]) now ⟨yk,yd,yp,ya,yv,yo,yt⟩ W ⟨_,_,rfl,QQ.ns.af f,Jq.ns.af f⟩ (dh.Z8 OZ.1).2 (dh.Z8 OZ.1).1 (by have:=HV.2.2.2.2.2.1;omega) (by have:=HV.2.2.2.2.2.2;omega) cC (HV.2.2.2.2.1.af (hR.fp.then f))
  have xz:∀x r,cT now ⟨yk,yd,yp,ya,yv,yo,yt⟩=(x,r)->r.err=0->iK s (l.map Prod.snd) (k+1) x (rs++[r]):=λx r h h0=>.succ p9 OY (by rw[sq];exact h) h0
  have M3:∀er,(cT now ⟨yk,yd,yp,ya,yv,yo,yt⟩).2.err=er->er≠0->∃now rs,iK s (l.map Prod.snd) k now rs/\∃h:k<(l.map Prod.snd).length,(cT now (l.map Prod.snd)[k]).2.err=er/\er≠0:=λer h h0=>⟨now,rs,p9,OY,by rw[sq];exact h,h0⟩
  have rP:rs.length<=4000:=by have:=p9.len;have:=HV.2.2.2.2.2.1;omega
  have oZ:g<w.heap.size:=by
   obtain⟨g2,og2,X6,e9,fG⟩:=HV.2.2.1.at (by rw[<-HZ.out];omega)
   injection e9 with e1 e2 e3
   injection e1 with e1
   injection e1 with e1 _ _
   subst e1;have h0:=(fG k aS).get 0 _ rfl;exact World.block_lt_of_cell? w _ h0
  obtain⟨nx,ou⟩:∃nx,(cT now ⟨yk,yd,yp,ya,yv,yo,yt⟩).1=nx:=⟨_,rfl⟩;obtain⟨rq,VN⟩:∃rq,(cT now ⟨yk,yd,yp,ya,yv,yo,yt⟩).2=rq:=⟨_,rfl⟩;have oj:=xz nx rq (Prod.ext ou VN);have SS:=M3 rq.err (by rw[VN])
  rw[ou,VN]at QR;have VO:=zI QR;have HS:=zI (yI oj (yI SS (yI rP oZ)));have HF:=zI (yI hR.fp (yI hR.sb (yI hR.zb (yI GZ (yI fB (yI Dz hR.ne))))));have HL:=zI ay;have HX:=zI (show Fp ab wr wr from Fp.refl _ _);have q3:((k:Int)<(z:Int))=True:=eq_true (by omega)
  have q4:(k<z)=True:=eq_true ay;have O0:=zI (yI d1 (yI d2 (yI d3 (yI d4 (yI d5 (yI d6 d7))))));obtain⟨y0,y1⟩:=aI GZ;clear aq nJ cC OZ sq hq QR xz M3 rP oZ ou VN oj SS GZ fB Dz QQ Jq p9 ay aS OY hR uV X5 KN d1 d2 d3 d4 d5 d6 d7;clear HX;have Hq:=zI (λ(W:World) (T:Nat->Prop) (f:Fp T wr W) (hT:¬T g)=>yI (f.cell O0.1 hT) (yI (f.cell O0.2.1 hT) (yI (f.cell O0.2.2.1 hT) (yI (f.cell O0.2.2.2.1 hT) (yI (f.cell O0.2.2.2.2.1 hT) (yI (f.cell O0.2.2.2.2.2.1 hT) (f.cell O0.2.2.2.2.2.2 hT)))))))
  go_upto_region 7 with (fail)
  have mj:=zI (Fp.refl ab wr).drew;refine wp_region_held_drew (S:=(λw'=>w'.cell? ⟨g,og+k*8+1,none⟩=some (.int .i64 yk)/\w'.cell? ⟨g,og+k*8+2,none⟩=some (.string (B yd))/\w'.cell? ⟨g,og+k*8+3,none⟩=some (.string (B yp))/\w'.cell? ⟨g,og+k*8+4,none⟩=some (.string (B ya))/\w'.cell? ⟨g,og+k*8+5,none⟩=some (.int .i64 yv)/\w'.cell? ⟨g,og+k*8+6,none⟩=some (.int .i64 yo)/\w'.cell? ⟨g,og+k*8+7,none⟩=some (.bool yt))) (by kernel_rfl) ?_ (λhH=>?_)
  ·exact Hq _ _ mj id
  clear y0 y1;have O1:=zI (mj.heap HF.2.2.2.1 id);obtain⟨y0,y1⟩:=aI O1.out;generalize wr.drew=wd at *;refine tk 1 hH ?_;refine tk 2 hH ?_;refine tk 3 hH ?_;refine tk 4 hH ?_;refine tk 5 hH ?_;refine rY 0 λK hK=>?_
  go_simp;refine hK _ _ (Hq _ _ mj id) (λhH=>?_)
  clear hK K y0 y1;try simp only[zz]
  refine rY 6 λK hK=>?_
  go_simp;go_at_call 69
  refine(VO _ mj.out).mono ?_;rintro e w5 hD;obtain⟨vn9,vt9,nv,rfl,MI,cP,M4⟩:=hD.both;have O2:=zI hD.fp;have HM:=zI (VG.of (mj.heap HF.2.2.2.1 id) (mj.heap HF.2.2.2.2.1 id) (HF.1.then mj.out) (mj.heap HF.2.1 id) (mj.heap HF.2.2.1 id) (HF.2.2.2.2.2.1.af mj.out) HF.2.2.2.2.2.2 OX.1 OX.2 hD.fp cP M4);have O1:=zI (hD.fp.heap (mj.heap HF.2.2.2.1 id) id);have O3:=zI (hD.fp.heap (mj.heap HF.2.2.2.2.1 id) id);obtain⟨jB,iA,e9,h1,h2⟩:=MI.ex;injection e9 with e9
  injection e9 with e9
  injection e9 with e1 e9
  injection e9 with e2 _
  subst e1 e2;obtain⟨an9,cn9,rfl⟩:=h1.shape;obtain⟨at9,ct9,rfl⟩:=h2.shape;obtain⟨na9,nc9,rfl⟩:=cP.shape;clear hD MI cP M4 h1 h2;unfold au at HM|-;go_wp2_with fail
  refine hK _ _ (Hq _ _ (mj.then O2.out) id) (λhH=>?_)
  clear hK K;try simp only[zz]
  refine tk 7 hH ?_;refine tk 8 hH ?_;refine tk 9 hH ?_;have VQ:g≠b6/\g≠nu:=by have:=HS.2.2.2;have:=OX.out;exact⟨by omega,by omega⟩
  have VR:=Cq b6 (.slice an9 nx.nodes.length cn9) (.slice at9 nx.turns.length ct9) w5;have te:=zI (Hq _ (λj=>j=b6) ((mj.then O2.out).j8 VR) VQ.1)
  have GY:=VR.heap O3 (λe=>iw O1 O3 (by decide) e.symm)
  have Am:=zI GY;have yX:=zI (Hq _ (λj=>j=b6\/j=nu) ((((mj.then O2.out).j8 VR).mono (λ_ h=>.inl h)).same ((SX GY (.int .i64 rq.err) (.string (B rq.path)) (.string (B rq.data)) (.int .i64 rq.aX) (.slice na9 rq.names.length nc9)).mono (λ_ h=>.inr h))) (λh=>h.elim VQ.1 VQ.2))
  obtain⟨y0,y1⟩:=aI O1.out;have z0:=ae O1.out 0;have z1:=ae O1.out 1;clear GY VR VQ;refine rY 10 λK hK=>?_
  go_simp;refine hK _ _ te (λhH=>?_)
  clear hK K y0 y1 z0 z1;try simp only[zz]
  obtain⟨r0,r1,r2,r3,r4⟩:=ji Am.out;have z0:=ae Am.out 0;have z1:=ae Am.out 1;have z2:=ae Am.out 2;have z3:=ae Am.out 3;have z4:=ae Am.out 4;refine rY 11 λK hK=>?_
  go_simp;refine hK _ _ yX (λhH=>?_)
  clear hK K r0 r1 r2 r3 r4 z0 z1 z2 z3 z4 hH;try simp only[zz]
  refine yD ?_;clear Am te yX O1 O3;go_upto_region 8 with (fail)
  unfold SV VF at HM;generalize (((((((World.setCell w5 _ _).setCell _ _).setCell _ _).setCell _ _).setCell _ _).setCell _ _).setCell _ _)=w6 at *;obtain⟨re,rp,rd,rv,rn⟩:=rq;simp only at HM HS|-
  obtain⟨b0,b1,b2,b3,b4⟩:=ji HM.KM;unfold au at b1 b2;simp only at b0 b1 b2 b3 b4
  by_cases rZ:re=0
  ·have e1:(re != 0)=false:=by simp[rZ]
   have e2:(re == 0)=true:=beq_iff_eq.2 rZ;have e3:(re=0)=True:=eq_true rZ;have HRE:=zI rZ;have KO:=Kd w6 w.heap.size (.slice ar nr cr) rs ⟨re,rp,rd,rv,rn⟩ na9 nc9 EF HM.XX (by have:=HS.2.2.1;omega) HM.fp.size HM.own
   unfold au at KO;simp only at KO
   have X7:=zI KO;clear KO rZ;go_wp2_with (at_builtin;go_must (refine aG rfl _ _ _ _ rfl _ _ rfl rfl _ X7.out ?_))
   intro v7 w7 hc;have hM:Hid (QO s (l.map Prod.snd) w #[.slice an n cn,.slice at_ m ct] b6 nu (k+1) v7 w7):=QO.next HM HRE (HS.1 HRE.out) hc;clear hc b0 b1 b2 b3 b4;have Ju:=HL.out;go_wp2;go_roundw
   case rel=>exact⟨k+1,by have:=HL.out;omega,by have:=HL.out;go_num,hM⟩
   case measure=>have:=HL.out;simp[RowKit.intOf];omega
  have e1:(re != 0)=true:=by simpa using rZ
  have e2:(re == 0)=false:=beq_eq_false_iff_ne.2 rZ;have e3:(re=0)=False:=eq_false rZ;have O4:=zI (HS.2.1 rZ);clear rZ;go_wp2_with fail
  go_step3
  exact⟨rfl,k,nu,re,_,_,_,_,_,_,_,_,_,_,_,_,_,_,_,_,_,_,_,_,_,_,_,_,_,_,_,_,_,_,_,_,_,_,_,_,_,_,_,_,_,_,_,_,_,_,rfl,O4.out,HM.fp,HM.sb,HM.zb,HM.KM⟩
 have cV:k=z:=by omega
 subst cV;have q3:((k:Int)<(k:Int))=False:=eq_false (by omega)
 have M5:iK s (l.map Prod.snd) (l.map Prod.snd).length now rs:=by rw[List.length_map,<-HZ.out];exact p9
 have xD:=Cq (w.heap.size+1) (.slice VK n8 VL) (.slice at8 m8 VM) wr;have lG:=mA hR.zb (.slice VK n8 VL) (.slice at8 m8 VM);have H6:=zI (yI M5 (yI lG (yI (hR.fp.trans xD (λj hj=>.inr (by have hj:j=w.heap.size+1:=hj;omega))) (yI (QQ.ia hR.zb (by decide) xD) (yI (Jq.ia hR.zb (by decide) xD) (Dz.ia hR.zb (by decide) (by decide) xD))))))
 obtain⟨d0,d1⟩:=aI hR.zb;obtain⟨y0,y1⟩:=aI GZ;have z0:=ae hR.zb 0;have z1:=ae hR.zb 1;clear lG xD p9 M5 QQ Jq Dz GZ fB ay hk hR uV X5 KN;go_wp2_with fail
 clear d0 d1 z0 z1 y0 y1;unfold VF at H6;generalize ((World.setCell wr _ _).setCell _ _)=wz at *;obtain⟨t0,t1⟩:=aI H6.2.1;simp only[Exit.jump]
 refine bodyPost_ret (v:=.tuple #[.agg #[.slice VK n8 VL,.slice at8 m8 VM],.slice ar nr cr,.int .i64 0,.int .i64 0]) (by simp[results,results32,go_sem,t0,t1]) rfl ?_
 exact⟨.inl ⟨now,rs,_,_,H6.1,rfl,⟨_,_,rfl,H6.2.2.2.1.ns,H6.2.2.2.2.1.ns⟩,H6.2.2.2.2.2.rrs⟩,H6.2.2.1⟩
end
section
open Pm
namespace Pm
open Go.Proofs.Tryz
def An(p:Bs):fD:=⟨1,p,[],0,0,false⟩
def pg(p:Bs):List Pe:=[⟨0,⟨1,iC (iC p),iC p,[],0,0,false⟩⟩,⟨0,⟨2,iC p,p,[],0,0,false⟩⟩]
def cm(k i t a:Int)(y:Bool)(ps:List Pe)(pre:Bs)(ep:Int):Cd:=⟨k,i,t,a,y,ps,pre,ep,0,⟨[],[]⟩,[],0,0,[],false⟩
def ja:bQ:=⟨⟨[⟨[47],[],0,0,0⟩],[]⟩,[⟨[47],1,1⟩],[],⟨[],[]⟩,[],[],[]⟩
def dS(h:bQ)(c:Cd):bQ×ck:=if c.id=0\/sZ c.kind=false then bn h c else fK h c
theorem Ta{h:bQ}{c:Cd}(hc:pN c)(hk:c.kind<11):zD h c=dS h c:=s9 (oC hc) hk
def eN:Cd:=cm 1 1 0 0 false (pg [47,97]) [] 0
def xm:Cd:=cm 2 0 5 1 false (pg [47,97,47,98]) [] 0
def EU:Cd:=cm 1 2 0 0 false (pg [47,97,47,99]) [] 0
def vY:Cd:=cm 3 0 5 0 true [] [] 0
def uW:Cd:=cm 5 0 0 0 false [] [47,97] 1
def VS:Cd:=cm 1 3 0 0 false (pg [47,97,47,100]) [] 0
def Ck:=dS ja eN
def mi:=dS Ck.1 eN
def EV:=dS mi.1 xm
def Ao:=dS EV.1 EU
def pO:=dS Ao.1 vY
def xE:=dS pO.1 uW
def lS:=dS xE.1 VS
theorem cA:Ck.2.err=0/\mi.2.err=0/\mi.2.res.length=2/\EV.2.yes=true/\Ao.2.err=131/\pO.2.err=0/\pO.1.st.nodes.length=3/\xE.2.ep=1/\xE.2.st.nodes.length=1/\lS.2.err=131/\lS.1.rg.length=2/\lS.1.hs.length=0:=by
 decide +kernel
theorem iS:∀c∈[eN,xm,EU,vY,uW,VS],pN c:=by
 intro c hc;have aN:Ap ⟨[],[]⟩:=⟨by simp,by simp,⟨by simp,λi j hi=>by simp at hi,by simp,λi j hi=>by simp at hi⟩⟩
 have vX:∀p,qF p []:=λp=>⟨by simp,λk h=>by simp at h⟩
 have pP:∀p,cq ⟨1,iC (iC p),iC p,[],0,0,false⟩=true->cq ⟨2,iC p,p,[],0,0,false⟩=true->lx (pg p):=λp h1 h2=>by
  refine⟨by simp[pg],λk hk=>?_⟩
  have EC:k=0\/k=1:=by simp[pg]at hk;omega
  rcases EC with rfl|rfl
  ·exact⟨by simp[pg],by simp[pg],h1,by simp[pg],λh=>by omega⟩
  exact⟨by simp[pg],by simp[pg],h2,by simp[pg],λ_ _=>by simp[pg]⟩
 have fW:lx []:=⟨by simp,λk h=>by simp at h⟩
 simp only[List.mem_cons,List.not_mem_nil,or_false]at hc
 rcases hc with rfl|rfl|rfl|rfl|rfl|rfl
 all_goals
  refine⟨by decide,by decide,by decide,by decide,by decide,?_,aN,vX _⟩
  first
  |exact pP _ (by decide +kernel) (by decide +kernel)
  |exact fW
end Pm
end
end Go.Proofs.YtgafcelloiagmaaGreatDoor
