/- A text of this proof. -/
import Derived.Test.YtgafcelloiagmaaGreatDoorZCBP
set_option maxHeartbeats 16000000
set_option linter.unusedSimpArgs false
set_option linter.unusedVariables false
set_option maxRecDepth 20000
namespace Go.Proofs.YtgafcelloiagmaaGreatDoor
open Go.Proofs.Tryz
section
open Go.RowKit Pm
attribute [local irreducible] wpStill
theorem Pk(w:World)(v1:Value)(T1:TypeId)(o2:Unit):(((w.alloc (Obj.cells #[v1] T1)).alloc (Obj.cells #[.slice none 0 0,.slice none 0 0] aM)).alloc (Obj.cells #[.slice none 0 0,.slice none 0 0] aM)).heap[w.heap.size]?=some (.cells #[v1] T1 (0,0))/\(((w.alloc (Obj.cells #[v1] T1)).alloc (Obj.cells #[.slice none 0 0,.slice none 0 0] aM)).alloc (Obj.cells #[.slice none 0 0,.slice none 0 0] aM)).heap[w.heap.size+1]?=some (.cells #[.slice none 0 0,.slice none 0 0] aM (0,0))/\(((w.alloc (Obj.cells #[v1] T1)).alloc (Obj.cells #[.slice none 0 0,.slice none 0 0] aM)).alloc (Obj.cells #[.slice none 0 0,.slice none 0 0] aM)).heap[w.heap.size+1+1]?=some (.cells #[.slice none 0 0,.slice none 0 0] aM (0,0)):=by
 have h0:=heap_alloc_new w (Obj.cells #[v1] T1);obtain⟨w1,gV⟩:∃w1,w1=w.alloc (Obj.cells #[v1] T1):=⟨_,rfl⟩;have z1:w1.heap.size=w.heap.size+1:=by rw[gV];simp
 rw[<-gV]at h0|-;have h1:=heap_alloc_new w1 (Obj.cells #[.slice none 0 0,.slice none 0 0] aM);obtain⟨w2,su⟩:∃w2,w2=w1.alloc (Obj.cells #[.slice none 0 0,.slice none 0 0] aM):=⟨_,rfl⟩;have z2:w2.heap.size=w.heap.size+1+1:=by rw[su];simp[z1]
 have f1:Fp ab w1 w2:=by rw[su];exact aa _ _
 rw[<-su,z1]at h1;rw[<-su];have h2:=heap_alloc_new w2 (Obj.cells #[.slice none 0 0,.slice none 0 0] aM);rw[z2]at h2;have f2:=aa w2 (Obj.cells #[.slice none 0 0,.slice none 0 0] aM);exact⟨(f1.then f2).heap h0 id,f2.heap h1 id,h2⟩
structure qI(s:Nat)(v1 v0 v2 v3:Value)(W:World):Prop where
 r0:W.heap[s]?=some (.cells #[v1,v0] aM (0,0))
 r1:W.heap[s+1]?=some (.cells #[v2] bE (0,0))
 r2:W.heap[s+2]?=some (.cells #[v3] 9 (0,0))
 r3:W.heap[s+3]?=some (.cells #[.slice none 0 0,.slice none 0 0] aM (0,0))
 r4:W.heap[s+4]?=some (.cells #[.slice none 0 0,.slice none 0 0] aM (0,0))
theorem qI.keep{s:Nat}{v1 v0 v2 v3:Value}{W W':World}(h:qI s v1 v0 v2 v3 W){S:Nat->Prop}(f:Fp S W W')(hS:∀k,S k->s+5<=k):qI s v1 v0 v2 v3 W':=
 ⟨f.heap h.r0 (λk=>by have:=hS _ k;omega),f.heap h.r1 (λk=>by have:=hS _ k;omega),f.heap h.r2 (λk=>by have:=hS _ k;omega),f.heap h.r3 (λk=>by have:=hS _ k;omega),f.heap h.r4 (λk=>by have:=hS _ k;omega)⟩
theorem lU{W:World}{b:Nat}{T:TypeId}{c0:Value}(h:W.heap[b]?=some (.cells #[c0] T (0,0))):W.cell? ⟨b,0,none⟩=some c0:=by rw[cell_of_row _ _ _ _ _ _ h];rfl
theorem cQ{W:World}{b:Nat}{T:TypeId}{c0 c1:Value}(h:W.heap[b]?=some (.cells #[c0,c1] T (0,0))):W.cell? ⟨b,0,none⟩=some c0/\W.cell? ⟨b,1,none⟩=some c1/\∀o,W.frozen? ⟨b,o,none⟩=false:=
 ⟨by rw[cell_of_row _ _ _ _ _ _ h];rfl,by rw[cell_of_row _ _ _ _ _ _ h];rfl,λo=>by simp[World.frozen?,h]⟩
theorem mN{W:World}{b:Nat}{T:TypeId}{c0 c1 v:Value}(h:W.heap[b]?=some (.cells #[c0,c1] T (0,0))):(W.setCell ⟨b,0,none⟩ v).heap[b]?=some (.cells #[v,c1] T (0,0)):=by rw[heap_setCell_same W b 0 _ T v h];rfl
theorem kJ{W:World}{b:Nat}{T:TypeId}{c0 c1 v:Value}(h:W.heap[b]?=some (.cells #[c0,c1] T (0,0))):(W.setCell ⟨b,1,none⟩ v).heap[b]?=some (.cells #[c0,v] T (0,0)):=by rw[heap_setCell_same W b 1 _ T v h];rfl
theorem kj(W:World)(b o:Nat)(v:Value):Fp (λk=>k=b) W (W.setCell ⟨b,o,none⟩ v):=(Fp.refl (λk=>k=b) W).setCell (p:=⟨b,o,none⟩) (.inl rfl) v
theorem ca{W:World}{b k o:Nat}{v:Value}{ob:Obj}(h:W.heap[k]?=some ob)(bA:k≠b):(W.setCell ⟨b,o,none⟩ v).heap[k]?=some ob:=(kj W b o v).heap h bA
theorem Pl(w:World)(v1 v0 v2 v3:Value):qI w.heap.size v1 v0 v2 v3 (((((w.alloc (Obj.cells #[v1,v0] aM)).alloc (Obj.cells #[v2] bE)).alloc (Obj.cells #[v3] 9)).alloc (Obj.cells #[.slice none 0 0,.slice none 0 0] aM)).alloc (Obj.cells #[.slice none 0 0,.slice none 0 0] aM)):=by
 have h0:=heap_alloc_new w (Obj.cells #[v1,v0] aM);obtain⟨w1,gV⟩:∃w1,w1=w.alloc (Obj.cells #[v1,v0] aM):=⟨_,rfl⟩;have z1:w1.heap.size=w.heap.size+1:=by rw[gV];simp
 rw[<-gV]at h0|-;have h1:=heap_alloc_new w1 (Obj.cells #[v2] bE);obtain⟨w2,su⟩:∃w2,w2=w1.alloc (Obj.cells #[v2] bE):=⟨_,rfl⟩;have z2:w2.heap.size=w.heap.size+2:=by rw[su];simp[z1]
 have f1:Fp ab w1 w2:=by rw[su];exact aa _ _
 rw[<-su,z1]at h1;rw[<-su];have h2:=heap_alloc_new w2 (Obj.cells #[v3] 9);obtain⟨w3,EM⟩:∃w3,w3=w2.alloc (Obj.cells #[v3] 9):=⟨_,rfl⟩;have z3:w3.heap.size=w.heap.size+3:=by rw[EM];simp[z2]
 have f2:Fp ab w2 w3:=by rw[EM];exact aa _ _
 rw[<-EM,z2]at h2;rw[<-EM];have h3:=heap_alloc_new w3 (Obj.cells #[.slice none 0 0,.slice none 0 0] aM);obtain⟨w4,VU⟩:∃w4,w4=w3.alloc (Obj.cells #[.slice none 0 0,.slice none 0 0] aM):=⟨_,rfl⟩;have z4:w4.heap.size=w.heap.size+4:=by rw[VU];simp[z3]
 have f3:Fp ab w3 w4:=by rw[VU];exact aa _ _
 rw[<-VU,z3]at h3;rw[<-VU];have h4:=heap_alloc_new w4 (Obj.cells #[.slice none 0 0,.slice none 0 0] aM);rw[z4]at h4;have f4:=aa w4 (Obj.cells #[.slice none 0 0,.slice none 0 0] aM);exact⟨((((f1.then f2).then f3).then f4).heap h0 id),(((f2.then f3).then f4).heap h1 id),((f3.then f4).heap h2 id),f4.heap h3 id,h4⟩
theorem He{W:World}{b:Nat}{a0 a1:Option Addr}{n0 n1 c0 c1:Nat}(h:W.heap[b]?=some (.cells #[.slice a0 n0 c0,.slice a1 n1 c1] aM (0,0))):oY W b:=
 .inr ⟨_,_,h,jk (by decide) (by decide) (λv hv=>by
  simp at hv
  rcases hv with rfl|rfl<;>exact .inl ⟨_,_,_,rfl⟩)⟩
theorem xG{W:World}{b o:Nat}{v:Value}{a0 a1:Option Addr}{n0 n1 c0 c1:Nat}(h:W.heap[b]?=some (.cells #[.slice a0 n0 c0,.slice a1 n1 c1] aM (0,0))):Bl (λk=>k=b) W (W.setCell ⟨b,o,none⟩ v):=
 ⟨kj W b o v,λk hk=>by have hk:k=b:=hk;subst hk;exact He h⟩
theorem tH(vm:Value)(m:List Hl)(pre d:Bs)(b1 b2:Nat)(w:World)(hv:di w vm m)(hs:BK m)(hd:d.length<=1000000)(h1:w.cell? ⟨b1,0,none⟩=some vm)(h2:w.cell? ⟨b2,0,none⟩=some (.string (B pre))):
  Calls prog 187 #[.string (B d),.pointer (some ⟨b1,0,none⟩),.pointer (some ⟨b2,0,none⟩)] w λe w'=>e=.returned (.bool (jZ m pre d))/\Fp ab w w':=by
 have hr:=sW vm m d w hv hs.n hs.p hd;have MB:=hs.n;cases hb:bk m d m.length with
 |none=>
  have e:jZ m pre d=false:=by unfold jZ;rw[hb];rfl
  rw[e];rw[hb]at hr;have HR:=zI hr;have HC:=zI (yI h1 h2);obtain⟨ao,cap,rfl⟩:=hv.shape;generalize m.length=n at *;clear hr hv hs hd e hb MB;go_enter func187,ntmps187
  go_wp2_with fail
  refine HR.mono ?_;rintro e w1⟨rfl,hf⟩;have HF:=zI hf;have c1:=hf.cell HC.1 id;have c2:=hf.cell HC.2 id;clear hf h1 h2;unfold idx;go_wp2_with fail
  go_quiet (fail)
  go_wp2;go_ret;exact⟨rfl,HF.drewN _⟩
 |some i=>?_
 have hi:=(pR hb).1;have e:jZ m pre d=(m[i].d == pre):=by unfold jZ;rw[hb];simp[List.getElem?_eq_getElem hi]
 rw[e];rw[hb]at hr;obtain⟨g,o,cap,rfl,_,_,_,aq⟩:=hv.at (by omega)
 have aE:=(aq i hi).c0;obtain⟨n,hn⟩:∃n,n=m.length:=⟨_,rfl⟩;rw[<-hn]at hr hi MB h1;generalize m[i].d=y at *;unfold au at aE;have q1:((i:Int) != -1)=true:=by rw[bne_iff_ne];omega
 have q2:((i:Int)<(n:Int))=True:=eq_true (by omega)
 have q3:(i<n)=True:=eq_true hi;have q4:((i:Int) = -1)=False:=eq_false (by omega)
 have q5:((i:Int) == -1)=false:=beq_eq_false_iff_ne.2 (by omega)
 have HR:=zI hr;have HC:=zI (yI h1 (yI h2 aE));clear hr hv hs hd e hb aq hn hi h1 h2 aE;go_enter func187,ntmps187
 have c1:=HC.1;go_wp2_with fail
 refine HR.mono ?_;rintro e w1⟨rfl,hf⟩;have HF:=zI hf;have d1:=hf.cell HC.1 id;have d2:=hf.cell HC.2.1 id;have d3:=hf.cell HC.2.2 id;clear hf c1;unfold idx;go_wp2_with fail
 go_quiet (fail)
 go_wp2;go_ret;exact⟨rfl,HF.drewN _⟩
theorem xH{l a:Bs}(h:parent l=some a):∃p r,split l=some (p::r)/\a=gB (p::r).dropLast:=by
 unfold parent at h;split at h
 ·rename_i p r hs;injection h with h;exact⟨p,r,hs,h.symm⟩
 cases h
theorem DE{p:Bs}:(kept p).length<=1000000:=by
 unfold kept;cases h:parent p with
 |none=>simp
 |some a=>?_
 obtain⟨x,r,h1,rfl⟩:=xH h;have:=dK ((bL _ _).1 h1).1.init;simp only[Option.getD_some];omega
theorem To(w:World)(x:Nd):(w.alloc (Obj.cells #[.string (B x.path),.string (B x.data),.int .i64 x.aX,.int .i64 x.turn,.int .i64 x.own] TN)).cell? ⟨w.heap.size,0,none⟩=some (.string (B x.path))/\(w.alloc (Obj.cells #[.string (B x.path),.string (B x.data),.int .i64 x.aX,.int .i64 x.turn,.int .i64 x.own] TN)).cell? ⟨w.heap.size,1,none⟩=some (.string (B x.data))/\(w.alloc (Obj.cells #[.string (B x.path),.string (B x.data),.int .i64 x.aX,.int .i64 x.turn,.int .i64 x.own] TN)).cell? ⟨w.heap.size,2,none⟩=some (.int .i64 x.aX)/\(w.alloc (Obj.cells #[.string (B x.path),.string (B x.data),.int .i64 x.aX,.int .i64 x.turn,.int .i64 x.own] TN)).cell? ⟨w.heap.size,3,none⟩=some (.int .i64 x.turn)/\(w.alloc (Obj.cells #[.string (B x.path),.string (B x.data),.int .i64 x.aX,.int .i64 x.turn,.int .i64 x.own] TN)).cell? ⟨w.heap.size,4,none⟩=some (.int .i64 x.own):=by
 have h:=heap_alloc_new w (Obj.cells #[.string (B x.path),.string (B x.data),.int .i64 x.aX,.int .i64 x.turn,.int .i64 x.own] TN);exact⟨by rw[cell_of_row _ _ _ _ _ _ h];rfl,by rw[cell_of_row _ _ _ _ _ _ h];rfl,by rw[cell_of_row _ _ _ _ _ _ h];rfl,by rw[cell_of_row _ _ _ _ _ _ h];rfl,by rw[cell_of_row _ _ _ _ _ _ h];rfl⟩
theorem DF(x:Nd)(w:World)(hp:x.path.length<=1000000):Calls prog 190 #[.agg #[.string (B x.path),.string (B x.data),.int .i64 x.aX,.int .i64 x.turn,.int .i64 x.own]] w λe w'=>e=.returned (.string (B (kept x.path)))/\Fp ab w w':=by
 have h1:=λw=>qJ x.path w (cH hp (by omega))
 have hb:=To w x;have HF:=zI (aa w (Obj.cells #[.string (B x.path),.string (B x.data),.int .i64 x.aX,.int .i64 x.turn,.int .i64 x.own] TN));have H1:=zI h1;obtain⟨d0,d1,d2,d3,d4⟩:=hb;cases nL:parent x.path with
 |none=>
  have e:kept x.path=[47]:=by unfold kept;rw[nL];rfl
  rw[e];rw[nL]at H1;clear h1 hp e nL;go_enter func190,ntmps190
  go_wp2_with fail
  refine(H1 _).mono ?_;rintro e w1⟨rfl,hg⟩;have HG:=zI (HF.then hg.fp);clear hg;simp only[Option.isSome_none]
  go_wp2;go_ret;exact⟨rfl,HG.out⟩
 |some a=>?_
 have e:kept x.path=a:=by unfold kept;rw[nL];rfl
 rw[e];rw[nL]at H1;clear h1 hp e nL;go_enter func190,ntmps190
 go_wp2_with fail
 refine(H1 _).mono ?_;rintro e w1⟨rfl,hg⟩;have HG:=zI (HF.then hg.fp);clear hg;simp only[Option.isSome_some,Option.getD_some]
 go_wp2;go_ret;exact⟨rfl,HG.out⟩
theorem Pn(vm:Value)(m:List Hl)(pre:Bs)(x:Nd)(b1 b2 b8:Nat)(w:World)(hv:di w vm m)(hs:BK m)(hp:x.path.length<=1000000)(h1:w.cell? ⟨b1,0,none⟩=some vm)(h2:w.cell? ⟨b2,0,none⟩=some (.string (B pre)))
  (h8:w.cell? ⟨b8,0,none⟩=some (.func (.func 187) #[] #[.pointer (some ⟨b1,0,none⟩),.pointer (some ⟨b2,0,none⟩)])):
  Calls prog 189 #[.agg #[.string (B x.path),.string (B x.data),.int .i64 x.aX,.int .i64 x.turn,.int .i64 x.own],.pointer (some ⟨b8,0,none⟩)] w λe w'=>e=.returned (.bool (jZ m pre (kept x.path)))/\Fp ab w w':=by
 have hk:=λW=>DF x W hp
 have hi:=λW (f:Fp ab w W)=>tH vm m pre (kept x.path) b1 b2 W (hv.af f) hs DE (f.cell h1 id) (f.cell h2 id)
 have fB:=To w x;have bZ:=aa w (Obj.cells #[.string (B x.path),.string (B x.data),.int .i64 x.aX,.int .i64 x.turn,.int .i64 x.own] TN);obtain⟨d0,d1,d2,d3,d4⟩:=fB;have bg:=zI (yI (bZ.cell h8 id) (yI d0 (yI d1 (yI d2 (yI d3 d4)))));have dr:=zI bZ;have HK:=zI hk;have HI:=zI hi;generalize jZ m pre (kept x.path)=bb at *;generalize kept x.path=kp at *;clear hk hi hv hs hp h1 h2 h8 bZ d0 d1 d2 d3 d4;go_enter func189,ntmps189
 go_wp2_with fail
 refine wp_region_held_drew (S:=(λw'=>w'.cell? ⟨b8,0,none⟩=some (.func (.func 187) #[] #[.pointer (some ⟨b1,0,none⟩),.pointer (some ⟨b2,0,none⟩)])/\w'.cell? ⟨w.heap.size,0,none⟩=some (.string (B x.path))/\w'.cell? ⟨w.heap.size,1,none⟩=some (.string (B x.data))/\w'.cell? ⟨w.heap.size,2,none⟩=some (.int .i64 x.aX)/\w'.cell? ⟨w.heap.size,3,none⟩=some (.int .i64 x.turn)/\w'.cell? ⟨w.heap.size,4,none⟩=some (.int .i64 x.own))) (by kernel_rfl) ?_ (λhH=>?_)
 ·exact(by have f:=(Fp.refl ab (w.alloc (Obj.cells #[.string (B x.path),.string (B x.data),.int .i64 x.aX,.int .i64 x.turn,.int .i64 x.own] TN))).drew;exact⟨f.cell bg.1 id,f.cell bg.2.1 id,f.cell bg.2.2.1 id,f.cell bg.2.2.2.1 id,f.cell bg.2.2.2.2.1 id,f.cell bg.2.2.2.2.2 id⟩)
 try simp only[zz]
 refine aF 0 hH ?_;refine aF 1 hH ?_;refine rY 2 (λK hK=>?_)
 go_simp;go_at_call 190
 refine(HK _).mono ?_;rintro e w1⟨rfl,f1⟩;have dQ:=zI (yI (f1.cell hH.1 id) (yI (f1.cell hH.2.1 id) (yI (f1.cell hH.2.2.1 id) (yI (f1.cell hH.2.2.2.1 id) (yI (f1.cell hH.2.2.2.2.1 id) (f1.cell hH.2.2.2.2.2 id))))));have F1:=zI ((dr.drew).then f1);clear f1;go_wp2_with fail
 refine hK _ _ dQ (λhH=>?_)
 clear hK K;try simp only[zz]
 refine rY 3 (λK hK=>?_)
 go_simp;go_at_call 187
 refine(HI _ F1.out).mono ?_;rintro e w2⟨rfl,f2⟩;have cI:=zI (yI (f2.cell hH.1 id) (yI (f2.cell hH.2.1 id) (yI (f2.cell hH.2.2.1 id) (yI (f2.cell hH.2.2.2.1 id) (yI (f2.cell hH.2.2.2.2.1 id) (f2.cell hH.2.2.2.2.2 id))))));have F2:=zI (F1.then f2);clear f2;go_wp2_with fail
 refine hK _ _ cI (λhH=>?_)
 clear hK K;try simp only[zz]
 refine aF 4 hH ?_;refine yD ?_;go_wp2;go_ret;exact⟨rfl,F2.out⟩
theorem Po(vm:Value)(m:List Hl)(pre:Bs)(x:Tu)(b1 b2 b8:Nat)(w:World)(hv:di w vm m)(hs:BK m)(hp:x.dir.length<=1000000)(h1:w.cell? ⟨b1,0,none⟩=some vm)(h2:w.cell? ⟨b2,0,none⟩=some (.string (B pre)))
  (h8:w.cell? ⟨b8,0,none⟩=some (.func (.func 187) #[] #[.pointer (some ⟨b1,0,none⟩),.pointer (some ⟨b2,0,none⟩)])):
  Calls prog 192 #[.agg #[.string (B x.dir),.int .i64 x.next],.pointer (some ⟨b8,0,none⟩)] w λe w'=>e=.returned (.bool (jZ m pre x.dir))/\Fp ab w w':=by
 have bZ:=aa w (Obj.cells #[.string (B x.dir),.int .i64 x.next] TU);have hi:=tH vm m pre x.dir b1 b2 _ (hv.af bZ) hs hp (bZ.cell h1 id) (bZ.cell h2 id);have h:=heap_alloc_new w (Obj.cells #[.string (B x.dir),.int .i64 x.next] TU);have d0:(w.alloc (Obj.cells #[.string (B x.dir),.int .i64 x.next] TU)).cell? ⟨w.heap.size,0,none⟩=some (.string (B x.dir)):=by rw[cell_of_row _ _ _ _ _ _ h];rfl
 have d8:=bZ.cell h8 id;have dr:=zI bZ;have HI:=zI hi;have gU:Enters prog 187:=enters_of func187 (by kernel_rfl) rfl
 generalize jZ m pre x.dir=bb at *;clear hi hv hs hp h1 h2 h8 bZ h;go_enter func192,ntmps192
 go_wp2_with fail
 try rw[gU _ _]
 try go_wp2_with fail
 refine HI.mono ?_;rintro e w2⟨rfl,f2⟩;have F2:=zI (dr.then f2);clear f2;go_wp2;go_ret;exact⟨rfl,F2.out⟩
structure Tp(s:St)(qn:Nd->Bool)(qt:Tu->Bool)(w:World)(e:Ending)(w':World):Prop where
 ex:∃v1 u1 v2 u2,e=.returned (.tuple #[.agg #[v1,u1],.agg #[v2,u2]])/\Ns w' v1 (s.nodes.filter qn)/\Ts w' u1 (s.turns.filter qt)/\Ns w' v2 (s.nodes.filter (λx=>!qn x))/\Ts w' u2 (s.turns.filter (λx=>!qt x))
 fp:Fp ab w w'
theorem Pp(vn vt vm:Value)(t:St)(m:List Hl)(pre:Bs)(w:World)(hv:Ns w vn t.nodes)(Na:Ts w vt t.turns)(fF:Sp t.nodes)(aN:∀x∈t.turns,x.dir.length<=1000000)(Jy:dB t=true)(hn:t.nodes.length<=40000)(jE:t.turns.length<=40000)(hm:di w vm m)(Pq:BK m)(hr:kT m):
  Calls prog 135 #[.agg #[vn,vt],vm,.string (B pre)] w λe w'=>Tp t (λx=>jZ m pre (kept x.path)) (λx=>jZ m pre x.dir) w e w':=by
 have h1:=λW (f:Fp ab w W)=>j4 (.agg #[vn,vt]) t W ⟨vn,vt,rfl,hv.af f,Na.af f⟩ fF (by omega) aN (by omega)
 rw[Jy]at h1;have h2:=λW (f:Fp ab w W)=>nB vm m W (hm.af f) Pq.p Pq.n
 rw[(dA m).2 hr]at h2;obtain⟨q,hq⟩:∃q:Nd->Bool,q=λx=>jZ m pre (kept x.path):=⟨_,rfl⟩
 obtain⟨qt,Yk⟩:∃q:Tu->Bool,q=λx=>jZ m pre x.dir:=⟨_,rfl⟩
 have h3:=λ(b8:Nat) (b1 b2:Nat) W (f:Fp ab w W) (c1:W.cell? ⟨b1,0,none⟩=some vm) (c2:W.cell? ⟨b2,0,none⟩=some (.string (B pre))) (c8:W.cell? ⟨b8,0,none⟩=some (.func (.func 187) #[] #[.pointer (some ⟨b1,0,none⟩),.pointer (some ⟨b2,0,none⟩)]))=>
  SP vn (.func (.func 189) #[] #[.pointer (some ⟨b8,0,none⟩)]) t.nodes q W (hv.af f) fF
   ⟨_,_,_,rfl,enters_of func189 (by kernel_rfl) rfl,λx w1 hp g=>by
    rw[hq];exact Pn vm m pre x b1 b2 b8 w1 ((hm.af f).af g) Pq hp (g.cell c1 id) (g.cell c2 id) (g.cell c8 id)⟩ hn
 have h4:=λ(b8:Nat) (b1 b2:Nat) W (f:Fp ab w W) (KQ:Ts W vt t.turns) (vm2:di W vm m) (c1:W.cell? ⟨b1,0,none⟩=some vm) (c2:W.cell? ⟨b2,0,none⟩=some (.string (B pre))) (c8:W.cell? ⟨b8,0,none⟩=some (.func (.func 187) #[] #[.pointer (some ⟨b1,0,none⟩),.pointer (some ⟨b2,0,none⟩)]))=>
  SQ vt (.func (.func 192) #[] #[.pointer (some ⟨b8,0,none⟩)]) t.turns qt W KQ aN
   ⟨_,_,_,rfl,enters_of func192 (by kernel_rfl) rfl,λx w1 hp g=>by
    rw[Yk];exact Po vm m pre x b1 b2 b8 w1 (vm2.af g) Pq hp (g.cell c1 id) (g.cell c2 id) (g.cell c8 id)⟩ jE
 rw[<-hq,<-Yk];have Yl:=zI (yI Na hm);obtain⟨ao,cap,rfl⟩:=hv.shape;obtain⟨at',lV,rfl⟩:=Na.shape;obtain⟨am,Tq,rfl⟩:=hm.shape;generalize t.turns.length=tn at *;generalize m.length=mn at *;generalize wu:t.nodes.length=n at *;have H1:=zI h1;have H2:=zI h2;have H3:=zI h3;have H4:=zI h4;clear hv Na fF aN Jy hm Pq hr h1 h2 h3 h4 hq Yk wu;obtain⟨s,hs⟩:∃s,s=w.heap.size:=⟨_,rfl⟩;obtain⟨W1,jM⟩:∃W1,W1=((((w.alloc (Obj.cells #[.slice ao n cap,.slice at' tn lV] aM)).alloc (Obj.cells #[.slice am mn Tq] bE)).alloc (Obj.cells #[.string (B pre)] 9)).alloc (Obj.cells #[.slice none 0 0,.slice none 0 0] aM)).alloc (Obj.cells #[.slice none 0 0,.slice none 0 0] aM):=⟨_,rfl⟩;have f1:Fp ab w W1:=by rw[jM];exact((((aa w _).alloc _).alloc _).alloc _).alloc _
 have hR:Hid (qI s (.slice ao n cap) (.slice at' tn lV) (.slice am mn Tq) (.string (B pre)) W1):=by
  rw[jM,hs];exact Pl w _ _ _ _
 have db:W1.heap.size=s+5:=by rw[jM,hs];simp
 go_enter func135,ntmps135
 go_wp2_with fail
 rw[<-jM];simp only[<-hs]
 have HS:=zI hs;clear jM hs;refine(H1 _ f1).mono ?_;rintro e w1⟨rfl,g1⟩;have F1:=zI (f1.then g1);have R1:=zI (hR.keep g1 (λk h=>h.elim))
 have Ym:s+5<=w1.heap.size:=by have:=g1.size;omega
 have d1:=lU R1.r1;clear g1 f1 hR db;go_wp2_with fail
 refine(H2 _ F1.out).mono ?_;rintro e w2⟨rfl,g2⟩;have F2:=zI (F1.then g2);have R2:=zI (R1.keep g2 (λk h=>h.elim))
 have Tt:s+5<=w2.heap.size:=by have:=g2.size;omega
 clear g2 d1 F1 R1
 -- the closure,the two stores
 obtain⟨W5,QW⟩:∃W5,W5=((w2.alloc (Obj.cells #[.func (.func 187) #[] #[.pointer (some ⟨s+1,0,none⟩),.pointer (some ⟨s+1+1,0,none⟩)]] 118)).alloc (Obj.cells #[.slice none 0 0,.slice none 0 0] aM)).alloc (Obj.cells #[.slice none 0 0,.slice none 0 0] aM):=⟨_,rfl⟩;obtain⟨b8,GZ⟩:∃b,b=w2.heap.size:=⟨_,rfl⟩;have g5:Fp ab w2 W5:=by rw[QW];exact((aa w2 _).alloc _).alloc _
 have R5:=zI (R2.keep g5 (λk h=>h.elim))
 have F5:=zI (F2.then g5)
 have N5:=zI (show W5.heap[b8]?=some (.cells #[.func (.func 187) #[] #[.pointer (some ⟨s+1,0,none⟩),.pointer (some ⟨s+1+1,0,none⟩)]] 118 (0,0))/\W5.heap[b8+1]?=some (.cells #[.slice none 0 0,.slice none 0 0] aM (0,0))/\W5.heap[b8+1+1]?=some (.cells #[.slice none 0 0,.slice none 0 0] aM (0,0)) by
  rw[QW,GZ];exact Pk w2 _ _ ())
 have e1:=(cQ R5.r0).1;rw[QW]at e1;go_wp2_with fail
 rw[<-QW];simp only[<-GZ]
 clear e1;have HW5:=zI QW;clear QW;have hb:s+5<=b8:=by omega
 clear GZ;refine(H3 b8 (s+1) (s+1+1) W5 F5 (lU R5.r1) (lU R5.r2) (lU N5.1)).mono ?_;rintro e w6 hD;obtain⟨v1,v2,rfl,VV,Nb⟩:=hD.ex;obtain⟨a1,k1,rfl⟩:=VV.shape;obtain⟨a2,k2,rfl⟩:=Nb.shape;obtain⟨n1,Aw⟩:∃n,n=(t.nodes.filter q).length:=⟨_,rfl⟩;obtain⟨n2,si⟩:∃n,n=(t.nodes.filter (λp=>!q p)).length:=⟨_,rfl⟩
 rw[<-Aw]at VV|-;rw[<-si]at Nb|-;have Yn:=zI (yI VV Nb);clear Aw si;have F6:=zI (F5.then hD.fp);have R6:=zI (R5.keep hD.fp (λk h=>h.elim))
 have N6:=zI (yI (hD.fp.heap N5.2.1 id) (yI (hD.fp.heap N5.2.2 id) (hD.fp.heap N5.1 id)));clear hD VV Nb HW5 g5 N5 F5 R5 H1 H2 H3 Ym F2 R2
 -- the first two stores into the two stores
 have x1:=cQ N6.1;have x2:=cQ N6.2.1;have y2:=cQ (ca (b:=b8+1) (o:=0) (v:=.slice a1 n1 k1) N6.2.1 (by omega))
 have y0:=cQ (ca (b:=b8+1+1) (o:=0) (v:=.slice a2 n2 k2) (ca (b:=b8+1) (o:=0) (v:=.slice a1 n1 k1) R6.r0 (by omega)) (by omega))
 obtain⟨x10,Yo,x1f⟩:=x1;obtain⟨x20,x21,x2f⟩:=x2;obtain⟨y20,y21,y2f⟩:=y2;obtain⟨_,y01,_⟩:=y0;go_wp2_with fail
 obtain⟨W8,Tv⟩:∃W8,W8=(w6.setCell ⟨b8+1,0,none⟩ (.slice a1 n1 k1)).setCell ⟨b8+1+1,0,none⟩ (.slice a2 n2 k2):=⟨_,rfl⟩;have p8:Fp (λk=>b8+1<=k) w6 W8:=by rw[Tv];exact((kj _ _ _ _).mono (λk h=>by omega)).same ((kj _ _ _ _).mono (λk h=>by omega))
 have m8:=ca (b:=b8+1+1) (o:=0) (v:=.slice a2 n2 k2) (mN (v:=.slice a1 n1 k1) N6.1) (by omega)
 have n8:=mN (v:=.slice a2 n2 k2) (ca (b:=b8+1) (o:=0) (v:=.slice a1 n1 k1) N6.2.1 (by omega))
 have KV:Bl (λk=>k=b8+1) w6 (w6.setCell ⟨b8+1,0,none⟩ (.slice a1 n1 k1)):=xG N6.1
 have KW:Bl (λk=>k=b8+1+1) (w6.setCell ⟨b8+1,0,none⟩ (.slice a1 n1 k1)) W8:=by rw[Tv];exact xG (ca (b:=b8+1) (o:=0) (v:=.slice a1 n1 k1) N6.2.1 (by omega))
 rw[<-Tv]at m8 n8;rw[<-Tv];have R8:=zI (R6.keep p8 (λk h=>by omega))
 have F8:=zI (F6.trans p8 (λk h=>.inr (by have:=HS.out;omega)))
 have Yp:=zI (yI ((Yn.1.off KV).off KW) ((Yn.2.off KV).off KW));have C8:=zI (p8.heap N6.2.2 (λh=>by omega))
 clear x10 Yo x1f x20 x21 x2f y20 y21 y2f y01 Tv p8 F6 R6 KV KW Yn N6;refine(H4 b8 (s+1) (s+1+1) W8 F8 (Yl.1.af F8.out) (Yl.2.af F8.out) (lU R8.r1) (lU R8.r2) (lU C8.out)).mono ?_;rintro e w9 hD;obtain⟨u1,u2,rfl,QX,VW⟩:=hD.ex;obtain⟨b1,j1,rfl⟩:=QX.shape;obtain⟨b2,j2,rfl⟩:=VW.shape;obtain⟨p1,QT⟩:∃n,n=(t.turns.filter qt).length:=⟨_,rfl⟩;obtain⟨p2,oQ⟩:∃n,n=(t.turns.filter (λp=>!qt p)).length:=⟨_,rfl⟩
 rw[<-QT]at QX|-;rw[<-oQ]at VW|-;have Tw:=zI (yI (yI (Yp.1.af hD.fp) (Yp.2.af hD.fp)) (yI QX VW));have MN:=zI (yI (hD.fp.heap m8 id) (hD.fp.heap n8 id));have F9:=zI (F8.then hD.fp);have R9:=zI (R8.keep hD.fp (λk h=>h.elim))
 clear QT oQ hD QX VW m8 n8 F8 R8 Yp C8 H4 Yl;have z1:=cQ MN.1;have z2:=cQ MN.2;have z3:=cQ (ca (b:=b8+1) (o:=1) (v:=.slice b1 p1 j1) MN.2 (by omega))
 obtain⟨z10,z11,z1f⟩:=z1;obtain⟨z20,z21,z2f⟩:=z2;obtain⟨z30,z31,z3f⟩:=z3;go_wp2_with fail
 obtain⟨Wa,Ty⟩:∃Wa,Wa=(w9.setCell ⟨b8+1,1,none⟩ (.slice b1 p1 j1)).setCell ⟨b8+1+1,1,none⟩ (.slice b2 p2 j2):=⟨_,rfl⟩;have pa:Fp (λk=>b8+1<=k) w9 Wa:=by rw[Ty];exact((kj _ _ _ _).mono (λk h=>by omega)).same ((kj _ _ _ _).mono (λk h=>by omega))
 have ma:=ca (b:=b8+1+1) (o:=1) (v:=.slice b2 p2 j2) (kJ (v:=.slice b1 p1 j1) MN.1) (by omega)
 have na:=kJ (v:=.slice b2 p2 j2) (ca (b:=b8+1) (o:=1) (v:=.slice b1 p1 j1) MN.2 (by omega))
 have KV:Bl (λk=>k=b8+1) w9 (w9.setCell ⟨b8+1,1,none⟩ (.slice b1 p1 j1)):=xG MN.1
 have KW:Bl (λk=>k=b8+1+1) (w9.setCell ⟨b8+1,1,none⟩ (.slice b1 p1 j1)) Wa:=by rw[Ty];exact xG (ca (b:=b8+1) (o:=1) (v:=.slice b1 p1 j1) MN.2 (by omega))
 rw[<-Ty]at ma na;rw[<-Ty];have Ra:=zI (R9.keep pa (λk h=>by omega))
 have Fa:=zI (F9.trans pa (λk h=>.inr (by have:=HS.out;omega)))
 have Tz:=zI (yI (yI ((Tw.1.1.off KV).off KW) ((Tw.1.2.off KV).off KW)) (yI ((Tw.2.1.off KV).off KW) ((Tw.2.2.off KV).off KW)));clear z10 z11 z1f z20 z21 z2f z30 z31 z3f Ty pa F9 R9 MN KV KW Tw;have y1:=cQ ma;have y2:=cQ na;have y3:=cQ Ra.r3;have y4:=cQ Ra.r4;obtain⟨GY,y11,_⟩:=y1;obtain⟨y20,y21,_⟩:=y2;obtain⟨y30,y31,y3f⟩:=y3;obtain⟨y40,y41,y4f⟩:=y4;have g3:=mN (v:=.slice a1 n1 k1) Ra.r3;have t3:=kJ (v:=.slice b1 p1 j1) g3;have g4:=ca (b:=s+1+1+1) (o:=1) (v:=.slice b1 p1 j1) (ca (b:=s+1+1+1) (o:=0) (v:=.slice a1 n1 k1) Ra.r4 (by omega)) (by omega)
 have g5:=mN (v:=.slice a2 n2 k2) g4;have t4:=kJ (v:=.slice b2 p2 j2) g5;have t3':=ca (b:=s+1+1+1+1) (o:=1) (v:=.slice b2 p2 j2) (ca (b:=s+1+1+1+1) (o:=0) (v:=.slice a2 n2 k2) t3 (by omega)) (by omega)
 have o1:Bl (λk=>k=s+1+1+1) Wa (Wa.setCell ⟨s+1+1+1,0,none⟩ (.slice a1 n1 k1)):=xG Ra.r3
 have o2:Bl (λk=>k=s+1+1+1) _ ((Wa.setCell ⟨s+1+1+1,0,none⟩ (.slice a1 n1 k1)).setCell ⟨s+1+1+1,1,none⟩ (.slice b1 p1 j1)):=xG g3
 have o3:Bl (λk=>k=s+1+1+1+1) _ (((Wa.setCell ⟨s+1+1+1,0,none⟩ (.slice a1 n1 k1)).setCell ⟨s+1+1+1,1,none⟩ (.slice b1 p1 j1)).setCell ⟨s+1+1+1+1,0,none⟩ (.slice a2 n2 k2)):=xG g4
 have o4:Bl (λk=>k=s+1+1+1+1) _ ((((Wa.setCell ⟨s+1+1+1,0,none⟩ (.slice a1 n1 k1)).setCell ⟨s+1+1+1,1,none⟩ (.slice b1 p1 j1)).setCell ⟨s+1+1+1+1,0,none⟩ (.slice a2 n2 k2)).setCell ⟨s+1+1+1+1,1,none⟩ (.slice b2 p2 j2)):=xG g5
 have NP:Fp ab w (((((Wa.setCell ⟨s+1+1+1,0,none⟩ (.slice a1 n1 k1)).setCell ⟨s+1+1+1,1,none⟩ (.slice b1 p1 j1)).setCell ⟨s+1+1+1+1,0,none⟩ (.slice a2 n2 k2)).setCell ⟨s+1+1+1+1,1,none⟩ (.slice b2 p2 j2)).drew):=by
  have h0:=HS.out;exact((((Fa.setCell (p:=⟨s+1+1+1,0,none⟩) (.inr (by simp;omega)) _).setCell (p:=⟨s+1+1+1,1,none⟩) (.inr (by simp;omega)) _).setCell (p:=⟨s+1+1+1+1,0,none⟩) (.inr (by simp;omega)) _).setCell (p:=⟨s+1+1+1+1,1,none⟩) (.inr (by simp;omega)) _).drew
 have HZ:=zI (yI t3' (yI t4 (yI NP (yI (yI ((((Tz.1.1.off o1).off o2).off o3).off o4) ((((Tz.1.2.off o1).off o2).off o3).off o4)) (yI ((((Tz.2.1.off o1).off o2).off o3).off o4) ((((Tz.2.2.off o1).off o2).off o3).off o4))))));clear t3 t3' t4 NP g3 g4 g5 o1 o2 o3 o4 Tz;go_region
 all_goals
  obtain⟨h3,h4,TA,Yq,Na⟩:=HZ.out;generalize ((((World.setCell Wa _ _).setCell _ _).setCell _ _).setCell _ _)=wz at *;have s0:=(cQ (W:=wz.drew) h3).1;have s1:=(cQ (W:=wz.drew) h3).2.1;have s2:=(cQ (W:=wz.drew) h4).1;have s3:=(cQ (W:=wz.drew) h4).2.1;have fd:Fp ab wz wz.drew:=(Fp.refl ab wz).drew;have HE:=zI (show Tp t q qt w (.returned (.tuple #[.agg #[.slice a1 n1 k1,.slice b1 p1 j1],.agg #[.slice a2 n2 k2,.slice b2 p2 j2]])) wz.drew from⟨⟨_,_,_,_,rfl,Yq.1.af fd,Na.1.af fd,Yq.2.af fd,Na.2.af fd⟩,TA⟩);clear h3 h4 Yq Na TA fd;go_wp2;refine bodyPost_ret (v:=.tuple #[.agg #[.slice a1 n1 k1,.slice b1 p1 j1],.agg #[.slice a2 n2 k2,.slice b2 p2 j2]]) (by simp[results,results135,go_sem,s0,s1,s2,s3]) rfl ?_
  exact HE.out
end
section
namespace Pm
open Go.Proofs.Tryz
theorem xI{l:List Hl}(hu:kB l){x y:Hl}:y∈eP l x↔y=x\/(y∈l/\y.d≠x.d):=by
 induction l with
 |nil=>simp[eP]
 |cons z r ih=>
  rw[gL]at hu;by_cases h1:lt z.d x.d=true
  ·simp only[eP,if_pos h1,List.mem_cons]
   rw[ih hu.2];constructor
   ·rintro(rfl|rfl|⟨h,k⟩)
    ·exact .inr ⟨.inl rfl,gY h1⟩
    ·exact .inl rfl
    exact .inr ⟨.inr h,k⟩
   rintro(rfl|⟨rfl|h,k⟩)
   ·exact .inr (.inl rfl)
   ·exact .inl rfl
   exact .inr (.inr ⟨h,k⟩)
  by_cases h2:z.d=x.d
  ·simp only[eP,if_neg h1,if_pos h2,List.mem_cons]
   constructor
   ·rintro(rfl|h)
    ·exact .inl rfl
    exact .inr ⟨.inr h,λe=>by have:=hu.1 y h;rw[h2,e,lt_irrefl]at this;cases this⟩
   rintro(rfl|⟨rfl|h,k⟩)
   ·exact .inl rfl
   ·exact absurd h2 k
   exact .inr h
  simp only[eP,if_neg h1,if_neg h2,List.mem_cons]
  have h3:lt x.d z.d=true:=lr (by simpa using h1) h2
  constructor
  ·rintro(rfl|rfl|h)
   ·exact .inl rfl
   ·exact .inr ⟨.inl rfl,h2⟩
   exact .inr ⟨.inr h,λe=>by have:=lt_trans h3 (hu.1 y h);rw[e,lt_irrefl]at this;cases this⟩
  rintro(rfl|⟨rfl|h,k⟩)
  ·exact .inl rfl
  ·exact .inr (.inl rfl)
  exact .inr (.inr h)
theorem KX{l:List Hl}(hu:kB l)(x:Hl):kB (eP l x):=by
 induction l with
 |nil=>simp[eP,kB]
 |cons z r ih=>
  have hu0:=hu;rw[gL]at hu;by_cases h1:lt z.d x.d=true
  ·simp only[eP,if_pos h1]
   rw[gL];refine⟨λy hy=>?_,ih hu.2⟩
   rcases (xI hu.2).1 hy with rfl|⟨h,_⟩
   ·exact h1
   exact hu.1 y h
  by_cases h2:z.d=x.d
  ·simp only[eP,if_neg h1,if_pos h2]
   rw[gL];exact⟨λy hy=>by rw[<-h2];exact hu.1 y hy,hu.2⟩
  simp only[eP,if_neg h1,if_neg h2]
  have h3:lt x.d z.d=true:=lr (by simpa using h1) h2
  rw[gL];refine⟨λy hy=>?_,hu0⟩
  rcases List.mem_cons.1 hy with rfl|hy
  ·exact h3
  exact lt_trans h3 (hu.1 y hy)
theorem Hf{l:List Hl}(hu:kB l)(x:Hl):(eP l x).length=if (eX l x.d).isSome=true then l.length else l.length+1:=by
 by_cases h:(eX l x.d).isSome=true
 ·rw[if_pos h,(wH hu h).2,List.length_set]
 rw[if_neg h,wI (by simpa using h)]
 have:=FD l x.d;simp only[List.length_append,List.length_take,List.length_cons,List.length_drop];omega
theorem Ax{l:List Hl}(h:kT l){x:Hl}(hx:nA x=true)(hr:(eX l x.d).isSome=true\/l.length<32):kT (eP l x):=
 ⟨by
   rw[Hf h.up];have:=h.len;rcases hr with hr|hr
   ·rw[if_pos hr];exact this
   split<;>omega,
  λy hy=>by
         rcases (xI h.up).1 hy with rfl|⟨h1,_⟩
         ·exact hx
         exact h.ok y h1,KX h.up x⟩
theorem xJ{l m:List Hl}{x:Hl}(h:mr l x=some m):m=eP l x/\((eX l x.d).isSome=true\/l.length<32):=by
 unfold mr at h;split at h
 ·cases h;exact⟨rfl,by assumption⟩
 cases h
theorem Hg{p q:Bs}(h:lR p q=true):∃a b,split p=some a/\split q=some b/\b <+: a:=by
 unfold lR at h;cases hp:split p with
 |none=>simp[hp]at h
 |some a=>?_
 cases hq:split q with
 |none=>simp[hp,hq]at h
 |some b=>rw[hp,hq]at h;exact⟨a,b,rfl,rfl,List.isPrefixOf_iff_prefix.1 h⟩
theorem Pr{d p:Bs}(h:lR d p=true):nF d=true/\nF p=true:=by
 obtain⟨a,b,ha,hb,_⟩:=Hg h;unfold nF;rw[ha,hb];exact⟨rfl,rfl⟩
theorem DG{l m:List Hl}{p:Bs}(h:ED l p=some m):kT m:=by
 unfold ED at h;cases hp:pick l p with
 |none=>rw[hp]at h;cases h
 |some y=>?_
 rw[hp]at h;simp only at h
 obtain⟨h1,h2,h3⟩:=BN hp;split at h
 ·obtain⟨rfl,hr⟩:=xJ h
  have hy:=h1.ok y h2;unfold nA at hy;simp only[Bool.and_eq_true]at hy
  refine Ax h1 ?_ hr;unfold nA;simp only[Bool.and_eq_true]
  exact⟨⟨(Pr h3).1,hy.1.2⟩,by decide⟩
 cases h
end Pm
open Go.RowKit Pm
attribute [local irreducible] wpStill
theorem Hh(q a x d:Nat)(h:bQ)(c:Cd)(vp vn vt vg:Value)(w:World)(hS:iR w q a x d h)(hc:0<=c.bu/\c.bu<=281474976710656)(hn:h.ds.length<=1000):
  Calls prog 89 #[.pointer (some ⟨q,0,none⟩),.agg (kg c vp vn vt vg)] w (bN q a x d (oT h c.bu c.yes c.ep) w):=by
 have ay:=hS.lt;obtain⟨fS,fT,KY,JA,TB,QY,hP⟩:=hS.ex;obtain⟨v,sq,cP,gj⟩:=hP.ds.look (T:=Ss) Tryz.underlying101 O7 hc;have hF:=Fr.made w c vp vn vt vg;obtain⟨W2,gS⟩:∃W2,W2=(w.alloc (.cells (kg c vp vn vt vg) sr)).alloc (.cells fq aT):=⟨_,rfl⟩;rw[<-gS]at hF;have hq:=λW (f:Fp ab W2 W)=>yI (((hP.af hF.fp).af f).cell 8 (v:=.map (some d)) rfl) (yI ((hF.later f).cell 2 (v:=.int .i64 c.bu) rfl) (sq W (hF.fp.then f)))
 have HQ:=zI hq;have HF:=zI hF;have HP:=zI (yI ay (yI hS (yI hP hc)));clear ay hS hP hc sq hF hq
 obtain⟨y,ep,hv⟩:∃(y:Bool) (ep:Int),v=.agg #[.bool y,.int .i64 ep]:=by
  cases hl:lk h.ds c.bu with
  |none=>exact⟨_,_,cP hl⟩
  |some p=>exact⟨_,_,gj p hl⟩
 subst hv;go_enter func89,ntmps89
 go_wp2_with fail
 rw[<-gS];clear gS;refine wp_region_held_drew (S:=(λw'=>w'.cell? ⟨q,8,none⟩=some (.map (some d))/\w'.cell? ⟨w.heap.size,2,none⟩=some (.int .i64 c.bu)/\(Instr.lookup Ss (.map (some d)) (.int .i64 c.bu) true).run prog w'=.ok (.tuple #[.agg #[.bool y,.int .i64 ep],.bool (lk h.ds c.bu).isSome]) w')) (by kernel_rfl) ?_ (λhH=>?_)
 ·exact HQ _ ((Fp.refl ab _).drew)
 refine aF 0 hH ?_;refine aF 1 hH ?_;refine aF 2 hH ?_;refine aF 3 hH ?_;refine aF 4 hH ?_;refine aF 5 hH ?_;refine aF 6 hH ?_;refine aF 7 hH ?_;refine aF 8 hH ?_;refine aF 9 hH ?_;refine rY 10 (λK hK=>?_)
 go_simp;have uM:=zI (show((World.alloc W2 (.cells #[.bool false,.int .i64 0] Km)).drew).heap[W2.heap.size]?=_ from heap_alloc_new W2 (.cells #[.bool false,.int .i64 0] Km));have nw:=zI ((aa W2 (.cells #[.bool false,.int .i64 0] Km)).drew);go_wp2_with fail
 refine hK _ _ (HQ _ nw.out) (λhH=>?_)
 clear hK K;try simp only[zz]
 generalize ((World.alloc W2 (.cells #[.bool false,.int .i64 0] Km)).drew)=w3 at *;refine rY 11 (λK hK=>?_)
 refine step_st rfl Km _ _ rfl _ _ rfl rfl (aA Tc uM rfl rfl (by intro u hu;simp only[List.mem_cons,List.not_mem_nil,or_false]at hu;rcases hu with rfl|rfl<;>rfl)) ?_
 have qK:=zI (nw.trans (av w3 W2.heap.size #[.bool y,.int .i64 ep]) (λk hk=>.inr (by have hk:k=W2.heap.size:=hk;omega)))
 have tw:=zI (aj (cs:=#[.bool y,.int .i64 ep]) uM.out);refine hK _ _ (HQ _ qK.out) (λhH=>?_)
 clear hK K;try simp only[zz]
 refine aF 12 hH ?_;refine yD ?_;clear uM nw;generalize (World.setRow w3 W2.heap.size #[.bool y,.int .i64 ep])=W3 at *;cases hl:lk h.ds c.bu with
 |some p=>
  have hd:oT h c.bu c.yes c.ep=(h,{ ck.ok with yes:=y,ep:=ep }):=by
   unfold oT;rw[hl];have h1:=gj p hl;unfold Su at h1;have h2:=congrArg (λv=>match v with|Value.agg cs=>cs.toList|_=>[]) h1
   obtain⟨p1,p2⟩:=p;simp at h2
   rw[h2.1,h2.2]
  have HD:=zI hd;clear hd cP gj;have RS:=zI ((HF.later qK.out).rs);obtain⟨b0,b1⟩:=aI tw.out;simp only[Option.isSome_some]
  go_wp2_with (refine ak rfl aT _ _ rfl _ _ rfl rfl (aA bw (cs:=aC { ck.ok with yes:=y,ep:=ep } nS nS nS nS nS) RS rfl rfl (aD ⟨⟨none,0,0,rfl⟩,⟨none,0,0,rfl⟩,⟨none,0,0,rfl⟩,⟨none,0,0,rfl⟩,⟨none,0,0,rfl⟩⟩)) ?_)
  obtain⟨z0,z1,z2,z3,z4,z5,z6,z7,z8,z9⟩:=bj (aj (cs:=aC { ck.ok with yes:=y,ep:=ep } nS nS nS nS nS) RS.out)
  have HE:=zI (bN.fin (r:=(h,{ ck.ok with yes:=y,ep:=ep })) (HF.later qK.out).fp.any RS HP.1 (HP.2.1.af (HF.later qK.out).fp) (ej.ok W3 0 0 y ep))
  generalize World.setRow W3 (w.heap.size+1) (aC { ck.ok with yes:=y,ep:=ep } nS nS nS nS nS)=wz at *
  go_wp2;refine bodyPost_ret (v:=.agg (aC { ck.ok with yes:=y,ep:=ep } nS nS nS nS nS)) (by simp[results,results89,go_sem,z0,z1,z2,z3,z4,z5,z6,z7,z8,z9,aC]) rfl ?_
  rw[HD.out];exact HE.out
 |none=>?_
 have hlen:=((HP.2.2.1.af (HF.later qK.out).fp)).ds.len (T:=Ss) Tryz.underlying101;have c8:=(HP.2.2.1.af (HF.later qK.out).fp).cell 8 (v:=.map (some d)) rfl;have RS:=zI ((HF.later qK.out).rs);simp only[Option.isSome_none]
 obtain⟨n,aR⟩:∃n,n=h.ds.length:=⟨_,rfl⟩;rw[<-aR]at hlen;by_cases h128:n=128
 ·have hd:oT h c.bu c.yes c.ep=(h,.no 2):=by unfold oT;rw[hl];simp[<-aR,h128]
  have HD:=zI hd;have q1:((n:Int)=128)=True:=eq_true (by omega)
  have q2:((n:Int) == 128)=true:=by rw[beq_iff_eq];omega
  have vf:=zI aR;clear hd cP gj hn aR h128 hH;go_wp2_with fail
  refine(bF 2 _).mono ?_;rintro e w4⟨rfl,f4⟩;have F4:=zI (HF.later (qK.then f4));clear f4;go_wp2_with (refine ak rfl aT _ _ rfl _ _ rfl rfl (aA bw (cs:=aC (.no 2) nS nS nS nS nS) F4.rs rfl rfl (aD ⟨⟨none,0,0,rfl⟩,⟨none,0,0,rfl⟩,⟨none,0,0,rfl⟩,⟨none,0,0,rfl⟩,⟨none,0,0,rfl⟩⟩)) ?_)
  obtain⟨z0,z1,z2,z3,z4,z5,z6,z7,z8,z9⟩:=bj (aj (cs:=aC (.no 2) nS nS nS nS nS) F4.rs);have HE:=zI (bN.fin (r:=(h,.no 2)) F4.fp.any F4.rs HP.1 (HP.2.1.af F4.fp) (ej.ok w4 2 0 false 0));generalize World.setRow w4 (w.heap.size+1) (aC (.no 2) nS nS nS nS nS)=wz at *;go_wp2;refine bodyPost_ret (v:=.agg (aC (.no 2) nS nS nS nS nS)) (by simp[results,results89,go_sem,z0,z1,z2,z3,z4,z5,z6,z7,z8,z9,aC]) rfl ?_
  rw[HD.out];exact HE.out
 have q1:((n:Int)=128)=False:=eq_false (by omega)
 have q2:((n:Int) == 128)=false:=by rw[beq_eq_false_iff_ne];omega
 have hd:oT h c.bu c.yes c.ep=({ h with ds:=oR h.ds c.bu (c.yes,c.ep) },{ ck.ok with yes:=c.yes,ep:=c.ep }):=by unfold oT;rw[hl,vb hl];simp[<-aR,h128]
 have HD:=zI hd;have c4:=(HF.later qK.out).cell 4 (v:=.bool c.yes) rfl;have c7:=(HF.later qK.out).cell 7 (v:=.int .i64 c.ep) rfl;have vf:=zI (yI aR hn);clear hd cP gj hn aR h128 hH;go_wp2_with (refine ak rfl Km _ _ rfl _ _ rfl rfl (aA Tc (cs:=#[.bool c.yes,.int .i64 c.ep]) tw rfl rfl (by intro u hu;simp only[List.mem_cons,List.not_mem_nil,or_false]at hu;rcases hu with rfl|rfl<;>rfl)) ?_)
 have F4:=zI (qK.trans (av W3 W2.heap.size #[.bool c.yes,.int .i64 c.ep]) (λk hk=>.inr (by have hk:k=W2.heap.size:=hk;omega)))
 have ls:=zI (aj (cs:=#[.bool c.yes,.int .i64 c.ep]) tw.out);generalize (World.setRow W3 W2.heap.size #[.bool c.yes,.int .i64 c.ep])=W4 at *;have Yr:=zI (HP.2.2.1.af (HF.later F4.out).fp);have kD:=zI (λW (f:Fp ab W4 W)=>yI ((Yr.af f).cell 8 (v:=.map (some d)) rfl) (yI (((HF.later F4.out).later f).cell 2 (v:=.int .i64 c.bu) rfl) (aI (f.heap ls id))))
 have eR:=(Yr.af (Fp.refl ab W4).drew).ds.Ca (T:=Ss) Tryz.underlying101 HP.2.2.2 (Su (c.yes,c.ep)) (c.yes,c.ep) (by have:=vf.2;omega) (λ_ _=>rfl) (λ_ _ _ _ h=>h)
 have Ds:=zI eR;clear eR c8 c4 c7;refine wp_region_held_drew (S:=(λw'=>w'.cell? ⟨q,8,none⟩=some (.map (some d))/\w'.cell? ⟨w.heap.size,2,none⟩=some (.int .i64 c.bu)/\w'.cell? ⟨W2.heap.size,0,none⟩=some (.bool c.yes)/\w'.cell? ⟨W2.heap.size,1,none⟩=some (.int .i64 c.ep))) (by kernel_rfl) ?_ (λhH=>?_)
 ·exact kD _ ((Fp.refl ab _).drew)
 refine aF 0 hH ?_;refine aF 1 hH ?_;refine aF 2 hH ?_;refine aF 3 hH ?_;refine aF 4 hH ?_;refine aF 5 hH ?_;refine aF 6 hH ?_;obtain⟨w5,pO,Nc⟩:=Ds.out;have xK:=zI Nc;have La:=zI pO;clear Nc pO Ds;refine rY 7 (λK hK=>?_)
 refine step_upd rfl Ss _ _ _ rfl _ _ _ rfl rfl rfl La.out ?_;have TC:=HP.1 d (.inr (.inr (.inr rfl)));have db:=HF.fp.size;have Tt:=(Array.getElem?_eq_some_iff.1 HF.rs).1;have Ys:=zI (xK.fp.heap (show W4.drew.heap[W2.heap.size]?=_ from ls.out) (λe=>by have e:W2.heap.size=d:=e;omega))
 have F5:=zI (HF.later F4.out);have RS:=zI (xK.fp.heap (show W4.drew.heap[w.heap.size+1]?=_ from F5.rs) (λe=>by have e:w.heap.size+1=d:=e;omega))
 have CB:=zI (xK.fp.heap (show W4.drew.heap[w.heap.size]?=_ from F5.cb) (λe=>by have e:w.heap.size=d:=e;omega))
 have P5:=zI ((Yr.af (Fp.refl ab W4).drew).X8 xK.out);refine hK _ _ ⟨P5.cell 8 rfl,pQ CB.out 2 rfl,aI Ys.out⟩ (λhH=>?_)
 clear hK K TC db Tt;try simp only[zz]
 refine yD ?_;obtain⟨b0,b1⟩:=aI Ys.out;go_wp2_with (refine ak rfl aT _ _ rfl _ _ rfl rfl (aA bw (cs:=aC { ck.ok with yes:=c.yes,ep:=c.ep } nS nS nS nS nS) RS rfl rfl (aD ⟨⟨none,0,0,rfl⟩,⟨none,0,0,rfl⟩,⟨none,0,0,rfl⟩,⟨none,0,0,rfl⟩,⟨none,0,0,rfl⟩⟩)) ?_)
 obtain⟨z0,z1,z2,z3,z4,z5,z6,z7,z8,z9⟩:=bj (aj (cs:=aC { ck.ok with yes:=c.yes,ep:=c.ep } nS nS nS nS nS) RS.out)
 have HE:=zI (bN.fin (r:=({ h with ds:=oR h.ds c.bu (c.yes,c.ep) },{ ck.ok with yes:=c.yes,ep:=c.ep })) ((F5.fp.drew.any).trans xK.fp (λk hk=>.inl (.inr (.inr (.inr hk))))) RS HP.1 ⟨_,_,_,_,_,_,P5.out⟩ (ej.ok w5 0 0 c.yes c.ep))
 generalize World.setRow w5 (w.heap.size+1) (aC { ck.ok with yes:=c.yes,ep:=c.ep } nS nS nS nS nS)=wz at *
 go_wp2;refine bodyPost_ret (v:=.agg (aC { ck.ok with yes:=c.yes,ep:=c.ep } nS nS nS nS nS)) (by simp[results,results89,go_sem,z0,z1,z2,z3,z4,z5,z6,z7,z8,z9,aC]) rfl ?_
 rw[HD.out];exact HE.out
end
end Go.Proofs.YtgafcelloiagmaaGreatDoor
