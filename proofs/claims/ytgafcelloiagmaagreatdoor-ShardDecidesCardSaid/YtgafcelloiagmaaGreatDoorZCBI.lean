/- A text of this proof. -/
import Derived.Test.YtgafcelloiagmaaGreatDoorZCBF
set_option maxHeartbeats 16000000
set_option linter.unusedSimpArgs false
set_option linter.unusedVariables false
set_option maxRecDepth 20000
namespace Go.Proofs.YtgafcelloiagmaaGreatDoor
open Go.Proofs.Tryz
section
open Go.RowKit Pm
theorem Xs(v:Value)(s:St)(x:Pt)(w:World)(hv:tf w v s)(hs:Sp s.nodes)(aN:∀t∈s.turns,t.dir.length<=1000000)(hn:s.nodes.length<=3900)(dJ:s.turns.length<=3900)(hp:x.path.length<=1000000)(ht:jH w):
  Calls prog 69 #[v,fY x] w (RX w (cT s x).1 (cT s x).2):=by
 obtain⟨vn,vt,rfl,h1,h2⟩:=hv.ex;by_cases h:dB s=true/\cq x=true
 ·rw[jg ((fm s).1 h.1) h.2]
  exact Sf vn vt s x w hv hs aN hn dJ hp ht ((fm s).1 h.1) h.2
 rw[tv h];exact R0 vn vt s x w hv hs aN hn dJ hp h
theorem dh.Z8{s:St}(h:dh s):(∀t∈s.turns,t.dir.length<=1000000)/\Sp s.nodes:=by
 refine⟨λt ht=>?_,dh.sp h⟩
 have:=h.fe t ht;unfold Pm.fe at this;simp only[Bool.and_eq_true]at this
 have:=bT this.1;omega
def du(q:Bs)(x:Pt):Pt:={ x with path:=if x.kind=1 then iC q else q,dir:=bU x.kind (if x.kind=1 then iC q else q) }
def cur(q:Bs)(l:List Pt)(k:Nat):List Pt:=(l.take k).map (du q)++l.drop k
theorem Gx(q:Bs)(l:List Pt)(k:Nat)(hk:k<l.length):bC jl (cur q l k)=bC jl ((l.take k).map (du q))++(jl l[k]++bC jl (l.drop (k+1))):=by
 unfold cur;rw[kG,List.drop_eq_getElem_cons hk,dW]
theorem Gy(q:Bs)(l:List Pt)(k:Nat)(hk:k<l.length):bC jl ((l.take k).map (du q))++(jl (du q l[k])++bC jl (l.drop (k+1)))=bC jl (cur q l (k+1)):=by
 unfold cur;rw[List.take_succ_eq_append_getElem hk,List.map_append,kG,kG,List.append_assoc];simp[bC]
theorem Kq(q:Bs)(l:List Pt)(k:Nat)(hk:k<=l.length):(bC jl ((l.take k).map (du q))).length=k*7:=by
 rw[kH Cj,List.length_map,List.length_take,Nat.min_eq_left hk]
theorem Kr{p:Bs}(h:p.length<=100):(iC p).length<=100:=by
 unfold iC;cases hp:parent p with
 |none=>simp
 |some u=>obtain⟨_,_,_,h1,_⟩:=hZ hp;exact h1
structure R7(G k:Nat)(A C:List Value)(c0 c1 c2 c3 c4 c5 c6:Value)(w:World):Prop where
 row:w.heap[G]?=some (.cells (A++([c0,c1,c2,c3,c4,c5,c6]++C)).toArray TP (0,0))
 len:A.length=k*7
section
variable {G k : Nat} {A C : List Value} {c0 c1 c2 c3 c4 c5 c6 : Value} {w w' : World}
theorem R7.af(h:R7 G k A C c0 c1 c2 c3 c4 c5 c6 w)(f:Fp ab w w'):R7 G k A C c0 c1 c2 c3 c4 c5 c6 w':=⟨f.heap h.row id,h.len⟩
theorem R7.fz(h:R7 G k A C c0 c1 c2 c3 c4 c5 c6 w)(j:Nat):w.frozen? ⟨G,k*7+j,none⟩=false:=ae h.row _
theorem R7.get(h:R7 G k A C c0 c1 c2 c3 c4 c5 c6 w)(j:Nat)(v:Value)(hj:[c0,c1,c2,c3,c4,c5,c6][j]?=some v):w.cell? ⟨G,k*7+j,none⟩=some v:=by
 rw[cell_of_row _ _ _ _ _ _ h.row,List.getElem?_toArray,List.getElem?_append_right (by rw[h.len];omega),h.len,Nat.add_sub_cancel_left]
 rw[List.getElem?_append_left (List.getElem?_eq_some_iff.1 hj).1];exact hj
theorem R7.MV(h:R7 G k A C c0 c1 c2 c3 c4 c5 c6 w):w.cell? ⟨G,k*7,none⟩=some c0:=h.get 0 c0 rfl
theorem R7.EJ(h:R7 G k A C c0 c1 c2 c3 c4 c5 c6 w):w.cell? ⟨G,k*7+1,none⟩=some c1:=h.get 1 c1 rfl
theorem R7.MW(h:R7 G k A C c0 c1 c2 c3 c4 c5 c6 w):w.cell? ⟨G,k*7+2,none⟩=some c2:=h.get 2 c2 rfl
theorem R7.Sv(h:R7 G k A C c0 c1 c2 c3 c4 c5 c6 w)(v:Value):R7 G k A C c0 v c2 c3 c4 c5 c6 (w.setCell ⟨G,k*7+1,none⟩ v):=by
 refine⟨?_,h.len⟩;rw[heap_setCell_same w G (k*7+1) _ TP v h.row,List.setIfInBounds_toArray,List.set_append_right _ _ (by rw[h.len];omega),h.len,Nat.add_sub_cancel_left];rfl
theorem R7.OD(h:R7 G k A C c0 c1 c2 c3 c4 c5 c6 w)(v:Value):R7 G k A C c0 c1 v c3 c4 c5 c6 (w.setCell ⟨G,k*7+2,none⟩ v):=by
 refine⟨?_,h.len⟩;rw[heap_setCell_same w G (k*7+2) _ TP v h.row,List.setIfInBounds_toArray,List.set_append_right _ _ (by rw[h.len];omega),h.len,Nat.add_sub_cancel_left];rfl
end
theorem Sx(l:List Pt)(G g:Nat)(q:Bs)(w:World)(hG:w.heap[G]?=some (.cells (bC jl l).toArray TP (0,0)))(hg:w.cell? ⟨g,1,none⟩=some (.string (B q)))(Z9:g≠G)(hq:q.length<=100)(hl:l.length<=10):
  Calls prog 117 #[.slice (some ⟨G,0,none⟩) l.length l.length,.pointer (some ⟨g,0,none⟩)] w λe w'=>e=.returned (.slice (some ⟨G,0,none⟩) l.length l.length)/\w'.heap[G]?=some (.cells (bC jl (l.map (du q))).toArray TP (0,0))/\Fp (λj=>j=G) w w':=by
 obtain⟨n,hn⟩:∃n,n=l.length:=⟨_,rfl⟩;rw[<-hn];have aa8:n<=10:=by omega
 have HX:=zI (yI hn (yI hg (yI Z9 hq)));have H0:Hid (w.heap[G]?=some (.cells (bC jl (cur q l 0)).toArray TP (0,0))/\Fp (λj=>j=G) w w):=⟨by unfold cur;simpa using hG,Fp.refl _ _⟩
 clear hG hg Z9 hq hl hn;go_enter func117,ntmps117
 go_wp2_with fail
 go_loopw [8] (λi wr=>∃k:Nat,k<=n/\i=.int .i64 k/\Hid (wr.heap[G]?=some (.cells (bC jl (cur q l k)).toArray TP (0,0))/\Fp (λj=>j=G) w wr)) (λi _=>n-(RowKit.intOf i).toNat)
 case atStart=>exact⟨0,Nat.zero_le _,rfl,H0⟩
 clear H0;obtain⟨k,hk,rfl,QG⟩:=hrel;rename_i wr _
 by_cases ay:k<n
 ·have aS:k<l.length:=by rw[<-HX.1];exact ay
  have ba:=QG.1;rw[Gx q l k aS]at ba;have ou:=Gy q l k aS;have hlen:=Kq q l k (Nat.le_of_lt aS);obtain⟨x,hx⟩:∃x,l[k]=x:=⟨_,rfl⟩;rw[hx]at ba ou;obtain⟨kd,dd,p0,da,ve,ow,tt⟩:=x;generalize bC jl ((l.take k).map (du q))=A at *;generalize bC jl (l.drop (k+1))=C at *;have HR:Hid (R7 G k A C (.int .i64 kd) (.string (B dd)) (.string (B p0)) (.string (B da)) (.int .i64 ve) (.int .i64 ow) (.bool tt) wr/\Fp (λj=>j=G) w wr):=⟨⟨ba,hlen⟩,QG.2⟩
  have c0:=HR.1.MV;have c1:=HR.1.EJ;have c2:=HR.1.MW;have z2:=HR.1.fz 2;have g1:=HR.2.cell HX.2.1 HX.2.2.1;have hq:=HX.2.2.2;have HL:=zI ay;have q3:((k:Int)<(n:Int))=True:=eq_true (by omega)
  have q4:(k<n)=True:=eq_true ay;have ng:(g=G)=False:=eq_false HX.2.2.1;have ng2:(G=g)=False:=eq_false (λe=>HX.2.2.1 e.symm)
  clear ba hlen QG ay;by_cases vR:kd=1
  ·subst vR
   have vP:Hid (∀wz,R7 G k A C (.int .i64 1) (.string (B (bU 1 (iC q)))) (.string (B (iC q))) (.string (B da)) (.int .i64 ve) (.int .i64 ow) (.bool tt) wz->wz.heap[G]?=some (.cells (bC jl (cur q l (k+1))).toArray TP (0,0))):=λwz h=>by rw[<-ou];exact h.row
   clear ou;have Ds:=zI (λw=>MX q w (by omega))
   have Jt:=zI (λw=>qy 1 (iC q) w (by have:=Kr hq;omega))
   clear hx hq aS;go_wp2_with fail
   have MY:=zI (yI (HR.2.setCell (S:=λj=>j=G) (p:=⟨G,k*7+2,none⟩) (.inl rfl) (.string (B q))) (HR.1.OD (.string (B q))))
   clear c0 c1 c2 z2;generalize (wr.setCell ⟨G,k*7+2,none⟩ _)=W0 at *;refine(Ds _).mono ?_;rintro e w3⟨rfl,Xt⟩;have tw:=zI (yI (MY.1.trans Xt (λ_ h=>h.elim)) (MY.2.af Xt))
   clear Xt;have z3:=tw.2.fz 2;have c0:=tw.2.MV;have c2:=tw.2.MW;go_wp2_with fail
   have Gz:=zI (yI (tw.1.setCell (S:=λj=>j=G) (p:=⟨G,k*7+2,none⟩) (.inl rfl) (.string (B (iC q)))) (tw.2.OD (.string (B (iC q)))))
   clear c0 c2 z3;generalize (w3.setCell ⟨G,k*7+2,none⟩ _)=W1 at *;have Ks:=zI (yI (Gz.1.trans (Fp.refl ab W1).drew (λ_ h=>h.elim)) (Gz.2.af (Fp.refl ab W1).drew))
   have bg:=zI (yI Ks.2.MV Ks.2.MW);refine wp_region_held_drew (S:=(λw'=>w'.cell? ⟨G,k*7,none⟩=some (.int .i64 1)/\w'.cell? ⟨G,k*7+2,none⟩=some (.string (B (iC q))))) (by kernel_rfl) ?_ (λhH=>?_)
   ·exact bg.out
   generalize W1.drew=wd at *;refine tk 0 hH ?_;refine tk 1 hH ?_;refine tk 2 hH ?_;refine tk 3 hH ?_;refine tk 4 hH ?_;refine tk 5 hH ?_;refine tk 6 hH ?_;refine tk 7 hH ?_;refine tk 8 hH ?_;refine rY 9 λK hK=>?_
   go_simp;go_at_call 119
   refine(Jt _).mono ?_;rintro e w9⟨rfl,xf⟩;have Dt:=zI (yI (Ks.1.trans xf (λ_ h=>h.elim)) (Ks.2.af xf))
   have yX:=zI (yI Dt.2.MV Dt.2.MW);have z9:=Dt.2.fz 1;have Xu:=Dt.2.EJ;have uO:=Dt.2.Sv (.string (B (bU 1 (iC q))));have uI:=zI (yI uO.MV uO.MW);have GC:=zI (yI (Dt.1.setCell (S:=λj=>j=G) (p:=⟨G,k*7+1,none⟩) (.inl rfl) (.string (B (bU 1 (iC q))))) uO)
   clear xf uO;go_wp2_with fail
   refine hK _ _ yX (λhH=>?_)
   clear hK K;try simp only[zz]
   refine tk 10 hH ?_;refine tk 11 hH ?_;refine rY 12 λK hK=>?_
   go_simp;refine hK _ _ uI (λhH=>?_)
   clear hK K z9 Xu;try simp only[zz]
   refine yD ?_;clear hH;generalize (w9.setCell ⟨G,k*7+1,none⟩ _)=wz at *;have hM:Hid (wz.heap[G]?=some (.cells (bC jl (cur q l (k+1))).toArray TP (0,0))/\Fp (λj=>j=G) w wz):=⟨vP wz GC.2,GC.1⟩
   have Ju:=HL.out;go_wp2;go_roundw
   case rel=>exact⟨k+1,by omega,by go_num,hM⟩
   case measure=>simp[RowKit.intOf];omega
  have q5:(kd == 1)=false:=beq_eq_false_iff_ne.2 vR;have q6:(kd=1)=False:=eq_false vR
  have vP:Hid (∀wz,R7 G k A C (.int .i64 kd) (.string (B (bU kd q))) (.string (B q)) (.string (B da)) (.int .i64 ve) (.int .i64 ow) (.bool tt) wz->wz.heap[G]?=some (.cells (bC jl (cur q l (k+1))).toArray TP (0,0))):=λwz h=>by
   rw[<-ou];have e:du q ⟨kd,dd,p0,da,ve,ow,tt⟩=⟨kd,bU kd q,q,da,ve,ow,tt⟩:=by unfold du;simp only[vR,if_false]
   rw[e];exact h.row
  clear ou vR;have Jt:=zI (λw=>qy kd q w (by omega))
  clear hx hq aS;go_wp2_with fail
  have Gz:=zI (yI (HR.2.setCell (S:=λj=>j=G) (p:=⟨G,k*7+2,none⟩) (.inl rfl) (.string (B q))) (HR.1.OD (.string (B q))))
  clear c0 c1 c2 z2;generalize (wr.setCell ⟨G,k*7+2,none⟩ _)=W1 at *;have Ks:=zI (yI (Gz.1.trans (Fp.refl ab W1).drew (λ_ h=>h.elim)) (Gz.2.af (Fp.refl ab W1).drew))
  have bg:=zI (yI Ks.2.MV Ks.2.MW);refine wp_region_held_drew (S:=(λw'=>w'.cell? ⟨G,k*7,none⟩=some (.int .i64 kd)/\w'.cell? ⟨G,k*7+2,none⟩=some (.string (B q)))) (by kernel_rfl) ?_ (λhH=>?_)
  ·exact bg.out
  generalize W1.drew=wd at *;refine tk 0 hH ?_;refine tk 1 hH ?_;refine tk 2 hH ?_;refine tk 3 hH ?_;refine tk 4 hH ?_;refine tk 5 hH ?_;refine tk 6 hH ?_;refine tk 7 hH ?_;refine tk 8 hH ?_;refine rY 9 λK hK=>?_
  go_simp;go_at_call 119
  refine(Jt _).mono ?_;rintro e w9⟨rfl,xf⟩;have Dt:=zI (yI (Ks.1.trans xf (λ_ h=>h.elim)) (Ks.2.af xf))
  have yX:=zI (yI Dt.2.MV Dt.2.MW);have z9:=Dt.2.fz 1;have Xu:=Dt.2.EJ;have uO:=Dt.2.Sv (.string (B (bU kd q)));have uI:=zI (yI uO.MV uO.MW);have GC:=zI (yI (Dt.1.setCell (S:=λj=>j=G) (p:=⟨G,k*7+1,none⟩) (.inl rfl) (.string (B (bU kd q)))) uO)
  clear xf uO;go_wp2_with fail
  refine hK _ _ yX (λhH=>?_)
  clear hK K;try simp only[zz]
  refine tk 10 hH ?_;refine tk 11 hH ?_;refine rY 12 λK hK=>?_
  go_simp;refine hK _ _ uI (λhH=>?_)
  clear hK K z9 Xu;try simp only[zz]
  refine yD ?_;clear hH;generalize (w9.setCell ⟨G,k*7+1,none⟩ _)=wz at *;have hM:Hid (wz.heap[G]?=some (.cells (bC jl (cur q l (k+1))).toArray TP (0,0))/\Fp (λj=>j=G) w wz):=⟨vP wz GC.2,GC.1⟩
  have Ju:=HL.out;go_wp2;go_roundw
  case rel=>exact⟨k+1,by omega,by go_num,hM⟩
  case measure=>simp[RowKit.intOf];omega
 have cV:k=n:=by omega
 subst cV;have q3:((k:Int)<(k:Int))=False:=eq_false (by omega)
 have bf:=QG.1;unfold cur at bf;rw[HX.1,List.take_length,List.drop_length,List.append_nil]at bf;have HF:=zI (yI bf QG.2);clear ay hk bf QG;go_wp2;go_ret;exact⟨rfl,HF.1,HF.2⟩
end
section
open Go.RowKit Pm
structure OE(lo G n cap:Nat)(vw:Value)(ws:List Wt)(L:List aU)(k:Nat)(s':Se)(w w':World):Prop where
 ex:∃L',Cl lo vw (.slice (some ⟨G,0,none⟩) n cap) ws L' w'/\L'.map aU.s=(L.map aU.s).set k s'
 fp:Fs lo w w'
theorem OG(w:World)(lo:Nat)(v:Value)(l:List Ev)(x:Ev)(ty:TypeId)(ho:fU lo w v l)(hn:l.length<=50000)(bq:lo<=w.heap.size):
  ∃v' w',(Builtin.append_ #[zg,zg] ty #[v,.slice (some ⟨w.heap.size,0,none⟩) 1 1]).run prog (w.alloc (.cells #[.int .i64 x.num,.int .i64 x.kind,.string (B x.p),.int .i64 x.wt] TE))=.ok v' w'/\OH lo (w.alloc (.cells #[.int .i64 x.num,.int .i64 x.kind,.string (B x.p),.int .i64 x.wt] TE)) v (l++[x]) v' w':=by
 have hf:=aa w (.cells #[.int .i64 x.num,.int .i64 x.kind,.string (B x.p),.int .i64 x.wt] TE);have hb:=heap_alloc_new w (.cells #[.int .i64 x.num,.int .i64 x.kind,.string (B x.p),.int .i64 x.wt] TE);generalize (w.alloc (.cells #[.int .i64 x.num,.int .i64 x.kind,.string (B x.p),.int .i64 x.wt] TE))=W at *
 obtain⟨v',w',hr,h1,h2,h3⟩:=xj W lo v l [x] ty ⟨w.heap.size,0,none⟩ 1 1 (ho.af hf) rfl (λi hi j u hu=>by
  have dC:i=0:=by simp at hi;omega
  subst dC;rw[Addr.add_lit,cell_of_row _ _ _ _ _ _ hb];rw[show 0+(0*4+j)=j from by omega]
  simpa[GD,au]using hu) (by simp;omega) (Nat.le_trans bq hf.size)
 exact⟨v',w',hr,h1,(Fp.refl _ _).grown h2 (λk hk=>.inl hk),h3⟩
theorem GF{lo G n cap:Nat}{vw:Value}{ws:List Wt}{L:List aU}{w:World}(h:Cl lo vw (.slice (some ⟨G,0,none⟩) n cap) ws L w)(k:Nat)(hk:k<L.length)(kd wt xs xn:Int)(p:Bs)(xe:List Ev)(xa:Option Addr)(xc:Nat)(hx:(⟨⟨xs,xn,xe⟩,xa,xc⟩:aU)=L[k])(bq:lo<=w.heap.size):
  Cl lo vw (.slice (some ⟨G,0,none⟩) n cap) ws (L.set k ⟨⟨xs,xn+1,xe⟩,xa,xc⟩) (World.setCell (World.setCell (w.alloc (.cells #[.int .i64 0,.int .i64 kd,.string (B p),.int .i64 wt] TE)) ⟨G,k*3+1,none⟩ (.int .i64 (xn+1))) ⟨w.heap.size,0,none⟩ (.int .i64 (xn+1)))/\(World.setCell (World.setCell (w.alloc (.cells #[.int .i64 0,.int .i64 kd,.string (B p),.int .i64 wt] TE)) ⟨G,k*3+1,none⟩ (.int .i64 (xn+1))) ⟨w.heap.size,0,none⟩ (.int .i64 (xn+1))).heap[w.heap.size]?=some (.cells #[.int .i64 (xn+1),.int .i64 kd,.string (B p),.int .i64 wt] TE (0,0))/\Fs lo w (World.setCell (World.setCell (w.alloc (.cells #[.int .i64 0,.int .i64 kd,.string (B p),.int .i64 wt] TE)) ⟨G,k*3+1,none⟩ (.int .i64 (xn+1))) ⟨w.heap.size,0,none⟩ (.int .i64 (xn+1)))/\
  (w.alloc (.cells #[.int .i64 0,.int .i64 kd,.string (B p),.int .i64 wt] TE)).frozen? ⟨G,k*3+1,none⟩=false/\(World.setCell (w.alloc (.cells #[.int .i64 0,.int .i64 kd,.string (B p),.int .i64 wt] TE)) ⟨G,k*3+1,none⟩ (.int .i64 (xn+1))).cell? ⟨G,k*3+1,none⟩=some (.int .i64 (xn+1))/\(World.setCell (w.alloc (.cells #[.int .i64 0,.int .i64 kd,.string (B p),.int .i64 wt] TE)) ⟨G,k*3+1,none⟩ (.int .i64 (xn+1))).frozen? ⟨w.heap.size,0,none⟩=false/\(World.setCell (World.setCell (w.alloc (.cells #[.int .i64 0,.int .i64 kd,.string (B p),.int .i64 wt] TE)) ⟨G,k*3+1,none⟩ (.int .i64 (xn+1))) ⟨w.heap.size,0,none⟩ (.int .i64 (xn+1))).heap.size=w.heap.size+1:=by
 obtain⟨hr,hG,hn⟩:=h.Kk;have hGl:=hr.lt;have gV:=aa w (.cells #[.int .i64 0,.int .i64 kd,.string (B p),.int .i64 wt] TE);have rb:=heap_alloc_new w (.cells #[.int .i64 0,.int .i64 kd,.string (B p),.int .i64 wt] TE);have Xv:(w.alloc (.cells #[.int .i64 0,.int .i64 kd,.string (B p),.int .i64 wt] TE)).heap.size=w.heap.size+1:=by simp
 have eN:=h.af gV;obtain⟨Ck,_,_⟩:=eN.Kk
 have fG:=eN.set k 1 hk (by omega) ⟨⟨xs,xn+1,xe⟩,xa,xc⟩ (.int .i64 (xn+1)) (by rw[<-hx];rfl) (by have:=eN.iu _ (List.getElem_mem hk);rw[<-hx]at this;exact this) (λj hj m hm hmk e=>by
  have hp:=List.pairwise_iff_getElem.1 h.apart;have MF:L[k].ev.ownBlock=some j:=by rw[<-hx];exact hj
  rcases Nat.lt_or_gt_of_ne hmk with ay|ay
  ·exact hp m k hm hk ay j e MF
  exact hp k m hk hm ay j MF e)
 have f2:=bd (w.alloc (.cells #[.int .i64 0,.int .i64 kd,.string (B p),.int .i64 wt] TE)) G (k*3+1) (.int .i64 (xn+1));have Xw:=f2.heap rb (λe=>by have e:w.heap.size=G:=e;omega)
 have f3:=bd (World.setCell (w.alloc (.cells #[.int .i64 0,.int .i64 kd,.string (B p),.int .i64 wt] TE)) ⟨G,k*3+1,none⟩ (.int .i64 (xn+1))) w.heap.size 0 (.int .i64 (xn+1));have rb3:=heap_setCell_same (World.setCell (w.alloc (.cells #[.int .i64 0,.int .i64 kd,.string (B p),.int .i64 wt] TE)) ⟨G,k*3+1,none⟩ (.int .i64 (xn+1))) w.heap.size 0 _ TE (.int .i64 (xn+1)) Xw;have ay:∀y∈L,∀j,y.ev.ownBlock=some j->j≠w.heap.size:=λy hy j hj=>by have:=(h.iu y hy).Vs j hj;omega
 have xm:=fG.keep f3 (λj hj e=>by have:=(World.ownsRow.lt h.jj j hj).2;have e:j=w.heap.size:=e;omega) (λj hj e=>by
  have e:j=w.heap.size:=e;have:G=j:=by simpa[Value.ownBlock]using hj
  omega) (λy hy j hj=>by
  rcases List.mem_or_eq_of_mem_set hy with hy|rfl
  ·exact ay y hy j hj
  exact ay L[k] (List.getElem_mem hk) j (by rw[<-hx];exact hj))
 have hft:Fs lo w (World.setCell (World.setCell (w.alloc (.cells #[.int .i64 0,.int .i64 kd,.string (B p),.int .i64 wt] TE)) ⟨G,k*3+1,none⟩ (.int .i64 (xn+1))) ⟨w.heap.size,0,none⟩ (.int .i64 (xn+1))):=by
  have g1:Fs lo w (World.setCell (w.alloc (.cells #[.int .i64 0,.int .i64 kd,.string (B p),.int .i64 wt] TE)) ⟨G,k*3+1,none⟩ (.int .i64 (xn+1))):=(gV.fs (lo:=lo)).then (Fs.of f2 (λj hj=>by have hj:j=G:=hj;subst hj;exact eN.fg.Xq rfl))
  exact g1.then (Fs.of f3 (λj hj=>by have hj:j=w.heap.size:=hj;subst hj;exact⟨bq,_,_,Xw,.inr rfl⟩))
 refine⟨xm,rb3,hft,?_,?_,?_,?_⟩
 ·obtain⟨cs,ht⟩:=eN.fg.type (j:=G) rfl;exact ae ht _
 ·obtain⟨mi,_,_⟩:=fG.Kk
  have:=mi.cell k 1 (by rw[List.length_set];exact hk) (by omega)
  rw[this,List.getElem_set_self];rfl
 ·exact ae Xw _
 simp[World.setCell]
structure Sy(lo G k m:Nat)(old:Value)(es:List Ev)(w0:World)(v':Value)(w':World):Prop where
 ch:OH lo w0 old es v' w'
 fz:w'.frozen? ⟨G,k*3+2,none⟩=false
 cell:w'.cell? ⟨G,k*3+2,none⟩=some old
 shape:∃a c,v'=.slice a es.length c
theorem Sy.of{lo G n cap:Nat}{vw:Value}{ws:List Wt}{L:List aU}{w0:World}(h:Cl lo vw (.slice (some ⟨G,0,none⟩) n cap) ws L w0)(k m:Nat)(hk:k<L.length){es:List Ev}{v':Value}{w':World}(c:OH lo w0 L[k].ev es v' w'):Sy lo G k m L[k].ev es w0 v' w':=by
 obtain⟨hr,_,_⟩:=h.Kk;have bA:=h.Vr (List.getElem_mem hk);have h1:=hr.keep c.fp (λe=>bA G e rfl)
 have:=h1.cell k 2 hk (by omega)
 exact⟨c,h1.frozen _,this,c.own.ns.shape⟩
theorem Kt{lo G n cap:Nat}{vw:Value}{ws:List Wt}{L:List aU}{w:World}(h:Cl lo vw (.slice (some ⟨G,0,none⟩) n cap) ws L w)(k:Nat)(hk:k<L.length)(kd wt:Int)(p:Bs)(hl:L[k].s.cW.length<=30000)(hc:0<=L[k].s.count/\L[k].s.count<=tj)(bq:lo<=w.heap.size):
  Calls prog 346 #[.pointer (some ⟨G,k*3,none⟩),.agg #[.int .i64 0,.int .i64 kd,.string (B p),.int .i64 wt]] w λe w'=>e=.returned (.tuple #[])/\OE lo G n cap vw ws L k (Du L[k].s kd p wt) w w':=by
 obtain⟨hr,hG,hn⟩:=h.Kk;obtain⟨cs,hty⟩:∃cs,w.heap[G]?=some (.cells cs TV (0,0)):=h.fg.type rfl;obtain⟨x,hx⟩:∃x,x=L[k]:=⟨_,rfl⟩;have aE:=hr.nd k hk;rw[<-hx]at aE hl hc|-;have hE:=h.iu x (by rw[hx];exact List.getElem_mem hk)
 obtain⟨⟨xs,xn,xe⟩,xa,xc⟩:=x;simp only at hl hc
 have c0:=aE.c0;have c1:=aE.c1;have c2:=aE.c2;unfold aU.ev at c2 hE;simp only[Nat.zero_add]at c0 c1 c2 hE
 have gV:=aa w (.cells #[.int .i64 0,.int .i64 kd,.string (B p),.int .i64 wt] TE);have rb:=heap_alloc_new w (.cells #[.int .i64 0,.int .i64 kd,.string (B p),.int .i64 wt] TE);have z1:=hr.frozen (k*3+1);have z2:=hr.frozen (k*3+2);obtain⟨m,hm⟩:∃m,m=xe.length:=⟨_,rfl⟩;rw[<-hm]at c2 hl;by_cases hmx:xn=281474976710656
 ·have ha:Du ⟨xs,xn,xe⟩ kd p wt=⟨xs,xn,xe⟩:=by unfold Du tj;rw[if_pos hmx]
  rw[ha]
  have HF:=zI (show OE lo G n cap vw ws L k ⟨xs,xn,xe⟩ w (w.alloc (.cells #[.int .i64 0,.int .i64 kd,.string (B p),.int .i64 wt] TE)) from⟨⟨L,h.af gV,by
   rw[show(⟨xs,xn,xe⟩:Se)=(L.map aU.s)[k]'(by simpa using hk) from by rw[List.getElem_map,<-hx],List.set_getElem_self]⟩,gV.fs⟩)
  have d1:=gV.cell c1 id;subst hmx;clear h hr hG hn hty hx aE hE rb z1 z2 hl hc ha c0 c1 c2 gV;go_enter func346,ntmps346
  go_wp2;refine bodyPost_ret (results_none rfl _ _ _) rfl ?_;exact⟨rfl,HF.out⟩
 have ha:Du ⟨xs,xn,xe⟩ kd p wt=⟨xs,xn+1,xe++[⟨xn+1,kd,p,wt⟩]⟩:=by unfold Du tj;rw[if_neg hmx]
 rw[ha];have q1:(xn == 281474976710656)=false:=by simpa using hmx
 have hxb:0<=xn/\xn<281474976710656:=by unfold tj at hc;omega
 obtain⟨aa9,ab0⟩:=hxb;have d1:=gV.cell c1 id;obtain⟨k1,k2,k3,k4,k5,k6,k7⟩:=GF h k hk kd wt xs xn p xe xa xc hx bq;go_enter func346,ntmps346
 go_wp2_with fail
 have HXX:=zI (yI hx (yI hm hk));clear h hr hG hty aE hE c0 c1 c2 gV rb z1 z2 ha hmx hc d1 k4 k5 k6 hx;generalize (World.setCell (World.setCell (w.alloc (.cells #[.int .i64 0,.int .i64 kd,.string (B p),.int .i64 wt] TE)) _ _) _ _)=wz at *;have Cm:=k1.af ((Fp.refl ab wz).drew);have rbd:=((Fp.refl ab wz).drew).heap k2 id;obtain⟨b0,b1,b2,b3⟩:=j6 rbd;obtain⟨mi,_,_⟩:=Cm.Kk;have e2:=mi.cell k 2 (by rw[List.length_set];exact hk) (by omega)
 rw[List.getElem_set_self]at e2;have Xx:=Cm.iu _ (List.getElem_mem (by rw[List.length_set];exact hk:k<(L.set k ⟨⟨xs,xn+1,xe⟩,xa,xc⟩).length))
 rw[List.getElem_set_self]at Xx;have e3:wz.drew.cell? ⟨G,k*3+2,none⟩=some (.slice xa m xc):=by rw[hm];exact e2
 have bM:∀ty,∃v' w',(Builtin.append_ #[zg,zg] ty #[.slice xa m xc,.slice (some ⟨wz.heap.size,0,none⟩) 1 1]).run prog (wz.drew.alloc (.cells #[.int .i64 (xn+1),.int .i64 kd,.string (B p),.int .i64 wt] TE))=.ok v' w'/\Sy lo G k m (.slice xa m xc) (xe++[⟨xn+1,kd,p,wt⟩]) (wz.drew.alloc (.cells #[.int .i64 (xn+1),.int .i64 kd,.string (B p),.int .i64 wt] TE)) v' w':=λty=>by
  obtain⟨v',w',hr,JP⟩:=OG wz.drew lo (.slice xa m xc) xe ⟨xn+1,kd,p,wt⟩ ty (by rw[hm];exact Xx) (by omega) (by show lo<=wz.heap.size;omega)
  refine⟨v',w',hr,?_⟩;have QH:=Cm.af (aa wz.drew (.cells #[.int .i64 (xn+1),.int .i64 kd,.string (B p),.int .i64 wt] TE));have mG:(L.set k ⟨⟨xs,xn+1,xe⟩,xa,xc⟩)[k]'(by rw[List.length_set];exact hk)=⟨⟨xs,xn+1,xe⟩,xa,xc⟩:=List.getElem_set_self _
  have:=Sy.of QH k m (by rw[List.length_set];exact hk) (es:=xe++[⟨xn+1,kd,p,wt⟩]) (v':=v') (w':=w') (by rw[mG];unfold aU.ev;simp only;rw[<-hm];exact JP)
  rw[mG]at this;unfold aU.ev at this;simp only at this
  rw[<-hm]at this;exact this
 have e5:∀o,(wz.alloc o).cell? ⟨G,k*3+2,none⟩=some (.slice xa m xc):=λo=>(aa wz o).cell (p:=⟨G,k*3+2,none⟩) e3 id
 obtain⟨m4,Xy⟩:∃m4,m4=(xe++[⟨xn+1,kd,p,wt⟩]:List Ev).length:=⟨_,rfl⟩
 have bf:∀a4 c4 w4,Sy lo G k m (.slice xa m xc) (xe++[⟨xn+1,kd,p,wt⟩]) (wz.drew.alloc (.cells #[.int .i64 (xn+1),.int .i64 kd,.string (B p),.int .i64 wt] TE)) (.slice a4 m4 c4) w4->OE lo G n cap vw ws L k ⟨xs,xn+1,xe++[⟨xn+1,kd,p,wt⟩]⟩ w (w4.setCell ⟨G,k*3+2,none⟩ (.slice a4 m4 c4)):=λa4 c4 w4 hR=>by
  have bZ:Fp ab wz (wz.drew.alloc (.cells #[.int .i64 (xn+1),.int .i64 kd,.string (B p),.int .i64 wt] TE)):=((Fp.refl ab wz).drew).then (aa _ _);have QH:=k1.af bZ;have mG:(L.set k ⟨⟨xs,xn+1,xe⟩,xa,xc⟩)[k]'(by rw[List.length_set];exact hk)=⟨⟨xs,xn+1,xe⟩,xa,xc⟩:=List.getElem_set_self _
  have Ku:(⟨⟨xs,xn+1,xe⟩,xa,xc⟩:aU).ev=.slice xa m xc:=by unfold aU.ev;simp only;rw[<-hm]
  have Xz:(⟨⟨xs,xn+1,xe++[⟨xn+1,kd,p,wt⟩]⟩,a4,c4⟩:aU).ev=.slice a4 m4 c4:=by unfold aU.ev;simp only;rw[Xy]
  have lE:=QH.put (w':=w4) k (by rw[List.length_set];exact hk) ⟨⟨xs,xn+1,xe++[⟨xn+1,kd,p,wt⟩]⟩,a4,c4⟩ (by rw[mG];rfl) (by rw[mG,Ku];exact hR.ch.fp) (by rw[Xz];exact hR.ch.own) (by rw[mG,Ku,Xz];exact hR.ch.new)
  rw[Xz,List.set_set]at lE;have hE0:=QH.iu _ (List.getElem_mem (by rw[List.length_set];exact hk:k<(L.set k ⟨⟨xs,xn+1,xe⟩,xa,xc⟩).length))
  rw[mG,Ku]at hE0;have g1:Fs lo (wz.drew.alloc (.cells #[.int .i64 (xn+1),.int .i64 kd,.string (B p),.int .i64 wt] TE)) w4:=Fs.of hR.ch.fp (λj hj=>hE0.Xq hj)
  refine⟨⟨_,lE,B9 _ _ _⟩,((k3.then bZ.fs).then g1).then (Fs.of (bd w4 G (k*3+2) _) (λj hj=>?_))⟩
  have hj:j=G:=hj;subst hj;obtain⟨sj,hGz,_⟩:=QH.Kk;have:=sj.keep hR.ch.fp (λe=>(QH.Vr (List.getElem_mem (by rw[List.length_set];exact hk:k<(L.set k ⟨⟨xs,xn+1,xe⟩,xa,xc⟩).length)) j (by rw[mG,Ku];exact e)) rfl)
  obtain⟨r,h1,_⟩:=this.ex;exact⟨hGz,_,_,h1,.inl rfl⟩
 have Gp:=zI bf;have HM4:=zI Xy;clear bf Xy;have OI:=zI bM;have HC:=zI (yI Cm (yI k3 k7));have Jk:=hl;clear bM mi e2 Xx Cm rbd k1 k2 k3 hm;go_region_law ((refine step_app rfl _ _ zg zg rfl (.slice xa m xc) (.slice (some ⟨wz.heap.size,0,none⟩) 1 1) (by simp[Act.eval,Act.put]) (by simp[Act.eval,Act.put]) _ (OI _) ?_;intro v4 w4 gu;have hz4:=gu.fz;have vV:=gu.cell;obtain⟨a4,c4,e4⟩:=gu.shape;rw[<-HM4.out]at e4;subst e4;have XA:=zI gu;clear gu))
 all_goals (go_end0;exact⟨rfl,Gp _ _ _ XA.out⟩)
theorem Ft.row{lo:Nat}{w w':World}(f:Ft lo w w'){k:Nat}{cs:Array Value}{T:TypeId}(h:w.heap[k]?=some (.cells cs T (0,0)))(h1:T≠TD)(h2:T≠TV)(h3:T≠TE):w'.heap[k]?=some (.cells cs T (0,0)):=
 Fp.heap f h (λhs=>by
  obtain⟨_,ze,T',ht,hT⟩:=hs;rw[h]at ht;injection ht with ht
  injection ht with _ ht _
  rcases hT with rfl|rfl|rfl
  ·exact h1 ht
  ·exact h2 ht
  exact h3 ht)
theorem GG{lo G n cap:Nat}{vw:Value}{ws:List Wt}{L:List aU}{w:World}(h:Cl lo vw (.slice (some ⟨G,0,none⟩) n cap) ws L w)(k:Nat)(hk:k<L.length)(x:Wt)(kd:Int)(p:Bs)(hl:L[k].s.cW.length<=8)(hc:0<=L[k].s.count/\L[k].s.count<=tj)(bq:lo<=w.heap.size):
  Calls prog 285 #[.pointer (some ⟨G,k*3,none⟩),BW x,.int .i64 kd,.string (B p)] w λe w'=>e=.returned (.bool (mh L[k].s x kd p).2)/\OE lo G n cap vw ws L k (mh L[k].s x kd p).1 w w':=by
 obtain⟨xs,xn,xp,xd⟩:=x;obtain⟨hr,hG,hn⟩:=h.Kk;have aE:=hr.nd k hk;have Cn:∀s,L[k].s=s->(L.map aU.s).set k s=L.map aU.s:=λs hs=>by rw[<-hs,show L[k].s=(L.map aU.s)[k]'(by simpa using hk) from by rw[List.getElem_map],List.set_getElem_self]
 have f0:=aa w (.cells #[.int .i64 xs,.int .i64 xn,.string (B xp),.bool xd] TW);have rb:=heap_alloc_new w (.cells #[.int .i64 xs,.int .i64 xn,.string (B xp),.bool xd] TW);have h0:=h.af f0;have QI:=λkd wt p=>Kt h0 k hk kd wt p (by omega) hc (by simp;omega)
 have mG:=aE.c2;obtain⟨x,hx⟩:∃x,x=L[k]:=⟨_,rfl⟩;rw[<-hx]at mG hl QI|-;unfold aU.ev at mG;simp only[Nat.zero_add]at mG
 obtain⟨m,hm⟩:∃m,m=x.s.cW.length:=⟨_,rfl⟩;rw[<-hm]at mG hl;have e2:=λo=>(aa w o).cell mG id
 obtain⟨b0,b1,b2,b3⟩:=j6 rb;unfold BW au;by_cases h8:m=8
 ·have e:mh x.s ⟨xs,xn,xp,xd⟩ kd p=(x.s,false):=by unfold mh;rw[if_pos (by omega)]
  rw[e];have HF:=zI (show OE lo G n cap vw ws L k x.s w (w.alloc (.cells #[.int .i64 xs,.int .i64 xn,.string (B xp),.bool xd] TW)) from⟨⟨L,h0,by rw[Cn _ (by rw[<-hx])]⟩,f0.fs⟩)
  have q1:((m:Int) == 8)=true:=by simpa using (by omega:(m:Int)=8)
  subst h8;clear h h0 hr aE QI Cn hx hm hl hc rb e b0 b1 b2 b3 f0;go_enter func285,ntmps285
  go_wp2;go_ret;exact⟨rfl,HF.out⟩
 have q1:((m:Int) == 8)=false:=by rw[beq_eq_false_iff_ne];omega
 have q2:((m:Int)=8)=False:=eq_false (by omega)
 by_cases h7:m=7
 ·have e:mh x.s ⟨xs,xn,xp,xd⟩ kd p=(Du x.s 4 xp xn,false):=by unfold mh;rw[if_neg (by omega),if_pos (by omega)]
  rw[e];have HA:=zI (QI 4 xn xp);have HF:=zI (f0.fs (lo:=lo));subst h7;clear h h0 hr aE QI Cn hx hm hl hc rb e f0;go_enter func285,ntmps285
  go_wp2_with fail
  refine HA.mono ?_;rintro e w1⟨rfl,hR⟩;have HR:=zI (show OE lo G n cap vw ws L k _ w w1 from⟨hR.ex,HF.then hR.fp⟩);clear hR;go_wp2;go_ret;exact⟨rfl,HR.out⟩
 have e:mh x.s ⟨xs,xn,xp,xd⟩ kd p=(Du x.s kd p xn,xd):=by unfold mh;rw[if_neg (by omega),if_neg (by omega)]
 rw[e];have q3:((m:Int) == 7)=false:=by rw[beq_eq_false_iff_ne];omega
 have q4:((m:Int)=7)=False:=eq_false (by omega)
 have HA:=zI (QI kd xn p);have HF:=zI (yI (f0.fs (lo:=lo)) rb);clear h h0 hr aE QI Cn hx hm hl hc rb e f0 h8 h7;go_enter func285,ntmps285
 go_wp2_with fail
 refine HA.mono ?_;rintro e w1⟨rfl,hR⟩;obtain⟨_,_,_,g3⟩:=j6 (hR.fp.ft.row HF.2 (by decide) (by decide) (by decide))
 have HR:=zI (show OE lo G n cap vw ws L k _ w w1 from⟨hR.ex,HF.1.then hR.fp⟩);clear hR;go_wp2;go_ret;exact⟨rfl,HR.out⟩
def vW(ss:List Se)(n:Int):List Se:=if (cx ss n).isSome=true then ss else ss.take (iO ss n)++⟨n,0,[]⟩::ss.drop (iO ss n)
theorem uP{ss:List Se}(h:ss.Pairwise (λa b=>a.num<b.num))(n:Int):iO ss n<(vW ss n).length:=by
 unfold vW;have hg:=qu h n;split
 ·rename_i hs
  rw[hg]at hs;split at hs
  ·assumption
  cases hs
 have:=qp ss n;simp only[List.length_append,List.length_take,List.length_cons,List.length_drop];omega
theorem Kv{ss:List Se}(h:ss.Pairwise (λa b=>a.num<b.num))(n:Int):(vW ss n)[iO ss n]'(uP h n)=sf ss n:=by
 have hg:=qu h n;have hl:=qp ss n;unfold sf;by_cases hs:(cx ss n).isSome=true
 ·have e:vW ss n=ss:=by unfold vW;rw[if_pos hs]
  simp only[e]
  rw[hg]at hs|-;split at hs
  ·rename_i h1
   rw[dif_pos h1];split at hs
   ·rename_i h2;rw[if_pos h2];rfl
   cases hs
  cases hs
 have e:vW ss n=ss.take (iO ss n)++⟨n,0,[]⟩::ss.drop (iO ss n):=by unfold vW;rw[if_neg hs]
 simp only[e]
 rw[List.getElem_append_right (by rw[List.length_take];omega)]
 have:cx ss n=none:=by cases hh:cx ss n with
  |none=>rfl
  |some _=>rw[hh]at hs;exact absurd rfl hs
 rw[this];simp only[List.length_take,Nat.min_eq_left hl,Nat.sub_self,List.getElem_cons_zero,Option.getD_none]
theorem Kw{ss:List Se}(h:ss.Pairwise (λa b=>a.num<b.num))(s:Se):(vW ss s.num).set (iO ss s.num) s=cZ ss s:=by
 rw[zW h];have hl:=qp ss s.num;have ay:=uP h s.num;by_cases hs:(cx ss s.num).isSome=true
 ·have e:vW ss s.num=ss:=by unfold vW;rw[if_pos hs]
  rw[e]at ay|-;rw[if_pos hs,List.set_eq_take_append_cons_drop,if_pos ay]
 have e:vW ss s.num=ss.take (iO ss s.num)++⟨s.num,0,[]⟩::ss.drop (iO ss s.num):=by unfold vW;rw[if_neg hs]
 rw[e,if_neg hs,List.set_append_right _ _ (by rw[List.length_take];omega)]
 simp only[List.length_take,Nat.min_eq_left hl,Nat.sub_self,List.set_cons_zero]
structure XB(lo N:Nat)(vw:Value)(ws:List Wt)(ss:List Se)(num:Int)(w:World)(e:Ending)(w':World):Prop where
 ex:∃G m cap L',e=.returned (.pointer (some ⟨G,iO ss num*3,none⟩))/\Wk lo N vw (.slice (some ⟨G,0,none⟩) m cap) ws L' w'/\L'.map aU.s=vW ss num
 fp:Ft lo w w'
theorem Kx{L:List aU}{R:aU->aU->Prop}(h:L.Pairwise R)(k:Nat)(x:aU)(h1:∀y∈L,R y x)(h2:∀y∈L,R x y):(eU L k x).Pairwise R:=by
 unfold eU;rw[List.pairwise_append,List.pairwise_cons];refine⟨h.sublist (List.take_sublist _ _),⟨λy hy=>h2 y (List.drop_subset _ _ hy),h.sublist (List.drop_sublist _ _)⟩,λa ha b hb=>?_⟩
 rcases List.mem_cons.1 hb with rfl|hb
 ·exact h1 a (List.take_subset _ _ ha)
 have:=h;rw[<-List.take_append_drop k L,List.pairwise_append]at this;exact this.2.2 a ha b hb
theorem Wk.ins{lo N:Nat}{vw vs:Value}{ws:List Wt}{L:List aU}{w w':World}(h:Wk lo N vw vs ws L w)(k:Nat)(num:Int){v':Value}(c:Ab lo w vs (eU L k ⟨⟨num,0,[]⟩,none,0⟩) v' w'):
  Wk lo N vw v' ws (eU L k ⟨⟨num,0,[]⟩,none,0⟩) (w'.setCell ⟨N,1,none⟩ v')/\w'.heap[N]?=some (.cells #[vw,vs] TD (0,0))/\Ft lo w (w'.setCell ⟨N,1,none⟩ v'):=by
 have hvN:∀j,vs.ownBlock=some j->j≠N:=λj hj e=>by
  obtain⟨cs,ht⟩:=h.cl.fg.type hj;subst e;exact bP ht h.dR (by decide)
 have hb:=c.fp.heap h.dR (λe=>hvN N e rfl)
 have hf:=bd w' N 1 v'
 have XC:∀{cs:Array Value} {T:TypeId} {j:Nat},w'.heap[j]?=some (.cells cs T (0,0))->T≠TD->j≠N:=λht hT e=>by
  subst e;exact bP ht hb hT
 have db:=c.fp.size;refine⟨⟨heap_setCell_same w' N 1 _ TD v' hb,h.low,?_,c.own.keep hf (λj hj e=>?_),λy hy=>?_,?_⟩,hb,?_⟩
 ·have hW:=h.cl.jj.keep c.fp (λj hj e=>by
   obtain⟨cs,ht⟩:=h.cl.jj.type hj;obtain⟨ze,zX⟩:=h.cl.fg.type e;exact bP ht zX (by decide))
  exact hW.keep hf (λj hj e=>by obtain⟨cs,ht⟩:=hW.type hj;exact XC ht (by decide) e)
 ·obtain⟨cs,ht⟩:=c.own.type hj;exact XC ht (by decide) e
 ·have hy':y=⟨⟨num,0,[]⟩,none,0⟩\/y∈L:=by
   unfold eU at hy;rcases List.mem_append.1 hy with hy|hy
   ·exact .inr (List.take_subset _ _ hy)
   rcases List.mem_cons.1 hy with e|hy
   ·exact .inl e
   exact .inr (List.drop_subset _ _ hy)
  rcases hy' with rfl|hy
  ·exact fU.nil _ _
  have hE:=(h.cl.iu y hy).keep c.fp (λj hj e=>by
   obtain⟨cs,ht⟩:=(h.cl.iu y hy).type hj;obtain⟨ze,zX⟩:=h.cl.fg.type e;exact bP ht zX (by decide))
  exact hE.keep hf (λj hj e=>by obtain⟨cs,ht⟩:=hE.type hj;exact XC ht (by decide) e)
 ·exact Kx h.cl.apart k _ (λy hy j hj e=>by simp[aU.ev,Value.ownBlock]at e) (λy hy j hj=>by simp[aU.ev,Value.ownBlock]at hj)
 exact(Ft.of c.fp (λj hj=>h.cl.fg.Xp hj)).then (Ft.of hf (λj hj=>by have hj:j=N:=hj;subst hj;exact⟨h.low,_,_,hb,.inl rfl⟩))
theorem OJ{lo N:Nat}{vw vs:Value}{ws:List Wt}{L:List aU}{w:World}(h:Wk lo N vw vs ws L w)(num:Int)(ha:(L.map aU.s).Pairwise (λa b=>a.num<b.num))(hl:L.length<=39000)(bq:lo<=w.heap.size):
  Calls prog 210 #[.pointer (some ⟨N,0,none⟩),.int .i64 num] w (XB lo N vw ws (L.map aU.s) num w):=by
 have cC:=B4 vs (L.map aU.s) num w h.cl.Kj ha (by simp;omega)
 have lD:=h.cl.fg.ns.shape;obtain⟨z0,z1⟩:=aI h.dR;have ay:=uP ha num;have hle:=qp (L.map aU.s) num;obtain⟨pl,lQ⟩:∃k,k=iO (L.map aU.s) num:=⟨_,rfl⟩;rw[<-lQ]at cC ay hle;obtain⟨sm,Sz⟩:∃b,b=(cx (L.map aU.s) num).isSome:=⟨_,rfl⟩;rw[<-Sz]at cC;cases sm with
 |true=>
  have eo:vW (L.map aU.s) num=L.map aU.s:=by unfold vW;rw[if_pos Sz.symm]
  rw[eo,List.length_map]at ay;rcases h.cl.fg.ways with⟨_,e⟩|⟨G,cap,rfl,h1,h2⟩
  ·subst e;simp at ay
  have HF:=zI (show ∀w',Fp ab w w'->XB lo N vw ws (L.map aU.s) num w (.returned (.pointer (some ⟨G,pl*3,none⟩))) w' from λw' f=>⟨⟨G,L.length,cap,L,by rw[lQ],h.af f,by rw[eo]⟩,f.ft⟩)
  obtain⟨m,hm⟩:∃m,m=L.length:=⟨_,rfl⟩;rw[<-hm]at ay z1 cC;have q1:(pl<m)=True:=eq_true ay;have q2:((pl:Int)<(m:Int))=True:=eq_true (by omega)
  have HP:=zI cC;have HZ:=zI z1;have GH:m<=40000:=by omega
  clear h ha hl lD lQ Sz eo cC hle h1 h2 hm z0;go_enter func210,ntmps210
  go_wp2_with fail
  refine HP.mono ?_;rintro e w1⟨rfl,hf⟩;have z1:=hf.cell HZ id;have ef:=zI hf;clear hf;go_wp2;go_ret;exact HF _ ef.out
 |false=>?_
 have eo:vW (L.map aU.s) num=(eU L pl ⟨⟨num,0,[]⟩,none,0⟩).map aU.s:=by
  unfold vW eU;rw[if_neg (by rw[<-Sz];exact Bool.false_ne_true),<-lQ];simp
 have wG:pl<=L.length:=by simpa using hle
 have FE:∀w1,Fp ab w w1->Calls prog 265 #[vs,.int .i64 (pl:Int),.slice (some ⟨w1.heap.size,0,none⟩) 1 1] (w1.alloc (.cells #[.int .i64 num,.int .i64 0,.slice none 0 0] TV)) λe w'=>∃v',e=.returned v'/\Ab lo (w1.alloc (.cells #[.int .i64 num,.int .i64 0,.slice none 0 0] TV)) vs (eU L pl ⟨⟨num,0,[]⟩,none,0⟩) v' w':=λw1 f=>by
  have f2:=f.then (aa w1 (.cells #[.int .i64 num,.int .i64 0,.slice none 0 0] TV));have h2:=h.af f2;refine xo h2.cl.fg pl wG (X:=w1.heap.size) (x:=⟨⟨num,0,[]⟩,none,0⟩) (heap_alloc_new w1 _) (λe=>?_) (by omega) (Nat.le_trans bq f2.size)
  have:=(World.ownsRow.lt (h.af f).cl.fg _ e).2;omega
 have HI:=zI FE;have HH:=zI (yI h (yI eo lQ));obtain⟨va,vc,rfl⟩:=lD;have HZ:=zI z1;have HP:=zI cC;obtain⟨m,hm⟩:∃m,m=L.length:=⟨_,rfl⟩;have HM:=zI hm;rw[<-hm]at HP HI HH HZ z1 wG hl;clear h ha lQ Sz cC hle ay z0 FE eo hm;go_enter func210,ntmps210
 go_wp2_with fail
 refine HP.mono ?_;rintro e w1⟨rfl,hf⟩;have z1:=hf.cell HZ id;have ef:=zI hf;clear hf;go_wp2_with fail
 refine(HI w1 ef.out).mono ?_;rintro e w2⟨v2,rfl,hR⟩;have f2:=ef.then (aa w1 (.cells #[.int .i64 num,.int .i64 0,.slice none 0 0] TV));obtain⟨k1,k2,k3⟩:=(HH.1.af f2).ins pl num hR;have zf:=ae k2 1;have zc:=(aI k2).2;have zd:=(aI k1.dR).2;have OK:=(f2.ft (lo:=lo)).then k3;have hlen:=eu L pl ⟨⟨num,0,[]⟩,none,0⟩;rcases k1.cl.fg.ways with⟨_,e⟩|⟨G,cap,rfl,h1,h2⟩
 ·rw[e]at hlen;simp at hlen
 have HK:=zI (yI k1 OK);obtain⟨m2,Dv⟩:∃m2,m2=(eU L pl ⟨⟨num,0,[]⟩,none,0⟩).length:=⟨_,rfl⟩;have QJ:pl<m2:=by rw[Dv];unfold eU;simp only[List.length_append,List.length_take,List.length_cons,List.length_drop];have:=HH.2.2;have h9:=qp (L.map aU.s) num;rw[<-this,List.length_map]at h9;omega
 rw[<-Dv]at zd HK|-;have q1:(pl<m2)=True:=eq_true QJ;have q2:((pl:Int)<(m2:Int))=True:=eq_true (by omega)
 have q3:m2<=60000:=by rw[Dv,hlen,<-HM.out];omega
 clear hR f2 k1 k2 k3 OK hlen h1 h2 Dv;go_wp2;go_ret;exact⟨⟨G,m2,cap,_,by rw[<-HH.2.2];rfl,HK.1,HH.2.1.symm⟩,HK.2⟩
end
end Go.Proofs.YtgafcelloiagmaaGreatDoor
