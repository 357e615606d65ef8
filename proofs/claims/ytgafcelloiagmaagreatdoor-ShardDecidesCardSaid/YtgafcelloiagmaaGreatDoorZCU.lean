/- A text of this proof. -/
import Derived.Test.YtgafcelloiagmaaGreatDoorZCR
set_option maxHeartbeats 16000000
set_option linter.unusedSimpArgs false
set_option linter.unusedVariables false
set_option maxRecDepth 20000
namespace Go.Proofs.YtgafcelloiagmaaGreatDoor
open Go.Proofs.Tryz
open Go.RowKit Pm
abbrev Ay:TypeId:=9
abbrev Cv:TypeId:=45
def JJ(b:Bs):List Value:=[au b]
theorem mz(b:Bs):(JJ b).length=1:=rfl
theorem Md(b:Bs):∀u∈JJ b,u.oneCell'=true:=by
 intro u hu;simp only[JJ,List.mem_singleton]at hu;subst hu;rfl
theorem iI.tx{w:World}{g o:Nat}{b:Bs}(h:iI JJ w g o b):w.cell? ⟨g,o,none⟩=some (.string (B b)):=by
 have:=h.get 0 (au b) rfl;rwa[Nat.add_zero]at this
abbrev uC(w:World)(v:Value)(l:List Bs):Prop:=Sg JJ 1 w v l
theorem Sg.dI{w:World}{v:Value}{l:List Bs}(h:uC w v l)(h0:0<l.length):∃g o cap,v=.slice (some ⟨g,o,none⟩) l.length cap/\∀i (h:i<l.length),w.cell? ⟨g,o+i,none⟩=some (.string (B l[i])):=by
 obtain⟨g,o,cap,e,hc⟩:=h.at h0;exact⟨g,o,cap,e,λi hi=>by have:=(hc i hi).tx;rwa[Nat.mul_one]at this⟩
abbrev AB(lo:Nat)(w:World)(v:Value)(l:List Bs):Prop:=dT Ay JJ 1 lo w v l
theorem Tryz.Qm:(prog.info? Ay).map (λi=>(i.zero,i.size,i.bytes))=some (some (.string ⟨#[]⟩),1,16):=by kernel_rfl
theorem yE(w:World)(lo:Nat)(v:Value)(l m:List Bs)(ty:TypeId)(a:Addr)(n c:Nat)(hv:AB lo w v l)(hn:n=m.length)(hx:∀i (h:i<m.length),w.cell? (a.add i)=some (.string (B m[i])))(h6:l.length+m.length<=100000)(bq:lo<=w.heap.size):
  ∃v' w',(Builtin.append_ #[Cv,Cv] ty #[v,.slice (some a) n c]).run prog w=.ok v' w'/\AB lo w' v' (l++m)/\w.grownBy w' v.ownBlock/\∀j,v'.ownBlock=some j->v.ownBlock=some j\/w.heap.size<=j:=
 j5 mz Md Tryz.underlying45 Tryz.Qm rfl (by omega) (by omega) w lo v l m ty a n c hv hn (λi h j u hu=>by
  have hj:j=0:=by have:=(List.getElem?_eq_some_iff.1 hu).1;simp[JJ]at this;omega
  subst hj;have:u=.string (B m[i]):=by simpa[JJ,au]using hu.symm
  subst this;simpa using hx i h) h6 bq
theorem dT.U8{lo:Nat}{w:World}{v:Value}{l:List Bs}(h:AB lo w v l):(v=.slice none 0 0/\l=[])\/∃G cap,v=.slice (some ⟨G,0,none⟩) l.length cap/\lo<=G/\G<w.heap.size/\l.length<=cap/\cap<=maxLen:=by
 rcases h.2 with⟨h0,h1⟩|⟨g,cap,cur,e,hb,hg,h1,h2,h3,h4⟩
 ·exact .inl ⟨h0,List.eq_nil_of_length_eq_zero h1⟩
 exact .inr ⟨g,cap,e,hb,(Array.getElem?_eq_some_iff.1 hg).1,h1,h2⟩
structure Q2(w:World)(l:List Bs)(v':Value)(w':World):Prop where
 own:AB w.heap.size w' v' l
 fp:Fp ab w w'
theorem Bx(w:World)(a:Addr)(n c:Nat):(binOp .eql Cv (.slice (some a) n c) (.slice none 0 0)).run prog w=.ok (.bool false) w:=
 Lib.run_eql_slice_nil w Cv Ay (some a) n c 0 0 Tryz.underlying45
theorem wT(v:Value)(l:List Bs)(w:World)(hv:uC w v l)(h5:l.length<=100000):
  Calls prog 97 #[v] w λe w'=>∃v',e=.returned v'/\Q2 w l v' w':=by
 obtain⟨ao,cap,rfl,h3⟩:=hv.ex;cases ao with
 |none=>
  obtain rfl:l=[]:=by
   rcases h3 with h|⟨_,_,h,_⟩
   ·exact h
   cases h
  have fW:∀w:World,(binOp .eql Cv (.slice none 0 cap) (.slice none 0 0)).run prog w=.ok (.bool true) w:=λw=>Lib.run_eql_slice_nil w Cv Ay none 0 cap 0 0 Tryz.underlying45
  clear h3 hv h5;simp only[List.length_nil]
  go_enter func97,ntmps97
  go_wp2;go_ret;exact⟨_,rfl,dT.nil _ _,Fp.refl _ _⟩
 |some a=>?_
 have aL:AB w.heap.size (w.alloc (.cells #[] Ay)) (.slice (some ⟨w.heap.size,0,none⟩) 0 0) []:=World.ownsRow_lit w #[] 0 (Nat.le_refl _) (by unfold maxLen;omega) rfl
 have hx:∀i (h:i<l.length),(w.alloc (.cells #[] Ay)).cell? (a.add i)=some (.string (B l[i])):=λi hi=>by
  rcases h3 with h|⟨g,o,e,hc⟩
  ·subst h;simp at hi
  injection e with e;subst e
  have:=((hc i hi).keep ((Fp.refl ab w).alloc (.cells #[] Ay)) id).tx;rw[Addr.add_lit];rwa[Nat.mul_one]at this
 have bM:∀ty,∃v' w',(Builtin.append_ #[Cv,Cv] ty #[.slice (some ⟨w.heap.size,0,none⟩) 0 0,.slice (some a) l.length cap]).run prog (w.alloc (.cells #[] Ay))=.ok v' w'/\Q2 w l v' w':=λty=>by
  obtain⟨v',w',hr,ho,hg,_⟩:=yE (w.alloc (.cells #[] Ay)) w.heap.size _ [] l ty a l.length cap aL rfl hx (by simp;omega) (by simp)
  exact⟨v',w',hr,ho,((Fp.refl ab w).alloc _).grown hg (λk hk=>.inr (by simp[Value.ownBlock]at hk;omega))⟩
 have fW:=Bx;have uS:=zI (bM Cv);clear bM aL hx hv h3 h5;generalize l.length=n at *;go_enter func97,ntmps97
 go_wp2_with (at_builtin;go_must (refine aG rfl _ _ _ _ rfl _ _ rfl rfl (Q2 w l) uS.out ?_))
 intro u w2 hR;have HR:=zI hR;clear hR;go_wp2;go_ret;exact⟨_,rfl,HR.out⟩
theorem Qn(s:Bs)(w:World)(hs:s.length<=1000000):Calls prog 241 #[.string (B s)] w λe w'=>e=.returned (.bool (!nF s))/\Fp ab w w':=by
 have h:=cE s w (cH hs (by omega))
 unfold nF;generalize (split s).isSome=b at *;have H:=zI h;clear h hs;go_enter func241,ntmps241
 go_wp2_with fail
 refine H.mono ?_;rintro e w1⟨rfl,hf⟩;have HF:=zI hf.fp;clear hf;go_wp2;go_ret;exact⟨rfl,HF.out⟩
def Oe(l:List Bs):Prop:=∀x∈l,x.length<=1000000
def Ja(l:List Bs)(z:Int):Prop:=(z = -1/\∀n∈l,nF n=true)\/∃i,z=((i:Nat):Int)/\∃h:i<l.length,nF l[i]=false
theorem Jb(v:Value)(l:List Bs)(w:World)(hv:uC w v l)(hs:Oe l)(hn:l.length<=1000000):
  Calls prog 171 #[v,.func (.func 241) #[] #[]] w λe w'=>(∃z,e=.returned (.int .i64 z)/\Ja l z)/\Fp ab w w':=by
 obtain⟨ao,cap,rfl⟩:=hv.shape;obtain⟨n,aR⟩:∃n,n=l.length:=⟨_,rfl⟩;have HX:=zI (yI aR (yI hv hs));rw[<-aR];have jS:n<=1000000:=by omega
 clear hv hs hn aR;go_enter func171,ntmps171
 go_wp2_with fail
 go_loopw [8] (λi wr=>∃k:Nat,k<=n/\i=.int .i64 k/\Hid (Fp ab w wr/\∀j (hj:j<l.length),j<k->nF l[j]=true)) (λi _=>n-(RowKit.intOf i).toNat)
 case atStart=>exact⟨0,Nat.zero_le _,rfl,Fp.refl _ _,λj _ h=>absurd h (Nat.not_lt_zero j)⟩
 obtain⟨k,hk,rfl,hR⟩:=hrel;rename_i wr _
 by_cases ay:k<n
 ·have aS:k<l.length:=by rw[<-HX.1];exact ay
  obtain⟨g,o,aY,e,aq⟩:=HX.2.1.dI (by omega)
  injection e with e1 e2 e3
  subst e1 e3;have aE:=hR.1.cell (aq k aS) id;have dy:=Qn l[k] wr (HX.2.2 _ (List.getElem_mem aS));obtain⟨b,hb⟩:∃b,nF l[k]=b:=⟨_,rfl⟩;rw[hb]at dy;have HL:=zI (yI aS ay)
  have gi:b=true->∀j (hj:j<l.length),j<k+1->nF l[j]=true:=λh j hj rJ=>by
   rcases Nat.lt_or_eq_of_le (show j<=k by omega) with e|e
   ·exact hR.2 j hj e
   subst e;rw[hb,h]
  have bf:b=false->Ja l (k:Int):=λh=>.inr ⟨k,rfl,aS,by rw[hb,h]⟩
  have HN:=zI (yI gi bf);clear gi bf hb aq;generalize l[k]=x at *;have q3:((k:Int)<(n:Int))=True:=eq_true (by omega)
  have q4:(k<n)=True:=eq_true ay;have uR:=zI dy;clear dy aS ay;go_wp2_with fail
  refine uR.mono ?_;rintro e w2⟨rfl,bY⟩;have HF:=zI (hR.1.then bY);clear bY;cases b with
  |false=>
   have hI:=HN.2 rfl;have HI:=zI hI;clear HN hI;go_wp2;go_ret;exact⟨⟨_,rfl,HI.out⟩,HF.out⟩
  |true=>?_
  have hM:Hid (Fp ab w w2/\∀j (hj:j<l.length),j<k+1->nF l[j]=true):=⟨HF.out,HN.1 rfl⟩;have eJ:=HL.2;clear HN;go_wp2;go_roundw
  case rel=>exact⟨k+1,by omega,by go_num,hM⟩
  case measure=>simp[RowKit.intOf];omega
 have cV:k=n:=by omega
 subst cV;have q3:((k:Int)<(k:Int))=False:=eq_false (by omega)
 have hI:Ja l (-1):=.inl ⟨rfl,λx hx=>by
  obtain⟨i,hi,rfl⟩:=List.getElem_of_mem hx;exact hR.2 i hi (by rw[HX.1];exact hi)⟩
 have HI:=zI hI;clear ay hk hI;go_wp2;go_ret;exact⟨⟨_,rfl,HI.out⟩,hR.1⟩
theorem Ja.pos{l:List Bs}{z:Int}(h:Ja l z):decide (0<=z) = !l.all nF:=by
 rcases h with⟨rfl,h⟩|⟨i,rfl,hi,h⟩
 ·have:l.all nF=true:=List.all_eq_true.2 h
  rw[this];rfl
 have:l.all nF=false:=by
  rw[List.all_eq_false];exact⟨_,List.getElem_mem hi,by simp[h]⟩
 rw[this];simp
theorem wR(v:Value)(l:List Bs)(w:World)(hv:uC w v l)(hs:Oe l)(hn:l.length<=1000000):
  Calls prog 122 #[v,.func (.func 241) #[] #[]] w λe w'=>e=.returned (.bool (!l.all nF))/\Fp ab w w':=by
 have hi:=Jb v l w hv hs hn;have HI:=zI hi;obtain⟨ao,cap,rfl⟩:=hv.shape;clear hi hv hs hn;go_enter func122,ntmps122
 go_wp2_with fail
 refine HI.mono ?_;rintro e w1⟨⟨z,rfl,hz⟩,hf⟩;have hp:=hz.pos;have HF:=zI (yI hp hf);clear hz hf hp;go_wp2;go_ret;exact⟨aB HF.1,HF.2⟩
theorem cU(s:Bs)(w:World):Calls prog 256 #[.string (B s)] w λe w'=>e=.returned (.bool false)/\w'=w:=by
 go_enter func256,ntmps256
 go_wp2;go_ret;exact⟨by simp,rfl⟩
theorem Jc(s:Bs)(w:World):Calls prog 288 #[.string (B s)] w λe w'=>e=.returned (.bool false)/\w'=w:=by
 go_enter func288,ntmps288
 go_wp2;go_ret;exact⟨by simp,rfl⟩
theorem Jd(a b:Bs)(w:World):Calls prog 287 #[.string (B a),.string (B b)] w λe w'=>e=.returned (.bool (lt a b))/\w'=w:=by
 go_enter func287,ntmps287
 go_wp2_with fail
 refine(cU _ _).mono ?_;rintro e w1⟨rfl,rfl⟩;go_wp2;go_ret;exact⟨rfl,rfl⟩
theorem qf(a b:Bs)(w:World):Calls prog 198 #[.string (B a),.string (B b)] w λe w'=>e=.returned (.int .i64 (cF a b))/\w'=w:=by
 cases h1:lt a b with
 |true=>
  have e:cF a b = -1:=by unfold cF;rw[if_pos h1]
  rw[e];have q1:Op.bytesLess a b=true:=h1;clear e h1;go_enter func198,ntmps198
  go_wp2_with fail
  refine(cU _ _).mono ?_;rintro e w1⟨rfl,rfl⟩;go_wp2_with fail
  refine(cU _ _).mono ?_;rintro e w1⟨rfl,rfl⟩;go_wp2;go_ret;exact⟨rfl,rfl⟩
 |false=>?_
 have q1:Op.bytesLess a b=false:=h1;by_cases h2:a=b
 ·subst h2
  have e:cF a a=0:=by unfold cF;rw[if_neg (by rw[h1];exact Bool.false_ne_true),if_pos rfl]
  rw[e];have q2:(a == a)=true:=beq_self_eq_true a;clear e h1;go_enter func198,ntmps198
  go_wp2_with fail
  refine(cU _ _).mono ?_;rintro e w1⟨rfl,rfl⟩;go_wp2_with fail
  refine(cU _ _).mono ?_;rintro e w1⟨rfl,rfl⟩;go_wp2;go_ret;exact⟨rfl,rfl⟩
 have e:cF a b=1:=by unfold cF;rw[if_neg (by rw[h1];exact Bool.false_ne_true),if_neg h2]
 rw[e];have q2:(a == b)=false:=beq_eq_false_iff_ne.2 h2;clear e h1 h2;go_enter func198,ntmps198
 go_wp2_with fail
 refine(cU _ _).mono ?_;rintro e w1⟨rfl,rfl⟩;go_wp2_with fail
 refine(cU _ _).mono ?_;rintro e w1⟨rfl,rfl⟩;go_wp2;go_ret;exact⟨rfl,rfl⟩
def eB(l:List Hl)(k:Nat)(x:Hl):List Hl:=l.take k++x::l.drop k
theorem fQ(l:List Hl)(k:Nat)(x:Hl):(eB l k x).length=l.length+1:=by
 unfold eB;simp only[List.length_append,List.length_take,List.length_drop,List.length_cons,List.length_nil];omega
structure uf(G cap:Nat)(cur:List Value)(w w':World):Prop where
 hp:w'.heap[G]?=some (.cells cur.toArray dx (0,0))
 len:cur.length=cap*3
 fp:Fp (λk=>k=G) w w'
theorem nb{w:World}{G cap:Nat}{cur:List Value}(hg:w.heap[G]?=some (.cells cur.toArray dx (0,0)))(hl:cur.length=cap*3)(ty:TypeId)(o fy jt:Nat)(a:Addr)(fA ju:Nat)(l:List Hl)(hm:l.length=Nat.min fA fy)
  (lZ:∀i (h:i<l.length) j v,(kU l[i])[j]?=some v->w.cell? (a.add (i*3+j))=some v) (fX:o+l.length*3<=cap*3):
  ∃v' w',(Builtin.copy_ #[bE,bE] ty #[.slice (some ⟨G,o,none⟩) fy jt,.slice (some a) fA ju]).run prog w=.ok v' w'/\uf G cap (cur.take o++aP l++cur.drop (o+l.length*3)) w w':=by
 have h:=nW w ty G o fy jt a fA ju cur l.length (aP l) hg hm (aJ l) (λj v hv=>by
  have hj:j<l.length*3:=by rw[<-aJ];exact(List.getElem?_eq_some_iff.1 hv).1
  have hd:j / 3<l.length:=by omega
  have e:j / 3*3+j % 3=j:=by omega
  rw[<-e,eh l (j / 3) (j % 3) hd (by omega)]at hv
  have:=lZ (j / 3) hd (j % 3) v hv;rwa[e]at this) (by rw[aJ,hl];exact fX) (kO l)
 rw[aJ]at h;refine⟨_,_,h,setRow_heap w G _ _ dx _ hg,?_,av w G _⟩;simp only[List.length_append,List.length_take,List.length_drop,aJ,hl]
 omega
theorem dq.src{w:World}{G cap:Nat}{l:List Hl}(h:dq w G cap l)(k:Nat):∀i (hi:i<(l.drop k).length) j v,(kU (l.drop k)[i])[j]?=some v->w.cell? ((⟨G,k*3,none⟩:Addr).add (i*3+j))=some v:=by
 intro i hi j v hv;rw[List.length_drop]at hi;rw[List.getElem_drop]at hv;have hj:j<3:=by have:=(List.getElem?_eq_some_iff.1 hv).1;simpa[kU]using this
 rw[Addr.add_lit,show k*3+(i*3+j)=(k+i)*3+j from by omega,h.cell (k+i) j (by omega) hj,hv]
theorem Bz(l:List Hl)(k:Nat)(hk:k<=l.length)(x:Hl)(cur:List Value)(h1:cur.take (k*3)=aP (l.take k))(h2:(l.length+1)*3<=cur.length):
  ∃rest,((cur.take ((k+1)*3)++aP (l.drop k)++cur.drop ((k+1)*3+(l.drop k).length*3)).take (k*3)++aP [x]++(cur.take ((k+1)*3)++aP (l.drop k)++cur.drop ((k+1)*3+(l.drop k).length*3)).drop (k*3+[x].length*3))=aP (eB l k x)++rest/\
   (l.length+1)*3+rest.length=cur.length:=by
 refine⟨cur.drop ((k+1)*3+(l.drop k).length*3),?_,?_⟩
 ·have e1:(cur.take ((k+1)*3)).length=(k+1)*3:=by rw[List.length_take];omega
  have e2:(cur.take ((k+1)*3)++aP (l.drop k)++cur.drop ((k+1)*3+(l.drop k).length*3)).take (k*3)=aP (l.take k):=by
   rw[List.append_assoc,List.take_append_of_le_length (by rw[e1];omega),List.take_take,Nat.min_eq_left (by omega),h1]
  have e3:(cur.take ((k+1)*3)++aP (l.drop k)++cur.drop ((k+1)*3+(l.drop k).length*3)).drop (k*3+[x].length*3)=aP (l.drop k)++cur.drop ((k+1)*3+(l.drop k).length*3):=by
   rw[List.append_assoc,List.drop_append,List.drop_of_length_le (by rw[e1];simp;omega),e1,show k*3+[x].length*3-(k+1)*3=0 from by simp;omega]
   rfl
  rw[e2,e3,eB,gx];simp[aP,List.append_assoc]
 simp only[List.length_drop];omega
theorem yF{w:World}{G cap X:Nat}{l:List Hl}{x:Hl}(h:dq w G cap l)(k:Nat)(hk:k<l.length)(jF:l.length+1<=cap)(hX:dz w X 0 x)(bA:X≠G)(hl:l.length<=40000)(nT:w.heap[X]?=some (.cells (kU x).toArray dx (0,0))):
  Calls prog 251 #[.slice (some ⟨G,0,none⟩) l.length cap,.int .i64 (k:Int),.slice (some ⟨X,0,none⟩) 1 1] w λe w'=>e=.returned (.slice (some ⟨G,0,none⟩) (l.length+1) cap)/\dq w' G cap (eB l k x)/\Fp (λj=>j=G) w w':=by
 have hm:=h.most;unfold maxLen at hm;obtain⟨n,hn⟩:∃n,n=l.length:=⟨_,rfl⟩;have q1:((k:Int) == (n:Int))=false:=beq_eq_false_iff_ne.2 (by omega)
 have q2:((cap:Int)<(n:Int)+1)=False:=eq_false (by omega)
 have eJ:k<n:=by omega
 have AD:n<=40000:=by omega
 have me:n+1<=cap:=by omega
 have wk:IntKind.i64.wrap ((k:Int)+1)=((k+1:Nat):Int):=by rw[IntKind.wrap_i64];omega
 have r1:(cap=k+1)=False:=eq_false (by omega)
 have r2:(cap=k)=False:=eq_false (by omega)
 have r3:(((k+1:Nat):Int)<=(n:Int)+1)=True:=eq_true (by omega)
 have r4:(k<=n)=True:=eq_true (by omega)
 have r5:((0:Int)<=((k+1:Nat):Int))=True:=eq_true (by omega)
 have r7:((k:Int)<=(n:Int)+1)=True:=eq_true (by omega)
 have r6:((0:Int)<=(k:Int)+1)=True:=eq_true (by omega)
 have e5:n+1-(k+1)=n-k:=by omega
 obtain⟨rest,Ea,rP⟩:=h.ex;have hd:dq w.drew G cap l:=h.keep ((Fp.refl ab w).drew) id;have l0:(aP l++rest).length=cap*3:=by rw[List.length_append,aJ];omega
 have eN:∀ty,∃v' w',(Builtin.copy_ #[bE,bE] ty #[.slice (some ⟨G,(k+1)*3,none⟩) (n-k) (cap-(k+1)),.slice (some ⟨G,k*3,none⟩) (n+1-k) (cap-k)]).run prog w.drew=.ok v' w'/\uf G cap ((aP l++rest).take ((k+1)*3)++aP (l.drop k)++(aP l++rest).drop ((k+1)*3+(l.drop k).length*3)) w.drew w':=λty=>
  nb (w:=w.drew) Ea l0 ty ((k+1)*3) (n-k) (cap-(k+1)) ⟨G,k*3,none⟩ (n+1-k) (cap-k) (l.drop k) (by rw[List.length_drop,<-hn];simp only[Nat.min_def];split<;>omega) (hd.src k) (by rw[List.length_drop];omega)
 have A8:=Lib.hid eN;have HX:=Lib.hid (And.intro hX bA);have IG:=Lib.hid (And.intro (show(aP l++rest).take (k*3)=aP (l.take k) by rw[List.take_append_of_le_length (by rw[aJ];omega),Bh]) (show(l.length+1)*3<=(aP l++rest).length by rw[l0];omega))
 have IH:=Lib.hid (And.intro l0 h.most)
 have P2:∀o lb cb,(callFunc 297 #[.slice (some ⟨X,0,none⟩) 1 1,.slice (some ⟨G,o,none⟩) lb cb]).run prog w=.ok (.value (.bool false)) w:=λo lb cb=>by
  obtain⟨r,hg,hr⟩:=h.ex
  rw[run_callFunc_extern func297 (by kernel_rfl) (by kernel_rfl) (by kernel_rfl) (e:=Extern.SlicesOverlaps.overlaps #[bE,bE] #[4]) (by kernel_rfl),
   Lib.run_overlaps_apart w bE 4 dx Tryz.underlying26 3 I6 ⟨X,0,none⟩ ⟨G,o,none⟩ 1 1 lb cb bA dx dx 3 (cap*3) (by simp[World.shape?,nT,kU]) (by simp[World.shape?,hg,aJ];omega) (by omega) (by simp[World.frozen?,nT]) (by simp[World.frozen?,nT])]
  rfl
 rw[<-hn];have HN:=Lib.hid hn;clear hn;go_enter func251,ntmps251
 clear h hX nT eN hd l0 Ea rP;go_wp2_with (simp only[P2])
 go_region_law ((refine step_copy rfl _ _ bE bE rfl (.slice (some ⟨G,(k+1)*3,none⟩) (n-k) (cap-(k+1))) (.slice (some ⟨G,k*3,none⟩) (n+1-k) (cap-k)) (by simp[Act.eval,Act.put]) (by simp[Act.eval,Act.put]) (λ_ w'=>uf G cap _ w.drew w') (A8 _) ?_;intro v1 w1 rk))
 have rl:dz w1 X 0 x:=(HX.1.keep ((Fp.refl ab w).drew) id).keep rk.fp HX.2
 have fG:=λty=>nb rk.hp rk.len ty (k*3) (n+1-k) (cap-k) ⟨X,0,none⟩ 1 1 [x] (by simp only[Nat.min_def,List.length_cons,List.length_nil];split<;>omega) (λi hi j v hv=>by
  have dC:i=0:=by simp at hi;omega
  subst dC;have:=rl.get j v hv;rwa[show 0*3+j=j from by omega]) (by simp;omega)
 have Ba:=Lib.hid fG;have ef:=Lib.hid (((Fp.refl ab w).drew.any (S:=λj=>j=G)).same rk.fp)
 clear rk rl fG;go_wp2_with fail
 obtain⟨v2,w2,hr,cN⟩:=Ba.out 3;rw[hr];simp only[Result.andThen]
 rw[Oper.upon_value];clear hr;obtain⟨gP,he,lu⟩:=Bz l k (by have:=HN.out;omega) x (aP l++rest) IG.1 IG.2
 have ba:dq w2 G cap (eB l k x):=by
  refine⟨⟨gP,?_,?_⟩,?_,IH.2⟩
  ·have:=cN.hp;rw[he]at this;exact this
  ·rw[fQ];have:=IH.1;omega
  rw[fQ];have:=HN.out;omega
 have HR:=Lib.hid (And.intro ba (ef.same cN.fp));clear cN he lu ba;go_wp2;go_ret;exact⟨rfl,HR.1,HR.2⟩
structure yG(w:World)(G n:Nat)(l:List Hl)(v':Value)(w':World):Prop where
 ex:∃G' aY,v'=.slice (some ⟨G',0,none⟩) n aY/\dq w' G' aY l/\(G'=G\/w.heap.size<=G')/\Fp (λj=>j=G) w w'
theorem yH{w:World}{G cap X:Nat}{l:List Hl}{x:Hl}(h:dq w G cap l)(hX:dz w X 0 x)(hl:l.length<=40000)(h0:0<l.length):
  Calls prog 251 #[.slice (some ⟨G,0,none⟩) l.length cap,.int .i64 (l.length:Int),.slice (some ⟨X,0,none⟩) 1 1] w λe w'=>∃v',e=.returned v'/\yG w G (l.length+1) (l++[x]) v' w':=by
 have bM:∀ty,∃v' w',(Builtin.append_ #[bE,bE] ty #[.slice (some ⟨G,0,none⟩) l.length cap,.slice (some ⟨X,0,none⟩) 1 1]).run prog w=.ok v' w'/\yG w G (l.length+1) (l++[x]) v' w':=λty=>by
  obtain⟨G',aY,w',hr,h1,_,h2,h3⟩:=yu w 0 _ l [x] ty X 0 1 1 (h.owns (Nat.zero_le _)) rfl (λi hi=>by
   have dC:i=0:=by simp at hi;omega
   subst dC;exact hX) (by simp;omega) (Nat.zero_le _) (by omega)
  refine⟨_,w',hr,⟨G',aY,rfl,h1,?_,(Fp.refl _ w).grown h2 (λk hk=>.inl (by simp[Value.ownBlock]at hk;exact hk.symm))⟩⟩
  rcases h3 with h3|h3
  ·left;simp[Value.ownBlock]at h3;exact h3.symm
  exact .inr h3
 have hm:=h.most;have hr:=h.room;unfold maxLen at hm;generalize l.length=n at *;have HA:=Lib.hid bM;have Aw:(0:Int)<=(n:Int):=by omega
 clear bM h hX;go_enter func251,ntmps251
 go_wp2_with (at_builtin;go_must (refine aG rfl _ _ _ _ rfl _ _ rfl rfl (yG w G (n+1) (l++[x])) (HA bE) ?_))
 all_goals
  intro v2 w2 cN;have HR:=Lib.hid cN;obtain⟨G',aY,rfl,_⟩:=cN.ex;clear cN;go_wp2;go_ret;exact⟨_,rfl,HR.out⟩
structure ND(w:World)(n gc:Nat)(W1:World)(v':Value)(w':World):Prop where
 v:v'=.slice (some ⟨w.heap.size,0,none⟩) (n+1) gc
 w:w'=W1
theorem Zo{w W1:World}{n gc k G cap:Nat}{ty:TypeId}(h:∀ty,(Builtin.append_ #[bE,3] ty #[.slice (some ⟨G,0,none⟩) k cap,.int .i64 ((n+1-k:Nat):Int)]).run prog w=.ok (.slice (some ⟨w.heap.size,0,none⟩) (n+1) gc) W1):
  ∃v' w',(Builtin.append_ #[bE,3] ty #[.slice (some ⟨G,0,none⟩) k cap,.int .i64 ((n+1-k:Nat):Int)]).run prog w=.ok v' w'/\ND w n gc W1 v' w':=⟨_,_,h ty,rfl,rfl⟩
theorem yJ(l:List Hl)(k:Nat)(hk:k<=l.length)(x:Hl)(cur:List Value)(h1:cur.take (k*3)=aP (l.take k))(h2:(l.length+1)*3<=cur.length):
  ∃rest,((cur.take (k*3)++aP [x]++cur.drop (k*3+[x].length*3)).take ((k+1)*3)++aP (l.drop k)++(cur.take (k*3)++aP [x]++cur.drop (k*3+[x].length*3)).drop ((k+1)*3+(l.drop k).length*3))=aP (eB l k x)++rest/\
   (l.length+1)*3+rest.length=cur.length:=by
 have e0:(aP (l.take k)++aP [x]).length=(k+1)*3:=by rw[List.length_append,aJ,aJ,List.length_take];simp;omega
 refine⟨(cur.take (k*3)++aP [x]++cur.drop (k*3+[x].length*3)).drop ((k+1)*3+(l.drop k).length*3),?_,?_⟩
 ·rw[h1]
  rw[List.take_append_of_le_length (by rw[e0];omega),List.take_of_length_le (by rw[e0];omega)]
  congr 1
  rw[eB,gx];simp[aP,List.append_assoc]
 rw[h1,List.length_drop,List.length_append,e0,List.length_drop,List.length_drop];simp;omega
theorem vK{w:World}{G cap X:Nat}{l:List Hl}{x:Hl}(h:dq w G cap l)(k:Nat)(hk:k<l.length)(jF:cap<l.length+1)(hX:dz w X 0 x)(hl:l.length<=40000):
  Calls prog 251 #[.slice (some ⟨G,0,none⟩) l.length cap,.int .i64 (k:Int),.slice (some ⟨X,0,none⟩) 1 1] w λe w'=>∃v',e=.returned v'/\yG w G (l.length+1) (eB l k x) v' w':=by
 have hm:=h.most;have pP:=h.room;unfold maxLen at hm;obtain⟨n,hn⟩:∃n,n=l.length:=⟨_,rfl⟩;obtain⟨i0,dC,l6,IJ,zh⟩:=info_parts Tryz.vI
 have hold:(Builtin.firstCells i0.size k (.slice (some ⟨G,0,none⟩) k cap)).run prog w.drew=.ok (aP (l.take k)).toArray w.drew:=by
  rw[IJ];refine run_firstCells_some w.drew 3 k ⟨G,0,none⟩ k cap (aP (l.take k)) (by rw[aJ,List.length_take];omega) (λj v hj=>?_)
  have hj5:j<k*3:=by have:=(List.getElem?_eq_some_iff.1 hj).1;rw[aJ,List.length_take]at this;omega
  have hd:j / 3<(l.take k).length:=by rw[List.length_take];omega
  have e:j / 3*3+j % 3=j:=by omega
  rw[<-e,eh _ (j / 3) (j % 3) hd (by omega),List.getElem_take]at hj
  have:=h.cell (j / 3) (j % 3) (by omega) (by omega)
  rw[e,hj]at this;rw[Addr.add_lit,Nat.zero_add];exact this
 have sj:∀ty,_:=λty=>Lib.run_append_grow_zeros w bE 3 ty dx i0 _ .i64 .i64 Tryz.underlying26 Tryz.underlying3 dC l6 (some ⟨G,0,none⟩) k cap (aP (l.take k)) hold (n+1-k) (by omega) (by omega) (by omega) (by omega) (by rw[zh];omega) (by rw[zh];exact growslice_fits (by omega) (by omega))
 rw[show k+(n+1-k)=n+1 from by omega]at sj
 obtain⟨gc,vA⟩:∃gc,gc=grownCap w (n+1) cap dx:=⟨_,rfl⟩;have oZ:n+1<=gc:=by rw[vA];exact grownCap_ge w (n+1) cap dx
 have CJ:gc<=maxLen:=by rw[vA];exact grownCap_le_maxLen w (n+1) cap dx (by unfold maxLen;omega)
 rw[<-vA]at sj;obtain⟨cur,jw⟩:∃cur:List Value,cur=((aP (l.take k)).toArray++Builtin.zeroCells (Value.cells (.agg #[.string ⟨#[]⟩,.int .i64 0,.int .i64 0])) (n+1-k)++Builtin.zeroCells (Value.cells (.agg #[.string ⟨#[]⟩,.int .i64 0,.int .i64 0])) (gc-(n+1))).toList:=⟨_,rfl⟩
 have dN:cur.length=gc*3:=by
  rw[jw,Array.length_toList,Array.size_append,Array.size_append,size_zeroCells,size_zeroCells,List.size_toArray,aJ,List.length_take];show min k l.length*3+(n+1-k)*3+(gc-(n+1))*3=gc*3
  omega
 have pH:cur.take (k*3)=aP (l.take k):=by
  rw[jw,Array.toList_append,Array.toList_append,List.append_assoc,List.take_append_of_le_length (by simp[aJ];omega),List.take_of_length_le (by simp[aJ];omega)]
 obtain⟨W1,jM⟩:∃W1,W1=w.drew.alloc (.cells cur.toArray dx):=⟨_,rfl⟩
 have ry:∀ty,(Builtin.append_ #[bE,3] ty #[.slice (some ⟨G,0,none⟩) k cap,.int .i64 ((n+1-k:Nat):Int)]).run prog w=.ok (.slice (some ⟨w.heap.size,0,none⟩) (n+1) gc) W1:=λty=>by
  rw[jM,jw];exact sj ty
 have cv:Fp ab w W1:=by rw[jM];exact((Fp.refl ab w).drew).alloc _
 have IK:W1.heap[w.heap.size]?=some (.cells cur.toArray dx (0,0)):=by rw[jM];exact heap_alloc_new w.drew _
 have rl:=hX.keep cv id;have h1:=h.keep cv id;have rz:=h.lt
 have eN:∀ty,∃v' w',(Builtin.copy_ #[bE,bE] ty #[.slice (some ⟨w.heap.size,k*3,none⟩) (n+1-k) (gc-k),.slice (some ⟨X,0,none⟩) 1 1]).run prog W1=.ok v' w'/\uf w.heap.size gc (cur.take (k*3)++aP [x]++cur.drop (k*3+[x].length*3)) W1 w':=λty=>
  nb IK dN ty (k*3) (n+1-k) (gc-k) ⟨X,0,none⟩ 1 1 [x] (by simp only[Nat.min_def,List.length_cons,List.length_nil];split<;>omega) (λi hi j v hv=>by
   have dC:i=0:=by simp at hi;omega
   subst dC;have:=rl.get j v hv;rwa[show 0*3+j=j from by omega]) (by simp;omega)
 have q1:((k:Int) == (n:Int))=false:=beq_eq_false_iff_ne.2 (by omega)
 have q2:((cap:Int)<(n:Int)+1)=True:=eq_true (by omega)
 have eJ:k<n:=by omega
 have AD:n<=40000:=by omega
 have me:cap=n:=by omega
 have wk:IntKind.i64.wrap ((k:Int)+1)=((k+1:Nat):Int):=by rw[IntKind.wrap_i64];omega
 have wn:(n:Int)+1-(k:Int)=((n+1-k:Nat):Int):=by omega
 have r1:(gc=k+1)=False:=eq_false (by omega)
 have r2:(gc=k)=False:=eq_false (by omega)
 have r8:(cap=k)=False:=eq_false (by omega)
 have r3:(((k+1:Nat):Int)<=(n:Int)+1)=True:=eq_true (by omega)
 have r4:(k<=n)=True:=eq_true (by omega)
 have r5:((0:Int)<=((k+1:Nat):Int))=True:=eq_true (by omega)
 have r7:((k:Int)<=(n:Int)+1)=True:=eq_true (by omega)
 have r6:((0:Int)<=(k:Int)+1)=True:=eq_true (by omega)
 have r9:(k<=cap)=True:=eq_true (by omega)
 have KM:((k:Int)<=(cap:Int))=True:=eq_true (by omega)
 have e5:n+1-(k+1)=n-k:=by omega
 rw[<-hn];have HZ:=Lib.hid ry;have A8:=Lib.hid eN;have HX:=Lib.hid (And.intro hn (And.intro h1 (And.intro dN (And.intro pH (And.intro CJ (And.intro oZ (And.intro cv rz)))))));unfold maxLen at CJ;clear ry eN sj hold hn h1 rl IK cv jM dN pH jw vA hX h rz me hk jF hl pP dC l6 IJ zh;go_enter func251,ntmps251
 go_wp2_with (at_builtin;go_must (refine aG rfl _ _ _ _ rfl _ _ rfl rfl (λv' w'=>ND w n gc W1 v' w') (Zo HZ.out) ?_))
 intro v2 w2 cN;obtain⟨rfl,rfl⟩:=cN;go_wp2_with fail
 obtain⟨v3,w3,hr,lz⟩:=A8.out 3;rw[hr];simp only[Result.andThen]
 rw[Oper.upon_value];clear hr;have h3:dq w3 G cap l:=HX.2.1.keep lz.fp (λe=>by have:=HX.2.2.2.2.2.2.2;omega)
 have vj:dq w3.drew G cap l:=h3.keep ((Fp.refl ab w3).drew) id;have IL:=HX.1
 have fG:∀ty,∃v' w',(Builtin.copy_ #[bE,bE] ty #[.slice (some ⟨w.heap.size,(k+1)*3,none⟩) (n-k) (gc-(k+1)),.slice (some ⟨G,k*3,none⟩) (n-k) (cap-k)]).run prog w3.drew=.ok v' w'/\uf w.heap.size gc _ w3.drew w':=λty=>
  nb (w:=w3.drew) lz.hp lz.len ty ((k+1)*3) (n-k) (gc-(k+1)) ⟨G,k*3,none⟩ (n-k) (cap-k) (l.drop k) (by rw[List.length_drop,<-IL];simp only[Nat.min_def];split<;>omega) (vj.src k) (by rw[List.length_drop];omega)
 have Ba:=Lib.hid fG;have nw:=Lib.hid lz.fp;clear lz h3 vj IL fG;go_wp2_with fail
 go_region_law ((refine step_copy rfl _ _ bE bE rfl (.slice (some ⟨w.heap.size,(k+1)*3,none⟩) (n-k) (gc-(k+1))) (.slice (some ⟨G,k*3,none⟩) (n-k) (cap-k)) (by simp[Act.eval,Act.put]) (by simp[Act.eval,Act.put]) (λ_ w'=>uf w.heap.size gc _ w3.drew w') (Ba _) ?_;intro v4 w4 gu))
 obtain⟨gP,he,lu⟩:=yJ l k (by have:=HX.1;omega) x cur HX.2.2.2.1 (by have h1:=HX.1;have h2:=HX.2.2.1;have h3:=HX.2.2.2.2.2.1;omega)
 have ba:dq w4 w.heap.size gc (eB l k x):=by
  refine⟨⟨gP,?_,?_⟩,?_,HX.2.2.2.2.1⟩
  ·have:=gu.hp;rw[he]at this;exact this
  ·rw[fQ];have:=HX.2.2.1;omega
  rw[fQ];have h1:=HX.1;have h3:=HX.2.2.2.2.2.1;omega
 have dV:Fp (λj=>j=G) w w4:=(((HX.2.2.2.2.2.2.1.any (S:=λj=>j=G)).trans nw (λk hk=>.inr (by rw[hk];exact Nat.le_refl _))).trans (((Fp.refl ab w3).drew.any (S:=λj=>j=w.heap.size)).same gu.fp) (λk hk=>.inr (by rw[hk];exact Nat.le_refl _)))
 have HR:=Lib.hid (And.intro ba dV);clear gu he lu ba dV;go_wp2;go_ret;exact⟨_,rfl,⟨w.heap.size,gc,rfl,HR.1,.inr (Nat.le_refl _),HR.2⟩⟩
theorem Ey{w:World}{G cap X:Nat}{l:List Hl}{x:Hl}(h:dq w G cap l)(k:Nat)(hk:k<=l.length)(hX:w.heap[X]?=some (.cells (kU x).toArray dx (0,0)))(bA:X≠G)(hl:l.length<=40000)(h0:0<l.length):
  Calls prog 251 #[.slice (some ⟨G,0,none⟩) l.length cap,.int .i64 (k:Int),.slice (some ⟨X,0,none⟩) 1 1] w λe w'=>∃v',e=.returned v'/\yG w G (l.length+1) (eB l k x) v' w':=by
 have aE:dz w X 0 x:=⟨by rw[cell_of_row _ _ _ _ _ _ hX];rfl,by rw[cell_of_row _ _ _ _ _ _ hX];rfl,by rw[cell_of_row _ _ _ _ _ _ hX];rfl⟩
 by_cases aS:k<l.length
 ·by_cases hr:l.length+1<=cap
  ·refine(yF h k aS hr aE bA hl hX).mono ?_
   rintro e w'⟨rfl,h1,h2⟩;exact⟨_,rfl,⟨G,cap,rfl,h1,.inl rfl,h2⟩⟩
  exact vK h k aS (by omega) aE hl
 obtain rfl:k=l.length:=by omega
 have e:eB l l.length x=l++[x]:=by unfold eB;simp
 rw[e];exact yH h aE hl h0
theorem wJ{lo:Nat}{w:World}{v:Value}{X:Nat}{l:List Hl}{x:Hl}(h:eI lo w v l)(k:Nat)(hk:k<=l.length)(hX:w.heap[X]?=some (.cells (kU x).toArray dx (0,0)))(bA:v.ownBlock≠some X)(hl:l.length<=40000)(bq:lo<=w.heap.size):
  Calls prog 251 #[v,.int .i64 (k:Int),.slice (some ⟨X,0,none⟩) 1 1] w λe w'=>∃v',e=.returned v'/\yx lo w v (eB l k x) v' w':=by
 have aE:dz w X 0 x:=⟨by rw[cell_of_row _ _ _ _ _ _ hX];rfl,by rw[cell_of_row _ _ _ _ _ _ hX];rfl,by rw[cell_of_row _ _ _ _ _ _ hX];rfl⟩
 rcases h.ways with⟨rfl,rfl⟩|⟨G,cap,rfl,h1,h2⟩
 ·obtain rfl:k=0:=by simpa using hk
  have bM:∀ty,∃v' w',(Builtin.append_ #[bE,bE] ty #[.slice none 0 0,.slice (some ⟨X,0,none⟩) 1 1]).run prog w=.ok v' w'/\yx lo w (.slice none 0 0) (eB [] 0 x) v' w':=λty=>by
   obtain⟨v',w',hr,ho,hg,uV⟩:=nX w lo (.slice none 0 0) [] [x] ty ⟨X,0,none⟩ 1 1 h rfl (λi hi j u hu=>by
    have dC:i=0:=by simp at hi;omega
    subst dC;have:=aE.get j u hu;rwa[show 0*3+j=j from by omega]) (by simp) bq
   exact⟨v',w',hr,ho,(Fp.refl _ w).grown hg (λk hk=>.inl hk),uV⟩
  have HA:=Lib.hid bM;clear bM h hk hX aE hl;go_enter func251,ntmps251
  go_wp2_with (at_builtin;go_must (refine aG rfl _ _ _ _ rfl _ _ rfl rfl (yx lo w (.slice none 0 0) (eB [] 0 x)) (HA bE) ?_))
  all_goals
   intro v2 w2 cN;have HR:=Lib.hid cN;clear cN;go_wp2;go_ret;exact⟨_,rfl,HR.out⟩
 have Be:X≠G:=λe=>bA (by rw[e];rfl)
 have hf:∀w',Fp (λj=>j=G) w w'->Fp (λk=>(Value.slice (some ⟨G,0,none⟩) l.length cap).ownBlock=some k) w w':=λw' f=>f.mono (λk hk=>by rw[hk];rfl)
 by_cases h0:0<l.length
 ·refine(Ey h1 k hk hX Be hl h0).mono ?_
  rintro e w'⟨v',rfl,hR⟩;obtain⟨G',aY,rfl,a1,a2,a3⟩:=hR.ex;refine⟨_,rfl,?_,hf w' a3,λk hk=>by rcases a2 with e|e<;>(simp only[Value.ownBlock,Option.some.injEq]at hk|-;omega)⟩
  have:=eI.row (lo:=lo) a1 (by rcases a2 with e|e<;>omega)
  rwa[fQ]at this
 obtain rfl:l=[]:=List.eq_nil_of_length_eq_zero (by omega)
 obtain rfl:k=0:=by simpa using hk
 have bM:∀ty,∃v' w',(Builtin.append_ #[bE,bE] ty #[.slice (some ⟨G,0,none⟩) 0 cap,.slice (some ⟨X,0,none⟩) 1 1]).run prog w=.ok v' w'/\yx lo w (.slice (some ⟨G,0,none⟩) 0 cap) (eB [] 0 x) v' w':=λty=>by
  obtain⟨v',w',hr,ho,hg,uV⟩:=nX w lo (.slice (some ⟨G,0,none⟩) 0 cap) [] [x] ty ⟨X,0,none⟩ 1 1 h rfl (λi hi j u hu=>by
   have dC:i=0:=by simp at hi;omega
   subst dC;have:=aE.get j u hu;rwa[show 0*3+j=j from by omega]) (by simp) bq
  exact⟨v',w',hr,ho,(Fp.refl _ w).grown hg (λk hk=>.inl hk),uV⟩
 have HA:=Lib.hid bM;have hm:=h1.most;unfold maxLen at hm;clear bM h hk hX aE hl h1 hf h0;simp only[List.length_nil]
 go_enter func251,ntmps251
 go_wp2_with (at_builtin;go_must (refine aG rfl _ _ _ _ rfl _ _ rfl rfl (yx lo w (.slice (some ⟨G,0,none⟩) 0 cap) (eB [] 0 x)) (HA bE) ?_))
 all_goals
  intro v2 w2 cN;have HR:=Lib.hid cN;clear cN;go_wp2;go_ret;exact⟨_,rfl,HR.out⟩
theorem dq.put{w:World}{G cap:Nat}{l:List Hl}(h:dq w G cap l)(i:Nat)(hi:i<l.length)(x:Hl):
  dq (((w.setCell ⟨G,i*3,none⟩ (au x.d)).setCell ⟨G,i*3+1,none⟩ (.int .i64 x.t)).setCell ⟨G,i*3+2,none⟩ (.int .i64 x.a)) G cap (l.set i x):=by
 obtain⟨rest,hg,rP⟩:=h.ex;have h1:=heap_setCell_same w G (i*3) _ dx (au x.d) hg;have h2:=heap_setCell_same _ G (i*3+1) _ dx (.int .i64 x.t) h1;have h3:=heap_setCell_same _ G (i*3+2) _ dx (.int .i64 x.a) h2;refine⟨⟨rest,?_,by rw[List.length_set];exact rP⟩,by rw[List.length_set];exact h.room,h.most⟩
 rw[h3,<-tV l i hi x rest];simp[List.setIfInBounds_toArray]
end Go.Proofs.YtgafcelloiagmaaGreatDoor
