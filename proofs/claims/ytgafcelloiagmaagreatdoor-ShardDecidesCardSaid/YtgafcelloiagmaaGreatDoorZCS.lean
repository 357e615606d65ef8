/- A text of this proof. -/
import Derived.Deep.Grids
import Derived.Deep.Strs
import Derived.OpenShut
import Derived.ProofKit
import Derived.Test.YtgafcelloiagmaaGreatDoorZCN
import Derived.Test.YtgafcelloiagmaaGreatDoorZCO
set_option maxHeartbeats 16000000
set_option linter.unusedSimpArgs false
set_option linter.unusedVariables false
set_option maxRecDepth 20000
namespace Go.Proofs.YtgafcelloiagmaaGreatDoor
open Go.Proofs.Tryz
open Go.RowKit Pm
namespace Pm
open Go.Proofs.Tryz
end Pm
theorem ae{w:World}{b:Nat}{cs:Array Value}{T:TypeId}(h:w.heap[b]?=some (.cells cs T (0,0)))(j:Nat):w.frozen? ⟨b,j,none⟩=false:=by
 unfold World.frozen?;simp only[h];simp
theorem SX{w:World}{b:Nat}{T:TypeId}{a0 a1 a2 a3 a4:Value}(h:w.heap[b]?=some (.cells #[a0,a1,a2,a3,a4] T (0,0)))(v0 v1 v2 v3 v4:Value):
  Fp (λk=>k=b) w (((((w.setCell ⟨b,0,none⟩ v0).setCell ⟨b,1,none⟩ v1).setCell ⟨b,2,none⟩ v2).setCell ⟨b,3,none⟩ v3).setCell ⟨b,4,none⟩ v4):=
 QB (S:=λk=>k=b) (Fp.refl _ w) (.inl rfl) v0 v1 v2 v3 v4
def Sb(l:List Wt):Prop:=∀x∈l,x.p.length<=1000000
structure Gj(S:Nat->Prop)(wc:World)(f:Value)(q:Wt->Bool):Prop where
 ex:∃k fi cap,f=.func (.func k) fi cap/\Enters prog k/\∀n w1,n.p.length<=1000000->Fp S wc w1->
  Calls prog k (fi++#[BW n]++cap) w1 λe w2=>e=.returned (.bool (q n))/\Fp ab w1 w2
theorem Gj.later{S:Nat->Prop}{wc w:World}{f:Value}{q:Wt->Bool}(h:Gj S wc f q)(g:Fp S wc w):Gj S w f q:=by
 obtain⟨k,fi,cap,e,h1,h2⟩:=h.ex;exact⟨k,fi,cap,e,h1,λn w1 hn hf=>h2 n w1 hn (g.same hf)⟩
theorem Gj.af{S:Nat->Prop}{wc:World}{f:Value}{q:Wt->Bool}(h:Gj S wc f q):Gj ab wc f q:=by
 obtain⟨k,fi,cap,e,h1,h2⟩:=h.ex;exact⟨k,fi,cap,e,h1,λn w1 hn hf=>h2 n w1 hn hf.any⟩
def I7(q:Wt->Bool)(l:List Wt)(z:Int):Prop:=(z = -1/\∀n∈l,q n=false)\/∃i,z=((i:Nat):Int)/\∃h:i<l.length,q l[i]=true/\∀j (hj:j<l.length),j<i->q l[j]=false
theorem I8(v f:Value)(l:List Wt)(q:Wt->Bool)(w:World)(hv:lM w v l)(hs:Sb l)(hq:Gj ab w f q)(hn:l.length<=1000000):
  Calls prog 263 #[v,f] w λe w'=>(∃z,e=.returned (.int .i64 z)/\I7 q l z)/\Fp ab w w':=by
 obtain⟨ao,cap,rfl⟩:=hv.shape;obtain⟨n,aR⟩:∃n,n=l.length:=⟨_,rfl⟩;obtain⟨kf,fi,fc,rfl,gU,bB⟩:=hq.ex;have HX:=Lib.hid (And.intro aR (And.intro hv (And.intro hs bB)));rw[<-aR];have jS:n<=1000000:=by omega
 clear hv hs hq bB hn aR;go_enter func263,ntmps263
 go_wp2_with fail
 go_loopw [8] (λi wr=>∃k:Nat,k<=n/\i=.int .i64 k/\Hid (Fp ab w wr/\∀j (hj:j<l.length),j<k->q l[j]=false)) (λi _=>n-(RowKit.intOf i).toNat)
 case atStart=>exact⟨0,Nat.zero_le _,rfl,Fp.refl _ _,λj _ h=>absurd h (Nat.not_lt_zero j)⟩
 obtain⟨k,hk,rfl,hR⟩:=hrel;rename_i wr _
 by_cases ay:k<n
 ·have aS:k<l.length:=by rw[<-HX.1];exact ay
  obtain⟨g,o,aY,e,_,_,_,aq⟩:=HX.2.1.at (by omega)
  injection e with e1 e2 e3
  subst e1 e3;have aE:=(aq k aS).keep hR.1 id;have dy:=HX.2.2.2 l[k] wr (HX.2.2.1 _ (List.getElem_mem aS)) hR.1;obtain⟨b,hb⟩:∃b,q l[k]=b:=⟨_,rfl⟩;rw[hb]at dy;have HB:=Lib.hid (And.intro aS (And.intro hb ay));have HL:=Lib.hid (And.intro aS ay)
  have gi:b=false->∀j (hj:j<l.length),j<k+1->q l[j]=false:=λh j hj rJ=>by
   rcases Nat.lt_or_eq_of_le (show j<=k by omega) with e|e
   ·exact hR.2 j hj e
   subst e;rw[hb,h]
  have bf:b=true->I7 q l (k:Int):=λh=>.inr ⟨k,rfl,aS,by rw[hb,h],λj hj rJ=>hR.2 j hj rJ⟩
  have HN:=Lib.hid (And.intro gi bf);clear HB gi bf hb aq;generalize l[k]=x at *;have c0:=aE.c0;have c1:=aE.c1;have c2:=aE.c2;have c3:=aE.c3;unfold au at c2;unfold BW au at dy;have q3:((k:Int)<(n:Int))=True:=eq_true (by omega)
  have q4:(k<n)=True:=eq_true ay;have uR:=Lib.hid dy;clear aE dy aS ay;go_wp2_with fail
  rw[gU _ _];go_wp2_with fail
  refine uR.mono ?_;rintro e w2⟨rfl,bY⟩;have HF:=Lib.hid (hR.1.then bY);clear bY;cases b with
  |true=>
   have hI:=HN.2 rfl;have HI:=Lib.hid hI;clear HN hI;go_wp2;go_ret;exact⟨⟨_,rfl,HI.out⟩,HF.out⟩
  |false=>?_
  have hM:Hid (Fp ab w w2/\∀j (hj:j<l.length),j<k+1->q l[j]=false):=⟨HF.out,HN.1 rfl⟩;have eJ:=HL.2;clear HN;go_wp2;go_roundw
  case rel=>exact⟨k+1,by omega,by go_num,hM⟩
  case measure=>simp[RowKit.intOf];omega
 have cV:k=n:=by omega
 subst cV;have q3:((k:Int)<(k:Int))=False:=eq_false (by omega)
 have hI:I7 q l (-1):=.inl ⟨rfl,λx hx=>by
  obtain⟨i,hi,rfl⟩:=List.getElem_of_mem hx;exact hR.2 i hi (by rw[HX.1];exact hi)⟩
 have HI:=Lib.hid hI;clear ay hk hI;go_wp2;go_ret;exact⟨⟨_,rfl,HI.out⟩,hR.1⟩
theorem I7.pos{q:Wt->Bool}{l:List Wt}{z:Int}(h:I7 q l z):decide (0<=z)=l.any q:=by
 rcases h with⟨rfl,h⟩|⟨i,rfl,hi,h,_⟩
 ·have:l.any q=false:=by rw[List.any_eq_false];intro x hx;simp[h x hx]
  rw[this];rfl
 have:l.any q=true:=List.any_eq_true.2 ⟨_,List.getElem_mem hi,h⟩;rw[this];simp
theorem oA(v f:Value)(l:List Wt)(q:Wt->Bool)(w:World)(hv:lM w v l)(hs:Sb l)(hq:Gj ab w f q)(hn:l.length<=1000000):
  Calls prog 207 #[v,f] w λe w'=>e=.returned (.bool (l.any q))/\Fp ab w w':=by
 have hi:=I8 v f l q w hv hs hq hn;have HI:=Lib.hid hi;obtain⟨ao,cap,rfl⟩:=hv.shape;obtain⟨kf,fi,fc,rfl,_,_⟩:=hq.ex;clear hi hv hq hs hn;go_enter func207,ntmps207
 go_wp2_with fail
 refine HI.mono ?_;rintro e w1⟨⟨z,rfl,hz⟩,hf⟩;have HZ:=Lib.hid (And.intro hz.pos hf);clear hz hf;go_wp2;go_ret;exact⟨aB HZ.1,HZ.2⟩
def eU(l:List aU)(k:Nat)(x:aU):List aU:=l.take k++x::l.drop k
theorem eu(l:List aU)(k:Nat)(x:aU):(eU l k x).length=l.length+1:=by
 unfold eU;simp only[List.length_append,List.length_take,List.length_drop,List.length_cons,List.length_nil];omega
structure ub(G cap:Nat)(cur:List Value)(w w':World):Prop where
 hp:w'.heap[G]?=some (.cells cur.toArray TV (0,0))
 len:cur.length=cap*3
 fp:Fp (λk=>k=G) w w'
theorem mZ{w:World}{G cap:Nat}{cur:List Value}(hg:w.heap[G]?=some (.cells cur.toArray TV (0,0)))(hl:cur.length=cap*3)(ty:TypeId)(o fy jt:Nat)(a:Addr)(fA ju:Nat)(l:List aU)(hm:l.length=Nat.min fA fy)
  (lZ:∀i (h:i<l.length) j v,(eS l[i])[j]?=some v->w.cell? (a.add (i*3+j))=some v) (fX:o+l.length*3<=cap*3):
  ∃v' w',(Builtin.copy_ #[iz,iz] ty #[.slice (some ⟨G,o,none⟩) fy jt,.slice (some a) fA ju]).run prog w=.ok v' w'/\ub G cap (cur.take o++aW l++cur.drop (o+l.length*3)) w w':=by
 have h:=py w ty G o fy jt a fA ju cur l.length (aW l) hg hm (aV l) (λj v hv=>by
  have hj:j<l.length*3:=by rw[<-aV];exact(List.getElem?_eq_some_iff.1 hv).1
  have hd:j / 3<l.length:=by omega
  have e:j / 3*3+j % 3=j:=by omega
  rw[<-e,fh l (j / 3) (j % 3) hd (by omega)]at hv
  have:=lZ (j / 3) hd (j % 3) v hv;rwa[e]at this) (by rw[aV,hl];exact fX) (nV l)
 rw[aV]at h;refine⟨_,_,h,setRow_heap w G _ _ TV _ hg,?_,av w G _⟩;simp only[List.length_append,List.length_take,List.length_drop,aV,hl]
 omega
theorem iZ.src{w:World}{G cap:Nat}{l:List aU}(h:iZ w G cap l)(k:Nat):∀i (hi:i<(l.drop k).length) j v,(eS (l.drop k)[i])[j]?=some v->w.cell? ((⟨G,k*3,none⟩:Addr).add (i*3+j))=some v:=by
 intro i hi j v hv;rw[List.length_drop]at hi;rw[List.getElem_drop]at hv;have hj:j<3:=by have:=(List.getElem?_eq_some_iff.1 hv).1;simpa[eS]using this
 rw[Addr.add_lit,show k*3+(i*3+j)=(k+i)*3+j from by omega,h.cell (k+i) j (by omega) hj,hv]
theorem Bw(l:List aU)(k:Nat)(hk:k<=l.length)(x:aU)(cur:List Value)(h1:cur.take (k*3)=aW (l.take k))(h2:(l.length+1)*3<=cur.length):
  ∃rest,((cur.take ((k+1)*3)++aW (l.drop k)++cur.drop ((k+1)*3+(l.drop k).length*3)).take (k*3)++aW [x]++(cur.take ((k+1)*3)++aW (l.drop k)++cur.drop ((k+1)*3+(l.drop k).length*3)).drop (k*3+[x].length*3))=aW (eU l k x)++rest/\
   (l.length+1)*3+rest.length=cur.length:=by
 refine⟨cur.drop ((k+1)*3+(l.drop k).length*3),?_,?_⟩
 ·have e1:(cur.take ((k+1)*3)).length=(k+1)*3:=by rw[List.length_take];omega
  have e2:(cur.take ((k+1)*3)++aW (l.drop k)++cur.drop ((k+1)*3+(l.drop k).length*3)).take (k*3)=aW (l.take k):=by
   rw[List.append_assoc,List.take_append_of_le_length (by rw[e1];omega),List.take_take,Nat.min_eq_left (by omega),h1]
  have e3:(cur.take ((k+1)*3)++aW (l.drop k)++cur.drop ((k+1)*3+(l.drop k).length*3)).drop (k*3+[x].length*3)=aW (l.drop k)++cur.drop ((k+1)*3+(l.drop k).length*3):=by
   rw[List.append_assoc,List.drop_append,List.drop_of_length_le (by rw[e1];simp;omega),e1,show k*3+[x].length*3-(k+1)*3=0 from by simp;omega]
   rfl
  rw[e2,e3,eU,kP];simp[aW,List.append_assoc]
 simp only[List.length_drop];omega
theorem yy{w:World}{G cap X:Nat}{l:List aU}{x:aU}(h:iZ w G cap l)(k:Nat)(hk:k<l.length)(jF:l.length+1<=cap)(hX:gQ w X 0 x)(bA:X≠G)(hl:l.length<=40000)(nT:w.heap[X]?=some (.cells (eS x).toArray TV (0,0))):
  Calls prog 265 #[.slice (some ⟨G,0,none⟩) l.length cap,.int .i64 (k:Int),.slice (some ⟨X,0,none⟩) 1 1] w λe w'=>e=.returned (.slice (some ⟨G,0,none⟩) (l.length+1) cap)/\iZ w' G cap (eU l k x)/\Fp (λj=>j=G) w w':=by
 have hm:=h.most;unfold maxLen at hm;obtain⟨n,hn⟩:∃n,n=l.length:=⟨_,rfl⟩;have q1:((k:Int) == (n:Int))=false:=beq_eq_false_iff_ne.2 (by omega)
 have q2:((cap:Int)<(n:Int)+1)=False:=eq_false (by omega)
 have eJ:k<n:=by omega
 have AD:n<=40000:=by omega
 have me:n+1<=cap:=by omega
 have wk:IntKind.i64.wrap ((k:Int)+1)=((k+1:Nat):Int):=by rw[IntKind.wrap_i64];omega
 have r1:(cap=k+1)=False:=eq_false (by omega)
 have r2:(cap=k)=False:=eq_false (by omega)
 have r3:(((k+1:Nat):Int)<=(n:Int)+1)=True:=eq_true (by omega)
 have r4:(k<=n)=True:=eq_true (by omega)
 have r5:((0:Int)<=((k+1:Nat):Int))=True:=eq_true (by omega)
 have r7:((k:Int)<=(n:Int)+1)=True:=eq_true (by omega)
 have r6:((0:Int)<=(k:Int)+1)=True:=eq_true (by omega)
 have e5:n+1-(k+1)=n-k:=by omega
 obtain⟨rest,Ea,rP⟩:=h.ex;have hd:iZ w.drew G cap l:=h.keep ((Fp.refl ab w).drew) id;have l0:(aW l++rest).length=cap*3:=by rw[List.length_append,aV];omega
 have eN:∀ty,∃v' w',(Builtin.copy_ #[iz,iz] ty #[.slice (some ⟨G,(k+1)*3,none⟩) (n-k) (cap-(k+1)),.slice (some ⟨G,k*3,none⟩) (n+1-k) (cap-k)]).run prog w.drew=.ok v' w'/\ub G cap ((aW l++rest).take ((k+1)*3)++aW (l.drop k)++(aW l++rest).drop ((k+1)*3+(l.drop k).length*3)) w.drew w':=λty=>
  mZ (w:=w.drew) Ea l0 ty ((k+1)*3) (n-k) (cap-(k+1)) ⟨G,k*3,none⟩ (n+1-k) (cap-k) (l.drop k) (by rw[List.length_drop,<-hn];simp only[Nat.min_def];split<;>omega) (hd.src k) (by rw[List.length_drop];omega)
 have A8:=Lib.hid eN;have HX:=Lib.hid (And.intro hX bA);have IG:=Lib.hid (And.intro (show(aW l++rest).take (k*3)=aW (l.take k) by rw[List.take_append_of_le_length (by rw[aV];omega),Bn]) (show(l.length+1)*3<=(aW l++rest).length by rw[l0];omega))
 have IH:=Lib.hid (And.intro l0 h.most)
 have P2:∀o lb cb,(callFunc 325 #[.slice (some ⟨X,0,none⟩) 1 1,.slice (some ⟨G,o,none⟩) lb cb]).run prog w=.ok (.value (.bool false)) w:=λo lb cb=>by
  obtain⟨r,hg,hr⟩:=h.ex
  rw[run_callFunc_extern func325 (by kernel_rfl) (by kernel_rfl) (by kernel_rfl) (e:=Extern.SlicesOverlaps.overlaps #[iz,iz] #[4]) (by kernel_rfl),
   Lib.run_overlaps_apart w iz 4 TV Tryz.underlying55 3 Zj ⟨X,0,none⟩ ⟨G,o,none⟩ 1 1 lb cb bA TV TV 3 (cap*3) (by simp[World.shape?,nT,eS]) (by simp[World.shape?,hg,aV];omega) (by omega) (by simp[World.frozen?,nT]) (by simp[World.frozen?,nT])]
  rfl
 rw[<-hn];have HN:=Lib.hid hn;clear hn;go_enter func265,ntmps265
 clear h hX nT eN hd l0 Ea rP;go_wp2_with (simp only[P2])
 go_region_law ((refine step_copy rfl _ _ iz iz rfl (.slice (some ⟨G,(k+1)*3,none⟩) (n-k) (cap-(k+1))) (.slice (some ⟨G,k*3,none⟩) (n+1-k) (cap-k)) (by simp[Act.eval,Act.put]) (by simp[Act.eval,Act.put]) (λ_ w'=>ub G cap _ w.drew w') (A8 _) ?_;intro v1 w1 rk))
 have rl:gQ w1 X 0 x:=(HX.1.keep ((Fp.refl ab w).drew) id).keep rk.fp HX.2
 have fG:=λty=>mZ rk.hp rk.len ty (k*3) (n+1-k) (cap-k) ⟨X,0,none⟩ 1 1 [x] (by simp only[Nat.min_def,List.length_cons,List.length_nil];split<;>omega) (λi hi j v hv=>by
  have dC:i=0:=by simp at hi;omega
  subst dC;have:=rl.get j v hv;rwa[show 0*3+j=j from by omega]) (by simp;omega)
 have Ba:=Lib.hid fG;have ef:=Lib.hid (((Fp.refl ab w).drew.any (S:=λj=>j=G)).same rk.fp)
 clear rk rl fG;go_wp2_with fail
 obtain⟨v2,w2,hr,cN⟩:=Ba.out 3;rw[hr];simp only[Result.andThen]
 rw[Oper.upon_value];clear hr;obtain⟨gP,he,lu⟩:=Bw l k (by have:=HN.out;omega) x (aW l++rest) IG.1 IG.2
 have ba:iZ w2 G cap (eU l k x):=by
  refine⟨⟨gP,?_,?_⟩,?_,IH.2⟩
  ·have:=cN.hp;rw[he]at this;exact this
  ·rw[eu];have:=IH.1;omega
  rw[eu];have:=HN.out;omega
 have HR:=Lib.hid (And.intro ba (ef.same cN.fp));clear cN he lu ba;go_wp2;go_ret;exact⟨rfl,HR.1,HR.2⟩
structure yz(w:World)(G n:Nat)(l:List aU)(v':Value)(w':World):Prop where
 ex:∃G' aY,v'=.slice (some ⟨G',0,none⟩) n aY/\iZ w' G' aY l/\(G'=G\/w.heap.size<=G')/\Fp (λj=>j=G) w w'
theorem yA{w:World}{G cap X:Nat}{l:List aU}{x:aU}(h:iZ w G cap l)(hX:gQ w X 0 x)(hl:l.length<=40000)(h0:0<l.length):
  Calls prog 265 #[.slice (some ⟨G,0,none⟩) l.length cap,.int .i64 (l.length:Int),.slice (some ⟨X,0,none⟩) 1 1] w λe w'=>∃v',e=.returned v'/\yz w G (l.length+1) (l++[x]) v' w':=by
 have bM:∀ty,∃v' w',(Builtin.append_ #[iz,iz] ty #[.slice (some ⟨G,0,none⟩) l.length cap,.slice (some ⟨X,0,none⟩) 1 1]).run prog w=.ok v' w'/\yz w G (l.length+1) (l++[x]) v' w':=λty=>by
  obtain⟨G',aY,w',hr,h1,_,h2,h3⟩:=Bo w 0 _ l [x] ty X 0 1 1 (h.owns (Nat.zero_le _)) rfl (λi hi=>by
   have dC:i=0:=by simp at hi;omega
   subst dC;exact hX) (by simp;omega) (Nat.zero_le _) (by omega)
  refine⟨_,w',hr,⟨G',aY,rfl,h1,?_,(Fp.refl _ w).grown h2 (λk hk=>.inl (by simp[Value.ownBlock]at hk;exact hk.symm))⟩⟩
  rcases h3 with h3|h3
  ·left;simp[Value.ownBlock]at h3;exact h3.symm
  exact .inr h3
 have hm:=h.most;have hr:=h.room;unfold maxLen at hm;generalize l.length=n at *;have HA:=Lib.hid bM;have Aw:(0:Int)<=(n:Int):=by omega
 clear bM h hX;go_enter func265,ntmps265
 go_wp2_with (at_builtin;go_must (refine aG rfl _ _ _ _ rfl _ _ rfl rfl (yz w G (n+1) (l++[x])) (HA iz) ?_))
 all_goals
  intro v2 w2 cN;have HR:=Lib.hid cN;obtain⟨G',aY,rfl,_⟩:=cN.ex;clear cN;go_wp2;go_ret;exact⟨_,rfl,HR.out⟩
structure NB(w:World)(n gc:Nat)(W1:World)(v':Value)(w':World):Prop where
 v:v'=.slice (some ⟨w.heap.size,0,none⟩) (n+1) gc
 w:w'=W1
theorem Zm{w W1:World}{n gc k G cap:Nat}{ty:TypeId}(h:∀ty,(Builtin.append_ #[iz,3] ty #[.slice (some ⟨G,0,none⟩) k cap,.int .i64 ((n+1-k:Nat):Int)]).run prog w=.ok (.slice (some ⟨w.heap.size,0,none⟩) (n+1) gc) W1):
  ∃v' w',(Builtin.append_ #[iz,3] ty #[.slice (some ⟨G,0,none⟩) k cap,.int .i64 ((n+1-k:Nat):Int)]).run prog w=.ok v' w'/\NB w n gc W1 v' w':=⟨_,_,h ty,rfl,rfl⟩
theorem yB(l:List aU)(k:Nat)(hk:k<=l.length)(x:aU)(cur:List Value)(h1:cur.take (k*3)=aW (l.take k))(h2:(l.length+1)*3<=cur.length):
  ∃rest,((cur.take (k*3)++aW [x]++cur.drop (k*3+[x].length*3)).take ((k+1)*3)++aW (l.drop k)++(cur.take (k*3)++aW [x]++cur.drop (k*3+[x].length*3)).drop ((k+1)*3+(l.drop k).length*3))=aW (eU l k x)++rest/\
   (l.length+1)*3+rest.length=cur.length:=by
 have e0:(aW (l.take k)++aW [x]).length=(k+1)*3:=by rw[List.length_append,aV,aV,List.length_take];simp;omega
 refine⟨(cur.take (k*3)++aW [x]++cur.drop (k*3+[x].length*3)).drop ((k+1)*3+(l.drop k).length*3),?_,?_⟩
 ·rw[h1]
  rw[List.take_append_of_le_length (by rw[e0];omega),List.take_of_length_le (by rw[e0];omega)]
  congr 1
  rw[eU,kP];simp[aW,List.append_assoc]
 rw[h1,List.length_drop,List.length_append,e0,List.length_drop,List.length_drop];simp;omega
theorem vJ{w:World}{G cap X:Nat}{l:List aU}{x:aU}(h:iZ w G cap l)(k:Nat)(hk:k<l.length)(jF:cap<l.length+1)(hX:gQ w X 0 x)(hl:l.length<=40000):
  Calls prog 265 #[.slice (some ⟨G,0,none⟩) l.length cap,.int .i64 (k:Int),.slice (some ⟨X,0,none⟩) 1 1] w λe w'=>∃v',e=.returned v'/\yz w G (l.length+1) (eU l k x) v' w':=by
 have hm:=h.most;have pP:=h.room;unfold maxLen at hm;obtain⟨n,hn⟩:∃n,n=l.length:=⟨_,rfl⟩;obtain⟨i0,dC,l6,IJ,zh⟩:=info_parts Tryz.CK
 have hold:(Builtin.firstCells i0.size k (.slice (some ⟨G,0,none⟩) k cap)).run prog w.drew=.ok (aW (l.take k)).toArray w.drew:=by
  rw[IJ];refine run_firstCells_some w.drew 3 k ⟨G,0,none⟩ k cap (aW (l.take k)) (by rw[aV,List.length_take];omega) (λj v hj=>?_)
  have hj5:j<k*3:=by have:=(List.getElem?_eq_some_iff.1 hj).1;rw[aV,List.length_take]at this;omega
  have hd:j / 3<(l.take k).length:=by rw[List.length_take];omega
  have e:j / 3*3+j % 3=j:=by omega
  rw[<-e,fh _ (j / 3) (j % 3) hd (by omega),List.getElem_take]at hj
  have:=h.cell (j / 3) (j % 3) (by omega) (by omega)
  rw[e,hj]at this;rw[Addr.add_lit,Nat.zero_add];exact this
 have sj:∀ty,_:=λty=>Lib.run_append_grow_zeros w iz 3 ty TV i0 _ .i64 .i64 Tryz.underlying55 Tryz.underlying3 dC l6 (some ⟨G,0,none⟩) k cap (aW (l.take k)) hold (n+1-k) (by omega) (by omega) (by omega) (by omega) (by rw[zh];omega) (by rw[zh];exact growslice_fits (by omega) (by omega))
 rw[show k+(n+1-k)=n+1 from by omega]at sj
 obtain⟨gc,vA⟩:∃gc,gc=grownCap w (n+1) cap TV:=⟨_,rfl⟩;have oZ:n+1<=gc:=by rw[vA];exact grownCap_ge w (n+1) cap TV
 have CJ:gc<=maxLen:=by rw[vA];exact grownCap_le_maxLen w (n+1) cap TV (by unfold maxLen;omega)
 rw[<-vA]at sj;obtain⟨cur,jw⟩:∃cur:List Value,cur=((aW (l.take k)).toArray++Builtin.zeroCells (Value.cells (.agg #[.int .i64 0,.int .i64 0,.slice none 0 0])) (n+1-k)++Builtin.zeroCells (Value.cells (.agg #[.int .i64 0,.int .i64 0,.slice none 0 0])) (gc-(n+1))).toList:=⟨_,rfl⟩
 have dN:cur.length=gc*3:=by
  rw[jw,Array.length_toList,Array.size_append,Array.size_append,size_zeroCells,size_zeroCells,List.size_toArray,aV,List.length_take];show min k l.length*3+(n+1-k)*3+(gc-(n+1))*3=gc*3
  omega
 have pH:cur.take (k*3)=aW (l.take k):=by
  rw[jw,Array.toList_append,Array.toList_append,List.append_assoc,List.take_append_of_le_length (by simp[aV];omega),List.take_of_length_le (by simp[aV];omega)]
 obtain⟨W1,jM⟩:∃W1,W1=w.drew.alloc (.cells cur.toArray TV):=⟨_,rfl⟩
 have ry:∀ty,(Builtin.append_ #[iz,3] ty #[.slice (some ⟨G,0,none⟩) k cap,.int .i64 ((n+1-k:Nat):Int)]).run prog w=.ok (.slice (some ⟨w.heap.size,0,none⟩) (n+1) gc) W1:=λty=>by
  rw[jM,jw];exact sj ty
 have cv:Fp ab w W1:=by rw[jM];exact((Fp.refl ab w).drew).alloc _
 have IK:W1.heap[w.heap.size]?=some (.cells cur.toArray TV (0,0)):=by rw[jM];exact heap_alloc_new w.drew _
 have rl:=hX.keep cv id;have h1:=h.keep cv id;have rz:=h.lt
 have eN:∀ty,∃v' w',(Builtin.copy_ #[iz,iz] ty #[.slice (some ⟨w.heap.size,k*3,none⟩) (n+1-k) (gc-k),.slice (some ⟨X,0,none⟩) 1 1]).run prog W1=.ok v' w'/\ub w.heap.size gc (cur.take (k*3)++aW [x]++cur.drop (k*3+[x].length*3)) W1 w':=λty=>
  mZ IK dN ty (k*3) (n+1-k) (gc-k) ⟨X,0,none⟩ 1 1 [x] (by simp only[Nat.min_def,List.length_cons,List.length_nil];split<;>omega) (λi hi j v hv=>by
   have dC:i=0:=by simp at hi;omega
   subst dC;have:=rl.get j v hv;rwa[show 0*3+j=j from by omega]) (by simp;omega)
 have q1:((k:Int) == (n:Int))=false:=beq_eq_false_iff_ne.2 (by omega)
 have q2:((cap:Int)<(n:Int)+1)=True:=eq_true (by omega)
 have eJ:k<n:=by omega
 have AD:n<=40000:=by omega
 have me:cap=n:=by omega
 have wk:IntKind.i64.wrap ((k:Int)+1)=((k+1:Nat):Int):=by rw[IntKind.wrap_i64];omega
 have wn:(n:Int)+1-(k:Int)=((n+1-k:Nat):Int):=by omega
 have r1:(gc=k+1)=False:=eq_false (by omega)
 have r2:(gc=k)=False:=eq_false (by omega)
 have r8:(cap=k)=False:=eq_false (by omega)
 have r3:(((k+1:Nat):Int)<=(n:Int)+1)=True:=eq_true (by omega)
 have r4:(k<=n)=True:=eq_true (by omega)
 have r5:((0:Int)<=((k+1:Nat):Int))=True:=eq_true (by omega)
 have r7:((k:Int)<=(n:Int)+1)=True:=eq_true (by omega)
 have r6:((0:Int)<=(k:Int)+1)=True:=eq_true (by omega)
 have r9:(k<=cap)=True:=eq_true (by omega)
 have KM:((k:Int)<=(cap:Int))=True:=eq_true (by omega)
 have e5:n+1-(k+1)=n-k:=by omega
 rw[<-hn];have HZ:=Lib.hid ry;have A8:=Lib.hid eN;have HX:=Lib.hid (And.intro hn (And.intro h1 (And.intro dN (And.intro pH (And.intro CJ (And.intro oZ (And.intro cv rz)))))));unfold maxLen at CJ;clear ry eN sj hold hn h1 rl IK cv jM dN pH jw vA hX h rz me hk jF hl pP dC l6 IJ zh;go_enter func265,ntmps265
 go_wp2_with (at_builtin;go_must (refine aG rfl _ _ _ _ rfl _ _ rfl rfl (λv' w'=>NB w n gc W1 v' w') (Zm HZ.out) ?_))
 intro v2 w2 cN;obtain⟨rfl,rfl⟩:=cN;go_wp2_with fail
 obtain⟨v3,w3,hr,lz⟩:=A8.out 3;rw[hr];simp only[Result.andThen]
 rw[Oper.upon_value];clear hr;have h3:iZ w3 G cap l:=HX.2.1.keep lz.fp (λe=>by have:=HX.2.2.2.2.2.2.2;omega)
 have vj:iZ w3.drew G cap l:=h3.keep ((Fp.refl ab w3).drew) id;have IL:=HX.1
 have fG:∀ty,∃v' w',(Builtin.copy_ #[iz,iz] ty #[.slice (some ⟨w.heap.size,(k+1)*3,none⟩) (n-k) (gc-(k+1)),.slice (some ⟨G,k*3,none⟩) (n-k) (cap-k)]).run prog w3.drew=.ok v' w'/\ub w.heap.size gc _ w3.drew w':=λty=>
  mZ (w:=w3.drew) lz.hp lz.len ty ((k+1)*3) (n-k) (gc-(k+1)) ⟨G,k*3,none⟩ (n-k) (cap-k) (l.drop k) (by rw[List.length_drop,<-IL];simp only[Nat.min_def];split<;>omega) (vj.src k) (by rw[List.length_drop];omega)
 have Ba:=Lib.hid fG;have nw:=Lib.hid lz.fp;clear lz h3 vj IL fG;go_wp2_with fail
 go_region_law ((refine step_copy rfl _ _ iz iz rfl (.slice (some ⟨w.heap.size,(k+1)*3,none⟩) (n-k) (gc-(k+1))) (.slice (some ⟨G,k*3,none⟩) (n-k) (cap-k)) (by simp[Act.eval,Act.put]) (by simp[Act.eval,Act.put]) (λ_ w'=>ub w.heap.size gc _ w3.drew w') (Ba _) ?_;intro v4 w4 gu))
 obtain⟨gP,he,lu⟩:=yB l k (by have:=HX.1;omega) x cur HX.2.2.2.1 (by have h1:=HX.1;have h2:=HX.2.2.1;have h3:=HX.2.2.2.2.2.1;omega)
 have ba:iZ w4 w.heap.size gc (eU l k x):=by
  refine⟨⟨gP,?_,?_⟩,?_,HX.2.2.2.2.1⟩
  ·have:=gu.hp;rw[he]at this;exact this
  ·rw[eu];have:=HX.2.2.1;omega
  rw[eu];have h1:=HX.1;have h3:=HX.2.2.2.2.2.1;omega
 have dV:Fp (λj=>j=G) w w4:=(((HX.2.2.2.2.2.2.1.any (S:=λj=>j=G)).trans nw (λk hk=>.inr (by rw[hk];exact Nat.le_refl _))).trans (((Fp.refl ab w3).drew.any (S:=λj=>j=w.heap.size)).same gu.fp) (λk hk=>.inr (by rw[hk];exact Nat.le_refl _)))
 have HR:=Lib.hid (And.intro ba dV);clear gu he lu ba dV;go_wp2;go_ret;exact⟨_,rfl,⟨w.heap.size,gc,rfl,HR.1,.inr (Nat.le_refl _),HR.2⟩⟩
theorem Et{w:World}{G cap X:Nat}{l:List aU}{x:aU}(h:iZ w G cap l)(k:Nat)(hk:k<=l.length)(hX:w.heap[X]?=some (.cells (eS x).toArray TV (0,0)))(bA:X≠G)(hl:l.length<=40000)(h0:0<l.length):
  Calls prog 265 #[.slice (some ⟨G,0,none⟩) l.length cap,.int .i64 (k:Int),.slice (some ⟨X,0,none⟩) 1 1] w λe w'=>∃v',e=.returned v'/\yz w G (l.length+1) (eU l k x) v' w':=by
 have aE:gQ w X 0 x:=⟨by rw[cell_of_row _ _ _ _ _ _ hX];rfl,by rw[cell_of_row _ _ _ _ _ _ hX];rfl,by rw[cell_of_row _ _ _ _ _ _ hX];rfl⟩
 by_cases aS:k<l.length
 ·by_cases hr:l.length+1<=cap
  ·refine(yy h k aS hr aE bA hl hX).mono ?_
   rintro e w'⟨rfl,h1,h2⟩;exact⟨_,rfl,⟨G,cap,rfl,h1,.inl rfl,h2⟩⟩
  exact vJ h k aS (by omega) aE hl
 obtain rfl:k=l.length:=by omega
 have e:eU l l.length x=l++[x]:=by unfold eU;simp
 rw[e];exact yA h aE hl h0
theorem xo{lo:Nat}{w:World}{v:Value}{X:Nat}{l:List aU}{x:aU}(h:gh lo w v l)(k:Nat)(hk:k<=l.length)(hX:w.heap[X]?=some (.cells (eS x).toArray TV (0,0)))(bA:v.ownBlock≠some X)(hl:l.length<=40000)(bq:lo<=w.heap.size):
  Calls prog 265 #[v,.int .i64 (k:Int),.slice (some ⟨X,0,none⟩) 1 1] w λe w'=>∃v',e=.returned v'/\Ab lo w v (eU l k x) v' w':=by
 have aE:gQ w X 0 x:=⟨by rw[cell_of_row _ _ _ _ _ _ hX];rfl,by rw[cell_of_row _ _ _ _ _ _ hX];rfl,by rw[cell_of_row _ _ _ _ _ _ hX];rfl⟩
 rcases h.ways with⟨rfl,rfl⟩|⟨G,cap,rfl,h1,h2⟩
 ·obtain rfl:k=0:=by simpa using hk
  have bM:∀ty,∃v' w',(Builtin.append_ #[iz,iz] ty #[.slice none 0 0,.slice (some ⟨X,0,none⟩) 1 1]).run prog w=.ok v' w'/\Ab lo w (.slice none 0 0) (eU [] 0 x) v' w':=λty=>by
   obtain⟨v',w',hr,ho,hg,uV⟩:=rE w lo (.slice none 0 0) [] [x] ty ⟨X,0,none⟩ 1 1 h rfl (λi hi j u hu=>by
    have dC:i=0:=by simp at hi;omega
    subst dC;have:=aE.get j u hu;rwa[show 0*3+j=j from by omega]) (by simp) bq
   exact⟨v',w',hr,ho,(Fp.refl _ w).grown hg (λk hk=>.inl hk),uV⟩
  have HA:=Lib.hid bM;clear bM h hk hX aE hl;go_enter func265,ntmps265
  go_wp2_with (at_builtin;go_must (refine aG rfl _ _ _ _ rfl _ _ rfl rfl (Ab lo w (.slice none 0 0) (eU [] 0 x)) (HA iz) ?_))
  all_goals
   intro v2 w2 cN;have HR:=Lib.hid cN;clear cN;go_wp2;go_ret;exact⟨_,rfl,HR.out⟩
 have Be:X≠G:=λe=>bA (by rw[e];rfl)
 have hf:∀w',Fp (λj=>j=G) w w'->Fp (λk=>(Value.slice (some ⟨G,0,none⟩) l.length cap).ownBlock=some k) w w':=λw' f=>f.mono (λk hk=>by rw[hk];rfl)
 by_cases h0:0<l.length
 ·refine(Et h1 k hk hX Be hl h0).mono ?_
  rintro e w'⟨v',rfl,hR⟩;obtain⟨G',aY,rfl,a1,a2,a3⟩:=hR.ex;refine⟨_,rfl,?_,hf w' a3,λk hk=>by rcases a2 with e|e<;>(simp only[Value.ownBlock,Option.some.injEq]at hk|-;omega)⟩
  have:=gh.row (lo:=lo) a1 (by rcases a2 with e|e<;>omega)
  rwa[eu]at this
 obtain rfl:l=[]:=List.eq_nil_of_length_eq_zero (by omega)
 obtain rfl:k=0:=by simpa using hk
 have bM:∀ty,∃v' w',(Builtin.append_ #[iz,iz] ty #[.slice (some ⟨G,0,none⟩) 0 cap,.slice (some ⟨X,0,none⟩) 1 1]).run prog w=.ok v' w'/\Ab lo w (.slice (some ⟨G,0,none⟩) 0 cap) (eU [] 0 x) v' w':=λty=>by
  obtain⟨v',w',hr,ho,hg,uV⟩:=rE w lo (.slice (some ⟨G,0,none⟩) 0 cap) [] [x] ty ⟨X,0,none⟩ 1 1 h rfl (λi hi j u hu=>by
   have dC:i=0:=by simp at hi;omega
   subst dC;have:=aE.get j u hu;rwa[show 0*3+j=j from by omega]) (by simp) bq
  exact⟨v',w',hr,ho,(Fp.refl _ w).grown hg (λk hk=>.inl hk),uV⟩
 have HA:=Lib.hid bM;have hm:=h1.most;unfold maxLen at hm;clear bM h hk hX aE hl h1 hf h0;simp only[List.length_nil]
 go_enter func265,ntmps265
 go_wp2_with (at_builtin;go_must (refine aG rfl _ _ _ _ rfl _ _ rfl rfl (Ab lo w (.slice (some ⟨G,0,none⟩) 0 cap) (eU [] 0 x)) (HA iz) ?_))
 all_goals
  intro v2 w2 cN;have HR:=Lib.hid cN;clear cN;go_wp2;go_ret;exact⟨_,rfl,HR.out⟩
end Go.Proofs.YtgafcelloiagmaaGreatDoor
