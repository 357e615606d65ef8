/- A text of this proof. -/
import Derived.BigQuiet
import Derived.Lib.Hide
import Derived.Lib.Join
import Derived.Lib.MakeNoZero
import Derived.Shelf.Strings.BuilderX
import Derived.WalkLawsBesides
import Derived.WalkSpells
import Derived.Test.YtgafcelloiagmaaGreatDoorProg
set_option maxHeartbeats 16000000
set_option linter.unusedSimpArgs false
set_option linter.unusedVariables false
set_option maxRecDepth 20000
namespace Go.Proofs.YtgafcelloiagmaaGreatDoor
open Go.Proofs.Tryz
namespace Pm
open Go.Proofs.Tryz
abbrev Bs:=List UInt8
def B(l:Bs):ByteArray:=⟨l.toArray⟩
theorem uj(l:Bs):(B l).size=l.length:=by unfold B;rfl
theorem p5(l:Bs):(B l).toList=l:=by unfold B;exact ByteArray.toList_mk l
theorem Rh(l:Bs)(i:Nat)(h:i<(B l).size):(B l)[i]=l[i]'(by rw[uj]at h;exact h):=by
 unfold B;rfl
theorem Ri{a b:Bs}(h:B a=B b):a=b:=by
 have:=congrArg ByteArray.toList h;rwa[p5,p5]at this
theorem sR(l:Bs)(a b:Nat):(B l).extract a b=B ((l.drop a).take (b-a)):=ByteArray.extract_mk l a b
theorem E5(a b:Bs):B a++B b=B (a++b):=by
 apply ByteArray.ext;unfold B;simp
theorem JK(a b:Bs):ByteArray.mk a.toArray++B b=B (a++b):=E5 a b
theorem JL(a b:Bs):B a++ByteArray.mk b.toArray=B (a++b):=E5 a b
theorem we(l:Bs)(a b:Nat):(ByteArray.mk l.toArray).extract a b=B ((l.drop a).take (b-a)):=sR l a b
def Rj(n:Nat):Bool:=decide (97<=n/\n<=122\/48<=n/\n<=57\/n=45)
def okB(c:UInt8):Bool:=Rj c.toNat
def pl:Nat->Bs->Nat
 |0,_=>0
 |_+1,[]=>0
 |k+1,c::r=>if okB c then pl k r+1 else 0
theorem E6:∀(k:Nat) (l:Bs),pl k l<=k
 |0,_=>Nat.le_refl _
 |_+1,[]=>Nat.zero_le _
 |k+1,c::r=>by unfold pl;split<;>have:=E6 k r<;>omega
theorem zo:∀(k:Nat) (l:Bs),pl k l<=l.length
 |0,_=>Nat.zero_le _
 |_+1,[]=>Nat.zero_le _
 |k+1,c::r=>by unfold pl;split<;>have:=zo k r<;>simp<;>omega
theorem wg:∀(n k:Nat) (l:Bs),n<=k->n<=l.length->(∀i (h:i<l.length),i<n->okB l[i]=true)->pl k l=n+pl (k-n) (l.drop n)
 |0,k,l,_,_,_=>by simp
 |n+1,0,l,h,_,_=>by omega
 |n+1,k+1,[],_,h,_=>by simp at h
 |n+1,k+1,c::r,h1,h2,h3=>by
  have h0:=h3 0 (by simp) (by omega)
  simp at h0
  have:=wg n k r (by omega) (by simpa using h2) (λi hi hn=>by have:=h3 (i+1) (by simp;omega) (by omega);simpa using this)
  rw[show pl (k+1) (c::r)=pl k r+1 from by simp[pl,h0],this,Nat.add_sub_add_right,List.drop_succ_cons];omega
theorem uk(n:Nat)(l:Bs)(hn:n<=12)(hl:n<=l.length)(h:∀i (h:i<l.length),i<n->okB l[i]=true)
  (hs:n=12\/n=l.length\/∃h:n<l.length,okB l[n]=false):pl 12 l=n:=by
 rw[wg n 12 l hn hl h];rcases hs with rfl|rfl|⟨h1,h2⟩
 ·simp[pl]
 ·rw[List.drop_of_length_le (Nat.le_refl _)]
  cases hh:12-l.length<;>simp[pl]
 rw[List.drop_eq_getElem_cons h1];cases hh:12-n<;>simp[pl,h2]
def cM(l:Bs):Bool:=!l.isEmpty && pl 12 l == l.length
def cut(l:Bs):Bs×Bs:=
 match l with
 |[]=>([],[])
 |c::r=>if c=47 then (r.take (pl 12 r),r.drop (pl 12 r)) else ([],[])
def eW:Nat->Bs->Option (List Bs)
 |0,_=>none
 |n+1,s=>if (cut s).1=[] then none else if (cut s).2=[] then some [(cut s).1] else (eW n (cut s).2).map ((cut s).1::·)
def split(l:Bs):Option (List Bs):=if l=[47] then some [] else eW 6 l
def flat(ps:List Bs):Bs:=(ps.map (47::·)).flatten
def jn:List Bs->Bs
 |[]=>[]
 |p::r=>p++flat r
def gB(ps:List Bs):Bs:=47::jn ps
def lens(ps:List Bs):Nat:=(ps.map List.length).sum
theorem wh:flat []=[]:=rfl
theorem dZ(p:Bs)(r:List Bs):flat (p::r)=47::(p++flat r):=by simp[flat]
theorem p6(r:List Bs)(k:Nat)(h:k<r.length):flat (r.take (k+1))=flat (r.take k)++[47]++r[k]:=by
 rw[List.take_succ_eq_append_getElem h];unfold flat;rw[List.map_append,List.flatten_append];simp
theorem iG(r:List Bs):(flat r).length=r.length+lens r:=by
 induction r with
 |nil=>rfl
 |cons p r ih=>rw[dZ];simp[lens]at ih|-;omega
theorem lens_take_succ(r:List Bs)(k:Nat)(h:k<r.length):lens (r.take (k+1))=lens (r.take k)+r[k].length:=by
 rw[List.take_succ_eq_append_getElem h];unfold lens;rw[List.map_append,List.sum_append];simp
theorem lens_take_le:∀(r:List Bs) (k:Nat),lens (r.take k)<=lens r
 |[],k=>by simp[lens]
 |p::r,0=>by simp[lens]
 |p::r,k+1=>by have:=lens_take_le r k;simp[lens]at this|-;omega
theorem gC(p:Bs)(r:List Bs):gB (p::r)=flat (p::r):=by rw[dZ];rfl
end Pm
open Go.RowKit Pm
attribute [go_sem] uj p5 Rh sR E5 JK JL we
def Dr(w w':World):Prop:=∃n,w'=w.drewN n
theorem Dr.refl(w:World):Dr w w:=⟨0,rfl⟩
theorem Dr.of(w:World)(n:Nat):Dr w (w.drewN n):=⟨n,rfl⟩
theorem Dr.trans{a b c:World}(h:Dr a b)(k:Dr b c):Dr a c:=by
 obtain⟨n,rfl⟩:=h;obtain⟨m,rfl⟩:=k;exact⟨n+m,by rw[World.drewN_drewN]⟩
theorem Dr.below{w w':World}(h:Dr w w')(b0:Nat):Below b0 w w':=by
 obtain⟨n,rfl⟩:=h;exact below_drewN (Below.refl _ _) n
theorem Dr.size{w w':World}(h:Dr w w'):w'.heap.size=w.heap.size:=by obtain⟨n,rfl⟩:=h;rfl
theorem Dr.owns{w w':World}(h:Dr w w'){b0:Nat}{e:TypeId}{k:Nat}{v:Value}{n:Nat}{xs:List Value}(ho:w.ownsRow b0 e k v n xs):w'.ownsRow b0 e k v n xs:=by
 obtain⟨n,rfl⟩:=h;exact ho
theorem aB{a b:Bool}(h:a=b):Ending.returned (.bool a)=.returned (.bool b):=by rw[h]
theorem pB{k:IntKind}{a b:Int}(h:a=b):Ending.returned (.int k a)=.returned (.int k b):=by rw[h]
theorem um(b:Nat)(w:World):
  Calls prog 282 #[.int .u8 b] w λe w'=>e=.returned (.bool (Rj b))/\w=w':=by
 go_enter func282,ntmps282
 go_wp2;all_goals (go_ret;refine⟨aB ?_,rfl⟩;unfold Rj;rw[Bool.eq_iff_iff];simp;omega)
theorem sS(l:Bs)(w:World)(hl:l.length<=9223372036854775807):
  Calls prog 232 #[.string (B l)] w λe w'=>e=.returned (.int .i64 (pl 12 l))/\w=w':=by
 go_enter func232,ntmps232
 go_wp2;go_loop [3] (λn=>∃k:Nat,k<=12/\k<=l.length/\n=.int .i64 k/\Hid (∀i (h:i<l.length),i<k->okB l[i]=true)) (λn=>12-(intOf n).toNat)
 case atStart=>exact⟨0,by omega,by omega,rfl,λi h hn=>by omega⟩
 obtain⟨k,hk,aS,rfl,ha⟩:=hrel;by_cases h1:k<l.length
 ·by_cases h2:k<12
  ·go_wp2_with (go_at_call 282;refine(um _ _).mono ?_;rintro e w'⟨rfl,rfl⟩)
   ·have wi:Rj (l[k].toNat)=true:=by assumption
    go_round
    case rel=>exact⟨k+1,by omega,by omega,by go_num,λi hi hn=>by
     by_cases NK:i=k
     ·subst NK;exact wi
     exact ha i hi (by omega)⟩
    case measure=>simp[intOf];omega
   have wi:Rj (l[k].toNat)=false:=by assumption
   go_ret;exact⟨pB (by rw[uk k l (by omega) (by omega) ha (Or.inr (Or.inr ⟨h1,wi⟩))]),rfl⟩
  go_wp2;go_ret;exact⟨pB (by rw[uk k l (by omega) (by omega) ha (Or.inl (by omega))]),rfl⟩
 go_wp2;go_ret;exact⟨pB (by rw[uk k l (by omega) (by omega) ha (Or.inr (Or.inl (by omega)))]),rfl⟩
theorem E7(l:Bs)(w:World)(hl:l.length<=9223372036854775807):
  Calls prog 286 #[.string (B l)] w λe w'=>e=.returned (.bool (cM l))/\w=w':=by
 go_enter func286,ntmps286
 go_wp2_with (go_at_call 232;refine(sS _ _ hl).mono ?_;rintro e w'⟨rfl,rfl⟩)
 ·have h:l=[]:=by assumption
  subst h;go_ret;exact⟨rfl,rfl⟩
 go_ret;refine⟨aB ?_,rfl⟩;unfold cM;congr 1
 rw[Bool.eq_iff_iff];simp;omega
theorem Rk(l:Bs)(w:World)(hl:l.length<=9223372036854775807):
  Calls prog 169 #[.string (B l)] w λe w'=>e=.returned (.tuple #[.string (B (cut l).1),.string (B (cut l).2)])/\Dr w w':=by
 match l,hl with
 |[],_=>
  go_enter func169,ntmps169
  go_wp2;go_ret2
  exact⟨rfl,Dr.refl _⟩
 |c::r,hl=>
  simp at hl
  by_cases hc:c=47
  ·subst hc
   go_enter func169,ntmps169
   have h1:=E6 12 r;have h2:=zo 12 r;go_wp2_with (go_at_call 232;refine(sS r _ (by omega)).mono ?_;rintro e w'⟨rfl,rfl⟩)
   go_quiet (fail)
   go_wp2;go_ret2
   refine⟨?_,Dr.of _ _⟩;have e1:1+pl 12 r-1=pl 12 r:=by omega
   have e2:(List.drop (1+pl 12 r) (47::r))=r.drop (pl 12 r):=by rw[Nat.add_comm,List.drop_succ_cons]
   have e3:List.take (r.length+1-(1+pl 12 r)) (r.drop (pl 12 r))=r.drop (pl 12 r):=List.take_of_length_le (by simp;omega)
   show Ending.returned (.tuple #[.string (B (List.take (1+pl 12 r-1) r)),.string (B (List.take (r.length+1-(1+pl 12 r)) (List.drop (1+pl 12 r) (47::r))))])=_
   rw[e1,e2,e3];rfl
  have hb:((c.toNat:Int) != 47)=true:=by simp;intro h;apply hc;apply UInt8.toNat.inj;exact Int.ofNat_inj.1 h
  go_enter func169,ntmps169
  go_wp2;go_ret2
  exact⟨by simp[cut,hc];rfl,Dr.refl _⟩
def au(p:Bs):Value:=.string (B p)
def Own(b0:Nat)(w:World)(v:Value)(ps:List Bs):Prop:=
 w.ownsRow b0 9 1 v ps.length (ps.map au)/\(ps=[]->v=.slice none 0 0)
theorem Own.nil(b0:Nat)(w:World):Own b0 w (.slice none 0 0) []:=⟨World.ownsRow_nil _ _ _ _,λ_=>rfl⟩
def CQ(l:Bs)(w:World)(e:Ending)(w':World):Prop:=
 ∃v,e=.returned (.tuple #[v,.bool (split l).isSome])/\Own w.heap.size w' v ((split l).getD [])/\Below w.heap.size w w'
theorem Tryz.E8:(prog.info? 9).map (λi=>(i.zero,i.size,i.bytes))=some (some (.string ⟨#[]⟩),1,16):=by kernel_rfl
theorem JM(l:Bs):(cut l).2.length<=l.length:=by
 unfold cut;split
 ·simp
 split<;>simp;omega
def E9(a:Act):Prop:=∃u0 u1 u2 u3 u4 u5 u6 u7 u8 u9 u10 u11 u12 u13 u14 u15 u16 u17 u18 u19 u20 u21 u22 u23 u24 u25 u26 u27 u28:Value,a={ tmps:=#[u0,u1,u2,u3,u4,u5,u6,u7,u8,u9,u10,u11,u12,u13,u14,u15,u16,u17,u18,u19,u20,u21,u22,u23,u24,u25,u26,u27,u28],defers:=[] }
def Fb(l:Bs)(w:World)(v r i:Value)(wr:World):Prop:=
 ∃(acc:List Bs) (rest:Bs),acc.length<=6/\r=.string (B rest)/\i=.int .i64 acc.length/\split l=(eW (6-acc.length) rest).map (acc++·)/\
  rest.length<=l.length/\Own w.heap.size wr v acc/\Below w.heap.size w wr
theorem Own.push{b0:Nat}{w w1 w2:World}{v v':Value}{acc:List Bs}{x:Bs}{o:Obj}(ho:w1.ownsRow b0 9 1 v acc.length (acc.map au))(sT:Below b0 w w1)
  (db:b0<=w1.heap.size) (aL:w2.ownsRow b0 9 1 v' (acc.length+1) (acc.map au++[au x])) (hg:(w1.alloc o).grownBy w2 v.ownBlock):
  Own b0 w2 v' (acc++[x])/\Below b0 w w2:=by
 refine⟨⟨?_,λh=>by simp at h⟩,?_⟩
 ·simpa using aL
 exact(sT.alloc db o).grown hg (by simp;omega) (λk hk=>(ho.lt k hk).1)
theorem uo(x:Bs):∀u,u∈[au x]->u.oneCell'=true:=by
 intro u hu;simp at hu;subst hu;rfl
theorem Fc(rest a b:Bs)(hc:cut rest=(a,b))(w:World)(hl:rest.length<=9223372036854775807):
  Calls prog 169 #[.string (B rest)] w λe w'=>e=.returned (.tuple #[.string (B a),.string (B b)])/\Dr w w':=by
 have:=Rk rest w hl;rwa[hc]at this
theorem dc(l:Bs)(w:World)(hl:l.length<=4611686018427387904):
  Calls prog 120 #[.string (B l)] w (CQ l w):=by
 obtain⟨i0,hi,l6,jG,l7⟩:=info_parts Tryz.E8;by_cases hr:l=[47]
 ·subst hr
  go_enter func120,ntmps120
  go_wp2;go_step3
  go_wp2;rw[Exit.noGoto_ret];go_ret2
  exact⟨_,rfl,Own.nil _ _,Below.refl _ _⟩
 have hb:(l == [47])=false:=by simpa using hr
 go_enter func120,ntmps120
 go_wp2;refine wp_scope_jumps 0 (λa' w'=>split l=none/\Below w.heap.size w w'/\E9 a') (λ_ _=>0) rfl ?_ ?_
 ·go_wp2
  go_loopw [4,5,11] (λv r i wr=>Fb l w v r i wr) (λ_ _ i _=>6-(intOf i).toNat)
  case atStart=>exact⟨[],l,by simp,rfl,rfl,by simp[split,hr],Nat.le_refl _,Own.nil _ _,Below.refl _ _⟩
  obtain⟨acc,rest,hk,rfl,rfl,fF,Qu,aL,sT⟩:=hrel;by_cases h6:acc.length<6
  ·obtain⟨a,b,hc⟩:∃a b,cut rest=(a,b):=⟨_,_,rfl⟩
   have dN:=JM rest;rw[hc]at dN;have hcut:=Fc rest a b hc;have Rl:split l=((eW (5-acc.length+1) rest).map (acc++·)):=by rw[fF];congr 2;omega
   have HC:=Lib.hid hcut;clear hcut;have HS:=Lib.hid Rl;clear Rl fF;have HB:=Lib.hid hc;clear hc;cases a with
   |nil=>
    go_wp2_with (go_at_call 169;refine(HC _ (by omega)).mono ?_;rintro e w1⟨rfl,hd⟩)
    go_step3
    refine⟨rfl,?_,sT.trans (hd.below _),_,_,_,_,_,_,_,_,_,_,_,_,_,_,_,_,_,_,_,_,_,_,_,_,_,_,_,_,_,rfl⟩;rw[HS.out];simp[eW,HB.out]
   |cons c a=>?_
   cases b with
   |nil=>
    go_wp2_with fail
    refine(HC _ (by omega)).mono ?_
    rintro e w1⟨rfl,hd⟩;have NL:=hd.owns aL.1;have bO:=sT.trans (hd.below _);have oj:=bO.size;go_wp2_with (at_builtin;go_must (refine wpList_append_own _ rfl _ _ 45 rfl w.heap.size 9 i0 (.string ⟨#[]⟩) 1 16 Tryz.underlying45 hi l6 jG l7 rfl (by decide) _ _ _ rfl (NL.alloc _) ⟨w1.heap.size,0,none⟩ 1 1 [au (c::a)] rfl rfl (cell_one_new _ _ _) (uo _) (by unfold maxLen;omega) (by omega) (by simp;omega) ?_;intro v' w2 jy jz _))
    obtain⟨hO,hB⟩:=Own.push NL bO oj jy jz;clear jy jz NL aL;simp only[Exit.jump]
    go_ret2
    have e:split l=some (acc++[c::a]):=by rw[HS.out];simp[eW,HB.out]
    exact⟨_,by rw[e];rfl,by rw[e];exact hO,hB⟩
   |cons d b=>?_
   go_wp2_with fail
   refine(HC _ (by omega)).mono ?_
   rintro e w1⟨rfl,hd⟩;have NL:=hd.owns aL.1;have bO:=sT.trans (hd.below _);have oj:=bO.size;go_wp2_with (at_builtin;go_must (refine wpList_append_own _ rfl _ _ 45 rfl w.heap.size 9 i0 (.string ⟨#[]⟩) 1 16 Tryz.underlying45 hi l6 jG l7 rfl (by decide) _ _ _ rfl (NL.alloc _) ⟨w1.heap.size,0,none⟩ 1 1 [au (c::a)] rfl rfl (cell_one_new _ _ _) (uo _) (by unfold maxLen;omega) (by omega) (by simp;omega) ?_;intro v' w2 jy jz _))
   obtain⟨hO,hB⟩:=Own.push NL bO oj jy jz;clear jy jz NL aL;go_roundw
   case rel=>
    refine⟨acc++[c::a],d::b,by rw[List.length_append];simp;omega,rfl,by simp,?_,by omega,hO,hB⟩
    rw[HS.out,show 6-(acc++[c::a]).length=5-acc.length from by rw[List.length_append];show 6-(acc.length+1)=_;omega]
    simp[eW,HB.out,Function.comp_def]
   case measure=>simp[intOf];omega
  have WI:acc.length=6:=by omega
  go_wp2;go_step3
  go_wp2;simp only[Exit.jump]
  go_ret2
  have e:split l=none:=by rw[fF,WI];rfl
  exact⟨_,by rw[e];rfl,by rw[e];exact Own.nil _ _,sT⟩
 rintro a' w'⟨hs,sT,u0,u1,u2,u3,u4,u5,u6,u7,u8,u9,u10,u11,u12,u13,u14,u15,u16,u17,u18,u19,u20,u21,u22,u23,u24,u25,u26,u27,u28,rfl⟩;go_wp2;simp only[Exit.jump]
 go_ret2
 exact⟨_,by rw[hs];rfl,by rw[hs];exact Own.nil _ _,sT⟩
abbrev uq(b0 b:Nat)(l:Bs)(w:World):Prop:=Lib.IsBuilder 363 5 b0 b (Lib.byteCells l) w
theorem zp(s:Bs):Lib.strCells (B s)=Lib.byteCells s:=by rw[Lib.strCells_eq];rfl
theorem Tryz.Fe:(prog.info? 363).map (·.size)=some 2:=by kernel_rfl
theorem Tryz.NM:liesAt prog prog.depth 363 (2 / prog.cellsOf 363) 0 363 1=true:=by kernel_rfl
theorem Tryz.NN:(prog.info? 5).map (λi=>(i.zero,i.size,i.bytes))=some (some (.int .u8 0),1,1):=by kernel_rfl
theorem Tryz.NO:(prog.info? 5).map (·.size)=some 1:=by kernel_rfl
theorem Tryz.JN:prog.cellsOf 5=1:=by kernel_rfl
theorem uu(x:Value)(w:World):(callFunc 398 #[x]).run prog w=.ok (.value x) w:=by
 rw[run_callFunc_extern (fn:=Tryz.f398) (by kernel_rfl) (by kernel_rfl) (by kernel_rfl) (by kernel_rfl) (e:=Extern.AbiNoEscape.same) (by kernel_rfl),Lib.run_noEscape]
 rfl
theorem p7(b:Nat)(w:World)(h0:w.cell? ⟨b,0,none⟩=some (.pointer (some ⟨b,0,none⟩))):
  Calls prog 374 #[.pointer (some ⟨b,0,none⟩)] w λe w'=>e=.returned (.tuple #[])/\w=w':=by
 obtain⟨j,hj,_⟩:=Option.map_eq_some_iff.1 Tryz.Fe;have hq:=Lib.run_neq_ptr_same (P:=prog) w ⟨b,0,none⟩ Tryz.underlying361 hj;go_enter func374,ntmps374
 go_wp2;go_end0
 exact⟨rfl,rfl⟩
theorem jA(b:Nat)(w:World)(h0:w.cell? ⟨b,0,none⟩=some (.pointer none))(lD:w.shape? b=some (363,2))(NP:w.frozen? ⟨b,0,none⟩=false):
  Calls prog 374 #[.pointer (some ⟨b,0,none⟩)] w λe w'=>e=.returned (.tuple #[])/\w'=w.setCell ⟨b,0,none⟩ (.pointer (some ⟨b,0,none⟩)):=by
 obtain⟨j,hj,Mu⟩:=Option.map_eq_some_iff.1 Tryz.Fe;have k1:=Lib.run_to_unsafe (P:=prog) w ⟨b,0,none⟩ Tryz.underlying361 Tryz.underlying414 hj (by rw[Mu];decide) lD (by simp)
 have k2:=Lib.run_from_unsafe (P:=prog) w ⟨b,0,none⟩ Tryz.underlying414 Tryz.underlying361 hj lD Tryz.NM;have k3:=uu (.pointer (some ⟨b,0,none⟩)) w;go_enter func374,ntmps374
 go_wp2;go_end0
 exact⟨rfl,rfl⟩
theorem wj(b0 b:Nat)(l:Bs)(w:World)(h:uq b0 b l w):
  Calls prog 374 #[.pointer (some ⟨b,0,none⟩)] w λe w'=>e=.returned (.tuple #[])/\
   Lib.BuilderAt 363 5 b0 b (.pointer (some ⟨b,0,none⟩)) (Lib.byteCells l) w'/\Below b0 w w':=by
 rcases h with h|h
 ·refine(jA b w h.cell0 h.shape h.frozen0).mono ?_
  rintro e w'⟨rfl,rfl⟩;exact⟨rfl,h.used _,(Below.refl b0 w).setCell (p:=⟨b,0,none⟩) h.1 _⟩
 refine(p7 b w h.cell0).mono ?_;rintro e w'⟨rfl,rfl⟩;exact⟨rfl,h,Below.refl b0 _⟩
theorem ie(b0 b:Nat)(l s:Bs)(w:World)(h:uq b0 b l w)(hlen:l.length+s.length<=1073741824)(om:b0<=w.heap.size):
  Calls prog 336 #[.pointer (some ⟨b,0,none⟩),.string (B s)] w λe w'=>e=.returned (.tuple #[.int .i64 s.length,.nilIface])/\uq b0 b (l++s) w'/\Below b0 w w':=by
 obtain⟨i0,hi,l6,jG,l7⟩:=info_parts Tryz.NN;go_enter func336,ntmps336
 go_wp2_with fail
 refine(wj b0 b l _ h).mono ?_;rintro e w1⟨rfl,⟨hB,v,oP,aL,bA⟩,bO⟩;have c1:w1.cell? ⟨b,1,none⟩=some v:=by rw[Lib.cell_of_heap oP];rfl
 have oj:=bO.size;have Qv:(Lib.byteCells l).length=l.length:=Lib.byteCells_length l;go_wp2_with (at_builtin;go_must (refine Lib.wpList_append_own_string _ rfl _ _ 83 9 rfl b0 5 i0 Tryz.underlying83 Tryz.underlying9 hi l6 jG l7 _ _ _ rfl aL (B s) rfl ?c3 ?c4 ?c5 ?_))
 case c3=>rw[Qv,uj];unfold maxLen;omega
 case c4=>rw[Qv,uj];omega
 case c5=>omega
 intro v' w2 jy jz _;have ay:b<w1.heap.size:=Lib.BuilderAt.lt ⟨hB,v,oP,aL,bA⟩
 have bW:w2.heap[b]?=some (.cells #[.pointer (some ⟨b,0,none⟩),v] 363 (0,0)):=by
  rw[jz.block b ay (λe=>bA e.symm)];exact oP
 have d1:w2.cell? ⟨b,1,none⟩=some v:=by rw[Lib.cell_of_heap bW];rfl
 have f1:w2.frozen? ⟨b,1,none⟩=false:=Lib.frozen_of_heap bW 1;have WJ:Below b0 w (w2.setCell ⟨b,1,none⟩ v'):=(bO.grown jz (by omega) (λk hk=>(aL.lt k hk).1)).setCell (p:=⟨b,1,none⟩) hB _
 have bf:uq b0 b (l++s) (w2.setCell ⟨b,1,none⟩ v'):=by
  refine Or.inr (Lib.BuilderAt.put hB bW ?_ (by decide))
  rw[Lib.byteCells_length,List.length_append,Lib.byteCells_append,<-zp s];exact jy
 obtain⟨ao,n',cap,rfl⟩:∃ao n' cap,v'=.slice ao n' cap:=by
  rcases jy.2 with⟨hv,_⟩|⟨g,cap,cur,hv,_⟩
  ·exact⟨_,_,_,hv⟩
  exact⟨_,_,_,hv⟩
 clear jy jz aL bO oj oP;go_wp2;go_ret2
 exact⟨rfl,bf,WJ⟩
theorem NQ(b0 b n:Nat)(w:World)(hB:b0<=b)(oP:w.heap[b]?=some (.cells #[.pointer (some ⟨b,0,none⟩),.slice none 0 0] 363 (0,0)))(Mv:b0<=w.heap.size)(hn:n<=1073741824):
  Calls prog 375 #[.pointer (some ⟨b,0,none⟩),.int .i64 n] w λe w'=>e=.returned (.tuple #[])/\uq b0 b [] w'/\Below b0 w w':=by
 obtain⟨cs,p9,hle,NR⟩:=Lib.run_makeNoZero (P:=prog) w.drew #[3] 83 5 Tryz.underlying83 n (by omega)
 have bB:(callFunc 399 #[.int .i64 n]).run prog w.drew=.ok (.value (.slice (some ⟨w.drew.heap.size,0,none⟩) n cs.size)) (w.drew.drew.drew.alloc (.cells cs 5)):=by
  rw[run_callFunc_extern (fn:=Tryz.f399) (by kernel_rfl) (by kernel_rfl) (by kernel_rfl) (by kernel_rfl) (e:=Extern.BytealgMakeNoZero.makeNoZero #[3] #[83]) (by kernel_rfl),p9]
  rfl
 have ay:b<w.heap.size:=by
  rcases Nat.lt_or_ge b w.heap.size with h'|h'
  ·exact h'
  simp[Array.getElem?_eq_none h']at oP
 have c1:w.drew.cell? ⟨b,1,none⟩=some (.slice none 0 0):=by
  have:w.drew.heap[b]?=_:=oP;rw[Lib.cell_of_heap this];rfl
 have NS:=(Lib.alloc_old w (.cells cs 5) b ay).trans oP
 have c2:(w.alloc (.cells cs 5)).cell? ⟨b,1,none⟩=some (.slice none 0 0):=by
  rw[Lib.cell_of_heap NS];rfl
 have f2:(w.alloc (.cells cs 5)).frozen? ⟨b,1,none⟩=false:=Lib.frozen_of_heap NS 1
 have ZL:∀W:World,(Builtin.copy_ #[83,83] 3 #[.slice (some ⟨w.heap.size,0,none⟩) 0 cs.size,.slice none 0 0]).run prog W=.ok (goInt 0) W:=
  λW=>run_copy_none W _ _ _ 5 _ _ 0 cs.size 0 0 Tryz.underlying83 Tryz.NO rfl
 have bf:=Lib.grown_fresh (T:=363) (e:=5) (cs:=cs) hB oP Mv (NR (by unfold maxLen;omega)) (by decide)
 clear NS ay;go_enter func375,ntmps375
 go_wp2;go_region
 all_goals (go_wp2;go_end0;exact⟨rfl,Or.inr bf.1,bf.2⟩)
theorem NT(b0 b n:Nat)(w:World)(hB:b0<=b)(oP:w.heap[b]?=some (.cells #[.pointer none,.slice none 0 0] 363 (0,0)))(Mv:b0<=w.heap.size)(hn:n<=1073741824):
  Calls prog 335 #[.pointer (some ⟨b,0,none⟩),.int .i64 n] w λe w'=>e=.returned (.tuple #[])/\uq b0 b [] w'/\Below b0 w w':=by
 obtain⟨w1,gV⟩:∃w1,w1=w.setCell ⟨b,0,none⟩ (.pointer (some ⟨b,0,none⟩)):=⟨_,rfl⟩
 have NU:w1.heap[b]?=some (.cells #[.pointer (some ⟨b,0,none⟩),.slice none 0 0] 363 (0,0)):=by
  rw[gV];simp[World.setCell,Array.getElem?_modify,oP]
 have bO:Below b0 w w1:=by rw[gV];exact(Below.refl b0 w).setCell (p:=⟨b,0,none⟩) hB _
 have oj:=bO.size;have hU:uq b0 b [] w1:=Or.inr ⟨hB,.slice none 0 0,NU,World.ownsRow_nil _ _ _ _,by simp[Value.ownBlock]⟩
 have c1:w1.cell? ⟨b,1,none⟩=some (.slice none 0 0):=by rw[Lib.cell_of_heap NU];rfl
 have dy:=jA b w (by rw[Lib.cell_of_heap oP];rfl) (by simp[World.shape?,oP]) (Lib.frozen_of_heap oP 0)
 rw[<-gV]at dy;clear gV;go_enter func335,ntmps335
 go_wp2_with fail
 refine dy.mono ?_;rintro e w'⟨rfl,rfl⟩;go_wp2_with fail
 go_quiet (fail)
 go_wp2_with fail
 ·refine(NQ b0 b n _ hB (by exact NU) (by exact Nat.le_trans Mv oj) hn).mono ?_
  rintro e w2⟨rfl,h1,h2⟩;go_wp2;go_end0
  exact⟨rfl,h1,(below_drewN bO _).trans h2⟩
 go_end0
 exact⟨rfl,hU,below_drewN bO _⟩
theorem wm(b0 b:Nat)(l:Bs)(w:World)(h:uq b0 b l w)(h0:l≠[]):
  Calls prog 337 #[.pointer (some ⟨b,0,none⟩)] w λe w'=>e=.returned (.string (B l))/\Below b0 w w':=by
 obtain⟨p,hB,v,oP,aL,bA⟩:∃p,Lib.BuilderAt 363 5 b0 b p (Lib.byteCells l) w:=by
  rcases h with h|h
  ·exact⟨_,h⟩
  exact⟨_,h⟩
 rw[Lib.byteCells_length]at aL;have NV:l.length≠0:=by simpa using h0
 obtain⟨g,cap,cur,rfl,hbg,hg,hnc,Rm,pC⟩:∃g cap cur,v=.slice (some ⟨g,0,none⟩) l.length cap/\b0<=g/\w.heap[g]?=some (.cells cur 5 (0,0))/\l.length<=cap/\cap<=maxLen/\cur.size=cap*1:=by
  rcases aL.2 with⟨_,hz⟩|⟨g,cap,cur,hv,r1,r2,r3,r4,r5,_⟩
  ·exact absurd hz NV
  exact⟨g,cap,cur,hv,r1,r2,r3,r4,r5⟩
 have c1:w.drew.cell? ⟨b,1,none⟩=some (.slice (some ⟨g,0,none⟩) l.length cap):=by
  have:w.drew.heap[b]?=_:=oP;rw[Lib.cell_of_heap this];rfl
 have hSD:(Builtin.unsafeSliceData_ #[83] 394 #[.slice (some ⟨g,0,none⟩) l.length cap]).run prog w.drew=.ok (.pointer (some ⟨g,0,none⟩)) w.drew:=
  Lib.run_unsafeSliceData_row _ _ _ _ _ _ (by omega)
 have hUS:(Builtin.unsafeString_ #[394,3] 9 #[.pointer (some ⟨g,0,none⟩),.int .i64 l.length]).run prog w.drew=.ok (.string (B l)) (w.drew.freeze ⟨g,0,none⟩ l.length):=by
  refine Lib.run_unsafeString_row w.drew _ _ _ 5 Tryz.underlying394 Tryz.JN g cur.size (by have NW:w.drew.heap[g]?=_:=hg;simp[World.shape?,NW]) l h0 (by omega) (by unfold maxLen at Rm;omega) ?_
  intro j x hx;exact aL.cells (g:=g) rfl j (.int .u8 x.toNat) (by simp[Lib.byteCells,hx])
 have bf:=Lib.below_freeze (Below.drew (Below.refl b0 w)) (p:=⟨g,0,none⟩) hbg l.length;clear aL hg hnc Rm pC oP;go_enter func337,ntmps337
 go_wp2;go_region
 all_goals (go_wp2;go_ret;exact⟨rfl,bf⟩)
theorem Ff(bk o c:Nat)(p:Bs)(w:World)(hc:w.cell? ⟨bk,o,none⟩=some (au p)):
  Calls prog 281 #[.slice (some ⟨bk,o,none⟩) 1 c,.string ⟨#[47]⟩] w λe w'=>e=.returned (.string (B p))/\w=w':=by
 unfold au at hc;go_enter func281,ntmps281
 go_wp2;go_ret;exact⟨rfl,rfl⟩
theorem CR(a:Option Addr)(c:Nat)(w:World):
  Calls prog 281 #[.slice a 0 c,.string ⟨#[47]⟩] w λe w'=>e=.returned (.string (B []))/\w=w':=by
 go_enter func281,ntmps281
 go_wp2;go_ret;exact⟨rfl,rfl⟩
theorem CS(bk o c:Nat)(p:Bs)(r:List Bs)(w:World)(hc:∀j (h:j<(p::r).length),w.cell? ⟨bk,o+j,none⟩=some (au (p::r)[j]))
  (oP:bk<w.heap.size) (hr:0<r.length) (hn:r.length<=1000) (Rn:r.length+1<=c) (hlen:lens (p::r)<=500000000):
  Calls prog 281 #[.slice (some ⟨bk,o,none⟩) (r.length+1) c,.string ⟨#[47]⟩] w λe w'=>e=.returned (.string (B (jn (p::r))))/\Below w.heap.size w w':=by
 have HC:=Lib.hid hc;clear hc;have HL:=Lib.hid hlen;clear hlen;have h0:((r.length:Int)+1 == 0)=false:=beq_eq_false_iff_ne.2 (by omega)
 have h1:((r.length:Int)+1 == 1)=false:=beq_eq_false_iff_ne.2 (by omega)
 have ZM:1<9223372036854775807 / (r.length:Int):=by
  have:(2:Int)<=9223372036854775807 / (r.length:Int):=Int.le_ediv_of_mul_le (by omega) (by omega)
  omega
 go_enter func281,ntmps281
 go_wp2_with fail
 go_loop [5,41] (λn i=>∃k:Nat,k<=r.length+1/\i=.int .i64 k/\n=.int .i64 ((r.length+lens ((p::r).take k):Nat):Int)) (λ_ i=>r.length+1-(intOf i).toNat)
 case atStart=>exact⟨0,Nat.zero_le _,rfl,by simp[lens]⟩
 obtain⟨k,hk,rfl,rfl⟩:=hrel;by_cases eJ:k<r.length+1
 ·have hc:=HC k (by simpa using eJ)
  unfold au at hc;have aN:=lens_take_succ (p::r) k (by simpa using eJ)
  have WK:=Nat.le_trans (lens_take_le (p::r) (k+1)) HL.out;generalize hA1:lens ((p::r).take (k+1))=A1 at aN WK;have HA:=Lib.hid hA1;clear hA1;generalize lens ((p::r).take k)=A0 at aN;generalize hq:(p::r)[k]'(by simpa using eJ)=q at hc aN
  clear hq;have HS:=Lib.hid aN;clear aN;have Vj:q.length<=500000000/\A0<=500000000:=by have:=HS.out;omega
  obtain⟨bO,bW⟩:=Vj;go_wp2;go_round
  case rel=>exact⟨k+1,by omega,by go_num,by rw[HA.out];have:=HS.out;exact congrArg _ (by omega)⟩
  case measure=>simp[intOf];omega
 have cV:k=r.length+1:=by omega
 subst cV;rw[show(p::r).take (r.length+1)=p::r from List.take_of_length_le (by simp)]
 have hT:=HL.out;have ZN:(jn (p::r)).length=r.length+lens (p::r):=by show(p++flat r).length=_;rw[List.length_append,iG];simp[lens];omega
 have HF:=Lib.hid ZN;clear ZN;generalize hT':lens (p::r)=T at hT HF;clear hT';go_wp2_with fail
 rw[show((r.length:Int)+(T:Int))=((r.length+T:Nat):Int) from by omega]
 refine(NT w.heap.size w.heap.size (r.length+T) _ (Nat.le_refl _) (heap_alloc_new w _) (by simp) (by omega)).mono ?_
 rintro e w1⟨rfl,h1,bO⟩;have NY:Below w.heap.size w w1:=((Below.refl w.heap.size w).alloc (Nat.le_refl _) _).trans bO
 have wo:w1.cell? ⟨bk,o,none⟩=some (.string (B p)):=by
  rw[NY.cell (p:=⟨bk,o,none⟩) oP];exact HC.out 0 (by simp)
 clear bO;have oj:=NY.size;go_wp2_with fail
 refine(ie w.heap.size w.heap.size [] p w1 h1 (by have:=HF.out;have e:(jn (p::r)).length=p.length+(flat r).length:=List.length_append;simp;omega) oj).mono ?_
 rintro e w2⟨rfl,h2,bW⟩;have uv:=NY.trans bW;clear bW h1 wo;go_wp2_with fail
 go_loopw [65] (λi wr=>∃k:Nat,k<=r.length/\i=.int .i64 k/\Hid (uq w.heap.size w.heap.size (p++flat (r.take k)) wr)/\Below w.heap.size w wr) (λi _=>r.length-(intOf i).toNat)
 case atStart=>exact⟨0,Nat.zero_le _,rfl,by simpa[flat,Hid]using h2,uv⟩
 obtain⟨k,ZO,rfl,HB,hW⟩:=hrel;by_cases hkr:k<r.length
 ·have hcy:wr.cell? ⟨bk,o+1+k,none⟩=some (.string (B r[k])):=by
   rw[hW.cell (p:=⟨bk,o+1+k,none⟩) oP,show o+1+k=o+(k+1) by omega]
   exact HC (k+1) (by simpa using hkr)
  have jc:=hW.size;have aN:=p6 r k hkr
  have wu:(p++flat (r.take k)).length+1+(r[k]).length<=r.length+T:=by
   have e1:(jn (p::r)).length=p.length+(flat r).length:=List.length_append;have e2:=HF.out;have e3:=congrArg List.length aN;have e4:=iG (r.take (k+1));have e5:=iG r;have e6:=lens_take_le r (k+1);have e7:(r.take (k+1)).length<=r.length:=by rw[List.length_take];omega
   simp only[List.length_append,List.length_cons,List.length_nil]at e3|-
   omega
  have HS:=Lib.hid aN;clear aN;generalize hq:r[k]=q at hcy wu HS;clear hq;generalize hJ:p++flat (r.take k)=J at HB wu;have HJ:=Lib.hid hJ;clear hJ;go_wp2_with fail
  refine(ie w.heap.size w.heap.size J [47] wr HB (by simp;omega) jc).mono ?_
  rintro e w3⟨rfl,h3,mc⟩;have JO:=hW.trans mc;have vM:=JO.size;clear mc;go_wp2_with fail
  refine(ie w.heap.size w.heap.size (J++[47]) q w3 h3 (by simp;omega) vM).mono ?_
  rintro e w4⟨rfl,h4,Ro⟩;have WL:=JO.trans Ro;clear Ro;have H4:=Lib.hid h4;clear h4 h3;go_wp2;go_roundw
  case rel=>exact⟨k+1,by omega,by go_num,by have:=H4.out;rw[<-HJ.out]at this;rw[HS.out];simpa[List.append_assoc,Hid]using this,WL⟩
  case measure=>simp[intOf];omega
 have cV:k=r.length:=by omega
 subst cV;have jc:=hW.size;have WM:=HB.out;rw[List.take_length]at WM;go_wp2_with fail
 refine(wm w.heap.size w.heap.size (jn (p::r)) wr WM (λh=>by have:=HF.out;rw[h]at this;simp at this;omega)).mono ?_
 rintro e w5⟨rfl,yT⟩;have WN:=hW.trans yT;clear yT WM;go_wp2;go_ret;exact⟨rfl,WN⟩
end Go.Proofs.YtgafcelloiagmaaGreatDoor
