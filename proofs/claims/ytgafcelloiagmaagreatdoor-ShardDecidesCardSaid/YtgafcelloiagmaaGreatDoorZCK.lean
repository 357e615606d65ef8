/- A text of this proof. -/
import Derived.Deep.Grids
import Derived.Deep.Strs
import Derived.OpenShut
import Derived.ProofKit
import Derived.Test.YtgafcelloiagmaaGreatDoorZCH
import Derived.Test.YtgafcelloiagmaaGreatDoorZCI
set_option maxHeartbeats 16000000
set_option linter.unusedSimpArgs false
set_option linter.unusedVariables false
set_option maxRecDepth 20000
namespace Go.Proofs.YtgafcelloiagmaaGreatDoor
open Go.Proofs.Tryz
section
namespace Pm
open Go.Proofs.Tryz
def kn(n:Nd):Nd:={ n with turn:=0 }
def pV(l:List Nd):List Tu:=(l.filter (λn=>n.turn != 0)).map (λn=>⟨n.path,n.turn⟩)
def keep(l:List Nd):St:=⟨l.map kn,pV l⟩
theorem fw.kn{l:List Nd}(h:fw l):fw (l.map kn):=by
 intro i j hi hj jR;simp only[List.length_map]at hi hj
 simp only[List.getElem_map]
 exact h i j hi hj jR
theorem fw.pV{l:List Nd}(h:fw l):jO (pV l):=by
 rw[iU];unfold Pm.pV;rw[List.map_map];have h2:=h.filter (λn=>n.turn != 0)
 intro i j hi hj jR;simp only[List.length_map]at hi hj
 simp only[List.getElem_map]
 exact h2 i j hi hj jR
inductive iK (s:St) (ps:List Pt):Nat->St->List dp->Prop where
 |zero:iK s ps 0 s []
 |succ {k:Nat} {now x:St} {rs:List dp} {r:dp} (h:iK s ps k now rs) (hk:k<ps.length) (ha:cT now ps[k]=(x,r)) (h0:r.err=0):iK s ps (k+1) x (rs++[r])
theorem iK.le{s:St}{ps:List Pt}{k:Nat}{a:St}{r:List dp}(h:iK s ps k a r):k<=ps.length:=by
 cases h with
 |zero=>exact Nat.zero_le _
 |succ h hk ha h0=>exact hk
theorem iK.len{s:St}{ps:List Pt}{k:Nat}{a:St}{r:List dp}(h:iK s ps k a r):r.length=k:=by
 induction h with
 |zero=>rfl
 |succ h hk ha h0 ih=>rw[List.length_append,ih];rfl
end Pm
open Go.RowKit Pm
theorem MX(p:Bs)(w:World)(hl:p.length<=1000000):
  Calls prog 118 #[.string (B p)] w λe w'=>e=.returned (.string (B (iC p)))/\Fp ab w w':=by
 have NA:=λw=>qJ p w (cH hl (by omega))
 cases h:parent p with
 |none=>
  rw[h]at NA;simp only[Option.getD_none,Option.isSome_none]at NA
  have e:iC p=[47]:=by unfold iC;rw[h];rfl
  rw[e];have HP:=Lib.hid NA;clear NA hl h e;go_enter func118,ntmps118
  go_wp2_with fail
  refine(HP _).mono ?_;rintro e w1⟨rfl,g1⟩;have F:=Lib.hid g1.fp;clear g1;go_wp2;go_ret;exact⟨rfl,F.out⟩
 |some u=>?_
 rw[h]at NA;simp only[Option.getD_some,Option.isSome_some]at NA
 have e:iC p=u:=by unfold iC;rw[h];rfl
 rw[e];have HP:=Lib.hid NA;clear NA hl h e;go_enter func118,ntmps118
 go_wp2_with fail
 refine(HP _).mono ?_;rintro e w1⟨rfl,g1⟩;have F:=Lib.hid g1.fp;clear g1;go_wp2;go_ret;exact⟨rfl,F.out⟩
theorem qy(k:Int)(p:Bs)(w:World)(hl:p.length<=1000000):
  Calls prog 119 #[.int .i64 k,.string (B p)] w λe w'=>e=.returned (.string (B (bU k p)))/\Fp ab w w':=by
 have eR:=λw=>MX p w hl
 have HU:=Lib.hid eR;by_cases h:k=4\/k=9\/k=10
 ·have e:bU k p=p:=by unfold bU;rw[if_pos h]
  rw[e];clear eR hl e;rcases h with rfl|rfl|rfl
  ·go_enter func119,ntmps119
   go_wp2;go_ret;exact⟨rfl,Fp.refl _ _⟩
  ·go_enter func119,ntmps119
   go_wp2;go_ret;exact⟨rfl,Fp.refl _ _⟩
  go_enter func119,ntmps119
  go_wp2;go_ret;exact⟨rfl,Fp.refl _ _⟩
 have e:bU k p=iC p:=by unfold bU;rw[if_neg h]
 rw[e];have q4:(k == 4)=false:=beq_eq_false_iff_ne.2 (λe=>h (.inl e))
 have q9:(k == 9)=false:=beq_eq_false_iff_ne.2 (λe=>h (.inr (.inl e)))
 have SF:(k == 10)=false:=beq_eq_false_iff_ne.2 (λe=>h (.inr (.inr e)))
 clear eR hl e h;go_enter func119,ntmps119
 go_wp2_with fail
 refine(HU _).mono ?_;rintro e w1⟨rfl,hf⟩;have F:=Lib.hid hf;clear hf;go_wp2;go_ret;exact⟨rfl,F.out⟩
theorem Eh(n a b:Int)(w:World):
  Calls prog 79 #[.int .i64 n,.int .i64 a,.int .i64 b] w λe w'=>e=.returned (.bool (decide (a<=n/\n<=b)))/\w=w':=by
 go_enter func79,ntmps79
 go_wp2;all_goals (go_ret;refine⟨aB ?_,rfl⟩;simp;omega)
theorem iX(n a b:Int)(w:World)(r:Bool)(hr:decide (a<=n/\n<=b)=r):
  Calls prog 79 #[.int .i64 n,.int .i64 a,.int .i64 b] w λe w'=>e=.returned (.bool r)/\w=w':=by
 rw[<-hr];exact Eh n a b w
theorem bG(x:Int)(w:World):
  Calls prog 101 #[.int .i64 x] w λe w'=>e=.returned (jI x)/\Fp ab w w':=by
 go_enter func101,ntmps101
 go_wp2;exact bodyPost_ret (v:=jI x) (by simp[results,results101,go_sem,jI]) rfl ⟨rfl,(Fp.refl ab w).alloc _⟩
theorem ym{w:World}{b:Nat}{T:TypeId}{c0 c1 c2 c3 c4:Value}(h:w.heap[b]?=some (.cells #[c0,c1,c2,c3,c4] T (0,0))):
  w.cell? ⟨b,0,none⟩=some c0/\w.cell? ⟨b,1,none⟩=some c1/\w.cell? ⟨b,2,none⟩=some c2/\w.cell? ⟨b,3,none⟩=some c3/\w.cell? ⟨b,4,none⟩=some c4:=
 ⟨by rw[cell_of_row _ _ _ _ _ _ h];rfl,by rw[cell_of_row _ _ _ _ _ _ h];rfl,by rw[cell_of_row _ _ _ _ _ _ h];rfl,by rw[cell_of_row _ _ _ _ _ _ h];rfl,by rw[cell_of_row _ _ _ _ _ _ h];rfl⟩
theorem LX(n:Nd)(w:World)(hl:n.path.length<=1000000):
  Calls prog 77 #[vO n] w λe w'=>e=.returned (.bool (sJ n))/\Fp ab w w':=by
 have iL:=λw=>cE n.path w (cH hl (by omega))
 obtain⟨p,d,v,t,o⟩:=n;obtain⟨sp,fF⟩:∃b,(split p).isSome=b:=⟨_,rfl⟩;simp only at iL
 rw[fF]at iL;obtain⟨b1,h1⟩:∃r,decide ((0:Int)<=v/\v<=281474976710656)=r:=⟨_,rfl⟩;obtain⟨b3,h3⟩:∃r,decide ((0:Int)<=o/\o<=1099511627776)=r:=⟨_,rfl⟩;obtain⟨k,hk⟩:∃k,k=d.length:=⟨_,rfl⟩;have W1:=Lib.hid (λw=>iX v 0 281474976710656 w b1 h1)
 have W3:=Lib.hid (λw=>iX o 0 1099511627776 w b3 h3)
 obtain⟨r,hr⟩:∃r,sJ ⟨p,d,v,t,o⟩=r:=⟨_,rfl⟩
 have key:r=(sp && decide (k<=256) && decide (t=0) && !(decide (p=[47]) && decide (o≠0)) && b1 && b3):=by
  rw[<-hr,<-fF,<-h1,<-h3,hk];by_cases a1:p=[47]<;>by_cases a2:o=0<;>(rw[Bool.eq_iff_iff,gE];simp[a1,a2,and_assoc])
 have HR:=Lib.hid iL;have HK:=Lib.hid key;rw[hr];have bZ:=aa w (.cells #[.string (B p),.string (B d),.int .i64 v,.int .i64 t,.int .i64 o] TN);have om:=heap_alloc_new w (.cells #[.string (B p),.string (B d),.int .i64 v,.int .i64 t,.int .i64 o] TN);have dr:=Lib.hid (And.intro bZ om);unfold vO au;clear iL fF h1 h3 hr key bZ om hl;cases sp with
 |false=>
  clear hk;go_enter func77,ntmps77
  go_wp2_with fail
  refine(HR _).mono ?_;rintro e w1⟨rfl,g1⟩;have F:=Lib.hid (dr.1.then g1.fp);clear g1;go_wp2;go_ret;exact⟨aB (by rw[HK.out];rfl),F.out⟩
 |true=>?_
 have fin:∀c:Bool,(decide (k<=256) && decide (t=0) && !(decide (p=[47]) && decide (o≠0)) && b1 && b3)=c->r=c:=λc h=>by rw[HK.out,<-h];rfl
 have l3:=Lib.hid fin;clear fin HK;by_cases hd:k<=256
 ·have q1:((256:Int)<(d.length:Int))=False:=eq_false (by omega)
  by_cases ht:t=0
  ·have q2:(t != 0)=false:=by simp[ht]
   by_cases hp:p=[47]
   ·subst hp
    by_cases ho:o=0
    ·have q3:(o != 0)=false:=by simp[ho]
     have Q:=Lib.hid (And.intro hd (And.intro ht ho));clear hd hk ht ho;go_enter func77,ntmps77
     go_wp2_with fail
     refine(HR _).mono ?_;rintro e w1⟨rfl,g1⟩;have F:=Lib.hid (dr.1.then g1.fp);obtain⟨c0,c1,c2,c3,c4⟩:=ym (g1.fp.heap dr.2 id);clear g1;cases b1<;>cases b3
     all_goals
      go_wp2_with (first
       |(go_at_call_of 79 v;refine(W1 _).mono ?_;rintro e w2⟨rfl,rfl⟩)
       |(go_at_call_of 79 o;refine(W3 _).mono ?_;rintro e w2⟨rfl,rfl⟩))
      go_ret;exact⟨aB (l3 _ (by simp[Q.out])).symm,F.out⟩
    have q3:(o != 0)=true:=by simp[ho]
    have Q:=Lib.hid (And.intro hd (And.intro ht ho));clear hd hk ht ho;go_enter func77,ntmps77
    go_wp2_with fail
    refine(HR _).mono ?_;rintro e w1⟨rfl,g1⟩;have F:=Lib.hid (dr.1.then g1.fp);obtain⟨c0,c1,c2,c3,c4⟩:=ym (g1.fp.heap dr.2 id);clear g1;go_wp2;go_ret;exact⟨aB (l3 _ (by simp[Q.out])).symm,F.out⟩
   have q4:(p == [47])=false:=by simpa using hp
   have Q:=Lib.hid (And.intro hd (And.intro ht hp));clear hd hk ht hp;go_enter func77,ntmps77
   go_wp2_with fail
   refine(HR _).mono ?_;rintro e w1⟨rfl,g1⟩;have F:=Lib.hid (dr.1.then g1.fp);obtain⟨c0,c1,c2,c3,c4⟩:=ym (g1.fp.heap dr.2 id);clear g1;cases b1<;>cases b3
   all_goals
    go_wp2_with (first
     |(go_at_call_of 79 v;refine(W1 _).mono ?_;rintro e w2⟨rfl,rfl⟩)
     |(go_at_call_of 79 o;refine(W3 _).mono ?_;rintro e w2⟨rfl,rfl⟩))
    go_ret;exact⟨aB (l3 _ (by simp[Q.out])).symm,F.out⟩
  have q2:(t != 0)=true:=by simp[ht]
  have Q:=Lib.hid (And.intro hd ht);clear hd hk ht;go_enter func77,ntmps77
  go_wp2_with fail
  refine(HR _).mono ?_;rintro e w1⟨rfl,g1⟩;have F:=Lib.hid (dr.1.then g1.fp);obtain⟨c0,c1,c2,c3,c4⟩:=ym (g1.fp.heap dr.2 id);clear g1;go_wp2;go_ret;exact⟨aB (l3 _ (by simp[Q.out])).symm,F.out⟩
 have q1:((256:Int)<(d.length:Int))=True:=eq_true (by omega)
 have Q:=Lib.hid hd;clear hd hk;go_enter func77,ntmps77
 go_wp2_with fail
 refine(HR _).mono ?_;rintro e w1⟨rfl,g1⟩;have F:=Lib.hid (dr.1.then g1.fp);obtain⟨c0,c1,c2,c3,c4⟩:=ym (g1.fp.heap dr.2 id);clear g1;go_wp2;go_ret;exact⟨aB (l3 _ (by simp[Q.out])).symm,F.out⟩
abbrev TP:TypeId:=130
def jl(x:Pt):List Value:=[.int .i64 x.kind,au x.dir,au x.path,au x.data,.int .i64 x.aX,.int .i64 x.own,.bool x.turns]
def fY(x:Pt):Value:=.agg #[.int .i64 x.kind,au x.dir,au x.path,au x.data,.int .i64 x.aX,.int .i64 x.own,.bool x.turns]
theorem aH{w:World}{b:Nat}{T:TypeId}{c0 c1 c2 c3 c4 c5 c6:Value}(h:w.heap[b]?=some (.cells #[c0,c1,c2,c3,c4,c5,c6] T (0,0))):
  w.cell? ⟨b,0,none⟩=some c0/\w.cell? ⟨b,1,none⟩=some c1/\w.cell? ⟨b,2,none⟩=some c2/\w.cell? ⟨b,3,none⟩=some c3/\w.cell? ⟨b,4,none⟩=some c4/\w.cell? ⟨b,5,none⟩=some c5/\w.cell? ⟨b,6,none⟩=some c6:=
 ⟨by rw[cell_of_row _ _ _ _ _ _ h];rfl,by rw[cell_of_row _ _ _ _ _ _ h];rfl,by rw[cell_of_row _ _ _ _ _ _ h];rfl,by rw[cell_of_row _ _ _ _ _ _ h];rfl,by rw[cell_of_row _ _ _ _ _ _ h];rfl,by rw[cell_of_row _ _ _ _ _ _ h];rfl,by rw[cell_of_row _ _ _ _ _ _ h];rfl⟩
theorem dL{w:World}{b:Nat}{T:TypeId}{c0 c1 c2 c3 c4 c5 c6:Value}(h:w.heap[b]?=some (.cells #[c0,c1,c2,c3,c4,c5,c6] T (0,0))):
  w.cell? ⟨b,0,none⟩=some c0/\w.cell? ⟨b,1,none⟩=some c1/\w.cell? ⟨b,2,none⟩=some c2:=⟨(aH h).1,(aH h).2.1,(aH h).2.2.1⟩
theorem zQ(x:Pt)(w:World)(hl:x.path.length<=1000000):
  Calls prog 100 #[fY x] w λe w'=>e=.returned (.bool (cq x))/\Fp ab w w':=by
 have iL:=λw=>cE x.path w (cH hl (by omega))
 have cV:=λw=>qy x.kind x.path w hl
 obtain⟨k,d,p,da,v,o,t⟩:=x;obtain⟨sp,fF⟩:∃b,(split p).isSome=b:=⟨_,rfl⟩;obtain⟨kp,OY⟩:∃b,bU k p=b:=⟨_,rfl⟩;simp only at iL cV
 rw[fF]at iL;rw[OY]at cV;obtain⟨b1,h1⟩:∃r,decide ((-1:Int)<=v/\v<=281474976710656)=r:=⟨_,rfl⟩;obtain⟨b3,h3⟩:∃r,decide ((0:Int)<=o/\o<=1099511627776)=r:=⟨_,rfl⟩;obtain⟨n,hn⟩:∃n,n=da.length:=⟨_,rfl⟩;have W1:=zI (λw=>iX v (-1) 281474976710656 w b1 h1)
 have W3:=zI (λw=>iX o 0 1099511627776 w b3 h3)
 obtain⟨r,hr⟩:∃r,cq ⟨k,d,p,da,v,o,t⟩=r:=⟨_,rfl⟩
 have key:r=(decide (1<=k) && decide (k<=10) && sp && decide (d=kp) && !(decide (k=2) && decide (p=[47])) && decide (n<=256) && b1 && b3):=by
  rw[<-hr,<-fF,<-h1,<-h3,hn,<-OY];by_cases a1:p=[47]<;>by_cases a2:k=2<;>(rw[Bool.eq_iff_iff,bt];simp[a1,a2,and_assoc])
 have HR:=zI iL;have Jt:=zI cV;have l3:=zI (show ∀c:Bool,(decide (1<=k) && decide (k<=10) && sp && decide (d=kp) && !(decide (k=2) && decide (p=[47])) && decide (n<=256) && b1 && b3)=c->r=c from λc h=>by rw[key,h])
 rw[hr];have bZ:=aa w (.cells #[.int .i64 k,.string (B d),.string (B p),.string (B da),.int .i64 v,.int .i64 o,.bool t] TP);have om:=heap_alloc_new w (.cells #[.int .i64 k,.string (B d),.string (B p),.string (B da),.int .i64 v,.int .i64 o,.bool t] TP);have dr:=zI (yI bZ om);unfold fY au;clear iL cV fF OY h1 h3 hr key hl bZ om;by_cases ha:1<=k
 ·have q1:(k<(1:Int))=False:=eq_false (by omega)
  by_cases hb:k<=10
  ·have q2:((11:Int)<=k)=False:=eq_false (by omega)
   cases sp with
   |false=>
    have Q:=zI (yI ha (hb));clear ha hb hn;go_enter func100,ntmps100
    go_wp2_with fail
    refine wp_region_held_drew (S:=(λw'=>w'.cell? ⟨w.heap.size,0,none⟩=some (.int .i64 k)/\w'.cell? ⟨w.heap.size,1,none⟩=some (.string (B d))/\w'.cell? ⟨w.heap.size,2,none⟩=some (.string (B p)))) (by kernel_rfl) ?_ (λhH=>?_)
    ·exact dL ((Fp.refl ab _).drew.heap dr.2 id)
    refine tk 0 hH ?_;refine tk 1 hH ?_;refine tk 2 hH ?_;refine tk 3 hH ?_;refine tk 4 hH ?_;refine tk 5 hH ?_;refine tk 6 hH ?_;refine tk 7 hH ?_;refine tk 8 hH ?_;refine tk 9 hH ?_;refine tk 10 hH ?_;refine rY 11 λK hK=>?_
    go_simp;go_at_call 78
    refine(HR _).mono ?_;rintro e w1⟨rfl,g1⟩;have bO:=g1.fp.heap (k:=w.heap.size) ((Fp.refl ab _).drew.heap dr.2 id) id;have iW:=zI bO;have dQ:=zI (dL bO);have F1:=zI (dr.1.then (((Fp.refl ab _).drew).then g1.fp));clear g1 bO;go_wp2_with fail
    refine hK _ _ dQ (λhH=>?_)
    clear hK K;try simp only[zz]
    refine tk 12 hH ?_;refine tk 13 hH ?_;refine tk 14 hH ?_;refine sk 15 hH ?_;refine sk 16 hH ?_;refine sk 17 hH ?_;refine sk 18 hH ?_;refine sk 19 hH ?_;refine sk 20 hH ?_;refine sk 21 hH ?_;refine sk 22 hH ?_;refine tk 23 hH ?_;refine yD ?_;go_wp2;go_ret;exact⟨aB (l3 _ (by simp[Q.out])).symm,F1.out⟩
   |true=>?_
   by_cases ja:d=kp
   ·have q3:(d != kp)=false:=by simpa using ja
    have q3b:(d == kp)=true:=by simpa using ja
    have q3c:(d=kp)=True:=eq_true ja;by_cases h2:k=2
    ·have q4:(k == 2)=true:=by simpa using h2
     have q4b:(k=2)=True:=eq_true h2;by_cases hp:p=[47]
     ·have q7:(p == [47])=true:=by simpa using hp
      have q7b:(p=[47])=True:=eq_true hp;have Q:=zI (yI ha (yI hb (yI ja (yI h2 (hp)))));clear ha hb ja h2 hp hn;go_enter func100,ntmps100
      go_wp2_with fail
      refine wp_region_held_drew (S:=(λw'=>w'.cell? ⟨w.heap.size,0,none⟩=some (.int .i64 k)/\w'.cell? ⟨w.heap.size,1,none⟩=some (.string (B d))/\w'.cell? ⟨w.heap.size,2,none⟩=some (.string (B p)))) (by kernel_rfl) ?_ (λhH=>?_)
      ·exact dL ((Fp.refl ab _).drew.heap dr.2 id)
      refine tk 0 hH ?_;refine tk 1 hH ?_;refine tk 2 hH ?_;refine tk 3 hH ?_;refine tk 4 hH ?_;refine tk 5 hH ?_;refine tk 6 hH ?_;refine tk 7 hH ?_;refine tk 8 hH ?_;refine tk 9 hH ?_;refine tk 10 hH ?_;refine rY 11 λK hK=>?_
      go_simp;go_at_call 78
      refine(HR _).mono ?_;rintro e w1⟨rfl,g1⟩;have bO:=g1.fp.heap (k:=w.heap.size) ((Fp.refl ab _).drew.heap dr.2 id) id;have iW:=zI bO;have dQ:=zI (dL bO);have F1:=zI (dr.1.then (((Fp.refl ab _).drew).then g1.fp));clear g1 bO;go_wp2_with fail
      refine hK _ _ dQ (λhH=>?_)
      clear hK K;try simp only[zz]
      refine tk 12 hH ?_;refine tk 13 hH ?_;refine tk 14 hH ?_;refine tk 15 hH ?_;refine tk 16 hH ?_;refine tk 17 hH ?_;refine tk 18 hH ?_;refine tk 19 hH ?_;refine tk 20 hH ?_;refine rY 21 λK hK=>?_
      go_simp;go_at_call 119
      refine(Jt _).mono ?_;rintro e w2⟨rfl,g2⟩;have bW:=g2.heap (k:=w.heap.size) iW id;have jU:=zI bW;have cI:=zI (dL bW);have F:=zI (F1.then g2);clear g2 bW;go_wp2_with fail
      refine hK _ _ cI (λhH=>?_)
      clear hK K;try simp only[zz]
      refine tk 22 hH ?_;refine tk 23 hH ?_;refine yD ?_;obtain⟨c0,c1,c2,c3,c4,c5,c6⟩:=aH jU.out;go_wp2;go_ret;exact⟨aB (l3 _ (by simp[Q.out])).symm,F.out⟩
     have q7:(p == [47])=false:=by simpa using hp
     have q7b:(p=[47])=False:=eq_false hp;by_cases hd:n<=256
     ·have q5:((256:Int)<(da.length:Int))=False:=eq_false (by omega)
      have q6:((da.length:Int)<=(256:Int))=True:=eq_true (by omega)
      have Q:=zI (yI ha (yI hb (yI ja (yI h2 (yI hp (hd))))));clear ha hb ja h2 hp hd hn;go_enter func100,ntmps100
      go_wp2_with fail
      refine wp_region_held_drew (S:=(λw'=>w'.cell? ⟨w.heap.size,0,none⟩=some (.int .i64 k)/\w'.cell? ⟨w.heap.size,1,none⟩=some (.string (B d))/\w'.cell? ⟨w.heap.size,2,none⟩=some (.string (B p)))) (by kernel_rfl) ?_ (λhH=>?_)
      ·exact dL ((Fp.refl ab _).drew.heap dr.2 id)
      refine tk 0 hH ?_;refine tk 1 hH ?_;refine tk 2 hH ?_;refine tk 3 hH ?_;refine tk 4 hH ?_;refine tk 5 hH ?_;refine tk 6 hH ?_;refine tk 7 hH ?_;refine tk 8 hH ?_;refine tk 9 hH ?_;refine tk 10 hH ?_;refine rY 11 λK hK=>?_
      go_simp;go_at_call 78
      refine(HR _).mono ?_;rintro e w1⟨rfl,g1⟩;have bO:=g1.fp.heap (k:=w.heap.size) ((Fp.refl ab _).drew.heap dr.2 id) id;have iW:=zI bO;have dQ:=zI (dL bO);have F1:=zI (dr.1.then (((Fp.refl ab _).drew).then g1.fp));clear g1 bO;go_wp2_with fail
      refine hK _ _ dQ (λhH=>?_)
      clear hK K;try simp only[zz]
      refine tk 12 hH ?_;refine tk 13 hH ?_;refine tk 14 hH ?_;refine tk 15 hH ?_;refine tk 16 hH ?_;refine tk 17 hH ?_;refine tk 18 hH ?_;refine tk 19 hH ?_;refine tk 20 hH ?_;refine rY 21 λK hK=>?_
      go_simp;go_at_call 119
      refine(Jt _).mono ?_;rintro e w2⟨rfl,g2⟩;have bW:=g2.heap (k:=w.heap.size) iW id;have jU:=zI bW;have cI:=zI (dL bW);have F:=zI (F1.then g2);clear g2 bW;go_wp2_with fail
      refine hK _ _ cI (λhH=>?_)
      clear hK K;try simp only[zz]
      refine tk 22 hH ?_;refine tk 23 hH ?_;refine yD ?_;obtain⟨c0,c1,c2,c3,c4,c5,c6⟩:=aH jU.out;cases b1<;>cases b3
      all_goals
       go_wp2_with (first
        |(go_at_call_of 79 v;refine(W1 _).mono ?_;rintro e w3⟨rfl,rfl⟩)
        |(go_at_call_of 79 o;refine(W3 _).mono ?_;rintro e w3⟨rfl,rfl⟩))
       go_ret;exact⟨aB (l3 _ (by simp[Q.out])).symm,F.out⟩
     have q5:((256:Int)<(da.length:Int))=True:=eq_true (by omega)
     have q6:((da.length:Int)<=(256:Int))=False:=eq_false (by omega)
     have Q:=zI (yI ha (yI hb (yI ja (yI h2 (yI hp (hd))))));clear ha hb ja h2 hp hd hn;go_enter func100,ntmps100
     go_wp2_with fail
     refine wp_region_held_drew (S:=(λw'=>w'.cell? ⟨w.heap.size,0,none⟩=some (.int .i64 k)/\w'.cell? ⟨w.heap.size,1,none⟩=some (.string (B d))/\w'.cell? ⟨w.heap.size,2,none⟩=some (.string (B p)))) (by kernel_rfl) ?_ (λhH=>?_)
     ·exact dL ((Fp.refl ab _).drew.heap dr.2 id)
     refine tk 0 hH ?_;refine tk 1 hH ?_;refine tk 2 hH ?_;refine tk 3 hH ?_;refine tk 4 hH ?_;refine tk 5 hH ?_;refine tk 6 hH ?_;refine tk 7 hH ?_;refine tk 8 hH ?_;refine tk 9 hH ?_;refine tk 10 hH ?_;refine rY 11 λK hK=>?_
     go_simp;go_at_call 78
     refine(HR _).mono ?_;rintro e w1⟨rfl,g1⟩;have bO:=g1.fp.heap (k:=w.heap.size) ((Fp.refl ab _).drew.heap dr.2 id) id;have iW:=zI bO;have dQ:=zI (dL bO);have F1:=zI (dr.1.then (((Fp.refl ab _).drew).then g1.fp));clear g1 bO;go_wp2_with fail
     refine hK _ _ dQ (λhH=>?_)
     clear hK K;try simp only[zz]
     refine tk 12 hH ?_;refine tk 13 hH ?_;refine tk 14 hH ?_;refine tk 15 hH ?_;refine tk 16 hH ?_;refine tk 17 hH ?_;refine tk 18 hH ?_;refine tk 19 hH ?_;refine tk 20 hH ?_;refine rY 21 λK hK=>?_
     go_simp;go_at_call 119
     refine(Jt _).mono ?_;rintro e w2⟨rfl,g2⟩;have bW:=g2.heap (k:=w.heap.size) iW id;have jU:=zI bW;have cI:=zI (dL bW);have F:=zI (F1.then g2);clear g2 bW;go_wp2_with fail
     refine hK _ _ cI (λhH=>?_)
     clear hK K;try simp only[zz]
     refine tk 22 hH ?_;refine tk 23 hH ?_;refine yD ?_;obtain⟨c0,c1,c2,c3,c4,c5,c6⟩:=aH jU.out;go_wp2;go_ret;exact⟨aB (l3 _ (by simp[Q.out])).symm,F.out⟩
    have q4:(k == 2)=false:=by simpa using h2
    have q4b:(k=2)=False:=eq_false h2;by_cases hd:n<=256
    ·have q5:((256:Int)<(da.length:Int))=False:=eq_false (by omega)
     have q6:((da.length:Int)<=(256:Int))=True:=eq_true (by omega)
     have Q:=zI (yI ha (yI hb (yI ja (yI h2 (hd)))));clear ha hb ja h2 hd hn;go_enter func100,ntmps100
     go_wp2_with fail
     refine wp_region_held_drew (S:=(λw'=>w'.cell? ⟨w.heap.size,0,none⟩=some (.int .i64 k)/\w'.cell? ⟨w.heap.size,1,none⟩=some (.string (B d))/\w'.cell? ⟨w.heap.size,2,none⟩=some (.string (B p)))) (by kernel_rfl) ?_ (λhH=>?_)
     ·exact dL ((Fp.refl ab _).drew.heap dr.2 id)
     refine tk 0 hH ?_;refine tk 1 hH ?_;refine tk 2 hH ?_;refine tk 3 hH ?_;refine tk 4 hH ?_;refine tk 5 hH ?_;refine tk 6 hH ?_;refine tk 7 hH ?_;refine tk 8 hH ?_;refine tk 9 hH ?_;refine tk 10 hH ?_;refine rY 11 λK hK=>?_
     go_simp;go_at_call 78
     refine(HR _).mono ?_;rintro e w1⟨rfl,g1⟩;have bO:=g1.fp.heap (k:=w.heap.size) ((Fp.refl ab _).drew.heap dr.2 id) id;have iW:=zI bO;have dQ:=zI (dL bO);have F1:=zI (dr.1.then (((Fp.refl ab _).drew).then g1.fp));clear g1 bO;go_wp2_with fail
     refine hK _ _ dQ (λhH=>?_)
     clear hK K;try simp only[zz]
     refine tk 12 hH ?_;refine tk 13 hH ?_;refine tk 14 hH ?_;refine tk 15 hH ?_;refine tk 16 hH ?_;refine tk 17 hH ?_;refine tk 18 hH ?_;refine tk 19 hH ?_;refine tk 20 hH ?_;refine rY 21 λK hK=>?_
     go_simp;go_at_call 119
     refine(Jt _).mono ?_;rintro e w2⟨rfl,g2⟩;have bW:=g2.heap (k:=w.heap.size) iW id;have jU:=zI bW;have cI:=zI (dL bW);have F:=zI (F1.then g2);clear g2 bW;go_wp2_with fail
     refine hK _ _ cI (λhH=>?_)
     clear hK K;try simp only[zz]
     refine tk 22 hH ?_;refine tk 23 hH ?_;refine yD ?_;obtain⟨c0,c1,c2,c3,c4,c5,c6⟩:=aH jU.out;cases b1<;>cases b3
     all_goals
      go_wp2_with (first
       |(go_at_call_of 79 v;refine(W1 _).mono ?_;rintro e w3⟨rfl,rfl⟩)
       |(go_at_call_of 79 o;refine(W3 _).mono ?_;rintro e w3⟨rfl,rfl⟩))
      go_ret;exact⟨aB (l3 _ (by simp[Q.out])).symm,F.out⟩
    have q5:((256:Int)<(da.length:Int))=True:=eq_true (by omega)
    have q6:((da.length:Int)<=(256:Int))=False:=eq_false (by omega)
    have Q:=zI (yI ha (yI hb (yI ja (yI h2 (hd)))));clear ha hb ja h2 hd hn;go_enter func100,ntmps100
    go_wp2_with fail
    refine wp_region_held_drew (S:=(λw'=>w'.cell? ⟨w.heap.size,0,none⟩=some (.int .i64 k)/\w'.cell? ⟨w.heap.size,1,none⟩=some (.string (B d))/\w'.cell? ⟨w.heap.size,2,none⟩=some (.string (B p)))) (by kernel_rfl) ?_ (λhH=>?_)
    ·exact dL ((Fp.refl ab _).drew.heap dr.2 id)
    refine tk 0 hH ?_;refine tk 1 hH ?_;refine tk 2 hH ?_;refine tk 3 hH ?_;refine tk 4 hH ?_;refine tk 5 hH ?_;refine tk 6 hH ?_;refine tk 7 hH ?_;refine tk 8 hH ?_;refine tk 9 hH ?_;refine tk 10 hH ?_;refine rY 11 λK hK=>?_
    go_simp;go_at_call 78
    refine(HR _).mono ?_;rintro e w1⟨rfl,g1⟩;have bO:=g1.fp.heap (k:=w.heap.size) ((Fp.refl ab _).drew.heap dr.2 id) id;have iW:=zI bO;have dQ:=zI (dL bO);have F1:=zI (dr.1.then (((Fp.refl ab _).drew).then g1.fp));clear g1 bO;go_wp2_with fail
    refine hK _ _ dQ (λhH=>?_)
    clear hK K;try simp only[zz]
    refine tk 12 hH ?_;refine tk 13 hH ?_;refine tk 14 hH ?_;refine tk 15 hH ?_;refine tk 16 hH ?_;refine tk 17 hH ?_;refine tk 18 hH ?_;refine tk 19 hH ?_;refine tk 20 hH ?_;refine rY 21 λK hK=>?_
    go_simp;go_at_call 119
    refine(Jt _).mono ?_;rintro e w2⟨rfl,g2⟩;have bW:=g2.heap (k:=w.heap.size) iW id;have jU:=zI bW;have cI:=zI (dL bW);have F:=zI (F1.then g2);clear g2 bW;go_wp2_with fail
    refine hK _ _ cI (λhH=>?_)
    clear hK K;try simp only[zz]
    refine tk 22 hH ?_;refine tk 23 hH ?_;refine yD ?_;obtain⟨c0,c1,c2,c3,c4,c5,c6⟩:=aH jU.out;go_wp2;go_ret;exact⟨aB (l3 _ (by simp[Q.out])).symm,F.out⟩
   have q3:(d != kp)=true:=by simpa using ja
   have q3b:(d == kp)=false:=by simpa using ja
   have q3c:(d=kp)=False:=eq_false ja;have Q:=zI (yI ha (yI hb (ja)));clear ha hb ja hn;go_enter func100,ntmps100
   go_wp2_with fail
   refine wp_region_held_drew (S:=(λw'=>w'.cell? ⟨w.heap.size,0,none⟩=some (.int .i64 k)/\w'.cell? ⟨w.heap.size,1,none⟩=some (.string (B d))/\w'.cell? ⟨w.heap.size,2,none⟩=some (.string (B p)))) (by kernel_rfl) ?_ (λhH=>?_)
   ·exact dL ((Fp.refl ab _).drew.heap dr.2 id)
   refine tk 0 hH ?_;refine tk 1 hH ?_;refine tk 2 hH ?_;refine tk 3 hH ?_;refine tk 4 hH ?_;refine tk 5 hH ?_;refine tk 6 hH ?_;refine tk 7 hH ?_;refine tk 8 hH ?_;refine tk 9 hH ?_;refine tk 10 hH ?_;refine rY 11 λK hK=>?_
   go_simp;go_at_call 78
   refine(HR _).mono ?_;rintro e w1⟨rfl,g1⟩;have bO:=g1.fp.heap (k:=w.heap.size) ((Fp.refl ab _).drew.heap dr.2 id) id;have iW:=zI bO;have dQ:=zI (dL bO);have F1:=zI (dr.1.then (((Fp.refl ab _).drew).then g1.fp));clear g1 bO;go_wp2_with fail
   refine hK _ _ dQ (λhH=>?_)
   clear hK K;try simp only[zz]
   refine tk 12 hH ?_;refine tk 13 hH ?_;refine tk 14 hH ?_;refine tk 15 hH ?_;refine tk 16 hH ?_;refine tk 17 hH ?_;refine tk 18 hH ?_;refine tk 19 hH ?_;refine tk 20 hH ?_;refine rY 21 λK hK=>?_
   go_simp;go_at_call 119
   refine(Jt _).mono ?_;rintro e w2⟨rfl,g2⟩;have bW:=g2.heap (k:=w.heap.size) iW id;have jU:=zI bW;have cI:=zI (dL bW);have F:=zI (F1.then g2);clear g2 bW;go_wp2_with fail
   refine hK _ _ cI (λhH=>?_)
   clear hK K;try simp only[zz]
   refine tk 22 hH ?_;refine tk 23 hH ?_;refine yD ?_;obtain⟨c0,c1,c2,c3,c4,c5,c6⟩:=aH jU.out;go_wp2;go_ret;exact⟨aB (l3 _ (by simp[Q.out])).symm,F.out⟩
  have q2:((11:Int)<=k)=True:=eq_true (by omega)
  have Q:=zI (yI ha (hb));clear ha hb hn;go_enter func100,ntmps100
  go_wp2_with fail
  refine wp_region_held_drew (S:=(λw'=>w'.cell? ⟨w.heap.size,0,none⟩=some (.int .i64 k)/\w'.cell? ⟨w.heap.size,1,none⟩=some (.string (B d))/\w'.cell? ⟨w.heap.size,2,none⟩=some (.string (B p)))) (by kernel_rfl) ?_ (λhH=>?_)
  ·exact dL ((Fp.refl ab _).drew.heap dr.2 id)
  refine tk 0 hH ?_;refine tk 1 hH ?_;refine tk 2 hH ?_;refine tk 3 hH ?_;refine tk 4 hH ?_;refine tk 5 hH ?_;refine tk 6 hH ?_;refine tk 7 hH ?_;refine tk 8 hH ?_;refine sk 9 hH ?_;refine sk 10 hH ?_;refine sk 11 hH ?_;refine sk 12 hH ?_;refine tk 13 hH ?_;refine tk 14 hH ?_;refine sk 15 hH ?_;refine sk 16 hH ?_;refine sk 17 hH ?_;refine sk 18 hH ?_;refine sk 19 hH ?_;refine sk 20 hH ?_;refine sk 21 hH ?_;refine sk 22 hH ?_;refine tk 23 hH ?_;refine yD ?_;go_wp2;go_ret;exact⟨aB (l3 _ (by have h:=Q.out;have e:(decide (1<=k) && decide (k<=10))=false:=(by rw[Bool.and_eq_false_iff,decide_eq_false_iff_not,decide_eq_false_iff_not];omega);rw[e];rfl)).symm,dr.1.then (Fp.refl ab _).drew⟩
 have q1:(k<(1:Int))=True:=eq_true (by omega)
 have Q:=zI (ha);clear ha hn;go_enter func100,ntmps100
 go_wp2_with fail
 refine wp_region_held_drew (S:=(λw'=>w'.cell? ⟨w.heap.size,0,none⟩=some (.int .i64 k)/\w'.cell? ⟨w.heap.size,1,none⟩=some (.string (B d))/\w'.cell? ⟨w.heap.size,2,none⟩=some (.string (B p)))) (by kernel_rfl) ?_ (λhH=>?_)
 ·exact dL ((Fp.refl ab _).drew.heap dr.2 id)
 refine tk 0 hH ?_;refine tk 1 hH ?_;refine tk 2 hH ?_;refine tk 3 hH ?_;refine sk 4 hH ?_;refine sk 5 hH ?_;refine sk 6 hH ?_;refine tk 7 hH ?_;refine tk 8 hH ?_;refine sk 9 hH ?_;refine sk 10 hH ?_;refine sk 11 hH ?_;refine sk 12 hH ?_;refine tk 13 hH ?_;refine tk 14 hH ?_;refine sk 15 hH ?_;refine sk 16 hH ?_;refine sk 17 hH ?_;refine sk 18 hH ?_;refine sk 19 hH ?_;refine sk 20 hH ?_;refine sk 21 hH ?_;refine sk 22 hH ?_;refine tk 23 hH ?_;refine yD ?_;go_wp2;go_ret;exact⟨aB (l3 _ (by have h:=Q.out;have e:(decide (1<=k) && decide (k<=10))=false:=(by rw[Bool.and_eq_false_iff,decide_eq_false_iff_not,decide_eq_false_iff_not];omega);rw[e];rfl)).symm,dr.1.then (Fp.refl ab _).drew⟩
section
variable {α : Type} {enc : α → List Value} {k : Nat}
def bC(enc:α->List Value)(l:List α):List Value:=l.flatMap enc
theorem dW(x:α)(l:List α):bC enc (x::l)=enc x++bC enc l:=by simp[bC]
theorem kG(a b:List α):bC enc (a++b)=bC enc a++bC enc b:=by simp[bC]
theorem kH(hk:∀x,(enc x).length=k)(l:List α):(bC enc l).length=l.length*k:=by
 induction l with
 |nil=>simp[bC]
 |cons x l ih=>rw[dW,List.length_append,hk,ih,List.length_cons,Nat.add_mul,Nat.one_mul,Nat.add_comm]
theorem kI(hk:∀x,(enc x).length=k)(l:List α)(i j:Nat)(hi:i<l.length)(hj:j<k):(bC enc l)[i*k+j]?=(enc l[i])[j]?:=by
 induction l generalizing i with
 |nil=>simp at hi
 |cons x l ih=>
  rw[dW];cases i with
  |zero=>rw[List.getElem?_append_left (by rw[hk];omega)];simp
  |succ i=>?_
  have e:(i+1)*k+j=k+(i*k+j):=by rw[Nat.add_mul,Nat.one_mul];omega
  rw[List.getElem?_append_right (by rw[hk,e];omega),hk,e,Nat.add_sub_cancel_left,ih i (by simpa using hi)]
  simp
theorem Ei(h1:∀x,∀u∈enc x,u.oneCell'=true)(l:List α):∀u∈bC enc l,u.oneCell'=true:=by
 intro u hu;unfold bC at hu;obtain⟨x,_,hx⟩:=List.mem_flatMap.1 hu;exact h1 x u hx
structure iI(enc:α->List Value)(w:World)(g o:Nat)(x:α):Prop where
 get:∀j v,(enc x)[j]?=some v->w.cell? ⟨g,o+j,none⟩=some v
theorem iI.keep{w w':World}{g o:Nat}{x:α}(h:iI enc w g o x){S:Nat->Prop}(f:Fp S w w')(hS:¬S g):iI enc w' g o x:=⟨λj v hv=>f.cell (h.get j v hv) hS⟩
structure Sg(enc:α->List Value)(k:Nat)(w:World)(v:Value)(l:List α):Prop where
 ex:∃ao cap,v=.slice ao l.length cap/\(l=[]\/∃g o,ao=some ⟨g,o,none⟩/\∀i (h:i<l.length),iI enc w g (o+i*k) l[i])
theorem Sg.af{w w':World}{v:Value}{l:List α}(h:Sg enc k w v l)(f:Fp ab w w'):Sg enc k w' v l:=by
 obtain⟨ao,cap,rfl,h3⟩:=h.ex;refine⟨ao,cap,rfl,?_⟩;rcases h3 with h3|⟨g,o,rfl,hc⟩
 ·exact .inl h3
 exact .inr ⟨g,o,rfl,λi hi=>(hc i hi).keep f id⟩
theorem Sg.shape{w:World}{v:Value}{l:List α}(h:Sg enc k w v l):∃ao cap,v=.slice ao l.length cap:=by
 obtain⟨ao,cap,rfl,_⟩:=h.ex;exact⟨ao,cap,rfl⟩
theorem Sg.nil(w:World):Sg enc k w (.slice none 0 0) []:=⟨none,0,rfl,.inl rfl⟩
theorem Sg.at{w:World}{v:Value}{l:List α}(h:Sg enc k w v l)(h0:0<l.length):∃g o cap,v=.slice (some ⟨g,o,none⟩) l.length cap/\∀i (h:i<l.length),iI enc w g (o+i*k) l[i]:=by
 obtain⟨ao,cap,rfl,h3⟩:=h.ex;rcases h3 with h3|⟨g,o,rfl,hc⟩
 ·subst h3;simp at h0
 exact⟨g,o,cap,rfl,hc⟩
def dT(T:TypeId)(enc:α->List Value)(k:Nat)(lo:Nat)(w:World)(v:Value)(l:List α):Prop:=w.ownsRow lo T k v l.length (bC enc l)
variable {T : TypeId}
theorem dT.nil(lo:Nat)(w:World):dT T enc k lo w (.slice none 0 0) []:=⟨by simp[bC],.inl ⟨rfl,rfl⟩⟩
theorem dT.af{lo:Nat}{w w':World}{v:Value}{l:List α}(h:dT T enc k lo w v l)(f:Fp ab w w'):dT T enc k lo w' v l:=f.owns h (λ_ _ h=>h)
theorem dT.lt{lo:Nat}{w:World}{v:Value}{l:List α}(h:dT T enc k lo w v l):∀j,v.ownBlock=some j->lo<=j/\j<w.heap.size:=λj hj=>World.ownsRow.lt h j hj
theorem dT.sg(hk:∀x,(enc x).length=k){lo:Nat}{w:World}{v:Value}{l:List α}(h:dT T enc k lo w v l):Sg enc k w v l:=by
 rcases h.2 with⟨h0,h1⟩|⟨g,cap,cur,e,hb,hg,h1,h2,h3,h4⟩
 ·refine⟨none,0,?_,?_⟩
  ·rw[h1];exact h0
  exact .inl (List.eq_nil_of_length_eq_zero h1)
 refine⟨_,cap,e,.inr ⟨g,0,rfl,λi hi=>⟨λj v hv=>?_⟩⟩⟩
 have hj:j<k:=by rw[<-hk l[i]];exact(List.getElem?_eq_some_iff.1 hv).1
 rw[<-kI hk l i j hi hj,<-h4]at hv;rw[cell_of_row w g _ _ T (0,0) hg,Nat.zero_add];rw[List.getElem?_take]at hv;split at hv
 ·rw[<-hv];simp
 cases hv
theorem j5(hk:∀x,(enc x).length=k)(h1:∀x,∀u∈enc x,u.oneCell'=true){SL:TypeId}{z:Value}{Zg:Nat}(hu:prog.underlying SL=some (.slice T))(Zh:(prog.info? T).map (λi=>(i.zero,i.size,i.bytes))=some (some z,k,Zg))(hz:z.cells.size=k)(nC:0<k)(qY:Zg<=200)
  (w:World) (lo:Nat) (v:Value) (l m:List α) (ty:TypeId) (a:Addr) (n c:Nat) (hv:dT T enc k lo w v l) (hn:n=m.length) (hx:∀i (h:i<m.length) j u,(enc m[i])[j]?=some u->w.cell? (a.add (i*k+j))=some u) (h6:l.length+m.length<=100000) (bq:lo<=w.heap.size):
  ∃v' w',(Builtin.append_ #[SL,SL] ty #[v,.slice (some a) n c]).run prog w=.ok v' w'/\dT T enc k lo w' v' (l++m)/\w.grownBy w' v.ownBlock/\∀j,v'.ownBlock=some j->v.ownBlock=some j\/w.heap.size<=j:=by
 obtain⟨i,hi,l6,db,hb⟩:=info_parts Zh;subst hn
 obtain⟨v',w',hr,h4,h5,_,h8⟩:=run_append_own_at (P:=prog) w lo SL ty T i _ k Zg hu hi l6 db hb hz nC v l.length (bC enc l) hv a m.length c (bC enc m) (kH hk m)
  (λj u hu=>by
   have hj:j<m.length*k:=by rw[<-kH hk];exact(List.getElem?_eq_some_iff.1 hu).1
   have hd:j / k<m.length:=Nat.div_lt_of_lt_mul (by rw[Nat.mul_comm];exact hj)
   have hr:j % k<k:=Nat.mod_lt _ nC;have e:j / k*k+j % k=j:=Nat.div_add_mod' j k;rw[<-e,kI hk m (j / k) (j % k) hd hr]at hu;have:=hx (j / k) hd (j % k) u hu;rwa[e]at this)
  (Ei h1 m) (by unfold maxLen;omega) (Nat.le_trans (Nat.mul_le_mul h6 qY) (by decide)) bq
 refine⟨v',w',hr,?_,h5,λj hj=>?_⟩
 ·unfold dT
  rw[kG,List.length_append];exact h4
 rcases h8 with e|e
 ·exact .inl (by rw[<-e];exact hj)
 rw[hj]at e;injection e with e;exact .inr (by omega)
end
def mf(x:Nat×Pt):List Value:=.int .i64 (x.1:Int)::jl x.2
theorem Cj(x:Pt):(jl x).length=7:=rfl
theorem pL(x:Nat×Pt):(mf x).length=8:=rfl
theorem LY(x:Pt):∀u∈jl x,u.oneCell'=true:=by
 intro u hu;simp only[jl,List.mem_cons,List.not_mem_nil,or_false]at hu;rcases hu with rfl|rfl|rfl|rfl|rfl|rfl|rfl<;>rfl
theorem Cp(x:Nat×Pt):∀u∈mf x,u.oneCell'=true:=by
 intro u hu;unfold mf at hu;rcases List.mem_cons.1 hu with rfl|h
 ·rfl
 exact LY x.2 u h
end
section
open Go.ChangeShapes Go.WideShapes Go.ChangeAt Go.RowKit Pm Go.Deep
open Go.WideMaps Go.WideElems
open Go.ChangeMaps (setBlock shut_map_nil open_string shut_string)
structure Tx(w:World)(v:Value)(l:List Bs):Prop where
 ex:∃ao cap,v=.slice ao l.length cap/\(l=[]\/∃g o,ao=some ⟨g,o,none⟩/\∀i (h:i<l.length),w.cell? ⟨g,o+i,none⟩=some (.string (B l[i])))
theorem Tx.af{w w':World}{v:Value}{l:List Bs}(h:Tx w v l)(f:Fp ab w w'):Tx w' v l:=by
 obtain⟨ao,cap,rfl,h3⟩:=h.ex;refine⟨ao,cap,rfl,?_⟩;rcases h3 with h3|⟨g,o,rfl,hc⟩
 ·exact .inl h3
 exact .inr ⟨g,o,rfl,λi hi=>f.cell (hc i hi) id⟩
theorem Tx.shape{w:World}{v:Value}{l:List Bs}(h:Tx w v l):∃ao cap,v=.slice ao l.length cap:=by
 obtain⟨ao,cap,rfl,_⟩:=h.ex;exact⟨ao,cap,rfl⟩
theorem Tx.at{w:World}{v:Value}{l:List Bs}(h:Tx w v l)(h0:0<l.length):∃g o cap,v=.slice (some ⟨g,o,none⟩) l.length cap/\∀i (h:i<l.length),w.cell? ⟨g,o+i,none⟩=some (.string (B l[i])):=by
 obtain⟨ao,cap,rfl,h3⟩:=h.ex;rcases h3 with h3|⟨g,o,rfl,hc⟩
 ·subst h3;simp at h0
 exact⟨g,o,cap,rfl,hc⟩
structure IV(w:World)(g o:Nat)(x:fD):Prop where
 c0:w.cell? ⟨g,o,none⟩=some (.int .i64 x.kind)
 c1:w.cell? ⟨g,o+1,none⟩=some (au x.path)
 c2:w.cell? ⟨g,o+2,none⟩=some (au x.data)
 c3:w.cell? ⟨g,o+3,none⟩=some (.int .i64 x.aX)
 c4:w.cell? ⟨g,o+4,none⟩=some (.int .i64 x.own)
 c5:w.cell? ⟨g,o+5,none⟩=some (.bool x.turns)
theorem IV.keep{w w':World}{g o:Nat}{n:fD}(h:IV w g o n){S:Nat->Prop}(f:Fp S w w')(hS:¬S g):IV w' g o n:=
 ⟨f.cell h.c0 hS,f.cell h.c1 hS,f.cell h.c2 hS,f.cell h.c3 hS,f.cell h.c4 hS,f.cell h.c5 hS⟩
structure ER(w:World)(v:Value)(l:List fD):Prop where
 ex:∃ao cap,v=.slice ao l.length cap/\(l=[]\/∃g o,ao=some ⟨g,o,none⟩/\∀i (h:i<l.length),IV w g (o+i*6) l[i])
theorem ER.af{w w':World}{v:Value}{l:List fD}(h:ER w v l)(f:Fp ab w w'):ER w' v l:=by
 obtain⟨ao,cap,rfl,h3⟩:=h.ex;refine⟨ao,cap,rfl,?_⟩;rcases h3 with h3|⟨g,o,rfl,hc⟩
 ·exact .inl h3
 exact .inr ⟨g,o,rfl,λi hi=>(hc i hi).keep f id⟩
theorem ER.shape{w:World}{v:Value}{l:List fD}(h:ER w v l):∃ao cap,v=.slice ao l.length cap:=by
 obtain⟨ao,cap,rfl,_⟩:=h.ex;exact⟨ao,cap,rfl⟩
theorem ER.at{w:World}{v:Value}{l:List fD}(h:ER w v l)(h0:0<l.length):∃g o cap,v=.slice (some ⟨g,o,none⟩) l.length cap/\∀i (h:i<l.length),IV w g (o+i*6) l[i]:=by
 obtain⟨ao,cap,rfl,h3⟩:=h.ex;rcases h3 with h3|⟨g,o,rfl,hc⟩
 ·subst h3;simp at h0
 exact⟨g,o,cap,rfl,hc⟩
end
section
namespace Pm
open Go.Proofs.Tryz
def sn(l:List fD):Bool:=decide (1<=l.length/\l.length<=8) && l.all may
def aZ:Nat->List fD->List (Nat×Pt)
 |_,[]=>[]
 |i,o::l=>(partsOf o).map (λp=>(i,p))++aZ (i+1) l
def fL(l:List fD):List (Nat×Pt):=if sn l=true then aZ 0 l else []
theorem Ad(i:Nat)(a b:List fD):aZ i (a++b)=aZ i a++aZ (i+a.length) b:=by
 induction a generalizing i with
 |nil=>rfl
 |cons o a ih=>simp only[List.cons_append,aZ,ih,List.append_assoc,List.length_cons];rw[show i+1+a.length=i+(a.length+1) from by omega]
theorem GJ(l:List fD):sn l=true↔(1<=l.length/\l.length<=8)/\∀o∈l,may o=true:=by
 unfold sn;rw[Bool.and_eq_true,decide_eq_true_eq,List.all_eq_true]
theorem take_one{l:List fD}{k:Nat}(hk:k<l.length):l.take (k+1)=l.take k++[l[k]]:=by rw[List.take_succ_eq_append_getElem hk]
end Pm
end
end Go.Proofs.YtgafcelloiagmaaGreatDoor
