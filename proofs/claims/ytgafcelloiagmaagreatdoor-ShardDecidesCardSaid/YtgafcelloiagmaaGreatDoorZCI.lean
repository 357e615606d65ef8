/- A text of this proof. -/
import Derived.Laws.AppendOwnNone
import Derived.Test.YtgafcelloiagmaaGreatDoorZCF
import Derived.Test.YtgafcelloiagmaaGreatDoorZCG
set_option maxHeartbeats 16000000
set_option linter.unusedSimpArgs false
set_option linter.unusedVariables false
set_option maxRecDepth 20000
namespace Go.Proofs.YtgafcelloiagmaaGreatDoor
open Go.Proofs.Tryz
section
open Go.RowKit Pm
def Kp(P:World->Prop)(W:World):Prop:=∀W',Fp ab W W'->P W'
theorem Kp.later{P:World->Prop}{W W':World}(h:Kp P W)(f:Fp ab W W'):Kp P W':=λW2 g=>h W2 (f.then g)
theorem Kp.now{P:World->Prop}{W:World}(h:Kp P W):P W:=h W (Fp.refl _ _)
theorem Kp.and{P Q:World->Prop}{W:World}(h:Kp P W)(k:Kp Q W):Kp (λW'=>P W'/\Q W') W:=λW' f=>⟨h W' f,k W' f⟩
theorem Kp.fp{w W:World}(h:Fp ab w W):Kp (λW'=>Fp ab w W') W:=λW' f=>h.then f
theorem Kp.row{W:World}{b:Nat}{o:Obj}(h:W.heap[b]?=some o):Kp (λW'=>W'.heap[b]?=some o) W:=λW' f=>f.heap h id
theorem Kp.ns{W:World}{v:Value}{l:List Nd}(h:Ns W v l):Kp (λW'=>Ns W' v l) W:=λW' f=>h.af f
theorem Kp.nd{W:World}{g o:Nat}{x:Nd}(h:dM W g o x):Kp (λW'=>dM W' g o x) W:=λW' f=>h.keep f id
theorem Kp.yV{W:World}(h:jH W):Kp jH W:=λW' f=>h.af f
theorem aa(W:World)(o:Obj):Fp ab W (W.alloc o):=(Fp.refl ab W).alloc o
end
section
open Go.RowKit
abbrev nS:Value:=.slice none 0 0
theorem zA{α:Type _}{xs:List α}{i:Nat}:xs.toArray[i]?=xs[i]?:=List.getElem?_toArray
theorem zB{α:Type _}{a:α}{l:List α}:(a::l)[0]?=some a:=rfl
theorem zC{α:Type _}{a:α}{l:List α}{i:Nat}:(a::l)[i+1]?=l[i]?:=rfl
theorem zP(a:Act)(i:Tmp)(v:Value):a.put (some i) v={ a with tmps:=a.tmps.setIfInBounds i v }:=rfl
theorem zN(a:Act)(v:Value):a.put none v=a:=rfl
theorem zS{α:Type _}{l:List α}{i:Nat}{a:α}:l.toArray.setIfInBounds i a=(l.set i a).toArray:=by simp
theorem zT{α:Type _}{b a:α}{l:List α}:(b::l).set 0 a=a::l:=rfl
theorem zU{α:Type _}{b a:α}{l:List α}{i:Nat}:(b::l).set (i+1) a=b::l.set i a:=rfl
theorem zz:(∀(a:Act) (i:Tmp) (v:Value),a.put (some i) v={ a with tmps:=a.tmps.setIfInBounds i v })/\(∀(a:Act) (v:Value),a.put none v=a)/\(∀{α:Type} {l:List α} {i:Nat} {a:α},l.toArray.setIfInBounds i a=(l.set i a).toArray)/\(∀{α:Type} {b a:α} {l:List α},(b::l).set 0 a=a::l)/\(∀{α:Type} {b a:α} {l:List α} {i:Nat},(b::l).set (i+1) a=b::l.set i a):=
 ⟨zP,zN,zS,zT,zU⟩
theorem zI{p:Prop}(h:p):Hid p:=Lib.hid h
theorem yI{a b:Prop}(h:a)(g:b):a/\b:=And.intro h g
section
variable {P : Program} {ops : Array Oper} {Q : Exit → Act → World → Prop} {md : Region.Mode} {S : World → Prop}
theorem b5{w:World}{b:Nat}{T:TypeId}{c0 c1 c2 c3 c4:Value}(h:w.heap[b]?=some (.cells #[c0,c1,c2,c3,c4] T (0,0))):
  w.cell? ⟨b,0,none⟩=some c0/\w.cell? ⟨b,1,none⟩=some c1/\w.cell? ⟨b,2,none⟩=some c2/\w.cell? ⟨b,3,none⟩=some c3/\w.cell? ⟨b,4,none⟩=some c4:=
 ⟨by rw[cell_of_row _ _ _ _ _ _ h];rfl,by rw[cell_of_row _ _ _ _ _ _ h];rfl,by rw[cell_of_row _ _ _ _ _ _ h];rfl,by rw[cell_of_row _ _ _ _ _ _ h];rfl,by rw[cell_of_row _ _ _ _ _ _ h];rfl⟩
theorem tk(i:Nat){oi:Oper}{v:Value}{fuel:Nat}{listed:Array Bool}{a a':Act}{w:World}(hS:S w)(k:wpAnyH P md ops Q S fuel (listed.setIfInBounds i true) a' w)(hi:ops[i]?=some oi:=by simp only[zA,zB,zC]<;>exact rfl)
  (y:∀w,S w->(execOp a.eval oi).run P w=.ok (.value v) w:=by intro w;(try dsimp only);(try simp only[and_imp]);intros;go_simp;try with_reducible rfl)
  (ha:a.put oi.dst v=a':=by simp only[zP,zN,zS,zT,zU]<;>exact rfl)
  (hs:Region.noSelect ops=true:=by kernel_rfl) (hf:Region.free md ops listed i=true:=by kernel_rfl) (hr:(Region.ready md ops listed).contains i=true:=by kernel_rfl)
  (hq:∀c a w,Q (.panic c) (a.put oi.dst v) w->Q (.panic c) a w:=by exact λ_ _ _ h=>h) (hw:Region.wanted oi (yielded ops a.tmps)=true:=by rfl):
  wpAnyH P md ops Q S (fuel+1) listed a w:=by subst ha;exact wpAnyH_take hi hs hf hr hq (.inl ⟨hw,y⟩) hS k
theorem sk(i:Nat){oi:Oper}{fuel:Nat}{listed:Array Bool}{a a':Act}{w:World}(hS:S w)
  (k:wpAnyH P md ops Q S fuel (listed.setIfInBounds i true) a' w) (hi:ops[i]?=some oi:=by simp only[zA,zB,zC]<;>exact rfl)
  (ha:a.put oi.dst undef=a':=by simp only[zP,zN,zS,zT,zU]<;>exact rfl)
  (hs:Region.noSelect ops=true:=by kernel_rfl) (hf:Region.free md ops listed i=true:=by kernel_rfl) (hr:(Region.ready md ops listed).contains i=true:=by kernel_rfl)
  (hq:∀c a w,Q (.panic c) (a.put oi.dst undef) w->Q (.panic c) a w:=by exact λ_ _ _ h=>h) (hw:Region.wanted oi (yielded ops a.tmps)=false:=by rfl):
  wpAnyH P md ops Q S (fuel+1) listed a w:=by subst ha;exact wpAnyH_take hi hs hf hr hq (.inr ⟨hw,rfl⟩) hS k
theorem rY(i:Nat){o:Oper}{fuel:Nat}{listed:Array Bool}{a:Act}{w:World}
  (h:∀K':Act->World->Prop,Shut (∀a w,S w->(S w->wpAnyH P md ops Q S fuel (listed.setIfInBounds i true) a w)->K' a w)->if Region.wanted o (yielded ops a.tmps)=true then Oper.wp P o a w K' Q else K' (a.put o.dst undef) w)
  (ho:ops[i]?=some o:=by simp only[zA,zB,zC]<;>exact rfl) (hr:Region.ready md ops listed=[i]:=by kernel_rfl):wpAnyH P md ops Q S (fuel+1) listed a w:=wpAnyH_ready hr (by simp) (AllReadyH.cons ho h AllReadyH.nil)
theorem yD{fuel:Nat}{listed:Array Bool}{a:Act}{w:World}(h:Q .normal a w)(hd:Region.ready md ops listed=[]:=by kernel_rfl):wpAnyH P md ops Q S fuel listed a w:=wpAnyH_done hd h fuel
end
end
section
open Go.RowKit Pm
theorem UN(o:fD)(w:World)(hp:(split o.path).isSome=true)(hl:o.path.length<=1000000)(hk:o.kind=1):
  Calls prog 116 #[pK o] w λe w'=>e=.returned (.bool (may o))/\Fp ab w w':=by
 obtain⟨k,p,d,v,ow,t⟩:=o;obtain rfl:k=1:=hk;unfold pK au;have hr:=λw=>cE p w (cH hl (by omega))
 obtain⟨m,hm⟩:∃m,may ⟨1,p,d,v,ow,t⟩=m:=⟨_,rfl⟩;rw[hm];rw[show(split p).isSome=true from hp]at hr;obtain⟨bv,h1⟩:∃r,decide ((-1:Int)<=v/\v<=281474976710656)=r:=⟨_,rfl⟩;obtain⟨bo,h2⟩:∃r,decide ((0:Int)<=ow/\ow<=1099511627776)=r:=⟨_,rfl⟩;obtain⟨br,h3⟩:∃r,(p == [47])=r:=⟨_,rfl⟩;obtain⟨bl,h4⟩:∃r,decide (d.length<=256)=r:=⟨_,rfl⟩;obtain⟨bz,h5⟩:∃r,(ow == 0)=r:=⟨_,rfl⟩;have HV:=zI (λw=>cL v (-1) 281474976710656 w bv h1)
 have HO:=zI (λw=>cL ow 0 1099511627776 w bo h2)
 have HM:=zI hm;have HR:=zI hr;have tR:=zI gN;have rR:=zI (λw=>heap_alloc_new w (.cells #[.int .i64 1,.string (B p),.string (B d),.int .i64 v,.int .i64 ow,.bool t] Ac))
 have HQ:=zI (yI hp (yI h1 (yI h2 (yI h3 (yI h4 h5)))));have q4:(((d.length:Int)<=256)=(bl=true)):=by rw[<-h4];simp;omega
 have q5:((d.length<=256)=(bl=true)):=by rw[<-h4];simp
 clear hm hr h1 h2 hp hl h5 h4;have qv:=AP;go_enter func116,ntmps116
 go_wp2_with fail
 refine(HR _).mono ?_;rintro e w1⟨rfl,g1⟩;have bO:=(Fp.cB g1).heap (rR w) id;have ef:=zI (((Fp.refl ab w).alloc _).then g1.fp);have iW:=zI bO;clear g1 bO;go_wp2_with fail
 refine wp_region_held_drew (S:=(λw'=>w'.cell? ⟨w.heap.size,0,none⟩=some ((.int .i64 1))/\w'.cell? ⟨w.heap.size,1,none⟩=some (.string (B p))/\w'.cell? ⟨w.heap.size,2,none⟩=some (.string (B d))/\w'.cell? ⟨w.heap.size,3,none⟩=some (.int .i64 v)/\w'.cell? ⟨w.heap.size,4,none⟩=some (.int .i64 ow)/\w'.cell? ⟨w.heap.size,5,none⟩=some (.bool t))) (by kernel_rfl) ?_ (λhH=>?_)
 ·exact iv ((Fp.refl ab w1).drew.heap iW id)
 refine tk 1 hH ?_;refine tk 2 hH ?_;refine rY 0 λK hK=>?_
 go_simp;go_at_call 166
 refine(tR _).mono ?_;rintro e w2⟨rfl,f2⟩;have bW:=f2.heap (k:=w.heap.size) ((Fp.refl ab w1).drew.heap iW id) id;have jU:=zI bW;have cI:=zI (iv bW);have iD:=zI (ef.then (((Fp.refl ab w1).drew).then f2));clear f2 bW;go_wp2_with fail
 refine hK _ _ cI (λhH=>?_)
 clear hK K;try simp only[zz]
 refine tk 3 hH ?_;refine tk 4 hH ?_;refine yD ?_;have s0:=cI.1;have s1:=cI.2.1;have s2:=cI.2.2.1;have s3:=cI.2.2.2.1;have s4:=cI.2.2.2.2.1;have s5:=cI.2.2.2.2.2;have fz:∀j,w2.frozen? ⟨w.heap.size,j,none⟩=false:=λj=>by have:=jU.out;simp[World.frozen?,this]
 have z0:=fz 0;have z1:=fz 1;have z2:=fz 2;have z3:=fz 3;have z4:=fz 4;have z5:=fz 5;clear fz;have heq:=qZ;clear qv;cases br<;>cases bl<;>cases bo
 all_goals simp only[Bool.false_eq_true,eq_self]at q4 q5
 all_goals
  go_wp2_with (first
   |(go_at_call_of 167 v;refine(HV _).mono ?_;rintro e w1⟨rfl,rfl⟩)
   |(go_at_call_of 167 ow;refine(HO _).mono ?_;rintro e w1⟨rfl,rfl⟩))
  all_goals
   go_ret;refine⟨aB ?_,?_⟩
   ·rw[<-HM.out];unfold may;obtain⟨g0,g1,g2,g3,g4,g5⟩:=HQ.out;clear HV HO HM HR tR rR ef iW jU cI iD;by_cases hd:d=[]<;>by_cases hv0:v=0<;>by_cases ho0:ow=0<;>cases t<;>simp_all<;>omega
   first|exact iD.out|(repeat (first|exact iD.out|refine Fp.setCell ?_ (.inr (Nat.le_refl _)) _))
theorem UO(o:fD)(w:World)(hp:(split o.path).isSome=true)(hl:o.path.length<=1000000)(hk:o.kind=2):
  Calls prog 116 #[pK o] w λe w'=>e=.returned (.bool (may o))/\Fp ab w w':=by
 obtain⟨k,p,d,v,ow,t⟩:=o;obtain rfl:k=2:=hk;unfold pK au;have hr:=λw=>cE p w (cH hl (by omega))
 obtain⟨m,hm⟩:∃m,may ⟨2,p,d,v,ow,t⟩=m:=⟨_,rfl⟩;rw[hm];rw[show(split p).isSome=true from hp]at hr;obtain⟨bv,h1⟩:∃r,decide ((-1:Int)<=v/\v<=281474976710656)=r:=⟨_,rfl⟩;obtain⟨bo,h2⟩:∃r,decide ((0:Int)<=ow/\ow<=1099511627776)=r:=⟨_,rfl⟩;obtain⟨br,h3⟩:∃r,(p == [47])=r:=⟨_,rfl⟩;obtain⟨bl,h4⟩:∃r,decide (d.length<=256)=r:=⟨_,rfl⟩;obtain⟨bz,h5⟩:∃r,(ow == 0)=r:=⟨_,rfl⟩;have HV:=zI (λw=>cL v (-1) 281474976710656 w bv h1)
 have HO:=zI (λw=>cL ow 0 1099511627776 w bo h2)
 have HM:=zI hm;have HR:=zI hr;have tR:=zI gN;have rR:=zI (λw=>heap_alloc_new w (.cells #[.int .i64 2,.string (B p),.string (B d),.int .i64 v,.int .i64 ow,.bool t] Ac))
 have HQ:=zI (yI hp (yI h1 (yI h2 (yI h3 (yI h4 h5)))));clear hm hr h1 h2 hp hl h5 h4;have qv:=AQ;go_enter func116,ntmps116
 go_wp2_with fail
 refine(HR _).mono ?_;rintro e w1⟨rfl,g1⟩;have bO:=(Fp.cB g1).heap (rR w) id;have ef:=zI (((Fp.refl ab w).alloc _).then g1.fp);have iW:=zI bO;clear g1 bO;go_wp2_with fail
 refine wp_region_held_drew (S:=(λw'=>w'.cell? ⟨w.heap.size,0,none⟩=some ((.int .i64 2))/\w'.cell? ⟨w.heap.size,1,none⟩=some (.string (B p))/\w'.cell? ⟨w.heap.size,2,none⟩=some (.string (B d))/\w'.cell? ⟨w.heap.size,3,none⟩=some (.int .i64 v)/\w'.cell? ⟨w.heap.size,4,none⟩=some (.int .i64 ow)/\w'.cell? ⟨w.heap.size,5,none⟩=some (.bool t))) (by kernel_rfl) ?_ (λhH=>?_)
 ·exact iv ((Fp.refl ab w1).drew.heap iW id)
 refine tk 1 hH ?_;refine tk 2 hH ?_;refine rY 0 λK hK=>?_
 go_simp;go_at_call 166
 refine(tR _).mono ?_;rintro e w2⟨rfl,f2⟩;have bW:=f2.heap (k:=w.heap.size) ((Fp.refl ab w1).drew.heap iW id) id;have jU:=zI bW;have cI:=zI (iv bW);have iD:=zI (ef.then (((Fp.refl ab w1).drew).then f2));clear f2 bW;go_wp2_with fail
 refine hK _ _ cI (λhH=>?_)
 clear hK K;try simp only[zz]
 refine tk 3 hH ?_;refine tk 4 hH ?_;refine yD ?_;have s0:=cI.1;have s1:=cI.2.1;have s2:=cI.2.2.1;have s3:=cI.2.2.2.1;have s4:=cI.2.2.2.2.1;have s5:=cI.2.2.2.2.2;have fz:∀j,w2.frozen? ⟨w.heap.size,j,none⟩=false:=λj=>by have:=jU.out;simp[World.frozen?,this]
 have z0:=fz 0;have z1:=fz 1;have z2:=fz 2;have z3:=fz 3;have z4:=fz 4;have z5:=fz 5;clear fz;have heq:=qZ;clear qv;cases br<;>cases bv
 all_goals
  go_wp2_with (first
   |(go_at_call_of 167 v;refine(HV _).mono ?_;rintro e w1⟨rfl,rfl⟩)
   |(go_at_call_of 167 ow;refine(HO _).mono ?_;rintro e w1⟨rfl,rfl⟩))
  all_goals
   go_ret;refine⟨aB ?_,?_⟩
   ·rw[<-HM.out];unfold may;obtain⟨g0,g1,g2,g3,g4,g5⟩:=HQ.out;clear HV HO HM HR tR rR ef iW jU cI iD;by_cases hd:d=[]<;>by_cases hv0:v=0<;>by_cases ho0:ow=0<;>cases t<;>simp_all<;>omega
   first|exact iD.out|(repeat (first|exact iD.out|refine Fp.setCell ?_ (.inr (Nat.le_refl _)) _))
theorem UP(o:fD)(w:World)(hp:(split o.path).isSome=true)(hl:o.path.length<=1000000)(hk:o.kind=3):
  Calls prog 116 #[pK o] w λe w'=>e=.returned (.bool (may o))/\Fp ab w w':=by
 obtain⟨k,p,d,v,ow,t⟩:=o;obtain rfl:k=3:=hk;unfold pK au;have hr:=λw=>cE p w (cH hl (by omega))
 obtain⟨m,hm⟩:∃m,may ⟨3,p,d,v,ow,t⟩=m:=⟨_,rfl⟩;rw[hm];rw[show(split p).isSome=true from hp]at hr;obtain⟨bv,h1⟩:∃r,decide ((-1:Int)<=v/\v<=281474976710656)=r:=⟨_,rfl⟩;obtain⟨bo,h2⟩:∃r,decide ((0:Int)<=ow/\ow<=1099511627776)=r:=⟨_,rfl⟩;obtain⟨br,h3⟩:∃r,(p == [47])=r:=⟨_,rfl⟩;obtain⟨bl,h4⟩:∃r,decide (d.length<=256)=r:=⟨_,rfl⟩;obtain⟨bz,h5⟩:∃r,(ow == 0)=r:=⟨_,rfl⟩;have HV:=zI (λw=>cL v (-1) 281474976710656 w bv h1)
 have HO:=zI (λw=>cL ow 0 1099511627776 w bo h2)
 have HM:=zI hm;have HR:=zI hr;have tR:=zI gN;have rR:=zI (λw=>heap_alloc_new w (.cells #[.int .i64 3,.string (B p),.string (B d),.int .i64 v,.int .i64 ow,.bool t] Ac))
 have HQ:=zI (yI hp (yI h1 (yI h2 (yI h3 (yI h4 h5)))));have q4:(((d.length:Int)<=256)=(bl=true)):=by rw[<-h4];simp;omega
 have q5:((d.length<=256)=(bl=true)):=by rw[<-h4];simp
 clear hm hr h1 h2 hp hl h3 h5 h4;have qv:=AR;go_enter func116,ntmps116
 go_wp2_with fail
 refine(HR _).mono ?_;rintro e w1⟨rfl,g1⟩;have bO:=(Fp.cB g1).heap (rR w) id;have ef:=zI (((Fp.refl ab w).alloc _).then g1.fp);have iW:=zI bO;clear g1 bO;go_wp2_with fail
 refine wp_region_held_drew (S:=(λw'=>w'.cell? ⟨w.heap.size,0,none⟩=some ((.int .i64 3))/\w'.cell? ⟨w.heap.size,1,none⟩=some (.string (B p))/\w'.cell? ⟨w.heap.size,2,none⟩=some (.string (B d))/\w'.cell? ⟨w.heap.size,3,none⟩=some (.int .i64 v)/\w'.cell? ⟨w.heap.size,4,none⟩=some (.int .i64 ow)/\w'.cell? ⟨w.heap.size,5,none⟩=some (.bool t))) (by kernel_rfl) ?_ (λhH=>?_)
 ·exact iv ((Fp.refl ab w1).drew.heap iW id)
 refine tk 1 hH ?_;refine tk 2 hH ?_;refine rY 0 λK hK=>?_
 go_simp;go_at_call 166
 refine(tR _).mono ?_;rintro e w2⟨rfl,f2⟩;have bW:=f2.heap (k:=w.heap.size) ((Fp.refl ab w1).drew.heap iW id) id;have jU:=zI bW;have cI:=zI (iv bW);have iD:=zI (ef.then (((Fp.refl ab w1).drew).then f2));clear f2 bW;go_wp2_with fail
 refine hK _ _ cI (λhH=>?_)
 clear hK K;try simp only[zz]
 refine tk 3 hH ?_;refine tk 4 hH ?_;refine yD ?_;have s0:=cI.1;have s1:=cI.2.1;have s2:=cI.2.2.1;have s3:=cI.2.2.2.1;have s4:=cI.2.2.2.2.1;have s5:=cI.2.2.2.2.2;have fz:∀j,w2.frozen? ⟨w.heap.size,j,none⟩=false:=λj=>by have:=jU.out;simp[World.frozen?,this]
 have z0:=fz 0;have z1:=fz 1;have z2:=fz 2;have z3:=fz 3;have z4:=fz 4;have z5:=fz 5;clear fz;have heq:=qZ;clear qv;cases bl<;>cases bv
 all_goals simp only[Bool.false_eq_true,eq_self]at q4 q5
 all_goals
  go_wp2_with (first
   |(go_at_call_of 167 v;refine(HV _).mono ?_;rintro e w1⟨rfl,rfl⟩)
   |(go_at_call_of 167 ow;refine(HO _).mono ?_;rintro e w1⟨rfl,rfl⟩))
  all_goals
   go_ret;refine⟨aB ?_,?_⟩
   ·rw[<-HM.out];unfold may;obtain⟨g0,g1,g2,g3,g4,g5⟩:=HQ.out;clear HV HO HM HR tR rR ef iW jU cI iD;by_cases hd:d=[]<;>by_cases hv0:v=0<;>by_cases ho0:ow=0<;>cases t<;>simp_all<;>omega
   first|exact iD.out|(repeat (first|exact iD.out|refine Fp.setCell ?_ (.inr (Nat.le_refl _)) _))
theorem UQ(o:fD)(w:World)(hp:(split o.path).isSome=true)(hl:o.path.length<=1000000)(hk:o.kind=4):
  Calls prog 116 #[pK o] w λe w'=>e=.returned (.bool (may o))/\Fp ab w w':=by
 obtain⟨k,p,d,v,ow,t⟩:=o;obtain rfl:k=4:=hk;unfold pK au;have hr:=λw=>cE p w (cH hl (by omega))
 obtain⟨m,hm⟩:∃m,may ⟨4,p,d,v,ow,t⟩=m:=⟨_,rfl⟩;rw[hm];rw[show(split p).isSome=true from hp]at hr;obtain⟨bv,h1⟩:∃r,decide ((-1:Int)<=v/\v<=281474976710656)=r:=⟨_,rfl⟩;obtain⟨bo,h2⟩:∃r,decide ((0:Int)<=ow/\ow<=1099511627776)=r:=⟨_,rfl⟩;obtain⟨br,h3⟩:∃r,(p == [47])=r:=⟨_,rfl⟩;obtain⟨bl,h4⟩:∃r,decide (d.length<=256)=r:=⟨_,rfl⟩;obtain⟨bz,h5⟩:∃r,(ow == 0)=r:=⟨_,rfl⟩;have HV:=zI (λw=>cL v (-1) 281474976710656 w bv h1)
 have HO:=zI (λw=>cL ow 0 1099511627776 w bo h2)
 have HM:=zI hm;have HR:=zI hr;have tR:=zI gN;have rR:=zI (λw=>heap_alloc_new w (.cells #[.int .i64 4,.string (B p),.string (B d),.int .i64 v,.int .i64 ow,.bool t] Ac))
 have HQ:=zI (yI hp (yI h1 (yI h2 (yI h3 (yI h4 h5)))));clear hm hr h1 h2 hp hl h3 h5 h4;have qv:=AU;go_enter func116,ntmps116
 go_wp2_with fail
 refine(HR _).mono ?_;rintro e w1⟨rfl,g1⟩;have bO:=(Fp.cB g1).heap (rR w) id;have ef:=zI (((Fp.refl ab w).alloc _).then g1.fp);have iW:=zI bO;clear g1 bO;go_wp2_with fail
 refine wp_region_held_drew (S:=(λw'=>w'.cell? ⟨w.heap.size,0,none⟩=some ((.int .i64 4))/\w'.cell? ⟨w.heap.size,1,none⟩=some (.string (B p))/\w'.cell? ⟨w.heap.size,2,none⟩=some (.string (B d))/\w'.cell? ⟨w.heap.size,3,none⟩=some (.int .i64 v)/\w'.cell? ⟨w.heap.size,4,none⟩=some (.int .i64 ow)/\w'.cell? ⟨w.heap.size,5,none⟩=some (.bool t))) (by kernel_rfl) ?_ (λhH=>?_)
 ·exact iv ((Fp.refl ab w1).drew.heap iW id)
 refine tk 1 hH ?_;refine tk 2 hH ?_;refine rY 0 λK hK=>?_
 go_simp;go_at_call 166
 refine(tR _).mono ?_;rintro e w2⟨rfl,f2⟩;have bW:=f2.heap (k:=w.heap.size) ((Fp.refl ab w1).drew.heap iW id) id;have jU:=zI bW;have cI:=zI (iv bW);have iD:=zI (ef.then (((Fp.refl ab w1).drew).then f2));clear f2 bW;go_wp2_with fail
 refine hK _ _ cI (λhH=>?_)
 clear hK K;try simp only[zz]
 refine tk 3 hH ?_;refine tk 4 hH ?_;refine yD ?_;have s0:=cI.1;have s1:=cI.2.1;have s2:=cI.2.2.1;have s3:=cI.2.2.2.1;have s4:=cI.2.2.2.2.1;have s5:=cI.2.2.2.2.2;have fz:∀j,w2.frozen? ⟨w.heap.size,j,none⟩=false:=λj=>by have:=jU.out;simp[World.frozen?,this]
 have z0:=fz 0;have z1:=fz 1;have z2:=fz 2;have z3:=fz 3;have z4:=fz 4;have z5:=fz 5;clear fz;have heq:=qZ;clear qv;cases bv
 all_goals
  go_wp2_with (first
   |(go_at_call_of 167 v;refine(HV _).mono ?_;rintro e w1⟨rfl,rfl⟩)
   |(go_at_call_of 167 ow;refine(HO _).mono ?_;rintro e w1⟨rfl,rfl⟩))
  all_goals
   go_ret;refine⟨aB ?_,?_⟩
   ·rw[<-HM.out];unfold may;obtain⟨g0,g1,g2,g3,g4,g5⟩:=HQ.out;clear HV HO HM HR tR rR ef iW jU cI iD;by_cases hd:d=[]<;>by_cases hv0:v=0<;>by_cases ho0:ow=0<;>cases t<;>simp_all<;>omega
   first|exact iD.out|(repeat (first|exact iD.out|refine Fp.setCell ?_ (.inr (Nat.le_refl _)) _))
theorem UR(o:fD)(w:World)(hp:(split o.path).isSome=true)(hl:o.path.length<=1000000)(hk:o.kind=5):
  Calls prog 116 #[pK o] w λe w'=>e=.returned (.bool (may o))/\Fp ab w w':=by
 obtain⟨k,p,d,v,ow,t⟩:=o;obtain rfl:k=5:=hk;unfold pK au;have hr:=λw=>cE p w (cH hl (by omega))
 obtain⟨m,hm⟩:∃m,may ⟨5,p,d,v,ow,t⟩=m:=⟨_,rfl⟩;rw[hm];rw[show(split p).isSome=true from hp]at hr;obtain⟨bv,h1⟩:∃r,decide ((-1:Int)<=v/\v<=281474976710656)=r:=⟨_,rfl⟩;obtain⟨bo,h2⟩:∃r,decide ((0:Int)<=ow/\ow<=1099511627776)=r:=⟨_,rfl⟩;obtain⟨br,h3⟩:∃r,(p == [47])=r:=⟨_,rfl⟩;obtain⟨bl,h4⟩:∃r,decide (d.length<=256)=r:=⟨_,rfl⟩;obtain⟨bz,h5⟩:∃r,(ow == 0)=r:=⟨_,rfl⟩;have HV:=zI (λw=>cL v (-1) 281474976710656 w bv h1)
 have HO:=zI (λw=>cL ow 0 1099511627776 w bo h2)
 have HM:=zI hm;have HR:=zI hr;have tR:=zI gN;have rR:=zI (λw=>heap_alloc_new w (.cells #[.int .i64 5,.string (B p),.string (B d),.int .i64 v,.int .i64 ow,.bool t] Ac))
 have HQ:=zI (yI hp (yI h1 (yI h2 (yI h3 (yI h4 h5)))));clear hm hr h1 h2 hp hl h3 h5 h4;have qv:=AV;go_enter func116,ntmps116
 go_wp2_with fail
 refine(HR _).mono ?_;rintro e w1⟨rfl,g1⟩;have bO:=(Fp.cB g1).heap (rR w) id;have ef:=zI (((Fp.refl ab w).alloc _).then g1.fp);have iW:=zI bO;clear g1 bO;go_wp2_with fail
 refine wp_region_held_drew (S:=(λw'=>w'.cell? ⟨w.heap.size,0,none⟩=some ((.int .i64 5))/\w'.cell? ⟨w.heap.size,1,none⟩=some (.string (B p))/\w'.cell? ⟨w.heap.size,2,none⟩=some (.string (B d))/\w'.cell? ⟨w.heap.size,3,none⟩=some (.int .i64 v)/\w'.cell? ⟨w.heap.size,4,none⟩=some (.int .i64 ow)/\w'.cell? ⟨w.heap.size,5,none⟩=some (.bool t))) (by kernel_rfl) ?_ (λhH=>?_)
 ·exact iv ((Fp.refl ab w1).drew.heap iW id)
 refine tk 1 hH ?_;refine tk 2 hH ?_;refine rY 0 λK hK=>?_
 go_simp;go_at_call 166
 refine(tR _).mono ?_;rintro e w2⟨rfl,f2⟩;have bW:=f2.heap (k:=w.heap.size) ((Fp.refl ab w1).drew.heap iW id) id;have jU:=zI bW;have cI:=zI (iv bW);have iD:=zI (ef.then (((Fp.refl ab w1).drew).then f2));clear f2 bW;go_wp2_with fail
 refine hK _ _ cI (λhH=>?_)
 clear hK K;try simp only[zz]
 refine tk 3 hH ?_;refine tk 4 hH ?_;refine yD ?_;have s0:=cI.1;have s1:=cI.2.1;have s2:=cI.2.2.1;have s3:=cI.2.2.2.1;have s4:=cI.2.2.2.2.1;have s5:=cI.2.2.2.2.2;have fz:∀j,w2.frozen? ⟨w.heap.size,j,none⟩=false:=λj=>by have:=jU.out;simp[World.frozen?,this]
 have z0:=fz 0;have z1:=fz 1;have z2:=fz 2;have z3:=fz 3;have z4:=fz 4;have z5:=fz 5;clear fz;have heq:=qZ;clear qv
 go_wp2_with (first
  |(go_at_call_of 167 v;refine(HV _).mono ?_;rintro e w1⟨rfl,rfl⟩)
  |(go_at_call_of 167 ow;refine(HO _).mono ?_;rintro e w1⟨rfl,rfl⟩))
 all_goals
  go_ret;refine⟨aB ?_,?_⟩
  ·rw[<-HM.out];unfold may;obtain⟨g0,g1,g2,g3,g4,g5⟩:=HQ.out;clear HV HO HM HR tR rR ef iW jU cI iD;by_cases hd:d=[]<;>by_cases hv0:v=0<;>by_cases ho0:ow=0<;>cases t<;>simp_all<;>omega
  first|exact iD.out|(repeat (first|exact iD.out|refine Fp.setCell ?_ (.inr (Nat.le_refl _)) _))
theorem US(o:fD)(w:World)(hp:(split o.path).isSome=true)(hl:o.path.length<=1000000)(hk:o.kind=6):
  Calls prog 116 #[pK o] w λe w'=>e=.returned (.bool (may o))/\Fp ab w w':=by
 obtain⟨k,p,d,v,ow,t⟩:=o;obtain rfl:k=6:=hk;unfold pK au;have hr:=λw=>cE p w (cH hl (by omega))
 obtain⟨m,hm⟩:∃m,may ⟨6,p,d,v,ow,t⟩=m:=⟨_,rfl⟩;rw[hm];rw[show(split p).isSome=true from hp]at hr;obtain⟨bv,h1⟩:∃r,decide ((-1:Int)<=v/\v<=281474976710656)=r:=⟨_,rfl⟩;obtain⟨bo,h2⟩:∃r,decide ((0:Int)<=ow/\ow<=1099511627776)=r:=⟨_,rfl⟩;obtain⟨br,h3⟩:∃r,(p == [47])=r:=⟨_,rfl⟩;obtain⟨bl,h4⟩:∃r,decide (d.length<=256)=r:=⟨_,rfl⟩;obtain⟨bz,h5⟩:∃r,(ow == 0)=r:=⟨_,rfl⟩;have HV:=zI (λw=>cL v (-1) 281474976710656 w bv h1)
 have HO:=zI (λw=>cL ow 0 1099511627776 w bo h2)
 have HM:=zI hm;have HR:=zI hr;have tR:=zI gN;have rR:=zI (λw=>heap_alloc_new w (.cells #[.int .i64 6,.string (B p),.string (B d),.int .i64 v,.int .i64 ow,.bool t] Ac))
 have HQ:=zI (yI hp (yI h1 (yI h2 (yI h3 (yI h4 h5)))));clear hm hr h1 h2 hp hl h3 h5 h4;have qv:=AW;go_enter func116,ntmps116
 go_wp2_with fail
 refine(HR _).mono ?_;rintro e w1⟨rfl,g1⟩;have bO:=(Fp.cB g1).heap (rR w) id;have ef:=zI (((Fp.refl ab w).alloc _).then g1.fp);have iW:=zI bO;clear g1 bO;go_wp2_with fail
 refine wp_region_held_drew (S:=(λw'=>w'.cell? ⟨w.heap.size,0,none⟩=some ((.int .i64 6))/\w'.cell? ⟨w.heap.size,1,none⟩=some (.string (B p))/\w'.cell? ⟨w.heap.size,2,none⟩=some (.string (B d))/\w'.cell? ⟨w.heap.size,3,none⟩=some (.int .i64 v)/\w'.cell? ⟨w.heap.size,4,none⟩=some (.int .i64 ow)/\w'.cell? ⟨w.heap.size,5,none⟩=some (.bool t))) (by kernel_rfl) ?_ (λhH=>?_)
 ·exact iv ((Fp.refl ab w1).drew.heap iW id)
 refine tk 1 hH ?_;refine tk 2 hH ?_;refine rY 0 λK hK=>?_
 go_simp;go_at_call 166
 refine(tR _).mono ?_;rintro e w2⟨rfl,f2⟩;have bW:=f2.heap (k:=w.heap.size) ((Fp.refl ab w1).drew.heap iW id) id;have jU:=zI bW;have cI:=zI (iv bW);have iD:=zI (ef.then (((Fp.refl ab w1).drew).then f2));clear f2 bW;go_wp2_with fail
 refine hK _ _ cI (λhH=>?_)
 clear hK K;try simp only[zz]
 refine tk 3 hH ?_;refine tk 4 hH ?_;refine yD ?_;have s0:=cI.1;have s1:=cI.2.1;have s2:=cI.2.2.1;have s3:=cI.2.2.2.1;have s4:=cI.2.2.2.2.1;have s5:=cI.2.2.2.2.2;have fz:∀j,w2.frozen? ⟨w.heap.size,j,none⟩=false:=λj=>by have:=jU.out;simp[World.frozen?,this]
 have z0:=fz 0;have z1:=fz 1;have z2:=fz 2;have z3:=fz 3;have z4:=fz 4;have z5:=fz 5;clear fz;have heq:=qZ;clear qv
 go_wp2_with (first
  |(go_at_call_of 167 v;refine(HV _).mono ?_;rintro e w1⟨rfl,rfl⟩)
  |(go_at_call_of 167 ow;refine(HO _).mono ?_;rintro e w1⟨rfl,rfl⟩))
 all_goals
  go_ret;refine⟨aB ?_,?_⟩
  ·rw[<-HM.out];unfold may;obtain⟨g0,g1,g2,g3,g4,g5⟩:=HQ.out;clear HV HO HM HR tR rR ef iW jU cI iD;by_cases hd:d=[]<;>by_cases hv0:v=0<;>by_cases ho0:ow=0<;>cases t<;>simp_all<;>omega
  first|exact iD.out|(repeat (first|exact iD.out|refine Fp.setCell ?_ (.inr (Nat.le_refl _)) _))
theorem UT(o:fD)(w:World)(hp:(split o.path).isSome=true)(hl:o.path.length<=1000000)(hk:o.kind=7):
  Calls prog 116 #[pK o] w λe w'=>e=.returned (.bool (may o))/\Fp ab w w':=by
 obtain⟨k,p,d,v,ow,t⟩:=o;obtain rfl:k=7:=hk;unfold pK au;have hr:=λw=>cE p w (cH hl (by omega))
 obtain⟨m,hm⟩:∃m,may ⟨7,p,d,v,ow,t⟩=m:=⟨_,rfl⟩;rw[hm];rw[show(split p).isSome=true from hp]at hr;obtain⟨bv,h1⟩:∃r,decide ((-1:Int)<=v/\v<=281474976710656)=r:=⟨_,rfl⟩;obtain⟨bo,h2⟩:∃r,decide ((0:Int)<=ow/\ow<=1099511627776)=r:=⟨_,rfl⟩;obtain⟨br,h3⟩:∃r,(p == [47])=r:=⟨_,rfl⟩;obtain⟨bl,h4⟩:∃r,decide (d.length<=256)=r:=⟨_,rfl⟩;obtain⟨bz,h5⟩:∃r,(ow == 0)=r:=⟨_,rfl⟩;have HV:=zI (λw=>cL v (-1) 281474976710656 w bv h1)
 have HO:=zI (λw=>cL ow 0 1099511627776 w bo h2)
 have HM:=zI hm;have HR:=zI hr;have tR:=zI gN;have rR:=zI (λw=>heap_alloc_new w (.cells #[.int .i64 7,.string (B p),.string (B d),.int .i64 v,.int .i64 ow,.bool t] Ac))
 have HQ:=zI (yI hp (yI h1 (yI h2 (yI h3 (yI h4 h5)))));clear hm hr h1 h2 hp hl h3 h4;have qv:=AX;go_enter func116,ntmps116
 go_wp2_with fail
 refine(HR _).mono ?_;rintro e w1⟨rfl,g1⟩;have bO:=(Fp.cB g1).heap (rR w) id;have ef:=zI (((Fp.refl ab w).alloc _).then g1.fp);have iW:=zI bO;clear g1 bO;go_wp2_with fail
 refine wp_region_held_drew (S:=(λw'=>w'.cell? ⟨w.heap.size,0,none⟩=some ((.int .i64 7))/\w'.cell? ⟨w.heap.size,1,none⟩=some (.string (B p))/\w'.cell? ⟨w.heap.size,2,none⟩=some (.string (B d))/\w'.cell? ⟨w.heap.size,3,none⟩=some (.int .i64 v)/\w'.cell? ⟨w.heap.size,4,none⟩=some (.int .i64 ow)/\w'.cell? ⟨w.heap.size,5,none⟩=some (.bool t))) (by kernel_rfl) ?_ (λhH=>?_)
 ·exact iv ((Fp.refl ab w1).drew.heap iW id)
 refine tk 1 hH ?_;refine tk 2 hH ?_;refine rY 0 λK hK=>?_
 go_simp;go_at_call 166
 refine(tR _).mono ?_;rintro e w2⟨rfl,f2⟩;have bW:=f2.heap (k:=w.heap.size) ((Fp.refl ab w1).drew.heap iW id) id;have jU:=zI bW;have cI:=zI (iv bW);have iD:=zI (ef.then (((Fp.refl ab w1).drew).then f2));clear f2 bW;go_wp2_with fail
 refine hK _ _ cI (λhH=>?_)
 clear hK K;try simp only[zz]
 refine tk 3 hH ?_;refine tk 4 hH ?_;refine yD ?_;have s0:=cI.1;have s1:=cI.2.1;have s2:=cI.2.2.1;have s3:=cI.2.2.2.1;have s4:=cI.2.2.2.2.1;have s5:=cI.2.2.2.2.2;have fz:∀j,w2.frozen? ⟨w.heap.size,j,none⟩=false:=λj=>by have:=jU.out;simp[World.frozen?,this]
 have z0:=fz 0;have z1:=fz 1;have z2:=fz 2;have z3:=fz 3;have z4:=fz 4;have z5:=fz 5;clear fz;have heq:=qZ;clear qv;cases bo<;>cases bz
 all_goals
  go_wp2_with (first
   |(go_at_call_of 167 v;refine(HV _).mono ?_;rintro e w1⟨rfl,rfl⟩)
   |(go_at_call_of 167 ow;refine(HO _).mono ?_;rintro e w1⟨rfl,rfl⟩))
  all_goals
   go_ret;refine⟨aB ?_,?_⟩
   ·rw[<-HM.out];unfold may;obtain⟨g0,g1,g2,g3,g4,g5⟩:=HQ.out;clear HV HO HM HR tR rR ef iW jU cI iD;by_cases hd:d=[]<;>by_cases hv0:v=0<;>by_cases ho0:ow=0<;>cases t<;>simp_all<;>omega
   first|exact iD.out|(repeat (first|exact iD.out|refine Fp.setCell ?_ (.inr (Nat.le_refl _)) _))
theorem ru{o:fD}(h:¬(1<=o.kind/\o.kind<=7)):may o=false:=by
 cases hm:may o with
 |false=>rfl
 |true=>have:=xq hm;omega
theorem px{o:fD}(h:(split o.path).isSome=false):may o=false:=by
 cases hm:may o with
 |false=>rfl
 |true=>rw[tz hm]at h;cases h
theorem M0(o:fD)(w:World)(hl:o.path.length<=1000000):
  Calls prog 116 #[pK o] w λe w'=>e=.returned (.bool (may o))/\Fp ab w w':=by
 by_cases hk:1<=o.kind/\o.kind<=7
 ·cases hs:(split o.path).isSome with
  |true=>
   rcases (show o.kind=1\/o.kind=2\/o.kind=3\/o.kind=4\/o.kind=5\/o.kind=6\/o.kind=7 by omega) with k|k|k|k|k|k|k
   ·exact UN o w hs hl k
   ·exact UO o w hs hl k
   ·exact UP o w hs hl k
   ·exact UQ o w hs hl k
   ·exact UR o w hs hl k
   ·exact US o w hs hl k
   exact UT o w hs hl k
  |false=>
   rw[px hs];obtain⟨k,p,d,v,ow,t⟩:=o;unfold pK au;have hr:=λw=>cE p w (cH hl (by omega))
   rw[show(split p).isSome=false from hs]at hr;have HR:=zI hr;have q1:(k<1)=False:=eq_false (by have:=hk.1;simp at this;omega)
   have q2:((8:Int)<=k)=False:=eq_false (by have:=hk.2;simp at this;omega)
   clear hr hs hl hk;go_enter func116,ntmps116
   go_wp2_with fail
   refine(HR _).mono ?_;rintro e w1⟨rfl,g1⟩;have HF:=zI (((Fp.refl ab w).alloc (.cells #[.int .i64 k,.string (B p),.string (B d),.int .i64 v,.int .i64 ow,.bool t] Ac)).then g1.fp);clear g1;go_wp2;go_ret;exact⟨rfl,HF.out⟩
 rw[ru hk];obtain⟨k,p,d,v,ow,t⟩:=o;unfold pK au;by_cases h1:k<1
 ·have q1:(k<1)=True:=eq_true h1
  clear hk hl h1;go_enter func116,ntmps116
  go_wp2;go_ret;exact⟨rfl,(Fp.refl ab w).alloc _⟩
 have q1:(k<1)=False:=eq_false h1;have q2:((8:Int)<=k)=True:=eq_true (by have:¬(1<=k/\k<=7):=hk;omega)
 clear hk hl h1;go_enter func116,ntmps116
 go_wp2;go_ret;exact⟨rfl,(Fp.refl ab w).alloc _⟩
theorem XK(l q:Bs)(w:World)(hl:sz l)(hq:sz q):Calls prog 105 #[.string (B l),.string (B q)] w λe w'=>e=.returned (.bool (lR l q))/\Gr w w':=PW l q w hl hq
theorem ji{w:World}{b:Nat}{T:TypeId}{c0 c1 c2 c3 c4:Value}(h:w.heap[b]?=some (.cells #[c0,c1,c2,c3,c4] T (0,0))):
  w.cell? ⟨b,0,none⟩=some c0/\w.cell? ⟨b,1,none⟩=some c1/\w.cell? ⟨b,2,none⟩=some c2/\w.cell? ⟨b,3,none⟩=some c3/\w.cell? ⟨b,4,none⟩=some c4:=
 ⟨by rw[cell_of_row _ _ _ _ _ _ h];rfl,by rw[cell_of_row _ _ _ _ _ _ h];rfl,by rw[cell_of_row _ _ _ _ _ _ h];rfl,by rw[cell_of_row _ _ _ _ _ _ h];rfl,by rw[cell_of_row _ _ _ _ _ _ h];rfl⟩
theorem N4(l:Bs):(B l).toList=l:=by
 unfold B;simp[ByteArray.toList_eq]
theorem BI(n:Nd)(g:Nat)(p:Bs)(w:World)(hn:n.path.length<=1000000)(hg:w.cell? ⟨g,0,none⟩=some (.string (B p))):
  Calls prog 280 #[vO n,.pointer (some ⟨g,0,none⟩)] w λe w'=>e=.returned (.bool (parent n.path == some p))/\Fp ab w w':=by
 obtain⟨np,d,v,t,o⟩:=n;unfold vO au;have hf:∀o,Fp ab w (w.alloc o):=λo=>(Fp.refl ab w).alloc o
 have nL:=λw=>qJ np w (cH hn (by omega))
 have HF:=Lib.hid hf;have HG:=Lib.hid hg;show Calls _ _ _ _ (λe w'=>e=.returned (.bool (parent np == some p))/\_)
 cases hu:parent np with
 |none=>
  rw[hu]at nL;have HP:=Lib.hid nL;clear nL hu hf hg hn;go_enter func280,ntmps280
  go_wp2_with fail
  refine(HP _).mono ?_;rintro e w1⟨rfl,g1⟩;have F:=Lib.hid ((HF _).then g1.fp);clear g1;go_wp2;go_ret;exact⟨rfl,F.out⟩
 |some u=>?_
 rw[hu]at nL;have HP:=Lib.hid nL;have hb:(some u == some p)=(u == p):=rfl;rw[hb];clear nL hu hf hg hn hb;go_enter func280,ntmps280
 go_wp2_with fail
 refine(HP _).mono ?_;rintro e w1⟨rfl,g1⟩;have f1:=(HF _).then g1.fp;have c1:=f1.cell HG id;have F:=Lib.hid f1;clear g1 f1;go_wp2;all_goals (go_ret;exact⟨rfl,F.out⟩)
theorem LU(w:World)(g:Nat)(p:Bs)(hg:w.cell? ⟨g,0,none⟩=some (.string (B p)))(S:Nat->Prop)(hS:¬S g):
  Pd S w (.func (.func 280) #[] #[.pointer (some ⟨g,0,none⟩)]) (λn=>parent n.path == some p):=
 ⟨_,_,_,rfl,enters_of func280 (by kernel_rfl) rfl,λn w1 hn hf=>BI n g p w1 hn (hf.cell hg hS)⟩
theorem mm(p:Bs)(w:World):
  Calls prog 225 #[.string (B p)] w λe w'=>e=.returned (.func (.func 280) #[] #[.pointer (some ⟨w.heap.size,0,none⟩)])/\w'=w.alloc (.cells #[.string (B p)] 9):=by
 go_enter func225,ntmps225
 go_wp2;go_ret;exact⟨rfl,rfl⟩
theorem nz(p:Bs)(w:World)(S:Nat->Prop)(hS:∀k,S k->k<w.heap.size):Pd S (w.alloc (.cells #[.string (B p)] 9)) (.func (.func 280) #[] #[.pointer (some ⟨w.heap.size,0,none⟩)]) (λn=>parent n.path == some p):=
 LU _ _ p (by rw[cell_of_row _ _ _ _ _ _ (heap_alloc_new w _)];rfl) S (λh=>by have:=hS _ h;omega)
theorem tS(n:Nd)(p:Bs)(w:World):
  Calls prog 272 #[vO n,.string (B p)] w λe w'=>e=.returned (.int .i64 (cF n.path p))/\Fp ab w w':=by
 obtain⟨np,d,v,t,o⟩:=n;unfold vO au;have hf:∀o,Fp ab w (w.alloc o):=λo=>(Fp.refl ab w).alloc o
 have hc:=λw=>Tryz.strings_Compare (B np) (B p) w
 have e:∀l:Bs,(B l).data.toList=l:=λl=>by unfold B;rfl
 simp only[e,cmp_eq]at hc
 have HF:=Lib.hid hf;have HC:=Lib.hid hc;clear hf hc e;go_enter func272,ntmps272
 go_wp2_with fail
 refine(HC _).mono ?_;rintro e w1⟨rfl,rfl⟩;go_wp2;go_ret;exact⟨rfl,HF _⟩
theorem Ee(v:Value)(l:List Nd)(p:Bs)(w:World)(hv:Ns w v l)(ha:fw l)(hn:l.length<=1000000):
  Calls prog 271 #[v,.string (B p),.func (.func 272) #[] #[]] w λe w'=>e=.returned (.tuple #[.int .i64 (place l p),.bool (find l p).isSome])/\Fp ab w w':=by
 obtain⟨ao,cap,rfl⟩:=hv.shape;obtain⟨n,aR⟩:∃n,n=l.length:=⟨_,rfl⟩;have HX:=Lib.hid (And.intro aR (And.intro hv ha));have H0:Hid (Wr l p w 0 n w):=⟨Fp.refl _ _,λx _ h=>absurd h (Nat.not_lt_zero x),λx h1 h2=>by omega,Nat.zero_le _,by omega⟩
 rw[<-aR];have jS:n<=1000000:=by omega
 clear hv ha hn aR;go_enter func271,ntmps271
 go_wp2_with fail
 go_loopw [9,10] (λi j wr=>∃a b:Nat,a<=n/\b<=n/\i=.int .i64 a/\j=.int .i64 b/\Hid (Wr l p w a b wr)) (λi j _=>(RowKit.intOf j).toNat-(RowKit.intOf i).toNat)
 case atStart=>exact⟨0,n,Nat.zero_le _,Nat.le_refl _,rfl,rfl,H0⟩
 obtain⟨a,b,iQ,mC,rfl,rfl,hR⟩:=hrel;rename_i wr _
 by_cases ay:a<b
 ·obtain⟨h,hh⟩:∃h,h=(a+b) / 2:=⟨_,rfl⟩
  have eV:a<=h/\h<b:=by omega
  have he:((a:Int)+(b:Int)) / 2=(h:Int):=by omega
  have kV:h<l.length:=by rw[<-HX.1];omega
  have q5:(h<n)=True:=eq_true (by omega)
  have q6:((h:Int)<(n:Int))=True:=eq_true (by omega)
  obtain⟨g,o,aY,e,_,_,_,aq⟩:=HX.2.1.at (by omega)
  injection e with e1 e2 e3
  subst e1 e3;have aE:=(aq h kV).keep hR.fp id
  have pG:lt l[h].path p=true->∀x (hx:x<l.length),x<h+1->lt l[x].path p=true:=λk x hx B1=>by
   rcases Nat.lt_or_eq_of_le (show x<=h by omega) with e|e
   ·exact lt_trans (HX.2.2 x h hx kV e) k
   subst e;exact k
  have eR:lt l[h].path p=false->∀x (hx:x<l.length),h<=x->lt l[x].path p=false:=λk x hx B1=>by
   rcases Nat.lt_or_eq_of_le B1 with e|e
   ·cases c:lt l[x].path p with
    |false=>rfl
    |true=>rw[lt_trans (HX.2.2 h x kV hx e) c]at k;cases k
   subst e;exact k
  have dP:=λw=>tS l[h] p w
  have HB:=Lib.hid (And.intro pG eR);have HA:=Lib.hid (And.intro eV (And.intro iQ mC));clear aq pG eR hh iQ mC;generalize l[h]=y at *;have c0:=aE.c0;have c1:=aE.c1;have c2:=aE.c2;have c3:=aE.c3;have c4:=aE.c4;unfold au at c0 c1;unfold vO au at dP;have q3:((a:Int)<(b:Int))=True:=eq_true (by omega)
  have q4:(a<b)=True:=eq_true ay;have zE:∃z,cF y.path p=z:=⟨_,rfl⟩;obtain⟨z,hz⟩:=zE;rw[hz]at dP;have y7:=Lib.hid dP;have Sc:h<=1000000:=by have:=HA.out;omega
  clear aE dP kV ay eV;by_cases bq:lt y.path p=true
  ·have z0:(z<0)=True:=eq_true (by rw[<-hz];unfold cF;rw[if_pos bq];decide)
   have Gl:=Lib.hid bq;clear hz bq;go_wp2_with fail
   refine(y7 _).mono ?_;rintro e w2⟨rfl,bY⟩;have hM:Hid (Wr l p w (h+1) b w2):=⟨hR.fp.then bY,HB.1 Gl.out,hR.hi,by have:=HA.1;omega,hR.jn⟩
   clear bY;go_wp2;go_roundw
   case rel=>exact⟨h+1,b,by have:=HA.out;omega,HA.2.2,by go_num,rfl,hM⟩
   case measure=>have:=HA.out;simp[RowKit.intOf];omega
  have xb:lt y.path p=false:=by simpa using bq
  have z0:(z<0)=False:=eq_false (by rw[<-hz];unfold cF;rw[if_neg bq];split<;>decide)
  have Gl:=Lib.hid xb;clear hz bq xb;go_wp2_with fail
  refine(y7 _).mono ?_;rintro e w2⟨rfl,bY⟩;have hM:Hid (Wr l p w a h w2):=⟨hR.fp.then bY,hR.lo,HB.2 Gl.out,by have:=HA.1;omega,by have:=HA.1;have:=hR.jn;omega⟩
  clear bY;go_wp2;go_roundw
  case rel=>exact⟨a,h,HA.2.1,by have:=HA.out;omega,rfl,rfl,hM⟩
  case measure=>have:=HA.out;simp[RowKit.intOf];omega
 have eV:a=b:=by have:=hR.ij;omega
 subst eV;have cC:place l p=a:=xW hR.jn hR.lo hR.hi;have q3:((a:Int)<(a:Int))=False:=eq_false (by omega)
 have dV:=lY HX.2.2 p;rw[cC]at dV;have HP:=Lib.hid cC;by_cases gm:a<n
 ·have mD:a<l.length:=by rw[<-HX.1];exact gm
  rw[dif_pos mD]at dV;obtain⟨g,o,aY,e,_,_,_,aq⟩:=HX.2.1.at (by omega)
  injection e with e1 e2 e3
  subst e1 e3;have aE:=(aq a mD).keep hR.fp id;have dP:=λw=>tS l[a] p w
  have uL:=hR.hi a mD (Nat.le_refl _);clear aq;generalize l[a]=y at *;have c0:=aE.c0;have c1:=aE.c1;have c2:=aE.c2;have c3:=aE.c3;have c4:=aE.c4;unfold au at c0 c1;unfold vO au at dP;have q5:((a:Int)<(n:Int))=True:=eq_true (by omega)
  have q6:(a<n)=True:=eq_true gm;obtain⟨z,hz⟩:∃z,cF y.path p=z:=⟨_,rfl⟩
  have B2:(z == 0)=(find l p).isSome:=by
   rw[dV,<-hz];unfold cF;rw[if_neg (by rw[uL];exact Bool.false_ne_true)]
   by_cases e:y.path=p
   ·rw[if_pos e,if_pos e];rfl
   rw[if_neg e,if_neg e];rfl
  rw[hz]at dP;have y7:=Lib.hid dP;have HZ:=Lib.hid B2;clear aE dP hz B2 dV uL gm mD cC iQ mC;go_wp2_with fail
  refine(y7 _).mono ?_;rintro e w2⟨rfl,bY⟩;have HF:=Lib.hid (hR.fp.then bY);clear bY;go_wp2;go_ret2
  exact⟨by rw[HP.out,<-HZ.out];rfl,HF.out⟩
 have q5:((a:Int)<(n:Int))=False:=eq_false (by omega)
 have q6:(a<n)=False:=eq_false gm;rw[dif_neg (by rw[<-HX.1];exact gm)]at dV
 have EG:=Lib.hid dV;clear dV cC gm ay iQ mC;go_wp2;go_ret2
 exact⟨by rw[HP.out,EG.out];rfl,hR.fp⟩
theorem qj(v:Value)(l:List Nd)(p:Bs)(w:World)(hv:Ns w v l)(ha:fw l)(hn:l.length<=1000000):
  Calls prog 217 #[v,.string (B p)] w λe w'=>e=.returned (.tuple #[.int .i64 (place l p),.bool (find l p).isSome])/\Fp ab w w':=by
 have hs:=Ee v l p w hv ha hn;obtain⟨ao,cap,rfl⟩:=hv.shape;generalize l.length=n at *;have HS:=Lib.hid hs;clear hs hv hn ha;go_enter func217,ntmps217
 go_wp2_with fail
 refine HS.mono ?_;rintro e w1⟨rfl,hf⟩;have HF:=Lib.hid hf;clear hf;go_wp2;go_ret2
 exact⟨rfl,HF.out⟩
end
end Go.Proofs.YtgafcelloiagmaaGreatDoor
