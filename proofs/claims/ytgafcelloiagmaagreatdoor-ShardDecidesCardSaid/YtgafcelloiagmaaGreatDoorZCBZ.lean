/- A text of this proof. -/
import Derived.Deep.DeepHandedRow
import Derived.LaidMore
import Derived.Lib.LaidU8
import Derived.ShutString
import Derived.Test.YtgafcelloiagmaaGreatDoorCards
import Derived.Test.YtgafcelloiagmaaGreatDoorTie
import Derived.Test.YtgafcelloiagmaaGreatDoorZCBY
set_option maxHeartbeats 16000000
set_option linter.unusedSimpArgs false
set_option linter.unusedVariables false
namespace Go.Proofs.YtgafcelloiagmaaGreatDoor.lawShardDecides
open Go.Proofs.Tryz
open Go.ChangeShapes Go.WideShapes Go.ChangeAt Go.RowKit Pm
open Go.WideMaps Go.WideElems
open Go.ChangeMaps (setBlock shut_map_nil open_string shut_string)
theorem own:ownKnob prog.godebug=none:=by kernel_rfl
theorem laidOut:laidOutB prog=true:=by kernel_rfl
theorem UE:(prog.globals[1]?).map (·.type)=some 428:=by kernel_rfl
theorem Y6:prog.cellsOf 428=20:=by kernel_rfl
theorem cEl:prog.cellsOf 343=1:=by kernel_rfl
theorem table{W:World}(h:laidMetH prog Rows.shardDecidesRow.laid W):jH W:=by
 rw[MakeChecks.laidMetH_plain _ _ _ (by kernel_rfl)]at h
 have hm:("internal/strconv.uint64pow10",Lib.tabData (H:=Unit) .u64 Lib.pow10Tab)∈Rows.shardDecidesRow.laid:=.tail _ (.tail _ (.head _));obtain⟨g',t',cs,fuel,p,NW,zX,Y7,hd⟩:=Lib.laidMet.reads h hm;obtain rfl:=Option.some.inj (Lb.symm.trans NW);obtain rfl:=Option.some.inj (UE.symm.trans zX);refine⟨?_⟩;unfold Lib.TabIs;rw[Y7,<-Lib.cells_of_tab Tryz.underlying428 Tryz.underlying343 cEl Y6 hd]
set_option maxRecDepth 100000 in
theorem contract(H:Type)(enc:TypeId×Value->H)(W:World)(base:Nat)(args:Array Value)(ds gs:List (DataW H))(before:List MemPlace)
  (DO:∀(j:Nat) t v,Tryz.f8.params[j]?=some t->args[j]?=some v->Value.okWide prog W .any base t v)
  (hW:DataW.Whole enc prog Tryz.f8.params.toList Rows.shardDecidesSpec.vars false W args.toList ds gs before)
  (db:(DataW.weightsEach prog (Tryz.f8.params.toList++Rows.shardDecidesSpec.plain.varTypes prog) (ds++gs)).all (·<=reachBytes)=true) (hL:laidMetH prog Rows.shardDecidesRow.laid W):
  Calls prog 8 args W λe W'=>∃v,e=.returned v/\Rows.shardDecidesSpec.post enc prog Tryz.f8 false true false false W args v W':=by
 have Wp:=hW;obtain⟨p,q,hA0,hV,rfl,NP,aE⟩:=hW;have hA:DataW.TrodAll enc prog W 0 (λ_=>true) true Tryz.f8.params.toList args.toList ds p:=hA0
 rw[Tryz.params8]at hA DO db;obtain⟨v0,QY,d0,ds0,p0,q0,aa0,rfl,rfl,h0,r0⟩:=trodAll_cons hA;obtain⟨v1,vs1,d1,ds1,p1,q1,rfl,rfl,rfl,h1,r1⟩:=trodAll_cons r0;obtain⟨v2,vs2,d2,ds2,p2,q2,rfl,rfl,rfl,h2,r2⟩:=trodAll_cons r1;obtain⟨rfl,rfl,rfl⟩:=trodAll_nil r2;obtain rfl:args=#[v0,v1,v2]:=by cases args;simp_all
 obtain⟨rfl,rfl⟩:=trodVars_none hV;clear hA0;obtain⟨s0,rfl,rfl,rfl,V4⟩:=open_int Tryz.underlying2 (DO 0 2 v0 rfl rfl) h0;have Y8:∀x∈p1,x.block<W.heap.size:=λx hx=>Wp.lt x (by simp[hx])
 obtain⟨l1,rO,Aw,QZ⟩:=xT (DO 1 82 v1 rfl rfl) h1 (λn hn=>by simpa using List.all_eq_true.1 db n (DataW.weights_mem_each (j:=1) (t:=82) rfl rfl n hn))
 have mM:∀x∈p2,x.block<W.heap.size:=λx hx=>Wp.lt x (by simp[hx])
 obtain⟨l2,lu,si,Dv⟩:=xU (DO 2 83 v2 rfl rfl) h2 (λn hn=>by simpa using List.all_eq_true.1 db n (DataW.weights_mem_each (j:=2) (t:=83) rfl rfl n hn))
 simp only[List.append_nil]at Wp
 have walk:Calls prog 8 #[.int .i64 s0,v1,v2] W λe w'=>e=.returned (.bool true)/\Below W.heap.size W w':=by
  have k:=qS s0 v1 l1 v2 l2 W rO Aw lu si (table hL);skip
  exact k.mono (λe w' h=>⟨h.1,h.2.gr⟩)
 refine walk.mono λe W' ⟨he,hb⟩=>?_
 subst he;refine⟨_,rfl,_,_,_,[],([]++(p1++(p2++[]))),[],Wp,?_,?_,rfl,hb.frame _,λh=>by cases h⟩
 ·exact trodAll_cons_mk (shut_bool Tryz.underlying4 true) trodAll_mk0
 exact(trodAll_cons_mk (shut_int Tryz.underlying2 V4) (trodAll_cons_mk (Below.trod laidOut (by kernel_rfl) (of_decide_eq_true (by kernel_rfl)) h1 hb Y8) (trodAll_cons_mk (Below.trod laidOut (by kernel_rfl) (of_decide_eq_true (by kernel_rfl)) h2 hb mM) trodAll_mk0)))
theorem Ih(os:Os)(args:Array Value):laidMetH prog Rows.shardDecidesRow.laid ((World.doorLaid prog 400 os).forCall (λ_ _=>0) ⟨#[],args,[]⟩).memory:=
 laidMetH_of_parts3 (fuel:=8) (laidMet_of_run' 8 (by kernel_rfl) (by kernel_rfl)) (by kernel_rfl) (by kernel_rfl)
set_option maxRecDepth 100000 in
theorem lifted(os:Os)(started:os.Started)(H:Type)(enc:TypeId×Value->H):
  ReturnsInHanded {} Tryz.checked os 8 .any (λw args=>(Rows.shardDecidesSpec.pre enc prog Tryz.f8 [] false w args/\laidMetH prog Rows.shardDecidesRow.laid w)/\sizedMet enc prog Tryz.f8 (OpenSpec.ofChange Rows.shardDecidesSpec) false w args)
   (Rows.shardDecidesSpec.post enc prog Tryz.f8 false true false false):=by
 refine returnsInHanded_of_change_and (C:=Tryz.checked) (X:=λw _=>laidMetH prog Rows.shardDecidesRow.laid w) (λ_ _ _ hh h=>h.of_heap hh) own started (by kernel_rfl) func8
  (ChangeSpec.witness_shaped (enc:=enc) (C:=Tryz.checked) (os:=os) (X:=λw _=>laidMetH prog Rows.shardDecidesRow.laid w) false (World.doorLaid prog 400 os) #[.int .i64 0,.slice none 0 0,.slice none 0 0] 8 rfl (World.shaped_of_RefB (by kernel_rfl) (by kernel_rfl)) (by kernel_rfl) (by kernel_rfl) (by kernel_rfl) (Ih os _)) ?_
 intro W base args ds gs before DO hW _ db hL _;exact contract H enc W base args ds gs before DO hW db hL
end Go.Proofs.YtgafcelloiagmaaGreatDoor.lawShardDecides
