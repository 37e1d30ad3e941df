/- StoppedUptoCardSaid: for every depth, every row of acts, every tail and every row of steps whose reading holds at most 1048576 values and letters the call returns true, and the input reads behind the call as it read before; the listed package-level variables begin as the program's text lays them (the card ties them). -/
import Derived.Carry
import Derived.JoinedOf
import Derived.KernelRfl
import Derived.Test.YtfplgfodoiiobaaGreatDoorJ58
import Derived.Test.YtfplgfodoiiobaaGreatDoorRows
open Option renaming none→O,some→M
open Go.Value renaming int→I,slice→Z,pointer→U
open Go.IntKind renaming i64→V
open Go.Obj renaming cells→C
open Go.Ending renaming returned→G
open Go renaming World→F,Value→Y,Calls→H
open Go.Proofs.Tryz renaming prog→K
namespace Go.Proofs.YtfplgfodoiiobaaGreatDoor
set_option maxRecDepth 100000
open Go.ChangeShapes Go.WideShapes Go.ChangeAt Go.RowKit
open Go
open Go.ChangeShapes Go.WideShapes Go.ChangeAt Go.RowKit Go.Deep
theorem laid_worldS (os:Os):∃w0:F,w0.os=os/\(∀args:Array Y,(w0.forCall (fun _ _=>0) ⟨#[],args,[]⟩).variablesRefB Tryz.checked.prog=true)
 /\(∀args:Array Y,((w0.forCall (fun _ _=>0) ⟨#[],args,[]⟩).heap.toList.drop Tryz.checked.prog.globals.size).take ((begin Tryz.checked.prog (fun _ _=>0) default).world.heap.size-Tryz.checked.prog.globals.size)=(begin Tryz.checked.prog (fun _ _=>0) default).world.heap.toList.drop Tryz.checked.prog.globals.size)
 /\(∀args:Array Y,laidMetH K Rows.stoppedUptoRow.laid (w0.forCall (fun _ _=>0) ⟨#[],args,[]⟩).memory)
 /\Input.okWideB Tryz.checked.prog (w0.forCall (fun _ _=>0) ⟨#[],#[I V 0,Z O 0 0,.string ⟨#[]⟩,Z O 0 0],[]⟩) 11 ⟨#[],#[I V 0,Z O 0 0,.string ⟨#[]⟩,Z O 0 0],[]⟩=true
 /\(∀(aA:Type) (iQ:TypeId×Y->aA),DataW.whole iQ K (w0.forCall (fun _ _=>0) ⟨#[],#[I V 0,Z O 0 0,.string ⟨#[]⟩,Z O 0 0],[]⟩).memory Tryz.f11.params.toList Rows.stoppedSpec.vars false #[Value.int V 0,Value.slice O 0 0,Value.string ⟨#[]⟩,Value.slice O 0 0].toList 8=M ([.lit (.int V 0),.nil,.lit (.string []),.nil],[],[]))
 /\(∀(aA:Type) (iQ:TypeId×Y->aA),(Rows.OpenSpec.upto Rows.stoppedSpec).bare.sizedB iQ K Tryz.f11 false (w0.forCall (fun _ _=>0) ⟨#[],#[I V 0,Z O 0 0,.string ⟨#[]⟩,Z O 0 0],[]⟩).memory #[I V 0,Z O 0 0,.string ⟨#[]⟩,Z O 0 0] 8=true):=
 ⟨(let w0:=World.holding K os ⟨#[C #[.string ⟨#[116,104,101,32,100,105,115,107,32,114,101,102,117,115,101,115,32,105,116]⟩] 376,C #[.string ⟨#[116,104,101,32,109,97,99,104,105,110,101,32,115,116,111,112,115,32,97,104,101,97,100,32,111,102,32,105,116]⟩] 376,C #[.string ⟨#[102,105,108,101,32,50,32,105,115,32,110,111,32,99,104,101,99,107,112,111,105,110,116]⟩] 376,C #[.string ⟨#[116,104,101,114,101,32,105,115,32,110,111,32,102,117,114,116,104,101,114,32,101,112,111,99,104]⟩] 376,C #[.string ⟨#[116,104,101,32,98,117,102,102,101,114,32,104,97,115,32,110,111,32,115,117,99,104,32,116,101,120,116]⟩] 376],#[],[]⟩;
  { w0 with heap:=(((((((((w0.heap.modify 7 fun
   | C _ t frozen=> C #[I .u8 0,I .u8 1,I .u8 28,I .u8 2,I .u8 29,I .u8 14,I .u8 24,I .u8 3,I .u8 30,I .u8 22,I .u8 20,I .u8 15,I .u8 25,I .u8 17,I .u8 4,I .u8 8,I .u8 31,I .u8 27,I .u8 13,I .u8 23,I .u8 21,I .u8 19,I .u8 16,I .u8 7,I .u8 26,I .u8 12,I .u8 18,I .u8 6,I .u8 11,I .u8 5,I .u8 10,I .u8 9] t frozen
   |o=>o).modify 8 fun
   | C _ t frozen=> C #[I .u8 0,I .u8 1,I .u8 56,I .u8 2,I .u8 57,I .u8 49,I .u8 28,I .u8 3,I .u8 61,I .u8 58,I .u8 42,I .u8 50,I .u8 38,I .u8 29,I .u8 17,I .u8 4,I .u8 62,I .u8 47,I .u8 59,I .u8 36,I .u8 45,I .u8 43,I .u8 51,I .u8 22,I .u8 53,I .u8 39,I .u8 33,I .u8 30,I .u8 24,I .u8 18,I .u8 12,I .u8 5,I .u8 63,I .u8 55,I .u8 48,I .u8 27,I .u8 60,I .u8 41,I .u8 37,I .u8 16,I .u8 46,I .u8 35,I .u8 44,I .u8 21,I .u8 52,I .u8 32,I .u8 23,I .u8 11,I .u8 54,I .u8 26,I .u8 40,I .u8 15,I .u8 34,I .u8 20,I .u8 31,I .u8 10,I .u8 25,I .u8 14,I .u8 19,I .u8 9,I .u8 13,I .u8 8,I .u8 7,I .u8 6] t frozen
   |o=>o).modify 6 fun
   | C _ t frozen=> C #[I .u64 1,I .u64 10,I .u64 100,I .u64 1000,I .u64 10000,I .u64 100000,I .u64 1000000,I .u64 10000000,I .u64 100000000,I .u64 1000000000,I .u64 10000000000,I .u64 100000000000,I .u64 1000000000000,I .u64 10000000000000,I .u64 100000000000000,I .u64 1000000000000000,I .u64 10000000000000000,I .u64 100000000000000000,I .u64 1000000000000000000,I .u64 10000000000000000000] t frozen
   |o=>o).modify 5 fun
   | C _ t frozen=> C #[.iface 318 (.agg #[U (M ⟨9,88,O⟩)])] t frozen
   |o=>o).modify 1 fun
   | C _ t frozen=> C #[.iface 358 (U (M ⟨14,0,O⟩))] t frozen
   |o=>o).modify 2 fun
   | C _ t frozen=> C #[.iface 358 (U (M ⟨15,0,O⟩))] t frozen
   |o=>o).modify 3 fun
   | C _ t frozen=> C #[.iface 358 (U (M ⟨16,0,O⟩))] t frozen
   |o=>o).modify 0 fun
   | C _ t frozen=> C #[.iface 358 (U (M ⟨17,0,O⟩))] t frozen
   |o=>o).modify 4 fun
   | C _ t frozen=> C #[.iface 358 (U (M ⟨18,0,O⟩))] t frozen
   |o=>o) }),
  rfl,(fun args=>by kernel_rfl),(fun args=>by kernel_rfl),(fun args=>laidMetH_of_parts (laidMet_of_run' 8 (by kernel_rfl) (by kernel_rfl)) (by kernel_rfl)),by kernel_rfl,(fun aA iQ=>by kernel_rfl),(fun aA iQ=>by kernel_rfl)⟩
theorem stopped_cInPlace:(Rows.stoppedUptoRow.inPlace==Tryz.prog.inPlace 11)=true:=by kernel_rfl
theorem stopped_cUnfollowed:(Rows.stoppedUptoRow.unfollowed==Tryz.prog.unfollowed 11)=true:=by kernel_rfl
theorem stopped_cRecurses:(Rows.stoppedUptoRow.recurses==Tryz.prog.recurses 11)=true:=by kernel_rfl
theorem stopped_cNamed:(Rows.stoppedUptoRow.named==Tryz.prog.varsNamed 11)=true:=by kernel_rfl
theorem stopped_closed:joinedFacts K 11 Tryz.f11 (Rows.OpenSpec.upto Rows.stoppedSpec).bare Rows.stoppedUptoRow=true:=by
 unfold joinedFacts;rw[stopped_cInPlace,stopped_cUnfollowed,stopped_cRecurses,stopped_cNamed]
 kernel_rfl
theorem stopped_contract (aA:Type)(iQ:TypeId×Y->aA)(W:F)(base:Nat)(args:Array Y)(ds gs:List (DataW aA))(before:List MemPlace)
 (Mg:∀(j:Nat) t v,Tryz.f11.params[j]?=M t->args[j]?=M v->Value.okWide K W .any base t v)
 (hW:DataW.Whole iQ K Tryz.f11.params.toList Rows.stoppedSpec.vars false W args.toList ds gs before)(hk:Rows.uptoSmall aA (ds++gs)=true)(hG:∃ps,Gl W ps):
 H K 11 args W fun e W'=> ∃v,e=G v/\Rows.stoppedSpec.post iQ K Tryz.f11 false true false false W args v W':=by
 have hval:∀(j:Nat) t v,Tryz.f11.params[j]?=M t->args[j]?=M v->Value.okWide K W .any base t v:=Mg;have rC:=hW;obtain⟨p,q,hA0,hV,rfl,_,_⟩:=hW;have hA:DataW.TrodAll iQ K W 0 (fun _=>true) true Tryz.f11.params.toList args.toList ds p:=hA0;rw[Tryz.params11]at hA hval;obtain⟨v0,v1,v2,v3,d0,d1,d2,d3,p0,p1,p2,p3,rfl,rfl,rfl,h0,h1,h2,h3⟩:=trodAll_four hA;obtain⟨rfl,rfl⟩:=trodVars_none hV;simp only[List.append_nil]at rC hk;have Tp:=of_decide_eq_true hk;simp only[Rows.uptoBulkAll]at Tp;obtain⟨x0,rfl⟩:=okWide_int Tryz.underlying3 (hval 0 3 v0 rfl rfl);have k0:=Sl h0;obtain⟨a1,len1,wH,rfl⟩:=okWide_slice Tryz.underlying25 (hval 1 25 v1 rfl rfl);have k1:=Kk h1 (by omega);obtain⟨x2,rfl⟩:=okWide_string Tryz.underlying9 (hval 2 9 v2 rfl rfl);have k2:=str_open h2 (by omega);obtain⟨a3,len3,kJ,rfl⟩:=okWide_slice Tryz.underlying60 (hval 3 60 v3 rfl rfl);have k3:=ints_open h3 (by omega);clear hA0 Mg hA;have bV:∀x∈p0++p1++p2++p3,x.block<W.heap.size:=fun x hx=>by simpa using rC.lt x (by simpa using hx)
 have r0:∀(W':F),Below W.heap.size W W'->DataW.Trod iQ K W' 0 (fun b=>decide (b<W.heap.size)) true 3 (I V x0) d0 p0:=
  fun W' hn=>Below.trod Tryz.laidOut (by kernel_rfl) (of_decide_eq_true (by kernel_rfl)) h0 hn (fun x hx=>bV x (by simp[hx]))
 have r1:∀(W':F),Below W.heap.size W W'->DataW.Trod iQ K W' 0 (fun b=>decide (b<W.heap.size)) true 25 (Z a1 len1 wH) d1 p1:=
  fun W' hn=>Below.trod Tryz.laidOut (by kernel_rfl) (of_decide_eq_true (by kernel_rfl)) h1 hn (fun x hx=>bV x (by simp[hx]))
 have r2:∀(W':F),Below W.heap.size W W'->DataW.Trod iQ K W' 0 (fun b=>decide (b<W.heap.size)) true 9 (.string x2) d2 p2:=
  fun W' hn=>Below.trod Tryz.laidOut (by kernel_rfl) (of_decide_eq_true (by kernel_rfl)) h2 hn (fun x hx=>bV x (by simp[hx]))
 have r3:∀(W':F),Below W.heap.size W W'->DataW.Trod iQ K W' 0 (fun b=>decide (b<W.heap.size)) true 60 (Z a3 len3 kJ) d3 p3:=
  fun W' hn=>Below.trod Tryz.laidOut (by kernel_rfl) (of_decide_eq_true (by kernel_rfl)) h3 hn (fun x hx=>bV x (by simp[hx]))
 obtain⟨ps,hG⟩:=hG;refine(stopped_walk hG k1.1 k0.1 k0.2 (by have:=k1.2;omega) k2 k3.1 (by have:=k3.2;omega)).mono fun e W' ⟨he,MS⟩=>?_
 subst he;have hT:=trodAll_mk4 (r0 _ MS) (r1 _ MS) (r2 _ MS) (r3 _ MS);rw[<-List.append_assoc,<-List.append_assoc]at hT;exact⟨_,rfl,_,_,_,[],p0++p1++p2++p3,[],rC,trodAll_mk1 (shut_bool Tryz.underlying4 true),hT,rfl,Below.frame MS _,fun h=>by cases h⟩
theorem stopped_noInit:Tryz.checked.prog.inits.idxOf? 11=O:=by kernel_rfl
theorem stopped_wit (os:Os)(aA:Type)(iQ:TypeId×Y->aA):∃(w:F) (tape:Tape) (i:Input),w.os=os/\(w.forCall tape i).Shaped Tryz.checked.prog/\i.vars=[]/\Input.okWide Tryz.checked.prog (w.forCall tape i) .any w.heap.size 11 i/\
 (Rows.OpenSpec.upto Rows.stoppedSpec).preRow iQ Tryz.checked.prog Tryz.f11 Rows.stoppedUptoRow.domain false Rows.stoppedUptoRow.laid (w.forCall tape i).memory i.args/\({}:Assume).holds Tryz.checked.prog (lone (Frame.enter Tryz.checked.prog 11 i.args .normal) [] (w.forCall tape i)):=by
 obtain⟨w0,hos,hv,hr,hl,kR,hx,gQ⟩:=laid_worldS os
 exact witness_row_atRef (enc:=iQ) (C:=Tryz.checked) false w0 #[I V 0,Z O 0 0,.string ⟨#[]⟩,Z O 0 0] hos (hv _) (hr _) kR
  (OpenSpec.preRow_of_cond 8 (hx aA iQ) (by kernel_rfl) (fun k hk=>by cases hk;kernel_rfl) (gQ aA iQ) (hl _))
theorem stopped_con (aA:Type)(iQ:TypeId×Y->aA)(W:F)(base:Nat)(args:Array Y)(ds gs:List (DataW aA))(before:List MemPlace)
 (hval:∀(j:Nat) t v,Tryz.f11.params[j]?=M t->args[j]?=M v->Value.okWide K W .any base t v)
 (hW:DataW.Whole iQ K Tryz.f11.params.toList Rows.stoppedSpec.vars false W args.toList ds gs before)(hk:Rows.uptoSmall aA (ds++gs)=true)(hL:laidMetH K Rows.stoppedUptoRow.laid W)(hS:W.ShapedOpen K):
 H K 11 args W fun e W'=> ∃v,e=G v/\Rows.stoppedSpec.post iQ K Tryz.f11 false true false false W args v W':=
 stopped_contract aA iQ W base args ds gs before hval hW hk (Eh hL hS)
theorem stopped_lifted (os:Os)(started:os.Started)(aA:Type)(iQ:TypeId×Y->aA)(aF:Stop.Interp):
 ReturnsInHanded {} Tryz.checked os 11 .any ((Rows.OpenSpec.upto Rows.stoppedSpec).preRow iQ K Tryz.f11 Rows.stoppedUptoRow.domain false Rows.stoppedUptoRow.laid) (((Rows.OpenSpec.upto Rows.stoppedSpec).at aF).post iQ K Tryz.f11 false true false false):=by
 refine returnsInHanded_of_row (C:=Tryz.checked) (s:=Rows.OpenSpec.upto Rows.stoppedSpec) Tryz.own started stopped_noInit Tryz.func11 (stopped_wit os aA iQ) ?_;intro W base args ds gs before hval hW _ LK _ hL hS _;exact stopped_con aA iQ W base args ds gs before hval hW (LK _ rfl) hL hS
theorem stopped_upto:Rows.StoppedUptoSaid:=
 OpenClaim.holds_of_cond 11 Tryz.f11 rfl rfl rfl rfl rfl rfl rfl ⟨rfl,rfl,rfl,rfl,rfl⟩ rfl rfl rfl rfl rfl (by kernel_rfl) Tryz.func11 stopped_closed
  (of_decide_eq_true (by kernel_rfl)) (by unfold Func.isWrapper;first|(rw[if_pos (by decide+kernel)];kernel_rfl)|(rw[if_neg (by decide+kernel)];exact⟨rfl,rfl⟩))
  (fun os started aA iQ _ aF=>by rw[OpenClaim.pre_eq_preRow];exact stopped_lifted os started aA iQ aF)
theorem stopped_plain (f:FuncId)(fn:Func)(hf:Tryz.pinned.checked.prog.funcNamed Rows.stoppedUptoRow.func=M f)(hfn:Tryz.pinned.checked.prog.funcs[f]?=M fn):
 true=Tryz.pinned.checked.prog.looks []/\∀(j:Nat) t,fn.params[j]?=M t->Tryz.pinned.checked.prog.wantsStandIn t=false:=by
 obtain rfl:f=11:=Option.some.inj ((show Tryz.prog.funcNamed Rows.stoppedUptoRow.func=M 11 by kernel_rfl).symm.trans hf)|>.symm;obtain rfl:fn=Tryz.f11:=(Option.some.inj (Tryz.func11.symm.trans hfn)).symm;refine⟨by kernel_rfl,fun j t ht=>?_⟩;rw[Tryz.params11]at ht;have hm:=Array.mem_of_getElem? ht;simp at hm;rcases hm with rfl|rfl|rfl|rfl
 ·exact(show Tryz.prog.wantsStandIn 3=false by kernel_rfl)
 ·exact(show Tryz.prog.wantsStandIn 25=false by kernel_rfl)
 ·exact(show Tryz.prog.wantsStandIn 9=false by kernel_rfl)
 ·exact(show Tryz.prog.wantsStandIn 60=false by kernel_rfl)
theorem stopped_card:Rows.StoppedUptoCardSaid:=
 Claim7.holds_tied_plain_at .later [] _ _ _ _ stopped_upto (fun _ h=>by cases h) (by kernel_rfl) (fun _ h=>by cases h) stoppedUpto_row_tie rfl ⟨rfl,rfl⟩ (by kernel_rfl) rfl stopped_plain (by kernel_rfl)
end Go.Proofs.YtfplgfodoiiobaaGreatDoor
