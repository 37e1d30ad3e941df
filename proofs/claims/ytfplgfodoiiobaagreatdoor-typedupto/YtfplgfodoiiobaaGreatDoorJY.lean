/- Typed: for every depth and every row of acts whose reading holds at most 1048576 values and letters the call returns true, and the input reads behind the call as it read before; the listed package-level variables begin as the program's text lays them (the card ties them). -/
import Derived.JoinedOf
import Derived.KernelRfl
import Derived.Test.YtfplgfodoiiobaaGreatDoorJ49
import Derived.Test.YtfplgfodoiiobaaGreatDoorRows
open Option renaming none→O,some→M
open Go.Value renaming int→I,slice→Z,pointer→U
open Go.IntKind renaming i64→V
open Go.Obj renaming cells→C
open Go.Ending renaming returned→G
open Go renaming World→F,Value→Y,Calls→H
open Go.Proofs.Tryz renaming prog→K
namespace Go.Proofs.YtfplgfodoiiobaaGreatDoor
set_option maxRecDepth 100000
open Go.ChangeShapes Go.WideShapes Go.ChangeAt Go.RowKit
open Go
open Go.ChangeShapes Go.WideShapes Go.ChangeAt Go.RowKit Go.Deep
theorem DZ (os:Os):∃w0:F,w0.os=os/\(∀args:Array Y,(w0.forCall (fun _ _=>0) ⟨#[],args,[]⟩).variablesRefB Tryz.checked.prog=true)
 /\(∀args:Array Y,((w0.forCall (fun _ _=>0) ⟨#[],args,[]⟩).heap.toList.drop Tryz.checked.prog.globals.size).take ((begin Tryz.checked.prog (fun _ _=>0) default).world.heap.size-Tryz.checked.prog.globals.size)=(begin Tryz.checked.prog (fun _ _=>0) default).world.heap.toList.drop Tryz.checked.prog.globals.size)
 /\(∀args:Array Y,laidMetH K Rows.typedUptoRow.laid (w0.forCall (fun _ _=>0) ⟨#[],args,[]⟩).memory)
 /\Input.okWideB Tryz.checked.prog (w0.forCall (fun _ _=>0) ⟨#[],#[I V 0,Z O 0 0],[]⟩) 6 ⟨#[],#[I V 0,Z O 0 0],[]⟩=true
 /\(∀(aB:Type) (Df:TypeId×Y->aB),DataW.whole Df K (w0.forCall (fun _ _=>0) ⟨#[],#[I V 0,Z O 0 0],[]⟩).memory Tryz.f6.params.toList Rows.typedSpec.vars false #[Value.int V 0,Value.slice O 0 0].toList 8=M ([.lit (.int V 0),.nil],[],[]))
 /\(∀(aB:Type) (Df:TypeId×Y->aB),(Rows.OpenSpec.upto Rows.typedSpec).bare.sizedB Df K Tryz.f6 false (w0.forCall (fun _ _=>0) ⟨#[],#[I V 0,Z O 0 0],[]⟩).memory #[I V 0,Z O 0 0] 8=true):=
 ⟨(let w0:=World.holding K os ⟨#[C #[.string ⟨#[116,104,101,32,100,105,115,107,32,114,101,102,117,115,101,115,32,105,116]⟩] 376,C #[.string ⟨#[116,104,101,32,109,97,99,104,105,110,101,32,115,116,111,112,115,32,97,104,101,97,100,32,111,102,32,105,116]⟩] 376,C #[.string ⟨#[102,105,108,101,32,50,32,105,115,32,110,111,32,99,104,101,99,107,112,111,105,110,116]⟩] 376,C #[.string ⟨#[116,104,101,114,101,32,105,115,32,110,111,32,102,117,114,116,104,101,114,32,101,112,111,99,104]⟩] 376,C #[.string ⟨#[116,104,101,32,98,117,102,102,101,114,32,104,97,115,32,110,111,32,115,117,99,104,32,116,101,120,116]⟩] 376],#[],[]⟩;
  { w0 with heap:=(((((((((w0.heap.modify 7 fun
   | C _ t frozen=> C #[I .u8 0,I .u8 1,I .u8 28,I .u8 2,I .u8 29,I .u8 14,I .u8 24,I .u8 3,I .u8 30,I .u8 22,I .u8 20,I .u8 15,I .u8 25,I .u8 17,I .u8 4,I .u8 8,I .u8 31,I .u8 27,I .u8 13,I .u8 23,I .u8 21,I .u8 19,I .u8 16,I .u8 7,I .u8 26,I .u8 12,I .u8 18,I .u8 6,I .u8 11,I .u8 5,I .u8 10,I .u8 9] t frozen
   |o=>o).modify 8 fun
   | C _ t frozen=> C #[I .u8 0,I .u8 1,I .u8 56,I .u8 2,I .u8 57,I .u8 49,I .u8 28,I .u8 3,I .u8 61,I .u8 58,I .u8 42,I .u8 50,I .u8 38,I .u8 29,I .u8 17,I .u8 4,I .u8 62,I .u8 47,I .u8 59,I .u8 36,I .u8 45,I .u8 43,I .u8 51,I .u8 22,I .u8 53,I .u8 39,I .u8 33,I .u8 30,I .u8 24,I .u8 18,I .u8 12,I .u8 5,I .u8 63,I .u8 55,I .u8 48,I .u8 27,I .u8 60,I .u8 41,I .u8 37,I .u8 16,I .u8 46,I .u8 35,I .u8 44,I .u8 21,I .u8 52,I .u8 32,I .u8 23,I .u8 11,I .u8 54,I .u8 26,I .u8 40,I .u8 15,I .u8 34,I .u8 20,I .u8 31,I .u8 10,I .u8 25,I .u8 14,I .u8 19,I .u8 9,I .u8 13,I .u8 8,I .u8 7,I .u8 6] t frozen
   |o=>o).modify 6 fun
   | C _ t frozen=> C #[I .u64 1,I .u64 10,I .u64 100,I .u64 1000,I .u64 10000,I .u64 100000,I .u64 1000000,I .u64 10000000,I .u64 100000000,I .u64 1000000000,I .u64 10000000000,I .u64 100000000000,I .u64 1000000000000,I .u64 10000000000000,I .u64 100000000000000,I .u64 1000000000000000,I .u64 10000000000000000,I .u64 100000000000000000,I .u64 1000000000000000000,I .u64 10000000000000000000] t frozen
   |o=>o).modify 5 fun
   | C _ t frozen=> C #[.iface 318 (.agg #[U (M ⟨9,88,O⟩)])] t frozen
   |o=>o).modify 1 fun
   | C _ t frozen=> C #[.iface 358 (U (M ⟨14,0,O⟩))] t frozen
   |o=>o).modify 2 fun
   | C _ t frozen=> C #[.iface 358 (U (M ⟨15,0,O⟩))] t frozen
   |o=>o).modify 3 fun
   | C _ t frozen=> C #[.iface 358 (U (M ⟨16,0,O⟩))] t frozen
   |o=>o).modify 0 fun
   | C _ t frozen=> C #[.iface 358 (U (M ⟨17,0,O⟩))] t frozen
   |o=>o).modify 4 fun
   | C _ t frozen=> C #[.iface 358 (U (M ⟨18,0,O⟩))] t frozen
   |o=>o) }),
  rfl,(fun args=>by kernel_rfl),(fun args=>by kernel_rfl),(fun args=>laidMetH_of_parts (laidMet_of_run' 8 (by kernel_rfl) (by kernel_rfl)) (by kernel_rfl)),by kernel_rfl,(fun aB Df=>by kernel_rfl),(fun aB Df=>by kernel_rfl)⟩
theorem Py:(Rows.typedUptoRow.inPlace==Tryz.prog.inPlace 6)=true:=by kernel_rfl
theorem Fu:(Rows.typedUptoRow.unfollowed==Tryz.prog.unfollowed 6)=true:=by kernel_rfl
theorem Jy:(Rows.typedUptoRow.recurses==Tryz.prog.recurses 6)=true:=by kernel_rfl
theorem Xa:(Rows.typedUptoRow.named==Tryz.prog.varsNamed 6)=true:=by kernel_rfl
theorem Xb:joinedFacts K 6 Tryz.f6 (Rows.OpenSpec.upto Rows.typedSpec).bare Rows.typedUptoRow=true:=by
 unfold joinedFacts;rw[Py,Fu,Jy,Xa]
 kernel_rfl
theorem Pz (aB:Type)(Df:TypeId×Y->aB)(W:F)(base:Nat)(args:Array Y)(ds gs:List (DataW aB))(before:List MemPlace)
 (hval0:∀(j:Nat) t v,Tryz.f6.params[j]?=M t->args[j]?=M v->Value.okWide K W .any base t v)
 (hW:DataW.Whole Df K Tryz.f6.params.toList Rows.typedSpec.vars false W args.toList ds gs before)(hk:Rows.uptoSmall aB (ds++gs)=true)(hG:∃ps,Gl W ps):
 H K 6 args W fun e W'=> ∃v,e=G v/\Rows.typedSpec.post Df K Tryz.f6 false true false false W args v W':=by
 have hval:∀(j:Nat) t v,Tryz.f6.params[j]?=M t->args[j]?=M v->Value.okWide K W .any base t v:=hval0;have yH:=hW;obtain⟨p,q,hA0,hV,rfl,_,_⟩:=hW;have hA:DataW.TrodAll Df K W 0 (fun _=>true) true Tryz.f6.params.toList args.toList ds p:=hA0;rw[Tryz.params6]at hA hval;obtain⟨vi,v0,di,d0,pi,p0,rfl,rfl,rfl,hi,h0⟩:=trodAll_two hA;obtain⟨rfl,rfl⟩:=trodVars_none hV;obtain⟨dep,rfl⟩:=okWide_int Tryz.underlying3 (hval 0 3 vi rfl rfl);obtain⟨a0,len,cap,rfl⟩:=okWide_slice Tryz.underlying25 (hval 1 25 v0 rfl rfl);have Xh:=hi;have h0k:=h0;obtain⟨fi,hfi⟩:=hi;obtain⟨fuel,hf⟩:=h0;clear hA0 hval0;obtain⟨dep',e0,-,w0⟩:=DataW.trod_int Tryz.underlying3 hfi;simp only[List.append_nil]at yH hk;have Xo:=of_decide_eq_true hk;have bS:∀x∈pi++p0,x.block<W.heap.size:=fun x hx=>by simpa using yH.lt x hx
 have VT:∀(W':F),Below W.heap.size W W'->DataW.Trod Df K W' 0 (fun b=>decide (b<W.heap.size)) true 25 (Z a0 len cap) d0 p0:=
  fun W' hn=>Below.trod Tryz.laidOut (by kernel_rfl) (of_decide_eq_true (by kernel_rfl)) h0k hn (fun x hx=>bS x (List.mem_append_right _ hx))
 have hargi:∀(W':F),Below W.heap.size W W'->DataW.Trod Df K W' 0 (fun b=>decide (b<W.heap.size)) true 3 (I V dep) di pi:=
  fun W' hn=>Below.trod Tryz.laidOut (by kernel_rfl) (of_decide_eq_true (by kernel_rfl)) Xh hn (fun x hx=>bS x (List.mem_append_left _ hx))
 have Jd:Cz W W.heap.size a0 len/\len<=1048576:=by
  rcases open_slice Tryz.underlying25 hf with⟨hcs,hx⟩|⟨a,len',Gd,m,n,D,Pl,hcs,hb,hl,hm,hmm,hx,hel⟩
  ·simp[Value.cells]at hcs;obtain⟨rfl,rfl,rfl⟩:=hcs;exact⟨Or.inl rfl,by omega⟩
  ·simp[Value.cells]at hcs;obtain⟨rfl,rfl,rfl⟩:=hcs;simp only[Prod.mk.injEq]at hx;obtain⟨rfl,rfl⟩:=hx
   have hall:Rows.uptoBulkAll (List.map D (List.range len))<=1048576:=by
    simp only[Rows.uptoBulkAll,Rows.uptoBulk]at Xo;omega
   have hlen:len<=1048576:=by
    have h1:=jb (List.map D (List.range len));simp only[List.length_map,List.length_range]at h1;omega
   refine⟨?_,hlen⟩;simp only[if_true]at hmm;by_cases SK:len=0
   ·exact Or.inl SK
   ·obtain⟨b,off,spot⟩:=a;have hbi:∀i,i<len->Rows.uptoBulk (D i)<=1048576:=fun i hi=>Nat.le_trans (jc (List.mem_map.2 ⟨i,List.mem_range.2 hi,rfl⟩)) hall
    have hs0:=hel 0 (by omega);rw[Tryz.cellsAct]at hel hs0;obtain⟨cs0,k1,k2⟩:=hs0;obtain⟨_,_,_,_,_,_,_,_,z0,_⟩:=DY k1 k2 (hbi 0 (by omega));have hspot:spot=O:=by simpa[Addr.add]using World.cell?_spot z0
    subst hspot;refine Or.inr ⟨b,off,rfl,World.block_lt_of_cell? _ _ (by simpa[add_plain]using z0),fun i hi=>?_⟩;obtain⟨cs,g1,g2⟩:=hel i (by omega);obtain⟨c0,c1,c2,c3,s,j1,j2,jz,z0,z1,z2,z3,z4⟩:=DY g1 g2 (hbi i hi);rw[add_plain,add_plain]at z0 z1 z2 z3 z4;exact⟨c0,c1,c2,c3,s,j1,j2,jz,by simpa using z0,z1,z2,z3,z4⟩
 simp[Value.cells]at e0;obtain⟨ps,hG⟩:=hG;have hi64:=Io w0;subst e0;refine(KI hG Jd.1 hi64.1 hi64.2 (by have:=Jd.2;omega)).mono fun e W' ⟨he,hnx⟩=>?_
 subst he;exact⟨_,rfl,_,_,_,[],pi++p0,[],yH,trodAll_mk1 (shut_bool Tryz.underlying4 true),trodAll_mk2 (hargi _ hnx) (VT _ hnx),rfl,Below.frame hnx _,fun h=>by cases h⟩
theorem Xc:Tryz.checked.prog.inits.idxOf? 6=O:=by kernel_rfl
theorem SG (os:Os)(aB:Type)(Df:TypeId×Y->aB):∃(w:F) (tape:Tape) (i:Input),w.os=os/\(w.forCall tape i).Shaped Tryz.checked.prog/\i.vars=[]/\Input.okWide Tryz.checked.prog (w.forCall tape i) .any w.heap.size 6 i/\
 (Rows.OpenSpec.upto Rows.typedSpec).preRow Df Tryz.checked.prog Tryz.f6 Rows.typedUptoRow.domain false Rows.typedUptoRow.laid (w.forCall tape i).memory i.args/\({}:Assume).holds Tryz.checked.prog (lone (Frame.enter Tryz.checked.prog 6 i.args .normal) [] (w.forCall tape i)):=by
 obtain⟨w0,hos,hv,hr,hl,kV,hx,iU⟩:=DZ os
 exact witness_row_atRef (enc:=Df) (C:=Tryz.checked) false w0 #[I V 0,Z O 0 0] hos (hv _) (hr _) kV
  (OpenSpec.preRow_of_cond 8 (hx aB Df) (by kernel_rfl) (fun k hk=>by cases hk;kernel_rfl) (iU aB Df) (hl _))
theorem SH (aB:Type)(Df:TypeId×Y->aB)(W:F)(base:Nat)(args:Array Y)(ds gs:List (DataW aB))(before:List MemPlace)
 (hval:∀(j:Nat) t v,Tryz.f6.params[j]?=M t->args[j]?=M v->Value.okWide K W .any base t v)
 (hW:DataW.Whole Df K Tryz.f6.params.toList Rows.typedSpec.vars false W args.toList ds gs before)(hk:Rows.uptoSmall aB (ds++gs)=true)(hL:laidMetH K Rows.typedUptoRow.laid W)(hS:W.ShapedOpen K):
 H K 6 args W fun e W'=> ∃v,e=G v/\Rows.typedSpec.post Df K Tryz.f6 false true false false W args v W':=
 Pz aB Df W base args ds gs before hval hW hk (KL hL hS)
theorem Xd (os:Os)(started:os.Started)(aB:Type)(Df:TypeId×Y->aB)(aF:Stop.Interp):
 ReturnsInHanded {} Tryz.checked os 6 .any ((Rows.OpenSpec.upto Rows.typedSpec).preRow Df K Tryz.f6 Rows.typedUptoRow.domain false Rows.typedUptoRow.laid) (((Rows.OpenSpec.upto Rows.typedSpec).at aF).post Df K Tryz.f6 false true false false):=by
 refine returnsInHanded_of_row (C:=Tryz.checked) (s:=Rows.OpenSpec.upto Rows.typedSpec) Tryz.own started Xc Tryz.func6 (SG os aB Df) ?_;intro W base args ds gs before hval hW _ hcond _ hL hS _;exact SH aB Df W base args ds gs before hval hW (hcond _ rfl) hL hS
theorem KM:Rows.TypedUptoSaid:=
 OpenClaim.holds_of_cond 6 Tryz.f6 rfl rfl rfl rfl rfl rfl rfl ⟨rfl,rfl,rfl,rfl,rfl⟩ rfl rfl rfl rfl rfl (by kernel_rfl) Tryz.func6 Xb
  (of_decide_eq_true (by kernel_rfl)) (by unfold Func.isWrapper;first|(rw[if_pos (by decide+kernel)];kernel_rfl)|(rw[if_neg (by decide+kernel)];exact⟨rfl,rfl⟩))
  (fun os started aB Df _ aF=>by rw[OpenClaim.pre_eq_preRow];exact Xd os started aB Df aF)
theorem EA (f:FuncId)(fn:Func)(hf:Tryz.pinned.checked.prog.funcNamed Rows.typedUptoRow.func=M f)(hfn:Tryz.pinned.checked.prog.funcs[f]?=M fn):
 true=Tryz.pinned.checked.prog.looks []/\∀(j:Nat) t,fn.params[j]?=M t->Tryz.pinned.checked.prog.wantsStandIn t=false:=by
 obtain rfl:f=6:=Option.some.inj ((show Tryz.prog.funcNamed Rows.typedUptoRow.func=M 6 by kernel_rfl).symm.trans hf)|>.symm;obtain rfl:fn=Tryz.f6:=(Option.some.inj (Tryz.func6.symm.trans hfn)).symm;refine⟨by kernel_rfl,fun j t ht=>?_⟩;rw[Tryz.params6]at ht;have hm:=Array.mem_of_getElem? ht;simp at hm;rcases hm with rfl|rfl
 ·exact(show Tryz.prog.wantsStandIn 3=false by kernel_rfl)
 ·exact(show Tryz.prog.wantsStandIn 25=false by kernel_rfl)
theorem typed_card:Rows.TypedUptoCardSaid:=
 Claim7.holds_tied_plain_at .later [] _ _ _ _ KM (fun _ h=>by cases h) (by kernel_rfl) (fun _ h=>by cases h) typedUpto_row_tie rfl ⟨rfl,rfl⟩ (by kernel_rfl) rfl EA (by kernel_rfl)
end Go.Proofs.YtfplgfodoiiobaaGreatDoor
