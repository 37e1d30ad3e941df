/- TextsUptoCardSaid: for every script of steps (its reading holds at most 1048576 values and letters) the statement Texts of quilllaw answers true: the store of the program answers every call but Crash, Refuse and Checkpoint as the document does, with the same bytes on its disk. It is a card: the listed package-level variables are tied to what start-up lays; the translation is of a pruned copy of the repository (no test files). -/
import Derived.JoinedOf
import Derived.KernelRfl
import Derived.Test.YtfplgfodoiiobaaGreatDoorJ51
import Derived.Test.YtfplgfodoiiobaaGreatDoorRows
open Option renaming none→O,some→M
open Go.Value renaming int→I,slice→Z,pointer→U
open Go.Obj renaming cells→C
open Go.Ending renaming returned→G
open Go renaming World→F,Value→Y,Calls→H
open Go.Proofs.Tryz renaming prog→K
namespace Go.Proofs.YtfplgfodoiiobaaGreatDoor
set_option maxRecDepth 100000
open Go.ChangeShapes Go.WideShapes Go.ChangeAt Go.RowKit
open Go
open Go.ChangeShapes Go.WideShapes Go.ChangeAt Go.RowKit Go.Deep
theorem KE (os:Os):∃w0:F,w0.os=os/\(∀args:Array Y,(w0.forCall (fun _ _=>0) ⟨#[],args,[]⟩).variablesRefB Tryz.checked.prog=true)
 /\(∀args:Array Y,((w0.forCall (fun _ _=>0) ⟨#[],args,[]⟩).heap.toList.drop Tryz.checked.prog.globals.size).take ((begin Tryz.checked.prog (fun _ _=>0) default).world.heap.size-Tryz.checked.prog.globals.size)=(begin Tryz.checked.prog (fun _ _=>0) default).world.heap.toList.drop Tryz.checked.prog.globals.size)
 /\(∀args:Array Y,laidMetH K Rows.textsUptoRow.laid (w0.forCall (fun _ _=>0) ⟨#[],args,[]⟩).memory)
 /\Input.okWideB Tryz.checked.prog (w0.forCall (fun _ _=>0) ⟨#[],#[Z O 0 0],[]⟩) 4 ⟨#[],#[Z O 0 0],[]⟩=true
 /\(∀(aA:Type) (qO:TypeId×Y->aA),DataW.whole qO K (w0.forCall (fun _ _=>0) ⟨#[],#[Z O 0 0],[]⟩).memory Tryz.f4.params.toList Rows.textsSpec.vars false #[Value.slice O 0 0].toList 8=M ([.nil],[],[]))
 /\(∀(aA:Type) (qO:TypeId×Y->aA),(Rows.OpenSpec.upto Rows.textsSpec).bare.sizedB qO K Tryz.f4 false (w0.forCall (fun _ _=>0) ⟨#[],#[Z O 0 0],[]⟩).memory #[Z O 0 0] 8=true):=
 ⟨(let w0:=World.holding K os ⟨#[C #[.string ⟨#[116,104,101,32,100,105,115,107,32,114,101,102,117,115,101,115,32,105,116]⟩] 376,C #[.string ⟨#[116,104,101,32,109,97,99,104,105,110,101,32,115,116,111,112,115,32,97,104,101,97,100,32,111,102,32,105,116]⟩] 376,C #[.string ⟨#[102,105,108,101,32,50,32,105,115,32,110,111,32,99,104,101,99,107,112,111,105,110,116]⟩] 376,C #[.string ⟨#[116,104,101,114,101,32,105,115,32,110,111,32,102,117,114,116,104,101,114,32,101,112,111,99,104]⟩] 376,C #[.string ⟨#[116,104,101,32,98,117,102,102,101,114,32,104,97,115,32,110,111,32,115,117,99,104,32,116,101,120,116]⟩] 376],#[],[]⟩;
  { w0 with heap:=(((((((((w0.heap.modify 7 fun
   | C _ t frozen=> C #[I .u8 0,I .u8 1,I .u8 28,I .u8 2,I .u8 29,I .u8 14,I .u8 24,I .u8 3,I .u8 30,I .u8 22,I .u8 20,I .u8 15,I .u8 25,I .u8 17,I .u8 4,I .u8 8,I .u8 31,I .u8 27,I .u8 13,I .u8 23,I .u8 21,I .u8 19,I .u8 16,I .u8 7,I .u8 26,I .u8 12,I .u8 18,I .u8 6,I .u8 11,I .u8 5,I .u8 10,I .u8 9] t frozen
   |o=>o).modify 8 fun
   | C _ t frozen=> C #[I .u8 0,I .u8 1,I .u8 56,I .u8 2,I .u8 57,I .u8 49,I .u8 28,I .u8 3,I .u8 61,I .u8 58,I .u8 42,I .u8 50,I .u8 38,I .u8 29,I .u8 17,I .u8 4,I .u8 62,I .u8 47,I .u8 59,I .u8 36,I .u8 45,I .u8 43,I .u8 51,I .u8 22,I .u8 53,I .u8 39,I .u8 33,I .u8 30,I .u8 24,I .u8 18,I .u8 12,I .u8 5,I .u8 63,I .u8 55,I .u8 48,I .u8 27,I .u8 60,I .u8 41,I .u8 37,I .u8 16,I .u8 46,I .u8 35,I .u8 44,I .u8 21,I .u8 52,I .u8 32,I .u8 23,I .u8 11,I .u8 54,I .u8 26,I .u8 40,I .u8 15,I .u8 34,I .u8 20,I .u8 31,I .u8 10,I .u8 25,I .u8 14,I .u8 19,I .u8 9,I .u8 13,I .u8 8,I .u8 7,I .u8 6] t frozen
   |o=>o).modify 6 fun
   | C _ t frozen=> C #[I .u64 1,I .u64 10,I .u64 100,I .u64 1000,I .u64 10000,I .u64 100000,I .u64 1000000,I .u64 10000000,I .u64 100000000,I .u64 1000000000,I .u64 10000000000,I .u64 100000000000,I .u64 1000000000000,I .u64 10000000000000,I .u64 100000000000000,I .u64 1000000000000000,I .u64 10000000000000000,I .u64 100000000000000000,I .u64 1000000000000000000,I .u64 10000000000000000000] t frozen
   |o=>o).modify 5 fun
   | C _ t frozen=> C #[.iface 318 (.agg #[U (M ⟨9,88,O⟩)])] t frozen
   |o=>o).modify 1 fun
   | C _ t frozen=> C #[.iface 358 (U (M ⟨14,0,O⟩))] t frozen
   |o=>o).modify 2 fun
   | C _ t frozen=> C #[.iface 358 (U (M ⟨15,0,O⟩))] t frozen
   |o=>o).modify 3 fun
   | C _ t frozen=> C #[.iface 358 (U (M ⟨16,0,O⟩))] t frozen
   |o=>o).modify 0 fun
   | C _ t frozen=> C #[.iface 358 (U (M ⟨17,0,O⟩))] t frozen
   |o=>o).modify 4 fun
   | C _ t frozen=> C #[.iface 358 (U (M ⟨18,0,O⟩))] t frozen
   |o=>o) }),
  rfl,(fun args=>by kernel_rfl),(fun args=>by kernel_rfl),(fun args=>laidMetH_of_parts (laidMet_of_run' 8 (by kernel_rfl) (by kernel_rfl)) (by kernel_rfl)),by kernel_rfl,(fun aA qO=>by kernel_rfl),(fun aA qO=>by kernel_rfl)⟩
theorem Uh:(Rows.textsUptoRow.inPlace==Tryz.prog.inPlace 4)=true:=by kernel_rfl
theorem Kg:(Rows.textsUptoRow.unfollowed==Tryz.prog.unfollowed 4)=true:=by kernel_rfl
theorem Pd:(Rows.textsUptoRow.recurses==Tryz.prog.recurses 4)=true:=by kernel_rfl
theorem BN:(Rows.textsUptoRow.named==Tryz.prog.varsNamed 4)=true:=by kernel_rfl
theorem BO:joinedFacts K 4 Tryz.f4 (Rows.OpenSpec.upto Rows.textsSpec).bare Rows.textsUptoRow=true:=by
 unfold joinedFacts;rw[Uh,Kg,Pd,BN]
 kernel_rfl
theorem Ui (aA:Type)(qO:TypeId×Y->aA)(W:F)(base:Nat)(args:Array Y)(ds gs:List (DataW aA))(before:List MemPlace)
 (KF:∀(j:Nat) t v,Tryz.f4.params[j]?=M t->args[j]?=M v->Value.okWide K W .any base t v)
 (hW:DataW.Whole qO K Tryz.f4.params.toList Rows.textsSpec.vars false W args.toList ds gs before)(hk:Rows.uptoSmall aA (ds++gs)=true)(hG:∃ps,Gl W ps):
 H K 4 args W fun e W'=> ∃v,e=G v/\Rows.textsSpec.post qO K Tryz.f4 false true false false W args v W':=by
 have hval:∀(j:Nat) t v,Tryz.f4.params[j]?=M t->args[j]?=M v->Value.okWide K W .any base t v:=KF;have zJ:=hW;obtain⟨p,q,hA0,hV,rfl,_,_⟩:=hW;have hA:DataW.TrodAll qO K W 0 (fun _=>true) true Tryz.f4.params.toList args.toList ds p:=hA0;rw[Tryz.params4]at hA hval;obtain⟨v0,d0,rfl,rfl,h0⟩:=trodAll_one hA;obtain⟨rfl,rfl⟩:=trodVars_none hV;obtain⟨a0,len,cap,rfl⟩:=okWide_slice Tryz.underlying22 (hval 0 22 v0 rfl rfl);have h0k:=h0;obtain⟨fuel,hf⟩:=h0;clear hA0 KF;simp only[List.append_nil]at zJ hk;have Xo:=of_decide_eq_true hk;have bT:∀x∈p,x.block<W.heap.size:=fun x hx=>by simpa using zJ.lt x hx
 have Ry:∀(W':F),Below W.heap.size W W'->DataW.Trod qO K W' 0 (fun b=>decide (b<W.heap.size)) true 22 (Z a0 len cap) d0 p:=
  fun W' hn=>Below.trod Tryz.laidOut (by kernel_rfl) (of_decide_eq_true (by kernel_rfl)) h0k hn bT
 have yR:KC W a0 len/\len<=1048576:=by
  rcases open_slice Tryz.underlying22 hf with⟨hcs,hx⟩|⟨a,len',mW,m,n,D,Pl,hcs,hb,hl,hm,hmm,hx,YO⟩
  ·simp[Value.cells]at hcs;obtain⟨rfl,rfl,rfl⟩:=hcs;exact⟨Or.inl rfl,by omega⟩
  ·simp[Value.cells]at hcs;obtain⟨rfl,rfl,rfl⟩:=hcs;simp only[Prod.mk.injEq]at hx;obtain⟨rfl,rfl⟩:=hx
   have hall:Rows.uptoBulkAll (List.map D (List.range len))<=1048576:=by
    simp only[Rows.uptoBulkAll,Rows.uptoBulk]at Xo;omega
   have hlen:len<=1048576:=by
    have h1:=Uf (List.map D (List.range len));simp only[List.length_map,List.length_range]at h1;omega
   refine⟨?_,hlen⟩;simp only[if_true]at hmm;by_cases XY:len=0
   ·exact Or.inl XY
   ·obtain⟨b,off,spot⟩:=a;have hbi:∀i,i<len->Rows.uptoBulk (D i)<=1048576:=fun i hi=>Nat.le_trans (Ug (List.mem_map.2 ⟨i,List.mem_range.2 hi,rfl⟩)) hall
    have IC:=YO 0 (by omega);rw[Tryz.cellsStep]at YO IC;obtain⟨cs0,k1,k2⟩:=IC;obtain⟨_,_,_,_,_,_,_,_,_,_,_,_,_,_,_,_,_,z0,_⟩:=Ak k1 k2 (hbi 0 (by omega));have KD:spot=O:=by simpa[Addr.add]using World.cell?_spot z0
    subst KD;refine Or.inr ⟨b,off,rfl,fun i hi=>?_⟩;obtain⟨cs,g1,g2⟩:=YO i (by omega);obtain⟨c0,c1,c2,c3,c4,s,fo,fl,fc,l,j0,j1,j2,j3,j4,jz,jF,z0,z1,z2,z3,z4,z5,z6⟩:=Ak g1 g2 (hbi i hi);rw[add_plain,add_plain]at z0 z1 z2 z3 z4 z5 z6;exact⟨c0,c1,c2,c3,c4,s,fo,fl,fc,l,j0,j1,j2,j3,j4,jz,jF,by simpa using z0,z1,z2,z3,z4,z5,z6⟩
 obtain⟨ps,hG⟩:=hG;refine(PI yR.1 yR.2 hG).mono fun e W' ⟨he,hnx⟩=>?_
 subst he;exact⟨_,rfl,_,_,_,[],p,[],zJ,trodAll_mk1 (shut_bool Tryz.underlying4 true),trodAll_mk1 (Ry _ hnx),rfl,hnx.frame _,fun h=>by cases h⟩
theorem BP:Tryz.checked.prog.inits.idxOf? 4=O:=by kernel_rfl
theorem XQ (os:Os)(aA:Type)(qO:TypeId×Y->aA):∃(w:F) (tape:Tape) (i:Input),w.os=os/\(w.forCall tape i).Shaped Tryz.checked.prog/\i.vars=[]/\Input.okWide Tryz.checked.prog (w.forCall tape i) .any w.heap.size 4 i/\
 (Rows.OpenSpec.upto Rows.textsSpec).preRow qO Tryz.checked.prog Tryz.f4 Rows.textsUptoRow.domain false Rows.textsUptoRow.laid (w.forCall tape i).memory i.args/\({}:Assume).holds Tryz.checked.prog (lone (Frame.enter Tryz.checked.prog 4 i.args .normal) [] (w.forCall tape i)):=by
 obtain⟨w0,hos,hv,hr,hl,kI,hx,jT⟩:=KE os
 exact witness_row_atRef (enc:=qO) (C:=Tryz.checked) false w0 #[Z O 0 0] hos (hv _) (hr _) kI
  (OpenSpec.preRow_of_cond 8 (hx aA qO) (by kernel_rfl) (fun k hk=>by cases hk;kernel_rfl) (jT aA qO) (hl _))
theorem XR (aA:Type)(qO:TypeId×Y->aA)(W:F)(base:Nat)(args:Array Y)(ds gs:List (DataW aA))(before:List MemPlace)
 (hval:∀(j:Nat) t v,Tryz.f4.params[j]?=M t->args[j]?=M v->Value.okWide K W .any base t v)
 (hW:DataW.Whole qO K Tryz.f4.params.toList Rows.textsSpec.vars false W args.toList ds gs before)(hk:Rows.uptoSmall aA (ds++gs)=true)(hL:laidMetH K Rows.textsUptoRow.laid W)(hS:W.ShapedOpen K):
 H K 4 args W fun e W'=> ∃v,e=G v/\Rows.textsSpec.post qO K Tryz.f4 false true false false W args v W':=
 Ui aA qO W base args ds gs before hval hW hk (Ue hL hS)
theorem BQ (os:Os)(started:os.Started)(aA:Type)(qO:TypeId×Y->aA)(aC:Stop.Interp):
 ReturnsInHanded {} Tryz.checked os 4 .any ((Rows.OpenSpec.upto Rows.textsSpec).preRow qO K Tryz.f4 Rows.textsUptoRow.domain false Rows.textsUptoRow.laid) (((Rows.OpenSpec.upto Rows.textsSpec).at aC).post qO K Tryz.f4 false true false false):=by
 refine returnsInHanded_of_row (C:=Tryz.checked) (s:=Rows.OpenSpec.upto Rows.textsSpec) Tryz.own started BP Tryz.func4 (XQ os aA qO) ?_;intro W base args ds gs before hval hW _ x_ _ hL hS _;exact XR aA qO W base args ds gs before hval hW (x_ _ rfl) hL hS
theorem PO:Rows.TextsUptoSaid:=
 OpenClaim.holds_of_cond 4 Tryz.f4 rfl rfl rfl rfl rfl rfl rfl ⟨rfl,rfl,rfl,rfl,rfl⟩ rfl rfl rfl rfl rfl (by kernel_rfl) Tryz.func4 BO
  (of_decide_eq_true (by kernel_rfl)) (by unfold Func.isWrapper;first|(rw[if_pos (by decide+kernel)];kernel_rfl)|(rw[if_neg (by decide+kernel)];exact⟨rfl,rfl⟩))
  (fun os started aA qO _ aC=>by rw[OpenClaim.pre_eq_preRow];exact BQ os started aA qO aC)
theorem KG (f:FuncId)(fn:Func)(hf:Tryz.pinned.checked.prog.funcNamed Rows.textsUptoRow.func=M f)(dh:Tryz.pinned.checked.prog.funcs[f]?=M fn):
 true=Tryz.pinned.checked.prog.looks []/\∀(j:Nat) t,fn.params[j]?=M t->Tryz.pinned.checked.prog.wantsStandIn t=false:=by
 obtain rfl:f=4:=Option.some.inj ((show Tryz.prog.funcNamed Rows.textsUptoRow.func=M 4 by kernel_rfl).symm.trans hf)|>.symm;obtain rfl:fn=Tryz.f4:=(Option.some.inj (Tryz.func4.symm.trans dh)).symm;refine⟨by kernel_rfl,fun j t ht=>?_⟩;rw[Tryz.params4]at ht;obtain rfl:t=22:=by simpa using Array.mem_of_getElem? ht
 exact(show Tryz.prog.wantsStandIn 22=false by kernel_rfl)
theorem texts_card:Rows.TextsUptoCardSaid:=
 Claim7.holds_tied_plain_at .later [] _ _ _ _ PO (fun _ h=>by cases h) (by kernel_rfl) (fun _ h=>by cases h) textsUpto_row_tie rfl ⟨rfl,rfl⟩ (by kernel_rfl) rfl KG (by kernel_rfl)
end Go.Proofs.YtfplgfodoiiobaaGreatDoor
