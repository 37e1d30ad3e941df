/- WitW, ClsW (joined). -/
import Derived.Deep.DeepHandedRow
import Derived.Deep.DeepWitnessRowRef
import Derived.JoinedOf
import Derived.KernelRfl
import Derived.LaidHandle
import Derived.LaidLaws
import Derived.LaidSub
import Derived.Lib.LaidTab
import Derived.OpenShut
import Derived.ProofKit
import Derived.Stop.LaidErr
import Derived.Test.YtfplgfodoiiobaaGreatDoorCards
import Derived.Test.YtfplgfodoiiobaaGreatDoorChecked
import Derived.Test.YtfplgfodoiiobaaGreatDoorD26
import Derived.Test.YtfplgfodoiiobaaGreatDoorRows
import Derived.Test.YtfplgfodoiiobaaGreatDoorTie
import Derived.WalkKit
open Option renaming none→O,some→M
open Go.Value renaming int→I,slice→Z,pointer→U
open Go.Obj renaming cells→C
open Go renaming World→F,Value→Y,Calls→H
open Go.Proofs.Tryz renaming prog→K
open Go.IntKind renaming i64→V
open Go.Ending renaming returned→G
open Go.Proofs.Tryz
namespace Go.Proofs.YtfplgfodoiiobaaGreatDoor
set_option maxRecDepth 100000
open Go.ChangeShapes Go.WideShapes Go.ChangeAt Go.RowKit
section
set_option maxHeartbeats 4000000
abbrev AdB:=@List.getElem?_range
abbrev AdM:=@List.nodup_append
abbrev Adi:=@Eq.symm
abbrev AdF:=@List.mem_range
variable {w W:F}{ps:Nat->Addr}{B wb g c:Nat}
def Mf (p:Program)(fits:TypeId->Bool):Nat->TypeId->Bool
 |0,_=>false
 |d+1,e=>fits e||(match p.underlying e with
  |some (.struct fs)=>fs.any fun f=>Mf p fits d f.type
  |some (.array _ e')=>Mf p fits d e'
  |_=>false)
theorem Ot {p:Program}{fits:TypeId->Bool}:∀(d:Nat) (e:TypeId) (count off n:Nat),rowAt p fits d e count off n=true->Mf p fits d e=true
 |0,_,_,_,_,h=>by simp[rowAt]at h
 |d+1,e,count,off,n,h=>by
  unfold rowAt at h;unfold Mf;simp only at h;split at h
  ·cases h
  ·rw[Bool.or_eq_true]at h ⊢;rcases h with h|h
   ·simp only[Abf]at h;exact Aac h.2
   ·right;rw[Abf]at h;obtain⟨-,h⟩:=h;split at h
    ·rename_i fs hfs;rw[Abf]at h;obtain⟨-,h⟩:=h;simp only[hfs];rw[Array.any_eq_true']at h ⊢;obtain⟨f,hf,hx⟩:=h;simp only[Abf]at hx;exact⟨f,hf,Ot d _ _ _ _ hx.2⟩
    ·rename_i m e' he;simp only[he];exact Ot d _ _ _ _ h
    ·cases h
theorem Tryz.cellsES:Tryz.prog.cellsOf 376=1:=by kernel_rfl
theorem Tryz.cellsS9:Tryz.prog.cellsOf 9=1:=by kernel_rfl
theorem Tryz.star: "*"++ "errors.errorString"= "*errors.errorString":=by decide
theorem Tryz.rowES (u:TypeId)(h:Tryz.prog.typeName? 3 u=M "*errors.errorString"):u=358:=
 typeName_ptr_named (nm:= "errors.errorString") (by rw[Tryz.star];kernel_rfl) (by kernel_rfl) (by decide) u (by rw[Tryz.star];exact h)
theorem Tryz.depthPos:Tryz.prog.depth=(Tryz.prog.depth-1)+1:=by kernel_rfl
theorem Tryz.guardAll:QM.all (fun T=>!Mf K (sameLayout K Tryz.prog.depth · 376) Tryz.prog.depth T)=true:=by kernel_rfl
theorem guard_of {a:Addr}{c:Array Y}{t:TypeId}(h:W.has K .any 0 a 376 1)(hb:W.heap[a.block]?=M (C c t (0,0))):a.spot=O/\Nz t:=by
 obtain⟨-,h1,row,cells,h2,h3⟩:=h;refine⟨h1,fun hm=>?_⟩
 have er:row=t:=by
  unfold World.shape? at h2;rw[hb]at h2;simp at h2;exact h2.1.symm
 subst er;rw[Tryz.depthPos]at h3;unfold liesAt at h3;rw[Bool.or_eq_true]at h3;rcases h3 with h3|h3
 ·have h4:=Ot _ _ _ _ _ h3;have h5:=List.all_eq_true.1 Tryz.guardAll row hm;rw[h4]at h5;cases h5
 ·rw[underlying376]at h3;cases h3
theorem Ev {n:String}{text:List UInt8}{r:List (String×DataW Unit)}{ps:List MemPlace}
 (h:DataW.LaidVars K W ((n,.iface "*errors.errorString" (.ptr (.agg [.lit (.string text)])))::r) ps)
 (WL:∀b off,MemPlace.cell b off∈ps->(∃c t,W.heap[b]?=M (C c t (0,0)))/\∀u v,W.cell? ⟨b,off,O⟩=M (.iface u v)->Value.okWide K W .any 0 u v)
 (hg:Tryz.prog.globalNamed n=M g)(ht:(Tryz.prog.globals[g]?).map (·.type)=M 88):
 ∃a q,W.var? K n=M #[jH a]/\DataW.LaidVars K W r q/\ps=MemPlace.cell g 0::MemPlace.cell a.block a.off::q/\a.spot=O/\∃c t,W.heap[a.block]?=M (C c t (0,0))/\Nz t:=by
 obtain⟨g0,t0,cs0,f0,p0,q0,VP,ht0,hv0,Sl,hr,e0⟩:=h;obtain rfl:=AbK (hg.symm.trans VP);obtain rfl:=AbK (ht.symm.trans ht0);obtain⟨l0⟩:=cs0
 have ok0:∀u v,l0=[.iface u v]->Value.okWide K W .any 0 u v:=fun u v e=>by
  subst e;exact(WL g 0 (by rw[e0];simp[MemPlace.row])).2 u v (by simpa using World.var?_cell VP hv0 0)
 obtain⟨a0,s0,rfl,Bh,VE,oG,rfl⟩:=errorString_of_trod underlying88 Tryz.rowES underlying358 underlying376 rfl rfl underlying9 Tryz.cellsES Tryz.cellsS9 Sl ok0;have e1:ps=MemPlace.cell g 0::MemPlace.cell a0.block a0.off::q0:=by rw[e0];simp[MemPlace.row]
 have hw:=ok0 _ _ rfl
 have hh:W.has K .any 0 a0 376 1:=by
  unfold Value.okWide at hw;rw[underlying358]at hw;simp only[Cell.okWide,Cell.ok,underlying358]at hw;exact hw
 obtain⟨c,t,hb⟩:=(WL a0.block a0.off (by rw[e1];simp)).1;obtain⟨g1,g2⟩:=guard_of hh hb;exact⟨a0,q0,hv0,hr,e1,g1,c,t,hb,g2⟩
theorem Tryz.globTypes:(List.range 7).map (fun g=>(((begin K (fun _ _=>0) default).world.heap[g]?).bind Obj.row?).map (·.2))=[M 88,M 88,M 88,M 88,M 88,M 282,M 350]:=by kernel_rfl
theorem Tryz.globSize:Tryz.prog.globals.size=9:=by kernel_rfl
theorem Tryz.errRows:(List.range Tryz.prog.types.size).all (fun t=>!Tryz.prog.rowNamed t [101,114,114,111,114]||t==88)=true:=by kernel_rfl
theorem Tryz.rtypeRow:(Tryz.prog.cutTypes.find? (·.1== "internal/reflectlite.rtype")).map (·.2)=M 318:=by kernel_rfl
theorem xK {n:String}{t:TypeId}{cs:Array Y}(hS:W.ShapedOpen K)(hg:Tryz.prog.globalNamed n=M g)(bP:g<9)(hz:(((begin K (fun _ _=>0) default).world.heap[g]?).bind Obj.row?).map (·.2)=M t)(hv:W.var? K n=M cs):W.heap[g]?=M (C cs t (0,0)):=by
 obtain⟨z,nM,oP⟩:=AbP.1 hz;obtain⟨zero,t'⟩:=z;simp only at oP;subst oP;obtain⟨cs',h1,-,-⟩:=hS.1 g zero t' (by rw[Tryz.globSize];exact bP) nM;unfold World.var? at hv;rw[hg]at hv;simp only[Option.bind_some,h1]at hv;cases hv
 exact h1
theorem Tryz.g0:Tryz.prog.globalNamed "quill/ledger.ErrExhausted"=M 0:=by kernel_rfl
theorem Tryz.g1:Tryz.prog.globalNamed "quill/disk.ErrRefused"=M 1:=by kernel_rfl
theorem Tryz.g2:Tryz.prog.globalNamed "quill/disk.ErrStopped"=M 2:=by kernel_rfl
theorem Tryz.g3:Tryz.prog.globalNamed "quill/ledger.ErrSpoilt"=M 3:=by kernel_rfl
theorem Tryz.g4:Tryz.prog.globalNamed "quill/ledger.errMissing"=M 4:=by kernel_rfl
theorem Tryz.g5:Tryz.prog.globalNamed "errors.errorType"=M 5:=by kernel_rfl
theorem Tryz.g6:Tryz.prog.globalNamed "internal/strconv.uint64pow10"=M 6:=by kernel_rfl
theorem Tryz.gTypes:(List.range 5).map (fun g=>(Tryz.prog.globals[g]?).map (·.type))=[M 88,M 88,M 88,M 88,M 88]:=by kernel_rfl
theorem Tryz.g6Type:(Tryz.prog.globals[6]?).map (·.type)=M 350:=by kernel_rfl
theorem Tryz.cellsTab:Tryz.prog.cellsOf 350=20:=by kernel_rfl
theorem Tryz.cellsU64:Tryz.prog.cellsOf 341=1:=by kernel_rfl
theorem ls_get {α:Type}{l r:List α}(h:l=r)(i:Nat):l[i]?=r[i]?:=by rw[h]
theorem Bq {t:TypeId}(h:[M 88,M 88,M 88,M 88,M 88,M 282,M 350][g]?=M (M t))(hg:g<7):(((begin K (fun _ _=>0) default).world.heap[g]?).bind Obj.row?).map (·.2)=M t:=by
 have e:=ls_get Tryz.globTypes g;rw[h,Abk,AdB hg]at e;simpa using e
theorem zX (hg:g<5):(Tryz.prog.globals[g]?).map (·.type)=M 88:=by
 have e:=ls_get Tryz.gTypes g;rw[Abk,AdB hg]at e
 have e2:[M 88,M 88,M 88,M 88,M (88:TypeId)][g]?=M (M 88):=by
  have:g=0\/g=1\/g=2\/g=3\/g=4:=by omega
  rcases this with rfl|rfl|rfl|rfl|rfl<;>rfl
 rw[e2]at e;simpa using e
abbrev BA (W:F)(ps:List MemPlace):Prop:=∀b off,MemPlace.cell b off∈ps->(∃c t,W.heap[b]?=M (C c t (0,0)))/\∀u v,W.cell? ⟨b,off,O⟩=M (.iface u v)->Value.okWide K W .any 0 u v
theorem SK (hL:laidMetH K Rows.textsUptoRow.laid W)(hS:W.ShapedOpen K):∃ps,Gl W ps:=by
 obtain⟨h1,h2⟩:=laidMetH_iff.1 hL;have Mr:laidMet K [("math/bits.deBruijn32tab",Rows.laid_math_bits_deBruijn32tab),("math/bits.deBruijn64tab",Rows.laid_math_bits_deBruijn64tab),("internal/strconv.uint64pow10",Rows.laid_internal_strconv_uint64pow10),("quill/disk.ErrRefused",Rows.laid_quill_disk_ErrRefused),("quill/disk.ErrStopped",Rows.laid_quill_disk_ErrStopped),("quill/ledger.ErrSpoilt",Rows.laid_quill_ledger_ErrSpoilt),("quill/ledger.ErrExhausted",Rows.laid_quill_ledger_ErrExhausted),("quill/ledger.errMissing",Rows.laid_quill_ledger_errMissing)] W:=h1;obtain⟨ps,hv,hnd,hrows0⟩:=Mr;have WL:BA W ps:=hrows0;obtain⟨x1,x2,x3,x4,p1,q1,x5,x6,x7,x8,hv,e1⟩:=hv;obtain⟨y1,y2,y3,y4,p2,q2,y5,y6,y7,y8,hv,e2⟩:=hv;obtain⟨g6,t6,cs6,f6,p3,q3,vC,ht6,hv6,je,hv,e3⟩:=hv;have Gn:BA W q3:=fun b off hb=>WL b off (by rw[e1,e2,e3];simp[hb])
 have Pb:q3.Nodup:=by
  rw[e1,e2,e3]at hnd;exact((AdM.1 ((AdM.1 ((AdM.1 hnd).2.1)).2.1)).2.1)
 obtain⟨a1,r1,w1,hv,d1,s1,b1⟩:=Ev hv Gn Tryz.g1 (zX (by omega));have Gc:BA W r1:=fun b off hb=>Gn b off (by rw[d1];simp[hb]);obtain⟨a2,r2,w2,hv,d2,s2,b2⟩:=Ev hv Gc Tryz.g2 (zX (by omega));have Gd:BA W r2:=fun b off hb=>Gc b off (by rw[d2];simp[hb]);obtain⟨a3,r3,w3,hv,d3,s3,b3⟩:=Ev hv Gd Tryz.g3 (zX (by omega));have Vx:BA W r3:=fun b off hb=>Gd b off (by rw[d3];simp[hb]);obtain⟨a0,r0,w0,hv,d0,s0,b0⟩:=Ev hv Vx Tryz.g0 (zX (by omega));have QH:BA W r0:=fun b off hb=>Vx b off (by rw[d0];simp[hb]);obtain⟨a4,r4,w4,hv,d4,s4,b4⟩:=Ev hv QH Tryz.g4 (zX (by omega));rw[d1,d2,d3,d0,d4]at Pb;refine⟨fun k=>if k=0 then a0 else if k=1 then a1 else if k=2 then a2 else if k=3 then a3 else a4,⟨fun k hk=>?_,fun i j hi hj e=>?_⟩,fun k hk=>?_,?_,?_⟩
 ·have hc:k=0\/k=1\/k=2\/k=3\/k=4:=by omega
  rcases hc with rfl|rfl|rfl|rfl|rfl
  ·exact xK hS Tryz.g0 (by omega) (Bq rfl (by omega)) w0
  ·exact xK hS Tryz.g1 (by omega) (Bq rfl (by omega)) w1
  ·exact xK hS Tryz.g2 (by omega) (Bq rfl (by omega)) w2
  ·exact xK hS Tryz.g3 (by omega) (Bq rfl (by omega)) w3
  ·exact xK hS Tryz.g4 (by omega) (Bq rfl (by omega)) w4
 ·have nd:∀ {x y:Addr},x=y->MemPlace.cell x.block x.off=MemPlace.cell y.block y.off:=fun e=>by rw[e]
  simp only[List.nodup_cons,AaF,not_or]at Pb;obtain⟨-,⟨-,n12,-,n13,-,n10,-,n14,-⟩,-,⟨-,n23,-,n20,-,n24,-⟩,-,⟨-,n30,-,n34,-⟩,-,⟨-,n04,-⟩,-⟩:=Pb;have Qv:i=0\/i=1\/i=2\/i=3\/i=4:=by omega
  have rz:j=0\/j=1\/j=2\/j=3\/j=4:=by omega
  rcases Qv with rfl|rfl|rfl|rfl|rfl<;>rcases rz with rfl|rfl|rfl|rfl|rfl
  ·rfl
  ·exact absurd (nd (Adi e)) n10
  ·exact absurd (nd (Adi e)) n20
  ·exact absurd (nd (Adi e)) n30
  ·exact absurd (nd e) n04
  ·exact absurd (nd e) n10
  ·rfl
  ·exact absurd (nd e) n12
  ·exact absurd (nd e) n13
  ·exact absurd (nd e) n14
  ·exact absurd (nd e) n20
  ·exact absurd (nd (Adi e)) n12
  ·rfl
  ·exact absurd (nd e) n23
  ·exact absurd (nd e) n24
  ·exact absurd (nd e) n30
  ·exact absurd (nd (Adi e)) n13
  ·exact absurd (nd (Adi e)) n23
  ·rfl
  ·exact absurd (nd e) n34
  ·exact absurd (nd (Adi e)) n04
  ·exact absurd (nd (Adi e)) n14
  ·exact absurd (nd (Adi e)) n24
  ·exact absurd (nd (Adi e)) n34
  ·rfl
 ·have hc:k=0\/k=1\/k=2\/k=3\/k=4:=by omega
  rcases hc with rfl|rfl|rfl|rfl|rfl
  ·exact b0
  ·exact b1
  ·exact b2
  ·exact b3
  ·exact b4
 ·have h2':handlesMet K [("errors.errorType",Rows.laid_errors_errorType)] W:=h2;obtain⟨name,u,ty,k1,k2,k3,k4,k5⟩:∃name u ty,(Rows.laid_errors_errorType (H:=Unit)).handleName?=M name/\(Tryz.prog.cutTypes.find? (·.1== "internal/reflectlite.rtype")).map (·.2)=M u/\ty<Tryz.prog.types.size/\Tryz.prog.rowNamed ty name=true/\W.var? K "errors.errorType"=M #[.iface u (.agg #[typeHandle K ty])]:=h2' ("errors.errorType",Rows.laid_errors_errorType) (AbY.2 rfl);obtain rfl:=AbK (Tryz.rtypeRow.symm.trans k2);have kn:name=[101,114,114,111,114]:=AbK (k1.symm.trans (by rfl));subst kn
  have kt:ty=88:=by
   have q:=List.all_eq_true.1 Tryz.errRows ty (AdF.2 k3);rw[k4]at q;simpa using q
  subst kt;have q:=xK hS Tryz.g5 (by omega) (Bq rfl (by omega)) k5;unfold typeHandle at q;rw[Tryz.globSize]at q;exact q
 ·obtain rfl:=AbK (Tryz.g6.symm.trans vC);obtain rfl:=AbK (Tryz.g6Type.symm.trans ht6);have q:=Lib.cells_of_tab (zs:=Lib.pow10Tab) underlying350 underlying341 Tryz.cellsU64 Tryz.cellsTab je;have e6:cs6=(Lib.pow10Tab.map fun z=>Value.int .u64 z).toArray:=by rw[<-q]
  rw[e6]at hv6;exact xK hS Tryz.g6 (by omega) (Bq rfl (by omega)) hv6
theorem Tryz.own:ownKnob Tryz.prog.godebug=O:=by kernel_rfl
theorem Tryz.laidOut:laidOutB K=true:=by kernel_rfl
end
open Go
theorem NE (os:Os):∃w0:F,w0.os=os/\(∀args:Array Y,(w0.forCall (fun _ _=>0) ⟨#[],args,[]⟩).variablesRefB Tryz.checked.prog=true)
 /\(∀args:Array Y,((w0.forCall (fun _ _=>0) ⟨#[],args,[]⟩).heap.toList.drop Tryz.checked.prog.globals.size).take ((begin Tryz.checked.prog (fun _ _=>0) default).world.heap.size-Tryz.checked.prog.globals.size)=(begin Tryz.checked.prog (fun _ _=>0) default).world.heap.toList.drop Tryz.checked.prog.globals.size)
 /\(∀args:Array Y,laidMetH K Rows.wholesUptoRow.laid (w0.forCall (fun _ _=>0) ⟨#[],args,[]⟩).memory)
 /\Input.okWideB Tryz.checked.prog (w0.forCall (fun _ _=>0) ⟨#[],#[Z O 0 0],[]⟩) 13 ⟨#[],#[Z O 0 0],[]⟩=true
 /\(∀(aC:Type) (Jq:TypeId×Y->aC),DataW.whole Jq K (w0.forCall (fun _ _=>0) ⟨#[],#[Z O 0 0],[]⟩).memory Tryz.f13.params.toList Rows.wholesSpec.vars false #[Value.slice O 0 0].toList 8=M ([.nil],[],[]))
 /\(∀(aC:Type) (Jq:TypeId×Y->aC),(Rows.OpenSpec.upto Rows.wholesSpec).bare.sizedB Jq K Tryz.f13 false (w0.forCall (fun _ _=>0) ⟨#[],#[Z O 0 0],[]⟩).memory #[Z O 0 0] 8=true):=
 ⟨(let w0:=World.holding K os ⟨#[C #[.string ⟨#[116,104,101,32,100,105,115,107,32,114,101,102,117,115,101,115,32,105,116]⟩] 376,C #[.string ⟨#[116,104,101,32,109,97,99,104,105,110,101,32,115,116,111,112,115,32,97,104,101,97,100,32,111,102,32,105,116]⟩] 376,C #[.string ⟨#[102,105,108,101,32,50,32,105,115,32,110,111,32,99,104,101,99,107,112,111,105,110,116]⟩] 376,C #[.string ⟨#[116,104,101,114,101,32,105,115,32,110,111,32,102,117,114,116,104,101,114,32,101,112,111,99,104]⟩] 376,C #[.string ⟨#[116,104,101,32,98,117,102,102,101,114,32,104,97,115,32,110,111,32,115,117,99,104,32,116,101,120,116]⟩] 376],#[],[]⟩;
  { w0 with heap:=(((((((((w0.heap.modify 7 fun
   | C _ t frozen=> C #[I .u8 0,I .u8 1,I .u8 28,I .u8 2,I .u8 29,I .u8 14,I .u8 24,I .u8 3,I .u8 30,I .u8 22,I .u8 20,I .u8 15,I .u8 25,I .u8 17,I .u8 4,I .u8 8,I .u8 31,I .u8 27,I .u8 13,I .u8 23,I .u8 21,I .u8 19,I .u8 16,I .u8 7,I .u8 26,I .u8 12,I .u8 18,I .u8 6,I .u8 11,I .u8 5,I .u8 10,I .u8 9] t frozen
   |o=>o).modify 8 fun
   | C _ t frozen=> C #[I .u8 0,I .u8 1,I .u8 56,I .u8 2,I .u8 57,I .u8 49,I .u8 28,I .u8 3,I .u8 61,I .u8 58,I .u8 42,I .u8 50,I .u8 38,I .u8 29,I .u8 17,I .u8 4,I .u8 62,I .u8 47,I .u8 59,I .u8 36,I .u8 45,I .u8 43,I .u8 51,I .u8 22,I .u8 53,I .u8 39,I .u8 33,I .u8 30,I .u8 24,I .u8 18,I .u8 12,I .u8 5,I .u8 63,I .u8 55,I .u8 48,I .u8 27,I .u8 60,I .u8 41,I .u8 37,I .u8 16,I .u8 46,I .u8 35,I .u8 44,I .u8 21,I .u8 52,I .u8 32,I .u8 23,I .u8 11,I .u8 54,I .u8 26,I .u8 40,I .u8 15,I .u8 34,I .u8 20,I .u8 31,I .u8 10,I .u8 25,I .u8 14,I .u8 19,I .u8 9,I .u8 13,I .u8 8,I .u8 7,I .u8 6] t frozen
   |o=>o).modify 6 fun
   | C _ t frozen=> C #[I .u64 1,I .u64 10,I .u64 100,I .u64 1000,I .u64 10000,I .u64 100000,I .u64 1000000,I .u64 10000000,I .u64 100000000,I .u64 1000000000,I .u64 10000000000,I .u64 100000000000,I .u64 1000000000000,I .u64 10000000000000,I .u64 100000000000000,I .u64 1000000000000000,I .u64 10000000000000000,I .u64 100000000000000000,I .u64 1000000000000000000,I .u64 10000000000000000000] t frozen
   |o=>o).modify 5 fun
   | C _ t frozen=> C #[.iface 318 (.agg #[U (M ⟨9,88,O⟩)])] t frozen
   |o=>o).modify 1 fun
   | C _ t frozen=> C #[.iface 358 (U (M ⟨14,0,O⟩))] t frozen
   |o=>o).modify 2 fun
   | C _ t frozen=> C #[.iface 358 (U (M ⟨15,0,O⟩))] t frozen
   |o=>o).modify 3 fun
   | C _ t frozen=> C #[.iface 358 (U (M ⟨16,0,O⟩))] t frozen
   |o=>o).modify 0 fun
   | C _ t frozen=> C #[.iface 358 (U (M ⟨17,0,O⟩))] t frozen
   |o=>o).modify 4 fun
   | C _ t frozen=> C #[.iface 358 (U (M ⟨18,0,O⟩))] t frozen
   |o=>o) }),
  rfl,(fun args=>by kernel_rfl),(fun args=>by kernel_rfl),(fun args=>laidMetH_of_parts (laidMet_of_run' 8 (by kernel_rfl) (by kernel_rfl)) (by kernel_rfl)),by kernel_rfl,(fun aC Jq=>by kernel_rfl),(fun aC Jq=>by kernel_rfl)⟩
theorem Qs:(Rows.wholesUptoRow.inPlace==Tryz.prog.inPlace 13)=true:=by kernel_rfl
theorem Jr:(Rows.wholesUptoRow.unfollowed==Tryz.prog.unfollowed 13)=true:=by kernel_rfl
theorem Ou:(Rows.wholesUptoRow.recurses==Tryz.prog.recurses 13)=true:=by kernel_rfl
theorem Xq:(Rows.wholesUptoRow.named==Tryz.prog.varsNamed 13)=true:=by kernel_rfl
theorem Xr:joinedFacts K 13 Tryz.f13 (Rows.OpenSpec.upto Rows.wholesSpec).bare Rows.wholesUptoRow=true:=by
 unfold joinedFacts;rw[Qs,Jr,Ou,Xq]
 kernel_rfl
end Go.Proofs.YtfplgfodoiiobaaGreatDoor
