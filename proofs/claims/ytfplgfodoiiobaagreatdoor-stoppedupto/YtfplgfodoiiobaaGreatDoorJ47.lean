/- SwO, SwP, Wit, SwQ, KwS, KwT, KwU, KpM (joined). -/
import Derived.Deep.DeepHandedRow
import Derived.Deep.DeepWitnessRowRef
import Derived.Deep.SlicePairs
import Derived.LaidHandle
import Derived.LaidLaws
import Derived.LaidSub
import Derived.Lib.LaidTab
import Derived.OpenShut
import Derived.ProofKit
import Derived.Stop.LaidErr
import Derived.Test.YtfplgfodoiiobaaGreatDoorCards
import Derived.Test.YtfplgfodoiiobaaGreatDoorJ46
import Derived.Test.YtfplgfodoiiobaaGreatDoorTie
open Option renaming none→O,some→M
open Go.Value renaming int→I,slice→Z,pointer→U
open Go.IntKind renaming i64→V
open Go.Obj renaming cells→C
open Go.Ending renaming returned→G
open Go renaming World→F,Value→Y,Calls→H
open Go.Proofs.Tryz renaming prog→K
namespace Go.Proofs.YtfplgfodoiiobaaGreatDoor
set_option maxHeartbeats 2000000
set_option maxRecDepth 100000
open Go.RowKit
open Go.ChangeShapes Go.WideShapes Go.ChangeAt Go.RowKit
open Go.ChangeShapes Go.WideShapes Go.ChangeAt Go.RowKit Go.Deep
variable {w W w':F}{d k qp qx:Nat}{ps:Nat->Addr}{g:Gm}{X aB:Nat->Prop}{fs:List bF}{t:Tm}{L:List AF}{p0:List MemPlace}{x:St}{a b c e:Y}
def Ib (p:Program)(fits:TypeId->Bool):Nat->TypeId->Bool
 |0,_=>false
 |d+1,e=>fits e||(match p.underlying e with
  |some (.struct fs)=>fs.any fun f=>Ib p fits d f.type
  |some (.array _ e')=>Ib p fits d e'
  |_=>false)
theorem Kj {p:Program}{fits:TypeId->Bool}:∀(d:Nat) (e:TypeId) (count off n:Nat),rowAt p fits d e count off n=true->Ib p fits d e=true
 |0,_,_,_,_,h=>by simp[rowAt]at h
 |d+1,e,count,off,n,h=>by
  unfold rowAt at h;unfold Ib;simp only at h;split at h
  ·cases h
  ·rw[Bool.or_eq_true]at h ⊢;rcases h with h|h
   ·simp only[Bool.and_eq_true]at h;exact Or.inl h.2
   ·right;rw[Bool.and_eq_true]at h;obtain⟨-,h⟩:=h;split at h
    ·rename_i fs hfs;rw[Bool.and_eq_true]at h;obtain⟨-,h⟩:=h;simp only[hfs];rw[Array.any_eq_true']at h ⊢;obtain⟨f,hf,hx⟩:=h;simp only[Bool.and_eq_true]at hx;exact⟨f,hf,Kj d _ _ _ _ hx.2⟩
    ·rename_i m e' he;simp only[he];exact Kj d _ _ _ _ h
    ·cases h
theorem Tryz.cellsES:Tryz.prog.cellsOf 376=1:=by kernel_rfl
theorem Tryz.cellsS9:Tryz.prog.cellsOf 9=1:=by kernel_rfl
theorem Tryz.star: "*"++ "errors.errorString"= "*errors.errorString":=by decide
theorem Tryz.rowES (u:TypeId)(h:Tryz.prog.typeName? 3 u=M "*errors.errorString"):u=358:=
 typeName_ptr_named (nm:= "errors.errorString") (by rw[Tryz.star];kernel_rfl) (by kernel_rfl) (by decide) u (by rw[Tryz.star];exact h)
theorem Tryz.depthPos:Tryz.prog.depth=(Tryz.prog.depth-1)+1:=by kernel_rfl
theorem Tryz.guardAll:PN.all (fun T=>!Ib K (sameLayout K Tryz.prog.depth · 376) Tryz.prog.depth T)=true:=by kernel_rfl
theorem guard_of {a:Addr}{c:Array Y}{t:TypeId}(h:W.has K .any 0 a 376 1)(hb:W.heap[a.block]?=M (C c t (0,0))):a.spot=O/\Js t:=by
 obtain⟨-,h1,row,cells,h2,h3⟩:=h;refine⟨h1,fun hm=>?_⟩
 have er:row=t:=by
  unfold World.shape? at h2;rw[hb]at h2;simp at h2;exact h2.1.symm
 subst er;rw[Tryz.depthPos]at h3;unfold liesAt at h3;rw[Bool.or_eq_true]at h3;rcases h3 with h3|h3
 ·have h4:=Kj _ _ _ _ _ h3;have h5:=List.all_eq_true.1 Tryz.guardAll row hm;rw[h4]at h5;cases h5
 ·rw[Tryz.underlying376]at h3;cases h3
theorem Ai {n:String}{text:List UInt8}{r:List (String×DataW Unit)}{ps:List MemPlace}{g:Nat}
 (h:DataW.LaidVars K W ((n,.iface "*errors.errorString" (.ptr (.agg [.lit (.string text)])))::r) ps)
 (VP:∀b off,MemPlace.cell b off∈ps->(∃c t,W.heap[b]?=M (C c t (0,0)))/\∀u v,W.cell? ⟨b,off,O⟩=M (.iface u v)->Value.okWide K W .any 0 u v)
 (hg:Tryz.prog.globalNamed n=M g)(ht:(Tryz.prog.globals[g]?).map (·.type)=M 88):
 ∃a q,W.var? K n=M #[gY a]/\DataW.LaidVars K W r q/\ps=MemPlace.cell g 0::MemPlace.cell a.block a.off::q/\a.spot=O/\∃c t,W.heap[a.block]?=M (C c t (0,0))/\Js t:=by
 obtain⟨g0,t0,cs0,f0,p0,q0,YL,ht0,hv0,Wt,hr,e0⟩:=h;obtain rfl:=Option.some.inj (hg.symm.trans YL);obtain rfl:=Option.some.inj (ht.symm.trans ht0);obtain⟨l0⟩:=cs0
 have ok0:∀u v,l0=[.iface u v]->Value.okWide K W .any 0 u v:=fun u v e=>by
  subst e;exact(VP g 0 (by rw[e0];simp[MemPlace.row])).2 u v (by simpa using World.var?_cell YL hv0 0)
 obtain⟨a0,s0,rfl,Nq,Tv,tO,rfl⟩:=errorString_of_trod Tryz.underlying88 Tryz.rowES Tryz.underlying358 Tryz.underlying376 rfl rfl Tryz.underlying9 Tryz.cellsES Tryz.cellsS9 Wt ok0;have e1:ps=MemPlace.cell g 0::MemPlace.cell a0.block a0.off::q0:=by rw[e0];simp[MemPlace.row]
 have hw:=ok0 _ _ rfl
 have hh:W.has K .any 0 a0 376 1:=by
  unfold Value.okWide at hw;rw[Tryz.underlying358]at hw;simp only[Cell.okWide,Cell.ok,Tryz.underlying358]at hw;exact hw
 obtain⟨c,t,hb⟩:=(VP a0.block a0.off (by rw[e1];simp)).1;obtain⟨g1,g2⟩:=guard_of hh hb;exact⟨a0,q0,hv0,hr,e1,g1,c,t,hb,g2⟩
theorem Tryz.globTypes:(List.range 7).map (fun g=>(((begin K (fun _ _=>0) default).world.heap[g]?).bind Obj.row?).map (·.2))=[M 88,M 88,M 88,M 88,M 88,M 282,M 350]:=by kernel_rfl
theorem Tryz.globSize:Tryz.prog.globals.size=9:=by kernel_rfl
theorem Tryz.errRows:(List.range Tryz.prog.types.size).all (fun t=>!Tryz.prog.rowNamed t [101,114,114,111,114]||t==88)=true:=by kernel_rfl
theorem Tryz.rtypeRow:(Tryz.prog.cutTypes.find? (·.1== "internal/reflectlite.rtype")).map (·.2)=M 318:=by kernel_rfl
theorem uU {n:String}{g:Nat}{t:TypeId}{cs:Array Y}(hS:W.ShapedOpen K)(hg:Tryz.prog.globalNamed n=M g)(bV:g<9)(hz:(((begin K (fun _ _=>0) default).world.heap[g]?).bind Obj.row?).map (·.2)=M t)(hv:W.var? K n=M cs):W.heap[g]?=M (C cs t (0,0)):=by
 obtain⟨z,tQ,uW⟩:=Option.map_eq_some_iff.1 hz;obtain⟨zero,t'⟩:=z;simp only at uW;subst uW;obtain⟨cs',h1,-,-⟩:=hS.1 g zero t' (by rw[Tryz.globSize];exact bV) tQ;unfold World.var? at hv;rw[hg]at hv;simp only[Option.bind_some,h1]at hv;cases hv
 exact h1
theorem Tryz.g0:Tryz.prog.globalNamed "quill/ledger.ErrExhausted"=M 0:=by kernel_rfl
theorem Tryz.g1:Tryz.prog.globalNamed "quill/disk.ErrRefused"=M 1:=by kernel_rfl
theorem Tryz.g2:Tryz.prog.globalNamed "quill/disk.ErrStopped"=M 2:=by kernel_rfl
theorem Tryz.g3:Tryz.prog.globalNamed "quill/ledger.ErrSpoilt"=M 3:=by kernel_rfl
theorem Tryz.g4:Tryz.prog.globalNamed "quill/ledger.errMissing"=M 4:=by kernel_rfl
theorem Tryz.g5:Tryz.prog.globalNamed "errors.errorType"=M 5:=by kernel_rfl
theorem Tryz.g6:Tryz.prog.globalNamed "internal/strconv.uint64pow10"=M 6:=by kernel_rfl
theorem Tryz.gTypes:(List.range 5).map (fun g=>(Tryz.prog.globals[g]?).map (·.type))=[M 88,M 88,M 88,M 88,M 88]:=by kernel_rfl
theorem Tryz.g6Type:(Tryz.prog.globals[6]?).map (·.type)=M 350:=by kernel_rfl
theorem Tryz.cellsTab:Tryz.prog.cellsOf 350=20:=by kernel_rfl
theorem Tryz.cellsU64:Tryz.prog.cellsOf 341=1:=by kernel_rfl
theorem ls_get {α:Type}{l r:List α}(h:l=r)(i:Nat):l[i]?=r[i]?:=by rw[h]
theorem yA {g:Nat}{t:TypeId}(h:[M 88,M 88,M 88,M 88,M 88,M 282,M 350][g]?=M (M t))(hg:g<7):(((begin K (fun _ _=>0) default).world.heap[g]?).bind Obj.row?).map (·.2)=M t:=by
 have e:=ls_get Tryz.globTypes g;rw[h,List.getElem?_map,List.getElem?_range hg]at e;simpa using e
theorem wX {g:Nat}(hg:g<5):(Tryz.prog.globals[g]?).map (·.type)=M 88:=by
 have e:=ls_get Tryz.gTypes g;rw[List.getElem?_map,List.getElem?_range hg]at e
 have e2:[M 88,M 88,M 88,M 88,M (88:TypeId)][g]?=M (M 88):=by
  have:g=0\/g=1\/g=2\/g=3\/g=4:=by omega
  rcases this with rfl|rfl|rfl|rfl|rfl<;>rfl
 rw[e2]at e;simpa using e
abbrev Yh (W:F)(ps:List MemPlace):Prop:=∀b off,MemPlace.cell b off∈ps->(∃c t,W.heap[b]?=M (C c t (0,0)))/\∀u v,W.cell? ⟨b,off,O⟩=M (.iface u v)->Value.okWide K W .any 0 u v
theorem Eh (hL:laidMetH K Rows.textsUptoRow.laid W)(hS:W.ShapedOpen K):∃ps,Gl W ps:=by
 obtain⟨h1,h2⟩:=laidMetH_iff.1 hL;have Tn:laidMet K [("math/bits.deBruijn32tab",Rows.laid_math_bits_deBruijn32tab),("math/bits.deBruijn64tab",Rows.laid_math_bits_deBruijn64tab),("internal/strconv.uint64pow10",Rows.laid_internal_strconv_uint64pow10),("quill/disk.ErrRefused",Rows.laid_quill_disk_ErrRefused),("quill/disk.ErrStopped",Rows.laid_quill_disk_ErrStopped),("quill/ledger.ErrSpoilt",Rows.laid_quill_ledger_ErrSpoilt),("quill/ledger.ErrExhausted",Rows.laid_quill_ledger_ErrExhausted),("quill/ledger.errMissing",Rows.laid_quill_ledger_errMissing)] W:=h1;obtain⟨ps,hv,hnd,hrows0⟩:=Tn;have VP:Yh W ps:=hrows0;obtain⟨x1,x2,x3,x4,p1,q1,x5,x6,x7,x8,hv,e1⟩:=hv;obtain⟨y1,y2,y3,y4,p2,q2,y5,y6,y7,y8,hv,e2⟩:=hv;obtain⟨g6,t6,cs6,f6,p3,q3,yJ,ht6,hv6,hd6,hv,e3⟩:=hv;have Lr:Yh W q3:=fun b off hb=>VP b off (by rw[e1,e2,e3];simp[hb])
 have Wz:q3.Nodup:=by
  rw[e1,e2,e3]at hnd;exact((List.nodup_append.1 ((List.nodup_append.1 ((List.nodup_append.1 hnd).2.1)).2.1)).2.1)
 obtain⟨a1,r1,w1,hv,d1,s1,b1⟩:=Ai hv Lr Tryz.g1 (wX (by omega));have Jr:Yh W r1:=fun b off hb=>Lr b off (by rw[d1];simp[hb])
 obtain⟨a2,r2,w2,hv,d2,s2,b2⟩:=Ai hv Jr Tryz.g2 (wX (by omega));have OW:Yh W r2:=fun b off hb=>Jr b off (by rw[d2];simp[hb])
 obtain⟨a3,r3,w3,hv,d3,s3,b3⟩:=Ai hv OW Tryz.g3 (wX (by omega));have UA:Yh W r3:=fun b off hb=>OW b off (by rw[d3];simp[hb])
 obtain⟨a0,r0,w0,hv,d0,s0,b0⟩:=Ai hv UA Tryz.g0 (wX (by omega));have PE:Yh W r0:=fun b off hb=>UA b off (by rw[d0];simp[hb])
 obtain⟨a4,r4,w4,hv,d4,s4,b4⟩:=Ai hv PE Tryz.g4 (wX (by omega));rw[d1,d2,d3,d0,d4]at Wz;refine⟨fun k=>if k=0 then a0 else if k=1 then a1 else if k=2 then a2 else if k=3 then a3 else a4,⟨fun k hk=>?_,fun i j hi hj e=>?_⟩,fun k hk=>?_,?_,?_⟩
 ·have hc:k=0\/k=1\/k=2\/k=3\/k=4:=by omega
  rcases hc with rfl|rfl|rfl|rfl|rfl
  ·exact uU hS Tryz.g0 (by omega) (yA rfl (by omega)) w0
  ·exact uU hS Tryz.g1 (by omega) (yA rfl (by omega)) w1
  ·exact uU hS Tryz.g2 (by omega) (yA rfl (by omega)) w2
  ·exact uU hS Tryz.g3 (by omega) (yA rfl (by omega)) w3
  ·exact uU hS Tryz.g4 (by omega) (yA rfl (by omega)) w4
 ·have nd:∀ {x y:Addr},x=y->MemPlace.cell x.block x.off=MemPlace.cell y.block y.off:=fun e=>by rw[e]
  simp only[List.nodup_cons,List.mem_cons,not_or]at Wz;obtain⟨-,⟨-,n12,-,n13,-,n10,-,n14,-⟩,-,⟨-,n23,-,n20,-,n24,-⟩,-,⟨-,n30,-,n34,-⟩,-,⟨-,n04,-⟩,-⟩:=Wz;have ZW:i=0\/i=1\/i=2\/i=3\/i=4:=by omega
  have hj':j=0\/j=1\/j=2\/j=3\/j=4:=by omega
  rcases ZW with rfl|rfl|rfl|rfl|rfl<;>rcases hj' with rfl|rfl|rfl|rfl|rfl
  ·rfl
  ·exact absurd (nd (Eq.symm e)) n10
  ·exact absurd (nd (Eq.symm e)) n20
  ·exact absurd (nd (Eq.symm e)) n30
  ·exact absurd (nd e) n04
  ·exact absurd (nd e) n10
  ·rfl
  ·exact absurd (nd e) n12
  ·exact absurd (nd e) n13
  ·exact absurd (nd e) n14
  ·exact absurd (nd e) n20
  ·exact absurd (nd (Eq.symm e)) n12
  ·rfl
  ·exact absurd (nd e) n23
  ·exact absurd (nd e) n24
  ·exact absurd (nd e) n30
  ·exact absurd (nd (Eq.symm e)) n13
  ·exact absurd (nd (Eq.symm e)) n23
  ·rfl
  ·exact absurd (nd e) n34
  ·exact absurd (nd (Eq.symm e)) n04
  ·exact absurd (nd (Eq.symm e)) n14
  ·exact absurd (nd (Eq.symm e)) n24
  ·exact absurd (nd (Eq.symm e)) n34
  ·rfl
 ·have hc:k=0\/k=1\/k=2\/k=3\/k=4:=by omega
  rcases hc with rfl|rfl|rfl|rfl|rfl
  ·exact b0
  ·exact b1
  ·exact b2
  ·exact b3
  ·exact b4
 ·have h2':handlesMet K [("errors.errorType",Rows.laid_errors_errorType)] W:=h2;obtain⟨name,u,ty,k1,k2,k3,k4,k5⟩:∃name u ty,(Rows.laid_errors_errorType (H:=Unit)).handleName?=M name/\(Tryz.prog.cutTypes.find? (·.1== "internal/reflectlite.rtype")).map (·.2)=M u/\ty<Tryz.prog.types.size/\Tryz.prog.rowNamed ty name=true/\W.var? K "errors.errorType"=M #[.iface u (.agg #[typeHandle K ty])]:=h2' ("errors.errorType",Rows.laid_errors_errorType) (List.mem_singleton.2 rfl);obtain rfl:=Option.some.inj (Tryz.rtypeRow.symm.trans k2);have kn:name=[101,114,114,111,114]:=Option.some.inj (k1.symm.trans (by rfl));subst kn
  have kt:ty=88:=by
   have q:=List.all_eq_true.1 Tryz.errRows ty (List.mem_range.2 k3);rw[k4]at q;simpa using q
  subst kt;have q:=uU hS Tryz.g5 (by omega) (yA rfl (by omega)) k5;unfold typeHandle at q;rw[Tryz.globSize]at q;exact q
 ·obtain rfl:=Option.some.inj (Tryz.g6.symm.trans yJ);obtain rfl:=Option.some.inj (Tryz.g6Type.symm.trans ht6);have q:=Lib.cells_of_tab (zs:=Lib.pow10Tab) Tryz.underlying350 Tryz.underlying341 Tryz.cellsU64 Tryz.cellsTab hd6;have e6:cs6=(Lib.pow10Tab.map fun z=>Value.int .u64 z).toArray:=by rw[<-q]
  rw[e6]at hv6;exact uU hS Tryz.g6 (by omega) (yA rfl (by omega)) hv6
theorem Tryz.own:ownKnob Tryz.prog.godebug=O:=by kernel_rfl
theorem Tryz.laidOut:laidOutB K=true:=by kernel_rfl
theorem Tryz.cellsInt:Tryz.prog.cellsOf 3=1:=by kernel_rfl
theorem Tryz.cellsStr:Tryz.prog.cellsOf 9=1:=by kernel_rfl
theorem tJ {z:Int}(h:(Lit.int V z).wf=true):i64 z:=by
 have h1:IntKind.i64.min= -9223372036854775808:=rfl;have h2:IntKind.i64.max=9223372036854775807:=rfl;simp only[Lit.wf,Bool.and_eq_true,decide_eq_true_eq]at h;unfold i64;omega
theorem bulk_pos {aA:Type}(d:DataW aA):1<=Rows.uptoBulk d:=by
 cases d with
 |lit x=>cases x<;>simp[Rows.uptoBulk]
 |nil=>simp[Rows.uptoBulk]
 |ptr x=>simp[Rows.uptoBulk]
 |slice x y=>simp[Rows.uptoBulk]
 |agg x=>simp[Rows.uptoBulk]
 |iface t x=>simp[Rows.uptoBulk]
 |map x=>simp[Rows.uptoBulk]
 |held x=>simp[Rows.uptoBulk]
theorem bulk_len {aA:Type}:∀l:List (DataW aA),l.length<=Rows.uptoBulkAll l:=by
 intro l
 induction l with
 |nil=>simp
 |cons d r ih=>
  have:=bulk_pos d;simp only[Rows.uptoBulkAll,List.length_cons];omega
theorem bulk_mem {aA:Type}:∀ {l:List (DataW aA)} {d:DataW aA},d∈l->Rows.uptoBulk d<=Rows.uptoBulkAll l:=by
 intro l
 induction l with
 |nil=>intro d h;cases h
 |cons e r ih=>
  intro d h;simp only[Rows.uptoBulkAll];rcases List.mem_cons.1 h with rfl|h
  ·omega
  ·have:=ih h;omega
theorem Tryz.cellsAct:Tryz.prog.cellsOf 39=5:=by kernel_rfl
theorem LD {aA:Type}{iQ:TypeId×Y->aA}{spare:Nat->Bool}{held:Bool}{n:Nat}{cs:List Y}{y:DataW aA×List MemPlace}{a:Addr}
 (h1:w.cells? 0 a 5=M cs)(h2:DataW.trod iQ K w 0 spare held n 39 cs=M y)(hb:Rows.uptoBulk y.1<=1048576):
 ∃(c0 c1 c2 c3:Int) (s:ByteArray),i64 c1/\i64 c2/\s.size<=140737488355328/\w.cell? (a.add 0)=M (I V c0)/\w.cell? (a.add 1)=M (I V c1)/\w.cell? (a.add 2)=M (I V c2)/\w.cell? (a.add 3)=M (I V c3)/\w.cell? (a.add 4)=M (.string s):=by
 obtain⟨_,hlen,hcell⟩:=World.cells?_some h1;obtain⟨xs,k,hk,hxy,_,hxl,hf⟩:=DataW.trod_struct Tryz.underlying39 h2
 match xs,hxl,cs,hlen with
 | [y0,y1,y2,y3,y4],_,[v0,v1,v2,v3,v4],_=>
  have g0:=hf 0 _ rfl;have g1:=hf 1 _ rfl;have g2:=hf 2 _ rfl;have g3:=hf 3 _ rfl;have g4:=hf 4 _ rfl;simp[Tryz.cellsInt,Tryz.cellsStr]at g0 g1 g2 g3 g4;rw[hxy]at hb;simp only[Rows.uptoBulk,Rows.uptoBulkAll,List.map_cons,List.map_nil]at hb;obtain⟨c0,e0,-,w0⟩:=DataW.trod_int Tryz.underlying3 g0;obtain⟨c1,e1,-,w1⟩:=DataW.trod_int Tryz.underlying3 g1;obtain⟨c2,e2,-,w2⟩:=DataW.trod_int Tryz.underlying3 g2;obtain⟨c3,e3,-,w3⟩:=DataW.trod_int Tryz.underlying3 g3;obtain⟨s,e4,d4,-⟩:=DataW.trod_string Tryz.underlying9 g4
  have gQ:s.size<=140737488355328:=by
   have q:Rows.uptoBulk y4.1=s.data.toList.length+1:=by rw[d4];simp[Rows.uptoBulk]
   have e7:s.data.toList.length=s.size:=by simp
   omega
  simp at e0 e1 e2 e3 e4;subst e0 e1 e2 e3 e4;exact⟨c0,c1,c2,c3,s,tJ w1,tJ w2,gQ,hcell 0 (by omega),hcell 1 (by omega),hcell 2 (by omega),hcell 3 (by omega),hcell 4 (by omega)⟩
theorem Kk {aA:Type}{iQ:TypeId×Y->aA}{a0:Option Addr}{len cap:Nat}{d0:DataW aA}(h0:DataW.Trod iQ K W 0 (fun _=>true) true 25 (Z a0 len cap) d0 p0)(hb:Rows.uptoBulk d0<=1048576):vX W W.heap.size a0 len/\len<=1048576:=by
 obtain⟨fuel,hf⟩:=h0;rcases open_slice Tryz.underlying25 hf with⟨hcs,hx⟩|⟨a,len',yZ,m,n,D,Pl,hcs,pR,hl,hm,hmm,hx,hel⟩
 ·simp[Value.cells]at hcs;obtain⟨rfl,rfl,rfl⟩:=hcs;exact⟨Or.inl rfl,by omega⟩
 ·simp[Value.cells]at hcs;obtain⟨rfl,rfl,rfl⟩:=hcs;simp only[Prod.mk.injEq]at hx;obtain⟨rfl,rfl⟩:=hx
  have hall:Rows.uptoBulkAll (List.map D (List.range len))<=1048576:=by
   simp only[Rows.uptoBulk]at hb;omega
  have hlen:len<=1048576:=by
   have h1:=bulk_len (List.map D (List.range len));simp only[List.length_map,List.length_range]at h1;omega
  refine⟨?_,hlen⟩;simp only[if_true]at hmm;by_cases hl0:len=0
  ·exact Or.inl hl0
  ·obtain⟨b,off,spot⟩:=a;have hbi:∀i,i<len->Rows.uptoBulk (D i)<=1048576:=fun i hi=>Nat.le_trans (bulk_mem (List.mem_map.2 ⟨i,List.mem_range.2 hi,rfl⟩)) hall
   have Tv:=hel 0 (by omega);rw[Tryz.cellsAct]at hel Tv;obtain⟨cs0,k1,k2⟩:=Tv;obtain⟨_,_,_,_,_,_,_,_,z0,_⟩:=LD k1 k2 (hbi 0 (by omega));have hspot:spot=O:=by simpa[Addr.add]using World.cell?_spot z0
   subst hspot;refine Or.inr ⟨b,off,rfl,World.block_lt_of_cell? _ _ (by simpa[add_plain]using z0),fun i hi=>?_⟩;obtain⟨cs,g1,g2⟩:=hel i (by omega);obtain⟨c0,c1,c2,c3,s,j1,j2,jz,z0,z1,z2,z3,z4⟩:=LD g1 g2 (hbi i hi);rw[add_plain,add_plain]at z0 z1 z2 z3 z4;exact⟨c0,c1,c2,c3,s,j1,j2,jz,by simpa using z0,z1,z2,z3,z4⟩
theorem Sl {aA:Type}{iQ:TypeId×Y->aA}{n:Int}{d0:DataW aA}(h0:DataW.Trod iQ K W 0 (fun _=>true) true 3 (I V n) d0 p0):i64 n:=by
 obtain⟨fi,hfi⟩:=h0;obtain⟨n',e0,-,w0⟩:=DataW.trod_int Tryz.underlying3 hfi;simp[Value.cells]at e0;subst e0;exact tJ w0
theorem act_val {aA:Type}{iQ:TypeId×Y->aA}{base:Nat}{v:Y}{d0:DataW aA}(hv:Value.okWide K W .any base 39 v)(h0:DataW.Trod iQ K W 0 (fun _=>true) true 39 v d0 p0)(hb:Rows.uptoBulk d0<=1048576):∃(c0 c1 c2 c3:Int) (s:ByteArray),v= .agg #[I V c0,I V c1,I V c2,I V c3,.string s]/\i64 c1/\i64 c2/\i64 c3/\s.size<=1048576:=by
 obtain⟨cs,rfl,gQ⟩:=okWide_struct Tryz.underlying39 hv;rw[Tryz.cellsAct]at gQ;obtain⟨fi,hfi⟩:=h0;obtain⟨xs,k,hk,hxy,hlen,hxl,hf⟩:=DataW.trod_struct Tryz.underlying39 hfi;obtain⟨l⟩:=cs
 match xs,hxl,l,gQ with
 | [y0,y1,y2,y3,y4],_,[v0,v1,v2,v3,v4],_=>
  have g0:=hf 0 _ rfl;have g1:=hf 1 _ rfl;have g2:=hf 2 _ rfl;have g3:=hf 3 _ rfl;have g4:=hf 4 _ rfl;simp[Tryz.cellsInt,Tryz.cellsStr,Value.cells]at g0 g1 g2 g3 g4;have hd:d0=_:=congrArg Prod.fst hxy;rw[hd]at hb;simp only[Rows.uptoBulk,Rows.uptoBulkAll,List.map_cons,List.map_nil]at hb;obtain⟨c0,e0,-,w0⟩:=DataW.trod_int Tryz.underlying3 g0;obtain⟨c1,e1,-,w1⟩:=DataW.trod_int Tryz.underlying3 g1;obtain⟨c2,e2,-,w2⟩:=DataW.trod_int Tryz.underlying3 g2;obtain⟨c3,e3,-,w3⟩:=DataW.trod_int Tryz.underlying3 g3;obtain⟨s,e4,d4,-⟩:=DataW.trod_string Tryz.underlying9 g4
  have hs:s.size<=1048576:=by
   have q:Rows.uptoBulk y4.1=s.data.toList.length+1:=by rw[d4];simp[Rows.uptoBulk]
   have e7:s.data.toList.length=s.size:=by simp
   omega
  simp at e0 e1 e2 e3 e4;subst e0 e1 e2 e3 e4;exact⟨c0,c1,c2,c3,s,rfl,tJ w1,tJ w2,tJ w3,hs⟩
theorem rO.away (h:rO w ps qp d g k X)(hF:Fr w w' aB)(hY:∀b,aB b->lD w b)(hX:∀b,X b->¬aB b):rO w' ps qp d g k X:=by
 obtain⟨h1,s,fs,m,t,h2,h3⟩:=h;exact⟨h1.q hF hY,s,fs,m,t,h2.fr hF hY hX,h3⟩
def LF (w:F)(ps:Nat->Addr)(qp d:Nat)(fs:List bF)(X:Nat->Prop):Prop:=Gl w ps/\pF w qp (iF 5000 (d:Int) 1000000) fs jF X
theorem LF.away (h:LF w ps qp d fs X)(hF:Fr w w' aB)(hY:∀b,aB b->lD w b)(hX:∀b,X b->¬aB b):LF w' ps qp d fs X:=⟨h.1.q hF hY,h.2.fr hF hY hX⟩
theorem LF.aM (h:LF w ps qp d fs X)(hg:aJ w w'):LF w' ps qp d fs X:=⟨h.1.aM hg,h.2.aM hg⟩
theorem LF.ty (h:LF w ps qp d fs X){b:Nat}(hb:X b):lD w b:=h.2.ty hb
theorem dk_dis {X':Nat->Prop}(h:Dk w w' X X')(hd:∀b,X b->¬aB b)(hY:∀b,aB b->b<w.heap.size):∀b,X' b->¬aB b:=fun b hb hy=>by
 rcases h.2.2 b hb with q|q
 ·exact hd b q hy
 ·have:=hY b hy;omega
theorem knew_any (hG:Gl w ps)(hd:d<=50):
 H K 33 #[I V 5000,I V (d:Int),I V 1000000] w fun e w'=> ∃qp X,e=G (.tuple #[U (M ⟨qp,0,O⟩),I V 0])/\LF w' ps qp d [] X/\(∀b,X b->w.heap.size<=b)/\aJ w w':=by
 refine(xnew (w:=w) (most:=5000) (depth:=(d:Int)) (room:=1000000) (by unfold JL;omega)).mono ?_;rintro e w' ⟨X,rfl,h1,h2,h3⟩;exact⟨_,X,rfl,⟨hG.aM h3,h1⟩,h2,h3⟩
def Img (L:List AF)(d:Nat)(g:Gm)(k:Nat):Prop:=∃x t,nG x g k t/\x.1.depth=(d:Int)/\L=x.2.1.map (fun f=>(f.1,f.2.1))
theorem s_image (h:rO w ps qp d g k X):
 H K 34 #[U (M ⟨qp,0,O⟩)] w fun e w'=> ∃gb L,e=G (Z (M ⟨gb,0,O⟩) L.length L.length)/\Ad w' w.heap.size (Z (M ⟨gb,0,O⟩) L.length L.length) L/\Img L d g k/\aJ w w':=by
 obtain⟨hG,s,fs,m,t,hQ,hS,hd,hW⟩:=h;refine(H_ hQ ⟨hW.bK,hW.qC,hS.snd.gs.bk.inv,hS.snd.gs.bk.len⟩).mono ?_;rintro e w' ⟨g',rfl,ho,hg⟩;exact⟨g',fs.map (fun f=>(f.1,f.2.1)),by rw[List.length_map],by rw[List.length_map];exact ho,⟨_,t,hS,hd,rfl⟩,hg⟩
def Sm (L:List AF):List bF:=L.map (fun f=>(f.1,f.2,(f.2.size:Int)))
theorem Ei (fs:List bF)(n:Int):aL (Sm (fs.map (fun f=>(f.1,f.2.1)))) n=aL fs n:=uR (by simp[Sm]) n
theorem VQ (h:En x t k):x.2.1.length<=4:=YR h.gs.bk.inv.sort.1 (h.gs.QX h.op)
theorem LG (h:Img L d g k):yF (iF 5000 (d:Int) 1000000,[],jF) L=((iF 5000 (d:Int) 1000000,Sm L,jF),0):=by
 obtain⟨x,t,hS,hd,rfl⟩:=h;have hI:=hS.snd.gs.bk.inv;have hr:=hS.snd.room;have h4:=VQ hS.snd;unfold yF;rw[if_neg (by simp[iF]),if_pos]
 ·rfl
 ·refine⟨by simp;omega,?_,fun f hf=>?_,?_⟩
  ·rw[List.pairwise_map];exact hI.sort.1
  ·obtain⟨q,hq,rfl⟩:=List.mem_map.1 hf;exact⟨(hI.nn q hq).1,hI.sort.2 q hq⟩
  ·rw[List.map_map];refine Int.le_trans (Vo (fun f _=>Nat.le_refl _)) ?_;have:=hI.used;show _<=(1000000:Int);omega
theorem img_bk (h:Img L d g k)(hd:d<=50):BK (iF 5000 (d:Int) 1000000) (Sm L):=by
 have h0:=LG h;obtain⟨x,t,hS,-,rfl⟩:=h;have hI:=hS.snd.gs.bk.inv
 have:=gs_load (x:=(iF 5000 (d:Int) 1000000,[],jF)) (D:=0) (l:=x.2.1.map (fun f=>(f.1,f.2.1))) (GS.shut ⟨rA hd false,Int.le_refl _,Bn,Nat.zero_le _⟩ rfl) (fun f hf=>by
  obtain⟨q,hq,rfl⟩:=List.mem_map.1 hf;exact(hI.nn q hq).2)
 rw[h0]at this;exact this.bk
theorem f_load {B gb n:Nat}(h:LF w ps qp d [] X)(hI:Img L d g k)(hR:Ad w B (Z (M ⟨gb,0,O⟩) n n) L)(hn:n=L.length):
 H K 35 #[U (M ⟨qp,0,O⟩),Z (M ⟨gb,0,O⟩) n n] w fun e w'=>e=G (I V 0)/\∃X',LF w' ps qp d (Sm L) X'/\Dk w w' X X':=by
 obtain⟨hG,hQ⟩:=h;have hl:=LG hI
 have gQ:L.length<=4/\∀f∈L,f.2.size<=2000000:=by
  obtain⟨x,t,hS,-,rfl⟩:=hI;refine⟨by rw[List.length_map];exact VQ hS.snd,fun f hf=>?_⟩;obtain⟨q,hq,rfl⟩:=List.mem_map.1 hf;exact(hS.snd.gs.bk.inv.ok q hq).2.2
 have Di:∃aT,w.heap[gb]?=M (C aT 58 (0,0)):=by
  rcases Ad.row hR with⟨e,-⟩|⟨g',cap,aT,e,-,hc,-⟩
  ·cases e
  ·cases e;exact⟨aT,hc⟩
 have Mj:TD w (M ⟨gb,0,O⟩) L:=by
  obtain⟨ao,cap,e,hr,-⟩:=Ad.rdh hR;cases e
  exact hr.1
 obtain⟨aT,IC⟩:=Di;refine(xload hQ Mj (fun a ha=>⟨aT,_,_,by cases ha;exact IC,by decide⟩) hn (by simp[iF]) (by simp[iF]) (by omega) (fun f hf=>by have:=gQ.2 f hf;omega)).mono ?_;rintro e w' ⟨rfl,X',h1,h2⟩;rw[hl]at h1 ⊢;exact⟨rfl,X',⟨hG.q h2.1 (fun b hb=>hQ.ty hb),h1⟩,h2⟩
theorem f_open (h:LF w ps qp d (Sm L) X)(hI:Img L d g k)(hd:d<=50):
 H K 24 #[U (M ⟨qp,0,O⟩)] w fun e w'=>e=G (I V 0)/\BM w w' ps qp d X g k:=by
 obtain⟨hG,hQ⟩:=h;have hB:=img_bk hI hd;obtain⟨x,t,hS,hdx,rfl⟩:=hI;obtain⟨bN,e,hs,-⟩:=KH (m':=jF) hS (s:=iF 5000 (d:Int) 1000000) (fs:=Sm (x.2.1.map (fun f=>(f.1,f.2.1)))) (rA hd false) (Int.le_refl _) rfl rfl rfl rfl rfl hdx.symm hB.inv ⟨⟨#[]⟩,by rw[Ei];exact pW (by rw[eY];simp)⟩ (Ei _ _) (Ei _ _);refine(KL (D:=0) hQ hG (GS.shut hB rfl)).mono ?_;rintro e' w' ⟨rfl,hq⟩;rw[e]at hq ⊢;exact⟨rfl,Oi hG hQ hq ⟨t,hs⟩ rfl (Hy.calm hs.snd.gs.bk.bK (Int.le_refl _) rfl)⟩
def Cop (w W:F)(ps:Nat->Addr)(qx qy d:Nat)(v:Y):Prop:=∃g X aB,rO W ps qx d g 120 X/\LF W ps qy d [] aB/\eU W v g d/\(∀b,X b->¬aB b)/\(∀b,X b->w.heap.size<=b)/\(∀b,aB b->w.heap.size<=b)/\aJ w W
structure Cp (w W:F)(ps:Nat->Addr)(qx d:Nat)(g:Gm)(R:Nat)(a b c e:Y)(X aB:Nat->Prop):Prop where
 at':rO W ps qx d g 120 X
 md:eU W (.agg #[a,b,c,e]) g d
 bl:W.heap[R]?=M (C #[a,b,c,e] 36 (0,0))
 dis:∀b,X b->¬aB b
 nx:∀b,X b->w.heap.size<=b
 ny:∀b,aB b->w.heap.size<=b
 gr:aJ w W
theorem Cp.aM {W':F}{R:Nat}(h:Cp w W ps qx d g R a b c e X aB)(hg:aJ W W'):Cp w W' ps qx d g R a b c e X aB:=
 ⟨h.at'.aM hg,h.md.aM hg,(hg.block _ (aK h.bl)).trans h.bl,h.dis,h.nx,h.ny,h.gr.then hg⟩
theorem Cp.dk {W':F}{R:Nat}{Y':Nat->Prop}(h:Cp w W ps qx d g R a b c e X aB)(hT:∀b,aB b->lD W b)(hk:Dk W W' aB Y'):Cp w W' ps qx d g R a b c e X Y':=by
 obtain⟨g1,n1⟩:=nV h.gr h.ny hk;exact⟨h.at'.away hk.1 hT h.dis,h.md.q hk.1 hT,hk.1.at h.bl (fun q=>(hT _ q).ne h.bl (by decide) rfl),fun z hz hy=>dk_dis hk (fun b hb hx=>h.dis b hx hb) (fun b hb=>(h.at'.ty hb).lt) z hy hz,h.nx,n1,g1⟩
theorem cp_make {qy:Nat}(h:Cop w W ps qx qy d (.agg #[a,b,c,e])):∃g X aB,rO (W.alloc (C #[a,b,c,e] 36)) ps qx d g 120 X/\LF (W.alloc (C #[a,b,c,e] 36)) ps qy d [] aB/\Hid (Cp w (W.alloc (C #[a,b,c,e] 36)) ps qx d g W.heap.size a b c e X aB):=by
 obtain⟨g,X,aB,h1,h2,h3,h4,h5,h6,h7⟩:=h;have hg:aJ W (W.alloc (C #[a,b,c,e] 36)):=(aJ.refl W).alloc _;exact⟨g,X,aB,h1.aM hg,h2.aM hg,h1.aM hg,h3.aM hg,heap_alloc_new W _,h4,h5,h6,h7.then hg⟩
theorem LH {QG:Int}{ao:Option Addr}{len cap:Nat}(hG:Gl w ps)(hA:vX w w.heap.size ao len)(DL: -9223372036854775808<=QG)(hd2:QG<=9223372036854775807)(hlen:(len:Int)<=9223372036854775807):
 H K 9 #[I V QG,Z ao len cap] w fun e w'=>e=G (.bool true)/\aJ w w':=by
 have hP:=vZ (w:=w) (c:=QG) (n:=51) DL hd2 (by decide) (by decide);have HF:Hid (∀W (d:Nat),aJ w W->d<=50->H K 17 #[I V (d:Int)] W fun e w'=> ∃qp X,e=G (U (M ⟨qp,0,O⟩))/\rF w' ps qp d [] ([],[],[],0) 0 0 X/\(∀b,X b->W.heap.size<=b)/\aJ W w'):=fun W d hW hd=>BR (hG.aM hW) hd
 have HN:Hid (∀W (d:Nat),aJ w W->d<=50->H K 33 #[I V 5000,I V (d:Int),I V 1000000] W fun e w'=> ∃qp X,e=G (.tuple #[U (M ⟨qp,0,O⟩),I V 0])/\LF w' ps qp d [] X/\(∀b,X b->W.heap.size<=b)/\aJ W w'):=fun W d hW hd=>knew_any (hG.aM hW) hd
 have HPl:Hid (∀W qp qy (d:Nat) X aB,aJ w W->d<=50->rF W ps qp d [] ([],[],[],0) 0 0 X->LF W ps qy d [] aB->(∀b,X b->¬aB b)->(∀b,X b->w.heap.size<=b)->(∀b,aB b->w.heap.size<=b)->H K 18 #[U (M ⟨qp,0,O⟩),Z ao len cap,I V (d:Int)] W fun e w'=> ∃g n c q1 u1 u2 u3 r1 r2 r3 dn,e=G (.tuple #[Z (M ⟨g,0,O⟩) (n+1) c,.bool true])/\n+1<=c/\n<=120/\w'.cell? ⟨g,n*4,O⟩=M (.string q1)/\w'.cell? ⟨g,n*4+1,O⟩=M (Z u1 u2 u3)/\w'.cell? ⟨g,n*4+2,O⟩=M (Z r1 r2 r3)/\w'.cell? ⟨g,n*4+3,O⟩=M (I V dn)/\Hid (Cop w w' ps qp qy d (.agg #[.string q1,Z u1 u2 u3,Z r1 r2 r3,I V dn]))):=fun W qp qy d X aB hW hd hS hN hdis hX hY=>by
  refine(Sk (N:=w.heap.size) hS hd (hA.dk (Dk.bH (X:=fun _=>False) hW) (Nat.le_refl _) (fun b e=>e.elim)) hW.size hX hlen).mono ?_;rintro e w3 ⟨v,rfl,g,X',L,q,s3,k3,m3,o3,l3⟩;obtain⟨g3,x3⟩:=nV hW hX k3;obtain⟨gb,c,rfl,hc,-,z0,z1,z2,z3⟩:=o3.last;exact⟨gb,L.length,c,_,_,_,_,_,_,_,_,rfl,hc,l3,z0,z1,z2,z3,g,X',aB,s3,hN.away k3.1 (fun b hb=>hS.ty hb) (fun b hb hx=>hdis b hx hb),m3,dk_dis k3 hdis (fun b hb=>(hN.ty hb).lt),x3,hY,g3⟩
 clear hG hA;go_enter Tryz.func9,Tryz.ntmps9
 go_upto_region 5 with(first|(go_at_call 15;refine hP.mono ?_;rintro e w0 ⟨r,rfl,r1,r2,rfl⟩;obtain⟨d,rfl⟩:=Int.eq_ofNat_of_zero_le r1;have hd:d<=50:=by omega)|(go_at_call 17;refine(HF.out _ d (aJ.refl _) hd).mono ?_;rintro e w2 ⟨qp,X2,rfl,s2,x2,g2⟩;have hN:=HN.out _ d g2 hd)|(go_at_call 33;refine hN.mono ?_;clear hN;rintro e w3 ⟨qy,Y3,rfl,s3,y3,g3⟩;have hPl:=HPl.out _ qp qy d X2 Y3 (g2.then g3) hd (s2.aM g3) s3 (fun b hb hy=>by have h1:=(s2.ty hb).lt;have h2:=y3 b hy;omega) x2 (fun b hb=>Nat.le_trans g2.size (y3 b hb));clear s2 s3 x2 y3))
 go_upto_region 7 with(go_at_call 18;refine hPl.mono ?_;clear hPl;rintro e w4 ⟨g,n,c,q1,u1,u2,u3,a1,a2,a3,dn,rfl,hc,hn,z0,z1,z2,z3,HC⟩)
 have dU:IntKind.i64.wrap (((n+1:Nat):Int)-1)=(n:Int):=by rw[IntKind.wrap_i64];omega
 have Em:IntKind.i64.wrap ((n:Int)+1-1)=(n:Int):=by rw[IntKind.wrap_i64];omega
 have i1:(0:Int)<=(n:Int):=by omega
 have i2:(n:Int)<((n+1:Nat):Int):=by omega
 have hz:(((n+1:Nat):Int)-1)=(n:Int):=by omega
 clear g2 g3 hP HF HN HPl
 go_upto_region 8 with fail
 obtain⟨aC,X,aB,cp,f5,ZM⟩:=cp_make HC.out;have HF5:Hid (LF _ ps qy d [] aB):=f5;clear f5 z0 z1 z2 z3 HC;generalize (w4.alloc (C #[.string q1,Z u1 u2 u3,Z a1 a2 a3,I V dn] 36))=w5 at*;obtain⟨R,hR⟩:∃R,R=w4.heap.size:=⟨_,rfl⟩;rw[<-hR]at ZM ⊢;clear hR;have hIm:=s_image cp
 go_upto_region 9 with(go_at_call 34;refine hIm.mono ?_;clear hIm;rintro e w6 ⟨gb,L,rfl,o6,i6,g6⟩)
 have HC6:Hid _:=ZM.out.aM g6;have hLo:=f_load (HF5.out.aM g6) i6 o6 rfl;have HTy:Hid (∀b,aB b->lD w6 b):=fun b hb=>(HF5.out.aM g6).ty hb
 clear ZM HF5 g6 o6 cp
 go_upto_region 10 with(go_at_call 35;refine hLo.mono ?_;clear hLo;rintro e w7 ⟨rfl,Y7,f7,k7⟩)
 have Mf:Hid _:=HC6.out.dk HTy.out k7;have Sq:=f_open f7 i6 hd;have HTy7:Hid (∀b,Y7 b->lD w7 b):=fun b hb=>f7.ty hb
 clear HC6 HTy f7 k7 i6
 go_upto_region 11 with(go_at_call 24;refine Sq.mono ?_;clear Sq;rintro e w8 ⟨rfl,Y8,s8,k8⟩)
 have HC8:Hid _:=Mf.out.dk HTy7.out k8;have HTy8:Hid (∀b,Y8 b->lD w8 b):=fun b hb=>s8.ty hb
 have hSy:=mF s8 HC8.out.md (by decide) hd;obtain⟨m0,m1,m2,m3⟩:=aZ HC8.out.bl;clear Mf HTy7 s8 k8
 go_upto_region 14 with(go_at_call 19;refine hSy.mono ?_;clear hSy;rintro e w9 ⟨rfl,g9,Y9,s9,k9⟩)
 have Bb:Hid _:=HC8.out.dk HTy8.out k9;have hSx:=mF Bb.out.at' Bb.out.md (by decide) hd;obtain⟨n0,n1,n2,n3⟩:=aZ Bb.out.bl;clear HC8 HTy8 s9 k9 m0 m1 m2 m3
 go_wp2_with (go_at_call 19;refine hSx.mono ?_;clear hSx;rintro e PV ⟨rfl,g10,X10,CX,k10⟩)
 go_ret;exact⟨rfl,(nV Bb.out.gr Bb.out.nx k10).1⟩
structure Roz (x y:St)(g:Gm)(k:Nat)(t:Tm):Prop where
 Ep:nG y g k t
 gs:GS x ((k+1:Nat):Int)
 op:x.1.aS=true
 ro:x.1.ro=true
 arm:x.1.eG=false
 ref:x.1.refusing=false
 most:x.1.most=5000
 room:x.1.room=1000000
 de:x.1.depth=y.1.depth
 ep:x.1.aV=y.1.aV
 YQ:x.2.2=y.2.2
 b1:∃T:ByteArray,aL x.2.1 1=aL y.2.1 1++T
 b2:aL x.2.1 2=aL y.2.1 2
 bj:aL x.2.1 (10+y.1.aV)=aL y.2.1 (10+y.1.aV)
theorem RS (b:ByteArray):b=b++⟨#[]⟩:=pW (by rw[eY];simp)
theorem ref_act {s:Sc}{m:bT}(h:nG (s,fs,m) g k t)(hk:k<=400){a pos:Int}{text:ByteArray}(ha:a=0\/a=1)(hp:¬(pos<0\/(g.1.length:Int)<pos))(ht:¬(text.size<1\/200<text.size))(hl:¬5000<(g.1.length:Int)+(text.size:Int)):
 (eZ ({ s with refusing:=true,left:=a },fs,m) 73 pos 0 text).2=9/\Roz (eZ ({ s with refusing:=true,left:=a },fs,m) 73 pos 0 text).1 (s,fs,m) g k t:=by
 have MW:GS (eZ ({ s with refusing:=true,left:=a },fs,m) 73 pos 0 text).1 ((k:Int)+1):=by
  have:=Xq (a:=a) h.snd.gs (by omega);unfold rT at this;rw[if_neg (by omega)]at this;exact t_ this
 have xY:s.aS=true:=h.snd.op;have hro:s.ro=false:=h.snd.ro;have ham:s.eG=false:=h.snd.arm;have Ht:s.most=5000:=h.snd.most;have nZ:s.room=1000000:=h.snd.room;have Jy:=h.snd.few.1;have hlen:=h.len;have hu:=h.snd.used;have hI:=h.snd.gs.bk.inv;simp only at Jy hlen hu hI;have hlp:=Hq m.1 [(((aL fs 1).size:Int),(text.size:Int))] pos;simp only[List.length_singleton]at hlp;have e0:(rR m pos ((aL fs 1).size:Int) (text.size:Int) s.most s.depth.toNat).2=0:=by unfold rR;rw[if_neg (by omega),if_neg (by omega),if_neg (by omega),if_neg (by omega)]
 have key:∃bN,eZ ({ s with refusing:=true,left:=a },fs,m) 73 pos 0 text=(({ s with refusing:=false,left:=0,ro:=true },bN,m),9)/\(∃T:ByteArray,aL bN 1=aL fs 1++T)/\aL bN 2=aL fs 2/\aL bN (10+s.aV)=aL fs (10+s.aV):=by
  have he:0<=s.aV:=h.snd.gs.bk.bK.nK;rcases ha with rfl|rfl
  ·refine⟨fs,?_,⟨⟨#[]⟩,RS _⟩,rfl,rfl⟩;unfold eZ;simp only;rw[if_neg (by simp[xY]),if_neg (by simp[hro])];simp only[true_or,if_true,gK];rw[if_neg (by rw[e0];simp)];unfold dJ;simp
  ·have hu1:bP fs+(text.size:Int)<=s.room:=by omega
   have hz:text.size≠0:=by omega
   refine⟨iR fs (lX fs 1 text),?_,⟨text,?_⟩,?_,?_⟩
   ·have ea:dJ { s with refusing:=true,left:=1 } fs 1 text=(0,{ s with refusing:=true,left:=0 },iR fs (lX fs 1 text)):=by
     unfold dJ;rw[if_neg (by simp),if_neg (by simp only;omega)];simp only[if_true];rw[tF fs (by simp[ham])];simp only[if_true];rw[tX hI.sort (by rw[(gI fs 1 text).2,dR];omega) (hI.no (by omega))];rfl
    unfold eZ;simp only;rw[if_neg (by simp[xY]),if_neg (by simp[hro])];simp only[true_or,if_true,gK];rw[if_neg (by rw[e0];simp),ea];simp only;rw[if_neg (by simp)];unfold dJ;simp
   ·rw[jR hI.sort,(gI fs 1 text).1,if_pos rfl,(gI fs 1 text).2]
   ·rw[jR hI.sort,(gI fs 1 text).1,if_neg (by omega)]
   ·rw[jR hI.sort,(gI fs 1 text).1,if_neg (by omega)]
 obtain⟨bN,e,c1,c2,c3⟩:=key;rw[e]at MW ⊢;exact⟨rfl,h,by simpa using MW,xY,rfl,ham,rfl,Ht,nZ,rfl,rfl,rfl,c1,c2,c3⟩
theorem roz_read {y:St}(h:Roz x y g k t):(mX x 0 (g.1.length:Int)).2=0/\(mX x 0 (g.1.length:Int)).1.data.toList=g.1:=by
 obtain⟨-,c2⟩:=KC h.Ep (pos:=0) (n:=(g.1.length:Int));obtain⟨d1,d2⟩:=c2 (by omega);have hl:=h.Ep.len;have xY:=h.op;have Xo:=h.Ep.snd.gs.wU h.Ep.snd.op h.Ep.snd.ro;have hg:=h.Ep.snd.bK;obtain⟨T,hT⟩:=h.b1;have hb:=hg.uD;have hz:=h.Ep.snd.b1;have hI:=h.gs.bk.inv
 have gQ:(aL x.2.1 1).size<=1000000000:=by
  have q1:=kI hI 1;have q2:=h.gs.bk.bK.oK;omega
 unfold mX;rw[if_neg (by simp[xY]),h.YQ,if_neg (by omega)];refine⟨rfl,?_⟩;simp only;have Lc:y.2.2.2.2.2.2<=((aL x.2.1 1).size:Int):=by rw[hT,dR];omega
 rw[SY (hg.text.mono Lc) gQ (by omega) (by omega),hT,eY];have hfi:BG y.2.2.2.2.2.2 (fl y.2.2.1):=Po hg.text;rw[Za (fun j hj=>by have:=hfi j hj;rw[Dy];omega)]
 have:Dh (aL y.2.1 1).data.toList (fl y.2.2.1)=g.1:=by
  rw[<-h.Ep.tell];show _=Dh _ t.1;rw[h.Ep.snd.yV.text]
 rw[this];simp
theorem roz_open {y:St}(h:Roz x y g k t):(∃m0,jE (aL x.2.1 2) ((aL x.2.1 1).size:Int) x.1.depth.toNat=M (x.1.aV,m0))/\∃z,jM ({ x.1 with aS:=false },x.2)=(z,0)/\nG z g k t/\z.1.depth=y.1.depth:=by
 constructor
 ·obtain⟨m0,rs,r1,-⟩:=h.Ep.snd.rd;obtain⟨T,hT⟩:=h.b1;refine⟨m0,?_⟩;rw[h.b2,h.de,h.ep];exact xV r1 (by rw[hT,dR];omega)
 ·obtain⟨bN,e,hs,-⟩:=KH (m':=x.2.2) h.Ep (s:= { x.1 with aS:=false }) (fs:=x.2.1) { h.gs.bk.bK with } h.gs.bk.qC rfl h.arm h.ref h.most h.room h.de h.gs.bk.inv h.b1 h.b2 h.bj;exact⟨_,e,hs,h.de⟩
end Go.Proofs.YtfplgfodoiiobaaGreatDoor
