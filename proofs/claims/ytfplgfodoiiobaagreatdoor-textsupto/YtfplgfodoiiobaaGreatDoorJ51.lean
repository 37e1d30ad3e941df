/- SwO, SwP, Wit, SwQ (joined). -/
import Derived.Deep.DeepHandedRow
import Derived.Deep.DeepWitnessRowRef
import Derived.Deep.SlicePairs
import Derived.LaidHandle
import Derived.LaidLaws
import Derived.LaidSub
import Derived.Lib.LaidTab
import Derived.OpenShut
import Derived.ProofKit
import Derived.Stop.LaidErr
import Derived.Test.YtfplgfodoiiobaaGreatDoorCards
import Derived.Test.YtfplgfodoiiobaaGreatDoorJ50
import Derived.Test.YtfplgfodoiiobaaGreatDoorTie
open Option renaming none→O,some→M
open Go.Value renaming int→I,slice→Z
open Go.IntKind renaming i64→V
open Go.Obj renaming cells→C
open Go renaming World→F,Value→Y,Calls→H
open Go.Proofs.Tryz renaming prog→K
namespace Go.Proofs.YtfplgfodoiiobaaGreatDoor
set_option maxRecDepth 100000
open Go.RowKit
open Go.ChangeShapes Go.WideShapes Go.ChangeAt Go.RowKit
open Go.ChangeShapes Go.WideShapes Go.ChangeAt Go.RowKit Go.Deep
variable {W:F}{g:Nat}
def Ke (p:Program)(fits:TypeId->Bool):Nat->TypeId->Bool
 |0,_=>false
 |d+1,e=>fits e||(match p.underlying e with
  |some (.struct fs)=>fs.any fun f=>Ke p fits d f.type
  |some (.array _ e')=>Ke p fits d e'
  |_=>false)
theorem Mr {p:Program}{fits:TypeId->Bool}:∀(d:Nat) (e:TypeId) (count off n:Nat),rowAt p fits d e count off n=true->Ke p fits d e=true
 |0,_,_,_,_,h=>by simp[rowAt]at h
 |d+1,e,count,off,n,h=>by
  unfold rowAt at h;unfold Ke;simp only at h;split at h
  ·cases h
  ·rw[Bool.or_eq_true]at h ⊢;rcases h with h|h
   ·simp only[Bool.and_eq_true]at h;exact Or.inl h.2
   ·right;rw[Bool.and_eq_true]at h;obtain⟨-,h⟩:=h;split at h
    ·rename_i fs hfs;rw[Bool.and_eq_true]at h;obtain⟨-,h⟩:=h;simp only[hfs];rw[Array.any_eq_true']at h ⊢;obtain⟨f,hf,hx⟩:=h;simp only[Bool.and_eq_true]at hx;exact⟨f,hf,Mr d _ _ _ _ hx.2⟩
    ·rename_i m e' he;simp only[he];exact Mr d _ _ _ _ h
    ·cases h
theorem Tryz.cellsES:Tryz.prog.cellsOf 376=1:=by kernel_rfl
theorem Tryz.cellsS9:Tryz.prog.cellsOf 9=1:=by kernel_rfl
theorem Tryz.star: "*"++ "errors.errorString"= "*errors.errorString":=by decide
theorem Tryz.rowES (u:TypeId)(h:Tryz.prog.typeName? 3 u=M "*errors.errorString"):u=358:=
 typeName_ptr_named (nm:= "errors.errorString") (by rw[Tryz.star];kernel_rfl) (by kernel_rfl) (by decide) u (by rw[Tryz.star];exact h)
theorem Tryz.depthPos:Tryz.prog.depth=(Tryz.prog.depth-1)+1:=by kernel_rfl
theorem Tryz.guardAll:NK.all (fun T=>!Ke K (sameLayout K Tryz.prog.depth · 376) Tryz.prog.depth T)=true:=by kernel_rfl
theorem u_ {a:Addr}{c:Array Y}{t:TypeId}(h:W.has K .any 0 a 376 1)(hb:W.heap[a.block]?=M (C c t (0,0))):a.spot=O/\Mg t:=by
 obtain⟨-,h1,row,cells,h2,h3⟩:=h;refine⟨h1,fun hm=>?_⟩
 have er:row=t:=by
  unfold World.shape? at h2;rw[hb]at h2;simp at h2;exact h2.1.symm
 subst er;rw[Tryz.depthPos]at h3;unfold liesAt at h3;rw[Bool.or_eq_true]at h3;rcases h3 with h3|h3
 ·have h4:=Mr _ _ _ _ _ h3;have h5:=List.all_eq_true.1 Tryz.guardAll row hm;rw[h4]at h5;cases h5
 ·rw[Tryz.underlying376]at h3;cases h3
theorem Dh {n:String}{text:List UInt8}{r:List (String×DataW Unit)}{ps:List MemPlace}
 (h:DataW.LaidVars K W ((n,.iface "*errors.errorString" (.ptr (.agg [.lit (.string text)])))::r) ps)
 (SK:∀b off,MemPlace.cell b off∈ps->(∃c t,W.heap[b]?=M (C c t (0,0)))/\∀u v,W.cell? ⟨b,off,O⟩=M (.iface u v)->Value.okWide K W .any 0 u v)
 (hg:Tryz.prog.globalNamed n=M g)(ht:(Tryz.prog.globals[g]?).map (·.type)=M 88):
 ∃a q,W.var? K n=M #[jX a]/\DataW.LaidVars K W r q/\ps=MemPlace.cell g 0::MemPlace.cell a.block a.off::q/\a.spot=O/\∃c t,W.heap[a.block]?=M (C c t (0,0))/\Mg t:=by
 obtain⟨g0,t0,cs0,f0,p0,q0,RY,ht0,hv0,Uy,hr,e0⟩:=h;obtain rfl:=Option.some.inj (hg.symm.trans RY);obtain rfl:=Option.some.inj (ht.symm.trans ht0);obtain⟨l0⟩:=cs0
 have ok0:∀u v,l0=[.iface u v]->Value.okWide K W .any 0 u v:=fun u v e=>by
  subst e;exact(SK g 0 (by rw[e0];simp[MemPlace.row])).2 u v (by simpa using World.var?_cell RY hv0 0)
 obtain⟨a0,s0,rfl,Ag,IC,nN,rfl⟩:=errorString_of_trod Tryz.underlying88 Tryz.rowES Tryz.underlying358 Tryz.underlying376 rfl rfl Tryz.underlying9 Tryz.cellsES Tryz.cellsS9 Uy ok0;have e1:ps=MemPlace.cell g 0::MemPlace.cell a0.block a0.off::q0:=by rw[e0];simp[MemPlace.row]
 have hw:=ok0 _ _ rfl
 have hh:W.has K .any 0 a0 376 1:=by
  unfold Value.okWide at hw;rw[Tryz.underlying358]at hw;simp only[Cell.okWide,Cell.ok,Tryz.underlying358]at hw;exact hw
 obtain⟨c,t,hb⟩:=(SK a0.block a0.off (by rw[e1];simp)).1;obtain⟨g1,g2⟩:=u_ hh hb;exact⟨a0,q0,hv0,hr,e1,g1,c,t,hb,g2⟩
theorem Tryz.globTypes:(List.range 7).map (fun g=>(((begin K (fun _ _=>0) default).world.heap[g]?).bind Obj.row?).map (·.2))=[M 88,M 88,M 88,M 88,M 88,M 282,M 350]:=by kernel_rfl
theorem Tryz.globSize:Tryz.prog.globals.size=9:=by kernel_rfl
theorem Tryz.errRows:(List.range Tryz.prog.types.size).all (fun t=>!Tryz.prog.rowNamed t [101,114,114,111,114]||t==88)=true:=by kernel_rfl
theorem Tryz.rtypeRow:(Tryz.prog.cutTypes.find? (·.1== "internal/reflectlite.rtype")).map (·.2)=M 318:=by kernel_rfl
theorem xE {n:String}{t:TypeId}{cs:Array Y}(hS:W.ShapedOpen K)(hg:Tryz.prog.globalNamed n=M g)(bT:g<9)(hz:(((begin K (fun _ _=>0) default).world.heap[g]?).bind Obj.row?).map (·.2)=M t)(hv:W.var? K n=M cs):W.heap[g]?=M (C cs t (0,0)):=by
 obtain⟨z,nO,oM⟩:=Option.map_eq_some_iff.1 hz;obtain⟨zero,t'⟩:=z;simp only at oM;subst oM;obtain⟨cs',h1,-,-⟩:=hS.1 g zero t' (by rw[Tryz.globSize];exact bT) nO;unfold World.var? at hv;rw[hg]at hv;simp only[Option.bind_some,h1]at hv;cases hv
 exact h1
theorem Tryz.g0:Tryz.prog.globalNamed "quill/ledger.ErrExhausted"=M 0:=by kernel_rfl
theorem Tryz.g1:Tryz.prog.globalNamed "quill/disk.ErrRefused"=M 1:=by kernel_rfl
theorem Tryz.g2:Tryz.prog.globalNamed "quill/disk.ErrStopped"=M 2:=by kernel_rfl
theorem Tryz.g3:Tryz.prog.globalNamed "quill/ledger.ErrSpoilt"=M 3:=by kernel_rfl
theorem Tryz.g4:Tryz.prog.globalNamed "quill/ledger.errMissing"=M 4:=by kernel_rfl
theorem Tryz.g5:Tryz.prog.globalNamed "errors.errorType"=M 5:=by kernel_rfl
theorem Tryz.g6:Tryz.prog.globalNamed "internal/strconv.uint64pow10"=M 6:=by kernel_rfl
theorem Tryz.gTypes:(List.range 5).map (fun g=>(Tryz.prog.globals[g]?).map (·.type))=[M 88,M 88,M 88,M 88,M 88]:=by kernel_rfl
theorem Tryz.g6Type:(Tryz.prog.globals[6]?).map (·.type)=M 350:=by kernel_rfl
theorem Tryz.cellsTab:Tryz.prog.cellsOf 350=20:=by kernel_rfl
theorem Tryz.cellsU64:Tryz.prog.cellsOf 341=1:=by kernel_rfl
theorem v_ {α:Type}{l r:List α}(h:l=r)(i:Nat):l[i]?=r[i]?:=by rw[h]
theorem Aj {t:TypeId}(h:[M 88,M 88,M 88,M 88,M 88,M 282,M 350][g]?=M (M t))(hg:g<7):(((begin K (fun _ _=>0) default).world.heap[g]?).bind Obj.row?).map (·.2)=M t:=by
 have e:=v_ Tryz.globTypes g;rw[h,List.getElem?_map,List.getElem?_range hg]at e;simpa using e
theorem zF (hg:g<5):(Tryz.prog.globals[g]?).map (·.type)=M 88:=by
 have e:=v_ Tryz.gTypes g;rw[List.getElem?_map,List.getElem?_range hg]at e
 have e2:[M 88,M 88,M 88,M 88,M (88:TypeId)][g]?=M (M 88):=by
  have:g=0\/g=1\/g=2\/g=3\/g=4:=by omega
  rcases this with rfl|rfl|rfl|rfl|rfl<;>rfl
 rw[e2]at e;simpa using e
abbrev Ym (W:F)(ps:List MemPlace):Prop:=∀b off,MemPlace.cell b off∈ps->(∃c t,W.heap[b]?=M (C c t (0,0)))/\∀u v,W.cell? ⟨b,off,O⟩=M (.iface u v)->Value.okWide K W .any 0 u v
theorem Ue (hL:laidMetH K Rows.textsUptoRow.laid W)(hS:W.ShapedOpen K):∃ps,Gl W ps:=by
 obtain⟨h1,h2⟩:=laidMetH_iff.1 hL;have Kt:laidMet K [("math/bits.deBruijn32tab",Rows.laid_math_bits_deBruijn32tab),("math/bits.deBruijn64tab",Rows.laid_math_bits_deBruijn64tab),("internal/strconv.uint64pow10",Rows.laid_internal_strconv_uint64pow10),("quill/disk.ErrRefused",Rows.laid_quill_disk_ErrRefused),("quill/disk.ErrStopped",Rows.laid_quill_disk_ErrStopped),("quill/ledger.ErrSpoilt",Rows.laid_quill_ledger_ErrSpoilt),("quill/ledger.ErrExhausted",Rows.laid_quill_ledger_ErrExhausted),("quill/ledger.errMissing",Rows.laid_quill_ledger_errMissing)] W:=h1;obtain⟨ps,hv,hnd,hrows0⟩:=Kt;have SK:Ym W ps:=hrows0;obtain⟨x1,x2,x3,x4,p1,q1,x5,x6,x7,x8,hv,e1⟩:=hv;obtain⟨y1,y2,y3,y4,p2,q2,y5,y6,y7,y8,hv,e2⟩:=hv;obtain⟨g6,t6,cs6,f6,p3,q3,uI,ht6,hv6,XM,hv,e3⟩:=hv;have Ki:Ym W q3:=fun b off hb=>SK b off (by rw[e1,e2,e3];simp[hb])
 have Qo:q3.Nodup:=by
  rw[e1,e2,e3]at hnd;exact((List.nodup_append.1 ((List.nodup_append.1 ((List.nodup_append.1 hnd).2.1)).2.1)).2.1)
 obtain⟨a1,r1,w1,hv,d1,s1,b1⟩:=Dh hv Ki Tryz.g1 (zF (by omega));have Ee:Ym W r1:=fun b off hb=>Ki b off (by rw[d1];simp[hb])
 obtain⟨a2,r2,w2,hv,d2,s2,b2⟩:=Dh hv Ee Tryz.g2 (zF (by omega));have Ef:Ym W r2:=fun b off hb=>Ee b off (by rw[d2];simp[hb])
 obtain⟨a3,r3,w3,hv,d3,s3,b3⟩:=Dh hv Ef Tryz.g3 (zF (by omega));have Uo:Ym W r3:=fun b off hb=>Ef b off (by rw[d3];simp[hb])
 obtain⟨a0,r0,w0,hv,d0,s0,b0⟩:=Dh hv Uo Tryz.g0 (zF (by omega));have NG:Ym W r0:=fun b off hb=>Uo b off (by rw[d0];simp[hb])
 obtain⟨a4,r4,w4,hv,d4,s4,b4⟩:=Dh hv NG Tryz.g4 (zF (by omega));rw[d1,d2,d3,d0,d4]at Qo;refine⟨fun k=>if k=0 then a0 else if k=1 then a1 else if k=2 then a2 else if k=3 then a3 else a4,⟨fun k hk=>?_,fun i j hi hj e=>?_⟩,fun k hk=>?_,?_,?_⟩
 ·have hc:k=0\/k=1\/k=2\/k=3\/k=4:=by omega
  rcases hc with rfl|rfl|rfl|rfl|rfl
  ·exact xE hS Tryz.g0 (by omega) (Aj rfl (by omega)) w0
  ·exact xE hS Tryz.g1 (by omega) (Aj rfl (by omega)) w1
  ·exact xE hS Tryz.g2 (by omega) (Aj rfl (by omega)) w2
  ·exact xE hS Tryz.g3 (by omega) (Aj rfl (by omega)) w3
  ·exact xE hS Tryz.g4 (by omega) (Aj rfl (by omega)) w4
 ·have nd:∀ {x y:Addr},x=y->MemPlace.cell x.block x.off=MemPlace.cell y.block y.off:=fun e=>by rw[e]
  simp only[List.nodup_cons,List.mem_cons,not_or]at Qo;obtain⟨-,⟨-,n12,-,n13,-,n10,-,n14,-⟩,-,⟨-,n23,-,n20,-,n24,-⟩,-,⟨-,n30,-,n34,-⟩,-,⟨-,n04,-⟩,-⟩:=Qo;have Va:i=0\/i=1\/i=2\/i=3\/i=4:=by omega
  have ZM:j=0\/j=1\/j=2\/j=3\/j=4:=by omega
  rcases Va with rfl|rfl|rfl|rfl|rfl<;>rcases ZM with rfl|rfl|rfl|rfl|rfl
  ·rfl
  ·exact absurd (nd (Eq.symm e)) n10
  ·exact absurd (nd (Eq.symm e)) n20
  ·exact absurd (nd (Eq.symm e)) n30
  ·exact absurd (nd e) n04
  ·exact absurd (nd e) n10
  ·rfl
  ·exact absurd (nd e) n12
  ·exact absurd (nd e) n13
  ·exact absurd (nd e) n14
  ·exact absurd (nd e) n20
  ·exact absurd (nd (Eq.symm e)) n12
  ·rfl
  ·exact absurd (nd e) n23
  ·exact absurd (nd e) n24
  ·exact absurd (nd e) n30
  ·exact absurd (nd (Eq.symm e)) n13
  ·exact absurd (nd (Eq.symm e)) n23
  ·rfl
  ·exact absurd (nd e) n34
  ·exact absurd (nd (Eq.symm e)) n04
  ·exact absurd (nd (Eq.symm e)) n14
  ·exact absurd (nd (Eq.symm e)) n24
  ·exact absurd (nd (Eq.symm e)) n34
  ·rfl
 ·have hc:k=0\/k=1\/k=2\/k=3\/k=4:=by omega
  rcases hc with rfl|rfl|rfl|rfl|rfl
  ·exact b0
  ·exact b1
  ·exact b2
  ·exact b3
  ·exact b4
 ·have h2':handlesMet K [("errors.errorType",Rows.laid_errors_errorType)] W:=h2;obtain⟨name,u,ty,k1,k2,k3,k4,k5⟩:∃name u ty,(Rows.laid_errors_errorType (H:=Unit)).handleName?=M name/\(Tryz.prog.cutTypes.find? (·.1== "internal/reflectlite.rtype")).map (·.2)=M u/\ty<Tryz.prog.types.size/\Tryz.prog.rowNamed ty name=true/\W.var? K "errors.errorType"=M #[.iface u (.agg #[typeHandle K ty])]:=h2' ("errors.errorType",Rows.laid_errors_errorType) (List.mem_singleton.2 rfl);obtain rfl:=Option.some.inj (Tryz.rtypeRow.symm.trans k2);have kn:name=[101,114,114,111,114]:=Option.some.inj (k1.symm.trans (by rfl));subst kn
  have kt:ty=88:=by
   have q:=List.all_eq_true.1 Tryz.errRows ty (List.mem_range.2 k3);rw[k4]at q;simpa using q
  subst kt;have q:=xE hS Tryz.g5 (by omega) (Aj rfl (by omega)) k5;unfold typeHandle at q;rw[Tryz.globSize]at q;exact q
 ·obtain rfl:=Option.some.inj (Tryz.g6.symm.trans uI);obtain rfl:=Option.some.inj (Tryz.g6Type.symm.trans ht6);have q:=Lib.cells_of_tab (zs:=Lib.pow10Tab) Tryz.underlying350 Tryz.underlying341 Tryz.cellsU64 Tryz.cellsTab XM;have e6:cs6=(Lib.pow10Tab.map fun z=>Value.int .u64 z).toArray:=by rw[<-q]
  rw[e6]at hv6;exact xE hS Tryz.g6 (by omega) (Aj rfl (by omega)) hv6
theorem Tryz.own:ownKnob Tryz.prog.godebug=O:=by kernel_rfl
theorem Tryz.laidOut:laidOutB K=true:=by kernel_rfl
theorem Tryz.cellsInt:Tryz.prog.cellsOf 3=1:=by kernel_rfl
theorem Tryz.cellsStr:Tryz.prog.cellsOf 9=1:=by kernel_rfl
theorem Tryz.cellsFiles:Tryz.prog.cellsOf 54=1:=by kernel_rfl
theorem Tryz.cellsStep:Tryz.prog.cellsOf 73=7:=by kernel_rfl
theorem Tryz.cellsAF:Tryz.prog.cellsOf 58=2:=by kernel_rfl
theorem vM {z:Int}(h:(Lit.int V z).wf=true):i64 z:=by
 have h1:IntKind.i64.min= -9223372036854775808:=rfl;have h2:IntKind.i64.max=9223372036854775807:=rfl;simp only[Lit.wf,Bool.and_eq_true,decide_eq_true_eq]at h;unfold i64;omega
theorem w_ {aA:Type}(d:DataW aA):1<=Rows.uptoBulk d:=by
 cases d with
 |lit x=>cases x<;>simp[Rows.uptoBulk]
 |nil=>simp[Rows.uptoBulk]
 |ptr x=>simp[Rows.uptoBulk]
 |slice x y=>simp[Rows.uptoBulk]
 |agg x=>simp[Rows.uptoBulk]
 |iface t x=>simp[Rows.uptoBulk]
 |map x=>simp[Rows.uptoBulk]
 |held x=>simp[Rows.uptoBulk]
theorem Uf {aA:Type}:∀l:List (DataW aA),l.length<=Rows.uptoBulkAll l:=by
 intro l
 induction l with
 |nil=>simp
 |cons d r ih=>
  have:=w_ d;simp only[Rows.uptoBulkAll,List.length_cons];omega
theorem Ug {aA:Type}:∀ {l:List (DataW aA)} {d:DataW aA},d∈l->Rows.uptoBulk d<=Rows.uptoBulkAll l:=by
 intro l
 induction l with
 |nil=>intro d h;cases h
 |cons e r ih=>
  intro d h;simp only[Rows.uptoBulkAll];rcases List.mem_cons.1 h with rfl|h
  ·omega
  ·have:=ih h;omega
def strOf:Y->ByteArray
 | .string s=>s
 |_=>⟨#[]⟩
theorem PN {aA:Type}{qO:TypeId×Y->aA}{w:F}{spare:Nat->Bool}{held:Bool}{n:Nat}{v:Y}{y:DataW aA×List MemPlace}
 (h:DataW.trod qO K w 0 spare held n 54 [v]=M y)(hb:Rows.uptoBulk y.1<=1048576):
 ∃(fo:Option Addr) (fl fc:Nat) (l:List AF),v=Z fo fl fc/\rZ w w.heap.size fo fl fc l:=by
 rcases open_slice_pairs Tryz.underlying54 Tryz.underlying58 Tryz.cellsAF rfl rfl Tryz.cellsInt Tryz.cellsStr h with⟨e,-⟩|⟨a,len,cap,m,n',V0,V1,D0,D1,P0,P1,e,-,hl,hm,hmm,hx,YO⟩
 ·simp at e;exact⟨O,0,0,[],e,⟨Or.inl rfl,rfl,fun _=>⟨rfl,rfl⟩,(fun a e=>by cases e),by simp,(fun g hg=>by cases hg),(fun g hg=>by cases hg)⟩⟩
 ·simp at e;have hlm:len<=m:=by rw[hmm];split<;>omega
  have hi:∀i,i<len->∃(z:Int) (s:ByteArray),V0 i=I V z/\V1 i= .string s/\i64 z/\D1 i= .lit (.string s.data.toList):=fun i hi=>by
   obtain⟨-,-,t0,t1⟩:=YO i (by omega);obtain⟨z,e0,-,w0⟩:=DataW.trod_int Tryz.underlying3 t0;obtain⟨s,e1,d1,-⟩:=DataW.trod_string Tryz.underlying9 t1;simp at e0 e1;exact⟨z,s,e0,e1,vM w0,congrArg Prod.fst d1⟩
  have hg:∀i,((List.range len).map (fun i=>((intOf (V0 i),strOf (V1 i)):AF)))[i]?=if i<len then M (intOf (V0 i),strOf (V1 i))else O:=fun i=>by
   rw[List.getElem?_map];by_cases h:i<len
   ·rw[if_pos h,List.getElem?_range h];rfl
   ·rw[if_neg h,List.getElem?_eq_none (by simp;omega)];rfl
  have hbulk:∀i,i<len->(strOf (V1 i)).size<=1048576:=fun i hl=>by
   obtain⟨z,s,e0,e1,-,ed⟩:=hi i hl;rw[hx]at hb;have m1:DataW.agg [D0 i,D1 i]∈(List.range len).map fun i=>DataW.agg [D0 i,D1 i]:=List.mem_map.2 ⟨i,List.mem_range.2 hl,rfl⟩
   have m2:=Ug m1;simp only[Rows.uptoBulk,Rows.uptoBulkAll,ed]at hb m2;rw[e1];have e5:s.data.toList.length=s.size:=by simp
   show s.size<=_;omega
  have hlen:len<=1048576:=by
   rw[hx]at hb;have:=Uf ((List.range len).map fun i=>DataW.agg [D0 i,D1 i]);simp only[Rows.uptoBulk,List.length_map,List.length_range]at hb this;omega
  have zS:∀g∈(List.range len).map (fun i=>((intOf (V0 i),strOf (V1 i)):AF)),∃i,i<len/\g=(intOf (V0 i),strOf (V1 i)):=fun g hg=>by
   obtain⟨i,q,rfl⟩:=List.mem_map.1 hg;exact⟨i,List.mem_range.1 q,rfl⟩
  refine⟨M a,len,cap,(List.range len).map (fun i=>(intOf (V0 i),strOf (V1 i))),e,⟨?_,by simp,(fun e=>by cases e),(fun a' ea hne=>?_),(by rw[List.length_map,List.length_range];omega),(fun g hg=>?_),(fun g hg=>?_)⟩⟩
  ·by_cases h0:len=0
   ·exact Or.inl (by rw[h0];rfl)
   ·obtain⟨b,off,spot⟩:=a;have IC:=(YO 0 (by omega)).1;have KD:spot=O:=by simpa[Addr.add]using World.cell?_spot IC
    subst KD;refine Or.inr ⟨b,off,rfl,fun i f hf=>?_⟩;rw[hg i]at hf;split at hf
    ·rename_i bT;cases hf
     obtain⟨z,s,e0,e1,-,-⟩:=hi i bT;obtain⟨c0,c1,-,-⟩:=YO i (by omega);rw[add_plain]at c0 c1;rw[c0,e0];refine⟨rfl,?_⟩;have e6:off+(i*2+1)=off+i*2+1:=by omega
     rw[e6]at c1;rw[c1,e1];rfl
    ·cases hf
  ·cases ea
   have h0:len≠0:=fun h=>hne (by rw[h];rfl)
   have c0:=(YO 0 (by omega)).1;have:=World.block_lt_of_cell? _ _ c0;simpa[Addr.add]using this
  ·obtain⟨i,bT,rfl⟩:=zS g hg;have:=hbulk i bT;simp only;omega
  ·obtain⟨i,bT,rfl⟩:=zS g hg;obtain⟨z,s,e0,-,hz,-⟩:=hi i bT;rw[e0];exact hz.2
theorem Ak {aA:Type}{qO:TypeId×Y->aA}{w:F}{spare:Nat->Bool}{held:Bool}{n:Nat}{cs:List Y}{y:DataW aA×List MemPlace}{a:Addr}
 (h1:w.cells? 0 a 7=M cs)(h2:DataW.trod qO K w 0 spare held n 73 cs=M y)(hb:Rows.uptoBulk y.1<=1048576):
 ∃(c0 c1 c2 c3 c4:Int) (s:ByteArray) (fo:Option Addr) (fl fc:Nat) (l:List AF),i64 c0/\i64 c1/\i64 c2/\i64 c3/\i64 c4/\s.size<=140737488355328/\rZ w w.heap.size fo fl fc l/\w.cell? (a.add 0)=M (I V c0)/\w.cell? (a.add 1)=M (I V c1)/\w.cell? (a.add 2)=M (I V c2)/\w.cell? (a.add 3)=M (I V c3)/\w.cell? (a.add 4)=M (I V c4)
  /\w.cell? (a.add 5)=M (.string s)/\w.cell? (a.add 6)=M (Z fo fl fc):=by
 obtain⟨_,hlen,hcell⟩:=World.cells?_some h1;obtain⟨xs,k,hk,hxy,_,C_,hf⟩:=DataW.trod_struct Tryz.underlying73 h2
 match xs,C_,cs,hlen with
 | [y0,y1,y2,y3,y4,y5,y6],_,[v0,v1,v2,v3,v4,v5,v6],_=>
  have g0:=hf 0 _ rfl;have g1:=hf 1 _ rfl;have g2:=hf 2 _ rfl;have g3:=hf 3 _ rfl;have g4:=hf 4 _ rfl;have g5:=hf 5 _ rfl;have g6:=hf 6 _ rfl;simp[Tryz.cellsInt,Tryz.cellsStr,Tryz.cellsFiles]at g0 g1 g2 g3 g4 g5 g6;rw[hxy]at hb;simp only[Rows.uptoBulk,Rows.uptoBulkAll,List.map_cons,List.map_nil]at hb;obtain⟨c0,e0,-,w0⟩:=DataW.trod_int Tryz.underlying3 g0;obtain⟨c1,e1,-,w1⟩:=DataW.trod_int Tryz.underlying3 g1;obtain⟨c2,e2,-,w2⟩:=DataW.trod_int Tryz.underlying3 g2;obtain⟨c3,e3,-,w3⟩:=DataW.trod_int Tryz.underlying3 g3;obtain⟨c4,e4,-,w4⟩:=DataW.trod_int Tryz.underlying3 g4;obtain⟨s,e5,d5,-⟩:=DataW.trod_string Tryz.underlying9 g5;obtain⟨fo,fl,fc,l,e6,hF⟩:=PN g6 (by omega)
  have jT:s.size<=140737488355328:=by
   have q:Rows.uptoBulk y5.1=s.data.toList.length+1:=by rw[d5];simp[Rows.uptoBulk]
   have e7:s.data.toList.length=s.size:=by simp
   omega
  simp at e0 e1 e2 e3 e4 e5;subst e0 e1 e2 e3 e4 e5 e6;exact⟨c0,c1,c2,c3,c4,s,fo,fl,fc,l,vM w0,vM w1,vM w2,vM w3,vM w4,jT,hF,hcell 0 (by omega),hcell 1 (by omega),hcell 2 (by omega),hcell 3 (by omega),hcell 4 (by omega),hcell 5 (by omega),hcell 6 (by omega)⟩
end Go.Proofs.YtfplgfodoiiobaaGreatDoor
