/- a part of the proof. -/
import Derived.Test.YtfplgfodoiiobabGreatDoorJ05
import Derived.Test.YtfplgfodoiiobabGreatDoorJ37
import Derived.Test.YtfplgfodoiiobabGreatDoorJc
import Derived.Test.YtfplgfodoiiobabGreatDoorCards
import Derived.Stop.LaidErr
import Derived.LaidSub
import Derived.Lib.LaidTab
import Derived.Deep.SlicePairs
open Option renaming none->O,some->M
open Go.Value renaming int->I,slice->Z
open Go.IntKind renaming i64->V
open Go.Obj renaming cells->C
open Go renaming World->F,Value->Y
open Go.Proofs.Tryz renaming prog→K
open Go.Proofs.Tryz
namespace Go.Proofs.YtfplgfodoiiobabGreatDoor
set_option maxRecDepth 100000
open Go.RowKit
open Go.ChangeShapes Go.WideShapes Go.ChangeAt Go.RowKit Go.Deep
variable {W w:F}{a:Addr}{spare:Nat->Bool}{held:Bool}{n:Nat}
theorem Tryz.guardAll:UG.all (λT=>!Ns K (sameLayout K Tryz.prog.depth · 353) Tryz.prog.depth T)=true:=by kernel_rfl
theorem guard_of {c:Array Y}{t:TypeId}(h:W.has K .any 0 a 353 1)(hb:W.heap[a.block]?=M (C c t (0,0))):a.spot=O/\Pv t:=by
 obtain⟨-,i,row,cells,e,d⟩:=h;refine⟨i,λk=>?_⟩
 have j:row=t:=by
  unfold World.shape? at e;rw[hb]at e;simp at e;exact e.1.symm
 subst j;rw[Tryz.depthPos]at d;unfold liesAt at d;rw[Adj]at d;rcases d with d|d
 ·have n:=Qh _ _ _ _ _ d;have g:=List.all_eq_true.1 Tryz.guardAll row k;rw[n]at g;cases g
 ·rw[underlying353]at d;cases d
theorem Gp {n:String}{text:List UInt8}{r:List (String×DataW Unit)}{ps:List MemPlace}{g:Nat}
 (h:DataW.LaidVars K W ((n,.iface "*errors.errorString" (.ptr (.agg [.lit (.string text)])))::r) ps)
 (ZP:∀b off,MemPlace.cell b off∈ps->(∃c t,W.heap[b]?=M (C c t (0,0)))/\∀u v,W.cell? ⟨b,off,O⟩=M (.iface u v)->Value.okWide K W .any 0 u v)
 (hg:Tryz.prog.globalNamed n=M g)(ht:(Tryz.prog.globals[g]?).map (·.type)=M 119):
 ∃a q,W.var? K n=M #[jQ a]/\DataW.LaidVars K W r q/\ps=MemPlace.cell g 0::MemPlace.cell a.block a.off::q/\a.spot=O/\∃c t,W.heap[a.block]?=M (C c t (0,0))/\Pv t:=by
 obtain⟨g0,R,o,X,N,B,y,w,j,J,D,x⟩:=h;obtain rfl:=AbL (hg.symm.trans y);obtain rfl:=AbL (ht.symm.trans w);obtain⟨E⟩:=o
 have i:∀u v,E=[.iface u v]->Value.okWide K W .any 0 u v:=λu v e=>by
  subst e;exact(ZP g 0 (by rw[x];simp[MemPlace.row])).2 u v (by simpa using World.var?_cell y j 0)
 obtain⟨d,P,rfl,S,Q,nG,rfl⟩:=errorString_of_trod underlying119 Tryz.rowES underlying335 underlying353 rfl rfl underlying9 Tryz.cellsES Tryz.cellsS9 J i;have A:ps=MemPlace.cell g 0::MemPlace.cell d.block d.off::B:=by rw[x];simp[MemPlace.row]
 have k:=i _ _ rfl
 have L:W.has K .any 0 d 353 1:=by
  unfold Value.okWide at k;rw[underlying335]at k;simp only[Cell.okWide,Cell.ok,underlying335]at k;exact k
 obtain⟨c,t,z⟩:=(ZP d.block d.off (by rw[A];simp)).1;obtain⟨g1,g2⟩:=guard_of L z;exact⟨d,B,j,D,A,g1,c,t,z,g2⟩
theorem VP (hL:laidMetH K Rows.allUptoRow.laid W)(hS:W.ShapedOpen K):∃ps,Gl W ps:=by
 obtain⟨h1,h2⟩:=laidMetH_iff.1 hL;have Sl:laidMet K [("math/bits.deBruijn32tab",Rows.laid_math_bits_deBruijn32tab),("math/bits.deBruijn64tab",Rows.laid_math_bits_deBruijn64tab),("internal/strconv.uint64pow10",Rows.laid_internal_strconv_uint64pow10),("quill/disk.ErrRefused",Rows.laid_quill_disk_ErrRefused),("quill/disk.ErrStopped",Rows.laid_quill_disk_ErrStopped),("quill/ledger.ErrSpoilt",Rows.laid_quill_ledger_ErrSpoilt),("quill/ledger.ErrExhausted",Rows.laid_quill_ledger_ErrExhausted),("quill/ledger.errMissing",Rows.laid_quill_ledger_errMissing)] W:=h1;obtain⟨ps,c,N,g⟩:=Sl;have ZP:DT W ps:=g;obtain⟨x1,x2,x3,x4,p1,q1,x5,x6,x7,x8,c,e1⟩:=c;obtain⟨y1,y2,y3,y4,p2,q2,y5,y6,y7,y8,c,e2⟩:=c;obtain⟨g6,t6,S,f6,p3,q3,vZ,P,B,yu,c,e3⟩:=c;have Gs:DT W q3:=λb off h=>ZP b off (by rw[e1,e2,e3];simp[h])
 have R:q3.Nodup:=by
  rw[e1,e2,e3]at N;exact((AdQ.1 ((AdQ.1 ((AdQ.1 N).2.1)).2.1)).2.1)
 obtain⟨a1,r1,w1,c,d1,s1,b1⟩:=Gp c Gs Tryz.g1 (Bb (by omega));have Ia:DT W r1:=λb off h=>Gs b off (by rw[d1];simp[h]);obtain⟨a2,r2,w2,c,d2,s2,b2⟩:=Gp c Ia Tryz.g2 (Bb (by omega));have Dv:DT W r2:=λb off h=>Ia b off (by rw[d2];simp[h]);obtain⟨a3,r3,w3,c,d3,s3,b3⟩:=Gp c Dv Tryz.g3 (Bb (by omega));have Td:DT W r3:=λb off h=>Dv b off (by rw[d3];simp[h]);obtain⟨a0,r0,w0,c,d0,s0,b0⟩:=Gp c Td Tryz.g0 (Bb (by omega));have UA:DT W r0:=λb off h=>Td b off (by rw[d0];simp[h]);obtain⟨a4,r4,w4,c,d4,s4,b4⟩:=Gp c UA Tryz.g4 (Bb (by omega));rw[d1,d2,d3,d0,d4]at R;refine⟨λk=>if k=2 then a0 else if k=0 then a1 else if k=1 then a2 else if k=3 then a3 else a4,⟨λk hk=>?_,λi j hi hj e=>?_⟩,λk hk=>?_,?_,?_⟩
 ·have hc:k=2\/k=0\/k=1\/k=3\/k=4:=by omega
  rcases hc with rfl|rfl|rfl|rfl|rfl
  ·exact yI hS Tryz.g0 (by omega) (Dc rfl (by omega)) w0
  ·exact yI hS Tryz.g1 (by omega) (Dc rfl (by omega)) w1
  ·exact yI hS Tryz.g2 (by omega) (Dc rfl (by omega)) w2
  ·exact yI hS Tryz.g3 (by omega) (Dc rfl (by omega)) w3
  ·exact yI hS Tryz.g4 (by omega) (Dc rfl (by omega)) w4
 ·have a:∀ {x y:Addr},x=y->MemPlace.cell x.block x.off=MemPlace.cell y.block y.off:=λe=>by rw[e]
  simp only[List.nodup_cons,AaG,not_or]at R;obtain⟨-,⟨-,w,-,L,-,E,-,D,-⟩,-,⟨-,o,-,n,-,A,-⟩,-,⟨-,r,-,t,-⟩,-,⟨-,J,-⟩,-⟩:=R;have kg:i=2\/i=0\/i=1\/i=3\/i=4:=by omega
  have X:j=2\/j=0\/j=1\/j=3\/j=4:=by omega
  rcases kg with rfl|rfl|rfl|rfl|rfl<;>rcases X with rfl|rfl|rfl|rfl|rfl
  ·rfl
  ·exact absurd (a (Adn e)) E
  ·exact absurd (a (Adn e)) n
  ·exact absurd (a (Adn e)) r
  ·exact absurd (a e) J
  ·exact absurd (a e) E
  ·rfl
  ·exact absurd (a e) w
  ·exact absurd (a e) L
  ·exact absurd (a e) D
  ·exact absurd (a e) n
  ·exact absurd (a (Adn e)) w
  ·rfl
  ·exact absurd (a e) o
  ·exact absurd (a e) A
  ·exact absurd (a e) r
  ·exact absurd (a (Adn e)) L
  ·exact absurd (a (Adn e)) o
  ·rfl
  ·exact absurd (a e) t
  ·exact absurd (a (Adn e)) J
  ·exact absurd (a (Adn e)) D
  ·exact absurd (a (Adn e)) A
  ·exact absurd (a (Adn e)) t
  ·rfl
 ·have hc:k=2\/k=0\/k=1\/k=3\/k=4:=by omega
  rcases hc with rfl|rfl|rfl|rfl|rfl
  ·exact b0
  ·exact b1
  ·exact b2
  ·exact b3
  ·exact b4
 ·have Q:handlesMet K [("errors.errorType",Rows.laid_errors_errorType)] W:=h2;obtain⟨d,u,ty,k1,k2,k3,k4,k5⟩:∃d u ty,(Rows.laid_errors_errorType).handleName?=M d/\(Tryz.prog.cutTypes.find? (·.1== "internal/reflectlite.rtype")).map (·.2)=M u/\ty<Tryz.prog.types.size/\Tryz.prog.rowNamed ty d=true/\W.var? K "errors.errorType"=M #[.iface u (.agg #[typeHandle K ty])]:=Q ("errors.errorType",Rows.laid_errors_errorType) (AbZ.2 rfl);obtain rfl:=AbL (Tryz.rtypeRow.symm.trans k2);have kn:=AbL (k1.symm.trans (by rfl));subst kn
  have kt:ty=119:=by
   have q:=List.all_eq_true.1 Tryz.errRows ty (AdJ.2 k3);rw[k4]at q;simpa using q
  subst kt;have q:=yI hS Tryz.g5 (by omega) (Dc rfl (by omega)) k5;unfold typeHandle at q;rw[Tryz.globSize]at q;exact q
 ·obtain rfl:=AbL (Tryz.g6.symm.trans vZ);obtain rfl:=AbL (Tryz.g6Type.symm.trans P);have q:=Lib.cells_of_tab (zs:=Lib.pow10Tab) underlying327 underlying318 Tryz.cellsU64 Tryz.cellsTab yu;have e6:S=(Lib.pow10Tab.map λz=>Value.int .u64 z).toArray:=by rw[<-q]
  rw[e6]at B;exact yI hS Tryz.g6 (by omega) (Dc rfl (by omega)) B
theorem xA {z:Int}(h:(Lit.int V z).wf=true):i64 z:=by
 have c:IntKind.i64.min= -9223372036854775808:=rfl;have a:IntKind.i64.max=9223372036854775807:=rfl;simp only[Lit.wf,Abh,AbB]at h;unfold i64;omega
theorem VQ {aB:Type}{La:TypeId×Y->aB}{v:Y}{y:DataW aB×List MemPlace}
 (h:DataW.trod La K w 0 spare held n 35 [v]=M y)(hb:Rows.uptoBulk y.1<=1048576):
 ∃(fo:Option Addr) (fl fc:Nat) (l:List AF),v=Z fo fl fc/\wO w w.heap.size fo fl fc l:=by
 rcases open_slice_pairs underlying35 underlying95 Tryz.cellsAF rfl rfl Tryz.cellsInt Tryz.cellsStr h with⟨e,-⟩|⟨a,len,cap,m,n',V0,V1,D0,D1,P0,P1,e,-,hl,hm,hmm,hx,hel⟩
 ·simp at e;exact⟨O,0,0,[],e,⟨Aac rfl,rfl,λ_=>⟨rfl,rfl⟩,(λa e=>by cases e),by simp,(λg hg=>by cases hg),(λg hg=>by cases hg)⟩⟩
 ·simp at e;have hlm:len<=m:=by rw[hmm];split<;>omega
  have hi:∀i,i<len->∃(z:Int) (s:ByteArray),V0 i=I V z/\V1 i= .string s/\i64 z/\D1 i= .lit (.string s.data.toList):=λi hi=>by
   obtain⟨-,-,t0,t1⟩:=hel i (by omega);obtain⟨z,e0,-,w0⟩:=AcY underlying3 t0;obtain⟨s,e1,d1,-⟩:=DataW.trod_string underlying9 t1;simp at e0 e1;exact⟨z,s,e0,e1,xA w0,congrArg Prod.fst d1⟩
  have hg:∀i,((List.range len).map (λi=>((intOf (V0 i),strOf (V1 i)):AF)))[i]?=if i<len then M (intOf (V0 i),strOf (V1 i))else O:=λi=>by
   rw[AaU];by_cases h:i<len
   ·rw[Aad h,AdF h];rfl
   ·rw[Aaa h,AcE (by simp;omega)];rfl
  have hbulk:∀i,i<len->(strOf (V1 i)).size<=1048576:=λi hl=>by
   obtain⟨z,s,e0,e1,-,ed⟩:=hi i hl;rw[hx]at hb;have m1:DataW.agg [D0 i,D1 i]∈(List.range len).map λi=>DataW.agg [D0 i,D1 i]:=AaS.2 ⟨i,AdJ.2 hl,rfl⟩;have m2:=PL m1;simp only[Rows.uptoBulk,Rows.uptoBulkAll,ed]at hb m2;rw[e1];have e5:s.data.toList.length=s.size:=(by simp);show s.size<=_
   omega
  have hlen:len<=1048576:=by
   rw[hx]at hb;have:=PK ((List.range len).map λi=>DataW.agg [D0 i,D1 i]);simp only[Rows.uptoBulk,AbM,AdR]at hb this;omega
  have Dx:∀g∈(List.range len).map (λi=>((intOf (V0 i),strOf (V1 i)):AF)),∃i,i<len/\g=(intOf (V0 i),strOf (V1 i)):=λg hg=>by
   obtain⟨i,q,rfl⟩:=AaS.1 hg;exact⟨i,AdJ.1 q,rfl⟩
  refine⟨M a,len,cap,(List.range len).map (λi=>(intOf (V0 i),strOf (V1 i))),e,⟨?_,by simp,(λe=>by cases e),(λa' ea hne=>?_),(by rw[AbM,AdR];omega),(λg hg=>?_),(λg hg=>?_)⟩⟩
  ·by_cases h0:len=0
   ·exact Aac (by rw[h0];rfl)
   ·obtain⟨b,off,spot⟩:=a;have YM:=(hel 0 (by omega)).1;have hspot:spot=O:=(by simpa[Addr.add]using World.cell?_spot YM);subst hspot;refine Aab ⟨b,off,rfl,λi f hf=>?_⟩;rw[hg i]at hf;split at hf
    ·rename_i bQ;cases hf
     obtain⟨z,s,e0,e1,-,-⟩:=hi i bQ;obtain⟨c0,c1,-,-⟩:=hel i (by omega);rw[add_plain]at c0 c1;rw[c0,e0];refine⟨rfl,?_⟩;have e6:off+(i*2+1)=off+i*2+1:=(by omega);rw[e6]at c1;rw[c1,e1];rfl
    ·cases hf
  ·cases ea
   have h0:len≠0:=λh=>hne (by rw[h];rfl);have c0:=(hel 0 (by omega)).1;have:=AaA _ _ c0;simpa[Addr.add]using this
  ·obtain⟨i,bQ,rfl⟩:=Dx g hg;have:=hbulk i bQ;simp only;omega
  ·obtain⟨i,bQ,rfl⟩:=Dx g hg;obtain⟨z,s,e0,-,hz,-⟩:=hi i bQ;rw[e0];exact hz.2
theorem Xp {aB:Type}{La:TypeId×Y->aB}{cs:List Y}{y:DataW aB×List MemPlace}
 (h1:w.cells? 0 a 7=M cs)(h2:DataW.trod La K w 0 spare held n 37 cs=M y)(hb:Rows.uptoBulk y.1<=1048576):
 ∃(c0 c1 c2 c3 c4:Int) (s:ByteArray) (fo:Option Addr) (fl fc:Nat) (l:List AF),i64 c0/\i64 c1/\i64 c2/\i64 c3/\i64 c4/\s.size<=140737488355328/\wO w w.heap.size fo fl fc l/\w.cell? (a.add 0)=M (I V c0)/\w.cell? (a.add 1)=M (I V c1)/\w.cell? (a.add 2)=M (I V c2)/\w.cell? (a.add 3)=M (I V c3)/\w.cell? (a.add 4)=M (I V c4)
  /\w.cell? (a.add 5)=M (.string s)/\w.cell? (a.add 6)=M (Z fo fl fc):=by
 obtain⟨_,e,c⟩:=World.cells?_some h1;obtain⟨A,k,R,h,_,g,d⟩:=DataW.trod_struct underlying37 h2
 match A,g,cs,e with
 | [y0,y1,y2,y3,y4,y5,y6],_,[v0,v1,v2,v3,v4,v5,v6],_=>
  have g0:=d 0 _ rfl;have g1:=d 1 _ rfl;have g2:=d 2 _ rfl;have g3:=d 3 _ rfl;have g4:=d 4 _ rfl;have g5:=d 5 _ rfl;have g6:=d 6 _ rfl;simp[Tryz.cellsInt,Tryz.cellsStr,Tryz.cellsFiles]at g0 g1 g2 g3 g4 g5 g6;rw[h]at hb;simp only[Rows.uptoBulk,Rows.uptoBulkAll,AaK,AbJ]at hb;obtain⟨c0,j,-,J⟩:=AcY underlying3 g0;obtain⟨c1,r,-,x⟩:=AcY underlying3 g1;obtain⟨c2,u,-,D⟩:=AcY underlying3 g2;obtain⟨c3,t,-,L⟩:=AcY underlying3 g3;obtain⟨c4,o,-,N⟩:=AcY underlying3 g4;obtain⟨s,i,z,-⟩:=DataW.trod_string underlying9 g5;obtain⟨fo,fl,fc,l,E,P⟩:=VQ g6 (by omega)
  have B:s.size<=140737488355328:=by
   have q:Rows.uptoBulk y5.1=s.data.toList.length+1:=(by rw[z];simp[Rows.uptoBulk]);have Q:s.data.toList.length=s.size:=(by simp);omega
  simp at j r u t o i;subst j r u t o i E;exact⟨c0,c1,c2,c3,c4,s,fo,fl,fc,l,xA J,xA x,xA D,xA L,xA N,B,P,c 0 (by omega),c 1 (by omega),c 2 (by omega),c 3 (by omega),c 4 (by omega),c 5 (by omega),c 6 (by omega)⟩
end Go.Proofs.YtfplgfodoiiobabGreatDoor
