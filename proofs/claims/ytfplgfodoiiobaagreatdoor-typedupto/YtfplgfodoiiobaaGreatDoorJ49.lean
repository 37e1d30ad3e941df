/- SwB, SwG, SwH, SwK, SwO, SwP, Wit, SwQ, KwS (joined). -/
import Derived.Deep.DeepHandedRow
import Derived.Deep.DeepWitnessRowRef
import Derived.Deep.SlicePairs
import Derived.LaidHandle
import Derived.LaidLaws
import Derived.LaidSub
import Derived.Lib.LaidTab
import Derived.OpenShut
import Derived.ProofKit
import Derived.Stop.LaidErr
import Derived.Test.YtfplgfodoiiobaaGreatDoorCards
import Derived.Test.YtfplgfodoiiobaaGreatDoorJ48
import Derived.Test.YtfplgfodoiiobaaGreatDoorTie
open Option renaming none→O,some→M
open Go.Value renaming int→I,slice→Z
open Go.IntKind renaming i64→V
open Go.Obj renaming cells→C
open Go renaming World→F,Value→Y,Calls→H
open Go.Proofs.Tryz renaming prog→K
namespace Go.Proofs.YtfplgfodoiiobaaGreatDoor
set_option maxRecDepth 100000
open Go.RowKit
variable {w:F} {B wb c p:Nat} {rs:List xJ} {D:Int} {DV vf vm:Y} {hs:List dS} {r:xJ} {ps:Nat->Addr} {a n m k:Int} {s:ByteArray} {fo:Option Addr} {fl fc:Nat}
open Go.ChangeShapes Go.WideShapes Go.ChangeAt Go.RowKit
open Go.ChangeShapes Go.WideShapes Go.ChangeAt Go.RowKit Go.Deep
variable {w w' W w2:F}{B g wb c:Nat}{l:List AF}{X:Nat->Prop}{ao:Option Addr}{hs:List dS}{rs:List xJ}{D:Int}{DV vf vm:Y}{r:xJ}
def iq (DV:Y)(n:Int)(vf vm:Y):Obj:=C #[Z O 0 0,DV,I V n,Z O 0 0,vf,vm] 71 (0,0)
def marksN (c:Nat):List Int:=(List.range c).map (fun i:Nat=> -((i:Int)+1))
def markB:ByteArray:=⟨#[109,97,114,107]⟩
def mkF (i:Nat):AF:=(-((i:Int)+1),markB)
def RdH (w:F)(ao:Option Addr)(l:List AF):Prop:=VF w ao l/\∀a,ao=M a->∃aQ,w.heap[a.block]?=M (C aQ 58 (0,0))
theorem RdH.fr (h:RdH w ao l)(hF:Fr w w' X)(hx:∀a,ao=M a->¬X a.block):RdH w' ao l:=by
 obtain⟨h1,h2⟩:=h;refine⟨?_,fun a e=>?_⟩
 ·rcases h1 with h1|⟨b,off,e,hc⟩
  ·exact Or.inl h1
  ·obtain⟨aQ,hb⟩:=h2 _ e;have mF:w'.heap[b]?=w.heap[b]?:=hF.2 b (aL hb) (hx _ e);exact Or.inr ⟨b,off,e,fun i f hf=>⟨(World.cell?_of_block (a:=⟨b,off+i*2,O⟩) mF).trans (hc i f hf).1,(World.cell?_of_block (a:=⟨b,off+i*2+1,O⟩) mF).trans (hc i f hf).2⟩⟩
 ·obtain⟨aQ,hb⟩:=h2 a e;exact⟨aQ,hF.at hb (hx _ e)⟩
theorem RdH.aM (h:RdH w ao l)(hg:aK w w'):RdH w' ao l:=h.fr (Fr.bT hg (fun _=>False)) (fun _ _=>id)
def NT (w:F)(hs:List dS):Prop:=∀i x,hs[i]?=M x->RdH w x.1 (List.replicate x.2.1 (mkF (i / 4)))/\x.2.1<=9000
theorem NT.fr (h:NT w hs)(hF:Fr w w' X)(h4:∀b aQ,w.heap[b]?=M (C aQ 58 (0,0))->¬X b):NT w' hs:=
 fun i x e=>⟨(h i x e).1.fr hF (fun a ea=>by obtain⟨aQ,hc⟩:=(h i x e).1.2 a ea;exact h4 _ _ hc),(h i x e).2⟩
structure DW (w:F)(B wb:Nat)(rs:List xJ)(c:Nat)(D:Int)(DV vf vm:Y)(hs:List dS):Prop where
 Qy:w.heap[wb]?=M (iq DV (c:Int) vf vm)
 wbn:B<=wb
 ss:w.ownsRow B 121 1 DV rs.length (rs.map (fun r:xJ=>Value.pointer (M ⟨r.sb,0,O⟩)))
 pair:∀r∈rs,lQ w B r
 dN:∀r∈rs,GS r.x D
 apart:rs.Pairwise Wu
 fs:w.ownsRow B 54 1 vf hs.length (hs.map dS.v)
 len:hs.length=4*c
 held:NT w hs
 ms:nM w B vm (marksN c)
theorem DW.aM (h:DW w B wb rs c D DV vf vm hs)(hg:aK w w'):DW w' B wb rs c D DV vf vm hs:=by
 have hF:=Fr.bT hg (fun _=>False);exact⟨hF.at h.Qy id,h.wbn,bO h.ss hF (fun _ _ _ _=>id),fun r hr=>(h.pair r hr).aM hg,h.dN,h.apart,bO h.fs hF (fun _ _ _ _=>id),h.len,h.held.fr hF (fun _ _ _=>id),bO h.ms hF (fun _ _ _ _=>id)⟩
theorem DW.lt (h:DW w B wb rs c D DV vf vm hs):B<w.heap.size:=Nat.lt_of_le_of_lt h.wbn (aL h.Qy)
theorem Wu.symm {q:xJ}(h:Wu r q):Wu q r:=⟨fun e=>h.1 e.symm,fun b h1 h2=>h.2 b h2 h1⟩
theorem DW.add {w1:F}{sb qp xb:Nat}{v5:Y}{x:St}{f:dS}(h:DW w B wb rs c D DV vf vm hs)(jH:aK w w1)(hn:∀b,(X b\/b=xb\/∃a,f.1=M a/\b=a.block)->w.heap.size<=b)(LB:w.heap.size<=sb)
 (Ga:w1.heap[sb]?=M (pairS qp xb))(hq:uR w1 qp x.1 x.2.1 x.2.2 X)(hy:kU w1 xb x.1 x.2.1 x.2.2 f)(hG:GS x D)
 (cZ:w2.ownsRow B 121 1 v5 (rs.length+1) (rs.map (fun r:xJ=>Value.pointer (M ⟨r.sb,0,O⟩))++ [Value.pointer (M ⟨sb,0,O⟩)]))(jA:w1.grownBy w2 DV.ownBlock)(Fy:(w2.setCell ⟨wb,1,O⟩ v5).heap[wb]?=M (iq v5 (c:Int) vf vm)):
 DW (w2.setCell ⟨wb,1,O⟩ v5) B wb (rs++ [⟨sb,qp,xb,x,X,f⟩]) c D v5 vf vm hs/\Below B w (w2.setCell ⟨wb,1,O⟩ v5):=by
 have H1:=h.aM jH;have bS:=h.lt;have hle:w.heap.size<=w1.heap.size:=jH.size
 have hF:Fr w1 (w2.setCell ⟨wb,1,O⟩ v5) (fun b=>DV.ownBlock=M b\/b=wb):=
  ((Fr.jC jA).mono (fun b e=>Or.inl e)).trans ((Fr.set w2 ⟨wb,1,O⟩ v5).mono (fun b e=>Or.inr e))
 have yB:∀ {b:Nat} {aQ:Array Y} {t:TypeId} {mk:Nat×Nat},w1.heap[b]?=M (C aQ t mk)->t≠121->t≠71->¬(DV.ownBlock=M b\/b=wb):=by
  intro b aQ t mk hb t1 t2 e;rcases e with e|rfl
  ·obtain⟨c1,Da⟩:=jE H1.ss e;exact aW hb Da t1 rfl
  ·exact aW hb H1.Qy t2 rfl
 have hfree:∀b,(DV.ownBlock=M b\/b=wb)->Ct w1 b:=by
  rintro b (e|rfl)
  ·obtain⟨c1,Da⟩:=jE H1.ss e;exact Ct.of Da (by decide) (by decide) (by decide) (by decide)
  ·exact Ct.of H1.Qy (by decide) (by decide) (by decide) (by decide)
 have hYf:∀(r:xJ),lQ w1 B r->lQ (w2.setCell ⟨wb,1,O⟩ v5) B r:=fun r hr=>
  hr.fr hF hfree (yB hr.sb (by decide) (by decide)) (fun b hb=>by
   intro e;rcases e with e|rfl
   ·obtain⟨c1,Da⟩:=jE H1.ss e;exact(hr.ty hb).ne Da (by decide)
   ·exact(hr.ty hb).ne H1.Qy (by decide))
 have VP:lQ w1 B ⟨sb,qp,xb,x,X,f⟩:=⟨Ga,hq,hy,by simp only;omega,fun b hb=>by have:=hn b hb;omega⟩;refine⟨⟨Fy,h.wbn,?_,?_,?_,?_,bO H1.fs hF (fun g aQ _ e=>yB e (by decide) (by decide)),h.len,H1.held.fr hF (fun b aQ e=>yB e (by decide) (by decide)),bO H1.ms hF (fun g aQ _ e=>yB e (by decide) (by decide))⟩,?_⟩
 ·rw[List.length_append,List.map_append];refine bO cZ (Fr.set w2 ⟨wb,1,O⟩ v5) (fun g aQ e hc e2=>?_);subst e2;have:=Fr.set w2 ⟨g,1,O⟩ v5
  have Vo:w2.heap[g]?=w1.heap[g]?\/DV.ownBlock=M g:=by
   by_cases hv:DV.ownBlock=M g
   ·exact Or.inr hv
   ·exact Or.inl (jA.block g (aL H1.Qy) (fun e=>hv e.symm))
  rcases Vo with e3|e3
  ·rw[e3,H1.Qy]at hc;cases hc
  ·obtain⟨c1,Da⟩:=jE H1.ss e3;exact aW Da H1.Qy (by decide) rfl
 ·intro r hr;rcases List.mem_append.1 hr with hr|hr
  ·exact hYf r (H1.pair r hr)
  ·simp at hr;subst hr;exact hYf _ VP
 ·intro r hr;rcases List.mem_append.1 hr with hr|hr
  ·exact h.dN r hr
  ·simp at hr;subst hr;exact hG
 ·rw[List.pairwise_append];refine⟨h.apart,by simp,fun r hr q hq=>?_⟩;simp at hq;subst hq;have hP:=h.pair r hr;refine⟨by have:=aL hP.sb;simp only;omega,fun b h1 h2=>?_⟩;have h3:=hP.lt h1;have h4:=hn b h2;omega
 ·refine⟨jA.os.trans jH.os,jA.tape.trans jH.tape,jA.output.trans jH.output,?_,fun b hb=>?_⟩
  ·have:=hF.1;omega
  ·rw[hF.2 b (by omega) (by
    rintro(e|rfl)
    ·have:=(H1.ss.lt b e).1;omega
    ·have:=h.wbn;omega)]
   exact jH.block b (by omega)
theorem KJ (l:List AF):(ah l).length=l.length*2:=by
 unfold ah
 induction l with
 |nil=>rfl
 |cons a l ih=>simp[AFc,ih];omega
theorem Wz:∀(l:List AF) (i:Nat) (f:AF),l[i]?=M f->(ah l)[i*2]?=M (I V f.1)/\(ah l)[i*2+1]?=M (.string f.2)
 | [],i,f,h=>by simp at h
 |a::l,0,f,h=>by
  simp at h;subst h;exact⟨rfl,rfl⟩
 |a::l,i+1,f,h=>by
  have:=Wz l i f (by simpa using h);have e:ah (a::l)=AFc a++ah l:=rfl;rw[e,show(i+1)*2=i*2+1+1 from by omega];simpa[AFc]using this
theorem B_.row {v:Y}(h:B_ w B v l):(v=Z O 0 0/\l=[])\/∃g cap aQ,v=Z (M ⟨g,0,O⟩) l.length cap/\B<=g/\w.heap[g]?=M (C aQ 58 (0,0))/\l.length<=cap/\aQ.size=cap*2/\aQ.toList.take (l.length*2)=ah l:=by
 rcases h.2 with⟨rfl,h0⟩|⟨g,cap,aQ,rfl,hg,hh,h1,-,h2,h3⟩
 ·exact Or.inl ⟨rfl,List.eq_nil_of_length_eq_zero h0⟩
 ·exact Or.inr ⟨g,cap,aQ,rfl,hg,hh,h1,h2,h3⟩
theorem VF.cells {ad:Addr}(h:VF w (M ad) l):∀j u,(ah l)[j]?=M u->w.cell? (ad.add j)=M u:=by
 intro j u hj;rcases h with rfl|⟨b,off,e,hc⟩
 ·simp[ah]at hj
 ·cases e
  have bS:j<(ah l).length:=(List.getElem?_eq_some_iff.1 hj).1;rw[KJ]at bS;obtain⟨f,hf⟩:∃f,l[j / 2]?=M f:=⟨_,List.getElem?_eq_getElem (by omega)⟩;obtain⟨q1,q2⟩:=Wz l (j / 2) f hf;obtain⟨c1,c2⟩:=hc (j / 2) f hf;rw[Addr.add_lit];rcases Nat.mod_two_eq_zero_or_one j with e|e
  ·rw[show j / 2*2=j by omega]at q1 c1;rw[q1]at hj;cases hj
   exact c1
  ·rw[show j / 2*2+1=j by omega]at q2;rw[show off+j / 2*2+1=off+j by omega]at c2;rw[q2]at hj;cases hj
   exact c2
theorem bn.later {w3:F}{r':xJ}{aH:Nat->Prop}(h:bn w w2 B r r')(hF:Fr w2 w3 aH)(hio:w3.os=w2.os/\w3.tape=w2.tape/\w3.output=w2.output)(hZ:∀b,aH b->w.heap.size<=b/\∃aQ,w2.heap[b]?=M (C aQ 58 (0,0))):bn w w3 B r r':=by
 refine⟨h.pair.fr hF (fun b hb=>?_) (fun e=>?_) (fun b hb e=>?_),h.sb,⟨Nat.le_trans h.fr.1 hF.1,fun b hb hn=>?_⟩,⟨hio.1.trans h.io.1,hio.2.1.trans h.io.2.1,hio.2.2.trans h.io.2.2⟩,h.yn⟩
 ·obtain⟨-,aQ,hc⟩:=hZ b hb;exact Ct.of hc (by decide) (by decide) (by decide) (by decide)
 ·obtain⟨-,aQ,hc⟩:=hZ _ e;exact aW h.pair.sb hc (by decide) rfl
 ·obtain⟨-,aQ,hc⟩:=hZ b e;exact(h.pair.ty hb).ne hc (by decide)
 ·have h1:¬aH b:=fun e=>by have:=(hZ b e).1;omega
  rw[hF.2 b (Nat.lt_of_lt_of_le hb h.fr.1) h1,h.fr.2 b hb hn]
theorem VF.fr (h:VF w ao l)(hF:Fr w w' X)(hx:∀a,ao=M a->l≠[]->¬X a.block):VF w' ao l:=by
 by_cases hl:l=[]
 ·exact Or.inl hl
 rcases h with h|⟨b,off,e,hc⟩
 ·exact Or.inl h
 ·refine Or.inr ⟨b,off,e,fun i f hf=>?_⟩;have h1:=hc i f hf;have mF:w'.heap[b]?=w.heap[b]?:=hF.2 b (World.block_lt_of_cell? _ _ h1.1) (hx _ e hl);exact⟨(World.cell?_of_block (a:=⟨b,off+i*2,O⟩) mF).trans h1.1,(World.cell?_of_block (a:=⟨b,off+i*2+1,O⟩) mF).trans h1.2⟩
theorem bn.at {r':xJ}(hP:lQ w B r)(h:bn w w2 B r r'){b:Nat}{aQ:Array Y}{t:TypeId}{f:Nat×Nat}(hb:w.heap[b]?=M (C aQ t f))(ht:(t≠137/\t≠155/\t≠157/\t≠5/\t≠80/\t≠93/\t≠140/\t≠147/\t≠160)/\t≠189/\t≠193):w2.heap[b]?=M (C aQ t f):=
 h.fr.at hb (fun e=>(hP.ty e).ne hb ht)
theorem B_.block {n cap:Nat}(h:B_ w B (Z ao n cap) l){k:Nat}(hk:k<l.length):
 ∃g aQ,ao=M ⟨g,0,O⟩/\B<=g/\w.heap[g]?=M (C aQ 58 (0,0))/\(∃u,w.cell? ⟨g,k*2,O⟩=M u)/\(∃u,w.cell? ⟨g,k*2+1,O⟩=M u)
  /\w.frozen? ⟨g,k*2,O⟩=false/\w.frozen? ⟨g,k*2+1,O⟩=false:=by
 have h':=h;rcases h.2 with⟨-,h0⟩|⟨g,Gd,aQ,hv,hg,hh,-⟩
 ·omega
 ·cases hv
  obtain⟨e1,e2⟩:=Wz l k _ (List.getElem?_eq_getElem hk);exact⟨g,aQ,rfl,hg,hh,⟨_,(World.ownsRow.cellAt h' (k*2) (by omega)).trans e1⟩,⟨_,(World.ownsRow.cellAt h' (k*2+1) (by omega)).trans e2⟩,World.ownsRow.frozenAt h' _,World.ownsRow.frozenAt h' _⟩
def i64 (n:Int):Prop:= -9223372036854775808<=n/\n<=9223372036854775807
def Fs (p:Program)(fits:TypeId->Bool):Nat->TypeId->Bool
 |0,_=>false
 |d+1,e=>fits e||(match p.underlying e with
  |some (.struct fs)=>fs.any fun f=>Fs p fits d f.type
  |some (.array _ e')=>Fs p fits d e'
  |_=>false)
theorem Im {p:Program}{fits:TypeId->Bool}:∀(d:Nat) (e:TypeId) (count off n:Nat),rowAt p fits d e count off n=true->Fs p fits d e=true
 |0,_,_,_,_,h=>by simp[rowAt]at h
 |d+1,e,count,off,n,h=>by
  unfold rowAt at h;unfold Fs;simp only at h;split at h
  ·cases h
  ·rw[Bool.or_eq_true]at h ⊢;rcases h with h|h
   ·simp only[Bool.and_eq_true]at h;exact Or.inl h.2
   ·right;rw[Bool.and_eq_true]at h;obtain⟨-,h⟩:=h;split at h
    ·rename_i fs hfs;rw[Bool.and_eq_true]at h;obtain⟨-,h⟩:=h;simp only[hfs];rw[Array.any_eq_true']at h ⊢;obtain⟨f,hf,hx⟩:=h;simp only[Bool.and_eq_true]at hx;exact⟨f,hf,Im d _ _ _ _ hx.2⟩
    ·rename_i m e' he;simp only[he];exact Im d _ _ _ _ h
    ·cases h
theorem Tryz.cellsES:Tryz.prog.cellsOf 376=1:=by kernel_rfl
theorem Tryz.cellsS9:Tryz.prog.cellsOf 9=1:=by kernel_rfl
theorem Tryz.star: "*"++ "errors.errorString"= "*errors.errorString":=by decide
theorem Tryz.rowES (u:TypeId)(h:Tryz.prog.typeName? 3 u=M "*errors.errorString"):u=358:=
 typeName_ptr_named (nm:= "errors.errorString") (by rw[Tryz.star];kernel_rfl) (by kernel_rfl) (by decide) u (by rw[Tryz.star];exact h)
theorem Tryz.depthPos:Tryz.prog.depth=(Tryz.prog.depth-1)+1:=by kernel_rfl
theorem Tryz.guardAll:IK.all (fun T=>!Fs K (sameLayout K Tryz.prog.depth · 376) Tryz.prog.depth T)=true:=by kernel_rfl
theorem iw {a:Addr}{c:Array Y}{t:TypeId}(h:W.has K .any 0 a 376 1)(hb:W.heap[a.block]?=M (C c t (0,0))):a.spot=O/\Hz t:=by
 obtain⟨-,h1,row,cells,h2,h3⟩:=h;refine⟨h1,fun hm=>?_⟩
 have er:row=t:=by
  unfold World.shape? at h2;rw[hb]at h2;simp at h2;exact h2.1.symm
 subst er;rw[Tryz.depthPos]at h3;unfold liesAt at h3;rw[Bool.or_eq_true]at h3;rcases h3 with h3|h3
 ·have h4:=Im _ _ _ _ _ h3;have h5:=List.all_eq_true.1 Tryz.guardAll row hm;rw[h4]at h5;cases h5
 ·rw[Tryz.underlying376]at h3;cases h3
theorem zP {n:String}{text:List UInt8}{r:List (String×DataW Unit)}{ps:List MemPlace}
 (h:DataW.LaidVars K W ((n,.iface "*errors.errorString" (.ptr (.agg [.lit (.string text)])))::r) ps)
 (NU:∀b off,MemPlace.cell b off∈ps->(∃c t,W.heap[b]?=M (C c t (0,0)))/\∀u v,W.cell? ⟨b,off,O⟩=M (.iface u v)->Value.okWide K W .any 0 u v)
 (hg:Tryz.prog.globalNamed n=M g)(ht:(Tryz.prog.globals[g]?).map (·.type)=M 88):
 ∃a q,W.var? K n=M #[gP a]/\DataW.LaidVars K W r q/\ps=MemPlace.cell g 0::MemPlace.cell a.block a.off::q/\a.spot=O/\∃c t,W.heap[a.block]?=M (C c t (0,0))/\Hz t:=by
 obtain⟨g0,t0,cs0,f0,p0,q0,ZA,ht0,hv0,EG,hr,e0⟩:=h;obtain rfl:=Option.some.inj (hg.symm.trans ZA);obtain rfl:=Option.some.inj (ht.symm.trans ht0);obtain⟨l0⟩:=cs0
 have ok0:∀u v,l0=[.iface u v]->Value.okWide K W .any 0 u v:=fun u v e=>by
  subst e;exact(NU g 0 (by rw[e0];simp[MemPlace.row])).2 u v (by simpa using World.var?_cell ZA hv0 0)
 obtain⟨a0,s0,rfl,Kn,hs0,uZ,rfl⟩:=errorString_of_trod Tryz.underlying88 Tryz.rowES Tryz.underlying358 Tryz.underlying376 rfl rfl Tryz.underlying9 Tryz.cellsES Tryz.cellsS9 EG ok0;have e1:ps=MemPlace.cell g 0::MemPlace.cell a0.block a0.off::q0:=by rw[e0];simp[MemPlace.row]
 have hw:=ok0 _ _ rfl
 have hh:W.has K .any 0 a0 376 1:=by
  unfold Value.okWide at hw;rw[Tryz.underlying358]at hw;simp only[Cell.okWide,Cell.ok,Tryz.underlying358]at hw;exact hw
 obtain⟨c,t,hb⟩:=(NU a0.block a0.off (by rw[e1];simp)).1;obtain⟨g1,g2⟩:=iw hh hb;exact⟨a0,q0,hv0,hr,e1,g1,c,t,hb,g2⟩
theorem Tryz.globTypes:(List.range 7).map (fun g=>(((begin K (fun _ _=>0) default).world.heap[g]?).bind Obj.row?).map (·.2))=[M 88,M 88,M 88,M 88,M 88,M 282,M 350]:=by kernel_rfl
theorem Tryz.globSize:Tryz.prog.globals.size=9:=by kernel_rfl
theorem Tryz.errRows:(List.range Tryz.prog.types.size).all (fun t=>!Tryz.prog.rowNamed t [101,114,114,111,114]||t==88)=true:=by kernel_rfl
theorem Tryz.rtypeRow:(Tryz.prog.cutTypes.find? (·.1== "internal/reflectlite.rtype")).map (·.2)=M 318:=by kernel_rfl
theorem sV {n:String}{t:TypeId}{cs:Array Y}(hS:W.ShapedOpen K)(hg:Tryz.prog.globalNamed n=M g)(bS:g<9)(hz:(((begin K (fun _ _=>0) default).world.heap[g]?).bind Obj.row?).map (·.2)=M t)(hv:W.var? K n=M cs):W.heap[g]?=M (C cs t (0,0)):=by
 obtain⟨z,wE,xZ⟩:=Option.map_eq_some_iff.1 hz;obtain⟨zero,t'⟩:=z;simp only at xZ;subst xZ;obtain⟨cs',h1,-,-⟩:=hS.1 g zero t' (by rw[Tryz.globSize];exact bS) wE;unfold World.var? at hv;rw[hg]at hv;simp only[Option.bind_some,h1]at hv;cases hv
 exact h1
theorem Tryz.g0:Tryz.prog.globalNamed "quill/ledger.ErrExhausted"=M 0:=by kernel_rfl
theorem Tryz.g1:Tryz.prog.globalNamed "quill/disk.ErrRefused"=M 1:=by kernel_rfl
theorem Tryz.g2:Tryz.prog.globalNamed "quill/disk.ErrStopped"=M 2:=by kernel_rfl
theorem Tryz.g3:Tryz.prog.globalNamed "quill/ledger.ErrSpoilt"=M 3:=by kernel_rfl
theorem Tryz.g4:Tryz.prog.globalNamed "quill/ledger.errMissing"=M 4:=by kernel_rfl
theorem Tryz.g5:Tryz.prog.globalNamed "errors.errorType"=M 5:=by kernel_rfl
theorem Tryz.g6:Tryz.prog.globalNamed "internal/strconv.uint64pow10"=M 6:=by kernel_rfl
theorem Tryz.gTypes:(List.range 5).map (fun g=>(Tryz.prog.globals[g]?).map (·.type))=[M 88,M 88,M 88,M 88,M 88]:=by kernel_rfl
theorem Tryz.g6Type:(Tryz.prog.globals[6]?).map (·.type)=M 350:=by kernel_rfl
theorem Tryz.cellsTab:Tryz.prog.cellsOf 350=20:=by kernel_rfl
theorem Tryz.cellsU64:Tryz.prog.cellsOf 341=1:=by kernel_rfl
theorem iy {α:Type}{l r:List α}(h:l=r)(i:Nat):l[i]?=r[i]?:=by rw[h]
theorem xL {t:TypeId}(h:[M 88,M 88,M 88,M 88,M 88,M 282,M 350][g]?=M (M t))(hg:g<7):(((begin K (fun _ _=>0) default).world.heap[g]?).bind Obj.row?).map (·.2)=M t:=by
 have e:=iy Tryz.globTypes g;rw[h,List.getElem?_map,List.getElem?_range hg]at e;simpa using e
theorem wC (hg:g<5):(Tryz.prog.globals[g]?).map (·.type)=M 88:=by
 have e:=iy Tryz.gTypes g;rw[List.getElem?_map,List.getElem?_range hg]at e
 have e2:[M 88,M 88,M 88,M 88,M (88:TypeId)][g]?=M (M 88):=by
  have:g=0\/g=1\/g=2\/g=3\/g=4:=by omega
  rcases this with rfl|rfl|rfl|rfl|rfl<;>rfl
 rw[e2]at e;simpa using e
abbrev Ug (W:F)(ps:List MemPlace):Prop:=∀b off,MemPlace.cell b off∈ps->(∃c t,W.heap[b]?=M (C c t (0,0)))/\∀u v,W.cell? ⟨b,off,O⟩=M (.iface u v)->Value.okWide K W .any 0 u v
theorem KL (hL:laidMetH K Rows.textsUptoRow.laid W)(hS:W.ShapedOpen K):∃ps,Gl W ps:=by
 obtain⟨h1,h2⟩:=laidMetH_iff.1 hL;have Qm:laidMet K [("math/bits.deBruijn32tab",Rows.laid_math_bits_deBruijn32tab),("math/bits.deBruijn64tab",Rows.laid_math_bits_deBruijn64tab),("internal/strconv.uint64pow10",Rows.laid_internal_strconv_uint64pow10),("quill/disk.ErrRefused",Rows.laid_quill_disk_ErrRefused),("quill/disk.ErrStopped",Rows.laid_quill_disk_ErrStopped),("quill/ledger.ErrSpoilt",Rows.laid_quill_ledger_ErrSpoilt),("quill/ledger.ErrExhausted",Rows.laid_quill_ledger_ErrExhausted),("quill/ledger.errMissing",Rows.laid_quill_ledger_errMissing)] W:=h1;obtain⟨ps,hv,hnd,hrows0⟩:=Qm;have NU:Ug W ps:=hrows0;obtain⟨x1,x2,x3,x4,p1,q1,x5,x6,x7,x8,hv,e1⟩:=hv;obtain⟨y1,y2,y3,y4,p2,q2,y5,y6,y7,y8,hv,e2⟩:=hv;obtain⟨g6,t6,cs6,f6,p3,q3,yF,ht6,hv6,hd6,hv,e3⟩:=hv;have Jm:Ug W q3:=fun b off hb=>NU b off (by rw[e1,e2,e3];simp[hb])
 have Vi:q3.Nodup:=by
  rw[e1,e2,e3]at hnd;exact((List.nodup_append.1 ((List.nodup_append.1 ((List.nodup_append.1 hnd).2.1)).2.1)).2.1)
 obtain⟨a1,r1,w1,hv,d1,s1,b1⟩:=zP hv Jm Tryz.g1 (wC (by omega));have Hy:Ug W r1:=fun b off hb=>Jm b off (by rw[d1];simp[hb])
 obtain⟨a2,r2,w2,hv,d2,s2,b2⟩:=zP hv Hy Tryz.g2 (wC (by omega));have GX:Ug W r2:=fun b off hb=>Hy b off (by rw[d2];simp[hb])
 obtain⟨a3,r3,w3,hv,d3,s3,b3⟩:=zP hv GX Tryz.g3 (wC (by omega));have ML:Ug W r3:=fun b off hb=>GX b off (by rw[d3];simp[hb])
 obtain⟨a0,r0,w0,hv,d0,s0,b0⟩:=zP hv ML Tryz.g0 (wC (by omega));have IC:Ug W r0:=fun b off hb=>ML b off (by rw[d0];simp[hb])
 obtain⟨a4,r4,w4,hv,d4,s4,b4⟩:=zP hv IC Tryz.g4 (wC (by omega));rw[d1,d2,d3,d0,d4]at Vi;refine⟨fun k=>if k=0 then a0 else if k=1 then a1 else if k=2 then a2 else if k=3 then a3 else a4,⟨fun k hk=>?_,fun i j hi hj e=>?_⟩,fun k hk=>?_,?_,?_⟩
 ·have hc:k=0\/k=1\/k=2\/k=3\/k=4:=by omega
  rcases hc with rfl|rfl|rfl|rfl|rfl
  ·exact sV hS Tryz.g0 (by omega) (xL rfl (by omega)) w0
  ·exact sV hS Tryz.g1 (by omega) (xL rfl (by omega)) w1
  ·exact sV hS Tryz.g2 (by omega) (xL rfl (by omega)) w2
  ·exact sV hS Tryz.g3 (by omega) (xL rfl (by omega)) w3
  ·exact sV hS Tryz.g4 (by omega) (xL rfl (by omega)) w4
 ·have nd:∀ {x y:Addr},x=y->MemPlace.cell x.block x.off=MemPlace.cell y.block y.off:=fun e=>by rw[e]
  simp only[List.nodup_cons,List.mem_cons,not_or]at Vi;obtain⟨-,⟨-,n12,-,n13,-,n10,-,n14,-⟩,-,⟨-,n23,-,n20,-,n24,-⟩,-,⟨-,n30,-,n34,-⟩,-,⟨-,n04,-⟩,-⟩:=Vi;have EB:i=0\/i=1\/i=2\/i=3\/i=4:=by omega
  have O_:j=0\/j=1\/j=2\/j=3\/j=4:=by omega
  rcases EB with rfl|rfl|rfl|rfl|rfl<;>rcases O_ with rfl|rfl|rfl|rfl|rfl
  ·rfl
  ·exact absurd (nd (Eq.symm e)) n10
  ·exact absurd (nd (Eq.symm e)) n20
  ·exact absurd (nd (Eq.symm e)) n30
  ·exact absurd (nd e) n04
  ·exact absurd (nd e) n10
  ·rfl
  ·exact absurd (nd e) n12
  ·exact absurd (nd e) n13
  ·exact absurd (nd e) n14
  ·exact absurd (nd e) n20
  ·exact absurd (nd (Eq.symm e)) n12
  ·rfl
  ·exact absurd (nd e) n23
  ·exact absurd (nd e) n24
  ·exact absurd (nd e) n30
  ·exact absurd (nd (Eq.symm e)) n13
  ·exact absurd (nd (Eq.symm e)) n23
  ·rfl
  ·exact absurd (nd e) n34
  ·exact absurd (nd (Eq.symm e)) n04
  ·exact absurd (nd (Eq.symm e)) n14
  ·exact absurd (nd (Eq.symm e)) n24
  ·exact absurd (nd (Eq.symm e)) n34
  ·rfl
 ·have hc:k=0\/k=1\/k=2\/k=3\/k=4:=by omega
  rcases hc with rfl|rfl|rfl|rfl|rfl
  ·exact b0
  ·exact b1
  ·exact b2
  ·exact b3
  ·exact b4
 ·have h2':handlesMet K [("errors.errorType",Rows.laid_errors_errorType)] W:=h2;obtain⟨name,u,ty,k1,k2,k3,k4,k5⟩:∃name u ty,(Rows.laid_errors_errorType (H:=Unit)).handleName?=M name/\(Tryz.prog.cutTypes.find? (·.1== "internal/reflectlite.rtype")).map (·.2)=M u/\ty<Tryz.prog.types.size/\Tryz.prog.rowNamed ty name=true/\W.var? K "errors.errorType"=M #[.iface u (.agg #[typeHandle K ty])]:=h2' ("errors.errorType",Rows.laid_errors_errorType) (List.mem_singleton.2 rfl);obtain rfl:=Option.some.inj (Tryz.rtypeRow.symm.trans k2);have kn:name=[101,114,114,111,114]:=Option.some.inj (k1.symm.trans (by rfl));subst kn
  have kt:ty=88:=by
   have q:=List.all_eq_true.1 Tryz.errRows ty (List.mem_range.2 k3);rw[k4]at q;simpa using q
  subst kt;have q:=sV hS Tryz.g5 (by omega) (xL rfl (by omega)) k5;unfold typeHandle at q;rw[Tryz.globSize]at q;exact q
 ·obtain rfl:=Option.some.inj (Tryz.g6.symm.trans yF);obtain rfl:=Option.some.inj (Tryz.g6Type.symm.trans ht6);have q:=Lib.cells_of_tab (zs:=Lib.pow10Tab) Tryz.underlying350 Tryz.underlying341 Tryz.cellsU64 Tryz.cellsTab hd6;have e6:cs6=(Lib.pow10Tab.map fun z=>Value.int .u64 z).toArray:=by rw[<-q]
  rw[e6]at hv6;exact sV hS Tryz.g6 (by omega) (xL rfl (by omega)) hv6
theorem Tryz.own:ownKnob Tryz.prog.godebug=O:=by kernel_rfl
theorem Tryz.laidOut:laidOutB K=true:=by kernel_rfl
theorem Tryz.cellsInt:Tryz.prog.cellsOf 3=1:=by kernel_rfl
theorem Tryz.cellsStr:Tryz.prog.cellsOf 9=1:=by kernel_rfl
theorem Io {z:Int}(h:(Lit.int V z).wf=true):i64 z:=by
 have h1:IntKind.i64.min= -9223372036854775808:=rfl;have h2:IntKind.i64.max=9223372036854775807:=rfl;simp only[Lit.wf,Bool.and_eq_true,decide_eq_true_eq]at h;unfold i64;omega
theorem ja {aB:Type}(d:DataW aB):1<=Rows.uptoBulk d:=by
 cases d with
 |lit x=>cases x<;>simp[Rows.uptoBulk]
 |nil=>simp[Rows.uptoBulk]
 |ptr x=>simp[Rows.uptoBulk]
 |slice x y=>simp[Rows.uptoBulk]
 |agg x=>simp[Rows.uptoBulk]
 |iface t x=>simp[Rows.uptoBulk]
 |map x=>simp[Rows.uptoBulk]
 |held x=>simp[Rows.uptoBulk]
theorem jb {aB:Type}:∀l:List (DataW aB),l.length<=Rows.uptoBulkAll l:=by
 intro l
 induction l with
 |nil=>simp
 |cons d r ih=>
  have:=ja d;simp only[Rows.uptoBulkAll,List.length_cons];omega
theorem jc {aB:Type}:∀ {l:List (DataW aB)} {d:DataW aB},d∈l->Rows.uptoBulk d<=Rows.uptoBulkAll l:=by
 intro l
 induction l with
 |nil=>intro d h;cases h
 |cons e r ih=>
  intro d h;simp only[Rows.uptoBulkAll];rcases List.mem_cons.1 h with rfl|h
  ·omega
  ·have:=ih h;omega
theorem Tryz.cellsAct:Tryz.prog.cellsOf 39=5:=by kernel_rfl
theorem DY {aB:Type}{Df:TypeId×Y->aB}{spare:Nat->Bool}{held:Bool}{n:Nat}{cs:List Y}{y:DataW aB×List MemPlace}{a:Addr}
 (h1:w.cells? 0 a 5=M cs)(h2:DataW.trod Df K w 0 spare held n 39 cs=M y)(hb:Rows.uptoBulk y.1<=1048576):
 ∃(c0 c1 c2 c3:Int) (s:ByteArray),i64 c1/\i64 c2/\s.size<=140737488355328/\w.cell? (a.add 0)=M (I V c0)/\w.cell? (a.add 1)=M (I V c1)/\w.cell? (a.add 2)=M (I V c2)/\w.cell? (a.add 3)=M (I V c3)/\w.cell? (a.add 4)=M (.string s):=by
 obtain⟨_,hlen,hcell⟩:=World.cells?_some h1;obtain⟨xs,k,hk,hxy,_,hxl,hf⟩:=DataW.trod_struct Tryz.underlying39 h2
 match xs,hxl,cs,hlen with
 | [y0,y1,y2,y3,y4],_,[v0,v1,v2,v3,v4],_=>
  have g0:=hf 0 _ rfl;have g1:=hf 1 _ rfl;have g2:=hf 2 _ rfl;have g3:=hf 3 _ rfl;have g4:=hf 4 _ rfl;simp[Tryz.cellsInt,Tryz.cellsStr]at g0 g1 g2 g3 g4;rw[hxy]at hb;simp only[Rows.uptoBulk,Rows.uptoBulkAll,List.map_cons,List.map_nil]at hb;obtain⟨c0,e0,-,w0⟩:=DataW.trod_int Tryz.underlying3 g0;obtain⟨c1,e1,-,w1⟩:=DataW.trod_int Tryz.underlying3 g1;obtain⟨c2,e2,-,w2⟩:=DataW.trod_int Tryz.underlying3 g2;obtain⟨c3,e3,-,w3⟩:=DataW.trod_int Tryz.underlying3 g3;obtain⟨s,e4,d4,-⟩:=DataW.trod_string Tryz.underlying9 g4
  have iU:s.size<=140737488355328:=by
   have q:Rows.uptoBulk y4.1=s.data.toList.length+1:=by rw[d4];simp[Rows.uptoBulk]
   have e7:s.data.toList.length=s.size:=by simp
   omega
  simp at e0 e1 e2 e3 e4;subst e0 e1 e2 e3 e4;exact⟨c0,c1,c2,c3,s,Io w1,Io w2,iU,hcell 0 (by omega),hcell 1 (by omega),hcell 2 (by omega),hcell 3 (by omega),hcell 4 (by omega)⟩
end Go.Proofs.YtfplgfodoiiobaaGreatDoor
