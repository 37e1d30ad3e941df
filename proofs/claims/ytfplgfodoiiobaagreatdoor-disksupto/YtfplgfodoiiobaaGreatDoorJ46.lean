/- SwB, SwC, SwD (joined). -/
import Derived.Test.YtfplgfodoiiobaaGreatDoorJ45
open Option renaming none→O,some→M
open Go.Value renaming int→I,slice→Z,pointer→U
open Go.IntKind renaming i64→V
open Go.Obj renaming cells→C
open Go.Ending renaming returned→G
open Go renaming World→F,Value→Y,Calls→H
open Go.Proofs.Tryz renaming prog→K
namespace Go.Proofs.YtfplgfodoiiobaaGreatDoor
set_option maxHeartbeats 2000000
set_option maxRecDepth 100000
open Go.RowKit
variable {w w' w1:F}{B fl fc wb c:Nat}{r:gW}{n code a m k D:Int}{x1:St}{s:ByteArray}{fo:Option Addr}{jK vf vm:Y}{hs:List bS}{rs:List gW}{X:Nat->Prop}
def iU (jK:Y)(n:Int)(vf vm:Y):Obj:=C #[Z O 0 0,jK,I V n,Z O 0 0,vf,vm] 71 (0,0)
theorem cK (h:w.heap[wb]?=M (iU jK n vf vm)):
 w.cell? ⟨wb,0,O⟩=M (Z O 0 0)/\w.cell? ⟨wb,1,O⟩=M jK/\w.cell? ⟨wb,2,O⟩=M (I V n)/\w.cell? ⟨wb,3,O⟩=M (Z O 0 0)/\w.cell? ⟨wb,4,O⟩=M vf/\w.cell? ⟨wb,5,O⟩=M vm/\∀j,w.frozen? ⟨wb,j,O⟩=false:=by
 simp[World.cell?,World.frozen?,h,iU]
def nK (c:Nat):List Int:=(List.range c).map (fun i:Nat=> -((i:Int)+1))
theorem JR (c:Nat):nK (c+1)=nK c++ [-((c:Int)+1)]:=by unfold nK;rw[List.range_succ];simp
theorem rY (c:Nat):(nK c).length=c:=by simp[nK]
theorem OP {i:Nat}(h:i<c):(nK c).getD i 0= -((i:Int)+1):=by simp[nK,h]
def sV:ByteArray:=⟨#[109,97,114,107]⟩
def tJ (i:Nat):AF:=(-((i:Int)+1),sV)
def Qi (w:F)(ao:Option Addr)(l:List AF):Prop:=yS w ao l/\∀a,ao=M a->∃aS,w.heap[a.block]?=M (C aS 58 (0,0))
theorem Qi.fr {ao:Option Addr}{l:List AF}(h:Qi w ao l)(hF:Fr w w' X)(hx:∀a,ao=M a->¬X a.block):Qi w' ao l:=by
 obtain⟨h1,h2⟩:=h;refine⟨?_,fun a e=>?_⟩
 ·rcases h1 with h1|⟨b,off,e,hc⟩
  ·exact Or.inl h1
  ·obtain⟨aS,hb⟩:=h2 _ e;have pX:w'.heap[b]?=w.heap[b]?:=hF.2 b (aM hb) (hx _ e);exact Or.inr ⟨b,off,e,fun i f hf=>⟨(World.cell?_of_block (a:=⟨b,off+i*2,O⟩) pX).trans (hc i f hf).1,(World.cell?_of_block (a:=⟨b,off+i*2+1,O⟩) pX).trans (hc i f hf).2⟩⟩
 ·obtain⟨aS,hb⟩:=h2 a e;exact⟨aS,hF.at hb (hx _ e)⟩
theorem Qi.aN {ao:Option Addr}{l:List AF}(h:Qi w ao l)(hg:aL w w'):Qi w' ao l:=h.fr (Fr.cZ hg (fun _=>False)) (fun _ _=>id)
def Yl (w:F)(hs:List bS):Prop:=∀i x,hs[i]?=M x->Qi w x.1 (List.replicate x.2.1 (tJ (i / 4)))/\x.2.1<=9000
theorem Yl.fr (h:Yl w hs)(hF:Fr w w' X)(h4:∀b aS,w.heap[b]?=M (C aS 58 (0,0))->¬X b):Yl w' hs:=
 fun i x e=>⟨(h i x e).1.fr hF (fun a ea=>by obtain⟨aS,hc⟩:=(h i x e).1.2 a ea;exact h4 _ _ hc),(h i x e).2⟩
structure iA (w:F)(B wb:Nat)(rs:List gW)(c:Nat)(D:Int)(jK vf vm:Y)(hs:List bS):Prop where
 rX:w.heap[wb]?=M (iU jK (c:Int) vf vm)
 wbn:B<=wb
 ss:w.ownsRow B 121 1 jK rs.length (rs.map (fun r:gW=>Value.pointer (M ⟨r.sb,0,O⟩)))
 pair:∀r∈rs,dR w B r
 dX:∀r∈rs,GS r.x D
 apart:rs.Pairwise Hf
 fs:w.ownsRow B 54 1 vf hs.length (hs.map bS.v)
 len:hs.length=4*c
 held:Yl w hs
 ms:iP w B vm (nK c)
theorem iA.aN (h:iA w B wb rs c D jK vf vm hs)(hg:aL w w'):iA w' B wb rs c D jK vf vm hs:=by
 have hF:=Fr.cZ hg (fun _=>False);exact⟨hF.at h.rX id,h.wbn,bI h.ss hF (fun _ _ _ _=>id),fun r hr=>(h.pair r hr).aN hg,h.dX,h.apart,bI h.fs hF (fun _ _ _ _=>id),h.len,h.held.fr hF (fun _ _ _=>id),bI h.ms hF (fun _ _ _ _=>id)⟩
theorem iA.more {D':Int}(h:iA w B wb rs c D jK vf vm hs)(hD:D<=D'):iA w B wb rs c D' jK vf vm hs:=
 ⟨h.rX,h.wbn,h.ss,h.pair,fun r hr=>(h.dX r hr).more hD,h.apart,h.fs,h.len,h.held,h.ms⟩
theorem iA.lt (h:iA w B wb rs c D jK vf vm hs):B<w.heap.size:=Nat.lt_of_le_of_lt h.wbn (aM h.rX)
theorem Hf.symm {q:gW}(h:Hf r q):Hf q r:=⟨fun e=>h.1 e.symm,fun b h1 h2=>h.2 b h2 h1⟩
theorem Ml (h:rs.Pairwise Hf){i j:Nat}(hi:i<rs.length)(hj:j<rs.length)(hne:i≠j):Hf rs[i] rs[j]:=by
 rcases Nat.lt_or_ge i j with bT|Oe
 ·exact List.pairwise_iff_getElem.1 h i j hi hj bT
 ·exact(List.pairwise_iff_getElem.1 h j i hj hi (by omega)).symm
theorem iA.both {w2:F}{k:Nat}{D':Int}(h:iA w B wb rs c D jK vf vm hs){r':gW}(hr:rs[k]?=M r)(hb:qY w w2 B r r')(hg:GS r'.x D')(hD:D<=D'):iA w2 B wb (rs.set k r') c D' jK vf vm hs/\Below B w w2:=by
 have zS:r∈rs:=List.mem_of_getElem? hr;obtain⟨Wi,Pg⟩:=List.getElem?_eq_some_iff.1 hr;have hP:=h.pair r zS;have vC:∀b,r.aB b->STy w b:=fun b hb=>hP.ty hb
 refine⟨⟨hb.fr.at h.rX (fun e=>(vC _ e).ne h.rX (by decide)),h.wbn,?_,?_,?_,?_,bI h.fs hb.fr (fun g aS _ e e2=>(vC _ e2).ne e (by decide)),h.len,h.held.fr hb.fr (fun b aS e e2=>(vC _ e2).ne e (by decide)),bI h.ms hb.fr (fun g aS _ e e2=>(vC _ e2).ne e (by decide))⟩,?_⟩
 ·rw[List.length_set,List.map_set]
  have e:(rs.map (fun r:gW=>Value.pointer (M ⟨r.sb,0,O⟩))).set k (Value.pointer (M ⟨r'.sb,0,O⟩))=rs.map (fun r:gW=>Value.pointer (M ⟨r.sb,0,O⟩)):=by
   apply List.ext_getElem?;intro i;rw[List.getElem?_set];by_cases hi:k=i
   ·subst hi;simp[Wi,hb.sb,Pg]
   ·simp[hi]
  rw[e];exact bI h.ss hb.fr (fun g aS _ e e2=>(vC _ e2).ne e (by decide))
 ·intro s Pf;obtain⟨i,hi,rfl⟩:=List.getElem_of_mem Pf;rw[List.getElem_set];by_cases Uz:k=i
  ·rw[if_pos Uz];exact hb.pair
  ·rw[if_neg Uz];have Va:i<rs.length:=by simpa using hi
   have Eg:=Ml h.apart Va Wi (fun e=>Uz e.symm);rw[Pg]at Eg;have hPi:=h.pair rs[i] (List.getElem_mem Va);exact hPi.fr hb.fr (fun b hb=>(vC b hb).free) (fun e=>(vC _ e).ne hPi.sb (by decide)) Eg.2
 ·intro s Pf;obtain⟨i,hi,rfl⟩:=List.getElem_of_mem Pf;rw[List.getElem_set];by_cases Uz:k=i
  ·rw[if_pos Uz];exact hg
  ·rw[if_neg Uz];have Va:i<rs.length:=by simpa using hi
   exact(h.dX _ (List.getElem_mem Va)).more hD
 ·rw[List.pairwise_iff_getElem];intro i j hi hj hij;have Va:i<rs.length:=by simpa using hi
  have ZM:j<rs.length:=by simpa using hj
  have new:∀n (hn:n<rs.length),n≠k->Hf rs[n] r':=fun n hn hne=>by
   have Eg:=Ml h.apart hn Wi hne;rw[Pg]at Eg;refine⟨by rw[hb.sb];exact Eg.1,fun b h1 h2=>?_⟩;rcases hb.yn b h2 with h2|h2
   ·exact Eg.2 b h1 h2
   ·have:=(h.pair _ (List.getElem_mem hn)).lt h1;omega
  rw[List.getElem_set,List.getElem_set];by_cases h1:k=i
  ·rw[if_pos h1,if_neg (by omega)];exact(new j ZM (by omega)).symm
  ·rw[if_neg h1];by_cases h2:k=j
   ·rw[if_pos h2];exact new i Va (by omega)
   ·rw[if_neg h2];exact Ml h.apart Va ZM (by omega)
 ·refine⟨hb.io.1,hb.io.2.1,hb.io.2.2,hb.fr.1,fun b bT=>?_⟩;have:=h.lt;exact hb.fr.2 b (by omega) (fun e=>by have:=hP.yn b e;omega)
theorem iA.add {w2:F}{sb qp xb:Nat}{v5:Y}{x:St}{f:bS}(h:iA w B wb rs c D jK vf vm hs)(iH:aL w w1)(hn:∀b,(X b\/b=xb\/∃a,f.1=M a/\b=a.block)->w.heap.size<=b)(CF:w.heap.size<=sb)
 (tK:w1.heap[sb]?=M (Fj qp xb))(hq:tH w1 qp x.1 x.2.1 x.2.2 X)(hy:bH w1 xb x.1 x.2.1 x.2.2 f)(hG:GS x D)
 (bA:w2.ownsRow B 121 1 v5 (rs.length+1) (rs.map (fun r:gW=>Value.pointer (M ⟨r.sb,0,O⟩))++ [Value.pointer (M ⟨sb,0,O⟩)]))(kJ:w1.grownBy w2 jK.ownBlock)(Dy:(w2.setCell ⟨wb,1,O⟩ v5).heap[wb]?=M (iU v5 (c:Int) vf vm)):
 iA (w2.setCell ⟨wb,1,O⟩ v5) B wb (rs++ [⟨sb,qp,xb,x,X,f⟩]) c D v5 vf vm hs/\Below B w (w2.setCell ⟨wb,1,O⟩ v5):=by
 have H1:=h.aN iH;have bT:=h.lt;have hle:w.heap.size<=w1.heap.size:=iH.size
 have hF:Fr w1 (w2.setCell ⟨wb,1,O⟩ v5) (fun b=>jK.ownBlock=M b\/b=wb):=
  ((Fr.kK kJ).mono (fun b e=>Or.inl e)).trans ((Fr.set w2 ⟨wb,1,O⟩ v5).mono (fun b e=>Or.inr e))
 have vC:∀ {b:Nat} {aS:Array Y} {t:TypeId} {mk:Nat×Nat},w1.heap[b]?=M (C aS t mk)->t≠121->t≠71->¬(jK.ownBlock=M b\/b=wb):=by
  intro b aS t mk hb t1 t2 e;rcases e with e|rfl
  ·obtain⟨c1,vI⟩:=mF H1.ss e;exact bB hb vI t1 rfl
  ·exact bB hb H1.rX t2 rfl
 have hfree:∀b,(jK.ownBlock=M b\/b=wb)->Ka w1 b:=by
  rintro b (e|rfl)
  ·obtain⟨c1,vI⟩:=mF H1.ss e;exact Ka.of vI (by decide) (by decide) (by decide) (by decide)
  ·exact Ka.of H1.rX (by decide) (by decide) (by decide) (by decide)
 have hYf:∀(r:gW),dR w1 B r->dR (w2.setCell ⟨wb,1,O⟩ v5) B r:=fun r hr=>
  hr.fr hF hfree (vC hr.sb (by decide) (by decide)) (fun b hb=>by
   intro e;rcases e with e|rfl
   ·obtain⟨c1,vI⟩:=mF H1.ss e;exact(hr.ty hb).ne vI (by decide)
   ·exact(hr.ty hb).ne H1.rX (by decide))
 have Zj:dR w1 B ⟨sb,qp,xb,x,X,f⟩:=⟨tK,hq,hy,by simp only;omega,fun b hb=>by have:=hn b hb;omega⟩;refine⟨⟨Dy,h.wbn,?_,?_,?_,?_,bI H1.fs hF (fun g aS _ e=>vC e (by decide) (by decide)),h.len,H1.held.fr hF (fun b aS e=>vC e (by decide) (by decide)),bI H1.ms hF (fun g aS _ e=>vC e (by decide) (by decide))⟩,?_⟩
 ·rw[List.length_append,List.map_append];refine bI bA (Fr.set w2 ⟨wb,1,O⟩ v5) (fun g aS e hc e2=>?_);subst e2;have:=Fr.set w2 ⟨g,1,O⟩ v5
  have Ut:w2.heap[g]?=w1.heap[g]?\/jK.ownBlock=M g:=by
   by_cases hv:jK.ownBlock=M g
   ·exact Or.inr hv
   ·exact Or.inl (kJ.block g (aM H1.rX) (fun e=>hv e.symm))
  rcases Ut with e3|e3
  ·rw[e3,H1.rX]at hc;cases hc
  ·obtain⟨c1,vI⟩:=mF H1.ss e3;exact bB vI H1.rX (by decide) rfl
 ·intro r hr;rcases List.mem_append.1 hr with hr|hr
  ·exact hYf r (H1.pair r hr)
  ·simp at hr;subst hr;exact hYf _ Zj
 ·intro r hr;rcases List.mem_append.1 hr with hr|hr
  ·exact h.dX r hr
  ·simp at hr;subst hr;exact hG
 ·rw[List.pairwise_append];refine⟨h.apart,by simp,fun r hr q hq=>?_⟩;simp at hq;subst hq;have hP:=h.pair r hr;refine⟨by have:=aM hP.sb;simp only;omega,fun b h1 h2=>?_⟩;have h3:=hP.lt h1;have h4:=hn b h2;omega
 ·refine⟨kJ.os.trans iH.os,kJ.tape.trans iH.tape,kJ.output.trans iH.output,?_,fun b hb=>?_⟩
  ·have:=hF.1;omega
  ·rw[hF.2 b (by omega) (by
    rintro(e|rfl)
    ·have:=(H1.ss.lt b e).1;omega
    ·have:=h.wbn;omega)]
   exact iH.block b (by omega)
def Fp (w:F)(r:gW)(f:FuncId)(args:Array Y)(x1:St)(code:Int):Prop:=
 ∀W,aL w W->H K f args W fun e w'=>e=G (I V code)/\∃X',tH w' r.qp x1.1 x1.2.1 x1.2.2 X'/\Dk w w' r.X X'
def Vp (w:F)(B:Nat)(r:gW)(f:FuncId)(args:Array Y)(x1:St)(code:Int):Prop:=
 ∀w1 X',tH w1 r.qp x1.1 x1.2.1 x1.2.2 X'->Dk w w1 r.X X'->∀W,aL w1 W->H K f args W fun e w'=>e=G (I V code)/\∃r',qY w w' B r r'/\r'.x=x1
theorem Kb {f:FuncId}{args:Array Y}(h:∀W,aL w W->H K f args W fun e w'=>e=G (I V code)/\Bj W w' r.qp r.X x1):Fp w r f args x1 code:=fun W hW=>by
 refine(h W hW).mono ?_;rintro e w' ⟨rfl,X',hq,hk⟩;exact⟨rfl,X',hq,Ct hW hk⟩
theorem BH {f:FuncId}{args:Array Y}(hP:dR w B r)(hB:B<=w.heap.size)(h:∀W,bH W r.xb r.x.1 r.x.2.1 r.x.2.2 r.f->H K f args W fun e w'=>e=G (I V code)/\After W w' r.xb x1.1 x1.2.1 x1.2.2 r.f):Vp w B r f args x1 code:=fun w1 X' hq hk W hW=>by
 refine(h W ((hP.half hk).1.aN hW)).mono ?_;rintro e w' ⟨rfl,ha⟩;exact⟨rfl,hP.both hB hq hk (After.trans ((jN.refl w1 r.xb r.f).aN hW) ha)⟩
theorem kR (h:dR w B r){X':Nat->Prop}(hk:Dk w w1 r.X X'):w1.cell? ⟨r.sb,1,O⟩=M (U (M ⟨r.xb,0,O⟩)):=by
 have:=(h.half hk).2;simp[World.cell?,this,Fj]
theorem gV {qp xb sb:Nat}(h:w.heap[sb]?=M (Fj qp xb)):w.cell? ⟨sb,0,O⟩=M (U (M ⟨qp,0,O⟩))/\w.cell? ⟨sb,1,O⟩=M (U (M ⟨xb,0,O⟩)):=by
 simp[World.cell?,h,Fj]
def bV (q a n m k:Int)(s:ByteArray)(fo:Option Addr)(fl fc:Nat):Obj:=C #[I V q,I V a,I V n,I V m,I V k,.string s,Z fo fl fc] 73 (0,0)
theorem bR {b:Nat}{q:Int}(h:w.heap[b]?=M (bV q a n m k s fo fl fc)):
 w.cell? ⟨b,0,O⟩=M (I V q)/\w.cell? ⟨b,1,O⟩=M (I V a)/\w.cell? ⟨b,2,O⟩=M (I V n)/\w.cell? ⟨b,3,O⟩=M (I V m)/\w.cell? ⟨b,4,O⟩=M (I V k)/\w.cell? ⟨b,5,O⟩=M (.string s)/\w.cell? ⟨b,6,O⟩=M (Z fo fl fc):=by
 simp[World.cell?,h,bV]
theorem nZ {b:Nat}(h:dR w B r){X':Nat->Prop}(hk:Dk w w1 r.X X'){q:Int}(hb:w.heap[b]?=M (bV q a n m k s fo fl fc)):w1.heap[b]?=M (bV q a n m k s fo fl fc):=
 hk.1.at hb (fun e=>(h.q.ty e).ne hb (by decide) rfl)
theorem WV (hP:dR w B r)
 (h1:∀w0,aL w w0->Fp w0 r 28 #[U (M ⟨r.qp,0,O⟩),I V n,.string s] x1 code)(h2:∀w0,aL w w0->Vp w0 B r 108 #[U (M ⟨r.xb,0,O⟩),I V 73,I V n,I V 0,.string s] x1 code):
 H K 69 #[U (M ⟨r.sb,0,O⟩),.agg #[I V 14,I V a,I V n,I V m,I V k,.string s,Z fo fl fc]] w fun e w'=>e=G (.bool true)/\∃w0 r',aL w w0/\qY w0 w' B r r'/\r'.x=x1:=by
 obtain⟨w0,dW⟩:∃w0,w0=w.alloc (bV 14 a n m k s fo fl fc):=⟨_,rfl⟩;have G0:aL w w0:=by rw[dW];exact(aL.refl w).alloc _
 have dV:w0.heap[w.heap.size]?=M (bV 14 a n m k s fo fl fc):=by rw[dW];exact heap_alloc_new w _
 have sW:=hP.aN G0;obtain⟨p0,p1⟩:=gV sW.sb;obtain⟨s0,s1,s2,s3,s4,s5,s6⟩:=bR dV;have HP:Hid (dR w0 B r):=sW;have HS:Hid (w0.heap[w.heap.size]?=M (bV 14 a n m k s fo fl fc)):=dV;have H1:=h1 w0 G0;have H2:=h2 w0 G0;have HG:Hid (aL w w0):=G0;unfold bV at dW;clear hP sW dV h1 h2 G0;go_enter Tryz.func69,Tryz.ntmps69
 go_upto_region 1 with fail
 rw[<-dW];clear dW;generalize w.heap.size=ob at*
 go_upto_region 5 with fail
 refine wp_region_still_tail 8 (by kernel_rfl) (by kernel_rfl) ?_;simp only[List.take_succ_cons,List.take_zero,List.drop_succ_cons,List.drop_zero]
 repeat still_step
 refine wpStill_nil ?_
 go_upto_region 6 with(go_at_call 28;refine(H1 _ (aL.drew (aL.refl w0))).mono ?_;rintro e w1 ⟨rfl,X',qA,tY⟩)
 have HD:=H2 w1 X' qA tY;have p2:=kR HP.out tY;obtain⟨t0,t1,t2,t3,t4,t5,t6⟩:=bR (nZ HP.out tY HS.out);clear H1 H2 qA tY p0 p1 s0 s1 s2 s3 s4 s5 s6;refine wp_region_still_tail 8 (by kernel_rfl) (by kernel_rfl) ?_;simp only[List.take_succ_cons,List.take_zero,List.drop_succ_cons,List.drop_zero]
 repeat still_step
 refine wpStill_nil ?_
 go_upto_region 16 with(go_at_call 108;refine(HD _ (aL.drew (aL.refl w1))).mono ?_;rintro e w2 ⟨rfl,r',tO⟩)
 go_wp2_with (go_at_call 99;refine jZ.mono ?_;rintro e w3 ⟨rfl,rfl⟩)
 go_ret;refine⟨by simp,w0,r',HG.out,tO.1,tO.2⟩
theorem WW (hP:dR w B r)
 (h1:∀w0,aL w w0->Fp w0 r 44 #[U (M ⟨r.qp,0,O⟩),I V n,I V m] x1 code)(h2:∀w0,aL w w0->Vp w0 B r 108 #[U (M ⟨r.xb,0,O⟩),I V 68,I V n,I V m,.string ⟨#[]⟩] x1 code):
 H K 69 #[U (M ⟨r.sb,0,O⟩),.agg #[I V 15,I V a,I V n,I V m,I V k,.string s,Z fo fl fc]] w fun e w'=>e=G (.bool true)/\∃w0 r',aL w w0/\qY w0 w' B r r'/\r'.x=x1:=by
 obtain⟨w0,dW⟩:∃w0,w0=w.alloc (bV 15 a n m k s fo fl fc):=⟨_,rfl⟩;have G0:aL w w0:=by rw[dW];exact(aL.refl w).alloc _
 have dV:w0.heap[w.heap.size]?=M (bV 15 a n m k s fo fl fc):=by rw[dW];exact heap_alloc_new w _
 have sW:=hP.aN G0;obtain⟨p0,p1⟩:=gV sW.sb;obtain⟨s0,s1,s2,s3,s4,s5,s6⟩:=bR dV;have HP:Hid (dR w0 B r):=sW;have HS:Hid (w0.heap[w.heap.size]?=M (bV 15 a n m k s fo fl fc)):=dV;have H1:=h1 w0 G0;have H2:=h2 w0 G0;have HG:Hid (aL w w0):=G0;unfold bV at dW;clear hP sW dV h1 h2 G0;go_enter Tryz.func69,Tryz.ntmps69
 go_upto_region 1 with fail
 rw[<-dW];clear dW;generalize w.heap.size=ob at*
 go_upto_region 8 with fail
 refine wp_region_still_tail 8 (by kernel_rfl) (by kernel_rfl) ?_;simp only[List.take_succ_cons,List.take_zero,List.drop_succ_cons,List.drop_zero]
 repeat still_step
 refine wpStill_nil ?_
 go_upto_region 9 with(go_at_call 44;refine(H1 _ (aL.drew (aL.refl w0))).mono ?_;rintro e w1 ⟨rfl,X',qA,tY⟩)
 have HD:=H2 w1 X' qA tY;have p2:=kR HP.out tY;obtain⟨t0,t1,t2,t3,t4,t5,t6⟩:=bR (nZ HP.out tY HS.out);clear H1 H2 qA tY p0 p1 s0 s1 s2 s3 s4 s5 s6;refine wp_region_still_tail 8 (by kernel_rfl) (by kernel_rfl) ?_;simp only[List.take_succ_cons,List.take_zero,List.drop_succ_cons,List.drop_zero]
 repeat still_step
 refine wpStill_nil ?_
 go_upto_region 16 with(go_at_call 108;refine(HD _ (aL.drew (aL.refl w1))).mono ?_;rintro e w2 ⟨rfl,r',tO⟩)
 go_wp2_with (go_at_call 99;refine jZ.mono ?_;rintro e w3 ⟨rfl,rfl⟩)
 go_ret;refine⟨by simp,w0,r',HG.out,tO.1,tO.2⟩
theorem OQ (hP:dR w B r)
 (h1:∀w0,aL w w0->Fp w0 r 29 #[U (M ⟨r.qp,0,O⟩)] x1 code)(h2:∀w0,aL w w0->Vp w0 B r 108 #[U (M ⟨r.xb,0,O⟩),I V 85,I V 0,I V 0,.string ⟨#[]⟩] x1 code):
 H K 69 #[U (M ⟨r.sb,0,O⟩),.agg #[I V 16,I V a,I V n,I V m,I V k,.string s,Z fo fl fc]] w fun e w'=>e=G (.bool true)/\∃w0 r',aL w w0/\qY w0 w' B r r'/\r'.x=x1:=by
 obtain⟨w0,dW⟩:∃w0,w0=w.alloc (bV 16 a n m k s fo fl fc):=⟨_,rfl⟩;have G0:aL w w0:=by rw[dW];exact(aL.refl w).alloc _
 have dV:w0.heap[w.heap.size]?=M (bV 16 a n m k s fo fl fc):=by rw[dW];exact heap_alloc_new w _
 have sW:=hP.aN G0;obtain⟨p0,p1⟩:=gV sW.sb;obtain⟨s0,s1,s2,s3,s4,s5,s6⟩:=bR dV;have HP:Hid (dR w0 B r):=sW;have HS:Hid (w0.heap[w.heap.size]?=M (bV 16 a n m k s fo fl fc)):=dV;have H1:=h1 w0 G0;have H2:=h2 w0 G0;have HG:Hid (aL w w0):=G0;unfold bV at dW;clear hP sW dV h1 h2 G0;go_enter Tryz.func69,Tryz.ntmps69
 go_upto_region 1 with fail
 rw[<-dW];clear dW;generalize w.heap.size=ob at*
 go_upto_region 11 with fail
 go_upto_region 12 with(go_at_call 29;refine(H1 _ (aL.refl w0)).mono ?_;rintro e w1 ⟨rfl,X',qA,tY⟩)
 have HD:=H2 w1 X' qA tY;have p2:=kR HP.out tY;obtain⟨t0,t1,t2,t3,t4,t5,t6⟩:=bR (nZ HP.out tY HS.out);clear H1 H2 qA tY p0 p1 s0 s1 s2 s3 s4 s5 s6
 go_upto_region 16 with(go_at_call 108;refine(HD _ (aL.refl w1)).mono ?_;rintro e w2 ⟨rfl,r',tO⟩)
 go_wp2_with (go_at_call 99;refine jZ.mono ?_;rintro e w3 ⟨rfl,rfl⟩)
 go_ret;refine⟨by simp,w0,r',HG.out,tO.1,tO.2⟩
theorem OT (hP:dR w B r)
 (h1:∀w0,aL w w0->Fp w0 r 46 #[U (M ⟨r.qp,0,O⟩)] x1 code)(h2:∀w0,aL w w0->Vp w0 B r 108 #[U (M ⟨r.xb,0,O⟩),I V 82,I V 0,I V 0,.string ⟨#[]⟩] x1 code):
 H K 69 #[U (M ⟨r.sb,0,O⟩),.agg #[I V 17,I V a,I V n,I V m,I V k,.string s,Z fo fl fc]] w fun e w'=>e=G (.bool true)/\∃w0 r',aL w w0/\qY w0 w' B r r'/\r'.x=x1:=by
 obtain⟨w0,dW⟩:∃w0,w0=w.alloc (bV 17 a n m k s fo fl fc):=⟨_,rfl⟩;have G0:aL w w0:=by rw[dW];exact(aL.refl w).alloc _
 have dV:w0.heap[w.heap.size]?=M (bV 17 a n m k s fo fl fc):=by rw[dW];exact heap_alloc_new w _
 have sW:=hP.aN G0;obtain⟨p0,p1⟩:=gV sW.sb;obtain⟨s0,s1,s2,s3,s4,s5,s6⟩:=bR dV;have HP:Hid (dR w0 B r):=sW;have HS:Hid (w0.heap[w.heap.size]?=M (bV 17 a n m k s fo fl fc)):=dV;have H1:=h1 w0 G0;have H2:=h2 w0 G0;have HG:Hid (aL w w0):=G0;unfold bV at dW;clear hP sW dV h1 h2 G0;go_enter Tryz.func69,Tryz.ntmps69
 go_upto_region 1 with fail
 rw[<-dW];clear dW;generalize w.heap.size=ob at*
 go_upto_region 14 with fail
 go_upto_region 15 with(go_at_call 46;refine(H1 _ (aL.refl w0)).mono ?_;rintro e w1 ⟨rfl,X',qA,tY⟩)
 have HD:=H2 w1 X' qA tY;have p2:=kR HP.out tY;obtain⟨t0,t1,t2,t3,t4,t5,t6⟩:=bR (nZ HP.out tY HS.out);clear H1 H2 qA tY p0 p1 s0 s1 s2 s3 s4 s5 s6
 go_upto_region 16 with(go_at_call 108;refine(HD _ (aL.refl w1)).mono ?_;rintro e w2 ⟨rfl,r',tO⟩)
 go_wp2_with (go_at_call 99;refine jZ.mono ?_;rintro e w3 ⟨rfl,rfl⟩)
 go_ret;refine⟨by simp,w0,r',HG.out,tO.1,tO.2⟩
theorem WX (hP:dR w B r)
 (h1:∀w0,aL w w0->Fp w0 r 24 #[U (M ⟨r.qp,0,O⟩)] x1 code)(h2:∀w0,aL w w0->Vp w0 B r 112 #[U (M ⟨r.xb,0,O⟩)] x1 code):
 H K 73 #[U (M ⟨r.sb,0,O⟩),.agg #[I V 12,I V a,I V n,I V m,I V k,.string s,Z fo fl fc]] w fun e w'=>e=G (.bool true)/\∃w0 r',aL w w0/\qY w0 w' B r r'/\r'.x=x1:=by
 obtain⟨w0,dW⟩:∃w0,w0=w.alloc (bV 12 a n m k s fo fl fc):=⟨_,rfl⟩;have G0:aL w w0:=by rw[dW];exact(aL.refl w).alloc _
 have dV:w0.heap[w.heap.size]?=M (bV 12 a n m k s fo fl fc):=by rw[dW];exact heap_alloc_new w _
 have sW:=hP.aN G0;obtain⟨p0,p1⟩:=gV sW.sb;obtain⟨s0,s1,s2,s3,s4,s5,s6⟩:=bR dV;have HP:Hid (dR w0 B r):=sW;have HS:Hid (w0.heap[w.heap.size]?=M (bV 12 a n m k s fo fl fc)):=dV;have H1:=h1 w0 G0;have H2:=h2 w0 G0;have HG:Hid (aL w w0):=G0;unfold bV at dW;clear hP sW dV h1 h2 G0;go_enter Tryz.func73,Tryz.ntmps73
 go_upto_region 1 with fail
 rw[<-dW];clear dW;generalize w.heap.size=ob at*
 go_upto_region 5 with fail
 go_upto_region 6 with(go_at_call 24;refine(H1 _ (aL.refl w0)).mono ?_;rintro e w1 ⟨rfl,X',qA,tY⟩)
 have HD:=H2 w1 X' qA tY;have p2:=kR HP.out tY;obtain⟨t0,t1,t2,t3,t4,t5,t6⟩:=bR (nZ HP.out tY HS.out);clear H1 H2 qA tY p0 p1 s0 s1 s2 s3 s4 s5 s6
 go_upto_region 22 with(go_at_call 112;refine(HD _ (aL.refl w1)).mono ?_;rintro e w2 ⟨rfl,r',tO⟩)
 go_wp2_with (go_at_call 99;refine jZ.mono ?_;rintro e w3 ⟨rfl,rfl⟩)
 go_ret;refine⟨by simp,w0,r',HG.out,tO.1,tO.2⟩
theorem OU (hP:dR w B r)
 (h1:∀w0,aL w w0->Fp w0 r 32 #[U (M ⟨r.qp,0,O⟩)] x1 code)(h2:∀w0,aL w w0->Vp w0 B r 113 #[U (M ⟨r.xb,0,O⟩)] x1 code):
 H K 73 #[U (M ⟨r.sb,0,O⟩),.agg #[I V 13,I V a,I V n,I V m,I V k,.string s,Z fo fl fc]] w fun e w'=>e=G (.bool true)/\∃w0 r',aL w w0/\qY w0 w' B r r'/\r'.x=x1:=by
 obtain⟨w0,dW⟩:∃w0,w0=w.alloc (bV 13 a n m k s fo fl fc):=⟨_,rfl⟩;have G0:aL w w0:=by rw[dW];exact(aL.refl w).alloc _
 have dV:w0.heap[w.heap.size]?=M (bV 13 a n m k s fo fl fc):=by rw[dW];exact heap_alloc_new w _
 have sW:=hP.aN G0;obtain⟨p0,p1⟩:=gV sW.sb;obtain⟨s0,s1,s2,s3,s4,s5,s6⟩:=bR dV;have HP:Hid (dR w0 B r):=sW;have HS:Hid (w0.heap[w.heap.size]?=M (bV 13 a n m k s fo fl fc)):=dV;have H1:=h1 w0 G0;have H2:=h2 w0 G0;have HG:Hid (aL w w0):=G0;unfold bV at dW;clear hP sW dV h1 h2 G0;go_enter Tryz.func73,Tryz.ntmps73
 go_upto_region 1 with fail
 rw[<-dW];clear dW;generalize w.heap.size=ob at*
 go_upto_region 8 with fail
 go_upto_region 9 with(go_at_call 32;refine(H1 _ (aL.refl w0)).mono ?_;rintro e w1 ⟨rfl,X',qA,tY⟩)
 have HD:=H2 w1 X' qA tY;have p2:=kR HP.out tY;obtain⟨t0,t1,t2,t3,t4,t5,t6⟩:=bR (nZ HP.out tY HS.out);clear H1 H2 qA tY p0 p1 s0 s1 s2 s3 s4 s5 s6
 go_upto_region 22 with(go_at_call 113;refine(HD _ (aL.refl w1)).mono ?_;rintro e w2 ⟨rfl,r',tO⟩)
 go_wp2_with (go_at_call 99;refine jZ.mono ?_;rintro e w3 ⟨rfl,rfl⟩)
 go_ret;refine⟨by simp,w0,r',HG.out,tO.1,tO.2⟩
theorem WY (hP:dR w B r)
 (h1:∀w0,aL w w0->Fp w0 r 30 #[U (M ⟨r.qp,0,O⟩)] x1 code)(h2:∀w0,aL w w0->Vp w0 B r 114 #[U (M ⟨r.xb,0,O⟩)] x1 code):
 H K 73 #[U (M ⟨r.sb,0,O⟩),.agg #[I V 21,I V a,I V n,I V m,I V k,.string s,Z fo fl fc]] w fun e w'=>e=G (.bool true)/\∃w0 r',aL w w0/\qY w0 w' B r r'/\r'.x=x1:=by
 obtain⟨w0,dW⟩:∃w0,w0=w.alloc (bV 21 a n m k s fo fl fc):=⟨_,rfl⟩;have G0:aL w w0:=by rw[dW];exact(aL.refl w).alloc _
 have dV:w0.heap[w.heap.size]?=M (bV 21 a n m k s fo fl fc):=by rw[dW];exact heap_alloc_new w _
 have sW:=hP.aN G0;obtain⟨p0,p1⟩:=gV sW.sb;obtain⟨s0,s1,s2,s3,s4,s5,s6⟩:=bR dV;have HP:Hid (dR w0 B r):=sW;have HS:Hid (w0.heap[w.heap.size]?=M (bV 21 a n m k s fo fl fc)):=dV;have H1:=h1 w0 G0;have H2:=h2 w0 G0;have HG:Hid (aL w w0):=G0;unfold bV at dW;clear hP sW dV h1 h2 G0;go_enter Tryz.func73,Tryz.ntmps73
 go_upto_region 1 with fail
 rw[<-dW];clear dW;generalize w.heap.size=ob at*
 go_upto_region 11 with fail
 go_upto_region 12 with(go_at_call 30;refine(H1 _ (aL.refl w0)).mono ?_;rintro e w1 ⟨rfl,X',qA,tY⟩)
 have HD:=H2 w1 X' qA tY;have p2:=kR HP.out tY;obtain⟨t0,t1,t2,t3,t4,t5,t6⟩:=bR (nZ HP.out tY HS.out);clear H1 H2 qA tY p0 p1 s0 s1 s2 s3 s4 s5 s6
 go_upto_region 22 with(go_at_call 114;refine(HD _ (aL.refl w1)).mono ?_;rintro e w2 ⟨rfl,r',tO⟩)
 go_wp2_with (go_at_call 99;refine jZ.mono ?_;rintro e w3 ⟨rfl,rfl⟩)
 go_ret;refine⟨by simp,w0,r',HG.out,tO.1,tO.2⟩
theorem OV (hP:dR w B r)
 (h1:∀w0,aL w w0->Fp w0 r 21 #[U (M ⟨r.qp,0,O⟩),I V n,I V m,I V k] x1 code)(h2:∀w0,aL w w0->Vp w0 B r 115 #[U (M ⟨r.xb,0,O⟩),I V n,I V m,I V k] x1 code):
 H K 73 #[U (M ⟨r.sb,0,O⟩),.agg #[I V 24,I V a,I V n,I V m,I V k,.string s,Z fo fl fc]] w fun e w'=>e=G (.bool true)/\∃w0 r',aL w w0/\qY w0 w' B r r'/\r'.x=x1:=by
 obtain⟨w0,dW⟩:∃w0,w0=w.alloc (bV 24 a n m k s fo fl fc):=⟨_,rfl⟩;have G0:aL w w0:=by rw[dW];exact(aL.refl w).alloc _
 have dV:w0.heap[w.heap.size]?=M (bV 24 a n m k s fo fl fc):=by rw[dW];exact heap_alloc_new w _
 have sW:=hP.aN G0;obtain⟨p0,p1⟩:=gV sW.sb;obtain⟨s0,s1,s2,s3,s4,s5,s6⟩:=bR dV;have HP:Hid (dR w0 B r):=sW;have HS:Hid (w0.heap[w.heap.size]?=M (bV 24 a n m k s fo fl fc)):=dV;have H1:=h1 w0 G0;have H2:=h2 w0 G0;have HG:Hid (aL w w0):=G0;unfold bV at dW;clear hP sW dV h1 h2 G0;go_enter Tryz.func73,Tryz.ntmps73
 go_upto_region 1 with fail
 rw[<-dW];clear dW;generalize w.heap.size=ob at*
 go_upto_region 14 with fail
 refine wp_region_still_tail 10 (by kernel_rfl) (by kernel_rfl) ?_;simp only[List.take_succ_cons,List.take_zero,List.drop_succ_cons,List.drop_zero]
 repeat still_step
 refine wpStill_nil ?_
 go_upto_region 15 with(go_at_call 21;refine(H1 _ (aL.drew (aL.refl w0))).mono ?_;rintro e w1 ⟨rfl,X',qA,tY⟩)
 have HD:=H2 w1 X' qA tY;have p2:=kR HP.out tY;obtain⟨t0,t1,t2,t3,t4,t5,t6⟩:=bR (nZ HP.out tY HS.out);clear H1 H2 qA tY p0 p1 s0 s1 s2 s3 s4 s5 s6;refine wp_region_still_tail 10 (by kernel_rfl) (by kernel_rfl) ?_;simp only[List.take_succ_cons,List.take_zero,List.drop_succ_cons,List.drop_zero]
 repeat still_step
 refine wpStill_nil ?_
 go_upto_region 22 with(go_at_call 115;refine(HD _ (aL.drew (aL.refl w1))).mono ?_;rintro e w2 ⟨rfl,r',tO⟩)
 go_wp2_with (go_at_call 99;refine jZ.mono ?_;rintro e w3 ⟨rfl,rfl⟩)
 go_ret;refine⟨by simp,w0,r',HG.out,tO.1,tO.2⟩
theorem JS (hP:dR w B r)
 (h1:∀w0,aL w w0->Fp w0 r 27 #[U (M ⟨r.qp,0,O⟩),I V n] x1 code)(h2:∀w0,aL w w0->Vp w0 B r 116 #[U (M ⟨r.xb,0,O⟩),I V n] x1 code):
 H K 73 #[U (M ⟨r.sb,0,O⟩),.agg #[I V 25,I V a,I V n,I V m,I V k,.string s,Z fo fl fc]] w fun e w'=>e=G (.bool true)/\∃w0 r',aL w w0/\qY w0 w' B r r'/\r'.x=x1:=by
 obtain⟨w0,dW⟩:∃w0,w0=w.alloc (bV 25 a n m k s fo fl fc):=⟨_,rfl⟩;have G0:aL w w0:=by rw[dW];exact(aL.refl w).alloc _
 have dV:w0.heap[w.heap.size]?=M (bV 25 a n m k s fo fl fc):=by rw[dW];exact heap_alloc_new w _
 have sW:=hP.aN G0;obtain⟨p0,p1⟩:=gV sW.sb;obtain⟨s0,s1,s2,s3,s4,s5,s6⟩:=bR dV;have HP:Hid (dR w0 B r):=sW;have HS:Hid (w0.heap[w.heap.size]?=M (bV 25 a n m k s fo fl fc)):=dV;have H1:=h1 w0 G0;have H2:=h2 w0 G0;have HG:Hid (aL w w0):=G0;unfold bV at dW;clear hP sW dV h1 h2 G0;go_enter Tryz.func73,Tryz.ntmps73
 go_upto_region 1 with fail
 rw[<-dW];clear dW;generalize w.heap.size=ob at*
 go_upto_region 17 with fail
 refine wp_region_still_tail 6 (by kernel_rfl) (by kernel_rfl) ?_;simp only[List.take_succ_cons,List.take_zero,List.drop_succ_cons,List.drop_zero]
 repeat still_step
 refine wpStill_nil ?_
 go_upto_region 18 with(go_at_call 27;refine(H1 _ (aL.drew (aL.refl w0))).mono ?_;rintro e w1 ⟨rfl,X',qA,tY⟩)
 have HD:=H2 w1 X' qA tY;have p2:=kR HP.out tY;obtain⟨t0,t1,t2,t3,t4,t5,t6⟩:=bR (nZ HP.out tY HS.out);clear H1 H2 qA tY p0 p1 s0 s1 s2 s3 s4 s5 s6;refine wp_region_still_tail 6 (by kernel_rfl) (by kernel_rfl) ?_;simp only[List.take_succ_cons,List.take_zero,List.drop_succ_cons,List.drop_zero]
 repeat still_step
 refine wpStill_nil ?_
 go_upto_region 22 with(go_at_call 116;refine(HD _ (aL.drew (aL.refl w1))).mono ?_;rintro e w2 ⟨rfl,r',tO⟩)
 go_wp2_with (go_at_call 99;refine jZ.mono ?_;rintro e w3 ⟨rfl,rfl⟩)
 go_ret;refine⟨by simp,w0,r',HG.out,tO.1,tO.2⟩
end Go.Proofs.YtfplgfodoiiobaaGreatDoor
