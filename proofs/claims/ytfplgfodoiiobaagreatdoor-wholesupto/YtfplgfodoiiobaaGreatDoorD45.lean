/- SwB, SwC, SwD, SwE (joined). -/
import Derived.Test.YtfplgfodoiiobaaGreatDoorD44
open Option renaming none→O,some→M
open Go.Value renaming int→I,slice→Z,pointer→U
open Go.IntKind renaming i64→V
open Go.Obj renaming cells→C
open Go.Ending renaming returned→G
open Go renaming World→F,Value→Y,Calls→H
open Go.Proofs.Tryz renaming prog→K
open Go.Proofs.Tryz
namespace Go.Proofs.YtfplgfodoiiobaaGreatDoor
set_option maxHeartbeats 4000000
set_option maxRecDepth 100000
open Go.RowKit
variable {w:F} {B:Nat} {r:iV} {x1:St} {code a n m k q:Int} {s:ByteArray} {fo:Option Addr} {fl fc fn aF aB:Nat} {PA DA:Array Y}
variable {w w' w1:F}{B wb c fl fc:Nat}{r:iV}{D n a m k:Int}{lG vf vm:Y}{hs:List bS}{rs:List iV}{s:ByteArray}{fo:Option Addr}{X:Nat->Prop}
def jP (lG:Y)(n:Int)(vf vm:Y):Obj:=C #[Z O 0 0,lG,I V n,Z O 0 0,vf,vm] 71 (0,0)
theorem gW (h:w.heap[wb]?=M (jP lG n vf vm)):
 w.cell? ⟨wb,0,O⟩=M (Z O 0 0)/\w.cell? ⟨wb,1,O⟩=M lG/\w.cell? ⟨wb,2,O⟩=M (I V n)/\w.cell? ⟨wb,3,O⟩=M (Z O 0 0)/\w.cell? ⟨wb,4,O⟩=M vf/\w.cell? ⟨wb,5,O⟩=M vm/\∀j,w.frozen? ⟨wb,j,O⟩=false:=by
 simp[World.cell?,World.frozen?,h,jP]
def pF (c:Nat):List Int:=(List.range c).map (fun i:Nat=> -((i:Int)+1))
theorem MG (c:Nat):pF (c+1)=pF c++ [-((c:Int)+1)]:=by unfold pF;rw[List.range_succ];simp
theorem sS (c:Nat):(pF c).length=c:=by simp[pF]
theorem RY {i:Nat}(h:i<c):(pF c).getD i 0= -((i:Int)+1):=by simp[pF,h]
def uK:ByteArray:=⟨#[109,97,114,107]⟩
def uO (i:Nat):AF:=(-((i:Int)+1),uK)
def Rw (w:F)(ao:Option Addr)(l:List AF):Prop:=Aw w ao l/\∀a,ao=M a->∃aS,w.heap[a.block]?=M (C aS 58 (0,0))
theorem Rw.fr {ao:Option Addr}{l:List AF}(h:Rw w ao l)(hF:Fr w w' X)(hx:∀a,ao=M a->¬X a.block):Rw w' ao l:=by
 obtain⟨h1,h2⟩:=h;refine⟨?_,fun a e=>?_⟩
 ·rcases h1 with h1|⟨b,off,e,hc⟩
  ·exact Aac h1
  ·obtain⟨aS,hb⟩:=h2 _ e;have qG:w'.heap[b]?=w.heap[b]?:=hF.2 b (aM hb) (hx _ e);exact Aab ⟨b,off,e,fun i f hf=>⟨(AaO (a:=⟨b,off+i*2,O⟩) qG).trans (hc i f hf).1,(AaO (a:=⟨b,off+i*2+1,O⟩) qG).trans (hc i f hf).2⟩⟩
 ·obtain⟨aS,hb⟩:=h2 a e;exact⟨aS,hF.at hb (hx _ e)⟩
theorem Rw.aN {ao:Option Addr}{l:List AF}(h:Rw w ao l)(hg:aL w w'):Rw w' ao l:=h.fr (Fr.cZ hg (fun _=>False)) (fun _ _=>id)
def AV (w:F)(hs:List bS):Prop:=∀i x,hs[i]?=M x->Rw w x.1 (List.replicate x.2.1 (uO (i / 4)))/\x.2.1<=9000
theorem AV.fr (h:AV w hs)(hF:Fr w w' X)(h4:∀b aS,w.heap[b]?=M (C aS 58 (0,0))->¬X b):AV w' hs:=
 fun i x e=>⟨(h i x e).1.fr hF (fun a ea=>by obtain⟨aS,hc⟩:=(h i x e).1.2 a ea;exact h4 _ _ hc),(h i x e).2⟩
structure jQ (w:F)(B wb:Nat)(rs:List iV)(c:Nat)(D:Int)(lG vf vm:Y)(hs:List bS):Prop where
 zY:w.heap[wb]?=M (jP lG (c:Int) vf vm)
 wbn:B<=wb
 ss:w.ownsRow B 121 1 lG rs.length (rs.map (fun r:iV=>Value.pointer (M ⟨r.sb,0,O⟩)))
 pair:∀r∈rs,fU w B r
 cK:∀r∈rs,GS r.x D
 apart:rs.Pairwise Jp
 fs:w.ownsRow B 54 1 vf hs.length (hs.map bS.v)
 len:hs.length=4*c
 held:AV w hs
 ms:iZ w B vm (pF c)
theorem jQ.aN (h:jQ w B wb rs c D lG vf vm hs)(hg:aL w w'):jQ w' B wb rs c D lG vf vm hs:=by
 have hF:=Fr.cZ hg (fun _=>False);exact⟨hF.at h.zY id,h.wbn,bK h.ss hF (fun _ _ _ _=>id),fun r hr=>(h.pair r hr).aN hg,h.cK,h.apart,bK h.fs hF (fun _ _ _ _=>id),h.len,h.held.fr hF (fun _ _ _=>id),bK h.ms hF (fun _ _ _ _=>id)⟩
theorem jQ.more {D':Int}(h:jQ w B wb rs c D lG vf vm hs)(hD:D<=D'):jQ w B wb rs c D' lG vf vm hs:=
 ⟨h.zY,h.wbn,h.ss,h.pair,fun r hr=>(h.cK r hr).more hD,h.apart,h.fs,h.len,h.held,h.ms⟩
theorem jQ.lt (h:jQ w B wb rs c D lG vf vm hs):B<w.heap.size:=Nat.lt_of_le_of_lt h.wbn (aM h.zY)
theorem Jp.symm {q:iV}(h:Jp r q):Jp q r:=⟨fun e=>h.1 e.symm,fun b h1 h2=>h.2 b h2 h1⟩
theorem Oj (h:rs.Pairwise Jp){i j:Nat}(hi:i<rs.length)(hj:j<rs.length)(hne:i≠j):Jp rs[i] rs[j]:=by
 rcases Nat.lt_or_ge i j with bP|Kc
 ·exact AaL.1 h i j hi hj bP
 ·exact(AaL.1 h j i hj hi (by omega)).symm
theorem jQ.both {w2:F}{k:Nat}{D':Int}(h:jQ w B wb rs c D lG vf vm hs){r':iV}(hr:rs[k]?=M r)(hb:xJ w w2 B r r')(hg:GS r'.x D')(hD:D<=D'):jQ w2 B wb (rs.set k r') c D' lG vf vm hs/\Below B w w2:=by
 have xM:r∈rs:=Aai hr;obtain⟨Qu,Fe⟩:=Aae.1 hr;have hP:=h.pair r xM;have vV:∀b,r.aD b->STy w b:=fun b hb=>hP.ty hb;refine⟨⟨hb.fr.at h.zY (fun e=>(vV _ e).ne h.zY (by decide)),h.wbn,?_,?_,?_,?_,bK h.fs hb.fr (fun g aS _ e e2=>(vV _ e2).ne e (by decide)),h.len,h.held.fr hb.fr (fun b aS e e2=>(vV _ e2).ne e (by decide)),bK h.ms hb.fr (fun g aS _ e e2=>(vV _ e2).ne e (by decide))⟩,?_⟩
 ·rw[Acg,Adx]
  have e:(rs.map (fun r:iV=>Value.pointer (M ⟨r.sb,0,O⟩))).set k (Value.pointer (M ⟨r'.sb,0,O⟩))=rs.map (fun r:iV=>Value.pointer (M ⟨r.sb,0,O⟩)):=by
   apply AcE;intro i;rw[Acd];by_cases hi:k=i
   ·subst hi;simp[Qu,hb.sb,Fe]
   ·simp[hi]
  rw[e];exact bK h.ss hb.fr (fun g aS _ e e2=>(vV _ e2).ne e (by decide))
 ·intro s Si;obtain⟨i,hi,rfl⟩:=Abh Si;rw[Abw];by_cases Sr:k=i
  ·rw[Aad Sr];exact hb.pair
  ·rw[Aaa Sr];have Qv:i<rs.length:=(by simpa using hi);have Cr:=Oj h.apart Qv Qu (fun e=>Sr e.symm);rw[Fe]at Cr;have hPi:=h.pair rs[i] (Abx Qv);exact hPi.fr hb.fr (fun b hb=>(vV b hb).free) (fun e=>(vV _ e).ne hPi.sb (by decide)) Cr.2
 ·intro s Si;obtain⟨i,hi,rfl⟩:=Abh Si;rw[Abw];by_cases Sr:k=i
  ·rw[Aad Sr];exact hg
  ·rw[Aaa Sr];have Qv:i<rs.length:=(by simpa using hi);exact(h.cK _ (Abx Qv)).more hD
 ·rw[AaL];intro i j hi hj hij;have Qv:i<rs.length:=by simpa using hi
  have rz:j<rs.length:=by simpa using hj
  have new:∀n (hn:n<rs.length),n≠k->Jp rs[n] r':=fun n hn hne=>by
   have Cr:=Oj h.apart hn Qu hne;rw[Fe]at Cr;refine⟨by rw[hb.sb];exact Cr.1,fun b h1 h2=>?_⟩;rcases hb.yn b h2 with h2|h2
   ·exact Cr.2 b h1 h2
   ·have:=(h.pair _ (Abx hn)).lt h1;omega
  rw[Abw,Abw];by_cases h1:k=i
  ·rw[Aad h1,Aaa (by omega)];exact(new j rz (by omega)).symm
  ·rw[Aaa h1];by_cases h2:k=j
   ·rw[Aad h2];exact new i Qv (by omega)
   ·rw[Aaa h2];exact Oj h.apart Qv rz (by omega)
 ·refine⟨hb.io.1,hb.io.2.1,hb.io.2.2,hb.fr.1,fun b bP=>?_⟩;have:=h.lt;exact hb.fr.2 b (by omega) (fun e=>by have:=hP.yn b e;omega)
theorem jQ.add {w2:F}{sb qp xb:Nat}{v5:Y}{x:St}{f:bS}(h:jQ w B wb rs c D lG vf vm hs)(iJ:aL w w1)(hn:∀b,(X b\/b=xb\/∃a,f.1=M a/\b=a.block)->w.heap.size<=b)(EY:w.heap.size<=sb)
 (sV:w1.heap[sb]?=M (Hz qp xb))(hq:uI w1 qp x.1 x.2.1 x.2.2 X)(hy:bM w1 xb x.1 x.2.1 x.2.2 f)(hG:GS x D)
 (bD:w2.ownsRow B 121 1 v5 (rs.length+1) (rs.map (fun r:iV=>Value.pointer (M ⟨r.sb,0,O⟩))++ [Value.pointer (M ⟨sb,0,O⟩)]))(kR:w1.grownBy w2 lG.ownBlock)(Ga:(w2.setCell ⟨wb,1,O⟩ v5).heap[wb]?=M (jP v5 (c:Int) vf vm)):
 jQ (w2.setCell ⟨wb,1,O⟩ v5) B wb (rs++ [⟨sb,qp,xb,x,X,f⟩]) c D v5 vf vm hs/\Below B w (w2.setCell ⟨wb,1,O⟩ v5):=by
 have H1:=h.aN iJ;have bP:=h.lt;have hle:w.heap.size<=w1.heap.size:=iJ.size
 have hF:Fr w1 (w2.setCell ⟨wb,1,O⟩ v5) (fun b=>lG.ownBlock=M b\/b=wb):=
  ((Fr.kC kR).mono (fun b e=>Aac e)).trans ((Fr.set w2 ⟨wb,1,O⟩ v5).mono (fun b e=>Aab e))
 have vV:∀ {b:Nat} {aS:Array Y} {t:TypeId} {mk:Nat×Nat},w1.heap[b]?=M (C aS t mk)->t≠121->t≠71->¬(lG.ownBlock=M b\/b=wb):=by
  intro b aS t mk hb t1 t2 e;rcases e with e|rfl
  ·obtain⟨c1,wY⟩:=jK H1.ss e;exact aZ hb wY t1 rfl
  ·exact aZ hb H1.zY t2 rfl
 have WC:∀b,(lG.ownBlock=M b\/b=wb)->Me w1 b:=by
  rintro b (e|rfl)
  ·obtain⟨c1,wY⟩:=jK H1.ss e;exact Me.of wY (by decide) (by decide) (by decide) (by decide)
  ·exact Me.of H1.zY (by decide) (by decide) (by decide) (by decide)
 have hYf:∀(r:iV),fU w1 B r->fU (w2.setCell ⟨wb,1,O⟩ v5) B r:=fun r hr=>
  hr.fr hF WC (vV hr.sb (by decide) (by decide)) (fun b hb=>by
   intro e;rcases e with e|rfl
   ·obtain⟨c1,wY⟩:=jK H1.ss e;exact(hr.ty hb).ne wY (by decide)
   ·exact(hr.ty hb).ne H1.zY (by decide))
 have CJ:fU w1 B ⟨sb,qp,xb,x,X,f⟩:=⟨sV,hq,hy,by simp only;omega,fun b hb=>by have:=hn b hb;omega⟩;refine⟨⟨Ga,h.wbn,?_,?_,?_,?_,bK H1.fs hF (fun g aS _ e=>vV e (by decide) (by decide)),h.len,H1.held.fr hF (fun b aS e=>vV e (by decide) (by decide)),bK H1.ms hF (fun g aS _ e=>vV e (by decide) (by decide))⟩,?_⟩
 ·rw[Aah,Abb];refine bK bD (Fr.set w2 ⟨wb,1,O⟩ v5) (fun g aS e hc e2=>?_);subst e2;have:=Fr.set w2 ⟨g,1,O⟩ v5
  have Ef:w2.heap[g]?=w1.heap[g]?\/lG.ownBlock=M g:=by
   by_cases hv:lG.ownBlock=M g
   ·exact Aab hv
   ·exact Aac (kR.block g (aM H1.zY) (fun e=>hv e.symm))
  rcases Ef with e3|e3
  ·rw[e3,H1.zY]at hc;cases hc
  ·obtain⟨c1,wY⟩:=jK H1.ss e3;exact aZ wY H1.zY (by decide) rfl
 ·intro r hr;rcases Aba.1 hr with hr|hr
  ·exact hYf r (H1.pair r hr)
  ·simp at hr;subst hr;exact hYf _ CJ
 ·intro r hr;rcases Aba.1 hr with hr|hr
  ·exact h.cK r hr
  ·simp at hr;subst hr;exact hG
 ·rw[Abd];refine⟨h.apart,by simp,fun r hr q hq=>?_⟩;simp at hq;subst hq;have hP:=h.pair r hr;refine⟨by have:=aM hP.sb;simp only;omega,fun b h1 h2=>?_⟩;have h3:=hP.lt h1;have h4:=hn b h2;omega
 ·refine⟨kR.os.trans iJ.os,kR.tape.trans iJ.tape,kR.output.trans iJ.output,?_,fun b hb=>?_⟩
  ·have:=hF.1;omega
  ·rw[hF.2 b (by omega) (by
    rintro(e|rfl)
    ·have:=(H1.ss.lt b e).1;omega
    ·have:=h.wbn;omega)]
   exact iJ.block b (by omega)
def MH (w:F)(r:iV)(f:FuncId)(args:Array Y)(x1:St)(code:Int):Prop:=
 ∀W,aL w W->H K f args W fun e w'=>e=G (I V code)/\∃X',uI w' r.qp x1.1 x1.2.1 x1.2.2 X'/\Dk w w' r.X X'
def DocC (w:F)(B:Nat)(r:iV)(f:FuncId)(args:Array Y)(x1:St)(code:Int):Prop:=
 ∀w1 X',uI w1 r.qp x1.1 x1.2.1 x1.2.2 X'->Dk w w1 r.X X'->∀W,aL w1 W->H K f args W fun e w'=>e=G (I V code)/\∃r',xJ w w' B r r'/\r'.x=x1
theorem Ia {f:FuncId}{args:Array Y}{x1:St}{code:Int}(h:∀W,aL w W->H K f args W fun e w'=>e=G (I V code)/\yO W w' r.qp r.X x1):MH w r f args x1 code:=fun W hW=>by
 refine(h W hW).mono ?_;rintro e w' ⟨rfl,X',hq,hk⟩;exact⟨rfl,X',hq,Eb hW hk⟩
theorem Xo {f:FuncId}{args:Array Y}{x1:St}{code:Int}(hP:fU w B r)(hB:B<=w.heap.size)(h:∀W,bM W r.xb r.x.1 r.x.2.1 r.x.2.2 r.f->H K f args W fun e w'=>e=G (I V code)/\After W w' r.xb x1.1 x1.2.1 x1.2.2 r.f):DocC w B r f args x1 code:=fun w1 X' hq hk W hW=>by
 refine(h W ((hP.half hk).1.aN hW)).mono ?_;rintro e w' ⟨rfl,ha⟩;exact⟨rfl,hP.both hB hq hk (After.trans ((kH.refl w1 r.xb r.f).aN hW) ha)⟩
theorem sN (h:fU w B r){X':Nat->Prop}(hk:Dk w w1 r.X X'):w1.cell? ⟨r.sb,1,O⟩=M (U (M ⟨r.xb,0,O⟩)):=by
 have:=(h.half hk).2;simp[World.cell?,this,Hz]
theorem kW {qp xb sb:Nat}(h:w.heap[sb]?=M (Hz qp xb)):w.cell? ⟨sb,0,O⟩=M (U (M ⟨qp,0,O⟩))/\w.cell? ⟨sb,1,O⟩=M (U (M ⟨xb,0,O⟩)):=by
 simp[World.cell?,h,Hz]
def iN (q a n m k:Int)(s:ByteArray)(fo:Option Addr)(fl fc:Nat):Obj:=C #[I V q,I V a,I V n,I V m,I V k,.string s,Z fo fl fc] 73 (0,0)
theorem gX {b:Nat}{q:Int}(h:w.heap[b]?=M (iN q a n m k s fo fl fc)):
 w.cell? ⟨b,0,O⟩=M (I V q)/\w.cell? ⟨b,1,O⟩=M (I V a)/\w.cell? ⟨b,2,O⟩=M (I V n)/\w.cell? ⟨b,3,O⟩=M (I V m)/\w.cell? ⟨b,4,O⟩=M (I V k)/\w.cell? ⟨b,5,O⟩=M (.string s)/\w.cell? ⟨b,6,O⟩=M (Z fo fl fc):=by
 simp[World.cell?,h,iN]
theorem zV {b:Nat}(h:fU w B r){X':Nat->Prop}(hk:Dk w w1 r.X X'){q:Int}(hb:w.heap[b]?=M (iN q a n m k s fo fl fc)):w1.heap[b]?=M (iN q a n m k s fo fl fc):=
 hk.1.at hb (fun e=>(h.q.ty e).ne hb (by decide) rfl)
theorem Ol (hq:q=16/\fn=69/\aF=29/\PA=#[U (M ⟨r.qp,0,O⟩)]/\aB=108/\DA=#[U (M ⟨r.xb,0,O⟩),I V 85,I V 0,I V 0,.string ⟨#[]⟩]\/q=17/\fn=69/\aF=46/\PA=#[U (M ⟨r.qp,0,O⟩)]/\aB=108/\DA=#[U (M ⟨r.xb,0,O⟩),I V 82,I V 0,I V 0,.string ⟨#[]⟩]\/q=12/\fn=73/\aF=24/\PA=#[U (M ⟨r.qp,0,O⟩)]/\aB=112/\DA=#[U (M ⟨r.xb,0,O⟩)]\/q=13/\fn=73/\aF=32/\PA=#[U (M ⟨r.qp,0,O⟩)]/\aB=113/\DA=#[U (M ⟨r.xb,0,O⟩)]\/q=21/\fn=73/\aF=30/\PA=#[U (M ⟨r.qp,0,O⟩)]/\aB=114/\DA=#[U (M ⟨r.xb,0,O⟩)]\/q=26/\fn=73/\aF=31/\PA=#[U (M ⟨r.qp,0,O⟩)]/\aB=117/\DA=#[U (M ⟨r.xb,0,O⟩)])(hP:fU w B r)(h1:∀w0,aL w w0->MH w0 r aF PA x1 code)(h2:∀w0,aL w w0->DocC w0 B r aB DA x1 code):
 H K fn #[U (M ⟨r.sb,0,O⟩),.agg #[I V q,I V a,I V n,I V m,I V k,.string s,Z fo fl fc]] w fun e w'=>e=G (.bool true)/\∃w0 r',aL w w0/\xJ w0 w' B r r'/\r'.x=x1:=by
 obtain⟨w0,lH⟩:∃w0,w0=w.alloc (iN q a n m k s fo fl fc):=⟨_,rfl⟩;have G0:aL w w0:=by rw[lH];exact(aL.refl w).alloc _
 have gK:w0.heap[w.heap.size]?=M (iN q a n m k s fo fl fc):=by rw[lH];exact Aaf w _
 have Gm:=hP.aN G0;obtain⟨p0,p1⟩:=kW Gm.sb;obtain⟨s0,s1,s2,s3,s4,s5,s6⟩:=gX gK;have HP:Hid (fU w0 B r):=Gm;have HS:Hid (w0.heap[w.heap.size]?=M (iN q a n m k s fo fl fc)):=gK;have H1:=h1 w0 G0;have H2:=h2 w0 G0;have HG:Hid (aL w w0):=G0;unfold iN at lH;clear hP Gm gK h1 h2 G0;rcases hq with⟨rfl,rfl,rfl,rfl,rfl,rfl⟩|⟨rfl,rfl,rfl,rfl,rfl,rfl⟩|⟨rfl,rfl,rfl,rfl,rfl,rfl⟩|⟨rfl,rfl,rfl,rfl,rfl,rfl⟩|⟨rfl,rfl,rfl,rfl,rfl,rfl⟩|⟨rfl,rfl,rfl,rfl,rfl,rfl⟩
 all_goals
  first|(go_enter func69,ntmps69)|(go_enter func73,ntmps73)
  go_upto_region 1 with fail;rw[<-lH];clear lH;generalize w.heap.size=ob at*;go_wp2_with fail;refine(H1 _ (aL.refl w0)).mono ?_;rintro e w1 ⟨rfl,X',Av,Ea⟩;have HD:=H2 w1 X' Av Ea;have p2:=sN HP.out Ea;obtain⟨t0,t1,t2,t3,t4,t5,t6⟩:=gX (zV HP.out Ea HS.out);clear H1 H2 Av Ea p0 p1 s0 s1 s2 s3 s4 s5 s6;go_wp2_with fail;refine(HD _ (aL.refl w1)).mono ?_;rintro e w2 ⟨rfl,r',yV⟩;go_wp2_with (go_at_call 99;refine nC.mono ?_;rintro e w3 ⟨rfl,rfl⟩);go_ret;refine⟨by simp,w0,r',HG.out,yV.1,yV.2⟩
theorem pair_8 (hq:q=14/\fn=69/\aF=28/\PA=#[U (M ⟨r.qp,0,O⟩),I V n,.string s]/\aB=108/\DA=#[U (M ⟨r.xb,0,O⟩),I V 73,I V n,I V 0,.string s]\/q=15/\fn=69/\aF=44/\PA=#[U (M ⟨r.qp,0,O⟩),I V n,I V m]/\aB=108/\DA=#[U (M ⟨r.xb,0,O⟩),I V 68,I V n,I V m,.string ⟨#[]⟩])(hP:fU w B r)(h1:∀w0,aL w w0->MH w0 r aF PA x1 code)(h2:∀w0,aL w w0->DocC w0 B r aB DA x1 code):
 H K fn #[U (M ⟨r.sb,0,O⟩),.agg #[I V q,I V a,I V n,I V m,I V k,.string s,Z fo fl fc]] w fun e w'=>e=G (.bool true)/\∃w0 r',aL w w0/\xJ w0 w' B r r'/\r'.x=x1:=by
 obtain⟨w0,lH⟩:∃w0,w0=w.alloc (iN q a n m k s fo fl fc):=⟨_,rfl⟩;have G0:aL w w0:=by rw[lH];exact(aL.refl w).alloc _
 have gK:w0.heap[w.heap.size]?=M (iN q a n m k s fo fl fc):=by rw[lH];exact Aaf w _
 have Gm:=hP.aN G0;obtain⟨p0,p1⟩:=kW Gm.sb;obtain⟨s0,s1,s2,s3,s4,s5,s6⟩:=gX gK;have HP:Hid (fU w0 B r):=Gm;have HS:Hid (w0.heap[w.heap.size]?=M (iN q a n m k s fo fl fc)):=gK;have H1:=h1 w0 G0;have H2:=h2 w0 G0;have HG:Hid (aL w w0):=G0;unfold iN at lH;clear hP Gm gK h1 h2 G0;rcases hq with⟨rfl,rfl,rfl,rfl,rfl,rfl⟩|⟨rfl,rfl,rfl,rfl,rfl,rfl⟩
 ·go_enter func69,ntmps69;go_upto_region 1 with fail;rw[<-lH];clear lH;generalize w.heap.size=ob at*;go_upto_region 5 with fail;refine Abu 8 (by kernel_rfl) (by kernel_rfl) ?_;simp only[AaV,AbH,Abq,Abr]
  repeat still_step
  refine AcA ?_;go_wp2_with fail;refine(H1 _ (aL.drew (aL.refl w0))).mono ?_;rintro e w1 ⟨rfl,X',Av,Ea⟩;have HD:=H2 w1 X' Av Ea;have p2:=sN HP.out Ea;obtain⟨t0,t1,t2,t3,t4,t5,t6⟩:=gX (zV HP.out Ea HS.out);clear H1 H2 Av Ea p0 p1 s0 s1 s2 s3 s4 s5 s6;go_upto_region 6 with fail;refine Abu 8 (by kernel_rfl) (by kernel_rfl) ?_;simp only[AaV,AbH,Abq,Abr]
  repeat still_step
  refine AcA ?_;go_wp2_with fail;refine(HD _ (aL.drew (aL.refl w1))).mono ?_;rintro e w2 ⟨rfl,r',yV⟩;go_wp2_with (go_at_call 99;refine nC.mono ?_;rintro e w3 ⟨rfl,rfl⟩);go_ret;refine⟨by simp,w0,r',HG.out,yV.1,yV.2⟩
 ·go_enter func69,ntmps69;go_upto_region 1 with fail;rw[<-lH];clear lH;generalize w.heap.size=ob at*;go_upto_region 8 with fail;refine Abu 8 (by kernel_rfl) (by kernel_rfl) ?_;simp only[AaV,AbH,Abq,Abr]
  repeat still_step
  refine AcA ?_;go_wp2_with fail;refine(H1 _ (aL.drew (aL.refl w0))).mono ?_;rintro e w1 ⟨rfl,X',Av,Ea⟩;have HD:=H2 w1 X' Av Ea;have p2:=sN HP.out Ea;obtain⟨t0,t1,t2,t3,t4,t5,t6⟩:=gX (zV HP.out Ea HS.out);clear H1 H2 Av Ea p0 p1 s0 s1 s2 s3 s4 s5 s6;go_upto_region 9 with fail;refine Abu 8 (by kernel_rfl) (by kernel_rfl) ?_;simp only[AaV,AbH,Abq,Abr]
  repeat still_step
  refine AcA ?_;go_wp2_with fail;refine(HD _ (aL.drew (aL.refl w1))).mono ?_;rintro e w2 ⟨rfl,r',yV⟩;go_wp2_with (go_at_call 99;refine nC.mono ?_;rintro e w3 ⟨rfl,rfl⟩);go_ret;refine⟨by simp,w0,r',HG.out,yV.1,yV.2⟩
theorem pair_10 (hq:q=24/\fn=73/\aF=21/\PA=#[U (M ⟨r.qp,0,O⟩),I V n,I V m,I V k]/\aB=115/\DA=#[U (M ⟨r.xb,0,O⟩),I V n,I V m,I V k])(hP:fU w B r)(h1:∀w0,aL w w0->MH w0 r aF PA x1 code)(h2:∀w0,aL w w0->DocC w0 B r aB DA x1 code):
 H K fn #[U (M ⟨r.sb,0,O⟩),.agg #[I V q,I V a,I V n,I V m,I V k,.string s,Z fo fl fc]] w fun e w'=>e=G (.bool true)/\∃w0 r',aL w w0/\xJ w0 w' B r r'/\r'.x=x1:=by
 obtain⟨w0,lH⟩:∃w0,w0=w.alloc (iN q a n m k s fo fl fc):=⟨_,rfl⟩;have G0:aL w w0:=by rw[lH];exact(aL.refl w).alloc _
 have gK:w0.heap[w.heap.size]?=M (iN q a n m k s fo fl fc):=by rw[lH];exact Aaf w _
 have Gm:=hP.aN G0;obtain⟨p0,p1⟩:=kW Gm.sb;obtain⟨s0,s1,s2,s3,s4,s5,s6⟩:=gX gK;have HP:Hid (fU w0 B r):=Gm;have HS:Hid (w0.heap[w.heap.size]?=M (iN q a n m k s fo fl fc)):=gK;have H1:=h1 w0 G0;have H2:=h2 w0 G0;have HG:Hid (aL w w0):=G0;unfold iN at lH;clear hP Gm gK h1 h2 G0;obtain⟨rfl,rfl,rfl,rfl,rfl,rfl⟩:=hq;go_enter func73,ntmps73;go_upto_region 1 with fail;rw[<-lH];clear lH;generalize w.heap.size=ob at*;go_upto_region 14 with fail;refine Abu 10 (by kernel_rfl) (by kernel_rfl) ?_;simp only[AaV,AbH,Abq,Abr]
 repeat still_step
 refine AcA ?_;go_wp2_with fail;refine(H1 _ (aL.drew (aL.refl w0))).mono ?_;rintro e w1 ⟨rfl,X',Av,Ea⟩;have HD:=H2 w1 X' Av Ea;have p2:=sN HP.out Ea;obtain⟨t0,t1,t2,t3,t4,t5,t6⟩:=gX (zV HP.out Ea HS.out);clear H1 H2 Av Ea p0 p1 s0 s1 s2 s3 s4 s5 s6;go_upto_region 15 with fail;refine Abu 10 (by kernel_rfl) (by kernel_rfl) ?_;simp only[AaV,AbH,Abq,Abr]
 repeat still_step
 refine AcA ?_;go_wp2_with fail;refine(HD _ (aL.drew (aL.refl w1))).mono ?_;rintro e w2 ⟨rfl,r',yV⟩;go_wp2_with (go_at_call 99;refine nC.mono ?_;rintro e w3 ⟨rfl,rfl⟩);go_ret;refine⟨by simp,w0,r',HG.out,yV.1,yV.2⟩
theorem pair_6 (hq:q=25/\fn=73/\aF=27/\PA=#[U (M ⟨r.qp,0,O⟩),I V n]/\aB=116/\DA=#[U (M ⟨r.xb,0,O⟩),I V n])(hP:fU w B r)(h1:∀w0,aL w w0->MH w0 r aF PA x1 code)(h2:∀w0,aL w w0->DocC w0 B r aB DA x1 code):
 H K fn #[U (M ⟨r.sb,0,O⟩),.agg #[I V q,I V a,I V n,I V m,I V k,.string s,Z fo fl fc]] w fun e w'=>e=G (.bool true)/\∃w0 r',aL w w0/\xJ w0 w' B r r'/\r'.x=x1:=by
 obtain⟨w0,lH⟩:∃w0,w0=w.alloc (iN q a n m k s fo fl fc):=⟨_,rfl⟩;have G0:aL w w0:=by rw[lH];exact(aL.refl w).alloc _
 have gK:w0.heap[w.heap.size]?=M (iN q a n m k s fo fl fc):=by rw[lH];exact Aaf w _
 have Gm:=hP.aN G0;obtain⟨p0,p1⟩:=kW Gm.sb;obtain⟨s0,s1,s2,s3,s4,s5,s6⟩:=gX gK;have HP:Hid (fU w0 B r):=Gm;have HS:Hid (w0.heap[w.heap.size]?=M (iN q a n m k s fo fl fc)):=gK;have H1:=h1 w0 G0;have H2:=h2 w0 G0;have HG:Hid (aL w w0):=G0;unfold iN at lH;clear hP Gm gK h1 h2 G0;obtain⟨rfl,rfl,rfl,rfl,rfl,rfl⟩:=hq;go_enter func73,ntmps73;go_upto_region 1 with fail;rw[<-lH];clear lH;generalize w.heap.size=ob at*;go_upto_region 17 with fail;refine Abu 6 (by kernel_rfl) (by kernel_rfl) ?_;simp only[AaV,AbH,Abq,Abr]
 repeat still_step
 refine AcA ?_;go_wp2_with fail;refine(H1 _ (aL.drew (aL.refl w0))).mono ?_;rintro e w1 ⟨rfl,X',Av,Ea⟩;have HD:=H2 w1 X' Av Ea;have p2:=sN HP.out Ea;obtain⟨t0,t1,t2,t3,t4,t5,t6⟩:=gX (zV HP.out Ea HS.out);clear H1 H2 Av Ea p0 p1 s0 s1 s2 s3 s4 s5 s6;go_upto_region 18 with fail;refine Abu 6 (by kernel_rfl) (by kernel_rfl) ?_;simp only[AaV,AbH,Abq,Abr]
 repeat still_step
 refine AcA ?_;go_wp2_with fail;refine(HD _ (aL.drew (aL.refl w1))).mono ?_;rintro e w2 ⟨rfl,r',yV⟩;go_wp2_with (go_at_call 99;refine nC.mono ?_;rintro e w3 ⟨rfl,rfl⟩);go_ret;refine⟨by simp,w0,r',HG.out,yV.1,yV.2⟩
theorem di (hP:fU w B r)(hS:GS r.x D):
 H K 70 #[U (M ⟨r.sb,0,O⟩),.agg #[I V 19,I V a,I V n,I V m,I V k,.string s,Z fo fl fc]] w fun e w'=>e=G (.bool true)/\aL w w':=by
 obtain⟨w0,lH⟩:∃w0,w0=w.alloc (iN 19 a n m k s fo fl fc):=⟨_,rfl⟩;have G0:aL w w0:=by rw[lH];exact(aL.refl w).alloc _
 have gK:w0.heap[w.heap.size]?=M (iN 19 a n m k s fo fl fc):=by rw[lH];exact Aaf w _
 have Gm:=hP.aN G0;obtain⟨p0,p1⟩:=kW Gm.sb;obtain⟨s0,-,-,-,-,-,-⟩:=gX gK;have hL:=xlength Gm.q;obtain⟨rx,hx,hf,hm⟩:=Gm.y;have xO:w0.cell? ⟨r.xb,10,O⟩=M (.bool r.x.1.aX):=by simp[World.cell?,hx,bO]
 have c13:w0.cell? ⟨r.xb,13,O⟩=M rx.1.v:=by simp[World.cell?,hx,bO]
 have Ef:=hS.Cs;have HG:Hid (aL w w0):=G0;unfold iN at lH;obtain⟨⟨t1,t2,t3⟩,rx2⟩:=rx;obtain⟨Gy,BR,hm3⟩:=hm.1;simp only[bS.v]at c13;simp only at Gy BR hm3;subst BR
 have HSz:Hid (∀W,aL w0 W->r.x.1.aX=true->H K 106 #[Z t1 r.x.2.2.1.length t3] W fun e w'=>e=G (I V (sz r.x.2.2.1))/\w'=W):=fun W hW ho=>by
  have g:=Ef ho;exact fO (l:=r.x.2.2.1) (Gy.1.TN hW) rfl (g.text.ok (by have:=g.Ch;omega)) (by have:=g.few;omega)
 cases ho:r.x.1.aX with
 |true=>
  rw[ho]at hL xO;simp only[if_true]at hL;have HSz2:Hid (H K 106 #[Z t1 r.x.2.2.1.length t3] w0 fun e w'=>e=G (I V (sz r.x.2.2.1))/\w'=w0):=HSz.out w0 (aL.refl w0) ho;generalize sz r.x.2.2.1=z at*;clear hP Gm gK G0 hx hf hm Ef HSz;go_enter func70,ntmps70;go_upto_region 1 with fail;rw[<-lH];clear lH;generalize w.heap.size=ob at*;go_wp2_with (first|(go_at_call 40;refine hL.mono ?_;rintro e w1 ⟨rfl,rfl⟩)|(go_at_call 106;refine HSz2.out.mono ?_;rintro e w1 ⟨rfl,rfl⟩)|(go_at_call 99;refine nC.mono ?_;rintro e w3 ⟨rfl,rfl⟩));go_ret;exact⟨by simp,HG.out⟩
 |false=>
  rw[ho]at hL xO;simp only[AaD,if_false]at hL;clear hP Gm gK G0 hx hf hm Ef HSz;go_enter func70,ntmps70;go_upto_region 1 with fail;rw[<-lH];clear lH;generalize w.heap.size=ob at*;go_wp2_with (first|(go_at_call 40;refine hL.mono ?_;rintro e w1 ⟨rfl,rfl⟩)|(go_at_call 99;refine nC.mono ?_;rintro e w3 ⟨rfl,rfl⟩));go_ret;exact⟨by simp,HG.out⟩
theorem RZ (hP:fU w B r):
 H K 70 #[U (M ⟨r.sb,0,O⟩),.agg #[I V 20,I V a,I V n,I V m,I V k,.string s,Z fo fl fc]] w fun e w'=>e=G (.bool true)/\aL w w':=by
 obtain⟨w0,lH⟩:∃w0,w0=w.alloc (iN 20 a n m k s fo fl fc):=⟨_,rfl⟩;have G0:aL w w0:=by rw[lH];exact(aL.refl w).alloc _
 have gK:w0.heap[w.heap.size]?=M (iN 20 a n m k s fo fl fc):=by rw[lH];exact Aaf w _
 have Gm:=hP.aN G0;obtain⟨p0,p1⟩:=kW Gm.sb;obtain⟨s0,-,-,-,-,-,-⟩:=gX gK;have hL:=xdone Gm.q;obtain⟨rx,hx,hf,hm⟩:=Gm.y;have xO:w0.cell? ⟨r.xb,10,O⟩=M (.bool r.x.1.aX):=by simp[World.cell?,hx,bO]
 have c16:w0.cell? ⟨r.xb,16,O⟩=M (I V rx.2.2.2.1):=by simp[World.cell?,hx,bO]
 rw[hm.2.2.2.1]at c16;have HG:Hid (aL w w0):=G0;unfold iN at lH;cases ho:r.x.1.aX with
 |true=>
  rw[ho]at hL xO;simp only[if_true]at hL;generalize r.x.2.2.2.2.2.1=z at*;clear hP Gm gK G0 hx hf hm;go_enter func70,ntmps70;go_upto_region 1 with fail;rw[<-lH];clear lH;generalize w.heap.size=ob at*;go_wp2_with (first|(go_at_call 25;refine hL.mono ?_;rintro e w1 ⟨rfl,rfl⟩)|(go_at_call 99;refine nC.mono ?_;rintro e w3 ⟨rfl,rfl⟩));go_ret;exact⟨by simp,HG.out⟩
 |false=>
  rw[ho]at hL xO;simp only[AaD,if_false]at hL;clear hP Gm gK G0 hx hf hm c16;go_enter func70,ntmps70;go_upto_region 1 with fail;rw[<-lH];clear lH;generalize w.heap.size=ob at*;go_wp2_with (first|(go_at_call 25;refine hL.mono ?_;rintro e w1 ⟨rfl,rfl⟩)|(go_at_call 99;refine nC.mono ?_;rintro e w3 ⟨rfl,rfl⟩));go_ret;exact⟨by simp,HG.out⟩
theorem SA (hP:fU w B r)(hS:GS r.x D)(hn:m<=9223372036854775807):
 H K 70 #[U (M ⟨r.sb,0,O⟩),.agg #[I V 18,I V a,I V n,I V m,I V k,.string s,Z fo fl fc]] w fun e w'=>e=G (.bool true)/\aL w w':=by
 obtain⟨w0,lH⟩:∃w0,w0=w.alloc (iN 18 a n m k s fo fl fc):=⟨_,rfl⟩;have G0:aL w w0:=by rw[lH];exact(aL.refl w).alloc _
 have gK:w0.heap[w.heap.size]?=M (iN 18 a n m k s fo fl fc):=by rw[lH];exact Aaf w _
 have Gm:=hP.aN G0;obtain⟨p0,p1⟩:=kW Gm.sb;obtain⟨s0,-,s2,s3,-,-,-⟩:=gX gK;obtain⟨x1,x2,x3⟩:∃x:St,x=r.x/\True:=⟨_,rfl,trivial⟩;obtain⟨B1,c1,hbc⟩:∃b c,rW r.x n m=(b,c):=⟨_,_,rfl⟩
 have HQ:Hid (∀W,aL w0 W->H K 39 #[U (M ⟨r.qp,0,O⟩),I V n,I V m] W fun e w'=>e=G (.tuple #[.string B1,I V c1])/\aL w0 w'):=fun W hW=>by
  refine(xread (Gm.q.aN hW) hS hn).mono ?_;rintro e w' ⟨rfl,hg⟩;exact⟨by rw[show((r.x.1,r.x.2.1,r.x.2.2):St)=r.x from rfl,hbc],aQ hW hg⟩
 have HR:Hid (∀W,aL w0 W->H K 109 #[U (M ⟨r.xb,0,O⟩),I V n,I V m] W fun e w'=>e=G (.tuple #[.string B1,I V c1])/\aL w0 w'):=fun W hW=>by
  refine(xg (Gm.y.aN hW) (by have:=hS.bk.len;omega) hS.bk.cK hS.bk.inv (fun ho=>⟨hS.Cs ho,hS.buf ho⟩)).mono ?_;rintro e w' ⟨rfl,hg⟩;exact⟨by rw[show((r.x.1,r.x.2.1,r.x.2.2):St)=r.x from rfl,hbc],aQ hW hg⟩
 obtain⟨rx,hx,hf,hm⟩:=Gm.y;have xO:w0.cell? ⟨r.xb,10,O⟩=M (.bool r.x.1.aX):=by simp[World.cell?,hx,bO]
 have HG:Hid (aL w w0):=G0;unfold iN at lH;clear hP Gm gK G0 hx hf hm hS x2 hbc;go_enter func70,ntmps70;go_upto_region 1 with fail;rw[<-lH];clear lH;generalize w.heap.size=ob at*;generalize hop:r.x.1.aX=op at*;cases op with
 |true=>
  go_upto_region 16 with fail
  go_cut [11,12] (fun u v wc=>u= .string B1/\v=I V c1/\aL w0 wc)
  case first=>
   have ga:=aL.refl w0;clear HR p1 s0 xO
   go_region_held3 (fun w'=>w'.cell? ⟨r.sb,0,O⟩=M (U (M ⟨r.qp,0,O⟩))/\w'.cell? ⟨ob,2,O⟩=M (I V n)/\w'.cell? ⟨ob,3,O⟩=M (I V m)/\aL w0 w')
    (first|(exact⟨hg.cell p0,hg.cell s2,hg.cell s3,hg⟩)|(exact⟨(aL.drew ga).cell p0,(aL.drew ga).cell s2,(aL.drew ga).cell s3,aL.drew ga⟩))
    (first|(go_at_call 39;refine(HQ.out _ (by go_split_ands;assumption)).mono ?_;rintro e w5 ⟨rfl,hg⟩))
   all_goals go_wp2_with fail
   all_goals go_meet
   all_goals exact⟨rfl,rfl,hg⟩
  case rest=>
   obtain⟨rfl,rfl,hg⟩:=hcut
   rename F=>wc
   have q1:=hg.cell p1;have q2:=hg.cell s2;have q3:=hg.cell s3;have p1':=p1;have s2':=s2;have s3':=s3;clear p0 p1 s0 s2 s3 xO;go_upto_region 17 with fail
   go_cut [13,14] (fun u v wd=>u= .string B1/\v=I V c1/\aL w0 wd)
   case first=>
    clear HQ
    go_region_held3 (fun w'=>w'.cell? ⟨r.sb,1,O⟩=M (U (M ⟨r.xb,0,O⟩))/\w'.cell? ⟨ob,2,O⟩=M (I V n)/\w'.cell? ⟨ob,3,O⟩=M (I V m)/\aL w0 w')
     (first|(exact⟨uN.cell p1',uN.cell s2',uN.cell s3',uN⟩)|(exact⟨(aL.drew hg).cell p1',(aL.drew hg).cell s2',(aL.drew hg).cell s3',aL.drew hg⟩))
     (first|(go_at_call 109;refine(HR.out _ (by go_split_ands;assumption)).mono ?_;rintro e w5 ⟨rfl,uN⟩))
    all_goals go_wp2_with fail
    all_goals go_meet
    all_goals exact⟨rfl,rfl,uN⟩
   case rest=>
    obtain⟨rfl,rfl,uN⟩:=hcut
    rename F=>wd
    go_wp2_with (go_at_call 99;refine nC.mono ?_;rintro e w3 ⟨rfl,rfl⟩);go_ret;exact⟨by simp,aQ HG.out uN⟩
 |false=>
  go_upto_region 16 with fail
  go_cut [11,12] (fun u v wc=>u= .string B1/\v=I V c1/\aL w0 wc)
  case first=>
   have ga:=aL.refl w0;clear HR p1 s0 xO
   go_region_held3 (fun w'=>w'.cell? ⟨r.sb,0,O⟩=M (U (M ⟨r.qp,0,O⟩))/\w'.cell? ⟨ob,2,O⟩=M (I V n)/\w'.cell? ⟨ob,3,O⟩=M (I V m)/\aL w0 w')
    (first|(exact⟨hg.cell p0,hg.cell s2,hg.cell s3,hg⟩)|(exact⟨(aL.drew ga).cell p0,(aL.drew ga).cell s2,(aL.drew ga).cell s3,aL.drew ga⟩))
    (first|(go_at_call 39;refine(HQ.out _ (by go_split_ands;assumption)).mono ?_;rintro e w5 ⟨rfl,hg⟩))
   all_goals go_wp2_with fail
   all_goals go_meet
   all_goals exact⟨rfl,rfl,hg⟩
  case rest=>
   obtain⟨rfl,rfl,hg⟩:=hcut
   rename F=>wc
   have q1:=hg.cell p1;have q2:=hg.cell s2;have q3:=hg.cell s3;have p1':=p1;have s2':=s2;have s3':=s3;clear p0 p1 s0 s2 s3 xO;go_upto_region 17 with fail
   go_cut [13,14] (fun u v wd=>u= .string B1/\v=I V c1/\aL w0 wd)
   case first=>
    clear HQ
    go_region_held3 (fun w'=>w'.cell? ⟨r.sb,1,O⟩=M (U (M ⟨r.xb,0,O⟩))/\w'.cell? ⟨ob,2,O⟩=M (I V n)/\w'.cell? ⟨ob,3,O⟩=M (I V m)/\aL w0 w')
     (first|(exact⟨uN.cell p1',uN.cell s2',uN.cell s3',uN⟩)|(exact⟨(aL.drew hg).cell p1',(aL.drew hg).cell s2',(aL.drew hg).cell s3',aL.drew hg⟩))
     (first|(go_at_call 109;refine(HR.out _ (by go_split_ands;assumption)).mono ?_;rintro e w5 ⟨rfl,uN⟩))
    all_goals go_wp2_with fail
    all_goals go_meet
    all_goals exact⟨rfl,rfl,uN⟩
   case rest=>
    obtain⟨rfl,rfl,uN⟩:=hcut
    rename F=>wd
    go_wp2_with (go_at_call 99;refine nC.mono ?_;rintro e w3 ⟨rfl,rfl⟩);go_ret;exact⟨by simp,aQ HG.out uN⟩
end Go.Proofs.YtfplgfodoiiobaaGreatDoor
