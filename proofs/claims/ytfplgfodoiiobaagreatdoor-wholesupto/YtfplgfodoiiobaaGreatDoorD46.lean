/- SwF, SwG (joined). -/
import Derived.Test.YtfplgfodoiiobaaGreatDoorD45
open Option renaming none→O,some→M
open Go.Value renaming int→I,slice→Z,pointer→U
open Go.IntKind renaming i64→V
open Go.Obj renaming cells→C
open Go.Ending renaming returned→G
open Go renaming World→F,Value→Y,Calls→H
open Go.Proofs.Tryz renaming prog→K
open Go.Proofs.Tryz
namespace Go.Proofs.YtfplgfodoiiobaaGreatDoor
set_option maxHeartbeats 4000000
set_option maxRecDepth 100000
open Go.RowKit
variable {w w2:F}{B wb:Nat}{l:List AF}{D n:Int}{r r':iV}{ao:Option Addr}{lG vf vm:Y}
theorem Tryz.infoSP:(Tryz.prog.info? 121).map (fun i=>(i.zero,i.size,i.bytes))=M (M (U O),1,8):=by kernel_rfl
theorem EM {ops:Array Oper}{rest:List Oper}{o:Oper}{a:Act}{Q:Exit->Act->F->Prop}(qR:o.guard=O)(s x:Operand)
 (ho:o.op= .call { callee:= .builtin .append,args:=#[s,x],argTypes:=#[65,65] })
 (base:Nat)(v:Y)(n:Nat)(xs:List Y)(q:Y)(hs:a.eval s=v)(bD:w.ownsRow base 121 1 v n xs)(ad:Addr)(m c:Nat)(hx:a.eval x=Z (M ad) m c)(hm:m=1)(hr:w.cell? (ad.add 0)=M q)(hq:q.oneCell'=true)
 (hlen:n<=2000000)(iK:base<=w.heap.size)(wb:Nat)(ob:Obj)(Kv:w.heap[wb]?=M ob)(hnd:v.ownBlock≠M wb)
 (h:∀Gq nH w',w'.ownsRow base 121 1 (Z Gq (n+1) nH) (n+1) (xs++ [q])->w.grownBy w' v.ownBlock->w'.heap[wb]?=M ob->wpList K ops Q rest (a.put o.dst (Z Gq (n+1) nH)) w'):wpList K ops Q (o::rest) a w:=by
 obtain⟨i0,hi,oG,nM,oP⟩:=AaW Tryz.infoSP;subst hm
 obtain⟨v',w',yV,Wo,Cq,EY⟩:=wL (P:=K) w base 65 o.type 121 i0 (U O) 1 8 underlying65 hi oG nM oP rfl (by decide) v n xs bD ad 1 c [q] rfl (by
  intro j u hj;cases j with
  |zero=>simp at hj;subst hj;exact hr
  |succ j=>simp at hj) (by
  intro u hu;simp at hu;subst hu;exact hq) (by unfold maxLen;omega) (by omega) iK
 refine Adh qR fun _ hK=>?_;unfold Oper.wp execOp;simp only[ho,resolve,invoke,builtin,Aci,AcK,Acb,Ack,AaK,AbI,hs,hx,yV];have hdb':w'.heap[wb]?=M ob:=(Cq.block wb (aM Kv) (fun e=>hnd e.symm)).trans Kv
 obtain⟨Gq,nH,rfl⟩:∃Gq nH,v'=Z Gq (n+1) nH:=by
  rcases Wo.2 with⟨-,e⟩|⟨g,cap,aS,e,-⟩
  ·omega
  ·exact⟨_,_,e⟩
 exact hK _ _ (h Gq nH w' Wo Cq hdb')
theorem MI {most depth room:Int}(h:Cc most depth room):GS (mY most depth room,[],Az) D:=by
 obtain⟨h1,h2,h3,h4,h5,h6⟩:=h;refine GS.shut ⟨⟨h1,h2,h3,h4,h5,h6,by simp[mY],by simp[mY],by simp[mY],by simp[mY],by simp[mY],by simp[mY],by simp[mY],by simp[mY],by simp[mY]⟩,by simp[mY],⟨⟨List.Pairwise.nil,by simp⟩,by simp,by simp,by simpa[bV,mY]using h5⟩,by simp⟩ rfl
theorem MJ {v':Y}(h:w.heap[wb]?=M (jP lG n vf vm)):(w.setCell ⟨wb,1,O⟩ v').heap[wb]?=M (jP v' n vf vm):=by rw[Aaj w wb 1 _ _ _ h];rfl
def oV (w w':F)(B wb:Nat)(rs:List iV)(c:Nat)(D:Int):Prop:=Below B w w'/\∃dP c' lG vf vm hs,jQ w' B wb dP c' (D+1) lG vf vm hs/\dP.length<=rs.length+1/\c'<=c+1
theorem oV.aN {w':F}{c:Nat}{rs:List iV}{hs:List bS}(h:jQ w B wb rs c D lG vf vm hs)(hg:aL w w'):oV w w' B wb rs c D:=
 ⟨⟨hg.os,hg.tape,hg.output,hg.size,fun b hb=>hg.block b (by have:=h.lt;omega)⟩,rs,c,lG,vf,vm,hs,(h.aN hg).more (by omega),by omega,by omega⟩
theorem made_no {a m k:Int}{s:ByteArray}{fo:Option Addr}{fl fc:Nat}(hn:¬Cc n m k):
 H K 66 #[U (M ⟨wb,0,O⟩),.agg #[I V 11,I V a,I V n,I V m,I V k,.string s,Z fo fl fc]] w fun e w'=>e=G (.bool true)/\aL w w':=by
 have H1:=fun W=>qnew_no (w:=W) hn;have H2:=fun W=>xw (w:=W) (most:=n) (depth:=m) (room:=k) (by unfold YA;unfold Cc at hn;omega);have hG:=(aL.refl w).alloc (C #[I V 11,I V a,I V n,I V m,I V k,.string s,Z fo fl fc] 73);clear hn;go_enter func66,ntmps66;go_wp2_with (first|(go_at_call 33;refine(H1 _).mono ?_;rintro e w1 ⟨rfl,rfl⟩)|(go_at_call 98;refine(H2 _).mono ?_;rintro e w1 ⟨rfl,rfl⟩)|(go_at_call 99;refine nC.mono ?_;rintro e w3 ⟨rfl,rfl⟩));go_ret;exact⟨by simp,hG⟩
theorem made_yes {c:Nat}{rs:List iV}{hs:List bS}{a m k:Int}{s:ByteArray}{fo:Option Addr}{fl fc:Nat}(h:jQ w B wb rs c D lG vf vm hs)(hl:rs.length<=2000000)(hn:Cc n m k):
 H K 66 #[U (M ⟨wb,0,O⟩),.agg #[I V 11,I V a,I V n,I V m,I V k,.string s,Z fo fl fc]] w fun e w'=>e=G (.bool true)/\oV w w' B wb rs c D:=by
 obtain⟨w0,lH⟩:∃w0,w0=w.alloc (iN 11 a n m k s fo fl fc):=⟨_,rfl⟩;have G0:aL w w0:=by rw[lH];exact(aL.refl w).alloc _
 have gK:w0.heap[w.heap.size]?=M (iN 11 a n m k s fo fl fc):=by rw[lH];exact Aaf w _
 obtain⟨-,-,s2,s3,s4,-,-⟩:=gX gK;have H1:=xnew (w:=w0) hn;have H2:=fun W=>YB (w:=W) (most:=n) (depth:=m) (room:=k) (by unfold YA;unfold Cc at hn;omega);have HI:Hid (jQ w B wb rs c D lG vf vm hs):=h;have HG:Hid (aL w w0):=G0;have HN:Hid (Cc n m k):=hn;unfold iN at lH;clear h gK G0 hn;go_enter func66,ntmps66;go_upto_region 1 with fail;rw[<-lH];clear lH;generalize w.heap.size=ob at*;go_upto_region 2 with(go_at_call 33;refine H1.mono ?_;rintro e w1 ⟨X,rfl,Av,hX1,iJ⟩);have t2:=iJ.cell s2;have t3:=iJ.cell s3;have t4:=iJ.cell s4;clear s2 s3 s4 H1;go_upto_region 3 with(go_at_call 98;refine(H2 _).mono ?_;rintro e w2 ⟨rfl,hy2,kR⟩);have G2:aL w w2:=aQ (aQ HG.out iJ) kR;have HI2:Hid (jQ w2 B wb rs c D lG vf vm hs):=HI.out.aN G2;obtain⟨-,e1,-,-,-,-,ef⟩:=gW HI2.out.zY;have ef1:=ef 1;have xL:=Av.aN kR;have HQ:Hid (uI w2 (w0.heap.size+1) (mY n m k) [] Az X):=xL;have HY:Hid (bM w2 w1.heap.size (mY n m k) [] Az (O,0,0)):=hy2;have HX:Hid (∀b,X b->w.heap.size<=b):=fun b hb=>by have:=hX1 b hb;have:=HG.out.size;omega
 have iY:w.heap.size<=w1.heap.size:=(aQ HG.out iJ).size;have hdl:=aM HI2.out.zY;have HB:Hid (∀o p,((w2.alloc o).alloc p).heap[wb]?=M (jP lG (c:Int) vf vm)):=fun o p=>((((aL.refl w2).alloc o).alloc p).block wb hdl).trans HI2.out.zY;have HRw:Hid (∀o p,((w2.alloc o).alloc p).ownsRow B 121 1 lG rs.length (rs.map (fun r:iV=>Value.pointer (M ⟨r.sb,0,O⟩)))):=fun o p=>(HI2.out.ss.alloc o).alloc p
 have hvd:lG.ownBlock≠M wb:=fun e=>by
  obtain⟨c1,wY⟩:=jK HI2.out.ss e;exact aZ wY HI2.out.zY (by decide) rfl
 have hBl:=HI2.out.lt;have hne:w2.heap.size≠wb:=by omega
 have hne2:w2.heap.size+1≠wb:=by omega
 clear ef Av xL hy2 hX1;generalize w0.heap.size=z0 at*;generalize w1.heap.size=xb at*;go_upto_region 8 with(first|(go_at_call 99;refine nC.mono ?_;rintro e w3 ⟨rfl,h3⟩;obtain rfl:=h3.symm)|(at_builtin;go_must (refine EM (by rfl) (.tmp 45) (.tmp 50) (by rfl) B lG rs.length (rs.map (fun r:iV=>Value.pointer (M ⟨r.sb,0,O⟩))) (U (M ⟨w2.heap.size,0,O⟩)) (by rfl) (HRw.out _ _) ⟨w2.heap.size+1,0,O⟩ 1 1 (by first|rfl|(simp[Act.eval];done)) rfl (by simp[Addr.add]) rfl hl (by simp;omega) wb _ (HB.out _ _) hvd ?_);intro Vw cp5 w5 dK eO hw5;obtain⟨-,k1,-,-,-,-,kf⟩:=gW hw5;have kf1:=kf 1;clear kf));have G3:aL w2 ((w2.alloc (Hz (z0+1) xb)).alloc (C #[U (M ⟨w2.heap.size,0,O⟩)] 121)):=((aL.refl w2).alloc _).alloc _
 have OI:((w2.alloc (Hz (z0+1) xb)).alloc (C #[U (M ⟨w2.heap.size,0,O⟩)] 121)).heap[w2.heap.size]?=M (Hz (z0+1) xb):=by
  rw[Abv _ _ (by rw[AaG];omega),Aaf]
 have HE:=HI.out.add (w1:=(w2.alloc (Hz (z0+1) xb)).alloc (C #[U (M ⟨w2.heap.size,0,O⟩)] 121)) (w2:=w5) (v5:=Z Vw (rs.length+1) cp5) (sb:=w2.heap.size) (qp:=z0+1) (xb:=xb) (x:=(mY n m k,[],Az)) (X:=X) (f:=(O,0,0)) (aQ G2 G3)
  (by
   rintro b (hb|rfl|⟨a',e,-⟩)
   ·exact HX.out b hb
   ·exact iY
   ·cases e) G2.size OI (HQ.out.aN G3) (HY.out.aN G3) (MI HN.out) dK eO (MJ hw5)
 have XU:Hid (oV w (w5.setCell ⟨wb,1,O⟩ (Z Vw (rs.length+1) cp5)) B wb rs c D):=⟨HE.2,_,c,_,_,_,_,HE.1.more (by omega),by simp,by omega⟩;clear HE dK eO HI HI2 HQ HY HX HB HRw;go_wp2_with fail;go_ret;exact⟨by simp,XU.out⟩
theorem qD (l:List AF):(Gi l).length=l.length*2:=by
 unfold Gi
 induction l with
 |nil=>rfl
 |cons a l ih=>simp[AFc,ih];omega
theorem Rx:∀(l:List AF) (i:Nat) (f:AF),l[i]?=M f->(Gi l)[i*2]?=M (I V f.1)/\(Gi l)[i*2+1]?=M (.string f.2)
 | [],i,f,h=>by simp at h
 |a::l,0,f,h=>by
  simp at h;subst h;exact⟨rfl,rfl⟩
 |a::l,i+1,f,h=>by
  have:=Rx l i f (by simpa using h);have e:Gi (a::l)=AFc a++Gi l:=rfl;rw[e,show(i+1)*2=i*2+1+1 from by omega];simpa[AFc]using this
theorem iB.row {v:Y}(h:iB w B v l):(v=Z O 0 0/\l=[])\/∃g cap aS,v=Z (M ⟨g,0,O⟩) l.length cap/\B<=g/\w.heap[g]?=M (C aS 58 (0,0))/\l.length<=cap/\aS.size=cap*2/\aS.toList.take (l.length*2)=Gi l:=by
 rcases h.2 with⟨rfl,h0⟩|⟨g,cap,aS,rfl,hg,hh,h1,-,h2,h3⟩
 ·exact Aac ⟨rfl,Aax h0⟩
 ·exact Aab ⟨g,cap,aS,rfl,hg,hh,h1,h2,h3⟩
theorem iB.rdh {v:Y}(h:iB w B v l):∃ao cap,v=Z ao l.length cap/\Rw w ao l/\l.length<=cap/\(∀a,ao=M a->B<=a.block/\a.off=0/\a.spot=O)/\(ao=O->l=[]/\cap=0):=by
 rcases h.row with⟨rfl,rfl⟩|⟨g,cap,aS,rfl,hg,hh,h1,h2,h3⟩
 ·exact⟨O,0,rfl,⟨Aac rfl,(fun a e=>by cases e)⟩,Aak _,(fun a e=>by cases e),fun _=>⟨rfl,rfl⟩⟩
 ·refine⟨M ⟨g,0,O⟩,cap,rfl,⟨Aab ⟨g,0,rfl,fun i f hf=>?_⟩,(fun a e=>by cases e;exact⟨aS,hh⟩)⟩,h1,(fun a e=>by cases e;exact⟨hg,rfl,rfl⟩),(fun e=>by cases e)⟩;obtain⟨q1,q2⟩:=Rx l i f hf;rw[<-h3,AbC]at q1 q2;rw[Ach,Adn w g _ aS _ _ hh,Adn w g _ aS _ _ hh];constructor
  ·split at q1
   ·simpa using q1
   ·cases q1
  ·split at q2
   ·simpa using q2
   ·cases q2
theorem Aw.cells {ad:Addr}(h:Aw w (M ad) l):∀j u,(Gi l)[j]?=M u->w.cell? (ad.add j)=M u:=by
 intro j u hj;rcases h with rfl|⟨b,off,e,hc⟩
 ·simp[Gi]at hj
 ·cases e
  have bP:=(Aae.1 hj).1;rw[qD]at bP;obtain⟨f,hf⟩:∃f,l[j / 2]?=M f:=⟨_,Aag (by omega)⟩;obtain⟨q1,q2⟩:=Rx l (j / 2) f hf;obtain⟨c1,c2⟩:=hc (j / 2) f hf;rw[Adg];rcases Nat.mod_two_eq_zero_or_one j with e|e
  ·rw[show j / 2*2=j by omega]at q1 c1;rw[q1]at hj;cases hj
   exact c1
  ·rw[show j / 2*2+1=j by omega]at q2;rw[show off+j / 2*2+1=off+j by omega]at c2;rw[q2]at hj;cases hj
   exact c2
theorem Ib {ops:Array Oper}{rest:List Oper}{o:Oper}{a:Act}{Q:Exit->Act->F->Prop}(qR:o.guard=O)(s x:Operand)
 (ho:o.op= .call { callee:= .builtin .append,args:=#[s,x],argTypes:=#[54,54] })
 (base:Nat)(v:Y)(ys zs:List AF)(hs:a.eval s=v)(bD:iB w base v ys)(ao:Option Addr)(m c:Nat)(hx:a.eval x=Z ao m c)(hm:m=zs.length)(gL:ao=O->zs.length=0/\c=0)(hr:Aw w ao zs)
 (hlen:ys.length+zs.length<=1000000000000)(iK:base<=w.heap.size)
 (h:∀v' w',iB w' base v' (ys++zs)->w.grownBy w' v.ownBlock->(v'=Z O 0 0->v=Z O 0 0)->wpList K ops Q rest (a.put o.dst v') w'):wpList K ops Q (o::rest) a w:=by
 obtain⟨i0,hi,oG,nM,oP⟩:=AaW Tryz.infoAF;subst hm;cases ao with
 |none=>
  obtain⟨h1,rfl⟩:=gL rfl;have hz:=Aax h1;subst hz;exact AbO qR s x 54 ho base 58 i0 2 underlying54 hi v _ _ hs bD hx (h v w (by simpa using bD) (Abn _ _) id)
 |some ad=>
  have h1c:∀u∈Gi zs,u.oneCell'=true:=by
   intro u hu;obtain⟨p,-,hp⟩:=AbX.1 hu;simp[AFc]at hp;rcases hp with rfl|rfl<;>rfl
  obtain⟨v',w',yV,Wo,Cq,hiff⟩:=AdC (P:=K) w base 54 o.type 58 i0 (.agg #[I V 0,.string ⟨#[]⟩]) 2 24 underlying54 hi oG nM oP rfl (by decide) v ys.length (Gi ys) bD ad zs.length c (Gi zs) (qD zs) (Aw.cells hr) h1c (by unfold maxLen;omega) (by omega) iK;refine Adh qR fun _ hK=>?_;unfold Oper.wp execOp;simp only[ho,resolve,invoke,builtin,Aci,AcK,Acb,Ack,AaK,AbI,hs,hx,yV];refine hK _ _ (h v' w' ?_ Cq (fun e=>(hiff.1 e).1));unfold iB;rw[Bp,Aah];exact Wo
theorem zW (h0:0<=n)(h1:n<=9000000000000):H K 75 #[I V n] w fun e w'=>e=G (.agg #[I V (-n),.string uK])/\aL w w':=by
 have hw:IntKind.i64.wrap (-n)= -n:=by rw[AaE];omega
 unfold uK;go_enter func75,ntmps75
 go_wp2
 refine Aan (v:= .agg #[I V (-n),.string ⟨#[109,97,114,107]⟩]) (by simp[results,results75,go_sem]) rfl ⟨rfl,?_⟩;exact aP _ _
theorem xJ.later {w3:F}{aJ:Nat->Prop}(h:xJ w w2 B r r')(hF:Fr w2 w3 aJ)(hio:w3.os=w2.os/\w3.tape=w2.tape/\w3.output=w2.output)(hZ:∀b,aJ b->w.heap.size<=b/\∃aS,w2.heap[b]?=M (C aS 58 (0,0))):xJ w w3 B r r':=by
 refine⟨h.pair.fr hF (fun b hb=>?_) (fun e=>?_) (fun b hb e=>?_),h.sb,⟨Aam h.fr.1 hF.1,fun b hb hn=>?_⟩,⟨hio.1.trans h.io.1,hio.2.1.trans h.io.2.1,hio.2.2.trans h.io.2.2⟩,h.yn⟩
 ·obtain⟨-,aS,hc⟩:=hZ b hb;exact Me.of hc (by decide) (by decide) (by decide) (by decide)
 ·obtain⟨-,aS,hc⟩:=hZ _ e;exact aZ h.pair.sb hc (by decide) rfl
 ·obtain⟨-,aS,hc⟩:=hZ b e;exact(h.pair.ty hb).ne hc (by decide)
 ·have h1:¬aJ b:=fun e=>by have:=(hZ b e).1;omega
  rw[hF.2 b (AaC hb h.fr.1) h1,h.fr.2 b hb hn]
theorem xJ.early {w0:F}(hg:aL w w0)(h:xJ w0 w2 B r r'):xJ w w2 B r r':=by
 have h1:=hg.size;refine⟨h.pair,h.sb,⟨Aam hg.size h.fr.1,fun b hb hn=>?_⟩,⟨h.io.1.trans hg.os,h.io.2.1.trans hg.tape,h.io.2.2.trans hg.output⟩,fun b hb=>?_⟩
 ·rw[h.fr.2 b (by omega) hn,hg.block b hb]
 ·rcases h.yn b hb with h2|h2
  ·exact Aac h2
  ·exact Aab (by omega)
theorem Vk {w0 w1:F}{row:Option Nat}(hg:aL w w0)(h:w0.grownBy w1 row)(hr:∀k,row=M k->w.heap.size<=k):aL w w1:=
 ⟨h.os.trans hg.os,h.tape.trans hg.tape,h.output.trans hg.output,Aam hg.size h.size,fun b hb=>(h.block b (AaC hb hg.size) (fun e=>by have:=hr b e.symm;omega)).trans (hg.block b hb)⟩
theorem Aw.fr {w':F}{X:Nat->Prop}(h:Aw w ao l)(hF:Fr w w' X)(hx:∀a,ao=M a->l≠[]->¬X a.block):Aw w' ao l:=by
 by_cases hl:l=[]
 ·exact Aac hl
 rcases h with h|⟨b,off,e,hc⟩
 ·exact Aac h
 ·refine Aab ⟨b,off,e,fun i f hf=>?_⟩;have h1:=hc i f hf;have qG:=hF.2 b (Aaz _ _ h1.1) (hx _ e hl);exact⟨(AaO (a:=⟨b,off+i*2,O⟩) qG).trans h1.1,(AaO (a:=⟨b,off+i*2+1,O⟩) qG).trans h1.2⟩
theorem Aw.left {r:List AF}(h:Aw w ao (l++r)):Aw w ao l:=by
 rcases h with h|⟨b,off,e,hc⟩
 ·exact Aac (List.append_eq_nil_iff.1 h).1
 ·exact Aab ⟨b,off,e,fun i f hf=>hc i f (by rw[Abt (Aae.1 hf).1];exact hf)⟩
theorem Vl (x:St)(l:List AF):(gI x l).1.1=x.1/\(gI x l).1.2.2=x.2.2:=by
 unfold gI;split
 ·exact⟨rfl,rfl⟩
 ·split<;>exact⟨rfl,rfl⟩
theorem dm {w3:F}{ca:Nat}{X':Nat->Prop}(hP:fU w B r)(hB:B<=w.heap.size)(hS:GS r.x D)(hr:Aw w ao l)(Qj:∀a,ao=M a->l≠[]->a.block<B)(Ow:l.length<=1000000000)(Yw:∀g∈l,g.2.size<=140737488355328)
 (hq:uI w3 r.qp (gI r.x l).1.1 (gI r.x l).1.2.1 (gI r.x l).1.2.2 X')(hk:Dk w w3 r.X X'):
 H K 111 #[U (M ⟨r.xb,0,O⟩),Z ao l.length ca] w3 fun e w'=>e=G (I V (gI r.x l).2)/\(∃r',xJ w w' B r r'/\r'.x=(gI r.x l).1):=by
 have hy:=(hP.half hk).1;have Gn:=hr.fr hk.1 (fun a e hl e2=>by have:=hP.yn _ (Aac e2);have:=Qj a e hl;omega);refine(xu (ca:=ca) hy hS.bk.cK Gn rfl (by omega) Yw).mono ?_;rintro e w' ⟨rfl,ha⟩;refine⟨rfl,hP.both hB hq hk ?_⟩;rw[(Vl r.x l).1,(Vl r.x l).2];exact ha
theorem xJ.at (hP:fU w B r)(h:xJ w w2 B r r'){b:Nat}{aS:Array Y}{t:TypeId}{f:Nat×Nat}(hb:w.heap[b]?=M (C aS t f))(ht:(t≠137/\t≠155/\t≠157/\t≠5/\t≠80/\t≠93/\t≠140/\t≠147/\t≠160)/\t≠189/\t≠193):w2.heap[b]?=M (C aS t f):=
 h.fr.at hb (fun e=>(hP.ty e).ne hb ht)
theorem load_any {la ca:Nat}(hP:fU w B r)(hB:B<=w.heap.size)(hS:GS r.x D)(hr:Aw w ao l)(e1:la=l.length)(gL:ao=O->la=0/\ca=0)(Qj:∀a,ao=M a->l≠[]->a.block<B)(Ow:l.length<=1000000000)(Yw:∀g∈l,g.2.size<=140737488355328):
 H K 72 #[U (M ⟨r.sb,0,O⟩),Z ao la ca] w fun e w'=>e=G (.bool true)/\∃r',xJ w w' B r r'/\r'.x=(gI r.x l).1:=by
 subst e1;have HP:Hid _:=hP;have HR:Hid (Aw w ao l):=hr;have yD:iB (w.alloc (C #[] 58)) w.heap.size (Z (M ⟨w.heap.size,0,O⟩) 0 0) []:=World.ownsRow_made w #[] 0 (Aak _) (by unfold maxLen;omega) rfl;go_enter func72,ntmps72;go_upto_region 2 with(at_builtin;go_must (refine Ib (by rfl) (.tmp 11) (.tmp 12) (by rfl) w.heap.size _ [] l (by rfl) (by exact yD) _ _ _ (by rfl) (by rfl) (by exact gL) (by exact hr.aN (aP _ _)) (by simp;omega) (by simp) ?_);intro v1 w1 nA iJ hnn1);have G1:=Vk ((aL.refl w).alloc _) iJ (fun k e=>by cases e;exact Aak _);simp only[Acf]at nA
 have uP:∀o,Aw (w1.alloc (C #[I V (-77),.string ⟨#[]⟩] o)) (M ⟨w1.heap.size,0,O⟩) [((-77:Int),(⟨#[]⟩:ByteArray))]:=fun o=>Aab ⟨w1.heap.size,0,rfl,fun i f hf=>by
  have hi:i=0:=by have:=(Aae.1 hf).1;simp at this;omega
  subst hi;simp at hf;subst hf;have hb:=Aaf w1 (C #[I V (-77),.string ⟨#[]⟩] o);show(w1.alloc _).cell? ⟨w1.heap.size,0,O⟩=_/\(w1.alloc _).cell? ⟨w1.heap.size,1,O⟩=_;unfold World.cell?;simp only[hb];exact⟨rfl,rfl⟩⟩
 have sV:=G1.size;obtain⟨PL,Ja,ev1,-⟩:=iB.rdh nA;subst ev1;clear iJ yD hnn1;go_upto_region 3 with(at_builtin;go_must (refine Ib (by rfl) (.tmp 14) (.tmp 16) (by rfl) w.heap.size _ l [(-77,⟨#[]⟩)] (by rfl) (by exact Aay nA _) _ _ _ (by rfl) (by rfl) (by intro e;cases e) (by exact uP _) (by simp;omega) (by simp;omega) ?_);intro v2 w2 Cz kR hnn2);have G2:=Vk (G1.alloc _) kR (fun k e=>(AaA nA k e).1)
 obtain⟨g,cap,aS,ev2,Zg,hg2b,iI,hcs,Vv⟩:∃g cap aS,v2=Z (M ⟨g,0,O⟩) (l.length+1) cap/\w.heap.size<=g/\w2.heap[g]?=M (C aS 58 (0,0))/\l.length+1<=cap/\aS.size=cap*2/\aS.toList.take ((l.length+1)*2)=Gi (l++ [(-77,⟨#[]⟩)]):=by
  rcases iB.row Cz with⟨-,e⟩|⟨g,cap,aS,e,q1,q2,q3,q4,q5⟩
  ·simp at e
  ·rw[Aah,Abg]at e q3 q5;exact⟨g,cap,aS,e,q1,q2,q3,q4,q5⟩
 subst ev2;obtain⟨ao2,Nc,ev2,rd2,-⟩:=iB.rdh Cz;rw[Aah,Abg]at ev2;cases ev2
 have hP2:=hP.aN G2;have hB2:=Aam hB G2.size;have qR:=hS.bk.cK
 have H1:Hid (H K 35 #[U (M ⟨r.qp,0,O⟩),Z (M ⟨g,0,O⟩) l.length cap] w2.drew fun e w'=>e=G (I V (gI r.x l).2)/\∃X',uI w' r.qp (gI r.x l).1.1 (gI r.x l).1.2.1 (gI r.x l).1.2.2 X'/\Dk w2 w' r.X X'):=by
  have gd:=aL.drew (aL.refl w2);refine(xload (ca:=cap) (hP2.q.aN gd) ((Aw.left rd2.1).aN gd) (fun a e=>?_) rfl qR.Yo qR.kI (by omega) Yw).mono ?_
  ·cases e
   exact⟨aS,_,_,hg2b,by decide⟩
  ·rintro e w' ⟨rfl,X',hq,hk⟩;exact⟨rfl,X',hq,Eb gd hk⟩
 have HB:Hid (∀w3 X',uI w3 r.qp (gI r.x l).1.1 (gI r.x l).1.2.1 (gI r.x l).1.2.2 X'->Dk w2 w3 r.X X'->H K 111 #[U (M ⟨r.xb,0,O⟩),Z ao l.length ca] w3 fun e w'=>e=G (I V (gI r.x l).2)/\(∃r',xJ w2 w' B r r'/\r'.x=(gI r.x l).1)):=fun w3 X' hq hk=>dm hP2 hB2 hS (hr.aN G2) Qj Ow Yw hq hk;have JB:Hid _:=hP2;have Fy:Hid _:=G2;have HC:Hid (w2.heap[g]?=M (C aS 58 (0,0))/\Aw w2 (M ⟨g,0,O⟩) (l++ [(-77,⟨#[]⟩)])):=⟨hg2b,rd2.1⟩;obtain⟨p0,-⟩:=kW hP2.sb;have j1:(0:Int)<=(l.length:Int):=by omega
 have j2:(l.length:Int)<=(cap:Int):=by omega
 obtain⟨x1,oM⟩:∃x1,x1=(gI r.x l).1:=⟨_,rfl⟩;obtain⟨code,hcode⟩:∃code,code=(gI r.x l).2:=⟨_,rfl⟩;rw[<-oM,<-hcode]at H1 HB;have HX1:Hid _:=oM;clear oM hcode;clear nA Cz kR hnn2 Vv hg2b rd2 hP2 hP hS hr uP Yw qR G1 G2 HP;refine Abu 8 (by kernel_rfl) (by kernel_rfl) ?_;simp only[AaV,AbH,Abq,Abr]
 repeat still_step
 refine AcA ?_;go_upto_region 4 with(go_at_call 35;refine H1.out.mono ?_;rintro e w3 ⟨rfl,X',WU,hk3⟩);have p1:=sN JB.out hk3;have HD:=HB.out w3 X' WU hk3;clear H1 HB WU p0;go_upto_region 5 with(go_at_call 111;refine HD.mono ?_;rintro e w4 ⟨rfl,r',Zr,NR⟩);have hc4:=xJ.at JB.out Zr HC.out.1 (by decide);have rd4:=HC.out.2.fr Zr.fr (fun a e _ e2=>by cases e;exact(JB.out.ty e2).ne HC.out.1 (by decide))
 have rf4:Aw w4 ao l:=by
  have q:=HR.out.aN Fy.out;exact q.fr Zr.fr (fun a e hl e2=>by have:=JB.out.yn _ e2;have:=Qj a e hl;omega)
 have z0:w4.cell? ⟨g,l.length*2,O⟩=M (I V (-77))/\w4.cell? ⟨g,l.length*2+1,O⟩=M (.string ⟨#[]⟩):=by
  rcases rd4 with e|⟨b,off,e,hc⟩
  ·simp at e
  ·cases e
   have:=hc l.length (-77,⟨#[]⟩) (by simp);simpa using this
 obtain⟨z1,z2⟩:=z0;have j3:(l.length:Int)<((l.length+1:Nat):Int):=by omega
 have HR4:Hid (Aw w4 (M ⟨g,0,O⟩) (l++ [(-77,⟨#[]⟩)])/\Aw w4 ao l):=⟨rd4,rf4⟩;have zw:Hid (xJ w2 w4 B r r'/\r'.x=x1/\w4.heap[g]?=M (C aS 58 (0,0))):=⟨Zr,NR,hc4⟩;clear Zr NR hc4 rd4 rf4 HD hk3 p1 HC JB;have XT:(code==code)=true:=by simp
 go_wp2_with (go_at_call 99;refine nC.mono ?_;rintro e w5 ⟨rfl,h5⟩;obtain rfl:=h5.symm);clear z1 z2 XT
 go_loopw [8,9] (fun o i wr=> ∃k:Nat,k<=l.length/\o= .bool true/\i=I V (k:Int)/\Hid (aL w4 wr)) (fun _ i _=>l.length-(intOf i).toNat)
 case atStart=>exact⟨0,Aap _,rfl,rfl,aL.refl w4⟩
 case round=>
  obtain⟨k,hk,rfl,rfl,HG⟩:=hrel;by_cases bP:k<l.length
  ·obtain⟨f,hf⟩:∃f,l[k]?=M f:=⟨_,Aag bP⟩
   obtain⟨y1,y2⟩:w4.cell? ⟨g,k*2,O⟩=M (I V f.1)/\w4.cell? ⟨g,k*2+1,O⟩=M (.string f.2):=by
    rcases HR4.out.1 with e|⟨b,off,e,hc⟩
    ·simp at e
    ·cases e
     have:=hc k f (by rw[Abt bP];exact hf);simpa using this
   rcases HR4.out.2 with rfl|⟨b,off,rfl,hc⟩
   ·simp at bP
   ·obtain⟨y3,y4⟩:=hc k f hf;have y1:=HG.out.cell y1;have y2:=HG.out.cell y2;have y3:=HG.out.cell y3;have y4:=HG.out.cell y4;have i1:(0:Int)<=(k:Int):=(by omega);have i2:(k:Int)<(l.length:Int):=(by omega);have i3:(k:Int)<((l.length+1:Nat):Int):=(by omega);have i4:(k:Int)<(l.length:Int)+1:=(by omega);obtain⟨fn,fb⟩:=f;simp only at y1 y2 y3 y4;clear hc hf;go_upto_region 9 with fail;go_quiet (fail)
    go_wp2
    go_roundw
    case rel=>exact⟨k+1,by omega,by simp,by go_num,bB HG.out _⟩
    case measure=>simp[intOf];omega
  ·have HS:Hid (∃c2,wr.heap[g]?=M (C c2 58 (0,0))/\c2.size=cap*2):=⟨aS,(HG.out.block g (aM zw.out.2.2)).trans zw.out.2.2,hcs⟩;go_wp2_with fail;obtain⟨wx,hwx⟩:∃wx,wx=wr:=⟨_,rfl⟩;have HGx:Hid (aL w4 wx):=(by rw[hwx];exact HG);rw[<-hwx]at HS ⊢;clear HG hwx
   go_loopw [10] (fun i wr=> ∃k:Nat,k<=l.length+1/\i=I V (k:Int)/\Hid ((∃c2,wr.heap[g]?=M (C c2 58 (0,0))/\c2.size=cap*2)/\Og w4 wr g)) (fun i _=>l.length+1-(intOf i).toNat)
   case atStart=>exact⟨0,Aap _,rfl,HS.out,(Og.refl w4 g).aN HGx.out⟩
   case round=>
    obtain⟨k,hk,rfl,HI⟩:=hrel;by_cases Rz:k<l.length+1
    ·have i1:(0:Int)<=(k:Int):=(by omega);have i3:(k:Int)<((l.length+1:Nat):Int):=(by omega);have i4:(k:Int)<(l.length:Int)+1:=(by omega);have iY:IntKind.i64.wrap (1000+(k:Int))=1000+(k:Int):=(by rw[AaE];omega);have HF:=zW (w:=wr) (n:=1000+(k:Int)) (by omega) (by omega);clear HS;go_upto_region 12 with fail;refine HF.mono ?_;rintro e w5 ⟨rfl,eO⟩;obtain⟨⟨c2,Wn,hcz⟩,jY⟩:=HI.out;have TM:=(eO.block g (aM Wn)).trans Wn;obtain⟨u1,hu1⟩:∃u,w5.cell? ⟨g,k*2,O⟩=M u:=⟨_,by rw[Adn w5 g _ c2 _ _ TM];exact Array.getElem?_eq_getElem (by omega)⟩;obtain⟨u2,TD⟩:∃u,w5.cell? ⟨g,k*2+1,O⟩=M u:=⟨_,by rw[Adn w5 g _ c2 _ _ TM];exact Array.getElem?_eq_getElem (by omega)⟩;have Gx:w5.frozen? ⟨g,k*2,O⟩=false:=(by simp[World.frozen?,TM]);have Ii:w5.frozen? ⟨g,k*2+1,O⟩=false:=by simp[World.frozen?,TM]
     have HN:Hid ((∃c2,((w5.setCell ⟨g,k*2,O⟩ (I V (-(1000+(k:Int))))).setCell ⟨g,k*2+1,O⟩ (.string uK)).heap[g]?=M (C c2 58 (0,0))/\c2.size=cap*2)/\Og w4 ((w5.setCell ⟨g,k*2,O⟩ (I V (-(1000+(k:Int))))).setCell ⟨g,k*2+1,O⟩ (.string uK)) g):=by
      have q1:=Aaj w5 g (k*2) _ _ (I V (-(1000+(k:Int)))) TM;have q2:=Aaj _ g (k*2+1) _ _ (.string uK) q1;exact⟨⟨_,q2,by simp[hcz]⟩,((jY.aN eO).set).set⟩
     clear HI Wn jY TM
     go_wp2
     go_roundw
     case rel=>exact⟨k+1,by omega,by go_num,HN.out⟩
     case measure=>simp[intOf];omega
    ·go_wp2
     go_ret;refine⟨by simp,r',?_,zw.out.2.1.trans HX1.out⟩;refine(xJ.early Fy.out zw.out.1).later HI.out.2.1 HI.out.2.2 (fun b hb=>?_);subst hb;exact⟨Zg,aS,zw.out.2.2⟩
end Go.Proofs.YtfplgfodoiiobaaGreatDoor
