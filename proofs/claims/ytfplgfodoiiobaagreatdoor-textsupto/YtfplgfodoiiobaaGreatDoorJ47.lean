/- SwE, SwF, SwG (joined). -/
import Derived.Test.YtfplgfodoiiobaaGreatDoorJ46
open Option renaming none→O,some→M
open Go.Value renaming int→I,slice→Z,pointer→U
open Go.IntKind renaming i64→V
open Go.Obj renaming cells→C
open Go.Ending renaming returned→G
open Go renaming World→F,Value→Y,Calls→H
open Go.Proofs.Tryz renaming prog→K
namespace Go.Proofs.YtfplgfodoiiobaaGreatDoor
set_option maxHeartbeats 4000000
set_option maxRecDepth 100000
open Go.RowKit
variable {w w2:F}{B fl fc wb:Nat}{r r':gW}{D n a m k:Int}{l:List AF}{s:ByteArray}{fo ao:Option Addr}{jK vf vm:Y}
theorem WZ (hP:dR w B r)(hS:GS r.x D):
 H K 70 #[U (M ⟨r.sb,0,O⟩),.agg #[I V 19,I V a,I V n,I V m,I V k,.string s,Z fo fl fc]] w fun e w'=>e=G (.bool true)/\aL w w':=by
 obtain⟨w0,dW⟩:∃w0,w0=w.alloc (bV 19 a n m k s fo fl fc):=⟨_,rfl⟩;have G0:aL w w0:=by rw[dW];exact(aL.refl w).alloc _
 have dV:w0.heap[w.heap.size]?=M (bV 19 a n m k s fo fl fc):=by rw[dW];exact heap_alloc_new w _
 have sW:=hP.aN G0;obtain⟨p0,p1⟩:=gV sW.sb;obtain⟨s0,-,-,-,-,-,-⟩:=bR dV;have hL:=xlength sW.q;obtain⟨rx,hx,hf,hm⟩:=sW.y;have wC:w0.cell? ⟨r.xb,10,O⟩=M (.bool r.x.1.aX):=by simp[World.cell?,hx,bM]
 have c13:w0.cell? ⟨r.xb,13,O⟩=M rx.1.v:=by simp[World.cell?,hx,bM]
 have Ut:=hS.Dv;have HG:Hid (aL w w0):=G0;unfold bV at dW;obtain⟨⟨t1,t2,t3⟩,rx2⟩:=rx;obtain⟨Bo,Yx,hm3⟩:=hm.1;simp only[bS.v]at c13;simp only at Bo Yx hm3;subst Yx
 have HSz:Hid (∀W,aL w0 W->r.x.1.aX=true->H K 106 #[Z t1 r.x.2.2.1.length t3] W fun e w'=>e=G (I V (sz r.x.2.2.1))/\w'=W):=fun W hW ho=>by
  have g:=Ut ho;exact fP (l:=r.x.2.2.1) (Bo.1.QG hW) rfl (g.text.ok (by have:=g.Ei;omega)) (by have:=g.few;omega)
 cases ho:r.x.1.aX with
 |true=>
  rw[ho]at hL wC;simp only[if_true]at hL;have HSz2:Hid (H K 106 #[Z t1 r.x.2.2.1.length t3] w0 fun e w'=>e=G (I V (sz r.x.2.2.1))/\w'=w0):=HSz.out w0 (aL.refl w0) ho;generalize sz r.x.2.2.1=z at*;clear hP sW dV G0 hx hf hm Ut HSz;go_enter Tryz.func70,Tryz.ntmps70
  go_upto_region 1 with fail
  rw[<-dW];clear dW;generalize w.heap.size=ob at*
  go_wp2_with (first|(go_at_call 40;refine hL.mono ?_;rintro e w1 ⟨rfl,rfl⟩)|(go_at_call 106;refine HSz2.out.mono ?_;rintro e w1 ⟨rfl,rfl⟩)|(go_at_call 99;refine jZ.mono ?_;rintro e w3 ⟨rfl,rfl⟩))
  go_ret;exact⟨by simp,HG.out⟩
 |false=>
  rw[ho]at hL wC;simp only[Bool.false_eq_true,if_false]at hL;clear hP sW dV G0 hx hf hm Ut HSz;go_enter Tryz.func70,Tryz.ntmps70
  go_upto_region 1 with fail
  rw[<-dW];clear dW;generalize w.heap.size=ob at*
  go_wp2_with (first|(go_at_call 40;refine hL.mono ?_;rintro e w1 ⟨rfl,rfl⟩)|(go_at_call 99;refine jZ.mono ?_;rintro e w3 ⟨rfl,rfl⟩))
  go_ret;exact⟨by simp,HG.out⟩
theorem OW (hP:dR w B r):
 H K 70 #[U (M ⟨r.sb,0,O⟩),.agg #[I V 20,I V a,I V n,I V m,I V k,.string s,Z fo fl fc]] w fun e w'=>e=G (.bool true)/\aL w w':=by
 obtain⟨w0,dW⟩:∃w0,w0=w.alloc (bV 20 a n m k s fo fl fc):=⟨_,rfl⟩;have G0:aL w w0:=by rw[dW];exact(aL.refl w).alloc _
 have dV:w0.heap[w.heap.size]?=M (bV 20 a n m k s fo fl fc):=by rw[dW];exact heap_alloc_new w _
 have sW:=hP.aN G0;obtain⟨p0,p1⟩:=gV sW.sb;obtain⟨s0,-,-,-,-,-,-⟩:=bR dV;have hL:=xdone sW.q;obtain⟨rx,hx,hf,hm⟩:=sW.y;have wC:w0.cell? ⟨r.xb,10,O⟩=M (.bool r.x.1.aX):=by simp[World.cell?,hx,bM]
 have c16:w0.cell? ⟨r.xb,16,O⟩=M (I V rx.2.2.2.1):=by simp[World.cell?,hx,bM]
 rw[hm.2.2.2.1]at c16;have HG:Hid (aL w w0):=G0;unfold bV at dW;cases ho:r.x.1.aX with
 |true=>
  rw[ho]at hL wC;simp only[if_true]at hL;generalize r.x.2.2.2.2.2.1=z at*;clear hP sW dV G0 hx hf hm;go_enter Tryz.func70,Tryz.ntmps70
  go_upto_region 1 with fail
  rw[<-dW];clear dW;generalize w.heap.size=ob at*
  go_wp2_with (first|(go_at_call 25;refine hL.mono ?_;rintro e w1 ⟨rfl,rfl⟩)|(go_at_call 99;refine jZ.mono ?_;rintro e w3 ⟨rfl,rfl⟩))
  go_ret;exact⟨by simp,HG.out⟩
 |false=>
  rw[ho]at hL wC;simp only[Bool.false_eq_true,if_false]at hL;clear hP sW dV G0 hx hf hm c16;go_enter Tryz.func70,Tryz.ntmps70
  go_upto_region 1 with fail
  rw[<-dW];clear dW;generalize w.heap.size=ob at*
  go_wp2_with (first|(go_at_call 25;refine hL.mono ?_;rintro e w1 ⟨rfl,rfl⟩)|(go_at_call 99;refine jZ.mono ?_;rintro e w3 ⟨rfl,rfl⟩))
  go_ret;exact⟨by simp,HG.out⟩
theorem OX (hP:dR w B r)(hS:GS r.x D)(hn:m<=9223372036854775807):
 H K 70 #[U (M ⟨r.sb,0,O⟩),.agg #[I V 18,I V a,I V n,I V m,I V k,.string s,Z fo fl fc]] w fun e w'=>e=G (.bool true)/\aL w w':=by
 obtain⟨w0,dW⟩:∃w0,w0=w.alloc (bV 18 a n m k s fo fl fc):=⟨_,rfl⟩;have G0:aL w w0:=by rw[dW];exact(aL.refl w).alloc _
 have dV:w0.heap[w.heap.size]?=M (bV 18 a n m k s fo fl fc):=by rw[dW];exact heap_alloc_new w _
 have sW:=hP.aN G0;obtain⟨p0,p1⟩:=gV sW.sb;obtain⟨s0,-,s2,s3,-,-,-⟩:=bR dV;obtain⟨x1,x2,x3⟩:∃x:St,x=r.x/\True:=⟨_,rfl,trivial⟩;obtain⟨B1,c1,hbc⟩:∃b c,rA r.x n m=(b,c):=⟨_,_,rfl⟩
 have HQ:Hid (∀W,aL w0 W->H K 39 #[U (M ⟨r.qp,0,O⟩),I V n,I V m] W fun e w'=>e=G (.tuple #[.string B1,I V c1])/\aL w0 w'):=fun W hW=>by
  refine(xread (sW.q.aN hW) hS hn).mono ?_;rintro e w' ⟨rfl,hg⟩;exact⟨by rw[show((r.x.1,r.x.2.1,r.x.2.2):St)=r.x from rfl,hbc],aQ hW hg⟩
 have HR:Hid (∀W,aL w0 W->H K 109 #[U (M ⟨r.xb,0,O⟩),I V n,I V m] W fun e w'=>e=G (.tuple #[.string B1,I V c1])/\aL w0 w'):=fun W hW=>by
  refine(iw (sW.y.aN hW) (by have:=hS.bk.len;omega) hS.bk.dX hS.bk.inv (fun ho=>⟨hS.Dv ho,hS.buf ho⟩)).mono ?_;rintro e w' ⟨rfl,hg⟩;exact⟨by rw[show((r.x.1,r.x.2.1,r.x.2.2):St)=r.x from rfl,hbc],aQ hW hg⟩
 obtain⟨rx,hx,hf,hm⟩:=sW.y;have wC:w0.cell? ⟨r.xb,10,O⟩=M (.bool r.x.1.aX):=by simp[World.cell?,hx,bM]
 have HG:Hid (aL w w0):=G0;unfold bV at dW;clear hP sW dV G0 hx hf hm hS x2 hbc;go_enter Tryz.func70,Tryz.ntmps70
 go_upto_region 1 with fail
 rw[<-dW];clear dW;generalize w.heap.size=ob at*;generalize hop:r.x.1.aX=op at*;cases op with
 |true=>
  go_upto_region 16 with fail
  go_cut [11,12] (fun u v wc=>u= .string B1/\v=I V c1/\aL w0 wc)
  case first=>
   have ga:=aL.refl w0;clear HR p1 s0 wC
   go_region_held3 (fun w'=>w'.cell? ⟨r.sb,0,O⟩=M (U (M ⟨r.qp,0,O⟩))/\w'.cell? ⟨ob,2,O⟩=M (I V n)/\w'.cell? ⟨ob,3,O⟩=M (I V m)/\aL w0 w')
    (first|(exact⟨hg.cell p0,hg.cell s2,hg.cell s3,hg⟩)|(exact⟨(aL.drew ga).cell p0,(aL.drew ga).cell s2,(aL.drew ga).cell s3,aL.drew ga⟩))
    (first|(go_at_call 39;refine(HQ.out _ (by go_split_ands;assumption)).mono ?_;rintro e w5 ⟨rfl,hg⟩))
   all_goals go_wp2_with fail
   all_goals go_meet
   all_goals exact⟨rfl,rfl,hg⟩
  case rest=>
   obtain⟨rfl,rfl,hg⟩:=hcut
   rename F=>wc
   have q1:=hg.cell p1;have q2:=hg.cell s2;have q3:=hg.cell s3;have p1':=p1;have s2':=s2;have s3':=s3;clear p0 p1 s0 s2 s3 wC
   go_upto_region 17 with fail
   go_cut [13,14] (fun u v wd=>u= .string B1/\v=I V c1/\aL w0 wd)
   case first=>
    clear HQ
    go_region_held3 (fun w'=>w'.cell? ⟨r.sb,1,O⟩=M (U (M ⟨r.xb,0,O⟩))/\w'.cell? ⟨ob,2,O⟩=M (I V n)/\w'.cell? ⟨ob,3,O⟩=M (I V m)/\aL w0 w')
     (first|(exact⟨wU.cell p1',wU.cell s2',wU.cell s3',wU⟩)|(exact⟨(aL.drew hg).cell p1',(aL.drew hg).cell s2',(aL.drew hg).cell s3',aL.drew hg⟩))
     (first|(go_at_call 109;refine(HR.out _ (by go_split_ands;assumption)).mono ?_;rintro e w5 ⟨rfl,wU⟩))
    all_goals go_wp2_with fail
    all_goals go_meet
    all_goals exact⟨rfl,rfl,wU⟩
   case rest=>
    obtain⟨rfl,rfl,wU⟩:=hcut
    rename F=>wd
    go_wp2_with (go_at_call 99;refine jZ.mono ?_;rintro e w3 ⟨rfl,rfl⟩)
    go_ret;exact⟨by simp,aQ HG.out wU⟩
 |false=>
  go_upto_region 16 with fail
  go_cut [11,12] (fun u v wc=>u= .string B1/\v=I V c1/\aL w0 wc)
  case first=>
   have ga:=aL.refl w0;clear HR p1 s0 wC
   go_region_held3 (fun w'=>w'.cell? ⟨r.sb,0,O⟩=M (U (M ⟨r.qp,0,O⟩))/\w'.cell? ⟨ob,2,O⟩=M (I V n)/\w'.cell? ⟨ob,3,O⟩=M (I V m)/\aL w0 w')
    (first|(exact⟨hg.cell p0,hg.cell s2,hg.cell s3,hg⟩)|(exact⟨(aL.drew ga).cell p0,(aL.drew ga).cell s2,(aL.drew ga).cell s3,aL.drew ga⟩))
    (first|(go_at_call 39;refine(HQ.out _ (by go_split_ands;assumption)).mono ?_;rintro e w5 ⟨rfl,hg⟩))
   all_goals go_wp2_with fail
   all_goals go_meet
   all_goals exact⟨rfl,rfl,hg⟩
  case rest=>
   obtain⟨rfl,rfl,hg⟩:=hcut
   rename F=>wc
   have q1:=hg.cell p1;have q2:=hg.cell s2;have q3:=hg.cell s3;have p1':=p1;have s2':=s2;have s3':=s3;clear p0 p1 s0 s2 s3 wC
   go_upto_region 17 with fail
   go_cut [13,14] (fun u v wd=>u= .string B1/\v=I V c1/\aL w0 wd)
   case first=>
    clear HQ
    go_region_held3 (fun w'=>w'.cell? ⟨r.sb,1,O⟩=M (U (M ⟨r.xb,0,O⟩))/\w'.cell? ⟨ob,2,O⟩=M (I V n)/\w'.cell? ⟨ob,3,O⟩=M (I V m)/\aL w0 w')
     (first|(exact⟨wU.cell p1',wU.cell s2',wU.cell s3',wU⟩)|(exact⟨(aL.drew hg).cell p1',(aL.drew hg).cell s2',(aL.drew hg).cell s3',aL.drew hg⟩))
     (first|(go_at_call 109;refine(HR.out _ (by go_split_ands;assumption)).mono ?_;rintro e w5 ⟨rfl,wU⟩))
    all_goals go_wp2_with fail
    all_goals go_meet
    all_goals exact⟨rfl,rfl,wU⟩
   case rest=>
    obtain⟨rfl,rfl,wU⟩:=hcut
    rename F=>wd
    go_wp2_with (go_at_call 99;refine jZ.mono ?_;rintro e w3 ⟨rfl,rfl⟩)
    go_ret;exact⟨by simp,aQ HG.out wU⟩
theorem Tryz.infoSP:(Tryz.prog.info? 121).map (fun i=>(i.zero,i.size,i.bytes))=M (M (U O),1,8):=by kernel_rfl
theorem BI {ops:Array Oper}{rest:List Oper}{o:Oper}{a:Act}{Q:Exit->Act->F->Prop}(qE:o.guard=O)(s x:Operand)
 (ho:o.op= .call { callee:= .builtin .append,args:=#[s,x],argTypes:=#[65,65] })
 (base:Nat)(v:Y)(n:Nat)(xs:List Y)(q:Y)(hs:a.eval s=v)(bA:w.ownsRow base 121 1 v n xs)(ad:Addr)(m c:Nat)(hx:a.eval x=Z (M ad) m c)(hm:m=1)(hr:w.cell? (ad.add 0)=M q)(hq:q.oneCell'=true)
 (hlen:n<=2000000)(iI:base<=w.heap.size)(wb:Nat)(ob:Obj)(CO:w.heap[wb]?=M ob)(hnd:v.ownBlock≠M wb)
 (h:∀Eu mW w',w'.ownsRow base 121 1 (Z Eu (n+1) mW) (n+1) (xs++ [q])->w.grownBy w' v.ownBlock->w'.heap[wb]?=M ob->wpList K ops Q rest (a.put o.dst (Z Eu (n+1) mW)) w'):wpList K ops Q (o::rest) a w:=by
 obtain⟨i0,hi,nN,nO,oM⟩:=info_parts Tryz.infoSP;subst hm
 obtain⟨v',w',tO,Uw,zG,CF⟩:=vV (P:=K) w base 65 o.type 121 i0 (U O) 1 8 Tryz.underlying65 hi nN nO oM rfl (by decide) v n xs bA ad 1 c [q] rfl (by
  intro j u hj;cases j with
  |zero=>simp at hj;subst hj;exact hr
  |succ j=>simp at hj) (by
  intro u hu;simp at hu;subst hu;exact hq) (by unfold maxLen;omega) (by omega) iI
 refine wpList_plain qE fun _ hK=>?_
 unfold Oper.wp execOp;simp only[ho,resolve,invoke,builtin,Sem.run_bind,Sem.run_pure,Result.andThen_ok,List.map_toArray,List.map_cons,List.map_nil,hs,hx,tO];have hdb':w'.heap[wb]?=M ob:=(zG.block wb (aM CO) (fun e=>hnd e.symm)).trans CO
 obtain⟨Eu,mW,rfl⟩:∃Eu mW,v'=Z Eu (n+1) mW:=by
  rcases Uw.2 with⟨-,e⟩|⟨g,cap,aS,e,-⟩
  ·omega
  ·exact⟨_,_,e⟩
 exact hK _ _ (h Eu mW w' Uw zG hdb')
theorem JU {most depth room:Int}(h:Bd most depth room):GS (mD most depth room,[],Aa) D:=by
 obtain⟨h1,h2,h3,h4,h5,h6⟩:=h;refine GS.shut ⟨⟨h1,h2,h3,h4,h5,h6,by simp[mD],by simp[mD],by simp[mD],by simp[mD],by simp[mD],by simp[mD],by simp[mD],by simp[mD],by simp[mD]⟩,by simp[mD],⟨⟨List.Pairwise.nil,by simp⟩,by simp,by simp,by simpa[bY,mD]using h5⟩,by simp⟩ rfl
theorem JV {v':Y}(h:w.heap[wb]?=M (iU jK n vf vm)):(w.setCell ⟨wb,1,O⟩ v').heap[wb]?=M (iU v' n vf vm):=by rw[heap_setCell_same w wb 1 _ _ _ h];rfl
def iO (w w':F)(B wb:Nat)(rs:List gW)(c:Nat)(D:Int):Prop:=Below B w w'/\∃eZ c' jK vf vm hs,iA w' B wb eZ c' (D+1) jK vf vm hs/\eZ.length<=rs.length+1/\c'<=c+1
theorem iO.aN {w':F}{c:Nat}{rs:List gW}{hs:List bS}(h:iA w B wb rs c D jK vf vm hs)(hg:aL w w'):iO w w' B wb rs c D:=
 ⟨⟨hg.os,hg.tape,hg.output,hg.size,fun b hb=>hg.block b (by have:=h.lt;omega)⟩,rs,c,jK,vf,vm,hs,(h.aN hg).more (by omega),by omega,by omega⟩
theorem made_no (hn:¬Bd n m k):
 H K 66 #[U (M ⟨wb,0,O⟩),.agg #[I V 11,I V a,I V n,I V m,I V k,.string s,Z fo fl fc]] w fun e w'=>e=G (.bool true)/\aL w w':=by
 have H1:=fun W=>qnew_no (w:=W) hn
 have H2:=fun W=>jd (w:=W) (most:=n) (depth:=m) (room:=k) (by unfold UH;unfold Bd at hn;omega)
 have hG:=(aL.refl w).alloc (C #[I V 11,I V a,I V n,I V m,I V k,.string s,Z fo fl fc] 73);clear hn;go_enter Tryz.func66,Tryz.ntmps66
 go_wp2_with (first|(go_at_call 33;refine(H1 _).mono ?_;rintro e w1 ⟨rfl,rfl⟩)|(go_at_call 98;refine(H2 _).mono ?_;rintro e w1 ⟨rfl,rfl⟩)|(go_at_call 99;refine jZ.mono ?_;rintro e w3 ⟨rfl,rfl⟩))
 go_ret;exact⟨by simp,hG⟩
theorem l_ {c:Nat}{rs:List gW}{hs:List bS}(h:iA w B wb rs c D jK vf vm hs)(hl:rs.length<=2000000)(hn:Bd n m k):
 H K 66 #[U (M ⟨wb,0,O⟩),.agg #[I V 11,I V a,I V n,I V m,I V k,.string s,Z fo fl fc]] w fun e w'=>e=G (.bool true)/\iO w w' B wb rs c D:=by
 obtain⟨w0,dW⟩:∃w0,w0=w.alloc (bV 11 a n m k s fo fl fc):=⟨_,rfl⟩;have G0:aL w w0:=by rw[dW];exact(aL.refl w).alloc _
 have dV:w0.heap[w.heap.size]?=M (bV 11 a n m k s fo fl fc):=by rw[dW];exact heap_alloc_new w _
 obtain⟨-,-,s2,s3,s4,-,-⟩:=bR dV;have H1:=xnew (w:=w0) hn;have H2:=fun W=>UI (w:=W) (most:=n) (depth:=m) (room:=k) (by unfold UH;unfold Bd at hn;omega)
 have HI:Hid (iA w B wb rs c D jK vf vm hs):=h;have HG:Hid (aL w w0):=G0;have HN:Hid (Bd n m k):=hn;unfold bV at dW;clear h dV G0 hn;go_enter Tryz.func66,Tryz.ntmps66
 go_upto_region 1 with fail
 rw[<-dW];clear dW;generalize w.heap.size=ob at*
 go_upto_region 2 with(go_at_call 33;refine H1.mono ?_;rintro e w1 ⟨X,rfl,qA,hX1,iH⟩)
 have t2:=iH.cell s2;have t3:=iH.cell s3;have t4:=iH.cell s4;clear s2 s3 s4 H1
 go_upto_region 3 with(go_at_call 98;refine(H2 _).mono ?_;rintro e w2 ⟨rfl,hy2,kJ⟩)
 have G2:aL w w2:=aQ (aQ HG.out iH) kJ;have HI2:Hid (iA w2 B wb rs c D jK vf vm hs):=HI.out.aN G2;obtain⟨-,e1,-,-,-,-,ef⟩:=cK HI2.out.rX;have ef1:=ef 1;have rE:=qA.aN kJ;have HQ:Hid (tH w2 (w0.heap.size+1) (mD n m k) [] Aa X):=rE;have HY:Hid (bH w2 w1.heap.size (mD n m k) [] Aa (O,0,0)):=hy2;have HX:Hid (∀b,X b->w.heap.size<=b):=fun b hb=>by have:=hX1 b hb;have:=HG.out.size;omega
 have jJ:w.heap.size<=w1.heap.size:=(aQ HG.out iH).size;have hdl:=aM HI2.out.rX;have HB:Hid (∀o p,((w2.alloc o).alloc p).heap[wb]?=M (iU jK (c:Int) vf vm)):=fun o p=>((((aL.refl w2).alloc o).alloc p).block wb hdl).trans HI2.out.rX
 have HRw:Hid (∀o p,((w2.alloc o).alloc p).ownsRow B 121 1 jK rs.length (rs.map (fun r:gW=>Value.pointer (M ⟨r.sb,0,O⟩)))):=fun o p=>(HI2.out.ss.alloc o).alloc p
 have hvd:jK.ownBlock≠M wb:=fun e=>by
  obtain⟨c1,vI⟩:=mF HI2.out.ss e;exact bB vI HI2.out.rX (by decide) rfl
 have hBl:=HI2.out.lt;have hne:w2.heap.size≠wb:=by omega
 have hne2:w2.heap.size+1≠wb:=by omega
 clear ef qA rE hy2 hX1;generalize w0.heap.size=z0 at*;generalize w1.heap.size=xb at*
 go_upto_region 8 with(first|(go_at_call 99;refine jZ.mono ?_;rintro e w3 ⟨rfl,h3⟩;obtain rfl:=h3.symm)|(at_builtin;go_must (refine BI (by rfl) (.tmp 45) (.tmp 50) (by rfl) B jK rs.length (rs.map (fun r:gW=>Value.pointer (M ⟨r.sb,0,O⟩))) (U (M ⟨w2.heap.size,0,O⟩)) (by rfl) (HRw.out _ _) ⟨w2.heap.size+1,0,O⟩ 1 1 (by first|rfl|(simp[Act.eval];done)) rfl (by simp[Addr.add]) rfl hl (by simp;omega) wb _ (HB.out _ _) hvd ?_);intro Wh cp5 w5 cO fQ hw5;obtain⟨-,k1,-,-,-,-,kf⟩:=cK hw5;have kf1:=kf 1;clear kf))
 have G3:aL w2 ((w2.alloc (Fj (z0+1) xb)).alloc (C #[U (M ⟨w2.heap.size,0,O⟩)] 121)):=((aL.refl w2).alloc _).alloc _
 have LH:((w2.alloc (Fj (z0+1) xb)).alloc (C #[U (M ⟨w2.heap.size,0,O⟩)] 121)).heap[w2.heap.size]?=M (Fj (z0+1) xb):=by
  rw[heap_alloc_old _ _ (by rw[World.size_alloc];omega),heap_alloc_new]
 have HE:=HI.out.add (w1:=(w2.alloc (Fj (z0+1) xb)).alloc (C #[U (M ⟨w2.heap.size,0,O⟩)] 121)) (w2:=w5) (v5:=Z Wh (rs.length+1) cp5) (sb:=w2.heap.size) (qp:=z0+1) (xb:=xb) (x:=(mD n m k,[],Aa)) (X:=X) (f:=(O,0,0)) (aQ G2 G3)
  (by
   rintro b (hb|rfl|⟨a',e,-⟩)
   ·exact HX.out b hb
   ·exact jJ
   ·cases e) G2.size LH (HQ.out.aN G3) (HY.out.aN G3) (JU HN.out) cO fQ (JV hw5)
 have KM:Hid (iO w (w5.setCell ⟨wb,1,O⟩ (Z Wh (rs.length+1) cp5)) B wb rs c D):=⟨HE.2,_,c,_,_,_,_,HE.1.more (by omega),by simp,by omega⟩;clear HE cO fQ HI HI2 HQ HY HX HB HRw
 go_wp2_with fail
 go_ret;exact⟨by simp,KM.out⟩
theorem pJ (l:List AF):(Ea l).length=l.length*2:=by
 unfold Ea
 induction l with
 |nil=>rfl
 |cons a l ih=>simp[AFc,ih];omega
theorem Qj:∀(l:List AF) (i:Nat) (f:AF),l[i]?=M f->(Ea l)[i*2]?=M (I V f.1)/\(Ea l)[i*2+1]?=M (.string f.2)
 | [],i,f,h=>by simp at h
 |a::l,0,f,h=>by
  simp at h;subst h;exact⟨rfl,rfl⟩
 |a::l,i+1,f,h=>by
  have:=Qj l i f (by simpa using h);have e:Ea (a::l)=AFc a++Ea l:=rfl;rw[e,show(i+1)*2=i*2+1+1 from by omega];simpa[AFc]using this
theorem iC.row {v:Y}(h:iC w B v l):(v=Z O 0 0/\l=[])\/∃g cap aS,v=Z (M ⟨g,0,O⟩) l.length cap/\B<=g/\w.heap[g]?=M (C aS 58 (0,0))/\l.length<=cap/\aS.size=cap*2/\aS.toList.take (l.length*2)=Ea l:=by
 rcases h.2 with⟨rfl,h0⟩|⟨g,cap,aS,rfl,hg,hh,h1,-,h2,h3⟩
 ·exact Or.inl ⟨rfl,List.eq_nil_of_length_eq_zero h0⟩
 ·exact Or.inr ⟨g,cap,aS,rfl,hg,hh,h1,h2,h3⟩
theorem iC.rdh {v:Y}(h:iC w B v l):∃ao cap,v=Z ao l.length cap/\Qi w ao l/\l.length<=cap/\(∀a,ao=M a->B<=a.block/\a.off=0/\a.spot=O)/\(ao=O->l=[]/\cap=0):=by
 rcases h.row with⟨rfl,rfl⟩|⟨g,cap,aS,rfl,hg,hh,h1,h2,h3⟩
 ·exact⟨O,0,rfl,⟨Or.inl rfl,(fun a e=>by cases e)⟩,Nat.le_refl _,(fun a e=>by cases e),fun _=>⟨rfl,rfl⟩⟩
 ·refine⟨M ⟨g,0,O⟩,cap,rfl,⟨Or.inr ⟨g,0,rfl,fun i f hf=>?_⟩,(fun a e=>by cases e;exact⟨aS,hh⟩)⟩,h1,(fun a e=>by cases e;exact⟨hg,rfl,rfl⟩),(fun e=>by cases e)⟩;obtain⟨q1,q2⟩:=Qj l i f hf;rw[<-h3,List.getElem?_take]at q1 q2;rw[Nat.zero_add,cell_of_row w g _ aS _ _ hh,cell_of_row w g _ aS _ _ hh];constructor
  ·split at q1
   ·simpa using q1
   ·cases q1
  ·split at q2
   ·simpa using q2
   ·cases q2
theorem yS.cells {ad:Addr}(h:yS w (M ad) l):∀j u,(Ea l)[j]?=M u->w.cell? (ad.add j)=M u:=by
 intro j u hj;rcases h with rfl|⟨b,off,e,hc⟩
 ·simp[Ea]at hj
 ·cases e
  have bT:j<(Ea l).length:=(List.getElem?_eq_some_iff.1 hj).1;rw[pJ]at bT;obtain⟨f,hf⟩:∃f,l[j / 2]?=M f:=⟨_,List.getElem?_eq_getElem (by omega)⟩;obtain⟨q1,q2⟩:=Qj l (j / 2) f hf;obtain⟨c1,c2⟩:=hc (j / 2) f hf;rw[Addr.add_lit];rcases Nat.mod_two_eq_zero_or_one j with e|e
  ·rw[show j / 2*2=j by omega]at q1 c1;rw[q1]at hj;cases hj
   exact c1
  ·rw[show j / 2*2+1=j by omega]at q2;rw[show off+j / 2*2+1=off+j by omega]at c2;rw[q2]at hj;cases hj
   exact c2
theorem Fq {ops:Array Oper}{rest:List Oper}{o:Oper}{a:Act}{Q:Exit->Act->F->Prop}(qE:o.guard=O)(s x:Operand)
 (ho:o.op= .call { callee:= .builtin .append,args:=#[s,x],argTypes:=#[54,54] })
 (base:Nat)(v:Y)(ys zs:List AF)(hs:a.eval s=v)(bA:iC w base v ys)(ao:Option Addr)(m c:Nat)(hx:a.eval x=Z ao m c)(hm:m=zs.length)(gP:ao=O->zs.length=0/\c=0)(hr:yS w ao zs)
 (hlen:ys.length+zs.length<=1000000000000)(iI:base<=w.heap.size)
 (h:∀v' w',iC w' base v' (ys++zs)->w.grownBy w' v.ownBlock->(v'=Z O 0 0->v=Z O 0 0)->wpList K ops Q rest (a.put o.dst v') w'):wpList K ops Q (o::rest) a w:=by
 obtain⟨i0,hi,nN,nO,oM⟩:=info_parts Tryz.infoAF;subst hm;cases ao with
 |none=>
  obtain⟨h1,rfl⟩:=gP rfl;have hz:zs=[]:=List.eq_nil_of_length_eq_zero h1;subst hz;exact wpList_append_own_none qE s x 54 ho base 58 i0 2 Tryz.underlying54 hi v _ _ hs bA hx (h v w (by simpa using bA) (World.grownBy.refl _ _) id)
 |some ad=>
  have h1c:∀u∈Ea zs,u.oneCell'=true:=by
   intro u hu;obtain⟨p,-,hp⟩:=List.mem_flatMap.1 hu;simp[AFc]at hp;rcases hp with rfl|rfl<;>rfl
  obtain⟨v',w',tO,Uw,zG,hiff⟩:=run_append_own (P:=K) w base 54 o.type 58 i0 (.agg #[I V 0,.string ⟨#[]⟩]) 2 24 Tryz.underlying54 hi nN nO oM rfl (by decide) v ys.length (Ea ys) bA ad zs.length c (Ea zs) (pJ zs) (yS.cells hr) h1c (by unfold maxLen;omega) (by omega) iI;refine wpList_plain qE fun _ hK=>?_
  unfold Oper.wp execOp;simp only[ho,resolve,invoke,builtin,Sem.run_bind,Sem.run_pure,Result.andThen_ok,List.map_toArray,List.map_cons,List.map_nil,hs,hx,tO];refine hK _ _ (h v' w' ?_ zG (fun e=>(hiff.1 e).1));unfold iC;rw[Ai,List.length_append];exact Uw
theorem zD (h0:0<=n)(h1:n<=9000000000000):H K 75 #[I V n] w fun e w'=>e=G (.agg #[I V (-n),.string sV])/\aL w w':=by
 have hw:IntKind.i64.wrap (-n)= -n:=by rw[IntKind.wrap_i64];omega
 unfold sV;go_enter Tryz.func75,Tryz.ntmps75
 go_wp2_with fail
 refine bodyPost_ret (v:= .agg #[I V (-n),.string ⟨#[109,97,114,107]⟩]) (by simp[results,Tryz.results75,go_sem]) rfl ⟨rfl,?_⟩;exact aO _ _
theorem qY.later {w3:F}{aI:Nat->Prop}(h:qY w w2 B r r')(hF:Fr w2 w3 aI)(hio:w3.os=w2.os/\w3.tape=w2.tape/\w3.output=w2.output)(hZ:∀b,aI b->w.heap.size<=b/\∃aS,w2.heap[b]?=M (C aS 58 (0,0))):qY w w3 B r r':=by
 refine⟨h.pair.fr hF (fun b hb=>?_) (fun e=>?_) (fun b hb e=>?_),h.sb,⟨Nat.le_trans h.fr.1 hF.1,fun b hb hn=>?_⟩,⟨hio.1.trans h.io.1,hio.2.1.trans h.io.2.1,hio.2.2.trans h.io.2.2⟩,h.yn⟩
 ·obtain⟨-,aS,hc⟩:=hZ b hb;exact Ka.of hc (by decide) (by decide) (by decide) (by decide)
 ·obtain⟨-,aS,hc⟩:=hZ _ e;exact bB h.pair.sb hc (by decide) rfl
 ·obtain⟨-,aS,hc⟩:=hZ b e;exact(h.pair.ty hb).ne hc (by decide)
 ·have h1:¬aI b:=fun e=>by have:=(hZ b e).1;omega
  rw[hF.2 b (Nat.lt_of_lt_of_le hb h.fr.1) h1,h.fr.2 b hb hn]
theorem qY.early {w0:F}(hg:aL w w0)(h:qY w0 w2 B r r'):qY w w2 B r r':=by
 have h1:=hg.size;refine⟨h.pair,h.sb,⟨Nat.le_trans hg.size h.fr.1,fun b hb hn=>?_⟩,⟨h.io.1.trans hg.os,h.io.2.1.trans hg.tape,h.io.2.2.trans hg.output⟩,fun b hb=>?_⟩
 ·rw[h.fr.2 b (by omega) hn,hg.block b hb]
 ·rcases h.yn b hb with h2|h2
  ·exact Or.inl h2
  ·exact Or.inr (by omega)
theorem Tz {w0 w1:F}{row:Option Nat}(hg:aL w w0)(h:w0.grownBy w1 row)(hr:∀k,row=M k->w.heap.size<=k):aL w w1:=
 ⟨h.os.trans hg.os,h.tape.trans hg.tape,h.output.trans hg.output,Nat.le_trans hg.size h.size,fun b hb=>(h.block b (Nat.lt_of_lt_of_le hb hg.size) (fun e=>by have:=hr b e.symm;omega)).trans (hg.block b hb)⟩
theorem yS.fr {w':F}{X:Nat->Prop}(h:yS w ao l)(hF:Fr w w' X)(hx:∀a,ao=M a->l≠[]->¬X a.block):yS w' ao l:=by
 by_cases hl:l=[]
 ·exact Or.inl hl
 rcases h with h|⟨b,off,e,hc⟩
 ·exact Or.inl h
 ·refine Or.inr ⟨b,off,e,fun i f hf=>?_⟩;have h1:=hc i f hf;have pX:w'.heap[b]?=w.heap[b]?:=hF.2 b (World.block_lt_of_cell? _ _ h1.1) (hx _ e hl);exact⟨(World.cell?_of_block (a:=⟨b,off+i*2,O⟩) pX).trans h1.1,(World.cell?_of_block (a:=⟨b,off+i*2+1,O⟩) pX).trans h1.2⟩
theorem yS.left {r:List AF}(h:yS w ao (l++r)):yS w ao l:=by
 rcases h with h|⟨b,off,e,hc⟩
 ·exact Or.inl (List.append_eq_nil_iff.1 h).1
 ·exact Or.inr ⟨b,off,e,fun i f hf=>hc i f (by rw[List.getElem?_append_left (List.getElem?_eq_some_iff.1 hf).1];exact hf)⟩
theorem Ua (x:St)(l:List AF):(gD x l).1.1=x.1/\(gD x l).1.2.2=x.2.2:=by
 unfold gD;split
 ·exact⟨rfl,rfl⟩
 ·split<;>exact⟨rfl,rfl⟩
theorem XA {w3:F}{ca:Nat}{X':Nat->Prop}(hP:dR w B r)(hB:B<=w.heap.size)(hS:GS r.x D)(hr:yS w ao l)(Pt:∀a,ao=M a->l≠[]->a.block<B)(Mt:l.length<=1000000000)(Ww:∀g∈l,g.2.size<=140737488355328)
 (hq:tH w3 r.qp (gD r.x l).1.1 (gD r.x l).1.2.1 (gD r.x l).1.2.2 X')(hk:Dk w w3 r.X X'):
 H K 111 #[U (M ⟨r.xb,0,O⟩),Z ao l.length ca] w3 fun e w'=>e=G (I V (gD r.x l).2)/\(∃r',qY w w' B r r'/\r'.x=(gD r.x l).1):=by
 have hy:=(hP.half hk).1;have Ki:yS w3 ao l:=hr.fr hk.1 (fun a e hl e2=>by have:=hP.yn _ (Or.inl e2);have:=Pt a e hl;omega);refine(jc (ca:=ca) hy hS.bk.dX Ki rfl (by omega) Ww).mono ?_;rintro e w' ⟨rfl,ha⟩;refine⟨rfl,hP.both hB hq hk ?_⟩;rw[(Ua r.x l).1,(Ua r.x l).2];exact ha
theorem qY.at (hP:dR w B r)(h:qY w w2 B r r'){b:Nat}{aS:Array Y}{t:TypeId}{f:Nat×Nat}(hb:w.heap[b]?=M (C aS t f))(ht:(t≠137/\t≠155/\t≠157/\t≠5/\t≠80/\t≠93/\t≠140/\t≠147/\t≠160)/\t≠189/\t≠193):w2.heap[b]?=M (C aS t f):=
 h.fr.at hb (fun e=>(hP.ty e).ne hb ht)
theorem m_ {la ca:Nat}(hP:dR w B r)(hB:B<=w.heap.size)(hS:GS r.x D)(hr:yS w ao l)(e1:la=l.length)(gP:ao=O->la=0/\ca=0)(Pt:∀a,ao=M a->l≠[]->a.block<B)(Mt:l.length<=1000000000)(Ww:∀g∈l,g.2.size<=140737488355328):
 H K 72 #[U (M ⟨r.sb,0,O⟩),Z ao la ca] w fun e w'=>e=G (.bool true)/\∃r',qY w w' B r r'/\r'.x=(gD r.x l).1:=by
 subst e1;have HP:Hid (dR w B r):=hP;have HR:Hid (yS w ao l):=hr;have Gs:iC (w.alloc (C #[] 58)) w.heap.size (Z (M ⟨w.heap.size,0,O⟩) 0 0) []:=World.ownsRow_made w #[] 0 (Nat.le_refl _) (by unfold maxLen;omega) rfl;go_enter Tryz.func72,Tryz.ntmps72
 go_upto_region 2 with(at_builtin;go_must (refine Fq (by rfl) (.tmp 11) (.tmp 12) (by rfl) w.heap.size _ [] l (by rfl) (by exact Gs) _ _ _ (by rfl) (by rfl) (by exact gP) (by exact hr.aN (aO _ _)) (by simp;omega) (by simp) ?_);intro v1 w1 mH iH hnn1)
 have G1:aL w w1:=Tz ((aL.refl w).alloc _) iH (fun k e=>by cases e;exact Nat.le_refl _);simp only[List.nil_append]at mH
 have vB:∀o,yS (w1.alloc (C #[I V (-77),.string ⟨#[]⟩] o)) (M ⟨w1.heap.size,0,O⟩) [((-77:Int),(⟨#[]⟩:ByteArray))]:=fun o=>Or.inr ⟨w1.heap.size,0,rfl,fun i f hf=>by
  have hi:i=0:=by have:=(List.getElem?_eq_some_iff.1 hf).1;simp at this;omega
  subst hi;simp at hf;subst hf;have hb:=heap_alloc_new w1 (C #[I V (-77),.string ⟨#[]⟩] o);show(w1.alloc _).cell? ⟨w1.heap.size,0,O⟩=_/\(w1.alloc _).cell? ⟨w1.heap.size,1,O⟩=_;unfold World.cell?;simp only[hb];exact⟨rfl,rfl⟩⟩
 have tK:=G1.size;obtain⟨KP,En,ev1,-⟩:=iC.rdh mH;subst ev1;clear iH Gs hnn1
 go_upto_region 3 with(at_builtin;go_must (refine Fq (by rfl) (.tmp 14) (.tmp 16) (by rfl) w.heap.size _ l [(-77,⟨#[]⟩)] (by rfl) (by exact World.ownsRow.alloc mH _) _ _ _ (by rfl) (by rfl) (by intro e;cases e) (by exact vB _) (by simp;omega) (by simp;omega) ?_);intro v2 w2 Bv kJ hnn2)
 have G2:aL w w2:=Tz (G1.alloc _) kJ (fun k e=>(World.ownsRow.lt mH k e).1)
 obtain⟨g,cap,aS,ev2,Xe,hg2b,iL,hcs,Vz⟩:∃g cap aS,v2=Z (M ⟨g,0,O⟩) (l.length+1) cap/\w.heap.size<=g/\w2.heap[g]?=M (C aS 58 (0,0))/\l.length+1<=cap/\aS.size=cap*2/\aS.toList.take ((l.length+1)*2)=Ea (l++ [(-77,⟨#[]⟩)]):=by
  rcases iC.row Bv with⟨-,e⟩|⟨g,cap,aS,e,q1,q2,q3,q4,q5⟩
  ·simp at e
  ·rw[List.length_append,List.length_singleton]at e q3 q5;exact⟨g,cap,aS,e,q1,q2,q3,q4,q5⟩
 subst ev2;obtain⟨ao2,Lh,ev2,rd2,-⟩:=iC.rdh Bv;rw[List.length_append,List.length_singleton]at ev2;cases ev2
 have hP2:=hP.aN G2;have hB2:B<=w2.heap.size:=Nat.le_trans hB G2.size;have qE:=hS.bk.dX
 have H1:Hid (H K 35 #[U (M ⟨r.qp,0,O⟩),Z (M ⟨g,0,O⟩) l.length cap] w2.drew fun e w'=>e=G (I V (gD r.x l).2)/\∃X',tH w' r.qp (gD r.x l).1.1 (gD r.x l).1.2.1 (gD r.x l).1.2.2 X'/\Dk w2 w' r.X X'):=by
  have gd:aL w2 w2.drew:=aL.drew (aL.refl w2);refine(xload (ca:=cap) (hP2.q.aN gd) ((yS.left rd2.1).aN gd) (fun a e=>?_) rfl qE.Ws qE.kM (by omega) Ww).mono ?_
  ·cases e
   exact⟨aS,_,_,hg2b,by decide⟩
  ·rintro e w' ⟨rfl,X',hq,hk⟩;exact⟨rfl,X',hq,Ct gd hk⟩
 have HB:Hid (∀w3 X',tH w3 r.qp (gD r.x l).1.1 (gD r.x l).1.2.1 (gD r.x l).1.2.2 X'->Dk w2 w3 r.X X'->H K 111 #[U (M ⟨r.xb,0,O⟩),Z ao l.length ca] w3 fun e w'=>e=G (I V (gD r.x l).2)/\(∃r',qY w2 w' B r r'/\r'.x=(gD r.x l).1)):=fun w3 X' hq hk=>XA hP2 hB2 hS (hr.aN G2) Pt Mt Ww hq hk
 have FC:Hid (dR w2 B r):=hP2;have Hq:Hid (aL w w2):=G2;have HC:Hid (w2.heap[g]?=M (C aS 58 (0,0))/\yS w2 (M ⟨g,0,O⟩) (l++ [(-77,⟨#[]⟩)])):=⟨hg2b,rd2.1⟩;obtain⟨p0,-⟩:=gV hP2.sb;have j1:(0:Int)<=(l.length:Int):=by omega
 have j2:(l.length:Int)<=(cap:Int):=by omega
 obtain⟨x1,mU⟩:∃x1,x1=(gD r.x l).1:=⟨_,rfl⟩;obtain⟨code,hcode⟩:∃code,code=(gD r.x l).2:=⟨_,rfl⟩;rw[<-mU,<-hcode]at H1 HB;have HX1:Hid (x1=(gD r.x l).1):=mU;clear mU hcode;clear mH Bv kJ hnn2 Vz hg2b rd2 hP2 hP hS hr vB Ww qE G1 G2 HP;refine wp_region_still_tail 8 (by kernel_rfl) (by kernel_rfl) ?_;simp only[List.take_succ_cons,List.take_zero,List.drop_succ_cons,List.drop_zero]
 repeat still_step
 refine wpStill_nil ?_
 go_upto_region 4 with(go_at_call 35;refine H1.out.mono ?_;rintro e w3 ⟨rfl,X',Yp,hk3⟩)
 have p1:=kR FC.out hk3;have HD:=HB.out w3 X' Yp hk3;clear H1 HB Yp p0
 go_upto_region 5 with(go_at_call 111;refine HD.mono ?_;rintro e w4 ⟨rfl,r',KS,YN⟩)
 have hc4:w4.heap[g]?=M (C aS 58 (0,0)):=qY.at FC.out KS HC.out.1 (by decide);have rd4:yS w4 (M ⟨g,0,O⟩) (l++ [(-77,⟨#[]⟩)]):=HC.out.2.fr KS.fr (fun a e _ e2=>by cases e;exact(FC.out.ty e2).ne HC.out.1 (by decide))
 have rf4:yS w4 ao l:=by
  have q:=HR.out.aN Hq.out;exact q.fr KS.fr (fun a e hl e2=>by have:=FC.out.yn _ e2;have:=Pt a e hl;omega)
 have z0:w4.cell? ⟨g,l.length*2,O⟩=M (I V (-77))/\w4.cell? ⟨g,l.length*2+1,O⟩=M (.string ⟨#[]⟩):=by
  rcases rd4 with e|⟨b,off,e,hc⟩
  ·simp at e
  ·cases e
   have:=hc l.length (-77,⟨#[]⟩) (by simp);simpa using this
 obtain⟨z1,z2⟩:=z0;have j3:(l.length:Int)<((l.length+1:Nat):Int):=by omega
 have HR4:Hid (yS w4 (M ⟨g,0,O⟩) (l++ [(-77,⟨#[]⟩)])/\yS w4 ao l):=⟨rd4,rf4⟩;have ku:Hid (qY w2 w4 B r r'/\r'.x=x1/\w4.heap[g]?=M (C aS 58 (0,0))):=⟨KS,YN,hc4⟩;clear KS YN hc4 rd4 rf4 HD hk3 p1 HC FC;have UC:(code==code)=true:=by simp
 go_wp2_with (go_at_call 99;refine jZ.mono ?_;rintro e w5 ⟨rfl,h5⟩;obtain rfl:=h5.symm)
 clear z1 z2 UC
 go_loopw [8,9] (fun o i wr=> ∃k:Nat,k<=l.length/\o= .bool true/\i=I V (k:Int)/\Hid (aL w4 wr)) (fun _ i _=>l.length-(intOf i).toNat)
 case atStart=>exact⟨0,Nat.zero_le _,rfl,rfl,aL.refl w4⟩
 case round=>
  obtain⟨k,hk,rfl,rfl,HG⟩:=hrel;by_cases bT:k<l.length
  ·obtain⟨f,hf⟩:∃f,l[k]?=M f:=⟨_,List.getElem?_eq_getElem bT⟩
   obtain⟨y1,y2⟩:w4.cell? ⟨g,k*2,O⟩=M (I V f.1)/\w4.cell? ⟨g,k*2+1,O⟩=M (.string f.2):=by
    rcases HR4.out.1 with e|⟨b,off,e,hc⟩
    ·simp at e
    ·cases e
     have:=hc k f (by rw[List.getElem?_append_left bT];exact hf);simpa using this
   rcases HR4.out.2 with rfl|⟨b,off,rfl,hc⟩
   ·simp at bT
   ·obtain⟨y3,y4⟩:=hc k f hf;have y1:=HG.out.cell y1;have y2:=HG.out.cell y2;have y3:=HG.out.cell y3;have y4:=HG.out.cell y4;have i1:(0:Int)<=(k:Int):=by omega
    have i2:(k:Int)<(l.length:Int):=by omega
    have i3:(k:Int)<((l.length+1:Nat):Int):=by omega
    have i4:(k:Int)<(l.length:Int)+1:=by omega
    obtain⟨fn,fb⟩:=f;simp only at y1 y2 y3 y4;clear hc hf
    go_upto_region 9 with fail
    go_quiet (fail)
    go_wp2_with fail
    go_roundw
    case rel=>exact⟨k+1,by omega,by simp,by go_num,aZ HG.out _⟩
    case measure=>simp[intOf];omega
  ·have HS:Hid (∃c2,wr.heap[g]?=M (C c2 58 (0,0))/\c2.size=cap*2):=⟨aS,(HG.out.block g (aM ku.out.2.2)).trans ku.out.2.2,hcs⟩
   go_wp2_with fail
   obtain⟨wx,hwx⟩:∃wx,wx=wr:=⟨_,rfl⟩;have HGx:Hid (aL w4 wx):=by rw[hwx];exact HG
   rw[<-hwx]at HS ⊢;clear HG hwx
   go_loopw [10] (fun i wr=> ∃k:Nat,k<=l.length+1/\i=I V (k:Int)/\Hid ((∃c2,wr.heap[g]?=M (C c2 58 (0,0))/\c2.size=cap*2)/\Og w4 wr g)) (fun i _=>l.length+1-(intOf i).toNat)
   case atStart=>exact⟨0,Nat.zero_le _,rfl,HS.out,(Og.refl w4 g).aN HGx.out⟩
   case round=>
    obtain⟨k,hk,rfl,HI⟩:=hrel;by_cases Qk:k<l.length+1
    ·have i1:(0:Int)<=(k:Int):=by omega
     have i3:(k:Int)<((l.length+1:Nat):Int):=by omega
     have i4:(k:Int)<(l.length:Int)+1:=by omega
     have jJ:IntKind.i64.wrap (1000+(k:Int))=1000+(k:Int):=by rw[IntKind.wrap_i64];omega
     have HF:=zD (w:=wr) (n:=1000+(k:Int)) (by omega) (by omega);clear HS
     go_upto_region 12 with fail
     refine HF.mono ?_;rintro e w5 ⟨rfl,fQ⟩;obtain⟨⟨c2,Uv,hcz⟩,nW⟩:=HI.out;have XW:=(fQ.block g (aM Uv)).trans Uv;obtain⟨u1,hu1⟩:∃u,w5.cell? ⟨g,k*2,O⟩=M u:=⟨_,by rw[cell_of_row w5 g _ c2 _ _ XW];exact Array.getElem?_eq_getElem (by omega)⟩;obtain⟨u2,ZC⟩:∃u,w5.cell? ⟨g,k*2+1,O⟩=M u:=⟨_,by rw[cell_of_row w5 g _ c2 _ _ XW];exact Array.getElem?_eq_getElem (by omega)⟩;have Aw:w5.frozen? ⟨g,k*2,O⟩=false:=by simp[World.frozen?,XW]
     have KJ:w5.frozen? ⟨g,k*2+1,O⟩=false:=by simp[World.frozen?,XW]
     have HN:Hid ((∃c2,((w5.setCell ⟨g,k*2,O⟩ (I V (-(1000+(k:Int))))).setCell ⟨g,k*2+1,O⟩ (.string sV)).heap[g]?=M (C c2 58 (0,0))/\c2.size=cap*2)/\Og w4 ((w5.setCell ⟨g,k*2,O⟩ (I V (-(1000+(k:Int))))).setCell ⟨g,k*2+1,O⟩ (.string sV)) g):=by
      have q1:=heap_setCell_same w5 g (k*2) _ _ (I V (-(1000+(k:Int)))) XW;have q2:=heap_setCell_same _ g (k*2+1) _ _ (.string sV) q1;exact⟨⟨_,q2,by simp[hcz]⟩,((nW.aN fQ).set).set⟩
     clear HI Uv nW XW
     go_wp2_with fail
     go_roundw
     case rel=>exact⟨k+1,by omega,by go_num,HN.out⟩
     case measure=>simp[intOf];omega
    ·go_wp2_with fail
     go_ret;refine⟨by simp,r',?_,ku.out.2.1.trans HX1.out⟩;refine(qY.early Hq.out ku.out.1).later HI.out.2.1 HI.out.2.2 (fun b hb=>?_);subst hb;exact⟨Xe,aS,ku.out.2.2⟩
end Go.Proofs.YtfplgfodoiiobaaGreatDoor
