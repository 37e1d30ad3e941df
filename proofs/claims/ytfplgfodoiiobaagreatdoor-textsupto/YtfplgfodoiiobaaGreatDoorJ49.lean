/- SwK, SwL (joined). -/
import Derived.Test.YtfplgfodoiiobaaGreatDoorJ48
open Option renaming none→O,some→M
open Go.Value renaming int→I,slice→Z,pointer→U
open Go.IntKind renaming i64→V
open Go.Ending renaming returned→G
open Go renaming World→F,Value→Y,Calls→H
open Go.Proofs.Tryz renaming prog→K
namespace Go.Proofs.YtfplgfodoiiobaaGreatDoor
set_option maxHeartbeats 2000000
set_option maxRecDepth 100000
open Go.RowKit
variable {w:F} {B wb c p:Nat} {rs:List gW} {D:Int} {jK vf vm:Y} {hs:List bS} {r:gW} {ps:Nat->Addr} {a n m k:Int} {s:ByteArray} {fo:Option Addr} {fl fc:Nat}
variable {w:F}
def i64 (n:Int):Prop:= -9223372036854775808<=n/\n<=9223372036854775807
structure rZ (w:F)(B:Nat)(fo:Option Addr)(fl fc:Nat)(l:List AF):Prop where
 rd:yS w fo l
 len:fl=l.length
 nil:fo=O->fl=0/\fc=0
 rX:∀a,fo=M a->l≠[]->a.block<B
 few:l.length<=1000000000
 sz:∀g∈l,g.2.size<=140737488355328
 num:∀g∈l,g.1<=9223372036854775807
theorem iO.both {w0 w':F}{B wb c p:Nat}{rs:List gW}{D:Int}{jK vf vm:Y}{hs:List bS}(h:iA w B wb rs c D jK vf vm hs){r r':gW}(hr:rs[p]?=M r)(hg:aL w w0)(hb:qY w0 w' B r r')(hG:GS r'.x (D+1)):iO w w' B wb rs c D:=by
 have h0:=h.aN hg;obtain⟨q1,q2⟩:=h0.both hr hb hG (by omega);have:=h.lt;have IC:=hg.size;exact⟨⟨q2.os.trans hg.os,q2.tape.trans hg.tape,q2.output.trans hg.output,Nat.le_trans hg.size q2.size,fun b hb=>(q2.block b hb).trans (hg.block b (by omega))⟩,_,c,jK,vf,vm,hs,q1,by simp,by omega⟩
def kZ (w:F)(B wb:Nat)(rs:List gW)(c:Nat)(D:Int)(f:FuncId)(args:Array Y):Prop:=∀W,aL w W->H K f args W fun e w'=>e=G (.bool true)/\iO w w' B wb rs c D
theorem uW (h:iA w B wb rs c D jK vf vm hs)(hr:rs[p]?=M r){f:FuncId}{args:Array Y}{x1:St}(hG:GS x1 (D+1))
 (hc:∀W,dR W B r->aL w W->H K f args W fun e w'=>e=G (.bool true)/\∃w0 r',aL W w0/\qY w0 w' B r r'/\r'.x=x1):kZ w B wb rs c D f args:=fun W hW=>by
 refine(hc W ((h.pair r (List.mem_of_getElem? hr)).aN hW) hW).mono ?_;rintro e w' ⟨rfl,w0,r',g0,hb,rfl⟩;exact⟨rfl,iO.both h hr (aQ hW g0) hb hG⟩
theorem size_le (h:iA w B wb rs c D jK vf vm hs){W:F}(hW:aL w W):B<=W.heap.size:=by
 have:=h.lt;have:=hW.size;omega
theorem o_ (h:iA w B wb rs c D jK vf vm hs)(hr:rs[p]?=M r)(hG:Gl w ps)(pR:D<=1999999999)(hn:i64 n)(jT:s.size<=140737488355328):
 kZ w B wb rs c D 69 #[U (M ⟨r.sb,0,O⟩),.agg #[I V 14,I V a,I V n,I V m,I V k,.string s,Z fo fl fc]]:=by
 have hS:=h.dX r (List.mem_of_getElem? hr);refine uW h hr (x1:=(gL r.x 73 n 0 s).1) (Gx hS) (fun W hP hW=>WV (code:=(gL r.x 73 n 0 s).2) hP (fun w0 g0=>Kb fun W' g1=>?_) (fun w0 g0=>BH (hP.aN g0) (size_le h (aQ hW g0)) fun W' hy=>?_))
 ·exact AY (n:=0) ((hP.aN g0).q.aN g1) (hG.aN (aQ (aQ hW g0) g1)) hS pR jT
 ·exact Pw (Or.inl rfl) hy (Nat.le_trans hS.bk.len (by decide)) hS.bk.dX hS.bk.inv (fun ho=>⟨hS.Dv ho,Int.le_trans (hS.done ho) pR⟩) hn.2 (by omega) jT
theorem p_ (h:iA w B wb rs c D jK vf vm hs)(hr:rs[p]?=M r)(hG:Gl w ps)(pR:D<=1999999999)(hn:i64 n)(hm:i64 m):
 kZ w B wb rs c D 69 #[U (M ⟨r.sb,0,O⟩),.agg #[I V 15,I V a,I V n,I V m,I V k,.string s,Z fo fl fc]]:=by
 have hS:=h.dX r (List.mem_of_getElem? hr);refine uW h hr (x1:=(gL r.x 68 n m ⟨#[]⟩).1) (Gx hS) (fun W hP hW=>WW (code:=(gL r.x 68 n m ⟨#[]⟩).2) hP (fun w0 g0=>Kb fun W' g1=>?_) (fun w0 g0=>BH (hP.aN g0) (size_le h (aQ hW g0)) fun W' hy=>?_))
 ·exact SG ((hP.aN g0).q.aN g1) (hG.aN (aQ (aQ hW g0) g1)) hS pR hm.2
 ·exact Pw (Or.inr (Or.inl rfl)) hy (Nat.le_trans hS.bk.len (by decide)) hS.bk.dX hS.bk.inv (fun ho=>⟨hS.Dv ho,Int.le_trans (hS.done ho) pR⟩) hn.2 hm.2 (Nat.zero_le _)
theorem XH (h:iA w B wb rs c D jK vf vm hs)(hr:rs[p]?=M r)(hG:Gl w ps)(pR:D<=1999999999):
 kZ w B wb rs c D 69 #[U (M ⟨r.sb,0,O⟩),.agg #[I V 16,I V a,I V n,I V m,I V k,.string s,Z fo fl fc]]:=by
 have hS:=h.dX r (List.mem_of_getElem? hr);refine uW h hr (x1:=(gL r.x 85 0 0 ⟨#[]⟩).1) (Gx hS) (fun W hP hW=>OQ (code:=(gL r.x 85 0 0 ⟨#[]⟩).2) hP (fun w0 g0=>Kb fun W' g1=>?_) (fun w0 g0=>BH (hP.aN g0) (size_le h (aQ hW g0)) fun W' hy=>?_))
 ·exact qundo ((hP.aN g0).q.aN g1) (hG.aN (aQ (aQ hW g0) g1)) hS pR
 ·exact Pw (Or.inr (Or.inr (Or.inl rfl))) hy (Nat.le_trans hS.bk.len (by decide)) hS.bk.dX hS.bk.inv (fun ho=>⟨hS.Dv ho,Int.le_trans (hS.done ho) pR⟩) (by omega) (by omega) (Nat.zero_le _)
theorem XI (h:iA w B wb rs c D jK vf vm hs)(hr:rs[p]?=M r)(hG:Gl w ps)(pR:D<=1999999999):
 kZ w B wb rs c D 69 #[U (M ⟨r.sb,0,O⟩),.agg #[I V 17,I V a,I V n,I V m,I V k,.string s,Z fo fl fc]]:=by
 have hS:=h.dX r (List.mem_of_getElem? hr);refine uW h hr (x1:=(gL r.x 82 0 0 ⟨#[]⟩).1) (Gx hS) (fun W hP hW=>OT (code:=(gL r.x 82 0 0 ⟨#[]⟩).2) hP (fun w0 g0=>Kb fun W' g1=>?_) (fun w0 g0=>BH (hP.aN g0) (size_le h (aQ hW g0)) fun W' hy=>?_))
 ·exact qredo ((hP.aN g0).q.aN g1) (hG.aN (aQ (aQ hW g0) g1)) hS pR
 ·exact Pw (Or.inr (Or.inr (Or.inr rfl))) hy (Nat.le_trans hS.bk.len (by decide)) hS.bk.dX hS.bk.inv (fun ho=>⟨hS.Dv ho,Int.le_trans (hS.done ho) pR⟩) (by omega) (by omega) (Nat.zero_le _)
theorem XJ (h:iA w B wb rs c D jK vf vm hs)(hr:rs[p]?=M r)(hG:Gl w ps)(hD:1000100000<=D):
 kZ w B wb rs c D 73 #[U (M ⟨r.sb,0,O⟩),.agg #[I V 12,I V a,I V n,I V m,I V k,.string s,Z fo fl fc]]:=by
 have hS:=h.dX r (List.mem_of_getElem? hr);refine uW h hr (x1:=(iZ r.x).1) ((JH hS hD).more (by omega)) (fun W hP hW=>WX (code:=(iZ r.x).2) hP (fun w0 g0=>Kb fun W' g1=>?_) (fun w0 g0=>BH (hP.aN g0) (size_le h (aQ hW g0)) fun W' hy=>?_))
 ·exact qopen ((hP.aN g0).q.aN g1) (hG.aN (aQ (aQ hW g0) g1)) hS
 ·exact WU hy hS.bk
theorem OZ (h:iA w B wb rs c D jK vf vm hs)(hr:rs[p]?=M r):
 kZ w B wb rs c D 73 #[U (M ⟨r.sb,0,O⟩),.agg #[I V 13,I V a,I V n,I V m,I V k,.string s,Z fo fl fc]]:=by
 have hS:=h.dX r (List.mem_of_getElem? hr);refine uW h hr (x1:=((oG r.x.1).1,r.x.2)) ((yu hS).more (by omega)) (fun W hP hW=>OU (code:=(oG r.x.1).2) hP (fun w0 g0=>Kb fun W' g1=>?_) (fun w0 g0=>BH (hP.aN g0) (size_le h (aQ hW g0)) fun W' hy=>?_))
 ·exact xclose ((hP.aN g0).q.aN g1)
 ·refine(TS hy).mono ?_;rintro e w' ⟨rfl,h1,h2⟩;exact⟨rfl,_,h1,h2⟩
theorem XK (h:iA w B wb rs c D jK vf vm hs)(hr:rs[p]?=M r)(hG:Gl w ps):
 kZ w B wb rs c D 73 #[U (M ⟨r.sb,0,O⟩),.agg #[I V 21,I V a,I V n,I V m,I V k,.string s,Z fo fl fc]]:=by
 have hS:=h.dX r (List.mem_of_getElem? hr)
 have em:(lH r.x).1.2.2=r.x.2.2:=by
  unfold lH;split
  ·rfl
  ·split
   ·rfl
   ·simp only;split
    ·rfl
    ·rfl
 refine uW h hr (x1:=(lH r.x).1) ((gs_sync hS).more (by omega)) (fun W hP hW=>WY (code:=(lH r.x).2) hP (fun w0 g0=>Kb fun W' g1=>?_) (fun w0 g0=>BH (hP.aN g0) (size_le h (aQ hW g0)) fun W' hy=>?_))
 ·exact qsync ((hP.aN g0).q.aN g1) (hG.aN (aQ (aQ hW g0) g1)) hS
 ·rw[em];exact dm hy (Nat.le_trans hS.bk.len (by decide)) hS.bk.dX hS.bk.inv
theorem PD (h:iA w B wb rs c D jK vf vm hs)(hr:rs[p]?=M r)(hn:i64 n)(hm:i64 m)(hk:i64 k):
 kZ w B wb rs c D 73 #[U (M ⟨r.sb,0,O⟩),.agg #[I V 24,I V a,I V n,I V m,I V k,.string s,Z fo fl fc]]:=by
 have hS:=h.dX r (List.mem_of_getElem? hr);refine uW h hr (x1:=((Ci r.x.1 n m k).1,r.x.2)) ((gs_arm hS hn.2 hm.2 hk.2).more (by omega)) (fun W hP hW=>OV (code:=(Ci r.x.1 n m k).2) hP (fun w0 g0=>Kb fun W' g1=>?_) (fun w0 g0=>BH (hP.aN g0) (size_le h (aQ hW g0)) fun W' hy=>?_))
 ·exact xcrash ((hP.aN g0).q.aN g1)
 ·refine(TT hy).mono ?_;rintro e w' ⟨rfl,h1,h2⟩;exact⟨rfl,_,h1,h2⟩
theorem JZ (h:iA w B wb rs c D jK vf vm hs)(hr:rs[p]?=M r)(hn:i64 n):
 kZ w B wb rs c D 73 #[U (M ⟨r.sb,0,O⟩),.agg #[I V 25,I V a,I V n,I V m,I V k,.string s,Z fo fl fc]]:=by
 have hS:=h.dX r (List.mem_of_getElem? hr);refine uW h hr (x1:=((nV r.x.1 n).1,r.x.2)) ((WK hS hn.2).more (by omega)) (fun W hP hW=>JS (code:=(nV r.x.1 n).2) hP (fun w0 g0=>Kb fun W' g1=>?_) (fun w0 g0=>BH (hP.aN g0) (size_le h (aQ hW g0)) fun W' hy=>?_))
 ·exact xrefuse ((hP.aN g0).q.aN g1)
 ·refine(LY hy).mono ?_;rintro e w' ⟨rfl,h1,h2⟩;exact⟨rfl,_,h1,h2⟩
theorem Hg {q:Int}(h:iA w B wb rs c D jK vf vm hs)(hr:rs[p]?=M r)(hm:i64 m)(hq:q=18\/q=19\/q=20):
 kZ w B wb rs c D 70 #[U (M ⟨r.sb,0,O⟩),.agg #[I V q,I V a,I V n,I V m,I V k,.string s,Z fo fl fc]]:=fun W hW=>by
 have hS:=h.dX r (List.mem_of_getElem? hr);have hP:=(h.pair r (List.mem_of_getElem? hr)).aN hW
 have key:H K 70 #[U (M ⟨r.sb,0,O⟩),.agg #[I V q,I V a,I V n,I V m,I V k,.string s,Z fo fl fc]] W fun e w'=>e=G (.bool true)/\aL W w':=by
  rcases hq with rfl|rfl|rfl
  ·exact OX hP hS hm.2
  ·exact WZ hP hS
  ·exact OW hP
 refine key.mono ?_;rintro e w' ⟨rfl,hg⟩;exact⟨rfl,iO.aN h (aQ hW hg)⟩
theorem PE (h:iA w B wb rs c D jK vf vm hs)(hr:rs[p]?=M r)(hc:c<=2000000):
 kZ w B wb rs c D 71 #[U (M ⟨wb,0,O⟩),U (M ⟨r.sb,0,O⟩)]:=fun W hW=>by
 refine(XF (h.aN hW) (List.mem_of_getElem? hr) hc).mono ?_;rintro e w' ⟨rfl,hb,vf',Ux,Pf,hI⟩;have:=h.lt;exact⟨rfl,⟨hb.os.trans hW.os,hb.tape.trans hW.tape,hb.output.trans hW.output,Nat.le_trans hW.size hb.size,fun b bT=>(hb.block b bT).trans (hW.block b (by omega))⟩,rs,c+1,jK,vf',Ux,Pf,hI.more (by omega),by omega,by omega⟩
theorem XL {l:List AF}(h:iA w B wb rs c D jK vf vm hs)(hr:rs[p]?=M r)(hf:rZ w B fo fl fc l):
 kZ w B wb rs c D 72 #[U (M ⟨r.sb,0,O⟩),Z fo fl fc]:=fun W hW=>by
 have hS:=h.dX r (List.mem_of_getElem? hr);have hP:=(h.pair r (List.mem_of_getElem? hr)).aN hW;refine(m_ hP (size_le h hW) hS (hf.rd.aN hW) hf.len hf.nil hf.rX hf.few hf.sz).mono ?_;rintro e w' ⟨rfl,r',hb,hx⟩;exact⟨rfl,iO.both h hr hW hb (by rw[hx];exact(gs_load hS hf.num).more (by omega))⟩
def GQ:St:=(mD 100 10 10000,[],Aa)
def mU:St:=(iZ GQ).1
def Yw:St:=(gL mU 73 0 0 ⟨#[104,101,108,108,111]⟩).1
def zH:St:=(gL Yw 73 5 0 ⟨#[32,121,111,117]⟩).1
def YN:St:=(gL zH 68 0 1 ⟨#[]⟩).1
theorem hd_open:(iZ GQ).2=0:=by kernel_rfl
theorem hd_a:(gL mU 73 0 0 ⟨#[104,101,108,108,111]⟩).2=0:=by kernel_rfl
theorem hd_b:(gL Yw 73 5 0 ⟨#[32,121,111,117]⟩).2=0:=by kernel_rfl
theorem hd_c:(gL zH 68 0 1 ⟨#[]⟩).2=0:=by kernel_rfl
theorem hd_r:(rA YN 0 8)=(⟨#[101,108,108,111,32,121,111,117]⟩,0):=by kernel_rfl
theorem hd_d:YN.1.aX=true/\YN.2.2.2.2.2.1=3:=⟨by kernel_rfl,by kernel_rfl⟩
theorem gs0:GS GQ 1000100000:=JU ⟨by omega,by omega,by omega,by omega,by omega,by omega⟩
theorem gs1:GS mU 1000100000:=JH gs0 (by omega)
theorem gs2:GS Yw 1000100001:=Gx gs1
theorem gs3:GS zH 1000100002:=Gx gs2
theorem gs4:GS YN 1000100003:=Gx gs3
def r_ (w W:F)(ps:Nat->Addr)(qp:Nat)(x:St):Prop:=∃X,tH W qp x.1 x.2.1 x.2.2 X/\Gl W ps/\aL w W/\∀b,X b->w.heap.size<=b
theorem r_.next {W W':F}{ps:Nat->Addr}{qp:Nat}{x x':St}{X:Nat->Prop}(hq:tH W qp x.1 x.2.1 x.2.2 X)(hG:Gl W ps)(hg:aL w W)(hX:∀b,X b->w.heap.size<=b)(h:Bj W W' qp X x'):r_ w W' ps qp x':=by
 obtain⟨X',K_,hk⟩:=h;have hs:=hg.size;refine⟨X',K_,hG.q hk.1 (fun b hb=>hq.ty hb),⟨hk.2.1.1.trans hg.os,hk.2.1.2.1.trans hg.tape,hk.2.1.2.2.trans hg.output,Nat.le_trans hg.size hk.1.1,fun b hb=>?_⟩,fun b hb=>?_⟩
 ·rw[hk.1.2 b (by omega) (fun e=>by have:=hX b e;omega)];exact hg.block b hb
 ·rcases hk.2.2 b hb with h1|h1
  ·exact hX b h1
  ·omega
theorem hd_ia:Qt [] 0 10 5=([(10,5)],0):=by decide
theorem hd_ib:Qt [(10,5)] 2 50 1=([(10,2),(50,1),(12,3)],0):=by decide
theorem Kc {ps:Nat->Addr}(hG:Gl w ps):H K 36 #[.bool true] w fun e w'=>e=G (.bool true)/\aL w w':=by
 have RF:Hid (Gl w ps):=hG;clear hG;go_enter Tryz.func36,Tryz.ntmps36
 go_wp2_with fail
 refine(PX _).mono ?_;rintro e w1 ⟨rfl,rfl⟩;have t0:=DF w;have b0:=aO w (xI O);generalize w.alloc (xI O)=wa at*
 go_wp2_with fail
 refine(Fy t0).mono ?_;rintro e w1 ⟨rfl,t1,g1⟩;rw[hd_ia]at t1 ⊢
 go_wp2_with fail
 refine(Fy t1).mono ?_;rintro e w2 ⟨rfl,t2,g2⟩;simp only at t2 ⊢;rw[hd_ib]at t2 ⊢
 go_wp2_with fail
 refine(DI t2).mono ?_;rintro e w3 ⟨g,rfl,bA,hg,sZ⟩;simp only at bA ⊢
 go_wp2_with fail
 refine(YZ (l:=[(10,2),(50,1),(12,3)]) ((Ec.own bA).below (aO _ _)) (QA w3 #[I V 10,I V 2,I V 50,I V 1,I V 12,I V 3] [(10,2),(50,1),(12,3)] rfl (by simp[maxLen])) rfl rfl (by simp)).mono ?_;rintro e w4 ⟨rfl,nd,hw4⟩;have B2:Below w.heap.size w w2:=(b0.grown g1 (by have:=b0.size;omega) (fun k e=>by cases e;exact Nat.le_refl _)).grown g2 (by have:=b0.size;have:=g1.size;omega) (fun k e=>by cases e;exact Nat.le_refl _);have B3:Below w.heap.size w w3:=⟨sZ.os.trans B2.os,sZ.tape.trans B2.tape,sZ.output.trans B2.output,Nat.le_trans B2.size sZ.size,fun b hb=>(sZ.block b (by have:=B2.size;omega)).trans (B2.block b hb)⟩;have G4:aL w w4:=by rw[hw4];exact aZ (aQ B3 (aO _ _)) nd
 have HI0:Hid (aL w w4/\Gl w4 ps):=⟨G4,RF.out.aN G4⟩;clear hw4 B2 B3 G4 b0 g1 g2 bA sZ hg t0 t1 t2;have HNw:=xnew (w:=w4) (most:=100) (depth:=10) (room:=10000) ⟨by omega,by omega,by omega,by omega,by omega,by omega⟩
 go_upto_region 11 with(go_at_call 33;refine HNw.mono ?_;rintro e w5 ⟨X5,rfl,hq5,hX5,fQ⟩)
 have Am:=HI0.out.1.size;have HI5:Hid (r_ w w5 ps (w4.heap.size+1) GQ):=⟨X5,hq5,HI0.out.2.aN fQ,aQ HI0.out.1 fQ,fun b hb=>by have:=hX5 b hb;omega⟩;generalize w4.heap.size+1=qp at*;clear HNw hq5 hX5 fQ HI0 RF Am;obtain⟨X,hq,KA,QO,hX⟩:=HI5.out;have HO:=qopen hq KA gs0;rw[show(GQ.1,GQ.2.1,GQ.2.2)=GQ from rfl,hd_open]at HO
 go_upto_region 14 with(go_at_call 24;refine HO.mono ?_;rintro e w6 ⟨rfl,XM⟩)
 have HI6:Hid (r_ w w6 ps qp mU):=r_.next hq KA QO hX XM;clear HO hq KA QO hX XM HI5;obtain⟨X,hq,KA,QO,hX⟩:=HI6.out;have HO:=AY (pos:=0) (n:=0) (text:=⟨#[104,101,108,108,111]⟩) hq KA gs1 (by omega) (by decide);rw[show(mU.1,mU.2.1,mU.2.2)=mU from rfl,hd_a]at HO
 go_upto_region 15 with(go_at_call 28;refine HO.mono ?_;rintro e w7 ⟨rfl,XM⟩)
 have HI7:Hid (r_ w w7 ps qp Yw):=r_.next hq KA QO hX XM;clear HO hq KA QO hX XM HI6;obtain⟨X,hq,KA,QO,hX⟩:=HI7.out;have HO:=AY (pos:=5) (n:=0) (text:=⟨#[32,121,111,117]⟩) hq KA gs2 (by omega) (by decide);rw[show(Yw.1,Yw.2.1,Yw.2.2)=Yw from rfl,hd_b]at HO
 go_upto_region 16 with(go_at_call 28;refine HO.mono ?_;rintro e w8 ⟨rfl,XM⟩)
 have HI8:Hid (r_ w w8 ps qp zH):=r_.next hq KA QO hX XM;clear HO hq KA QO hX XM HI7;obtain⟨X,hq,KA,QO,hX⟩:=HI8.out;have HO:=SG (pos:=0) (n:=1) hq KA gs3 (by omega) (by omega);rw[show(zH.1,zH.2.1,zH.2.2)=zH from rfl,hd_c]at HO
 go_upto_region 17 with(go_at_call 44;refine HO.mono ?_;rintro e w9 ⟨rfl,XM⟩)
 have HI9:Hid (r_ w w9 ps qp YN):=r_.next hq KA QO hX XM;clear HO hq KA QO hX XM HI8;obtain⟨X,hq,KA,QO,hX⟩:=HI9.out;have HO:=xread (pos:=0) (n:=8) hq gs4 (by omega);rw[show(YN.1,YN.2.1,YN.2.2)=YN from rfl,hd_r]at HO
 have HQ:Hid (∀W,aL w9 W->H K 25 #[U (M ⟨qp,0,O⟩)] W fun e w'=>e=G (.tuple #[I V 3,I V 0])/\w'=W):=fun W hW=>by
  have q:=xdone (hq.aN hW);rw[hd_d.1,hd_d.2]at q;exact q
 go_upto_region 18 with(go_at_call 39;refine HO.mono ?_;rintro e Ow ⟨rfl,Pb⟩)
 have HD:=HQ.out Ow Pb;clear HO HQ hq KA hX
 go_wp2_with (go_at_call 25;refine HD.mono ?_;rintro e w11 ⟨rfl,h11⟩;obtain rfl:=h11.symm)
 go_ret;exact⟨by simp,aQ QO Pb⟩
end Go.Proofs.YtfplgfodoiiobaaGreatDoor
