/- SwL, SwM, SwN, SwO, SwP, Wit (joined). -/
import Derived.Deep.DeepHandedRow
import Derived.Deep.DeepWitnessRowRef
import Derived.LaidHandle
import Derived.LaidLaws
import Derived.LaidSub
import Derived.Lib.LaidTab
import Derived.OpenShut
import Derived.ProofKit
import Derived.Stop.LaidErr
import Derived.Test.YtfplgfodoiiobaaGreatDoorCards
import Derived.Test.YtfplgfodoiiobaaGreatDoorD50
import Derived.Test.YtfplgfodoiiobaaGreatDoorTie
open Option renaming none→O,some→M
open Go.Value renaming int→I,slice→Z,pointer→U
open Go.IntKind renaming i64→V
open Go.Obj renaming cells→C
open Go.Ending renaming returned→G
open Go renaming World→F,Value→Y,Calls→H
open Go.Proofs.Tryz renaming prog→K
open Go.Proofs.Tryz
namespace Go.Proofs.YtfplgfodoiiobaaGreatDoor
set_option maxHeartbeats 4000000
set_option maxRecDepth 100000
open Go.RowKit
variable {w:F} {B wb c p:Nat} {rs:List iV} {D:Int} {lG vf vm:Y} {hs:List bS} {r:iV} {q a n m k:Int} {s:ByteArray} {fo:Option Addr} {fl fc:Nat}
open Go.ChangeShapes Go.WideShapes Go.ChangeAt Go.RowKit
variable {w W:F}{ps:Nat->Addr}{B wb g c:Nat}{rs:List iV}{D:Int}
def CV:St:=(mY 100 10 10000,[],Az)
def oM:St:=(jG CV).1
def Vz:St:=(iW oM 73 0 0 ⟨#[104,101,108,108,111]⟩).1
def Gg:St:=(iW Vz 73 5 0 ⟨#[32,121,111,117]⟩).1
def NR:St:=(iW Gg 68 0 1 ⟨#[]⟩).1
theorem hd_open:(jG CV).2=0:=by kernel_rfl
theorem hd_a:(iW oM 73 0 0 ⟨#[104,101,108,108,111]⟩).2=0:=by kernel_rfl
theorem hd_b:(iW Vz 73 5 0 ⟨#[32,121,111,117]⟩).2=0:=by kernel_rfl
theorem hd_c:(iW Gg 68 0 1 ⟨#[]⟩).2=0:=by kernel_rfl
theorem hd_r:(rW NR 0 8)=(⟨#[101,108,108,111,32,121,111,117]⟩,0):=by kernel_rfl
theorem hd_d:NR.1.aX=true/\NR.2.2.2.2.2.1=3:=⟨by kernel_rfl,by kernel_rfl⟩
theorem gs0:GS CV 1000100000:=MI ⟨by omega,by omega,by omega,by omega,by omega,by omega⟩
theorem gs1:GS oM 1000100000:=LU gs0 (by omega)
theorem gs2:GS Vz 1000100001:=Jl gs1
theorem gs3:GS Gg 1000100002:=Jl gs2
theorem gs4:GS NR 1000100003:=Jl gs3
def HdI (w W:F)(ps:Nat->Addr)(qp:Nat)(x:St):Prop:=∃X,uI W qp x.1 x.2.1 x.2.2 X/\Gl W ps/\aL w W/\∀b,X b->w.heap.size<=b
theorem HdI.next {W':F}{qp:Nat}{x x':St}{X:Nat->Prop}(hq:uI W qp x.1 x.2.1 x.2.2 X)(hG:Gl W ps)(hg:aL w W)(hX:∀b,X b->w.heap.size<=b)(h:yO W W' qp X x'):HdI w W' ps qp x':=by
 obtain⟨X',hq',hk⟩:=h;have hs:=hg.size;refine⟨X',hq',hG.q hk.1 (fun b hb=>hq.ty hb),⟨hk.2.1.1.trans hg.os,hk.2.1.2.1.trans hg.tape,hk.2.1.2.2.trans hg.output,Aam hg.size hk.1.1,fun b hb=>?_⟩,fun b hb=>?_⟩
 ·rw[hk.1.2 b (by omega) (fun e=>by have:=hX b e;omega)];exact hg.block b hb
 ·rcases hk.2.2 b hb with h1|h1
  ·exact hX b h1
  ·omega
theorem hd_ia:Sm [] 0 10 5=([(10,5)],0):=by decide
theorem hd_ib:Sm [(10,5)] 2 50 1=([(10,2),(50,1),(12,3)],0):=by decide
theorem ER (hG:Gl w ps):H K 36 #[.bool true] w fun e w'=>e=G (.bool true)/\aL w w':=by
 have UO:Hid (Gl w ps):=hG;clear hG;go_enter func36,ntmps36;go_wp2_with fail;refine(TA _).mono ?_;rintro e w1 ⟨rfl,rfl⟩;have t0:=FO w;have b0:=aP w (xU O);generalize w.alloc (xU O)=wa at*;go_wp2_with fail;refine(Ik t0).mono ?_;rintro e w1 ⟨rfl,t1,g1⟩;rw[hd_ia]at t1 ⊢;go_wp2_with fail;refine(Ik t1).mono ?_;rintro e w2 ⟨rfl,t2,g2⟩;simp only at t2 ⊢;rw[hd_ib]at t2 ⊢;go_wp2_with fail;refine(Oy t2).mono ?_;rintro e w3 ⟨g,rfl,bD,hg,uM⟩;simp only at bD ⊢;go_wp2_with fail;refine(pu (l:=[(10,2),(50,1),(12,3)]) ((Da.own bD).below (aP _ _)) (TF w3 #[I V 10,I V 2,I V 50,I V 1,I V 12,I V 3] [(10,2),(50,1),(12,3)] rfl (by simp[maxLen])) rfl rfl (by simp)).mono ?_;rintro e w4 ⟨rfl,nd,hw4⟩;have B2:Below w.heap.size w w2:=(b0.grown g1 (by have:=b0.size;omega) (fun k e=>by cases e;exact Aak _)).grown g2 (by have:=b0.size;have:=g1.size;omega) (fun k e=>by cases e;exact Aak _);have B3:Below w.heap.size w w3:=⟨uM.os.trans B2.os,uM.tape.trans B2.tape,uM.output.trans B2.output,Aam B2.size uM.size,fun b hb=>(uM.block b (by have:=B2.size;omega)).trans (B2.block b hb)⟩;have G4:aL w w4:=by rw[hw4];exact bB (aQ B3 (aP _ _)) nd
 have HI0:Hid (aL w w4/\Gl w4 ps):=⟨G4,UO.out.aN G4⟩;clear hw4 B2 B3 G4 b0 g1 g2 bD uM hg t0 t1 t2;have HNw:=xnew (w:=w4) (most:=100) (depth:=10) (room:=10000) ⟨by omega,by omega,by omega,by omega,by omega,by omega⟩;go_upto_region 11 with(go_at_call 33;refine HNw.mono ?_;rintro e w5 ⟨X5,rfl,hq5,hX5,eO⟩);have qU:=HI0.out.1.size;have HI5:Hid (HdI w w5 ps (w4.heap.size+1) CV):=⟨X5,hq5,HI0.out.2.aN eO,aQ HI0.out.1 eO,fun b hb=>by have:=hX5 b hb;omega⟩;generalize w4.heap.size+1=qp at*;clear HNw hq5 hX5 eO HI0 UO qU;obtain⟨X,hq,MX,UA,hX⟩:=HI5.out;have HO:=qopen hq MX gs0;rw[show(CV.1,CV.2.1,CV.2.2)=CV from rfl,hd_open]at HO;go_upto_region 14 with(go_at_call 24;refine HO.mono ?_;rintro e w6 ⟨rfl,je⟩);have HI6:Hid (HdI w w6 ps qp oM):=HdI.next hq MX UA hX je;clear HO hq MX UA hX je HI5;obtain⟨X,hq,MX,UA,hX⟩:=HI6.out;have HO:=EF (pos:=0) (n:=0) (text:=⟨#[104,101,108,108,111]⟩) hq MX gs1 (by omega) (by decide);rw[show(oM.1,oM.2.1,oM.2.2)=oM from rfl,hd_a]at HO;go_upto_region 15 with(go_at_call 28;refine HO.mono ?_;rintro e w7 ⟨rfl,je⟩);have HI7:Hid (HdI w w7 ps qp Vz):=HdI.next hq MX UA hX je;clear HO hq MX UA hX je HI6;obtain⟨X,hq,MX,UA,hX⟩:=HI7.out;have HO:=EF (pos:=5) (n:=0) (text:=⟨#[32,121,111,117]⟩) hq MX gs2 (by omega) (by decide);rw[show(Vz.1,Vz.2.1,Vz.2.2)=Vz from rfl,hd_b]at HO;go_upto_region 16 with(go_at_call 28;refine HO.mono ?_;rintro e w8 ⟨rfl,je⟩);have HI8:Hid (HdI w w8 ps qp Gg):=HdI.next hq MX UA hX je;clear HO hq MX UA hX je HI7;obtain⟨X,hq,MX,UA,hX⟩:=HI8.out;have HO:=VZ (pos:=0) (n:=1) hq MX gs3 (by omega) (by omega);rw[show(Gg.1,Gg.2.1,Gg.2.2)=Gg from rfl,hd_c]at HO;go_upto_region 17 with(go_at_call 44;refine HO.mono ?_;rintro e w9 ⟨rfl,je⟩);have HI9:Hid (HdI w w9 ps qp NR):=HdI.next hq MX UA hX je;clear HO hq MX UA hX je HI8;obtain⟨X,hq,MX,UA,hX⟩:=HI9.out;have HO:=xread (pos:=0) (n:=8) hq gs4 (by omega);rw[show(NR.1,NR.2.1,NR.2.2)=NR from rfl,hd_r]at HO
 have HQ:Hid (∀W,aL w9 W->H K 25 #[U (M ⟨qp,0,O⟩)] W fun e w'=>e=G (.tuple #[I V 3,I V 0])/\w'=W):=fun W hW=>by
  have q:=xdone (hq.aN hW);rw[hd_d.1,hd_d.2]at q;exact q
 go_upto_region 18 with(go_at_call 39;refine HO.mono ?_;rintro e Od ⟨rfl,Qr⟩);have HD:=HQ.out Od Qr;clear HO HQ hq MX hX;go_wp2_with (go_at_call 25;refine HD.mono ?_;rintro e mg ⟨rfl,h11⟩;obtain rfl:=h11.symm);go_ret;exact⟨by simp,aQ UA Qr⟩
theorem ss_form {p:Nat}{lG:Y}{r:iV}(h:w.ownsRow B 121 1 lG rs.length (rs.map (fun r:iV=>Value.pointer (M ⟨r.sb,0,O⟩))))(hr:rs[p]?=M r):∃g cap,lG=Z (M ⟨g,0,O⟩) rs.length cap/\w.cell? ⟨g,p,O⟩=M (U (M ⟨r.sb,0,O⟩)):=by
 have hl:=(Aae.1 hr).1;have h':=h;rcases h.2 with⟨-,h0⟩|⟨g,cap,aS,rfl,-⟩
 ·omega
 ·refine⟨g,cap,rfl,?_⟩;rw[AbD h' p (by omega),Abk,hr];rfl
theorem oV.early {w0 w':F}(hB:B<=w.heap.size)(hg:aL w w0)(h:oV w0 w' B wb rs c D):oV w w' B wb rs c D:=by
 obtain⟨hb,h2⟩:=h;exact⟨⟨hb.os.trans hg.os,hb.tape.trans hg.tape,hb.output.trans hg.output,Aam hg.size hb.size,fun b bP=>(hb.block b bP).trans (hg.block b (by omega))⟩,h2⟩
theorem SI (h:jQ w B wb rs c D lG vf vm hs)(hl:rs.length<=2000000)(hq:q=11\/12<=q/\rs.length=0):
 H K 37 #[U (M ⟨wb,0,O⟩),.agg #[I V q,I V a,I V n,I V m,I V k,.string s,Z fo fl fc]] w fun e w'=>e=G (.bool true)/\oV w w' B wb rs c D:=by
 obtain⟨w0,lH⟩:∃w0,w0=w.alloc (iN q a n m k s fo fl fc):=⟨_,rfl⟩;have G0:aL w w0:=by rw[lH];exact(aL.refl w).alloc _
 have gK:w0.heap[w.heap.size]?=M (iN q a n m k s fo fl fc):=by rw[lH];exact Aaf w _
 obtain⟨s0,s1,s2,s3,s4,s5,s6⟩:=gX gK;unfold iN at lH;rcases hq with rfl|⟨hq,hz⟩
 ·have HM:Hid (H K 66 #[U (M ⟨wb,0,O⟩),.agg #[I V 11,I V a,I V n,I V m,I V k,.string s,Z fo fl fc]] w0 fun e w'=>e=G (.bool true)/\oV w w' B wb rs c D):=by
   have hB:=h.lt;by_cases hn:Cc n m k
   ·refine(made_yes (h.aN G0) hl hn).mono ?_;rintro e w' ⟨rfl,h2⟩;exact⟨rfl,h2.early (by omega) G0⟩
   ·refine(made_no hn).mono ?_;rintro e w' ⟨rfl,h2⟩;exact⟨rfl,oV.aN h (aQ G0 h2)⟩
  clear gK G0 h;go_enter func37,ntmps37;go_upto_region 1 with fail;rw[<-lH];clear lH;generalize w.heap.size=ob at*;go_wp2_with (go_at_call 66;refine HM.out.mono ?_;rintro e w5 ⟨rfl,hd⟩);go_ret;exact⟨rfl,hd⟩
 ·have HE:Hid (oV w w0 B wb rs c D):=oV.aN h G0;obtain⟨-,c1,-⟩:=gW (h.aN G0).zY
  obtain⟨x8,c8,rfl⟩:∃x8 c8,lG=Z x8 0 c8:=by
   rcases h.ss.2 with⟨h',h0⟩|⟨g,nH,aS,hv,-⟩
   ·exact⟨O,0,h'⟩
   ·exact⟨_,_,by rw[hv,hz]⟩
  have q1:(q==1)=false:=by simp;omega
  have q2:(q==11)=false:=by simp;omega
  have q3:¬q<=7:=by omega
  clear gK G0 h;go_enter func37,ntmps37;go_upto_region 1 with fail;rw[<-lH];clear lH;generalize w.heap.size=ob at*;go_wp2_with fail;go_ret;exact⟨rfl,HE.out⟩
theorem step_all (h:jQ w B wb rs c D lG vf vm hs)(hr:rs[p]?=M r)(WJ:∀w:F,H K 68 #[I V a,I V (rs.length:Int)] w fun e w'=>e=G (I V (p:Int))/\w'=w)(h1:12<=q)(h2:q<=26)(hE:14<=q->q<=17->rO w B wb rs c D 69 #[U (M ⟨r.sb,0,O⟩),.agg #[I V q,I V a,I V n,I V m,I V k,.string s,Z fo fl fc]])(hT:18<=q->q<=20->rO w B wb rs c D 70 #[U (M ⟨r.sb,0,O⟩),.agg #[I V q,I V a,I V n,I V m,I V k,.string s,Z fo fl fc]])(hI:q=22->rO w B wb rs c D 71 #[U (M ⟨wb,0,O⟩),U (M ⟨r.sb,0,O⟩)])(hL:q=23->rO w B wb rs c D 72 #[U (M ⟨r.sb,0,O⟩),Z fo fl fc])(hK:q<14\/q=21\/23<q->rO w B wb rs c D 73 #[U (M ⟨r.sb,0,O⟩),.agg #[I V q,I V a,I V n,I V m,I V k,.string s,Z fo fl fc]]):
 H K 37 #[U (M ⟨wb,0,O⟩),.agg #[I V q,I V a,I V n,I V m,I V k,.string s,Z fo fl fc]] w fun e w'=>e=G (.bool true)/\oV w w' B wb rs c D:=by
 obtain⟨w0,lH⟩:∃w0,w0=w.alloc (iN q a n m k s fo fl fc):=⟨_,rfl⟩;have G0:aL w w0:=by rw[lH];exact(aL.refl w).alloc _
 have gK:w0.heap[w.heap.size]?=M (iN q a n m k s fo fl fc):=by rw[lH];exact Aaf w _
 obtain⟨s0,s1,s2,s3,s4,s5,s6⟩:=gX gK;have h0:=h.aN G0;obtain⟨g,cap,ev,hcp⟩:=ss_form h0.ss hr;obtain⟨-,c1,-⟩:=gW h0.zY;rw[ev]at c1;have Wt:=(Aae.1 hr).1;have i1:(0:Int)<=(p:Int):=by omega
 have i2:(p:Int)<(rs.length:Int):=by omega
 have i3:¬(rs.length:Int)=0:=by omega
 have i4:((rs.length:Int)==0)=false:=by rw[Aat];exact i3
 have HG:Hid (aL w w0):=G0;have HE:Hid _:=hE;have HT:Hid _:=hT;have HI:Hid _:=hI;have HL:Hid _:=hL;have HK:Hid _:=hK;have hq:q=12\/q=13\/q=14\/q=15\/q=16\/q=17\/q=18\/q=19\/q=20\/q=21\/q=22\/q=23\/q=24\/q=25\/q=26:=by omega
 unfold iN at lH;clear gK G0 h h0 hr ev h1 h2 hE hT hI hL hK;generalize rs.length=L at WJ i2 i3 i4 c1;rcases hq with rfl|rfl|rfl|rfl|rfl|rfl|rfl|rfl|rfl|rfl|rfl|rfl|rfl|rfl|rfl
 all_goals
  go_enter func37,ntmps37;go_upto_region 1 with fail;rw[<-lH];clear lH;generalize w.heap.size=ob at*;go_upto_region 13 with fail;go_quiet (first|(go_at_call 68;exact AbQ (WJ _)));go_wp2_with (first|(go_at_call 69;refine(HE.out (by decide) (by decide) _ (bB HG.out _)).mono ?_;rintro e w5 ⟨rfl,hd⟩)|(go_at_call 70;refine(HT.out (by decide) (by decide) _ (bB HG.out _)).mono ?_;rintro e w5 ⟨rfl,hd⟩)|(go_at_call 71;refine(HI.out rfl _ (bB HG.out _)).mono ?_;rintro e w5 ⟨rfl,hd⟩)|(go_at_call 72;refine(HL.out rfl _ (bB HG.out _)).mono ?_;rintro e w5 ⟨rfl,hd⟩)|(go_at_call 73;refine(HK.out (by decide) _ (bB HG.out _)).mono ?_;rintro e w5 ⟨rfl,hd⟩));go_ret;exact⟨rfl,hd⟩
def WK (w:F)(b o:Nat)(q a n m k:Int)(s:ByteArray)(fo:Option Addr)(fl fc:Nat)(l:List AF):Prop:=
 i64 q/\i64 a/\i64 n/\i64 m/\i64 k/\s.size<=140737488355328/\vP w w.heap.size fo fl fc l/\w.cell? ⟨b,o,O⟩=M (I V q)/\w.cell? ⟨b,o+1,O⟩=M (I V a)/\w.cell? ⟨b,o+2,O⟩=M (I V n)/\w.cell? ⟨b,o+3,O⟩=M (I V m)
  /\w.cell? ⟨b,o+4,O⟩=M (I V k)/\w.cell? ⟨b,o+5,O⟩=M (.string s)/\w.cell? ⟨b,o+6,O⟩=M (Z fo fl fc)
def RdSS (w:F)(ao:Option Addr)(len:Nat):Prop:=len=0\/∃b off,ao=M ⟨b,off,O⟩/\∀i,i<len->∃q a n m k s fo fl fc l,WK w b (off+i*7) q a n m k s fo fl fc l
theorem vP.aN {fo:Option Addr}{fl fc:Nat}{l:List AF}(h:vP w B fo fl fc l)(hg:aL w W):vP W B fo fl fc l:=⟨h.rd.aN hg,h.len,h.nil,h.zY,h.few,h.sz,h.num⟩
theorem MZ {lG vf vm:Y}{hs:List bS}{q a n m k:Int}{s:ByteArray}{fo:Option Addr}{fl fc:Nat}{l:List AF}(h:jQ w B wb rs c D lG vf vm hs)(hG:Gl w ps)(hc:c<=2000000)(hl:rs.length<=2000000)(hD:1000100000<=D)(vY:D<=1999999999)(hq:11<=q)(xL:q<=26)(ha:i64 a)(hn:i64 n)(hm:i64 m)(hk:i64 k)(jW:s.size<=140737488355328)(hf:vP w B fo fl fc l):
 H K 37 #[U (M ⟨wb,0,O⟩),.agg #[I V q,I V a,I V n,I V m,I V k,.string s,Z fo fl fc]] w fun e w'=>e=G (.bool true)/\oV w w' B wb rs c D:=by
 by_cases hz:q=11\/12<=q/\rs.length=0
 ·exact SI h hl hz
 obtain⟨p,hp,WJ⟩:=gu (c:=a) (n:=(rs.length:Int)) ha.1 ha.2 (by omega) (by omega);obtain⟨r,hr⟩:∃r,rs[p]?=M r:=⟨_,Aag (by omega)⟩;refine step_all h hr WJ (by omega) xL (fun e1 e2=>?_) (fun e1 e2=>SG h hr hm (by omega)) (fun e=>SH h hr hc) (fun e=>jc h hr hf) (fun e=>?_)
 ·rcases(by omega:q=14\/q=15\/q=16\/q=17)with rfl|rfl|rfl|rfl
  ·exact kind_ins h hr hG vY hn jW
  ·exact kind_del h hr hG vY hn hm
  ·exact iw h hr hG vY
  ·exact iy h hr hG vY
 ·rcases(by omega:q=12\/q=13\/q=21\/q=24\/q=25\/q=26)with rfl|rfl|rfl|rfl|rfl|rfl
  ·exact ja h hr hG hD
  ·exact SE h hr
  ·exact jb h hr hG
  ·exact SF h hr hn hm hk
  ·exact MW h hr hn
  ·exact jd h hr hG vY
def UpS (w wr:F)(wb i:Nat):Prop:=aL w wr/\∃rs c lG vf vm hs,jQ wr w.heap.size wb rs c (1000100000+(i:Int)) lG vf vm hs/\rs.length<=i/\c<=i
theorem jQ.start {wa:F}(hb:aL w wa):jQ (wa.alloc (jP (Z O 0 0) 0 (Z O 0 0) (Z O 0 0))) w.heap.size wa.heap.size [] 0 D (Z O 0 0) (Z O 0 0) (Z O 0 0) []:=
 ⟨Aaf wa _,hb.size,AaI _ _ _ _,(fun r hr=>by cases hr),(fun r hr=>by cases hr),List.Pairwise.nil,AaI _ _ _ _,rfl,(fun i x e=>by simp at e),AaI _ _ _ _⟩
theorem UpS.next {wr w1 w2:F}{i:Nat}(h1:aL w wr)(hr:rs.length<=i)(hc:c<=i)(hD:oV wr w1 w.heap.size wb rs c (1000100000+(i:Int)))(hg:aL w1 w2):UpS w w2 wb (i+1):=by
 obtain⟨b1,dP,c',lG,vf,vm,hs,hI,e1,e2⟩:=hD;have sV:=hI.lt;refine⟨⟨hg.os.trans (b1.os.trans h1.os),hg.tape.trans (b1.tape.trans h1.tape),hg.output.trans (b1.output.trans h1.output),Aam h1.size (Aam b1.size hg.size),fun b hb=>(hg.block b (by omega)).trans ((b1.block b hb).trans (h1.block b hb))⟩,dP,c',lG,vf,vm,hs,(hI.aN hg).more (by omega),by omega,by omega⟩
theorem UpS.skip {wr:F}{i:Nat}(h:UpS w wr wb i):UpS w wr wb (i+1):=by
 obtain⟨h1,rs,c,lG,vf,vm,hs,hI,e1,e2⟩:=h;exact⟨h1,rs,c,lG,vf,vm,hs,hI.more (by omega),by omega,by omega⟩
theorem upto_any {tp:Int}{ao:Option Addr}{len cap:Nat}(k1:11<=tp)(k2:tp<=26)(hr:RdSS w ao len)(hlen:len<=1048576)(hG:Gl w ps):
 H K 14 #[Z ao len cap,I V 11,I V tp] w fun e w'=>e=G (I V (-1))/\Below w.heap.size w w':=by
 have HR:Hid (RdSS w ao len):=hr;have HGl:Hid (Gl w ps):=hG;have hhd:=ER hG;clear hr hG;go_enter func14,ntmps14;go_wp2_with fail;refine hhd.mono ?_;rintro e wa ⟨rfl,ba⟩;have HU0:Hid (UpS w (wa.alloc (jP (Z O 0 0) 0 (Z O 0 0) (Z O 0 0))) wa.heap.size 0):=⟨aQ ba (aP wa _),[],0,_,_,_,[],jQ.start ba,by simp,by omega⟩;clear hhd ba;go_wp2_with fail
 go_loopw [9] (fun x wr=> ∃i:Nat,i<=len/\x=I V (i:Int)/\Hid (UpS w wr wa.heap.size i)) (fun x _=>len-(intOf x).toNat)
 case atStart=>exact⟨0,Aap _,rfl,HU0⟩
 case round=>
  clear HU0;obtain⟨i,hi,rfl,HU⟩:=hrel;by_cases bP:i<len
  ·obtain⟨b,off,rfl,q,a,n,m,k,s,fo,fl,fc,l,gK⟩:∃b off,ao=M ⟨b,off,O⟩/\∃q a n m k s fo fl fc l,WK w b (off+i*7) q a n m k s fo fl fc l:=by
    rcases HR.out with h|⟨b,off,h1,h2⟩
    ·omega
    ·exact⟨b,off,h1,h2 i bP⟩
   obtain⟨iq,ia,inn,im,ik,isz,iF,z0,z1,z2,z3,z4,z5,z6⟩:=gK;have hB:=HU.out.1;have y0:=hB.cell z0;have y1:=hB.cell z1;have y2:=hB.cell z2;have y3:=hB.cell z3;have y4:=hB.cell z4;have y5:=hB.cell z5;have y6:=hB.cell z6;have i1:(0:Int)<=(i:Int):=(by omega);have i2:(i:Int)<(len:Int):=(by omega);have HF:Hid (vP w w.heap.size fo fl fc l/\(i64 a/\i64 n/\i64 m/\i64 k)/\s.size<=140737488355328):=⟨iF,⟨ia,inn,im,ik⟩,isz⟩;clear z0 z1 z2 z3 z4 z5 z6 iF isz hB iq ia inn im ik;by_cases hq:q<11
   ·go_wp2_with fail;go_roundw
    case rel=>exact⟨i+1,by omega,by go_num,HU.out.skip⟩
    case measure=>simp[intOf];omega
   ·by_cases xL:tp<q
    ·go_wp2_with fail;go_roundw
     case rel=>exact⟨i+1,by omega,by go_num,HU.out.skip⟩
     case measure=>simp[intOf];omega
    ·obtain⟨hB,rs,c,lG,vf,vm,hs,hI,e1,e2⟩:=HU.out;have HS:=MZ (q:=q) (a:=a) (n:=n) (m:=m) (k:=k) (s:=s) (fo:=fo) (fl:=fl) (fc:=fc) (l:=l) hI (HGl.out.aN hB) (by omega) (by omega) (by omega) (by omega) (by omega) (by omega) HF.out.2.1.1 HF.out.2.1.2.1 HF.out.2.1.2.2.1 HF.out.2.1.2.2.2 HF.out.2.2 (HF.out.1.aN hB);have HB:Hid (aL w wr):=hB;clear hI hB HF;go_wp2_with fail;refine HS.mono ?_;rintro e w1 ⟨rfl,hD⟩;obtain⟨b1,dP,c',vss',vf',Ye,Si,hI',f1,f2⟩:=id hD;have HT:=MO hI'.zY hI'.fs hI'.len hI'.held hI'.ms (by omega)
     have HD:Hid (oV wr w1 w.heap.size wa.heap.size rs c (1000100000+(i:Int))):=hD;clear HS hI' b1 hD;go_wp2_with fail;refine HT.mono ?_;rintro e w2 ⟨rfl,hg⟩;have hN:=UpS.next HB.out e1 e2 HD.out hg;go_wp2_with fail;go_roundw
     case rel=>exact⟨i+1,by omega,by go_num,hN⟩
     case measure=>simp[intOf];omega
  ·go_wp2_with fail;go_ret;exact⟨rfl,HU.out.1⟩
theorem NA {ao:Option Addr}{len cap:Nat}(hr:RdSS w ao len)(hlen:len<=1048576)(hG:Gl w ps):
 H K 13 #[Z ao len cap] w fun e w'=>e=G (.bool true)/\Below w.heap.size w w':=by
 go_enter func13,ntmps13;go_wp2_with fail;refine(upto_any (by decide) (by decide) hr hlen hG).mono ?_;rintro e w1 ⟨rfl,hb⟩;go_wp2_with fail;go_ret;exact⟨rfl,hb⟩
end Go.Proofs.YtfplgfodoiiobaaGreatDoor
