/- WkB, WkC, SwK (joined). -/
import Derived.Test.YtfplgfodoiiobaaGreatDoorD48
import Derived.Test.YtfplgfodoiiobaaGreatDoorD49
open Option renaming none→O,some→M
open Go.Value renaming int→I,slice→Z,pointer→U
open Go.IntKind renaming i64→V
open Go.Ending renaming returned→G
open Go renaming World→F,Value→Y,Calls→H
open Go.Proofs.Tryz renaming prog→K
open Go.Proofs.Tryz
namespace Go.Proofs.YtfplgfodoiiobaaGreatDoor
set_option maxHeartbeats 4000000
set_option maxRecDepth 100000
open Go.RowKit
variable {s:Sc}{fs:List bC}{w:F}{m:dD}{D:Int}{xb:Nat}{f:bS}
def ckA (x:St):ByteArray:=⟨(Qc (x.1.aY+1) x.2.2).toArray⟩
theorem WG (ho:s.aX=true)(hr:s.ro=false)(he:¬999<=s.aY):iH (s,fs,m)=let r:=kK s.aY (ckA (s,fs,m)) 5 0 s fs;((if r.1=0 then { r.2.1 with aY:=s.aY+1 } else r.2.1,r.2.2,m),r.1):=by
 unfold iH ckA;simp only;rw[Aaa (by rw[ho];simp),Aaa (by rw[hr];simp),Aaa he]
theorem AY {B:ByteArray}(h:∀f∈fs,f.1≠3):mP fs 3 B=(3,B,0):=by unfold mP;rw[Fg h]
theorem AZ {s':Sc}{dU:List bC}{n:Int}{f:bC}(hI:fM s.room fs)(hf:fQ fs n=M f)(e:bY s fs n=(true,s',dU))(hc:iL s):dU=iO fs (n,f.2.1,(f.2.1.size:Int)):=by
 unfold bY at e;cases hp:qX fs n with
 |none=>rw[(Tj fs n).1 hp]at hf;cases hf
 |some i=>
  rw[hp]at e;simp only at e;have hb:aO fs n=f.2.1:=by rw[eX,hf];rfl
  rcases mQ hc hI with⟨s1,e1,-⟩|⟨s1,jX,e1,-⟩
  ·rw[e1]at e;simp only[if_true,Adq,true_and]at e;rw[<-e.2,TR hI.sort hp,hb]
  ·rw[e1]at e;simp at e
theorem ig (h:vB fs){b:ByteArray}{k:Int}(hb:b.size≠0):pQ fs (2,b,k) 3=iO (iT fs 3) (2,b,k):=by
 have h1:pQ fs (2,b,k) 3=pQ (iT fs 3) (2,b,k) 3:=by
  unfold pQ iT;rw[List.filter_filter];congr 2;refine Adk (fun g _=>?_);unfold pI;by_cases e:g.1=3<;>simp[e]
 rw[h1];refine yY ⟨h.1.sublist (Aby),fun g hg=>h.2 g (Abi.1 hg).1⟩ hb (fun g hg e=>?_);have:=(Abi.1 hg).2;simp[e]at this
theorem ck_cells {r:fC}(h:w.heap[xb]?=M (bO s f r)):∀W,aL w W->W.cell? ⟨xb,12,O⟩=M (I V s.aY)/\W.cell? ⟨xb,13,O⟩=M r.1.v/\W.cell? ⟨xb,14,O⟩=M r.2.1.v/\W.cell? ⟨xb,15,O⟩=M r.2.2.1.v/\W.cell? ⟨xb,16,O⟩=M (I V r.2.2.2.1)/\aL w W:=fun W hW=>by
 have h':=(hW.block _ (aM h)).trans h;refine⟨?_,?_,?_,?_,?_,hW⟩<;>simp[World.cell?,h',bO]
theorem ckB_sum (ep dn bf:Int)(m:dD)(h1:m.2.2.2.1=dn)(h2:m.2.2.2.2=bf):(⟨#[75]⟩:ByteArray)++strOfNums (gV ep)++strOfNums (gV dn)++strOfNums (gV bf)++⟨(lI m.1).toArray⟩++⟨(oD m.2.1).toArray⟩++⟨(oD m.2.2.1).toArray⟩=⟨(NS ep m).toArray⟩:=by
 rw[EP,EP,EP,show(⟨#[75]⟩:ByteArray)=⟨([75]:List UInt8).toArray⟩ from rfl];simp only[qE];rw[<-h1,<-h2];simp[NS,QY]
theorem ckS_sum (ep:Int)(m:dD):(⟨(NS ep m).toArray⟩:ByteArray)++strOfNums (gV (kD (NS ep m)))=⟨(Qc ep m).toArray⟩:=by rw[EP,qE];rfl
theorem good_eds {depth:Nat}(h:eD m depth):okEs m.2.1/\okEs m.2.2.1:=⟨fun e he=>(Eh h).2 e (Aac he),fun e he=>(Eh h).2 e (Aab he)⟩
theorem MU {l:List Ed}(h:okEs l)(hl:l.length<=100):(oD l).length<=20000004:=by
 have:=Oq h l.length;have e:Co l l.length=oD l:=by unfold Co oD;rw[Acl]
 rw[e]at this;omega
theorem ck_open {r:fC}{P:Prop}(h:w.heap[xb]?=M (bO s f r))(k:w.cell? ⟨xb,12,O⟩=M (I V s.aY)->(∀j,w.frozen? ⟨xb,j,O⟩=false)->P):P:=k (by simp[World.cell?,h,bO]) (fun j=>by simp[World.frozen?,h,bO])
theorem cut_ep {n:Int}(hc:iL s)(hI:fM s.room fs):(bJ s fs n 0).2.1.aY=s.aY:=by
 rcases Qz hc hI n (AaZ 0)with⟨-,e⟩|⟨-,s',e,hd,-⟩|⟨-,s',dU,e,hd⟩
 ·rw[e]
 ·rw[e];exact hd.1.2.2.2
 ·rw[e];exact hd.1.2.2.2
def EcOk (w:F)(x:bS)(S:ByteArray):Prop:=∀W,aL w W->H K 173 #[Z x.1 x.2.1 x.2.2] W fun e w'=>e=G (.string S)/\aL W w'
theorem ec_use {W:F}{a:Option Addr}{n c:Nat}{S:ByteArray}(h:EcOk w (a,n,c) S)(hW:aL w W):H K 173 #[Z a n c] W fun e w'=>e=G (.string S)/\aL W w':=h W hW
theorem ckpt_ref (h:bM w xb s fs m f)(hG:GS (s,fs,m) D)(hD:D<=4000000000):
 H K 117 #[U (M ⟨xb,0,O⟩)] w fun e w'=>e=G (I V (iH (s,fs,m)).2)/\After w w' xb (iH (s,fs,m)).1.1 (iH (s,fs,m)).1.2.1 m f:=by
 have HS:Hid (bM w xb s fs m f):=h;have hlen:=hG.bk.len;have hc:=hG.bk.cK;have hI:=hG.bk.inv;simp only at hlen hc hI;have gK:=Fq (n:=1) h (by omega) hc hI;obtain⟨r,hx,-,-⟩:=h;obtain⟨xO,Ws,c12,-⟩:=fI hx;clear hx;by_cases e1:s.aX=false
 ·have HE:Hid (iH (s,fs,m)=((s,fs,m),3)):=by show _=_;unfold iH;rw[Aad e1]
  rw[e1]at xO;clear gK hG hlen hc hI;go_enter func117,ntmps117;go_wp2_with fail;go_ret;rw[HE.out];exact⟨rfl,f,HS.out,kH.refl _ _ _⟩
 have rV:s.aX=true:=by simpa using e1
 rw[rV]at xO;by_cases e2:s.ro=true
 ·have HE:Hid (iH (s,fs,m)=((s,fs,m),4)):=by show _=_;unfold iH;rw[Aaa e1,Aad e2]
  rw[e2]at Ws;clear gK hG hlen hc hI;go_enter func117,ntmps117;go_wp2_with fail;go_ret;rw[HE.out];exact⟨rfl,f,HS.out,kH.refl _ _ _⟩
 have Di:s.ro=false:=by simpa using e2
 rw[Di]at Ws;by_cases e3:999<=s.aY
 ·have HE:Hid (iH (s,fs,m)=((s,fs,m),12)):=by show _=_;unfold iH;rw[Aaa e1,Aaa e2,Aad e3]
  have e4:s.aY=999:=by have:=hc.rE;omega
  rw[e4]at c12;clear gK hG hlen hc hI;go_enter func117,ntmps117;go_wp2_with fail;go_ret;rw[HE.out];exact⟨rfl,f,HS.out,kH.refl _ _ _⟩
 have WH:Hid _:=WG (fs:=fs) (m:=m) rV Di e3;have e4:(s.aY==999)=false:=by rw[Aat];omega
 have e5:¬s.aY=999:=by omega
 have HG:Hid (GS (s,fs,m) D):=hG;have HI:Hid (fM s.room fs):=hI;have HC:Hid (iL s):=hc;rcases qI hc hI 1 with⟨s1,jX,ef,hd,vk,hl1,Gy⟩|⟨s1,jX,ef,hd⟩
 ·have hep1:s1.aY=s.aY:=hd.1.2.2.2;have Ef:=hG.Cs rV;have hbw:=hG.EA rV Di;have tX:=hG.done rV;simp only at Ef hbw tX;have hby1:aO jX 1=aO fs 1:=Bo Gy 1;have hlI1:jX.length<=50:=by omega
  have YK:iL s1:=hd.2.2.2;have hIr:fM s1.room jX:=vk.room hd.1.2.2.1;have nM:=gD hI 1;have hrm:=hc.kI;have Sl:=Ef.done;have yD:=hc.nX;have N_:=hc.wX;have hdp0:=hc.yI;have Il:=Ef.Wq;have Gz:=Ef.IB;have hfw:=Ef.few;obtain⟨Ct,EX⟩:=good_eds Ef;have NJ:=(Eh Ef).1;have hu50:m.2.1.length<=100:=by omega
  have hv50:m.2.2.1.length<=100:=by omega
  have l1:=MU Ct hu50;have l2:=MU EX hv50;have l3:=vM m.1;rw[ef]at gK;simp only at gK;have HB:Hid (∀dn,dn=m.2.2.2.1->(⟨#[75]⟩:ByteArray)++strOfNums (gV (s.aY+1))++strOfNums (gV dn)++strOfNums (gV ((aO fs 1).size:Int))++⟨(lI m.1).toArray⟩++⟨(oD m.2.1).toArray⟩++⟨(oD m.2.2.1).toArray⟩=⟨(NS (s.aY+1) m).toArray⟩):=fun dn e=>ckB_sum _ _ _ m e.symm hbw
  have HN3:Hid (∀g∈jX,g.1≠3):=fun g hg e=>by
   have:=Vi Gy (hG.nam rV) g hg;simp only at this;omega
  have d1:pJ 50 s1 jX:=by
   have:=hG.bk.dok.flush 1;simp only at this;rw[ef]at this;exact this
  clear hG Ef Il Gz hI hc hd Gy hl1 vk;go_enter func117,ntmps117;go_upto_region 10 with(go_at_call 170;refine gK.mono ?_;clear gK;rintro e w1 ⟨rfl,f1,uT,yN⟩);have HS1:Hid (bM w1 xb s1 jX m f1):=uT;have HD1:Hid (kH w w1 xb f f1):=yN
  have HLn:Hid (∀W,aL w1 W->H K 161 #[U (M ⟨xb,0,O⟩),I V 1] W fun e w'=>e=G (I V ((aO fs 1).size:Int))/\w'=W):=fun W hW=>by
   obtain⟨r9,He,UC,-⟩:=HS1.out.aN hW;have:=Ai (n:=1) He UC (by omega);rw[hby1]at this;exact this
  obtain⟨⟨⟨ta,tn,tc⟩,⟨ua,un,uc⟩,⟨va,vn,vc⟩,dn,bf⟩,oM,-,q1,q2,q3,q4,-⟩:=uT;have hCl:=ck_cells oM;simp only[bS.v]at hCl;rw[hep1]at hCl;have HK:Hid _:=hCl;have htn:tn=m.1.length:=q1.2.1;subst htn;have hT:PcOk w1 ta m.1.length tc ⟨(lI m.1).toArray⟩:=fun W hW=>EQ (q1.1.1.below hW) NJ (by omega);have hU:EcOk w1 (ua,un,uc) ⟨(oD m.2.1).toArray⟩:=fun W hW=>WE (x:=(ua,un,uc)) (q2.aN hW) Ct hu50;have hV:EcOk w1 (va,vn,vc) ⟨(oD m.2.2.1).toArray⟩:=fun W hW=>WE (x:=(va,vn,vc)) (q3.aN hW) EX hv50;have BZ:Hid _:=HB.out dn q4;have hdn1:0<=dn:=by simp only at q4;omega
  have hdn2:dn<4294967296:=by simp only at q4;omega
  have s4:∀x,(strOfNums (gV x)).size=4:=fun x=>rfl;have hPs:(⟨(lI m.1).toArray⟩:ByteArray).size<=40000:=by rw[Vq];omega
  have hUs:(⟨(oD m.2.1).toArray⟩:ByteArray).size<=20000004:=l1;have hVs:(⟨(oD m.2.2.1).toArray⟩:ByteArray).size<=20000004:=l2;clear q1 q2 q3 q4 oM hCl Ct EX NJ l1 l2 l3 HB xO Ws c12;generalize (⟨(lI m.1).toArray⟩:ByteArray)=P at*;generalize (⟨(oD m.2.1).toArray⟩:ByteArray)=aH at*;generalize (⟨(oD m.2.2.1).toArray⟩:ByteArray)=aI at*;generalize m.1.length=tn at*;have hsz1:(0:Int)<=((aO fs 1).size:Int):=by omega
  have hsz2:((aO fs 1).size:Int)<4294967296:=by omega
  generalize ((aO fs 1).size:Int)=sz1 at*;have a1:∀w:F,(Op.stringOp .add ⟨#[75]⟩ (strOfNums (gV (s.aY+1)))).run K w= .ok (.string (⟨#[75]⟩++strOfNums (gV (s.aY+1)))) w:=fun w=>AaT w _ _ (by rw[s4];decide)
  have a2:∀w:F,(Op.stringOp .add (⟨#[75]⟩++strOfNums (gV (s.aY+1))) (strOfNums (gV dn))).run K w= .ok (.string (⟨#[75]⟩++strOfNums (gV (s.aY+1))++strOfNums (gV dn))) w:=fun w=>AaT w _ _ (by rw[dF,s4,s4];decide);have a3:∀w:F,(Op.stringOp .add (⟨#[75]⟩++strOfNums (gV (s.aY+1))++strOfNums (gV dn)) (strOfNums (gV sz1))).run K w= .ok (.string (⟨#[75]⟩++strOfNums (gV (s.aY+1))++strOfNums (gV dn)++strOfNums (gV sz1))) w:=fun w=>AaT w _ _ (by rw[dF,dF,s4,s4,s4];decide);obtain⟨A0,hA0⟩:∃A0,A0=(⟨#[75]⟩:ByteArray)++strOfNums (gV (s.aY+1))++strOfNums (gV dn)++strOfNums (gV sz1):=⟨_,rfl⟩;have hA0s:A0.size=13:=by rw[hA0,dF,dF,dF,s4,s4,s4];rfl
  have a4:∀w:F,(Op.stringOp .add A0 P).run K w= .ok (.string (A0++P)) w:=fun w=>AaT w _ _ (by omega);have a5:∀w:F,(Op.stringOp .add (A0++P) aH).run K w= .ok (.string (A0++P++aH)) w:=fun w=>AaT w _ _ (by rw[dF];omega);have a6:∀w:F,(Op.stringOp .add (A0++P++aH) aI).run K w= .ok (.string (A0++P++aH++aI)) w:=fun w=>AaT w _ _ (by rw[dF,dF];omega);have hAll:(A0++P++aH++aI).size<=100000000:=by rw[dF,dF,dF];omega
  rw[<-hA0]at a3;rw[<-hA0]at BZ;have HAl:Hid ((A0++P++aH++aI).size<=100000000):=hAll;clear hA0 hA0s hPs hUs hVs s4 hAll;have HWp:Hid (IntKind.i64.wrap (s.aY+1)=s.aY+1):=by show _=_;rw[AaE];omega
  have gr:=aL.refl w1;refine Eu (fun w'=>w'.cell? ⟨xb,12,O⟩=M (I V s.aY)/\w'.cell? ⟨xb,13,O⟩=M (Z ta tn tc)/\w'.cell? ⟨xb,14,O⟩=M (Z ua un uc)/\w'.cell? ⟨xb,15,O⟩=M (Z va vn vc)/\w'.cell? ⟨xb,16,O⟩=M (I V dn)/\aL w1 w') (by kernel_rfl) (by kernel_rfl) (HK.out _ gr.drew) ?_
  repeat (refine⟨?_,⟨by rfl,fun w' hS=>?_⟩,?_⟩;rotate_left;(focus (obtain⟨y0,y1,y2,y3,y4,y5⟩:=hS;go_simp;(try rw[HWp.out]);first|(refine⟨?_,y0,y1,y2,y3,y4,y5⟩;rfl)|(refine(nQ (by omega) (by omega)).mono ?_;rintro e w5 ⟨rfl,nJ⟩;refine⟨?_,HK.out _ (y5.more nJ)⟩;rfl)|(refine(HLn.out _ y5).mono ?_;rintro e w5 ⟨rfl,rfl⟩;refine⟨?_,y0,y1,y2,y3,y4,y5⟩;rfl)|(refine(pc_use (by with_reducible assumption) y5).mono ?_;rintro e w5 ⟨rfl,nJ⟩;refine⟨?_,HK.out _ (y5.then nJ)⟩;rfl)|(refine(ec_use (by with_reducible assumption) y5).mono ?_;rintro e w5 ⟨rfl,nJ⟩;refine⟨?_,HK.out _ (y5.then nJ)⟩;rfl)));simp only[Act.put,Aal,Aas,Aar])
  refine MP ?_;intro w2 hS;have Fy:Hid (aL w1 w2):=hS.2.2.2.2.2;clear hS hT hU hV a1 a2 a3 a4 a5 a6 HK HLn gr;rw[BZ.out];have hB0:(⟨(NS (s.aY+1) m).toArray⟩:ByteArray).size<=100000000:=by rw[<-BZ.out];exact HAl.out
  have UF:=BJ (w:=w2) (s:=⟨(NS (s.aY+1) m).toArray⟩) (by omega);have hdt:(⟨(NS (s.aY+1) m).toArray⟩:ByteArray).data.toList=NS (s.aY+1) m:=rfl;rw[hdt]at UF;have hu:=yU (NS (s.aY+1) m);unfold cO at hu;obtain⟨hu1,TD⟩:=hu;have HB3:Hid (_=ckA (s,fs,m)):=ckS_sum (s.aY+1) m;clear BZ HAl hdt;generalize kD (NS (s.aY+1) m)=cr at*;generalize (⟨(NS (s.aY+1) m).toArray⟩:ByteArray)=B0 at*;have b1:∀w:F,(Op.stringOp .add B0 (strOfNums (gV cr))).run K w= .ok (.string (B0++strOfNums (gV cr))) w:=fun w=>AaT w _ _ (by rw[show(strOfNums (gV cr)).size=4 from rfl];omega)
  have HBs:Hid ((B0++strOfNums (gV cr)).size<=200000000/\(B0++strOfNums (gV cr)).size≠0):=by
   show _/\_;rw[dF,show(strOfNums (gV cr)).size=4 from rfl];omega
  go_upto_region 12 with(first|(go_at_call 174;refine UF.mono ?_;clear UF;rintro e w3 ⟨rfl,rfl⟩)|(go_at_call 171;refine(nQ hu1 TD).mono ?_;rintro e w4 ⟨rfl,Zr⟩));have HS4:Hid (bM w4 xb s1 jX m f1):=HS1.out.aN (Fy.out.more Zr);have YP:Hid (kH w w4 xb f f1):=HD1.out.aN (Fy.out.more Zr);rw[HB3.out]at HBs ⊢;have uU:=HBs.out.2;have hbz:=HBs.out.1;clear Zr Fy HS1 HD1 b1 hB0 HBs HB3 hu1 TD;have ni:Hid (bY s fs 1=(true,s1,jX)):=ef;have HB:Hid (ckA (s,fs,m)=ckA (s,fs,m)):=rfl;generalize hBB:ckA (s,fs,m)=B at*;clear HB;have nu:=Rb (n:=3) (b:=B) HS4.out (by omega) YK hIr hbz;have d2:=d1.add (n:=3) (by omega) uU;rcases Fp YK hIr (n:=3) (b:=B) (by omega) uU with⟨s2,ea,Yg,-⟩|⟨s2,ea,-⟩|⟨s2,Uq,ea,-⟩
  ·rw[AY HN3.out]at ea;rw[ea]at nu d2;simp only at nu d2;have HEa:Hid (bW s1 jX 3 B=(0,s2,iO jX (3,B,0))):=ea;have Ii:fQ (iO jX (3,B,0)) 3=M (3,B,0):=(by rw[Dq hIr.sort];exact Aad rfl);have hep2:s2.aY=s.aY:=Yg.1.2.2.2.trans hep1;clear ea ef;go_upto_region 15 with(go_at_call 163;refine nu.mono ?_;clear nu;rintro e w5 ⟨rfl,f5,hS5,hD5⟩);have HD5:Hid (kH w w5 xb f f5):=YP.out.trans hD5;have Rh:=d2.len;have hFl:=Fq (n:=3) hS5 (by omega) d2.cK d2.inv;have d3:=d2.flush 3;clear hS5 hD5 HS4 YP;rcases qI d2.cK d2.inv 3 with⟨s3,Cn,eg,hd3,-⟩|⟨s3,Cn,eg,-⟩
   ·have MV:=AZ d2.inv Ii eg d2.cK;rw[eg]at hFl d3;simp only at hFl d3 MV;have Iq:fQ Cn 3=M (3,B,(B.size:Int)):=(by rw[MV,Dq d2.inv.sort];exact Aad rfl);have HEg:Hid (bY s2 (iO jX (3,B,0)) 3=(true,s3,Cn)):=eg;have hep3:s3.aY=s.aY:=hd3.1.2.2.2.trans hep2;clear eg MV Ii hd3 Yg;go_upto_region 18 with(go_at_call 170;refine hFl.mono ?_;clear hFl;rintro e w6 ⟨rfl,f6,hS6,hD6⟩);have HD6:Hid (kH w w6 xb f f6):=HD5.out.trans hD6;have hl3:=d3.len;have hSt:=Dn hS6 (by omega) d3.inv.ok d3.cK.Nf d3.cK.zG d3.cK.mX;have d4:=d3.move 3 (t:=2) (by omega);clear hS6 hD6 HD5;rcases mQ d3.cK d3.inv with⟨s4,et,hd4⟩|⟨s4,fs4,et,-⟩
    ·rw[et]at hSt;simp only at hSt
     have Wx:lD s3 Cn 3 2=(true,s4,pQ Cn (2,B,(B.size:Int)) 3):=by
      unfold lD;rw[Iq];simp only;rw[et,ig d3.inv.sort uU];rfl
     rw[Wx]at d4;simp only at d4;have HEm:Hid _:=Wx;have hep4:s4.aY=s.aY:=hd4.1.2.2.2.trans hep3;clear et Wx hd4;go_upto_region 21 with(go_at_call 175;refine hSt.mono ?_;clear hSt;rintro e w7 ⟨rfl,f7,⟨r7,Wd,hf7,NI⟩,Yu⟩);have hSe:=Qy (f:=(2,B,(B.size:Int))) (but:=3) Wd hf7 (by omega);have HD7:Hid (kH w w7 xb f f7):=HD6.out.trans Yu;clear HD6 Yu;go_upto_region 22 with(go_at_call 176;refine hSe.mono ?_;clear hSe;rintro e w8 ⟨rfl,f8,w9,rfl,UC,hB9,hR9⟩);have He:=(hB9.block xb (aM Wd)).trans Wd;have hS8:bM (w9.setCell ⟨xb,3,O⟩ f8.v) xb s4 (pQ Cn (2,B,(B.size:Int)) 3) m f8:=⟨r7,rZ He,UC.jC He,(NI.aN hB9).jC He⟩;have HD8:Hid (kH w (w9.setCell ⟨xb,3,O⟩ f8.v) xb f f8):=((HD7.out.aN hB9).row (fun a e=>Aam HD7.out.1.1 (hR9 a e))).set;clear Wd hf7 NI UC hB9 hR9 He HD7;generalize w9.setCell ⟨xb,3,O⟩ f8.v=Od at*;have hl4:=d4.len;have hCu:=Ra (n:=10+s.aY) (k:=0) hS8 (by omega) d4.cK d4.inv (AaZ 0)
     have XF:Od.cell? ⟨xb,12,O⟩=M (I V s.aY):=by
      obtain⟨r8,hx8,-,-⟩:=hS8;rw[<-hep4];exact(fI hx8).2.2.1
     clear hS8;cases FZ:(bJ s4 (pQ Cn (2,B,(B.size:Int)) 3) (10+s.aY) 0).1 with
     |true=>
      have hep5:=(cut_ep (n:=10+s.aY) d4.cK d4.inv).trans hep4;have HE:Hid (iH (s,fs,m)=(({ (bJ s4 (pQ Cn (2,B,(B.size:Int)) 3) (10+s.aY) 0).2.1 with aY:=s.aY+1 },(bJ s4 (pQ Cn (2,B,(B.size:Int)) 3) (10+s.aY) 0).2.2,m),0)):=(by show _=_;rw[WH.out];simp[kK,Ei,uV,ni.out,HEa.out,HEg.out,HEm.out,FZ]);rw[FZ]at hCu;generalize bJ s4 (pQ Cn (2,B,(B.size:Int)) 3) (10+s.aY) 0=R at*;clear WH FZ d4 d3 d2 d1 ni HEa HEg HEm Iq;go_upto_region 25 with(go_at_call 169;refine hCu.mono ?_;clear hCu;rintro e mg ⟨rfl,f11,⟨r11,hx11,hf11,hm11⟩,hD11⟩);have HA:Hid (After w (mg.setCell ⟨xb,12,O⟩ (I V (s.aY+1))) xb { R.2.1 with aY:=s.aY+1 } R.2.2 m f):=⟨f11,⟨r11,Et _ hx11,hf11.jC hx11,hm11.jC hx11⟩,(HD8.out.trans hD11).set⟩;refine ck_open hx11 ?_;intro c1 cf;rw[hep5]at c1;clear hx11 hf11 hm11 hD11 HD8 XF;go_wp2_with fail;go_ret;rw[HE.out];exact⟨rfl,HA.out⟩
     |false=>
      have HE:Hid (iH (s,fs,m)=(((bJ s4 (pQ Cn (2,B,(B.size:Int)) 3) (10+s.aY) 0).2.1,(bJ s4 (pQ Cn (2,B,(B.size:Int)) 3) (10+s.aY) 0).2.2,m),10)):=(by show _=_;rw[WH.out];simp[kK,Ei,uV,ni.out,HEa.out,HEg.out,HEm.out,FZ]);rw[FZ]at hCu;generalize bJ s4 (pQ Cn (2,B,(B.size:Int)) 3) (10+s.aY) 0=R at*;clear WH FZ d4 d3 d2 d1 ni HEa HEg HEm Iq;go_upto_region 23 with(go_at_call 169;refine hCu.mono ?_;clear hCu;rintro e mg ⟨rfl,hA⟩);go_wp2_with fail;go_ret;rw[HE.out];exact⟨rfl,After.trans HD8.out hA⟩
    ·rw[et]at hSt;simp only at hSt
     have Wx:lD s3 Cn 3 2=(false,s4,fs4):=by
      unfold lD;rw[Iq];simp only;rw[et];simp
     have HE:Hid (iH (s,fs,m)=((s4,fs4,m),10)):=(by show _=_;rw[WH.out];simp[kK,Ei,uV,ni.out,HEa.out,HEg.out,Wx]);clear et Wx WH d4 d3 d2 d1 ni HEa HEg Iq;go_upto_region 19 with(go_at_call 175;refine hSt.mono ?_;clear hSt;rintro e w7 ⟨rfl,f7,XY,Yu⟩);go_wp2_with fail;go_ret;rw[HE.out];exact⟨rfl,f7,XY,HD6.out.trans Yu⟩
   ·rw[eg]at hFl;simp only at hFl;have HE:Hid (iH (s,fs,m)=((s3,Cn,m),10)):=(by show _=_;rw[WH.out];simp[kK,Ei,uV,ni.out,HEa.out,eg]);clear eg WH d3 d2 d1 ni HEa Ii;go_upto_region 16 with(go_at_call 170;refine hFl.mono ?_;clear hFl;rintro e w6 ⟨rfl,hA⟩);go_wp2_with fail;go_ret;rw[HE.out];exact⟨rfl,After.trans HD5.out hA⟩
  ·rw[ea]at nu;simp only at nu;have HE:Hid (iH (s,fs,m)=((s2,jX,m),9)):=(by show _=_;rw[WH.out];simp[kK,Ei,uV,ni.out,ea]);clear ea ef WH d2 d1 ni;go_upto_region 13 with(go_at_call 163;refine nu.mono ?_;clear nu;rintro e w5 ⟨rfl,hA⟩);go_wp2_with fail;go_ret;rw[HE.out];exact⟨rfl,After.trans YP.out hA⟩
  ·rw[ea]at nu;simp only at nu;have HE:Hid (iH (s,fs,m)=((s2,Uq,m),10)):=(by show _=_;rw[WH.out];simp[kK,Ei,uV,ni.out,ea]);clear ea ef WH d2 d1 ni;go_upto_region 13 with(go_at_call 163;refine nu.mono ?_;clear nu;rintro e w5 ⟨rfl,hA⟩);go_wp2_with fail;go_ret;rw[HE.out];exact⟨rfl,After.trans YP.out hA⟩
 ·have HE:Hid (iH (s,fs,m)=((s1,jX,m),10)):=by show _=_;rw[WH.out];simp[kK,Ei,uV,ef]
  rw[ef]at gK;simp only at gK;clear ef hd WH hG hlen hc hI e3;go_enter func117,ntmps117;go_upto_region 8 with(go_at_call 170;refine gK.mono ?_;clear gK;rintro e w1 ⟨rfl,hA1⟩);go_wp2_with fail;go_ret;rw[HE.out];exact⟨rfl,hA1⟩
theorem GS.WI {N:Nat}(h:pJ N s fs)(hN:N<=50)(ho:s.aX=false):GS (s,fs,m) D:=GS.shut (x:=(s,fs,m)) ⟨h.cK,h.Cu,h.inv,Aam h.len hN⟩ ho
theorem gs_ckpt {x:St}(h:GS x D):GS (iH x).1 D:=by
 obtain⟨s,fs,m⟩:=x;by_cases e1:s.aX=false
 ·unfold iH;rw[Aad e1];exact h
 have rV:s.aX=true:=by simpa using e1
 by_cases e2:s.ro=true
 ·unfold iH;rw[Aaa e1,Aad e2];exact h
 have Di:s.ro=false:=by simpa using e2
 by_cases e3:999<=s.aY
 ·unfold iH;rw[Aaa e1,Aaa e2,Aad e3];exact h
 have hCk:=WG (fs:=fs) (m:=m) rV Di e3;have hc:=h.bk.cK;have hI:=h.bk.inv;have hnm:=h.nam rV;simp only at hc hI hnm;have d0:pJ 4 s fs:=⟨hc,h.bk.Cu,hI,few4 hI.sort.1 hnm⟩;have d1:=d0.flush 1
 have uU:(ckA (s,fs,m)).size≠0:=by
  show(Qc _ _).length≠0;unfold Qc NS QY;simp
 rw[hCk];generalize ckA (s,fs,m)=B at*;rcases qI hc hI 1 with⟨s1,jX,ef,Pn,-,-,Gy⟩|⟨s1,jX,ef,Pn⟩
 ·rw[ef]at d1;simp only at d1;have Js:=Vi Gy hnm;have d2:=d1.add (n:=3) (by omega) uU
  have h3:∀g∈jX,g.1≠3:=fun g hg e=>by
   have:=Js g hg;have:=hc.nX;omega
  have hby1:aO jX 1=aO fs 1:=Bo Gy 1;rcases Fp d1.cK d1.inv (n:=3) (b:=B) (by omega) uU with⟨s2,ea,Yg,-⟩|⟨s2,ea,Mh,EX,Bt,-⟩|⟨s2,Uq,ea,Yg⟩
  ·rw[AY h3]at ea;rw[ea]at d2;simp only at d2;have d3:=d2.flush 3;rcases qI d2.cK d2.inv 3 with⟨s3,Cn,eg,hd3,-,-,hm3⟩|⟨s3,Cn,eg,hd3⟩
   ·have Ii:fQ (iO jX (3,B,0)) 3=M (3,B,0):=(by rw[Dq d1.inv.sort];exact Aad rfl);have MV:=AZ d2.inv Ii eg d2.cK;rw[eg]at d3;simp only at d3 MV;have Iq:fQ Cn 3=M (3,B,(B.size:Int)):=(by rw[MV,Dq d2.inv.sort];exact Aad rfl);have d4:=d3.move 3 (t:=2) (by omega);rcases mQ d3.cK d3.inv with⟨s4,et,hd4⟩|⟨s4,fs4,et,hd4⟩
    ·have Wx:lD s3 Cn 3 2=(true,s4,iO (iT Cn 3) (2,B,(B.size:Int))):=by
      unfold lD;rw[Iq];simp only;rw[et];rfl
     rw[Wx]at d4;simp only at d4;have VG:BK s4 (iO (iT Cn 3) (2,B,(B.size:Int))):=⟨d4.cK,d4.Cu,d4.inv,by have:=d4.len;omega⟩;obtain⟨k1,k2,k3⟩:=Ep VG (10+s.aY) (AaZ 0);have hop:s4.aX=true:=hd4.2.1.trans (hd3.2.1.trans (Yg.2.1.trans (Pn.2.1.trans rV)));have hro:s4.ro=false:=hd4.2.2.1.trans (hd3.2.2.1.trans (Yg.2.2.1.trans (Pn.2.2.1.trans Di)));have hsm:=((Pn.1.trans Yg.1).trans hd3.1).trans hd4.1
     have hb41:aO (iO (iT Cn 3) (2,B,(B.size:Int))) 1=aO fs 1:=by
      have hsd:vB (iT Cn 3):=⟨d3.inv.sort.1.sublist (Aby),fun g hg=>d3.inv.sort.2 g (Abi.1 hg).1⟩;rw[zU hsd,Aaa (by simp),AO,Aaa (by decide),MV,zU d2.inv.sort,Aaa (by simp),zU d1.inv.sort,Aaa (by simp),hby1]
     have hn4:∀f∈iO (iT Cn 3) (2,B,(B.size:Int)),f.1=1\/f.1=2\/f.1=10+s.aY:=fun f hf=>by
      rcases Ak hf with rfl|hf
      ·exact Aab (Aac rfl)
      ·obtain⟨hf,hne⟩:=Abi.1 hf;have hne:f.1≠3:=(by simpa using hne);rw[MV]at hf;rcases Ak hf with rfl|hf
       ·exact absurd rfl hne
       ·rcases Ak hf with rfl|hf
        ·exact absurd rfl hne
        ·exact Js f hf
     rcases k3 with⟨p1,p2,p3,p4,-,-,p5⟩|⟨p1,p2⟩
     ·have hE:kK s.aY B 5 0 s fs=(0,(bJ s4 (iO (iT Cn 3) (2,B,(B.size:Int))) (10+s.aY) 0).2.1,(bJ s4 (iO (iT Cn 3) (2,B,(B.size:Int))) (10+s.aY) 0).2.2):=(by simp[kK,Ei,uV,ef,ea,eg,Wx,p1]);simp only[hE,if_true];have TM:=k1.cK;have he5:=hc.nX;refine⟨⟨{ TM with nX:=by simp only;omega,rE:=by simp only;omega },k1.Cu,k1.inv,k1.len⟩,fun _=>?_,fun _=>h.done rV,fun _ f hf=>?_,fun _=>?_,fun _ _=>?_⟩
      ·simp only;rw[k2.2.1,hsm.2.1];exact h.Cs rV
      ·obtain⟨⟨g,hg,eg'⟩,hne⟩:=p4 f hf;have:=hn4 g hg;have:=hne rfl;simp only;omega
      ·simp only;rw[p5 1 (by omega),hb41];exact h.buf rV
      ·simp only;rw[p5 1 (by omega),hb41];exact h.EA rV Di
     ·have hE:kK s.aY B 5 0 s fs=(10,(bJ s4 (iO (iT Cn 3) (2,B,(B.size:Int))) (10+s.aY) 0).2.1,(bJ s4 (iO (iT Cn 3) (2,B,(B.size:Int))) (10+s.aY) 0).2.2):=(by simp[kK,Ei,uV,ef,ea,eg,Wx,p1]);simp only[hE];rw[Aaa (by decide)];exact GS.shut (x:=((bJ s4 (iO (iT Cn 3) (2,B,(B.size:Int))) (10+s.aY) 0).2.1,(bJ s4 (iO (iT Cn 3) (2,B,(B.size:Int))) (10+s.aY) 0).2.2,m)) k1 p2
    ·have Wx:lD s3 Cn 3 2=(false,s4,fs4):=by
      unfold lD;rw[Iq];simp only;rw[et];simp
     rw[Wx]at d4;have hE:kK s.aY B 5 0 s fs=(10,s4,fs4):=(by simp[kK,Ei,uV,ef,ea,eg,Wx]);simp only[hE];rw[Aaa (by decide)];exact GS.WI d4 (by decide) hd4.2.1
   ·rw[eg]at d3;have hE:kK s.aY B 5 0 s fs=(10,s3,Cn):=(by simp[kK,Ei,uV,ef,ea,eg]);simp only[hE];rw[Aaa (by decide)];exact GS.WI d3 (by decide) hd3.2.1
  ·rw[ea]at d2;simp only at d2;have hE:kK s.aY B 5 0 s fs=(9,s2,jX):=(by simp[kK,Ei,uV,ef,ea]);simp only[hE];rw[Aaa (by decide)];have hsm:=Pn.1.trans Mh;refine⟨⟨d2.cK,d2.Cu,d2.inv,by have:=d2.len;simp only;omega⟩,fun _=>?_,fun _=>h.done rV,fun _=>?_,fun _=>?_,fun _ hr=>?_⟩
   ·simp only;rw[hsm.2.1];exact h.Cs rV
   ·simp only;rw[hsm.2.2.2];exact Js
   ·simp only;rw[hby1];exact h.buf rV
   ·simp only at hr;rw[Bt]at hr;cases hr
  ·rw[ea]at d2;have hE:kK s.aY B 5 0 s fs=(10,s2,Uq):=(by simp[kK,Ei,uV,ef,ea]);simp only[hE];rw[Aaa (by decide)];exact GS.WI d2 (by decide) Yg.2.1
 ·rw[ef]at d1;have hE:kK s.aY B 5 0 s fs=(10,s1,jX):=by simp[kK,Ei,uV,ef]
  simp only[hE];rw[Aaa (by decide)];exact GS.WI d1 (by decide) Pn.2.1
variable {w:F} {B wb c p:Nat} {rs:List iV} {D:Int} {lG vf vm:Y} {hs:List bS} {r:iV} {ps:Nat->Addr} {a n m k:Int} {s:ByteArray} {fo:Option Addr} {fl fc:Nat}
def i64 (n:Int):Prop:= -9223372036854775808<=n/\n<=9223372036854775807
structure vP (w:F)(B:Nat)(fo:Option Addr)(fl fc:Nat)(l:List AF):Prop where
 rd:Aw w fo l
 len:fl=l.length
 nil:fo=O->fl=0/\fc=0
 zY:∀a,fo=M a->l≠[]->a.block<B
 few:l.length<=1000000000
 sz:∀g∈l,g.2.size<=140737488355328
 num:∀g∈l,g.1<=9223372036854775807
theorem oV.both {w0 w':F}{B wb c p:Nat}{rs:List iV}{lG vf vm:Y}{hs:List bS}(h:jQ w B wb rs c D lG vf vm hs){r r':iV}(hr:rs[p]?=M r)(hg:aL w w0)(hb:xJ w0 w' B r r')(hG:GS r'.x (D+1)):oV w w' B wb rs c D:=by
 have h0:=h.aN hg;obtain⟨q1,q2⟩:=h0.both hr hb hG (by omega);have:=h.lt;have VE:=hg.size;exact⟨⟨q2.os.trans hg.os,q2.tape.trans hg.tape,q2.output.trans hg.output,Aam hg.size q2.size,fun b hb=>(q2.block b hb).trans (hg.block b (by omega))⟩,_,c,lG,vf,vm,hs,q1,by simp,by omega⟩
def rO (w:F)(B wb:Nat)(rs:List iV)(c:Nat)(D:Int)(f:FuncId)(args:Array Y):Prop:=∀W,aL w W->H K f args W fun e w'=>e=G (.bool true)/\oV w w' B wb rs c D
theorem sU (h:jQ w B wb rs c D lG vf vm hs)(hr:rs[p]?=M r){f:FuncId}{args:Array Y}{x1:St}(hG:GS x1 (D+1))
 (hc:∀W,fU W B r->aL w W->H K f args W fun e w'=>e=G (.bool true)/\∃w0 r',aL W w0/\xJ w0 w' B r r'/\r'.x=x1):rO w B wb rs c D f args:=fun W hW=>by
 refine(hc W ((h.pair r (Aai hr)).aN hW) hW).mono ?_;rintro e w' ⟨rfl,w0,r',g0,hb,rfl⟩;exact⟨rfl,oV.both h hr (aQ hW g0) hb hG⟩
theorem size_le (h:jQ w B wb rs c D lG vf vm hs){W:F}(hW:aL w W):B<=W.heap.size:=by
 have:=h.lt;have:=hW.size;omega
theorem kind_ins (h:jQ w B wb rs c D lG vf vm hs)(hr:rs[p]?=M r)(hG:Gl w ps)(vY:D<=1999999999)(hn:i64 n)(jW:s.size<=140737488355328):
 rO w B wb rs c D 69 #[U (M ⟨r.sb,0,O⟩),.agg #[I V 14,I V a,I V n,I V m,I V k,.string s,Z fo fl fc]]:=by
 have hS:=h.cK r (Aai hr);refine sU h hr (x1:=(iW r.x 73 n 0 s).1) (Jl hS) (fun W hP hW=>pair_8 (code:=(iW r.x 73 n 0 s).2) (Aac ⟨rfl,rfl,rfl,rfl,rfl,rfl⟩) hP (fun w0 g0=>Ia fun W' g1=>?_) (fun w0 g0=>Xo (hP.aN g0) (size_le h (aQ hW g0)) fun W' hy=>?_))
 ·exact EF (n:=0) ((hP.aN g0).q.aN g1) (hG.aN (aQ (aQ hW g0) g1)) hS vY jW
 ·exact Rc (Aac rfl) hy (Aam hS.bk.len (by decide)) hS.bk.cK hS.bk.inv (fun ho=>⟨hS.Cs ho,AcL (hS.done ho) vY⟩) hn.2 (by omega) jW
theorem kind_del (h:jQ w B wb rs c D lG vf vm hs)(hr:rs[p]?=M r)(hG:Gl w ps)(vY:D<=1999999999)(hn:i64 n)(hm:i64 m):
 rO w B wb rs c D 69 #[U (M ⟨r.sb,0,O⟩),.agg #[I V 15,I V a,I V n,I V m,I V k,.string s,Z fo fl fc]]:=by
 have hS:=h.cK r (Aai hr);refine sU h hr (x1:=(iW r.x 68 n m ⟨#[]⟩).1) (Jl hS) (fun W hP hW=>pair_8 (code:=(iW r.x 68 n m ⟨#[]⟩).2) (Aab (⟨rfl,rfl,rfl,rfl,rfl,rfl⟩)) hP (fun w0 g0=>Ia fun W' g1=>?_) (fun w0 g0=>Xo (hP.aN g0) (size_le h (aQ hW g0)) fun W' hy=>?_))
 ·exact VZ ((hP.aN g0).q.aN g1) (hG.aN (aQ (aQ hW g0) g1)) hS vY hm.2
 ·exact Rc (Aab (Aac rfl)) hy (Aam hS.bk.len (by decide)) hS.bk.cK hS.bk.inv (fun ho=>⟨hS.Cs ho,AcL (hS.done ho) vY⟩) hn.2 hm.2 (Aap _)
theorem iw (h:jQ w B wb rs c D lG vf vm hs)(hr:rs[p]?=M r)(hG:Gl w ps)(vY:D<=1999999999):
 rO w B wb rs c D 69 #[U (M ⟨r.sb,0,O⟩),.agg #[I V 16,I V a,I V n,I V m,I V k,.string s,Z fo fl fc]]:=by
 have hS:=h.cK r (Aai hr);refine sU h hr (x1:=(iW r.x 85 0 0 ⟨#[]⟩).1) (Jl hS) (fun W hP hW=>Ol (code:=(iW r.x 85 0 0 ⟨#[]⟩).2) (Aac ⟨rfl,rfl,rfl,rfl,rfl,rfl⟩) hP (fun w0 g0=>Ia fun W' g1=>?_) (fun w0 g0=>Xo (hP.aN g0) (size_le h (aQ hW g0)) fun W' hy=>?_))
 ·exact qundo ((hP.aN g0).q.aN g1) (hG.aN (aQ (aQ hW g0) g1)) hS vY
 ·exact Rc (Aab (Aab (Aac rfl))) hy (Aam hS.bk.len (by decide)) hS.bk.cK hS.bk.inv (fun ho=>⟨hS.Cs ho,AcL (hS.done ho) vY⟩) (by omega) (by omega) (Aap _)
theorem iy (h:jQ w B wb rs c D lG vf vm hs)(hr:rs[p]?=M r)(hG:Gl w ps)(vY:D<=1999999999):
 rO w B wb rs c D 69 #[U (M ⟨r.sb,0,O⟩),.agg #[I V 17,I V a,I V n,I V m,I V k,.string s,Z fo fl fc]]:=by
 have hS:=h.cK r (Aai hr);refine sU h hr (x1:=(iW r.x 82 0 0 ⟨#[]⟩).1) (Jl hS) (fun W hP hW=>Ol (code:=(iW r.x 82 0 0 ⟨#[]⟩).2) (Aab (Aac ⟨rfl,rfl,rfl,rfl,rfl,rfl⟩)) hP (fun w0 g0=>Ia fun W' g1=>?_) (fun w0 g0=>Xo (hP.aN g0) (size_le h (aQ hW g0)) fun W' hy=>?_))
 ·exact qredo ((hP.aN g0).q.aN g1) (hG.aN (aQ (aQ hW g0) g1)) hS vY
 ·exact Rc (Aab (Aab (Aab rfl))) hy (Aam hS.bk.len (by decide)) hS.bk.cK hS.bk.inv (fun ho=>⟨hS.Cs ho,AcL (hS.done ho) vY⟩) (by omega) (by omega) (Aap _)
theorem ja (h:jQ w B wb rs c D lG vf vm hs)(hr:rs[p]?=M r)(hG:Gl w ps)(hD:1000100000<=D):
 rO w B wb rs c D 73 #[U (M ⟨r.sb,0,O⟩),.agg #[I V 12,I V a,I V n,I V m,I V k,.string s,Z fo fl fc]]:=by
 have hS:=h.cK r (Aai hr);refine sU h hr (x1:=(jG r.x).1) ((LU hS hD).more (by omega)) (fun W hP hW=>Ol (code:=(jG r.x).2) (Aab (Aab (Aac ⟨rfl,rfl,rfl,rfl,rfl,rfl⟩))) hP (fun w0 g0=>Ia fun W' g1=>?_) (fun w0 g0=>Xo (hP.aN g0) (size_le h (aQ hW g0)) fun W' hy=>?_))
 ·exact qopen ((hP.aN g0).q.aN g1) (hG.aN (aQ (aQ hW g0) g1)) hS
 ·exact dh hy hS.bk
theorem SE (h:jQ w B wb rs c D lG vf vm hs)(hr:rs[p]?=M r):
 rO w B wb rs c D 73 #[U (M ⟨r.sb,0,O⟩),.agg #[I V 13,I V a,I V n,I V m,I V k,.string s,Z fo fl fc]]:=by
 have hS:=h.cK r (Aai hr);refine sU h hr (x1:=((oZ r.x.1).1,r.x.2)) ((aAy hS).more (by omega)) (fun W hP hW=>Ol (code:=(oZ r.x.1).2) (Aab (Aab (Aab (Aac ⟨rfl,rfl,rfl,rfl,rfl,rfl⟩)))) hP (fun w0 g0=>Ia fun W' g1=>?_) (fun w0 g0=>Xo (hP.aN g0) (size_le h (aQ hW g0)) fun W' hy=>?_))
 ·exact xclose ((hP.aN g0).q.aN g1)
 ·refine(XI hy).mono ?_;rintro e w' ⟨rfl,h1,h2⟩;exact⟨rfl,_,h1,h2⟩
theorem jb (h:jQ w B wb rs c D lG vf vm hs)(hr:rs[p]?=M r)(hG:Gl w ps):
 rO w B wb rs c D 73 #[U (M ⟨r.sb,0,O⟩),.agg #[I V 21,I V a,I V n,I V m,I V k,.string s,Z fo fl fc]]:=by
 have hS:=h.cK r (Aai hr)
 have em:(lY r.x).1.2.2=r.x.2.2:=by
  unfold lY;split
  ·rfl
  ·split
   ·rfl
   ·simp only;split
    ·rfl
    ·rfl
 refine sU h hr (x1:=(lY r.x).1) ((gs_sync hS).more (by omega)) (fun W hP hW=>Ol (code:=(lY r.x).2) (Aab (Aab (Aab (Aab (Aac ⟨rfl,rfl,rfl,rfl,rfl,rfl⟩))))) hP (fun w0 g0=>Ia fun W' g1=>?_) (fun w0 g0=>Xo (hP.aN g0) (size_le h (aQ hW g0)) fun W' hy=>?_))
 ·exact qsync ((hP.aN g0).q.aN g1) (hG.aN (aQ (aQ hW g0) g1)) hS
 ·rw[em];exact vw hy (Aam hS.bk.len (by decide)) hS.bk.cK hS.bk.inv
theorem SF (h:jQ w B wb rs c D lG vf vm hs)(hr:rs[p]?=M r)(hn:i64 n)(hm:i64 m)(hk:i64 k):
 rO w B wb rs c D 73 #[U (M ⟨r.sb,0,O⟩),.agg #[I V 24,I V a,I V n,I V m,I V k,.string s,Z fo fl fc]]:=by
 have hS:=h.cK r (Aai hr);refine sU h hr (x1:=((Dp r.x.1 n m k).1,r.x.2)) ((gs_arm hS hn.2 hm.2 hk.2).more (by omega)) (fun W hP hW=>pair_10 (code:=(Dp r.x.1 n m k).2) ⟨rfl,rfl,rfl,rfl,rfl,rfl⟩ hP (fun w0 g0=>Ia fun W' g1=>?_) (fun w0 g0=>Xo (hP.aN g0) (size_le h (aQ hW g0)) fun W' hy=>?_))
 ·exact xcrash ((hP.aN g0).q.aN g1)
 ·refine(XJ hy).mono ?_;rintro e w' ⟨rfl,h1,h2⟩;exact⟨rfl,_,h1,h2⟩
theorem MW (h:jQ w B wb rs c D lG vf vm hs)(hr:rs[p]?=M r)(hn:i64 n):
 rO w B wb rs c D 73 #[U (M ⟨r.sb,0,O⟩),.agg #[I V 25,I V a,I V n,I V m,I V k,.string s,Z fo fl fc]]:=by
 have hS:=h.cK r (Aai hr);refine sU h hr (x1:=((oN r.x.1 n).1,r.x.2)) ((ah hS hn.2).more (by omega)) (fun W hP hW=>pair_6 (code:=(oN r.x.1 n).2) ⟨rfl,rfl,rfl,rfl,rfl,rfl⟩ hP (fun w0 g0=>Ia fun W' g1=>?_) (fun w0 g0=>Xo (hP.aN g0) (size_le h (aQ hW g0)) fun W' hy=>?_))
 ·exact xrefuse ((hP.aN g0).q.aN g1)
 ·refine(OV hy).mono ?_;rintro e w' ⟨rfl,h1,h2⟩;exact⟨rfl,_,h1,h2⟩
theorem SG {q:Int}(h:jQ w B wb rs c D lG vf vm hs)(hr:rs[p]?=M r)(hm:i64 m)(hq:q=18\/q=19\/q=20):
 rO w B wb rs c D 70 #[U (M ⟨r.sb,0,O⟩),.agg #[I V q,I V a,I V n,I V m,I V k,.string s,Z fo fl fc]]:=fun W hW=>by
 have hS:=h.cK r (Aai hr);have hP:=(h.pair r (Aai hr)).aN hW
 have key:H K 70 #[U (M ⟨r.sb,0,O⟩),.agg #[I V q,I V a,I V n,I V m,I V k,.string s,Z fo fl fc]] W fun e w'=>e=G (.bool true)/\aL W w':=by
  rcases hq with rfl|rfl|rfl
  ·exact SA hP hS hm.2
  ·exact di hP hS
  ·exact RZ hP
 refine key.mono ?_;rintro e w' ⟨rfl,hg⟩;exact⟨rfl,oV.aN h (aQ hW hg)⟩
theorem SH (h:jQ w B wb rs c D lG vf vm hs)(hr:rs[p]?=M r)(hc:c<=2000000):
 rO w B wb rs c D 71 #[U (M ⟨wb,0,O⟩),U (M ⟨r.sb,0,O⟩)]:=fun W hW=>by
 refine(fw (h.aN hW) (Aai hr) hc).mono ?_;rintro e w' ⟨rfl,hb,vf',Ye,Si,hI⟩;have:=h.lt;exact⟨rfl,⟨hb.os.trans hW.os,hb.tape.trans hW.tape,hb.output.trans hW.output,Aam hW.size hb.size,fun b bP=>(hb.block b bP).trans (hW.block b (by omega))⟩,rs,c+1,lG,vf',Ye,Si,hI.more (by omega),by omega,by omega⟩
theorem jc {l:List AF}(h:jQ w B wb rs c D lG vf vm hs)(hr:rs[p]?=M r)(hf:vP w B fo fl fc l):
 rO w B wb rs c D 72 #[U (M ⟨r.sb,0,O⟩),Z fo fl fc]:=fun W hW=>by
 have hS:=h.cK r (Aai hr);have hP:=(h.pair r (Aai hr)).aN hW;refine(load_any hP (size_le h hW) hS (hf.rd.aN hW) hf.len hf.nil hf.zY hf.few hf.sz).mono ?_;rintro e w' ⟨rfl,r',hb,hx⟩;exact⟨rfl,oV.both h hr hW hb (by rw[hx];exact(gs_load hS hf.num).more (by omega))⟩
theorem jd (h:jQ w B wb rs c D lG vf vm hs)(hr:rs[p]?=M r)(hG:Gl w ps)(hD:D<=1999999999):
 rO w B wb rs c D 73 #[U (M ⟨r.sb,0,O⟩),.agg #[I V 26,I V a,I V n,I V m,I V k,.string s,Z fo fl fc]]:=by
 have hS:=h.cK r (Aai hr)
 have em:(iH r.x).1.2.2=r.x.2.2:=by
  unfold iH;split
  ·rfl
  ·split
   ·rfl
   ·split<;>rfl
 refine sU h hr (x1:=(iH r.x).1) ((gs_ckpt hS).more (by omega)) (fun W hP hW=>Ol (code:=(iH r.x).2) (Aab (Aab (Aab (Aab (Aab (⟨rfl,rfl,rfl,rfl,rfl,rfl⟩)))))) hP (fun w0 g0=>Ia fun W' g1=>?_) (fun w0 g0=>Xo (hP.aN g0) (size_le h (aQ hW g0)) fun W' hy=>?_))
 ·exact qckpt ((hP.aN g0).q.aN g1) (hG.aN (aQ (aQ hW g0) g1)) hS (by omega)
 ·rw[em];exact ckpt_ref hy hS (by omega)
end Go.Proofs.YtfplgfodoiiobaaGreatDoor
