/- RefW, RefX, RefY (joined). -/
import Derived.Deep.CutBlock
import Derived.Test.YtfplgfodoiiobaaGreatDoorD12
open Option renaming none→O,some→M
open Go.Value renaming int→I,slice→Z,pointer→U
open Go.IntKind renaming i64→V
open Go.Obj renaming cells→C
open Go.Ending renaming returned→G
open Go renaming World→F,Value→Y,Calls→H
open Go.Proofs.Tryz renaming prog→K
open Go.Proofs.Tryz
namespace Go.Proofs.YtfplgfodoiiobaaGreatDoor
set_option maxHeartbeats 2000000
set_option maxRecDepth 100000
open Go.RowKit
variable {w:F}{m:dD}{xb g d:Nat}{s:Sc}{f:bS}{n pos a b c most:Int}{fs:List bC}{text:ByteArray}{l:List (Int×Int)}
theorem rF {r:fC}(h:w.heap[xb]?=M (bO s f r)):w.cell? ⟨xb,13,O⟩=M r.1.v/\w.cell? ⟨xb,14,O⟩=M r.2.1.v/\w.cell? ⟨xb,15,O⟩=M r.2.2.1.v/\w.cell? ⟨xb,16,O⟩=M (I V r.2.2.2.1)/\w.cell? ⟨xb,17,O⟩=M (I V r.2.2.2.2):=by
 simp[World.cell?,h,bO]
theorem PD {w0:F}{a1 a2 a3 a4 a5 a6 a7:Addr}{v1 v2 v3 v4 v5 v6 v7:Y}(h1:w0.cell? a1=M v1)(h2:w0.cell? a2=M v2)(h3:w0.cell? a3=M v3)(h4:w0.cell? a4=M v4)(h5:w0.cell? a5=M v5)(h6:w0.cell? a6=M v6)(h7:w0.cell? a7=M v7)(h:aL w0 w):
 w.cell? a1=M v1/\w.cell? a2=M v2/\w.cell? a3=M v3/\w.cell? a4=M v4/\w.cell? a5=M v5/\w.cell? a6=M v6/\w.cell? a7=M v7/\aL w0 w:=⟨h.cell h1,h.cell h2,h.cell h3,h.cell h4,h.cell h5,h.cell h6,h.cell h7,h⟩
theorem Fs {w5:F}{a b c d e:Y}{t:TypeId}{P:Prop}(hb:Below (w.alloc (C #[a,b,c,d,e] t)).heap.size (w.alloc (C #[a,b,c,d,e] t)) w5)
 (h:w5.cell? ⟨w.heap.size,0,O⟩=M a->w5.cell? ⟨w.heap.size,1,O⟩=M b->w5.cell? ⟨w.heap.size,2,O⟩=M c->w5.cell? ⟨w.heap.size,3,O⟩=M d->w5.cell? ⟨w.heap.size,4,O⟩=M e->(∀j,w5.frozen? ⟨w.heap.size,j,O⟩=false)->Hid (w5.heap[w.heap.size]?=M (C #[a,b,c,d,e] t))->P):P:=by
 have h0:=(hb.block _ (by simp)).trans (Aaf w _);refine h ?_ ?_ ?_ ?_ ?_ ?_ h0<;>simp[World.cell?,World.frozen?,h0]
theorem Ni {w5:F}{a b c d e:Y}{t:TypeId}{P:Prop}(hb:Below (w.alloc (C #[a,b,c,d,e] t)).drew.heap.size (w.alloc (C #[a,b,c,d,e] t)).drew w5)
 (h:w5.cell? ⟨w.heap.size,0,O⟩=M a->w5.cell? ⟨w.heap.size,1,O⟩=M b->w5.cell? ⟨w.heap.size,2,O⟩=M c->w5.cell? ⟨w.heap.size,3,O⟩=M d->w5.cell? ⟨w.heap.size,4,O⟩=M e->(∀j,w5.frozen? ⟨w.heap.size,j,O⟩=false)->Hid (w5.heap[w.heap.size]?=M (C #[a,b,c,d,e] t))->P):P:=
 Fs (w:=w) (t:=t) ⟨hb.os,hb.tape,hb.output,hb.size,hb.block⟩ h
theorem dH {w0:F}(h:aL w0 w)(hg:w0.heap.size<=g)(a b c d e:Y):aL w0 (((((w.setCell ⟨g,0,O⟩ a).setCell ⟨g,1,O⟩ b).setCell ⟨g,2,O⟩ c).setCell ⟨g,3,O⟩ d).setCell ⟨g,4,O⟩ e):=
 ((((h.set (a:=⟨g,0,O⟩) hg a).set (a:=⟨g,1,O⟩) hg b).set (a:=⟨g,2,O⟩) hg c).set (a:=⟨g,3,O⟩) hg d).set (a:=⟨g,4,O⟩) hg e
theorem pR {p q r s t:Y}(h:w.heap[g]?=M (bR p q r s t))(a b c d e:Y):(((((w.setCell ⟨g,0,O⟩ a).setCell ⟨g,1,O⟩ b).setCell ⟨g,2,O⟩ c).setCell ⟨g,3,O⟩ d).setCell ⟨g,4,O⟩ e).heap[g]?=M (bR a b c d e):=
 wO (Af (mF (mD (nR h))))
theorem dZ.IJ {x:fC}{p q r s t:Y}(h:dZ w x m)(hg:w.heap[g]?=M (bR p q r s t))(a b c d e:Y):dZ (((((w.setCell ⟨g,0,O⟩ a).setCell ⟨g,1,O⟩ b).setCell ⟨g,2,O⟩ c).setCell ⟨g,3,O⟩ d).setCell ⟨g,4,O⟩ e) x m:=by
 have hF:Fr w (((((w.setCell ⟨g,0,O⟩ a).setCell ⟨g,1,O⟩ b).setCell ⟨g,2,O⟩ c).setCell ⟨g,3,O⟩ d).setCell ⟨g,4,O⟩ e) (fun b=>b=g):=
  ((((Fr.set w ⟨g,0,O⟩ a).trans (Fr.set _ ⟨g,1,O⟩ b)).trans (Fr.set _ ⟨g,2,O⟩ c)).trans (Fr.set _ ⟨g,3,O⟩ d)).trans (Fr.set _ ⟨g,4,O⟩ e)
 exact h.fr hF (fun b aS e he=>by subst he;exact bU e hg (gH (by decide))) (fun b aS e he=>by subst he;exact bU e hg (gH (by decide)))
theorem kH.Cs {w':F}{m':dD}{f':bS}{r:fC}(hS:bM w xb s fs m f)(hm:dZ w r m')(hd:kH w w' xb f f'):dZ w' r m':=by
 obtain⟨r0,hx,hf,-⟩:=hS
 have key:∀(b:Nat) (aS:Array Y) (t:TypeId),t≠189->t≠193->w.heap[b]?=M (C aS t (0,0))->¬(b=xb\/∃a,f.1=M a/\b=a.block):=by
  intro b aS t n1 n2 hb hX;rcases hX with rfl|⟨a,e,rfl⟩
  ·exact bU hb hx (gH n1)
  ·obtain⟨cu,hh⟩:=hf.1.2 a e;exact bU hb hh (gH n2)
 exact hm.fr hd.1 (fun b aS e=>key b aS _ (by decide) (by decide) e) (fun b aS e=>key b aS _ (by decide) (by decide) e)
theorem IK {k:Int}(h:(gT m k a b c most d).2=0):(gT m k a b c most d).1.2.2.2.1=m.2.2.2.1+1:=by
 unfold gT at*;split at h
 ·rename_i hk;rw[Aad hk]at*;unfold uQ at*;split at h;· cases h
  split at h;· cases h
  split at h;· cases h
  split at h;· cases h
  rename_i h1 h2 h3 h4;rw[Aaa h1,Aaa h2,Aaa h3,Aaa h4]
 ·rename_i hk;rw[Aaa hk]at*;split at h
  ·rename_i hk;rw[Aad hk]at*;unfold Ah at*;split at h;· cases h
   split at h;· cases h
   rename_i h1 h2;rw[Aaa h1,Aaa h2]
  ·rename_i hk;rw[Aaa hk]at*;split at h
   ·rename_i hk;rw[Aad hk]at*;unfold uY at*;split at h;· cases h
    rename_i e rest he;split at h;· cases h
    rename_i h1;simp only[Aaa h1]
   ·rename_i hk;rw[Aaa hk]at*;unfold uZ at*;split at h;· cases h
    rename_i e rest he;split at h;· cases h
    rename_i h1;simp only[Aaa h1]
theorem del_ok (h:(gT m 68 a b c most d).2=0):0<=a/\1<=b/\a<=sz m.1/\b<=sz m.1-a:=by
 have e:gT m 68 a b c most d=Ah m a b d:=rfl;rw[e]at h;unfold Ah at h;split at h
 ·cases h
 ·omega
theorem ins_ok (h:(gT m 73 a b c most d).2=0):0<=a/\a<=sz m.1/\1<=c/\c<=200:=by
 have e:gT m 73 a b c most d=uQ m a b c most d:=rfl;rw[e]at h;unfold uQ at h;split at h;· cases h
 split at h;· cases h
 omega
theorem TW (k d a b c:Int):(fF k d a b c).size=22:=by
 unfold fF;rw[dF,Tk];rfl
theorem wo {kind:Int}(h:bM w xb s fs m f)(hs:s.aX=false\/s.ro=true):
 H K 108 #[U (M ⟨xb,0,O⟩),I V kind,I V pos,I V n,.string text] w fun e w'=>e=G (I V (iW (s,fs,m) kind pos n text).2)/\After w w' xb (iW (s,fs,m) kind pos n text).1.1 (iW (s,fs,m) kind pos n text).1.2.1 (iW (s,fs,m) kind pos n text).1.2.2 f:=by
 have HS:Hid _:=h;obtain⟨r,hx,hf,hm⟩:=h;obtain⟨xO,Ws,-⟩:=fI hx;clear hx hf hm;by_cases e1:s.aX=false
 ·have HE:Hid (iW (s,fs,m) kind pos n text=((s,fs,m),3)):=by show _=_;unfold iW;rw[Aad e1]
  rw[e1]at xO;clear hs;go_enter func108,ntmps108
  go_wp2
  go_ret;rw[HE.out];exact⟨rfl,f,HS.out,kH.refl _ _ _⟩
 ·have e2:=hs.resolve_left e1;have HE:Hid (iW (s,fs,m) kind pos n text=((s,fs,m),4)):=by show _=_;unfold iW;rw[Aaa e1,Aad e2]
  have rV:s.aX=true:=by simpa using e1
  rw[rV]at xO;rw[e2]at Ws;clear hs;go_enter func108,ntmps108
  go_wp2
  go_ret;rw[HE.out];exact⟨rfl,f,HS.out,kH.refl _ _ _⟩
theorem Tt {kd:Int}(hk:(kd=85\/kd=82)/\a=0/\b=0\/kd=68/\a=pos/\b=n)(h:bM w xb s fs m f)(hl:fs.length<=70000)(hc:iL s)(hI:fM s.room fs)(hg:eD m s.depth.toNat)(hD:m.2.2.2.1<=1999999999)(hp:pos<=9223372036854775807)(hn:n<=9223372036854775807)(ho:s.aX=true)(hro:s.ro=false):
 H K 108 #[U (M ⟨xb,0,O⟩),I V kd,I V pos,I V n,.string text] w fun e w'=>e=G (I V (iW (s,fs,m) kd pos n text).2)/\After w w' xb (iW (s,fs,m) kd pos n text).1.1 (iW (s,fs,m) kd pos n text).1.2.1 (iW (s,fs,m) kd pos n text).1.2.2 f:=by
 have HS:Hid (bM w xb s fs m f):=h;obtain⟨hxl,Gz⟩:=h.row;obtain⟨r,hx,hf,hm⟩:=h;obtain⟨xO,Ws,c12,c0,c1⟩:=fI hx;obtain⟨d1,d2,d3,d4,d5⟩:=rF hx;rw[ho]at xO;rw[hro]at Ws
 have HA:Hid (iW (s,fs,m) kd pos n text=if (gT m kd a b 0 s.most s.depth.toNat).2≠0 then ((s,fs,m),(gT m kd a b 0 s.most s.depth.toNat).2)else (((bW s fs (10+s.aY) (fF kd (gT m kd a b 0 s.most s.depth.toNat).1.2.2.2.1 a b 0)).2.1,(bW s fs (10+s.aY) (fF kd (gT m kd a b 0 s.most s.depth.toNat).1.2.2.2.1 a b 0)).2.2,if (bW s fs (10+s.aY) (fF kd (gT m kd a b 0 s.most s.depth.toNat).1.2.2.2.1 a b 0)).1=0 then (gT m kd a b 0 s.most s.depth.toNat).1 else m),(bW s fs (10+s.aY) (fF kd (gT m kd a b 0 s.most s.depth.toNat).1.2.2.2.1 a b 0)).1)):=by
  show _=_;unfold iW;rcases hk with⟨rfl|rfl,rfl,rfl⟩|⟨rfl,rfl,rfl⟩<;>simp[ho,hro]
 have m0:=hc.II;have m1:=hc.Yn;have p0:=hc.yI;have p1:=hc.wX;have q0:=hc.nX;have q1:=hc.rE;have Tv:∀w1,dZ w1 r m->_:=fun w1 Gy=>Ir (w:=w1) (r:=r) (kind:=kd) (a:=a) (b:=b) (c:=0) (most:=s.most) (d:=s.depth) (by unfold kindOk;omega) Gy hg p0 p1 (by omega) (by omega) (by omega) (by omega) m0 m1;have HKd:Hid ((kd=85\/kd=82)/\a=0/\b=0\/kd=68/\a=pos/\b=n):=hk;have hkd0:0<=kd:=by omega
 have hkd1:kd<256:=by omega
 have hk73:(kd==73)=false:=by rw[Aat];omega
 clear hk;generalize hR:gT m kd a b 0 s.most s.depth.toNat=R at Tv HA;have HR:Hid _:=hR;clear hR hx hf;obtain⟨⟨po,tl,tc⟩,⟨uo,ul,uc⟩,⟨ro,rl,rc⟩,dn,bf⟩:=r;simp only[bS.v]at d1 d2 d3 d4 d5;simp only[fC.v,bS.v]at Tv;go_enter func108,ntmps108;go_upto_block 0 with fail
 go_cut [11,12,13] from 26 to 36 (fun va vb vc wc=>va=I V a/\vb=I V b/\vc=I V 0/\wc=w)
 case first=>
  rcases HKd.out with⟨rfl|rfl,rfl,rfl⟩|⟨rfl,rfl,rfl⟩
  all_goals
   go_wp2
   go_meet;exact⟨rfl,rfl,rfl,rfl⟩
 case rest=>
 obtain⟨rfl,rfl,rfl,rfl⟩:=hcut
 rename F=>w
 go_upto_region 16 with fail
 go_cut [14,15] (fun p e wc=> ∃(g:Nat) (r':fC),p=U (M ⟨g,0,O⟩)/\e=I V R.2/\wc.heap[g]?=M (bR r'.1.v r'.2.1.v r'.2.2.1.v (I V r'.2.2.2.1) (I V r'.2.2.2.2))/\w.heap.size<=g/\dZ wc r' R.1/\aL w wc)
 case first=>
  have ga:=aL.refl w
  go_region_held3 (fun w'=>w'.cell? ⟨xb,13,O⟩=M (Z po tl tc)/\w'.cell? ⟨xb,14,O⟩=M (Z uo ul uc)/\w'.cell? ⟨xb,15,O⟩=M (Z ro rl rc)/\w'.cell? ⟨xb,16,O⟩=M (I V dn)/\w'.cell? ⟨xb,17,O⟩=M (I V bf)/\w'.cell? ⟨xb,0,O⟩=M (I V s.most)/\w'.cell? ⟨xb,1,O⟩=M (I V s.depth)/\aL w w')
   (first|(refine PD d1 d2 d3 d4 d5 c0 c1 ?_;go_split_ands;with_reducible (first|assumption|exact aL.alloc sP _|exact dH sP (Aak _) _ _ _ _ _|exact dH (aL.alloc sP _) sP.le _ _ _ _ _|(refine aL.alloc ?_ _;assumption)|exact aL.drew sP|exact aL.drew (aL.alloc sP _)|exact aL.drew (dH sP (Aak _) _ _ _ _ _)|(refine aL.drew (aL.alloc ?_ _);assumption)|(refine aL.drew ?_;assumption))))
   (first|(go_at_call 162;refine(Tv _ (by go_split_ands;exact hm.aN (by assumption))).mono ?_;rintro e w5 ⟨r',rfl,wu,nJ⟩;have sP:aL w w5:=aL.more (by go_split_ands;assumption) nJ;first|(refine Fs nJ ?_;intro y0 y1 y2 y3 y4 yf yh)|(refine Ni nJ ?_;intro y0 y1 y2 y3 y4 yf yh)|skip))
  all_goals go_wp2
  all_goals go_meet
  ·exact⟨_,r',rfl,rfl,Aaf w5 _,sP.le,wu.aN (aP _ _),sP.alloc _⟩
  ·exact⟨_,r',rfl,rfl,pR yh.out _ _ _ _ _,Aak _,wu.IJ yh.out _ _ _ _ _,dH sP (Aak _) _ _ _ _ _⟩
 case rest=>
  obtain⟨g,⟨⟨a1,a2,a3⟩,⟨a4,a5,a6⟩,⟨a7,a8,a9⟩,Wp,Gf⟩,rfl,rfl,qZ,Fu,Pm,hG⟩:=hcut
  rename F=>wc
  have hrD:=Pm.2.2.2.1;subst hrD;simp only[bS.v]at qZ;have uT:=HS.out.aN hG;have hgx:g≠xb:=by omega
  have Cq:∀a,f.1=M a->a.block≠g:=fun a e=>by have:=Gz a e;omega
  have BX:=hG.cell c12;clear d1 d2 d3 d4 d5 c0 c1 xO Ws c12 Tv hm;by_cases Wh:R.2=0
  ·have tX:R.1.2.2.2.1=m.2.2.2.1+1:=(by rw[<-HR.out]at Wh ⊢;exact IK Wh);have hu:=hg.done;have hlong:=hg.long
   have hq12:cO a/\cO b:=by
    unfold cO;rcases HKd.out with⟨-,rfl,rfl⟩|⟨rfl,rfl,rfl⟩
    ·omega
    ·obtain⟨o1,o2,o3,o4⟩:=del_ok (by rw[HR.out];exact Wh);omega
   obtain⟨b0,b1,b2,b3,b4,-⟩:=aW qZ;have HE:Hid (iW (s,fs,m) kd pos n text=(((bW s fs (10+s.aY) (fF kd R.1.2.2.2.1 a b 0)).2.1,(bW s fs (10+s.aY) (fF kd R.1.2.2.2.1 a b 0)).2.2,if (bW s fs (10+s.aY) (fF kd R.1.2.2.2.1 a b 0)).1=0 then R.1 else m),(bW s fs (10+s.aY) (fF kd R.1.2.2.2.1 a b 0)).1)):=(by show _=_;rw[HA.out,Aaa (by simp[Wh])]);have hrl22:=TW kd R.1.2.2.2.1 a b 0;have Yr:=(add_same s fs (10+s.aY) (fF kd R.1.2.2.2.1 a b 0)).2.2.2;have hq0:cO R.1.2.2.2.1:=(by unfold cO;omega);have WU:cO 0:=(by unfold cO;omega);have HU:Hid (cO R.1.2.2.2.1/\cO a/\cO b/\cO 0):=⟨hq0,hq12.1,hq12.2,WU⟩;have HL:Hid _:=hrl22;have HM:Hid _:=Yr;have jk:Hid _:=qZ;have TY:IntKind.i64.wrap (10+s.aY)=10+s.aY:=(by rw[AaE];omega);rw[Wh];clear hq0 hq12 WU hrl22 Yr tX qZ b0 b1 b2 b4 HA Wh;go_upto_region 22 with fail
   go_region_held3 (fun w'=>w'.cell? ⟨xb,12,O⟩=M (I V s.aY)/\w'.cell? ⟨g,3,O⟩=M (I V R.1.2.2.2.1)) (first|(exact⟨BX,b3⟩)|(exact⟨y12,y3⟩)|(exact⟨z12,z3⟩))
    (first|(go_at_call 164;refine(Io hkd0 hkd1 HU.out.1 HU.out.2.1 HU.out.2.2.1 HU.out.2.2.2).mono ?_;rintro e w6 ⟨rfl,Gs⟩;have Yt:aL wc w6:=⟨Gs.os,Gs.tape,Gs.output,Gs.size,Gs.block⟩;have y12:=Yt.cell BX;have y3:=Yt.cell b3)|(go_at_call 163;refine(Rb (uT.aN Yt) (by omega) hc hI (by have:=HL.out;omega)).mono ?_;rintro e w7 ⟨rfl,f7,XY,Yu⟩;have z12:w7.cell? ⟨xb,12,O⟩=M (I V s.aY):=(by obtain⟨r7,Wd,-,-⟩:=XY;rw[(fI Wd).2.2.1,HM.out]);have h7:=Yu.far (bE Yt jk.out) hgx Cq;have z3:w7.cell? ⟨g,3,O⟩=M (I V R.1.2.2.2.1):=(aW h7).2.2.2.1))
   clear y12 y3 z12 z3 BX b3 TY;by_cases hA:(bW s fs (10+s.aY) (fF kd R.1.2.2.2.1 a b 0)).1=0
   ·rw[Aad hA]at HE;have NI:=kH.Cs (uT.aN Yt) (Pm.aN Yt) Yu;obtain⟨k1,k2⟩:=Du XY NI;obtain⟨b0,b1,b2,b3,b4,-⟩:=aW h7;have Dv:After w _ xb _ _ R.1 f:=⟨f7,k1,(((kH.refl w xb f).aN hG).aN Yt).trans (Yu.trans k2)⟩;obtain⟨r7,Wd,-,-⟩:=XY;obtain⟨-,-,-,-,-,-,cf⟩:=kT Wd;have z1:=cf 13;have z2:=cf 14;have z3:=cf 15;have z4:=cf 16;have z5:=cf 17;obtain⟨e1,e2,e3,e4,e5⟩:=rF Wd;rw[hA];clear Wd cf NI k1 k2 h7 uT Yu Pm;simp only[bS.v]at Dv
    go_wp2
    go_ret;rw[HE.out];exact⟨by rw[hA];rfl,Dv⟩
   ·rw[Aaa hA]at HE;have Dv:After w w7 xb _ _ m f:=⟨f7,XY,(((kH.refl w xb f).aN hG).aN Yt).trans Yu⟩;have TV:((bW s fs (10+s.aY) (fF kd R.1.2.2.2.1 a b 0)).1==0)=false:=(by simp[hA]);clear h7 uT XY Yu Pm
    go_wp2
    go_ret;rw[HE.out];exact⟨rfl,Dv⟩
  ·have HE:Hid (iW (s,fs,m) kd pos n text=((s,fs,m),R.2)):=(by show _=_;rw[HA.out,Aad Wh]);have TV:(R.2 !=0)=true:=(by simp[Wh]);have Au:After w wc xb s fs m f:=⟨f,uT,(kH.refl w xb f).aN hG⟩;clear uT Pm qZ HA
   go_wp2
   go_ret;rw[HE.out];exact⟨rfl,Au⟩
theorem act_ins (h:bM w xb s fs m f)(hl:fs.length<=70000)(hc:iL s)(hI:fM s.room fs)(hg:eD m s.depth.toNat)(hD:m.2.2.2.1<=1999999999)(hp:pos<=9223372036854775807)(ht:text.size<=140737488355328)(ho:s.aX=true)(hro:s.ro=false):
 H K 108 #[U (M ⟨xb,0,O⟩),I V 73,I V pos,I V n,.string text] w fun e w'=>e=G (I V (iW (s,fs,m) 73 pos n text).2)/\After w w' xb (iW (s,fs,m) 73 pos n text).1.1 (iW (s,fs,m) 73 pos n text).1.2.1 (iW (s,fs,m) 73 pos n text).1.2.2 f:=by
 have HS:Hid (bM w xb s fs m f):=h;obtain⟨hxl,Gz⟩:=h.row;obtain⟨r,hx,hf,hm⟩:=h;have hL:=Ai (n:=1) hx hf (by omega);have hLb:=gD hI 1;obtain⟨xO,Ws,c12,c0,c1⟩:=fI hx;obtain⟨d1,d2,d3,d4,d5⟩:=rF hx;rw[ho]at xO;rw[hro]at Ws;have rm:=hc.kI;have m0:=hc.II;have m1:=hc.Yn;have p0:=hc.yI;have p1:=hc.wX;have q0:=hc.nX;have q1:=hc.rE;generalize PE:((aO fs 1).size:Int)=L at hL hLb;have hL0:0<=L:=by omega
 have HA:Hid (iW (s,fs,m) 73 pos n text=if (gT m 73 pos L (text.size:Int) s.most s.depth.toNat).2≠0 then ((s,fs,m),(gT m 73 pos L (text.size:Int) s.most s.depth.toNat).2)else if (bW s fs 1 text).1≠0 then (((bW s fs 1 text).2.1,(bW s fs 1 text).2.2,m),(bW s fs 1 text).1)else (((bW (bW s fs 1 text).2.1 (bW s fs 1 text).2.2 (10+(bW s fs 1 text).2.1.aY) (fF 73 (gT m 73 pos L (text.size:Int) s.most s.depth.toNat).1.2.2.2.1 pos L (text.size:Int))).2.1,(bW (bW s fs 1 text).2.1 (bW s fs 1 text).2.2 (10+(bW s fs 1 text).2.1.aY) (fF 73 (gT m 73 pos L (text.size:Int) s.most s.depth.toNat).1.2.2.2.1 pos L (text.size:Int))).2.2,if (bW (bW s fs 1 text).2.1 (bW s fs 1 text).2.2 (10+(bW s fs 1 text).2.1.aY) (fF 73 (gT m 73 pos L (text.size:Int) s.most s.depth.toNat).1.2.2.2.1 pos L (text.size:Int))).1=0 then (gT m 73 pos L (text.size:Int) s.most s.depth.toNat).1 else m),(bW (bW s fs 1 text).2.1 (bW s fs 1 text).2.2 (10+(bW s fs 1 text).2.1.aY) (fF 73 (gT m 73 pos L (text.size:Int) s.most s.depth.toNat).1.2.2.2.1 pos L (text.size:Int))).1)):=by
  show _=_;unfold iW;simp only[ho,hro,AbM,AaD,if_false,if_true,true_or,PE]
 clear PE;have Tv:∀w1,dZ w1 r m->_:=fun w1 Gy=>Ir (w:=w1) (r:=r) (kind:=73) (a:=pos) (b:=L) (c:=(text.size:Int)) (most:=s.most) (d:=s.depth) (by unfold kindOk;simp) Gy hg p0 p1 (by omega) (by omega) (by omega) (by omega) m0 m1
 generalize hR:gT m 73 pos L (text.size:Int) s.most s.depth.toNat=R at Tv HA;have HR:Hid (gT m 73 pos L (text.size:Int) s.most s.depth.toNat=R):=hR;clear hR hx hf;obtain⟨⟨po,tl,tc⟩,⟨uo,ul,uc⟩,⟨ro,rl,rc⟩,dn,bf⟩:=r;simp only[bS.v]at d1 d2 d3 d4 d5;simp only[fC.v,bS.v]at Tv;go_enter func108,ntmps108;go_wp2_with fail;refine hL.mono ?_;rintro e w ⟨rfl,rfl⟩;clear hL;go_upto_region 16 with fail
 go_cut [14,15] (fun p e wc=> ∃(g:Nat) (r':fC),p=U (M ⟨g,0,O⟩)/\e=I V R.2/\wc.heap[g]?=M (bR r'.1.v r'.2.1.v r'.2.2.1.v (I V r'.2.2.2.1) (I V r'.2.2.2.2))/\w.heap.size<=g/\dZ wc r' R.1/\aL w wc)
 case first=>
  have ga:=aL.refl w
  go_region_held3 (fun w'=>w'.cell? ⟨xb,13,O⟩=M (Z po tl tc)/\w'.cell? ⟨xb,14,O⟩=M (Z uo ul uc)/\w'.cell? ⟨xb,15,O⟩=M (Z ro rl rc)/\w'.cell? ⟨xb,16,O⟩=M (I V dn)/\w'.cell? ⟨xb,17,O⟩=M (I V bf)/\w'.cell? ⟨xb,0,O⟩=M (I V s.most)/\w'.cell? ⟨xb,1,O⟩=M (I V s.depth)/\aL w w')
   (first|(refine PD d1 d2 d3 d4 d5 c0 c1 ?_;go_split_ands;with_reducible (first|assumption|exact aL.alloc sP _|exact dH sP (Aak _) _ _ _ _ _|exact dH (aL.alloc sP _) sP.le _ _ _ _ _|(refine aL.alloc ?_ _;assumption)|exact aL.drew sP|exact aL.drew (aL.alloc sP _)|exact aL.drew (dH sP (Aak _) _ _ _ _ _)|(refine aL.drew (aL.alloc ?_ _);assumption)|(refine aL.drew ?_;assumption))))
   (first|(go_at_call 162;refine(Tv _ (by go_split_ands;exact hm.aN (by assumption))).mono ?_;rintro e w5 ⟨r',rfl,wu,nJ⟩;have sP:aL w w5:=aL.more (by go_split_ands;assumption) nJ;first|(refine Fs nJ ?_;intro y0 y1 y2 y3 y4 yf yh)|(refine Ni nJ ?_;intro y0 y1 y2 y3 y4 yf yh)|skip))
  all_goals go_wp2_with fail
  all_goals go_meet
  ·exact⟨_,r',rfl,rfl,Aaf w5 _,sP.le,wu.aN (aP _ _),sP.alloc _⟩
  ·exact⟨_,r',rfl,rfl,pR yh.out _ _ _ _ _,Aak _,wu.IJ yh.out _ _ _ _ _,dH sP (Aak _) _ _ _ _ _⟩
 case rest=>
  obtain⟨g,⟨⟨a1,a2,a3⟩,⟨a4,a5,a6⟩,⟨a7,a8,a9⟩,Wp,Gf⟩,rfl,rfl,qZ,Fu,Pm,hG⟩:=hcut
  rename F=>wc
  have hrD:Wp=R.1.2.2.2.1:=Pm.2.2.2.1;subst hrD;simp only[bS.v]at qZ;have uT:=HS.out.aN hG;have hgx:g≠xb:=by omega
  have Cq:∀a,f.1=M a->a.block≠g:=fun a e=>by have:=Gz a e;omega
  have BX:=hG.cell c12;clear d1 d2 d3 d4 d5 c0 c1 xO Ws c12 Tv hm;by_cases Wh:R.2=0
  ·have tX:R.1.2.2.2.1=m.2.2.2.1+1:=(by rw[<-HR.out]at Wh ⊢;exact IK Wh);have hu:=hg.done;have hlong:=hg.long;obtain⟨o1,o2,o3,o4⟩:=ins_ok (by rw[HR.out];exact Wh);have hq0:cO R.1.2.2.2.1:=(by unfold cO;omega);have Av:cO pos:=(by unfold cO;omega);have xL:cO L:=(by unfold cO;omega);have WU:cO (text.size:Int):=(by unfold cO;omega);have HU:Hid (cO R.1.2.2.2.1/\cO pos/\cO L/\cO (text.size:Int)):=⟨hq0,Av,xL,WU⟩;have had:=Rb (n:=1) (b:=text) uT (by omega) hc hI (by omega);have UA:=aM qZ;have HBC:Hid (wc.heap[g]?=M (bR (Z a1 a2 a3) (Z a4 a5 a6) (Z a7 a8 a9) (I V R.1.2.2.2.1) (I V Gf))):=qZ;rw[Wh];clear hq0 Av xL WU tX qZ BX;rcases Fp (n:=1) (b:=text) hc hI (by omega) (by omega)with⟨s1,ea,Pn,vk⟩|Pf
   ·rw[ea]at had HA;simp only at had HA;have hlen:=len_put fs (mP fs 1 text);generalize iO fs (mP fs 1 text)=jX at*;have HE:Hid (iW (s,fs,m) 73 pos n text=(((bW s1 jX (10+s1.aY) (fF 73 R.1.2.2.2.1 pos L (text.size:Int))).2.1,(bW s1 jX (10+s1.aY) (fF 73 R.1.2.2.2.1 pos L (text.size:Int))).2.2,if (bW s1 jX (10+s1.aY) (fF 73 R.1.2.2.2.1 pos L (text.size:Int))).1=0 then R.1 else m),(bW s1 jX (10+s1.aY) (fF 73 R.1.2.2.2.1 pos L (text.size:Int))).1)):=(by show _=_;rw[HA.out,Aaa (by simp[Wh]),Aaa (by simp)]);have HL:Hid ((fF 73 R.1.2.2.2.1 pos L (text.size:Int)).size=22):=TW _ _ _ _ _;have HM:Hid ((bW s1 jX (10+s1.aY) (fF 73 R.1.2.2.2.1 pos L (text.size:Int))).2.1.aY=s1.aY):=(add_same s1 jX (10+s1.aY) (fF 73 R.1.2.2.2.1 pos L (text.size:Int))).2.2.2;have t0:=Pn.2.2.2.nX;have t1:=Pn.2.2.2.rE;have TY:IntKind.i64.wrap (10+s1.aY)=10+s1.aY:=(by rw[AaE];omega);have wY:=Pn.2.2.2;have hI1':=vk.room Pn.1.2.2.1;clear HA Wh ea;go_wp2_with fail;refine had.mono ?_;rintro e w2 ⟨rfl,f2,hS2,vY⟩;clear had;have fV:=vY.far HBC.out hgx Cq;have BR:=kH.Cs uT Pm vY
    have hgr2:∀a,f2.1=M a->a.block≠g:=fun a e=>by
     rcases vY.2.2 with h|h
     ·rw[h]at e;exact Cq a e
     ·have:=h a e;omega
    obtain⟨b0,b1,b2,b3,b4,-⟩:=aW fV;have BX:w2.cell? ⟨xb,12,O⟩=M (I V s1.aY):=(by obtain⟨r7,Wd,-,-⟩:=hS2;exact(fI Wd).2.2.1);have BZ:Hid (w2.heap[g]?=M (bR (Z a1 a2 a3) (Z a4 a5 a6) (Z a7 a8 a9) (I V R.1.2.2.2.1) (I V Gf))):=fV;have HD2:Hid (kH wc w2 xb f f2):=vY;clear b0 b1 b2 b4 fV uT Pm vY;go_upto_region 22 with fail
    go_region_held3 (fun w'=>w'.cell? ⟨xb,12,O⟩=M (I V s1.aY)/\w'.cell? ⟨g,3,O⟩=M (I V R.1.2.2.2.1)) (first|(exact⟨BX,b3⟩)|(exact⟨y12,y3⟩)|(exact⟨z12,z3⟩))
     (first|(go_at_call 164;refine(Io (by decide) (by decide) HU.out.1 HU.out.2.1 HU.out.2.2.1 HU.out.2.2.2).mono ?_;rintro e w6 ⟨rfl,Gs⟩;have Yt:aL w2 w6:=⟨Gs.os,Gs.tape,Gs.output,Gs.size,Gs.block⟩;have y12:=Yt.cell BX;have y3:=Yt.cell b3)|(go_at_call 163;refine(Rb (hS2.aN Yt) (by omega) wY hI1' (by have:=HL.out;omega)).mono ?_;rintro e w7 ⟨rfl,f7,XY,Yu⟩;have z12:w7.cell? ⟨xb,12,O⟩=M (I V s1.aY):=(by obtain⟨r7,Wd,-,-⟩:=XY;rw[(fI Wd).2.2.1,HM.out]);have h7:=Yu.far (bE Yt BZ.out) hgx hgr2;have z3:w7.cell? ⟨g,3,O⟩=M (I V R.1.2.2.2.1):=(aW h7).2.2.2.1))
    clear y12 y3 z12 z3 BX b3 TY;by_cases hA:(bW s1 jX (10+s1.aY) (fF 73 R.1.2.2.2.1 pos L (text.size:Int))).1=0
    ·rw[Aad hA]at HE;have NI:=kH.Cs (hS2.aN Yt) (BR.aN Yt) Yu;obtain⟨k1,k2⟩:=Du XY NI;obtain⟨b0,b1,b2,b3,b4,-⟩:=aW h7;have Dv:After w _ xb _ _ R.1 f:=⟨f7,k1,((((kH.refl w xb f).aN hG).trans HD2.out).aN Yt).trans (Yu.trans k2)⟩;obtain⟨r7,Wd,-,-⟩:=XY;obtain⟨-,-,-,-,-,-,cf⟩:=kT Wd;have z1:=cf 13;have z2:=cf 14;have z3:=cf 15;have z4:=cf 16;have z5:=cf 17;obtain⟨e1,e2,e3,e4,e5⟩:=rF Wd;rw[hA];clear Wd cf NI k1 k2 h7 hS2 Yu BR;simp only[bS.v]at Dv;go_wp2_with fail;go_ret;rw[HE.out];exact⟨by rw[hA];rfl,Dv⟩
    ·rw[Aaa hA]at HE;have Dv:After w w7 xb _ _ m f:=⟨f7,XY,((((kH.refl w xb f).aN hG).trans HD2.out).aN Yt).trans Yu⟩;have TV:((bW s1 jX (10+s1.aY) (fF 73 R.1.2.2.2.1 pos L (text.size:Int))).1==0)=false:=(by simp[hA]);clear h7 hS2 XY Yu BR;go_wp2_with fail;go_ret;rw[HE.out];exact⟨rfl,Dv⟩
   ·have hne:(bW s fs 1 text).1≠0:=(by rcases Pf with⟨s',e,-⟩|⟨s',dU,e,-⟩<;>rw[e]<;>simp);have HE:Hid (iW (s,fs,m) 73 pos n text=(((bW s fs 1 text).2.1,(bW s fs 1 text).2.2,m),(bW s fs 1 text).1)):=(by show _=_;rw[HA.out,Aaa (by simp[Wh]),Aad hne]);have TV:((bW s fs 1 text).1==0)=false:=(by simp[hne]);clear HA Wh Pf hne;go_wp2_with fail;refine had.mono ?_;rintro e w2 ⟨rfl,hA7⟩;have Dv:=After.trans ((kH.refl w xb f).aN hG) hA7;clear had hA7 uT Pm;go_wp2_with fail;go_ret;rw[HE.out];exact⟨rfl,Dv⟩
  ·have HE:Hid (iW (s,fs,m) 73 pos n text=((s,fs,m),R.2)):=(by show _=_;rw[HA.out,Aad Wh]);have TV:(R.2 !=0)=true:=(by simp[Wh]);have Au:After w wc xb s fs m f:=⟨f,uT,(kH.refl w xb f).aN hG⟩;clear uT Pm qZ HA;go_wp2_with fail;go_ret;rw[HE.out];exact⟨rfl,Au⟩
theorem Rc {kind:Int}(hk:kindOk kind)(h:bM w xb s fs m f)(hl:fs.length<=70000)(hc:iL s)(hI:fM s.room fs)(hg:s.aX=true->eD m s.depth.toNat/\m.2.2.2.1<=1999999999)(hp:pos<=9223372036854775807)(hn:n<=9223372036854775807)(ht:text.size<=140737488355328):
 H K 108 #[U (M ⟨xb,0,O⟩),I V kind,I V pos,I V n,.string text] w fun e w'=>e=G (I V (iW (s,fs,m) kind pos n text).2)/\After w w' xb (iW (s,fs,m) kind pos n text).1.1 (iW (s,fs,m) kind pos n text).1.2.1 (iW (s,fs,m) kind pos n text).1.2.2 f:=by
 by_cases h1:s.aX=false\/s.ro=true
 ·exact wo h h1
 ·have ho:s.aX=true:=by
   cases e:s.aX with
   |true=>rfl
   |false=>exact absurd (Aac e) h1
  have hro:s.ro=false:=by
   cases e:s.ro with
   |false=>rfl
   |true=>exact absurd (Aab e) h1
  obtain⟨g1,g2⟩:=hg ho;rcases hk with rfl|rfl|rfl|rfl
  ·exact act_ins h hl hc hI g1 g2 hp ht ho hro
  ·exact Tt (Aab ⟨rfl,rfl,rfl⟩) h hl hc hI g1 g2 hp hn ho hro
  ·exact Tt (Aac ⟨Aac rfl,rfl,rfl⟩) h hl hc hI g1 g2 hp hn ho hro
  ·exact Tt (Aac ⟨Aab rfl,rfl,rfl⟩) h hl hc hI g1 g2 hp hn ho hro
theorem IL (h:tQ n l):∀f t:Int,tQ n (fZ l f t):=by
 induction l with
 |nil=>intro f t;exact sO n
 |cons p l ih=>
  intro f t;unfold fZ;obtain⟨a,b,c,d⟩:=h p (by simp);refine Ar ?_ (ih (fun q hq=>h q (by simp[hq])) _ _);split
  ·intro q hq;simp only[AbY]at hq;subst hq;simp only;omega
  ·exact sO n
def mU (b:ByteArray)(l:List (Int×Int)):ByteArray:=l.foldl (fun s p=>s++b.extract p.1.toNat (p.1+p.2).toNat) ⟨#[]⟩
theorem Iu {b:ByteArray}{k:Nat}(h:k<l.length):mU b (l.take (k+1))=mU b (l.take k)++b.extract (l.getD k (0,0)).1.toNat ((l.getD k (0,0)).1+(l.getD k (0,0)).2).toNat:=by
 unfold mU;rw[Aau h,Adj];simp[List.getD_eq_getElem?_getD,h]
theorem Tw {b:ByteArray}(h:tQ n l):∀k:Nat,((mU b (l.take k)).size:Int)<=(k:Int)*5000:=by
 intro k
 induction k with
 |zero=>exact AaZ _
 |succ k ih=>
  by_cases hk:k<l.length
  ·rw[Iu hk,dF,Acj];have hm:l.getD k (0,0)∈l:=(by rw[Abo,Aag hk];simp);obtain⟨p1,p2,p3,p4⟩:=h _ hm;omega
  ·rw[Aaq (by omega),<-Aaq (show l.length<=k by omega)];omega
def rW (x:St)(pos n:Int):ByteArray×Int:=
 if x.1.aX=false then (⟨#[]⟩,3)else if pos<0\/n<0\/sz x.2.2.1<pos\/sz x.2.2.1-pos<n then (⟨#[]⟩,5)
 else (mU (aO x.2.1 1) (fZ x.2.2.1 pos (pos+n)),0)
theorem xg (h:bM w xb s fs m f)(hl:fs.length<=70000)(hc:iL s)(hI:fM s.room fs)(hg:s.aX=true->eD m s.depth.toNat/\m.2.2.2.2<=((aO fs 1).size:Int)):
 H K 109 #[U (M ⟨xb,0,O⟩),I V pos,I V n] w fun e w'=>e=G (.tuple #[.string (rW (s,fs,m) pos n).1,I V (rW (s,fs,m) pos n).2])/\aL w w':=by
 have HS:Hid (bM w xb s fs m f):=h;obtain⟨r,hx,hf,hm⟩:=h;obtain⟨xO,-⟩:=fI hx;obtain⟨d1,-⟩:=rF hx;by_cases e1:s.aX=false
 ·have HE:Hid (rW (s,fs,m) pos n=(⟨#[]⟩,3)):=by show _=_;unfold rW;rw[Aad e1]
  rw[e1]at xO;clear hx hf hm;go_enter func109,ntmps109;go_wp2_with fail;go_ret2;rw[HE.out];exact⟨rfl,aL.refl _⟩
 ·have rV:s.aX=true:=by simpa using e1
  obtain⟨g1,g2⟩:=hg rV;rw[rV]at xO;obtain⟨⟨ta,tl,tc⟩,r2⟩:=r;obtain⟨t1,t2,t3⟩:=hm.1;simp only at t1 t2 t3;subst t2;simp only[bS.v]at d1;have kP:=g1.EW;have Gh:=g1.few;have hlong:=g1.long;have hnn:=zF g1.text;have jW:=fO (ca:=tc) t1.1 rfl kP (by omega);by_cases h1:pos<0\/n<0\/sz m.1<pos\/sz m.1-pos<n
  ·have HE:Hid (rW (s,fs,m) pos n=(⟨#[]⟩,5)):=(by show _=_;unfold rW;rw[Aaa e1,Aad h1]);clear hx hf hm t1 t3;by_cases z1:pos<0
   ·clear h1;go_enter func109,ntmps109;go_wp2_with fail;refine jW.mono ?_;rintro e w ⟨rfl,rfl⟩;clear jW;go_wp2_with fail;go_ret2;rw[HE.out];exact⟨rfl,aL.refl _⟩
   ·by_cases z2:n<0
    ·clear h1;go_enter func109,ntmps109;go_wp2_with fail;refine jW.mono ?_;rintro e w ⟨rfl,rfl⟩;clear jW;go_wp2_with fail;go_ret2;rw[HE.out];exact⟨rfl,aL.refl _⟩
    ·by_cases z3:sz m.1<pos
     ·clear h1;go_enter func109,ntmps109;go_wp2_with fail;refine jW.mono ?_;rintro e w ⟨rfl,rfl⟩;clear jW;go_wp2_with fail;go_ret2;rw[HE.out];exact⟨rfl,aL.refl _⟩
     ·have z4:sz m.1-pos<n:=(by omega);clear h1;go_enter func109,ntmps109;go_wp2_with fail;refine jW.mono ?_;rintro e w ⟨rfl,rfl⟩;clear jW;go_wp2_with fail;go_ret2;rw[HE.out];exact⟨rfl,aL.refl _⟩
  ·have HE:Hid (rW (s,fs,m) pos n=(mU (aO fs 1) (fZ m.1 pos (pos+n)),0)):=(by show _=_;unfold rW;rw[Aaa e1,Aaa h1]);have z1:¬pos<0:=(by omega);have z2:¬n<0:=(by omega);have z3:¬sz m.1<pos:=(by omega);have z4:¬sz m.1-pos<n:=(by omega);have hpt:=yS (ca:=tc) (f:=pos) (t:=pos+n) t1.1 rfl kP (by omega) (by omega) (by omega) (by omega) (by omega);have hip:=IL g1.text pos (pos+n);have Wt:=yT m.1 pos (pos+n);generalize hL:fZ m.1 pos (pos+n)=L at*;have hbz:=gD hI 1;have hrm:=hc.kI;clear hL;go_enter func109,ntmps109;go_wp2_with fail;refine jW.mono ?_;rintro e w ⟨rfl,rfl⟩;clear jW;go_wp2_with fail;refine hpt.mono ?_;rintro e w1 ⟨v,rfl,bD,dY⟩;clear hpt;have uT:=HS.out.aN dY;obtain⟨ro,rc,rfl,Bz,-⟩:=bD.form;obtain⟨r9,He,UC,-⟩:=uT;have Qg:=vW (n:=1) He UC (by omega);clear He UC bD hx hf hm t1 t3;go_wp2_with fail;refine Qg.mono ?_;rintro e w1 ⟨rfl,rfl⟩;clear Qg;generalize aO fs 1=bb at*;go_wp2_with fail
   go_loopw [11,12] (fun v i wr=> ∃k:Nat,k<=L.length/\i=I V (k:Int)/\v= .string (mU bb (L.take k))/\aL w1 wr) (fun _ i _=>L.length-(intOf i).toNat)
   case atStart=>exact⟨0,Aap _,rfl,rfl,aL.refl _⟩
   case round=>
    obtain⟨k,hk,rfl,rfl,hG⟩:=hrel;have Wu:=Tw (b:=bb) hip k;by_cases bP:k<L.length
    ·have HT:Hid (mU bb (L.take (k+1))=mU bb (L.take k)++bb.extract (L.getD k (0,0)).1.toNat ((L.getD k (0,0)).1+(L.getD k (0,0)).2).toNat):=Iu bP;have xM:L.getD k (0,0)∈L:=(by rw[Abo,Aag bP];simp);obtain⟨p1,p2,p3,p4⟩:=hip _ xM;have UD:Da wr ro L:=Bz.below hG;obtain⟨b,off,rfl,k0,k1⟩:=UD.at bP;clear xM;generalize (L.getD k (0,0)).1=x at*;generalize (L.getD k (0,0)).2=y at*;generalize mU bb (L.take k)=acc at*;have i1:(0:Int)<=(k:Int):=(by omega);have i2:(k:Int)<(L.length:Int):=(by omega);have i3:x<=x+y:=(by omega);have i4:x+y<=(bb.size:Int):=(by omega);have Ng:∀w:F,(Op.stringOp .add acc (bb.extract x.toNat (x+y).toNat)).run K w= .ok (.string (acc++bb.extract x.toNat (x+y).toNat)) w:=fun w=>AaT w _ _ (by rw[Acj];omega);clear Bz;go_wp2_with fail;go_quiet (fail);go_wp2_with fail;go_roundw
     case rel=>exact⟨k+1,by omega,by go_num,by rw[HT.out],bB hG _⟩
     case measure=>simp[intOf];omega
    ·have e9:L.take k=L:=Aaq (by omega);rw[e9];clear Bz;go_wp2_with fail;go_ret2;rw[HE.out];exact⟨rfl,aQ dY hG⟩
end Go.Proofs.YtfplgfodoiiobaaGreatDoor
