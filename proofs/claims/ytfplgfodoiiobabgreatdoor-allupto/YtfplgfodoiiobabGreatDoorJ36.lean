/- a part of the proof. -/
import Derived.Test.YtfplgfodoiiobabGreatDoorJ13
import Derived.Test.YtfplgfodoiiobabGreatDoorJ24
import Derived.Test.YtfplgfodoiiobabGreatDoorJ25
open Option renaming none->O,some->M
open Go.Value renaming int->I,slice->Z,pointer->U
open Go.IntKind renaming i64->V
open Go.Obj renaming cells->C
open Go.Ending renaming returned->G
open Go renaming World->F,Value->Y,Calls->H
open Go.Proofs.Tryz renaming prog→K
open Go.Proofs.Tryz
namespace Go.Proofs.YtfplgfodoiiobabGreatDoor
set_option maxHeartbeats 4000000
set_option maxRecDepth 100000
open Go.RowKit
variable {w:F}{s:Sc}{m:dI}{a b n q c pos most:Int}{xb dp db k depth g:Nat}{fs:List bD}{f:bT}{text:ByteArray}{fv:Y}{rs:List FR}{lb:Array Y}
theorem ic (h:bO w xb s fs m f):
 H K 65 #[U (M ⟨xb,0,O⟩)] w λe w'=>e=G (I V (pU s).2)/\bO w' xb (pU s).1 fs m f/\kX w w' xb f f:=by
 have n:Hid (bO w xb s fs m f):=h;obtain⟨r,c,t,j⟩:=h;obtain⟨-,-,-,-,-,i,g⟩:=lI c;have o:=g 10;clear g;by_cases a:s.aX=true
 ·have d:Hid (pU s=({ s with aX:=false },0)):=by show _=_;unfold pU;rw[Aad a]
  rw[a]at i;go_enter func65,ntmps65;go_wp2_with fail;go_ret;rw[d.out];exact⟨rfl,⟨r,Eu _ c,t.jM c,j.jM c⟩,(kX.refl _ _ _).set⟩
 ·have d:Hid (pU s=(s,3)):=by show _=_;unfold pU;rw[Aaa a]
  have k:s.aX=false:=by simpa using a
  rw[k]at i;go_enter func65,ntmps65;go_wp2_with fail;go_ret;rw[d.out];exact⟨rfl,n.out,kX.refl _ _ _⟩
theorem Vj {kd:Int}(hk:(kd=85\/kd=82)/\a=0/\b=0\/kd=68/\a=pos/\b=n)(h:bO w xb s fs m f)(hl:fs.length<=70000)(hc:iX s)(hI:gH s.room fs)(hg:eX m s.depth.toNat)(hD:m.2.2.2.1<=1999999999)(hp:pos<=9223372036854775807)(hn:n<=9223372036854775807)(ho:s.aX=true)(hro:s.ro=false):
 H K 56 #[U (M ⟨xb,0,O⟩),I V kd,I V pos,I V n,.string text] w λe w'=>e=G (I V (jH (s,fs,m) kd pos n text).2)/\After w w' xb (jH (s,fs,m) kd pos n text).1.1 (jH (s,fs,m) kd pos n text).1.2.1 (jH (s,fs,m) kd pos n text).1.2.2 f:=by
 have HS:Hid (bO w xb s fs m f):=h;obtain⟨c2,Iw⟩:=h.row;obtain⟨r,hx,hf,hm⟩:=h;obtain⟨yN,Yn,D,c0,c1⟩:=gD hx;obtain⟨d1,d2,d3,d4,d5⟩:=rX hx;rw[ho]at yN;rw[hro]at Yn
 have HA:Hid (jH (s,fs,m) kd pos n text=if (iD m kd a b 0 s.most s.depth.toNat).2≠0 then ((s,fs,m),(iD m kd a b 0 s.most s.depth.toNat).2)else (((bY s fs (10+s.aY) (fV kd (iD m kd a b 0 s.most s.depth.toNat).1.2.2.2.1 a b 0)).2.1,(bY s fs (10+s.aY) (fV kd (iD m kd a b 0 s.most s.depth.toNat).1.2.2.2.1 a b 0)).2.2,if (bY s fs (10+s.aY) (fV kd (iD m kd a b 0 s.most s.depth.toNat).1.2.2.2.1 a b 0)).1=0 then (iD m kd a b 0 s.most s.depth.toNat).1 else m),(bY s fs (10+s.aY) (fV kd (iD m kd a b 0 s.most s.depth.toNat).1.2.2.2.1 a b 0)).1)):=by
  show _=_;unfold jH;rcases hk with⟨rfl|rfl,rfl,rfl⟩|⟨rfl,rfl,rfl⟩<;>simp[ho,hro]
 have m0:=hc.KU;have m1:=hc.AP;have p0:=hc.zL;have p1:=hc.xW;have q0:=hc.oM;have q1:=hc.rW;have Vk:∀w1,eT w1 r m->_:=λw1 Iu=>Ka (w:=w1) (r:=r) (kind:=kd) (a:=a) (b:=b) (c:=0) (most:=s.most) (d:=s.depth) (by unfold kindOk;omega) Iu hg p0 p1 (by omega) (by omega) (by omega) (by omega) m0 m1;have S:Hid _:=hk;have a0:0<=kd:=by omega
 have P:kd<256:=by omega
 have b9:(kd==73)=false:=by rw[Aat];omega
 clear hk;generalize hR:iD m kd a b 0 s.most s.depth.toNat=R at Vk HA;have HR:Hid _:=hR;clear hR hx hf;obtain⟨⟨po,tl,tc⟩,⟨uo,ul,uc⟩,⟨ro,rl,rc⟩,dn,bf⟩:=r;simp only[bT.v]at d1 d2 d3 d4 d5;simp only[fU.v,bT.v]at Vk;go_enter func56,ntmps56;go_upto_block 0 with fail
 go_cut [11,12,13] from 26 to 36 (λva vb vc wc=>va=I V a/\vb=I V b/\vc=I V 0/\wc=w)
 case first=>
  rcases S.out with⟨rfl|rfl,rfl,rfl⟩|⟨rfl,rfl,rfl⟩
  all_goals
   go_wp2
   go_meet;exact⟨rfl,rfl,rfl,rfl⟩
 case rest=>
 obtain⟨rfl,rfl,rfl,rfl⟩:=hcut
 rename F=>w
 go_upto_region 16 with fail
 go_cut [14,15] (λp e wc=> ∃(g:Nat) (o:fU),p=U (M ⟨g,0,O⟩)/\e=I V R.2/\wc.heap[g]?=M (bU o.1.v o.2.1.v o.2.2.1.v (I V o.2.2.2.1) (I V o.2.2.2.2))/\w.heap.size<=g/\eT wc o R.1/\aL w wc)
 case first=>
  have ga:=aL.refl w
  go_region_held3 (λw'=>w'.cell? ⟨xb,13,O⟩=M (Z po tl tc)/\w'.cell? ⟨xb,14,O⟩=M (Z uo ul uc)/\w'.cell? ⟨xb,15,O⟩=M (Z ro rl rc)/\w'.cell? ⟨xb,16,O⟩=M (I V dn)/\w'.cell? ⟨xb,17,O⟩=M (I V bf)/\w'.cell? ⟨xb,0,O⟩=M (I V s.most)/\w'.cell? ⟨xb,1,O⟩=M (I V s.depth)/\aL w w')
   (first|(refine TA d1 d2 d3 d4 d5 c0 c1 ?_;go_split_ands;with_reducible (first|assumption|exact aL.alloc k _|exact dK k (Aak _) _ _ _ _ _|exact dK (aL.alloc k _) k.le _ _ _ _ _|(refine aL.alloc ?_ _;assumption)|exact aL.drew k|exact aL.drew (aL.alloc k _)|exact aL.drew (dK k (Aak _) _ _ _ _ _)|(refine aL.drew (aL.alloc ?_ _);assumption)|(refine aL.drew ?_;assumption))))
   (first|(go_at_call 99;refine(Vk _ (by go_split_ands;exact hm.aN (by assumption))).mono ?_;rintro e w5 ⟨o,rfl,b5,lN⟩;have k:aL w w5:=aL.more (by go_split_ands;assumption) lN;first|(refine Hl lN ?_;intro y0 y1 y2 y3 y4 yf yh)|(refine Oz lN ?_;intro y0 y1 y2 y3 y4 yf yh)|skip))
  all_goals go_wp2
  all_goals go_meet
  ·exact⟨_,o,rfl,rfl,Aag w5 _,k.le,b5.aN (aO _ _),k.alloc _⟩
  ·exact⟨_,o,rfl,rfl,qJ yh.out _ _ _ _ _,Aak _,b5.KV yh.out _ _ _ _ _,dK k (Aak _) _ _ _ _ _⟩
 case rest=>
  obtain⟨g,⟨⟨a1,a2,a3⟩,⟨a4,a5,a6⟩,⟨a7,a8,a9⟩,Yl,Ib⟩,rfl,rfl,L,Dm,W,hG⟩:=hcut
  rename F=>wc
  have b8:=W.2.2.2.1;subst b8;simp only[bT.v]at L;have y:=HS.out.aN hG;have b7:g≠xb:=by omega
  have Bd:∀a,f.1=M a->a.block≠g:=λa e=>by have:=Iw a e;omega
  have ET:=hG.cell D;clear d1 d2 d3 d4 d5 c0 c1 yN Yn D Vk hm;by_cases u:R.2=0
  ·have tY:R.1.2.2.2.1=m.2.2.2.1+1:=(by rw[<-HR.out]at u ⊢;exact KW u);have hu:=hg.done;have b6:=hg.long
   have i:dF a/\dF b:=by
    unfold dF;rcases S.out with⟨-,rfl,rfl⟩|⟨rfl,rfl,rfl⟩
    ·omega
    ·obtain⟨o1,o2,o3,o4⟩:=del_ok (by rw[HR.out];exact u);omega
   obtain⟨b0,b1,b2,b3,b4,-⟩:=aV L;have z:Hid (jH (s,fs,m) kd pos n text=(((bY s fs (10+s.aY) (fV kd R.1.2.2.2.1 a b 0)).2.1,(bY s fs (10+s.aY) (fV kd R.1.2.2.2.1 a b 0)).2.2,if (bY s fs (10+s.aY) (fV kd R.1.2.2.2.1 a b 0)).1=0 then R.1 else m),(bY s fs (10+s.aY) (fV kd R.1.2.2.2.1 a b 0)).1)):=(by show _=_;rw[HA.out,Aaa (by simp[u])]);have j:=XJ kd R.1.2.2.2.1 a b 0;have AV:=(add_same s fs (10+s.aY) (fV kd R.1.2.2.2.1 a b 0)).2.2.2;have E:dF R.1.2.2.2.1:=(by unfold dF;omega);have au:dF 0:=(by unfold dF;omega);have HU:Hid (dF R.1.2.2.2.1/\dF a/\dF b/\dF 0):=⟨E,i.1,i.2,au⟩;have HL:Hid _:=j;have HM:Hid _:=AV;have d_:Hid _:=L;have XK:IntKind.i64.wrap (10+s.aY)=10+s.aY:=(by rw[AaC];omega);rw[u];clear E i au j AV tY L b0 b1 b2 b4 HA u;go_upto_region 22 with fail
   go_region_held3 (λw'=>w'.cell? ⟨xb,12,O⟩=M (I V s.aY)/\w'.cell? ⟨g,3,O⟩=M (I V R.1.2.2.2.1)) (first|(exact⟨ET,b3⟩)|(exact⟨N,y3⟩)|(exact⟨B,z3⟩))
    (first|(go_at_call 101;refine(Jw a0 P HU.out.1 HU.out.2.1 HU.out.2.2.1 HU.out.2.2.2).mono ?_;rintro e w6 ⟨rfl,X⟩;have t:aL wc w6:=⟨X.os,X.tape,X.output,X.size,X.block⟩;have N:=t.cell ET;have y3:=t.cell b3)|(go_at_call 100;refine(Tm (y.aN t) (by omega) hc hI (by have:=HL.out;omega)).mono ?_;rintro e w7 ⟨rfl,f7,jl,x⟩;have B:w7.cell? ⟨xb,12,O⟩=M (I V s.aY):=(by obtain⟨r7,J,-,-⟩:=jl;rw[(gD J).2.2.1,HM.out]);have h7:=x.far (bH t d_.out) b7 Bd;have z3:w7.cell? ⟨g,3,O⟩=M (I V R.1.2.2.2.1):=(aV h7).2.2.2.1))
   clear N y3 B z3 ET b3 XK;by_cases Q:(bY s fs (10+s.aY) (fV kd R.1.2.2.2.1 a b 0)).1=0
   ·rw[Aad Q]at z;have Ya:=kX.Ee (y.aN t) (W.aN t) x;obtain⟨k1,k2⟩:=Fb jl Ya;obtain⟨b0,b1,b2,b3,b4,-⟩:=aV h7;have Fe:After w _ xb _ _ R.1 f:=⟨f7,k1,(((kX.refl w xb f).aN hG).aN t).trans (x.trans k2)⟩;obtain⟨r7,J,-,-⟩:=jl;obtain⟨-,-,-,-,-,-,A⟩:=lI J;have z1:=A 13;have z2:=A 14;have z3:=A 15;have z4:=A 16;have z5:=A 17;obtain⟨e1,e2,e3,e4,e5⟩:=rX J;rw[Q];clear J A Ya k1 k2 h7 y x W;simp only[bT.v]at Fe
    go_wp2
    go_ret;rw[z.out];exact⟨by rw[Q];rfl,Fe⟩
   ·rw[Aaa Q]at z;have Fe:After w w7 xb _ _ m f:=⟨f7,jl,(((kX.refl w xb f).aN hG).aN t).trans x⟩;have XI:((bY s fs (10+s.aY) (fV kd R.1.2.2.2.1 a b 0)).1==0)=false:=(by simp[Q]);clear h7 y jl x W
    go_wp2
    go_ret;rw[z.out];exact⟨rfl,Fe⟩
  ·have z:Hid (jH (s,fs,m) kd pos n text=((s,fs,m),R.2)):=(by show _=_;rw[HA.out,Aad u]);have XI:(R.2 !=0)=true:=(by simp[u]);have Cm:After w wc xb s fs m f:=⟨f,y,(kX.refl w xb f).aN hG⟩;clear y W L HA
   go_wp2
   go_ret;rw[z.out];exact⟨rfl,Cm⟩
theorem act_ins (h:bO w xb s fs m f)(hl:fs.length<=70000)(hc:iX s)(hI:gH s.room fs)(hg:eX m s.depth.toNat)(hD:m.2.2.2.1<=1999999999)(hp:pos<=9223372036854775807)(ht:text.size<=140737488355328)(ho:s.aX=true)(hro:s.ro=false):
 H K 56 #[U (M ⟨xb,0,O⟩),I V 73,I V pos,I V n,.string text] w λe w'=>e=G (I V (jH (s,fs,m) 73 pos n text).2)/\After w w' xb (jH (s,fs,m) 73 pos n text).1.1 (jH (s,fs,m) 73 pos n text).1.2.1 (jH (s,fs,m) 73 pos n text).1.2.2 f:=by
 have HS:Hid (bO w xb s fs m f):=h;obtain⟨d6,Iw⟩:=h.row;obtain⟨r,hx,hf,hm⟩:=h;have hL:=Bz (n:=1) hx hf (by omega);have c8:=gN hI 1;obtain⟨yN,Yn,b5,c0,c1⟩:=gD hx;obtain⟨d1,d2,d3,d4,d5⟩:=rX hx;rw[ho]at yN;rw[hro]at Yn;have rm:=hc.kZ;have m0:=hc.KU;have m1:=hc.AP;have p0:=hc.zL;have p1:=hc.xW;have q0:=hc.oM;have q1:=hc.rW;generalize TB:((aP fs 1).size:Int)=L at hL c8;have d0:0<=L:=by omega
 have x:Hid (jH (s,fs,m) 73 pos n text=if (iD m 73 pos L (text.size:Int) s.most s.depth.toNat).2≠0 then ((s,fs,m),(iD m 73 pos L (text.size:Int) s.most s.depth.toNat).2)else if (bY s fs 1 text).1≠0 then (((bY s fs 1 text).2.1,(bY s fs 1 text).2.2,m),(bY s fs 1 text).1)else (((bY (bY s fs 1 text).2.1 (bY s fs 1 text).2.2 (10+(bY s fs 1 text).2.1.aY) (fV 73 (iD m 73 pos L (text.size:Int) s.most s.depth.toNat).1.2.2.2.1 pos L (text.size:Int))).2.1,(bY (bY s fs 1 text).2.1 (bY s fs 1 text).2.2 (10+(bY s fs 1 text).2.1.aY) (fV 73 (iD m 73 pos L (text.size:Int) s.most s.depth.toNat).1.2.2.2.1 pos L (text.size:Int))).2.2,if (bY (bY s fs 1 text).2.1 (bY s fs 1 text).2.2 (10+(bY s fs 1 text).2.1.aY) (fV 73 (iD m 73 pos L (text.size:Int) s.most s.depth.toNat).1.2.2.2.1 pos L (text.size:Int))).1=0 then (iD m 73 pos L (text.size:Int) s.most s.depth.toNat).1 else m),(bY (bY s fs 1 text).2.1 (bY s fs 1 text).2.2 (10+(bY s fs 1 text).2.1.aY) (fV 73 (iD m 73 pos L (text.size:Int) s.most s.depth.toNat).1.2.2.2.1 pos L (text.size:Int))).1)):=by
  show _=_;unfold jH;simp only[ho,hro,AbN,AaF,if_false,if_true,true_or,TB]
 clear TB;have Vk:∀w1,eT w1 r m->_:=λw1 Iu=>Ka (w:=w1) (r:=r) (kind:=73) (a:=pos) (b:=L) (c:=(text.size:Int)) (most:=s.most) (d:=s.depth) (by unfold kindOk;simp) Iu hg p0 p1 (by omega) (by omega) (by omega) (by omega) m0 m1
 generalize hR:iD m 73 pos L (text.size:Int) s.most s.depth.toNat=R at Vk x;have HR:Hid (iD m 73 pos L (text.size:Int) s.most s.depth.toNat=R):=hR;clear hR hx hf;obtain⟨⟨po,tl,tc⟩,⟨uo,ul,uc⟩,⟨ro,rl,rc⟩,dn,bf⟩:=r;simp only[bT.v]at d1 d2 d3 d4 d5;simp only[fU.v,bT.v]at Vk;go_enter func56,ntmps56;go_wp2_with fail;refine hL.mono ?_;rintro e w ⟨rfl,rfl⟩;clear hL;go_upto_region 16 with fail
 go_cut [14,15] (λp e wc=> ∃(g:Nat) (u:fU),p=U (M ⟨g,0,O⟩)/\e=I V R.2/\wc.heap[g]?=M (bU u.1.v u.2.1.v u.2.2.1.v (I V u.2.2.2.1) (I V u.2.2.2.2))/\w.heap.size<=g/\eT wc u R.1/\aL w wc)
 case first=>
  have ga:=aL.refl w
  go_region_held3 (λw'=>w'.cell? ⟨xb,13,O⟩=M (Z po tl tc)/\w'.cell? ⟨xb,14,O⟩=M (Z uo ul uc)/\w'.cell? ⟨xb,15,O⟩=M (Z ro rl rc)/\w'.cell? ⟨xb,16,O⟩=M (I V dn)/\w'.cell? ⟨xb,17,O⟩=M (I V bf)/\w'.cell? ⟨xb,0,O⟩=M (I V s.most)/\w'.cell? ⟨xb,1,O⟩=M (I V s.depth)/\aL w w')
   (first|(refine TA d1 d2 d3 d4 d5 c0 c1 ?_;go_split_ands;with_reducible (first|assumption|exact aL.alloc t _|exact dK t (Aak _) _ _ _ _ _|exact dK (aL.alloc t _) t.le _ _ _ _ _|(refine aL.alloc ?_ _;assumption)|exact aL.drew t|exact aL.drew (aL.alloc t _)|exact aL.drew (dK t (Aak _) _ _ _ _ _)|(refine aL.drew (aL.alloc ?_ _);assumption)|(refine aL.drew ?_;assumption))))
   (first|(go_at_call 99;refine(Vk _ (by go_split_ands;exact hm.aN (by assumption))).mono ?_;rintro e w5 ⟨u,rfl,a0,lN⟩;have t:aL w w5:=aL.more (by go_split_ands;assumption) lN;first|(refine Hl lN ?_;intro y0 y1 y2 y3 y4 yf yh)|(refine Oz lN ?_;intro y0 y1 y2 y3 y4 yf yh)|skip))
  all_goals go_wp2_with fail
  all_goals go_meet
  ·exact⟨_,u,rfl,rfl,Aag w5 _,t.le,a0.aN (aO _ _),t.alloc _⟩
  ·exact⟨_,u,rfl,rfl,qJ yh.out _ _ _ _ _,Aak _,a0.KV yh.out _ _ _ _ _,dK t (Aak _) _ _ _ _ _⟩
 case rest=>
  obtain⟨g,⟨⟨a1,a2,a3⟩,⟨a4,a5,a6⟩,⟨a7,a8,a9⟩,Yl,Ib⟩,rfl,rfl,rR,Dm,Ra,Q⟩:=hcut
  rename F=>wc
  have c4:Yl=R.1.2.2.2.1:=Ra.2.2.2.1;subst c4;simp only[bT.v]at rR;have J:=HS.out.aN Q;have c2:g≠xb:=by omega
  have Bd:∀a,f.1=M a->a.block≠g:=λa e=>by have:=Iw a e;omega
  have ET:=Q.cell b5;clear d1 d2 d3 d4 d5 c0 c1 yN Yn b5 Vk hm;by_cases o:R.2=0
  ·have tY:R.1.2.2.2.1=m.2.2.2.1+1:=(by rw[<-HR.out]at o ⊢;exact KW o);have hu:=hg.done;have c6:=hg.long;obtain⟨o1,o2,o3,o4⟩:=ins_ok (by rw[HR.out];exact o);have W:dF R.1.2.2.2.1:=(by unfold dF;omega);have Iy:dF pos:=(by unfold dF;omega);have yM:dF L:=(by unfold dF;omega);have au:dF (text.size:Int):=(by unfold dF;omega);have HU:Hid (dF R.1.2.2.2.1/\dF pos/\dF L/\dF (text.size:Int)):=⟨W,Iy,yM,au⟩;have j:=Tm (n:=1) (b:=text) J (by omega) hc hI (by omega);have XL:=aM rR;have c7:Hid (wc.heap[g]?=M (bU (Z a1 a2 a3) (Z a4 a5 a6) (Z a7 a8 a9) (I V R.1.2.2.2.1) (I V Ib))):=rR;rw[o];clear W Iy yM au tY rR ET;rcases Hf (n:=1) (b:=text) hc hI (by omega) (by omega)with⟨i,ea,Rb,c5⟩|Qs
   ·rw[ea]at j x;simp only at j x;have c9:=len_put fs (nN fs 1 text);generalize jA fs (nN fs 1 text)=y at*;have A:Hid (jH (s,fs,m) 73 pos n text=(((bY i y (10+i.aY) (fV 73 R.1.2.2.2.1 pos L (text.size:Int))).2.1,(bY i y (10+i.aY) (fV 73 R.1.2.2.2.1 pos L (text.size:Int))).2.2,if (bY i y (10+i.aY) (fV 73 R.1.2.2.2.1 pos L (text.size:Int))).1=0 then R.1 else m),(bY i y (10+i.aY) (fV 73 R.1.2.2.2.1 pos L (text.size:Int))).1)):=(by show _=_;rw[x.out,Aaa (by simp[o]),Aaa (by simp)]);have HL:Hid ((fV 73 R.1.2.2.2.1 pos L (text.size:Int)).size=22):=XJ _ _ _ _ _;have HM:Hid ((bY i y (10+i.aY) (fV 73 R.1.2.2.2.1 pos L (text.size:Int))).2.1.aY=i.aY):=(add_same i y (10+i.aY) (fV 73 R.1.2.2.2.1 pos L (text.size:Int))).2.2.2;have t0:=Rb.2.2.2.oM;have t1:=Rb.2.2.2.rW;have XK:IntKind.i64.wrap (10+i.aY)=10+i.aY:=(by rw[AaC];omega);have Ob:=Rb.2.2.2;have c3:=c5.room Rb.1.2.2.1;clear x o ea;go_wp2_with fail;refine j.mono ?_;rintro e X ⟨rfl,f2,k,wV⟩;clear j;have fQ:=wV.far c7.out c2 Bd;have EP:=kX.Ee J Ra wV
    have b9:∀a,f2.1=M a->a.block≠g:=λa e=>by
     rcases wV.2.2 with h|h
     ·rw[h]at e;exact Bd a e
     ·have:=h a e;omega
    obtain⟨b0,b1,b2,b3,b4,-⟩:=aV fQ;have ET:X.cell? ⟨xb,12,O⟩=M (I V i.aY):=(by obtain⟨r7,B,-,-⟩:=k;exact(gD B).2.2.1);have EU:Hid (X.heap[g]?=M (bU (Z a1 a2 a3) (Z a4 a5 a6) (Z a7 a8 a9) (I V R.1.2.2.2.1) (I V Ib))):=fQ;have b7:Hid (kX wc X xb f f2):=wV;clear b0 b1 b2 b4 fQ J Ra wV;go_upto_region 22 with fail
    go_region_held3 (λw'=>w'.cell? ⟨xb,12,O⟩=M (I V i.aY)/\w'.cell? ⟨g,3,O⟩=M (I V R.1.2.2.2.1)) (first|(exact⟨ET,b3⟩)|(exact⟨b8,y3⟩)|(exact⟨S,z3⟩))
     (first|(go_at_call 101;refine(Jw (by decide) (by decide) HU.out.1 HU.out.2.1 HU.out.2.2.1 HU.out.2.2.2).mono ?_;rintro e w6 ⟨rfl,Gw⟩;have z:aL X w6:=⟨Gw.os,Gw.tape,Gw.output,Gw.size,Gw.block⟩;have b8:=z.cell ET;have y3:=z.cell b3)|(go_at_call 100;refine(Tm (k.aN z) (by omega) Ob c3 (by have:=HL.out;omega)).mono ?_;rintro e w7 ⟨rfl,f7,jl,E⟩;have S:w7.cell? ⟨xb,12,O⟩=M (I V i.aY):=(by obtain⟨r7,B,-,-⟩:=jl;rw[(gD B).2.2.1,HM.out]);have h7:=E.far (bH z EU.out) c2 b9;have z3:w7.cell? ⟨g,3,O⟩=M (I V R.1.2.2.2.1):=(aV h7).2.2.2.1))
    clear b8 y3 S z3 ET b3 XK;by_cases hA:(bY i y (10+i.aY) (fV 73 R.1.2.2.2.1 pos L (text.size:Int))).1=0
    ·rw[Aad hA]at A;have Ya:=kX.Ee (k.aN z) (EP.aN z) E;obtain⟨k1,k2⟩:=Fb jl Ya;obtain⟨b0,b1,b2,b3,b4,-⟩:=aV h7;have P:After w _ xb _ _ R.1 f:=⟨f7,k1,((((kX.refl w xb f).aN Q).trans b7.out).aN z).trans (E.trans k2)⟩;obtain⟨r7,B,-,-⟩:=jl;obtain⟨-,-,-,-,-,-,N⟩:=lI B;have z1:=N 13;have z2:=N 14;have z3:=N 15;have z4:=N 16;have z5:=N 17;obtain⟨e1,e2,e3,e4,e5⟩:=rX B;rw[hA];clear B N Ya k1 k2 h7 k E EP;simp only[bT.v]at P;go_wp2_with fail;go_ret;rw[A.out];exact⟨by rw[hA];rfl,P⟩
    ·rw[Aaa hA]at A;have P:After w w7 xb _ _ m f:=⟨f7,jl,((((kX.refl w xb f).aN Q).trans b7.out).aN z).trans E⟩;have XI:((bY i y (10+i.aY) (fV 73 R.1.2.2.2.1 pos L (text.size:Int))).1==0)=false:=(by simp[hA]);clear h7 k jl E EP;go_wp2_with fail;go_ret;rw[A.out];exact⟨rfl,P⟩
   ·have D:(bY s fs 1 text).1≠0:=(by rcases Qs with⟨s',e,-⟩|⟨s',dZ,e,-⟩<;>rw[e]<;>simp);have A:Hid (jH (s,fs,m) 73 pos n text=(((bY s fs 1 text).2.1,(bY s fs 1 text).2.2,m),(bY s fs 1 text).1)):=(by show _=_;rw[x.out,Aaa (by simp[o]),Aad D]);have XI:((bY s fs 1 text).1==0)=false:=(by simp[D]);clear x o Qs D;go_wp2_with fail;refine j.mono ?_;rintro e X ⟨rfl,b6⟩;have P:=After.trans ((kX.refl w xb f).aN Q) b6;clear j b6 J Ra;go_wp2_with fail;go_ret;rw[A.out];exact⟨rfl,P⟩
  ·have A:Hid (jH (s,fs,m) 73 pos n text=((s,fs,m),R.2)):=(by show _=_;rw[x.out,Aad o]);have XI:(R.2 !=0)=true:=(by simp[o]);have Cm:After w wc xb s fs m f:=⟨f,J,(kX.refl w xb f).aN Q⟩;clear J Ra rR x;go_wp2_with fail;go_ret;rw[A.out];exact⟨rfl,Cm⟩
theorem cut1_pg {bx by' lo:Nat}{r:FR}(h:aU w db s fv rs)(hr:rs[lo]?=M r)(hk:k<=r.f.2.1.size)(hz:r.f.2.1.size<=2000000)(c0:w.cell? ⟨bx,0,O⟩=M (U (M ⟨db,0,O⟩)))(c0':w.cell? ⟨by',0,O⟩=M (I V (k:Int))):
 H K 210 #[I V (lo:Int),U (M ⟨bx,0,O⟩),U (M ⟨by',0,O⟩)] w λe w'=>e=G (.tuple #[])/\DoD w w' db s fv rs ((plain rs).set lo (r.f.1,r.f.2.1.extract 0 k,(k:Int))):=by
 obtain⟨g,d,rfl,E,-,L,A,c⟩:=h.at hr
 have o:Hid (∀W,aL w W->H K 211 #[U (M ⟨r.b,0,O⟩),I V (k:Int)] W λe w'=>e=G (.tuple #[])/\DoD w w' db s (Z (M ⟨g,0,O⟩) rs.length d) rs ((plain rs).set lo (r.f.1,r.f.2.1.extract 0 k,(k:Int)))):=λW a=>by
  refine(XP (w:=W) (n:=k) ⟨(a.block _ (aM c.1)).trans c.1,c.2.aN a⟩ hk hz).mono ?_;rintro e w' ⟨rfl,x,z,i,y⟩;obtain⟨u,t⟩:=(h.aN a).Mj (r':=(r.b,x,(r.f.1,r.f.2.1.extract 0 k,(k:Int)))) hr rfl (i.1.mono λb e=>Aac e) i.2 z (Aab y);exact⟨rfl,_,_,u,by rw[Hq];rfl,(Dk.bZ a).trans t⟩
 have B:(0:Int)<=(lo:Int):=by omega
 have J:(lo:Int)<(rs.length:Int):=by omega
 clear h hr c;go_enter func210,ntmps210
 go_region_law ((refine dD (by rfl) 211 _ _ (by rfl) _ (by simp[Act.eval];done) e_cut ((o.out _ (by repeat (first|exact aL.refl _|refine aL.drew ?_))).mono ?_);rintro e D ⟨rfl,j⟩;refine⟨_,rfl,?_⟩))
 all_goals go_wp2_with fail
 all_goals go_end0
 all_goals exact⟨rfl,j⟩
theorem cut_pg {ps:Nat->Addr}(h:aU w db s fv rs)(hG:Yq w ps)(hC:iX s)(ha:0<=s.after)(hI:gH s.room (plain rs))(hl:rs.length<=1000)(hk0:0<k)(hk:k<(aP (plain rs) n).size):
 H K 168 #[U (M ⟨db,0,O⟩),I V n,I V (k:Int)] w λe w'=> ∃v,e=G v/\tH w w' ps db fv rs v (bM s (plain rs) n (k:Int)):=by
 obtain⟨y,L,J⟩:=LX w (C #[U (M ⟨db,0,O⟩)] 111) (C #[I V (k:Int)] 3);have x:=h.aN y;have u:=hI.sort.1;have t:=MB u (n:=n) (by omega);obtain⟨r,z,X⟩:=yZ t;have D:=BU u t z;have P:=hI.ok _ (Aai (kM z))
 have W:Hid (H K 165 #[U (M ⟨db,0,O⟩),.string ⟨#[99,117,116]⟩,I V n,.func (.func 210) #[] #[U (M ⟨w.heap.size,0,O⟩),U (M ⟨w.heap.size+1,0,O⟩)]] ((w.alloc (C #[U (M ⟨db,0,O⟩)] 111)).alloc (C #[I V (k:Int)] 3)) λe w'=> ∃v,e=G v/\tH w w' ps db fv rs v (bM s (plain rs) n (k:Int))):=by
  cases o:(dL s (plain rs)).1 with
  |true=>
   have LW:=(Gz o).1;have hz:(r.f.2.1.extract 0 k).size≠0:=by rw[Acj,<-D];omega
   have j:bM s (plain rs) n (k:Int)=(true,(dL s (plain rs)).2.1,(plain rs).set (fF (plain rs) n) (r.f.1,r.f.2.1.extract 0 k,(k:Int))):=by
    unfold bM;rw[Aaa (by omega)];simp only[o,if_true,LW,D,Ace];rw[Ab hI.sort hz (hI.no (by omega)),Fh u,t,Aad rfl,X]
   refine(Ct (R:=λA=>DoD w A db (dL s (plain rs)).2.1 fv rs ((plain rs).set (fF (plain rs) n) (r.f.1,r.f.2.1.extract 0 k,(k:Int)))) x u (by omega) t ha hC.nV e_cut1 o (λN S E=>?_)).mono ?_
   ·refine(cut1_pg (k:=k) S z (by rw[<-D];omega) P.2.2 ?_ ?_).mono ?_
    ·have:=E.1.at L (λe=>aZ L x.1 (by decide) e);simp[World.cell?,this]
    ·have:=E.1.at J (λe=>aZ J x.1 (by decide) e);simp[World.cell?,this]
    ·rintro e A ⟨rfl,i,g,d,c,a⟩;exact⟨rfl,i,g,d,c,((Dk.bZ y).trans (Dk.Qv E.1 E.2 (Aac rfl))).trans a⟩
   ·rintro e A ⟨rfl,i,g,d,c,a⟩;exact⟨_,rfl,i,g,by rw[j];exact d,by rw[j];exact c,a,by rw[j];exact Aac ⟨rfl,rfl⟩⟩
  |false=>
   have j:bM s (plain rs) n (k:Int)=dL s (plain rs):=by
    unfold bM;rw[Aaa (by omega)];simp only[o,AaF,if_false]
   refine(Hr x (hG.aN y) hC ha hI (by omega) t o).mono ?_;rintro e A ⟨v,rfl,hE,i,g,d,c,a⟩;exact⟨v,rfl,i,g,by rw[j];exact d,by rw[j];exact c,(Dk.bZ y).trans a,by rw[j,o];exact Aab ⟨rfl,hE⟩⟩
 clear h hG hC ha hI hl y L J x u t z D P hk;go_enter func168,ntmps168;go_wp2_with fail;refine W.out.mono ?_;rintro e N ⟨v,rfl,B⟩;obtain⟨i,g,d,c,a,Q⟩:=B;have B:tH w N ps db fv rs v (bM s (plain rs) n (k:Int)):=⟨i,g,d,c,a,Q⟩;rcases Q with⟨-,rfl⟩|⟨-,bb,nm,num,rfl,-⟩
 ·clear d c a;go_wp2_with fail;go_ret;exact⟨_,rfl,B⟩
 ·clear d c a;go_wp2_with fail;go_ret;exact⟨_,rfl,B⟩
theorem doins_pg {tb:Nat}(h:aW w dp tb depth m)(hg:eX m depth)(hd:depth<=100)(h0:0<=a)(h1:a<=sz m.1)(Cr:0<=b)(eO:b<=1000000)(hc:1<=c)(Yi:c<=200)(hr:(bS m.1 a [(b,c)]).length<=4096):
 H K 176 #[U (M ⟨dp,0,O⟩),iN q a b c] w λe w'=>e=G (.tuple #[])/\aW w' dp tb depth (bS m.1 a [(b,c)],((a,[],[(b,c)])::m.2.1).take depth,[],m.2.2.2.1,m.2.2.2.2+c)/\Dk w w' (TX dp tb) (TX dp tb):=by
 have hz:=hg.long;have a0:=hg.Fa;have Ir:=hg.Dw;have Ju:=hg.Ym;have S:fC [(b,c)]:=λq g=>by simp at g;subst g;unfold nQ;simp only;omega
 have bQ:=h.lt;have HI:Hid (∀W,aL w W->H K 215 #[iN q a b c] W λe w'=> ∃d:Nat,e=G (.agg #[I V a,Z O 0 0,Z (M ⟨d,0,O⟩) 1 1])/\bJ w' (M ⟨d,0,O⟩,1,1) [(b,c)]/\aL W w'):=λW D=>Mr
 have HA:Hid (∀W (d:Nat) (o:Obj),aL w W->bJ W (M ⟨d,0,O⟩,1,1) [(b,c)]->H K 153 #[U (M ⟨dp,0,O⟩),.agg #[I V a,Z O 0 0,Z (M ⟨d,0,O⟩) 1 1]] (W.alloc o) λe w'=> ∃g1 g2 g3,e=G (Z g1 g2 g3)/\aW w' dp tb depth (bS m.1 a [(b,c)],m.2)/\bJ w' (M ⟨d,0,O⟩,1,1) [(b,c)]/\Dk w w' (TX dp tb) (TX dp tb)/\w'.heap[W.heap.size]?=M o):=λW d o D j=>by
  have E:=(aL.refl W).alloc o;have n:=h.aN (D.then E);have:=Ao n (wF (W.alloc o)) (j.aN E) (λq g=>by simp at g) (by simp) S (λq g=>by simp at g;subst g;simp only;omega) (by simp) h0 (by simp[sz];omega) (by omega) (by simpa[bN,sz]using hr);refine this.mono ?_;rintro e w' ⟨⟨g1,g2,g3⟩,rfl,hL,Q,z,-⟩;refine⟨g1,g2,g3,rfl,by simpa[bN,sz]using Q,(j.aN E).tx n z,(Dk.bZ (D.then E)).trans z,?_⟩;have:=h.lt;have h2:=D.le;exact z.1.at (Aag W o) (by rintro(e|e)<;>omega)
 have HR:Hid (∀W J (d:Nat),aW W dp tb depth (bS m.1 a [(b,c)],m.2)->bJ W (M ⟨d,0,O⟩,1,1) [(b,c)]->Dk w W (TX dp tb) (TX dp tb)->aL W J->H K 216 #[U (M ⟨dp,0,O⟩),.agg #[I V a,Z O 0 0,Z (M ⟨d,0,O⟩) 1 1]] (J.setCell ⟨dp,6,O⟩ (I V (m.2.2.2.2+c))) λe w'=>e=G (.tuple #[])/\aW w' dp tb depth (bS m.1 a [(b,c)],((a,[],[(b,c)])::m.2.1).take depth,[],m.2.2.2.1,m.2.2.2.2+c)/\Dk w w' (TX dp tb) (TX dp tb)):=λW J d n j z hG=>by
  obtain⟨u,r,y,ht,hu,hr⟩:=n.aN hG;have R:=aW.put y ((rE y).2.2.2 (m.2.2.2.2+c)) ht hu hr;have FD:=(yA (i:=6) (v:=I V (m.2.2.2.2+c)) y).2.1 _ _ (j.aN hG);have:=Rj (e:=(a,[],[(b,c)])) R ⟨rfl,wF _,FD⟩ (by simp only;omega) (by omega);refine this.mono ?_;rintro e w' ⟨rfl,h1,h2⟩;exact⟨rfl,h1,(z.trans ((Dk.bZ hG).set (Aac rfl))).trans h2⟩
 have HB:Hid (∀W (d:Nat),bJ W (M ⟨d,0,O⟩,1,1) [(b,c)]->H K 160 #[bT.v (M ⟨d,0,O⟩,1,1)] W λe w'=>e=G (I V c)/\aL W w'):=λW d j=>by
  have:=wW j S (by simp);simpa[sz]using this
 have HC:Hid (∀W,aW W dp tb depth (bS m.1 a [(b,c)],m.2)->W.cell? ⟨dp,6,O⟩=M (I V m.2.2.2.2)/\W.frozen? ⟨dp,6,O⟩=false):=λW n=>by
  obtain⟨u,r,y,-⟩:=n;obtain⟨-,-,-,-,-,-,d6,df⟩:=cZ y;exact⟨d6,df 6⟩
 have XK:IntKind.i64.wrap (m.2.2.2.2+c)=m.2.2.2.2+c:=by rw[AaC];omega
 unfold iN at*;simp only[bT.v]at HB;clear h hg S;go_enter func176,ntmps176;go_upto_region 3 with(first|(go_at_call 215;refine(HI.out _ ((aL.refl w).alloc _)).mono ?_;rintro e w2 ⟨d,rfl,L,jX⟩)|(go_at_call 153;refine(HA.out w2 d _ (((aL.refl w).alloc _).then jX) L).mono ?_;rintro e B ⟨g1,g2,g3,rfl,JA,x,t,Dn⟩));obtain⟨k0,k1,k2,-⟩:=iY Dn;obtain⟨d6,f6⟩:=HC.out B JA;have a6:dp≠w2.heap.size:=by have:=(((aL.refl w).alloc (C #[I .u8 q,I V a,I V b,I V c] 128)).then jX).le;omega
 have oh:Hid (aW B dp tb depth (bS m.1 a [(b,c)],m.2)):=JA;have A:Hid (bJ B (M ⟨d,0,O⟩,1,1) [(b,c)]):=x;have X:Hid _:=t;clear Dn JA x t
 go_region_law ((refine dD (by rfl) 160 _ _ (by rfl) _ (by simp[Act.eval];done) YE ((HB.out _ d (A.out.aN (by repeat (first|exact aL.refl _|refine aL.drew ?_)))).mono ?_);rintro q w7 ⟨rfl,k⟩;refine⟨_,rfl,?_⟩;have a1:=k.cell (show _=M (I V a) from k0);have a5:=k.cell (show _=M (Z O 0 0) from k1);have a4:=k.cell (show _=M (Z (M ⟨d,0,O⟩) 1 1) from k2);have a3:=k.cell (show _=M (I V m.2.2.2.2) from d6);have a2:=(HC.out w7 (oh.out.aN (aL.then (by repeat (first|exact aL.refl _|refine aL.drew ?_)) k))).2))
 all_goals go_wp2_with (first|(go_at_call 216;refine(HR.out B w7 d oh.out A.out X.out (aL.then (by repeat (first|exact aL.refl _|refine aL.drew ?_)) k)).mono ?_;rintro e w8 ⟨rfl,N,P⟩))
 all_goals go_end0
 all_goals exact⟨rfl,N,P⟩
theorem Cx {J fm fd:Nat}{P:F->Nat->Y->F->Prop}(hJ:J<4)(hT:TK J=(q,fm,fd))(hL:∀k,k<J->(TK k).1≠q)(em:∀(args:Array Y) (w:F),(callFunc fm args).run K w= .ok (.enter fm args) w)(eg:∀(args:Array Y) (w:F),(callFunc g args).run K w= .ok (.enter g args) w)(hm:∀W,aL w W->H K fm #[U (M ⟨dp,0,O⟩),iN q a b c,I V most] W λe w'=>e=G (I V 0)/\aL W w')(hw:∀W,aL w W->H K g lb W λe w'=> ∃t v,e=G (.iface t v)/\P W t v w'):
 H K 91 #[U (M ⟨dp,0,O⟩),iN q a b c,I V most,.func (.func g) #[] lb] w λe w'=> ∃W t v,e=G (.iface t v)/\aL w W/\P W t v w':=by
 have HL:Hid _:=hL;have HM:Hid _:=hm;have HW:Hid _:=hw;clear hm hL hw;obtain⟨d,o⟩:∃d,d=w.alloc (C #[I .u8 q,I V a,I V b,I V c] 128):=⟨_,rfl⟩;have A:d.heap[w.heap.size]?=M (C #[I .u8 q,I V a,I V b,I V c] 128 (0,0)):=by rw[o];exact Aag w _
 have E:Hid (aL w d):=by show aL _ _;rw[o];exact(aL.refl w).alloc _
 have z:Hid (∀W,aL d W->W.cell? ⟨w.heap.size,0,O⟩=M (I .u8 q)/\W.cell? ⟨w.heap.size,1,O⟩=M (I V a)/\W.cell? ⟨w.heap.size,2,O⟩=M (I V b)/\W.cell? ⟨w.heap.size,3,O⟩=M (I V c)):=λW hW=>by
  have:=(hW.block _ (aM A)).trans A;simp[World.cell?,this]
 have hK:=Ms (w:=d);have HX:Hid (∀(k:Nat),k<4->∀w,(Instr.index 222 yC (I V (k:Int))).run K w= .ok (.agg #[I .u8 (TK k).1,.func (.func (TK k).2.1) #[] #[],.func (.func (TK k).2.2) #[] #[]]) w):=λk X w=>Mt w X;generalize yC=kv at*;unfold iN at*;clear A;go_enter func91,ntmps91;go_upto_region 1 with fail;rw[<-o];clear o;go_upto_region 2 with(go_at_call 135;refine hK.mono ?_;rintro v w2 ⟨rfl,S⟩);have Ht:Hid (aL d w2):=S;clear S hK
 go_loopw [10,11,12,14] (λ_ _ _ i wr=> ∃k:Nat,k<=J/\i=I V (k:Int)/\Hid (aL d wr)) (λ_ _ _ i _=>4-(intOf i).toNat)
 case atStart=>exact⟨0,Aao _,rfl,Ht.out⟩
 case round=>
  obtain⟨k,X,rfl,h⟩:=hrel;obtain⟨b0,b1,b2,b3⟩:=z.out wr h.out;by_cases Q:k<J
  ·have j:=HX.out k (by omega);have B:=HL.out k Q;have D:=Aat.2 B;have bQ:(k:Int)<4:=(by omega);have N:=Tv k;generalize TK k=t at*;obtain⟨t1,t2,t3⟩:=t;simp only at j B D N;obtain⟨c0,-⟩:=z.out _ (h.out.alloc (C #[I .u8 t1,.func (.func t2) #[] #[],.func (.func t3) #[] #[]] 221));clear B b0 b1 b2 b3;go_wp2_with fail;go_roundw
   case rel=>exact⟨k+1,by omega,by go_num,(show aL d _ from h.out.alloc _)⟩
   case measure=>simp[intOf];omega
  ·have L:k=J:=(by omega);subst L;have j:=HX.out k hJ;rw[hT]at j;simp only at j;have bQ:(k:Int)<4:=(by omega);have n:=h.out.alloc (C #[I .u8 q,.func (.func fm) #[] #[],.func (.func fd) #[] #[]] 221);obtain⟨c0,c1,c2,c3⟩:=z.out _ n;have JE:=Aag wr (C #[I .u8 q,.func (.func fm) #[] #[],.func (.func fd) #[] #[]] 221);have k0:(wr.alloc (C #[I .u8 q,.func (.func fm) #[] #[],.func (.func fd) #[] #[]] 221)).cell? ⟨wr.heap.size,1,O⟩=M (.func (.func fm) #[] #[]):=(by simp only[World.cell?,JE];rfl);have r:=HM.out _ (E.out.then n);clear b0 b1 b2 b3;go_upto_region 4 with fail;have GA:Hid (aL d (wr.alloc (C #[I .u8 q,.func (.func fm) #[] #[],.func (.func fd) #[] #[]] 221))):=n;clear n h;have k9:(wr.alloc (C #[I .u8 q,.func (.func fm) #[] #[],.func (.func fd) #[] #[]] 221)).cell? ⟨wr.heap.size,0,O⟩=M (I .u8 q):=(by simp only[World.cell?,JE];rfl);generalize (wr.alloc _)=wa at*;go_wp2_with (first|(go_at_fn fm;refine r.mono ?_;rintro v w5 ⟨rfl,R⟩;have y:=HW.out w5 (E.out.then (GA.out.then R)))|(go_at_fn g;refine y.mono ?_;rintro v w6 ⟨t,x,rfl,u⟩));go_ret;exact⟨w5,t,x,rfl,E.out.then (GA.out.then R),u⟩
theorem FE (hL:∀k,k<4->(TK k).1≠q):
 H K 91 #[U (M ⟨dp,0,O⟩),iN q a b c,I V most,.func (.func g) #[] lb] w λe w'=> ∃v,e=G v/\TY w' v q 1/\aL w w':=by
 have D:Hid _:=hL;clear hL;obtain⟨d,j⟩:∃d,d=w.alloc (C #[I .u8 q,I V a,I V b,I V c] 128):=⟨_,rfl⟩;have n:d.heap[w.heap.size]?=M (C #[I .u8 q,I V a,I V b,I V c] 128 (0,0)):=by rw[j];exact Aag w _
 have Q:Hid (aL w d):=by show aL _ _;rw[j];exact(aL.refl w).alloc _
 have z:Hid (∀W,aL d W->W.cell? ⟨w.heap.size,0,O⟩=M (I .u8 q)/\W.cell? ⟨w.heap.size,1,O⟩=M (I V a)/\W.cell? ⟨w.heap.size,2,O⟩=M (I V b)/\W.cell? ⟨w.heap.size,3,O⟩=M (I V c)):=λW hW=>by
  have:=(hW.block _ (aM n)).trans n;simp[World.cell?,this]
 have B:=Ms (w:=d);have HX:Hid (∀(k:Nat),k<4->∀w,(Instr.index 222 yC (I V (k:Int))).run K w= .ok (.agg #[I .u8 (TK k).1,.func (.func (TK k).2.1) #[] #[],.func (.func (TK k).2.2) #[] #[]]) w):=λk A w=>Mt w A;generalize yC=kv at*;unfold iN at*;clear n;go_enter func91,ntmps91;go_upto_region 1 with fail;rw[<-j];clear j;go_upto_region 2 with(go_at_call 135;refine B.mono ?_;rintro v N ⟨rfl,y⟩);have J:Hid (aL d N):=y;clear y B
 go_loopw [10,11,12,14] (λ_ _ _ i wr=> ∃k:Nat,k<=4/\i=I V (k:Int)/\Hid (aL d wr)) (λ_ _ _ i _=>4-(intOf i).toNat)
 case atStart=>exact⟨0,Aao _,rfl,J.out⟩
 case round=>
  obtain⟨k,A,rfl,h⟩:=hrel;obtain⟨P,b1,S,b3⟩:=z.out wr h.out;by_cases x:k<4
  ·have E:=HX.out k (by omega);have o:=D.out k x;have r:=Aat.2 o;have R:(k:Int)<4:=(by omega);have u:=Tv k;generalize TK k=t at*;obtain⟨t1,X,L⟩:=t;simp only at E o r u;obtain⟨c0,-⟩:=z.out _ (h.out.alloc (C #[I .u8 t1,.func (.func X) #[] #[],.func (.func L) #[] #[]] 221));clear o P b1 S b3;go_wp2_with fail;go_roundw
   case rel=>exact⟨k+1,by omega,by go_num,(show aL d _ from h.out.alloc _)⟩
   case measure=>simp[intOf];omega
  ·have R:¬(k:Int)<4:=(by omega);go_wp2_with fail;go_ret;exact⟨_,rfl,⟨_,rfl,Aag wr _⟩,(Q.out.then h.out).alloc _⟩
theorem Vz {l:List (Int×Int)}{ul rl:List Ed}{dn bf:Int}{t u r:bT}(ht:bJ w t l)(hu:dV w u ul)(hr:dV w r rl)(Ju:ul.length<=100000)(Iw:rl.length<=100000)(hd:depth<=100)(kD:fC l)(hl:l.length<=4096)(h9:∀q∈l,q.1<=1000000000):
 H K 125 #[I V (depth:Int),MN dn bf t u r] w λe w'=> ∃dp tb,e=G (U (M ⟨dp,0,O⟩))/\aW w' dp tb depth (l,ul.take depth,rl.take depth,dn,bf)/\w.heap.size<=dp/\w.heap.size<=tb/\aL w w':=by
 have HN:Hid (∀W,H K 10 #[] W λe w'=> ∃tb,e=G (U (M ⟨tb,0,O⟩))/\cK w' tb []/\W.heap.size<=tb/\aL W w'):=λW=>by
  refine(EB W).mono ?_;rintro e w' ⟨rfl,rfl⟩;exact⟨_,rfl,Uk W,Aak _,(aL.refl W).alloc _⟩
 have HF:Hid (∀W x1 x2 x3 l0,dV W (x1,x2,x3) l0->l0.length<=100000->H K 152 #[Z x1 x2 x3,I V (depth:Int)] W λe w'=> ∃i k j,e=G (Z i k j)/\dV W (i,k,j) (l0.take depth)/\w'=W):=λW x1 x2 x3 l0 hx a0=>by
  refine(BX hx (by omega) (by omega)).mono ?_;rintro e w' ⟨⟨i,k,j⟩,rfl,hy,rfl⟩;exact⟨i,k,j,rfl,hy,rfl⟩
 have HA:Hid (∀W dp tb,aL w W->aW W dp tb depth ([],ul.take depth,rl.take depth,dn,bf)->w.heap.size<=dp->w.heap.size<=tb->H K 153 #[U (M ⟨dp,0,O⟩),.agg #[I V 0,Z O 0 0,t.v]] W λe w'=> ∃g1 g2 g3,e=G (Z g1 g2 g3)/\aW w' dp tb depth (l,ul.take depth,rl.take depth,dn,bf)/\aL w w'):=λW dp tb o hD h1 h2=>by
  have hp:=put_nil l;refine(Ao hD (wF W) (ht.aN o) (by intro q hq;simp at hq) (by simp) kD h9 (by omega) (by omega) (by simp[sz]) (by simp[sz]) (by simp only[hp];exact hl)).mono ?_;rintro e w' ⟨⟨g1,g2,g3⟩,rfl,-,J,hk,-⟩;simp only[hp]at J;exact⟨g1,g2,g3,rfl,J,YH o hk (by rintro b (rfl|rfl)<;>assumption)⟩
 have HD:Hid (∀W dp tb u1 u2 u3 a c d,W.heap[dp]?=M (C #[I V (depth:Int),U (M ⟨tb,0,O⟩),I V 0,Z u1 u2 u3,Z a c d,I V dn,I V bf] 165 (0,0))->cK W tb []->dV W (u1,u2,u3) (ul.take depth)->dV W (a,c,d) (rl.take depth)->aW W dp tb depth ([],ul.take depth,rl.take depth,dn,bf)):=λW dp tb u1 u2 u3 a c d h1 h2 h3 h4=>⟨(u1,u2,u3),(a,c,d),h1,h2,h3,h4⟩;obtain⟨S,R,t3⟩:=t;obtain⟨u1,u2,u3⟩:=u;obtain⟨a,c,d⟩:=r;unfold MN;simp only[bT.v]at*;have HU:Hid (∀W,aL w W->dV W (u1,u2,u3) ul):=λW o=>hu.aN o;have HR:Hid (∀W,aL w W->dV W (a,c,d) rl):=λW o=>hr.aN o;clear ht hu hr;obtain⟨g,X⟩:∃g,g=w.alloc (C #[I V dn,I V bf,Z S R t3,Z u1 u2 u3,Z a c d] 193):=⟨_,rfl⟩;have eO:g.heap[w.heap.size]?=M (C #[I V dn,I V bf,Z S R t3,Z u1 u2 u3,Z a c d] 193 (0,0)):=by rw[X];exact Aag w _
 have Q:Hid (aL w g):=by show aL _ _;rw[X];exact(aL.refl w).alloc _
 have HS:Hid (∀W,aL g W->W.cell? ⟨w.heap.size,0,O⟩=M (I V dn)/\W.cell? ⟨w.heap.size,1,O⟩=M (I V bf)/\W.cell? ⟨w.heap.size,2,O⟩=M (Z S R t3)/\W.cell? ⟨w.heap.size,3,O⟩=M (Z u1 u2 u3)/\W.cell? ⟨w.heap.size,4,O⟩=M (Z a c d)/\aL g W):=λW o=>by
  have A:=(o.block _ (aM eO)).trans eO;exact⟨by simp[World.cell?,A],by simp[World.cell?,A],by simp[World.cell?,A],by simp[World.cell?,A],by simp[World.cell?,A],o⟩
 clear eO;go_enter func125,ntmps125;go_upto_region 1 with fail;rw[<-X];clear X;have ga:=aL.refl g
 go_region_held3 (λw'=>w'.cell? ⟨w.heap.size,0,O⟩=M (I V dn)/\w'.cell? ⟨w.heap.size,1,O⟩=M (I V bf)/\w'.cell? ⟨w.heap.size,2,O⟩=M (Z S R t3)/\w'.cell? ⟨w.heap.size,3,O⟩=M (Z u1 u2 u3)/\w'.cell? ⟨w.heap.size,4,O⟩=M (Z a c d)/\aL g w')
  (first|(refine HS.out _ ?_;go_split_ands;with_reducible (first|assumption|(refine aL.alloc ?_ _;assumption)|(refine aL.drew ?_;assumption)|(refine aL.drew (aL.alloc ?_ _);assumption))))
  (first
   |(go_at_call 10;refine(HN.out _).mono ?_;rintro e h ⟨tb,rfl,z,y,lN⟩;have rG:aL g h:=aL.more (by go_split_ands;assumption) lN;have n:Hid (cK h tb []/\g.heap.size<=tb):=⟨z,y⟩;clear z y)
   |(go_at_call 152;(with_reducible (refine(HF.out _ u1 u2 u3 ul (HU.out _ (Q.out.then (by go_split_ands;assumption))) Ju).mono ?_));rintro e h ⟨i,k,j,rfl,E,rfl⟩;have HY:Hid (dV h (i,k,j) (ul.take depth)):=E;clear E)
   |(go_at_call 152;(with_reducible (refine(HF.out _ a c d rl (HR.out _ (Q.out.then (by go_split_ands;assumption))) Iw).mono ?_));rintro e h ⟨N,z2,P,rfl,D,rfl⟩;have HZ:Hid (dV h (N,z2,P) (rl.take depth)):=D;clear D))
 rename_i hh;obtain⟨-,-,c2,-,-,vZ⟩:=hh;have Gw:=Aag h (C #[I V (depth:Int),U (M ⟨tb,0,O⟩),I V 0,Z i k j,Z N z2 P,I V dn,I V bf] 165);have x:=(aL.refl h).alloc (C #[I V (depth:Int),U (M ⟨tb,0,O⟩),I V 0,Z i k j,Z N z2 P,I V dn,I V bf] 165);have tX:=Q.out.le;have Bn:=rG.le;have L:=HD.out _ _ tb i k j N z2 P Gw (n.out.1.below x) (HY.out.aN x) (HZ.out.aN x);have hc:=HA.out _ _ tb (Q.out.then vZ) L (by omega) (by have:=n.out.2;omega);have B:Hid (w.heap.size<=h.heap.size/\w.heap.size<=tb):=⟨by omega,by have:=n.out.2;omega⟩;clear L Gw x tX Bn vZ n HY HZ;generalize (h.alloc _)=w6 at*;go_wp2_with (go_at_call 153;refine hc.mono ?_;rintro e w7 ⟨g1,g2,g3,rfl,AY,oZ⟩);go_ret;exact⟨_,tb,rfl,AY,B.out.1,B.out.2,oZ⟩
end Go.Proofs.YtfplgfodoiiobabGreatDoor
