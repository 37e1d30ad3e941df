/- RefF, TreesM, TreesN, TreesO, TreesQ, TreesR (joined). -/
import Derived.Test.YtfplgfodoiiobaaGreatDoorJ06
open Option renaming none→O,some→M
open Go.Value renaming int→I,slice→Z,pointer→U
open Go.IntKind renaming i64→V
open Go.Obj renaming cells→C
open Go.Ending renaming returned→G
open Go renaming World→F,Value→Y,Calls→H
open Go.Proofs.Tryz renaming prog→K
namespace Go.Proofs.YtfplgfodoiiobaaGreatDoor
set_option maxHeartbeats 1000000
set_option maxRecDepth 100000
open Go.RowKit
variable {w w0 w':F}{tb B wb c:Nat}{l:List (Int×Int)}{rs:List Rec}{pos:Int}{r:Rec}{ao:Option Addr}{a:Addr}
def zR (m:dF)(a b:Int)(depth:Nat):dF×Int:=
 if a<0\/b<1\/sz m.1<a\/sz m.1-a<b then (m,5)
 else if 4096<(bJ m.1 a b).1.length then (m,13)else (((bJ m.1 a b).1,((a,(bJ m.1 a b).2,[])::m.2.1).take depth,[],m.2.2.2.1+1,m.2.2.2.2),0)
theorem LQ {r:fF}{m:dF}{a b c most:Int}{depth:Nat}(hm:dQ w r m)(ok:okM m)(ZL:a<=9223372036854775807)(gG:b<=9223372036854775807)(hd:depth<=100):
 H K 162 #[r.v,I V 68,I V a,I V b,I V c,I V most,I V (depth:Int)] w fun e w'=>
  ∃r',e=G (.tuple #[fF.v r',I V (zR m a b depth).2])/\dQ w' r' (zR m a b depth).1/\Below w.heap.size w w':=by
 have HM:Hid (dQ w r m):=hm;obtain⟨m1,m2,m3,m4,m5⟩:=hm;obtain⟨⟨po,tl,tc⟩,⟨uo,ul,uc⟩,⟨ro,rl,rc⟩,dn,bf⟩:=r;obtain⟨text,jA,jW,Nb,Aq⟩:=m;simp only at m1 m2 m3 m4 m5;subst m4 m5;obtain⟨o1,o2,o3,o4,o5,o6,o7,o8⟩:=ok;simp only at o1 o2 o3 o4 o5 o6 o7 o8;obtain⟨t1,t2,t3⟩:=m1;simp only at t1 t2 t3;subst t2;have bs:=lD o1;simp only[fF.v,bS.v];by_cases h1:a<0\/b<1\/sz text<a\/sz text-a<b
 ·have HE:Hid (zR (text,jA,jW,dn,bf) a b depth=((text,jA,jW,dn,bf),5)):=by show _=_;simp only[zR,if_pos h1]
  by_cases c1:a<0
  ·have d1:decide (a<0)=true:=by simp[c1]
   go_enter Tryz.func162,Tryz.ntmps162
   go_wp2_with fail
   refine(fP (l:=text) (t1.1.below (aQ (aO _ _) (aO _ _))) rfl o1 (by omega)).mono ?_;rintro e w1 ⟨rfl,rfl⟩
   go_wp2_with fail
   have B3:=(three w (C #[Z po text.length tc,Z uo ul uc,Z ro rl rc,I V dn,I V bf] 187) (C #[Z po text.length tc,Z uo ul uc,Z ro rl rc,I V dn,I V bf] 187) (C #[Z po text.length tc,Z uo ul uc,Z ro rl rc,I V dn,I V bf] 187)).2.2.2.2;refine bodyPost_ret (v:= .tuple #[.agg #[Z po text.length tc,Z uo ul uc,Z ro rl rc,I V dn,I V bf],I V 5]) (by simp[results,Tryz.results162,go_sem]) rfl ?_;rw[HE.out];exact⟨((po,text.length,tc),(uo,ul,uc),(ro,rl,rc),dn,bf),rfl,HM.out.aN B3,B3⟩
  ·have d1:decide (a<0)=false:=by simp;omega
   by_cases c2:b<1
   ·have d2:decide (b<1)=true:=by simp;omega
    go_enter Tryz.func162,Tryz.ntmps162
    go_wp2_with fail
    refine(fP (l:=text) (t1.1.below (aQ (aO _ _) (aO _ _))) rfl o1 (by omega)).mono ?_;rintro e w1 ⟨rfl,rfl⟩
    go_wp2_with fail
    have B3:=(three w (C #[Z po text.length tc,Z uo ul uc,Z ro rl rc,I V dn,I V bf] 187) (C #[Z po text.length tc,Z uo ul uc,Z ro rl rc,I V dn,I V bf] 187) (C #[Z po text.length tc,Z uo ul uc,Z ro rl rc,I V dn,I V bf] 187)).2.2.2.2;refine bodyPost_ret (v:= .tuple #[.agg #[Z po text.length tc,Z uo ul uc,Z ro rl rc,I V dn,I V bf],I V 5]) (by simp[results,Tryz.results162,go_sem]) rfl ?_;rw[HE.out];exact⟨((po,text.length,tc),(uo,ul,uc),(ro,rl,rc),dn,bf),rfl,HM.out.aN B3,B3⟩
   ·have d2:decide (b<1)=false:=by simp;omega
    by_cases c3:sz text<a
    ·have d3:decide (sz text<a)=true:=by simp[c3]
     go_enter Tryz.func162,Tryz.ntmps162
     go_wp2_with fail
     refine(fP (l:=text) (t1.1.below (aQ (aO _ _) (aO _ _))) rfl o1 (by omega)).mono ?_;rintro e w1 ⟨rfl,rfl⟩
     go_wp2_with fail
     have B3:=(three w (C #[Z po text.length tc,Z uo ul uc,Z ro rl rc,I V dn,I V bf] 187) (C #[Z po text.length tc,Z uo ul uc,Z ro rl rc,I V dn,I V bf] 187) (C #[Z po text.length tc,Z uo ul uc,Z ro rl rc,I V dn,I V bf] 187)).2.2.2.2;refine bodyPost_ret (v:= .tuple #[.agg #[Z po text.length tc,Z uo ul uc,Z ro rl rc,I V dn,I V bf],I V 5]) (by simp[results,Tryz.results162,go_sem]) rfl ?_;rw[HE.out];exact⟨((po,text.length,tc),(uo,ul,uc),(ro,rl,rc),dn,bf),rfl,HM.out.aN B3,B3⟩
    ·have d3:decide (sz text<a)=false:=by simp;omega
     have c4:sz text-a<b:=by omega
     go_enter Tryz.func162,Tryz.ntmps162
     go_wp2_with fail
     refine(fP (l:=text) (t1.1.below (aQ (aO _ _) (aO _ _))) rfl o1 (by omega)).mono ?_;rintro e w1 ⟨rfl,rfl⟩
     go_wp2_with fail
     have B3:=(three w (C #[Z po text.length tc,Z uo ul uc,Z ro rl rc,I V dn,I V bf] 187) (C #[Z po text.length tc,Z uo ul uc,Z ro rl rc,I V dn,I V bf] 187) (C #[Z po text.length tc,Z uo ul uc,Z ro rl rc,I V dn,I V bf] 187)).2.2.2.2;refine bodyPost_ret (v:= .tuple #[.agg #[Z po text.length tc,Z uo ul uc,Z ro rl rc,I V dn,I V bf],I V 5]) (by simp[results,Tryz.results162,go_sem]) rfl ?_;rw[HE.out];exact⟨((po,text.length,tc),(uo,ul,uc),(ro,rl,rc),dn,bf),rfl,HM.out.aN B3,B3⟩
 ·have a1:¬a<0:=by omega
  have a2:¬b<1:=by omega
  have a3:¬sz text<a:=by omega
  have a4:¬sz text-a<b:=by omega
  have HA:Hid (4096<(bJ text a b).1.length->zR (text,jA,jW,dn,bf) a b depth=((text,jA,jW,dn,bf),13)):=fun hf=>by simp only[zR,if_neg h1,if_pos hf]
  have HB:Hid (¬4096<(bJ text a b).1.length->zR (text,jA,jW,dn,bf) a b depth=(((bJ text a b).1,((a,(bJ text a b).2,[])::jA).take depth,[],dn+1,bf),0)):=fun hf=>by simp only[zR,if_neg h1,if_neg hf]
  clear h1;go_enter Tryz.func162,Tryz.ntmps162
  go_wp2_with fail
  refine(fP (l:=text) (t1.1.below (aQ (aO _ _) (aO _ _))) rfl o1 (by omega)).mono ?_;rintro e w1 ⟨rfl,rfl⟩
  go_upto_region 19 with fail
  obtain⟨r1,r2,r3,q4,B2⟩:=three w (bK (Z po text.length tc) (Z uo ul uc) (Z ro rl rc) (I V dn) (I V bf)) (bK (Z O 0 0) (Z O 0 0) (Z O 0 0) (I V 0) (I V 0)) (bK (Z po text.length tc) (Z uo ul uc) (Z ro rl rc) (I V dn) (I V bf))
  rw[show(Obj.cells #[Z po text.length tc,Z uo ul uc,Z ro rl rc,I V dn,I V bf] 187)=bK (Z po text.length tc) (Z uo ul uc) (Z ro rl rc) (I V dn) (I V bf) from rfl,
   show(Obj.cells #[Z O 0 0,Z O 0 0,Z O 0 0,I V 0,I V 0] 187)=bK (Z O 0 0) (Z O 0 0) (Z O 0 0) (I V 0) (I V 0) from rfl]
  generalize ((w.alloc (bK (Z po text.length tc) (Z uo ul uc) (Z ro rl rc) (I V dn) (I V bf))).alloc (bK (Z O 0 0) (Z O 0 0) (Z O 0 0) (I V 0) (I V 0))).alloc (bK (Z po text.length tc) (Z uo ul uc) (Z ro rl rc) (I V dn) (I V bf))=w2 at*;clear q4;obtain⟨x0,x1,x2,x3,x4,-⟩:=aT r1;have n1:w.heap.size≠w.heap.size+1+1:=by omega
  have n2:w.heap.size+1≠w.heap.size+1+1:=by omega
  go_wp2_with fail
  refine(Yv (l:=text) (t1.below B2) rfl t3 o1 (by omega) (by omega) (by omega) (by omega)).mono ?_;rintro e w3 ⟨qP,Kk,go3,gc3,rfl,Ki,Qo,yE,hgn3,sZ⟩;have r1':=bD sZ r1;have r2':=bD sZ r2;have B_:=bD sZ r3;have B3:=aQ B2 sZ;have t3':bL w3 (qP,(bJ text a b).1.length,Kk) (bJ text a b).1:=⟨Ki,rfl,Qo⟩;have g3':bL w3 (go3,(bJ text a b).2.length,gc3) (bJ text a b).2:=⟨yE,rfl,hgn3⟩;clear r1 r2 r3 x0 x1 x2 x3 x4 Ki Qo yE hgn3;obtain⟨z0,-,-,-,-,z5,-⟩:=aT B_
  go_upto_region 21 with fail
  have s1:=dN (g:=w.heap.size+1+1) (i:=0) (v:=Z qP (bJ text a b).1.length Kk) r1' n1;have s2:=dN (g:=w.heap.size+1+1) (i:=0) (v:=Z qP (bJ text a b).1.length Kk) r2' n2;have s3:=mZ (v:=Z qP (bJ text a b).1.length Kk) B_;have t4:=t3'.jD (i:=0) (v:=Z qP (bJ text a b).1.length Kk) B_;have g4:=g3'.jD (i:=0) (v:=Z qP (bJ text a b).1.length Kk) B_;have B4:Below w.heap.size w (w3.setCell ⟨w.heap.size+1+1,0,O⟩ (Z qP (bJ text a b).1.length Kk)):=B3.setCell (p:=⟨w.heap.size+1+1,0,O⟩) (by simp only;omega) _;clear r1' r2' B_ z0 z5 sZ B3 t3' g3';generalize w3.setCell ⟨w.heap.size+1+1,0,O⟩ (Z qP (bJ text a b).1.length Kk)=w4 at*;obtain⟨x0,x1,x2,x3,x4,-⟩:=aT s1
  go_wp2_with fail
  refine(zN (r:=(a,(go3,(bJ text a b).2.length,gc3),(O,0,0))) (e:=(a,(bJ text a b).2,[])) (x:=(uo,ul,uc)) (l:=jA) ⟨rfl,g4,⟨yF.nil _,rfl,fun _=>⟨rfl,rfl⟩⟩⟩ (m2.aN B4) (by omega) (by omega)).mono ?_;rintro e w5 ⟨⟨yo,yn,yc⟩,rfl,hy5,pY⟩;simp only[bS.v];have u1:=bD pY s1;have u2:=bD pY s2;have u3:=bD pY s3;have t5:=t4.aN pY;have B5:=aQ B4 pY;clear s1 s2 s3 x0 x1 x2 x3 x4 t4 g4 B4 pY;obtain⟨x0,x1,x2,x3,x4,-⟩:=aT u1;obtain⟨y0,y1,y2,y3,y4,f0,f1,f2,f3,f4⟩:=aT u3
  go_upto_region 39 with fail
  have v1:=dN (g:=w.heap.size+1+1) (i:=2) (v:=Z O 0 0) (dN (g:=w.heap.size+1+1) (i:=1) (v:=Z yo yn yc) u1 n1) n1;have v2:=dN (g:=w.heap.size+1+1) (i:=2) (v:=Z O 0 0) (dN (g:=w.heap.size+1+1) (i:=1) (v:=Z yo yn yc) u2 n2) n2;have u4:=lI (v:=Z yo yn yc) u3;have v3:=lJ (v:=Z O 0 0) u4;have t6:=(t5.jD (i:=1) (v:=Z yo yn yc) u3).jD (i:=2) (v:=Z O 0 0) u4;have e6:=(hy5.jD (i:=1) (v:=Z yo yn yc) u3).jD (i:=2) (v:=Z O 0 0) u4;have B6:=(B5.setCell (p:=⟨w.heap.size+1+1,1,O⟩) (by simp only;omega) (Z yo yn yc)).setCell (p:=⟨w.heap.size+1+1,2,O⟩) (by simp only;omega) (Z O 0 0);clear u1 u2 u3 u4 t5 hy5 B5 x0 x1 x2 x3 x4 y0 y1 y2 y3 y4 f0 f1 f2 f3 f4;generalize (w5.setCell ⟨w.heap.size+1+1,1,O⟩ (Z yo yn yc)).setCell ⟨w.heap.size+1+1,2,O⟩ (Z O 0 0)=w6 at*;obtain⟨x0,x1,x2,x3,x4,-⟩:=aT v1;obtain⟨k0,k1,k2,k3,k4,l0,l1,l2,l3,l4⟩:=aT v2;obtain⟨y0,y1,y2,y3,y4,f0,f1,f2,f3,f4⟩:=aT v3;have n3:w.heap.size≠w.heap.size+1:=by omega
  by_cases hf:4096<(bJ text a b).1.length
  ·have hf':(4096:Int)<((bJ text a b).1.length:Int):=by omega
   go_wp2_with fail
   obtain⟨v5,B7⟩:=zQ (T:=Z po text.length tc) (aG:=Z uo ul uc) (R:=Z ro rl rc) (D:=I V dn) (Bf:=I V bf) (by omega) v2 B6;generalize ((((w6.setCell ⟨w.heap.size+1,0,O⟩ (Z po text.length tc)).setCell ⟨w.heap.size+1,1,O⟩ (Z uo ul uc)).setCell ⟨w.heap.size+1,2,O⟩ (Z ro rl rc)).setCell ⟨w.heap.size+1,3,O⟩ (I V dn)).setCell ⟨w.heap.size+1,4,O⟩ (I V bf)=w7 at*;obtain⟨i0,i1,i2,i3,i4,-⟩:=aT v5;refine bodyPost_ret (v:= .tuple #[.agg #[Z po text.length tc,Z uo ul uc,Z ro rl rc,I V dn,I V bf],I V 13]) (by simp[results,Tryz.results162,go_sem,i0,i1,i2,i3,i4]) rfl ?_;rw[HA.out hf];exact⟨((po,text.length,tc),(uo,ul,uc),(ro,rl,rc),dn,bf),rfl,HM.out.aN B7,B7⟩
  ·have hf':¬(4096:Int)<((bJ text a b).1.length:Int):=by omega
   go_wp2_with fail
   obtain⟨v5,M7,B7⟩:=Dn (ot:=w.heap.size+1+1) (rs:=w.heap.size+1) (T:=(qP,(bJ text a b).1.length,Kk)) (aG:=(yo,yn,yc)) (R:=(O,0,0)) (D:=dn) (D':=dn+1) (Bf:=bf) n2 (by omega) (by omega) v2 v3 t6 e6 (eX.nil _) B6;simp only[bS.v]at v5 M7 B7;generalize ((((((w6.setCell ⟨w.heap.size+1+1,3,O⟩ (I V (dn+1))).setCell ⟨w.heap.size+1,0,O⟩ (Z qP (bJ text a b).1.length Kk)).setCell ⟨w.heap.size+1,1,O⟩ (Z yo yn yc)).setCell ⟨w.heap.size+1,2,O⟩ (Z O 0 0)).setCell ⟨w.heap.size+1,3,O⟩ (I V (dn+1))).setCell ⟨w.heap.size+1,4,O⟩ (I V (bf)))=w7 at*;obtain⟨i0,i1,i2,i3,i4,-⟩:=aT v5;refine bodyPost_ret (v:= .tuple #[.agg #[Z qP (bJ text a b).1.length Kk,Z yo yn yc,Z O 0 0,I V (dn+1),I V (bf)],I V 0]) (by simp[results,Tryz.results162,go_sem,i0,i1,i2,i3,i4]) rfl ?_;rw[HB.out hf]
   first
    |exact⟨((qP,(bJ text a b).1.length,Kk),(yo,yn,yc),(O,0,0),dn+1,bf),rfl,M7,B7⟩
    |exact⟨qP,(bJ text a b).1.length,Kk,yo,yn,yc,O,0,0,dn+1,bf,rfl,M7,B7⟩
def Qt (l:List (Int×Int))(pos x y:Int):List (Int×Int)×Int:=
 if pos<0\/sz l<pos then (l,5)else if ¬(1<=y/\y<=5000/\0<=x/\x<=1000000000)then (l,1)else if 4096<(DL l pos (x,y)).length then (l,13)else (DL l pos (x,y),0)
def Ic (l:List (Int×Int))(pos n:Int):List (Int×Int)×List (Int×Int)×Int:=
 if n<0\/pos<0\/sz l<pos\/sz l-pos<n then (l,[],5)else if n=0 then (l,[],0)else if 4096<(Hy l pos n).length then (l,[],13)else (Hy l pos n,vQ l pos n,0)
def oC (l:List (Int×Int))(pos:Int):(Int×Int)×Int:=
 if pos<0\/sz l<=pos then ((0,0),5)else (((bU l pos).head?).getD (0,0),0)
theorem dD.ok (t:dD w tb l):fG l/\l.length<=4096:=by
 obtain⟨_,_,_,_,h1,h2⟩:=t;exact⟨h1,h2⟩
theorem Fy (t:dD w tb l){x y:Int}:
 H K 63 #[U (M ⟨tb,0,O⟩),I V pos,.agg #[I V x,I V y]] w fun e w'=>
  e=G (I V (Qt l pos x y).2)/\dD w' tb (Qt l pos x y).1/\w.grownBy w' (M tb):=by
 by_cases h1:pos<0\/sz l<pos
 ·refine(LC t h1).mono ?_;rintro e w' ⟨rfl,hb⟩;simp only[Qt,if_pos h1];exact⟨trivial,t.below hb,jU hb _⟩
 ·by_cases h2:DJ x y
  ·refine(TD t (by omega) (by omega) h2).mono ?_;rintro e w' (⟨h3,rfl,hb⟩|⟨h3,rfl,ht,hg⟩)
   ·simp only[Qt,if_neg h1,if_neg (not_not_intro (show 1<=y/\y<=5000/\0<=x/\x<=1000000000 from h2)),if_pos h3];exact⟨trivial,t.below hb,jU hb _⟩
   ·simp only[Qt,if_neg h1,if_neg (not_not_intro (show 1<=y/\y<=5000/\0<=x/\x<=1000000000 from h2)),if_neg (Nat.not_lt.2 h3)];exact⟨trivial,ht,hg⟩
  ·refine(LD t (by omega) (by omega) h2).mono ?_;rintro e w' ⟨rfl,hb⟩;simp only[Qt,if_neg h1,if_pos (show ¬(1<=y/\y<=5000/\0<=x/\x<=1000000000) from h2)];exact⟨trivial,t.below hb,jU hb _⟩
theorem DW (t:dD w tb l){n:Int}(Um:n<=9223372036854775807)(hp2:pos<=9223372036854775807):
 H K 101 #[U (M ⟨tb,0,O⟩),I V pos,I V n] w fun e w'=>
  ∃ao,e=G (.tuple #[Z ao (Ic l pos n).2.1.length (Ic l pos n).2.1.length,I V (Ic l pos n).2.2])/\gY w' w.heap.size (Z ao (Ic l pos n).2.1.length (Ic l pos n).2.1.length) (Ic l pos n).2.1
   /\dD w' tb (Ic l pos n).1/\w.grownBy w' (M tb):=by
 by_cases h1:n<0\/pos<0\/sz l<pos\/sz l-pos<n
 ·refine(LF t Um hp2 h1).mono ?_;rintro e w' ⟨rfl,rfl⟩;simp only[Ic,if_pos h1];exact⟨O,rfl,World.ownsRow_nil _ _ _ _,t,World.grownBy.refl _ _⟩
 ·by_cases h2:n=0
  ·subst h2;refine(DN t (by omega) (by omega)).mono ?_;rintro e w' ⟨rfl,rfl⟩;simp only[Ic,if_neg h1,if_pos];exact⟨O,rfl,World.ownsRow_nil _ _ _ _,t,World.grownBy.refl _ _⟩
  ·refine(TF t (by omega) (by omega) (by omega) (by omega)).mono ?_;rintro e w' (⟨h3,rfl,hb⟩|⟨h3,g,rfl,ho,hg,ht,zG⟩)
   ·simp only[Ic,if_neg h1,if_neg h2,if_pos h3];exact⟨O,rfl,World.ownsRow_nil _ _ _ _,t.below hb,jU hb _⟩
   ·simp only[Ic,if_neg h1,if_neg h2,if_neg (Nat.not_lt.2 h3)];exact⟨_,rfl,gY.weak (B':=g) ho hg,ht,zG⟩
theorem Qu (t:dD w tb l):
 H K 104 #[U (M ⟨tb,0,O⟩),I V pos] w fun e w'=>
  e=G (.tuple #[.agg #[I V (oC l pos).1.1,I V (oC l pos).1.2],I V (oC l pos).2])/\Below w.heap.size w w':=by
 by_cases h1:pos<0\/sz l<=pos
 ·simp only[oC,if_pos h1];exact U_ t h1
 ·refine(YU t (by omega) (by omega)).mono ?_;rintro e w' ⟨q,hq,rfl,hb⟩;simp only[oC,if_neg h1,hq,Option.getD_some];exact⟨trivial,hb⟩
def Keep7 (w w':F)(wb:Nat):Prop:=
 (∀(b:Nat) (aS:Array Y) (t:TypeId) (f:Nat×Nat),t≠119->t≠160->t≠71->t≠102->t≠3->t≠114->w.heap[b]?=M (C aS t f)->w'.heap[b]?=M (C aS t f))
 /\∀nP n vp vm,w.heap[wb]?=M (qF nP n vp vm)->w'.cell? ⟨wb,0,O⟩=M nP
def StepOk (w w':F)(B wb:Nat)(rs:List Rec)(c:Nat):Prop:=Keep7 w w' wb/\Below B w w'/\∃eZ c',INV w' B wb eZ c'/\eZ.length<=rs.length+1/\c'<=c+1
theorem INV.lt (h:INV w B wb rs c):B<=w.heap.size/\wb<w.heap.size:=by
 obtain⟨nP,vp,vm,hs,h1,h2,-⟩:=h;have:=aM h1;omega
theorem INV.rec {i:Nat}(h:INV w B wb rs c)(hr:rs[i]?=M r):Hz w B r:=by
 obtain⟨nP,vp,vm,hs,-,-,-,h4,-⟩:=h;exact h4 r (List.mem_of_getElem? hr)
theorem INV.step {k:Nat}{nP vp vm TM Ux:Y}{hs g:List bS}(h1:w.heap[wb]?=M (qF nP (c:Int) vp vm))(h2:B<=wb)
 (h3:w.ownsRow B 117 1 nP rs.length (rs.map (fun r:Rec=>Value.pointer (M ⟨r.sb,0,O⟩))))(h4:∀r∈rs,Hz w B r)(h5:rs.Pairwise DR)
 (h6:w.ownsRow B 102 1 vp hs.length (hs.map bS.v))(h7:hs.length=4*c)(h8:LJ w hs)(h9:iP w B vm (marks c))
 (hr:rs[k]?=M r){ca:Nat}
 (hF:Fr w w' (fun b=>b=r.sb\/b=r.tb\/b=wb\/vp.ownBlock=M b\/vm.ownBlock=M b))(hp:w'.heap[r.sb]?=M (ZA r.tb (Z ao l.length ca)))(ht:dD w' r.tb l)(hl:yF w' ao l)
 (g1:g.length=4)(g2:w'.heap[wb]?=M (qF nP ((c:Int)+1) TM Ux))(g3:w'.ownsRow B 102 1 TM (hs++g).length ((hs++g).map bS.v))(g4:iP w' B Ux (marks (c+1)))
 (g5:∀x∈g,yF w' x.1 (List.replicate x.2.1 (mk c))/\x.2.1<=9000):INV w' B wb (rs.set k (r.sb,r.tb,ao,ca,l)) (c+1):=by
 have zS:r∈rs:=List.mem_of_getElem? hr;obtain⟨p1,⟨q1,q2,q3,-⟩,p3,p4,p5⟩:=h4 r zS;have Wi:k<rs.length:=(List.getElem?_eq_some_iff.1 hr).1
 have hX:∀b (aS:Array Y) (t:TypeId) (f:Nat×Nat),t≠119->t≠160->t≠71->t≠102->t≠3->w.heap[b]?=M (C aS t f)->¬(b=r.sb\/b=r.tb\/b=wb\/vp.ownBlock=M b\/vm.ownBlock=M b):=by
  intro b aS t f e1 e2 e3 e4 e5 hb hx;rcases hx with rfl|rfl|rfl|hx|hx
  ·exact bX hb p1 (gJ e1)
  ·exact bX hb q3 (gJ e2)
  ·exact bX hb h1 (gJ e3)
  ·exact qG h6 hb (Ne.symm e4) hx
  ·exact qG h9 hb (Ne.symm e5) hx
 refine⟨nP,TM,Ux,hs++g,by rw[g2];rfl,h2,?_,?_,?_,g3,by rw[List.length_append];omega,?_,g4⟩
 ·rw[List.length_set,List.map_set]
  have e:(rs.map (fun r:Rec=>Value.pointer (M ⟨r.sb,0,O⟩))).set k (Value.pointer (M ⟨Rec.sb (r.sb,r.tb,ao,ca,l),0,O⟩))=rs.map (fun r:Rec=>Value.pointer (M ⟨r.sb,0,O⟩)):=by
   apply List.ext_getElem?;intro i;rw[List.getElem?_set];by_cases hi:k=i
   ·subst hi;simp[Wi,Rec.sb];have:=(List.getElem?_eq_some_iff.1 hr).2;rw[this]
   ·simp[hi]
  rw[e];exact bI h3 hF (fun g aS _ e=>hX _ _ _ _ (by decide) (by decide) (by decide) (by decide) (by decide) e)
 ·intro s Pf;obtain⟨i,hi,rfl⟩:=List.getElem_of_mem Pf;rw[List.getElem_set];by_cases Uz:k=i
  ·rw[if_pos Uz];exact⟨hp,ht,hl,p4,p5⟩
  ·rw[if_neg Uz];have Va:i<rs.length:=by simpa using hi
   have Eg:DR rs[i] r:=by
    have Pg:rs[k]=r:=(List.getElem?_eq_some_iff.1 hr).2;rcases Nat.lt_or_ge i k with bT|Oe
    ·have:=List.pairwise_iff_getElem.1 h5 i k Va Wi bT;rw[Pg]at this;exact this
    ·have:=List.pairwise_iff_getElem.1 h5 k i Wi Va (by omega);rw[Pg]at this;exact⟨this.1.symm,this.2.symm⟩
   have hi4:=h4 rs[i] (List.getElem_mem Va);have hi5:=hi4;obtain⟨z1,⟨y1,y2,y3,-⟩,-⟩:=hi4;refine hi5.fr hF ?_ ?_ (fun b la ra p h l e=>hX _ _ _ _ (by decide) (by decide) (by decide) (by decide) (by decide) e) (fun b aS e=>hX _ _ _ _ (by decide) (by decide) (by decide) (by decide) (by decide) e)
   ·rintro(e|e|e|e|e)
    ·exact Eg.1 e
    ·rw[e]at z1;exact bX z1 q3 (gJ (by decide))
    ·rw[e]at z1;exact bX z1 h1 (gJ (by decide))
    ·exact qG h6 z1 (by decide) e
    ·exact qG h9 z1 (by decide) e
   ·rintro(e|e|e|e|e)
    ·rw[e]at y3;exact bX y3 p1 (gJ (by decide))
    ·exact Eg.2 e
    ·rw[e]at y3;exact bX y3 h1 (gJ (by decide))
    ·exact qG h6 y3 (by decide) e
    ·exact qG h9 y3 (by decide) e
 ·refine List.pairwise_iff_getElem.2 fun i j hi hj hij=>?_
  have Va:i<rs.length:=by simpa using hi
  have ZM:j<rs.length:=by simpa using hj
  have Pg:rs[k]=r:=(List.getElem?_eq_some_iff.1 hr).2;have h0:=List.pairwise_iff_getElem.1 h5 i j Va ZM hij;rw[List.getElem_set,List.getElem_set];by_cases h1:k=i
  ·subst h1;rw[if_pos rfl,if_neg (by omega)];rw[Pg]at h0;exact h0
  ·rw[if_neg h1];by_cases h2:k=j
   ·subst h2;rw[if_pos rfl];rw[Pg]at h0;exact h0
   ·rw[if_neg h2];exact h0
 ·intro i x hx;by_cases hi:i<hs.length
  ·rw[List.getElem?_append_left hi]at hx;obtain⟨a1,a2⟩:=h8 i x hx;exact⟨a1.fr hF (fun b aS e=>hX _ _ _ _ (by decide) (by decide) (by decide) (by decide) (by decide) e),a2⟩
  ·rw[List.getElem?_append_right (by omega)]at hx;have bT:=(List.getElem?_eq_some_iff.1 hx).1;rw[show i / 4=c from by omega];exact g5 x (List.mem_of_getElem? hx)
theorem INV.own {w3:F}{k:Nat}{nP vp vm:Y}{hs:List bS}(h1:w.heap[wb]?=M (qF nP (c:Int) vp vm))(h2:B<=wb)
 (h3:w.ownsRow B 117 1 nP rs.length (rs.map (fun r:Rec=>Value.pointer (M ⟨r.sb,0,O⟩))))(h4:∀r∈rs,Hz w B r)(h5:rs.Pairwise DR)
 (h6:w.ownsRow B 102 1 vp hs.length (hs.map bS.v))(h7:hs.length=4*c)(h8:LJ w hs)(h9:iP w B vm (marks c))
 (hr:rs[k]?=M r){go:Option Addr}{ca:Nat}
 (hF:Fr w w3 (fun b=>b=r.sb\/b=r.tb))(hB:Below B w w3)(hp:w3.heap[r.sb]?=M (ZA r.tb (Z ao l.length ca)))(ht:dD w3 r.tb l)(hl:yF w3 ao l)
 (hgo:∀a,go=M a->w.heap.size<=a.block)(hgt:∀a,go=M a->∃aS,w3.heap[a.block]?=M (C aS 114 (0,0)))(hag:∀a,ao=M a->∀g,go=M g->a.block≠g.block)
 (hD:aAe w3 w' B wb c nP vp vm hs go):StepOk w w' B wb rs c:=by
 obtain⟨p1,⟨q1,q2,q3,-⟩,p3,p4,p5⟩:=h4 r (List.mem_of_getElem? hr)
 have hX3:∀b (aS:Array Y) (t:TypeId) (f:Nat×Nat),t≠119->t≠160->w.heap[b]?=M (C aS t f)->¬(b=r.sb\/b=r.tb):=by
  intro b aS t f e1 e2 hb hx;rcases hx with rfl|rfl
  ·exact bX hb p1 (gJ e1)
  ·exact bX hb q3 (gJ e2)
 have w1:w3.heap[wb]?=M (qF nP (c:Int) vp vm):=hF.at h1 (hX3 _ _ _ _ (by decide) (by decide) h1);have w6:=bI h6 hF (fun g aS _ e=>hX3 _ _ _ _ (by decide) (by decide) e);have w9:iP w3 B vm (marks c):=bI h9 hF (fun g aS _ e=>hX3 _ _ _ _ (by decide) (by decide) e);obtain⟨TM,Ux,g,g1,g2,g3,g4,g5,g6,g7⟩:=hD
 have hX:∀b (aS:Array Y) (t:TypeId) (f:Nat×Nat),t≠71->t≠102->t≠3->(∀a,go=M a->b≠a.block)->w3.heap[b]?=M (C aS t f)->¬(b=wb\/(∃a,go=M a/\b=a.block)\/vp.ownBlock=M b\/vm.ownBlock=M b):=by
  intro b aS t f e1 e2 e3 e4 hb hx;rcases hx with rfl|⟨a,ha,rfl⟩|hx|hx
  ·exact bX hb w1 (gJ e1)
  ·exact e4 a ha rfl
  ·exact qG w6 hb (Ne.symm e2) hx
  ·exact qG w9 hb (Ne.symm e3) hx
 have vC:∀b (aS:Array Y) (t:TypeId) (f:Nat×Nat),t≠114->w3.heap[b]?=M (C aS t f)->∀a,go=M a->b≠a.block:=by
  intro b aS t f e hb a ha Ib;obtain⟨tN,hc⟩:=hgt a ha;rw[Ib]at hb;exact bX hb hc (gJ e)
 obtain⟨u1,u2,u3,-⟩:=id ht
 have hK:Keep7 w w' wb:=by
  refine⟨fun b aS t f e1 e2 e3 e4 e5 e6 e=>?_,fun vts0 n0 vp0 vm0 e=>?_⟩
  ·have e3':=hF.at e (hX3 _ _ _ _ e1 e2 e);exact g6.at e3' (hX _ _ _ _ e3 e4 e5 (vC _ _ _ _ e6 e3') e3')
  ·rw[h1]at e
   have:nP=vts0:=by
    have e':=Option.some.inj e;unfold qF at e';injection e' with e1;have:=congrArg (fun x:Array Y=>x[0]?) e1;simpa using this
   subst this;exact(DT g2).1
 refine⟨hK,⟨g7.os.trans hB.os,g7.tape.trans hB.tape,g7.output.trans hB.output,Nat.le_trans hB.size g7.size,fun b hb=>(g7.block b hb).trans (hB.block b hb)⟩,_,c+1,INV.step h1 h2 h3 h4 h5 h6 h7 h8 h9 hr ?_ (g6.at hp ?_) (ht.fr g6 ?_ ?_) ⟨hl.1.fr g6 ?_,?_⟩ g1 g2 g3 g4 g5,by simp,by omega⟩
 ·refine⟨Nat.le_trans hF.1 g6.1,fun b hb hx=>?_⟩;have e1:=hF.2 b hb (fun e=>hx (by rcases e with e|e;exact Or.inl e;exact Or.inr (Or.inl e)));refine(g6.2 b (Nat.lt_of_lt_of_le hb hF.1) ?_).trans e1;rintro(e|⟨a,ha,rfl⟩|e|e)
  ·exact hx (Or.inr (Or.inr (Or.inl e)))
  ·have:=hgo a ha;omega
  ·exact hx (Or.inr (Or.inr (Or.inr (Or.inl e))))
  ·exact hx (Or.inr (Or.inr (Or.inr (Or.inr e))))
 ·exact hX _ _ _ _ (by decide) (by decide) (by decide) (vC _ _ _ _ (by decide) hp) hp
 ·exact hX _ _ _ _ (by decide) (by decide) (by decide) (vC _ _ _ _ (by decide) u3) u3
 ·intro b la ra p h l e;exact hX _ _ _ _ (by decide) (by decide) (by decide) (vC _ _ _ _ (by decide) e) e
 ·intro a ha;obtain⟨aS,hc⟩:=hl.2 a ha;exact hX _ _ _ _ (by decide) (by decide) (by decide) (fun g hg=>hag a ha g hg) hc
 ·intro a ha;obtain⟨aS,hc⟩:=hl.2 a ha;exact⟨aS,g6.at hc (hX _ _ _ _ (by decide) (by decide) (by decide) (fun g hg=>hag a ha g hg) hc)⟩
theorem aL.set (h:aL w0 w)(ha:w0.heap.size<=a.block)(v:Y):aL w0 (w.setCell a v):=Below.setCell h ha v
def Gt (tb:Nat)(w0 w:F):Prop:=w0.grownBy w (M tb)
theorem Gt.refl (tb:Nat)(w:F):Gt tb w w:=World.grownBy.refl _ _
theorem Gt.drew (h:Gt tb w0 w):Gt tb w0 w.drew:=⟨h.os,h.tape,h.output,h.size,h.block⟩
theorem Gt.more (h:Gt tb w0 w)(h2:w.grownBy w' (M tb)):Gt tb w0 w':=lF h h2
theorem Gt.cell (h:Gt tb w0 w){v:Y}(hc:w0.cell? a=M v)(hne:a.block≠tb):w.cell? a=M v:=World.grownBy.cell h hc (by simpa using hne)
theorem dD.drew (t:dD w tb l):dD w.drew tb l:=t.below ⟨rfl,rfl,rfl,Nat.le_refl _,fun _ _=>rfl⟩
theorem ZN {b c:Addr}{p q r:Y}(h1:w0.cell? a=M p)(h2:w0.cell? b=M q)(h3:w0.cell? c=M r)
 (h:aL w0 w):w.cell? a=M p/\w.cell? b=M q/\w.cell? c=M r/\aL w0 w:=⟨h.cell h1,h.cell h2,h.cell h3,h⟩
theorem gY.lt {n cap:Nat}(h:gY w B (Z ao n cap) l):∀a,ao=M a->B<=a.block/\a.block<w.heap.size:=fun a e=>by
 obtain⟨aS,h1,h2⟩:=h.typed a e;exact⟨h2,aM h1⟩
end Go.Proofs.YtfplgfodoiiobaaGreatDoor
