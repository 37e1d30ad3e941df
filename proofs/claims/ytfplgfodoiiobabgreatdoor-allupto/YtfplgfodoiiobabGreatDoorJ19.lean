/- a part of the proof. -/
import Derived.Test.YtfplgfodoiiobabGreatDoorJ12
import Derived.Test.YtfplgfodoiiobabGreatDoorJ15
open Option renaming none->O,some->M
open Go.Value renaming int->I,slice->Z,pointer->U
open Go.IntKind renaming i64->V
open Go.Obj renaming cells->C
open Go.Ending renaming returned->G
open Go renaming World->F,Value->Y,Calls->H
open Go.Proofs.Tryz renaming prog→K
open Go.Proofs.Tryz
namespace Go.Proofs.YtfplgfodoiiobabGreatDoor
set_option maxHeartbeats 2000000
set_option maxRecDepth 100000
open Go.RowKit
variable {w:F}{m:dI}{l:List AF}{tb depth db k dp:Nat}{s:Sc}{pos room n a b c most:Int}{f:AF}{fs:List bD}{r:fU}{fv:Y}{rs:List FR}
theorem ay {l:List (Int×Int)}(t:cK w tb l)(h0:0<=pos)(h1:pos<=sz l)(h2:0<n)(h3:n<=sz l-pos):
 H K 28 #[U (M ⟨tb,0,O⟩),I V pos,I V n] w λe w'=>
  (4096<(zV l pos n).length/\e=G (.tuple #[Z O 0 0,I V 13])/\Below w.heap.size w w')
  \/((zV l pos n).length<=4096/\∃g,e=G (.tuple #[Z (M ⟨g,0,O⟩) (uH l pos n).length (uH l pos n).length,I V 0])
   /\w'.ownsRow g 50 2 (Z (M ⟨g,0,O⟩) (uH l pos n).length (uH l pos n).length) (uH l pos n).length (Bh (uH l pos n))/\w.heap.size<=g
   /\cK w' tb (zV l pos n)/\w.grownBy w' (M tb)):=by
 obtain⟨r,h,x,E,ok,D⟩:=id t;obtain⟨c0,-⟩:=sV x;have S:=aM x;have bl:=kT ok;have a0:=nR l pos;have z:=nR (bV l pos) n;have a:=wP ok pos;have IY:=lF ok pos;have d:=lF IY n;have hn:(n==0)=false:=by simp;omega
 have L:¬n<0:=by omega
 have a1:¬pos<0:=by omega
 go_enter func28,ntmps28;go_wp2_with fail;refine(mG t).mono ?_;rintro e w ⟨rfl,rfl⟩;go_wp2_with fail;refine(Oh E (by omega) ok (by omega)).mono ?_;rintro e w1 ⟨r1,g1,r2,g2,rfl,X,W,N⟩;go_wp2_with fail;refine(Oh W (by omega) IY (by omega)).mono ?_;rintro e w2 ⟨r3,g3,r4,g4,rfl,Q,P,A⟩;go_wp2_with fail;refine(RJ (X.below A) P (by omega) a d).mono ?_;rintro e i ⟨q,hq,rfl,y,B⟩;have j:Below w.heap.size w i:=aQ N (aQ A B);have o:i.heap[tb]?=M (vS r):=(j.block tb S).trans x;go_wp2_with fail;by_cases k:4096<(zV l pos n).length
 ·refine(Qn y k).mono ?_;rintro e i ⟨rfl,rfl⟩;go_wp2_with fail;go_ret2;exact Aac ⟨k,rfl,j⟩
 ·refine(Zr o y (Adv k)).mono ?_;rintro e w4 ⟨rfl,rfl⟩;have u:=JL o y (iO a d) (Adv k);have tg:T (i.setCell ⟨tb,0,O⟩ (U q)) r3 g3 (dW (bV l pos) n):=T.EA (by simp[World.cell?,o,vS]) (Q.below B);have J:=Zq j tb 0 (U q);go_wp2_with fail;refine(JK tg (by omega)).mono ?_;rintro e w5 ⟨g,rfl,R,hg,c⟩;go_wp2_with fail;go_ret2;refine Aab ⟨by omega,g,rfl,R,?_,u.below c,mX J (mH c _)⟩;have:=j.size;simp only[World.setCell,Array.size_modify]at hg;omega
theorem Bv {l:List (Int×Int)}(t:cK w tb l){x y:Int}:
 H K 11 #[U (M ⟨tb,0,O⟩),I V pos,.agg #[I V x,I V y]] w λe w'=>
  e=G (I V (xL l pos x y).2)/\cK w' tb (xL l pos x y).1/\w.grownBy w' (M tb):=by
 by_cases c:pos<0\/sz l<pos
 ·refine(RP t c).mono ?_;rintro e w' ⟨rfl,a⟩;simp only[xL,Aad c];exact⟨trivial,t.below a,mH a _⟩
 ·by_cases d:Ry x y
  ·refine(ax t (by omega) (by omega) d).mono ?_;rintro e w' (⟨g,rfl,a⟩|⟨g,rfl,h,i⟩)
   ·simp only[xL,Aaa c,Aaa (Adt (show 1<=y/\y<=5000/\0<=x/\x<=1000000000 from d)),Aad g];exact⟨trivial,t.below a,mH a _⟩
   ·simp only[xL,Aaa c,Aaa (Adt (show 1<=y/\y<=5000/\0<=x/\x<=1000000000 from d)),Aaa (Nat.not_lt.2 g)];exact⟨trivial,h,i⟩
  ·refine(RQ t (by omega) (by omega) d).mono ?_;rintro e w' ⟨rfl,a⟩;simp only[xL,Aaa c,Aad (show ¬(1<=y/\y<=5000/\0<=x/\x<=1000000000) from d)];exact⟨trivial,t.below a,mH a _⟩
theorem Qr {l:List (Int×Int)}(t:cK w tb l)(Oi:n<=9223372036854775807)(hp2:pos<=9223372036854775807):
 H K 28 #[U (M ⟨tb,0,O⟩),I V pos,I V n] w λe w'=>
  ∃ao,e=G (.tuple #[Z ao (kL l pos n).2.1.length (kL l pos n).2.1.length,I V (kL l pos n).2.2])/\fH w' w.heap.size (Z ao (kL l pos n).2.1.length (kL l pos n).2.1.length) (kL l pos n).2.1
   /\cK w' tb (kL l pos n).1/\w.grownBy w' (M tb):=by
 by_cases a:n<0\/pos<0\/sz l<pos\/sz l-pos<n
 ·refine(RS t Oi hp2 a).mono ?_;rintro e w' ⟨rfl,rfl⟩;simp only[kL,Aad a];exact⟨O,rfl,AaH _ _ _ _,t,Abp _ _⟩
 ·by_cases d:n=0
  ·subst d;refine(JM t (by omega) (by omega)).mono ?_;rintro e w' ⟨rfl,rfl⟩;simp only[kL,Aaa a,Aad];exact⟨O,rfl,AaH _ _ _ _,t,Abp _ _⟩
  ·refine(ay t (by omega) (by omega) (by omega) (by omega)).mono ?_;rintro e w' (⟨c,rfl,h⟩|⟨c,g,rfl,k,i,j,o⟩)
   ·simp only[kL,Aaa a,Aaa d,Aad c];exact⟨O,rfl,AaH _ _ _ _,t.below h,mH h _⟩
   ·simp only[kL,Aaa a,Aaa d,Aaa (Nat.not_lt.2 c)];exact⟨_,rfl,fH.weak k i,j,o⟩
theorem KE (hm:eT w r m)(ok:okM m)(hd:depth<=100)(zJ:∀e rest,m.2.1=e::rest->Dl (sz m.1) e.1 e.2.2 e.2.1):
 H K 99 #[r.v,I V 85,I V a,I V b,I V c,I V most,I V (depth:Int)] w λe w'=>
  ∃r',e=G (.tuple #[fU.v r',I V (vV m depth).2])/\eT w' r' (vV m depth).1/\Below w.heap.size w w':=by
 have HM:Hid (eT w r m):=hm;obtain⟨m1,m2,m3,m4,m5⟩:=hm;obtain⟨⟨z,tl,E⟩,⟨uo,ul,j⟩,⟨A,B,y⟩,n,bf⟩:=r;obtain⟨d,jK,kC,Yl,Ib⟩:=m;simp only at m1 m2 m3 m4 m5 zJ;subst m4 m5;obtain⟨o1,o2,o3,o4,o5,o6,o7,o8⟩:=ok;simp only at o1 o2 o3 o4 o5 o6 o7 o8;obtain⟨t1,t2,t3⟩:=m1;simp only at t1 t2 t3;subst t2;have bs:=kT o1;simp only[fU.v,bT.v];cases jK with
 |nil=>
  have Ju:ul=0:=by obtain⟨b7,-,h2,-,h4,-⟩:=m2;simp at h2 h4;rw[h2,h4];rfl
  subst Ju;have HE:Hid (vV (d,[],kC,n,bf) depth=((d,[],kC,n,bf),8)):=rfl;go_enter func99,ntmps99;go_wp2_with fail;refine(cB (l:=d) (t1.1.below (aQ (aO _ _) (aO _ _))) rfl o1 (by omega)).mono ?_;rintro e w1 ⟨rfl,rfl⟩;go_wp2_with fail;have B3:=(three w (C #[Z z d.length E,Z uo 0 j,Z A B y,I V n,I V bf] 91) (C #[Z z d.length E,Z uo 0 j,Z A B y,I V n,I V bf] 91) (C #[Z z d.length E,Z uo 0 j,Z A B y,I V n,I V bf] 91)).2.2.2.2;refine Aap (v:= .tuple #[.agg #[Z z d.length E,Z uo 0 j,Z A B y,I V n,I V bf],I V 8]) (by simp[results,results99,go_sem]) rfl ?_;rw[HE.out];exact⟨((z,d.length,E),(uo,0,j),(A,B,y),n,bf),rfl,HM.out.aN B3,B3⟩
 |cons e rest=>
  obtain⟨f1,f2,f3,f4,f5,f6⟩:=zJ e rest rfl;obtain⟨t,u,er,rfl,Ju,-,e0,e1,e2,Le⟩:=m2.head;have b1:=kT f3;have a9:=Tf o1 f1 (by omega) (by omega:sz e.2.2<=sz d-e.1);have a2:=Lu o1 e.1 (sz e.2.2);have b0:=KD d e.1 (sz e.2.2);have HA:Hid (4096<(bS (bN d e.1 (sz e.2.2)).1 e.1 e.2.1).length->vV (d,e::rest,kC,n,bf) depth=((d,e::rest,kC,n,bf),13)):=λhf=>by simp only[vV,Aad hf]
  have HB:Hid (¬4096<(bS (bN d e.1 (sz e.2.2)).1 e.1 e.2.1).length->vV (d,e::rest,kC,n,bf) depth=((bS (bN d e.1 (sz e.2.2)).1 e.1 e.2.1,rest,(e::kC).take depth,n+1,bf),0)):=λhf=>by simp only[vV,Aaa hf]
  obtain⟨h,⟨xo,xn,xc⟩,⟨yo,yn,yc⟩⟩:=er;obtain⟨b3,o,k⟩:=e;obtain⟨g1,⟨g2,g3,g4⟩,⟨g5,g6,g7⟩⟩:=Le;simp only at g1 g2 g3 g4 g5 g6 g7 f1 f2 f3 f4 f5 f6 b1 a9 a2 b0;simp only[bT.v]at e0 e1 e2;subst g1 g3 g6;have j1:(0:Int)<(ul:Int):=by omega
  have j2:¬((ul:Int)=0):=by omega
  have j3:((ul:Int)==0)=false:=by rw[Aat];exact j2
  go_enter func99,ntmps99;go_wp2_with fail;refine(cB (l:=d) (t1.1.below (aQ (aO _ _) (aO _ _))) rfl o1 (by omega)).mono ?_;rintro e w1 ⟨rfl,rfl⟩;subst Ju;go_upto_region 26 with fail;obtain⟨r1,r2,r3,q4,B2⟩:=three w (bU (Z z d.length E) (Z (M ⟨t,u,O⟩) (rest.length+1) j) (Z A B y) (I V n) (I V bf)) (bU (Z O 0 0) (Z O 0 0) (Z O 0 0) (I V 0) (I V 0)) (bU (Z z d.length E) (Z (M ⟨t,u,O⟩) (rest.length+1) j) (Z A B y) (I V n) (I V bf))
  rw[show(Obj.cells #[Z z d.length E,Z (M ⟨t,u,O⟩) (rest.length+1) j,Z A B y,I V n,I V bf] 91)=bU (Z z d.length E) (Z (M ⟨t,u,O⟩) (rest.length+1) j) (Z A B y) (I V n) (I V bf) from rfl,
   show(Obj.cells #[Z O 0 0,Z O 0 0,Z O 0 0,I V 0,I V 0] 91)=bU (Z O 0 0) (Z O 0 0) (Z O 0 0) (I V 0) (I V 0) from rfl]
  generalize ((w.alloc (bU (Z z d.length E) (Z (M ⟨t,u,O⟩) (rest.length+1) j) (Z A B y) (I V n) (I V bf))).alloc (bU (Z O 0 0) (Z O 0 0) (Z O 0 0) (I V 0) (I V 0))).alloc (bU (Z z d.length E) (Z (M ⟨t,u,O⟩) (rest.length+1) j) (Z A B y) (I V n) (I V bf))=w2 at*;obtain⟨J,X,S,x3,x4,-⟩:=aV r1;have n1:w.heap.size≠w.heap.size+1+1:=by omega
  have n2:w.heap.size+1≠w.heap.size+1+1:=by omega
  have Us:=Aay B2 e0;have sP:=Aay B2 e1;have Es:=Aay B2 e2;have k1:(0:Int)<(rest.length:Int)+1:=by omega
  go_upto_region 27 with fail;have zy:=Aag w2 (C #[I V h,Z xo o.length xc,Z yo k.length yc] 231);rw[q4]at zy;have Ic:=aO w2 (C #[I V h,Z xo o.length xc,Z yo k.length yc] 231);have B3:=aQ B2 Ic;have s1:=bH Ic r1;have s2:=bH Ic r2;have s3:=bH Ic r3;clear Ic q4 r1 r2 r3 Us sP Es J X S x3 x4 B2;generalize w2.alloc (C #[I V h,Z xo o.length xc,Z yo k.length yc] 231)=w3 at*;obtain⟨J,X,S,x3,x4,-⟩:=aV s1;obtain⟨Us,sP,Es⟩:=oJ zy;have Im:=g5.below B3;have a3:=t1.below B3
  go_cut [22,23] (λv g wc=> ∃ao ca,v=Z ao (bN d h (sz k)).1.length ca/\nK wc ao (bN d h (sz k)).1/\xJ ao (bN d h (sz k)).1.length ca/\aL w3 wc)
  case first=>
   have ga:=aL.refl w3;clear e0 e1 e2 sP m2 m3 s1 s2 s3 zy
   go_region_held3 (λw'=>w'.cell? ⟨w.heap.size,0,O⟩=M (Z z d.length E)/\w'.cell? ⟨w.heap.size+1+1+1,0,O⟩=M (I V h)/\w'.cell? ⟨w.heap.size+1+1+1,2,O⟩=M (Z yo k.length yc)/\aL w3 w')
    (first|(refine SH J Us Es ?_;go_split_ands;first|assumption|(exact aL.drew (by assumption))|(exact aL.more (by assumption) (by assumption))))
    (first|(go_at_call 34;refine(cB (l:=k) (by go_split_ands;exact Im.1.XA (by assumption)) rfl f3 (by omega)).mono ?_;rintro e w5 ⟨rfl,rfl⟩)|(go_at_call 76;refine(EL (l:=d) (by go_split_ands;exact a3.grewT (by assumption)) rfl t3 o1 (by omega) f1 (by omega) (by omega)).mono ?_;rintro e w5 ⟨Yk,a5,b5,b6,rfl,Dv,Lr,b4,b2,lN⟩))
   all_goals go_wp2_with fail
   all_goals go_meet
   all_goals exact⟨Yk,a5,rfl,Dv,Lr,by go_split_ands;assumption⟩
  case rest=>
   obtain⟨Yk,a5,rfl,Dv,Lr,G5⟩:=hcut
   rename F=>w5
   have u1:=bH G5 s1;have u2:=bH G5 s2;have u3:=bH G5 s3;have a0:=bH G5 zy;have B5:=aQ B3 G5;have a6:=g2.below B5;clear s1 s2 s3 zy G5 J X S x3 x4 Us sP Es Im a3 B3;obtain⟨J,X,S,x3,x4,-⟩:=aV u1;obtain⟨Us,sP,Es⟩:=oJ a0;go_wp2_with fail;refine(EK (l:=(bN d h (sz k)).1) (more:=o) Dv rfl Lr a6 rfl g4 a2 (by omega) (by omega) f1 (by omega)).mono ?_;rintro e w6 ⟨L,N,rfl,Td,a4,Gw⟩;have s1:=bH Gw u1;have s2:=bH Gw u2;have s3:=bH Gw u3;have a1:=bH Gw a0;have B6:=aQ B5 Gw;have t6:bJ w6 (L,(bS (bN d h (sz k)).1 h o).length,N) (bS (bN d h (sz k)).1 h o):=⟨Td,rfl,a4⟩;clear u1 u2 u3 a0 Gw J X S x3 x4 Us sP Es Dv Lr a6 B5 Td a4;obtain⟨J,X,S,x3,x4,-⟩:=aV s1;obtain⟨Us,sP,Es⟩:=oJ a1;obtain⟨y0,y1,y2,y3,y4,z0,z1,z2,z3,z4⟩:=aV s3;have n4:w.heap.size+1+1+1≠w.heap.size+1+1:=(by omega);have k2:(1:Int)<=(rest.length:Int)+1:=(by omega);go_upto_region 30 with fail;have v1:=dR (g:=w.heap.size+1+1) (i:=1) (v:=Z (if j=1 then M ⟨t,u,O⟩else M ⟨t,u+3,O⟩) rest.length (j-1)) (dR (g:=w.heap.size+1+1) (i:=0) (v:=Z L (bS (bN d h (sz k)).1 h o).length N) s1 n1) n1;have v2:=dR (g:=w.heap.size+1+1) (i:=1) (v:=Z (if j=1 then M ⟨t,u,O⟩else M ⟨t,u+3,O⟩) rest.length (j-1)) (dR (g:=w.heap.size+1+1) (i:=0) (v:=Z L (bS (bN d h (sz k)).1 h o).length N) s2 n2) n2;have s4:=oI (v:=Z L (bS (bN d h (sz k)).1 h o).length N) s3;have v3:=nA (v:=Z (if j=1 then M ⟨t,u,O⟩else M ⟨t,u+3,O⟩) rest.length (j-1)) s4;have a7:=dR (g:=w.heap.size+1+1) (i:=1) (v:=Z (if j=1 then M ⟨t,u,O⟩else M ⟨t,u+3,O⟩) rest.length (j-1)) (dR (g:=w.heap.size+1+1) (i:=0) (v:=Z L (bS (bN d h (sz k)).1 h o).length N) a1 n4) n4;have t7:=(t6.jS (i:=0) (v:=Z L (bS (bN d h (sz k)).1 h o).length N) s3).jS (i:=1) (v:=Z (if j=1 then M ⟨t,u,O⟩else M ⟨t,u+3,O⟩) rest.length (j-1)) s4;have W:=(B6.setCell (p:=⟨w.heap.size+1+1,0,O⟩) (by simp only;omega) (Z L (bS (bN d h (sz k)).1 h o).length N)).setCell (p:=⟨w.heap.size+1+1,1,O⟩) (by simp only;omega) (Z (if j=1 then M ⟨t,u,O⟩else M ⟨t,u+3,O⟩) rest.length (j-1));have mt:=m2.tail;clear s1 s2 s3 s4 a1 t6 B6 J X S x3 x4 Us sP Es y0 y1 y2 y3 y4 z0 z1 z2 z3 z4;generalize (if j=1 then M (⟨t,u,O⟩:Addr)else M ⟨t,u+3,O⟩)=gu at*;generalize (w6.setCell ⟨w.heap.size+1+1,0,O⟩ (Z L (bS (bN d h (sz k)).1 h o).length N)).setCell ⟨w.heap.size+1+1,1,O⟩ (Z gu rest.length (j-1))=w7 at*;obtain⟨J,X,S,x3,x4,-⟩:=aV v1;obtain⟨Us,sP,Es⟩:=oJ a7;have N_:sI w7 (h,(xo,o.length,xc),(yo,k.length,yc)) (h,o,k):=⟨rfl,⟨g2.below W,rfl,g4⟩,⟨g5.below W,rfl,g7⟩⟩;go_wp2_with fail;refine(Bq (r:=(h,(xo,o.length,xc),(yo,k.length,yc))) (e:=(h,o,k)) (x:=(A,B,y)) (l:=kC) N_ (m3.aN W) (by omega) (by omega)).mono ?_;rintro e w8 ⟨⟨qo,Q,P⟩,rfl,a8,KF⟩;simp only[bT.v];have u1:=bH KF v1;have u2:=bH KF v2;have u3:=bH KF v3;have t8:=t7.aN KF;have B8:=aQ W KF;clear v1 v2 v3 a7 t7 W KF J X S x3 x4 Us sP Es N_;obtain⟨J,X,S,x3,x4,-⟩:=aV u1;obtain⟨y0,y1,y2,y3,y4,z0,z1,z2,z3,z4⟩:=aV u3;go_upto_region 39 with fail;have v1:=dR (g:=w.heap.size+1+1) (i:=2) (v:=Z qo Q P) u1 n1;have v2:=dR (g:=w.heap.size+1+1) (i:=2) (v:=Z qo Q P) u2 n2;have v3:=nC (v:=Z qo Q P) u3;have t6:=t8.jS (i:=2) (v:=Z qo Q P) u3;have e6:=a8.jS (i:=2) (v:=Z qo Q P) u3;have B6:=B8.setCell (p:=⟨w.heap.size+1+1,2,O⟩) (by simp only;omega) (Z qo Q P);clear u1 u2 u3 t8 a8 B8 J X S x3 x4 y0 y1 y2 y3 y4 z0 z1 z2 z3 z4;generalize w8.setCell ⟨w.heap.size+1+1,2,O⟩ (Z qo Q P)=w6 at*;have eU:=mt.aN B6;obtain⟨J,X,S,x3,x4,-⟩:=aV v1;obtain⟨k0,k1,k2,k3,k4,l0,l1,l2,l3,l4⟩:=aV v2;obtain⟨y0,y1,y2,y3,y4,f0,f1,f2,f3,f4⟩:=aV v3;have n3:w.heap.size≠w.heap.size+1:=(by omega);by_cases hf:4096<(bS (bN d h (sz k)).1 h o).length
   ·have bn:(4096:Int)<((bS (bN d h (sz k)).1 h o).length:Int):=(by omega);go_wp2_with fail;obtain⟨v5,W⟩:=Bt (T:=Z z d.length E) (aH:=Z (M ⟨t,u,O⟩) (rest.length+1) j) (R:=Z A B y) (D:=I V n) (Bf:=I V bf) (by omega) v2 B6;generalize ((((w6.setCell ⟨w.heap.size+1,0,O⟩ (Z z d.length E)).setCell ⟨w.heap.size+1,1,O⟩ (Z (M ⟨t,u,O⟩) (rest.length+1) j)).setCell ⟨w.heap.size+1,2,O⟩ (Z A B y)).setCell ⟨w.heap.size+1,3,O⟩ (I V n)).setCell ⟨w.heap.size+1,4,O⟩ (I V bf)=w7 at*;obtain⟨i0,i1,i2,i3,i4,-⟩:=aV v5;refine Aap (v:= .tuple #[.agg #[Z z d.length E,Z (M ⟨t,u,O⟩) (rest.length+1) j,Z A B y,I V n,I V bf],I V 13]) (by simp[results,results99,go_sem,i0,i1,i2,i3,i4]) rfl ?_;rw[HA.out hf];exact⟨((z,d.length,E),(M ⟨t,u,O⟩,rest.length+1,j),(A,B,y),n,bf),rfl,HM.out.aN W,W⟩
   ·have bn:¬(4096:Int)<((bS (bN d h (sz k)).1 h o).length:Int):=(by omega);go_wp2_with fail;obtain⟨v5,M7,W⟩:=Gv (ot:=w.heap.size+1+1) (rs:=w.heap.size+1) (T:=(L,(bS (bN d h (sz k)).1 h o).length,N)) (aH:=(gu,rest.length,j-1)) (R:=(qo,Q,P)) (D:=n) (D':=n+1) (Bf:=bf) n2 (by omega) (by omega) v2 v3 t6 eU e6 B6;simp only[bT.v]at v5 M7 W;generalize ((((((w6.setCell ⟨w.heap.size+1+1,3,O⟩ (I V (n+1))).setCell ⟨w.heap.size+1,0,O⟩ (Z L (bS (bN d h (sz k)).1 h o).length N)).setCell ⟨w.heap.size+1,1,O⟩ (Z gu rest.length (j-1))).setCell ⟨w.heap.size+1,2,O⟩ (Z qo Q P)).setCell ⟨w.heap.size+1,3,O⟩ (I V (n+1))).setCell ⟨w.heap.size+1,4,O⟩ (I V (bf)))=w7 at*;obtain⟨i0,i1,i2,i3,i4,-⟩:=aV v5;refine Aap (v:= .tuple #[.agg #[Z L (bS (bN d h (sz k)).1 h o).length N,Z gu rest.length (j-1),Z qo Q P,I V (n+1),I V (bf)],I V 0]) (by simp[results,results99,go_sem,i0,i1,i2,i3,i4]) rfl ?_;rw[HB.out hf]
    first
     |exact⟨((L,(bS (bN d h (sz k)).1 h o).length,N),(gu,rest.length,j-1),(qo,Q,P),n+1,bf),rfl,M7,W⟩
     |exact⟨L,(bS (bN d h (sz k)).1 h o).length,N,gu,rest.length,j-1,qo,Q,P,n+1,bf,rfl,M7,W⟩
theorem KG (hm:eT w r m)(ok:okM m)(hd:depth<=100)(zJ:∀e rest,m.2.2.1=e::rest->Dl (sz m.1) e.1 e.2.1 e.2.2):
 H K 99 #[r.v,I V 82,I V a,I V b,I V c,I V most,I V (depth:Int)] w λe w'=>
  ∃r',e=G (.tuple #[fU.v r',I V (vW m depth).2])/\eT w' r' (vW m depth).1/\Below w.heap.size w w':=by
 have HM:Hid (eT w r m):=hm;obtain⟨m1,m2,m3,m4,m5⟩:=hm;obtain⟨⟨A,tl,E⟩,⟨y,z,B⟩,⟨ro,rl,j⟩,n,bf⟩:=r;obtain⟨d,jK,kC,Yl,Ib⟩:=m;simp only at m1 m2 m3 m4 m5 zJ;subst m4 m5;obtain⟨o1,o2,o3,o4,o5,o6,o7,o8⟩:=ok;simp only at o1 o2 o3 o4 o5 o6 o7 o8;obtain⟨t1,t2,t3⟩:=m1;simp only at t1 t2 t3;subst t2;have bs:=kT o1;simp only[fU.v,bT.v];cases kC with
 |nil=>
  have Ju:rl=0:=by obtain⟨b7,-,h2,-,h4,-⟩:=m3;simp at h2 h4;rw[h2,h4];rfl
  subst Ju;have HE:Hid (vW (d,jK,[],n,bf) depth=((d,jK,[],n,bf),8)):=rfl;go_enter func99,ntmps99;go_wp2_with fail;refine(cB (l:=d) (t1.1.below (aQ (aO _ _) (aO _ _))) rfl o1 (by omega)).mono ?_;rintro e w1 ⟨rfl,rfl⟩;go_wp2_with fail;have B3:=(three w (C #[Z A d.length E,Z y z B,Z ro 0 j,I V n,I V bf] 91) (C #[Z A d.length E,Z y z B,Z ro 0 j,I V n,I V bf] 91) (C #[Z A d.length E,Z y z B,Z ro 0 j,I V n,I V bf] 91)).2.2.2.2;refine Aap (v:= .tuple #[.agg #[Z A d.length E,Z y z B,Z ro 0 j,I V n,I V bf],I V 8]) (by simp[results,results99,go_sem]) rfl ?_;rw[HE.out];exact⟨((A,d.length,E),(y,z,B),(ro,0,j),n,bf),rfl,HM.out.aN B3,B3⟩
 |cons e rest=>
  obtain⟨f1,f2,f3,f4,f5,f6⟩:=zJ e rest rfl;obtain⟨t,u,er,rfl,Ju,-,e0,e1,e2,Le⟩:=m3.head;have b1:=kT f3;have a9:=Tf o1 f1 (by omega) (by omega:sz e.2.1<=sz d-e.1);have a2:=Lu o1 e.1 (sz e.2.1);have b0:=KD d e.1 (sz e.2.1);have HA:Hid (4096<(bS (bN d e.1 (sz e.2.1)).1 e.1 e.2.2).length->vW (d,jK,e::rest,n,bf) depth=((d,jK,e::rest,n,bf),13)):=λhf=>by simp only[vW,Aad hf]
  have HB:Hid (¬4096<(bS (bN d e.1 (sz e.2.1)).1 e.1 e.2.2).length->vW (d,jK,e::rest,n,bf) depth=((bS (bN d e.1 (sz e.2.1)).1 e.1 e.2.2,(e::jK).take depth,rest,n+1,bf),0)):=λhf=>by simp only[vW,Aaa hf]
  obtain⟨h,⟨xo,xn,xc⟩,⟨yo,yn,yc⟩⟩:=er;obtain⟨b3,k,o⟩:=e;obtain⟨g1,⟨g2,g3,g4⟩,⟨g5,g6,g7⟩⟩:=Le;simp only at g1 g2 g3 g4 g5 g6 g7 f1 f2 f3 f4 f5 f6 b1 a9 a2 b0;simp only[bT.v]at e0 e1 e2;subst g1 g3 g6;have j1:(0:Int)<(rl:Int):=by omega
  have j2:¬((rl:Int)=0):=by omega
  have j3:((rl:Int)==0)=false:=by rw[Aat];exact j2
  go_enter func99,ntmps99;go_wp2_with fail;refine(cB (l:=d) (t1.1.below (aQ (aO _ _) (aO _ _))) rfl o1 (by omega)).mono ?_;rintro e w1 ⟨rfl,rfl⟩;subst Ju;go_upto_region 34 with fail;obtain⟨r1,r2,r3,q4,B2⟩:=three w (bU (Z A d.length E) (Z y z B) (Z (M ⟨t,u,O⟩) (rest.length+1) j) (I V n) (I V bf)) (bU (Z O 0 0) (Z O 0 0) (Z O 0 0) (I V 0) (I V 0)) (bU (Z A d.length E) (Z y z B) (Z (M ⟨t,u,O⟩) (rest.length+1) j) (I V n) (I V bf))
  rw[show(Obj.cells #[Z A d.length E,Z y z B,Z (M ⟨t,u,O⟩) (rest.length+1) j,I V n,I V bf] 91)=bU (Z A d.length E) (Z y z B) (Z (M ⟨t,u,O⟩) (rest.length+1) j) (I V n) (I V bf) from rfl,
   show(Obj.cells #[Z O 0 0,Z O 0 0,Z O 0 0,I V 0,I V 0] 91)=bU (Z O 0 0) (Z O 0 0) (Z O 0 0) (I V 0) (I V 0) from rfl]
  generalize ((w.alloc (bU (Z A d.length E) (Z y z B) (Z (M ⟨t,u,O⟩) (rest.length+1) j) (I V n) (I V bf))).alloc (bU (Z O 0 0) (Z O 0 0) (Z O 0 0) (I V 0) (I V 0))).alloc (bU (Z A d.length E) (Z y z B) (Z (M ⟨t,u,O⟩) (rest.length+1) j) (I V n) (I V bf))=w2 at*;obtain⟨J,X,S,x3,x4,-⟩:=aV r1;have n1:w.heap.size≠w.heap.size+1+1:=by omega
  have n2:w.heap.size+1≠w.heap.size+1+1:=by omega
  have Us:=Aay B2 e0;have sP:=Aay B2 e1;have Es:=Aay B2 e2;have k1:(0:Int)<(rest.length:Int)+1:=by omega
  go_upto_region 35 with fail;have zy:=Aag w2 (C #[I V h,Z xo k.length xc,Z yo o.length yc] 231);rw[q4]at zy;have Ic:=aO w2 (C #[I V h,Z xo k.length xc,Z yo o.length yc] 231);have B3:=aQ B2 Ic;have s1:=bH Ic r1;have s2:=bH Ic r2;have s3:=bH Ic r3;clear Ic q4 r1 r2 r3 Us sP Es J X S x3 x4 B2;generalize w2.alloc (C #[I V h,Z xo k.length xc,Z yo o.length yc] 231)=w3 at*;obtain⟨J,X,S,x3,x4,-⟩:=aV s1;obtain⟨Us,sP,Es⟩:=oJ zy;have Im:=g2.below B3;have a3:=t1.below B3
  go_cut [25,26] (λv g wc=> ∃ao ca,v=Z ao (bN d h (sz k)).1.length ca/\nK wc ao (bN d h (sz k)).1/\xJ ao (bN d h (sz k)).1.length ca/\aL w3 wc)
  case first=>
   have ga:=aL.refl w3;clear e0 e1 e2 Es m2 m3 s1 s2 s3 zy
   go_region_held3 (λw'=>w'.cell? ⟨w.heap.size,0,O⟩=M (Z A d.length E)/\w'.cell? ⟨w.heap.size+1+1+1,0,O⟩=M (I V h)/\w'.cell? ⟨w.heap.size+1+1+1,1,O⟩=M (Z xo k.length xc)/\aL w3 w')
    (first|(refine SH J Us sP ?_;go_split_ands;first|assumption|(exact aL.drew (by assumption))|(exact aL.more (by assumption) (by assumption))))
    (first|(go_at_call 34;refine(cB (l:=k) (by go_split_ands;exact Im.1.XA (by assumption)) rfl f3 (by omega)).mono ?_;rintro e w5 ⟨rfl,rfl⟩)|(go_at_call 76;refine(EL (l:=d) (by go_split_ands;exact a3.grewT (by assumption)) rfl t3 o1 (by omega) f1 (by omega) (by omega)).mono ?_;rintro e w5 ⟨Yk,a5,b5,b6,rfl,Dv,Lr,b4,b2,lN⟩))
   all_goals go_wp2_with fail
   all_goals go_meet
   all_goals exact⟨Yk,a5,rfl,Dv,Lr,by go_split_ands;assumption⟩
  case rest=>
   obtain⟨Yk,a5,rfl,Dv,Lr,G5⟩:=hcut
   rename F=>w5
   have u1:=bH G5 s1;have u2:=bH G5 s2;have u3:=bH G5 s3;have a0:=bH G5 zy;have B5:=aQ B3 G5;have a6:=g5.below B5;clear s1 s2 s3 zy G5 J X S x3 x4 Us sP Es Im a3 B3;obtain⟨J,X,S,x3,x4,-⟩:=aV u1;obtain⟨Us,sP,Es⟩:=oJ a0;go_wp2_with fail;refine(EK (l:=(bN d h (sz k)).1) (more:=o) Dv rfl Lr a6 rfl g7 a2 (by omega) (by omega) f1 (by omega)).mono ?_;rintro e w6 ⟨L,N,rfl,Td,a4,Gw⟩;have s1:=bH Gw u1;have s2:=bH Gw u2;have s3:=bH Gw u3;have a1:=bH Gw a0;have B6:=aQ B5 Gw;have t6:bJ w6 (L,(bS (bN d h (sz k)).1 h o).length,N) (bS (bN d h (sz k)).1 h o):=⟨Td,rfl,a4⟩;clear u1 u2 u3 a0 Gw J X S x3 x4 Us sP Es Dv Lr a6 B5 Td a4;obtain⟨J,X,S,x3,x4,-⟩:=aV s1;obtain⟨Us,sP,Es⟩:=oJ a1;obtain⟨y0,y1,y2,y3,y4,z0,z1,z2,z3,z4⟩:=aV s3;have n4:w.heap.size+1+1+1≠w.heap.size+1+1:=(by omega);have k2:(1:Int)<=(rest.length:Int)+1:=(by omega);go_upto_region 38 with fail;have v1:=dR (g:=w.heap.size+1+1) (i:=2) (v:=Z (if j=1 then M ⟨t,u,O⟩else M ⟨t,u+3,O⟩) rest.length (j-1)) (dR (g:=w.heap.size+1+1) (i:=0) (v:=Z L (bS (bN d h (sz k)).1 h o).length N) s1 n1) n1;have v2:=dR (g:=w.heap.size+1+1) (i:=2) (v:=Z (if j=1 then M ⟨t,u,O⟩else M ⟨t,u+3,O⟩) rest.length (j-1)) (dR (g:=w.heap.size+1+1) (i:=0) (v:=Z L (bS (bN d h (sz k)).1 h o).length N) s2 n2) n2;have s4:=oI (v:=Z L (bS (bN d h (sz k)).1 h o).length N) s3;have v3:=nC (v:=Z (if j=1 then M ⟨t,u,O⟩else M ⟨t,u+3,O⟩) rest.length (j-1)) s4;have a7:=dR (g:=w.heap.size+1+1) (i:=2) (v:=Z (if j=1 then M ⟨t,u,O⟩else M ⟨t,u+3,O⟩) rest.length (j-1)) (dR (g:=w.heap.size+1+1) (i:=0) (v:=Z L (bS (bN d h (sz k)).1 h o).length N) a1 n4) n4;have t7:=(t6.jS (i:=0) (v:=Z L (bS (bN d h (sz k)).1 h o).length N) s3).jS (i:=2) (v:=Z (if j=1 then M ⟨t,u,O⟩else M ⟨t,u+3,O⟩) rest.length (j-1)) s4;have W:=(B6.setCell (p:=⟨w.heap.size+1+1,0,O⟩) (by simp only;omega) (Z L (bS (bN d h (sz k)).1 h o).length N)).setCell (p:=⟨w.heap.size+1+1,2,O⟩) (by simp only;omega) (Z (if j=1 then M ⟨t,u,O⟩else M ⟨t,u+3,O⟩) rest.length (j-1));have mt:=m3.tail;clear s1 s2 s3 s4 a1 t6 B6 J X S x3 x4 Us sP Es y0 y1 y2 y3 y4 z0 z1 z2 z3 z4;generalize (if j=1 then M (⟨t,u,O⟩:Addr)else M ⟨t,u+3,O⟩)=gu at*;generalize (w6.setCell ⟨w.heap.size+1+1,0,O⟩ (Z L (bS (bN d h (sz k)).1 h o).length N)).setCell ⟨w.heap.size+1+1,2,O⟩ (Z gu rest.length (j-1))=w7 at*;obtain⟨J,X,S,x3,x4,-⟩:=aV v1;obtain⟨Us,sP,Es⟩:=oJ a7;have N_:sI w7 (h,(xo,k.length,xc),(yo,o.length,yc)) (h,k,o):=⟨rfl,⟨g2.below W,rfl,g4⟩,⟨g5.below W,rfl,g7⟩⟩;go_wp2_with fail;refine(Bq (r:=(h,(xo,k.length,xc),(yo,o.length,yc))) (e:=(h,k,o)) (x:=(y,z,B)) (l:=jK) N_ (m2.aN W) (by omega) (by omega)).mono ?_;rintro e w8 ⟨⟨qo,Q,P⟩,rfl,a8,KF⟩;simp only[bT.v];have u1:=bH KF v1;have u2:=bH KF v2;have u3:=bH KF v3;have t8:=t7.aN KF;have B8:=aQ W KF;clear v1 v2 v3 a7 t7 W KF J X S x3 x4 Us sP Es N_;obtain⟨J,X,S,x3,x4,-⟩:=aV u1;obtain⟨y0,y1,y2,y3,y4,z0,z1,z2,z3,z4⟩:=aV u3;go_upto_region 39 with fail;have v1:=dR (g:=w.heap.size+1+1) (i:=1) (v:=Z qo Q P) u1 n1;have v2:=dR (g:=w.heap.size+1+1) (i:=1) (v:=Z qo Q P) u2 n2;have v3:=nA (v:=Z qo Q P) u3;have t6:=t8.jS (i:=1) (v:=Z qo Q P) u3;have e6:=a8.jS (i:=1) (v:=Z qo Q P) u3;have B6:=B8.setCell (p:=⟨w.heap.size+1+1,1,O⟩) (by simp only;omega) (Z qo Q P);clear u1 u2 u3 t8 a8 B8 J X S x3 x4 y0 y1 y2 y3 y4 z0 z1 z2 z3 z4;generalize w8.setCell ⟨w.heap.size+1+1,1,O⟩ (Z qo Q P)=w6 at*;have eU:=mt.aN B6;obtain⟨J,X,S,x3,x4,-⟩:=aV v1;obtain⟨k0,k1,k2,k3,k4,l0,l1,l2,l3,l4⟩:=aV v2;obtain⟨y0,y1,y2,y3,y4,f0,f1,f2,f3,f4⟩:=aV v3;have n3:w.heap.size≠w.heap.size+1:=(by omega);by_cases hf:4096<(bS (bN d h (sz k)).1 h o).length
   ·have bn:(4096:Int)<((bS (bN d h (sz k)).1 h o).length:Int):=(by omega);go_wp2_with fail;obtain⟨v5,W⟩:=Bt (T:=Z A d.length E) (aH:=Z y z B) (R:=Z (M ⟨t,u,O⟩) (rest.length+1) j) (D:=I V n) (Bf:=I V bf) (by omega) v2 B6;generalize ((((w6.setCell ⟨w.heap.size+1,0,O⟩ (Z A d.length E)).setCell ⟨w.heap.size+1,1,O⟩ (Z y z B)).setCell ⟨w.heap.size+1,2,O⟩ (Z (M ⟨t,u,O⟩) (rest.length+1) j)).setCell ⟨w.heap.size+1,3,O⟩ (I V n)).setCell ⟨w.heap.size+1,4,O⟩ (I V bf)=w7 at*;obtain⟨i0,i1,i2,i3,i4,-⟩:=aV v5;refine Aap (v:= .tuple #[.agg #[Z A d.length E,Z y z B,Z (M ⟨t,u,O⟩) (rest.length+1) j,I V n,I V bf],I V 13]) (by simp[results,results99,go_sem,i0,i1,i2,i3,i4]) rfl ?_;rw[HA.out hf];exact⟨((A,d.length,E),(y,z,B),(M ⟨t,u,O⟩,rest.length+1,j),n,bf),rfl,HM.out.aN W,W⟩
   ·have bn:¬(4096:Int)<((bS (bN d h (sz k)).1 h o).length:Int):=(by omega);go_wp2_with fail;obtain⟨v5,M7,W⟩:=Gv (ot:=w.heap.size+1+1) (rs:=w.heap.size+1) (T:=(L,(bS (bN d h (sz k)).1 h o).length,N)) (aH:=(qo,Q,P)) (R:=(gu,rest.length,j-1)) (D:=n) (D':=n+1) (Bf:=bf) n2 (by omega) (by omega) v2 v3 t6 e6 eU B6;simp only[bT.v]at v5 M7 W;generalize ((((((w6.setCell ⟨w.heap.size+1+1,3,O⟩ (I V (n+1))).setCell ⟨w.heap.size+1,0,O⟩ (Z L (bS (bN d h (sz k)).1 h o).length N)).setCell ⟨w.heap.size+1,1,O⟩ (Z qo Q P)).setCell ⟨w.heap.size+1,2,O⟩ (Z gu rest.length (j-1))).setCell ⟨w.heap.size+1,3,O⟩ (I V (n+1))).setCell ⟨w.heap.size+1,4,O⟩ (I V (bf)))=w7 at*;obtain⟨i0,i1,i2,i3,i4,-⟩:=aV v5;refine Aap (v:= .tuple #[.agg #[Z L (bS (bN d h (sz k)).1 h o).length N,Z qo Q P,Z gu rest.length (j-1),I V (n+1),I V (bf)],I V 0]) (by simp[results,results99,go_sem,i0,i1,i2,i3,i4]) rfl ?_;rw[HB.out hf]
    first
     |exact⟨((L,(bS (bN d h (sz k)).1 h o).length,N),(qo,Q,P),(gu,rest.length,j-1),n+1,bf),rfl,M7,W⟩
     |exact⟨L,(bS (bN d h (sz k)).1 h o).length,N,qo,Q,P,gu,rest.length,j-1,n+1,bf,rfl,M7,W⟩
theorem used_pg (h:aU w db s fv rs)(hl:rs.length<=1000000)(hf:∀f∈plain rs,f.2.1.size<=2000000):
 H K 221 #[U (M ⟨db,0,O⟩)] w λe w'=>e=G (I V (bX (plain rs)))/\w'=w:=by
 obtain⟨-,c1,-⟩:=dM h.1;obtain⟨E,o,rfl,iW,hm,B,j⟩:=iL.form h.2.1
 have x:∀k:Nat,0<=bX ((plain rs).take k)/\bX ((plain rs).take k)<=2000000*(k:Int):=by
  intro k
  induction k with
  |zero=>simp[bX]
  |succ k S=>
   by_cases A:k<(plain rs).length
   ·rw[Ca (Aaf A)];have:=hf _ (Acl A);omega
   ·rw[Aaq (by omega)];rw[Aaq (by omega)]at S;omega
 have n:Hid (aU w db s (Z E rs.length o) rs):=h;have J:=j;clear h;go_enter func221,ntmps221;go_wp2_with fail
 go_loop [3,11] (λc i=> ∃k:Nat,k<=rs.length/\c=I V (bX ((plain rs).take k))/\i=I V (k:Int)) (λ_ i=>rs.length-(intOf i).toNat)
 case atStart=>exact⟨0,Aao _,rfl,rfl⟩
 case round=>
  obtain⟨k,A,rfl,rfl⟩:=hrel;have W:=x k;by_cases L:k<rs.length
  ·obtain⟨r,d⟩:∃r,rs[k]?=M r:=⟨_,Aaf L⟩;have u:Hid (bX ((plain rs).take (k+1))=bX ((plain rs).take k)+(r.f.2.1.size:Int)):=(by show _=_;exact Ca (kM d));have X:=hf _ (Aai (kM d));obtain⟨-,t,-⟩:=iC (n.out.2.2.1 r (Aai d)).1;obtain⟨R,Ov,P,-⟩:=bL.form (n.out.2.2.1 r (Aai d)).2;rw[P]at t;have N:r.f.2.1.data.toList.length=r.f.2.1.size:=rfl;rw[N]at t;cases E with
   |none=>obtain⟨rfl,-⟩:=B rfl;simp at L
   |some a=>
    obtain⟨g,aR,rfl,-,-,-,D⟩:=j a rfl;have c2:=D _ r d;unfold FR.p at c2;have i1:(0:Int)<=(k:Int):=(by omega);have i2:(k:Int)<(rs.length:Int):=(by omega);generalize bX ((plain rs).take k)=z at W u;generalize r.f.2.1.size=y at X u t;clear d D j B J P N n x hf;go_wp2_with fail
    go_round
    case rel=>exact⟨k+1,by omega,by rw[u.out],by go_num⟩
    case measure=>simp[intOf];omega
  ·have Q:(plain rs).take k=plain rs:=Aaq (by rw[bP];omega);rw[Q];clear j B J n x hf;go_wp2_with fail;go_ret;exact⟨rfl,rfl⟩
def gT (x:St)(l:List (Int×ByteArray)):St×Int:=
 if x.1.aX then (x,2)else
 if l.length<=40/\l.Pairwise (λa b=>a.1<b.1)/\(∀f∈l,0<=f.1/\f.2.size≠0)/\bX (l.map (λf=>(f.1,f.2,(f.2.size:Int))))<=x.1.room
 then ((x.1,l.map (λf=>(f.1,f.2,(f.2.size:Int))),x.2.2),0)else (x,1)
theorem KY (h:okA room l)(k:Nat):okA room (l.take k):=by
 obtain⟨d,c,a⟩:=h;refine⟨d.sublist (List.take_sublist _ _),λf e=>c f (Aba e),?_⟩;rw[AbE];exact AcN (Ip _ _) a
theorem KZ (h:okA room (l.take k))(hf:l[k]?=M f)(h0:0<=f.1)(h1:∀(j:Nat) (g:AF),k=j+1->l[j]?=M g->g.1<f.1)(h2:f.2.size≠0)(h3:bX ((l.take k).map Ja)+(f.2.size:Int)<=room):okA room (l.take (k+1)):=by
 obtain⟨a,b,c⟩:=h;refine⟨?_,?_,by rw[Kc hf];exact h3⟩
 ·rw[tC hf,Abe];refine⟨a,by simp,λx d y i=>?_⟩;simp only[AbZ]at i;subst i;cases k with
  |zero=>simp at d
  |succ j=>
   obtain⟨g,e⟩:∃g,l[j]?=M g:=⟨_,Aaf (by have:=(Aae.1 hf).1;omega)⟩;have n:=h1 j g rfl e;rw[tC e]at d a;rw[Abe]at a;simp only[AaZ,AbZ]at d;rcases d with d|rfl
   ·have:=a.2.2 x d g (by simp);omega
   ·exact n
 ·intro x d;rw[tC hf]at d;simp only[AaZ,AbZ]at d;rcases d with d|rfl
  ·exact b x d
  ·exact⟨h0,h2⟩
theorem Co (h:¬okA s.room l)(ho:s.aX=false):gT (s,fs,m) l=((s,fs,m),1):=by
 unfold gT;rw[Aaa (by simp[ho]),Aaa (λa=>h ⟨a.2.1,a.2.2.1,a.2.2.2⟩)]
theorem load_yes (h:okA s.room l)(hl:l.length<=40)(ho:s.aX=false):gT (s,fs,m) l=((s,l.map Ja,m),0):=by
 unfold gT;rw[Aaa (by simp[ho]),Aad ⟨hl,h.1,h.2.1,h.2.2⟩];rfl
theorem Ho (hf:l[k]?=M f)(h:f.1<0\/f.2.size=0\/room<bX ((l.take k).map Ja)+(f.2.size:Int)):¬okA room l:=by
 intro d;obtain⟨a,b,c⟩:=KY d (k+1);have e:=b f (AZ hf);rw[Kc hf]at c;omega
theorem okA_ord {j:Nat}{g:AF}(hf:l[j+1]?=M f)(hg:l[j]?=M g)(h:f.1<=g.1):¬okA room l:=by
 intro c;obtain⟨a,-,-⟩:=KY c (j+1+1);rw[tC hf,Abe]at a;have:=a.2.2 g (AZ hg) f (by simp);omega
theorem qK {w1:F}{xb:Nat}{f:bT}(h:After w w1 xb s fs m f)(n:Nat):After w (w1.drewN n) xb s fs m f:=by
 obtain⟨c,a,d⟩:=h;exact⟨c,a.aN (bC (aL.refl w1) n),d.aN (bC (aL.refl w1) n)⟩
theorem LG {nm:ByteArray}{num:Int}{g:Nat}{lb:Array Y}{R:F->Prop}(h:aU w db s fv rs)(ha:0<=s.after)(dx:s.after<=9223372036854775807)(eg:∀(args:Array Y) (w:F),(callFunc g args).run K w= .ok (.enter g args) w)
 (hs:(dL s (plain rs)).1=true)(TN:∀w1,aU w1 db (dL s (plain rs)).2.1 fv rs->Og w w1 db->H K g lb w1 λe w2=>e=G (.tuple #[])/\R w2):
 H K 185 #[U (M ⟨db,0,O⟩),.string nm,I V num,.func (.func g) #[] lb] w λe w'=>e=G .nilIface/\R w':=by
 obtain⟨y,A,E,D,o,u,z,B,x⟩:=dM h.1;have c:=ER o u x ha dx;have t:Hid (aU w db s fv rs):=h;have d:Hid _:=TN;clear TN y A E D z B x h;cases a:s.jV with
 |false=>
  have j:Ez s.jV s.after=false:=by rw[a];rfl
  have k:(dL s (plain rs)).2.1=s:=by unfold dL;rw[Aad a]
  rw[j,a]at c;rw[k]at d;have n:=d.out w t.out (Og.refl w db);simp only[AaF,if_false]at c;clear j k a o hs d;go_enter func185,ntmps185;go_wp2_with (first|(go_at_call 223;refine c.mono ?_;rintro e w ⟨rfl,rfl⟩)|(go_at_fn g;refine n.mono ?_;rintro e w2 ⟨rfl,r⟩));go_ret;exact⟨rfl,r⟩
 |true=>
  have i:0<s.after:=by
   unfold dL at hs;rw[Aaa (by rw[a];simp)]at hs;split at hs
   ·assumption
   ·cases hs
  have j:Ez s.jV s.after=false:=by rw[Vo s ha,a,AaM (by omega)];rfl
  have k:(dL s (plain rs)).2.1= { s with after:=s.after-1 }:=by unfold dL;rw[Aaa (by rw[a];simp),Aad i]
  rw[j,a]at c;rw[k]at d;have n:=d.out _ (t.out.set (BG (s.after-1) t.out.1)) (Og.refl w db).set;simp only[AaF,if_false,if_true]at c;clear j k a o u hs d;go_enter func185,ntmps185;go_wp2_with (first|(go_at_call 223;refine c.mono ?_;rintro e w1 ⟨rfl,rfl⟩)|(go_at_fn g;refine n.mono ?_;rintro e w2 ⟨rfl,r⟩));go_ret;exact⟨rfl,r⟩
theorem LX (w:F)(o1 o2:Obj):aL w ((w.alloc o1).alloc o2)/\((w.alloc o1).alloc o2).heap[w.heap.size]?=M o1/\((w.alloc o1).alloc o2).heap[w.heap.size+1]?=M o2:=⟨aL.alloc (aL.alloc (aL.refl w) _) _,XY w o1 o2,new2b w o1 o2⟩
theorem Mk {wr w5:F}{v:Y}{l:List UInt8}(hG:aL w wr)(hO:bL wr w.heap.size v l)(hg:wr.grownBy w5 v.ownBlock):aL w w5:=by
 refine⟨hg.os.trans hG.os,hg.tape.trans hG.tape,hg.output.trans hG.output,Aal hG.size hg.size,λk a=>?_⟩;rw[<-hG.block k a];refine hg.block k (AaE a hG.size) (λe=>?_);have:=(bL.lt hO k e.symm).1;omega
theorem Kj (h:aW w dp tb depth m):H K 102 #[U (M ⟨dp,0,O⟩)] w λe w'=>e=G (I V (sz m.1))/\w'=w:=by
 obtain⟨u,r,a,c,-⟩:=h;obtain⟨-,g,-⟩:=cZ a;have d:=mG c;clear a c;go_enter func102,ntmps102;go_wp2_with fail;refine d.mono ?_;rintro e w ⟨rfl,rfl⟩;go_wp2_with fail;go_ret;exact⟨rfl,rfl⟩
theorem Tt (h:aW w dp tb depth m)(h0:0<=n)(hn:n<=9223372036854775807)(hz:sz m.1<=100000000)(nG:0<=sz m.1):
 H K 94 #[U (M ⟨dp,0,O⟩),I V pos,I V n] w λe w'=>e=G (.bool (sK m.1 pos n))/\w'=w:=by
 have c:=Kj h;clear h;by_cases d:0<=pos
 ·have a:Hid (sK m.1 pos n=decide (pos<=sz m.1-n)):=by show _=_;unfold sK;rw[AaJ d];rfl
  generalize sz m.1=z at c hz nG a;go_enter func94,ntmps94;go_wp2_with fail;refine c.mono ?_;rintro e w ⟨rfl,rfl⟩;go_wp2_with fail;go_ret;rw[a.out];exact⟨rfl,rfl⟩
 ·have a:Hid (sK m.1 pos n=false):=by show _=_;unfold sK;rw[AaM d];rfl
  go_enter func94,ntmps94;go_wp2_with fail;go_ret;rw[a.out];exact⟨rfl,rfl⟩
theorem Mr {q:Int}:H K 215 #[iN q a b c] w λe w'=> ∃yb:Nat,e=G (.agg #[I V a,Z O 0 0,Z (M ⟨yb,0,O⟩) 1 1])/\bJ w' (M ⟨yb,0,O⟩,1,1) [(b,c)]/\aL w w':=by
 unfold iN;go_enter func215,ntmps215
 go_wp2
 refine Aap (v:= .agg #[I V a,Z O 0 0,Z (M ⟨w.heap.size+2,0,O⟩) 1 1]) (by simp[results,results215,go_sem]) rfl ?_;exact⟨_,rfl,MK w _ _ b c,((aL.refl w).alloc _).alloc _|>.alloc _⟩
end Go.Proofs.YtfplgfodoiiobabGreatDoor
