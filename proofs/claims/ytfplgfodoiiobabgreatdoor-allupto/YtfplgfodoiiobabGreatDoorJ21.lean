/- a part of the proof. -/
import Derived.Test.YtfplgfodoiiobabGreatDoorJ18
open Option renaming none->O,some->M
open Go.Value renaming int->I,slice->Z,pointer->U
open Go.IntKind renaming i64->V
open Go.Obj renaming cells->C
open Go renaming World->F,Calls->H
open Go.Proofs.Tryz renaming prog→K
open Go.Proofs.Tryz
namespace Go.Proofs.YtfplgfodoiiobabGreatDoor
set_option maxHeartbeats 4000000
set_option maxRecDepth 100000
open Go.RowKit
theorem VJ {w:F}{xb:Nat}{s:Sc}{fs:List bD}{m:dI}{f:bT}(h:bO w xb s fs m f)(hl:fs.length<=80000)(hc:iX s)(hI:gH s.room fs)(h29:¬(aP fs 2).size<29)(hK:(aP fs 2).data.toList.head?=M 75):
 H K 107 #[U (M ⟨xb,0,O⟩)] w λe w'=>CkIs w' e (jT (aP fs 2) ((aP fs 1).size:Int) s.depth.toNat)/\aL w w':=by
 have HS:Hid (bO w xb s fs m f):=h;have Ic:=aO w (C #[Z O 0 0,Z O 0 0,Z O 0 0,I V 0,I V 0] 91);have Yp:=Aag w (C #[Z O 0 0,Z O 0 0,Z O 0 0,I V 0,I V 0] 91);have BA:((aP fs 2).size:Int)<=1000000:=by have:=gN hI 2;have:=hc.kZ;omega
 have k5:((aP fs 1).size:Int)<=1000000:=by have:=gN hI 1;have:=hc.kZ;omega
 obtain⟨r,hx,hf,-⟩:=h.aN Ic;have hB:=wS (n:=2) hx hf (by omega);clear hx hf;generalize aP fs 2=a at*;have l0:a.toList.isEmpty=false:=ba_ne (by omega);have z1:¬(a.size:Int)<29:=by omega
 have i2:0<a.size:=by omega
 have i1:(0:Int)<(a.size:Int):=by omega
 rw[GZ i2]at hK
 have mo:((a[0].toNat:Int) !=75)=false:=by
  have:a[0]=75:=by simpa using hK
  rw[this];rfl
 have d6:Hid (a.data.toList.head?=M 75):=by show _=_;rw[GZ i2];exact hK
 clear hK;have e4:((a.size-4:Nat):Int)=(a.size:Int)-4:=by omega
 have z5:(0:Int)<=(a.size:Int)-4:=by omega
 have z6:(a.size:Int)-4<=(a.size:Int):=by omega
 go_enter func107,ntmps107;go_wp2_with fail;generalize w.alloc (C #[Z O 0 0,Z O 0 0,Z O 0 0,I V 0,I V 0] 91)=w0 at*;refine hB.mono ?_;rintro e w0 ⟨rfl,rfl⟩;clear hB;go_wp2_with fail;have iV:(w0.alloc (C #[.string a,I V ((a.size:Int)-4),.bool false] 234)).heap[w0.heap.size]?=M (Ak a (a.size-4) false):=by rw[Aag];unfold Ak;rw[e4]
 have b3:mW (w0.alloc (C #[.string a,I V ((a.size:Int)-4),.bool false] 234)) w0.heap.size a (a.data.toList.drop (a.size-4),false):=⟨a.size-4,by omega,rfl,iV⟩;have IZ:=aO w0 (C #[.string a,I V ((a.size:Int)-4),.bool false] 234);have b7:=aM Yp;refine(jI b3 (by omega)).mono ?_;rintro e w2 ⟨rfl,-,Xv⟩;have Yr:aL w w2:=IB (aQ Ic IZ) Xv Ic.size;have B:=Xv.1.at ((IZ.block _ b7).trans Yp) (by omega)
 have b4:(bI (a.data.toList.drop (a.size-4),false)).1=iJ (a.data.toList.drop (a.size-4)):=by
  unfold bI;rw[Aaa];simp only[AaF,false_or,AaX,Abd];show ¬a.size-(a.size-4)<4;omega
 rw[b4];generalize e8:iJ (a.data.toList.drop (a.size-4))=sm at*;have j1:Hid (iJ (a.data.toList.drop (a.size-4))=sm):=e8;clear e8 b4 Xv b3 iV IZ Ic Yp b7;go_wp2_with fail;have k8:(a.extract 0 (a.size-4)).size=a.size-4:=by rw[Acj];omega
 have c8:(a.extract 0 (a.size-4)).data.toList=a.data.toList.take (a.size-4):=by rw[AcA,AcG];simp[List.extract]
 refine(EG (s:=a.extract 0 (a.size-4)) (by omega)).mono ?_;rintro e w2 ⟨rfl,rfl⟩;generalize XQ:kU (a.extract 0 (a.size-4)).data.toList=cr at*;have f8:Hid (kU (a.data.toList.take (a.size-4))=cr):=by show _=_;rw[<-XQ,c8]
 have i0:Hid ((a.extract 0 (a.size-4)).data.toList=a.data.toList.take (a.size-4)):=c8;clear XQ c8;go_wp2_with fail;generalize i3:a.extract 0 (a.size-4)=L at*;clear i3;have c5:mW (w2.alloc (C #[.string L,I V 1,.bool false] 234)) w2.heap.size L (L.data.toList.drop 1,false):=⟨1,by omega,rfl,Aag _ _⟩;have Qx:=aO w2 (C #[.string L,I V 1,.bool false] 234);have Od:=aM B;have e9:=Yr.size;refine(jI c5 (by omega)).mono ?_;rintro e w4 ⟨rfl,rO,Dn⟩;have d0:aL w w4:=IB (aQ Yr Qx) Dn e9;have P:=Dn.1.at ((Qx.block _ Od).trans B) (by omega);have j5:=rO.lt;have j6:=xU (L.data.toList.drop 1,false);have HB:Hid (L.data.toList.drop 1=(a.data.toList.take (a.size-4)).drop 1):=by show _=_;rw[i0.out]
 generalize u_:((L.data.toList.drop 1,false):Sn)=R0 at*;have h4:Hid (((L.data.toList.drop 1,false):Sn)=R0):=u_;clear c5 Qx u_ Dn Yr B;go_wp2_with fail;have a8:=aO w4 (C #[Z O 0 0,Z O 0 0,Z O 0 0,I V 0,I V 0] 91);have e6:=aM P
 have ck:Ck w (w4.alloc (C #[Z O 0 0,Z O 0 0,Z O 0 0,I V 0,I V 0] 91)) w2.heap.size w4.heap.size w.heap.size L (bI R0).2 (Z O 0 0) (Z O 0 0) (Z O 0 0) (I V 0) (I V 0):=
  ⟨aQ d0 a8,rO.aN a8,Aag _ _,(a8.block _ e6).trans P,e9,d0.size,Aak _,by omega,by omega,by omega⟩
 clear d0 a8 rO P;generalize r_:w2.heap.size=g at*;generalize k7:w4.heap.size=mb at*;generalize w4.alloc (C #[Z O 0 0,Z O 0 0,Z O 0 0,I V 0,I V 0] 91)=wk at*;refine(jI ck.sc (by omega)).mono ?_;rintro e w6 ⟨rfl,e5,o_⟩;have ck:=ck.og o_ e5;have tY:=xU (bI R0).2;obtain⟨-,-,-,c3,c4,u⟩:=ck.cells;have f3:=u 3;clear u e5 o_;go_wp2_with fail;have ck:=ck.VI (i:=3) (v:=I V (bI (bI R0).2).1) (Br ck.mod);clear c3 c4 f3;generalize w6.setCell ⟨mb,3,O⟩ (I V (bI (bI R0).2).1)=w7 at*;generalize Iy:bI R0=N at*;have j4:Hid (bI R0=N):=Iy;generalize yM:bI N.2=y at*;have g9:Hid (bI N.2=y):=yM;clear Iy yM;refine(jI ck.sc (by omega)).mono ?_;rintro e w8 ⟨rfl,e0,e3⟩;have ck:=ck.og e3 e0;have sj:=xU y.2;obtain⟨-,-,-,c3,c4,u⟩:=ck.cells;have f4:=u 4;clear u e0 e3;generalize au:bI y.2=k at*;have h9:Hid (bI y.2=k):=au;clear au;go_wp2_with fail;have ck:=ck.VI (i:=4) (v:=I V k.1) (xK ck.mod);clear c3 c4 f4;generalize w8.setCell ⟨mb,4,O⟩ (I V k.1)=w9 at*;refine(Ko ck.sc (by omega) sj.1 sj.2).mono ?_;rintro e Pz ⟨j9,rfl,b2,b5,b8⟩;obtain⟨⟨ta,tl,S⟩,rfl,J⟩:=Kr b2;have ck:=ck.og b8 b5;have b0:=zA k.1 k.2;generalize f5:dS k.1 k.2=o at*;have h5:Hid (dS k.1 k.2=o):=f5;obtain⟨c0,-,-,c3,c4,u⟩:=ck.cells;have f0:=u 0;clear u b5 b8 b2 f5;simp only[bT.v];go_wp2_with fail;have J:=J.jS (i:=0) (v:=Z ta tl S) ck.mod;have ck:=ck.VI (i:=0) (v:=Z ta tl S) (oI ck.mod);clear c0 c3 c4 f0;generalize Pz.setCell ⟨mb,0,O⟩ (Z ta tl S)=t_ at*;refine(CF ck.sc (by omega) sj.1 sj.2).mono ?_;rintro e j3 ⟨⟨ua,ul,uc⟩,rfl,hU,b1,a2⟩;have J:=J.og ck.sc a2;have ck:=ck.og a2 b1;have e7:=xV k.1 o.2;generalize e1:lC k.1 o.2=Q at*;have i5:Hid (lC k.1 o.2=Q):=e1;obtain⟨-,c1,-,-,c4,u⟩:=ck.cells;have f1:=u 1;clear u b1 a2 e1;simp only[bT.v];go_wp2_with fail;have J:=J.jS (i:=1) (v:=Z ua ul uc) ck.mod;have hU:=hU.jS (i:=1) (v:=Z ua ul uc) ck.mod;have ck:=ck.VI (i:=1) (v:=Z ua ul uc) (nA ck.mod);clear c1 c4 f1;generalize j3.setCell ⟨mb,1,O⟩ (Z ua ul uc)=k9 at*;refine(CF ck.sc (by omega) sj.1 sj.2).mono ?_;rintro e h8 ⟨⟨va,vl,vc⟩,rfl,hV,b6,R⟩;have J:=J.og ck.sc R;have hU:=hU.og ck.sc R;have ck:=ck.og R b6;have d2:=xV k.1 Q.2;generalize d3:lC k.1 Q.2=z at*;have h1:Hid (lC k.1 Q.2=z):=d3;obtain⟨-,-,c2,-,-,u⟩:=ck.cells;have f2:=u 2;clear u b6 R d3;simp only[bT.v];go_upto_region 18 with fail;have J:=J.jS (i:=2) (v:=Z va vl vc) ck.mod;have hU:=hU.jS (i:=2) (v:=Z va vl vc) ck.mod;have hV:=hV.jS (i:=2) (v:=Z va vl vc) ck.mod;have ck:=ck.VI (i:=2) (v:=Z va vl vc) (nC ck.mod);clear c2 f2;generalize h8.setCell ⟨mb,2,O⟩ (Z va vl vc)=E at*;obtain⟨c0,c1,c2,c3,c4,u⟩:=ck.cells;obtain⟨t1,t2,t3⟩:=J;simp only at t1 t2 t3;subst t2;have HT:Hid (bJ E (ta,o.1.length,S) o.1):=⟨t1,rfl,t3⟩;have jY:=Ap (ca:=S) t1.1 rfl b0.1 (by have:=b0.2;omega);have d9:=Fp b0.1;have Rz:=b0.2;have ji:=OP (n:=sz o.1) (back:=true) hU e7.1 e7.2 d9.1 (by omega);have e2:=OP (n:=sz o.1) (back:=false) hV d2.1 d2.2 d9.1 (by omega);obtain⟨r9,Iz,XM,-⟩:=HS.out.aN ck.aN;have hle:=Bz (n:=1) Iz XM (by omega);have c9:=(gD Iz).2.2.2.2;clear Iz XM t1 t3;go_wp2_with fail;refine jY.mono ?_;rintro e E ⟨rfl,rfl⟩;clear jY;go_wp2_with fail;refine ji.mono ?_;rintro e E ⟨rfl,rfl⟩;clear ji;go_wp2_with fail;refine e2.mono ?_;rintro e E ⟨rfl,rfl⟩;clear e2;go_wp2_with fail;refine hle.mono ?_;rintro e E ⟨rfl,rfl⟩;clear hle;have HA:Hid (mV (Q.1.map (lX true)) (sz o.1)=mV (Q.1.map uT) (sz o.1)):=rfl;have EU:Hid (mV (z.1.map (lX false)) (sz o.1)=mV (z.1.map pV) (sz o.1)):=rfl;generalize i8:mV (Q.1.map (lX true)) (sz o.1)=fA at*;generalize i9:mV (z.1.map (lX false)) (sz o.1)=fB at*;clear i8 i9;generalize b9:((aP fs 1).size:Int)=c at*;have Zg:Hid (((aP fs 1).size:Int)=c):=b9;clear b9
 have x:Hid (jT a c s.depth.toNat=if sm=cr/\z.2.2=false/\z.2.1=[]/\1<=N.1/\N.1<=999/\y.1<=1000000000/\k.1<=c/\fA=true/\fB=true then M (N.1,(o.1,Q.1.take s.depth.toNat,z.1.take s.depth.toNat,y.1,k.1))else O):=by
  show _=_;have x1:bI ((a.data.toList.take (a.size-4)).drop 1,false)=N:=by rw[<-HB.out,h4.out];exact j4.out
  unfold jT;rw[Aaa (by omega),Aaa (by rw[d6.out];simp;omega)];simp only;rw[x1,g9.out,h9.out,h5.out,i5.out,h1.out,j1.out,f8.out,<-HA.out,<-EU.out]
 obtain⟨ia,k6,h0,j0⟩:=ck.sc;obtain⟨-,s1,s2,-⟩:=Ke j0
 have gV:z.2.1=[]↔ia=L.size:=by
  rw[h0,List.drop_eq_nil_iff];show L.data.toList.length<=ia↔_;rw[Abd];show L.size<=ia↔_;omega
 obtain⟨k0,k1,k2,k3,k4,-⟩:=aV ck.res;have kf:∀j,E.frozen? ⟨w.heap.size,j,O⟩=false:=λj=>by have:=ck.res;simp[World.frozen?,this,bU]
 have g0:=kf 0;have g1:=kf 1;have g2:=kf 2;have g3:=kf 3;have g4:=kf 4;clear kf;by_cases a5:sm=cr
 ·have i4:(sm !=cr)=false:=by simp[a5]
  by_cases a7:z.2.2=false
  ·rw[a7]at s2;by_cases d7:ia=L.size
   ·have i7:((ia:Int) !=(a.size:Int)-4)=false:=(by simp;omega);by_cases d4:1<=N.1
    ·have g7:¬N.1<1:=(by omega);by_cases d1:N.1<=999
     ·have h2:¬999<N.1:=(by omega);by_cases f6:y.1<=1000000000
      ·have h6:¬1000000000<y.1:=(by omega);by_cases d8:k.1<=c
       ·have g8:¬c<k.1:=(by omega);by_cases a9:fA=true
        ·have j2:=a9;by_cases a4:fB=true
         ·have h7:=a4;have t:Hid (jT a c s.depth.toNat=M (N.1,(o.1,Q.1.take s.depth.toNat,z.1.take s.depth.toNat,y.1,k.1))):=(by show _=_;rw[x.out,Aad ⟨a5,a7,gV.2 d7,d4,d1,f6,d8,a9,a4⟩]);obtain⟨D,hD⟩:=AbC hc.zL;have j7:D<=50:=(by have:=hc.xW;omega);rw[hD]at c9 t;rw[Ace]at t;have d5:Hid (s.depth=(D:Int)):=hD;clear hD x k0 k1 k2 k3 k4 g0 g1 g2 g3 g4;go_upto_region 24 with fail
          go_cut [] (λwc=> ∃U':bT,fK wc U' (Q.1.take D)/\Ck w wc g mb w.heap.size L z.2 (Z ta o.1.length S) U'.v (Z va vl vc) (I V y.1) (I V k.1)/\bJ wc (ta,o.1.length,S) o.1/\fK wc (va,vl,vc) z.1)
          case first=>
           have f1:=u 1;clear u
           go_region_with (go_at_call 147;refine(Rt (d:=D) (by first|exact hU|exact hU.aN (aL.drew (aL.refl _))) (by omega)).mono ?_;rintro e f7 ⟨⟨W,X,xc,rfl,c7⟩,rfl⟩)
           all_goals go_wp2_with fail
           all_goals go_meet
           all_goals
            have c6:fK E (W,X,xc) (Q.1.take D):=c7;exact⟨(W,X,xc),(c6.jS (i:=1) (v:=Z W X xc) ck.mod).aN (aL.drew (aL.refl _)),(ck.VI (i:=1) (v:=Z W X xc) (nA ck.mod)).drew,(HT.out.jS (i:=1) (v:=Z W X xc) ck.mod).aN (aL.drew (aL.refl _)),(hV.jS (i:=1) (v:=Z W X xc) ck.mod).aN (aL.drew (aL.refl _))⟩
          case rest=>
           obtain⟨⟨ya,yl,yc⟩,hY,ck,J,hV⟩:=hcut
           rename F=>f9
           simp only[bT.v]at ck;obtain⟨r9,Iz,XM,-⟩:=HS.out.aN ck.aN;have c9:=(gD Iz).2.2.2.2;rw[d5.out]at c9;obtain⟨c0,c1,c2,c3,c4,u⟩:=ck.cells;have f2:=u 2;clear Iz XM u;go_upto_region 25 with fail
           go_cut [] (λwc=> ∃V':bT,fK wc V' (z.1.take D)/\Ck w wc g mb w.heap.size L z.2 (Z ta o.1.length S) (Z ya yl yc) V'.v (I V y.1) (I V k.1)/\bJ wc (ta,o.1.length,S) o.1/\fK wc (ya,yl,yc) (Q.1.take D))
           case first=>
            go_region_with (go_at_call 147;refine(Rt (d:=D) (by first|exact hV|exact hV.aN (aL.drew (aL.refl _))) (by omega)).mono ?_;rintro e f7 ⟨⟨W,X,xc,rfl,c7⟩,rfl⟩)
            all_goals go_wp2_with fail
            all_goals go_meet
            all_goals
             have c6:fK f9 (W,X,xc) (z.1.take D):=c7;exact⟨(W,X,xc),(c6.jS (i:=2) (v:=Z W X xc) ck.mod).aN (aL.drew (aL.refl _)),(ck.VI (i:=2) (v:=Z W X xc) (nC ck.mod)).drew,(J.jS (i:=2) (v:=Z W X xc) ck.mod).aN (aL.drew (aL.refl _)),(hY.jS (i:=2) (v:=Z W X xc) ck.mod).aN (aL.drew (aL.refl _))⟩
           case rest=>
            obtain⟨⟨a3,a1,a0⟩,i6,ck,J,hY⟩:=hcut
            rename F=>a6
            simp only[bT.v]at ck;obtain⟨c0,c1,c2,c3,c4,-⟩:=ck.cells;obtain⟨k0,k1,k2,k3,k4,-⟩:=aV ck.res;have kf:∀j,a6.frozen? ⟨w.heap.size,j,O⟩=false:=λj=>by have:=ck.res;simp[World.frozen?,this,bU]
            have g0:=kf 0;have g1:=kf 1;have g2:=kf 2;have g3:=kf 3;have g4:=kf 4;have j8:=ck.mr;clear kf;have HM:Hid (eT a6 ((ta,o.1.length,S),(ya,yl,yc),(a3,a1,a0),y.1,k.1) (o.1,Q.1.take D,z.1.take D,y.1,k.1)):=⟨J,hY,i6,rfl,rfl⟩;have HF:Hid (eT (((((a6.setCell ⟨w.heap.size,0,O⟩ (Z ta o.1.length S)).setCell ⟨w.heap.size,1,O⟩ (Z ya yl yc)).setCell ⟨w.heap.size,2,O⟩ (Z a3 a1 a0)).setCell ⟨w.heap.size,3,O⟩ (I V y.1)).setCell ⟨w.heap.size,4,O⟩ (I V k.1)) ((ta,o.1.length,S),(ya,yl,yc),(a3,a1,a0),y.1,k.1) (o.1,Q.1.take D,z.1.take D,y.1,k.1)/\aL w (((((a6.setCell ⟨w.heap.size,0,O⟩ (Z ta o.1.length S)).setCell ⟨w.heap.size,1,O⟩ (Z ya yl yc)).setCell ⟨w.heap.size,2,O⟩ (Z a3 a1 a0)).setCell ⟨w.heap.size,3,O⟩ (I V y.1)).setCell ⟨w.heap.size,4,O⟩ (I V k.1))):=⟨HM.out.KV ck.res _ _ _ _ _,dK ck.aN ck.nr _ _ _ _ _⟩;go_upto_region 26 with fail
            go_region
            all_goals go_wp2_with fail
            all_goals refine Aap (v:= .tuple #[I V N.1,.agg #[Z ta o.1.length S,Z ya yl yc,Z a3 a1 a0,I V y.1,I V k.1],.bool true]) (by simp[results,results107,go_sem,k0,k1,k2,k3,k4]) rfl ?_
            all_goals rw[Zg.out,d5.out,Ace,t.out]
            all_goals exact⟨⟨_,rfl,HF.out.1.aN (aL.drew (aL.refl _))⟩,HF.out.2.drew⟩
         ·have h7:fB=false:=(by simpa using a4);have t:Hid (jT a c s.depth.toNat=O):=(by show _=_;rw[x.out,Aaa (λA=>a4 A.2.2.2.2.2.2.2.2)]);clear x;go_wp2_with fail;refine Aap (v:= .tuple #[I V 0,.agg #[Z O 0 0,Z O 0 0,Z O 0 0,I V 0,I V 0],.bool false]) (by simp[results,results107,go_sem,k0,k1,k2,k3,k4]) rfl ?_;rw[Zg.out,t.out];exact⟨rfl,dK ck.aN ck.nr _ _ _ _ _⟩
        ·have j2:fA=false:=(by simpa using a9);have t:Hid (jT a c s.depth.toNat=O):=(by show _=_;rw[x.out,Aaa (λA=>a9 A.2.2.2.2.2.2.2.1)]);clear x;go_wp2_with fail;refine Aap (v:= .tuple #[I V 0,.agg #[Z O 0 0,Z O 0 0,Z O 0 0,I V 0,I V 0],.bool false]) (by simp[results,results107,go_sem,k0,k1,k2,k3,k4]) rfl ?_;rw[Zg.out,t.out];exact⟨rfl,dK ck.aN ck.nr _ _ _ _ _⟩
       ·have g8:c<k.1:=(by omega);have t:Hid (jT a c s.depth.toNat=O):=(by show _=_;rw[x.out,Aaa (λA=>d8 A.2.2.2.2.2.2.1)]);clear x;go_wp2_with fail;refine Aap (v:= .tuple #[I V 0,.agg #[Z O 0 0,Z O 0 0,Z O 0 0,I V 0,I V 0],.bool false]) (by simp[results,results107,go_sem,k0,k1,k2,k3,k4]) rfl ?_;rw[Zg.out,t.out];exact⟨rfl,dK ck.aN ck.nr _ _ _ _ _⟩
      ·have h6:1000000000<y.1:=(by omega);have t:Hid (jT a c s.depth.toNat=O):=(by show _=_;rw[x.out,Aaa (λA=>f6 A.2.2.2.2.2.1)]);clear x;go_wp2_with fail;refine Aap (v:= .tuple #[I V 0,.agg #[Z O 0 0,Z O 0 0,Z O 0 0,I V 0,I V 0],.bool false]) (by simp[results,results107,go_sem,k0,k1,k2,k3,k4]) rfl ?_;rw[Zg.out,t.out];exact⟨rfl,dK ck.aN ck.nr _ _ _ _ _⟩
     ·have h2:999<N.1:=(by omega);have t:Hid (jT a c s.depth.toNat=O):=(by show _=_;rw[x.out,Aaa (λA=>d1 A.2.2.2.2.1)]);clear x;go_wp2_with fail;refine Aap (v:= .tuple #[I V 0,.agg #[Z O 0 0,Z O 0 0,Z O 0 0,I V 0,I V 0],.bool false]) (by simp[results,results107,go_sem,k0,k1,k2,k3,k4]) rfl ?_;rw[Zg.out,t.out];exact⟨rfl,dK ck.aN ck.nr _ _ _ _ _⟩
    ·have g7:N.1<1:=(by omega);have t:Hid (jT a c s.depth.toNat=O):=(by show _=_;rw[x.out,Aaa (λA=>d4 A.2.2.2.1)]);clear x;go_wp2_with fail;refine Aap (v:= .tuple #[I V 0,.agg #[Z O 0 0,Z O 0 0,Z O 0 0,I V 0,I V 0],.bool false]) (by simp[results,results107,go_sem,k0,k1,k2,k3,k4]) rfl ?_;rw[Zg.out,t.out];exact⟨rfl,dK ck.aN ck.nr _ _ _ _ _⟩
   ·have i7:((ia:Int) !=(a.size:Int)-4)=true:=(by rw[bne_iff_ne];omega);have t:Hid (jT a c s.depth.toNat=O):=(by show _=_;rw[x.out,Aaa (λA=>d7 (gV.1 A.2.2.1))]);clear x;go_wp2_with fail;refine Aap (v:= .tuple #[I V 0,.agg #[Z O 0 0,Z O 0 0,Z O 0 0,I V 0,I V 0],.bool false]) (by simp[results,results107,go_sem,k0,k1,k2,k3,k4]) rfl ?_;rw[Zg.out,t.out];exact⟨rfl,dK ck.aN ck.nr _ _ _ _ _⟩
  ·have h3:z.2.2=true:=(by simpa using a7);rw[h3]at s2;have t:Hid (jT a c s.depth.toNat=O):=(by show _=_;rw[x.out,Aaa (λA=>a7 A.2.1)]);clear x;go_wp2_with fail;refine Aap (v:= .tuple #[I V 0,.agg #[Z O 0 0,Z O 0 0,Z O 0 0,I V 0,I V 0],.bool false]) (by simp[results,results107,go_sem,k0,k1,k2,k3,k4]) rfl ?_;rw[Zg.out,t.out];exact⟨rfl,dK ck.aN ck.nr _ _ _ _ _⟩
 ·have i4:(sm !=cr)=true:=by simpa using a5
  have t:Hid (jT a c s.depth.toNat=O):=by show _=_;rw[x.out,Aaa (λA=>a5 A.1)]
  clear x;go_wp2_with fail;refine Aap (v:= .tuple #[I V 0,.agg #[Z O 0 0,Z O 0 0,Z O 0 0,I V 0,I V 0],.bool false]) (by simp[results,results107,go_sem,k0,k1,k2,k3,k4]) rfl ?_;rw[Zg.out,t.out];exact⟨rfl,dK ck.aN ck.nr _ _ _ _ _⟩
end Go.Proofs.YtfplgfodoiiobabGreatDoor
