/- a part of the proof. -/
import Derived.Test.YtfplgfodoiiobabGreatDoorJ13
import Derived.Test.YtfplgfodoiiobabGreatDoorJ18
import Derived.Test.YtfplgfodoiiobabGreatDoorJ24
open Option renaming none->O,some->M
open Go.Value renaming int->I,slice->Z,pointer->U
open Go.IntKind renaming i64->V
open Go.Obj renaming cells->C
open Go.Ending renaming returned->G
open Go renaming World->F,Calls->H
open Go.Proofs.Tryz renaming prog→K
open Go.Proofs.Tryz
namespace Go.Proofs.YtfplgfodoiiobabGreatDoor
set_option maxHeartbeats 8000000
set_option maxRecDepth 100000
open Go.RowKit
theorem VH {w:F}{xb:Nat}{s:Sc}{fs:List bD}{m m0:dI}{f:bT}{r0:fU}{J:ByteArray}(h:bO w xb s fs m f)(hl:fs.length<=80000)(hc:iX s)(hI:gH s.room fs)(hm:eT w r0 m0)(hg:eX m0 s.depth.toNat)(hD:m0.2.2.2.1<=1000000000)(hJ:J.size<=1000000):
 H K 108 #[U (M ⟨xb,0,O⟩),r0.v,.string J] w λe w'=> ∃r':fU,e=G (.tuple #[r'.v,I V ((22*(jC ((aP fs 1).size:Int) s.depth.toNat (J.size / 22+1) m0 J.data.toList).2:Nat):Int)])/\eT w' r' (jC ((aP fs 1).size:Int) s.depth.toNat (J.size / 22+1) m0 J.data.toList).1/\aL w w':=by
 have HS:Hid (bO w xb s fs m f):=h;have f9:((aP fs 1).size:Int)<=1000000:=by have:=gN hI 1;have:=hc.kZ;omega
 obtain⟨w1,jJ⟩:∃w1,w1=(w.alloc (bU r0.1.v r0.2.1.v r0.2.2.1.v (I V r0.2.2.2.1) (I V r0.2.2.2.2))).alloc (bU (Z O 0 0) (Z O 0 0) (Z O 0 0) (I V 0) (I V 0)):=⟨_,rfl⟩;have G0:aL w (w.alloc (bU r0.1.v r0.2.1.v r0.2.2.1.v (I V r0.2.2.2.1) (I V r0.2.2.2.2))):=(aL.refl w).alloc _;have G1:aL w w1:=by rw[jJ];exact G0.alloc _
 have BL:OT w w1 w.heap.size (w.heap.size+1) r0 m0:=by
  refine⟨G1,?_,?_,hm.aN G1,Aak _,AcK _,by omega⟩
  ·rw[jJ];exact(((aL.refl _).alloc _).block _ (aM (Aag w _))).trans (Aag w _)
  ·rw[jJ];have:=Aag (w.alloc (bU r0.1.v r0.2.1.v r0.2.2.1.v (I V r0.2.2.2.1) (I V r0.2.2.2.2))) (bU (Z O 0 0) (Z O 0 0) (Z O 0 0) (I V 0) (I V 0));simpa using this
 obtain⟨rx,L,hf,-⟩:=h.aN G1;have hB:=Bz (n:=1) L hf (by omega);clear L hf;generalize f7:((aP fs 1).size:Int)=buf at*;unfold bU at jJ;unfold fU.v;obtain⟨x1,x2,x3,x4,x5⟩:=r0;simp only at jJ ⊢;go_enter func108,ntmps108;go_upto_region 1 with fail;rw[<-jJ];clear jJ;go_wp2_with (go_at_call 98;refine hB.mono ?_;rintro e w' ⟨rfl,rfl⟩);clear hB G0 G1 hm
 go_loopw [9] (λv wr=> ∃(k:Nat) (r:fU) (mk:dI),v=I V ((22*k:Nat):Int)/\Hid (OT w wr w.heap.size (w.heap.size+1) r mk/\22*k<=J.size/\eX mk s.depth.toNat/\mk.2.2.2.1=m0.2.2.2.1+(k:Int)/\jC buf s.depth.toNat (J.size / 22+1) m0 J.data.toList=((jC buf s.depth.toNat (J.size / 22+1-k) mk (J.data.toList.drop (22*k))).1,(jC buf s.depth.toNat (J.size / 22+1-k) mk (J.data.toList.drop (22*k))).2+k))) (λv _=>J.size-(intOf v).toNat)
 case atStart=>exact⟨0,_,_,rfl,BL,by omega,hg,by simp,by simp⟩
 case round=>
  obtain⟨k,⟨⟨x,A,D⟩,⟨E,u,z⟩,⟨y,B,t⟩,o,bf⟩,mk,rfl,HR⟩:=hrel;by_cases bQ:22*k+22<=J.size
  ·have N:=HR.out.1;have i1:((22*k:Nat):Int)+22<=(J.size:Int):=(by omega);have i2:(0:Int)<=((22*k:Nat):Int):=(by omega);have i3:((22*k:Nat):Int)<=((22*k:Nat):Int)+22:=(by omega);obtain⟨S,hS⟩:∃S,S=J.extract (22*k) (22*k+22):=⟨_,rfl⟩;have e0:S.size=22:=by rw[hS,Acj];omega
   have d3:Hid (S.data.toList=(J.data.toList.drop (22*k)).take 22):=by
    show _=_;rw[hS,AcA,AcG,List.extract];congr 1;omega
   go_wp2_with fail;rw[<-hS];clear hS;obtain⟨w2,Fx⟩:∃w2,w2=wr.alloc (C #[.string S,I V 2,.bool false] 234):=⟨_,rfl⟩;have Yr:aL wr w2:=(by rw[Fx];exact(aL.refl wr).alloc _);have b1:mW w2 wr.heap.size S (S.data.toList.drop 2,false):=⟨2,by omega,rfl,by rw[Fx];exact Aag _ _⟩;have BO:w.heap.size<=wr.heap.size:=N.aN.size;have b8:=N.more Yr;rw[<-Fx];clear Fx Yr N;generalize wr.heap.size=g at*;refine(jI b1 (by omega)).mono ?_;rintro e w3 ⟨rfl,QJ,c8⟩;rw[Ug (by omega)]at QJ ⊢;have b6:=b8.num b1 BO c8;clear b1 c8 b8;go_wp2_with fail;refine(jI QJ (by omega)).mono ?_;rintro e w4 ⟨rfl,rO,Dn⟩;rw[Ug (by omega)]at rO ⊢;have b7:=b6.num QJ BO Dn;clear QJ Dn b6;go_wp2_with fail;refine(jI rO (by omega)).mono ?_;rintro e w5 ⟨rfl,Bn,QO⟩;rw[Ug (by omega)]at Bn ⊢;have c0:=b7.num rO BO QO;clear rO QO b7;go_wp2_with fail;refine(jI Bn (by omega)).mono ?_;rintro e w6 ⟨rfl,-,o_⟩;rw[Ug (by omega)];have X:=c0.num Bn BO o_;clear Bn o_ c0;have bd:=mJ (S.data.toList.drop 2);have ba:=mJ (S.data.toList.drop 6);have bb:=mJ (S.data.toList.drop 10);have bc:=mJ (S.data.toList.drop 14);have HD:Hid (∃d a b c,d=iJ (S.data.toList.drop 2)/\a=iJ (S.data.toList.drop 6)/\b=iJ (S.data.toList.drop 10)/\c=iJ (S.data.toList.drop 14)):=⟨_,_,_,_,rfl,rfl,rfl,rfl⟩;obtain⟨d,a,b,c,ed,ea,eb,ec⟩:=HD.out;simp only[<-ed,<-ea,<-eb,<-ec]at bd ba bb bc ⊢;have HE:Hid (d=iJ (S.data.toList.drop 2)/\a=iJ (S.data.toList.drop 6)/\b=iJ (S.data.toList.drop 10)/\c=iJ (S.data.toList.drop 14)):=⟨ed,ea,eb,ec⟩;clear ed ea eb ec HD;obtain⟨y0,y1,y2,y3,y4,-⟩:=aV X.mod;simp only[bT.v]at y0 y1 y2 y3 y4;go_upto_region 10 with fail;have i4:(1:Int)<(S.size:Int):=(by omega);have f8:=HR.out.2.2.1.done
   have tY:0<=o/\o<=1001000000:=by
    have h1:o=mk.2.2.2.1:=X.Ee.2.2.2.1;have h2:=HR.out.2.2.2.1;omega
   have XK:IntKind.i64.wrap (o+1)=o+1:=(by rw[AaC];omega);have yM:((S[1]'(by omega)).toNat:Int)<256:=(by have:=(S[1]'(by omega)).toNat_lt;omega);have c2:IntKind.i64.wrap ((S[1]'(by omega)).toNat:Int)=((S[1]'(by omega)).toNat:Int):=(by rw[AaC];omega);have P:Hid (∀W,H K 101 #[I V ((S[1]'(by omega)).toNat:Int),I V (o+1),I V a,I V b,I V c] W λe w'=>e=G (.string (fV ((S[1]'(by omega)).toNat:Int) (o+1) a b c))/\aL W w'):=λW=>Jw (by omega) yM (by unfold dF;omega) ba bb bc;obtain⟨q,hq⟩:∃q:Int,q=((S[1]'(by omega)).toNat:Int):=⟨_,rfl⟩;rw[<-hq]at c2 yM P;have HQ:Hid (q=((S[1]'(by omega)).toNat:Int)):=hq
   go_cut [16] from 21 to 125 (λv wc=>v= .string (fV q (o+1) a b c)/\aL w6 wc)
   case first=>
    subst hq
    go_region_law ((refine Kz (by rfl) 101 _ _ (by rfl) #[I V ((S[1]'(by omega)).toNat:Int),I V (o+1),I V a,I V b,I V c] (by first|(simp[Act.eval];done)|(simp[Act.eval,Act.put];done)) wm ((P.out _).mono ?_);rintro v w7 ⟨rfl,oZ⟩;refine⟨_,rfl,?_⟩))
    all_goals go_wp2_with fail
    all_goals go_meet
    all_goals exact⟨rfl,aQ (by repeat (first|exact aL.refl _|refine aL.drew ?_)) oZ⟩
   case rest=>
    obtain⟨rfl,oZ⟩:=hcut
    rename F=>wc
    have Qb:=X.more oZ;clear X oZ P y0 y1 y2 y3 y4 c2 hq;have c4:S.data.toList=(fV q (o+1) a b c).data.toList↔S=fV q (o+1) a b c:=⟨λe=>by cases S;cases d7:fV q (o+1) a b c;rw[d7]at e;simp only at e;congr 1;exact Array.toList_inj.1 e,λe=>by rw[e]⟩;have hL:(J.data.toList.drop (22*k)).length=J.size-22*k:=by rw[AaX,Abd];rfl
    have HP:Hid (Si mk (J.data.toList.drop (22*k)) buf s.depth.toNat=if S=fV q (o+1) a b c/\d=o+1/\nY mk buf q a b c=true/\(iD mk q a b c 5000 s.depth.toNat).2=0 then M (iD mk q a b c 5000 s.depth.toNat).1 else O):=by
     show _=_;have hE:=HE.out;have c3:=d3.out;have b4:o=mk.2.2.2.1:=Qb.Ee.2.2.2.1
     have b5:∀i,i<=18->iJ (S.data.toList.drop i)=iJ ((J.data.toList.drop (22*k)).drop i):=λi hi=>by
      rw[c3,List.drop_take,be4_take _ (by omega)]
     rw[b5 2 (by omega),b5 6 (by omega),b5 10 (by omega),b5 14 (by omega)]at hE
     have d9:q=((((J.data.toList.drop (22*k)).drop 1).headD 0).toNat:Int):=by
      rw[HQ.out,ba_one (by omega),c3,List.drop_take];cases (J.data.toList.drop (22*k)).drop 1<;>rfl
     unfold Si;rw[Aaa (by omega)];simp only;rw[<-hE.1,<-hE.2.1,<-hE.2.2.1,<-hE.2.2.2,<-d9,<-c3,<-b4];have:S.data.toList=(fV q (o+1) a b c).data.toList↔S=fV q (o+1) a b c:=c4;simp only[this]
    have HN:Hid (Si mk (J.data.toList.drop (22*k)) buf s.depth.toNat=O->jC buf s.depth.toNat (J.size / 22+1) m0 J.data.toList=(mk,k)):=by
     show _->_;intro e;rw[HR.out.2.2.2.2];obtain⟨j,hj⟩:∃j,J.size / 22+1-k=j+1:=⟨J.size / 22+1-k-1,by omega⟩;rw[hj,jC,e];simp
    obtain⟨y0,y1,y2,y3,y4,-⟩:=aV Qb.mod;obtain⟨z0,z1,z2,z3,z4,f0,f1,f2,f3,f4⟩:=aV Qb.res;simp only[bT.v]at y0 y1 y2 y3 y4;obtain⟨W5,b0⟩:∃W5,W5=((((wc.setCell ⟨w.heap.size+1,0,O⟩ (Z x A D)).setCell ⟨w.heap.size+1,1,O⟩ (Z E u z)).setCell ⟨w.heap.size+1,2,O⟩ (Z y B t)).setCell ⟨w.heap.size+1,3,O⟩ (I V o)).setCell ⟨w.heap.size+1,4,O⟩ (I V bf):=⟨_,rfl⟩;have Fg:W5.heap[w.heap.size+1]?=M (bU (Z x A D) (Z E u z) (Z y B t) (I V o) (I V bf)):=(by rw[b0];exact qJ Qb.res (Z x A D) (Z E u z) (Z y B t) (I V o) (I V bf));have d5:Hid (aL w W5):=(by show aL _ _;rw[b0];exact dK Qb.aN Qb.rbn _ _ _ _ _);have d8:Hid (eT W5 ((x,A,D),(E,u,z),(y,B,t),o,bf) mk):=(by show eT _ _ _;rw[b0];exact Qb.Ee.KV Qb.res _ _ _ _ _);obtain⟨u0,u1,u2,u3,u4,-⟩:=aV Fg;clear Fg
    have a0:Hid (Si mk (J.data.toList.drop (22*k)) buf s.depth.toNat=O->∃r':fU,Ending.returned (.tuple #[.agg #[Z x A D,Z E u z,Z y B t,I V o,I V bf],I V (22*(k:Int))])=Ending.returned (.tuple #[.agg #[r'.1.v,r'.2.1.v,r'.2.2.1.v,I V r'.2.2.2.1,I V r'.2.2.2.2],I V ((22*(jC buf s.depth.toNat (J.size / 22+1) m0 J.data.toList).2:Nat):Int)])/\eT W5 r' (jC buf s.depth.toNat (J.size / 22+1) m0 J.data.toList).1/\aL w W5):=by
     show _->_;intro e;rw[HN.out e];exact⟨((x,A,D),(E,u,z),(y,B,t),o,bf),by simp[bT.v],d8.out,d5.out⟩
    have d4:Hid (bf=mk.2.2.2.2):=Qb.Ee.2.2.2.2;by_cases b3:(fV q (o+1) a b c).toList=S.toList
    ·by_cases XI:d=o+1
     ·go_upto_block 2 with fail;have YC:Hid (d=o+1):=XI;clear XI
      go_cut [16] from 21 to 125 (λv wd=>v= .string (fV q (o+1) a b c)/\wd=wc/\nY mk buf q a b c=true)
      case first=>
       have Iy:Hid (((S[1]'(by omega)).toNat:Int)=q):=HQ.out.symm;rcases recC (m:=mk) (buf:=buf) (a:=a) (b:=b) (c:=c) Iy.out d4.out with⟨g1,⟨g5,⟨g6,L⟩|⟨g6,L⟩⟩|⟨g5,L⟩⟩|⟨g1,⟨g2,⟨g5,L⟩|⟨g5,L⟩⟩|⟨g2,⟨g3,⟨g5,L⟩|⟨g5,⟨g6,L⟩|⟨g6,⟨g7,L⟩|⟨g7,L⟩⟩⟩⟩|⟨g3,⟨g4,⟨g5,L⟩|⟨g5,⟨g6,L⟩|⟨g6,⟨g7,L⟩|⟨g7,L⟩⟩⟩⟩|⟨g4,L⟩⟩⟩⟩
       all_goals
        have HX:Hid _:=L;clear L;go_wp2_with fail
        first
         |(rw[<-b0];refine Aap (v:= .tuple #[.agg #[Z x A D,Z E u z,Z y B t,I V o,I V bf],I V (22*(k:Int))]) (by simp[results,results108,go_sem,u0,u1,u2,u3,u4]) rfl ?_;refine a0.out ?_;rw[HP.out,Aaa];rintro⟨-,-,e,-⟩;exact HX.out e)
         |(go_meet;exact⟨rfl,rfl,HX.out⟩)
      case rest=>
       obtain⟨rfl,rfl,kD⟩:=hcut;have Ih:=HR.out.2.2.1;obtain⟨c9,b9⟩:=rec_ok kD;have j_:Hid (nY mk buf q a b c=true/\(q=73->b=mk.2.2.2.2/\b+c<=buf)):=⟨kD,b9⟩;have d0:=HS.out.aN Qb.aN;obtain⟨rs,c5,-,-⟩:=d0;obtain⟨-,-,-,-,xd⟩:=gD c5;have p0:=hc.zL;have p1:=hc.xW;have b4:mk.2.2.2.1<=2000000000:=(by have:o=mk.2.2.2.1:=Qb.Ee.2.2.2.1;omega);have Vk:∀w1,eT w1 ((x,A,D),(E,u,z),(y,B,t),o,bf) mk->_:=λw1 Iu=>Ka (w:=w1) (kind:=q) (a:=a) (b:=b) (c:=c) (most:=5000) (d:=s.depth) c9 Iu Ih p0 p1 b4 (by omega) (by omega) (by omega) (by omega) (by omega);generalize hR:iD mk q a b c 5000 s.depth.toNat=R at Vk;have LQ:Hid (iD mk q a b c 5000 s.depth.toNat=R):=hR;have f5:=Qb.Ee;simp only[fU.v,bT.v]at Vk;have f6:Hid (S=fV q (o+1) a b c):=c4.1 (by rw[AcO,AcO]at b3;exact b3.symm);clear hR c5 kD b9 b4 c9 u0 u1 u2 u3 u4 z0 z1 z2 z3 z4 f0 f1 f2 f3 f4 b3;go_upto_region 25 with fail
       go_cut [17,18] from 21 to 125 (λp e wd=> ∃(g2:Nat) (r':fU),p=U (M ⟨g2,0,O⟩)/\e=I V R.2/\wd.heap[g2]?=M (bU r'.1.v r'.2.1.v r'.2.2.1.v (I V r'.2.2.2.1) (I V r'.2.2.2.2))/\wc.heap.size<=g2/\eT wd r' R.1/\aL wc wd)
       case first=>
        have ga:=aL.refl wc;have d6:1<S.size:=(by rw[e0];decide);have Iy:q=((S[1]'d6).toNat:Int):=HQ.out;clear HQ HP HN a0 c4 j_;subst Iy;have c2:IntKind.i64.wrap ((S[1]'(by omega)).toNat:Int)=((S[1]'(by omega)).toNat:Int):=by rw[AaC];omega
        go_region_held3 (λw'=>w'.cell? ⟨w.heap.size,0,O⟩=M (Z x A D)/\w'.cell? ⟨w.heap.size,1,O⟩=M (Z E u z)/\w'.cell? ⟨w.heap.size,2,O⟩=M (Z y B t)/\w'.cell? ⟨w.heap.size,3,O⟩=M (I V o)/\w'.cell? ⟨w.heap.size,4,O⟩=M (I V bf)/\w'.cell? ⟨xb,1,O⟩=M (I V s.depth)/\w'.cell? ⟨xb,1,O⟩=M (I V s.depth)/\aL wc w')
         (first|(refine TA y0 y1 y2 y3 y4 xd xd ?_;go_split_ands;with_reducible (first|assumption|exact aL.alloc rG _|exact dK rG (Aak _) _ _ _ _ _|exact dK (aL.alloc rG _) rG.le _ _ _ _ _|(refine aL.alloc ?_ _;assumption)|exact aL.drew rG|exact aL.drew (aL.alloc rG _)|exact aL.drew (dK rG (Aak _) _ _ _ _ _)|(refine aL.drew (aL.alloc ?_ _);assumption)|(refine aL.drew ?_;assumption))))
         (first|(go_at_call 99;refine(Vk _ (by go_split_ands;exact f5.aN (by assumption))).mono ?_;rintro e w5 ⟨r',rfl,c7,lN⟩;have rG:aL wc w5:=aL.more (by go_split_ands;assumption) lN;first|(refine Hl lN ?_;intro t0 t1 t2 t3 t4 tf th)|(refine Oz lN ?_;intro t0 t1 t2 t3 t4 tf th)|skip))
        all_goals go_wp2_with fail
        all_goals go_meet
        all_goals first
         |exact⟨_,r',rfl,rfl,qJ th.out _ _ _ _ _,Aak _,c7.KV th.out _ _ _ _ _,dK rG (Aak _) _ _ _ _ _⟩
         |exact⟨_,r',rfl,rfl,Aag w5 _,rG.le,c7.aN (aO _ _),rG.alloc _⟩
       case rest=>
        obtain⟨g2,⟨⟨e1,e2,e3⟩,⟨e4,e5,e6⟩,⟨e7,e8,e9⟩,Yl,Ib⟩,rfl,rfl,rR,Dm,EP,Yr⟩:=hcut
        rename F=>wd
        have Q:=Qb.more Yr;obtain⟨n0,n1,n2,n3,n4,-⟩:=aV rR;obtain⟨y0,y1,y2,y3,y4,f0,f1,f2,f3,f4⟩:=aV Q.mod;obtain⟨z0,z1,z2,z3,z4,h0,h1,h2,h3,h4⟩:=aV Q.res;simp only[bT.v]at n0 n1 n2 n3 n4 y0 y1 y2 y3 y4;by_cases u_:R.2=0
        ·have P:Hid (Si mk (J.data.toList.drop (22*k)) buf s.depth.toNat=M R.1):=by
          show _=_;rw[HP.out,LQ.out,Aad];exact⟨f6.out,YC.out,j_.out.1,u_⟩
         have om:=Q.put EP;simp only[bT.v]at om;have c6:Hid (OT w _ w.heap.size (w.heap.size+1) ((e1,e2,e3),(e4,e5,e6),(e7,e8,e9),Yl,Ib) R.1):=om
         have c1:Hid (eX R.1 s.depth.toNat/\R.1.2.2.2.1=m0.2.2.2.1+((k+1:Nat):Int)/\jC buf s.depth.toNat (J.size / 22+1) m0 J.data.toList=((jC buf s.depth.toNat (J.size / 22+1-(k+1)) R.1 (J.data.toList.drop (22*(k+1)))).1,(jC buf s.depth.toNat (J.size / 22+1-(k+1)) R.1 (J.data.toList.drop (22*(k+1)))).2+(k+1))):=by
          show _/\_;have JY:=GQ (m:=mk) (kind:=q) (a:=a) (b:=b) (c:=c) (most:=5000) (depth:=s.depth.toNat) (by rw[LQ.out];exact u_);rw[LQ.out]at JY;refine⟨?_,?_,?_⟩
          ·rw[<-LQ.out];refine OD Ih (λe=>?_) (by omega);have:=j_.out.2 e;exact⟨this.1,by omega⟩
          ·have:=HR.out.2.2.2.1;rw[JY.1];omega
          ·rw[HR.out.2.2.2.2];obtain⟨j,hj⟩:∃j,J.size / 22+1-k=j+1:=⟨J.size / 22+1-k-1,by omega⟩;have d2:J.size / 22+1-(k+1)=j:=(by omega);rw[hj,d2,jC,P.out];simp only[AdH];have m_:22*k+22=22*(k+1):=(by omega);rw[m_];congr 1;omega
         rw[u_];clear om u_ z0 z1 z2 z3 z4 h0 h1 h2 h3 h4 rR EP Dm;go_wp2_with fail;go_roundw
         case rel=>exact⟨k+1,((e1,e2,e3),(e4,e5,e6),(e7,e8,e9),Yl,Ib),R.1,by go_num,c6.out,by omega,c1.out⟩
         case measure=>simp[intOf];omega
        ·have g8:(R.2 !=0)=true:=(by simp[u_]);obtain⟨o1,o2,o3⟩:=Q.out;simp only[bT.v]at o1 o2 o3;obtain⟨W6,b2⟩:∃W6,W6=((((wd.setCell ⟨w.heap.size+1,0,O⟩ (Z x A D)).setCell ⟨w.heap.size+1,1,O⟩ (Z E u z)).setCell ⟨w.heap.size+1,2,O⟩ (Z y B t)).setCell ⟨w.heap.size+1,3,O⟩ (I V o)).setCell ⟨w.heap.size+1,4,O⟩ (I V bf):=⟨_,rfl⟩;rw[<-b2]at o1 o2 o3;obtain⟨u0,u1,u2,u3,u4,-⟩:=aV o1;have HO:Hid (eT W6 ((x,A,D),(E,u,z),(y,B,t),o,bf) mk/\aL w W6):=⟨o2,o3⟩
         have d1:Hid (Si mk (J.data.toList.drop (22*k)) buf s.depth.toNat=O):=by
          show _=_;rw[HP.out,LQ.out,Aaa];rintro⟨-,-,-,e⟩;exact u_ e
         clear o1 o2 o3 u_ rR EP n0 n1 n2 n3 n4 Dm;go_wp2_with fail;rw[<-b2];refine Aap (v:= .tuple #[.agg #[Z x A D,Z E u z,Z y B t,I V o,I V bf],I V (22*(k:Int))]) (by simp[results,results108,go_sem,u0,u1,u2,u3,u4]) rfl ?_;rw[HN.out d1.out];exact⟨((x,A,D),(E,u,z),(y,B,t),o,bf),by simp[bT.v],HO.out.1,HO.out.2⟩
     ·go_wp2_with fail;rw[<-b0];refine Aap (v:= .tuple #[.agg #[Z x A D,Z E u z,Z y B t,I V o,I V bf],I V (22*(k:Int))]) (by simp[results,results108,go_sem,u0,u1,u2,u3,u4]) rfl ?_;refine a0.out ?_;rw[HP.out,Aaa];rintro⟨-,e,-⟩;exact XI e
    ·go_wp2_with fail;rw[<-b0];refine Aap (v:= .tuple #[.agg #[Z x A D,Z E u z,Z y B t,I V o,I V bf],I V (22*(k:Int))]) (by simp[results,results108,go_sem,u0,u1,u2,u3,u4]) rfl ?_;refine a0.out ?_;rw[HP.out,Aaa];rintro⟨e,-⟩;exact b3 (by rw[e])
  ·have i1:¬22*(k:Int)+22<=(J.size:Int):=(by omega);have i2:(J.size:Int)<22*(k:Int)+22:=(by omega);have i3:22*(k:Int)<=1000000:=(by have:=HR.out.2.1;omega);have N:=HR.out.1;obtain⟨y0,y1,y2,y3,y4,-⟩:=aV N.mod;obtain⟨z0,z1,z2,z3,z4,f0,f1,f2,f3,f4⟩:=aV N.res;simp only[bT.v]at y0 y1 y2 y3 y4;obtain⟨o1,o2,o3⟩:=N.out;simp only[bT.v]at o1 o2 o3;obtain⟨W6,b2⟩:∃W6,W6=((((wr.setCell ⟨w.heap.size+1,0,O⟩ (Z x A D)).setCell ⟨w.heap.size+1,1,O⟩ (Z E u z)).setCell ⟨w.heap.size+1,2,O⟩ (Z y B t)).setCell ⟨w.heap.size+1,3,O⟩ (I V o)).setCell ⟨w.heap.size+1,4,O⟩ (I V bf):=⟨_,rfl⟩;rw[<-b2]at o1 o2 o3;obtain⟨u0,u1,u2,u3,u4,-⟩:=aV o1;have HO:Hid (eT W6 ((x,A,D),(E,u,z),(y,B,t),o,bf) mk/\aL w W6):=⟨o2,o3⟩
   have HN:Hid (jC buf s.depth.toNat (J.size / 22+1) m0 J.data.toList=(mk,k)):=by
    show _=_;have m_:=HR.out.2.1;rw[HR.out.2.2.2.2];obtain⟨j,hj⟩:∃j,J.size / 22+1-k=j+1:=⟨J.size / 22+1-k-1,by omega⟩
    have Qs:Si mk (J.data.toList.drop (22*k)) buf s.depth.toNat=O:=by
     unfold Si;rw[Aad];rw[AaX,Abd];show J.size-22*k<22;omega
    rw[hj,jC,Qs];simp
   clear o1 o2 o3 N;go_wp2_with fail;rw[<-b2];refine Aap (v:= .tuple #[.agg #[Z x A D,Z E u z,Z y B t,I V o,I V bf],I V (22*(k:Int))]) (by simp[results,results108,go_sem,u0,u1,u2,u3,u4]) rfl ?_;rw[HN.out];exact⟨x,A,D,E,u,z,y,B,t,o,bf,rfl,HO.out.1,HO.out.2⟩
end Go.Proofs.YtfplgfodoiiobabGreatDoor
