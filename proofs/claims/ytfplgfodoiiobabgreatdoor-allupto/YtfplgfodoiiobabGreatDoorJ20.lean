/- a part of the proof. -/
import Derived.Test.YtfplgfodoiiobabGreatDoorJ15
open Option renaming none->O,some->M
open Go.Value renaming int->I,slice->Z,pointer->U
open Go.IntKind renaming i64->V
open Go.Obj renaming cells->C
open Go.Ending renaming returned->G
open Go renaming World->F,Value->Y,Calls->H
open Go.Proofs.Tryz renaming prog→K
open Go.Proofs.Tryz
namespace Go.Proofs.YtfplgfodoiiobabGreatDoor
set_option maxHeartbeats 1000000
set_option maxRecDepth 100000
open Go.RowKit
variable {w:F}{l:List (Int×Int)}{pos:Int}{m:dI}{fs:List bD}
theorem put_eq (h:fC l)(p:Int×Int)(h0:0<=pos)(h1:pos<=sz l):fJ l 0 pos++ [p]++fJ l pos (sz l)=dW l pos++p::bV l pos:=by
 rw[zW h _ (AaT _),Oj h h0 h1];simp
theorem JQ {ao:Option Addr}{la ca:Nat}{x y:Int}(hr:vI w ao l)(e1:la=l.length)(ok:fC l)(hlen:l.length<=8000)(h0:0<=pos)(h1:pos<=sz l)(hm:¬Ry x y):
 H K 26 #[Z ao la ca,I V pos,.agg #[I V x,I V y]] w λe w'=>e=G (.tuple #[Z ao la ca,I V 1])/\Below w.heap.size w w':=by
 subst e1;unfold Ry at hm;by_cases g:y<1
 ·go_enter func26,ntmps26;go_wp2_with fail;refine(cB (hr.below (aO _ _)) rfl ok (by omega)).mono ?_;rintro e a ⟨rfl,rfl⟩;go_wp2_with fail;go_ret2;exact⟨rfl,aO _ _⟩
 ·by_cases c:5000<y
  ·go_enter func26,ntmps26;go_wp2_with fail;refine(cB (hr.below (aO _ _)) rfl ok (by omega)).mono ?_;rintro e a ⟨rfl,rfl⟩;go_wp2_with fail;go_ret2;exact⟨rfl,aO _ _⟩
  ·by_cases d:x<0
   ·go_enter func26,ntmps26;go_wp2_with fail;refine(cB (hr.below (aO _ _)) rfl ok (by omega)).mono ?_;rintro e a ⟨rfl,rfl⟩;go_wp2_with fail;go_ret2;exact⟨rfl,aO _ _⟩
   ·have h:1000000000<x:=(by omega);go_enter func26,ntmps26;go_wp2_with fail;refine(cB (hr.below (aO _ _)) rfl ok (by omega)).mono ?_;rintro e a ⟨rfl,rfl⟩;go_wp2_with fail;go_ret2;exact⟨rfl,aO _ _⟩
theorem WW {B:Nat}{v:Y}{l:List UInt8}(h:bL w B v l)(hB:B<=w.heap.size)(hl:l.length<=900000000):
 H K 189 #[v] w λe w'=> ∃v',e=G v'/\bL w' B v' (l++gF (kU l))/\w.grownBy w' v.ownBlock/\iK w v v':=by
 obtain⟨r,cap,rfl,j,-⟩:=bL.form h;have d:=zZ l;have c:=Gu h hB d.1 d.2 hl;have a:=L_ (cap:=cap) j rfl hl;generalize kU l=z at c a ⊢;go_enter func189,ntmps189;go_wp2_with fail;refine a.mono ?_;rintro e w ⟨rfl,rfl⟩;go_wp2_with fail;refine c.mono ?_;rintro e o ⟨n,rfl,i,k,g⟩
 go_wp2
 go_ret;exact⟨_,rfl,i,k,g⟩
theorem SF {r:fU}{a b c most:Int}{depth:Nat}(hm:eT w r m)(ok:okM m)(dx:a<=9223372036854775807)(fQ:b<=9223372036854775807)(hd:depth<=100):
 H K 99 #[r.v,I V 68,I V a,I V b,I V c,I V most,I V (depth:Int)] w λe w'=>
  ∃r',e=G (.tuple #[fU.v r',I V (Bu m a b depth).2])/\eT w' r' (Bu m a b depth).1/\Below w.heap.size w w':=by
 have HM:Hid (eT w r m):=hm;obtain⟨m1,m2,m3,m4,m5⟩:=hm;obtain⟨⟨t,tl,y⟩,⟨j,n,k⟩,⟨z,u,o⟩,h,bf⟩:=r;obtain⟨d,X,kC,Yl,Ib⟩:=m;simp only at m1 m2 m3 m4 m5;subst m4 m5;obtain⟨Q,o2,o3,o4,o5,o6,o7,o8⟩:=ok;simp only at Q o2 o3 o4 o5 o6 o7 o8;obtain⟨W,t2,t3⟩:=m1;simp only at W t2 t3;subst t2;have bs:=kT Q;simp only[fU.v,bT.v];by_cases h1:a<0\/b<1\/sz d<a\/sz d-a<b
 ·have HE:Hid (Bu (d,X,kC,h,bf) a b depth=((d,X,kC,h,bf),5)):=by show _=_;simp only[Bu,Aad h1]
  by_cases c1:a<0
  ·have d1:decide (a<0)=true:=(by simp[c1]);go_enter func99,ntmps99;go_wp2_with fail;refine(cB (l:=d) (W.1.below (aQ (aO _ _) (aO _ _))) rfl Q (by omega)).mono ?_;rintro e w1 ⟨rfl,rfl⟩;go_wp2_with fail;have A:=(three w (C #[Z t d.length y,Z j n k,Z z u o,I V h,I V bf] 91) (C #[Z t d.length y,Z j n k,Z z u o,I V h,I V bf] 91) (C #[Z t d.length y,Z j n k,Z z u o,I V h,I V bf] 91)).2.2.2.2;refine Aap (v:= .tuple #[.agg #[Z t d.length y,Z j n k,Z z u o,I V h,I V bf],I V 5]) (by simp[results,results99,go_sem]) rfl ?_;rw[HE.out];exact⟨((t,d.length,y),(j,n,k),(z,u,o),h,bf),rfl,HM.out.aN A,A⟩
  ·have d1:decide (a<0)=false:=(by simp;omega);by_cases c2:b<1
   ·have d2:decide (b<1)=true:=(by simp;omega);go_enter func99,ntmps99;go_wp2_with fail;refine(cB (l:=d) (W.1.below (aQ (aO _ _) (aO _ _))) rfl Q (by omega)).mono ?_;rintro e w1 ⟨rfl,rfl⟩;go_wp2_with fail;have A:=(three w (C #[Z t d.length y,Z j n k,Z z u o,I V h,I V bf] 91) (C #[Z t d.length y,Z j n k,Z z u o,I V h,I V bf] 91) (C #[Z t d.length y,Z j n k,Z z u o,I V h,I V bf] 91)).2.2.2.2;refine Aap (v:= .tuple #[.agg #[Z t d.length y,Z j n k,Z z u o,I V h,I V bf],I V 5]) (by simp[results,results99,go_sem]) rfl ?_;rw[HE.out];exact⟨((t,d.length,y),(j,n,k),(z,u,o),h,bf),rfl,HM.out.aN A,A⟩
   ·have d2:decide (b<1)=false:=(by simp;omega);by_cases c3:sz d<a
    ·have d3:decide (sz d<a)=true:=(by simp[c3]);go_enter func99,ntmps99;go_wp2_with fail;refine(cB (l:=d) (W.1.below (aQ (aO _ _) (aO _ _))) rfl Q (by omega)).mono ?_;rintro e w1 ⟨rfl,rfl⟩;go_wp2_with fail;have A:=(three w (C #[Z t d.length y,Z j n k,Z z u o,I V h,I V bf] 91) (C #[Z t d.length y,Z j n k,Z z u o,I V h,I V bf] 91) (C #[Z t d.length y,Z j n k,Z z u o,I V h,I V bf] 91)).2.2.2.2;refine Aap (v:= .tuple #[.agg #[Z t d.length y,Z j n k,Z z u o,I V h,I V bf],I V 5]) (by simp[results,results99,go_sem]) rfl ?_;rw[HE.out];exact⟨((t,d.length,y),(j,n,k),(z,u,o),h,bf),rfl,HM.out.aN A,A⟩
    ·have d3:decide (sz d<a)=false:=(by simp;omega);have c4:sz d-a<b:=(by omega);go_enter func99,ntmps99;go_wp2_with fail;refine(cB (l:=d) (W.1.below (aQ (aO _ _) (aO _ _))) rfl Q (by omega)).mono ?_;rintro e w1 ⟨rfl,rfl⟩;go_wp2_with fail;have A:=(three w (C #[Z t d.length y,Z j n k,Z z u o,I V h,I V bf] 91) (C #[Z t d.length y,Z j n k,Z z u o,I V h,I V bf] 91) (C #[Z t d.length y,Z j n k,Z z u o,I V h,I V bf] 91)).2.2.2.2;refine Aap (v:= .tuple #[.agg #[Z t d.length y,Z j n k,Z z u o,I V h,I V bf],I V 5]) (by simp[results,results99,go_sem]) rfl ?_;rw[HE.out];exact⟨((t,d.length,y),(j,n,k),(z,u,o),h,bf),rfl,HM.out.aN A,A⟩
 ·have a1:¬a<0:=by omega
  have a2:¬b<1:=by omega
  have a3:¬sz d<a:=by omega
  have a4:¬sz d-a<b:=by omega
  have HA:Hid (4096<(bN d a b).1.length->Bu (d,X,kC,h,bf) a b depth=((d,X,kC,h,bf),13)):=λhf=>by simp only[Bu,Aaa h1,Aad hf]
  have HB:Hid (¬4096<(bN d a b).1.length->Bu (d,X,kC,h,bf) a b depth=(((bN d a b).1,((a,(bN d a b).2,[])::X).take depth,[],h+1,bf),0)):=λhf=>by simp only[Bu,Aaa h1,Aaa hf]
  clear h1;go_enter func99,ntmps99;go_wp2_with fail;refine(cB (l:=d) (W.1.below (aQ (aO _ _) (aO _ _))) rfl Q (by omega)).mono ?_;rintro e w1 ⟨rfl,rfl⟩;go_upto_region 19 with fail;obtain⟨r1,r2,r3,q4,B2⟩:=three w (bU (Z t d.length y) (Z j n k) (Z z u o) (I V h) (I V bf)) (bU (Z O 0 0) (Z O 0 0) (Z O 0 0) (I V 0) (I V 0)) (bU (Z t d.length y) (Z j n k) (Z z u o) (I V h) (I V bf))
  rw[show(Obj.cells #[Z t d.length y,Z j n k,Z z u o,I V h,I V bf] 91)=bU (Z t d.length y) (Z j n k) (Z z u o) (I V h) (I V bf) from rfl,
   show(Obj.cells #[Z O 0 0,Z O 0 0,Z O 0 0,I V 0,I V 0] 91)=bU (Z O 0 0) (Z O 0 0) (Z O 0 0) (I V 0) (I V 0) from rfl]
  generalize ((w.alloc (bU (Z t d.length y) (Z j n k) (Z z u o) (I V h) (I V bf))).alloc (bU (Z O 0 0) (Z O 0 0) (Z O 0 0) (I V 0) (I V 0))).alloc (bU (Z t d.length y) (Z j n k) (Z z u o) (I V h) (I V bf))=w2 at*;clear q4;obtain⟨x0,x1,x2,x3,x4,-⟩:=aV r1;have n1:w.heap.size≠w.heap.size+1+1:=by omega
  have n2:w.heap.size+1≠w.heap.size+1+1:=by omega
  go_wp2_with fail;refine(EL (l:=d) (W.below B2) rfl t3 Q (by omega) (by omega) (by omega) (by omega)).mono ?_;rintro e w3 ⟨B,E,a8,a5,rfl,Gs,Nw,pG,S,sU⟩;have a7:=bH sU r1;have b0:=bH sU r2;have P:=bH sU r3;have A:=aQ B2 sU;have a9:bJ w3 (B,(bN d a b).1.length,E) (bN d a b).1:=⟨Gs,rfl,Nw⟩;have a6:bJ w3 (a8,(bN d a b).2.length,a5) (bN d a b).2:=⟨pG,rfl,S⟩;clear r1 r2 r3 x0 x1 x2 x3 x4 Gs Nw pG S;obtain⟨z0,-,-,-,-,z5,-⟩:=aV P;go_upto_region 21 with fail;have s1:=dR (g:=w.heap.size+1+1) (i:=0) (v:=Z B (bN d a b).1.length E) a7 n1;have s2:=dR (g:=w.heap.size+1+1) (i:=0) (v:=Z B (bN d a b).1.length E) b0 n2;have s3:=oI (v:=Z B (bN d a b).1.length E) P;have t4:=a9.jS (i:=0) (v:=Z B (bN d a b).1.length E) P;have g4:=a6.jS (i:=0) (v:=Z B (bN d a b).1.length E) P;have B4:Below w.heap.size w (w3.setCell ⟨w.heap.size+1+1,0,O⟩ (Z B (bN d a b).1.length E)):=A.setCell (p:=⟨w.heap.size+1+1,0,O⟩) (by simp only;omega) _;clear a7 b0 P z0 z5 sU A a9 a6;generalize w3.setCell ⟨w.heap.size+1+1,0,O⟩ (Z B (bN d a b).1.length E)=w4 at*;obtain⟨x0,x1,x2,x3,x4,-⟩:=aV s1;go_wp2_with fail;refine(Bq (r:=(a,(a8,(bN d a b).2.length,a5),(O,0,0))) (e:=(a,(bN d a b).2,[])) (x:=(j,n,k)) (l:=X) ⟨rfl,g4,⟨nK.nil _,rfl,λ_=>⟨rfl,rfl⟩⟩⟩ (m2.aN B4) (by omega) (by omega)).mono ?_;rintro e w5 ⟨⟨N,J,L⟩,rfl,a0,lN⟩;simp only[bT.v];have u1:=bH lN s1;have u2:=bH lN s2;have u3:=bH lN s3;have t5:=t4.aN lN;have B5:=aQ B4 lN;clear s1 s2 s3 x0 x1 x2 x3 x4 t4 g4 B4 lN;obtain⟨x0,x1,x2,x3,x4,-⟩:=aV u1;obtain⟨y0,y1,y2,y3,y4,f0,f1,f2,f3,f4⟩:=aV u3;go_upto_region 39 with fail;have v1:=dR (g:=w.heap.size+1+1) (i:=2) (v:=Z O 0 0) (dR (g:=w.heap.size+1+1) (i:=1) (v:=Z N J L) u1 n1) n1;have v2:=dR (g:=w.heap.size+1+1) (i:=2) (v:=Z O 0 0) (dR (g:=w.heap.size+1+1) (i:=1) (v:=Z N J L) u2 n2) n2;have u4:=nA (v:=Z N J L) u3;have v3:=nC (v:=Z O 0 0) u4;have t6:=(t5.jS (i:=1) (v:=Z N J L) u3).jS (i:=2) (v:=Z O 0 0) u4;have e6:=(a0.jS (i:=1) (v:=Z N J L) u3).jS (i:=2) (v:=Z O 0 0) u4;have B6:=(B5.setCell (p:=⟨w.heap.size+1+1,1,O⟩) (by simp only;omega) (Z N J L)).setCell (p:=⟨w.heap.size+1+1,2,O⟩) (by simp only;omega) (Z O 0 0);clear u1 u2 u3 u4 t5 a0 B5 x0 x1 x2 x3 x4 y0 y1 y2 y3 y4 f0 f1 f2 f3 f4;generalize (w5.setCell ⟨w.heap.size+1+1,1,O⟩ (Z N J L)).setCell ⟨w.heap.size+1+1,2,O⟩ (Z O 0 0)=w6 at*;obtain⟨x0,x1,x2,x3,x4,-⟩:=aV v1;obtain⟨k0,k1,k2,k3,k4,l0,l1,l2,l3,l4⟩:=aV v2;obtain⟨y0,y1,y2,y3,y4,f0,f1,f2,f3,f4⟩:=aV v3;have n3:w.heap.size≠w.heap.size+1:=by omega
  by_cases hf:4096<(bN d a b).1.length
  ·have bn:(4096:Int)<((bN d a b).1.length:Int):=(by omega);go_wp2_with fail;obtain⟨v5,B7⟩:=Bt (T:=Z t d.length y) (aH:=Z j n k) (R:=Z z u o) (D:=I V h) (Bf:=I V bf) (by omega) v2 B6;generalize ((((w6.setCell ⟨w.heap.size+1,0,O⟩ (Z t d.length y)).setCell ⟨w.heap.size+1,1,O⟩ (Z j n k)).setCell ⟨w.heap.size+1,2,O⟩ (Z z u o)).setCell ⟨w.heap.size+1,3,O⟩ (I V h)).setCell ⟨w.heap.size+1,4,O⟩ (I V bf)=w7 at*;obtain⟨i0,i1,i2,i3,i4,-⟩:=aV v5;refine Aap (v:= .tuple #[.agg #[Z t d.length y,Z j n k,Z z u o,I V h,I V bf],I V 13]) (by simp[results,results99,go_sem,i0,i1,i2,i3,i4]) rfl ?_;rw[HA.out hf];exact⟨((t,d.length,y),(j,n,k),(z,u,o),h,bf),rfl,HM.out.aN B7,B7⟩
  ·have bn:¬(4096:Int)<((bN d a b).1.length:Int):=(by omega);go_wp2_with fail;obtain⟨v5,M7,B7⟩:=Gv (ot:=w.heap.size+1+1) (rs:=w.heap.size+1) (T:=(B,(bN d a b).1.length,E)) (aH:=(N,J,L)) (R:=(O,0,0)) (D:=h) (D':=h+1) (Bf:=bf) n2 (by omega) (by omega) v2 v3 t6 e6 (fK.nil _) B6;simp only[bT.v]at v5 M7 B7;generalize ((((((w6.setCell ⟨w.heap.size+1+1,3,O⟩ (I V (h+1))).setCell ⟨w.heap.size+1,0,O⟩ (Z B (bN d a b).1.length E)).setCell ⟨w.heap.size+1,1,O⟩ (Z N J L)).setCell ⟨w.heap.size+1,2,O⟩ (Z O 0 0)).setCell ⟨w.heap.size+1,3,O⟩ (I V (h+1))).setCell ⟨w.heap.size+1,4,O⟩ (I V (bf)))=w7 at*;obtain⟨i0,i1,i2,i3,i4,-⟩:=aV v5;refine Aap (v:= .tuple #[.agg #[Z B (bN d a b).1.length E,Z N J L,Z O 0 0,I V (h+1),I V (bf)],I V 0]) (by simp[results,results99,go_sem,i0,i1,i2,i3,i4]) rfl ?_;rw[HB.out hf]
   first
    |exact⟨((B,(bN d a b).1.length,E),(N,J,L),(O,0,0),h+1,bf),rfl,M7,B7⟩
    |exact⟨B,(bN d a b).1.length,E,N,J,L,O,0,0,h+1,bf,rfl,M7,B7⟩
theorem Ev {xb:Nat}{s:Sc}{f:bT}(h:bO w xb s fs m f)(hl:fs.length<=90000)(kD:∀f∈fs,okF f)(h1:0<=s.one)(h2:0<=s.rest)(ha:s.after<=9223372036854775807):
 H K 120 #[U (M ⟨xb,0,O⟩)] w λe w'=>e=G (.bool (dL s fs).1)/\∃f':bT,bO w' xb (dL s fs).2.1 (dL s fs).2.2 m f'/\kX w w' xb f f':=by
 have HS:Hid (bO w xb s fs m f):=h;obtain⟨r,u,hf,hm⟩:=h;obtain⟨c3,c4,c5,Q,c7,yN,E⟩:=lI u;by_cases W:s.jV=false
 ·have P:Hid (dL s fs=(true,s,fs)):=by show _=_;unfold dL;rw[Aad W]
  rw[W]at c4;clear E;go_enter func120,ntmps120;go_wp2_with fail;go_ret;rw[P.out];exact⟨rfl,f,HS.out,kX.refl _ _ _⟩
 ·have sP:s.jV=true:=by simpa using W
  rw[sP]at c4;by_cases e2:0<s.after
  ·have P:Hid (dL s fs=(true,{ s with after:=s.after-1 },fs)):=(by show _=_;unfold dL;rw[Aaa W,Aad e2]);have f5:=E 5;clear E;go_enter func120,ntmps120;go_wp2_with fail;go_ret;rw[P.out];exact⟨rfl,f,⟨r,Uy _ u,hf.jM u,hm.jM u⟩,(kX.refl _ _ _).set⟩
  ·have P:Hid (dL s fs=(false,{ s with jV:=false,aX:=false },sJ (fs.map (gQ s.one s.rest)))):=(by show _=_;unfold dL;rw[Aaa W,Aaa e2]);have f4:=E 4;have a3:=E 10;clear E;go_enter func120,ntmps120;go_wp2_with fail;have pJ:=Ux false u;have Xy:=Eu false pJ;have Jr:=(hf.jM (i:=4) u).jM (i:=10) (v:= .bool false) pJ;have EP:=(hm.jM (i:=4) u).jM (i:=10) (v:= .bool false) pJ;have F2:kX w ((w.setCell ⟨xb,4,O⟩ (.bool false)).setCell ⟨xb,10,O⟩ (.bool false)) xb f f:=(kX.refl _ _ _).set.set;clear pJ hf hm u c3 c4 c5 Q c7 yN f4 a3;generalize (w.setCell _ _).setCell _ _=B at*;obtain⟨c3,-,-,Q,c7,-,-⟩:=lI Xy;simp only at Q c7;have R_:=aM Xy;obtain⟨fo,fl,fc⟩:=f;obtain⟨r1,r2,r3⟩:=Jr;simp only at r1 r2 r3;subst r2;simp only[bT.v]at c3
   go_loopw [3,4] (λv i wr=> ∃k:Nat,k<=fs.length/\i=I V (k:Int)/\uO wr B.heap.size v ((fs.take k).map (gQ s.one s.rest))/\Below B.heap.size B wr) (λ_ i _=>fs.length-(intOf i).toNat)
   case atStart=>exact⟨0,Aao _,rfl,AaH _ _ _ _,AaP _ _⟩
   case round=>
    obtain⟨k,hk,rfl,x,n⟩:=hrel;have Qm:((fs.take k).map (gQ s.one s.rest)).length<=fs.length:=(by rw[AbM,Aaz];omega);have d3:=Aay n c3;have d6:=Aay n Q;have d7:=Aay n c7;by_cases bQ:k<fs.length
    ·obtain⟨⟨d,c,j⟩,hg⟩:∃g,fs[k]?=M g:=⟨_,Aaf bQ⟩;have HT:Hid ((fs.take (k+1)).map (gQ s.one s.rest)=(fs.take k).map (gQ s.one s.rest)++ [gQ s.one s.rest (d,c,j)]):=map_take hg _;obtain⟨o1,o2,o3⟩:=kD _ (Aai hg);obtain⟨b,off,rfl,p1,p2,p3⟩:=(r1.aN n).at hg;simp only at p1 p2 p3 o1 o2 o3;have i1:(0:Int)<=(k:Int):=(by omega);have i2:(k:Int)<(fs.length:Int):=(by omega);have a6:wr.heap.size≠xb:=(by have:=n.size;omega);have A:xb<wr.heap.size:=(by have:=n.size;omega);generalize (fs.take k).map (gQ s.one s.rest)=out at x Qm HT;clear hg r1 c3 Q c7;by_cases g1:d=1;have a2:(d==1)=true:=(by simp[g1]);by_cases g2:s.one<(c.size:Int)-j;have D:(0:Int)<=j+s.one:=(by omega);have y:j+s.one<=(c.size:Int):=(by omega);obtain⟨X,t⟩:∃X:bD,X=(d,c.extract 0 (j+s.one).toNat,j+s.one):=⟨_,rfl⟩;have HF:Hid (X=gQ s.one s.rest (d,c,j)):=by show _=_;rw[t];simp only[gQ,uP];simp[*]
     rotate_left
     have D:(0:Int)<=(c.size:Int):=(by omega);have y:(c.size:Int)<=(c.size:Int):=(by omega);obtain⟨X,t⟩:∃X:bD,X=(d,c,(c.size:Int)):=⟨_,rfl⟩;have HF:Hid (X=gQ s.one s.rest (d,c,j)):=by show _=_;rw[t];simp only[gQ,uP];simp[*]
     rotate_left
     have a2:(d==1)=false:=(by simp[g1]);by_cases g2:s.rest<(c.size:Int)-j;have D:(0:Int)<=j+s.rest:=(by omega);have y:j+s.rest<=(c.size:Int):=(by omega);obtain⟨X,t⟩:∃X:bD,X=(d,c.extract 0 (j+s.rest).toNat,j+s.rest):=⟨_,rfl⟩;have HF:Hid (X=gQ s.one s.rest (d,c,j)):=by show _=_;rw[t];simp only[gQ,uP];simp[*]
     rotate_left
     have D:(0:Int)<=(c.size:Int):=(by omega);have y:(c.size:Int)<=(c.size:Int):=(by omega);obtain⟨X,t⟩:∃X:bD,X=(d,c,(c.size:Int)):=⟨_,rfl⟩;have HF:Hid (X=gQ s.one s.rest (d,c,j)):=by show _=_;rw[t];simp only[gQ,uP];simp[*]
     all_goals
      clear g1;go_upto_region 19 with fail;have k0:(wr.alloc (C #[I V d,.string c,I V j] 97)).cell? ⟨wr.heap.size,0,O⟩=M (I V d):=(by simp);have R:(wr.alloc (C #[I V d,.string c,I V j] 97)).cell? ⟨wr.heap.size,1,O⟩=M (.string c):=(by simp);have uG:uO (wr.alloc (C #[I V d,.string c,I V j] 97)) B.heap.size u3 out:=Aax x _;have QI:Below B.heap.size B (wr.alloc (C #[I V d,.string c,I V j] 97)):=aQ n (aO _ _);have a0:∀i,M (⟨wr.heap.size,i,O⟩:Addr).block≠u3.ownBlock:=λi e=>by have:=(AaB x _ e.symm).2;simp at this
      have a5:=AaD wr (C #[I V d,.string c,I V j] 97);have Ll:=QI.size;clear x n p1 p2 p3 d3 d6 d7;generalize hq:wr.heap.size=S at*;generalize wr.alloc _=wq at*;have a4:∀o,(wq.alloc o).heap[S+1]?=M o:=λo=>by rw[<-a5];exact Aag wq o
      have L:∀o,(wq.alloc o).cell? ⟨S,0,O⟩=M (I V d):=λo=>Aay (aO _ _) k0;have a1:∀o,(wq.alloc o).cell? ⟨S,1,O⟩=M (.string c):=λo=>Aay (aO _ _) R
      go_region_held3 (λw'=>w'.cell? ⟨S,0,O⟩=M (I V d)/\w'.cell? ⟨S,1,O⟩=M (.string c))
       (first|assumption|(exact⟨k0,R⟩)|(exact⟨L _,a1 _⟩)|(exact⟨z.cell (L _) (a0 0),z.cell (a1 _) (a0 1)⟩))
       ((refine Oq (by rfl) (.tmp 71) (.tmp 80) (by rfl) B.heap.size u3 out X (by rfl) (by exact Aax uG _) _ _ _ (by rfl) (by rfl) (by rw[t];exact AbH (a4 _)) (by omega) (by simp;omega) ?_;intro v5 w5 dG z))
      all_goals go_wp2_with fail
      all_goals go_roundw
      case rel=>exact⟨k+1,by omega,by go_num,by rw[HT.out,<-HF.out];exact dG,(iQ QI (aO _ _) (by omega)).grown ⟨z.os,z.tape,z.output,z.size,z.block⟩ (by simp;omega) (λk e=>(AaB uG k e).1)⟩
      case measure=>simp[intOf];omega
    ·have e9:fs.take k=fs:=Aaq (by omega);rw[e9]at x Qm;obtain⟨x9,n9,c9,rfl⟩:=nT x;obtain⟨R,k2,k3⟩:=rQ x;simp only at R k2 k3;have A:=(n.block xb R_).trans Xy;have HK:Hid _:=k2;clear x d6 d7 k2 k3;go_wp2_with fail;refine(XC A R HK.out (by omega)).mono ?_;rintro e w6 ⟨rfl,f',w7,rfl,EO,J,Uv⟩;go_wp2_with fail;go_ret;rw[P.out];have Xz:=(J.block xb (by have:=n.size;omega)).trans A;have N:=aQ n J;exact⟨rfl,f',⟨r,sW Xz,EO.jM Xz,(EP.aN N).jM Xz⟩,((F2.aN N).row (λa e=>Aal F2.1.1 (Aal n.size (Uv a e)))).set⟩
theorem Ab {l:List bD}(h:vY l){f:bD}(hf:f.2.1.size≠0){but:Int}(hb:∀g∈l,g.1≠but):qI l f but=jA l f:=by
 have o:l.filter (qA f.1 but)=jE l f.1:=by
  unfold jE;refine Adp (λg d=>?_);have:=hb g d;simp[qA,this]
 unfold qI;rw[o,Ot,Aaa hf];have t:(jE l f.1).Pairwise (λa b=>a.1<b.1):=h.1.sublist AbA
 have r:sJ (jE l f.1)=jE l f.1:=by
  rw[yY t,AbR];intro g d;have:=h.2 g (Abl.1 d).1;simpa using this
 rw[r];obtain⟨A,B,i,j,c⟩:=sZ h.1 f.1;have n:jE A f.1=A:=wU (λg d=>by have:=i g d;omega);have k:jE B f.1=B:=wU (λg d=>by have:=j g d;omega);rcases c with rfl|⟨g,e,rfl⟩
 ·rw[lJ,n,k,Lx i j,xQ i j]
 ·have:jE (A++g::B) f.1=A++B:=by
   rw[lJ,n,show g::B=[g]++B from rfl,lJ,k];simp[jE,e]
  rw[this,Lx i j,qY i e]
theorem gH.sub {room:Int}(h:gH room fs)(p:bD->Bool):gH room (fs.filter p):=
 ⟨⟨h.sort.1.sublist AbA,λf a=>h.sort.2 f (Abl.1 a).1⟩,λf a=>h.ok f (Abl.1 a).1,λf a=>h.nn f (Abl.1 a).1,AcN (Ma _ _) h.used⟩
def cO (s:Sc)(fs:List bD)(n:Int):Bool×Sc×List bD:=match rP fs n with
 |none=>(true,s,fs)
 |some i=>let r:=dL s fs;if r.1 then (true,r.2.1,r.2.2.set i (n,aP r.2.2 n,(aP r.2.2 n).size))else r
def bM (s:Sc)(fs:List bD)(n k:Int):Bool×Sc×List bD:=
 if ((aP fs n).size:Int)<=k then (true,s,fs)
 else let r:=dL s fs;if r.1 then (true,r.2.1,qI r.2.2 (n,(aP fs n).extract 0 k.toNat,k) (-1))else r
theorem Aj.trans {a b c:Sc}(h1:Aj a b)(h2:Aj b c):Aj a c:=⟨h1.1.trans h2.1,h2.2.1.trans h1.2.1,h2.2.2.1.trans h1.2.2.1,h2.2.2.2⟩
def sQ (x:St)(pos n:Int):ByteArray×Int:=
 if x.1.aX=false then (⟨#[]⟩,3)else if pos<0\/n<0\/sz x.2.2.1<pos\/sz x.2.2.1-pos<n then (⟨#[]⟩,5)
 else (nP (aP x.2.1 1) (fJ x.2.2.1 pos (pos+n)),0)
theorem Yq.aN {w':F}{ps:Nat->Addr}(h:Yq w ps)(hg:aL w w'):Yq w' ps:=h.fr (Fr.bK hg (λ_=>False)) (λ_ _ _=>id)
def AddD (w w':F)(ps:Nat->Addr)(db:Nat)(s:Sc)(fv:Y)(rs:List FR)(n:Int)(b:ByteArray)(v:Y):Prop:=
 ∃eD dY,aU w' db (bY s (plain rs) n b).2.1 eD dY/\plain dY=(bY s (plain rs) n b).2.2/\Dk w w' (DX db fv rs) (DX db eD dY)/\ErrD w' ps v (bY s (plain rs) n b).1
theorem addS_ref (s:Sc)(fs:List bD)(n:Int)(b:ByteArray):((qL s fs (b.size:Int)).1=true->(bY s fs n b).1=9/\(bY s fs n b).2.1= { (qL s fs (b.size:Int)).2 with ro:=true }/\(bY s fs n b).2.2=fs)/\
 ((qL s fs (b.size:Int)).1=false->bY s fs n b=(if (dL (qL s fs (b.size:Int)).2 fs).1 then (0,(dL (qL s fs (b.size:Int)).2 fs).2.1,qI (dL (qL s fs (b.size:Int)).2 fs).2.2 (nN (dL (qL s fs (b.size:Int)).2 fs).2.2 n b) (-1))else (10,(dL (qL s fs (b.size:Int)).2 fs).2.1,(dL (qL s fs (b.size:Int)).2 fs).2.2))):=by
 unfold bY qL;split
 ·simp
 ·split
  ·simp
  ·simp
theorem new3 (w:F)(o1 o2 o3:Obj):aL w (((w.alloc o1).alloc o2).alloc o3)/\(((w.alloc o1).alloc o2).alloc o3).heap[w.heap.size]?=M o1/\(((w.alloc o1).alloc o2).alloc o3).heap[w.heap.size+1]?=M o2/\(((w.alloc o1).alloc o2).alloc o3).heap[w.heap.size+1+1]?=M o3:=by
 refine⟨aL.alloc (aL.alloc (aL.alloc (aL.refl w) _) _) _,?_,?_,?_⟩
 ·rw[Abg _ o3 _ (by simp;omega),Abg _ o2 _ (by simp)];exact Aag w o1
 ·rw[Abg _ o3 _ (by simp)];have:=Aag (w.alloc o1) o2;rwa[AaD]at this
 ·have:=Aag ((w.alloc o1).alloc o2) o3;rwa[AaD,AaD]at this
theorem Ty {l:List Ed}:∀ {n:Int},(∀e∈l,0<=e.1)->qO n l=mV (l.map pV) n:=by
 induction l with
 |nil=>intro n _;rfl
 |cons e l g=>
  intro n h;have j:=h e (by simp);rw[AaK,pV,mV,qO];by_cases a:n<e.1+sz e.2.1
  ·rw[Aad a,Aad (by omega)]
  ·rw[Aaa a,Aaa (by omega)];have d:n+(sz e.2.2-sz e.2.1)=n-sz e.2.1+sz e.2.2:=(by omega);rw[d,g (λi c=>h i (by simp[c]))]
end Go.Proofs.YtfplgfodoiiobabGreatDoor
