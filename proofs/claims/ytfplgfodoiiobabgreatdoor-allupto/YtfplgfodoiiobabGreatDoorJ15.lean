/- a part of the proof. -/
import Derived.Test.YtfplgfodoiiobabGreatDoorJ09
import Derived.Test.YtfplgfodoiiobabGreatDoorJ11
open Option renaming none->O,some->M
open Go.Value renaming int->I,slice->Z,pointer->U
open Go.IntKind renaming i64->V
open Go.Obj renaming cells->C
open Go.Ending renaming returned->G
open Go renaming World->F,Value->Y,Calls->H
open Go.Proofs.Tryz renaming prog→K
open Go.Proofs.Tryz
namespace Go.Proofs.YtfplgfodoiiobabGreatDoor
set_option maxHeartbeats 4000000
set_option maxRecDepth 100000
open Go.RowKit
variable {w w' w5 W w1 w3:F}{m:dI}{depth db g dp tb cap i lo la ca B d j c5 bx b2 xn xc k:Nat}{l:List (Int×Int)}{s:Sc}{rs:List FR}{ao xo:Option Addr}{v fv v5:Y}{r:FR}{x u:bT}{pos n a b t2 cnt dn bf c most size:Int}{e:Ed}{X:Nat->Prop}{S:ByteArray}
theorem cut_eq (h:fC l)(h0:0<=pos)(hn:0<=n)(h1:n<=sz l-pos):
 fJ l 0 pos++fJ l (pos+n) (sz l)=dW l pos++bV (bV l pos) n/\fJ l pos (pos+n)=dW (bV l pos) n:=by
 rw[zW h _ (AaT _),Oj h (by omega) (by omega),yT h h0 hn,ED h _ h0,show pos+n-pos=n from by omega];exact⟨rfl,rfl⟩
theorem WR (hr:vI w ao l)(e1:la=l.length)(ok:fC l)(hlen:l.length<=8000)(h0:0<=pos)(hn:0<n)(h1:n<=sz l-pos):
 H K 76 #[Z ao la ca,I V pos,I V n] w λe w'=>
  ∃v g,e=G (.tuple #[v,g])/\fH w' w.heap.size v (zV l pos n)/\fH w' w.heap.size g (uH l pos n)/\Below w.heap.size w w':=by
 subst e1;have Q:=kT ok;have D:=uJ l 0 pos;have A:=uJ l (pos+n) (sz l);have k:Hid (fJ l 0 pos++fJ l (pos+n) (sz l)=zV l pos n/\fJ l pos (pos+n)=uH l pos n):=cut_eq ok h0 (by omega) h1;have Ny:(n==0)=false:=by simp;omega
 go_enter func76,ntmps76;go_wp2_with fail;refine(uI hr rfl ok (by omega) (by omega) (by omega) h0 (by omega)).mono ?_;rintro e z ⟨R,rfl,u,c⟩;have x:=hr.below c;have P:=c.size;go_wp2_with fail;refine(cB x rfl ok (by omega)).mono ?_;rintro e z ⟨rfl,rfl⟩;go_wp2_with fail;refine(uI x rfl ok (by omega) (by omega) (by omega) (by omega) (by omega)).mono ?_;rintro e X ⟨v3,rfl,o,t⟩;obtain⟨W,E,rfl,h,y⟩:=o.form;have a:=u.below t;have r:=aQ c t;have QJ:=r.size;clear u o;go_upto_region 5 with(at_builtin;go_must (refine fO (by rfl) (.tmp 15) (.tmp 22) (by rfl) w.heap.size _ (fJ l 0 pos) (fJ l (pos+n) (sz l)) (by rfl) (by exact a) _ _ _ (by rfl) (by rfl) (by exact y) (by exact h) (by omega) (by omega) ?_);intro v4 S J i);have d:=zY r a i;have N:=hr.below d;have L:=d.size;clear i a h;go_wp2_with fail;refine(uI N rfl ok (by omega) h0 (by omega) (by omega) (by omega)).mono ?_;rintro e w5 ⟨v5,rfl,B,j⟩;go_wp2_with fail;go_ret2;exact⟨_,_,rfl,by rw[<-k.out.1];exact J.below j,by rw[<-k.out.2];exact B.weak L,aQ d j⟩
theorem yU.fr {r:Rec}(h:yU w B r)(hF:Fr w w' X)(h1:¬X r.sb)(h2:¬X r.tb)(h3:∀b la ra p h l,w.heap[b]?=M (nW la ra p h l)->¬X b)
 (h4:∀b aR,w.heap[b]?=M (C aR 50 (0,0))->¬X b):yU w' B r:=by
 obtain⟨e,d,g,a,c⟩:=h;exact⟨hF.at e h1,d.fr hF h2 h3,g.fr hF h4,a,c⟩
theorem EK {bo:Option Addr}{lb cb:Nat}{more:List (Int×Int)}(hr:nK w ao l)(e1:la=l.length)(hna:xJ ao la ca)(hb:nK w bo more)(e2:lb=more.length)(hbn:xJ bo lb cb)(ok:fC l)(hlen:l.length<=8000)(hml:more.length<=8000)
 (h0:0<=pos)(h1:pos<=sz l):
 H K 74 #[Z ao la ca,I V pos,Z bo lb cb] w λe w'=> ∃nM Be,e=G (Z nM (bS l pos more).length Be)/\nK w' nM (bS l pos more)/\xJ nM (bS l pos more).length Be/\Below w.heap.size w w':=by
 subst e1 e2;by_cases c:more=[]
 ·subst c;have e:bS l pos []=l:=by simp[bS]
  rw[e];go_enter func74,ntmps74;go_wp2_with fail;go_ret;exact⟨ao,ca,rfl,hr,hna,AaP _ _⟩
 ·have e:bS l pos more=dW l pos++more++bV l pos:=by simp[bS,c]
  rw[e];have n:=List.length_pos_iff.2 c;have hz:(((more.length:Nat):Int)==0)=false:=by rw[Aat];omega
  have nH:¬(((more.length:Nat):Int)=0):=by omega
  have hs:=kT ok;have E:=uJ l 0 pos;have z:=uJ l pos (sz l);have Q:Hid _:=putm_eq ok more h0 h1;clear e c;unfold xJ at hbn;go_enter func74,ntmps74;go_wp2_with fail;refine(uI hr.1 rfl ok (by omega) (by omega) (by omega) h0 (by omega)).mono ?_;rintro e S ⟨W,rfl,h,g⟩;have a:=hb.1.below g;have tX:=g.size;go_upto_region 5 with(at_builtin;go_must (refine fO (by rfl) (.tmp 15) (.tmp 16) (by rfl) w.heap.size _ (fJ l 0 pos) more (by rfl) (by exact h) _ _ _ (by rfl) (by rfl) (by exact hbn) (by exact a) (by omega) (by omega) ?_);intro R J t i);have d:=zY g h i;have o:=hr.1.below d;have Ll:=d.size;clear i h a;go_wp2_with fail;refine(cB o rfl ok (by omega)).mono ?_;rintro e J ⟨rfl,rfl⟩;go_wp2_with fail;refine(uI o rfl ok (by omega) h0 (by omega) (by omega) (by omega)).mono ?_;rintro e w3 ⟨v3,rfl,u,k⟩;obtain⟨nX,L,rfl,B,y⟩:=u.form;have x:=t.below k;have j:=aQ d k;have QJ:=j.size;clear t u;go_wp2_with (at_builtin;go_must (refine fO (by rfl) (.tmp 18) (.tmp 23) (by rfl) w.heap.size _ (fJ l 0 pos++more) (fJ l pos (sz l)) (by rfl) (by exact x) _ _ _ (by rfl) (by rfl) (by exact y) (by exact B) (by simp;omega) (by omega) ?_);intro v4 X r P);go_ret;rw[Q.out]at r;obtain⟨Yk,A,rfl,D,N⟩:=nK.jR r;exact⟨_,_,rfl,D,N,zY j x P⟩
theorem EL (hr:nK w ao l)(e1:la=l.length)(hna:xJ ao la ca)(ok:fC l)(hlen:l.length<=8000)(h0:0<=pos)(hn:0<=n)(h1:n<=sz l-pos):
 H K 76 #[Z ao la ca,I V pos,I V n] w λe w'=>
  ∃nM Be go gc,e=G (.tuple #[Z nM (bN l pos n).1.length Be,Z go (bN l pos n).2.length gc])/\nK w' nM (bN l pos n).1/\xJ nM (bN l pos n).1.length Be/\nK w' go (bN l pos n).2/\xJ go (bN l pos n).2.length gc/\Below w.heap.size w w':=by
 by_cases c:n=0
 ·subst c e1;refine Zt.mono ?_;rintro e w' ⟨rfl,rfl⟩;simp only[bN,Aad];exact⟨_,_,O,0,rfl,hr,hna,nK.nil _,λ_=>⟨rfl,rfl⟩,AaP _ _⟩
 ·refine(WR hr.1 e1 ok hlen h0 (by omega) h1).mono ?_;rintro e w' ⟨v,g,rfl,d,i,r⟩;simp only[bN,Aaa c];obtain⟨x,t,rfl,h,k⟩:=nK.jR d;obtain⟨u,o,rfl,j,a⟩:=nK.jR i;exact⟨_,_,_,_,rfl,h,k,j,a,r⟩
theorem SE {r:fU}(hm:eT w r m)(ok:okM m)(hc:c<=9223372036854775807)(hmo:0<=most)(hmo2:most<=5000)(hd:depth<=100):
 H K 99 #[r.v,I V 73,I V a,I V b,I V c,I V most,I V (depth:Int)] w λe w'=>
  ∃r',e=G (.tuple #[fU.v r',I V (vL m a b c most depth).2])/\eT w' r' (vL m a b c most depth).1/\Below w.heap.size w w':=by
 have HM:Hid (eT w r m):=hm;obtain⟨m1,m2,m3,m4,m5⟩:=hm;obtain⟨⟨u,tl,A⟩,⟨j,k,n⟩,⟨y,z,o⟩,h,bf⟩:=r;obtain⟨d,Q,kC,Yl,Ib⟩:=m;simp only at m1 m2 m3 m4 m5;subst m4 m5;obtain⟨X,o2,o3,o4,o5,o6,o7,o8⟩:=ok;simp only at X o2 o3 o4 o5 o6 o7 o8;obtain⟨t1,t2,t3⟩:=m1;simp only at t1 t2 t3;subst t2;have bs:=kT X;simp only[fU.v,bT.v];by_cases h1:a<0\/sz d<a
 ·have HE:Hid (vL (d,Q,kC,h,bf) a b c most depth=((d,Q,kC,h,bf),5)):=by show _=_;simp only[vL,Aad h1]
  by_cases h0:a<0
  ·have Ur:decide (a<0)=true:=(by simp[h0]);go_enter func99,ntmps99;go_wp2_with fail;refine(cB (l:=d) (t1.1.below (aQ (aO _ _) (aO _ _))) rfl X (by omega)).mono ?_;rintro e w1 ⟨rfl,rfl⟩;go_wp2_with fail;have B:=(three w (C #[Z u d.length A,Z j k n,Z y z o,I V h,I V bf] 91) (C #[Z u d.length A,Z j k n,Z y z o,I V h,I V bf] 91) (C #[Z u d.length A,Z j k n,Z y z o,I V h,I V bf] 91)).2.2.2.2;refine Aap (v:= .tuple #[.agg #[Z u d.length A,Z j k n,Z y z o,I V h,I V bf],I V 5]) (by simp[results,results99,go_sem]) rfl ?_;rw[HE.out];exact⟨((u,d.length,A),(j,k,n),(y,z,o),h,bf),rfl,HM.out.aN B,B⟩
  ·have b2:sz d<a:=(by omega);have Ur:decide (a<0)=false:=(by simp;omega);go_enter func99,ntmps99;go_wp2_with fail;refine(cB (l:=d) (t1.1.below (aQ (aO _ _) (aO _ _))) rfl X (by omega)).mono ?_;rintro e w1 ⟨rfl,rfl⟩;go_wp2_with fail;have B:=(three w (C #[Z u d.length A,Z j k n,Z y z o,I V h,I V bf] 91) (C #[Z u d.length A,Z j k n,Z y z o,I V h,I V bf] 91) (C #[Z u d.length A,Z j k n,Z y z o,I V h,I V bf] 91)).2.2.2.2;refine Aap (v:= .tuple #[.agg #[Z u d.length A,Z j k n,Z y z o,I V h,I V bf],I V 5]) (by simp[results,results99,go_sem]) rfl ?_;rw[HE.out];exact⟨((u,d.length,A),(j,k,n),(y,z,o),h,bf),rfl,HM.out.aN B,B⟩
 ·have a1:¬a<0:=by omega
  have a2:¬sz d<a:=by omega
  by_cases h2:c<1\/200<c
  ·have HE:Hid (vL (d,Q,kC,h,bf) a b c most depth=((d,Q,kC,h,bf),6)):=(by show _=_;simp only[vL,Aaa h1,Aad h2]);by_cases h0:c<1
   ·have Ur:decide (c<1)=true:=(by simp;omega);go_enter func99,ntmps99;go_wp2_with fail;refine(cB (l:=d) (t1.1.below (aQ (aO _ _) (aO _ _))) rfl X (by omega)).mono ?_;rintro e w1 ⟨rfl,rfl⟩;go_wp2_with fail;have B:=(three w (C #[Z u d.length A,Z j k n,Z y z o,I V h,I V bf] 91) (C #[Z u d.length A,Z j k n,Z y z o,I V h,I V bf] 91) (C #[Z u d.length A,Z j k n,Z y z o,I V h,I V bf] 91)).2.2.2.2;refine Aap (v:= .tuple #[.agg #[Z u d.length A,Z j k n,Z y z o,I V h,I V bf],I V 6]) (by simp[results,results99,go_sem]) rfl ?_;rw[HE.out];exact⟨((u,d.length,A),(j,k,n),(y,z,o),h,bf),rfl,HM.out.aN B,B⟩
   ·have b2:200<c:=(by omega);have Ur:decide (c<1)=false:=(by simp;omega);go_enter func99,ntmps99;go_wp2_with fail;refine(cB (l:=d) (t1.1.below (aQ (aO _ _) (aO _ _))) rfl X (by omega)).mono ?_;rintro e w1 ⟨rfl,rfl⟩;go_wp2_with fail;have B:=(three w (C #[Z u d.length A,Z j k n,Z y z o,I V h,I V bf] 91) (C #[Z u d.length A,Z j k n,Z y z o,I V h,I V bf] 91) (C #[Z u d.length A,Z j k n,Z y z o,I V h,I V bf] 91)).2.2.2.2;refine Aap (v:= .tuple #[.agg #[Z u d.length A,Z j k n,Z y z o,I V h,I V bf],I V 6]) (by simp[results,results99,go_sem]) rfl ?_;rw[HE.out];exact⟨((u,d.length,A),(j,k,n),(y,z,o),h,bf),rfl,HM.out.aN B,B⟩
  ·by_cases h3:most<sz d+c
   ·have a3:¬c<1:=(by omega);have a4:¬200<c:=(by omega);have HE:Hid (vL (d,Q,kC,h,bf) a b c most depth=((d,Q,kC,h,bf),7)):=(by show _=_;simp only[vL,Aaa h1,Aaa h2,Aad h3]);go_enter func99,ntmps99;go_wp2_with fail;refine(cB (l:=d) (t1.1.below (aQ (aO _ _) (aO _ _))) rfl X (by omega)).mono ?_;rintro e w1 ⟨rfl,rfl⟩;go_wp2_with fail;have B:=(three w (C #[Z u d.length A,Z j k n,Z y z o,I V h,I V bf] 91) (C #[Z u d.length A,Z j k n,Z y z o,I V h,I V bf] 91) (C #[Z u d.length A,Z j k n,Z y z o,I V h,I V bf] 91)).2.2.2.2;refine Aap (v:= .tuple #[.agg #[Z u d.length A,Z j k n,Z y z o,I V h,I V bf],I V 7]) (by simp[results,results99,go_sem]) rfl ?_;rw[HE.out];exact⟨((u,d.length,A),(j,k,n),(y,z,o),h,bf),rfl,HM.out.aN B,B⟩
   ·have a3:¬c<1:=(by omega);have a4:¬200<c:=(by omega);have HA:Hid (4096<(bS d a [(b,c)]).length->vL (d,Q,kC,h,bf) a b c most depth=((d,Q,kC,h,bf),13)):=λhf=>by simp only[vL,Aaa h1,Aaa h2,Aaa h3,Aad hf]
    have HB:Hid (¬4096<(bS d a [(b,c)]).length->vL (d,Q,kC,h,bf) a b c most depth=((bS d a [(b,c)],((a,[],[(b,c)])::Q).take depth,[],h+1,bf+c),0)):=λhf=>by simp only[vL,Aaa h1,Aaa h2,Aaa h3,Aaa hf]
    go_enter func99,ntmps99;go_wp2_with fail;refine(cB (l:=d) (t1.1.below (aQ (aO _ _) (aO _ _))) rfl X (by omega)).mono ?_;rintro e w1 ⟨rfl,rfl⟩;go_upto_region 12 with fail;obtain⟨q1,q2,q3,q4,q5⟩:=three w (bU (Z u d.length A) (Z j k n) (Z y z o) (I V h) (I V bf)) (bU (Z O 0 0) (Z O 0 0) (Z O 0 0) (I V 0) (I V 0)) (bU (Z u d.length A) (Z j k n) (Z y z o) (I V h) (I V bf))
    rw[show(Obj.cells #[Z u d.length A,Z j k n,Z y z o,I V h,I V bf] 91)=bU (Z u d.length A) (Z j k n) (Z y z o) (I V h) (I V bf) from rfl,
     show(Obj.cells #[Z O 0 0,Z O 0 0,Z O 0 0,I V 0,I V 0] 91)=bU (Z O 0 0) (Z O 0 0) (Z O 0 0) (I V 0) (I V 0) from rfl]
    generalize ((w.alloc (bU (Z u d.length A) (Z j k n) (Z y z o) (I V h) (I V bf))).alloc (bU (Z O 0 0) (Z O 0 0) (Z O 0 0) (I V 0) (I V 0))).alloc (bU (Z u d.length A) (Z j k n) (Z y z o) (I V h) (I V bf))=wa at*;have a5:=Lm wa #[I V b,I V c] [(b,c)] rfl (by unfold maxLen;simp);have a6:=Aag wa (C #[I V b,I V c] 50);rw[q4]at a5 a6;have Ic:=aO wa (C #[I V b,I V c] 50);have r1:=bH Ic q1;have r2:=bH Ic q2;have r3:=bH Ic q3;have B2:=aQ q5 Ic;have S:bJ (wa.alloc (C #[I V b,I V c] 50)) (M ⟨w.heap.size+1+1+1,0,O⟩,1,1) [(b,c)]:=⟨⟨a5,λa e=>by cases e;exact⟨_,a6⟩⟩,rfl,λe=>by cases e⟩;clear a5 a6 Ic q1 q2 q3 q4 q5;generalize wa.alloc (C #[I V b,I V c] 50)=w2 at*;obtain⟨x0,x1,x2,x3,x4,-⟩:=aV r1;have n1:w.heap.size≠w.heap.size+1+1:=(by omega);have n2:w.heap.size+1≠w.heap.size+1+1:=(by omega);go_wp2_with fail;refine(EK (l:=d) (more:=[(b,c)]) (t1.below B2) rfl t3 S.1 rfl S.2.2 X (by omega) (by simp) (by omega) (by omega)).mono ?_;rintro e w3 ⟨J,E,rfl,Gs,Nw,sU⟩;have a9:=bH sU r1;have b1:=bH sU r2;have W:=bH sU r3;have a0:=S.aN sU;have B:=aQ B2 sU;clear r1 r2 r3 S x0 x1 x2 x3 x4;obtain⟨z0,-,-,-,-,z5,-⟩:=aV W;obtain⟨-,x1,-⟩:=aV (dR (g:=w.heap.size+1+1) (i:=0) (v:=Z J (bS d a [(b,c)]).length E) a9 n1);go_upto_region 13 with fail;have s1:=dR (g:=w.heap.size+1+1) (i:=0) (v:=Z J (bS d a [(b,c)]).length E) a9 n1;have s2:=dR (g:=w.heap.size+1+1) (i:=0) (v:=Z J (bS d a [(b,c)]).length E) b1 n2;have s3:=oI (v:=Z J (bS d a [(b,c)]).length E) W;have a7:=Fr.set w3 ⟨w.heap.size+1+1,0,O⟩ (Z J (bS d a [(b,c)]).length E);have a8:∀b (aR:Array Y) (t:TypeId) (f:Nat×Nat),t≠91->w3.heap[b]?=M (C aR t f)->¬(b=w.heap.size+1+1):=λb aR t f e hb hx=>by subst hx;exact bF hb W (dQ e)
    have p4:=a0.fr a7 (λb aR e=>a8 _ _ _ _ (by decide) e);have t4:bJ (w3.setCell ⟨w.heap.size+1+1,0,O⟩ (Z J (bS d a [(b,c)]).length E)) (J,_,E) (bS d a [(b,c)]):=bJ.fr ⟨Gs,rfl,Nw⟩ a7 (λb aR e=>a8 _ _ _ _ (by decide) e);have B4:Below w.heap.size w (w3.setCell ⟨w.heap.size+1+1,0,O⟩ (Z J (bS d a [(b,c)]).length E)):=B.setCell (p:=⟨w.heap.size+1+1,0,O⟩) (by simp only;omega) _;clear a8 a7 a9 b1 W a0 Gs Nw z0 z5 x1 sU B;generalize w3.setCell ⟨w.heap.size+1+1,0,O⟩ (Z J (bS d a [(b,c)]).length E)=w4 at*;obtain⟨x0,x1,x2,x3,x4,-⟩:=aV s1;go_wp2_with fail;refine(Bq (r:=(a,(O,0,0),(M ⟨w.heap.size+1+1+1,0,O⟩,1,1))) (e:=(a,[],[(b,c)])) (x:=(j,k,n)) (l:=Q) ⟨rfl,⟨nK.nil _,rfl,λ_=>⟨rfl,rfl⟩⟩,p4⟩ (m2.aN B4) (by omega) (by omega)).mono ?_;rintro e w5 ⟨⟨P,L,N⟩,rfl,b0,lN⟩;simp only[bT.v];have u1:=bH lN s1;have u2:=bH lN s2;have u3:=bH lN s3;have t5:=t4.aN lN;have B5:=aQ B4 lN;clear s1 s2 s3 x0 x1 x2 x3 x4 t4 p4 B4 lN;obtain⟨x0,x1,x2,x3,x4,-⟩:=aV u1;obtain⟨y0,y1,y2,y3,y4,f0,f1,f2,f3,f4⟩:=aV u3;go_upto_region 39 with fail;have v1:=dR (g:=w.heap.size+1+1) (i:=4) (v:=I V (bf+c)) (dR (g:=w.heap.size+1+1) (i:=2) (v:=Z O 0 0) (dR (g:=w.heap.size+1+1) (i:=1) (v:=Z P L N) u1 n1) n1) n1;have v2:=dR (g:=w.heap.size+1+1) (i:=4) (v:=I V (bf+c)) (dR (g:=w.heap.size+1+1) (i:=2) (v:=Z O 0 0) (dR (g:=w.heap.size+1+1) (i:=1) (v:=Z P L N) u2 n2) n2) n2;have u4:=nA (v:=Z P L N) u3;have u5:=nC (v:=Z O 0 0) u4;have v3:=xK (v:=I V (bf+c)) u5;have t6:=((t5.jS (i:=1) (v:=Z P L N) u3).jS (i:=2) (v:=Z O 0 0) u4).jS (i:=4) (v:=I V (bf+c)) u5;have e6:=((b0.jS (i:=1) (v:=Z P L N) u3).jS (i:=2) (v:=Z O 0 0) u4).jS (i:=4) (v:=I V (bf+c)) u5;have B6:=((B5.setCell (p:=⟨w.heap.size+1+1,1,O⟩) (by simp only;omega) (Z P L N)).setCell (p:=⟨w.heap.size+1+1,2,O⟩) (by simp only;omega) (Z O 0 0)).setCell (p:=⟨w.heap.size+1+1,4,O⟩) (by simp only;omega) (I V (bf+c));clear u1 u2 u3 u4 u5 t5 b0 B5 x0 x1 x2 x3 x4 y0 y1 y2 y3 y4 f0 f1 f2 f3 f4;generalize ((w5.setCell ⟨w.heap.size+1+1,1,O⟩ (Z P L N)).setCell ⟨w.heap.size+1+1,2,O⟩ (Z O 0 0)).setCell ⟨w.heap.size+1+1,4,O⟩ (I V (bf+c))=w6 at*;obtain⟨x0,x1,x2,x3,x4,-⟩:=aV v1;obtain⟨k0,k1,k2,k3,k4,l0,l1,l2,l3,l4⟩:=aV v2;obtain⟨y0,y1,y2,y3,y4,f0,f1,f2,f3,f4⟩:=aV v3;have n3:w.heap.size≠w.heap.size+1:=(by omega);by_cases hf:4096<(bS d a [(b,c)]).length
    ·have bn:(4096:Int)<((bS d a [(b,c)]).length:Int):=(by omega);go_wp2_with fail;obtain⟨v5,B7⟩:=Bt (T:=Z u d.length A) (aH:=Z j k n) (R:=Z y z o) (D:=I V h) (Bf:=I V bf) (by omega) v2 B6;generalize ((((w6.setCell ⟨w.heap.size+1,0,O⟩ (Z u d.length A)).setCell ⟨w.heap.size+1,1,O⟩ (Z j k n)).setCell ⟨w.heap.size+1,2,O⟩ (Z y z o)).setCell ⟨w.heap.size+1,3,O⟩ (I V h)).setCell ⟨w.heap.size+1,4,O⟩ (I V bf)=w7 at*;obtain⟨i0,i1,i2,i3,i4,-⟩:=aV v5;refine Aap (v:= .tuple #[.agg #[Z u d.length A,Z j k n,Z y z o,I V h,I V bf],I V 13]) (by simp[results,results99,go_sem,i0,i1,i2,i3,i4]) rfl ?_;rw[HA.out hf];exact⟨((u,d.length,A),(j,k,n),(y,z,o),h,bf),rfl,HM.out.aN B7,B7⟩
    ·have bn:¬(4096:Int)<((bS d a [(b,c)]).length:Int):=(by omega);go_wp2_with fail;obtain⟨v5,M7,B7⟩:=Gv (ot:=w.heap.size+1+1) (rs:=w.heap.size+1) (T:=(J,(bS d a [(b,c)]).length,E)) (aH:=(P,L,N)) (R:=(O,0,0)) (D:=h) (D':=h+1) (Bf:=bf+c) (kC:=[]) n2 (by omega) (by omega) v2 v3 t6 e6 (fK.nil _) B6;simp only[bT.v]at v5 M7 B7;generalize ((((((w6.setCell ⟨w.heap.size+1+1,3,O⟩ (I V (h+1))).setCell ⟨w.heap.size+1,0,O⟩ (Z J (bS d a [(b,c)]).length E)).setCell ⟨w.heap.size+1,1,O⟩ (Z P L N)).setCell ⟨w.heap.size+1,2,O⟩ (Z O 0 0)).setCell ⟨w.heap.size+1,3,O⟩ (I V (h+1))).setCell ⟨w.heap.size+1,4,O⟩ (I V (bf+c)))=w7 at*;obtain⟨i0,i1,i2,i3,i4,-⟩:=aV v5;refine Aap (v:= .tuple #[.agg #[Z J (bS d a [(b,c)]).length E,Z P L N,Z O 0 0,I V (h+1),I V (bf+c)],I V 0]) (by simp[results,results99,go_sem,i0,i1,i2,i3,i4]) rfl ?_;rw[HB.out hf]
     first
      |exact⟨((J,(bS d a [(b,c)]).length,E),(P,L,N),(O,0,0),h+1,bf+c),rfl,M7,B7⟩
      |exact⟨J,(bS d a [(b,c)]).length,E,P,L,N,O,0,0,h+1,bf+c,rfl,M7,B7⟩
def Si (m:dI)(l:List UInt8)(buf:Int)(depth:Nat):Option dI:=
 if l.length<22 then O else
 let kind:=(((l.drop 1).headD 0).toNat:Int)
 let a:=iJ (l.drop 6)
 let b:=iJ (l.drop 10)
 let c:=iJ (l.drop 14)
 if l.take 22=(fV kind (m.2.2.2.1+1) a b c).data.toList/\iJ (l.drop 2)=m.2.2.2.1+1/\nY m buf kind a b c=true/\(iD m kind a b c 5000 depth).2=0 then M (iD m kind a b c 5000 depth).1 else O
def jC (buf:Int)(depth:Nat):Nat->dI->List UInt8->dI×Nat
 |0,m,_=>(m,0)
 |k+1,m,l=>match Si m l buf depth with
  |none=>(m,0)
  |some m'=>((jC buf depth k m' (l.drop 22)).1,(jC buf depth k m' (l.drop 22)).2+1)
theorem eX.IY (h:eX m d):fC m.1:=h.text.ok (by have:=h.Dw;omega)
theorem KS (h:eX m depth)(hb:b=m.2.2.2.2)(hc:m.2.2.2.2+c<=1000000)(hm:most<=5000):eX (vL m a b c most depth).1 depth:=by
 unfold vL;split;· exact h
 split;· exact h
 split;· exact h
 split;· exact h
 rename_i n u k t;have o:=h.long;have r:=h.Fa
 have g:uV (m.2.2.2.2+c) [(b,c)]:=λp g=>by
  simp only[AbZ]at g;subst g;simp only;omega
 have j:sz (bS m.1 a [(b,c)])=sz m.1+c:=by rw[SX h.IY (by omega) (by omega)];simp[sz]
 have i:m.2.2.2.2<=m.2.2.2.2+c:=by omega
 refine⟨by simp only;omega,by simp only;omega,XE (h.text.mono i) g a,by simp only;omega,by simp only;omega,?_,by simp,?_,by simp,?_,by simp[mV],by have:=h.done;simp only;omega⟩
 ·intro e d;have d:=Aba d;simp only[AaG]at d;rcases d with rfl|d
  ·exact⟨by simp only;omega,tZ _,g⟩
  ·obtain⟨x,y,z⟩:=h.jK e d;exact⟨x,y.mono i,z.mono i⟩
 ·simp only;rw[Aaz];omega
 ·simp only;rw[AbE];refine Ag _ _ _ ?_;rw[AaK,uT,rV,j];simp only[sz];refine⟨by omega,by omega,?_⟩;rw[show sz m.1+c-(c+0)+0=sz m.1 from by omega];exact h.KR
theorem KT (h:eX m depth):eX (Bu m a b depth).1 depth:=by
 unfold Bu;split;· exact h
 split;· exact h
 rename_i k r;have o:=h.long;obtain⟨d,g⟩:=Y_ h.IY (pos:=a) (n:=b) (by omega) (by omega) (by omega);obtain⟨j,i⟩:=XF h.text a b;refine⟨h.Fa,h.Dw,j,by simp only;omega,by simp only;omega,?_,by simp,?_,by simp,?_,by simp[mV],by have:=h.done;simp only;omega⟩
 ·intro e c;have c:=Aba c;simp only[AaG]at c;rcases c with rfl|c
  ·exact⟨by simp only;omega,i,tZ _⟩
  ·exact h.jK e c
 ·simp only;rw[Aaz];omega
 ·simp only;rw[AbE];refine Ag _ _ _ ?_;rw[AaK,uT,rV,d];simp only[sz];rw[g];refine⟨by omega,by omega,?_⟩;rw[show sz m.1-b-0+b=sz m.1 from by omega];exact h.KR
theorem Vh (h:eX m depth){p:Int}{gone come:List (Int×Int)}(hp:0<=p)(hg:uV m.2.2.2.2 gone)(hc:uV m.2.2.2.2 come)(zJ:p+sz gone<=sz m.1):
 sz (bS (bN m.1 p (sz gone)).1 p come)=sz m.1-sz gone+sz come/\uV m.2.2.2.2 (bS (bN m.1 p (sz gone)).1 p come):=by
 have d:=Ah hg;obtain⟨c,-⟩:=Y_ h.IY hp d zJ;obtain⟨a,-⟩:=XF h.text p (sz gone);refine⟨?_,XE a hc p⟩;rw[SX (a.ok (by have:=h.Dw;omega)) hp (by omega),c]
theorem AL (h:eX m depth):eX (vV m depth).1 depth:=by
 unfold vV;split
 ·exact h
 ·rename_i e rest c;split
  ·exact h
  ·rename_i o;obtain⟨x,y,z⟩:=h.jK e (by rw[c];simp);have i:=h.KR;rw[c,AaK,uT,rV]at i;obtain⟨j,w,n⟩:=i;obtain⟨g,k⟩:=Vh h x z y j;have r:=Ah z;have t:=Ah y;refine⟨h.Fa,h.Dw,k,by simp only;omega,by simp only;omega,λd a=>h.jK d (by rw[c];simp[a]),?_,by have:=h.Ym;rw[c]at this;simp only[Aan]at this ⊢;omega,?_,by simp only;rw[g];exact n,?_,by have:=h.done;simp only;omega⟩
   ·intro d a;have a:=Aba a;simp only[AaG]at a;rcases a with rfl|a
    ·exact⟨x,y,z⟩
    ·exact h.kC d a
   ·simp only;rw[Aaz];omega
   ·simp only;rw[AbE];refine Ag _ _ _ ?_;rw[AaK,pV,rV,g];have u:=h.long;refine⟨by omega,by omega,?_⟩;rw[show sz m.1-sz e.2.2+sz e.2.1-sz e.2.1+sz e.2.2=sz m.1 from by omega];exact h.jd
theorem AO (h:eX m depth):eX (vW m depth).1 depth:=by
 unfold vW;split
 ·exact h
 ·rename_i e rest c;split
  ·exact h
  ·rename_i o;obtain⟨x,y,z⟩:=h.kC e (by rw[c];simp);have i:=h.jd;rw[c,AaK,pV,rV]at i;obtain⟨j,w,n⟩:=i;obtain⟨g,k⟩:=Vh h x y z j;have r:=Ah z;have t:=Ah y;refine⟨h.Fa,h.Dw,k,by simp only;omega,by simp only;omega,?_,λd a=>h.kC d (by rw[c];simp[a]),?_,by have:=h.KQ;rw[c]at this;simp only[Aan]at this ⊢;omega,?_,by simp only;rw[g];exact n,by have:=h.done;simp only;omega⟩
   ·intro d a;have a:=Aba a;simp only[AaG]at a;rcases a with rfl|a
    ·exact⟨x,y,z⟩
    ·exact h.jK d a
   ·simp only;rw[Aaz];omega
   ·simp only;rw[AbE];refine Ag _ _ _ ?_;rw[AaK,uT,rV,g];have u:=h.long;refine⟨by omega,by omega,?_⟩;rw[show sz m.1-sz e.2.1+sz e.2.2-sz e.2.2+sz e.2.1=sz m.1 from by omega];exact h.KR
theorem iR.trans {a b c:Sc}(h1:iR a b)(h2:iR b c):iR a c:=⟨h2.1.trans h1.1,h2.2.1.trans h1.2.1,h2.2.2.1.trans h1.2.2.1,h2.2.2.2.trans h1.2.2.2⟩
theorem eX.okm (h:eX m d)(hd:d<=50)(hD:m.2.2.2.1<=2000000000):okM m:=by
 have c:=h.Ym;have g:=h.KQ;have a:=h.Fa;have e:=h.Dw;exact⟨h.IY,h.few,by omega,by omega,h.done,hD,a,by omega⟩
theorem eX.fitU (h:eX m d):∀e rest,m.2.1=e::rest->Dl (sz m.1) e.1 e.2.2 e.2.1:=by
 intro e rest c;obtain⟨x,y,z⟩:=h.jK e (by rw[c];simp);have a:=h.KR;rw[c,AaK,uT,rV]at a;exact fit_ed h.Dw h.long x z y a.1 a.2.1
theorem eX.fitR (h:eX m d):∀e rest,m.2.2.1=e::rest->Dl (sz m.1) e.1 e.2.1 e.2.2:=by
 intro e rest c;obtain⟨x,y,z⟩:=h.kC e (by rw[c];simp);have a:=h.jd;rw[c,AaK,pV,rV]at a;exact fit_ed h.Dw h.long x y z a.1 a.2.1
theorem Kc {l:List AF}{f:AF}(h:l[k]?=M f):bX ((l.take (k+1)).map Ja)=bX ((l.take k).map Ja)+(f.2.size:Int):=by
 have a:(l.map Ja)[k]?=M (Ja f):=by simp[h]
 rw[AbE,AbE,Ca a];rfl
theorem aU.set {s':Sc}(h:aU w db s fv rs)(Mh:(w.setCell ⟨db,i,O⟩ v).heap[db]?=M (jO s' fv)):aU (w.setCell ⟨db,i,O⟩ v) db s' fv rs:=
 h.keep Mh (Fr.set w ⟨db,i,O⟩ v) (λ_ _ a e=>a e)
theorem aU.XU {eD:Y}(h:aU w db s fv rs)(Im:mD w w1 fv eD rs i r)(hr:iB w r)(Qz:∀q∈rs,nU q r)(hw':w'=w1.setCell ⟨db,1,O⟩ eD):
 aU w' db s eD (rs.take i++r::rs.drop i)/\Dk w w' (λb=>DX db fv rs b\/b=r.b\/r.v.ownBlock=M b) (DX db eD (rs.take i++r::rs.drop i)):=by
 obtain⟨u,R,D,Q⟩:=h;obtain⟨S,o,N⟩:=Im
 have A:∀b z t f,t≠200->w.heap[b]?=M (C z t f)->¬fv.ownBlock=M b:=λb z t f P n e=>by
  obtain⟨c,j⟩:=iH R e;exact aZ n j P rfl
 have J:=iP o u (A _ _ _ _ (by decide) u);have W:w'.heap[db]?=M (jO s eD):=by rw[hw',Aaj w1 db 1 _ _ _ J];rfl
 have E:Fr w w' (λb=>b=db\/fv.ownBlock=M b):=by
  rw[hw'];exact((Fr.iA o).mono λb e=>Aab e).trans ((Fr.set w1 ⟨db,1,O⟩ eD).mono λb e=>Aac e)
 have B:∀q,iB w q->iB w' q:=λq y=>by
  refine y.fr E (λd=>?_) (λk X d=>?_)
  ·rcases d with d|d
   ·exact aZ y.1 u (by decide) d
   ·exact A _ _ _ _ (by decide) y.1 d
  ·obtain⟨c,Tp,j⟩:=bL.ty y.2 X;rcases d with d|d
   ·exact aZ j u (by decide) d
   ·exact A _ _ _ _ (by decide) j d
 refine⟨⟨W,?_,λq g=>?_,?_⟩,?_⟩
 ·rw[hw'];exact bE S (Fr.set w1 ⟨db,1,O⟩ eD) (λk z e j d=>aZ j J (by decide) d)
 ·rcases AaZ.1 g with g|g
  ·exact B q (D q (Aba g))
  ·rcases AaG.1 g with rfl|g
   ·exact B q hr
   ·exact B q (D q (AdD g))
 ·have x:(rs.take i++rs.drop i).Pairwise nU:=by rw[AbW];exact Q
  rw[Abe]at x;rw[Abe,AbF];refine⟨x.1,⟨λq g=>(Qz q (AdD g)).symm,x.2.1⟩,λa L b n=>?_⟩;rcases AaG.1 n with rfl|n
  ·exact Qz a (Aba L)
  ·exact x.2.2 a L b n
 ·refine⟨E.mono λb d=>?_,?_,λb d=>?_⟩
  ·rcases d with rfl|d
   ·exact Aac (Aac rfl)
   ·exact Aac (Aab (Aac d))
  ·rw[hw'];exact⟨o.os,o.tape,o.output⟩
  ·rcases d with d|d|⟨q,g,d⟩
   ·exact Aac (Aac (Aac d))
   ·rcases N with e|e
    ·exact Aac (Aac (Aab (Aac (e ▸ d))))
    ·exact Aab (e b d)
   ·rcases AaZ.1 g with g|g
    ·exact Aac (Aac (Aab (Aab ⟨q,Aba g,d⟩)))
    ·rcases AaG.1 g with rfl|g
     ·exact Aac (Aab d)
     ·exact Aac (Aac (Aab (Aab ⟨q,AdD g,d⟩)))
theorem Yq.fr {ps:Nat->Addr}(h:Yq w ps)(hF:Fr w w' X)(hX:∀b aR,w.heap[b]?=M (C aR 119 (0,0))->¬X b):Yq w' ps:=⟨λk a=>hF.at (h.1 k a) (hX _ _ (h.1 k a)),h.2⟩
def TP (w w':F)(ps:Nat->Addr)(db:Nat)(s:Sc)(fv:Y)(rs:List FR)(v:Y):Prop:=
 BP w' ps v 1/\∃eD dY,aU w' db (dL s (plain rs)).2.1 eD dY/\plain dY=(dL s (plain rs)).2.2/\Dk w w' (DX db fv rs) (DX db eD dY)
theorem app_done {b:ByteArray}(h:aU w db s fv rs)(hs:(plain rs).Pairwise (λa b=>a.1<b.1))(hh:kP (plain rs) n=true)(hi:i=fF (plain rs) n)(hr:rs[i]?=M r)(hn:r.f.1=n)
 (bB:bL w5 0 v5 (r.f.2.1.data.toList++b.data.toList))(hg:w.grownBy w5 r.v.ownBlock)(EI:iK w r.v v5):AppD w (w5.setCell ⟨r.b,1,O⟩ v5) db s fv rs n b:=by
 subst hi;have k:=h.2.2.1 r (Aai hr)
 have D:∀g,r.v.ownBlock=M g->g≠r.b:=λg hg e=>by
  obtain⟨c,y,d⟩:=bL.ty k.2 hg;exact aZ d k.1 (by decide) e
 have o:=iP hg k.1 (λe=>D _ e rfl)
 have j:∀g,v5.ownBlock=M g->g≠r.b:=λg x e=>by
  obtain⟨c,y,d⟩:=bL.ty bB x;exact aZ d o (by decide) e
 have u:Fr w (w5.setCell ⟨r.b,1,O⟩ v5) (λb=>b=r.b\/r.v.ownBlock=M b):=
  ((Fr.iA hg).mono λb e=>Aab e).trans ((Fr.set w5 ⟨r.b,1,O⟩ v5).mono λb e=>Aac e)
 have B:iB (w5.setCell ⟨r.b,1,O⟩ v5) (r.b,v5,(n,r.f.2.1++b,r.f.2.2)):=by
  refine⟨?_,?_⟩
  ·show(w5.setCell ⟨r.b,1,O⟩ v5).heap[r.b]?=_;rw[Aaj w5 r.b 1 _ _ _ o,<-hn];rfl
  ·show bL _ 0 v5 (r.f.2.1++b).data.toList;rw[rD];exact bB.fr (Fr.set w5 ⟨r.b,1,O⟩ v5) (λg hg e=>j g hg e)
 obtain⟨z,t⟩:=h.Mj (r':=(r.b,v5,(n,r.f.2.1++b,r.f.2.2))) hr rfl u ⟨hg.os,hg.tape,hg.output⟩ B EI;refine⟨fv,_,z,?_,t⟩;have A:(nN (plain rs) n b).1=n:=by rw[LK hs hh hr]
 rw[Hq,Fh hs,A,hh,Aad rfl,LK hs hh hr];rfl
theorem app_new {w7:F}{fb:Nat}{v7:Y}{b:ByteArray}(h:aU w db s fv rs)(hs:(plain rs).Pairwise (λa b=>a.1<b.1))(hh:kP (plain rs) n=false)(QL:lo=fF (plain rs) n)(hfb:w.heap.size<=fb)
 (hg:aL w W)(Im:mD W w5 fv v5 rs lo (fb,Z O 0 0,(n,⟨#[]⟩,0)))(hf:W.heap[fb]?=M (uR (fb,Z O 0 0,(n,⟨#[]⟩,0))))
 (bB:bL w7 0 v7 b.data.toList)(oZ:(w5.setCell ⟨db,1,O⟩ v5).grownBy w7 O)(EI:iK (w5.setCell ⟨db,1,O⟩ v5) (Z O 0 0) v7):AppD w (w7.setCell ⟨fb,1,O⟩ v7) db s fv rs n b:=by
 have R:=h.aN hg;have j:lo<=rs.length:=by rw[QL];have:=Md (plain rs) n;rwa[bP]at this
 obtain⟨u,J⟩:=R.XU (r:=(fb,Z O 0 0,(n,⟨#[]⟩,0))) Im ⟨hf,bL.nil W 0⟩ (λq A=>⟨λe=>by
  have:=aM (h.2.2.1 q A).1;have y:q.b=fb:=e;omega,λg _ d=>by simp[FR.v,Value.ownBlock]at d⟩) rfl
 have x:(rs.take lo++(fb,Value.slice O 0 0,(n,(⟨#[]⟩:ByteArray),(0:Int)))::rs.drop lo)[lo]?=M (fb,Z O 0 0,(n,⟨#[]⟩,0)):=by
  rw[Abb (by simp;omega)];simp[Nat.min_eq_left j]
 have P:=u.2.2.1 _ (Aai x);have t:=iP oZ P.1 (λe=>by cases e)
 have o:∀g,v7.ownBlock=M g->g≠fb:=λg N e=>by
  obtain⟨c,Tp,D⟩:=bL.ty bB N;exact aZ D t (by decide) e
 have S:iB (w7.setCell ⟨fb,1,O⟩ v7) (fb,v7,(n,b,0)):=by
  refine⟨?_,?_⟩
  ·show(w7.setCell ⟨fb,1,O⟩ v7).heap[fb]?=_;rw[Aaj w7 fb 1 _ _ _ t];rfl
  ·exact bB.fr (Fr.set w7 ⟨fb,1,O⟩ v7) (λg hg e=>o g hg e)
 have L:Fr (w5.setCell ⟨db,1,O⟩ v5) (w7.setCell ⟨fb,1,O⟩ v7) (λb=>b=FR.b (fb,Value.slice O 0 0,(n,(⟨#[]⟩:ByteArray),(0:Int)))\/(FR.v (fb,Value.slice O 0 0,(n,(⟨#[]⟩:ByteArray),(0:Int)))).ownBlock=M b):=
  ((Fr.iA oZ).mono λb e=>by cases e).trans ((Fr.set w7 ⟨fb,1,O⟩ v7).mono λb e=>Aac e)
 obtain⟨B,X⟩:=u.Mj (r':=(fb,v7,(n,b,0))) x rfl L ⟨oZ.os,oZ.tape,oZ.output⟩ S EI;refine⟨v5,_,B,?_,?_⟩
 ·have Q:(nN (plain rs) n b).1=n:=by rw[LM hs hh]
  have z:(rs.take lo).length=lo:=by rw[Aaz];omega
  rw[Fh hs,Q,hh,Aaa (by simp),LM hs hh,AbV _ _ (by rw[z];exact Aak _),z,AcW,<-QL];simp[plain,FR.f]
 ·have i:=J.trans X;refine⟨?_,?_,λb k=>?_⟩
  ·refine⟨Aal hg.size i.1.1,λb k E=>?_⟩;rw[<-hg.block b k];refine i.1.2 b (AaE k hg.size) (λd=>?_);rcases d with d|d|d
   ·exact E d
   ·have y:b=fb:=d;omega
   ·simp[FR.v,Value.ownBlock]at d
  ·exact⟨i.2.1.1.trans hg.os,i.2.1.2.1.trans hg.tape,i.2.1.2.2.trans hg.output⟩
  ·rcases i.2.2 b k with(d|d|d)|d
   ·exact Aac d
   ·have y:b=fb:=d;exact Aab (by omega)
   ·simp[FR.v,Value.ownBlock]at d
   ·exact Aab (Aal hg.size d)
theorem del_row (h:aU w db s (Z (M ⟨g,0,O⟩) rs.length cap) rs)(bQ:lo<rs.length)(hl:rs.length<=1000000):
 H K 167 #[Z (M ⟨g,0,O⟩) rs.length cap,I V (lo:Int),I V ((lo:Int)+1)] w λe w'=> ∃c5,e=G (Z (M ⟨g,0,O⟩) (rs.eraseIdx lo).length c5)/\Og w w' g/\w'.heap[db]?=M (jO s (Z (M ⟨g,0,O⟩) rs.length cap))/\
  aU (w'.setCell ⟨db,1,O⟩ (Z (M ⟨g,0,O⟩) (rs.eraseIdx lo).length c5)) db s (Z (M ⟨g,0,O⟩) (rs.eraseIdx lo).length c5) (rs.eraseIdx lo):=by
 refine(BJ h.2.1 bQ hl).mono ?_;rintro e w' ⟨D,A,rfl,j,k,a,d⟩;simp[Value.ownBlock]at k;subst k;obtain⟨y,u,o,-,-,-,c⟩:=iL.form j;subst o;cases y with
 |none=>simp[Value.ownBlock]at a
 |some r=>
  obtain⟨g6,i,rfl,-⟩:=c r rfl;simp[Value.ownBlock]at a;subst a;obtain⟨z,n⟩:=iH h.2.1 rfl;have x:=d.1.at h.1 (λe=>aZ h.1 n (by decide) e);obtain⟨t,B⟩:=h.setRow (d.1.mono λb e=>by rw[e];rfl) d.2 j rfl (AcX rs lo) rfl;exact⟨u,rfl,d,x,t⟩
theorem aU.swap (h:aU w db s (Z (M ⟨g,0,O⟩) rs.length cap) rs)(hr:iB w r)(Qz:∀q∈rs,nU q r)(hw:w'=w.setCell ⟨g,j,O⟩ r.p):
 aU w' db s (Z (M ⟨g,0,O⟩) rs.length cap) (rs.set j r)/\Fr w w' (λb=>b=g):=by
 obtain⟨D,B,N,X⟩:=h;obtain⟨aR,y⟩:=iH B rfl;have A:Fr w w' (λb=>b=g):=by rw[hw];exact Fr.set w ⟨g,j,O⟩ r.p
 have E:∀q,iB w q->iB w' q:=λq u=>u.fr A (λo=>aZ u.1 y (by decide) o) (λk t o=>by
  obtain⟨c,Tp,R⟩:=bL.ty u.2 t;exact aZ R y (by decide) o)
 refine⟨⟨A.at D (λe=>aZ D y (by decide) e),?_,λq x=>?_,?_⟩,A⟩
 ·obtain⟨ao,mF,e,Q,P,-,S⟩:=iL.form B;cases e
  obtain⟨g',n,e,hg,z,Xw,-⟩:=S _ rfl;cases e
  refine⟨by simp,Aab ⟨g,cap,n.setIfInBounds j r.p,by rw[Acg],Aao _,by rw[hw];exact Aaj w g j n _ _ hg,by rw[Acg];exact Q,P,by simpa using z,?_⟩⟩;have e0:(n.setIfInBounds j r.p).toList=n.toList.set j r.p:=by simp
  rw[e0,Acg,AcJ,List.take_set,Xw,AdS]
 ·rcases Adi x with x|rfl
  ·exact E q (N q x)
  ·exact E q hr
 ·rw[Abk];intro i k W t jw;have L:i<rs.length:=by simpa using W
  have J:k<rs.length:=by simpa using t
  rw[Acm,Acm];by_cases d:j=i
  ·rw[Aad d,Aaa (by omega)];exact(Qz _ (Acl J)).symm
  ·rw[Aaa d];by_cases a:j=k
   ·rw[Aad a];exact Qz _ (Acl L)
   ·rw[Aaa a];exact Abk.1 X i k L J jw
theorem mv_at (h:aU w db s (Z (M ⟨g,0,O⟩) rs.length cap) rs)(hr:rs[lo]?=M r)(c0:w.heap[bx]?=M (C #[U (M ⟨db,0,O⟩)] 111 (0,0)))(c2:w.heap[b2]?=M (C #[I V t2] 3 (0,0)))
 (hW:aL w W)(kR:Og W w1 g)(Mh:w1.heap[db]?=M (jO s (Z (M ⟨g,0,O⟩) rs.length cap)))(hD:aU (w1.setCell ⟨db,1,O⟩ (Z (M ⟨g,0,O⟩) (rs.eraseIdx lo).length c5)) db s (Z (M ⟨g,0,O⟩) (rs.eraseIdx lo).length c5) (rs.eraseIdx lo)):
 MvAt w ((w1.setCell ⟨db,1,O⟩ (Z (M ⟨g,0,O⟩) (rs.eraseIdx lo).length c5)).setCell ⟨r.b,0,O⟩ (I V t2)) db g cap c5 bx b2 s rs lo r t2:=by
 obtain⟨Q,L⟩:=iH h.2.1 rfl;have B:=h.2.2.1 r (Aai hr);have o:iB W r:=⟨(hW.block _ (aM B.1)).trans B.1,B.2.aN hW⟩;have a:W.heap[g]?=M (C Q 200 (0,0)):=(hW.block _ (aM L)).trans L
 have z:iB w1 r:=o.fr kR.1 (λe=>aZ o.1 a (by decide) e) (λk n e=>by
  obtain⟨c,A,d⟩:=bL.ty o.2 n;exact aZ d a (by decide) e)
 have x:=Fr.set w1 ⟨db,1,O⟩ (Z (M ⟨g,0,O⟩) (rs.eraseIdx lo).length c5)
 have j:=z.fr x (λe=>aZ z.1 Mh (by decide) e) (λk n e=>by
  obtain⟨c,A,d⟩:=bL.ty z.2 n;exact aZ d Mh (by decide) e)
 have u:=Fr.set (w1.setCell ⟨db,1,O⟩ (Z (M ⟨g,0,O⟩) (rs.eraseIdx lo).length c5)) ⟨r.b,0,O⟩ (I V t2);have X:=uX h.2.2.2 hr
 have D:∀(k:Nat) (y:Array Y) (t:TypeId),w.heap[k]?=M (Obj.cells y t (0,0))->t≠155->t≠200->t≠202->((w1.setCell ⟨db,1,O⟩ (Z (M ⟨g,0,O⟩) (rs.eraseIdx lo).length c5)).setCell ⟨r.b,0,O⟩ (I V t2)).heap[k]?=M (Obj.cells y t (0,0)):=λk y t n h1 S R=>by
  have P:=(hW.block _ (aM n)).trans n;have J:=kR.1.at P (λe=>aZ P a S e);have N:=x.at J (λe=>aZ J Mh h1 e);exact u.at N (λe=>aZ N j.1 R e)
 refine⟨?_,?_,?_,?_,D _ _ _ c0 (by decide) (by decide) (by decide),D _ _ _ c2 (by decide) (by decide) (by decide)⟩
 ·refine hD.fr u (λb i e=>?_);rcases i with i|i|⟨q,E,i|i⟩
  ·exact aZ j.1 hD.1 (by decide) (e.symm.trans i)
  ·obtain⟨c,d⟩:=iH hD.2.1 i;exact aZ d j.1 (by decide) e
  ·exact(X q E).1 (i.symm.trans e)
  ·obtain⟨c,A,d⟩:=bL.ty (hD.2.2.1 q E).2 i;exact aZ d j.1 (by decide) e
 ·refine⟨?_,j.2.fr u (λk n e=>?_)⟩
  ·show _=M (uR (r.b,r.v,(t2,r.f.2.1,r.f.2.2)));have:=Aaj (w1.setCell ⟨db,1,O⟩ (Z (M ⟨g,0,O⟩) (rs.eraseIdx lo).length c5)) r.b 0 _ _ (I V t2) j.1;exact this
  ·obtain⟨c,A,d⟩:=bL.ty j.2 n;exact aZ d j.1 (by decide) e
 ·have hF:Fr w w1 (DX db (Z (M ⟨g,0,O⟩) rs.length cap) rs):=(Fr.bK hW _).trans (kR.1.mono λb e=>Aab (Aac (by rw[e];rfl)));exact(hF.trans (x.mono λb e=>Aac e)).trans (u.mono λb e=>Aab (Aab ⟨r,Aai hr,Aac e⟩))
 ·exact⟨kR.2.1.trans hW.os,kR.2.2.1.trans hW.tape,kR.2.2.2.trans hW.output⟩
theorem mv_there (hr:rs[lo]?=M r)(hp:rs.Pairwise nU)(hm:MvAt w w3 db g cap c5 bx b2 s rs lo r t2)(hs:(plain rs).Pairwise (λa b=>a.1<b.1))(hh:kP (plain (rs.eraseIdx lo)) t2=true)(hj:j=fF (plain (rs.eraseIdx lo)) t2):
 MvD w (w3.setCell ⟨g,j,O⟩ (U (M ⟨r.b,0,O⟩))) db s (Z (M ⟨g,0,O⟩) rs.length cap) rs lo r t2:=by
 obtain⟨k,o,n,i,-⟩:=hm;have u:∀q∈rs.eraseIdx lo,nU q (r.b,r.v,(t2,r.f.2.1,r.f.2.2)):=λq d=>⟨(uX hp hr q d).1,(uX hp hr q d).2⟩;obtain⟨h,t⟩:=k.swap o u rfl;refine⟨_,_,h,?_,n.trans (t.mono λb e=>Aab (Aac (by rw[e];rfl))),i,λb c=>?_⟩
 ·rw[Hq,Fh (Cu hs lo),hh,Aad rfl,hj];rfl
 ·rcases c with c|c|⟨q,d,c⟩
  ·exact Aac (Aac c)
  ·exact Aac (Aab (Aac c))
  ·rcases Adi d with d|rfl
   ·exact Aac (mv_sub (c5:=c5) (Aab (Aab ⟨q,d,c⟩)))
   ·exact Aac (Aab (Aab ⟨r,Aai hr,c⟩))
theorem mv_new (hr:rs[lo]?=M r)(hp:rs.Pairwise nU)(hm:MvAt w w3 db g cap c5 bx b2 s rs lo r t2)(hs:(plain rs).Pairwise (λa b=>a.1<b.1))(hh:kP (plain (rs.eraseIdx lo)) t2=false)(hj:j=fF (plain (rs.eraseIdx lo)) t2)
 (hW:aL w3 W)(Im:mD W w5 (Z (M ⟨g,0,O⟩) (rs.eraseIdx lo).length c5) v5 (rs.eraseIdx lo) j (r.b,r.v,(t2,r.f.2.1,r.f.2.2))):
 MvD w (w5.setCell ⟨db,1,O⟩ v5) db s (Z (M ⟨g,0,O⟩) rs.length cap) rs lo r t2:=by
 obtain⟨u,i,n,e,-⟩:=hm;have x:∀q∈rs.eraseIdx lo,nU q (r.b,r.v,(t2,r.f.2.1,r.f.2.2)):=λq k=>⟨(uX hp hr q k).1,(uX hp hr q k).2⟩;obtain⟨t,d⟩:=(u.aN hW).XU Im ⟨(hW.block _ (aM i.1)).trans i.1,i.2.aN hW⟩ x rfl
 have o:∀b,(DX db (Z (M ⟨g,0,O⟩) (rs.eraseIdx lo).length c5) (rs.eraseIdx lo) b\/b=FR.b (r.b,r.v,(t2,r.f.2.1,r.f.2.2))\/(FR.v (r.b,r.v,(t2,r.f.2.1,r.f.2.2))).ownBlock=M b)->DX db (Z (M ⟨g,0,O⟩) rs.length cap) rs b:=λb c=>by
  rcases c with c|c
  ·exact mv_sub c
  ·exact Aab (Aab ⟨r,Aai hr,c⟩)
 refine⟨_,_,t,?_,(n.trans (Fr.bK hW _)).trans (d.1.mono o),⟨d.2.1.1.trans (hW.os.trans e.1),d.2.1.2.1.trans (hW.tape.trans e.2.1),d.2.1.2.2.trans (hW.output.trans e.2.2)⟩,λb c=>?_⟩
 ·rw[Fh (Cu hs lo),hh,Aaa (by simp),<-hj];simp[plain,FR.f]
 ·rcases d.2.2 b c with h|h
  ·exact Aac (o b h)
  ·exact Aab (Aal (Aal n.1 hW.size) h)
theorem new1G (w:F)(o:Obj):aL w (w.alloc o).drew:=aL.drew (aL.alloc (aL.refl w) _)
theorem JD.nil (w:F):JD w O []:=⟨Aac rfl,λ_ e=>by cases e⟩
theorem JD.take {l:List gJ}(h:JD w ao l)(k:Nat):JD w ao (l.take k):=by
 obtain⟨c,i⟩:=h;refine⟨?_,i⟩;rcases c with rfl|⟨b,off,e,g⟩
 ·left;simp
 ·refine Aab ⟨b,off,e,λj u a=>g j u ?_⟩;have d:Lp l=Lp (l.take k)++Lp (l.drop k):=by rw[<-Bp,AbW]
  have n:=(Aae.1 a).1;rw[d,Abw n];exact a
theorem wE.form {l:List gJ}(h:wE w B v l):∃ao cap,v=Z ao l.length cap/\JD w ao l/\(ao=O->l.length=0/\cap=0)/\l.length<=cap:=by
 have i:=h;obtain⟨-,o⟩:=h;rcases o with⟨rfl,c⟩|⟨g,cap,k,rfl,t,r,n,-⟩
 ·exact⟨O,0,by rw[c],⟨Aac (Aav c),(λ_ e=>by cases e)⟩,λ_=>⟨c,rfl⟩,by omega⟩
 ·refine⟨M ⟨g,0,O⟩,cap,rfl,⟨Aab ⟨g,0,rfl,λj u d=>?_⟩,(λa e=>by cases e;exact⟨k,r⟩)⟩,(λe=>by cases e),n⟩;have:=Adc i rfl j u d;cases j with
  |zero=>simpa[Addr.add]using this
  |succ j=>simpa[Addr.add]using this
theorem zN {ops:Array Oper}{rest:List Oper}{o:Oper}{a:Act}{Q:Exit->Act->F->Prop}(pQ:o.guard=O)(s x:Operand)
 (ho:o.op= .call { callee:= .builtin .append,args:=#[s,x],argTypes:=#[163,163] })
 (base:Nat)(v:Y)(ys zs:List gJ)(hs:a.eval s=v)(bB:wE w base v ys)(ao:Option Addr)(m c:Nat)(hx:a.eval x=Z ao m c)(hm:m=zs.length)(gV:ao=O->zs.length=0/\c=0)(hr:JD w ao zs)
 (hlen:ys.length+zs.length<=1000000000)(gY:base<=w.heap.size)
 (h:∀v' w',wE w' base v' (ys++zs)->w.grownBy w' v.ownBlock->wpList K ops Q rest (a.put o.dst v') w'):wpList K ops Q (o::rest) a w:=by
 obtain⟨i,k,D,E,A⟩:=AaO Tryz.infoEdD;subst hm;cases ao with
 |none=>
  obtain⟨g,rfl⟩:=gV rfl;have B:=Aav g;subst B;exact AbO pQ s x 163 ho base 248 i 3 underlying163 k v _ _ hs bB hx (h v w (by simpa using bB) (Abp _ _))
 |some r=>
  refine Abu w pQ s x 163 ho base 248 i (.agg #[I V 0,Z O 0 0,Z O 0 0]) 3 56 underlying163 k D E A rfl (by decide) v ys.length (Lp ys) hs bB r zs.length c (Lp zs) hx (Uq zs) ?_ ?_ (by unfold maxLen;omega) (by omega) gY ?_
  ·rcases hr.1 with rfl|⟨b,off,e,t⟩
   ·intro j u d;simp[Lp]at d
   ·cases e
    intro j u d;have:=t j u d;cases j with
    |zero=>simpa[Addr.add]using this
    |succ j=>simpa[Addr.add]using this
  ·intro u z;obtain⟨p,-,n⟩:=AbG.1 z;simp[gJ.cells]at n;rcases n with rfl|rfl|rfl<;>rfl
  ·intro v' w' g y _;refine h v' w' ?_ y;unfold wE;rw[Bp,Aah];exact g
theorem dV.nil (w:F):dV w (O,0,0) []:=⟨[],JD.nil w,rfl,⟨λ_=>⟨rfl,rfl⟩,Aak _⟩,rfl,λi r e a _=>by simp at a⟩
theorem dV.take {n:Nat}{l:List Ed}(h:dV w (ao,n,cap) l)(k:Nat)(hk:k<=n):dV w (ao,k,cap) (l.take k):=by
 obtain⟨c,g,u,d,t,x⟩:=h;simp only at g u d;have o:(c.take k).length=k:=by rw[Aaz];omega
 refine⟨c.take k,g.take k,o.symm,⟨λe=>?_,by simp only;omega⟩,by simp[t],λi r e a b=>?_⟩
 ·have:=d.1 e;simp only;omega
 ·rw[Aby]at a b;split at a
  ·rename_i j;rw[Aad j]at b;exact x i r e a b
  ·cases a
theorem BX {l:List Ed}(h:dV w x l)(hl:l.length<=1000000)(hd:depth<=1000000):
 H K 152 #[x.v,I V (depth:Int)] w λe w'=> ∃y:bT,e=G y.v/\dV w y (l.take depth)/\w'=w:=by
 obtain⟨i,n,a⟩:=x;have g:n=l.length:=by obtain⟨c,-,r,-,A,-⟩:=h;simp only at r;omega
 have z:n<=a:=by obtain⟨c,-,-,j,-⟩:=h;exact j.2
 have k:Hid (dV w (i,min n depth,a) (l.take depth)):=by
  show dV _ _ _;have:=h.take (min n depth) (Nat.min_le_left _ _);have e:l.take (min n depth)=l.take depth:=by rw[g,<-AcL,Aaq (by rw[Aaz];omega)]
  rw[e]at this;exact this
 subst g;have d:(min (l.length:Int) (depth:Int)).toNat=min l.length depth:=by omega
 have o:Hid _:=d;simp only[bT.v];have u:(0:Int)<=min (l.length:Int) (depth:Int):=by omega
 have t:min (l.length:Int) (depth:Int)<=(a:Int):=by omega
 clear h d;go_enter func152,ntmps152;go_wp2_with fail;go_ret;refine⟨(i,min l.length depth,a),?_,k.out,rfl⟩;rw[<-o.out];rfl
theorem Ki {r:gJ}{l:List Ed}(he:sI w r e)(h:dV w x l)(hl:l.length<=100000)(hd:depth<=1000000):
 H K 219 #[.agg #[I V r.1,r.2.1.v,r.2.2.v],x.v,I V (depth:Int)] w λq w'=> ∃y:bT,q=G y.v/\dV w' y ((e::l).take depth)/\aL w w':=by
 obtain⟨c,A,u,t,h4,z⟩:=h;obtain⟨xo,xn,xc⟩:=x;simp only at A u t;subst u;have D:=aQ (aO w (C #[I V r.1,r.2.1.v,r.2.2.v] 248)) (aO (w.alloc (C #[I V r.1,r.2.1.v,r.2.2.v] 248)) (C #[I V r.1,r.2.1.v,r.2.2.v] 248));have E:=MG (B:=w.heap.size) (w.alloc (C #[I V r.1,r.2.1.v,r.2.2.v] 248)) (by simp) r;rw[AaD]at E
 have HE:Hid (∀(d:F) (j:Option Addr) (g:Nat),aL w d->JD d j ([r]++c)->xJ j (([r]++c).length) g->([r]++c).length<=g->dV d (j,([r]++c).length,g) (e::l)):=λd j g J hr R W=>by
  refine⟨[r]++c,hr,rfl,⟨R,W⟩,by simp[h4],λi r' e' a b=>?_⟩;cases i with
  |zero=>simp at a b;subst a b;exact he.aN J
  |succ i=>simp at a b;exact(z i r' e' a b).aN J
 clear z he;obtain⟨r1,⟨x1,P,S⟩,⟨y1,y2,y3⟩⟩:=r;simp only[bT.v]at*;go_enter func219,ntmps219;go_wp2_with (at_builtin;go_must (refine zN (by rfl) (.tmp 8) (.tmp 9) (by rfl) w.heap.size _ [(r1,(x1,P,S),(y1,y2,y3))] c (by rfl) (by exact E) _ _ _ (by rfl) (by rfl) (by exact t.1) (by exact A.aN D) (by simp;omega) (by simp;omega) ?_);intro v5 d Q X);have L:aL w d:=D.grown X (by simp;omega) (λk e=>by cases e;simp);obtain⟨j,g,rfl,Dv,Lr,WZ⟩:=Q.form;have o:=HE.out d j g L Dv Lr WZ;have N:=BX o (by simp;omega) hd;simp only[bT.v]at N;refine N.mono ?_;rintro q w6 ⟨⟨b6,n6,c6⟩,rfl,n,rfl⟩;go_wp2_with fail;go_ret;exact⟨(b6,n6,c6),rfl,n,L⟩
theorem wW (h:bJ w x l)(kD:fC l)(hl:l.length<=1000000):
 H K 160 #[x.v] w λe w'=>e=G (I V (sz l))/\aL w w':=by
 obtain⟨S,n,N⟩:=x;obtain⟨u,A,D⟩:=h;simp only at u A D;subst A;simp only[bT.v];have E:Hid (vI w S l):=u.1;clear u;go_enter func160,ntmps160;go_wp2_with fail
 go_loopw [3,5,8] (λc _ i wr=> ∃k:Nat,k<=l.length/\c=I V (sz (l.take k))/\i=I V (k:Int)/\Hid (aL w wr)) (λ_ _ i _=>l.length-(intOf i).toNat)
 case atStart=>exact⟨0,Aao _,rfl,rfl,aL.refl w⟩
 case round=>
  obtain⟨k,X,rfl,rfl,j⟩:=hrel;have Q:=oP kD k;by_cases g:k<l.length
  ·obtain⟨p,r⟩:∃p,l[k]?=M p:=⟨_,Aaf g⟩;have B:Hid _:=Cv r;have t:=kD p (Aai r);unfold nQ at t;rcases E.out with R|⟨b,off,rfl,y⟩
   ·rw[R]at g;simp at g
   ·obtain⟨d,o⟩:=y k g;have a:l.getD k (0,0)=p:=(by simp[List.getD_eq_getElem?_getD,r]);have L:wr.cell? ⟨b,off+k*2,O⟩=M (I V p.1):=j.out.cell (by first|simpa[a]using d|(rw[a]at d;exact d));have J:wr.cell? ⟨b,off+k*2+1,O⟩=M (I V p.2):=j.out.cell (by first|simpa[a]using o|(rw[a]at o;exact o));have W:(0:Int)<=(k:Int):=(by omega);have i2:(k:Int)<(l.length:Int):=(by omega);generalize sz (l.take k)=z at Q B;clear r y d o a;go_wp2_with fail;go_roundw
    case rel=>exact⟨k+1,by omega,by rw[B.out],by go_num,(show aL w _ from aL.alloc j.out _)⟩
    case measure=>simp[intOf];omega
  ·have P:l.take k=l:=Aaq (by omega);rw[P];go_wp2_with fail;go_ret;exact⟨rfl,j.out⟩
theorem TW (h:aW w dp tb depth m)(h0: -1000000000<=pos)(h1:pos<=1000000000):
 H K 229 #[U (M ⟨dp,0,O⟩),I V pos] w λe w'=>e=G (.bool (jN m.1 pos))/\aL w w':=by
 obtain⟨u,r,k,j,-⟩:=h;obtain⟨-,t,-⟩:=cZ k;have a:=Ls j (pos:=pos-1);have c:Hid (jN m.1 pos=((jU m.1 (pos-1)).2==0 && decide (1<(jU m.1 (pos-1)).1.2))):=rfl;clear k j;generalize jU m.1 (pos-1)=q at a c;obtain⟨⟨x,y⟩,n⟩:=q;simp only at a c;by_cases i:n=0
 ·subst i;go_enter func229,ntmps229;go_wp2_with fail;refine a.mono ?_;rintro e o ⟨rfl,g⟩
  go_wp2
  go_ret;rw[c.out];refine⟨by simp,?_⟩;exact aL.alloc g _
 ·have d:=Aat.2 i;go_enter func229,ntmps229;go_wp2_with fail;refine a.mono ?_;rintro e o ⟨rfl,g⟩
  go_wp2
  go_ret;rw[c.out,d];refine⟨rfl,?_⟩;exact aL.alloc g _
theorem dV.head {l:List Ed}(h:dV w (xo,xn,xc) (e::l)):∃(b off:Nat) (r:gJ),xo=M ⟨b,off,O⟩/\xn=l.length+1/\xn<=xc/\w.cell? ⟨b,off,O⟩=M (I V r.1)/\w.cell? ⟨b,off+1,O⟩=M r.2.1.v/\w.cell? ⟨b,off+2,O⟩=M r.2.2.v/\sI w r e:=by
 obtain⟨a,i,j,g,c,k⟩:=h;simp only at i j g
 match a,c with
 |r::a,c=>
  rcases i.1 with h|⟨b,off,rfl,d⟩
  ·cases h
  ·refine⟨b,off,r,rfl,by simp at c;simp at j;omega,g.2,?_,d 1 _ rfl,d 2 _ rfl,k 0 r e rfl rfl⟩;have:=d 0 _ rfl;simpa using this
theorem dV.tail {b off:Nat}{l:List Ed}(h:dV w (M ⟨b,off,O⟩,xn,xc) (e::l)):dV w ((if xc=1 then M ⟨b,off,O⟩else M ⟨b,off+3,O⟩),l.length,xc-1) l:=by
 obtain⟨c,B,A,J,d,R⟩:=h;simp only at B A J
 match c,d with
 |r::c,d=>
  simp at d A;obtain⟨y,S⟩:=B;obtain⟨t,L⟩:=S _ rfl;have z:∀o:Nat,∀a,M (⟨b,o,O⟩:Addr)=M a->∃t,w.heap[a.block]?=M (C t 248 (0,0)):=λo a e=>by cases e;exact⟨t,L⟩
  by_cases D:xc=1
  ·have Q:c=[]:=Aav (by omega);subst Q;rw[Aad D];have g:l.length=0:=(by simpa using d.symm);exact⟨[],⟨Aac rfl,z off⟩,g,⟨λe=>(by cases e),by simp only;omega⟩,by rw[g];rfl,λi E k x n=>by simp at x⟩
  ·rw[Aaa D];refine⟨c,⟨?_,z _⟩,by simp only;omega,⟨λe=>(by cases e),by simp only;omega⟩,d,λi E k x n=>R (i+1) E k (by simpa using x) (by simpa using n)⟩;rcases y with y|⟨n,W,k,P⟩
   ·cases y
   ·cases k
    refine Aab ⟨b,off+3,rfl,λj u N=>?_⟩;have:=P (j+3) u (by rw[xI,Abb (by simp)];simpa using N);rwa[show off+(j+3)=off+3+j from by omega]at this
theorem dV.len {l:List Ed}(h:dV w x l):x.2.1=l.length:=by
 obtain⟨a,-,d,-,c,-⟩:=h;omega
theorem rE {depth:Int}{r:bT}(hb:w.heap[dp]?=M (qM depth tb cnt u r dn bf)):
 (∀x:bT,(w.setCell ⟨dp,3,O⟩ x.v).heap[dp]?=M (qM depth tb cnt x r dn bf))/\(∀x:bT,(w.setCell ⟨dp,4,O⟩ x.v).heap[dp]?=M (qM depth tb cnt u x dn bf))/\(∀n,(w.setCell ⟨dp,5,O⟩ (I V n)).heap[dp]?=M (qM depth tb cnt u r n bf))/\(∀n,(w.setCell ⟨dp,6,O⟩ (I V n)).heap[dp]?=M (qM depth tb cnt u r dn n)):=
 ⟨λx=>by rw[Aaj w dp 3 _ _ _ hb];rfl,λx=>by rw[Aaj w dp 4 _ _ _ hb];rfl,λx=>by rw[Aaj w dp 5 _ _ _ hb];rfl,λx=>by rw[Aaj w dp 6 _ _ _ hb];rfl⟩
theorem yA {depth:Int}{r:bT}(hb:w.heap[dp]?=M (qM depth tb cnt u r dn bf)):
 (∀l,cK w tb l->cK (w.setCell ⟨dp,i,O⟩ v) tb l)/\(∀x l,bJ w x l->bJ (w.setCell ⟨dp,i,O⟩ v) x l)/\(∀x l,dV w x l->dV (w.setCell ⟨dp,i,O⟩ v) x l):=by
 have e:=Fr.set w ⟨dp,i,O⟩ v;refine⟨λl g=>?_,λx l c=>c.fr e (λb j a=>aZ a hb (by decide)),λx l c=>c.fr e (λb j a=>aZ a hb (by decide)) (λb j a=>aZ a hb (by decide))⟩;obtain⟨k,d⟩:=g.ty;exact g.fr e (aZ d hb (by decide)) (λb n o p h l a=>aZ a hb (by decide))
theorem aW.put {Yl Ib:Int}{r u' r':bT}{ul rl:List Ed}(hb:w.heap[dp]?=M (qM (depth:Int) tb cnt u r dn bf))(hs:(w.setCell ⟨dp,i,O⟩ v).heap[dp]?=M (qM (depth:Int) tb (l.length:Int) u' r' Yl Ib))(ht:cK w tb l)(hu:dV w u' ul)(hr:dV w r' rl):aW (w.setCell ⟨dp,i,O⟩ v) dp tb depth (l,ul,rl,Yl,Ib):=by
 obtain⟨c,d,a⟩:=yA hb;exact⟨u',r',hs,c _ ht,a _ _ hu,a _ _ hr⟩
theorem aW.lt (h:aW w dp tb depth m):dp<w.heap.size/\tb<w.heap.size:=by
 obtain⟨u,r,c,a,-⟩:=h;exact⟨aM c,a.lt⟩
theorem bJ.tx (hd:aW w dp tb depth m)(h:bJ w x l)(hK:Dk w w' (TX dp tb) (TX dp tb)):bJ w' x l:=by
 obtain⟨u,r,c,a,-⟩:=hd;exact h.fr hK.1 (λb e d=>tx_ty c a.ty d (by decide) (by decide))
theorem sI.tx {r:gJ}(hd:aW w dp tb depth m)(h:sI w r e)(hK:Dk w w' (TX dp tb) (TX dp tb)):sI w' r e:=⟨h.1,h.2.1.tx hd hK,h.2.2.tx hd hK⟩
theorem Ap (hr:vI w ao l)(e1:la=l.length)(ok:∀p∈l,Jy p)(hlen:l.length<=9000):
 H K 34 #[Z ao la ca] w λe w'=>e=G (I V (sz l))/\w'=w:=by
 subst e1;go_enter func34,ntmps34
 go_wp2
 go_loop [3,4] (λn i=> ∃k:Nat,k<=l.length/\i=I V (k:Int)/\n=I V (sz (l.take k))) (λ_ i=>l.length-(intOf i).toNat)
 case atStart=>exact⟨0,Aao _,rfl,rfl⟩
 case round=>
  obtain⟨k,u,rfl,rfl⟩:=hrel;have t:=MO ok hlen k;by_cases d:k<l.length
  ·obtain⟨b,off,rfl,g,h⟩:=hr.at d;have c:Jy (l.getD k (0,0)):=ok _ (by simp[d]);have a:Hid _:=Tc d;generalize l.getD k (0,0)=p at g h c a;obtain⟨r,j⟩:=p;simp only at g h a;unfold Jy at c;simp only at c;have o:(0:Int)<=(k:Int):=(by omega);have x:(k:Int)<(l.length:Int):=(by omega);clear hr;go_wp2_with fail
   go_round
   case rel=>exact⟨k+1,by omega,by go_num,by rw[a.out]⟩
   case measure=>simp[intOf];omega
  ·go_wp2
   go_ret;exact⟨by rw[Aaq (by omega)];rfl,rfl⟩
theorem fH.og (h:fH w B v l)(ho:Og w w' g)(hg:g<B):fH w' B v l:=
 bE h ho.1 (λb c a _ e=>by have:=(AaB h b a).1;omega)
theorem Ko {r:Sn}(h:mW w g S r)(hS:S.size<=2000000)(nG:0<=size)(mZ:size<4294967296):
 H K 144 #[U (M ⟨g,0,O⟩),I V size] w λe w'=> ∃v,e=G v/\fH w' w.heap.size v (dS size r).1/\mW w' g S (dS size r).2/\Og w w' g:=by
 have J:=h.lt;have a5:=xU r;have E:Hid (dS size r=((vM (bI r).1.toNat size (fM (4096<(bI r).1) (bI r).2)).1,fM (5000<sz (vM (bI r).1.toNat size (fM (4096<(bI r).1) (bI r).2)).1) (vM (bI r).1.toNat size (fM (4096<(bI r).1) (bI r).2)).2)):=rfl;have Ig:=zA size r;go_enter func144,ntmps144;go_wp2_with fail;refine(jI h hS).mono ?_;rintro e w1 ⟨rfl,tX,Al⟩;generalize (bI r).1=n at*;generalize (bI r).2=z at*;obtain⟨N,rfl⟩:=AbC a5.1;rw[Ace]at E;clear h;by_cases a0:4096<(N:Int)
 ·have a3:Hid (fM (4096<(N:Int)) z=(z.1,true)):=by show _=_;unfold fM;rw[Aad a0]
  rw[a3.out]at E;obtain⟨c1,f1⟩:=tX.cell;go_wp2_with fail;have Ll:=tX.bad;have Xv:Og w (w1.setCell ⟨g,2,O⟩ (.bool true)) g:=Al.set;have a2:N<=4096\/((z.1,true):Sn).2=true:=Aab rfl;clear tX Al c1 f1;generalize w1.setCell _ _=w2 at*
  go_loopw [6,7] (λv i wr=> ∃(k:Nat) (out:List (Int×Int)) (c:Sn),i=I V (k:Int)/\fH wr w.heap.size v out/\mW wr g S c/\Og w wr g/\Hid (Rm N k size ((z.1,true):Sn) c out)/\(N<=4096\/c.2=true)/\Hid (∀p∈out,Jy p)) (λ_ i _=>N-(intOf i).toNat)
  case atStart=>exact⟨0,[],((z.1,true):Sn),rfl,AaH _ _ _ _,Ll,Xv,⟨rfl,Aao _,by simp⟩,a2,λp hp=>by simp at hp⟩
  case round=>
   obtain⟨k,out,c,rfl,L,W,kD,A,R,MP⟩:=hrel;have EX:=A.out.1;subst EX;have a4:=A.out.2.1;obtain⟨ck,fk⟩:=W.cell;by_cases t:¬(out.length<N)\/c.2=true
   ·have P:Hid _:=A.out.done (t.imp (λh=>by omega) id)
    have QL:out.length<=4096:=by
     rw[E.out,P.out]at Ig;exact Ig.2
    obtain⟨ro,rc,rfl,rA,-⟩:=L.form;have y:=Ap (ca:=rc) rA rfl MP.out (by omega);have a6:=Fp MP.out;have d:Hid (fH wr w.heap.size (Z ro out.length rc) out/\mW wr g S c/\Og w wr g):=⟨L,W,kD⟩;clear rA L W kD A;by_cases h5:5000<sz out
    ·have u:Hid (fM (5000<sz out) c=(c.1,true)):=(by show _=_;unfold fM;rw[Aad h5]);by_cases o:out.length<N
     ·have x:=t.resolve_left (λh=>h o);have Mx:(out.length:Int)<(N:Int):=(by omega);have tY:=AaJ o;rw[x]at ck;clear t;go_wp2_with fail;refine y.mono ?_;rintro e w9 ⟨rfl,rfl⟩;clear y;go_wp2_with fail;go_ret;rw[E.out,P.out];simp only;rw[u.out];exact⟨_,rfl,d.out.1.og (Og.refl _ g).set J,d.out.2.1.bad,d.out.2.2.set⟩
     ·exfalso;omega
    ·have u:Hid (fM (5000<sz out) c=c):=(by show _=_;unfold fM;rw[Aaa h5]);by_cases o:out.length<N
     ·have x:=t.resolve_left (λh=>h o);have Mx:(out.length:Int)<(N:Int):=(by omega);have tY:=AaJ o;rw[x]at ck;clear t;go_wp2_with fail;refine y.mono ?_;rintro e w9 ⟨rfl,rfl⟩;clear y;go_wp2_with fail;go_ret;rw[E.out,P.out];simp only;rw[u.out];exact⟨_,rfl,d.out.1,d.out.2.1,d.out.2.2⟩
     ·exfalso;omega
   ·have o:out.length<N:=(by omega);have Mx:(out.length:Int)<(N:Int):=(by omega);have tY:=AaJ o
    have x:c.2=false:=by
     cases e:c.2 with
     |false=>rfl
     |true=>exact absurd (Aab e) t
    rw[x]at ck
    have B:N<=4096:=by
     rcases R with h|h
     ·exact h
     ·rw[x]at h;cases h
    exfalso;omega
 ·have a3:Hid (fM (4096<(N:Int)) z=z):=by show _=_;unfold fM;rw[Aaa a0]
  rw[a3.out]at E;go_wp2_with fail;have Ll:=tX;have Xv:=Al;have a2:N<=4096\/z.2=true:=Aac (by omega);clear tX Al
  go_loopw [6,7] (λv i wr=> ∃(k:Nat) (out:List (Int×Int)) (c:Sn),i=I V (k:Int)/\fH wr w.heap.size v out/\mW wr g S c/\Og w wr g/\Hid (Rm N k size z c out)/\(N<=4096\/c.2=true)/\Hid (∀p∈out,Jy p)) (λ_ i _=>N-(intOf i).toNat)
  case atStart=>exact⟨0,[],z,rfl,AaH _ _ _ _,Ll,Xv,⟨rfl,Aao _,by simp⟩,a2,λp hp=>by simp at hp⟩
  case round=>
   obtain⟨k,out,c,rfl,L,W,kD,A,R,MP⟩:=hrel;have EX:=A.out.1;subst EX;have a4:=A.out.2.1;obtain⟨ck,fk⟩:=W.cell;by_cases t:¬(out.length<N)\/c.2=true
   ·have P:Hid _:=A.out.done (t.imp (λh=>by omega) id)
    have QL:out.length<=4096:=by
     rw[E.out,P.out]at Ig;exact Ig.2
    obtain⟨ro,rc,rfl,rA,-⟩:=L.form;have y:=Ap (ca:=rc) rA rfl MP.out (by omega);have a6:=Fp MP.out;have d:Hid (fH wr w.heap.size (Z ro out.length rc) out/\mW wr g S c/\Og w wr g):=⟨L,W,kD⟩;clear rA L W kD A;by_cases h5:5000<sz out
    ·have u:Hid (fM (5000<sz out) c=(c.1,true)):=(by show _=_;unfold fM;rw[Aad h5]);by_cases o:out.length<N
     ·have x:=t.resolve_left (λh=>h o);have Mx:(out.length:Int)<(N:Int):=(by omega);have tY:=AaJ o;rw[x]at ck;clear t;go_wp2_with fail;refine y.mono ?_;rintro e w9 ⟨rfl,rfl⟩;clear y;go_wp2_with fail;go_ret;rw[E.out,P.out];simp only;rw[u.out];exact⟨_,rfl,d.out.1.og (Og.refl _ g).set J,d.out.2.1.bad,d.out.2.2.set⟩
     ·have Mx:¬(out.length:Int)<(N:Int):=(by omega);have tY:=AaM o;clear t;go_wp2_with fail;refine y.mono ?_;rintro e w9 ⟨rfl,rfl⟩;clear y;go_wp2_with fail;go_ret;rw[E.out,P.out];simp only;rw[u.out];exact⟨_,rfl,d.out.1.og (Og.refl _ g).set J,d.out.2.1.bad,d.out.2.2.set⟩
    ·have u:Hid (fM (5000<sz out) c=c):=(by show _=_;unfold fM;rw[Aaa h5]);by_cases o:out.length<N
     ·have x:=t.resolve_left (λh=>h o);have Mx:(out.length:Int)<(N:Int):=(by omega);have tY:=AaJ o;rw[x]at ck;clear t;go_wp2_with fail;refine y.mono ?_;rintro e w9 ⟨rfl,rfl⟩;clear y;go_wp2_with fail;go_ret;rw[E.out,P.out];simp only;rw[u.out];exact⟨_,rfl,d.out.1,d.out.2.1,d.out.2.2⟩
     ·have Mx:¬(out.length:Int)<(N:Int):=(by omega);have tY:=AaM o;clear t;go_wp2_with fail;refine y.mono ?_;rintro e w9 ⟨rfl,rfl⟩;clear y;go_wp2_with fail;go_ret;rw[E.out,P.out];simp only;rw[u.out];exact⟨_,rfl,d.out.1,d.out.2.1,d.out.2.2⟩
   ·have o:out.length<N:=(by omega);have Mx:(out.length:Int)<(N:Int):=(by omega);have tY:=AaJ o
    have x:c.2=false:=by
     cases e:c.2 with
     |false=>rfl
     |true=>exact absurd (Aab e) t
    rw[x]at ck
    have B:N<=4096:=by
     rcases R with h|h
     ·exact h
     ·rw[x]at h;cases h
    have ba:=xU c;have bb:=xU (bI c).2;have HN:Hid (Rm N (out.length+1) size z (fM ((bI (bI c).2).1<1\/5000<(bI (bI c).2).1\/size<(bI c).1+(bI (bI c).2).1) (bI (bI c).2).2) (out++ [((bI c).1,(bI (bI c).2).1)])):=A.out.next o x;clear t R A;go_wp2_with fail;refine(jI W hS).mono ?_;rintro e w3 ⟨rfl,QJ,a1⟩;have vQ:=L.og a1 J;have X:=kD.trans a1;clear W L kD ck fk;go_wp2_with fail;refine(jI QJ hS).mono ?_;rintro e w4 ⟨rfl,rO,Dn⟩;have uK:=vQ.og Dn J;have FH:=X.trans Dn;obtain⟨c4,f4⟩:=rO.cell;clear QJ vQ X a1 Dn;generalize (bI (bI c).2).2=rb at*;generalize (bI (bI c).2).1=b at*;generalize (bI c).1=a at*;have a8:=FH.1.1;have HR:Hid _:=raw_snoc MP.out ba bb;by_cases hP:b<1\/5000<b\/size<a+b
    ·have u:Hid (fM (b<1\/5000<b\/size<a+b) rb=(rb.1,true)):=(by show _=_;unfold fM;rw[Aad hP]);have Q:fH (w4.setCell ⟨g,2,O⟩ (.bool true)) w.heap.size u6 out:=uK.og (Og.refl w4 g).set J;have Bn:=rO.bad;have MQ:Og w (w4.setCell ⟨g,2,O⟩ (.bool true)) g:=FH.set;have a7:=MQ.1.1;by_cases q1:b<1
     ·clear hP;go_upto_region 12 with fail;clear uK rO FH c4 f4;generalize w4.setCell _ _=w5 at*;go_wp2_with (at_builtin;go_must (refine fO (by rfl) (.tmp 50) (.tmp 54) (by rfl) w.heap.size _ out [(a,b)] (by rfl) (by exact Aax Q _) _ _ _ (by rfl) (by rfl) (by intro e;cases e) (by exact Aq w5 _ _) (by simp;omega) (by simp;omega) ?_);intro v6 w6 kH D);go_roundw
      case rel=>exact⟨out.length+1,_,_,by go_num,kH,by rw[u.out];exact Bn.grown D (λj e=>(AaB Q j e).1) J,MQ.grown D (λj e=>(AaB Q j e).1),HN.out,Aac B,HR.out⟩
      case measure=>simp[intOf];omega
     ·by_cases q2:5000<b
      ·clear hP;go_upto_region 12 with fail;clear uK rO FH c4 f4;generalize w4.setCell _ _=w5 at*;go_wp2_with (at_builtin;go_must (refine fO (by rfl) (.tmp 50) (.tmp 54) (by rfl) w.heap.size _ out [(a,b)] (by rfl) (by exact Aax Q _) _ _ _ (by rfl) (by rfl) (by intro e;cases e) (by exact Aq w5 _ _) (by simp;omega) (by simp;omega) ?_);intro v6 w6 kH D);go_roundw
       case rel=>exact⟨out.length+1,_,_,by go_num,kH,by rw[u.out];exact Bn.grown D (λj e=>(AaB Q j e).1) J,MQ.grown D (λj e=>(AaB Q j e).1),HN.out,Aac B,HR.out⟩
       case measure=>simp[intOf];omega
      ·have q3:size<a+b:=(by omega);clear hP;go_upto_region 12 with fail;clear uK rO FH c4 f4;generalize w4.setCell _ _=w5 at*;go_wp2_with (at_builtin;go_must (refine fO (by rfl) (.tmp 50) (.tmp 54) (by rfl) w.heap.size _ out [(a,b)] (by rfl) (by exact Aax Q _) _ _ _ (by rfl) (by rfl) (by intro e;cases e) (by exact Aq w5 _ _) (by simp;omega) (by simp;omega) ?_);intro v6 w6 kH D);go_roundw
       case rel=>exact⟨out.length+1,_,_,by go_num,kH,by rw[u.out];exact Bn.grown D (λj e=>(AaB Q j e).1) J,MQ.grown D (λj e=>(AaB Q j e).1),HN.out,Aac B,HR.out⟩
       case measure=>simp[intOf];omega
    ·have u:Hid (fM (b<1\/5000<b\/size<a+b) rb=rb):=(by show _=_;unfold fM;rw[Aaa hP]);have q1:¬b<1:=(by omega);have q2:¬5000<b:=(by omega);have q3:¬size<a+b:=(by omega);clear hP;go_upto_region 12 with fail;go_wp2_with (at_builtin;go_must (refine fO (by rfl) (.tmp 50) (.tmp 54) (by rfl) w.heap.size _ out [(a,b)] (by rfl) (by exact Aax uK _) _ _ _ (by rfl) (by rfl) (by intro e;cases e) (by exact Aq w4 _ _) (by simp;omega) (by simp;omega) ?_);intro v6 w6 kH D);go_roundw
     case rel=>exact⟨out.length+1,_,_,by go_num,kH,by rw[u.out];exact rO.grown D (λj e=>(AaB uK j e).1) J,FH.grown D (λj e=>(AaB uK j e).1),HN.out,Aac B,HR.out⟩
     case measure=>simp[intOf];omega
theorem CF {r:Sn}(h:mW w g S r)(hS:S.size<=2000000)(nG:0<=size)(mZ:size<4294967296):
 H K 145 #[U (M ⟨g,0,O⟩),I V size] w λe w'=> ∃x:bT,e=G x.v/\fK w' x (lC size r).1/\mW w' g S (lC size r).2/\Og w w' g:=by
 have Dm:=h.lt;have b2:=xU r;have HP:Hid (lC size r=yO (bI r).1.toNat size (fM (50<(bI r).1) (bI r).2)):=rfl;have Ig:=(xV size r).2;go_enter func145,ntmps145;go_wp2_with fail;refine(jI h hS).mono ?_;rintro e w1 ⟨rfl,tX,Al⟩;generalize (bI r).1=n at*;generalize (bI r).2=A at*;obtain⟨N,rfl⟩:=AbC b2.1;rw[Ace]at HP;clear h;by_cases X:50<(N:Int)
 ·have a1:Hid (fM (50<(N:Int)) A=(A.1,true)):=by show _=_;unfold fM;rw[Aad X]
  rw[a1.out]at HP;obtain⟨c1,f1⟩:=tX.cell;go_wp2_with fail;have Ll:=tX.bad;have Xv:Og w (w1.setCell ⟨g,2,O⟩ (.bool true)) g:=Al.set;have a0:N<=50\/((A.1,true):Sn).2=true:=Aab rfl;clear tX Al c1 f1;generalize w1.setCell _ _=w2 at*
  go_loopw [6,7] (λv i wr=> ∃(c:List gJ) (out:List Ed) (d:Sn),i=I V (out.length:Int)/\vU wr w.heap.size v c/\gP wr c out/\mW wr g S d/\Og w wr g/\Hid (Rn N out.length size ((A.1,true):Sn) d out)/\(N<=50\/d.2=true)) (λ_ i _=>N-(intOf i).toNat)
  case atStart=>exact⟨[],[],((A.1,true):Sn),rfl,AaH _ _ _ _,⟨rfl,λi r e a=>by simp at a⟩,Ll,Xv,⟨rfl,Aao _,by simp⟩,a0⟩
  case round=>
   obtain⟨c,out,d,rfl,bB,L,B,kD,J,P⟩:=hrel;have b1:=J.out.2.1;have Iw:=L.1;have a3:Hid _:=Iw;clear Iw;obtain⟨ck,fk⟩:=B.cell;by_cases y:¬(out.length<N)\/d.2=true
   ·have HD:Hid _:=J.out.done (y.imp (λh=>by omega) id)
    have QL:out.length<=50:=by
     rw[HP.out,HD.out]at Ig;exact Ig
    have k:Hid (vU wr w.heap.size u6 c/\gP wr c out/\mW wr g S d/\Og w wr g):=⟨bB,L,B,kD⟩;clear bB L B kD J;by_cases z:out.length<N
    ·have D:=y.resolve_left (λh=>h z);have Mx:(out.length:Int)<(N:Int):=(by omega);have tY:=AaJ z;rw[D]at ck;clear y
     go_wp2
     go_ret;rw[HP.out,HD.out];obtain⟨⟨xo,W,xc⟩,rfl,Q⟩:=fK.FI k.out.1 k.out.2.1
     first|exact⟨xo,W,xc,rfl,Q,k.out.2.2.1,k.out.2.2.2⟩|exact⟨(xo,W,xc),rfl,Q,k.out.2.2.1,k.out.2.2.2⟩
    ·exfalso;omega
   ·have z:out.length<N:=(by omega);have Mx:(out.length:Int)<(N:Int):=(by omega);have tY:=AaJ z
    have D:d.2=false:=by
     cases e:d.2 with
     |false=>rfl
     |true=>exact absurd (Aab e) y
    rw[D]at ck
    have a5:N<=50:=by
     rcases P with h|h
     ·exact h
     ·rw[D]at h;cases h
    exfalso;omega
 ·have a1:Hid (fM (50<(N:Int)) A=A):=by show _=_;unfold fM;rw[Aaa X]
  rw[a1.out]at HP;go_wp2_with fail;have Ll:=tX;have Xv:=Al;have a0:N<=50\/A.2=true:=Aac (by omega);clear tX Al
  go_loopw [6,7] (λv i wr=> ∃(c:List gJ) (out:List Ed) (d:Sn),i=I V (out.length:Int)/\vU wr w.heap.size v c/\gP wr c out/\mW wr g S d/\Og w wr g/\Hid (Rn N out.length size A d out)/\(N<=50\/d.2=true)) (λ_ i _=>N-(intOf i).toNat)
  case atStart=>exact⟨[],[],A,rfl,AaH _ _ _ _,⟨rfl,λi r e a=>by simp at a⟩,Ll,Xv,⟨rfl,Aao _,by simp⟩,a0⟩
  case round=>
   obtain⟨c,out,d,rfl,bB,L,B,kD,J,P⟩:=hrel;have b1:=J.out.2.1;have Iw:=L.1;have a3:Hid _:=Iw;clear Iw;obtain⟨ck,fk⟩:=B.cell;by_cases y:¬(out.length<N)\/d.2=true
   ·have HD:Hid _:=J.out.done (y.imp (λh=>by omega) id)
    have QL:out.length<=50:=by
     rw[HP.out,HD.out]at Ig;exact Ig
    have k:Hid (vU wr w.heap.size u6 c/\gP wr c out/\mW wr g S d/\Og w wr g):=⟨bB,L,B,kD⟩;clear bB L B kD J;by_cases z:out.length<N
    ·have D:=y.resolve_left (λh=>h z);have Mx:(out.length:Int)<(N:Int):=(by omega);have tY:=AaJ z;rw[D]at ck;clear y
     go_wp2
     go_ret;rw[HP.out,HD.out];obtain⟨⟨xo,W,xc⟩,rfl,Q⟩:=fK.FI k.out.1 k.out.2.1
     first|exact⟨xo,W,xc,rfl,Q,k.out.2.2.1,k.out.2.2.2⟩|exact⟨(xo,W,xc),rfl,Q,k.out.2.2.1,k.out.2.2.2⟩
    ·have Mx:¬(out.length:Int)<(N:Int):=(by omega);have tY:=AaM z;clear y
     go_wp2
     go_ret;rw[HP.out,HD.out];obtain⟨⟨xo,W,xc⟩,rfl,Q⟩:=fK.FI k.out.1 k.out.2.1
     first|exact⟨xo,W,xc,rfl,Q,k.out.2.2.1,k.out.2.2.2⟩|exact⟨(xo,W,xc),rfl,Q,k.out.2.2.1,k.out.2.2.2⟩
   ·have z:out.length<N:=(by omega);have Mx:(out.length:Int)<(N:Int):=(by omega);have tY:=AaJ z
    have D:d.2=false:=by
     cases e:d.2 with
     |false=>rfl
     |true=>exact absurd (Aab e) y
    rw[D]at ck
    have a5:N<=50:=by
     rcases P with h|h
     ·exact h
     ·rw[D]at h;cases h
    have ba:=xU d;have HN:Hid _:=J.out.next z D;clear y P J;go_wp2_with fail;refine(jI B hS).mono ?_;rintro e w3 ⟨rfl,QJ,E⟩;have vQ:=bB.og E Dm;have t:=L.og B E;have R:=kD.trans E;clear B bB kD ck fk L E;go_wp2_with fail;refine(Ko QJ hS nG mZ).mono ?_;rintro e w4 ⟨vp,rfl,a8,rO,Dn⟩;obtain⟨xp,rfl,a6⟩:=Kr a8;have uK:=vQ.og Dn Dm;have o:=t.og QJ Dn;have FH:=R.trans Dn;clear QJ vQ R t Dn;go_wp2_with fail;refine(Ko rO hS nG mZ).mono ?_;rintro e w5 ⟨vq,rfl,a4,Bn,QO⟩;obtain⟨xq,rfl,a7⟩:=Kr a4;have dG:=uK.og QO Dm;have u:=o.og rO QO;have a9:=a6.og rO QO;have MQ:=FH.trans QO;clear rO uK FH o QO a8 a6;have b4:c.length<=50:=(by rw[a3.out];omega);have b0:Hid (sI w5 ((bI d).1,xp,xq) ((bI d).1,(dS size (bI d).2).1,(dS size (dS size (bI d).2).2).1)):=⟨rfl,a9,a7⟩;have a2:Hid (gP w5 c out/\mW w5 g S (dS size (dS size (bI d).2).2).2/\Og w w5 g):=⟨u,Bn,MQ⟩;have b3:=MQ.1.1;clear a9 a4 a7 u Bn MQ;generalize (dS size (dS size (bI d).2).2).2=re at*;generalize (dS size (dS size (bI d).2).2).1=lq at*;generalize (dS size (bI d).2).1=lp at*;generalize (bI d).1=a at*;obtain⟨po,pl,pc⟩:=xp;obtain⟨qo,ql,qc⟩:=xq;simp only[bT.v];go_wp2_with (at_builtin;go_must (refine Dj (by rfl) (.tmp 38) (.tmp 43) (by rfl) w.heap.size _ c [(a,(po,pl,pc),(qo,ql,qc))] (by rfl) (by exact Aax dG _) _ _ _ (by rfl) (by rfl) (by intro e;cases e) (by exact one_edit w5 _) (by simp;omega) (by simp;omega) ?_);intro v6 w6 kH vZ);go_roundw
    case rel=>
     obtain⟨g1,g2⟩:=grown_fr dG vZ;refine⟨_,_,re,by simp,kH,(a2.out.1.fr g1 g2).snoc (b0.out.fr g1 g2),a2.out.2.1.grown vZ (λj e=>(AaB dG j e).1) Dm,a2.out.2.2.grown vZ (λj e=>(AaB dG j e).1),?_,Aac a5⟩;have:=HN.out;show Rn _ _ _ _ _ _;rw[Aah];exact this
    case measure=>simp[intOf];omega
theorem dV.nth {l:List Ed}(h:dV w (xo,xn,xc) l)(hk:l[k]?=M e):∃(b off:Nat) (r:gJ),xo=M ⟨b,off,O⟩/\w.cell? ⟨b,off+k*3,O⟩=M (I V r.1)/\w.cell? ⟨b,off+k*3+1,O⟩=M r.2.1.v/\w.cell? ⟨b,off+k*3+2,O⟩=M r.2.2.v/\sI w r e:=by
 obtain⟨a,j,u,t,n,o⟩:=h;have i:k<a.length:=by rw[n];exact(Aae.1 hk).1
 obtain⟨r,c⟩:∃r,a[k]?=M r:=⟨_,Aaf i⟩;rcases j.1 with d|⟨b,off,d,g⟩
 ·rw[d]at i;simp at i
 ·refine⟨b,off,r,d,?_,?_,?_,o k r e c hk⟩
  ·have:=g (k*3) _ (Nb c).1;exact this
  ·exact g (k*3+1) _ (Nb c).2.1
  ·exact g (k*3+2) _ (Nb c).2.2
theorem dV.jR {raw:List gJ}{l:List Ed}(bB:wE w B v raw)(h:gP w raw l):∃x1 x2 x3,v=Z x1 x2 x3/\dV w (x1,x2,x3) l:=by
 obtain⟨e,a,rfl,g,c,d⟩:=bB.form;exact⟨e,raw.length,a,rfl,raw,g,rfl,⟨c,d⟩,h.1,h.2⟩
theorem CG (w:F)(e:gJ):JD (w.alloc (C #[I V e.1,e.2.1.v,e.2.2.v] 248)) (M ⟨w.heap.size,0,O⟩) [e]:=by
 obtain⟨g,c,a,d,-⟩:=wE.form (MG w (Aak _) e);cases a
 exact d
theorem UE {l:List Ed}(h:dV w x l)(hl:l.length<=1000000):
 H K 162 #[x.v] w λe w'=> ∃y1 y2 y3,e=G (Z y1 y2 y3)/\dV w' (y1,y2,y3) (l.map Dp)/\aL w w':=by
 obtain⟨xo,xn,xc⟩:=x;obtain⟨c,h1,h2,h3,P,h5⟩:=h;simp only at h1 h2 h3;have Iw:c.length<=1000000:=by omega
 have HE:Hid (∀W,aL w W->gP W (c.map Fq) (l.map Dp)):=λW hW=>⟨by simp[P],λi r e a b=>by
  rw[AaU]at a b;obtain⟨r0,Ld,rfl⟩:=AbP.1 a;obtain⟨e0,zD,rfl⟩:=AbP.1 b;have:=(h5 i r0 e0 Ld zD).aN hW;exact⟨this.1,this.2.2,this.2.1⟩⟩
 subst h2
 have HR:Hid (∀(k:Nat) (r:gJ),c[k]?=M r->∃b off,xo=M ⟨b,off,O⟩/\w.cell? ⟨b,off+k*3,O⟩=M (I V r.1)/\w.cell? ⟨b,off+k*3+1,O⟩=M r.2.1.v/\w.cell? ⟨b,off+k*3+2,O⟩=M r.2.2.v):=λk r n=>by
  rcases h1.1 with Q|⟨b,off,Q,hc⟩
  ·rw[Q]at n;simp at n
  ·obtain⟨L,e2,e3⟩:=Nb n;exact⟨b,off,Q,hc _ _ L,hc _ _ e2,hc _ _ e3⟩
 have HT:Hid (∀W (p:Int) (x y:bT),H K 208 #[.agg #[I V p,x.v,y.v]] W λv w'=>v=G (.agg #[I V p,y.v,x.v])/\aL W w'):=λW p x y=>Pj;simp only[bT.v];clear h1 h3 P h5;obtain⟨i0,hi,nG,mZ,nH⟩:=AaO Tryz.infoEdD;go_enter func162,ntmps162;go_upto_region 2 with(at_make;refine AdB _ rfl _ _ 163 rfl w.heap.size 248 i0 _ 3 underlying163 hi nG mZ _ _ _ c.length rfl rfl (by omega) (by rw[nH];omega) (by unfold maxLen;omega) (Aak _) ?_;intro w0 xY z);have YB:Hid (aL w w0):=⟨z.os,z.tape,z.output,z.size,λk hk=>z.block k hk (by simp)⟩;have S:Hid (wE w0 w.heap.size (Z (M ⟨w.heap.size,0,O⟩) 0 c.length) []):=xY;clear xY z;go_wp2_with fail
 go_loopw [3,5,11] (λv _ i wr=> ∃k:Nat,k<=c.length/\i=I V (k:Int)/\Hid (wE wr w.heap.size v ((c.take k).map Fq))/\Hid (aL w wr)) (λ_ _ i _=>c.length-(intOf i).toNat)
 case atStart=>exact⟨0,Aao _,rfl,by simpa using S,YB⟩
 case round=>
  obtain⟨k,hk,rfl,B,g⟩:=hrel;by_cases bQ:k<c.length
  ·obtain⟨r,n⟩:∃r,c[k]?=M r:=⟨_,Aaf bQ⟩;obtain⟨b,off,rfl,d1,X,d3⟩:=HR.out k r n;have d1:=g.out.cell d1;have X:=g.out.cell X;have d3:=g.out.cell d3;have i1:(0:Int)<=(k:Int):=(by omega);have i2:(k:Int)<(c.length:Int):=by omega
   have HN:Hid ((c.take (k+1)).map Fq=(c.take k).map Fq++ [Fq r]):=by
    show _=_;obtain⟨Lc,R⟩:=Aae.1 n;rw[Aau Lc,AaR,R];rfl
   obtain⟨E,J,N,-⟩:=wE.form B.out;rw[show((c.take k).map Fq).length=k from by simp;omega]at N;subst N;have Qm:((c.take k).map Fq).length<=1000000:=(by simp;omega);obtain⟨j,⟨u,o,t⟩,⟨y1,y2,y3⟩⟩:=r;simp only[bT.v]at X d3;have A:=HT.out (wr.alloc (C #[I V j,Z u o t,Z y1 y2 y3] 248)) j (u,o,t) (y1,y2,y3);simp only[bT.v]at A
   have HK:Hid (∀d,aL (wr.alloc (C #[I V j,Z u o t,Z y1 y2 y3] 248)) d->wE (d.alloc (C #[I V j,Z y1 y2 y3,Z u o t] 248)) w.heap.size (Z E k J) ((c.take k).map Fq)/\aL w d/\wE d w.heap.size (Z E k J) ((c.take k).map Fq)):=λd P=>by
    have hg:=((aL.refl wr).alloc _).then P;have D:wE d w.heap.size (Z E k J) ((c.take k).map Fq):=bE B.out (Fr.bK hg (λ_=>False)) (λ_ _ _ _ h=>h);exact⟨Aax D _,g.out.then hg,D⟩
   clear n B HT;go_upto_region 5 with fail;obtain⟨q0,q1,q2,-⟩:=iY (Aag wr (C #[I V j,Z u o t,Z y1 y2 y3] 248));generalize (wr.alloc _)=wq at*
   go_wp2_with (first
    |(go_at_call 208;refine A.mono ?_;rintro e d ⟨rfl,oD⟩;obtain⟨k1,k2,k3⟩:=HK.out d oD;have a0:=k2.le)
    |(at_builtin;go_must (refine zN (by rfl) (.tmp 15) (.tmp 18) (by rfl) w.heap.size _ ((c.take k).map Fq) [(j,(y1,y2,y3),(u,o,t))] (by rfl) (by exact k1) _ _ _ (by rfl) (by rfl) (by intro e;cases e) (by exact CG d (j,(y1,y2,y3),(u,o,t))) (by simp only[Abj];omega) (by simp;omega) ?_);intro v5 w5 dG eY))
   have rG:=MR k2 (Aak _) k3 eY;go_roundw
   case rel=>exact⟨k+1,by omega,by go_num,by show wE _ _ _ _;rw[HN.out];exact dG,rG⟩
   case measure=>simp[intOf];omega
  ·obtain⟨E,J,N,-⟩:=wE.form B.out;subst N;have L:c.take k=c:=Aaq (by omega);go_wp2_with fail;go_ret;have D:=B.out;rw[L]at D;obtain⟨z1,z2,z3,R,hE⟩:=dV.jR D (HE.out _ g.out);cases R
   first|exact⟨_,_,_,rfl,hE,g.out⟩|(rw[L];exact⟨_,_,_,rfl,hE,g.out⟩)
end Go.Proofs.YtfplgfodoiiobabGreatDoor
