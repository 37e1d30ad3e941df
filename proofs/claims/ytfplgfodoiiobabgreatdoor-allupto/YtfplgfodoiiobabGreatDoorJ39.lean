/- a part of the proof. -/
import Derived.Test.YtfplgfodoiiobabGreatDoorJ33
open Option renaming none->O,some->M
open Go.Value renaming int->I,slice->Z,pointer->U
open Go.IntKind renaming i64->V
open Go.Obj renaming cells->C
open Go.Ending renaming returned->G
open Go renaming World->F,Value->Y,Calls->H
open Go.Proofs.Tryz renaming prog→K
open Go.Proofs.Tryz
namespace Go.Proofs.YtfplgfodoiiobabGreatDoor
set_option maxHeartbeats 2000000
set_option maxRecDepth 100000
open Go.RowKit
variable {w:F}{m:dI}{dp tb depth xb:Nat}{q a b c most:Int}{s:Sc}{fs:List bD}{f:bT}
theorem sync_ref (h:bO w xb s fs m f)(hl:fs.length<=80000)(hc:iX s)(hI:gH s.room fs):
 H K 67 #[U (M ⟨xb,0,O⟩)] w λe w'=>e=G (I V (mY (s,fs,m)).2)/\After w w' xb (mY (s,fs,m)).1.1 (mY (s,fs,m)).1.2.1 m f:=by
 have L:Hid _:=h;have d:=Hg (n:=1) h hl hc hI;obtain⟨r,N,hf,S⟩:=h;obtain⟨k,u,-⟩:=gD N;clear N hf S;by_cases g:s.aX=false
 ·have c:Hid (mY (s,fs,m)=((s,fs,m),3)):=by show _=_;unfold mY;rw[Aad g]
  rw[g]at k;clear d;go_enter func67,ntmps67
  go_wp2
  go_ret;rw[c.out];exact⟨rfl,f,L.out,kX.refl _ _ _⟩
 ·by_cases i:s.ro=true
  ·have c:Hid (mY (s,fs,m)=((s,fs,m),4)):=(by show _=_;unfold mY;rw[Aaa g,Aad i]);have y:s.aX=true:=(by simpa using g);rw[y]at k;rw[i]at u;clear d;go_enter func67,ntmps67
   go_wp2
   go_ret;rw[c.out];exact⟨rfl,f,L.out,kX.refl _ _ _⟩
  ·have y:s.aX=true:=(by simpa using g);have E:s.ro=false:=(by simpa using i);rcases qZ hc hI 1 with⟨a,o,e,x,z,a0,-⟩|⟨a,o,e,x⟩
   ·rw[e]at d;simp only at d;have a1:=x.2.2.2.oM;have R:=x.2.2.2.rW;have c:Hid (mY (s,fs,m)=(((cO a o (10+a.aY)).2.1,(cO a o (10+a.aY)).2.2,m),if (cO a o (10+a.aY)).1 then 0 else 10)):=(by show _=_;unfold mY;rw[Aaa g,Aaa i];simp only;rw[e];simp only[AbN,if_false]);rw[y]at k;rw[E]at u;clear e g i;go_enter func67,ntmps67;go_wp2_with fail;refine d.mono ?_;rintro e Q ⟨rfl,f1,D,J⟩;clear d k u;have j:=Hg (n:=10+a.aY) D (by omega) x.2.2.2 (z.room x.1.2.2.1);obtain⟨r1,pJ,-,-⟩:=D;obtain⟨-,-,X,-⟩:=gD pJ;clear pJ;have P:Hid _:=J;clear J;cases t:(cO a o (10+a.aY)).1 with
    |true=>
     rw[t]at j c;have HB:Hid _:=t;clear t;go_wp2_with fail;refine j.mono ?_;rintro e W ⟨rfl,A⟩;clear j
     go_wp2
     go_ret;rw[c.out];exact⟨rfl,After.trans P.out A⟩
    |false=>
     rw[t]at j c;have HB:Hid _:=t;clear t;go_wp2_with fail;refine j.mono ?_;rintro e W ⟨rfl,A⟩;clear j
     go_wp2
     go_ret;rw[c.out];exact⟨rfl,After.trans P.out A⟩
   ·rw[e]at d;simp only at d;have c:Hid (mY (s,fs,m)=((a,o,m),10)):=(by show _=_;unfold mY;rw[Aaa g,Aaa i];simp only;rw[e];simp only[if_true]);rw[y]at k;rw[E]at u;clear e g i;go_enter func67,ntmps67;go_wp2_with fail;refine d.mono ?_;rintro e Q ⟨rfl,B⟩;clear d k u
    go_wp2
    go_ret;rw[c.out];exact⟨rfl,B⟩
theorem act_shut {kind pos n:Int}{text:ByteArray}(h:bO w xb s fs m f)(hs:s.aX=false\/s.ro=true):
 H K 56 #[U (M ⟨xb,0,O⟩),I V kind,I V pos,I V n,.string text] w λe w'=>e=G (I V (jH (s,fs,m) kind pos n text).2)/\After w w' xb (jH (s,fs,m) kind pos n text).1.1 (jH (s,fs,m) kind pos n text).1.2.1 (jH (s,fs,m) kind pos n text).1.2.2 f:=by
 have i:Hid _:=h;obtain⟨r,g,u,o⟩:=h;obtain⟨j,k,-⟩:=gD g;clear g u o;by_cases a:s.aX=false
 ·have c:Hid (jH (s,fs,m) kind pos n text=((s,fs,m),3)):=by show _=_;unfold jH;rw[Aad a]
  rw[a]at j;clear hs;go_enter func56,ntmps56
  go_wp2
  go_ret;rw[c.out];exact⟨rfl,f,i.out,kX.refl _ _ _⟩
 ·have d:=hs.resolve_left a;have c:Hid (jH (s,fs,m) kind pos n text=((s,fs,m),4)):=by show _=_;unfold jH;rw[Aaa a,Aad d]
  have t:s.aX=true:=by simpa using a
  rw[t]at j;rw[d]at k;clear hs;go_enter func56,ntmps56
  go_wp2
  go_ret;rw[c.out];exact⟨rfl,f,i.out,kX.refl _ _ _⟩
theorem Po (h:aW w dp tb depth m)(hg:eX m depth)(fQ:b<=9223372036854775807):
 H K 177 #[U (M ⟨dp,0,O⟩),iN q a b c,I V most] w λe w'=>e=G (I V (FC m a b c))/\aL w w':=by
 have hz:=hg.long;have o:=rY hg.IY;have g:Hid (FC m a b c=if b<1\/sK m.1 a b=false then 5 else if c≠0 then 1 else if 4096<(bN m.1 a b).1.length then 13 else 0):=rfl;by_cases S:b<1
 ·rw[Aad (Aac S)]at g;generalize FC m a b c=R at*;unfold iN;clear h hg hz o;go_enter func177,ntmps177;go_upto_region 1 with fail;go_quiet (fail);have d:Hid (aL w ((w.alloc (C #[I .u8 q,I V a,I V b,I V c] 128)).drewN nq)):=bC (aL.alloc (aL.refl w) _) _
  go_wp2
  go_ret;rw[g.out];exact⟨rfl,d.out⟩
 ·have j:Hid (∀W,aL w W->H K 94 #[U (M ⟨dp,0,O⟩),I V a,I V b] W λe w'=>e=G (.bool (sK m.1 a b))/\w'=W):=λW u=>Tt (h.aN u) (by omega) fQ (by omega) o;have L:Hid (∀W,aL w W->H K 217 #[iN q a b c] W λe w'=> ∃i:Nat,e=G (.agg #[I V a,Z (M ⟨i,0,O⟩) 1 1,Z O 0 0])/\bJ w' (M ⟨i,0,O⟩,1,1) [(0,b)]/\aL W w'):=λW u=>Ri
  have n:Hid (sK m.1 a b=true->(∀W (i:Nat),aL w W->bJ W (M ⟨i,0,O⟩,1,1) [(0,b)]->H K 214 #[U (M ⟨dp,0,O⟩),.agg #[I V a,Z (M ⟨i,0,O⟩) 1 1,Z O 0 0]] W λe w'=>e=G (.bool (decide ((bN m.1 a b).1.length<=4096)))/\aL W w')):=λE W i u Q=>by
   unfold sK at E;simp only[Abh,AbB]at E;have:=Vs (h.aN u) Q (wF W) (λq J=>by simp at J;subst J;unfold nQ;simp only;omega) (by simp) (by simp) E.1 (by simp[sz];omega) (by omega);simpa[bS,sz,bT.v]using this
  clear h hg;unfold iN at*;generalize sz m.1=z at*;generalize (bN m.1 a b).1.length=N at*;generalize FC m a b c=R at*;cases A:sK m.1 a b with
  |false=>
   rw[A]at j g;rw[Aad (Aab rfl)]at g;clear n;go_enter func177,ntmps177;go_upto_region 1 with fail;go_quiet (fail);have d:Hid (aL w ((w.alloc (C #[I .u8 q,I V a,I V b,I V c] 128)).drewN nq)):=bC (aL.alloc (aL.refl w) _) _;go_wp2_with (first|(go_at_call 94;refine(j.out _ d.out).mono ?_;rintro e B ⟨rfl,rfl⟩));go_ret;rw[g.out];exact⟨rfl,d.out⟩
  |true=>
   rw[A]at j g;have r:Hid _:=n.out A;rw[Aaa (by simp;omega)]at g;by_cases t:c=0
   ·rw[Aaa (by simpa using t)]at g;subst t;by_cases P:4096<N
    ·rw[Aad P]at g;rw[AaM (by omega)]at r;go_enter func177,ntmps177;go_upto_region 1 with fail;go_quiet (fail);have d:Hid (aL w ((w.alloc (C #[I .u8 q,I V a,I V b,I V 0] 128)).drewN nq)):=bC (aL.alloc (aL.refl w) _) _;go_wp2_with (first|(go_at_call 94;refine(j.out _ d.out).mono ?_;rintro e B ⟨rfl,rfl⟩)|(go_at_call 217;refine(L.out _ d.out).mono ?_;rintro e x ⟨i,rfl,y,k⟩)|(go_at_call 214;refine(r.out x i (d.out.then k) y).mono ?_;rintro e X ⟨rfl,D⟩));go_ret;rw[g.out];exact⟨rfl,(d.out.then k).then D⟩
    ·rw[Aaa P]at g;rw[AaJ (by omega)]at r;go_enter func177,ntmps177;go_upto_region 1 with fail;go_quiet (fail);have d:Hid (aL w ((w.alloc (C #[I .u8 q,I V a,I V b,I V 0] 128)).drewN nq)):=bC (aL.alloc (aL.refl w) _) _;go_wp2_with (first|(go_at_call 94;refine(j.out _ d.out).mono ?_;rintro e B ⟨rfl,rfl⟩)|(go_at_call 217;refine(L.out _ d.out).mono ?_;rintro e x ⟨i,rfl,y,k⟩)|(go_at_call 214;refine(r.out x i (d.out.then k) y).mono ?_;rintro e X ⟨rfl,D⟩));go_ret;rw[g.out];exact⟨rfl,(d.out.then k).then D⟩
   ·rw[Aad t]at g;have a0:=Aat.2 t;go_enter func177,ntmps177;go_upto_region 1 with fail;go_quiet (fail);have d:Hid (aL w ((w.alloc (C #[I .u8 q,I V a,I V b,I V c] 128)).drewN nq)):=bC (aL.alloc (aL.refl w) _) _;go_wp2_with (first|(go_at_call 94;refine(j.out _ d.out).mono ?_;rintro e B ⟨rfl,rfl⟩));go_ret;rw[g.out];exact⟨rfl,d.out⟩
theorem Kn (h:aW w dp tb depth m)(hz:sz m.1<=5000)(zJ:∀e rest,m.2.2.1=e::rest->Dl (sz m.1) e.1 e.2.1 e.2.2):
 H K 181 #[U (M ⟨dp,0,O⟩),iN q a b c,I V most] w λe w'=>e=G (I V (Yx m a b c))/\aL w w':=by
 have N:Hid (∀W (x y:bT) (e:Ed),aL w W->bJ W x e.2.1->bJ W y e.2.2->Dl (sz m.1) e.1 e.2.1 e.2.2->H K 218 #[U (M ⟨dp,0,O⟩),iN q a b c,.agg #[I V e.1,x.v,y.v]] W λr w'=>r=G (I V (Dy m a b c e))/\aL W w'):=λW x y e t hx hy A=>Vt (h.aN t) hx hy A hz;obtain⟨r,u,hb,ht,hr,z⟩:=h;obtain⟨-,-,-,-,B,-⟩:=cZ hb;have g:Hid (aL w (w.alloc (C #[I .u8 q,I V a,I V b,I V c] 128))):=(aL.refl w).alloc _;obtain⟨d,j,kC,k,bf⟩:=m;obtain⟨u1,u2,u3⟩:=u;simp only at*;clear hb ht hr;cases kC with
 |nil=>
  have L:u2=0:=z.len;subst L;have P:Hid (Yx (d,j,[],k,bf) a b c=8):=rfl;unfold iN;clear z N zJ;simp only[bT.v]at B;have J:=g.out.cell B;generalize Yx (d,j,[],k,bf) a b c=R at*;go_enter func181,ntmps181;go_wp2_with fail;go_ret;rw[P.out];exact⟨rfl,g.out⟩
 |cons e rest=>
  obtain⟨eb,gG,n,rfl,L,iW,S,Q,X,D⟩:=z.head;have A:=zJ e rest rfl;have P:Hid (Yx (d,j,e::rest,k,bf) a b c=Dy (d,j,e::rest,k,bf) a b c e):=rfl
  have HC:Hid (∀W,aL w W->H K 218 #[U (M ⟨dp,0,O⟩),iN q a b c,.agg #[I V n.1,n.2.1.v,n.2.2.v]] W λr w'=>r=G (I V (Dy (d,j,e::rest,k,bf) a b c e))/\aL W w'):=λW t=>by
   rw[D.1];exact N.out W n.2.1 n.2.2 e t (D.2.1.aN t) (D.2.2.aN t) A
  clear N z D A zJ;generalize Yx (d,j,e::rest,k,bf) a b c=R at*;generalize Dy (d,j,e::rest,k,bf) a b c e=R' at*;obtain⟨ep,⟨xo,xn,xc⟩,⟨yo,yn,yc⟩⟩:=n;subst L;unfold iN at*;simp only[bT.v]at*;have j3:(((rest.length+1:Nat):Int)==0)=false:=by rw[Aat];omega
  have j1:(0:Int)<((rest.length+1:Nat):Int):=by omega
  obtain⟨i,E⟩:∃i,i=w.alloc (C #[I .u8 q,I V a,I V b,I V c] 128):=⟨_,rfl⟩;have o:i.heap[w.heap.size]?=M (C #[I .u8 q,I V a,I V b,I V c] 128 (0,0)):=by rw[E];exact Aag w _
  have k0:i.cell? ⟨w.heap.size,0,O⟩=M (I .u8 q):=by simp[World.cell?,o]
  have k1:i.cell? ⟨w.heap.size,1,O⟩=M (I V a):=by simp[World.cell?,o]
  have k2:i.cell? ⟨w.heap.size,2,O⟩=M (I V b):=by simp[World.cell?,o]
  have k3:i.cell? ⟨w.heap.size,3,O⟩=M (I V c):=by simp[World.cell?,o]
  rw[<-E]at g;have J:=g.out.cell B;have Us:=g.out.cell S;have sP:=g.out.cell Q;have Es:=g.out.cell X;clear o B S Q X;go_enter func181,ntmps181;go_upto_region 1 with fail;rw[<-E];clear E;go_upto_region 3 with fail
  go_region_law (first|(refine dD (by rfl) 218 _ _ (by rfl) _ (by simp[Act.eval];done) CB ((HC.out _ (by repeat (first|exact g.out|refine aL.drew ?_))).mono ?_);rintro e w8 ⟨rfl,Yd⟩;refine⟨_,rfl,?_⟩))
  all_goals go_wp2_with fail
  all_goals go_ret
  all_goals rw[P.out]
  all_goals exact⟨rfl,(by refine aL.then ?_ Yd;repeat (first|exact g.out|refine aL.drew ?_))⟩
theorem dodel_pg (h:aW w dp tb depth m)(hg:eX m depth)(hd:depth<=100)(h0:0<=a)(hb:1<=b)(h1:a+b<=sz m.1)(hr:(bN m.1 a b).1.length<=4096):
 H K 178 #[U (M ⟨dp,0,O⟩),iN q a b c] w λe w'=>e=G (.tuple #[])/\aW w' dp tb depth ((bN m.1 a b).1,((a,(bN m.1 a b).2,[])::m.2.1).take depth,[],m.2.2.2.1,m.2.2.2.2)/\Dk w w' (TX dp tb) (TX dp tb):=by
 have hz:=hg.long;have Ju:=hg.Ym;have kD:fC [(0,b)]:=λq n=>by simp at n;subst n;unfold nQ;simp only;omega
 have bQ:=h.lt;have HI:Hid (∀W,aL w W->H K 217 #[iN q a b c] W λe w'=> ∃d:Nat,e=G (.agg #[I V a,Z (M ⟨d,0,O⟩) 1 1,Z O 0 0])/\bJ w' (M ⟨d,0,O⟩,1,1) [(0,b)]/\aL W w'):=λW t=>Ri
 have HA:Hid (∀W (d:Nat) (o:Obj),aL w W->bJ W (M ⟨d,0,O⟩,1,1) [(0,b)]->H K 153 #[U (M ⟨dp,0,O⟩),.agg #[I V a,Z (M ⟨d,0,O⟩) 1 1,Z O 0 0]] (W.alloc o) λe w'=> ∃g1 g2 g3,e=G (Z g1 g2 g3)/\aW w' dp tb depth ((bN m.1 a b).1,m.2)/\bJ w' (g1,g2,g3) (bN m.1 a b).2/\Dk w w' (TX dp tb) (TX dp tb)/\w'.heap[W.heap.size]?=M o/\w.heap.size<=W.heap.size/\(w'.cell? ⟨dp,3,O⟩=w.cell? ⟨dp,3,O⟩/\w'.cell? ⟨dp,4,O⟩=w.cell? ⟨dp,4,O⟩)):=λW d o t J=>by
  have B:=(aL.refl W).alloc o;have L:=h.aN (t.then B);have:=Ao L (J.aN B) (wF (W.alloc o)) kD (by simp) (λq n=>by simp at n) (λq n=>by simp at n) (by simp) h0 (by simp[sz];omega) (by omega) (by simpa[bS,sz]using hr);refine this.mono ?_;rintro e w' ⟨⟨g1,g2,g3⟩,rfl,hL,a1,D,a2,R⟩;have z:∀i,(W.alloc o).cell? ⟨dp,i,O⟩=w.cell? ⟨dp,i,O⟩:=λi=>AaN ((t.then B).block _ h.lt.1);refine⟨g1,g2,g3,rfl,by simpa[bS,sz]using a1,by simpa[sz]using hL,(Dk.bZ (t.then B)).trans D,?_,t.le,a2.trans (z 3),R.trans (z 4)⟩;have:=h.lt;have h2:=t.le;exact D.1.at (Aag W o) (by rintro(e|e)<;>omega)
 have HR:Hid (∀W (j:Nat) (o:Array Y) (g1:Option Addr) (g2 g3:Nat),w.heap.size<=j->W.heap[j]?=M (C o 248 (0,0))->aW W dp tb depth ((bN m.1 a b).1,m.2)->bJ W (g1,g2,g3) (bN m.1 a b).2->Dk w W (TX dp tb) (TX dp tb)->(W.cell? ⟨dp,3,O⟩=w.cell? ⟨dp,3,O⟩/\W.cell? ⟨dp,4,O⟩=w.cell? ⟨dp,4,O⟩)->H K 216 #[U (M ⟨dp,0,O⟩),.agg #[I V a,Z g1 g2 g3,Z O 0 0]] (W.setCell ⟨j,1,O⟩ (Z g1 g2 g3)) λe w'=>e=G (.tuple #[])/\aW w' dp tb depth ((bN m.1 a b).1,((a,(bN m.1 a b).2,[])::m.2.1).take depth,[],m.2.2.2.1,m.2.2.2.2)/\Dk w w' (TX dp tb) (TX dp tb)):=λW j o g1 g2 g3 a5 x L J D fw=>by
  obtain⟨u,r,hb,ht,hu,hr⟩:=L;obtain⟨u0,r0,Cr,a6,S,Ld⟩:=h;obtain⟨-,-,-,d3,d4,-⟩:=cZ hb;obtain⟨-,-,-,c3,c4,-⟩:=cZ Cr;have eu:=bT.v_inj (d3.symm.trans (fw.1.trans c3));have er:=bT.v_inj (d4.symm.trans (fw.2.trans c4));have k:=Fr.set W ⟨j,1,O⟩ (Z g1 g2 g3);obtain⟨tc,X⟩:=ht.ty
  have a3:aW (W.setCell ⟨j,1,O⟩ (Z g1 g2 g3)) dp tb depth ((bN m.1 a b).1,m.2):=by
   refine⟨u,r,k.at hb (aZ hb x (by decide)),ht.fr k (aZ X x (by decide)) (λb la ra p h l g=>aZ g x (by decide)),hu.yB k (λb aR g=>aZ g x (by decide)) (λa e=>?_),hr.yB k (λb aR g=>aZ g x (by decide)) (λa e=>?_)⟩
   ·have:=S.lt (eu ▸ e);simp only;omega
   ·have:=Ld.lt (er ▸ e);simp only;omega
  have FD:=J.fr k (λb aR g=>aZ g x (by decide));have:=Rj (e:=(a,(bN m.1 a b).2,[])) a3 ⟨rfl,FD,wF _⟩ (by simp only;omega) (by omega);refine this.mono ?_;rintro e w' ⟨rfl,h1,h2⟩
  have E:Dk w (W.setCell ⟨j,1,O⟩ (Z g1 g2 g3)) (TX dp tb) (TX dp tb):=by
   obtain⟨⟨s1,s2⟩,Yj,g⟩:=D;refine⟨⟨Aal s1 k.1,λb hb hx=>?_⟩,Yj,λb hb=>Aac hb⟩;rw[k.2 b (AaE hb s1) (by simp only;omega),s2 b hb hx]
  exact⟨rfl,h1,E.trans h2⟩
 unfold iN at*;clear h hg kD;go_enter func178,ntmps178;go_wp2_with (first|(go_at_call 217;refine(HI.out _ ((aL.refl w).alloc _)).mono ?_;rintro e w2 ⟨d,rfl,P,jX⟩)|(go_at_call 153;refine(HA.out w2 d _ (((aL.refl w).alloc _).then jX) P).mono ?_;rintro e w4 ⟨g1,g2,g3,rfl,JA,a4,Q,Dn,A,y⟩;obtain⟨k0,k1,k2,kf⟩:=iY Dn;have a7:=kf 1)|(go_at_call 216;refine(HR.out w4 w2.heap.size _ g1 g2 g3 A Dn JA a4 Q y).mono ?_;rintro e w8 ⟨rfl,N,a0⟩));go_end0;exact⟨rfl,N,a0⟩
theorem state_pg (h:aW w dp tb depth m):
 H K 115 #[U (M ⟨dp,0,O⟩)] w λe w'=> ∃v,e=G v/\StIs w' v m/\aL w w':=by
 obtain⟨⟨u1,u2,u3⟩,⟨k,n,o⟩,N,Q,z,B⟩:=h;have HC:Hid (∀W,aL w W->H K 12 #[U (M ⟨tb,0,O⟩)] W λe w'=> ∃g1 g2 g3,e=G (Z g1 g2 g3)/\bJ w' (g1,g2,g3) m.1/\aL W w'):=λW g=>UD (Q.below g);have HE:Hid (∀W g1 g2 g3,aL w W->bJ W (g1,g2,g3) m.1->StIs W (MN m.2.2.2.1 m.2.2.2.2 (g1,g2,g3) (u1,u2,u3) (k,n,o)) m):=λW g1 g2 g3 g P=>⟨_,_,_,rfl,P,z.aN g,B.aN g⟩;obtain⟨i,y⟩:∃i,i=w.alloc (C #[I V 0,I V 0,Z O 0 0,Z O 0 0,Z O 0 0] 193):=⟨_,rfl⟩;have r:i.heap[w.heap.size]?=M (C #[I V 0,I V 0,Z O 0 0,Z O 0 0,Z O 0 0] 193 (0,0)):=by rw[y];exact Aag w _
 have G1:Hid (aL w i):=by show aL _ _;rw[y];exact(aL.refl w).alloc _
 have HS:Hid (∀W,aL w W->W.cell? ⟨dp,1,O⟩=M (U (M ⟨tb,0,O⟩))/\W.cell? ⟨dp,3,O⟩=M (Z u1 u2 u3)/\W.cell? ⟨dp,4,O⟩=M (Z k n o)/\W.cell? ⟨dp,5,O⟩=M (I V m.2.2.2.1)/\W.cell? ⟨dp,6,O⟩=M (I V m.2.2.2.2)/\aL w W):=λW g=>by
  have qX:=(g.block _ (aM N)).trans N;obtain⟨d0,d1,d2,d3,X,d5,d6,-⟩:=cZ qX;exact⟨d1,d3,X,d5,d6,g⟩
 have HN:Hid (∀W,aL i W->(W.cell? ⟨w.heap.size,0,O⟩=M (I V 0)/\W.cell? ⟨w.heap.size,1,O⟩=M (I V 0)/\W.cell? ⟨w.heap.size,2,O⟩=M (Z O 0 0)/\W.cell? ⟨w.heap.size,3,O⟩=M (Z O 0 0)/\W.cell? ⟨w.heap.size,4,O⟩=M (Z O 0 0))/\(∀j,W.frozen? ⟨w.heap.size,j,O⟩=false)):=λW g=>by
  have t:=(g.block _ (aM r)).trans r;exact⟨by simp[World.cell?,t],λj=>by simp[World.frozen?,t]⟩
 have J:Hid (∀W g1 g2 g3 a b c d e,aL w W->bJ W (g1,g2,g3) m.1->aL w (((((W.setCell ⟨w.heap.size,0,O⟩ a).setCell ⟨w.heap.size,1,O⟩ b).setCell ⟨w.heap.size,2,O⟩ c).setCell ⟨w.heap.size,3,O⟩ d).setCell ⟨w.heap.size,4,O⟩ e)/\(W.heap[w.heap.size]?=M (C #[I V 0,I V 0,Z O 0 0,Z O 0 0,Z O 0 0] 193 (0,0))->StIs (((((W.setCell ⟨w.heap.size,0,O⟩ a).setCell ⟨w.heap.size,1,O⟩ b).setCell ⟨w.heap.size,2,O⟩ c).setCell ⟨w.heap.size,3,O⟩ d).setCell ⟨w.heap.size,4,O⟩ e) (MN m.2.2.2.1 m.2.2.2.2 (g1,g2,g3) (u1,u2,u3) (k,n,o)) m)):=λW g1 g2 g3 a b c d e g P=>by
  have E:=dK g (Aak _) a b c d e;refine⟨E,λho=>⟨_,_,_,rfl,?_,z.aN E,B.aN E⟩⟩
  have hF:Fr W (((((W.setCell ⟨w.heap.size,0,O⟩ a).setCell ⟨w.heap.size,1,O⟩ b).setCell ⟨w.heap.size,2,O⟩ c).setCell ⟨w.heap.size,3,O⟩ d).setCell ⟨w.heap.size,4,O⟩ e) (λb=>b=w.heap.size):=
   ((((Fr.set W ⟨w.heap.size,0,O⟩ a).trans (Fr.set _ ⟨w.heap.size,1,O⟩ b)).trans (Fr.set _ ⟨w.heap.size,2,O⟩ c)).trans (Fr.set _ ⟨w.heap.size,3,O⟩ d)).trans (Fr.set _ ⟨w.heap.size,4,O⟩ e)
  exact P.fr hF (λb aR e he=>by subst he;exact bF e ho (dQ (by decide)))
 have HO:Hid (∀W,aL i W->W.heap[w.heap.size]?=M (C #[I V 0,I V 0,Z O 0 0,Z O 0 0,Z O 0 0] 193 (0,0))):=λW g=>(g.block _ (aM r)).trans r;unfold MN at J;simp only[bT.v]at J;clear N Q z B r HE;go_enter func115,ntmps115;go_upto_region 1 with fail;rw[<-y];clear y;have ga:=G1.out;generalize m.2.2.2.1=D at*;generalize m.2.2.2.2=bf at*
 go_region_held3 (λw'=>w'.cell? ⟨dp,1,O⟩=M (U (M ⟨tb,0,O⟩))/\w'.cell? ⟨dp,3,O⟩=M (Z u1 u2 u3)/\w'.cell? ⟨dp,4,O⟩=M (Z k n o)/\w'.cell? ⟨dp,5,O⟩=M (I V D)/\w'.cell? ⟨dp,6,O⟩=M (I V bf)/\aL w w')
  (first|(refine HS.out _ ?_;go_split_ands;with_reducible (first|assumption|exact dK x (Aak _) _ _ _ _ _|exact aL.drew x|exact aL.drew (dK x (Aak _) _ _ _ _ _)|(refine aL.drew ?_;assumption))))
  (first|(go_at_call 12;refine(HC.out _ (by go_split_ands;assumption)).mono ?_;rintro e u ⟨g1,g2,g3,rfl,A,L⟩;have x:aL w u:=aL.more (by go_split_ands;assumption) L;have R:aL i u:=(by with_reducible (first|exact L|exact aL.then (aL.drew (aL.refl _)) L));obtain⟨⟨y0,y1,y2,y3,y4⟩,yf⟩:=HN.out u R))
 all_goals obtain⟨q1,q2⟩:=J.out u g1 g2 g3 (I V D) (I V bf) (Z g1 g2 g3) (Z u1 u2 u3) (Z k n o) x A
 all_goals have S:=q2 (HO.out u R)
 all_goals go_wp2_with fail
 all_goals refine Aap (v:= .agg #[I V D,I V bf,Z g1 g2 g3,Z u1 u2 u3,Z k n o]) (by simp[results,results115,go_sem, *]) rfl ?_
 all_goals exact⟨_,rfl,S,q1⟩
end Go.Proofs.YtfplgfodoiiobabGreatDoor
