/- a part of the proof. -/
import Derived.Test.YtfplgfodoiiobabGreatDoorJ01
import Derived.Test.YtfplgfodoiiobabGreatDoorJ02
import Derived.Test.YtfplgfodoiiobabGreatDoorJ04
open Option renaming none->O,some->M
open Go.Value renaming int->I,slice->Z,pointer->U
open Go.IntKind renaming i64->V
open Go.Obj renaming cells->C
open Go.Ending renaming returned->G
open Go renaming World->F,Value->Y,Calls->H
open Go.Proofs.Tryz renaming prog→K
open Go.Proofs.Tryz
namespace Go.Proofs.YtfplgfodoiiobabGreatDoor
set_option maxHeartbeats 4000000
set_option maxRecDepth 100000
open Go.RowKit
variable {w w' w1 w0 w6 w2:F}{s:Sc}{xb g B i k db tb cap la ca most vb dp N:Nat}{f x f1 f2 fx:bT}{r:fU}{X aF:Nat->Prop}{l:List (Int×Int)}{v p q t fv v1 v2 v3 v4:Y}{ao:Option Addr}{rs:List FR}{fs:List bD}{n one rest room size:Int}{m:dI}{S:ByteArray}{e:Ed}{o:Obj}{a1 a2 a3 a4:Addr}{raw:List gJ}{r0 rk:Sn}{out:List Ed}
theorem zW (h:fC l):∀ {f:Int} (t:Int),f<=0->fJ l f t=dW l t:=by
 induction l with
 |nil=>intros;rfl
 |cons p l e=>
  intro f t g;have d:=fT h;unfold nQ at d;simp only[fJ,dW];rw[e (dP h) _ (by omega),show max f 0=0 from by omega];by_cases c:t<=0
  ·rw[Aaa (by omega),Aad c,pF _ (by omega)];rfl
  ·rw[Aad (by omega),Aaa c];by_cases a:p.2<=t
   ·rw[Aad a,show min t p.2=p.2 from by omega];simp
   ·rw[Aaa a,pF _ (by omega),show min t p.2=t from by omega];simp
theorem ED (h:fC l):∀ {f:Int} (t:Int),0<=f->fJ l f t=dW (bV l f) (t-f):=by
 induction l with
 |nil=>intros;rfl
 |cons p l i=>
  intro f t j;have g:=fT h;unfold nQ at g;by_cases e:f<=0
  ·have:f=0:=(by omega);subst this;rw[zW h _ (AaT _),zT _ (AaT _),Int.sub_zero]
  ·simp only[fJ,bV];rw[Aaa e];by_cases c:p.2<=f
   ·rw[Aad c,Aaa (by omega),i (dP h) _ (by omega),show t-p.2-(f-p.2)=t-f from by omega];rfl
   ·rw[Aaa c,zW (dP h) _ (by omega)];simp only[dW];rw[show max f 0=f from by omega];by_cases a:t-f<=0
    ·rw[Aad a,Aaa (by omega),pF _ (by omega)];rfl
    ·rw[Aaa a];by_cases d:p.2-f<=t-f
     ·rw[Aad d,Aad (by omega),show min t p.2=p.2 from by omega,show t-f-(p.2-f)=t-p.2 from by omega];rfl
     ·rw[Aaa d,Aad (by omega),show min t p.2=t from by omega,pF _ (by omega)];simp
theorem Oj (h:fC l){f:Int}(h0:0<=f)(h1:f<=sz l):fJ l f (sz l)=bV l f:=by
 rw[ED h _ h0,Gq (lF h f) (by rw[nJ h h0 h1];omega)]
theorem Fr.at (h:Fr w w' X){b:Nat}(e:w.heap[b]?=M o)(hx:¬X b):w'.heap[b]?=M o:=(h.2 b (aM e) hx).trans e
theorem nK.fr (h:nK w ao l)(hF:Fr w w' X)(hx:∀b aR,w.heap[b]?=M (C aR 50 (0,0))->¬X b):nK w' ao l:=by
 obtain⟨g,d⟩:=h;refine⟨g.fr hF (λa e=>?_),λa e=>?_⟩
 ·obtain⟨aR,c⟩:=d a e;exact hx _ _ c
 ·obtain⟨aR,c⟩:=d a e;exact⟨aR,hF.at c (hx _ _ c)⟩
theorem bE {e size n:Nat}{xs:List Y}(h:w.ownsRow B e size v n xs)(hF:Fr w w' X)(hx:∀g aR,v.ownBlock=M g->w.heap[g]?=M (C aR e (0,0))->¬X g):w'.ownsRow B e size v n xs:=by
 obtain⟨j,c⟩:=h;refine⟨j,?_⟩;rcases c with c|⟨g,a,aR,rfl,i,d,k⟩
 ·exact Aac c
 ·exact Aab ⟨g,a,aR,rfl,i,hF.at d (hx g aR rfl d),k⟩
theorem cK.fr (t:cK w tb l)(hF:Fr w w' X)(h1:¬X tb)(h2:∀b la ra p h l,w.heap[b]?=M (nW la ra p h l)->¬X b):cK w' tb l:=
 t.keep λb c e a=>by
  refine hF.2 b (aM e) ?_;rcases a with⟨-,rfl⟩|⟨la,ra,p,h,d,rfl⟩
  ·exact h1
  ·exact h2 _ _ _ _ _ _ e
theorem oH (h0:0<=n)(h1:n<4294967296):
 H K 116 #[I V n] w λe w'=>e=G (.string (strOfNums (iG n)))/\Below w.heap.size w w':=by
 have a:=Adx (P:=K) (w.alloc (C #[I .u8 (n / 16777216),I .u8 (n / 65536 % 256),I .u8 (n / 256 % 256),I .u8 (n % 256)] 5)) 170 5 underlying170 underlying5 w.heap.size 0 4 4 (iG n) rfl (by
  intro i c;rcases(by omega:i=0\/i=1\/i=2\/i=3)with rfl|rfl|rfl|rfl<;>simp[iG]) 9 underlying9
 go_enter func116,ntmps116;go_wp2_with fail;go_ret;exact⟨rfl,aO _ _⟩
theorem aL.more (h:aL w0 w)(hb:Below w.heap.size w w'):aL w0 w':=aQ h hb
theorem aL.alloc (h:aL w0 w)(o:Obj):aL w0 (w.alloc o):=aQ h (aO _ _)
theorem bL.lt {l:List UInt8}(h:bL w B v l):∀k,v.ownBlock=M k->B<=k/\k<w.heap.size:=by
 intro k a;rcases h with⟨rfl,-⟩|⟨i,d,g,mk,rfl,e,c,-⟩
 ·simp[Value.ownBlock]at a
 ·simp[Value.ownBlock]at a;subst a;exact⟨e,aM c⟩
theorem bL.fr {l:List UInt8}(h:bL w B v l)(hF:Fr w w' X)(hx:∀g,v.ownBlock=M g->¬X g):bL w' B v l:=by
 rcases h with h|⟨g,a,d,mk,rfl,e,i,c⟩
 ·exact Aac h
 ·exact Aab ⟨g,a,d,mk,rfl,e,hF.at i (hx g rfl),c⟩
theorem pX.nil (w:F)(ao:Option Addr):pX w ao []:=Aac rfl
theorem bL.form {l:List UInt8}(h:bL w B v l):
 ∃ao cap,v=Z ao l.length cap/\pX w ao l/\l.length<=cap/\(ao=O->l.length=0/\cap=0)/\(∀a,ao=M a->B<=a.block/\a.block<w.heap.size/\∃aR mk,w.heap[a.block]?=M (C aR 5 mk)):=by
 rcases h with⟨rfl,rfl⟩|⟨g,cap,aR,mk,rfl,k,d,-,n,-,r,j⟩
 ·exact⟨O,0,rfl,Aac rfl,by simp,λ_=>⟨rfl,rfl⟩,(λ_ e=>by cases e)⟩
 ·refine⟨M ⟨g,0,O⟩,cap,rfl,Aab ⟨g,0,rfl,λi x o=>?_⟩,n,(λe=>by cases e),(λa e=>by cases e;exact⟨k,aM d,aR,mk,d⟩)⟩;have c:=WU o;rw[<-j,Aby]at c;rw[Ach,AcT w g i aR 5 mk d];split at c
  ·simpa using c
  ·cases c
theorem bL.aN {l:List UInt8}(h:bL w B v l)(hg:aL w w'):bL w' B v l:=h.fr (Fr.bK hg (λ_=>False)) (λ_ _=>id)
theorem EJ.fr {l:List gJ}(h:EJ w ao l)(hF:Fr w w' X)(hx:∀b aR,w.heap[b]?=M (C aR 231 (0,0))->¬X b):EJ w' ao l:=by
 obtain⟨d,g⟩:=h;refine⟨?_,λa e=>?_⟩
 ·rcases d with d|⟨b,off,e,k⟩
  ·exact Aac d
  ·refine Aab ⟨b,off,e,λj u i=>?_⟩;obtain⟨aR,c⟩:=g _ e;have n:=hF.2 b (aM c) (hx _ _ c);exact(AaN n).trans (k j u i)
 ·obtain⟨aR,c⟩:=g a e;exact⟨aR,hF.at c (hx _ _ c)⟩
theorem EJ.aN {l:List gJ}(h:EJ w ao l)(hg:aL w w'):EJ w' ao l:=h.fr (Fr.bK hg (λ_=>False)) (λ_ _ _=>id)
theorem dm {e:gJ}{l:List gJ}(hr:EJ w ao l)(e1:la=l.length)(gV:ao=O->l.length=0/\ca=0)(hlen:l.length<=1000000)(hm:most<=1000000):
 H K 141 #[.agg #[I V e.1,e.2.1.v,e.2.2.v],Z ao la ca,I V (most:Int)] w λr w'=>
  ∃bo cb,r=G (Z bo ((e::l).take most).length cb)/\EJ w' bo ((e::l).take most)/\(bo=O->((e::l).take most).length=0/\cb=0)/\((e::l).take most).length<=cb/\Below w.heap.size w w':=by
 subst e1;obtain⟨a,⟨i,c,d⟩,⟨g,j,h⟩⟩:=e;simp only[bT.v];go_enter func141,ntmps141;have y:=aQ (aO w (C #[I V a,Z i c d,Z g j h] 231)) (aO _ (C #[I V a,Z i c d,Z g j h] 231));have o:=WY (B:=w.heap.size) (w.alloc (C #[I V a,Z i c d,Z g j h] 231)) (by simp) (a,(i,c,d),(g,j,h));simp only[bT.v,AaD]at o;go_upto_region 3 with(at_builtin;go_must (refine Dj (by rfl) (.tmp 10) (.tmp 11) (by rfl) w.heap.size _ [(a,(i,c,d),(g,j,h))] l (by rfl) (by exact o) _ _ _ (by rfl) (by rfl) (by exact gV) (by exact hr.aN y) (by simp;omega) (by simp;omega) ?_);intro W w5 z E);have J:=y.grown E (by simp;omega) (λk e=>by cases e;simp);obtain⟨D,x,rfl,n,u,P⟩:=z.form;simp only[List.singleton_append,Aan]at n u P ⊢;clear E o z y;by_cases hf:most<l.length+1
 ·have L:((most:Nat):Int)<(l.length:Int)+1:=by omega
  have X:(0:Int)<=(most:Int):=by omega
  have S:(most:Int)<=(x:Int):=by omega
  have A:(List.take most ((a,(i,c,d),(g,j,h))::l)).length=most:=by rw[Aaz];simp;omega
  have t:Hid _:=A;clear A;go_wp2_with fail;go_ret;refine⟨D,x,?_,n.take most,?_,?_,J⟩
  ·rw[t.out];rfl
  ·rw[t.out];intro e;obtain⟨Q,R⟩:=u e;omega
  ·rw[t.out];omega
 ·have L:¬((most:Nat):Int)<(l.length:Int)+1:=by omega
  have e1:List.take most ((a,(i,c,d),(g,j,h))::l)=(a,(i,c,d),(g,j,h))::l:=Aaq (by simp;omega);have N:Hid _:=e1;clear e1;go_wp2_with fail;go_ret;exact⟨D,x,by rw[Nat.min_eq_right (by omega)];rfl,by rw[N.out];exact n,(λe=>by obtain⟨Q,R⟩:=u e;omega),by omega,J⟩
theorem putm_eq (h:fC l){pos:Int}(m:List (Int×Int))(h0:0<=pos)(h1:pos<=sz l):fJ l 0 pos++m++fJ l pos (sz l)=dW l pos++m++bV l pos:=by
 rw[zW h _ (AaT _),Oj h h0 h1]
theorem nK.below (h:nK w ao l)(hb:Below w.heap.size w w'):nK w' ao l:=h.fr (Fr.bK hb (λ_=>False)) (λ_ _ _=>id)
theorem bJ.aN (h:bJ w x l)(hg:aL w w'):bJ w' x l:=⟨h.1.below hg,h.2⟩
theorem sI.aN {r:gJ}(h:sI w r e)(hg:aL w w'):sI w' r e:=⟨h.1,h.2.1.aN hg,h.2.2.aN hg⟩
theorem fK.aN {l:List Ed}(h:fK w x l)(hg:aL w w'):fK w' x l:=by
 obtain⟨c,g,k,d,j,n⟩:=h;exact⟨c,g.aN hg,k,d,j,λi r e a b=>(n i r e a b).aN hg⟩
theorem Bq {r:gJ}{l:List Ed}(he:sI w r e)(hr:fK w x l)(hlen:l.length<=1000000)(hm:most<=1000000):
 H K 141 #[.agg #[I V r.1,r.2.1.v,r.2.2.v],x.v,I V (most:Int)] w λq w'=> ∃y:bT,q=G y.v/\fK w' y ((e::l).take most)/\Below w.heap.size w w':=by
 obtain⟨c,n,k,h,o,E⟩:=hr;obtain⟨L,J,N⟩:=x;simp only at n k h;subst k;refine(dm n rfl h.1 (by omega) hm).mono ?_;rintro q w' ⟨t,u,rfl,D,g,B,d⟩;refine⟨(t,_,u),rfl,⟨(r::c).take most,D,rfl,⟨g,B⟩,by simp[o],λi A z a b=>?_⟩,d⟩;rw[Aby]at a b;by_cases j:i<most
 ·rw[Aad j]at a b;cases i with
  |zero=>simp at a b;subst a b;exact he.aN d
  |succ i=>simp at a b;exact(E i A z a b).aN d
 ·rw[Aaa j]at a;cases a
theorem eT.aN (h:eT w r m)(hg:aL w w'):eT w' r m:=⟨h.1.aN hg,h.2.1.aN hg,h.2.2.1.aN hg,h.2.2.2⟩
def okM (m:dI):Prop:=fC m.1/\m.1.length<=4096/\m.2.1.length<=100/\m.2.2.1.length<=100/\0<=m.2.2.2.1/\m.2.2.2.1<=2000000000/\0<=m.2.2.2.2/\m.2.2.2.2<=2000000000
theorem bJ.fr (h:bJ w x l)(hF:Fr w w' X)(hx:∀b aR,w.heap[b]?=M (C aR 50 (0,0))->¬X b):bJ w' x l:=⟨h.1.fr hF hx,h.2⟩
theorem fK.fr {l:List Ed}(h:fK w x l)(hF:Fr w w' X)(hx:∀b aR,w.heap[b]?=M (C aR 50 (0,0))->¬X b)(hy:∀b aR,w.heap[b]?=M (C aR 231 (0,0))->¬X b):fK w' x l:=by
 obtain⟨c,j,n,g,k,d⟩:=h;exact⟨c,j.fr hF hy,n,g,k,λi r e a b=>⟨(d i r e a b).1,(d i r e a b).2.1.fr hF hx,(d i r e a b).2.2.fr hF hx⟩⟩
theorem bJ.jS {r s:Y}(h:bJ w x l)(hg:w.heap[g]?=M (bU p q r s t)):bJ (w.setCell ⟨g,i,O⟩ v) x l:=
 h.fr (Fr.set w ⟨g,i,O⟩ v) (λb c e a=>by simp only at a;subst a;exact bF e hg (dQ (by decide)))
theorem fK.jS {r s:Y}{l:List Ed}(h:fK w x l)(hg:w.heap[g]?=M (bU p q r s t)):fK (w.setCell ⟨g,i,O⟩ v) x l:=
 h.fr (Fr.set w ⟨g,i,O⟩ v) (λb c e a=>by simp only at a;subst a;exact bF e hg (dQ (by decide))) (λb c e a=>by simp only at a;subst a;exact bF e hg (dQ (by decide)))
theorem Gv {ot rs:Nat}{T aH R:bT}{D D' Bf:Int}{r s:Y}{text:List (Int×Int)}{jK kC:List Ed}(hne:rs≠ot)(hot:w.heap.size<=ot)(dw:w.heap.size<=rs)
 (v2:w6.heap[rs]?=M (bU p q r s t))(v3:w6.heap[ot]?=M (bU T.v aH.v R.v (I V D) (I V Bf)))(h1:bJ w6 T text)(h2:fK w6 aH jK)(h3:fK w6 R kC)(B6:Below w.heap.size w w6):
 ((((((w6.setCell ⟨ot,3,O⟩ (I V D')).setCell ⟨rs,0,O⟩ T.v).setCell ⟨rs,1,O⟩ aH.v).setCell ⟨rs,2,O⟩ R.v).setCell ⟨rs,3,O⟩ (I V D')).setCell ⟨rs,4,O⟩ (I V Bf)).heap[rs]?=M (bU T.v aH.v R.v (I V D') (I V Bf))
 /\eT ((((((w6.setCell ⟨ot,3,O⟩ (I V D')).setCell ⟨rs,0,O⟩ T.v).setCell ⟨rs,1,O⟩ aH.v).setCell ⟨rs,2,O⟩ R.v).setCell ⟨rs,3,O⟩ (I V D')).setCell ⟨rs,4,O⟩ (I V Bf)) (T,aH,R,D',Bf) (text,jK,kC,D',Bf)
 /\Below w.heap.size w ((((((w6.setCell ⟨ot,3,O⟩ (I V D')).setCell ⟨rs,0,O⟩ T.v).setCell ⟨rs,1,O⟩ aH.v).setCell ⟨rs,2,O⟩ R.v).setCell ⟨rs,3,O⟩ (I V D')).setCell ⟨rs,4,O⟩ (I V Bf)):=by
 have c:=dR (i:=3) (v:=I V D') v2 hne;have g:=oI (v:=T.v) c;have d:=nA (v:=aH.v) g;have a:=nC (v:=R.v) d;have e:=Br (v:=I V D') a;have h:=xK (v:=I V Bf) e
 exact⟨h,⟨(((((h1.jS v3).jS c).jS g).jS d).jS a).jS e,(((((h2.jS v3).jS c).jS g).jS d).jS a).jS e,(((((h3.jS v3).jS c).jS g).jS d).jS a).jS e,rfl,rfl⟩,
  (((((B6.setCell (p:=⟨ot,3,O⟩) hot _).setCell (p:=⟨rs,0,O⟩) dw _).setCell (p:=⟨rs,1,O⟩) dw _).setCell (p:=⟨rs,2,O⟩) dw _).setCell (p:=⟨rs,3,O⟩) dw _).setCell (p:=⟨rs,4,O⟩) dw _⟩
theorem Bt {rs:Nat}{T aH R:Y}{D Bf:Y}{r s:Y}(dw:w.heap.size<=rs)(v2:w6.heap[rs]?=M (bU p q r s t))(B6:Below w.heap.size w w6):
 (((((w6.setCell ⟨rs,0,O⟩ T).setCell ⟨rs,1,O⟩ aH).setCell ⟨rs,2,O⟩ R).setCell ⟨rs,3,O⟩ D).setCell ⟨rs,4,O⟩ Bf).heap[rs]?=M (bU T aH R D Bf)
 /\Below w.heap.size w (((((w6.setCell ⟨rs,0,O⟩ T).setCell ⟨rs,1,O⟩ aH).setCell ⟨rs,2,O⟩ R).setCell ⟨rs,3,O⟩ D).setCell ⟨rs,4,O⟩ Bf):=
 ⟨xK (Br (nC (nA (oI v2)))),((((B6.setCell (p:=⟨rs,0,O⟩) dw _).setCell (p:=⟨rs,1,O⟩) dw _).setCell (p:=⟨rs,2,O⟩) dw _).setCell (p:=⟨rs,3,O⟩) dw _).setCell (p:=⟨rs,4,O⟩) dw _⟩
theorem nK.grewT (h:nK w ao l)(hg:aL w w'):nK w' ao l:=h.below hg
theorem Xx.fr {l:List bD}(h:Xx w ao l)(hF:Fr w w' X)(hx:∀b aR,w.heap[b]?=M (C aR 97 (0,0))->¬X b):Xx w' ao l:=by
 obtain⟨d,g⟩:=h;refine⟨?_,λa e=>?_⟩
 ·rcases d with d|⟨b,off,e,k⟩
  ·exact Aac d
  ·refine Aab ⟨b,off,e,λj u i=>?_⟩;obtain⟨aR,c⟩:=g _ e;have n:=hF.2 b (aM c) (hx _ _ c);exact(AaN n).trans (k j u i)
 ·obtain⟨aR,c⟩:=g a e;exact⟨aR,hF.at c (hx _ _ c)⟩
theorem Xx.aN {l:List bD}(h:Xx w ao l)(hg:aL w w'):Xx w' ao l:=h.fr (Fr.bK hg (λ_=>False)) (λ_ _ _=>id)
def kX (w w':F)(xb:Nat)(f f':bT):Prop:=Fr w w' (λb=>b=xb\/∃a,f.1=M a/\b=a.block)/\(w'.os=w.os/\w'.tape=w.tape/\w'.output=w.output)/\(f'=f\/Uu w.heap.size f')
theorem kX.refl (w:F)(xb:Nat)(f:bT):kX w w xb f f:=⟨Fr.refl _ _,⟨rfl,rfl,rfl⟩,Aac rfl⟩
theorem kX.trans (h1:kX w w1 xb f f1)(h2:kX w1 w2 xb f1 f2):kX w w2 xb f f2:=by
 obtain⟨⟨i,r⟩,⟨k,z,x⟩,c⟩:=h1;obtain⟨⟨y,t⟩,⟨u,o,n⟩,g⟩:=h2;refine⟨⟨Aal i y,λb j d=>?_⟩,⟨u.trans k,o.trans z,n.trans x⟩,?_⟩
 ·rw[<-r b j d];refine t b (AaE j i) ?_;rintro(h|⟨a,e,h⟩)
  ·exact d (Aac h)
  ·rcases c with rfl|c
   ·exact d (Aab ⟨a,e,h⟩)
   ·have:=c a e;omega
 ·rcases g with rfl|g
  ·exact c
  ·exact Aab (λa e=>Aal i (g a e))
theorem kX.aN (h1:kX w w1 xb f f1)(hg:aL w1 w2):kX w w2 xb f f1:=
 ⟨h1.1.trans (Fr.bK hg _),⟨hg.os.trans h1.2.1.1,hg.tape.trans h1.2.1.2.1,hg.output.trans h1.2.1.2.2⟩,h1.2.2⟩
theorem kX.set (h1:kX w w1 xb f f1):kX w (w1.setCell ⟨xb,i,O⟩ v) xb f f1:=by
 refine⟨?_,⟨h1.2.1.1,h1.2.1.2.1,h1.2.1.2.2⟩,h1.2.2⟩;obtain⟨d,g⟩:=h1.1;obtain⟨h,j⟩:=Fr.set w1 ⟨xb,i,O⟩ v;exact⟨Aal d h,λb a c=>(j b (AaE a d) (λe=>c (Aac e))).trans (g b a c)⟩
theorem kX.row (h1:kX w w1 xb f f1)(h2:Uu w.heap.size f2):kX w w1 xb f f2:=⟨h1.1,h1.2.1,Aab h2⟩
theorem EM (h:w.heap[xb]?=M (bR s f r))(hf:jL w f fs)(hl:fs.length<=1000000):
 H K 142 #[U (M ⟨xb,0,O⟩),I V n] w λe w'=>e=G (I V (zK fs n))/\w'=w:=by
 have D:=kG h;obtain⟨L,fl,R⟩:=f;obtain⟨a,x,z⟩:=hf;simp only at a x z;subst x;simp only[bT.v]at D;clear h;go_enter func142,ntmps142;go_wp2_with fail
 go_loop [5] (λi=> ∃k:Nat,k<=fs.length/\i=I V (k:Int)/\∀j f,j<k->fs[j]?=M f->¬f.1=n) (λi=>fs.length-(intOf i).toNat)
 case atStart=>exact⟨0,Aao _,rfl,λj f B=>by omega⟩
 case round=>
  obtain⟨k,S,rfl,y⟩:=hrel;have g:Hid _:=y;clear y;by_cases A:k<fs.length
  ·obtain⟨o,d⟩:∃f,fs[k]?=M f:=⟨_,Aaf A⟩;obtain⟨b,off,rfl,P,X,N⟩:=a.at d;have Q:(0:Int)<=(k:Int):=(by omega);have W:(k:Int)<(fs.length:Int):=(by omega);have u:Hid _:=d;clear d;by_cases c:o.1=n
   ·have E:(o.1==n)=true:=(by simp[c]);have t:Hid (zK fs n=(k:Int)):=(by show _=_;exact O_ u.out c g.out);clear a;go_wp2_with fail;go_ret;exact⟨by rw[t.out];rfl,rfl⟩
   ·have E:(o.1==n)=false:=(by simp[c]);clear a;go_wp2_with fail
    go_round
    case rel=>exact⟨k+1,by omega,by go_num,λj f B hf=>by
     by_cases J:j=k
     ·subst J;rw[u.out]at hf;cases hf;exact c
     ·exact g.out j f (by omega) hf⟩
    case measure=>simp[intOf];omega
  ·have t:Hid (zK fs n= -1):=(by show _=_;exact posI_no (λj f hf=>g.out j f (by have:=(Aae.1 hf).1;omega) hf));clear a;go_wp2_with fail;go_ret;exact⟨by rw[t.out];rfl,rfl⟩
theorem wS (h:w.heap[xb]?=M (bR s f r))(hf:jL w f fs)(hl:fs.length<=1000000):
 H K 104 #[U (M ⟨xb,0,O⟩),I V n] w λe w'=>e=G (.string (aP fs n))/\w'=w:=by
 have y:=kG h;have d:=EM (n:=n) h hf hl
 obtain⟨A,fl,J⟩:=f;obtain⟨g,o,t⟩:=hf;simp only at g o t;subst o;simp only[bT.v]at y;clear h;cases a:rP fs n with
 |none=>
  have c:zK fs n= -1:=by unfold zK;rw[a]
  have j:Hid (aP fs n=⟨#[]⟩):=by show _=_;unfold aP;rw[a]
  rw[c]at d;clear a c;go_enter func104,ntmps104;go_wp2_with fail;refine d.mono ?_;rintro e w ⟨rfl,rfl⟩;go_wp2_with fail;go_ret;exact⟨by rw[j.out];rfl,rfl⟩
 |some i=>
  have u:=EN a;have c:zK fs n=(i:Int):=by unfold zK;rw[a]
  obtain⟨x,k⟩:∃f,fs[i]?=M f:=⟨_,Aaf u⟩;have j:Hid (aP fs n=x.2.1):=by show _=_;unfold aP;rw[a];simp only[k,Acy]
  rw[c]at d;obtain⟨b,off,rfl,D,N,B⟩:=g.at k;have E:(0:Int)<=(i:Int):=by omega
  have L:(i:Int)<(fs.length:Int):=by omega
  have z:¬(i:Int)<0:=by omega
  clear a c k g;go_enter func104,ntmps104;go_wp2_with fail;refine d.mono ?_;rintro e w ⟨rfl,rfl⟩;go_wp2_with fail;go_ret;exact⟨by rw[j.out];rfl,rfl⟩
theorem Bz (h:w.heap[xb]?=M (bR s f r))(hf:jL w f fs)(hl:fs.length<=1000000):
 H K 98 #[U (M ⟨xb,0,O⟩),I V n] w λe w'=>e=G (I V ((aP fs n).size:Int))/\w'=w:=by
 have a:=wS (n:=n) h hf hl;go_enter func98,ntmps98;go_wp2_with fail;refine a.mono ?_;rintro e w ⟨rfl,rfl⟩;go_wp2_with fail;go_ret;exact⟨rfl,rfl⟩
theorem uO.at {n:Nat}{l:List bD}(h:uO w B (Z ao n cap) l){f:bD}(hf:l[k]?=M f):
 ∃g,ao=M ⟨g,0,O⟩/\n=l.length/\B<=g/\g<w.heap.size/\w.cell? ⟨g,k*3,O⟩=M (I V f.1)/\w.cell? ⟨g,k*3+1,O⟩=M (.string f.2.1)/\w.cell? ⟨g,k*3+2,O⟩=M (I V f.2.2)/\∀j,w.frozen? ⟨g,j,O⟩=false:=by
 have a:=h;have y:=(Aae.1 hf).1;rcases h.2 with⟨-,u⟩|⟨g,t,x,o,d,r,-⟩
 ·omega
 ·cases o
  obtain⟨c,i,e⟩:=Tg l k f hf;exact⟨g,rfl,rfl,d,aM r,(Abv a (k*3) (by omega)).trans c,(Abv a (k*3+1) (by omega)).trans i,(Abv a (k*3+2) (by omega)).trans e,λj=>Acz a j⟩
theorem XC {l:List bD}(h:w.heap[xb]?=M (bR s fx r))(hr:Xx w ao l)(e1:la=l.length)(hl:l.length<=100000):
 H K 151 #[U (M ⟨xb,0,O⟩),Z ao la ca] w λe w'=>e=G (.tuple #[])/\∃(f':bT) (w1:F),w'=w1.setCell ⟨xb,3,O⟩ f'.v/\jL w1 f' (sJ l)/\Below w.heap.size w w1/\Uu w.heap.size f':=by
 subst e1;have R_:=aM h;have HX:Hid (w.heap[xb]?=M (bR s fx r)):=h;clear h;go_enter func151,ntmps151;go_wp2_with fail
 go_loopw [4,5] (λv i wr=> ∃k:Nat,k<=l.length/\i=I V (k:Int)/\uO wr w.heap.size v (sJ (l.take k))/\Below w.heap.size w wr) (λ_ i _=>l.length-(intOf i).toNat)
 case atStart=>exact⟨0,Aao _,rfl,AaH _ _ _ _,AaP _ _⟩
 case round=>
  obtain⟨k,hk,rfl,D,Q⟩:=hrel;have Qm:=Q_ l k;by_cases bQ:k<l.length
  ·obtain⟨⟨d,c,j⟩,hf⟩:∃f,l[k]?=M f:=⟨_,Aaf bQ⟩;have HT:Hid (sJ (l.take (k+1))=if c.size=0 then sJ (l.take k)else pR (sJ (l.take k)) (d,c,j)):=Zx hf;obtain⟨b,off,rfl,c1,c2,c3⟩:=(hr.aN Q).at hf;simp only at c1 c2 c3;have i1:(0:Int)<=(k:Int):=(by omega);have i2:(k:Int)<(l.length:Int):=(by omega);generalize sJ (l.take k)=out at D Qm HT;clear hf hr;by_cases hz:c.size=0
   ·have a4:((c.size:Int)==0)=true:=(by simp[hz]);go_wp2_with fail;go_roundw
    case rel=>exact⟨k+1,by omega,by go_num,by rw[HT.out,Aad hz];exact D,Q⟩
    case measure=>simp[intOf];omega
   ·have a4:((c.size:Int)==0)=false:=(by rw[Aat];omega);have nH:¬((c.size:Int)=0):=(by omega);have hs:=Q.size;go_upto_region 6 with(at_builtin;go_must (refine oK (by rfl) (.tmp 21) (.tmp 26) (by rfl) w.heap.size _ out (d,c,j) (by rfl) (by exact Aax D _) _ _ _ (by rfl) (by rfl) (by exact AbH (Aag wr _)) (by omega) (by simp;omega) ?_);intro v5 w5 dG eY);have B5:Below w.heap.size w w5:=(iQ Q (aO _ _) (by omega)).grown eY (by simp;omega) (λk e=>(AaB D k e).1);obtain⟨x5,n5,p5,rfl⟩:=nT dG
    have Lr:n5=out.length+1:=by
     obtain⟨g,-,e,-⟩:=dG.at (k:=out.length) (f:=(d,c,j)) (by simp);simpa using e
    subst Lr;clear eY c1 c2 c3 D Q hs;go_wp2_with fail
    go_loopw [6] (λq wi=> ∃A x:List bD,q=I V (A.length:Int)/\xO out (d,c,j) A x/\uO wi w.heap.size (Z x5 (out.length+1) p5) (A++(d,c,j)::x)/\A.length+x.length=out.length/\Below w.heap.size w wi) (λq _=>(intOf q).toNat)
    case atStart=>exact⟨out,[],by go_num,xO.start _ _,dG,by simp,B5⟩
    case round=>
     clear dG B5;obtain⟨A,x,rfl,hI,kH,W,B6⟩:=hrel;rcases List.eq_nil_or_concat A with rfl|⟨a,⟨n,o,t⟩,a1⟩
     ·have g0:¬((0:Int)<0):=(by omega);have d0:decide ((0:Int)<0)=false:=(by simp);simp only[AcD];have HI:Hid (pR out (d,c,j)=(d,c,j)::x):=hI.stop0;go_wp2_with fail;go_quiet (fail);go_wp2_with fail;go_roundw
      case rel=>exact⟨k+1,by omega,by go_num,by rw[HT.out,Aaa hz,HI.out];exact kH,bC B6 _⟩
      case measure=>simp[intOf];omega
     ·rw[List.concat_eq_append]at a1;subst a1;obtain⟨g,rfl,-,a_,S,J,L,P,u⟩:=kH.at (k:=a.length) (f:=(n,o,t)) (by simp);obtain⟨g',B,-,-,-,R,N,E,-⟩:=kH.at (k:=a.length+1) (f:=(d,c,j)) (by simp);cases B
      simp only at J L P R N E;have a0:(a++ [(n,o,t)]).length=a.length+1:=(by simp);have a5:a.length+1+x.length=out.length:=(by rw[<-W];simp);have z:(((a++ [(n,o,t)]).length:Nat):Int)=(a.length:Int)+1:=(by rw[a0];rfl);rw[z];have HA:Hid ((((a++ [(n,o,t)]).length:Nat):Int)=(a.length:Int)+1):=z;have HC:Hid ((a++ [(n,o,t)]).length+x.length=out.length):=W;clear z a0 W;have j0:(0:Int)<(a.length:Int)+1:=(by omega);have j1:(0:Int)<=(a.length:Int)+1:=(by omega);have j2:(a.length:Int)+1<(out.length:Int)+1:=(by omega);have j3:(0:Int)<=(a.length:Int):=(by omega);have j4:(a.length:Int)<(out.length:Int)+1:=(by omega);have a3:=u;by_cases Od:d<n
      ·go_wp2_with fail;go_quiet (fail);have B7:Below w.heap.size w (wr.drewN nq):=bC B6 _;have vX:uO (wr.drewN nq) w.heap.size (Z (M ⟨g,0,O⟩) (out.length+1) p5) (a++ [(n,o,t)]++(d,c,j)::x):=kH;have a2:g<(wr.drewN nq).heap.size:=S;clear kH B6 J L P R N E u a3 S;generalize wr.drewN nq=y at*;obtain⟨g',B,-,-,-,J,L,P,u⟩:=vX.at (k:=a.length) (f:=(n,o,t)) (by simp);cases B
       obtain⟨g',B,-,-,-,R,N,E,-⟩:=vX.at (k:=a.length+1) (f:=(d,c,j)) (by simp);cases B
       simp only at J L P R N E;have X:y.heap.size≠g:=(by omega);have u1:=u ((a.length+1)*3);have u2:=u ((a.length+1)*3+1);have u3:=u ((a.length+1)*3+2);have u4:=u (a.length*3);have u5:=u (a.length*3+1);have u6:=u (a.length*3+2);clear u;go_upto_region 10 with fail;have B8:Below w.heap.size w (y.alloc (C #[I V d,.string c,I V j] 97)):=aQ B7 (aO _ _);have xP:uO (y.alloc (C #[I V d,.string c,I V j] 97)) w.heap.size (Z (M ⟨g,0,O⟩) (out.length+1) p5) (a++ [(n,o,t)]++(d,c,j)::x):=Aax vX _;have k0:(y.alloc (C #[I V d,.string c,I V j] 97)).cell? ⟨y.heap.size,0,O⟩=M (I V d):=(by simp);have k1:(y.alloc (C #[I V d,.string c,I V j] 97)).cell? ⟨y.heap.size,1,O⟩=M (.string c):=(by simp);have k2:(y.alloc (C #[I V d,.string c,I V j] 97)).cell? ⟨y.heap.size,2,O⟩=M (I V j):=(by simp);clear vX B7 J L P R N E u1 u2 u3 u4 u5 u6;generalize y.alloc (C #[I V d,.string c,I V j] 97)=wz at*;obtain⟨g',B,-,-,-,J,L,P,u⟩:=xP.at (k:=a.length) (f:=(n,o,t)) (by simp);cases B
       obtain⟨g',B,-,-,-,R,N,E,-⟩:=xP.at (k:=a.length+1) (f:=(d,c,j)) (by simp);cases B
       simp only at J L P R N E;have u1:=u ((a.length+1)*3);have u2:=u ((a.length+1)*3+1);have u3:=u ((a.length+1)*3+2);have tX:=xP.store (k:=a.length+1) (n,o,t) (by simp);have Ll:=tX.store (k:=a.length) (d,c,j) (by simp);have B9:=(((((B8.setCell (p:=⟨g,(a.length+1)*3,O⟩) a_ (I V n)).setCell (p:=⟨g,(a.length+1)*3+1,O⟩) a_ (.string o)).setCell (p:=⟨g,(a.length+1)*3+2,O⟩) a_ (I V t)).setCell (p:=⟨g,a.length*3,O⟩) a_ (I V d)).setCell (p:=⟨g,a.length*3+1,O⟩) a_ (.string c)).setCell (p:=⟨g,a.length*3+2,O⟩) a_ (I V j);have HS:Hid ((List.set (a++ [(n,o,t)]++(d,c,j)::x) (a.length+1) (n,o,t)).set a.length (d,c,j)=a++(d,c,j)::((n,o,t)::x)):=swap_eq a x _ _;go_upto_region 11 with fail;obtain⟨g',B,-,-,-,r1,r2,r3,rf⟩:=tX.at (k:=a.length) (f:=(n,o,t)) (by simp);cases B
       have t0:=(far3 (AbX X):(((wz.setCell ⟨g,(a.length+1)*3,O⟩ (I V n)).setCell ⟨g,(a.length+1)*3+1,O⟩ (.string o)).setCell ⟨g,(a.length+1)*3+2,O⟩ (I V t)).cell? ⟨y.heap.size,0,O⟩=_).trans k0;have t1:=(far3 (AbX X):(((wz.setCell ⟨g,(a.length+1)*3,O⟩ (I V n)).setCell ⟨g,(a.length+1)*3+1,O⟩ (.string o)).setCell ⟨g,(a.length+1)*3+2,O⟩ (I V t)).cell? ⟨y.heap.size,1,O⟩=_).trans k1;have t2:=(far3 (AbX X):(((wz.setCell ⟨g,(a.length+1)*3,O⟩ (I V n)).setCell ⟨g,(a.length+1)*3+1,O⟩ (.string o)).setCell ⟨g,(a.length+1)*3+2,O⟩ (I V t)).cell? ⟨y.heap.size,2,O⟩=_).trans k2;simp only at r1 r2 r3;have v1:=rf (a.length*3);have v2:=rf (a.length*3+1);have v3:=rf (a.length*3+2);rw[HS.out]at Ll;clear rf tX J L P R N E u1 u2 u3 u k0 k1 k2 xP B8;generalize ((wz.setCell ⟨g,(a.length+1)*3,O⟩ (I V n)).setCell ⟨g,(a.length+1)*3+1,O⟩ (.string o)).setCell ⟨g,(a.length+1)*3+2,O⟩ (I V t)=wy at*;go_wp2_with fail;go_roundw
       case rel=>exact⟨a,(n,o,t)::x,by go_num,hI.next Od,Ll,by simp;omega,B9⟩
       case measure=>simp[intOf]
      ·have HI:Hid (pR out (d,c,j)=a++ [(n,o,t)]++(d,c,j)::x):=hI.stop Od;go_wp2_with fail;go_quiet (fail);go_wp2_with fail;go_roundw
       case rel=>exact⟨k+1,by omega,by go_num,by rw[HT.out,Aaa hz,HI.out];exact kH,bC B6 _⟩
       case measure=>simp[intOf];omega
  ·have e1:l.take k=l:=Aaq (by omega);rw[e1]at D;obtain⟨y0,-,-,-⟩:w.cell? ⟨xb,3,O⟩=M fx.v/\w.frozen? ⟨xb,3,O⟩=false/\True/\True:=⟨kG HX.out,by simp[World.frozen?,HX.out,bR],trivial,trivial⟩;have y1:wr.cell? ⟨xb,3,O⟩=M fx.v:=Aay Q y0;have y2:wr.frozen? ⟨xb,3,O⟩=false:=(by rw[World.frozen?_of_block (w:=w) (Q.block xb R_)];simp[World.frozen?,HX.out,bR]);obtain⟨x9,n9,c9,rfl⟩:=nT D;have EO:=rQ D;have Uv:=Io D;clear D y0;go_wp2_with fail;go_end0;exact⟨rfl,(x9,n9,c9),wr,rfl,EO,Q,Uv⟩
def qA (n but:Int)(g:bD):Bool:=g.1 !=n && g.1 !=but
def qI (l:List bD)(f:bD)(but:Int):List bD:=sJ (l.filter (qA f.1 but)++ [f])
theorem KI {l:List bD}{g:bD}(h:l[k]?=M g)(p:bD->Bool):(l.take (k+1)).filter p=(l.take k).filter p++(if p g then [g]else []):=by
 have a:=(Aae.1 h).1;rw[Aau a,AcS,(Aae.1 h).2];simp[List.filter_cons]
theorem Uw (l:List bD)(p:bD->Bool):(l.filter p).length<=l.length:=Aco p l
theorem Ti {f:bD}{but:Int}(h:w.heap[xb]?=M (bR s fx r))(hf:jL w fx fs)(hl:fs.length<=90000):
 H K 121 #[U (M ⟨xb,0,O⟩),.agg #[I V f.1,.string f.2.1,I V f.2.2],I V but] w λe w'=>e=G (.tuple #[])/\∃(f':bT) (w1:F),w'=w1.setCell ⟨xb,3,O⟩ f'.v/\jL w1 f' (qI fs f but)/\Below w.heap.size w w1/\Uu w.heap.size f':=by
 have R_:=aM h;have P:=kG h;have HX:Hid _:=h;obtain⟨fo,fl,fc⟩:=fx;obtain⟨L,h2,h3⟩:=hf;simp only at L h2 h3;subst h2;simp only[bT.v]at P;obtain⟨c,u,A⟩:=f;simp only;clear h;go_enter func121,ntmps121;go_wp2_with fail;have rR:=aO w (C #[I V c,.string u,I V A] 97);have S:(w.alloc (C #[I V c,.string u,I V A] 97)).cell? ⟨w.heap.size,0,O⟩=M (I V c):=by simp
 have W:(w.alloc (C #[I V c,.string u,I V A] 97)).cell? ⟨w.heap.size,1,O⟩=M (.string u):=by simp
 have Q:(w.alloc (C #[I V c,.string u,I V A] 97)).cell? ⟨w.heap.size,2,O⟩=M (I V A):=by simp
 have jY:=AaD w (C #[I V c,.string u,I V A] 97);generalize w.alloc _=t at*
 go_loopw [6,7] (λv i wr=> ∃k:Nat,k<=fs.length/\i=I V (k:Int)/\uO wr t.heap.size v ((fs.take k).filter (qA c but))/\Below t.heap.size t wr) (λ_ i _=>fs.length-(intOf i).toNat)
 case atStart=>exact⟨0,Aao _,rfl,AaH _ _ _ _,AaP _ _⟩
 case round=>
  obtain⟨k,hk,rfl,o,j⟩:=hrel;have n:=aQ rR j;have Qm:=Uw (fs.take k) (qA c but);have Xw:(fs.take k).length<=fs.length:=by rw[Aaz];omega
  have d3:=Aay n P;have z0:=Aay j S;have z1:=Aay j W;have z2:=Aay j Q;by_cases bQ:k<fs.length
  ·obtain⟨⟨d,y,z⟩,hg⟩:∃g,fs[k]?=M g:=⟨_,Aaf bQ⟩;have N:Hid ((fs.take (k+1)).filter (qA c but)=(fs.take k).filter (qA c but)++(if qA c but (d,y,z)then [(d,y,z)]else [])):=KI hg _;obtain⟨b,off,rfl,p1,p2,R⟩:=(L.aN n).at hg;simp only at p1 p2 R;have i1:(0:Int)<=(k:Int):=(by omega);have i2:(k:Int)<(fs.length:Int):=(by omega);generalize (fs.take k).filter (qA c but)=out at o Qm N;clear hg L P S W Q;by_cases E:d=c
   ·subst E;have hd:(d !=d)=false:=(by simp);have D:Hid (qA d but (d,y,z)=false):=(by show _=_;simp[qA]);go_wp2_with fail;go_quiet (fail);go_wp2_with fail;go_roundw
    case rel=>exact⟨k+1,by omega,by go_num,by rw[N.out,D.out,Aaa (by simp),Acp];exact o,bC j _⟩
    case measure=>simp[intOf];omega
   ·have hd:(d !=c)=true:=(by simp[E]);by_cases X:d=but
    ·subst X;have Zy:(d !=d)=false:=(by simp);have D:Hid (qA c d (d,y,z)=false):=(by show _=_;simp[qA]);go_wp2_with fail;go_quiet (fail);go_wp2_with fail;go_roundw
     case rel=>exact⟨k+1,by omega,by go_num,by rw[N.out,D.out,Aaa (by simp),Acp];exact o,bC j _⟩
     case measure=>simp[intOf];omega
    ·have Zy:(d !=but)=true:=(by simp[X]);have D:Hid (qA c but (d,y,z)=true):=(by show _=_;simp[qA,E,X]);go_wp2_with fail;go_quiet (fail);have uG:uO (wr.drewN nq) t.heap.size u6 out:=o;have QI:Below t.heap.size t (wr.drewN nq):=bC j _;have a6:(wr.drewN nq).cell? ⟨b,off+k*3,O⟩=M (I V d):=p1;have a5:(wr.drewN nq).cell? ⟨b,off+k*3+1,O⟩=M (.string y):=p2;have a2:(wr.drewN nq).cell? ⟨b,off+k*3+2,O⟩=M (I V z):=R;have a4:(wr.drewN nq).cell? ⟨xb,3,O⟩=M (Z (M ⟨b,off,O⟩) fs.length fc):=d3;clear o j n p1 p2 R d3 z0 z1 z2;generalize wr.drewN nq=wq at*;have hs:=QI.size;go_wp2_with (at_builtin;go_must (refine oK (by rfl) (.tmp 40) (.tmp 48) (by rfl) t.heap.size _ out (d,y,z) (by rfl) (by exact Aax uG _) _ _ _ (by rfl) (by rfl) (by exact AbH (Aag wq _)) (by omega) (by simp;omega) ?_);intro v5 w5 B J);go_roundw
     case rel=>exact⟨k+1,by omega,by go_num,by rw[N.out,D.out,Aad rfl];exact B,(iQ QI (aO _ _) (by omega)).grown J (by simp;omega) (λk e=>(AaB uG k e).1)⟩
     case measure=>simp[intOf];omega
  ·have E:fs.take k=fs:=Aaq (by omega);rw[E]at o;have a3:=Uw fs (qA c but);have hs:=j.size;clear L P S W Q;go_upto_region 8 with(at_builtin;go_must (refine oK (by rfl) (.tmp 50) (.tmp 52) (by rfl) t.heap.size _ (fs.filter (qA c but)) (c,u,A) (by rfl) (by exact Aax o _) _ _ _ (by rfl) (by rfl) (by exact AbH (Aag wr _)) (by omega) (by simp;omega) ?_);intro v5 w5 B J);have B5:=(iQ j (aO _ _) (by omega)).grown J (by simp;omega) (λk e=>(AaB o k e).1);have x:=aQ rR B5;obtain⟨x9,n9,c9,rfl⟩:=nT B;obtain⟨k1,k2,k3⟩:=rQ B;simp only at k1 k2 k3;subst k2;have a0:=(x.block xb R_).trans HX.out;clear J B o j n z0 z1 z2 d3;go_wp2_with fail;refine(XC a0 k1 (by rw[Aah];rfl) (by rw[Aah];simp;omega)).mono ?_;rintro e w6 ⟨rfl,f',w7,rfl,EO,a1,Uv⟩;go_wp2_with fail;go_end0;exact⟨rfl,f',w7,rfl,EO,aQ x a1,λa e=>Aal x.size (Uv a e)⟩
theorem jL.fr {l:List bD}(h:jL w x l)(hF:Fr w w' X)(hx:∀b aR,w.heap[b]?=M (C aR 97 (0,0))->¬X b):jL w' x l:=⟨h.1.fr hF hx,h.2⟩
theorem eT.fr (h:eT w r m)(hF:Fr w w' X)(hx:∀b aR,w.heap[b]?=M (C aR 50 (0,0))->¬X b)(hy:∀b aR,w.heap[b]?=M (C aR 231 (0,0))->¬X b):eT w' r m:=
 ⟨h.1.fr hF hx,h.2.1.fr hF hx hy,h.2.2.1.fr hF hx hy,h.2.2.2⟩
theorem Gx (h:w.heap[xb]?=M (bR s f r)):∀(b:Nat) (aR:Array Y) (t:TypeId) (g:Nat×Nat),t≠93->w.heap[b]?=M (C aR t g)->¬(b=xb):=
 λb aR t g e a c=>by subst c;exact bF a h (dQ e)
theorem jL.jM {l:List bD}(hf:jL w x l)(h:w.heap[xb]?=M (bR s f r)):jL (w.setCell ⟨xb,i,O⟩ v) x l:=
 hf.fr (Fr.set w ⟨xb,i,O⟩ v) (λb a e=>Gx h _ _ _ _ (by decide) e)
theorem eT.jM {r':fU}(hm:eT w r' m)(h:w.heap[xb]?=M (bR s f r)):eT (w.setCell ⟨xb,i,O⟩ v) r' m:=
 hm.fr (Fr.set w ⟨xb,i,O⟩ v) (λb a e=>Gx h _ _ _ _ (by decide) e) (λb a e=>Gx h _ _ _ _ (by decide) e)
theorem sW {f':bT}(h:w.heap[xb]?=M (bR s f r)):(w.setCell ⟨xb,3,O⟩ f'.v).heap[xb]?=M (bR s f' r):=by rw[Aaj w xb 3 _ _ _ h];rfl
theorem Ux (b:Bool)(h:w.heap[xb]?=M (bR s f r)):(w.setCell ⟨xb,4,O⟩ (.bool b)).heap[xb]?=M (bR { s with jV:=b } f r):=by rw[Aaj w xb 4 _ _ _ h];rfl
theorem Uy (n:Int)(h:w.heap[xb]?=M (bR s f r)):(w.setCell ⟨xb,5,O⟩ (I V n)).heap[xb]?=M (bR { s with after:=n } f r):=by rw[Aaj w xb 5 _ _ _ h];rfl
theorem Eu (b:Bool)(h:w.heap[xb]?=M (bR s f r)):(w.setCell ⟨xb,10,O⟩ (.bool b)).heap[xb]?=M (bR { s with aX:=b } f r):=by rw[Aaj w xb 10 _ _ _ h];rfl
theorem lI (h:w.heap[xb]?=M (bR s f r)):
 w.cell? ⟨xb,3,O⟩=M f.v/\w.cell? ⟨xb,4,O⟩=M (.bool s.jV)/\w.cell? ⟨xb,5,O⟩=M (I V s.after)/\w.cell? ⟨xb,6,O⟩=M (I V s.one)/\w.cell? ⟨xb,7,O⟩=M (I V s.rest)/\w.cell? ⟨xb,10,O⟩=M (.bool s.aX)/\∀j,w.frozen? ⟨xb,j,O⟩=false:=by
 simp[World.cell?,World.frozen?,h,bR]
def dL (s:Sc)(l:List bD):Bool×Sc×List bD:=
 if s.jV=false then (true,s,l)else if 0<s.after then (true,{ s with after:=s.after-1 },l)else (false,{ s with jV:=false,aX:=false },sJ (l.map (gQ s.one s.rest)))
theorem map_take {l:List bD}{g:bD}(h:l[k]?=M g)(p:bD->bD):(l.take (k+1)).map p=(l.take k).map p++ [p g]:=by
 have a:=(Aae.1 h).1;rw[Aau a,AaR,(Aae.1 h).2];rfl
theorem Lv (h:w.heap[xb]?=M (bR s f r)):w.cell? ⟨xb,8,O⟩=M (.bool s.refusing)/\w.cell? ⟨xb,9,O⟩=M (I V s.left)/\w.cell? ⟨xb,11,O⟩=M (.bool s.ro):=by
 simp[World.cell?,h,bR]
theorem Uz (b:Bool)(h:w.heap[xb]?=M (bR s f r)):(w.setCell ⟨xb,8,O⟩ (.bool b)).heap[xb]?=M (bR { s with refusing:=b } f r):=by rw[Aaj w xb 8 _ _ _ h];rfl
theorem Va (n:Int)(h:w.heap[xb]?=M (bR s f r)):(w.setCell ⟨xb,9,O⟩ (I V n)).heap[xb]?=M (bR { s with left:=n } f r):=by rw[Aaj w xb 9 _ _ _ h];rfl
theorem Ot (l:List bD)(f:bD):sJ (l++ [f])=if f.2.1.size=0 then sJ l else pR (sJ l) f:=by
 unfold sJ;rw[Ado];rfl
theorem yY:∀ {l:List bD},l.Pairwise (λa b=>a.1<b.1)->sJ l=l.filter (λf=>f.2.1.size !=0):=by
 intro l
 suffices aB:∀(n:Nat) (l:List bD),l.length=n->l.Pairwise (λa b=>a.1<b.1)->sJ l=l.filter (λf=>f.2.1.size !=0) from aB _ l rfl
 intro n
 induction n with
 |zero=>intro l c _;have:=Aav c;subst this;rfl
 |succ n k=>
  intro l c h;rcases List.eq_nil_or_concat l with rfl|⟨j,f,rfl⟩
  ·simp at c
  ·rw[List.concat_eq_append]at c h ⊢;rw[Ot,AcS];have d:=Abe.1 h;rw[k j (by simpa using c) d.1];by_cases e:f.2.1.size=0
   ·simp[e]
   ·rw[Aaa e,Qu]
    ·simp[e]
    ·intro g i;exact d.2.2 g (Abl.1 i).1 f (by simp)
theorem rT (a b:List bD):bX (a++b)=bX a+bX b:=by
 induction a with
 |nil=>simp[bX]
 |cons f a c=>simp only[Acx,bX,c];omega
theorem Ca {l:List bD}{f:bD}(h:l[k]?=M f):bX (l.take (k+1))=bX (l.take k)+(f.2.1.size:Int):=by
 have a:=(Aae.1 h).1;rw[Aau a,rT,(Aae.1 h).2];simp[bX]
theorem Ip (l:List bD)(k:Nat):bX (l.take k)<=bX l:=by
 have h:bX l=bX (l.take k)+bX (l.drop k):=by rw[<-rT,AbW]
 have:=rU (l.drop k);omega
theorem Ma (l:List bD)(p:bD->Bool):bX (l.filter p)<=bX l:=by
 induction l with
 |nil=>simp
 |cons f l a=>rw[Adw];split<;>simp only[bX]<;>omega
theorem kept_bd {f:bD}(h1:0<=one)(h2:0<=rest)(h:okF f):0<=uP one rest f/\uP one rest f<=(f.2.1.size:Int):=by
 obtain⟨a,b,c⟩:=h;unfold uP;by_cases e:f.1=1
 ·simp only[e,if_true];split<;>omega
 ·simp only[e,if_false];split<;>omega
theorem KL {f:bD}(h1:0<=one)(h2:0<=rest)(h:okF f):okF (gQ one rest f)/\(gQ one rest f).2.1.size<=f.2.1.size:=by
 obtain⟨a,b⟩:=kept_bd h1 h2 h;have e:=extract_size f.2.1 a b;obtain⟨c,g,d⟩:=h;unfold gQ okF;simp only;omega
theorem iy {l:List bD}{g:bD->bD}(h:∀f∈l,(g f).2.1.size<=f.2.1.size):bX (l.map g)<=bX l:=by
 induction l with
 |nil=>simp
 |cons f l c=>
  have e:=h f (by simp);have d:=c (λx a=>h x (by simp[a]));simp only[AaK,bX];omega
theorem Zz (h:gH room fs):sJ (fs.map (gQ one rest))=(fs.map (gQ one rest)).filter (λf=>f.2.1.size !=0):=
 yY (by rw[Adq];exact h.sort.1.imp (λa=>a))
theorem gH.crash (h:gH room fs)(h1:0<=one)(h2:0<=rest):gH room (sJ (fs.map (gQ one rest))):=by
 rw[Zz h];refine⟨⟨?_,λf a=>by simpa using(Abl.1 a).2⟩,λf a=>?_,λf a=>?_,?_⟩
 ·refine List.Pairwise.sublist AbA ?_;rw[Adq];exact h.sort.1.imp (λd=>d)
 ·obtain⟨g,c,rfl⟩:=AaS.1 (Abl.1 a).1;exact(KL h1 h2 (h.ok g c)).1
 ·obtain⟨g,c,rfl⟩:=AaS.1 (Abl.1 a).1;exact h.nn g c
 ·exact AcN (Ma _ _) (AcN (iy (λf a=>(KL h1 h2 (h.ok f a)).2)) h.used)
def bY (s:Sc)(fs:List bD)(n:Int)(b:ByteArray):Int×Sc×List bD:=
 if s.refusing=true/\s.left=0 then (9,{ s with refusing:=false,ro:=true },fs)
 else if s.room<bX fs+(b.size:Int)then (9,{ s with ro:=true },fs)
 else
  let s1:=if s.refusing then { s with left:=s.left-1 } else s
  let r:=dL s1 fs
  if r.1 then (0,r.2.1,qI r.2.2 (nN r.2.2 n b) (-1))else (10,r.2.1,r.2.2)
theorem Cc (s:Sc)(fs:List bD):(s.jV=false/\dL s fs=(true,s,fs))\/(s.jV=true/\0<s.after/\dL s fs=(true,{ s with after:=s.after-1 },fs))
 \/(s.jV=true/\¬0<s.after/\dL s fs=(false,{ s with jV:=false,aX:=false },sJ (fs.map (gQ s.one s.rest)))):=by
 unfold dL;by_cases a:s.jV=false
 ·rw[Aad a];exact Aac ⟨a,rfl⟩
 ·rw[Aaa a];by_cases c:0<s.after
  ·rw[Aad c];exact Aab (Aac ⟨by simpa using a,c,rfl⟩)
  ·rw[Aaa c];exact Aab (Aab ⟨by simpa using a,c,rfl⟩)
theorem yZ (h:kP (plain rs) n=true):∃r,rs[fF (plain rs) n]?=M r/\r.f.1=n:=by
 unfold kP at h;cases e:rs[fF (plain rs) n]? with
 |none=>
  have:(plain rs)[fF (plain rs) n]?=O:=AcE (by rw[bP];exact Adg.1 e);rw[this]at h;simp at h
 |some r=>
  rw[kM e]at h;exact⟨r,rfl,by simpa using h⟩
theorem Dk.bZ (hg:aL w w1):Dk w w1 X X:=(Dk.refl w X).aN hg
def dS (size:Int)(r:Sn):List (Int×Int)×Sn:=
 let n:=bI r
 let q:=vM n.1.toNat size (fM (4096<n.1) n.2)
 (q.1,fM (5000<sz q.1) q.2)
def yO:Nat->Int->Sn->List Ed×Sn
 |0,_,r=>([],r)
 |k+1,size,r=>if r.2=true then ([],r)else
  let a:=bI r
  let b:=dS size a.2
  let c:=dS size b.2
  let q:=yO k size c.2
  ((a.1,b.1,c.1)::q.1,q.2)
def lC (size:Int)(r:Sn):List Ed×Sn:=
 let n:=bI r
 yO n.1.toNat size (fM (50<n.1) n.2)
def uT (e:Ed):Int×Int×Int:=(e.1,sz e.2.2,sz e.2.1)
def pV (e:Ed):Int×Int×Int:=(e.1,sz e.2.1,sz e.2.2)
theorem zA (size:Int)(r:Sn):(∀p∈(dS size r).1,Jy p)/\(dS size r).1.length<=4096:=by
 unfold dS;simp only;obtain⟨a,c⟩:=W_ (bI r).1.toNat size (fM (4096<(bI r).1) (bI r).2);refine⟨a,?_⟩;by_cases h:4096<(bI r).1
 ·rw[Af _ _ _ (by unfold fM;rw[Aad h])];simp
 ·omega
theorem uU:∀(k:Nat) (size:Int) (r:Sn),r.2=true->yO k size r=([],r):=by
 intro k size r h;cases k with
 |zero=>rfl
 |succ k=>unfold yO;rw[Aad h]
theorem X_:∀(k:Nat) (size:Int) (r:Sn),(∀e∈(yO k size r).1,rawE e)/\(yO k size r).1.length<=k:=by
 intro k
 induction k with
 |zero=>intro size r;simp[yO]
 |succ k c=>
  intro size r;unfold yO;split
  ·simp
  ·simp only;obtain⟨d,g⟩:=c size (dS size (dS size (bI r).2).2).2;refine⟨λe a=>?_,by simp;omega⟩;simp only[AaG]at a;rcases a with rfl|a
   ·exact⟨xU r,zA _ _,zA _ _⟩
   ·exact d e a
theorem xV (size:Int)(r:Sn):(∀e∈(lC size r).1,rawE e)/\(lC size r).1.length<=50:=by
 unfold lC;simp only;obtain⟨a,c⟩:=X_ (bI r).1.toNat size (fM (50<(bI r).1) (bI r).2);refine⟨a,?_⟩;by_cases h:50<(bI r).1
 ·rw[uU _ _ _ (by unfold fM;rw[Aad h])];simp
 ·omega
def jT (s:ByteArray)(buf:Int)(depth:Nat):Option (Int×dI):=
 if s.size=0 then M (0,([],[],[],0,0))else
 if s.size<29\/s.data.toList.head?≠M 75 then O else
 let body:=s.data.toList.take (s.size-4)
 let e:=bI (body.drop 1,false)
 let d:=bI e.2
 let b:=bI d.2
 let t:=dS b.1 b.2
 let u:=lC b.1 t.2
 let r:=lC b.1 u.2
 if iJ (s.data.toList.drop (s.size-4))=kU body/\r.2.2=false/\r.2.1=[]/\1<=e.1/\e.1<=999/\d.1<=1000000000/\b.1<=buf/\mV (u.1.map uT) (sz t.1)=true/\mV (r.1.map pV) (sz t.1)=true
 then M (e.1,(t.1,u.1.take depth,r.1.take depth,d.1,b.1))else O
def nY (m:dI)(buf kind a b c:Int):Bool:=(kind==73 && b==m.2.2.2.2 && decide (b+c<=buf))||(kind==68 && c==0)||((kind==85||kind==82) && a==0 && b==0 && c==0)
abbrev St:=Sc×List bD×dI
structure eX (m:dI)(depth:Nat):Prop where
 Fa:0<=m.2.2.2.2
 Dw:m.2.2.2.2<=1000000
 text:uV m.2.2.2.2 m.1
 long:sz m.1<=5000
 few:m.1.length<=4096
 jK:∀e∈m.2.1,0<=e.1/\uV m.2.2.2.2 e.2.1/\uV m.2.2.2.2 e.2.2
 kC:∀e∈m.2.2.1,0<=e.1/\uV m.2.2.2.2 e.2.1/\uV m.2.2.2.2 e.2.2
 Ym:m.2.1.length<=depth
 KQ:m.2.2.1.length<=depth
 KR:mV (m.2.1.map uT) (sz m.1)=true
 jd:mV (m.2.2.1.map pV) (sz m.1)=true
 done:0<=m.2.2.2.1
theorem Ag (l:List (Int×Int×Int)):∀(k:Nat) (n:Int),mV l n=true->mV (l.take k) n=true:=by
 induction l with
 |nil=>intro k n _;simp[mV]
 |cons x l e=>
  intro k n h;obtain⟨p,a,b⟩:=x;cases k with
  |zero=>simp[mV]
  |succ k=>
   simp only[AaY];unfold mV at h ⊢;split
   ·rename_i c;rw[Aad c]at h;cases h
   ·rename_i c;rw[Aaa c]at h;split
    ·rename_i d;rw[Aad d]at h;cases h
    ·rename_i d;rw[Aaa d]at h;exact e k _ h
theorem rV {p a b:Int}{l:List (Int×Int×Int)}:mV ((p,a,b)::l) n=true↔p+a<=n/\n-a+b<=5000/\mV l (n-a+b)=true:=by
 rw[mV];split
 ·simp;omega
 ·split
  ·simp;omega
  ·constructor
   ·intro h;exact⟨by omega,by omega,h⟩
   ·intro h;exact h.2.2
def iR (s s':Sc):Prop:=s'.most=s.most/\s'.depth=s.depth/\s'.room=s.room/\s'.aY=s.aY
theorem iR.refl (s:Sc):iR s s:=⟨rfl,rfl,rfl,rfl⟩
def Aj (s s':Sc):Prop:=iR s s'/\s'.aX=s.aX/\s'.ro=s.ro/\iX s'
def Qw (s s':Sc)(fs dZ:List bD):Prop:=iR s s'/\s'.aX=false/\iX s'/\gH s.room dZ/\dZ.length<=fs.length
theorem lay_len (h:gH room fs):(sJ (fs.map (gQ one rest))).length<=fs.length:=by
 rw[Zz h];exact Aal (Aco _ _) (by simp)
theorem nO (hc:iX s)(h:gH s.room fs):(∃s',dL s fs=(true,s',fs)/\Aj s s')\/(∃s' dZ,dL s fs=(false,s',dZ)/\Qw s s' fs dZ):=by
 rcases Cc s fs with⟨_,e⟩|⟨_,a,e⟩|⟨_,_,e⟩
 ·exact Aac ⟨s,e,iR.refl s,rfl,rfl,hc⟩
 ·exact Aac ⟨_,e,⟨rfl,rfl,rfl,rfl⟩,rfl,rfl,{ hc with nV:=by have:=hc.nV;simp only;omega }⟩
 ·exact Aab ⟨_,_,e,⟨rfl,rfl,rfl,rfl⟩,rfl,{ hc with },h.crash hc.Ow hc.Ai,lay_len h⟩
def After (w w':F)(xb:Nat)(s:Sc)(fs:List bD)(m:dI)(f:bT):Prop:=∃f':bT,bO w' xb s fs m f'/\kX w w' xb f f'
theorem Qy (h:w.heap[xb]?=M (bR s f r)):w.cell? ⟨xb,2,O⟩=M (I V s.room):=by simp[World.cell?,h,bR]
theorem uW (b:Bool)(h:w.heap[xb]?=M (bR s f r)):(w.setCell ⟨xb,11,O⟩ (.bool b)).heap[xb]?=M (bR { s with ro:=b } f r):=by rw[Aaj w xb 11 _ _ _ h];rfl
def AU (s:Sc)(fs:List bD)(n:Int)(b:ByteArray):Int×Sc×List bD:=
 if (dL s fs).1 then (0,(dL s fs).2.1,qI (dL s fs).2.2 (nN (dL s fs).2.2 n b) (-1))else (10,(dL s fs).2.1,(dL s fs).2.2)
theorem bO.aN (h:bO w xb s fs m f)(hg:aL w w'):bO w' xb s fs m f:=by
 obtain⟨r,a,c,d⟩:=h;exact⟨r,(hg.block xb (aM a)).trans a,⟨c.1.aN hg,c.2⟩,d.aN hg⟩
theorem TA {a5 a6 a7:Addr}{v5 v6 v7:Y}(h1:w0.cell? a1=M v1)(h2:w0.cell? a2=M v2)(h3:w0.cell? a3=M v3)(h4:w0.cell? a4=M v4)(h5:w0.cell? a5=M v5)(h6:w0.cell? a6=M v6)(h7:w0.cell? a7=M v7)(h:aL w0 w):
 w.cell? a1=M v1/\w.cell? a2=M v2/\w.cell? a3=M v3/\w.cell? a4=M v4/\w.cell? a5=M v5/\w.cell? a6=M v6/\w.cell? a7=M v7/\aL w0 w:=⟨h.cell h1,h.cell h2,h.cell h3,h.cell h4,h.cell h5,h.cell h6,h.cell h7,h⟩
theorem qJ {r s:Y}(h:w.heap[g]?=M (bU p q r s t))(a b c d e:Y):(((((w.setCell ⟨g,0,O⟩ a).setCell ⟨g,1,O⟩ b).setCell ⟨g,2,O⟩ c).setCell ⟨g,3,O⟩ d).setCell ⟨g,4,O⟩ e).heap[g]?=M (bU a b c d e):=
 xK (Br (nC (nA (oI h))))
theorem eT.KV {x:fU}{r s:Y}(h:eT w x m)(hg:w.heap[g]?=M (bU p q r s t))(a b c d e:Y):eT (((((w.setCell ⟨g,0,O⟩ a).setCell ⟨g,1,O⟩ b).setCell ⟨g,2,O⟩ c).setCell ⟨g,3,O⟩ d).setCell ⟨g,4,O⟩ e) x m:=by
 have k:Fr w (((((w.setCell ⟨g,0,O⟩ a).setCell ⟨g,1,O⟩ b).setCell ⟨g,2,O⟩ c).setCell ⟨g,3,O⟩ d).setCell ⟨g,4,O⟩ e) (λb=>b=g):=
  ((((Fr.set w ⟨g,0,O⟩ a).trans (Fr.set _ ⟨g,1,O⟩ b)).trans (Fr.set _ ⟨g,2,O⟩ c)).trans (Fr.set _ ⟨g,3,O⟩ d)).trans (Fr.set _ ⟨g,4,O⟩ e)
 exact h.fr k (λb j e i=>by subst i;exact bF e hg (dQ (by decide))) (λb j e i=>by subst i;exact bF e hg (dQ (by decide)))
theorem mW.aN {r:Sn}(h:mW w g S r)(hg:aL w w'):mW w' g S r:=by
 obtain⟨i,c,d,a⟩:=h;exact⟨i,c,d,(hg.block g (aM a)).trans a⟩
theorem jI {r:Sn}(h:mW w g S r)(hS:S.size<=2000000):
 H K 143 #[U (M ⟨g,0,O⟩)] w λe w'=>e=G (I V (bI r).1)/\mW w' g S (bI r).2/\Og w w' g:=by
 have z:Hid (mW w g S r):=h;obtain⟨i,R,k,o⟩:=h;obtain⟨c0,c1,A,y⟩:=Ke o;have Q:=y 1;have W:=y 2;have j:r.1.length=S.size-i:=by rw[k,AaX];rfl
 clear y;have J:Hid _:=o;clear o;by_cases x:r.2=true
 ·have n:Hid (bI r=(0,(r.1,true))):=by show _=_;exact Ci x
  rw[x]at A;go_enter func143,ntmps143;go_wp2_with fail;go_quiet (fail);go_wp2_with fail;go_ret;rw[n.out];exact⟨rfl,(z.out.aN (bC (aL.refl w) _)).bad,((Og.refl w g).drewN _).set⟩
 ·have t:r.2=false:=by simpa using x
  rw[t]at A;by_cases D:r.1.length<4
  ·have n:Hid (bI r=(0,(r.1,true))):=(by show _=_;unfold bI;rw[Aad (Aab D)]);have B:(S.size:Int)<(i:Int)+4:=(by omega);clear k j;go_enter func143,ntmps143;go_wp2_with fail;go_quiet (fail);go_wp2_with fail;go_ret;rw[n.out];exact⟨rfl,(z.out.aN (bC (aL.refl w) _)).bad,((Og.refl w g).drewN _).set⟩
  ·have n:Hid (bI r=(iJ r.1,(r.1.drop 4,false))):=(by show _=_;unfold bI;rw[Aaa (by rw[t];simp;omega)]);have B:¬(S.size:Int)<(i:Int)+4:=(by omega);have z2:(i:Int)+4<=(S.size:Int):=(by omega);have z3:(0:Int)<=(i:Int):=(by omega);have P:(i:Int)<=(i:Int)+4:=(by omega);obtain⟨a,b,c,d,rest,u⟩:∃a b c d rest,r.1=a::b::c::d::rest:=four_of (by omega);have L:=extract4 (k.symm.trans u);have E:Hid _:=u;have N:Hid (r.1.drop 4=S.data.toList.drop (i+4)):=(by show _=_;rw[k,AdH]);have X:=Abn a;have bb:=Abn b;have bc:=Abn c;have bd:=Abn d;clear k j u;go_enter func143,ntmps143;go_wp2_with fail;go_quiet (fail);go_wp2_with fail;go_quiet (fail);go_wp2_with fail;rw[L];go_quiet (fail);go_wp2_with fail;go_ret;rw[n.out];refine⟨?_,scan_fin J.out t (by omega) N.out _ _,((Og.refl w g).drewN _).set.drewN _⟩;rw[E.out];exact ret_i64 (or4 (a:=(a.toNat:Int)) (b:=(b.toNat:Int)) (c:=(c.toNat:Int)) (d:=(d.toNat:Int)) (by omega) (by omega) (by omega) (by omega) (by omega) (by omega) (by omega) (by omega))
theorem iB.fr {r:FR}(h:iB w r)(hF:Fr w w' X)(h1:¬X r.b)(h2:∀g,r.v.ownBlock=M g->¬X g):iB w' r:=⟨hF.at h.1 h1,h.2.fr hF h2⟩
theorem aU.keep {s':Sc}(h:aU w db s fv rs)(Mh:w'.heap[db]?=M (jO s' fv))(hF:Fr w w' aF)(hY:∀b,DX db fv rs b->b≠db->¬aF b):aU w' db s' fv rs:=by
 obtain⟨d,o,c,n⟩:=h;refine⟨Mh,bE o hF (λg k e i=>hY g (Aab (Aac e)) (aZ i d (by decide))),λr a=>?_,n⟩;refine(c r a).fr hF (hY _ (Aab (Aab ⟨r,a,Aac rfl⟩)) (aZ (c r a).1 d (by decide))) (λg j=>?_);obtain⟨k,mk,i⟩:=(c r a).2.ty j;exact hY _ (Aab (Aab ⟨r,a,Aab j⟩)) (aZ i d (by decide))
theorem aU.fr (h:aU w db s fv rs)(hF:Fr w w' aF)(hY:∀b,DX db fv rs b->¬aF b):aU w' db s fv rs:=
 h.keep (hF.at h.1 (hY _ (Aac rfl))) hF (λb a _=>hY b a)
theorem aU.aN (h:aU w db s fv rs)(hg:aL w w'):aU w' db s fv rs:=h.fr (Fr.bK hg (λ_=>False)) (λ_ _=>id)
theorem clone_pg {l:List UInt8}(h:pX w ao l)(hn:ao=O->l.length=0/\cap=0)(hl:l.length<=900000000):
 H K 230 #[Z ao l.length cap] w λe w'=> ∃v',e=G v'/\bL w' w.heap.size v' l/\aL w w':=by
 cases ao with
 |none=>
  obtain⟨i,rfl⟩:=hn rfl;have:l=[]:=Aav i;subst this;have d:=Lib.run_eql_slice_nil w 170 5 O 0 0 0 0 underlying170;go_enter func230,ntmps230;go_wp2_with fail;go_ret;exact⟨_,rfl,bL.nil w _,aL.refl w⟩
 |some a=>
  have d:=Lib.run_eql_slice_nil w 170 5 (M a) l.length cap 0 0 underlying170;go_enter func230,ntmps230;go_wp2_with (at_builtin;go_must (refine Di (by rfl) (.tmp 5) (.tmp 6) (by rfl) w.heap.size _ [] l (by rfl) (by exact bL.empty w) _ _ _ (by rfl) (by rfl) (by intro e;cases e) (by exact h.aN (aO _ _)) (by simp;omega) (by simp) ?_);intro t j g n r);go_ret;refine⟨_,rfl,by simpa using g,?_⟩;have c:w.grownBy j (M w.heap.size):=mM n;exact⟨c.os,c.tape,c.output,c.size,λk o=>c.block k o (λe=>by cases e;omega)⟩
theorem BH {r:FR}(h:iB w r):
 H K 195 #[U (M ⟨r.b,0,O⟩)] w λe w'=>e=G (.tuple #[])/\iB w' (r.b,r.v,(r.f.1,r.f.2.1,(r.f.2.1.size:Int)))/\Og w w' r.b:=by
 obtain⟨A,d,D,j⟩:=iC h.1;obtain⟨u,a,e,-,-,-,k⟩:=bL.form h.2;have x:Hid (iB w r):=h;have t:Hid (r.v=Z u r.f.2.1.size a):=e;have g2:=j 2;rw[t.out]at d
 have o:Hid (∀g,r.v.ownBlock=M g->g≠r.b):=λg c=>by
  obtain⟨y,B,n⟩:=bL.ty h.2 c;exact aZ n h.1 (by decide)
 have i:Hid ((w.setCell ⟨r.b,2,O⟩ (I V (r.f.2.1.size:Int))).heap[r.b]?=M (uR (r.b,r.v,(r.f.1,r.f.2.1,(r.f.2.1.size:Int))))):=by
  show _=_;rw[Aaj w r.b 2 _ _ _ h.1];rfl
 clear h e k j;generalize r.f.2.1.size=z at d i ⊢;go_enter func195,ntmps195;go_wp2_with fail;go_end0;exact⟨rfl,⟨i.out,x.out.2.fr (Fr.set w ⟨r.b,2,O⟩ _) (λg c e=>o.out g c e)⟩,(Og.refl w r.b).set⟩
theorem XP {r:FR}{n:Nat}(h:iB w r)(hn:n<=r.f.2.1.size)(hz:r.f.2.1.size<=2000000):
 H K 211 #[U (M ⟨r.b,0,O⟩),I V (n:Int)] w λe w'=>e=G (.tuple #[])/\∃v',iB w' (r.b,v',(r.f.1,r.f.2.1.extract 0 n,(n:Int)))/\Og w w' r.b/\∀k,v'.ownBlock=M k->w.heap.size<=k:=by
 obtain⟨f0,Q,f2,ff⟩:=iC h.1;obtain⟨ao,cap,e,J,R,P,X⟩:=bL.form h.2;have L:r.f.2.1.data.toList.length=r.f.2.1.size:=rfl;rw[L]at e R P;have HH:Hid (iB w r):=h;rw[e]at Q;have o:(r.f.2.1.data.toList.take n).length=n:=by rw[Aaz,L];omega
 have D:Hid ((r.f.2.1.extract 0 n).data.toList=r.f.2.1.data.toList.take n):=ext_list _ _;have HZ:Hid ((r.f.2.1.extract 0 n).size=n):=by show(r.f.2.1.extract 0 n).data.toList.length=n;rw[D.out,o]
 have B:=clone_pg (cap:=cap) (J.take n) (λh=>by rw[o];have:=P h;omega) (by omega);rw[o]at B;have i1:(0:Int)<=(n:Int):=by omega
 have i2:(n:Int)<=(cap:Int):=by omega
 have N:=aM h.1
 have S:Hid (∀(a:F) (j:Y),aL w a->(a.setCell ⟨r.b,1,O⟩ j).heap[r.b]?=M (uR (r.b,j,r.f))):=λa j i=>by
  rw[Aaj a r.b 1 _ _ _ ((i.block _ N).trans h.1)];rfl
 have HF:Hid (∀(a:F),aL w a->a.frozen? ⟨r.b,1,O⟩=false/\∃u,a.cell? ⟨r.b,1,O⟩=M u):=λa i=>by
  have:=iC ((i.block _ N).trans h.1);exact⟨this.2.2.2 1,_,this.2.1⟩
 clear h e X ff J;go_enter func211,ntmps211;go_wp2_with fail;refine B.mono ?_;rintro e a ⟨j,rfl,t,y⟩;obtain⟨q1,u,q2⟩:=HF.out a y;obtain⟨d,c,E,-⟩:=bL.form t;rw[o]at E;subst E;go_wp2_with fail;have z:∀g,(Value.slice d n c).ownBlock=M g->g≠r.b:=λg i e=>by have:=(bL.lt t g i).1;omega
 have A:iB (a.setCell ⟨r.b,1,O⟩ (Value.slice d n c)) (r.b,(Value.slice d n c),(r.f.1,r.f.2.1.extract 0 n,r.f.2.2)):=⟨S.out a (Value.slice d n c) y,by
  show bL _ 0 (Value.slice d n c) (r.f.2.1.extract 0 n).data.toList;rw[D.out];exact(t.mono (Aao _)).fr (Fr.set a ⟨r.b,1,O⟩ (Value.slice d n c)) (λg i e=>z g i e)⟩
 refine(BH A).mono ?_;rintro e w2 ⟨rfl,x,kR⟩;go_wp2_with fail;go_end0;refine⟨rfl,(Value.slice d n c),?_,(((Og.refl w r.b).aN y).set).trans kR,λk W=>(bL.lt t k W).1⟩;have e2:((r.f.2.1.extract 0 n).size:Int)=(n:Int):=by rw[HZ.out]
 rw[<-e2];exact x
theorem LD {r:FR}(h:iL w (Z (M ⟨g,0,O⟩) rs.length cap) rs)(hi:i<rs.length)(uN:cap<rs.length+1)(hv:w.heap[vb]?=M (C #[r.p] 200 (0,0)))(hl:rs.length<=1000000):
 H K 187 #[Z (M ⟨g,0,O⟩) rs.length cap,I V (i:Int),Z (M ⟨vb,0,O⟩) 1 1] w λe w'=> ∃v',e=G v'/\mD w w' (Z (M ⟨g,0,O⟩) rs.length cap) v' rs i r:=by
 obtain⟨ao,mF,e,iW,hm,-,jG⟩:=iL.form h;cases e
 obtain⟨g',aR,e,hg,b4,Xw,hc⟩:=jG _ rfl;cases e
 obtain⟨i0,a2,nG,mZ,nH⟩:=AaO Tryz.infoPtr;have jY:(Tryz.prog.info? 200).map (·.size)=M 1:=by rw[a2];simp[mZ]
 have bQ:=aM hg;have b3:=aM hv;obtain⟨J,W⟩:∃J,J=(rs.drop i).map FR.p:=⟨_,rfl⟩;have Oc:J.length=rs.length-i:=by rw[W];simp
 obtain⟨z,A⟩:∃z,z=(rs.take i).map FR.p:=⟨_,rfl⟩;have Q:z.length=i:=by rw[A];simp;omega
 have a7:∀u∈J,u.oneCell'=true:=by
  intro u hu;rw[W]at hu;obtain⟨x,_,rfl⟩:=AaS.1 hu;rfl
 have E:(Builtin.firstCells i0.size i (Z (M ⟨g,0,O⟩) i cap)).run K w.drew= .ok z.toArray w.drew:=by
  rw[mZ]
  exact run_firstCells_some w.drew 1 i ⟨g,0,O⟩ i cap z (by rw[Q];omega) (λj v a=>by
   rw[Adk,Ach];rw[A,AaU,Aby]at a;split at a
   ·cases N:rs[j]? with
    |none=>rw[N]at a;simp at a
    |some q=>rw[N]at a;simp at a;subst a;exact hc _ _ N
   ·simp at a)
 have jw:i+(rs.length+1-i)=rs.length+1:=by omega
 have X:(rs.length:Int)+1-(i:Int)=((rs.length+1-i:Nat):Int):=by omega
 obtain⟨n,hG⟩:∃n,n=grownCap w (rs.length+1) cap 200:=⟨_,rfl⟩;obtain⟨c,d⟩:∃c:Array Y,c=z.toArray++Builtin.zeroCells (Value.pointer O).cells (rs.length+1-i)++Builtin.zeroCells (Value.pointer O).cells (n-(rs.length+1)):=⟨_,rfl⟩;obtain⟨o,BL⟩:∃o,o=w.drew.alloc (C c 200):=⟨_,rfl⟩
 have b0:∀ty,(Builtin.append_ #[149,3] ty #[Z (M ⟨g,0,O⟩) i cap,I V ((rs.length:Int)+1-(i:Int))]).run K w= .ok (Z (M ⟨w.heap.size,0,O⟩) (rs.length+1) n) o:=λty=>by
  have hq:=Lib.run_append_grow_zeros w 149 3 ty 200 i0 _ V V underlying149 underlying3 a2 nG (M ⟨g,0,O⟩) i cap z E (rs.length+1-i) (by omega) (by omega) (by omega) (by omega) (by rw[nH];omega) (by rw[nH,jw];exact growslice_fits uN (by omega));rw[jw]at hq;rw[X,hq,BL,d,hG]
 have b1:rs.length+1<=n:=by rw[hG];exact grownCap_ge w _ _ _
 have a6:n<=maxLen:=by rw[hG];exact grownCap_le_maxLen w (rs.length+1) cap 200 (by unfold maxLen;omega)
 have a8:c.size=n:=by
  rw[d];simp[Builtin.zeroCells,Value.cells];omega
 have a5:c.toList.take i=z:=by
  rw[d];simp only[Ade,AaI];rw[Adh Q]
 have iV:o.heap[w.heap.size]?=M (C c 200 (0,0)):=by rw[BL];exact Aag w.drew _
 have IZ:Below w.heap.size w o:=by rw[BL];exact aQ (bC (aL.refl w) 1) (aO _ _)
 have a3:o.cell? ⟨vb,0,O⟩=M r.p:=Aay IZ (by simp[World.cell?,hv]);obtain⟨y,R⟩:∃y,y=o.setCells w.heap.size i [r.p]:=⟨_,rfl⟩
 have a0:∀ty L,(Builtin.copy_ #[149,149] ty #[Z (M ⟨w.heap.size,i,O⟩) (rs.length+1-i) L,Z (M ⟨vb,0,O⟩) 1 1]).run K o= .ok (goInt 1) y:=λty L=>by
  rw[R]
  exact AdI o _ _ ty 200 w.heap.size i (rs.length+1-i) L ⟨vb,0,O⟩ 1 1 [r.p] underlying149 jY (by simp only[Nat.min_def,Abj];split<;>omega)
   (λj v a=>by
    cases j with
    |zero=>simp at a;subst a;simpa[Addr.add]using a3
    |succ j=>simp at a)
   (λj a=>by rw[(iT iV _).1];simp at a ⊢;rw[a8];omega) (λj a=>(iT iV _).2) (λu hu=>by simp at hu;subst hu;rfl)
 obtain⟨Pd,S,Yi⟩:=kI w.heap.size 200 [r.p] i o c iV (by simp;omega);rw[<-R]at S
 have D:Pd.size=n:=by
  have:Pd.toList.length=n:=by rw[Yi];simp;omega
  simpa using this
 have a9:Fr w y (λb=>b=w.heap.size):=by
  rw[R];exact(Fr.bK IZ _).trans (Og.cells w.heap.size [r.p] i (Og.refl o w.heap.size)).1
 have t:∀j q,rs[j]?=M q->y.cell? ⟨g,j,O⟩=M q.p:=λj q hq=>by
  rw[R,World.cell?_setCells_out _ _ _ _ _ (λh _=>by simp only at h;omega)];exact Aay IZ (hc _ _ hq)
 obtain⟨W3,jy⟩:∃W3,W3=y.drew.setCells w.heap.size (i+1) J:=⟨_,rfl⟩
 have a4:∀ty L sc,(Builtin.copy_ #[149,149] ty #[Z (M ⟨w.heap.size,i+1,O⟩) (rs.length-i) L,Z (M ⟨g,i,O⟩) (rs.length-i) sc]).run K y.drew= .ok (goInt J.length) W3:=λty L sc=>by
  rw[jy]
  exact AdI y.drew _ _ ty 200 w.heap.size (i+1) (rs.length-i) L ⟨g,i,O⟩ (rs.length-i) sc J underlying149 jY (by rw[Oc];simp only[Nat.min_def];split<;>omega)
   (λj v a=>by
    rw[Adk];rw[W,AaU,AcR]at a;cases N:rs[i+j]? with
    |none=>rw[N]at a;simp at a
    |some q=>rw[N]at a;simp at a;subst a;exact t _ _ N)
   (λj a=>by show(y.cell? _).isSome=true;rw[(iT S _).1];simp;rw[D];omega) (λj a=>(iT S _).2) a7
 obtain⟨B,pG,P⟩:=kI w.heap.size 200 J (i+1) y.drew Pd S (by rw[Oc,D];omega);rw[<-jy]at pG
 have a1:Hid (mD w W3 (Z (M ⟨g,0,O⟩) rs.length cap) (Z (M ⟨w.heap.size,0,O⟩) (rs.length+1) n) rs i r):=by
  have kR:Og w W3 w.heap.size:=by
   rw[jy,R];exact Og.cells _ _ _ ((Og.cells w.heap.size [r.p] i ((Og.refl w w.heap.size).aN IZ)).aN (bC (aL.refl _) 1))
  have e0:(rs.take i++r::rs.drop i).length=rs.length+1:=by simp;omega
  refine⟨⟨by simp,Aab ⟨w.heap.size,n,B,by rw[e0],Aao _,pG,by rw[e0];exact b1,a6,?_,?_⟩⟩,⟨kR.2.1,kR.2.2.1,kR.2.2.2,kR.1.1,λk hk _=>kR.1.2 k hk (λe=>by omega)⟩,Aab λk hk=>by simp[Value.ownBlock]at hk;omega⟩
  ·have:B.toList.length=n:=(by rw[P];simp;omega);simpa using this
  ·have e1:(Pd.toList.take (i+1))=z++ [r.p]:=by
    rw[Yi,AaI,<-AaI,a5,Adh (by simp;omega)]
   rw[e0,AcJ,P,e1,AaI,LC _ _ _ _ i rs.length Q Oc (by omega),AaR,AaK,A,W]
 have j1:(0:Int)<=(i:Int):=by omega
 have j2:(i:Int)<=(rs.length:Int):=by omega
 have j3:¬((i:Int)=(rs.length:Int)):=by omega
 have j4:(cap:Int)<(rs.length:Int)+1:=by omega
 have j5:((i:Int)+1).toNat=i+1:=by omega
 have j7:(0:Int)<=(i:Int)+1:=by omega
 have jJ:IntKind.i64.wrap ((i:Int)+1)=(i:Int)+1:=by rw[AaC];omega
 have j8:(i:Int)+1<=(rs.length:Int)+1:=by omega
 have j9:¬n=i+1:=by omega
 have b7:¬cap=i:=by omega
 have b2:¬n=i:=by omega
 have b6:(i:Int)<=(rs.length:Int)+1:=by omega
 have b5:i<=cap:=by omega
 clear BL R jy iV S pG Yi P W A Xw hc jG hg h a3 hv d a5 E t a9 IZ X hG;go_enter func187,ntmps187
 go_wp2_with (first
  |(at_builtin;refine Lib.wpList_append_run _ rfl _ _ _ _ rfl _ _ rfl rfl _ _ (b0 _) ?_)
  |(at_builtin;refine wpList_copy_runI _ rfl _ _ 149 149 rfl _ _ rfl rfl (a0 _ _) ?_))
 go_region_law (refine step_copy_runI rfl _ _ 149 149 rfl _ _ (by simp[Act.eval,Act.put];done) (by simp[Act.eval,Act.put];done) (a4 _ _ _) ?_)
 go_wp2
 go_ret;exact⟨_,rfl,a1.out⟩
theorem BM {r:FR}(h:iL w v rs)(hi:i<=rs.length)(hv:w.heap[vb]?=M (C #[r.p] 200 (0,0)))(hne:v.ownBlock≠M vb)(hl:rs.length<=1000000):
 H K 187 #[v,I V (i:Int),Z (M ⟨vb,0,O⟩) 1 1] w λe w'=> ∃v',e=G v'/\mD w w' v v' rs i r:=by
 by_cases d:i=rs.length
 ·subst d;exact TJ h hv hl
 ·obtain⟨o,c,rfl,y,u,j,k⟩:=iL.form h;cases o with
  |none=>obtain⟨rfl,-⟩:=j rfl;simp at hi d;omega
  |some a=>
   obtain⟨g,x,rfl,t,-⟩:=k a rfl;by_cases n:rs.length+1<=c
   ·exact EW h (by omega) n hv (λe=>hne (by rw[e];rfl)) hl
   ·exact LD h (by omega) (by omega) hv hl
theorem own_lt {r:FR}(h:iB w r)(hg:r.v.ownBlock=M g):g<w.heap.size:=(bL.lt h.2 g hg).2
theorem Hq (rs:List FR)(k:Nat)(r:FR):plain (rs.set k r)=(plain rs).set k r.f:=by simp[plain,List.map_set]
theorem aU.Mj {r r':FR}(h:aU w db s fv rs)(hk:rs[k]?=M r)(hb:r'.b=r.b)(hF:Fr w w' (λb=>b=r.b\/r.v.ownBlock=M b))(ho:w'.os=w.os/\w'.tape=w.tape/\w'.output=w.output)
 (vK:iB w' r')(hn:r'.v.ownBlock=r.v.ownBlock\/∀g,r'.v.ownBlock=M g->w.heap.size<=g):aU w' db s fv (rs.set k r')/\Dk w w' (DX db fv rs) (DX db fv (rs.set k r')):=by
 obtain⟨W,h2,L,Q⟩:=h;have E:=Aai hk;have J:=L r E;obtain⟨EX,N⟩:=Aae.1 hk
 have S:∀(b:Nat) (P:Array Y) (t:TypeId) (f:Nat×Nat),t≠202->t≠5->w.heap[b]?=M (C P t f)->¬(b=r.b\/r.v.ownBlock=M b):=by
  intro b P t f e1 e2 hb a;rcases a with rfl|a
  ·exact aZ hb J.1 e1 rfl
  ·obtain⟨c,Tp,x⟩:=bL.ty J.2 a;exact aZ hb x e2 rfl
 have z:(rs.set k r').map FR.p=rs.map FR.p:=by
  rw[AdS];apply AcU;intro i;rw[Acs];by_cases n:k=i
  ·subst n;simp[EX,FR.p,hb,N]
  ·simp[n]
 refine⟨⟨hF.at W (S _ _ _ _ (by decide) (by decide) W),?_,?_,?_⟩,?_⟩
 ·unfold iL;rw[z,Acg];exact bE h2 hF (λg P _ x=>S _ _ _ _ (by decide) (by decide) x)
 ·intro q o;obtain⟨i,n,rfl⟩:=Abt o;rw[Acm];by_cases u:k=i
  ·rw[Aad u];exact vK
  ·rw[Aaa u];have D:i<rs.length:=(by simpa using n);have y:=Mi Q (Aaf D) hk (λe=>u e.symm);have o:=L rs[i] (Acl D);refine o.fr hF (λa=>?_) (λg A a=>?_)
   ·rcases a with a|a
    ·exact y.1 a
    ·obtain⟨c,Tp,x⟩:=bL.ty J.2 a;exact aZ o.1 x (by decide) rfl
   ·rcases a with a|a
    ·obtain⟨c,Tp,x⟩:=bL.ty o.2 A;exact aZ x J.1 (by decide) a
    ·exact y.2 g A a
 ·rw[Abk]
  have d:∀i (n:i<rs.length),i≠k->nU rs[i] r':=by
   intro i n u;have y:=Mi Q (Aaf n) hk u;refine⟨by rw[hb];exact y.1,λg A sN=>?_⟩;rcases hn with hn|hn
   ·exact y.2 g A (hn ▸ sN)
   ·have:=own_lt (L rs[i] (Acl n)) A;have:=hn g sN;omega
  intro i j n hj R;have D:i<rs.length:=by simpa using n
  have B:j<rs.length:=by simpa using hj
  rw[Acm,Acm];by_cases u:k=i
  ·rw[Aad u,Aaa (by omega)];exact(d j B (by omega)).symm
  ·rw[Aaa u];by_cases X:k=j
   ·rw[Aad X];exact d i D (by omega)
   ·rw[Aaa X];exact Abk.1 Q i j D B R
 ·refine⟨hF.mono λb a=>Aab (Aab ⟨r,E,a⟩),ho,λb a=>?_⟩;rcases a with a|a|⟨q,o,a⟩
  ·exact Aac (Aac a)
  ·exact Aac (Aab (Aac a))
  ·rcases Adi o with o|rfl
   ·exact Aac (Aab (Aab ⟨q,o,a⟩))
   ·rcases a with a|a
    ·exact Aac (Aab (Aab ⟨r,E,Aac (by rw[a,hb])⟩))
    ·rcases hn with hn|hn
     ·exact Aac (Aab (Aab ⟨r,E,Aab (hn ▸ a)⟩))
     ·exact Aab (hn b a)
theorem aU.setRow {eD:Y}{dY:List FR}(h:aU w db s fv rs)(hF1:Fr w w1 (λb=>fv.ownBlock=M b))(Al:w1.os=w.os/\w1.tape=w.tape/\w1.output=w.output)(jG:iL w1 eD dY)(sN:eD.ownBlock=fv.ownBlock)(ko:dY.Sublist rs)(hw':w'=w1.setCell ⟨db,1,O⟩ eD):
 aU w' db s eD dY/\Dk w w' (DX db fv rs) (DX db eD dY):=by
 obtain⟨g,D,x,B⟩:=h
 have n:∀b j t f,t≠200->w.heap[b]?=M (C j t f)->¬fv.ownBlock=M b:=λb j t f z J e=>by
  obtain⟨c,d⟩:=iH D e;exact aZ J d z rfl
 have o:=hF1.at g (n _ _ _ _ (by decide) g);have E:w'.heap[db]?=M (jO s eD):=by rw[hw',Aaj w1 db 1 _ _ _ o];rfl
 have u:Fr w w' (λb=>b=db\/fv.ownBlock=M b):=by
  rw[hw'];exact(hF1.mono λb e=>Aab e).trans ((Fr.set w1 ⟨db,1,O⟩ eD).mono λb e=>Aac e)
 refine⟨⟨E,?_,λr A=>?_,B.sublist ko⟩,?_⟩
 ·rw[hw'];exact bE jG (Fr.set w1 ⟨db,1,O⟩ eD) (λk j e d a=>aZ d o (by decide) a)
 ·have i:=x r (ko.subset A);refine i.fr u (λa=>?_) (λk L a=>?_)
  ·rcases a with a|a
   ·exact aZ i.1 g (by decide) a
   ·exact n _ _ _ _ (by decide) i.1 a
  ·obtain⟨c,N,d⟩:=bL.ty i.2 L;rcases a with a|a
   ·exact aZ d g (by decide) a
   ·exact n _ _ _ _ (by decide) d a
 ·refine⟨u.mono λb a=>?_,?_,λb a=>?_⟩
  ·rcases a with rfl|a
   ·exact Aac rfl
   ·exact Aab (Aac a)
  ·rw[hw'];exact Al
  ·rcases a with a|a|⟨q,y,a⟩
   ·exact Aac (Aac a)
   ·exact Aac (Aab (Aac (by rw[<-sN];exact a)))
   ·exact Aac (Aab (Aab ⟨q,ko.subset y,a⟩))
theorem LF {r:FR}(h:iB w r):H K 236 #[U (M ⟨r.b,0,O⟩)] w λe w'=>e=G (.bool (rC r))/\w'=w:=by
 obtain⟨-,d,-⟩:=iC h.1;obtain⟨i,g,e,-⟩:=bL.form h.2;have a:r.f.2.1.data.toList.length=r.f.2.1.size:=rfl;rw[e,a]at d;have c:Hid (rC r=(r.f.2.1.size==0)):=rfl;generalize r.f.2.1.size=z at d c;clear e a h;cases z with
 |zero=>
  go_enter func236,ntmps236;go_wp2_with fail;go_ret;rw[c.out];exact⟨rfl,rfl⟩
 |succ z=>
  have a:¬((z:Int)+1=0):=by omega
  go_enter func236,ntmps236;go_wp2_with fail;go_ret;rw[c.out];refine⟨?_,rfl⟩;simp
  first|done|omega
theorem index_pg (hc:∀(i:Nat) (r:FR),rs[i]?=M r->w.cell? ⟨g,i,O⟩=M r.p)(hf:∀r∈rs,iB w r)(hl:rs.length<=1000000):
 H K 243 #[Z (M ⟨g,0,O⟩) rs.length cap,.func (.func 236) #[] #[]] w λe w'=>e=G (I V (EY rs))/\w'=w:=by
 have x:Hid _:=hc;have y:Hid _:=hf;clear hc hf;go_enter func243,ntmps243;go_wp2_with fail
 go_loop [5,8] (λ_ i=> ∃k:Nat,k<=rs.length/\i=I V (k:Int)/\Hid (∀j r,j<k->rs[j]?=M r->rC r=false)) (λ_ i=>rs.length-(intOf i).toNat)
 case atStart=>exact⟨0,Aao _,rfl,λj r d=>by omega⟩
 case round=>
  obtain⟨k,N,rfl,t⟩:=hrel;by_cases z:k<rs.length
  ·obtain⟨r,a⟩:∃r,rs[k]?=M r:=⟨_,Aaf z⟩;have B:=x.out _ r a;unfold FR.p at B;have h:=LF (y.out r (Aai a));have u:Hid _:=a;clear a;have L:(0:Int)<=(k:Int):=(by omega);have P:(k:Int)<(rs.length:Int):=(by omega);cases c:rC r with
   |true=>
    rw[c]at h
    have o:Hid (EY rs=(k:Int)):=by
     show _=_;unfold EY
     have:rs.findIdx? rC=M k:=by
      rw[Abq];obtain⟨D,E⟩:=Aae.1 u.out;exact⟨D,by rw[E,c],λj d=>by simpa using t.out j _ d (Aaf (by omega))⟩
     rw[this]
    clear c;go_wp2_with (go_at_call 236;refine h.mono ?_;rintro e w ⟨rfl,rfl⟩);go_ret;rw[o.out];exact⟨rfl,rfl⟩
   |false=>
    rw[c]at h;have A:Hid _:=c;clear c;go_wp2_with (go_at_call 236;refine h.mono ?_;rintro e w ⟨rfl,rfl⟩)
    go_round
    case rel=>exact⟨k+1,by omega,by go_num,λj q d n=>by
     by_cases J:j=k
     ·subst J;rw[u.out]at n;cases n;exact A.out
     ·exact t.out j q (by omega) n⟩
    case measure=>simp[intOf];omega
  ·have o:Hid (EY rs= -1):=by
    show _=_;unfold EY
    have:rs.findIdx? rC=O:=by
     rw[AbT];intro r a;obtain⟨j,d,rfl⟩:=Abt a;exact t.out j _ (by omega) (Aaf d)
    rw[this]
   go_wp2_with fail;go_ret;rw[o.out];exact⟨rfl,rfl⟩
theorem TL (h:iL w v rs)(hf:∀r∈rs,iB w r)(hl:rs.length<=1000000):
 H K 235 #[v,.func (.func 236) #[] #[]] w λe w'=> ∃v',e=G v'/\EZ w w' v v' rs:=by
 have HO:Hid (iL w v rs):=h;obtain⟨ao,cap,rfl,iW,hm,X,jG⟩:=iL.form h;cases ao with
 |none=>
  obtain⟨rfl,rfl⟩:=X rfl;have L:H K 243 #[Z O 0 0,.func (.func 236) #[] #[]] w λe w'=>e=G (I V (-1))/\w'=w:=ku;clear h jG X hf;go_enter func235,ntmps235;go_wp2_with fail;refine L.mono ?_;rintro e w ⟨rfl,rfl⟩;go_wp2_with fail;go_ret;exact⟨_,rfl,HO.out,rfl,Fr.refl _ _,rfl,rfl,rfl⟩
 |some a=>
  obtain⟨g,aR,rfl,hg,R,Xw,Q⟩:=jG a rfl;have L:=index_pg (cap:=cap) Q hf hl;have HF:Hid _:=hf;have JW:aR.toList.length=cap:=by simpa using R
  cases D:rs.findIdx? rC with
  |none=>
   have y:EY rs= -1:=(by unfold EY;rw[D]);rw[y]at L
   have HK:Hid (Rc rs=rs):=by
    show _=_;unfold Rc;rw[AbR];intro r x;rw[AbT]at D;rw[D r x];rfl
   clear h jG X hf Q Xw D y;go_enter func235,ntmps235;go_wp2_with fail;refine L.mono ?_;rintro e w ⟨rfl,rfl⟩;go_wp2_with fail;go_ret;exact⟨_,rfl,by unfold EZ;rw[HK.out];exact⟨HO.out,rfl,Fr.refl _ _,rfl,rfl,rfl⟩⟩
  |some o=>
   have y:EY rs=(o:Int):=(by unfold EY;rw[D]);rw[y]at L;obtain⟨a2,n,B⟩:=Abq.1 D
   have E:(rs.take (o+1)).filter (λr=>!rC r)=rs.take o:=by
    rw[Cq (Aaf a2),n];simp only[Bool.not_true,AaF,if_false,Acp];rw[AbR];intro r x;obtain⟨j,hj,rfl⟩:=Abt x;have a1:j<o:=(by simp at hj;omega);have:=B j a1;rw[AdL];simpa using this
   have a3:Hid (DelAt w g cap rs o (o+1)):=by
    refine⟨aR,hg,R,?_,λt r ht x=>?_⟩
    ·rw[E,AbE,<-Xw,AcL,AdC (by omega)]
    ·have:=Q t r x;rw[(iT hg t).1]at this;exact this
   have a0:Hid (((rs.take (o+1)).filter (λr=>!rC r)).length=o):=(by show _=_;rw[E,Aaz];omega);have a4:((o:Int)== -1)=false:=(by rw[Aat];omega);have z:=hg;clear h jG X hf Q Xw D y n B E hg;go_enter func235,ntmps235;go_wp2_with fail;refine L.mono ?_;rintro e w ⟨rfl,rfl⟩;go_wp2_with fail
   go_loopw [5,6,7] (λs5 s6 _ wr=> ∃i j:Nat,s5=I V (i:Int)/\s6=I V (j:Int)/\i<j/\j<=rs.length/\Hid (((rs.take j).filter (λr=>!rC r)).length=i)/\Hid (DelAt wr g cap rs i j)/\Hid (Og w wr g)) (λ_ s6 _ _=>rs.length-(intOf s6).toNat)
   case atStart=>exact⟨o,o+1,rfl,by go_num,by omega,by omega,a0,a3,Og.refl w g⟩
   case round=>
    obtain⟨i,j,rfl,rfl,a5,hj,HL,HD,W⟩:=hrel;by_cases bQ:j<rs.length
    ·obtain⟨r,x⟩:∃r,rs[j]?=M r:=⟨_,Aaf bQ⟩;have HR:Hid _:=x;obtain⟨d,g1,g2,g3,g4⟩:=HD.out;have c1:=(iT g1 j).1.trans (g4 j r (Aak _) x);have c2:∃u,wr.cell? ⟨g,i,O⟩=M u:=⟨d.toList[i]'(by simp;omega),by rw[(iT g1 i).1];exact Aaf _⟩;obtain⟨u,c2⟩:=c2;have c3:=(iT g1 i).2
     have BN:iB wr r:=by
      have J:=HF.out r (Aai x);refine J.fr W.out.1 (λe=>aZ J.1 z (by decide) e) (λk hk e=>?_);obtain⟨c,Tp,Q⟩:=bL.ty J.2 hk;exact aZ Q z (by decide) e
     have gL:=LF BN;unfold FR.p at c1;have i1:(0:Int)<=(j:Int):=(by omega);have i2:(j:Int)<(rs.length:Int):=(by omega);have i3:(0:Int)<=(i:Int):=(by omega);have i4:(i:Int)<(rs.length:Int):=(by omega);clear x g1 g2 g3 g4 BN;cases P:rC r with
     |true=>
      rw[P]at gL
      have S:Hid ((rs.take (j+1)).filter (λr=>!rC r)=(rs.take j).filter (λr=>!rC r)):=by
       show _=_;rw[Cq HR.out,P];simp
      clear P;go_wp2_with (go_at_call 236;refine gL.mono ?_;rintro e wr ⟨rfl,rfl⟩);go_roundw
      case rel=>
       obtain⟨d,g1,g2,g3,g4⟩:=HD.out;exact⟨i,j+1,rfl,by go_num,by omega,by omega,by show _=_;rw[S.out];exact HL.out,⟨d,g1,g2,by rw[S.out];exact g3,λt q ht J=>g4 t q (by omega) J⟩,W⟩
      case measure=>simp[intOf];omega
     |false=>
      rw[P]at gL
      have S:Hid ((rs.take (j+1)).filter (λr=>!rC r)=(rs.take j).filter (λr=>!rC r)++ [r]):=by
       show _=_;rw[Cq HR.out,P];simp
      clear P;go_wp2_with (go_at_call 236;refine gL.mono ?_;rintro e wr ⟨rfl,rfl⟩);go_roundw
      case rel=>
       obtain⟨d,g1,g2,g3,g4⟩:=HD.out;have TI:d.toList.length=cap:=(by simpa using g2);refine⟨i+1,j+1,by go_num,by go_num,by omega,by omega,?_,?_,W.out.set⟩
       ·show _=_;rw[S.out,Aah,HL.out];rfl
       ·refine⟨d.setIfInBounds i r.p,Aaj _ g i d _ _ g1,by simpa using g2,?_,λt q ht J=>?_⟩
        ·have N:(d.setIfInBounds i r.p).toList=d.toList.set i r.p:=(by simp);rw[N,(BI d.toList i r.p 0 (by omega)).1,g3,S.out,AaR];rfl
        ·have N:(d.setIfInBounds i r.p).toList=d.toList.set i r.p:=(by simp);rw[N,Acs,Aaa (by omega)];exact g4 t q (by omega) J
      case measure=>simp[intOf];omega
    ·obtain rfl:j=rs.length:=by omega
     obtain⟨d,g1,g2,g3,g4⟩:=HD.out;have TI:d.toList.length=cap:=by simpa using g2
     have XQ:∀ty,(Builtin.clear_ #[149] ty #[Z (M ⟨g,i,O⟩) (rs.length-i) (cap-i)]).run K wr= .ok (.tuple #[]) (wr.setCells g i (List.replicate (rs.length-i) (U O))):=
      λty=>Lib.run_clear_slice wr _ _ ty _ underlying149 LB rfl rfl g _ _ _ (by omega) (λt ht=>by rw[(iT g1 _).1];simp;rw[g2];omega) (λt ht=>(iT g1 _).2)
     obtain⟨Pd,k1,k2⟩:=kI g 200 (List.replicate (rs.length-i) (U O)) i wr d g1 (by rw[AcV,g2];omega);have kR:=Og.cells g (List.replicate (rs.length-i) (U O)) i W.out
     have A:Hid (EZ w (wr.setCells g i (List.replicate (rs.length-i) (U O))) (Z (M ⟨g,0,O⟩) rs.length cap) (Z (M ⟨g,0,O⟩) i cap) rs):=by
      have N:Rc rs=(rs.take rs.length).filter (λr=>!rC r):=(by rw[Aca];rfl);have y:(Rc rs).length=i:=(by rw[N];exact HL.out);refine⟨⟨by simp,Aab ⟨g,cap,Pd,by rw[y],Aao _,k1,by rw[y];omega,hm,?_,?_⟩⟩,rfl,kR.1.mono λb e=>by rw[e];rfl,kR.2⟩
      ·have:Pd.toList.length=cap:=(by rw[k2];simp;omega);simpa using this
      ·rw[y,AcJ,k2,AaI,Adh (by rw[Aaz,TI];omega),g3,N]
     generalize wr.setCells g i (List.replicate (rs.length-i) (U O))=w9 at XQ A;have i3:(0:Int)<=(i:Int):=(by omega);have i4:(i:Int)<=(rs.length:Int):=(by omega);have i5:¬cap=i:=(by omega);have i6:i<=cap:=(by omega);have i7:i<=rs.length:=(by omega);clear g1 g2 g3 g4 k1 k2 kR;go_wp2_with fail;go_ret;exact⟨_,rfl,A.out⟩
theorem LK (hs:(plain rs).Pairwise (λa b=>a.1<b.1)){r:FR}(hh:kP (plain rs) n=true)(hr:rs[fF (plain rs) n]?=M r)(b:ByteArray):nN (plain rs) n b=(n,r.f.2.1++b,r.f.2.2):=by
 unfold nN;rw[Pe hs,hh,hr];rfl
theorem new2G (w:F)(o1 o2:Obj):aL w ((w.alloc o1).alloc o2).drew:=aL.drew (aL.alloc (aL.alloc (aL.refl w) _) _)
def MvAt (w w3:F)(db g cap c5 bx b2:Nat)(s:Sc)(rs:List FR)(lo:Nat)(r:FR)(t2:Int):Prop:=
 aU w3 db s (Z (M ⟨g,0,O⟩) (rs.eraseIdx lo).length c5) (rs.eraseIdx lo)/\iB w3 (r.b,r.v,(t2,r.f.2.1,r.f.2.2))/\Fr w w3 (DX db (Z (M ⟨g,0,O⟩) rs.length cap) rs)/\(w3.os=w.os/\w3.tape=w.tape/\w3.output=w.output)/\
 w3.heap[bx]?=M (C #[U (M ⟨db,0,O⟩)] 111 (0,0))/\w3.heap[b2]?=M (C #[I V t2] 3 (0,0))
def JD (w:F)(ao:Option Addr)(l:List gJ):Prop:=
 (l=[]\/∃b off,ao=M ⟨b,off,O⟩/\∀j u,(Lp l)[j]?=M u->w.cell? ⟨b,off+j,O⟩=M u)/\∀a,ao=M a->∃aR,w.heap[a.block]?=M (C aR 248 (0,0))
theorem JD.fr {l:List gJ}(h:JD w ao l)(hF:Fr w w' X)(hx:∀b aR,w.heap[b]?=M (C aR 248 (0,0))->¬X b):JD w' ao l:=by
 obtain⟨d,g⟩:=h;refine⟨?_,λa e=>?_⟩
 ·rcases d with d|⟨b,off,e,k⟩
  ·exact Aac d
  ·refine Aab ⟨b,off,e,λj u i=>?_⟩;obtain⟨aR,c⟩:=g _ e;have n:=hF.2 b (aM c) (hx _ _ c);exact(AaN n).trans (k j u i)
 ·obtain⟨aR,c⟩:=g a e;exact⟨aR,hF.at c (hx _ _ c)⟩
theorem JD.aN {l:List gJ}(h:JD w ao l)(hg:aL w w'):JD w' ao l:=h.fr (Fr.bK hg (λ_=>False)) (λ_ _ _=>id)
def dV (w:F)(x:bT)(l:List Ed):Prop:=∃raw:List gJ,JD w x.1 raw/\x.2.1=raw.length/\(xJ x.1 x.2.1 x.2.2/\x.2.1<=x.2.2)/\raw.length=l.length/\∀(i:Nat) (r:gJ) (e:Ed),raw[i]?=M r->l[i]?=M e->sI w r e
theorem dV.aN {l:List Ed}(h:dV w x l)(hg:aL w w'):dV w' x l:=by
 obtain⟨c,g,k,d,j,n⟩:=h;exact⟨c,g.aN hg,k,d,j,λi r e a b=>(n i r e a b).aN hg⟩
theorem dV.fr {l:List Ed}(h:dV w x l)(hF:Fr w w' X)(hx:∀b aR,w.heap[b]?=M (C aR 50 (0,0))->¬X b)(hy:∀b aR,w.heap[b]?=M (C aR 248 (0,0))->¬X b):dV w' x l:=by
 obtain⟨c,j,n,g,k,d⟩:=h;exact⟨c,j.fr hF hy,n,g,k,λi r e a b=>⟨(d i r e a b).1,(d i r e a b).2.1.fr hF hx,(d i r e a b).2.2.fr hF hx⟩⟩
def qM (depth:Int)(tb:Nat)(cnt:Int)(u r:bT)(done buf:Int):Obj:=C #[I V depth,U (M ⟨tb,0,O⟩),I V cnt,u.v,r.v,I V done,I V buf] 165 (0,0)
def aW (w:F)(dp tb:Nat)(depth:Nat)(m:dI):Prop:=∃u r:bT,w.heap[dp]?=M (qM (depth:Int) tb (m.1.length:Int) u r m.2.2.2.1 m.2.2.2.2)/\cK w tb m.1/\dV w u m.2.1/\dV w r m.2.2.1
theorem cZ {depth cnt done buf:Int}{u r:bT}(h:w.heap[dp]?=M (qM depth tb cnt u r done buf)):
 w.cell? ⟨dp,0,O⟩=M (I V depth)/\w.cell? ⟨dp,1,O⟩=M (U (M ⟨tb,0,O⟩))/\w.cell? ⟨dp,2,O⟩=M (I V cnt)/\w.cell? ⟨dp,3,O⟩=M u.v/\w.cell? ⟨dp,4,O⟩=M r.v/\w.cell? ⟨dp,5,O⟩=M (I V done)/\w.cell? ⟨dp,6,O⟩=M (I V buf)/\∀j,w.frozen? ⟨dp,j,O⟩=false:=by
 simp[World.cell?,World.frozen?,h,qM]
theorem aW.aN {depth:Nat}(h:aW w dp tb depth m)(hg:aL w w'):aW w' dp tb depth m:=by
 obtain⟨u,r,d,g,c,e⟩:=h;have a:=Fr.bK hg (λ_=>False);exact⟨u,r,a.at d id,g.fr a id (λ_ _ _ _ _ _ _=>id),c.aN hg,e.aN hg⟩
theorem aL.then {a b c:F}(h1:aL a b)(h2:aL b c):aL a c:=aQ h1 h2
theorem keepD (h1:w0.cell? a1=M v1)(h2:w0.cell? a2=M v2)(h3:w0.cell? a3=M v3)(h4:w0.cell? a4=M v4)(h:aL w0 w):w.cell? a1=M v1/\w.cell? a2=M v2/\w.cell? a3=M v3/\w.cell? a4=M v4/\aL w0 w:=⟨h.cell h1,h.cell h2,h.cell h3,h.cell h4,h⟩
theorem Dk.iA (h:w.grownBy w1 (M tb))(hx:X tb):Dk w w1 X X:=⟨(Fr.iA h).mono λb e=>by cases e;exact hx,⟨h.os,h.tape,h.output⟩,λ_ a=>Aac a⟩
theorem Dk.set (h:Dk w w1 X X)(hg:X g):Dk w (w1.setCell ⟨g,i,O⟩ v) X X:=h.trans ⟨(Fr.set w1 ⟨g,i,O⟩ v).mono λb e=>by rw[e];exact hg,⟨rfl,rfl,rfl⟩,λ_ a=>Aac a⟩
theorem Fp (h:∀p∈l,Jy p):0<=sz l/\sz l<=(l.length:Int)*4294967296:=by
 induction l with
 |nil=>simp[sz]
 |cons p l g=>
  obtain⟨a,b⟩:=g (λq e=>h q (by simp[e]));obtain⟨_,_,c,d⟩:=h p (by simp);simp only[sz,Aan];omega
theorem MO (h:∀p∈l,Jy p)(hlen:l.length<=9000)(k:Nat):0<=sz (l.take k)/\sz (l.take k)<=38654705664000:=by
 obtain⟨a,b⟩:=Fp (l:=l.take k) (λp c=>h p (Aba c));have d:(l.take k).length<=9000:=by rw[Aaz];omega
 omega
theorem mW.lt {r:Sn}(h:mW w g S r):g<w.heap.size:=by
 obtain⟨i,c,d,a⟩:=h;exact aM a
theorem mW.grown {w5:F}{r:Sn}{row:Option Nat}(h:mW w5 g S r)(hg:(w5.alloc o).grownBy w6 row)(hr:∀k,row=M k->B<=k)(hB:g<B):mW w6 g S r:=by
 obtain⟨i,j,d,a⟩:=h;have c:=aM a;refine⟨i,j,d,?_⟩;rw[hg.block g (by simp;omega) (λe=>by have:=hr g e.symm;omega),Abz w5 o c];exact a
theorem sI.fr {r:gJ}(h:sI w r e)(hF:Fr w w' X)(hx:∀b aR,w.heap[b]?=M (C aR 50 (0,0))->¬X b):sI w' r e:=⟨h.1,h.2.1.fr hF hx,h.2.2.fr hF hx⟩
theorem gP.fr {l:List Ed}(h:gP w raw l)(hF:Fr w w' X)(hx:∀b aR,w.heap[b]?=M (C aR 50 (0,0))->¬X b):gP w' raw l:=⟨h.1,λi r e a b=>(h.2 i r e a b).fr hF hx⟩
theorem bJ.og {r:Sn}(h:bJ w x l)(hs:mW w g S r)(ho:Og w w' g):bJ w' x l:=h.fr ho.1 (Pt hs)
theorem gP.og {r:Sn}{l:List Ed}(h:gP w raw l)(hs:mW w g S r)(ho:Og w w' g):gP w' raw l:=h.fr ho.1 (Pt hs)
theorem vU.og {l:List gJ}(h:vU w B v l)(ho:Og w w' g)(hg:g<B):vU w' B v l:=
 bE h ho.1 (λb c a _ e=>by have:=(AaB h b a).1;omega)
theorem eds_next {r:Sn}(h:r.2=false):yO (k+1) size r=(((bI r).1,(dS size (bI r).2).1,(dS size (dS size (bI r).2).2).1)::(yO k size (dS size (dS size (bI r).2).2).2).1,(yO k size (dS size (dS size (bI r).2).2).2).2):=by
 rw[yO,Aaa (by rw[h];simp)]
def Rn (N k:Nat)(size:Int)(r0 rk:Sn)(out:List Ed):Prop:=out.length=k/\k<=N/\yO N size r0=(out++(yO (N-k) size rk).1,(yO (N-k) size rk).2)
theorem Rn.done (h:Rn N k size r0 rk out)(hd:N<=k\/rk.2=true):yO N size r0=(out,rk):=by
 obtain⟨c,d,a⟩:=h;rw[a];rcases hd with hd|hd
 ·rw[show N-k=0 from by omega];simp[yO]
 ·rw[uU _ _ _ hd];simp
theorem Rn.next (h:Rn N k size r0 rk out)(hk:k<N)(hb:rk.2=false):
 Rn N (k+1) size r0 (dS size (dS size (bI rk).2).2).2 (out++ [((bI rk).1,(dS size (bI rk).2).1,(dS size (dS size (bI rk).2).2).1)]):=by
 obtain⟨a,d,c⟩:=h;refine⟨by simp[a],by omega,?_⟩;rw[c,show N-k=(N-(k+1))+1 from by omega,eds_next hb];simp
end Go.Proofs.YtfplgfodoiiobabGreatDoor
