/- a part of the proof. -/
import Derived.Test.YtfplgfodoiiobabGreatDoorJ15
import Derived.Test.YtfplgfodoiiobabGreatDoorJ16
open Option renaming none->O,some->M
open Go.Value renaming int->I,slice->Z,pointer->U
open Go.IntKind renaming i64->V
open Go.Obj renaming cells->C
open Go.Ending renaming returned->G
open Go renaming World->F,Value->Y,Calls->H
open Go.Proofs.Tryz renaming prog→K
open Go.Proofs.Tryz
namespace Go.Proofs.YtfplgfodoiiobabGreatDoor
set_option maxHeartbeats 4000000
set_option maxRecDepth 100000
open Go.RowKit
open Go.RowKit Go.Extern.Stop Go.Stop Go.Extern
variable {w w' w1 W W':F}{ps:Nat->Addr}{g sb k:Nat}{st:Option (List UInt8)}{bf n dn:Int}{x u r:bT}{t:List (Int×Int)}{ul rl l:List Ed}{v:Y}
theorem YI (h:dV w x l)(hl:l.length<=1000000)(Ny:0<=n)(hn:n<=5000)(ho:∀e∈l,fC e.2.1/\fC e.2.2/\e.2.1.length<=10000/\e.2.2.length<=10000):
 H K 161 #[I V n,x.v] w λe w'=>e=G (.bool (qO n l))/\aL w w':=by
 obtain⟨xo,xn,xc⟩:=x;have A:=h.len;simp only at A;have HR:Hid (∀(k:Nat) (e:Ed),l[k]?=M e->∃(b off:Nat) (r:gJ),xo=M ⟨b,off,O⟩/\w.cell? ⟨b,off+k*3,O⟩=M (I V r.1)/\w.cell? ⟨b,off+k*3+1,O⟩=M r.2.1.v/\w.cell? ⟨b,off+k*3+2,O⟩=M r.2.2.v/\sI w r e):=λk e z=>h.nth z;have HB:Hid (∀W (x:bT) (l:List (Int×Int)),bJ W x l->fC l->l.length<=10000->H K 160 #[x.v] W λe w'=>e=G (I V (sz l))/\aL W w'):=λW x l h1 h2 h3=>wW h1 h2 (by omega)
 have j_:Hid (∀e∈l,(fC e.2.1/\fC e.2.2/\e.2.1.length<=10000/\e.2.2.length<=10000)/\(0<=sz e.2.1/\sz e.2.1<=100000000)/\(0<=sz e.2.2/\sz e.2.2<=100000000)):=λe z=>by
  obtain⟨a,b,c,d⟩:=ho e z;have b1:=oP a e.2.1.length;have b2:=oP b e.2.2.length;rw[Aca]at b1 b2;exact⟨⟨a,b,c,d⟩,⟨rY a,by omega⟩,⟨rY b,by omega⟩⟩
 subst A;simp only[bT.v];clear h ho;go_enter func161,ntmps161;go_wp2_with fail
 go_loopw [0,6,7,10] (λc _ _ i wr=> ∃(k:Nat) (g:Int),k<=l.length/\c=I V g/\i=I V (k:Int)/\(0<=g/\g<=5000)/\Hid (qO n l=qO g (l.drop k))/\Hid (aL w wr)) (λ_ _ _ i _=>l.length-(intOf i).toNat)
 case atStart=>exact⟨0,n,Aao _,rfl,rfl,⟨Ny,hn⟩,rfl,aL.refl w⟩
 case round=>
  obtain⟨k,g,hk,rfl,rfl,⟨a0,Fs⟩,HF,y⟩:=hrel;by_cases bQ:k<l.length
  ·obtain⟨e,z⟩:∃e,l[k]?=M e:=⟨_,Aaf bQ⟩;obtain⟨b,off,r,rfl,d1,d2,d3,S⟩:=HR.out k e z;have d1:=y.out.cell d1;have d2:=y.out.cell d2;have d3:=y.out.cell d3;have i1:(0:Int)<=(k:Int):=(by omega);have i2:(k:Int)<(l.length:Int):=(by omega);obtain⟨⟨o1,o2,o3,o4⟩,⟨s1,s2⟩,⟨s3,s4⟩⟩:=j_.out e (Aai z);have hF:=HF.out;rw[qf z]at hF;have Q:Hid (∀W,aL wr W->H K 160 #[r.2.1.v] W λB w'=>B=G (I V (sz e.2.1))/\aL W w'):=λW L=>HB.out W _ _ ((S.2.1.aN y.out).aN L) o1 o3;have EU:Hid (∀W,aL wr W->H K 160 #[r.2.2.v] W λB w'=>B=G (I V (sz e.2.2))/\aL W w'):=λW L=>HB.out W _ _ ((S.2.2.aN y.out).aN L) o2 o4;have J:=S.1;obtain⟨r1,⟨x1,x2,x3⟩,⟨y1,y2,y3⟩⟩:=r;simp only at J;subst J;simp only[bT.v]at d2 d3 Q EU;have E:Hid _:=hF;generalize sz e.2.1=o at*;generalize sz e.2.2=sb at*;generalize e.1=p at*;clear hF HF z S HB j_ o1 o2 o3 o4;go_upto_region 4 with fail;have rR:=Aag wr (C #[I V p,Z x1 x2 x3,Z y1 y2 y3] 248);have j:Hid (aL wr (wr.alloc (C #[I V p,Z x1 x2 x3,Z y1 y2 y3] 248))):=(aL.refl wr).alloc _;generalize (wr.alloc _)=R at*
   have X:Hid (∀W,aL R W->W.cell? ⟨wr.heap.size,0,O⟩=M (I V p)/\W.cell? ⟨wr.heap.size,1,O⟩=M (Z x1 x2 x3)/\W.cell? ⟨wr.heap.size,2,O⟩=M (Z y1 y2 y3)):=λW L=>by
    obtain⟨a,b,c,-⟩:=iY ((L.block _ (aM rR)).trans rR);exact⟨a,b,c⟩
   obtain⟨q0,q1,q2⟩:=X.out R (aL.refl R);have P:=Q.out R j.out;clear rR;by_cases N:p<0\/g-o<p
   ·have t:Hid (qO n l=false):=(by show _=_;rw[E.out,Aad N]);clear E;go_upto_region 5 with(go_at_call 160;refine P.mono ?_;rintro B D ⟨rfl,u⟩;obtain⟨z0,z1,z2⟩:=X.out D u);by_cases c2:p<0
    ·go_wp2_with fail;go_ret;exact⟨by first|(rw[t.out];done)|(rw[t.out];rfl),y.out.then (j.out.then u)⟩
    ·have c3:g-o<p:=(by omega);have c4:wrap64 (g-o)=g-o:=(by unfold wrap64;omega);go_wp2_with fail;go_ret;exact⟨by first|(rw[t.out];done)|(rw[t.out];rfl),y.out.then (j.out.then u)⟩
   ·have c2:¬p<0:=(by omega);have c3:¬g-o<p:=(by omega);have c5:g-o+sb=g+(sb-o):=(by omega);by_cases c6:5000<g+(sb-o)
    ·have t:Hid (qO n l=false):=(by show _=_;rw[E.out,Aaa N,Aad c6]);clear E N;go_wp2_with (first|(go_at_call 160;refine P.mono ?_;rintro B D ⟨rfl,u⟩;obtain⟨z0,z1,z2⟩:=X.out D u;have fQ:=EU.out D (j.out.then u);clear P)|(go_at_call 160;refine fQ.mono ?_;rintro B w5 ⟨rfl,eY⟩));go_ret;exact⟨by first|(rw[t.out];done)|(rw[t.out];rfl),y.out.then (j.out.then (u.then eY))⟩
    ·have t:Hid (qO n l=qO (g+(sb-o)) (l.drop (k+1))):=(by show _=_;rw[E.out,Aaa N,Aaa c6]);have c7:0<=g+(sb-o):=(by omega);have c8:g+(sb-o)<=5000:=(by omega);clear E N;go_wp2_with (first|(go_at_call 160;refine P.mono ?_;rintro B D ⟨rfl,u⟩;obtain⟨z0,z1,z2⟩:=X.out D u;have fQ:=EU.out D (j.out.then u);clear P)|(go_at_call 160;refine fQ.mono ?_;rintro B w5 ⟨rfl,eY⟩));go_roundw
     case rel=>exact⟨k+1,g+(sb-o),by omega,by go_num,by go_num,⟨c7,c8⟩,t,(show aL w _ from y.out.then (j.out.then (u.then eY)))⟩
     case measure=>simp[intOf];omega
  ·have e1:l.drop k=[]:=AcB (by omega);have t:Hid (qO n l=true):=(by show _=_;rw[HF.out,e1];rfl);clear HF e1;go_wp2_with fail;go_ret;exact⟨by first|(rw[t.out];done)|(rw[t.out];rfl),y.out⟩
theorem Gl.fr {X:Nat->Prop}(h:Gl w ps)(hF:Fr w w' X)(h1:∀b aR,w.heap[b]?=M (C aR 119 (0,0))->¬X b)(h2:∀b aR t,Pv t->w.heap[b]?=M (C aR t (0,0))->¬X b)(h3:∀b aR,w.heap[b]?=M (C aR 270 (0,0))->¬X b)(h4:∀b aR,w.heap[b]?=M (C aR 327 (0,0))->¬X b):Gl w' ps:=
 ⟨h.yQ.fr hF h1,λk e=>by obtain⟨c,t,d,a⟩:=h.box k e;exact⟨c,t,hF.at d (h2 _ _ _ a d),a⟩,hF.at h.errT (h3 _ _ h.errT),hF.at h.tab (h4 _ _ h.tab)⟩
theorem Gl.aN (h:Gl w ps)(hg:aL w w'):Gl w' ps:=h.fr (Fr.bK hg (λ_=>False)) (λ_ _ _=>id) (λ_ _ _ _ _=>id) (λ_ _ _=>id) (λ_ _ _=>id)
theorem Gl.og (h:Gl w ps)(hr:eG w g st bf ps)(ho:Og w w' g):Gl w' ps:=by
 obtain⟨e,d⟩:=hr.wX;exact h.fr ho.1 (λb c a=>aZ a d (by decide)) (λb c t g a=>aZ a d (g.ne (by decide))) (λb c a=>aZ a d (by decide)) (λb c a=>aZ a d (by decide))
theorem yD {lo hi:Int}{s:ByteArray}(h:eG w g st bf ps)(hG:Gl w ps):
 H K 156 #[U (M ⟨g,0,O⟩),.string s,I V lo,I V hi] w λe w'=>e=G (I V (aT lo hi st).1)/\eG w' g (aT lo hi st).2 bf ps/\Og w w' g:=by
 cases st with
 |none=>
  have B:Hid (∀(right:Bool),H K 159 #[U (M ⟨g,0,O⟩),.string s,.bool right] w λe w'=>e=G (.tuple #[])/\eG w' g O bf ps/\Og w w' g):=λright=>(Kt (right:=right) h hG).mono (by
   rintro e w' ⟨a,b,c⟩;have:jB right O=O:=(by unfold jB;cases right<;>rfl);rw[this]at b;exact⟨a,b,c⟩)
  obtain⟨A,n,c,t,b0,X,-,-⟩:=Wn.cells h;clear h hG;go_enter func156,ntmps156;go_wp2_with (go_at_call 159;refine(B.out _).mono ?_;rintro e w4 ⟨rfl,i,z⟩;obtain⟨_,_,_,t4,b4,-,-,k4⟩:=Wn.cells i);go_ret;exact⟨rfl,i,z⟩
 |some l=>
  obtain⟨b,off,c,X,-,c2,hc,cf,S⟩:=zP.cells h;by_cases hl:l.length<4
  ·have B:Hid (H K 159 #[U (M ⟨g,0,O⟩),.string s,.bool false] w λe w'=>e=G (.tuple #[])/\eG w' g O bf ps/\Og w w' g):=Kt (right:=false) h hG;have j:Hid (aT lo hi (M l)=(0,O)):=(by show _=_;simp[aT,hl]);have a1:¬(4:Int)<=(l.length:Int):=(by omega);clear h hG S;go_enter func156,ntmps156;go_wp2_with (go_at_call 159;refine B.out.mono ?_;rintro e w4 ⟨rfl,i,z⟩;obtain⟨_,_,_,t4,b4,-,-,k4⟩:=Wn.cells i);go_ret;rw[j.out];exact⟨rfl,i,z⟩
  ·have a1:(4:Int)<=(l.length:Int):=(by omega);have a3:=mJ l;have B:Hid (H K 159 #[U (M ⟨g,0,O⟩),.string s,.bool true] w λe w'=>e=G (.tuple #[])/\zP w' g l bf/\Og w w' g):=Kt (right:=true) h hG;have Ht:Hid (∀W,Og w W g->Gl W ps):=λW o=>hG.og h o
   have HN:Hid (∀W b off c,pX W (M ⟨b,off,O⟩) l->H K 206 #[Z (M ⟨b,off,O⟩) l.length c] W λe w'=>e=G (I .u32 (iJ l))/\aL W w'):=λW b off c o=>(Om o (by omega) (by omega)).mono (by
    rintro e w' ⟨rfl,q,rfl⟩;exact⟨rfl,bC (aL.refl W) q⟩)
   have HD:Hid (∀W,zP W g l bf->∃b off c,W.cell? ⟨g,0,O⟩=M (Z (M ⟨b,off,O⟩) l.length c)/\W.frozen? ⟨g,0,O⟩=false/\l.length<=c/\∀A,A=(if c=4 then M ⟨b,off,O⟩else M ⟨b,off+4,O⟩)->zP (W.setCell ⟨g,0,O⟩ (Z A (l.length-4) (c-4))) g (l.drop 4) bf/\Og W (W.setCell ⟨g,0,O⟩ (Z A (l.length-4) (c-4))) g):=λW o=>by
    obtain⟨b,off,c,hb,hc,S,ht⟩:=o;obtain⟨X,c1,c2,cf⟩:=mU hb;exact⟨b,off,c,X,cf 0,hc,λA ha=>zP.drop hb hc S ht (by omega) A ha⟩
   have j:Hid (aT lo hi (M l)=if iJ l<lo\/hi<iJ l then (0,O)else (iJ l,M (l.drop 4))):=by show _=_;simp only[aT];rw[Aaa hl]
   have L:Hid (∀W,zP W g (l.drop 4) bf->Og w W g->H K 159 #[U (M ⟨g,0,O⟩),.string s,.bool false] W λe w'=>e=G (.tuple #[])/\eG w' g O bf ps/\Og w w' g):=λW o hO=>(Kt (right:=false) (st:=M (l.drop 4)) o (Ht.out W hO)).mono (by
    rintro e w' ⟨a,b,c⟩;exact⟨a,b,hO.trans c⟩)
   clear h hG S;go_enter func156,ntmps156;go_upto_region 4 with(go_at_call 159;refine B.out.mono ?_;rintro e w4 ⟨rfl,i,z⟩;obtain⟨b4,R,c4,k0,-,k2,kc,kf,kr⟩:=zP.cells i);have J:=HN.out w4 b4 R c4 kr;have N:Hid _:=i;clear i kr X c2;generalize iJ l=D at*;have XK:wrap64 D=D:=(by unfold wrap64;omega);go_upto_region 5 with(go_at_call 206;refine J.mono ?_;rintro e w5 ⟨rfl,eY⟩);have Dv:=eG.aN (st:=M l) (ps:=ps) N.out eY;obtain⟨b5,k,c5,k5,a0,a2,E⟩:=HD.out w5 Dv;have P:Hid (Og w w5 g):=z.aN eY;have Q:Hid _:=E;clear E Dv J k0 k2 kf eY z N B HN HD;go_upto_region 6 with fail;obtain⟨q5,q6⟩:=Q.out _ rfl;have r:Hid _:=q5;have u:Hid _:=P.out.trans q6;clear Q q5 q6 k5 a0 P;generalize (if c5=4 then M (⟨b5,k,O⟩:Addr)else M ⟨b5,k+4,O⟩)=Yk at*;generalize (w5.setCell _ _)=w6 at*;by_cases vJ:D<lo
   ·have d:Hid (aT lo hi (M l)=(0,O)):=(by show _=_;rw[j.out,Aad (Aac vJ)]);have y:=L.out w6 r.out u.out;clear j;go_wp2_with (go_at_call 159;refine y.mono ?_;rintro e w7 ⟨rfl,UA,x⟩);go_ret;rw[d.out];exact⟨rfl,UA,x⟩
   ·by_cases zH:hi<D
    ·have d:Hid (aT lo hi (M l)=(0,O)):=(by show _=_;rw[j.out,Aad (Aab zH)]);have y:=L.out w6 r.out u.out;clear j;go_wp2_with (go_at_call 159;refine y.mono ?_;rintro e w7 ⟨rfl,UA,x⟩);go_ret;rw[d.out];exact⟨rfl,UA,x⟩
    ·have d:Hid (aT lo hi (M l)=(D,M (l.drop 4))):=(by show _=_;rw[j.out,Aaa (by omega)]);clear j
     go_wp2
     go_ret;rw[d.out];exact⟨rfl,r.out,u.out⟩
theorem Gl.own {wr w5:F}{B:Nat}{t:TypeId}{n:Nat}{cs:List Y}{o:Obj}(h:Gl wr ps)(bB:wr.ownsRow B t n v k cs)(ht:t=50\/t=248)(hg:(wr.alloc o).grownBy w5 v.ownBlock):Gl w5 ps:=by
 have x:=mM hg
 have d:∀(b:Nat) (j:Array Y) (i:TypeId) (f:Nat×Nat),wr.heap[b]?=M (C j i f)->i≠50->i≠248->¬(v.ownBlock=M b):=λb j i f a u w e=>by
  obtain⟨c,r⟩:=iH bB e;rcases ht with rfl|rfl
  ·exact aZ a r u rfl
  ·exact aZ a r w rfl
 exact h.fr (Fr.iA x) (λb c a=>d _ _ _ _ a (by decide) (by decide)) (λb c t g a=>d _ _ _ _ a (g.ne (by decide)) (g.ne (by decide))) (λb c a=>d _ _ _ _ a (by decide) (by decide)) (λb c a=>d _ _ _ _ a (by decide) (by decide))
theorem Wp (h:eG w g st bf ps)(hG:Gl w ps)(Cr:0<=bf)(eO:bf<=1000000000):
 H K 157 #[U (M ⟨g,0,O⟩)] w λe w'=> ∃x1 x2 x3,e=G (Z x1 x2 x3)/\bJ w' (x1,x2,x3) (aS bf st).1/\eG w' g (aS bf st).2 bf ps/\Og w w' g:=by
 have Dm:g<w.heap.size:=by obtain⟨c,hc⟩:=h.wX;exact aM hc
 have MZ:Hid (∀W z,eG W g z bf ps->Gl W ps->∀lo hi (s:ByteArray),H K 156 #[U (M ⟨g,0,O⟩),.string s,I V lo,I V hi] W λe w'=>e=G (I V (aT lo hi z).1)/\eG w' g (aT lo hi z).2 bf ps/\Og W w' g/\Gl w' ps):=λW z j R lo hi s=>(yD j R).mono (by
  rintro e w' ⟨a,b,c⟩;exact⟨a,b,c,R.og j c⟩)
 have r:Hid (∀W z,eG W g z bf ps->Gl W ps->∀(s:ByteArray) (d:Bool),H K 159 #[U (M ⟨g,0,O⟩),.string s,.bool d] W λe w'=>e=G (.tuple #[])/\eG w' g (jB d z) bf ps/\Og W w' g/\Gl w' ps):=λW z j R s d=>(Kt j R).mono (by
  rintro e w' ⟨a,b,c⟩;exact⟨a,b,c,R.og j c⟩)
 have Ny:=MZ.out w st h hG 0 4096 ⟨#[104,111,119,32,109,97,110,121,32,112,105,101,99,101,115]⟩;have JC:Hid (∀N:Nat,(aT 0 4096 st).1=(N:Int)->((aT 0 4096 st).2=O->(aT 0 4096 st).1=0)->FM bf N 0 [] (aT 0 4096 st).2 (aS bf st)):=λN P h0=>⟨λe=>⟨by have:=h0 e;omega,rfl,by unfold aS;rw[e]⟩,λl e=>by unfold aS;rw[e,P];rfl⟩
 have a9:(aT 0 4096 st).1<=4096:=by
  cases hs:(aT 0 4096 st).2 with
  |some l=>exact(wY hs).2.1
  |none=>
   cases st with
   |none=>simp[aT]
   |some l=>
    simp only[aT]at hs ⊢;split
    ·simp
    ·rename_i y;rw[Aaa y]at hs;split
     ·simp
     ·rename_i o;rw[Aaa o]at hs;cases hs
 have a6:=(zF 0 4096 st).1
 have a0:(aT 0 4096 st).2=O->(aT 0 4096 st).1=0:=λe=>by
  cases st with
  |none=>simp[aT]
  |some l=>
   simp only[aT]at e ⊢;split
   ·rfl
   ·rename_i y;rw[Aaa y]at e;split
    ·rfl
    ·rename_i o;rw[Aaa o]at e;cases e
 obtain⟨N,P⟩:=AbC a6;have b1:Hid (FM bf N 0 [] (aT 0 4096 st).2 (aS bf st)):=JC.out N P a0;rw[P]at Ny a9;generalize (aT 0 4096 st).2=S at*;clear P a0 a6 h hG JC;have HB:Hid (∀W (x:bT) (l:List (Int×Int)),bJ W x l->fC l->l.length<=10000->H K 160 #[x.v] W λe w'=>e=G (I V (sz l))/\aL W w'):=λW x l y o h3=>wW y o (by omega);go_enter func157,ntmps157;go_wp2_with (go_at_call 156;refine Ny.mono ?_;rintro e w1 ⟨rfl,vJ,Al,mh⟩);have Ua:Hid (eG w1 g S bf ps/\Og w w1 g/\Gl w1 ps):=⟨vJ,Al,mh⟩;clear vJ Al mh Ny
 go_loopw [3,4,5,8] (λv _ _ i wr=> ∃(out:List (Int×Int)) (D:Option (List UInt8)),i=I V (out.length:Int)/\out.length<=N/\Hid (FM bf N out.length out D (aS bf st))/\Hid (eG wr g D bf ps/\Og w wr g/\Gl wr ps)/\Hid (fH wr w.heap.size v out/\fC out)) (λ_ _ _ i _=>N-(intOf i).toNat)
 case atStart=>exact⟨[],S,rfl,Aao _,b1,Ua,AaH _ _ _ _,λq hq=>by simp at hq⟩
 case round=>
  obtain⟨out,D,rfl,hk,HP,n,L⟩:=hrel;by_cases bQ:out.length<N
  ·have Wj:(out.length:Int)<(N:Int):=(by omega);have tY:=AaJ bQ;cases D with
   |none=>have:=(HP.out.1 rfl).1;omega
   |some l=>
    obtain⟨Q,p2⟩:=HP.out.next bQ;have b3:=n.out.1.bf;have Lj:=MZ.out wr (M l) n.out.1 n.out.2.2 0 bf ⟨#[97,110,32,111,102,102,115,101,116]⟩;have Yb:Hid (∀W,eG W g (aT 0 bf (M l)).2 bf ps->Gl W ps->_):=λW y o=>MZ.out W _ y o 1 5000 ⟨#[97,32,108,101,110,103,116,104]⟩;have a5:Hid (∀W,eG W g (aT 1 5000 (aT 0 bf (M l)).2).2 bf ps->Gl W ps->∀d,_):=λW y o d=>r.out W _ y o ⟨#[116,104,101,32,101,110,100,32,111,102,32,97,32,112,105,101,99,101]⟩ d;have ba:=zF 0 bf (M l);have bb:=zF 1 5000 (aT 0 bf (M l)).2;have X:=λl'=>Wo (bf:=bf) (l:=l) (l':=l');have a7:Hid (vC bf l=(((aT 0 bf (M l)).1,(aT 1 5000 (aT 0 bf (M l)).2).1),jB (decide ((aT 0 bf (M l)).1+(aT 1 5000 (aT 0 bf (M l)).2).1<=bf)) (aT 1 5000 (aT 0 bf (M l)).2).2)):=rfl;rw[a7.out]at Q p2 X;simp only at Q p2 X;generalize (aT 1 5000 (aT 0 bf (M l)).2).2=st5 at*;generalize (aT 1 5000 (aT 0 bf (M l)).2).1=b at*;generalize (aT 0 bf (M l)).2=b8 at*;generalize (aT 0 bf (M l)).1=a at*;obtain⟨nX,lQ,ev,-⟩:=fH.form L.out.1;subst ev;have B:Hid (Og w wr g):=n.out.2.1;clear a7 HP n MZ r;have b9:Hid True:=trivial
    go_upto_region 7 with(first
     |(go_at_call 156;refine Lj.mono ?_;clear Lj;rintro e w4 ⟨rfl,Ia,Dn,oD⟩;have Oi:=Yb.out w4 Ia oD)
     |(go_at_call 156;refine Oi.mono ?_;clear Oi;rintro e w5 ⟨rfl,Dv,QO,eY⟩;have a4:=Dv.bf;have Nw:=a5.out w5 Dv eY (decide (a+b<=bf)))
     |(go_at_call 159;refine Nw.mono ?_;clear Nw;rintro e w6 ⟨rfl,A,o_,vZ⟩))
    have t:Hid _:=(Dn.trans QO).trans o_;clear Yb a5 Ia Dv Dn QO o_ oD eY b3 a4;cases J:jB (decide (a+b<=bf)) st5 with
    |none=>
     rw[J]at A;have HE:Hid _:=Q J;obtain⟨_,_,_,t6,b6,-,-,k6⟩:=Wn.cells A;have E:Hid _:=A;clear A Q p2 X J
     go_wp2
     go_ret;rw[HE.out];exact⟨O,0,0,rfl,wF _,E.out,B.out.trans t.out⟩
    |some l'=>
     rw[J]at A;have LH:Hid (FM bf N (out.length+1) (out++ [(a,b)]) (M l') (aS bf st)):=p2 l' J;obtain⟨q1,q2,q3,q4⟩:=X l' J;obtain⟨_,_,_,-,-,k6,-⟩:=zP.cells A;have E:Hid (eG w6 g (M l') bf ps):=A;have u:Hid _:=L.out.1.og t.out Dm;have j_:Hid (fC (out++ [(a,b)])):=iO L.out.2 (λq hq=>by simp at hq;subst hq;unfold nQ;simp only;omega);have b5:=(B.out.trans t.out).1.1;have b7:out.length<=4096:=(by omega);clear A Q p2 X J;go_wp2_with (at_builtin;go_must (refine fO (by rfl) (.tmp 33) (.tmp 37) (by rfl) w.heap.size _ out [(a,b)] (by rfl) (by exact Aax u.out _) _ _ _ (by rfl) (by rfl) (by intro e;cases e) (by exact Aq w6 a b) (by simp only[Abj];omega) (by simp;omega) ?_);intro v7 w7 vX oZ);have HF:Hid ((eG w7 g (M l') bf ps/\Og w w7 g/\Gl w7 ps)/\fH w7 w.heap.size v7 (out++ [(a,b)])/\fC (out++ [(a,b)])):=⟨⟨E.out.own u.out (Aac rfl) oZ,(B.out.trans t.out).own (Aak _) u.out oZ,vZ.own u.out (Aac rfl) oZ⟩,vX,j_.out⟩;clear vX oZ;go_roundw
     case rel=>exact⟨out++ [(a,b)],M l',by simp,by simp;omega,by simpa using LH,HF.out.1,HF.out.2⟩
     case measure=>simp[intOf];omega
  ·have Wj:¬(out.length:Int)<(N:Int):=(by omega);have tY:=AaM bQ;have b0:N=out.length:=by omega
   have HE:Hid (aS bf st=(out,jB (decide (sz out<=5000)) D)):=by
    have:=HP.out;rw[b0]at this;exact this.done
   obtain⟨nX,lQ,ev,Pf,b2⟩:=nK.jR L.out.1;subst ev;have k:bJ wr (nX,out.length,lQ) out:=⟨Pf,rfl,b2⟩;have Sd:=HB.out wr (nX,out.length,lQ) out k L.out.2 (by omega);simp only[bT.v]at Sd
   have b4:Hid (∀W,aL wr W->∀d,H K 159 #[U (M ⟨g,0,O⟩),.string ⟨#[116,104,101,32,98,121,116,101,115,32,111,102,32,112,105,101,99,101,115]⟩,.bool d] W λe w'=>e=G (.tuple #[])/\bJ w' (nX,out.length,lQ) out/\eG w' g (jB d D) bf ps/\Og w w' g):=λW j d=>(r.out W D (n.out.1.aN j) (n.out.2.2.aN j) _ d).mono (by
    rintro e w' ⟨rfl,a1,a2,a3⟩;obtain⟨cb,JY⟩:=(n.out.1.aN j).wX;exact⟨rfl,(k.aN j).fr a2.1 (λb aR hb=>aZ hb JY (by decide)),a1,(n.out.2.1.aN j).trans a2⟩)
   clear HP n L MZ r Pf k HB
   go_wp2_with (first
    |(go_at_call 160;refine Sd.mono ?_;rintro e w4 ⟨rfl,oD⟩;have a8:=b4.out w4 oD (decide (sz out<=5000)))
    |(go_at_call 159;refine a8.mono ?_;rintro e w5 ⟨rfl,m1,m2,m3⟩))
   go_ret;rw[HE.out];exact⟨_,_,_,rfl,m1,m2,m3⟩
theorem ru (h:eG w g st bf ps)(hG:Gl w ps)(Cr:0<=bf)(eO:bf<=1000000000):
 H K 158 #[U (M ⟨g,0,O⟩)] w λe w'=> ∃x1 x2 x3,e=G (Z x1 x2 x3)/\dV w' (x1,x2,x3) (bA bf st).1/\eG w' g (bA bf st).2 bf ps/\Og w w' g:=by
 have Dm:g<w.heap.size:=by obtain⟨c,hc⟩:=h.wX;exact aM hc
 have MZ:Hid (∀W x,eG W g x bf ps->Gl W ps->∀lo hi (s:ByteArray),H K 156 #[U (M ⟨g,0,O⟩),.string s,I V lo,I V hi] W λe w'=>e=G (I V (aT lo hi x).1)/\eG w' g (aT lo hi x).2 bf ps/\Og W w' g/\Gl w' ps):=λW x hW R lo hi s=>(yD hW R).mono (by
  rintro e w' ⟨a,b,c⟩;exact⟨a,b,c,R.og hW c⟩)
 have y:Hid (∀W x,eG W g x bf ps->Gl W ps->H K 157 #[U (M ⟨g,0,O⟩)] W λe w'=> ∃x1 x2 x3,e=G (Z x1 x2 x3)/\bJ w' (x1,x2,x3) (aS bf x).1/\eG w' g (aS bf x).2 bf ps/\Og W w' g/\Gl w' ps):=λW x hW R=>(Wp hW R Cr eO).mono (by
  rintro e w' ⟨x1,x2,x3,a,b,c,d⟩;exact⟨x1,x2,x3,a,b,c,d,R.og hW d⟩)
 have Ny:=MZ.out w st h hG 0 50 ⟨#[104,111,119,32,109,97,110,121,32,101,100,105,116,115]⟩;have a7:=Ub (lo:=0) (hi:=50) (by omega) st;have a3:=(zF 0 50 st).1;obtain⟨N,hN⟩:=AbC a3;have b0:Hid (NA bf N 0 [] (aT 0 50 st).2 (bA bf st)):=⟨λe=>⟨by have:=CJ e;omega,rfl,by unfold bA;rw[e]⟩,λl e=>by unfold bA;rw[e,hN];rfl⟩;rw[hN]at Ny a7;generalize (aT 0 50 st).2=S at*;clear hN a3 h hG;go_enter func158,ntmps158;go_wp2_with (go_at_call 156;refine Ny.mono ?_;rintro e w1 ⟨rfl,vJ,Al,mh⟩);have Ua:Hid (eG w1 g S bf ps/\Og w w1 g/\Gl w1 ps):=⟨vJ,Al,mh⟩;clear vJ Al mh Ny
 go_loopw [3,4,7] (λv _ i wr=> ∃(j:List gJ) (out:List Ed) (Py:Option (List UInt8)),i=I V (out.length:Int)/\out.length<=N/\Hid (NA bf N out.length out Py (bA bf st))/\Hid (eG wr g Py bf ps/\Og w wr g/\Gl wr ps)/\Hid (wE wr w.heap.size v j/\gP wr j out)) (λ_ _ i _=>N-(intOf i).toNat)
 case atStart=>exact⟨[],[],S,rfl,Aao _,b0,Ua,AaH _ _ _ _,rfl,λi r e a=>by simp at a⟩
 case round=>
  obtain⟨j,out,Py,rfl,hk,HP,B,D⟩:=hrel;by_cases bQ:out.length<N
  ·have Wj:(out.length:Int)<(N:Int):=(by omega);have tY:decide (out.length<N)=true:=AaJ bQ;cases Py with
   |none=>have:=(HP.out.1 rfl).1;omega
   |some l=>
    obtain⟨Q,p2⟩:=HP.out.next bQ;have Lj:=MZ.out wr (M l) B.out.1 B.out.2.2 0 5000 ⟨#[119,104,101,114,101,32,97,110,32,101,100,105,116,32,105,115]⟩;have Yb:Hid (∀W,eG W g (aT 0 5000 (M l)).2 bf ps->Gl W ps->_):=λW h1 h2=>y.out W _ h1 h2;have a2:Hid (∀W,eG W g (aS bf (aT 0 5000 (M l)).2).2 bf ps->Gl W ps->_):=λW h1 h2=>y.out W _ h1 h2;have a4:Hid (wJ bf l=(((aT 0 5000 (M l)).1,(aS bf (aT 0 5000 (M l)).2).1,(aS bf (aS bf (aT 0 5000 (M l)).2).2).1),(aS bf (aS bf (aT 0 5000 (M l)).2).2).2)):=rfl;rw[a4.out]at Q p2;simp only at Q p2;generalize (aS bf (aS bf (aT 0 5000 (M l)).2).2).2=a6 at*;generalize (aS bf (aS bf (aT 0 5000 (M l)).2).2).1=lb at*;generalize (aS bf (aT 0 5000 (M l)).2).2=st5 at*;generalize (aS bf (aT 0 5000 (M l)).2).1=la at*;generalize (aT 0 5000 (M l)).2=b5 at*;generalize (aT 0 5000 (M l)).1=a at*;obtain⟨nX,lQ,ev,-⟩:=wE.form D.out.1;subst ev;have z:Hid (Og w wr g/\eG wr g (M l) bf ps):=⟨B.out.2.1,B.out.1⟩;have a8:Hid (j.length=out.length):=D.out.2.1;clear a4 HP B MZ y
    go_upto_region 5 with(first
     |(go_at_call 156;refine Lj.mono ?_;clear Lj;rintro e w4 ⟨rfl,Ia,Dn,oD⟩;have Oi:=Yb.out w4 Ia oD)
     |(go_at_call 157;refine Oi.mono ?_;clear Oi;rintro e w5 ⟨x1,x2,x3,rfl,a1,Dv,QO,eY⟩;have Nw:=a2.out w5 Dv eY)
     |(go_at_call 157;refine Nw.mono ?_;clear Nw;rintro e A ⟨k,o,n,rfl,a0,Td,o_,vZ⟩))
    have t:Hid (Og wr A g):=(Dn.trans QO).trans o_;have b2:Hid (sI A (a,(x1,x2,x3),(k,o,n)) (a,la,lb)):=⟨rfl,a1.rg Dv o_,a0⟩;clear Yb a2 Ia Dv Dn QO o_ oD eY a1 a0;have ga:aL A (A.alloc (C #[I V a,Z x1 x2 x3,Z k o n] 248)):=(aL.refl A).alloc _;obtain⟨e0,e1,e2,-⟩:=iY (Aag A (C #[I V a,Z x1 x2 x3,Z k o n] 248));have Tz:Hid (aL A (A.alloc (C #[I V a,Z x1 x2 x3,Z k o n] 248))):=ga;have L:=Td.aN ga;have oZ:=vZ.aN ga;generalize (A.alloc (C #[I V a,Z x1 x2 x3,Z k o n] 248))=J at*;clear Td vZ ga;cases a6 with
    |none=>
     have HE:Hid (bA bf st=([],O)):=Q rfl;obtain⟨_,_,_,t6,b6,-,-,k6⟩:=Wn.cells L;have E:Hid (eG J g O bf ps):=L;clear L Q p2;go_wp2_with fail;go_ret;rw[HE.out];exact⟨O,0,0,rfl,dV.nil _,E.out,(z.out.1.trans t.out).aN Tz.out⟩
    |some l'=>
     have LH:Hid (NA bf N (out.length+1) (out++ [(a,la,lb)]) (M l') (bA bf st)):=p2 l' rfl;obtain⟨_,_,_,-,-,k6,-⟩:=zP.cells L;have E:Hid (eG J g (M l') bf ps):=L;have u:Hid (wE J w.heap.size (Z nX j.length lQ) j):=bE (D.out.1.og t.out Dm) (Fr.bK Tz.out (λ_=>False)) (λ_ _ _ _ h=>h);have a5:Hid (gP J (j++ [(a,(x1,x2,x3),(k,o,n))]) (out++ [(a,la,lb)])):=((D.out.2.rg z.out.2 t.out).snoc b2.out).aN Tz.out;have b3:w.heap.size<=J.heap.size:=Aal (z.out.1.trans t.out).1.1 Tz.out.le;have b4:j.length<=4096:=(by have:=a8.out;omega);clear L Q p2;go_wp2_with (at_builtin;go_must (refine zN (by rfl) (.tmp 21) (.tmp 23) (by rfl) w.heap.size _ j [(a,(x1,x2,x3),(k,o,n))] (by rfl) (by exact Aax u.out _) _ _ _ (by rfl) (by rfl) (by intro e;cases e) (by exact CG J (a,(x1,x2,x3),(k,o,n))) (by simp only[Abj];omega) (by simp;omega) ?_);intro v8 X xP P);have HF:Hid ((eG X g (M l') bf ps/\Og w X g/\Gl X ps)/\wE X w.heap.size v8 (j++ [(a,(x1,x2,x3),(k,o,n))])/\gP X (j++ [(a,(x1,x2,x3),(k,o,n))]) (out++ [(a,la,lb)])):=⟨⟨E.out.own u.out (Aab rfl) P,((z.out.1.trans t.out).aN Tz.out).own (Aak _) u.out P,oZ.own u.out (Aab rfl) P⟩,xP,a5.out.own u.out P⟩;clear xP P;go_roundw
     case rel=>exact⟨j++ [(a,(x1,x2,x3),(k,o,n))],out++ [(a,la,lb)],M l',by simp,by simp;omega,by simpa using LH,HF.out.1,HF.out.2⟩
     case measure=>simp[intOf];omega
  ·have Wj:¬(out.length:Int)<(N:Int):=(by omega);have tY:decide (out.length<N)=false:=AaM bQ;have a9:N=out.length:=by omega
   have HE:Hid (bA bf st=(out,Py)):=by
    have:=HP.out;rw[a9]at this;exact this.done
   obtain⟨x1,x2,x3,ev,hE⟩:=dV.jR D.out.1 D.out.2;subst ev;have b1:Hid (dV wr (x1,x2,x3) out):=hE;clear HP D MZ y hE;go_wp2_with fail;go_ret;rw[HE.out];exact⟨_,_,_,rfl,b1.out,B.out.1,B.out.2.1⟩
theorem NC (h:dV w x []):
 H K 161 #[I V n,x.v] w λe w'=>e=G (.bool true)/\aL w w':=by
 obtain⟨g,d,j⟩:=x;have a:=h.len;simp only[AcD]at a;subst a;simp only[bT.v];clear h;go_enter func161,ntmps161;go_wp2_with fail
 go_loopw [0,6,7,10] (λ_ _ _ i wr=>i=I V 0/\Hid (aL w wr)) (λ_ _ _ i _=>0)
 case atStart=>exact⟨rfl,aL.refl w⟩
 case round=>
  obtain⟨rfl,c⟩:=hrel;go_wp2_with fail;go_ret;exact⟨rfl,c.out⟩
theorem Yy.aN (h:Yy w1 W g sb st dn bf ps x u r t ul rl)(hg:aL W W'):Yy w1 W' g sb st dn bf ps x u r t ul rl:=
 ⟨h.rg.aN hg,h.gl.aN hg,h.gr.then hg,(hg.block _ (aM h.box)).trans h.box,h.lx.aN hg,h.lu.aN hg,h.lr.aN hg,h.sbn⟩
theorem Yy.ask {Eg:Option (List UInt8)}(h:Yy w1 W g sb st dn bf ps x u r t ul rl)(hg:w1.heap.size<=g)(hr:eG W' g Eg bf ps)(ho:Og W W' g):Yy w1 W' g sb Eg dn bf ps x u r t ul rl:=by
 obtain⟨c,a⟩:=h.rg.wX;exact⟨hr,h.gl.og h.rg ho,Fw h.gr ho hg,ho.1.at h.box (λe=>aZ h.box a (by decide) e),h.lx.rg h.rg ho,h.lu.rg h.rg ho,h.lr.rg h.rg ho,h.sbn⟩
theorem Yy.st5 {a b c d e:Y}(hz:W.heap[sb]?=M (C #[a,b,c,d,e] 193 (0,0)))(hs:w1.heap.size<=sb)(hr:eG W g st bf ps)(hg:Gl W ps)(hG:aL w1 W)(hx:bJ W x t)(hu:dV W u ul)(hv:dV W r rl):Yy w1 (((((W.setCell ⟨sb,0,O⟩ (I V dn)).setCell ⟨sb,1,O⟩ (I V bf)).setCell ⟨sb,2,O⟩ x.v).setCell ⟨sb,3,O⟩ u.v).setCell ⟨sb,4,O⟩ r.v) g sb st dn bf ps x u r t ul rl:=by
 have j:=Cy W sb (I V dn) (I V bf) x.v u.v r.v;have i:=Wq hz;exact⟨hr.st5 hz _ _ _ _ _,hg.fr j (λ_ _ h=>i _ _ _ _ h (by decide)) (λ_ _ _ g h=>i _ _ _ _ h (g.ne (by decide))) (λ_ _ h=>i _ _ _ _ h (by decide)) (λ_ _ h=>i _ _ _ _ h (by decide)),dK hG hs _ _ _ _ _,st5_blk hz _ _ _ _ _,hx.fr j (λ_ _ h=>i _ _ _ _ h (by decide)),hu.fr j (λ_ _ h=>i _ _ _ _ h (by decide)) (λ_ _ h=>i _ _ _ _ h (by decide)),hv.fr j (λ_ _ h=>i _ _ _ _ h (by decide)) (λ_ _ h=>i _ _ _ _ h (by decide)),hs⟩
theorem eas_miss {d:Nat}{x:Y}{z1 z2 z3:Y}(hC:qP w ps d v k)(hd:d<=5):
 H K 172 #[v,x,.agg #[z1,z2,z3],.iface 295 (.agg #[U (M ⟨9,212,O⟩)])] w λe w'=>e=G (.bool false)/\aL w w':=by
 have h8:=@run_callFunc_extern K 173 _ Extern.ReflectliteType.typeOf func173 (by kernel_rfl) (by kernel_rfl) (by kernel_rfl) (by kernel_rfl);obtain⟨f,hf,N,fS,fL,-⟩:=CW;have X:=Tryz.isTypeOf;have tS:=Tryz.typeOfS;have R:=Tryz.typeOfL;have J:=Tryz.methodAsg;have nE:=Tryz.noAsE;have P:=Tryz.noAsS;have Q:=Tryz.noAsL;have uE:=Tryz.noUnwrapE;have vE:=Tryz.noUnwrapsE;have L:=Tryz.hasUnwrapS;have uL:=Tryz.hasUnwrapL;have S:=Tryz.methodUnwrapS;have mL:=Tryz.methodUnwrapL;have A:Hid (qP (w.alloc (C #[z1,z2,z3] 267)) ps d v k):=qP.fr (Fr.bK ((aL.refl w).alloc _) (λ_=>False)) (λ_ _ _=>id) (λ_ _ _=>id) hC;have B:Hid (aL w (w.alloc (C #[z1,z2,z3] 267))):=(aL.refl w).alloc _;clear hC;go_enter func172,ntmps172;go_wp2_with fail;generalize w.alloc (C #[z1,z2,z3] 267)=W at*
 go_loop [0] (λx=> ∃a:Nat,a<=d/\Hid (qP W ps a x k)) (λx=>QY W 10 x)
 case atStart=>exact⟨d,Aak _,A⟩
 case round=>
  obtain⟨a,E,n⟩:=hrel;cases a with
  |zero=>
   obtain rfl:=(n.out:_=jQ (ps k));unfold jQ;go_wp2_with fail;go_ret;exact⟨rfl,B.out⟩
  |succ a=>
   have z:=Gb (f:=10) n.out (by omega);rcases n.out with⟨b,D,num,y,rfl,h,c⟩|⟨b,D,y,rfl,h,c⟩
   ·have i:=Ww (w:=W) (b:=b) (v:=y) (by simp[World.cell?,h]);obtain⟨t,o,j⟩:=c.shape;have u:Hid (qP W ps a y k):=c;have g:=Gb (f:=10) c (by omega);subst j;have r:Hid (QY W 10 (.iface t (U (M o)))<QY W 10 (.iface 278 (U (M ⟨b,0,O⟩)))):=(by show _<_;omega);clear c h g z;go_wp2_with (go_at_call 272;refine i.mono ?_;rintro e W ⟨rfl,rfl⟩)
    go_round
    case rel=>exact⟨a,by omega,u⟩
    case measure=>exact r.out
   ·have i:=Wx (w:=W) (b:=b) (v:=y) (by simp[World.cell?,h]);obtain⟨t,o,j⟩:=c.shape;have u:Hid (qP W ps a y k):=c;have g:=Gb (f:=10) c (by omega);subst j;have r:Hid (QY W 10 (.iface t (U (M o)))<QY W 10 (.iface 206 (U (M ⟨b,0,O⟩)))):=(by show _<_;omega);clear c h g z;go_wp2_with (go_at_call 266;refine i.mono ?_;rintro e W ⟨rfl,rfl⟩)
    go_round
    case rel=>exact⟨a,by omega,u⟩
    case measure=>exact r.out
theorem eas_hit {e t a:Addr}{old x:Y}(ha:w.cell? a=M (U (M t)))(ht:w.cell? t=M old)(hf:w.frozen? t=false):
 H K 172 #[.iface 212 (U (M e)),x,.agg #[U (M ⟨9,214,O⟩),U (M a),I .u64 150],.iface 295 (.agg #[U (M ⟨9,212,O⟩)])] w
  λev w'=>ev=G (.bool true)/\w'=((w.alloc (C #[U (M ⟨9,214,O⟩),U (M a),I .u64 150] 267)).alloc (C #[U (M e)] 212)).setCell t (U (M e)):=by
 have r:=@run_callFunc_extern K 173 _ Extern.ReflectliteType.typeOf func173 (by kernel_rfl) (by kernel_rfl) (by kernel_rfl) (by kernel_rfl);have n:=@run_callFunc_extern K 169 _ (λc=>ReflectliteValue.unpack (c.getD 0 (.tuple #[]))) func169 (by kernel_rfl) (by kernel_rfl) (by kernel_rfl) (by kernel_rfl);have i:=@run_callFunc_extern K 212 _ (ReflectliteValue.method (ReflectliteValue.valueError "reflectlite.Value.Elem" 0) ReflectliteValue.elem) func212 (by kernel_rfl) (by kernel_rfl) (by kernel_rfl) (by kernel_rfl);have j:=@run_callFunc_extern K 213 _ ReflectliteValue.set func213 (by kernel_rfl) (by kernel_rfl) (by kernel_rfl) (by kernel_rfl);obtain⟨f,h,-,-,-,y⟩:=CW;have z:=Tryz.typeOfD;have o:=Tryz.methodAsg;have k:=Tryz.valueOfD;have d:=AaA _ _ ha;have g:=AaA _ _ ht;have u:=Tryz.elemVDD a t (w.alloc (C #[U (M ⟨9,214,O⟩),U (M a),I .u64 150] 267)) (by rw[AcH _ _ a d];exact ha)
 have A:=Tryz.setD t ⟨w.heap.size+1,0,O⟩ e old ((w.alloc (C #[U (M ⟨9,214,O⟩),U (M a),I .u64 150] 267)).alloc (C #[U (M e)] 212))
  (by rw[World.cell?_alloc_at _ _ _ _ (by simp)];rfl)
  (by rw[AcH _ _ t (by simp;omega),AcH _ _ t g];exact ht)
  (by rw[AcQ _ _ t (by simp;omega),AcQ _ _ t (Nat.ne_of_lt g)];exact hf)
 clear ha ht hf;go_enter func172,ntmps172
 go_wp2
 refine wp_loop_rounds 1 ?_;rw[rounds_succ]
 go_wp2
 go_ret;exact⟨rfl,rfl⟩
theorem DTy.q {b:Nat}(h:DTy w b):QTy w b:=by
 obtain⟨d,t,mk,c,a|a|a|a⟩:=h<;>exact⟨d,t,mk,c,by simp[a]⟩
theorem OD {m:dI}{kind a b c most:Int}{depth:Nat}(hg:eX m depth)(hb:kind=73->b=m.2.2.2.2/\m.2.2.2.2+c<=1000000)(hm:most<=5000):eX (iD m kind a b c most depth).1 depth:=by
 unfold iD;by_cases d:kind=73
 ·rw[Aad d];exact KS hg (hb d).1 (hb d).2 hm
 ·rw[Aaa d];split
  ·exact KT hg
  ·split
   ·exact AL hg
   ·exact AO hg
theorem OP {xo:Option Addr}{xn xc:Nat}{back:Bool}(h:fK w (xo,xn,xc) l)(MP:∀e∈l,rawE e)(hlen:l.length<=50)(Ny:0<=n)(Lj:n<=1000000000000000):
 H K 146 #[Z xo xn xc,I V n,.bool back] w λe w'=>e=G (.bool (mV (l.map (lX back)) n))/\w'=w:=by
 obtain⟨rfl,-,-⟩:=h.len;go_enter func146,ntmps146;go_wp2_with fail
 go_loopw [1,7] (λu i wr=> ∃(k:Nat) (m:Int),k<=l.length/\i=I V (k:Int)/\u=I V m/\0<=m/\m<=1000000000000000/\wr=w/\Hid (mV (l.map (lX back)) n=mV ((l.drop k).map (lX back)) m)) (λ_ i _=>l.length-(intOf i).toNat)
 case atStart=>exact⟨0,n,Aao _,rfl,rfl,Ny,Lj,rfl,by show _=_;rw[Abs]⟩
 case round=>
  obtain⟨k,m,hk,rfl,rfl,a0,Iu,rfl,D⟩:=hrel;by_cases bQ:k<l.length
  ·obtain⟨⟨p,d,c⟩,A⟩:∃e,l[k]?=M e:=⟨_,Aaf bQ⟩;obtain⟨⟨p0,p1⟩,⟨R,o1⟩,⟨J,i1⟩⟩:=MP _ (Aai A);simp only at p0 p1 R o1 J i1;obtain⟨b,off,⟨rp,⟨qo,ql,qc⟩,⟨so,sl,sc⟩⟩,rfl,c1,c2,c3,L,Lc⟩:=h.at A;obtain⟨N,t2,W⟩:=L;obtain⟨B,X,S⟩:=Lc;simp only[bT.v]at c1 c2 c3;simp only at N t2 W B X S;subst t2 X;have P:=Ap (ca:=qc) N.1 rfl R (by omega);have E:=Ap (ca:=sc) B.1 rfl J (by omega);have zo:=Fp R;have zi:=Fp J;have a:Hid (mV (l.map (lX back)) n=if m<(lX back (p,d,c)).1+(lX back (p,d,c)).2.1 then false else if 5000<m-(lX back (p,d,c)).2.1+(lX back (p,d,c)).2.2 then false else mV ((l.drop (k+1)).map (lX back)) (m-(lX back (p,d,c)).2.1+(lX back (p,d,c)).2.2)):=(by show _=_;rw[D.out];exact fit_step A m);have j1:(0:Int)<=(k:Int):=(by omega);have j2:(k:Int)<(l.length:Int):=(by omega);clear A D N W B S;have HK:Hid (k+1<=l.length):=bQ;generalize x:sz d=g at*;generalize o:sz c=j at*;have r:Hid _:=x;have t:Hid _:=o;clear x o;cases back with
   |true=>
    have Q:Hid (lX true (p,d,c)=(p,j,g)):=(by show _=_;unfold lX uT;simp only[if_true];rw[r.out,t.out]);rw[Q.out]at a;simp only at a;go_wp2_with fail;refine P.mono ?_;rintro e w ⟨rfl,rfl⟩;go_wp2_with fail;refine E.mono ?_;rintro e w ⟨rfl,rfl⟩;go_wp2_with fail;refine E.mono ?_;rintro e w ⟨rfl,rfl⟩;go_wp2_with fail;refine P.mono ?_;rintro e w ⟨rfl,rfl⟩;by_cases y:m<p+j
    ·rw[Aad y]at a;go_wp2_with fail;go_ret;exact⟨by rw[a.out];rfl,rfl⟩
    ·rw[Aaa y]at a;by_cases z:5000<m-j+g
     ·rw[Aad z]at a;go_wp2_with fail;go_ret;exact⟨by rw[a.out];rfl,rfl⟩
     ·rw[Aaa z]at a;go_wp2_with fail;go_roundw
      case rel=>exact⟨k+1,m-j+g,HK.out,by go_num,rfl,by omega,by omega,by first|rfl|trivial,a.out⟩
      case measure=>simp[intOf];omega
   |false=>
    have Q:Hid (lX false (p,d,c)=(p,g,j)):=(by show _=_;unfold lX pV;simp only[AaF,if_false];rw[r.out,t.out]);rw[Q.out]at a;simp only at a;go_wp2_with fail;refine P.mono ?_;rintro e w ⟨rfl,rfl⟩;go_wp2_with fail;refine E.mono ?_;rintro e w ⟨rfl,rfl⟩;by_cases y:m<p+g
    ·rw[Aad y]at a;go_wp2_with fail;go_ret;exact⟨by rw[a.out];rfl,rfl⟩
    ·rw[Aaa y]at a;by_cases z:5000<m-g+j
     ·rw[Aad z]at a;go_wp2_with fail;go_ret;exact⟨by rw[a.out];rfl,rfl⟩
     ·rw[Aaa z]at a;go_wp2_with fail;go_roundw
      case rel=>exact⟨k+1,m-g+j,HK.out,by go_num,rfl,by omega,by omega,by first|rfl|trivial,a.out⟩
      case measure=>simp[intOf];omega
  ·have a:Hid (mV (l.map (lX back)) n=true):=(by show _=_;rw[D.out,List.drop_of_length_le (by omega)];rfl);clear h;go_wp2_with fail;go_ret;exact⟨by rw[a.out];rfl,rfl⟩
section
variable {w w':F} {X:Nat->Prop} {B k:Nat} {ts:List Rec} {ss:List gZ} {bs:List Bool} {D D':Int} {dX eZ vp vf vts' vss' yw vf':Y} {hs gs g:List bT}
theorem yU.yB {w w':F}{X:Nat->Prop}{B:Nat}{r:Rec}(h:yU w B r)(hF:Fr w w' X)(hX:∀b,X b->oC w b)(h1:¬X r.sb)(h2:¬X r.tb):yU w' B r:=
 h.fr hF h1 h2 (λb c d p h l e x=>(hX b x).1.no e (by decide)) (λb a e x=>(hX b x).1.no e (by decide))
theorem Jl.yB (h:Jl w B dX ts)(hF:Fr w w' X)(hX:∀b,X b->oC w b)(hv:∀b,dX.ownBlock=M b->¬X b)(hn:∀r∈ts,¬X r.sb/\¬X r.tb):Jl w' B dX ts:=
 ⟨bE h.1 hF (λg _ e _=>hv g e),λr a=>(h.2.1 r a).yB hF hX (hn r a).1 (hn r a).2,h.2.2⟩
end
section
variable {w w' w2 w3:F} {B wb k:Nat} {ts:List Rec} {ss:List gZ} {bs:List Bool} {D D':Int} {dX eZ vp vf vm:Y} {hs gs:List bT}
theorem fI.aN (h:fI w B wb ts ss bs D dX eZ vp vf vm hs gs)(hg:aL w w'):fI w' B wb ts ss bs D dX eZ vp vf vm hs gs:=by
 have a:=Fr.bK hg (λ_=>False);have c:∀b,False->oC w b:=λ_=>False.elim;exact⟨a.at h.wX id,h.RA,h.tp.yB a c (λ_ _=>id) (λ_ _=>⟨id,id⟩),h.sp.yB a c (λ_ _=>id) (λ_ _=>⟨id,λ_ _=>id⟩),h.Dt,h.lp.yB a c (λ_ _=>id),h.fp.yB a c (λ_ _=>id),bE h.ms a (λ_ _ _ _=>id)⟩
end
end Go.Proofs.YtfplgfodoiiobabGreatDoor
