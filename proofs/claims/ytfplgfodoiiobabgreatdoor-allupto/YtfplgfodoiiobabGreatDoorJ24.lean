/- a part of the proof. -/
import Derived.Test.YtfplgfodoiiobabGreatDoorJ19
import Derived.Test.YtfplgfodoiiobabGreatDoorJ20
open Option renaming none->O,some->M
open Go.Value renaming int->I,slice->Z,pointer->U
open Go.IntKind renaming i64->V
open Go.Obj renaming cells->C
open Go.Ending renaming returned->G
open Go renaming World->F,Value->Y,Calls->H
open Go.Proofs.Tryz renaming prog→K
open Go.Proofs.Tryz
namespace Go.Proofs.YtfplgfodoiiobabGreatDoor
set_option maxHeartbeats 4000000
set_option maxRecDepth 100000
open Go.RowKit
variable {w w':F}{pos n x y a b c d:Int}{ao:Option Addr}{la ca xb B:Nat}{l:List (Int×Int)}{fs:List bD}{s:Sc}{m:dI}{f:bT}{X:Nat->Prop}{v:Y}
theorem put_any {bo:Option Addr}{lb cb:Nat}(hr:vI w ao l)(e1:la=l.length)(hb:vI w bo [(x,y)])(e2:lb=1)(ok:fC l)(hlen:l.length<=8000)
 (h0:0<=pos)(h1:pos<=sz l):
 H K 74 #[Z ao la ca,I V pos,Z bo lb cb] w λe w'=> ∃v,e=G v/\fH w' w.heap.size v (Hz l pos (x,y))/\Below w.heap.size w w':=by
 subst e1 e2;have hs:=kT ok;have D:=uJ l 0 pos;have A:=uJ l pos (sz l);have P:Hid (fJ l 0 pos++ [(x,y)]++fJ l pos (sz l)=Hz l pos (x,y)):=put_eq ok (x,y) h0 h1
 have g:bo=O->[(x,y)].length=0/\cb=0:=by
  rcases hb with h|⟨b,off,rfl,-⟩
  ·cases h
  ·intro e;cases e
 go_enter func74,ntmps74;go_wp2_with fail;refine(uI hr rfl ok (by omega) (by omega) (by omega) h0 (by omega)).mono ?_;rintro e R ⟨S,rfl,i,d⟩;have a:=hb.below d;have tX:=d.size;go_upto_region 5 with(at_builtin;go_must (refine fO (by rfl) (.tmp 15) (.tmp 16) (by rfl) w.heap.size _ (fJ l 0 pos) [(x,y)] (by rfl) (by exact i) _ _ _ (by rfl) (by rfl) (by exact g) (by exact a) (by simp;omega) (by omega) ?_);intro Q E r j);have c:=zY d i j;have o:=hr.below c;have Ll:=c.size;clear j i a;go_wp2_with fail;refine(cB o rfl ok (by omega)).mono ?_;rintro e E ⟨rfl,rfl⟩;go_wp2_with fail;refine(uI o rfl ok (by omega) h0 (by omega) (by omega) (by omega)).mono ?_;rintro e w3 ⟨v3,rfl,t,n⟩;obtain⟨X,J,rfl,B,z⟩:=t.form;have u:=r.below n;have k:=aQ c n;have QJ:=k.size;clear r t;go_wp2_with (at_builtin;go_must (refine fO (by rfl) (.tmp 18) (.tmp 23) (by rfl) w.heap.size _ (fJ l 0 pos++ [(x,y)]) (fJ l pos (sz l)) (by rfl) (by exact u) _ _ _ (by rfl) (by rfl) (by exact z) (by exact B) (by simp;omega) (by omega) ?_);intro v4 W N L);go_ret;exact⟨_,rfl,by rw[<-P.out];exact N,zY k u L⟩
theorem RZ (hr:vI w ao l)(e1:la=l.length)(ok:fC l)(hlen:l.length<=8000)(h0:0<=pos)(h1:pos<=sz l)(hm:Ry x y):
 H K 26 #[Z ao la ca,I V pos,.agg #[I V x,I V y]] w λe w'=>
  (4096<(Hz l pos (x,y)).length/\e=G (.tuple #[Z ao la ca,I V 13])/\Below w.heap.size w w')
  \/((Hz l pos (x,y)).length<=4096/\∃v,e=G (.tuple #[v,I V 0])/\fH w' w.heap.size v (Hz l pos (x,y))/\Below w.heap.size w w'):=by
 subst e1;obtain⟨B,t,D,A⟩:=hm
 have d:vI ((w.alloc (C #[I V x,I V y] 50)).alloc (C #[I V x,I V y] 50)) (M ⟨w.heap.size+1,0,O⟩) [(x,y)]:=by
  have:=rdp_one (w.alloc (C #[I V x,I V y] 50)) x y;rwa[AaD]at this
 go_enter func26,ntmps26;go_wp2_with fail;refine(cB (hr.below (aO _ _)) rfl ok (by omega)).mono ?_;rintro e o ⟨rfl,rfl⟩;go_wp2_with fail;refine(put_any (hr.below (aQ (aO _ _) (aO _ _))) rfl d rfl ok hlen h0 h1).mono ?_;rintro e r ⟨n,rfl,c,j⟩;have a:=aQ (aQ (aO _ _) (aO _ _)) j;obtain⟨i,h,rfl,u,z⟩:=c.form;by_cases k:4096<(Hz l pos (x,y)).length
 ·have g:((4096:Int)<((Hz l pos (x,y)).length:Int)):=by omega
  go_wp2_with fail;go_ret2;exact Aac ⟨k,rfl,a⟩
 ·have g:¬((4096:Int)<((Hz l pos (x,y)).length:Int)):=by omega
  go_wp2_with fail;go_ret2;exact Aab ⟨by omega,_,rfl,c.weak (by simp;omega),a⟩
theorem Eo.fr {l:List UInt8}(h:Eo w B v l)(hF:Fr w w' X)(hx:∀g,v.ownBlock=M g->¬X g):Eo w' B v l:=bE h hF (λg _ e _=>hx g e)
theorem Eo.aN {l:List UInt8}(h:Eo w B v l)(hg:aL w w'):Eo w' B v l:=bE h (Fr.bK hg (λ_=>False)) (λ_ _ _ _=>id)
theorem JZ (hr:nK w ao l)(e1:la=l.length)(ok:fC l)(hlen:l.length<=4096):
 H K 26 #[Z ao la ca,I V pos,.agg #[I V x,I V y]] w λe w'=>
  ∃nM Be,e=G (.tuple #[Z nM (xL l pos x y).1.length Be,I V (xL l pos x y).2])/\nK w' nM (xL l pos x y).1/\Below w.heap.size w w':=by
 have h:∀w',Below w.heap.size w w'->nK w' ao l:=λw' a=>hr.fr (Fr.bK a (λ_=>False)) (λ_ _ _=>id);by_cases c:pos<0\/sz l<pos
 ·refine(JO hr.1 e1 ok (by omega) c).mono ?_;rintro e w' ⟨rfl,a⟩;subst e1;simp only[xL,Aad c];exact⟨_,_,rfl,h _ a,a⟩
 ·by_cases d:Ry x y
  ·refine(RZ hr.1 e1 ok (by omega) (by omega) (by omega) d).mono ?_;rintro e w' (⟨g,rfl,a⟩|⟨g,v,rfl,i,a⟩)
   ·subst e1;simp only[xL,Aaa c,Aaa (Adt (show 1<=y/\y<=5000/\0<=x/\x<=1000000000 from d)),Aad g];exact⟨_,_,rfl,h _ a,a⟩
   ·simp only[xL,Aaa c,Aaa (Adt (show 1<=y/\y<=5000/\0<=x/\x<=1000000000 from d)),Aaa (Nat.not_lt.2 g)];obtain⟨nM,k,rfl,j,-⟩:=nK.jR i;exact⟨_,_,rfl,j,a⟩
  ·refine(JQ hr.1 e1 ok (by omega) (by omega) (by omega) d).mono ?_;rintro e w' ⟨rfl,a⟩;subst e1;simp only[xL,Aaa c,Aad (show ¬(1<=y/\y<=5000/\0<=x/\x<=1000000000) from d)];exact⟨_,_,rfl,h _ a,a⟩
theorem dz (hr:vI w ao l)(e1:la=l.length)(ok:fC l)(hlen:l.length<=4096):
 H K 32 #[Z ao la ca,I V pos] w λe w'=>
  e=G (.tuple #[.agg #[I V (jU l pos).1.1,I V (jU l pos).1.2],I V (jU l pos).2])/\Below w.heap.size w w':=by
 by_cases a:pos<0\/sz l<=pos
 ·simp only[jU,Aad a];exact E_ hr e1 ok (by omega) a
 ·refine(dh hr e1 ok (by omega) (by omega) (by omega)).mono ?_;rintro e w' ⟨q,c,rfl,d⟩;simp only[jU,Aaa a,c,Acy];exact⟨trivial,d⟩
theorem gH.del {room:Int}(h:gH room fs)(n:Int):gH room (jE fs n):=h.sub _
def gM:Sc->List bD->List Int->Bool×Sc×List bD
 |s,fs,[]=>(true,s,fs)
 |s,fs,n::l=>let r:=bM s fs n 0;if r.1 then gM r.2.1 r.2.2 l else r
def jP (x:St):St×Int:=
 if x.1.aX then (x,2)else
 match jT (aP x.2.1 2) ((aP x.2.1 1).size:Int) x.1.depth.toNat with
 |none=>(x,11)
 |some em=>
  let j:=(aP x.2.1 (10+em.1)).data.toList
  let g:=jC ((aP x.2.1 1).size:Int) x.1.depth.toNat (j.length / 22+1) em.2 j
  let r:=gM { x.1 with aX:=true } x.2.1 (gW x.2.1 em.1)
  if r.1=false then ((r.2.1,r.2.2,x.2.2),10)else
  let r2:=bM r.2.1 r.2.2 (10+em.1) ((22*g.2:Nat):Int)
  if r2.1=false then ((r2.2.1,r2.2.2,x.2.2),10)else
  let r3:=bM r2.2.1 r2.2.2 1 g.1.2.2.2.2
  if r3.1=false then ((r3.2.1,r3.2.2,x.2.2),10)else
  (({ r3.2.1 with ro:=false,aY:=em.1 },r3.2.2,g.1),0)
def jH (x:St)(kind pos n:Int)(text:ByteArray):St×Int:=
 if x.1.aX=false then (x,3)else if x.1.ro then (x,4)else
 let a:=if kind=73\/kind=68 then pos else 0
 let b:=if kind=73 then ((aP x.2.1 1).size:Int)else if kind=68 then n else 0
 let c:=if kind=73 then (text.size:Int)else 0
 let r:=iD x.2.2 kind a b c x.1.most x.1.depth.toNat
 if r.2≠0 then (x,r.2)else
 let q:=if kind=73 then bY x.1 x.2.1 1 text else (0,x.1,x.2.1)
 if q.1≠0 then ((q.2.1,q.2.2,x.2.2),q.1)else
 let q2:=bY q.2.1 q.2.2 (10+q.2.1.aY) (fV kind r.1.2.2.2.1 a b c)
 ((q2.2.1,q2.2.2,if q2.1=0 then r.1 else x.2.2),q2.1)
theorem Tk {k:Int}(h:bO w xb s fs m f)(hl:fs.length<=80000)(hc:iX s)(hI:gH s.room fs)(h0:0<=k):
 H K 109 #[U (M ⟨xb,0,O⟩),I V n,I V k] w λe w'=>e=G (.bool (bM s fs n k).1)/\After w w' xb (bM s fs n k).2.1 (bM s fs n k).2.2 m f:=by
 have W:Hid (bO w xb s fs m f):=h;have c:=Ev h (by omega) hI.ok hc.Ow hc.Ai hc.nV;obtain⟨r,E,N,S⟩:=h;have g:=wS (n:=n) E N (by omega);have R:((aP fs n).size:Int)<=1000000:=by have:=gN hI n;have:=hc.kZ;omega
 clear E N S;by_cases y:((aP fs n).size:Int)<=k
 ·have i:Hid (bM s fs n k=(true,s,fs)):=by show _=_;unfold bM;rw[Aad y]
  clear c;go_enter func109,ntmps109;go_wp2_with fail;refine g.mono ?_;rintro e w ⟨rfl,rfl⟩;go_wp2_with fail;go_ret;rw[i.out];exact⟨rfl,f,W.out,kX.refl _ _ _⟩
 ·rcases nO hc hI with⟨t,e,x⟩|⟨t,dZ,e,x⟩
  ·have i:Hid (bM s fs n k=(true,t,qI fs (n,(aP fs n).extract 0 k.toNat,k) (-1))):=(by show _=_;unfold bM;rw[Aaa y,e];rfl);rw[e]at c;simp only at c;clear e x;go_enter func109,ntmps109;go_wp2_with fail;refine g.mono ?_;rintro e w ⟨rfl,rfl⟩;clear g;go_wp2_with fail;refine c.mono ?_;rintro e P ⟨rfl,z,⟨r1,pJ,B,J⟩,d⟩;clear c;go_wp2_with fail;refine(Ti (f:=(n,(aP fs n).extract 0 k.toNat,k)) (but:= -1) pJ B (by omega)).mono ?_;rintro e w2 ⟨rfl,j,A,rfl,D,u,L⟩;have Ie:=(u.block xb (aM pJ)).trans pJ;have X:bO (A.setCell ⟨xb,3,O⟩ j.v) xb t (qI fs (n,(aP fs n).extract 0 k.toNat,k) (-1)) m j:=⟨r1,sW Ie,D.jM Ie,(J.aN u).jM Ie⟩;have o:kX w (A.setCell ⟨xb,3,O⟩ j.v) xb f j:=((d.aN u).row (λa e=>Aal d.1.1 (L a e))).set;clear pJ B J d D u L Ie;go_wp2_with fail;go_ret;rw[i.out];exact⟨rfl,j,X,o⟩
  ·have i:Hid (bM s fs n k=(false,t,dZ)):=(by show _=_;unfold bM;rw[Aaa y,e];rfl);rw[e]at c;simp only at c;clear e x;go_enter func109,ntmps109;go_wp2_with fail;refine g.mono ?_;rintro e w ⟨rfl,rfl⟩;clear g;go_wp2_with fail;refine c.mono ?_;rintro e P ⟨rfl,z,Q,d⟩;clear c;go_wp2_with fail;go_ret;rw[i.out];exact⟨rfl,z,Q,d⟩
theorem Tm {b:ByteArray}(h:bO w xb s fs m f)(hl:fs.length<=80000)(hc:iX s)(hI:gH s.room fs)(hb:b.size<=200000000):
 H K 100 #[U (M ⟨xb,0,O⟩),I V n,.string b] w λe w'=>e=G (I V (bY s fs n b).1)/\After w w' xb (bY s fs n b).2.1 (bY s fs n b).2.2 m f:=by
 obtain⟨r,hx,hf,hm⟩:=h;have HF:Hid (jL w f fs):=hf;have c2:=Qy hx;have c3:=kG hx;obtain⟨c8,c9,Yn⟩:=Lv hx;obtain⟨-,-,-,-,-,-,cf⟩:=lI hx;have f8:=cf 8;have f9:=cf 9;have a3:=cf 11;clear cf;have hu:=hI.used;have N:=hc.kZ;have b6:=rU fs;have l0:=hc.Iq;have l1:=hc.Mg;obtain⟨t,fl,x⟩:=f;obtain⟨q1,q2,q3⟩:=hf;simp only at q1 q2 q3;subst q2;simp only[bT.v]at c3;have L:Hid (w.heap[xb]?=M (bR s (t,fs.length,x) r)):=hx;clear hx;go_enter func100,ntmps100;go_wp2_with fail
 go_loop [7,8] (λu i=> ∃k:Nat,k<=fs.length/\i=I V (k:Int)/\u=I V (bX (fs.take k))) (λ_ i=>fs.length-(intOf i).toNat)
 case atStart=>exact⟨0,Aao _,rfl,rfl⟩
 case round=>
  obtain⟨k,hk,rfl,rfl⟩:=hrel;have a8:=Ip fs k;have WT:=rU (fs.take k);by_cases bQ:k<fs.length
  ·obtain⟨⟨gn,gb,gs⟩,hg⟩:∃g,fs[k]?=M g:=⟨_,Aaf bQ⟩;have HT:Hid (bX (fs.take (k+1))=bX (fs.take k)+(gb.size:Int)):=Ca hg;have b7:(gb.size:Int)<=bX fs:=Ac (Aai hg);obtain⟨bb,off,rfl,p1,p2,p3⟩:=q1.at hg;simp only at p1 p2 p3;have i1:(0:Int)<=(k:Int):=(by omega);have i2:(k:Int)<(fs.length:Int):=(by omega);clear hg q1;go_wp2_with fail
   go_round
   case rel=>exact⟨k+1,by omega,by go_num,by rw[HT.out]⟩
   case measure=>simp[intOf];omega
  ·have e1:fs.take k=fs:=Aaq (by omega);rw[e1];clear e1 a8 WT q1 q3;by_cases E:s.refusing=true/\s.left=0
   ·have X:Hid (bY s fs n b=(9,{ s with refusing:=false,ro:=true },fs)):=(by show _=_;unfold bY;rw[Aad E]);obtain⟨E,e9⟩:=E;rw[E]at c8;rw[e9]at c9;have pJ:=Uz false L.out;go_wp2_with fail;go_ret;rw[X.out];exact⟨rfl,_,⟨r,uW true pJ,(HF.out.jM L.out).jM pJ,(hm.jM L.out).jM pJ⟩,(kX.refl _ _ _).set.set⟩
   ·by_cases hR:s.room<bX fs+(b.size:Int)
    ·have X:Hid (bY s fs n b=(9,{ s with ro:=true },fs)):=(by show _=_;unfold bY;rw[Aaa E,Aad hR]);by_cases e9:s.refusing=true
     ·have a2:¬s.left=0:=λe=>E ⟨e9,e⟩;have b0:(s.left==0)=false:=(by simp[a2]);rw[e9]at c8;clear E;go_wp2_with fail;go_ret;rw[X.out];exact⟨rfl,_,⟨r,uW true L.out,HF.out.jM L.out,hm.jM L.out⟩,(kX.refl _ _ _).set⟩
     ·have a1:s.refusing=false:=(by simpa using e9);rw[a1]at c8;clear E;go_wp2_with fail;go_ret;rw[X.out];exact⟨rfl,_,⟨r,uW true L.out,HF.out.jM L.out,hm.jM L.out⟩,(kX.refl _ _ _).set⟩
    ·by_cases e9:s.refusing=true;have a2:¬s.left=0:=λe=>E ⟨e9,e⟩
     have b0:(s.left==0)=false:=(by simp[a2]);have X:Hid (bY s fs n b=AU { s with left:=s.left-1 } fs n b):=(by show _=_;unfold bY AU;rw[Aaa E,Aaa hR];simp only[e9,if_true]);have pJ:=Va (s.left-1) L.out;have vN:bO (w.setCell ⟨xb,9,O⟩ (I V (s.left-1))) xb { s with left:=s.left-1 } fs m (t,fs.length,x):=⟨r,pJ,HF.out.jM L.out,hm.jM L.out⟩;have Q:kX w (w.setCell ⟨xb,9,O⟩ (I V (s.left-1))) xb (t,fs.length,x) (t,fs.length,x):=(kX.refl _ _ _).set;have HD:Hid (kX w (w.setCell ⟨xb,9,O⟩ (I V (s.left-1))) xb (t,fs.length,x) (t,fs.length,x)):=Q;have Ob:iX { s with left:=s.left-1 }:= { hc with Iq:=by simp only;omega,Mg:=by simp only;omega };have a0:gH ({ s with left:=s.left-1 }:Sc).room fs:=hI;rw[e9]at c8;clear E pJ;have S:=Ev vN (by omega) a0.ok Ob.Ow Ob.Ai Ob.nV;clear vN Q
     rotate_left
     have a1:s.refusing=false:=(by simpa using e9);have X:Hid (bY s fs n b=AU s fs n b):=(by show _=_;unfold bY AU;rw[Aaa E,Aaa hR];simp only[a1,AaF,if_false]);have vN:bO w xb s fs m (t,fs.length,x):=⟨r,L.out,HF.out,hm⟩;have Q:kX w w xb (t,fs.length,x) (t,fs.length,x):=kX.refl _ _ _;have HD:Hid (kX w w xb (t,fs.length,x) (t,fs.length,x)):=Q;have Ob:iX s:=hc;have a0:gH s.room fs:=hI;rw[a1]at c8;clear E;have S:=Ev vN (by omega) a0.ok Ob.Ow Ob.Ai Ob.nV;clear vN Q
     all_goals
      rcases nO Ob a0 with⟨s',e,hd⟩|⟨s',dZ,e,hd⟩
      ·rw[e]at S;simp only at S;have jh:Hid (bY s fs n b=(0,s',qI fs (nN fs n b) (-1))):=(by show _=_;rw[X.out];unfold AU;rw[e];rfl);clear e hd X;cases hp:rP fs n with
       |none=>
        have Qz:nN fs n b=(n,b,0):=(by unfold nN;rw[(Ve _ _).1 hp]);have e1:zK fs n= -1:=(by unfold zK;rw[hp]);rw[Qz]at jh;have HP:Hid (zK fs n= -1):=e1;clear Qz e1 hp;go_wp2_with fail;refine S.mono ?_;rintro e c ⟨rfl,A,⟨N,pJ,Ir,Iu⟩,D⟩;have D:=HD.out.trans D;clear S c2 c3 c8 c9 Yn f8 f9 a3;go_wp2_with fail;have B:(c.alloc (C #[I V n,.string b,I V 0] 97)).heap[xb]?=M (bR s' A N):=((aO _ _).block xb (aM pJ)).trans pJ;have W:jL (c.alloc (C #[I V n,.string b,I V 0] 97)) A fs:=⟨Ir.1.aN (aO _ _),Ir.2⟩;have z:eT (c.alloc (C #[I V n,.string b,I V 0] 97)) N m:=Iu.aN (aO _ _);have o:kX w (c.alloc (C #[I V n,.string b,I V 0] 97)) xb (t,fs.length,x) A:=D.aN (aO _ _);have k0:(c.alloc (C #[I V n,.string b,I V 0] 97)).cell? ⟨c.heap.size,0,O⟩=M (I V n):=(by simp);have k1:(c.alloc (C #[I V n,.string b,I V 0] 97)).cell? ⟨c.heap.size,1,O⟩=M (.string b):=(by simp);have k2:(c.alloc (C #[I V n,.string b,I V 0] 97)).cell? ⟨c.heap.size,2,O⟩=M (I V 0):=(by simp);clear pJ Ir Iu D;generalize c.alloc (C #[I V n,.string b,I V 0] 97)=R at*;have hA:=EM (n:=n) B W (by omega)
        rw[HP.out]at hA;refine hA.mono ?_;rintro e R ⟨rfl,rfl⟩;clear hA;go_wp2_with fail;refine(Ti (f:=(n,b,0)) (but:= -1) B W (by omega)).mono ?_;rintro e w2 ⟨rfl,f2,w3,rfl,Jz,Qx,XG⟩;have Ie:=(Qx.block xb (aM B)).trans B;have Cm:After w (w3.setCell ⟨xb,3,O⟩ f2.v) xb s' (qI fs (n,b,0) (-1)) m (t,fs.length,x):=⟨f2,⟨N,sW Ie,Jz.jM Ie,(z.aN Qx).jM Ie⟩,((o.aN Qx).row (λa e=>Aal o.1.1 (XG a e))).set⟩;clear B W z o Jz Qx XG Ie k0 k1 k2;go_wp2_with fail;go_ret;rw[jh.out];exact⟨rfl,Cm⟩
       |some i=>
        obtain⟨d,EO,a5,b1⟩:=Ad hp;have bQ:=EN hp;have e1:zK fs n=(i:Int):=(by unfold zK;rw[hp]);have Qz:nN fs n b=(n,d.2.1++b,d.2.2):=(by unfold nN;rw[a5]);have b_:(d.2.1.size:Int)<=1000000:=(by have:=Ac (Aai EO);omega);have Ox:∀w:F,(Op.stringOp .add d.2.1 b).run K w= .ok (.string (d.2.1++b)) w:=λw=>AaV w _ _ (by omega);rw[Qz]at jh;have HP:Hid (zK fs n=(i:Int)):=e1;have b2:Hid (fs[i]?=M d):=EO;have i1:(0:Int)<=(i:Int):=(by omega);have i2:(i:Int)<(fs.length:Int):=(by omega);clear Qz e1 hp EO a5 b1;go_wp2_with fail;refine S.mono ?_;rintro e c ⟨rfl,A,⟨N,pJ,Ir,Iu⟩,D⟩;have D:=HD.out.trans D;clear S c2 c3 c8 c9 Yn f8 f9 a3;go_wp2_with fail;have B:(c.alloc (C #[I V n,.string b,I V 0] 97)).heap[xb]?=M (bR s' A N):=((aO _ _).block xb (aM pJ)).trans pJ;have W:jL (c.alloc (C #[I V n,.string b,I V 0] 97)) A fs:=⟨Ir.1.aN (aO _ _),Ir.2⟩;have z:eT (c.alloc (C #[I V n,.string b,I V 0] 97)) N m:=Iu.aN (aO _ _);have o:kX w (c.alloc (C #[I V n,.string b,I V 0] 97)) xb (t,fs.length,x) A:=D.aN (aO _ _);have rR:=Aag c (C #[I V n,.string b,I V 0] 97);have a7:=aO c (C #[I V n,.string b,I V 0] 97);have b4:=D.1.1;have b5:=aM pJ;have a4:Hid (c.heap[xb]?=M (bR s' A N)):=pJ;have a6:Hid (jL c A fs):=Ir;have a9:Hid (eT c N m):=Iu;have b3:Hid (kX w c xb (t,fs.length,x) A):=D;clear pJ Iu D;have Iw:∀a,A.1=M a->a.block<c.heap.size:=λa e=>by obtain⟨aR,hh⟩:=Ir.1.2 a e;exact aM hh
        clear Ir;generalize c.alloc (C #[I V n,.string b,I V 0] 97)=R at*;have hA:=EM (n:=n) B W (by omega)
        rw[HP.out]at hA;refine hA.mono ?_;rintro e R ⟨rfl,rfl⟩;clear hA;have c3:=kG B;obtain⟨go,gl,gc⟩:=A;have HQ:Hid (jL R (go,gl,gc) fs):=W;obtain⟨q1,q2,q3⟩:=W;simp only at q1 q2 q3 Iw;subst q2;simp only[bT.v]at c3;obtain⟨bb,off,rfl,p1,p2,p3⟩:=q1.at b2.out;have Sj:=Iw _ rfl;simp only at Sj;have Lj:c.heap.size≠xb:=(by omega);have Oi:c.heap.size≠bb:=(by omega);clear q1 q3 Iw p1;generalize hq:c.heap.size=y at*;have kz:∀j,R.frozen? ⟨y,j,O⟩=false:=λj=>by simp[World.frozen?,rR]
        have z0:=kz 0;have z1:=kz 1;have z2:=kz 2;clear kz;have k0:R.cell? ⟨y,0,O⟩=M (I V n):=(by simp[World.cell?,rR]);have k1:R.cell? ⟨y,1,O⟩=M (.string b):=(by simp[World.cell?,rR]);have k2:R.cell? ⟨y,2,O⟩=M (I V 0):=(by simp[World.cell?,rR]);go_upto_region 22 with fail
        go_region_held3 (λw'=>w'.cell? ⟨xb,3,O⟩=M (Z (M ⟨bb,off,O⟩) fs.length gc)/\w'.cell? ⟨bb,off+i*3+1,O⟩=M (.string d.2.1)/\w'.cell? ⟨bb,off+i*3+2,O⟩=M (I V d.2.2)) (go_keep) (fail)
        have J:Below c.heap.size c (((R.setCell ⟨y,0,O⟩ (I V n)).setCell ⟨y,1,O⟩ (.string (d.2.1++b))).setCell ⟨y,2,O⟩ (I V d.2.2)):=(by rw[hq];exact((a7.setCell (p:=⟨y,0,O⟩) (Aak _) (I V n)).setCell (p:=⟨y,1,O⟩) (Aak _) (.string (d.2.1++b))).setCell (p:=⟨y,2,O⟩) (Aak _) (I V d.2.2));have P:Below c.heap.size c (((R.setCell ⟨y,0,O⟩ (I V n)).setCell ⟨y,1,O⟩ (.string (d.2.1++b))).setCell ⟨y,2,O⟩ (I V d.2.2)).drew:=⟨J.os,J.tape,J.output,J.size,J.block⟩;go_wp2_with fail;clear J a7 rR z0 z1 z2 k0 k1 k2 c3 p2 p3 B z o hq Sj Lj Oi HQ Ox;generalize (((R.setCell ⟨y,0,O⟩ (I V n)).setCell ⟨y,1,O⟩ (.string (d.2.1++b))).setCell ⟨y,2,O⟩ (I V d.2.2)).drew=wz at*;have B:wz.heap[xb]?=M (bR s' (M ⟨bb,off,O⟩,fs.length,gc) N):=(P.block xb (aM a4.out)).trans a4.out;have W:jL wz (M ⟨bb,off,O⟩,fs.length,gc) fs:=⟨a6.out.1.aN P,a6.out.2⟩;have z:eT wz N m:=a9.out.aN P;have o:kX w wz xb (t,fs.length,x) (M ⟨bb,off,O⟩,fs.length,gc):=b3.out.aN P;refine(Ti (f:=(n,d.2.1++b,d.2.2)) (but:= -1) B W (by omega)).mono ?_;rintro e w2 ⟨rfl,f2,w3,rfl,Jz,Qx,XG⟩;have Ie:=(Qx.block xb (aM B)).trans B;have Cm:After w (w3.setCell ⟨xb,3,O⟩ f2.v) xb s' (qI fs (n,d.2.1++b,d.2.2) (-1)) m (t,fs.length,x):=⟨f2,⟨N,sW Ie,Jz.jM Ie,(z.aN Qx).jM Ie⟩,((o.aN Qx).row (λa e=>Aal o.1.1 (XG a e))).set⟩;clear B W z o Jz Qx XG Ie P;go_wp2_with fail;go_ret;rw[jh.out];exact⟨rfl,Cm⟩
      ·rw[e]at S;simp only at S;have jh:Hid (bY s fs n b=(10,s',dZ)):=(by show _=_;rw[X.out];unfold AU;rw[e];rfl);clear e hd X;go_wp2_with fail;refine S.mono ?_;rintro e c ⟨rfl,A,vN,D⟩;have Cm:After w c xb s' dZ m (t,fs.length,x):=⟨A,vN,HD.out.trans D⟩;clear S c2 c3 c8 c9 Yn f8 f9 a3 vN D;go_wp2_with fail;go_ret;rw[jh.out];exact⟨rfl,Cm⟩
theorem Ka {r:fU}{kind most:Int}(hk:kindOk kind)(hm:eT w r m)(hg:eX m d.toNat)(Ur:0<=d)(hd:d<=50)(hD:m.2.2.2.1<=2000000000)(ha:a<=9223372036854775807)(hb:b<=9223372036854775807)(hc:c<=9223372036854775807)(hmo:0<=most)(hmo2:most<=5000):
 H K 99 #[r.v,I V kind,I V a,I V b,I V c,I V most,I V d] w λe w'=>
  ∃r',e=G (.tuple #[fU.v r',I V (iD m kind a b c most d.toNat).2])/\eT w' r' (iD m kind a b c most d.toNat).1/\Below w.heap.size w w':=by
 have g:=hg.okm (by omega) hD;obtain⟨k,rfl⟩:=AbC Ur;rw[Ace]at*;rcases hk with rfl|rfl|rfl|rfl
 ·have e:iD m 73 a b c most k=vL m a b c most k:=rfl;rw[e];exact SE hm g hc hmo hmo2 (by omega)
 ·have e:iD m 68 a b c most k=Bu m a b k:=rfl;rw[e];exact SF hm g ha hb (by omega)
 ·have e:iD m 85 a b c most k=vV m k:=rfl;rw[e];exact KE hm g (by omega) hg.fitU
 ·have e:iD m 82 a b c most k=vW m k:=rfl;rw[e];exact KG hm g (by omega) hg.fitR
theorem jk (s:Sc)(fs:List bD):iR s (dL s fs).2.1:=by
 rcases Cc s fs with⟨_,e⟩|⟨_,_,e⟩|⟨_,_,e⟩<;>rw[e]<;>exact⟨rfl,rfl,rfl,rfl⟩
theorem add_same (s:Sc)(fs:List bD)(n:Int)(b:ByteArray):iR s (bY s fs n b).2.1:=by
 unfold bY;split
 ·exact⟨rfl,rfl,rfl,rfl⟩
 ·split
  ·exact⟨rfl,rfl,rfl,rfl⟩
  ·simp only;generalize e:(if s.refusing=true then { s with left:=s.left-1 } else s)=c;have a:iR s c:=(by rw[<-e];split<;>exact⟨rfl,rfl,rfl,rfl⟩);have d:=jk c fs;split
   ·exact a.trans d
   ·exact a.trans d
theorem kX.far {g:Nat}{f':bT}{o:Obj}(h:kX w w' xb f f')(hg:w.heap[g]?=M o)(h1:g≠xb)(h2:∀a,f.1=M a->a.block≠g):w'.heap[g]?=M o:=
 h.1.at hg (λe=>e.elim h1 (λ⟨a,d,c⟩=>h2 a d c.symm))
theorem read_ref (h:bO w xb s fs m f)(hl:fs.length<=70000)(hc:iX s)(hI:gH s.room fs)(hg:s.aX=true->eX m s.depth.toNat/\m.2.2.2.2<=((aP fs 1).size:Int)):
 H K 60 #[U (M ⟨xb,0,O⟩),I V pos,I V n] w λe w'=>e=G (.tuple #[.string (sQ (s,fs,m) pos n).1,I V (sQ (s,fs,m) pos n).2])/\aL w w':=by
 have HS:Hid (bO w xb s fs m f):=h;obtain⟨r,z,P,D⟩:=h;obtain⟨yN,-⟩:=gD z;obtain⟨d1,-⟩:=rX z;by_cases B:s.aX=false
 ·have d:Hid (sQ (s,fs,m) pos n=(⟨#[]⟩,3)):=by show _=_;unfold sQ;rw[Aad B]
  rw[B]at yN;clear z P D;go_enter func60,ntmps60;go_wp2_with fail;go_ret2;rw[d.out];exact⟨rfl,aL.refl _⟩
 ·have sP:s.aX=true:=by simpa using B
  obtain⟨g1,g2⟩:=hg sP;rw[sP]at yN;obtain⟨⟨ta,tl,tc⟩,r2⟩:=r;obtain⟨A,t2,Q⟩:=D.1;simp only at A t2 Q;subst t2;simp only[bT.v]at d1;have X:=g1.IY;have Ig:=g1.few;have N:=g1.long;have a2:=Ah g1.text;have a:=cB (ca:=tc) A.1 rfl X (by omega);by_cases g:pos<0\/n<0\/sz m.1<pos\/sz m.1-pos<n
  ·have d:Hid (sQ (s,fs,m) pos n=(⟨#[]⟩,5)):=(by show _=_;unfold sQ;rw[Aaa B,Aad g]);clear z P D A Q;by_cases z1:pos<0
   ·clear g;go_enter func60,ntmps60;go_wp2_with fail;refine a.mono ?_;rintro e w ⟨rfl,rfl⟩;clear a;go_wp2_with fail;go_ret2;rw[d.out];exact⟨rfl,aL.refl _⟩
   ·by_cases z2:n<0
    ·clear g;go_enter func60,ntmps60;go_wp2_with fail;refine a.mono ?_;rintro e w ⟨rfl,rfl⟩;clear a;go_wp2_with fail;go_ret2;rw[d.out];exact⟨rfl,aL.refl _⟩
    ·by_cases z3:sz m.1<pos
     ·clear g;go_enter func60,ntmps60;go_wp2_with fail;refine a.mono ?_;rintro e w ⟨rfl,rfl⟩;clear a;go_wp2_with fail;go_ret2;rw[d.out];exact⟨rfl,aL.refl _⟩
     ·have z4:sz m.1-pos<n:=(by omega);clear g;go_enter func60,ntmps60;go_wp2_with fail;refine a.mono ?_;rintro e w ⟨rfl,rfl⟩;clear a;go_wp2_with fail;go_ret2;rw[d.out];exact⟨rfl,aL.refl _⟩
  ·have d:Hid (sQ (s,fs,m) pos n=(nP (aP fs 1) (fJ m.1 pos (pos+n)),0)):=(by show _=_;unfold sQ;rw[Aaa B,Aaa g]);have z1:¬pos<0:=(by omega);have z2:¬n<0:=(by omega);have z3:¬sz m.1<pos:=(by omega);have z4:¬sz m.1-pos<n:=(by omega);have j:=uI (ca:=tc) (f:=pos) (t:=pos+n) A.1 rfl X (by omega) (by omega) (by omega) (by omega) (by omega);have u:=KX g1.text pos (pos+n);have Oc:=uJ m.1 pos (pos+n);generalize hL:fJ m.1 pos (pos+n)=L at*;have a0:=gN hI 1;have a1:=hc.kZ;clear hL;go_enter func60,ntmps60;go_wp2_with fail;refine a.mono ?_;rintro e w ⟨rfl,rfl⟩;clear a;go_wp2_with fail;refine j.mono ?_;rintro e S ⟨v,rfl,W,eO⟩;clear j;have vN:=HS.out.aN eO;obtain⟨ro,rc,rfl,E,-⟩:=W.form;obtain⟨r9,Iz,XM,-⟩:=vN;have Sd:=wS (n:=1) Iz XM (by omega);clear Iz XM W z P D A Q;go_wp2_with fail;refine Sd.mono ?_;rintro e S ⟨rfl,rfl⟩;clear Sd;generalize aP fs 1=c at*;go_wp2_with fail
   go_loopw [11,12] (λv i wr=> ∃k:Nat,k<=L.length/\i=I V (k:Int)/\v= .string (nP c (L.take k))/\aL S wr) (λ_ i _=>L.length-(intOf i).toNat)
   case atStart=>exact⟨0,Aao _,rfl,rfl,aL.refl _⟩
   case round=>
    obtain⟨k,hk,rfl,rfl,R⟩:=hrel;have Yo:=Vl (b:=c) u k;by_cases J:k<L.length
    ·have HT:Hid (nP c (L.take (k+1))=nP c (L.take k)++c.extract (L.getD k (0,0)).1.toNat ((L.getD k (0,0)).1+(L.getD k (0,0)).2).toNat):=Kb J;have Dx:L.getD k (0,0)∈L:=(by rw[AbD,Aaf J];simp);obtain⟨p1,p2,p3,p4⟩:=u _ Dx;have XO:vI wr ro L:=E.below R;obtain⟨b,off,rfl,k0,k1⟩:=XO.at J;clear Dx;generalize (L.getD k (0,0)).1=x at*;generalize (L.getD k (0,0)).2=y at*;generalize nP c (L.take k)=o at*;have i1:(0:Int)<=(k:Int):=(by omega);have i2:(k:Int)<(L.length:Int):=(by omega);have i3:x<=x+y:=(by omega);have i4:x+y<=(c.size:Int):=(by omega);have Ox:∀w:F,(Op.stringOp .add o (c.extract x.toNat (x+y).toNat)).run K w= .ok (.string (o++c.extract x.toNat (x+y).toNat)) w:=λw=>AaV w _ _ (by rw[Acj];omega);clear E;go_wp2_with fail;go_quiet (fail);go_wp2_with fail;go_roundw
     case rel=>exact⟨k+1,by omega,by go_num,by rw[HT.out],bC R _⟩
     case measure=>simp[intOf];omega
    ·have e9:L.take k=L:=Aaq (by omega);rw[e9];clear E;go_wp2_with fail;go_ret2;rw[d.out];exact⟨rfl,aQ eO R⟩
theorem TF {db:Nat}{fv:Y}{rs:List FR}(h:aU w db s fv rs)(hl:rs.length<=1000)(hf:∀f∈plain rs,f.2.1.size<=2000000)(hr:0<=s.room)(zH:s.room<=1000000)(hn:0<=n)(Oi:n<=1000000000)(hle:0<=s.left)(hle2:s.left<=9223372036854775807)(hu:0<=bX (plain rs))(WT:bX (plain rs)<=2000000000):
 H K 184 #[U (M ⟨db,0,O⟩),I V n] w λe w'=>e=G (.bool (qL s (plain rs) n).1)/\aU w' db (qL s (plain rs) n).2 fv rs/\Og w w' db:=by
 obtain⟨X,R,E,D,J,L,N,S,P⟩:=dM h.1;have g:Hid (∀W:F,aL w W->H K 221 #[U (M ⟨db,0,O⟩)] W λe w'=>e=G (I V (bX (plain rs)))/\w'=W):=λW a=>used_pg (h.aN a) (by omega) hf;have t:Hid (∀W:F,aL w W->H K 222 #[U (M ⟨db,2,O⟩)] W λe w'=>e=G (.bool (Ez s.refusing s.left))/\w'=W):=λW a=>V_ (a.cell E) (a.cell D);have k:Hid (∀W:F,aL w W->H K 223 #[U (M ⟨db,2,O⟩)] W λe w'=>e=G (.bool (Ez s.refusing s.left))/\w'=if Ez s.refusing s.left then W.setCell ⟨db,2,O⟩ (.bool false)else if s.refusing then W.setCell ⟨db,3,O⟩ (I V (s.left-1))else W):=λW a=>ER (a.cell E) (a.cell D) (dM (h.aN a).1).2.2.2.2.2.2.2.2 hle hle2;have o:Hid (aU w db s fv rs):=h;clear h R E D J L N S P hf;have i:Hid (Ez s.refusing s.left=true↔(s.refusing=true/\s.left=0)):=by show _↔_;unfold Ez;simp
 by_cases z:s.room-bX (plain rs)<n
 ·cases c:Ez s.refusing s.left with
  |true=>
   have j:Hid (qL s (plain rs) n=(true,{ s with refusing:=false })):=(by show _=_;unfold qL;rw[Aad (i.out.1 c)]);have r:Hid (∀W:F,aL w W->H K 223 #[U (M ⟨db,2,O⟩)] W λe w'=>e=G (.bool true)/\w'=W.setCell ⟨db,2,O⟩ (.bool false)):=λW a=>(k.out W a).mono λe w' d=>by rw[c]at d;simpa using d
   have x:Hid (∀W:F,aL w W->H K 222 #[U (M ⟨db,2,O⟩)] W λe w'=>e=G (.bool true)/\w'=W):=λW a=>(t.out W a).mono λe w' d=>by rw[c]at d;exact d
   clear c k t i;generalize bX (plain rs)=u at z g hu WT;go_enter func184,ntmps184;go_upto_region 1 with fail;go_quiet (first|(go_at_call 221;exact AbQ (g.out _ (bC (aL.refl w) _))));go_wp2_with (first|(go_at_call 222;refine(x.out _ (bC (aL.refl w) _)).mono ?_;rintro e Q ⟨rfl,rfl⟩)|(go_at_call 223;refine(r.out _ (bC (aL.refl w) _)).mono ?_;rintro e B ⟨rfl,rfl⟩));go_ret;rw[j.out];exact⟨rfl,(o.out.aN (bC (aL.refl w) _)).set (Pb false (o.out.aN (bC (aL.refl w) _)).1),((Og.refl w db).drewN _).set⟩
  |false=>
   have j:Hid (qL s (plain rs) n=(true,s)):=(by show _=_;unfold qL;rw[Aaa (λh=>by rw[i.out.2 h]at c;cases c),Aad (by omega)]);have x:Hid (∀W:F,aL w W->H K 222 #[U (M ⟨db,2,O⟩)] W λe w'=>e=G (.bool false)/\w'=W):=λW a=>(t.out W a).mono λe w' d=>by rw[c]at d;exact d
   clear c k t i;generalize bX (plain rs)=u at z g hu WT;go_enter func184,ntmps184;go_upto_region 1 with fail;go_quiet (first|(go_at_call 221;exact AbQ (g.out _ (bC (aL.refl w) _))));go_wp2_with (first|(go_at_call 222;refine(x.out _ (bC (aL.refl w) _)).mono ?_;rintro e Q ⟨rfl,rfl⟩));go_ret;rw[j.out];exact⟨rfl,o.out.aN (bC (aL.refl w) _),(Og.refl w db).drewN _⟩
 ·cases c:Ez s.refusing s.left with
  |true=>
   have j:Hid (qL s (plain rs) n=(true,{ s with refusing:=false })):=(by show _=_;unfold qL;rw[Aad (i.out.1 c)]);have r:Hid (∀W:F,aL w W->H K 223 #[U (M ⟨db,2,O⟩)] W λe w'=>e=G (.bool true)/\w'=W.setCell ⟨db,2,O⟩ (.bool false)):=λW a=>(k.out W a).mono λe w' d=>by rw[c]at d;simpa using d
   clear c k t i;generalize bX (plain rs)=u at z g hu WT;go_enter func184,ntmps184;go_upto_region 1 with fail;go_quiet (first|(go_at_call 221;exact AbQ (g.out _ (bC (aL.refl w) _))));go_wp2_with (first|(go_at_call 223;refine(r.out _ (bC (aL.refl w) _)).mono ?_;rintro e B ⟨rfl,rfl⟩));go_ret;rw[j.out];exact⟨rfl,(o.out.aN (bC (aL.refl w) _)).set (Pb false (o.out.aN (bC (aL.refl w) _)).1),((Og.refl w db).drewN _).set⟩
  |false=>
   have A:¬(s.refusing=true/\s.left=0):=λh=>by rw[i.out.2 h]at c;cases c
   cases y:s.refusing with
   |true=>
    have j:Hid (qL s (plain rs) n=(false,{ s with left:=s.left-1 })):=(by show _=_;unfold qL;rw[Aaa A,Aaa (by omega),Aad y]);have r:Hid (∀W:F,aL w W->H K 223 #[U (M ⟨db,2,O⟩)] W λe w'=>e=G (.bool false)/\w'=W.setCell ⟨db,3,O⟩ (I V (s.left-1))):=λW a=>(k.out W a).mono λe w' d=>by rw[c,y]at d;simpa using d
    clear c k t i A y;generalize bX (plain rs)=u at z g hu WT;go_enter func184,ntmps184;go_upto_region 1 with fail;go_quiet (first|(go_at_call 221;exact AbQ (g.out _ (bC (aL.refl w) _))));go_wp2_with (first|(go_at_call 223;refine(r.out _ (bC (aL.refl w) _)).mono ?_;rintro e B ⟨rfl,rfl⟩));go_ret;rw[j.out];exact⟨rfl,(o.out.aN (bC (aL.refl w) _)).set (BB _ (o.out.aN (bC (aL.refl w) _)).1),((Og.refl w db).drewN _).set⟩
   |false=>
    have j:Hid (qL s (plain rs) n=(false,s)):=(by show _=_;unfold qL;rw[Aaa A,Aaa (by omega),Aaa (by rw[y];simp)]);have r:Hid (∀W:F,aL w W->H K 223 #[U (M ⟨db,2,O⟩)] W λe w'=>e=G (.bool false)/\w'=W):=λW a=>(k.out W a).mono λe w' d=>by rw[c,y]at d;simpa using d
    clear c k t i A y;generalize bX (plain rs)=u at z g hu WT;go_enter func184,ntmps184;go_upto_region 1 with fail;go_quiet (first|(go_at_call 221;exact AbQ (g.out _ (bC (aL.refl w) _))));go_wp2_with (first|(go_at_call 223;refine(r.out _ (bC (aL.refl w) _)).mono ?_;rintro e B ⟨rfl,rfl⟩));go_ret;rw[j.out];exact⟨rfl,o.out.aN (bC (aL.refl w) _),(Og.refl w db).drewN _⟩
theorem Ph {q:Int}(hq:0<=q)(yM:q<256)(hd:dF d)(ha:dF a)(hb:dF b)(hc:dF c):
 H K 138 #[I V d,.agg #[I .u8 q,I V a,I V b,I V c]] w λe w'=> ∃v,e=G v/\bL w' w.heap.size v (fV q d a b c).data.toList/\aL w w':=by
 unfold dF at hd ha hb hc;have z1:IntKind.u32.wrap d=d:=by rw[AcZ];omega
 have P:bL ((w.alloc (C #[I .u8 q,I V a,I V b,I V c] 128)).alloc (C #[I .u8 74,I .u8 q] 5)) w.heap.size (Z (M ⟨w.heap.size+1,0,O⟩) 2 2) [74,UInt8.ofNat q.toNat]:=by
  have:=Acr (base:=w.heap.size) (e:=5) (size:=1) (w.alloc (C #[I .u8 q,I V a,I V b,I V c] 128)) #[I .u8 74,I .u8 q] 2 (by simp) (by unfold maxLen;omega) rfl;rw[AaD]at this;refine bL.of (n:=2) ?_;unfold Js;simp only[AaK,AbJ];rw[Ep hq yM];exact this
 have HA:=Gu P (by simp;omega) hd.1 hd.2 (by simp);have Sm:aL w ((w.alloc (C #[I .u8 q,I V a,I V b,I V c] 128)).alloc (C #[I .u8 74,I .u8 q] 5)):=aL.alloc (aL.alloc (aL.refl w) _) _;have r:Hid (bL ((w.alloc (C #[I .u8 q,I V a,I V b,I V c] 128)).alloc (C #[I .u8 74,I .u8 q] 5)) w.heap.size (Z (M ⟨w.heap.size+1,0,O⟩) 2 2) [74,UInt8.ofNat q.toNat]):=P;have k1:=(LX w (C #[I .u8 q,I V a,I V b,I V c] 128) (C #[I .u8 74,I .u8 q] 5)).2.1;clear P;go_enter func138,ntmps138;go_wp2_with fail;refine HA.mono ?_;rintro e y ⟨v1,rfl,J,R,tX⟩;have mh:=Mk Sm r.out R;have z:=iP R k1 (λe=>by simp[Value.ownBlock]at e);have x0:y.cell? ⟨w.heap.size,1,O⟩=M (I V a):=by simp[World.cell?,z]
 have x1:y.cell? ⟨w.heap.size,2,O⟩=M (I V b):=by simp[World.cell?,z]
 have x2:y.cell? ⟨w.heap.size,3,O⟩=M (I V c):=by simp[World.cell?,z]
 obtain⟨TH,Kh,S,-⟩:=bL.form J;subst S;clear z k1 Sm r HA R tX;have Q:Hid (bL y w.heap.size (Z TH ([74,UInt8.ofNat q.toNat]++gF d).length Kh) (Ml q d a b c 0)):=by show bL _ _ _ _;simpa[Ml]using J
 clear J;go_wp2_with fail;have j0:∀w,(Instr.index 126 (.agg #[I V a,I V b,I V c]) (I V 0)).run K w= .ok (I V a) w:=λ_=>by kernel_rfl
 have j1:∀w,(Instr.index 126 (.agg #[I V a,I V b,I V c]) (I V 1)).run K w= .ok (I V b) w:=λ_=>by kernel_rfl
 have j2:∀w,(Instr.index 126 (.agg #[I V a,I V b,I V c]) (I V 2)).run K w= .ok (I V c) w:=λ_=>by kernel_rfl
 go_loopw [5,7,16] (λv _ i wr=> ∃k:Nat,k<=3/\i=I V (k:Int)/\Hid (bL wr w.heap.size v (Ml q d a b c k))/\Hid (aL w wr)) (λ_ _ i _=>3-(intOf i).toNat)
 case atStart=>exact⟨0,Aao _,rfl,Q,mh⟩
 case round=>
  obtain⟨k,hk,rfl,u,A⟩:=hrel;obtain⟨nX,lQ,W,-⟩:=bL.form u.out;have X:=A.out.size;have EX:=recK_len q d a b c k;by_cases bQ:k<3
  ·obtain⟨x,E,h⟩:∃x,[a,b,c][k]?=M x/\(0<=x/\x<4294967296):=by
    match k,bQ with
    |0,_=>exact⟨a,rfl,ha⟩
    |1,_=>exact⟨b,rfl,hb⟩
    |2,_=>exact⟨c,rfl,hc⟩
   have L:Hid (Ml q d a b c (k+1)=Ml q d a b c k++gF x):=pq E;have YC:=Gu u.out X h.1 h.2 (by omega);subst W;have zx:IntKind.u32.wrap x=x:=(by rw[AcZ];omega);have j:Hid _:=E;clear E;rcases(by omega:k=0\/k=1\/k=2)with rfl|rfl|rfl
   all_goals (have t:=j.out;simp at t;subst t)
   all_goals clear j
   all_goals go_wp2_with (go_at_call 188;refine YC.mono ?_;rintro e w5 ⟨v5,rfl,g,B,Bn⟩)
   all_goals have o:=Mk A.out u.out B
   all_goals go_roundw
   all_goals first
    |(case rel=>exact⟨1,by omega,by go_num,by show bL _ _ _ _;rw[L.out];exact g,o⟩)
    |(case rel=>exact⟨2,by omega,by go_num,by show bL _ _ _ _;rw[L.out];exact g,o⟩)
    |(case rel=>exact⟨3,by omega,by go_num,by show bL _ _ _ _;rw[L.out];exact g,o⟩)
    |(case measure=>simp[intOf])
  ·obtain rfl:k=3:=by omega
   have HS:=WW u.out X (by omega);subst W;have N:Hid ((fV q d a b c).data.toList=Ml q d a b c 3++gF (kU (Ml q d a b c 3))):=(by show _=_;rw[recK_3,recB_s]);go_wp2_with fail;refine HS.mono ?_;rintro e w5 ⟨v5,rfl,g,B,Bn⟩;have o:=Mk A.out u.out B;obtain⟨Yk,yP,D,-⟩:=bL.form g;subst D;go_wp2_with fail;go_ret;exact⟨_,rfl,by rw[N.out];exact g,o⟩
theorem dV.yB {x:bT}{l:List Ed}(h:dV w x l)(hF:Fr w w' X)(hx:∀b aR,w.heap[b]?=M (C aR 50 (0,0))->¬X b)(hy:∀a,x.1=M a->¬X a.block):dV w' x l:=by
 obtain⟨d,⟨c,n⟩,z,o,t,k⟩:=h;refine⟨d,⟨?_,λa e=>?_⟩,z,o,t,λi r e a b=>⟨(k i r e a b).1,(k i r e a b).2.1.fr hF hx,(k i r e a b).2.2.fr hF hx⟩⟩
 ·rcases c with c|⟨b,off,e,y⟩
  ·exact Aac c
  ·refine Aab ⟨b,off,e,λj u A=>?_⟩;obtain⟨aR,g⟩:=n _ e;exact(AaN (hF.2 b (aM g) (hy _ e))).trans (y j u A)
 ·obtain⟨aR,g⟩:=n a e;exact⟨aR,hF.at g (hy _ e)⟩
theorem dV.lt {x:bT}{l:List Ed}(h:dV w x l){a:Addr}(e:x.1=M a):a.block<w.heap.size:=by
 obtain⟨g,⟨i,d⟩,-⟩:=h;obtain⟨j,c⟩:=d a e;exact aM c
def StIs (w:F)(v:Y)(m:dI):Prop:=∃t u r:bT,v=MN m.2.2.2.1 m.2.2.2.2 t u r/\bJ w t m.1/\dV w u m.2.1/\dV w r m.2.2.1
end Go.Proofs.YtfplgfodoiiobabGreatDoor
