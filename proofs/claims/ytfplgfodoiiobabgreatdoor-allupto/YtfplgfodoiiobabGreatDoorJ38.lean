/- a part of the proof. -/
import Derived.Test.YtfplgfodoiiobabGreatDoorJ31
import Derived.Test.YtfplgfodoiiobabGreatDoorJ33
import Derived.Test.YtfplgfodoiiobabGreatDoorJ34
open Option renaming none->O,some->M
open Go.Value renaming int->I,slice->Z,pointer->U
open Go.IntKind renaming i64->V
open Go.Obj renaming cells->C
open Go.Ending renaming returned->G
open Go renaming World->F,Value->Y,Calls->H
open Go.Proofs.Tryz renaming prog→K
open Go.Proofs.Tryz
namespace Go.Proofs.YtfplgfodoiiobabGreatDoor
set_option maxHeartbeats 4000000
set_option maxRecDepth 100000
open Go.RowKit
variable {w:F}{n ep D pos a k:Int}{m:dI}{s:Sc}{depth lp db qp B fl fc:Nat}{fv:Y}{rs:List FR}{fs:List bD}{fo:Option Addr}
def Fy (s:Sc)(fs:List bD)(depth:Nat)(em:Int×dI):Int×Sc×List bD:=rF s fs em.1 ((22*(vF fs depth em).2:Nat):Int) (vF fs depth em).1.2.2.2.2
theorem Za {t u r:bT}(ht:bJ w t m.1)(hu:dV w u m.2.1)(hr:dV w r m.2.2.1)(hg:eX m depth)(hd:depth<=100)(zD:0<=ep)(Jg:ep<=1000)(hD:m.2.2.2.1<=4000000000):
 H K 150 #[I V ep,MN m.2.2.2.1 m.2.2.2.2 t u r] w λe w'=> ∃v',e=G v'/\bL w' w.heap.size v' (Rq ep m)/\aL w w':=by
 have Ur:=hg.done;have Cr:=hg.Fa;have eO:=hg.Dw;have Ig:=hg.few;have Ju:=hg.Ym;have Iw:=hg.KQ;obtain⟨gp,ge⟩:=Fz hg;obtain⟨X,S,t3⟩:=t;obtain⟨u1,u2,u3⟩:=u;obtain⟨D,E,J⟩:=r;have HN:Hid (∀W v' (c:List UInt8) n,bL W w.heap.size v' c->w.heap.size<=W.heap.size->0<=n->n<4294967296->c.length<=900000000->H K 202 #[v',I V n] W λe w'=> ∃a,e=G a/\bL w' w.heap.size a (c++gF n)/\wZ W w' v' a):=λW v' c n h d Q h4 h5=>FV h d Q h4 h5;have HP:Hid (∀W v' (c:List UInt8),bL W w.heap.size v' c->aL w W->c.length<=100->H K 203 #[v',Z X S t3] W λe w'=> ∃a,e=G a/\bL w' w.heap.size a (c++lZ m.1)/\wZ W w' v' a):=λW v' c h d Q=>YS (x:=(X,S,t3)) h d.le (λW' hW=>ht.aN (lK d hW)) gp (by omega) (by omega);have HU:Hid (∀W v' (c:List UInt8),bL W w.heap.size v' c->aL w W->c.length<=50000->H K 204 #[v',Z u1 u2 u3] W λe w'=> ∃a,e=G a/\bL w' w.heap.size a (c++oU m.2.1)/\wZ W w' v' a):=λW v' c h d Q=>YT (x:=(u1,u2,u3)) h d.le (EdsS.of hu d) (λe R=>ge e (Aac R)) (by omega) (by omega);have b0:Hid (∀W v' (c:List UInt8),bL W w.heap.size v' c->aL w W->c.length<=30000000->H K 204 #[v',Z D E J] W λe w'=> ∃a,e=G a/\bL w' w.heap.size a (c++oU m.2.2.1)/\wZ W w' v' a):=λW v' c h d Q=>YT (x:=(D,E,J)) h d.le (EdsS.of hr d) (λe R=>ge e (Aab R)) (by omega) (by omega)
 have a9:Hid (∀W v' (c:List UInt8),bL W w.heap.size v' c->aL w W->c.length<=900000000->H K 189 #[v'] W λe w'=> ∃a,e=G a/\bL w' w.heap.size a (c++gF (kU c))/\aL w w'):=λW v' c h d Q=>(WW h d.le Q).mono (by
  rintro e w' ⟨a,rfl,k1,k2,k3⟩;exact⟨a,rfl,k1,Mk d h k2⟩)
 have a7:Hid ((oU m.2.1).length<=25000000):=by
  have:=Ng (λe R=>(ge e (Aac R)).2.2.2);show _<=_;unfold oU;rw[Aah,dO];omega
 have Rp:Hid (Rq ep m=(UQ ep m.2.2.2.1 m.2.2.2.2 3++lZ m.1++oU m.2.1++oU m.2.2.1)++gF (kU (UQ ep m.2.2.2.1 m.2.2.2.2 3++lZ m.1++oU m.2.1++oU m.2.2.1))):=rfl
 have c7:Hid ((oU m.2.2.1).length<=25000000):=by
  have:=Ng (λe R=>(ge e (Aab R)).2.2.2);show _<=_;unfold oU;rw[Aah,dO];omega
 have a1:Hid ((lZ m.1).length<=40000):=by show _<=_;rw[wK];omega
 generalize m.2.2.2.1=g at*;generalize m.2.2.2.2=bf at*;generalize Rq ep m=CS at*;generalize lZ m.1=PB at*;generalize oU m.2.1=UB at*;generalize oU m.2.2.1=RB at*;obtain⟨j,QN⟩:∃j,j=((w.alloc (C #[I V g,I V bf,Z X S t3,Z u1 u2 u3,Z D E J] 193)).alloc (C #[I .u8 75] 5)).alloc (C #[I V ep,I V g,I V bf] 3):=⟨_,rfl⟩;have b7:aL w j:=by rw[QN];exact(((aL.refl w).alloc _).alloc _).alloc _
 have k1:j.heap[w.heap.size]?=M (C #[I V g,I V bf,Z X S t3,Z u1 u2 u3,Z D E J] 193 (0,0)):=by
  rw[QN,Abz _ _ (by simp;omega),Abz _ _ (by simp)];exact Aag w _
 have k3:j.heap[w.heap.size+1+1]?=M (C #[I V ep,I V g,I V bf] 3 (0,0)):=by
  rw[QN];have:=Aag ((w.alloc (C #[I V g,I V bf,Z X S t3,Z u1 u2 u3,Z D E J] 193)).alloc (C #[I .u8 75] 5)) (C #[I V ep,I V g,I V bf] 3);rwa[AaD,AaD]at this
 have a6:Hid (bL j w.heap.size (Z (M ⟨w.heap.size+1,0,O⟩) 1 1) [75]):=by
  have:=Acr (base:=w.heap.size) (e:=5) (size:=1) (w.alloc (C #[I V g,I V bf,Z X S t3,Z u1 u2 u3,Z D E J] 193)) #[I .u8 75] 1 (by simp) (by unfold maxLen;omega) rfl;rw[AaD]at this;rw[QN];exact bL.of (Aax this _)
 have HK:Hid (∀W v',wZ j W (Z (M ⟨w.heap.size+1,0,O⟩) 1 1) v'->(W.cell? ⟨w.heap.size,2,O⟩=M (Z X S t3)/\W.cell? ⟨w.heap.size,3,O⟩=M (Z u1 u2 u3)/\W.cell? ⟨w.heap.size,4,O⟩=M (Z D E J))/\(W.cell? ⟨w.heap.size+1+1,0,O⟩=M (I V ep)/\W.cell? ⟨w.heap.size+1+1,1,O⟩=M (I V g)/\W.cell? ⟨w.heap.size+1+1,2,O⟩=M (I V bf))/\aL w W):=λW v' hF=>by
  have h:=hF.at k1 (by simp[Value.ownBlock]);have Q:=hF.at k3 (by simp[Value.ownBlock]);obtain⟨⟨-,-,a2,a3,a4⟩,-⟩:=rZ h;refine⟨⟨a2,a3,a4⟩,by simp[World.cell?,Q],?_⟩;exact lK b7 (hF.below a6.out b7.le)
 unfold MN;simp only[bT.v];clear ht hu hr hg k1 k3 gp ge;go_enter func150,ntmps150;go_upto_region 3 with fail;rw[<-QN];clear QN
 go_loopw [5,7,16] (λv _ i wr=> ∃k:Nat,k<=3/\i=I V (k:Int)/\Hid (bL wr w.heap.size v (UQ ep g bf k)/\wZ j wr (Z (M ⟨w.heap.size+1,0,O⟩) 1 1) v)) (λ_ _ i _=>3-(intOf i).toNat)
 case atStart=>exact⟨0,Aao _,rfl,a6.out,wZ.refl _ _⟩
 case round=>
  obtain⟨k,hk,rfl,P⟩:=hrel;obtain⟨⟨a2,a3,a4⟩,⟨c0,c1,c2⟩,b8⟩:=HK.out wr _ P.out.2;have c5:Hid (aL w wr):=b8;clear b8;by_cases bQ:k<3
  ·have Wj:(k:Int)<3:=(by omega);have i1:(0:Int)<=(k:Int):=by omega
   obtain⟨x,hx,c3,d0⟩:∃x,UQ ep g bf (k+1)=UQ ep g bf k++gF x/\(0<=x/\x<4294967296)/\wr.cell? ⟨w.heap.size+1+1,k,O⟩=M (I V x):=by
    rcases(by omega:k=0\/k=1\/k=2)with rfl|rfl|rfl
    ·exact⟨ep,rfl,⟨by omega,by omega⟩,c0⟩
    ·exact⟨g,rfl,⟨by omega,by omega⟩,c1⟩
    ·exact⟨bf,rfl,⟨by omega,by omega⟩,c2⟩
   have HX:Hid _:=hx;have hn:=HN.out wr _ _ x P.out.1 c5.out.le c3.1 c3.2 (by rw[Uc _ _ _ hk];omega);obtain⟨nX,lQ,ev,-⟩:=bL.form P.out.1;rw[Uc _ _ _ hk]at ev;subst ev;clear hx c0 c1 c2 a2 a3 a4;go_wp2_with (go_at_call 202;refine hn.mono ?_;rintro e o ⟨y,rfl,Yu,QM⟩);have QV:Hid (bL o w.heap.size y (UQ ep g bf k++gF x)/\wZ j o (Z (M ⟨w.heap.size+1,0,O⟩) 1 1) y):=⟨Yu,P.out.2.trans QM⟩;clear Yu QM hn;go_roundw
   case rel=>
    refine⟨k+1,by omega,by go_num,?_,QV.out.2⟩;rw[HX.out];exact QV.out.1
   case measure=>simp[intOf];omega
  ·have Wj:¬(k:Int)<3:=(by omega);have e3:k=3:=(by omega);subst e3;have EX:=Uc ep g bf (by omega);have a0:Hid _:=EX;have hp:=HP.out wr _ _ P.out.1 c5.out (by omega);obtain⟨nX,lQ,ev,-⟩:=bL.form P.out.1;rw[EX]at ev;subst ev
   have b6:Hid (∀o y,bL o w.heap.size y (UQ ep g bf 3++PB)->wZ j o (Z (M ⟨w.heap.size+1,0,O⟩) 1 1) y->o.cell? ⟨w.heap.size,3,O⟩=M (Z u1 u2 u3)/\H K 204 #[y,Z u1 u2 u3] o λe w'=> ∃a,e=G a/\bL w' w.heap.size a (UQ ep g bf 3++PB++UB)/\wZ o w' y a):=λo y h d=>by
    obtain⟨⟨-,b3,-⟩,-,eY⟩:=HK.out o _ d;exact⟨b3,HU.out o y _ h eY (by rw[Aah,a0.out];have:=a1.out;omega)⟩
   have b2:Hid (∀B N,bL B w.heap.size N (UQ ep g bf 3++PB++UB)->wZ j B (Z (M ⟨w.heap.size+1,0,O⟩) 1 1) N->B.cell? ⟨w.heap.size,4,O⟩=M (Z D E J)/\H K 204 #[N,Z D E J] B λe w'=> ∃a,e=G a/\bL w' w.heap.size a (UQ ep g bf 3++PB++UB++RB)/\wZ B w' N a):=λB N h d=>by
    obtain⟨⟨-,-,b4⟩,-,eY⟩:=HK.out B _ d;exact⟨b4,b0.out B N _ h eY (by rw[Aah,Aah,a0.out];have:=a1.out;have:=a7.out;omega)⟩
   have b1:Hid (∀L v7,bL L w.heap.size v7 (UQ ep g bf 3++PB++UB++RB)->wZ j L (Z (M ⟨w.heap.size+1,0,O⟩) 1 1) v7->H K 189 #[v7] L λe w'=> ∃a,e=G a/\bL w' w.heap.size a CS/\aL w w'):=λL v7 h d=>by
    obtain⟨-,-,eY⟩:=HK.out L _ d;have:=a9.out L v7 _ h eY (by rw[Aah,Aah,Aah,a0.out];have:=a1.out;have:=a7.out;have:=c7.out;omega);rw[<-Rp.out]at this;exact this
   have qg:Hid (wZ j wr (Z (M ⟨w.heap.size+1,0,O⟩) 1 1) (Z nX 13 lQ)):=P.out.2;clear EX P HK HN HP HU b0 a9 Rp c0 c1 c2 a3 a4;go_upto_region 8 with(go_at_call 203;refine hp.mono ?_;rintro e o ⟨y,rfl,Yu,QM⟩);have z:=qg.out.trans QM;obtain⟨y3,a5⟩:=b6.out o y Yu z;clear hp a2 QM Yu b6;go_upto_region 9 with(go_at_call 204;refine a5.mono ?_;rintro e B ⟨N,rfl,b9,c4⟩);have A:=z.trans c4;obtain⟨y4,Pm⟩:=b2.out B N b9 A;clear a5 y3 c4 b9 b2 z;go_upto_region 10 with(go_at_call 204;refine Pm.mono ?_;rintro e L ⟨v7,rfl,b5,a8⟩);have c6:=b1.out L v7 b5 (A.trans a8);clear Pm y4 a8 b5 b1 A;go_wp2_with (go_at_call 189;refine c6.mono ?_;rintro e w8 ⟨v8,rfl,c8,c9⟩);go_ret;exact⟨v8,rfl,c8,c9⟩
theorem ltext_pg {L:List (Int×Int)}{x1:Option Addr}{x3:Nat}(hL:w.heap[lp]?=M (jW db ep))(hD:aU w db s fv rs)(hs:(plain rs).Pairwise (λa b=>a.1<b.1))(hl:rs.length<=1000000)
 (hx:bJ w (x1,L.length,x3) L)(Im:uV ((aP (plain rs) 1).size:Int) L)(hlen:L.length<=10000)(hbz:(aP (plain rs) 1).size<=1000000000):
 H K 53 #[U (M ⟨lp,0,O⟩),Z x1 L.length x3] w λe w'=>e=G (.string (nP (aP (plain rs) 1) L))/\aL w w':=by
 have W:=xS (n:=1) hD hs hl;obtain⟨ao,o,ev,iW,Jh⟩:=yE hD hs 1;rw[ev]at W;obtain⟨c0,-⟩:=iE hL;have HR:Hid (vI w x1 L):=hx.1.1;have S:Hid (uV ((aP (plain rs) 1).size:Int) L):=Im;generalize aP (plain rs) 1=d at*;generalize D:d.size=SZ at*;have HZ:Hid _:=D
 have HF:Hid ((ao=O/\SZ=0/\o=0)\/∃b off,ao=M ⟨b,off,O⟩/\pX w (M ⟨b,off,O⟩) d.data.toList/\b<w.heap.size):=by
  rcases Jh with h|⟨b,off,e,h1,cq,fq,h2⟩
  ·exact Aac h
  ·exact Aab ⟨b,off,e,h1,aM h2⟩
 have N:Hid (Nh (w.alloc (C #[U O,Z O 0 0] 174)) w.heap.size w.heap.size []):=⟨Aak _,U O,Z O 0 0,Aac rfl,Aag w _,Eo.nil _ _,by simp[Value.ownBlock]⟩;have YB:Hid (aL w (w.alloc (C #[U O,Z O 0 0] 174))):=(aL.refl w).alloc _;clear hL hD hs hx Im ev Jh D;go_enter func53,ntmps53;go_wp2_with (go_at_call 95;refine W.mono ?_;rintro e w ⟨rfl,rfl⟩);clear W;go_wp2_with fail
 go_loopw [8,16] (λ_ i wr=> ∃k:Nat,k<=L.length/\i=I V (k:Int)/\Hid (Nh wr w.heap.size w.heap.size (nP d (L.take k)).data.toList)/\Hid (aL w wr)) (λ_ i _=>L.length-(intOf i).toNat)
 case atStart=>exact⟨0,Aao _,rfl,(by show Nh _ _ _ _;simpa[nP]using N.out),YB.out⟩
 case round=>
  obtain⟨k,hk,rfl,E,u⟩:=hrel;have jY:=u.out.size;by_cases A:k<L.length
  ·rcases vI.XA HR.out u.out with FK|⟨b,off,rfl,hc⟩
   ·rw[FK]at A;simp at A
   ·obtain⟨d1,d2⟩:=hc k A;have X:=S.out _ (by rw[AbD,Aaf A];exact Acl A:L.getD k (0,0)∈L);have x:Hid (nP d (L.take (k+1))=nP d (L.take k)++d.extract (L.getD k (0,0)).1.toNat ((L.getD k (0,0)).1+(L.getD k (0,0)).2).toNat):=Kb A;have Q:=Vl (b:=d) S.out k;generalize L.getD k (0,0)=p at*;obtain⟨p1,p2⟩:=p;simp only at d1 d2 x X;obtain⟨j,rfl⟩:∃n:Nat,p1=(n:Int):=⟨p1.toNat,by omega⟩;obtain⟨r,rfl⟩:∃n:Nat,p2=(n:Int):=⟨p2.toNat,by omega⟩;have i1:(0:Int)<=(k:Int):=(by omega);have i2:(k:Int)<(L.length:Int):=(by omega);rcases HF.out with⟨-,e2,-⟩|⟨g,go,rfl,Te,Dm⟩
    ·exfalso;omega
    have t:Hid ((nP d (L.take (k+1))).data.toList=(nP d (L.take k)).data.toList++(d.data.toList.drop j).take r):=by
     show _=_;rw[x.out,ByteArray.data_append,Ade,ug];congr 2;omega
    have z:((d.data.toList.drop j).take r).length=r:=by
     rw[Aaz,AaX,show d.data.toList.length=SZ from by rw[<-HZ.out];simp];omega
    have P:(nP d (L.take k)).data.toList.length=(nP d (L.take k)).size:=(by simp);have J:=uf (ao:=M ⟨g,go+j,O⟩) (c:=o-j) (w:=wr.alloc (C #[I V (j:Int),I V (r:Int)] 50)) (B:=w.heap.size) (b:=w.heap.size) (l:=(nP d (L.take k)).data.toList) ?b1 (by simp;omega) (λe=>by cases e) ?b2 ?b3 (by rw[z,P];omega)
    case b1=>
     obtain⟨q1,pp,vv,q2,q3,q4,q5⟩:=E.out;exact⟨q1,pp,vv,q2,by rw[Abz _ _ (aM q3)];exact q3,q4.aN ((aL.refl wr).alloc _),q5⟩
    case b2=>exact(((Te.drop j).take r).aN u.out).aN ((aL.refl wr).alloc _)
    case b3=>intro a e;cases e;exact Dm
    rw[z,<-t.out]at J;clear Q P z x t;have y:=u.out;have i3:¬o=j:=(by omega);have i4:j<=o:=(by omega);have i6:((j:Int)+(r:Int)).toNat-j=r:=(by omega);have i7:(j:Int)+(r:Int)<=(o:Int):=(by omega);clear E u Te hc HF;go_wp2_with (go_at_call 96;refine J.mono ?_;rintro e w4 ⟨rfl,JB,Yf⟩);go_roundw
    case rel=>exact⟨k+1,by omega,by go_num,JB,Below.trans (aL.alloc y _) Yf⟩
    case measure=>simp[intOf];omega
  ·have a0:k=L.length:=(by omega);rw[a0,Aca]at E;have R:=Tryz.Builder_String_any w.heap.size w.heap.size (nP d L).data.toList wr E.out.is jY;have y:=u.out;clear E u HR S N YB;go_wp2_with (go_at_call 97;refine R.mono ?_;rintro e w4 ⟨rfl,Yf⟩);go_ret;exact⟨rfl,Below.trans y Yf⟩
theorem uj {sp dp tb dd:Nat}{most depth:Int}{ro:Bool}(h:w.heap[qp]?=M (yF most depth db (M sp)))(hs:w.heap[sp]?=M (vP lp dp ro))(hL:w.heap[lp]?=M (jW db ep))(hD:aU w db s fv rs)(hsr:(plain rs).Pairwise (λa b=>a.1<b.1))(hl:rs.length<=1000000)(hbz:(aP (plain rs) 1).size<=1000000000)
 (hd:aW w dp tb dd m)(hz:sz m.1<=5000)(h0:0<=n)(h1:0<=pos)(h2:pos+n<=sz m.1)(Im:uV ((aP (plain rs) 1).size:Int) m.1)(Ig:m.1.length<=10000):
 H K 18 #[U (M ⟨qp,0,O⟩),I V pos,I V n] w λe w'=>e=G (.tuple #[.string (nP (aP (plain rs) 1) (fJ m.1 pos (pos+n))),I V 0])/\aL w w':=by
 obtain⟨-,-,-,k,-⟩:=fG h;obtain⟨t,A,-⟩:=lH hs;simp only[Abi]at k;have r:=dpart_pg hd hz h0 h1 h2;have d:=KX Im pos (pos+n);have D:=uJ m.1 pos (pos+n);have o:Hid (∀W g c,aL w W->bJ W (g,(fJ m.1 pos (pos+n)).length,c) (fJ m.1 pos (pos+n))->H K 53 #[U (M ⟨lp,0,O⟩),Z g (fJ m.1 pos (pos+n)).length c] W λe w'=>e=G (.string (nP (aP (plain rs) 1) (fJ m.1 pos (pos+n))))/\aL W w'):=λW g c u i=>ltext_pg ((u.block _ (aM hL)).trans hL) (hD.aN u) hsr hl i d (by omega) hbz;generalize nP (aP (plain rs) 1) (fJ m.1 pos (pos+n))=T at*;generalize fJ m.1 pos (pos+n)=L at*;clear h hs hd hL hD hsr Im d D Ig h2 hz hl hbz;go_enter func18,ntmps18;go_wp2_with fail;refine r.mono ?_;rintro e z ⟨g,y,c,rfl,i,j⟩;obtain rfl:y=L.length:=i.2.1;have E:=Aay j k;have N:=Aay j t;have x:=o.out z g c j i;clear k t A r i o;go_wp2_with (go_at_call 53;refine x.mono ?_;rintro e J ⟨rfl,B⟩);go_ret2;exact⟨rfl,aQ j B⟩
theorem opn_buf {em:Int×dI}(h:Kv fs depth=M em)(hb:((aP fs 1).size:Int)<=1000000):0<=(vF fs depth em).1.2.2.2.2:=by
 obtain⟨-,c,-,a,-⟩:=Gg h hb;exact(Nn hb depth ((aP fs (10+em.1)).size / 22+1) em.2 (aP fs (10+em.1)).data.toList c a).1.Fa
theorem xread {X:Nat->Prop}(h:wB w qp s fs m X)(hg:GS (s,fs,m) D)(hn:n<=9223372036854775807):
 H K 18 #[U (M ⟨qp,0,O⟩),I V pos,I V n] w λe w'=>e=G (.tuple #[.string (sQ (s,fs,m) pos n).1,I V (sQ (s,fs,m) pos n).2])/\aL w w':=by
 rcases h with⟨d,A,u,c,a,rfl,r,rfl⟩|⟨d,A,u,c,R,J,L,tb,a,rfl,rfl⟩
 ·have e:sQ (s,plain c,m) pos n=(⟨#[]⟩,3):=by unfold sQ;rw[Aad d]
  rw[e];refine(UZ r).mono ?_;rintro e w' ⟨rfl,rfl⟩;exact⟨rfl,aL.refl _⟩
 ·have j:eX m s.depth.toNat:=hg.Ee d;have y:=j.long;have z:=Ah (λp k=>by have:=j.text p k;omega);by_cases o:pos<0\/n<0\/sz m.1<pos\/sz m.1-pos<n
  ·have e:sQ (s,plain c,m) pos n=(⟨#[]⟩,5):=(by unfold sQ;rw[Aaa (by simp[d]),Aad o]);rw[e]
   have x:n<0\/sK m.1 pos n=false:=by
    by_cases E:n<0
    ·exact Aac E
    ·refine Aab ?_;unfold sK;rw[Bool.and_eq_false_iff,Acv,Acv];omega
   refine(qread_no a.qu a.Bg a.CX hn (by omega) z x).mono ?_;rintro e w' ⟨rfl,rfl⟩;exact⟨rfl,aL.refl _⟩
  ·have e:sQ (s,plain c,m) pos n=(nP (aP (plain c) 1) (fJ m.1 pos (pos+n)),0):=(by unfold sQ;rw[Aaa (by simp[d]),Aaa o]);rw[e];have i:=hg.buf d;have g:=hg.bk.len;simp only[bP]at g;have t:=gN hg.bk.inv 1;have B:=hg.bk.dJ.kZ;have S:m.2.2.2.2<=((aP (plain c) 1).size:Int):=i;have P:((aP (plain c) 1).size:Int)<=s.room:=t;have N:s.room<=1000000:=B;have Q:=j.few;exact uj a.qu a.Bg a.wG a.disk hg.bk.inv.sort.1 (by omega) (by omega) a.CX y (by omega) (by omega) (by omega) (λp k=>by have:=j.text p k;omega) (by omega)
theorem VN {r:gZ}{m:Int}{s:ByteArray}(hP:gI w B r)(hS:GS r.x D)(hn:m<=9223372036854775807):
 H K 23 #[U (M ⟨r.sb,0,O⟩),.agg #[I V 18,I V a,I V n,I V m,I V k,.string s,Z fo fl fc]] w λe w'=>e=G (.bool true)/\aL w w':=by
 obtain⟨g,X⟩:∃g,g=w.alloc (iZ 18 a n m k s fo fl fc):=⟨_,rfl⟩;have G0:aL w g:=by rw[X];exact(aL.refl w).alloc _
 have gU:g.heap[w.heap.size]?=M (iZ 18 a n m k s fo fl fc):=by rw[X];exact Aag w _
 have S:=hP.aN G0;obtain⟨N,E⟩:=lM S.sb;obtain⟨s0,-,z,t,-,-,-⟩:=iI gU;obtain⟨x1,x2,x3⟩:∃x:St,x=r.x/\True:=⟨_,rfl,trivial⟩;obtain⟨P,Q,L⟩:∃b c,sQ r.x n m=(b,c):=⟨_,_,rfl⟩
 have HQ:Hid (∀W,aL g W->H K 18 #[U (M ⟨r.qp,0,O⟩),I V n,I V m] W λe w'=>e=G (.tuple #[.string P,I V Q])/\aL g w'):=λW hW=>by
  refine(xread (S.q.aN hW) hS hn).mono ?_;rintro e w' ⟨rfl,d⟩;exact⟨by rw[show((r.x.1,r.x.2.1,r.x.2.2):St)=r.x from rfl,L],aQ hW d⟩
 have HR:Hid (∀W,aL g W->H K 60 #[U (M ⟨r.xb,0,O⟩),I V n,I V m] W λe w'=>e=G (.tuple #[.string P,I V Q])/\aL g w'):=λW hW=>by
  refine(read_ref (S.y.aN hW) (by have:=hS.bk.len;omega) hS.bk.dJ hS.bk.inv (λho=>⟨hS.Ee ho,hS.buf ho⟩)).mono ?_;rintro e w' ⟨rfl,d⟩;exact⟨by rw[show((r.x.1,r.x.2.1,r.x.2.2):St)=r.x from rfl,L],aQ hW d⟩
 obtain⟨rx,hx,hf,hm⟩:=S.y;have yN:g.cell? ⟨r.xb,10,O⟩=M (.bool r.x.1.aX):=by simp[World.cell?,hx,bR]
 have HG:Hid (aL w g):=G0;unfold iZ at X;clear hP S gU G0 hx hf hm hS x2 L;go_enter func23,ntmps23;go_upto_region 1 with fail;rw[<-X];clear X;generalize w.heap.size=J at*;generalize a0:r.x.1.aX=op at*;cases op with
 |true=>
  go_upto_region 16 with fail
  go_cut [11,12] (λu v wc=>u= .string P/\v=I V Q/\aL g wc)
  case first=>
   have A:=aL.refl g;clear HR E s0 yN
   go_region_held3 (λw'=>w'.cell? ⟨r.sb,0,O⟩=M (U (M ⟨r.qp,0,O⟩))/\w'.cell? ⟨J,2,O⟩=M (I V n)/\w'.cell? ⟨J,3,O⟩=M (I V m)/\aL g w')
    (first|(exact⟨d.cell N,d.cell z,d.cell t,d⟩)|(exact⟨(aL.drew A).cell N,(aL.drew A).cell z,(aL.drew A).cell t,aL.drew A⟩))
    (first|(go_at_call 18;refine(HQ.out _ (by go_split_ands;assumption)).mono ?_;rintro e w5 ⟨rfl,d⟩))
   all_goals go_wp2_with fail
   all_goals go_meet
   all_goals exact⟨rfl,rfl,d⟩
  case rest=>
   obtain⟨rfl,rfl,d⟩:=hcut
   rename F=>wc
   have q1:=d.cell E;have q2:=d.cell z;have q3:=d.cell t;have j:=E;have i:=z;have o:=t;clear N E s0 z t yN;go_upto_region 17 with fail
   go_cut [13,14] (λu v R=>u= .string P/\v=I V Q/\aL g R)
   case first=>
    clear HQ
    go_region_held3 (λw'=>w'.cell? ⟨r.sb,1,O⟩=M (U (M ⟨r.xb,0,O⟩))/\w'.cell? ⟨J,2,O⟩=M (I V n)/\w'.cell? ⟨J,3,O⟩=M (I V m)/\aL g w')
     (first|(exact⟨h.cell j,h.cell i,h.cell o,h⟩)|(exact⟨(aL.drew d).cell j,(aL.drew d).cell i,(aL.drew d).cell o,aL.drew d⟩))
     (first|(go_at_call 60;refine(HR.out _ (by go_split_ands;assumption)).mono ?_;rintro e w5 ⟨rfl,h⟩))
    all_goals go_wp2_with fail
    all_goals go_meet
    all_goals exact⟨rfl,rfl,h⟩
   case rest=>
    obtain⟨rfl,rfl,h⟩:=hcut
    rename F=>R
    go_wp2_with (go_at_call 27;refine kW.mono ?_;rintro e w3 ⟨rfl,rfl⟩);go_ret;exact⟨by simp,aQ HG.out h⟩
 |false=>
  go_upto_region 16 with fail
  go_cut [11,12] (λu v wc=>u= .string P/\v=I V Q/\aL g wc)
  case first=>
   have A:=aL.refl g;clear HR E s0 yN
   go_region_held3 (λw'=>w'.cell? ⟨r.sb,0,O⟩=M (U (M ⟨r.qp,0,O⟩))/\w'.cell? ⟨J,2,O⟩=M (I V n)/\w'.cell? ⟨J,3,O⟩=M (I V m)/\aL g w')
    (first|(exact⟨d.cell N,d.cell z,d.cell t,d⟩)|(exact⟨(aL.drew A).cell N,(aL.drew A).cell z,(aL.drew A).cell t,aL.drew A⟩))
    (first|(go_at_call 18;refine(HQ.out _ (by go_split_ands;assumption)).mono ?_;rintro e w5 ⟨rfl,d⟩))
   all_goals go_wp2_with fail
   all_goals go_meet
   all_goals exact⟨rfl,rfl,d⟩
  case rest=>
   obtain⟨rfl,rfl,d⟩:=hcut
   rename F=>wc
   have q1:=d.cell E;have q2:=d.cell z;have q3:=d.cell t;have j:=E;have i:=z;have o:=t;clear N E s0 z t yN;go_upto_region 17 with fail
   go_cut [13,14] (λu v R=>u= .string P/\v=I V Q/\aL g R)
   case first=>
    clear HQ
    go_region_held3 (λw'=>w'.cell? ⟨r.sb,1,O⟩=M (U (M ⟨r.xb,0,O⟩))/\w'.cell? ⟨J,2,O⟩=M (I V n)/\w'.cell? ⟨J,3,O⟩=M (I V m)/\aL g w')
     (first|(exact⟨h.cell j,h.cell i,h.cell o,h⟩)|(exact⟨(aL.drew d).cell j,(aL.drew d).cell i,(aL.drew d).cell o,aL.drew d⟩))
     (first|(go_at_call 60;refine(HR.out _ (by go_split_ands;assumption)).mono ?_;rintro e w5 ⟨rfl,h⟩))
    all_goals go_wp2_with fail
    all_goals go_meet
    all_goals exact⟨rfl,rfl,h⟩
   case rest=>
    obtain⟨rfl,rfl,h⟩:=hcut
    rename F=>R
    go_wp2_with (go_at_call 27;refine kW.mono ?_;rintro e w3 ⟨rfl,rfl⟩);go_ret;exact⟨by simp,aQ HG.out h⟩
theorem gs0:GS FK 1000100000:=OV ⟨by omega,by omega,by omega,by omega,by omega,by omega⟩
section
variable {w:F} {B wb p:Nat} {ts:List Rec} {rs:List gZ} {bs:List Bool} {D:Int} {dX eZ vp vf vm:Y} {hs gs:List bT} {r:gZ} {q a n m k:Int} {s:ByteArray} {fo:Option Addr} {fl fc:Nat}
theorem Nv.aN {w':F}(h:fI w B wb ts rs bs D dX eZ vp vf vm hs gs)(hg:aL w w'):Nv w w' B wb ts rs bs D:=⟨_,_,AcK _,AcK _,gX.aN h hg⟩
theorem Rw (h:fI w B wb ts rs bs D dX eZ vp vf vm hs gs)(hl:rs.length<=2000000)(hq:q=11\/8<=q/\¬q=11/\rs.length=0):
 H K 5 #[U (M ⟨wb,0,O⟩),.agg #[I V q,I V a,I V n,I V m,I V k,.string s,Z fo fl fc]] w λe w'=>e=G (.bool true)/\Nv w w' B wb ts rs bs D:=by
 obtain⟨i,c⟩:∃i,i=w.alloc (iZ q a n m k s fo fl fc):=⟨_,rfl⟩;have d:aL w i:=by rw[c];exact(aL.refl w).alloc _
 have o:i.heap[w.heap.size]?=M (iZ q a n m k s fo fl fc):=by rw[c];exact Aag w _
 obtain⟨W,P,s2,s3,s4,R,s6⟩:=iI o;unfold iZ at c;rcases hq with rfl|⟨hq,x,N⟩
 ·have y:Hid (H K 20 #[U (M ⟨wb,0,O⟩),.agg #[I V 11,I V a,I V n,I V m,I V k,.string s,Z fo fl fc]] i λe w'=>e=G (.bool true)/\Nv w w' B wb ts rs bs D):=by
   have S:=h.lt;by_cases r:Dq n m k
   ·refine(zm (h.aN d) hl r).mono ?_;rintro e w' ⟨rfl,j⟩;exact⟨rfl,_,_,AcK _,Aak _,(j.early (by omega) d).more (by omega)⟩
   ·refine(made_no r).mono ?_;rintro e w' ⟨rfl,j⟩;exact⟨rfl,Nv.aN h (aQ d j)⟩
  clear o d h;go_enter func5,ntmps5;go_upto_region 1 with fail;rw[<-c];clear c;generalize w.heap.size=J at*;go_wp2_with (go_at_call 20;refine y.out.mono ?_;rintro e w5 ⟨rfl,E⟩);go_ret;exact⟨rfl,E⟩
 ·have L:Hid (Nv w i B wb ts rs bs D):=Nv.aN h d;obtain⟨-,c1,-⟩:=bW (h.aN d).wX
  obtain⟨t,u,rfl⟩:∃t u,eZ=Z t 0 u:=by
   rcases h.sp.1.2 with⟨z,X⟩|⟨g,mF,aR,A,-⟩
   ·exact⟨O,0,z⟩
   ·exact⟨_,_,by rw[A,N]⟩
  have q1:(q==1)=false:=by simp;omega
  have q2:(q==11)=false:=by simp;omega
  have Q:¬q<=7:=by omega
  clear o d h;go_enter func5,ntmps5;go_upto_region 1 with fail;rw[<-c];clear c;generalize w.heap.size=J at*;go_wp2_with fail;go_ret;exact⟨rfl,L.out⟩
end
theorem growsA3 {wb i:Nat}{rs:List Rec}{ss:List gZ}{bs:List Bool}{r:Rec}(h:IA w B wb rs ss bs D)(hc:bs.length<=1200000000000)(hr:rs[i]?=M r){m:Int}{s:ByteArray}(hn:n<=9223372036854775807)(hm:m<=9223372036854775807):
 H K 6 #[U (M ⟨wb,0,O⟩),U (M ⟨r.sb,0,O⟩),pY 3 a n m k s fo fl fc] w λe w'=>e=G (.bool true)/\sG w w' B wb rs.length ss.length (bs.length+1) D:=by
 obtain⟨E,x,L,-,-⟩:=h.rec hr;have HI:Hid (IA w B wb rs ss bs D):=h;have b3:=h.lt;obtain⟨dX,eZ,vp,vf,vm,hs,gs,J⟩:=h;have h1:=J.wX;have h2:=J.RA;have h6:=J.lp.1;have h7:hs.length<=4*bs.length:=by rw[J.lp.2.1];have:bs.count true<=bs.length:=AcI;omega
 have h9:=J.ms;have h3:=True.intro;have h4:=True.intro;have h5:=True.intro;have h8:=True.intro;have H0:Hid (fI w B wb rs ss bs D dX eZ vp vf vm hs gs):=J;clear J;have a3:=x;obtain⟨q1,q2,q3,-⟩:=a3;obtain⟨sb,tb,z,R,l⟩:=r;simp only[Rec.sb,Rec.tb,Rec.l,Rec.v]at E x L q3 ⊢;obtain⟨c0,c1,-⟩:=pair_cells E;have bQ:=aM E;have Od:=aM q3;have b4:w.heap.size≠sb:=by omega
 have n1:sb≠tb:=λe=>by rw[e]at E;exact bF E q3 (dQ (by decide))
 have n2:w.heap.size≠tb:=by omega
 obtain⟨kD,u⟩:=x.ok;have Rv:Hid (w.heap[sb]?=M (lU tb (Z z l.length R))):=E;have HH:Hid (w.heap[wb]?=M (dN dX eZ (bs.length:Int) vp vf vm)):=h1;clear E q3 h1;unfold pY;go_enter func6,ntmps6;go_upto_region 9 with fail;have o:Below w.heap.size w (w.alloc (C #[I V 3,I V a,I V n,I V m,I V k,.string s,Z fo fl fc] 37)):=aO _ _;have x2:(w.alloc (C #[I V 3,I V a,I V n,I V m,I V k,.string s,Z fo fl fc] 37)).cell? ⟨w.heap.size,2,O⟩=M (I V n):=by simp
 have x3:(w.alloc (C #[I V 3,I V a,I V n,I V m,I V k,.string s,Z fo fl fc] 37)).cell? ⟨w.heap.size,3,O⟩=M (I V m):=by simp
 have x0:=Aay o c0;have x1:=Aay o c1;have S:=x.below o;have su:=L.fr (Fr.bK o (λ_=>False)) (λ_ _ _=>id);clear c0 c1;generalize w.alloc (C #[I V 3,I V a,I V n,I V m,I V k,.string s,Z fo fl fc] 37)=P at*
 go_cut [11,12] (λv e wc=> ∃j,v=Z j (kL l n m).2.1.length (kL l n m).2.1.length/\e=I V (kL l n m).2.2/\fH wc P.heap.size (Z j (kL l n m).2.1.length (kL l n m).2.1.length) (kL l n m).2.1/\cK wc tb (kL l n m).1/\Gt tb P wc)
 case first=>
  have ga:=Gt.refl tb P;have a4:=S.drew;clear x S x1 L su o h3 h4 h5 h6 h7 h8 h9
  go_region_held3 (λw'=>w'.cell? ⟨sb,0,O⟩=M (U (M ⟨tb,0,O⟩))/\w'.cell? ⟨w.heap.size,2,O⟩=M (I V n)/\w'.cell? ⟨w.heap.size,3,O⟩=M (I V m)/\Gt tb P w')
   (first|(refine keepT3 x0 x2 x3 n1 n2 n2 ?_;go_split_ands;first|assumption|(exact Gt.drew (by assumption))|(exact Gt.more (by assumption) (by assumption))))
   (first|(go_at_call 28;refine(Qr a4 hm hn).mono ?_;rintro e w5 ⟨j,rfl,QO,a0,eY⟩))
  all_goals go_wp2_with fail
  all_goals go_meet
  all_goals exact⟨j,rfl,rfl,QO,a0,by go_split_ands;assumption⟩
 case rest=>
  obtain⟨j,rfl,rfl,Al,t1,g1⟩:=hcut
  rename F=>y
  have z1:=g1.cell x1 n1;have z2:=g1.cell x2 n2;have z3:=g1.cell x3 n2
  have a6:nK y z l:=su.fr (Fr.iA g1) (λb c e hx=>by
   cases hx
   obtain⟨_,_,q5,-⟩:=S;exact bF e q5 (dQ (by decide)))
  go_upto_region 10 with fail
  go_cut [13,14,15] (λv b f wc=> ∃d Be X bc,v=Z d (kL l n m).1.length Be/\b=Z X (kL l n m).2.1.length bc/\f=I V (kL l n m).2.2/\nK wc d (kL l n m).1/\nK wc X (kL l n m).2.1/\(∀a,d=M a->z=M a\/y.heap.size<=a.block)/\aL y wc)
  case first=>
   have ga:=aL.refl y;clear x0 x1 x2 x3 x S t1 g1 su L o Al h3 h4 h5 h6 h7 h8 h9
   go_region_held3 (λw'=>w'.cell? ⟨sb,1,O⟩=M (Z z l.length R)/\w'.cell? ⟨w.heap.size,2,O⟩=M (I V n)/\w'.cell? ⟨w.heap.size,3,O⟩=M (I V m)/\aL y w')
    (first|(refine SH z1 z2 z3 ?_;go_split_ands;first|assumption|(exact aL.drew (by assumption))|(exact aL.more (by assumption) (by assumption))))
    (first|(go_at_call 29;refine(KA (l:=l) (w:=y.drew) (a6.fr (Fr.bK (w':=y.drew) ⟨rfl,rfl,rfl,Aak _,λ_ _=>rfl⟩ (λ_=>False)) (λ_ _ _=>id)) rfl kD u).mono ?_;rintro e w5 ⟨d,Be,X,bc,rfl,Dv,Td,a7,lN⟩))
   all_goals go_wp2_with fail
   all_goals go_meet
   all_goals exact⟨_,_,_,_,rfl,rfl,rfl,Dv,Td,a7,by go_split_ands;assumption⟩
  case rest=>
   obtain⟨d,Be,X,bc,rfl,rfl,rfl,r2,r3,Lc,g2⟩:=hcut;have pa:P.heap[sb]?=M (lU tb (Z z l.length R)):=(o.block sb bQ).trans Rv.out;have pc:y.heap[sb]?=M (lU tb (Z z l.length R)):=iP g1 pa (by simpa using λe=>n1 e.symm);have pd:=(g2.block sb (aM pc)).trans pc;obtain⟨v0,v1,b2⟩:=pair_cells pd;obtain⟨Q,N,f3,f4,f5,f6⟩:=Xu (Be:=Be) HI.out hr o g1 t1 g2 r2
   have Xv:fH (wc.setCell ⟨sb,1,O⟩ (Z d (kL l n m).1.length Be)) P.heap.size (Z j (kL l n m).2.1.length (kL l n m).2.1.length) (kL l n m).2.1:=
    bE (Al.aN g2) (Fr.set wc ⟨sb,1,O⟩ _) (λg c _ e=>f6 _ _ _ _ (by decide) e)
   have b0:nK (wc.setCell ⟨sb,1,O⟩ (Z d (kL l n m).1.length Be)) X (kL l n m).2.1:=r3.fr (Fr.set wc ⟨sb,1,O⟩ _) (λb c e=>f6 _ _ _ _ (by decide) e);obtain⟨a2,b1,a9,a1,-⟩:=nK.jR Xv;obtain rfl:j=a2:=by injection a9
   have Dm:=M_ u n m;have Ic:=o.size
   have A:∀b (c:Array Y) (t:TypeId) (f:Nat×Nat),t≠65->t≠104->w.heap[b]?=M (C c t f)->¬(b=sb\/b=tb):=by
    intro b c t f e1 e2 hb hx;rcases hx with rfl|rfl
    ·exact bF hb Rv.out (dQ e1)
    ·obtain⟨_,_,q5,-⟩:=x;exact bF hb q5 (dQ e2)
   have w1:=Q.at HH.out (A _ _ _ _ (by decide) (by decide) HH.out);have w6:=bE h6 Q (λg c _ e=>A _ _ _ _ (by decide) (by decide) e);have w9:kK _ B vm (PX bs):=bE h9 Q (λg c _ e=>A _ _ _ _ (by decide) (by decide) e);have W:=Al.lt
   have a5:∀a,j=M a->∃c,(wc.setCell ⟨sb,1,O⟩ (Z d (kL l n m).1.length Be)).heap[a.block]?=M (C c 50 (0,0)):=λa e=>by
    obtain⟨c,Yc,-⟩:=Xv.typed a e;exact⟨c,Yc⟩
   have a8:∀a,d=M a->∀g,j=M g->a.block≠g.block:=λa ha g hg=>by
    obtain⟨s1,s2⟩:=W g hg;rcases Lc a ha with e|e
    ·obtain⟨c,Yc⟩:=L.2 a e;have:=aM Yc;omega
    ·omega
   have FB:∀nd w',Nt ((wc.setCell ⟨sb,1,O⟩ (Z d (kL l n m).1.length Be)).drewN nd) w' B wb bs.length dX eZ vp vf vm (PX bs) hs j->sG w w' B wb rs.length ss.length (bs.length+1) D:=λnd w' hD=>
    fI.owned (r:=(sb,tb,z,R,l)) (w3:=(wc.setCell ⟨sb,1,O⟩ (Z d (kL l n m).1.length Be)).drewN nd) H0.out hr Q ⟨N.os,N.tape,N.output,N.size,N.block⟩ f3 (f4.below ⟨rfl,rfl,rfl,Aak _,λ_ _=>rfl⟩) f5
     (λa e=>by have:=(W a e).1;omega) a5 a8 hD
   clear pa pc pd x0 x1 x2 x3 z1 z2 z3 Rv Q N f3 f4 f5 f6 h3 h4 h5 h6 h8 h9 HI hr su L S t1 x g1 g2 r2 r3 Al;go_wp2_with fail;refine(Ul (l:=(kL l n m).2.1) a1.1 b0.1 rfl rfl (by omega)).mono ?_;rintro e w8 ⟨rfl,nd,rfl⟩;go_wp2_with fail;refine(PU (hs:=hs) (l:=(kL l n m).2.1) (by exact w1) h2 (by exact w6) h7 (tV bs) (by exact w9) (by exact fH.weak Xv (by omega)) hc (by omega)).mono ?_;rintro e w9 ⟨rfl,hD⟩;go_wp2_with fail;refine kW.mono ?_;rintro e w9 ⟨rfl,rfl⟩;go_wp2_with fail;go_ret;exact⟨by simp,FB _ _ hD⟩
section
variable {w wr w1 w2:F} {B wb nt ns nb nb' k i:Nat} {ts:List Rec} {ss:List gZ} {bs:List Bool} {D:Int} {dX eZ vp vf vm:Y} {hs gs:List bT}
theorem still_A (h:fI w B wb ts ss bs D dX eZ vp vf vm hs gs)(hc:bs.length<=1200000000000):H K 9 #[U (M ⟨wb,2,O⟩)] w λe w'=>e=G (.bool true)/\aL w w':=
 za h.wX h.lp.1 h.fp.1 h.lp.2.1 h.fp.2.1 h.lp.2.2 h.fp.2.2 h.ms hc
end
end Go.Proofs.YtfplgfodoiiobabGreatDoor
