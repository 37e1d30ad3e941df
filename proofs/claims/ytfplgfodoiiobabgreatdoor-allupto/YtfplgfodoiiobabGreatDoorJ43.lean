/- a part of the proof. -/
import Derived.Test.YtfplgfodoiiobabGreatDoorJ23
import Derived.Test.YtfplgfodoiiobabGreatDoorJ32
import Derived.Test.YtfplgfodoiiobabGreatDoorJ34
import Derived.Test.YtfplgfodoiiobabGreatDoorJ35
import Derived.Test.YtfplgfodoiiobabGreatDoorJ37
import Derived.Test.YtfplgfodoiiobabGreatDoorJ42
open Option renaming none->O,some->M
open Go.Value renaming int->I,slice->Z,pointer->U
open Go.IntKind renaming i64->V
open Go.Obj renaming cells->C
open Go.Ending renaming returned->G
open Go renaming World->F,Value->Y,Calls->H
open Go.Proofs.Tryz renaming prog→K
open Go.Proofs.Tryz
namespace Go.Proofs.YtfplgfodoiiobabGreatDoor
set_option maxHeartbeats 4000000
set_option maxRecDepth 100000
open Go.RowKit
variable {w:F}{ps:Nat->Addr}{m:dI}{s:Sc}{qp lp dp db tb depth cap:Nat}{fs:List bD}{X:Nat->Prop}{D pos n ep q a b c:Int}{fv:Y}{rs:List FR}{text:ByteArray}{ao:Option Addr}{l:List UInt8}
theorem rz {n:Nat}(hL:w.heap[lp]?=M (jW db ep))(hd:aW w dp tb depth m)(hg:eX m depth)(hD:aU w db s fv rs)(hO:qB 1000 s (plain rs))(hG:Gl w ps)
 (hRR:∀W,aL w W->H K 163 #[Z ao n cap] W λe w'=>e=Rh (mP l)/\aL W w')(hD9:m.2.2.2.1<=2000000000)(hr:Av m l ((aP (plain rs) 1).size:Int) depth=O):
 H K 129 #[U (M ⟨lp,0,O⟩),U (M ⟨dp,0,O⟩),Z ao n cap] w λe w'=>e=G (.bool false)/\aL w w':=by
 have Ur:=hg.done;obtain⟨g,o⟩:∃g,g=(w.alloc (C #[U (M ⟨lp,0,O⟩)] 116)).alloc (C #[U (M ⟨dp,0,O⟩)] 117):=⟨_,rfl⟩;have z:aL w g:=by rw[o];exact((aL.refl w).alloc _).alloc _
 have B:g.heap[w.heap.size]?=M (C #[U (M ⟨lp,0,O⟩)] 116 (0,0)):=by
  rw[o,Abz _ _ (by simp)];exact Aag w _
 have S:g.heap[w.heap.size+1]?=M (C #[U (M ⟨dp,0,O⟩)] 117 (0,0)):=by
  rw[o];have:=Aag (w.alloc (C #[U (M ⟨lp,0,O⟩)] 116)) (C #[U (M ⟨dp,0,O⟩)] 117);rwa[AaD]at this
 have i:=hRR g z;have Ht:Hid (aL w g):=z
 have J:Hid (∀W,aL g W->W.heap[w.heap.size]?=M (C #[U (M ⟨lp,0,O⟩)] 116 (0,0))/\W.heap[w.heap.size+1]?=M (C #[U (M ⟨dp,0,O⟩)] 117 (0,0))/\W.heap[lp]?=M (jW db ep)/\W.cell? ⟨w.heap.size+1,0,O⟩=M (U (M ⟨dp,0,O⟩))):=λW h=>by
  have h2:=(h.block _ (aM S)).trans S;have XR:=z.then h;exact⟨(h.block _ (aM B)).trans B,h2,(XR.block _ (aM hL)).trans hL,by simp[World.cell?,h2]⟩
 have j:Hid (∀W,aL g W->aW W dp tb depth m/\aU W db s fv rs/\Gl W ps):=λW h=>⟨hd.aN (z.then h),hD.aN (z.then h),hG.aN (z.then h)⟩;have r:Hid (∀W,aL g W->H K 54 #[U (M ⟨dp,0,O⟩)] W λe w'=>e=G (I V m.2.2.2.1)/\w'=W):=λW h=>Mq (j.out W h).1;clear B S z hRR hL hd hD hG;cases D:mP l with
 |none=>
  rw[D]at i;unfold Rh at i;simp only at i;clear hr D J;go_enter func129,ntmps129;go_upto_region 1 with fail;rw[<-o];clear o;go_wp2_with (go_at_call 163;refine i.mono ?_;rintro e u ⟨rfl,A⟩);go_ret;exact⟨rfl,(Ht.out.then A).alloc _⟩
 |some rec=>
  obtain⟨d,q,a,b,c⟩:=rec;obtain⟨bd,bq,ba,bb,bc⟩:=YN D;rw[D]at i;unfold Rh at i;simp only at i
  have HR:Hid ((if d≠m.2.2.2.1+1 then O else if qN m q a b c 5000≠0 then O else if q=73/\((aP (plain rs) 1).size:Int)<m.2.2.2.2+c then O else M (iD m q a b c 5000 depth).1)=(O:Option dI)):=by
   have:=hr;unfold Av at this;rw[D]at this;exact this
  clear hr D
  have k:Hid (∀W,aL g W->W.heap[w.heap.size]?=M (C #[U (M ⟨lp,0,O⟩)] 116 (0,0))->RpB (W.alloc (C #[I .u8 q,I V a,I V b,I V c] 128)) W.heap.size (w.heap.size+1) w.heap.size lp dp db ep q a b c/\aL g (W.alloc (C #[I .u8 q,I V a,I V b,I V c] 128))):=λW h _=>by
   have ga:=h.alloc (C #[I .u8 q,I V a,I V b,I V c] 128);obtain⟨k1,k2,k3,-⟩:=J.out _ ga;exact⟨⟨Aag W _,k2,k1,k3⟩,ga⟩
  by_cases Q:d=m.2.2.2.1+1
  ·have a0:=beq_iff_eq.2 Q;have XK:wrap64 (m.2.2.2.1+1)=m.2.2.2.1+1:=by unfold wrap64;omega
   have N:Hid (∀W,aL g W->∀cb,RpB W cb (w.heap.size+1) w.heap.size lp dp db ep q a b c->H K 91 #[U (M ⟨dp,0,O⟩),.agg #[I .u8 q,I V a,I V b,I V c],I V 5000,.func (.func 164) #[] #[U (M ⟨cb,0,O⟩),U (M ⟨w.heap.size+1,0,O⟩),U (M ⟨w.heap.size,0,O⟩)]] W λe w'=> ∃t x,e=G (.iface t x)/\aL W w'):=λW h cb hB=>by
    obtain⟨q1,q2,q3⟩:=j.out W h;by_cases hm:qN m q a b c 5000=0
    ·have hR:=HR.out;rw[Aaa (by simpa using Q),Aaa (by simpa using hm)]at hR
     have L:q=73/\((aP (plain rs) 1).size:Int)<m.2.2.2.2+c:=by
      by_cases L:q=73/\((aP (plain rs) 1).size:Int)<m.2.2.2.2+c
      ·exact L
      ·rw[Aaa L]at hR;cases hR
     obtain⟨rfl,L⟩:=L;refine(Rk (P:=λW0 _ _ w'=>aL W0 w') q1 hg (by omega) (by omega) (by omega) hm e_rep1 (λW' R=>?_)).mono ?_
     ·refine(NH (hB.aN R) (q1.aN R) (q2.aN R) hO (q3.aN R) hg.Fa hg.Dw bc.1 bc.2).mono ?_;rintro e w' ⟨rfl,sN⟩;rw[Aad L];exact⟨_,_,rfl,sN⟩
     ·rintro e w' ⟨W0,t,x,rfl,g1,g2⟩;exact⟨t,x,rfl,g1.then g2⟩
    ·refine(Vy q1 hg (by omega) (by omega) (by omega) hm).mono ?_;rintro e w' ⟨v,rfl,⟨bx,rfl,-⟩,sN⟩;exact⟨_,_,rfl,sN⟩
   clear HR Q;go_enter func129,ntmps129;go_upto_region 1 with fail;rw[<-o];clear o;go_upto_region 2 with(go_at_call 163;refine i.mono ?_;rintro e u ⟨rfl,A⟩);obtain⟨E,y⟩:=k.out u A (J.out u A).1;have Vk:=N.out _ y _ E;obtain⟨⟨k0,k1,k2,k3⟩,k4,k5,k6⟩:=E.cells;have TN:=r.out _ y;have pu:Hid _:=y;clear E y k N J j r i;generalize (u.alloc _)=X at*;go_wp2_with (first|(go_at_call 54;refine TN.mono ?_;rintro e X ⟨rfl,rfl⟩)|(go_at_call 91;refine Vk.mono ?_;rintro e w5 ⟨t5,x5,rfl,eY⟩));go_ret;exact⟨rfl,(Ht.out.then pu.out).then eY⟩
  ·have a0:=Aat.2 Q;have XK:wrap64 (m.2.2.2.1+1)=m.2.2.2.1+1:=(by unfold wrap64;omega);clear HR Q;go_enter func129,ntmps129;go_upto_region 1 with fail;rw[<-o];clear o;go_upto_region 2 with(go_at_call 163;refine i.mono ?_;rintro e u ⟨rfl,A⟩);obtain⟨E,y⟩:=k.out u A (J.out u A).1;obtain⟨-,k4,-⟩:=E.cells;have TN:=r.out _ y;have pu:Hid _:=y;clear E y k J j r i;generalize (u.alloc _)=X at*;go_wp2_with (go_at_call 54;refine TN.mono ?_;rintro e X ⟨rfl,rfl⟩);go_ret;exact⟨rfl,Ht.out.then pu.out⟩
theorem UM {n:Nat}{m':dI}(hL:w.heap[lp]?=M (jW db ep))(hd:aW w dp tb depth m)(hg:eX m depth)(hD:aU w db s fv rs)(hO:qB 1000 s (plain rs))(hG:Gl w ps)
 (hRR:∀W,aL w W->H K 163 #[Z ao n cap] W λe w'=>e=Rh (mP l)/\aL W w')(hD9:m.2.2.2.1<=2000000000)(hdp:depth<=100)(hr:Av m l ((aP (plain rs) 1).size:Int) depth=M m'):
 H K 129 #[U (M ⟨lp,0,O⟩),U (M ⟨dp,0,O⟩),Z ao n cap] w λe w'=>e=G (.bool true)/\aW w' dp tb depth m'/\Dk w w' (TX dp tb) (TX dp tb):=by
 have Ur:=hg.done;obtain⟨g,D⟩:∃g,g=(w.alloc (C #[U (M ⟨lp,0,O⟩)] 116)).alloc (C #[U (M ⟨dp,0,O⟩)] 117):=⟨_,rfl⟩;have t:aL w g:=by rw[D];exact((aL.refl w).alloc _).alloc _
 have u:g.heap[w.heap.size]?=M (C #[U (M ⟨lp,0,O⟩)] 116 (0,0)):=by
  rw[D,Abz _ _ (by simp)];exact Aag w _
 have Q:g.heap[w.heap.size+1]?=M (C #[U (M ⟨dp,0,O⟩)] 117 (0,0)):=by
  rw[D];have:=Aag (w.alloc (C #[U (M ⟨lp,0,O⟩)] 116)) (C #[U (M ⟨dp,0,O⟩)] 117);rwa[AaD]at this
 have L:=hRR g t;have Ht:Hid (aL w g):=t
 have HQ:Hid (∀W,aL g W->W.heap[w.heap.size]?=M (C #[U (M ⟨lp,0,O⟩)] 116 (0,0))/\W.heap[w.heap.size+1]?=M (C #[U (M ⟨dp,0,O⟩)] 117 (0,0))/\W.heap[lp]?=M (jW db ep)/\W.cell? ⟨w.heap.size+1,0,O⟩=M (U (M ⟨dp,0,O⟩))):=λW h=>by
  have N:=(h.block _ (aM Q)).trans Q;have XR:=t.then h;exact⟨(h.block _ (aM u)).trans u,N,(XR.block _ (aM hL)).trans hL,by simp[World.cell?,N]⟩
 have o:Hid (∀W,aL g W->aW W dp tb depth m/\aU W db s fv rs/\Gl W ps):=λW h=>⟨hd.aN (t.then h),hD.aN (t.then h),hG.aN (t.then h)⟩;have E:Hid (∀W,aL g W->H K 54 #[U (M ⟨dp,0,O⟩)] W λe w'=>e=G (I V m.2.2.2.1)/\w'=W):=λW h=>Mq (o.out W h).1;clear u Q t hRR hL hd hD hG;cases x:mP l with
 |none=>unfold Av at hr;rw[x]at hr;cases hr
 |some rec=>
  obtain⟨d,q,a,b,c⟩:=rec;obtain⟨bd,bq,ba,bb,bc⟩:=YN x;rw[x]at L;unfold Rh at L;simp only at L
  have z:Hid ((if d≠m.2.2.2.1+1 then O else if qN m q a b c 5000≠0 then O else if q=73/\((aP (plain rs) 1).size:Int)<m.2.2.2.2+c then O else M (iD m q a b c 5000 depth).1)=M m'):=by
   have:=hr;unfold Av at this;rw[x]at this;exact this
  clear hr x
  have y:Hid (∀W,aL g W->W.heap[w.heap.size]?=M (C #[U (M ⟨lp,0,O⟩)] 116 (0,0))->RpB (W.alloc (C #[I .u8 q,I V a,I V b,I V c] 128)) W.heap.size (w.heap.size+1) w.heap.size lp dp db ep q a b c/\aL g (W.alloc (C #[I .u8 q,I V a,I V b,I V c] 128))):=λW h _=>by
   have ga:=h.alloc (C #[I .u8 q,I V a,I V b,I V c] 128);obtain⟨k1,k2,k3,-⟩:=HQ.out _ ga;exact⟨⟨Aag W _,k2,k1,k3⟩,ga⟩
  have j:d=m.2.2.2.1+1:=by
   by_cases j:d=m.2.2.2.1+1
   ·exact j
   ·have i:=z.out;rw[Aad j]at i;cases i
  have k:qN m q a b c 5000=0:=by
   by_cases k:qN m q a b c 5000=0
   ·exact k
   ·have i:=z.out;rw[Aaa (by simpa using j),Aad k]at i;cases i
  have J:¬(q=73/\((aP (plain rs) 1).size:Int)<m.2.2.2.2+c):=λJ=>by
   have i:=z.out;rw[Aaa (by simpa using j),Aaa (by simpa using k),Aad J]at i;cases i
  have Ra:(iD m q a b c 5000 depth).1=m':=by
   have i:=z.out;rw[Aaa (by simpa using j),Aaa (by simpa using k),Aaa J]at i;simpa using i
  have a0:=beq_iff_eq.2 j;have XK:wrap64 (m.2.2.2.1+1)=m.2.2.2.1+1:=by unfold wrap64;omega
  have A:Hid (∀W,aL g W->∀cb,RpB W cb (w.heap.size+1) w.heap.size lp dp db ep q a b c->H K 91 #[U (M ⟨dp,0,O⟩),.agg #[I .u8 q,I V a,I V b,I V c],I V 5000,.func (.func 164) #[] #[U (M ⟨cb,0,O⟩),U (M ⟨w.heap.size+1,0,O⟩),U (M ⟨w.heap.size,0,O⟩)]] W λe w'=>e=G .nilIface/\aW w' dp tb depth m'/\Dk W w' (TX dp tb) (TX dp tb)):=λW h cb hB=>by
   obtain⟨q1,q2,q3⟩:=o.out W h;refine(Rl q1 hg hdp hD9 (by omega) (by omega) (by omega) k e_rep1 (λW' r=>?_) (λW' W1 r hp=>⟨q1.aN (r.then hp),λbb _ N=>hp.block bb N⟩)).mono ?_
   ·by_cases CP:q=73
    ·subst CP;refine(NH (hB.aN r) (q1.aN r) (q2.aN r) hO (q3.aN r) hg.Fa hg.Dw bc.1 bc.2).mono ?_;rintro e w' ⟨rfl,sN⟩;rw[Aaa (λhh=>J ⟨rfl,hh⟩)];exact⟨rfl,sN⟩
    ·exact UL (hB.aN r) CP
   ·rintro e w' ⟨W0,W1,rfl,g1,g2,B,hk⟩;rw[Ra]at B;exact⟨rfl,B,(Dk.bZ (g1.then g2)).trans hk⟩
  clear z j k J Ra;go_enter func129,ntmps129;go_upto_region 1 with fail;rw[<-D];clear D;go_upto_region 2 with(go_at_call 163;refine L.mono ?_;rintro e S ⟨rfl,pG⟩);obtain⟨QT,P⟩:=y.out S pG (HQ.out S pG).1;have Vk:=A.out _ P _ QT;obtain⟨⟨k0,k1,k2,k3⟩,k4,k5,k6⟩:=QT.cells;have TN:=E.out _ P;have pu:Hid _:=P;clear QT P y A HQ o E L;generalize (S.alloc _)=w4 at*;go_wp2_with (first|(go_at_call 54;refine TN.mono ?_;rintro e w4 ⟨rfl,rfl⟩)|(go_at_call 91;refine Vk.mono ?_;rintro e w5 ⟨rfl,R,X⟩));go_ret;exact⟨rfl,R,(Dk.bZ (Ht.out.then pu.out)).trans X⟩
theorem FQ (hL:w.heap[lp]?=M (jW db ep))(hd:aW w dp tb depth m)(hg:eX m depth)(hD:aU w db s fv rs)(hO:qB 1000 s (plain rs))(hG:Gl w ps)(zD:0<=ep)(Jg:ep<=1000)(hD9:m.2.2.2.1<=1000000000)(hdp:depth<=100):
 H K 88 #[U (M ⟨lp,0,O⟩),U (M ⟨dp,0,O⟩)] w λe w'=> ∃(k R:Nat),e=G (I V (R:Int))/\R=22*k/\RaD w w' dp tb depth m ((aP (plain rs) 1).size:Int) (aP (plain rs) (10+ep)).data.toList (aP (plain rs) (10+ep)).size k:=by
 have hl:rs.length<=1000:=by have:=hO.len;rw[bP]at this;exact this
 have jY:(aP (plain rs) (10+ep)).size<=1000000/\(aP (plain rs) 1).size<=1000000:=by
  have h1:=gN hO.inv (10+ep);have h2:=gN hO.inv 1;have h3:=hO.dJ.kZ;exact⟨by omega,by omega⟩
 have hJ:=qQ hL zD (by omega);have hB:=xS (n:=10+ep) hD hO.inv.sort.1 (by omega);obtain⟨P,cap,ev,iW,Jh⟩:=yE hD hO.inv.sort.1 (10+ep);rw[ev]at hB;have a7:Hid (∀W,aL w W->H K 128 #[U (M ⟨lp,0,O⟩)] W λe w'=>e=G (I V (10+ep))/\∃q,w'=W.drewN q):=λW Q=>(qQ ((Q.block _ (aM hL)).trans hL) zD (by omega)).mono (by rintro e w' ⟨rfl,rfl⟩;exact⟨rfl,0,rfl⟩);have a3:Hid (∀W,aL w W->H K 95 #[U (M ⟨db,0,O⟩),I V (10+ep)] W λe w'=>e=G (Z P (aP (plain rs) (10+ep)).size cap)/\∃q,w'=W.drewN q):=λW Q=>(xS (n:=10+ep) (hD.aN Q) hO.inv.sort.1 (by omega)).mono (by rintro e w' ⟨rfl,rfl⟩;rw[ev];exact⟨rfl,0,rfl⟩);obtain⟨c0,-⟩:=iE hL;generalize TB:(aP (plain rs) (10+ep)).data.toList=L at*;have B:L.length=(aP (plain rs) (10+ep)).size:=by rw[<-TB];simp
 generalize (aP (plain rs) (10+ep)).size=i at*
 have a8:Hid (∀wr mk (k:Nat),Dk w wr (TX dp tb) (TX dp tb)->aW wr dp tb depth mk->eX mk depth->mk.2.2.2.1<=2000000000->22*k<=i->∀J,(P=O->J=O)->(∀b off,P=M ⟨b,off,O⟩->J=if cap=22*k then M ⟨b,off,O⟩else M ⟨b,off+22*k,O⟩)->
  (Av mk (L.drop (22*k)) ((aP (plain rs) 1).size:Int) depth=O->H K 129 #[U (M ⟨lp,0,O⟩),U (M ⟨dp,0,O⟩),Z J (i-22*k) (cap-22*k)] wr λe w'=>e=G (.bool false)/\aL wr w')/\
  (∀z,Av mk (L.drop (22*k)) ((aP (plain rs) 1).size:Int) depth=M z->H K 129 #[U (M ⟨lp,0,O⟩),U (M ⟨dp,0,O⟩),Z J (i-22*k) (cap-22*k)] wr λe w'=>e=G (.bool true)/\aW w' dp tb depth z/\Dk wr w' (TX dp tb) (TX dp tb))):=λwr mk k hk j X tY b1 J b0 dx=>by
  obtain⟨z1,z2,z3,z4⟩:=Dk.wG (lp:=lp) (db:=db) (ep:=ep) hd hk
  have a0:∀W,aL wr W->H K 163 #[Z J (i-22*k) (cap-22*k)] W λe w'=>e=Rh (mP (L.drop (22*k)))/\aL W w':=λW Q=>by
   by_cases a5:i-22*k<22
   ·have e1:mP (L.drop (22*k))=O:=(by unfold mP;rw[Aad (by rw[AaX];omega)]);rw[e1];exact Jd a5
   ·rcases Jh with⟨-,h0,-⟩|⟨b,off,rfl,hr,ht⟩
    ·omega
    ·have e:=dx b off rfl;rw[Aaa (by omega)]at e;subst e;obtain⟨zH,-⟩:=z4 hr ht;have:=TV (cap:=cap-22*k) ((zH.aN Q).drop (22*k)) (by rw[AaX];omega) (by rw[AaX];omega);rw[AaX,B]at this;exact this
  exact⟨λe=>rz (z2 hL) j X (z1 hD) hO (z3 hG) a0 tY e,λz e=>UM (z2 hL) j X (z1 hD) hO (z3 hG) a0 tY hdp e⟩
 have JC:Hid (aW w dp tb depth m/\eX m depth):=⟨hd,hg⟩;clear hB hJ hL hD hG hd hg ev;go_enter func88,ntmps88;go_wp2_with fail;go_quiet (first|(go_at_call 128;exact Acn (a7.out _ (bC (aL.refl w) _)))|(go_at_call 95;exact Acn (a3.out _ (bC (aL.refl w) _))))
 go_wp2
 go_loopw [6] (λv wr=> ∃(k R:Nat) (mk:dI),v=I V (R:Int)/\Hid (R=22*k)/\R<=i/\Hid (Yz ((aP (plain rs) 1).size:Int) depth (i / 22+1) m L k mk)/\Hid (aW wr dp tb depth mk/\eX mk depth)/\mk.2.2.2.1=m.2.2.2.1+(k:Int)/\Hid (Dk w wr (TX dp tb) (TX dp tb))) (λv _=>i-(intOf v).toNat)
 case atStart=>exact⟨0,0,m,rfl,rfl,Aao _,(by show Yz _ _ _ _ _ _ _;unfold Yz;simp),⟨JC.out.1.aN (bC (aL.refl w) _),JC.out.2⟩,by simp,Dk.bZ (bC (aL.refl w) _)⟩
 case round=>
  obtain⟨k,R,mk,rfl,x,a9,g,c,j,t⟩:=hrel;have A:=x.out;have d:=a8.out wr mk k t.out c.out.1 c.out.2 (by omega) (by omega);rw[<-A]at d;have i1:(0:Int)<=(R:Int):=by omega
  have i2:(R:Int)<=(i:Int):=by omega
  have HF:Hid ((P=O/\i=0/\cap=0)\/∃b off,P=M ⟨b,off,O⟩):=by
   rcases Jh with h|⟨b,off,e,-⟩
   ·exact Aac h
   ·exact Aab ⟨b,off,e⟩
  have N:k<i / 22+1:=by omega
  clear Jh;rcases HF.out with⟨e1,e2,e3⟩|⟨b,off,rfl⟩
  ·have u_:R=0:=(by omega);have a1:k=0:=(by omega);subst a1 u_
   have D:Av mk (L.drop 0) ((aP (plain rs) 1).size:Int) depth=O:=by
    unfold Av;have:mP (L.drop 0)=O:=(by unfold mP;rw[Aad (by simp;omega)]);rw[this]
   have u:=(d O (λ_=>rfl) (λb off e=>by rw[e1]at e;cases e)).1 D;have r:Hid _:=g.out.done (by omega) D;rw[e2,e3]at u;subst e1;clear d A D g;have jh:Hid (i=0/\cap=0):=⟨e2,e3⟩;subst e2 e3;go_wp2_with (go_at_call 129;refine u.mono ?_;rintro e w4 ⟨rfl,y⟩);go_ret;exact⟨0,0,rfl,rfl,mk,r.out,c.out.1.aN y,c.out.2,⟨j,by omega⟩,t.out.Jf y⟩
  ·have a:Hid (mk.2.2.2.1=m.2.2.2.1+(k:Int)/\L.length=i/\(aP (plain rs) 1).size<=1000000/\k<i / 22+1):=⟨j,B,jY.2,N⟩;have b2:=jY.1;clear A j B TB N jY;by_cases S:cap=R
   ·have D:Av mk (L.drop R) ((aP (plain rs) 1).size:Int) depth=O:=by
     unfold Av;have:mP (L.drop R)=O:=(by unfold mP;rw[Aad (by rw[AaX,a.out.2.1];omega)]);rw[this]
    have u:=(d (M ⟨b,off,O⟩) (λe=>by cases e) (λb' Sb e=>by cases e;rw[Aad S])).1 D;have r:Hid _:=g.out.done a.out.2.2.2 (by rw[<-x.out];exact D);rw[show cap-R=0 from by omega]at u;clear d g D;go_wp2_with (go_at_call 129;refine u.mono ?_;rintro e w4 ⟨rfl,y⟩);go_ret;exact⟨k,R,rfl,x.out,mk,r.out,c.out.1.aN y,c.out.2,⟨a.out.1,by have:=x.out;omega⟩,t.out.Jf y⟩
   ·obtain⟨Qs,o⟩:=d (M ⟨b,off+R,O⟩) (λe=>by cases e) (λb' Sb e=>by cases e;rw[Aaa S]);cases E:Av mk (L.drop R) ((aP (plain rs) 1).size:Int) depth with
    |none=>
     have r:Hid _:=g.out.done a.out.2.2.2 (by rw[<-x.out];exact E);have u:=Qs E;clear Qs o g E d;go_wp2_with (go_at_call 129;refine u.mono ?_;rintro e w4 ⟨rfl,y⟩);go_ret;exact⟨k,R,rfl,x.out,mk,r.out,c.out.1.aN y,c.out.2,⟨a.out.1,by have:=x.out;omega⟩,t.out.Jf y⟩
    |some z=>
     have qg:Hid (22<=i-R/\eX z depth/\z.2.2.2.1=mk.2.2.2.1+1):=by
      obtain⟨f1,f2,f3,-⟩:=CQ E c.out.2 (by have:=a.out.2.2.1;omega);rw[AaX,a.out.2.1]at f1;exact⟨f1,f2,f3⟩
     have a6:Hid _:=g.out.next a.out.2.2.2 (by rw[<-x.out];exact E);have u:=o z E;clear Qs o g E d;go_wp2_with (go_at_call 129;refine u.mono ?_;rintro e w4 ⟨rfl,a2,a4⟩);go_roundw
     case rel=>exact⟨k+1,R+22,z,by go_num,by have:=x.out;show _=_;omega,by have:=qg.out.1;omega,a6,⟨a2,qg.out.2.1⟩,by rw[qg.out.2.2,a.out.1];omega,t.out.trans a4⟩
     case measure=>have:=qg.out.1;simp[intOf];omega
theorem qchg_any {sp:Nat}(h:sF w qp db s false fv rs sp lp dp tb m)(hG:Gl w ps)(ho:s.aX=true)(hr:s.ro=false)(hO:qB 998 s (plain rs))(hg:eX m s.depth.toNat)(hd:m.2.2.2.1<=1999999999)(Kl: -9223372036854770000<=c)(hc:c<=9223372036854770000)(hb:b<=9223372036854775807)(hx:text.size=0\/(text.size:Int)=c):
 H K 51 #[U (M ⟨qp,0,O⟩),iN q a b c,.string text] w λe w'=> ∃r,e=G r/\(r=I V (Nq (s,plain rs,m) q a b c text).2/\zS w w' qp (Ud qp db fv rs sp lp dp tb) (Nq (s,plain rs,m) q a b c text).1):=by
 have D:=hg.done;have zD:=hO.dJ.oM;have Jg:=hO.dJ.rW;have Ur:=hO.dJ.zL;have Rb:=hO.dJ.xW;refine OL (R:=λW v=> ∃o n,sF W qp db (Nq (s,plain rs,m) q a b c text).1.1 false o n sp lp dp tb (Nq (s,plain rs,m) q a b c text).1.2.2/\plain n=(Nq (s,plain rs,m) q a b c text).1.2.1/\Dk w W (Ud qp db fv rs sp lp dp tb) (Ud qp db o n sp lp dp tb)/\∀B,aL W B->sD B v (Nq (s,plain rs,m) q a b c text).2) h.qu h.Bg ?_ ?_
 ·intro W ob cb xb hW hB;have FL:=hG.aN hW;have g:=h.aN hW;by_cases L:qN m q a b c s.most≠0
  ·have e:Nq (s,plain rs,m) q a b c text=((s,plain rs,m),qN m q a b c s.most):=(by unfold Nq;rw[Aad L]);rw[e];refine(Vy g.CX hg Kl hc hb L).mono ?_;rintro e w' ⟨v,rfl,X,E⟩;refine⟨v,rfl,fv,rs,g.aN E,rfl,Dk.bZ (hW.then E),λB x=>erno_den ((FL.aN E).aN x) (X.aN x)⟩
  ·have J:qN m q a b c s.most=0:=(by omega);obtain⟨⟨ua,ub,uc⟩,hq,Yi⟩:=may_u32 hg J;obtain⟨hF,hS⟩:=wr_flg (ep:=s.aY) (text:=text) (rec:=fV q (m.2.2.2.1+1) a b c) hO ⟨zD,by omega⟩ (by rw[qR];omega) ho hr;have e:Nq (s,plain rs,m) q a b c text=(((QS s (plain rs) s.aY text (fV q (m.2.2.2.1+1) a b c)).2.1,(QS s (plain rs) s.aY text (fV q (m.2.2.2.1+1) a b c)).2.2,if (QS s (plain rs) s.aY text (fV q (m.2.2.2.1+1) a b c)).1=0 then (iD m q a b c s.most s.depth.toNat).1 else m),(QS s (plain rs) s.aY text (fV q (m.2.2.2.1+1) a b c)).1):=by unfold Nq;rw[Aaa L]
   have A:∀j,aL W j->H K 92 #[U (M ⟨ob,0,O⟩),U (M ⟨cb,0,O⟩),U (M ⟨xb,0,O⟩)] j λe w'=> ∃v,e=G v/\oQ j w' ps db fv rs 2 v (QS s (plain rs) s.aY text (fV q (m.2.2.2.1+1) a b c)):=λj i=>by
    have d:=g.aN i;exact clo_pg (hB.aN i) d.CX d.disk d.wG (FL.aN i) hO zD (by omega) (by omega) (by omega) D (by omega) ua ub uc (by omega)
   rw[e];generalize QS s (plain rs) s.aY text (fV q (m.2.2.2.1+1) a b c)=r at*;simp only;by_cases Q:r.1=0
   ·rw[Aad Q];refine(Rl (P:=λj N=>oQ j N ps db fv rs 2 .nilIface r) g.CX hg (by omega) (by omega) Kl hc hb J e_clo (λj i=>?_) (λj N i hp=>?_)).mono ?_
    ·refine(A j i).mono ?_;rintro e w' ⟨v,rfl,X⟩;obtain⟨o,n,z,y,k,u⟩:=X;have k5:=u;rw[Q]at k5;obtain rfl:=k5.no;exact⟨rfl,o,n,z,y,k,u⟩
    ·obtain⟨o,n,z,y,k,u⟩:=hp;have d:=g.aN i;refine⟨d.CX.dsk d.disk k,λb eO fQ=>k.1.2 b fQ λhx=>?_⟩;have:=(g.disk.ty hx).q.lt;omega
    ·rintro e w' ⟨j,N,rfl,i,⟨o,n,z,y,k,u⟩,a0,hk⟩;have d:=g.aN i;obtain⟨vN,Fs⟩:=d.dk z k hS;have S:aW w' dp tb r.2.1.depth.toNat (iD m q a b c s.most s.depth.toNat).1:=(by rw[hS.2.1];exact a0);obtain⟨a1,mo⟩:=vN.tx S hk;exact⟨_,rfl,o,n,a1,y,(Dk.bZ (hW.then i)).trans (Fs.trans mo),λB x=>by rw[Q];exact NT B⟩
   ·rw[Aaa Q];refine(Rk (P:=λj t v N=>oQ j N ps db fv rs 2 (.iface t v) r) g.CX hg Kl hc hb J e_clo (λj i=>?_)).mono ?_
    ·refine(A j i).mono ?_;rintro e w' ⟨v,rfl,X⟩;obtain⟨o,n,z,y,k,u⟩:=X;obtain⟨t,b',rfl⟩:=u.yes Q;exact⟨_,_,rfl,o,n,z,y,k,u⟩
    ·rintro e w' ⟨j,t,v,rfl,i,o,n,z,y,k,u⟩;have d:=g.aN i;obtain⟨vN,Fs⟩:=d.dk z k hS;exact⟨_,rfl,o,n,vN,y,(Dk.bZ (hW.then i)).trans Fs,λB x=>yG (((FL.aN i).dk d.disk k).aN x) (u.aN x) (by omega)⟩
 ·rintro W B v ⟨o,n,z,y,k,u⟩ x;refine(YW (z.aN x) ?_ (u B x) (k.aN x)).mono ?_
  ·unfold Nq;by_cases L:qN m q a b c s.most≠0
   ·rw[Aad L];exact Aab (Aab ⟨(DJ m q a b c s.most).1,(DJ m q a b c s.most).2,ho,hr⟩)
   ·rw[Aaa L];exact(wr_flg hO ⟨zD,by omega⟩ (by rw[qR];omega) ho hr).1
  ·rintro e w' ⟨rfl,hq⟩;rw[y]at hq;exact⟨_,rfl,rfl,hq⟩
theorem Ue (h:wB w qp s fs m X)(hG:Gl w ps)(hS:GS (s,fs,m) D)(hD:D<=1999999999)(Kl: -9223372036854770000<=c)(hc:c<=9223372036854770000)(hb:b<=9223372036854775807)(hx:text.size=0\/(text.size:Int)=c):
 H K 51 #[U (M ⟨qp,0,O⟩),.agg #[I .u8 q,I V a,I V b,I V c],.string text] w λe w'=>e=G (I V (Ea (s,fs,m) q a b c text).2)/\zS w w' qp X (Ea (s,fs,m) q a b c text).1:=by
 have n:=h;rcases h with⟨g,y,x,d,i,rfl,t,rfl⟩|⟨g,y,x,d,B,z,A,tb,i,rfl,rfl⟩
 ·have e:Ea (s,plain d,m) q a b c text=((s,plain d,m),3):=by unfold Ea;rw[Aad g]
  rw[e];refine(OM t).mono ?_;rintro e w' ⟨rfl,k⟩;exact⟨rfl,zS.same n k⟩
 ·cases j:s.ro with
  |true=>
   have e:Ea (s,plain d,m) q a b c text=((s,plain d,m),4):=(by unfold Ea;simp only;rw[Aaa (by simp[g]),Aad j]);rw[e];rw[j]at i;refine(vz i.qu i.Bg).mono ?_;rintro e w' ⟨rfl,k⟩;exact⟨rfl,zS.same n k⟩
  |false=>
   have e:Ea (s,plain d,m) q a b c text=Nq (s,plain d,m) q a b c text:=(by unfold Ea;simp only;rw[Aaa (by simp[g]),Aaa (by simp[j])]);rw[e];rw[j]at i;have u:=hS.done g;simp only at u;refine(qchg_any i hG g j (hS.bk.dok.more (by omega)) (hS.Ee g) (by omega) Kl hc hb hx).mono ?_;rintro e w' ⟨r,rfl,rfl,o⟩;exact⟨rfl,o⟩
theorem ZG (h:wB w qp s fs m X)(hG:Gl w ps)(hS:GS (s,fs,m) D)(hD:D<=1999999999)(hn:n<=9223372036854775807):
 H K 17 #[U (M ⟨qp,0,O⟩),I V pos,I V n] w λe w'=>e=G (I V (jH (s,fs,m) 68 pos n ⟨#[]⟩).2)/\zS w w' qp X (jH (s,fs,m) 68 pos n ⟨#[]⟩).1:=by
 rw[Uf hS (Aab (Aac rfl)) (λ_=>rfl)];have d:Gi 68 pos=pos:=by simp[Gi]
 have i:Ky fs 68 n=n:=by simp[Ky]
 have g:Gj 68 ⟨#[]⟩=0:=by simp[Gj]
 rw[d,i,g];have k:=Ue (q:=68) (a:=pos) (c:=0) (text:=⟨#[]⟩) h hG hS hD (by omega) (by omega) hn (Aac rfl);generalize Ea (s,fs,m) 68 pos n 0 ⟨#[]⟩=R at*;clear h hG hS d i g;go_enter func17,ntmps17;go_wp2_with (go_at_call 51;refine k.mono ?_;rintro e w' ⟨rfl,j⟩);go_ret;exact⟨rfl,j⟩
theorem qundo (h:wB w qp s fs m X)(hG:Gl w ps)(hS:GS (s,fs,m) D)(hD:D<=1999999999):
 H K 57 #[U (M ⟨qp,0,O⟩)] w λe w'=>e=G (I V (jH (s,fs,m) 85 pos n ⟨#[]⟩).2)/\zS w w' qp X (jH (s,fs,m) 85 pos n ⟨#[]⟩).1:=by
 rw[Uf hS (Aab (Aab (Aac rfl))) (λ_=>rfl)];have d:Gi 85 pos=0:=by simp[Gi]
 have i:Ky fs 85 n=0:=by simp[Ky]
 have g:Gj 85 ⟨#[]⟩=0:=by simp[Gj]
 rw[d,i,g];have k:=Ue (q:=85) (a:=0) (b:=0) (c:=0) (text:=⟨#[]⟩) h hG hS hD (by omega) (by omega) (by omega) (Aac rfl);generalize Ea (s,fs,m) 85 0 0 0 ⟨#[]⟩=R at*;clear h hG hS d i g;go_enter func57,ntmps57;go_wp2_with (go_at_call 51;refine k.mono ?_;rintro e w' ⟨rfl,j⟩);go_ret;exact⟨rfl,j⟩
theorem qredo (h:wB w qp s fs m X)(hG:Gl w ps)(hS:GS (s,fs,m) D)(hD:D<=1999999999):
 H K 58 #[U (M ⟨qp,0,O⟩)] w λe w'=>e=G (I V (jH (s,fs,m) 82 pos n ⟨#[]⟩).2)/\zS w w' qp X (jH (s,fs,m) 82 pos n ⟨#[]⟩).1:=by
 rw[Uf hS (Aab (Aab (Aab rfl))) (λ_=>rfl)];have d:Gi 82 pos=0:=by simp[Gi]
 have i:Ky fs 82 n=0:=by simp[Ky]
 have g:Gj 82 ⟨#[]⟩=0:=by simp[Gj]
 rw[d,i,g];have k:=Ue (q:=82) (a:=0) (b:=0) (c:=0) (text:=⟨#[]⟩) h hG hS hD (by omega) (by omega) (by omega) (Aac rfl);generalize Ea (s,fs,m) 82 0 0 0 ⟨#[]⟩=R at*;clear h hG hS d i g;go_enter func58,ntmps58;go_wp2_with (go_at_call 51;refine k.mono ?_;rintro e w' ⟨rfl,j⟩);go_ret;exact⟨rfl,j⟩
theorem GV (h:wB w qp s fs m X)(hG:Gl w ps)(hS:GS (s,fs,m) D)(hD:D<=1999999999)(ht:text.size<=140737488355328):
 H K 16 #[U (M ⟨qp,0,O⟩),I V pos,.string text] w λe w'=>e=G (I V (jH (s,fs,m) 73 pos n text).2)/\zS w w' qp X (jH (s,fs,m) 73 pos n text).1:=by
 rw[Uf hS (Aac rfl) (λe=>(e rfl).elim)];have J:Gi 73 pos=pos:=by simp[Gi]
 have L:Ky fs 73 n=((aP fs 1).size:Int):=by simp[Ky]
 have z:Gj 73 text=(text.size:Int):=by simp[Gj]
 rw[J,L,z];clear J L z;have A:=gN hS.bk.inv 1;have E:=hS.bk.dJ.kZ;simp only at A E;have o:=Ue (q:=73) (a:=pos) (b:=((aP fs 1).size:Int)) (text:=text) h hG hS hD (by omega) (by omega) (by omega) (Aab rfl);have k:=h;rcases h with⟨j,x,t,c,d,rfl,y,rfl⟩|⟨j,x,t,c,S,P,Q,tb,d,rfl,rfl⟩
 ·have g:=Hw y;have e:Ea (s,plain c,m) 73 pos ((aP (plain c) 1).size:Int) (text.size:Int) text=((s,plain c,m),3):=by unfold Ea;rw[Aad j]
  rw[e];have r:Hid (wB w qp s (plain c) m (JF qp x t c)):=k;clear o k hG hS d y e;go_enter func16,ntmps16;go_wp2_with (go_at_call 49;refine g.mono ?_;rintro e w' ⟨rfl,rfl⟩);go_ret;exact⟨rfl,zS.same r.out (aL.refl _)⟩
 ·have g:=Aw d.qu d.Bg;cases i:s.ro with
  |true=>
   have e:Ea (s,plain c,m) 73 pos ((aP (plain c) 1).size:Int) (text.size:Int) text=((s,plain c,m),4):=(by unfold Ea;simp only;rw[Aaa (by simp[j]),Aad i]);rw[e];rw[i,Aad rfl]at g;have r:Hid (wB w qp s (plain c) m (Ud qp x t c S P Q tb)):=k;clear o k hG hS d e i j;go_enter func16,ntmps16;go_wp2_with (go_at_call 49;refine g.mono ?_;rintro e w' ⟨rfl,rfl⟩);go_ret;exact⟨rfl,zS.same r.out (aL.refl _)⟩
  |false=>
   rw[i]at g;simp only[Aaa (show ¬(false=true) by decide)]at g;have u:=hS.GL j i;simp only at u;have B:=Cw d.CX;rw[u]at B;obtain⟨-,-,-,W,-⟩:=fG d.qu;obtain⟨-,d1,-⟩:=lH d.Bg;simp only[Abi]at W;generalize Ea (s,plain c,m) 73 pos ((aP (plain c) 1).size:Int) (text.size:Int) text=R at*;generalize ((aP (plain c) 1).size:Int)=bz at*;clear k hG hS d i j u A E;go_enter func16,ntmps16;go_wp2_with (first|(go_at_call 49;refine g.mono ?_;rintro e w' ⟨rfl,rfl⟩)|(go_at_call 50;refine B.mono ?_;rintro e w' ⟨rfl,rfl⟩)|(go_at_call 51;refine o.mono ?_;rintro e w' ⟨rfl,N⟩));go_ret;exact⟨rfl,N⟩
end Go.Proofs.YtfplgfodoiiobabGreatDoor
