/- a part of the proof. -/
import Derived.Test.YtfplgfodoiiobabGreatDoorJ29
import Derived.Test.YtfplgfodoiiobabGreatDoorJ30
open Option renaming none->O,some->M
open Go.Value renaming int->I,slice->Z,pointer->U
open Go.IntKind renaming i64->V
open Go.Obj renaming cells->C
open Go.Ending renaming returned->G
open Go renaming World->F,Value->Y,Calls->H
open Go.Proofs.Tryz renaming prog→K
open Go.Proofs.Tryz
namespace Go.Proofs.YtfplgfodoiiobabGreatDoor
set_option maxHeartbeats 2000000
set_option maxRecDepth 100000
open Go.RowKit
variable {w w':F}{B wb k depth b fl fc aD qp i:Nat}{l:List UInt8}{D buf n a:Int}{bs:List Bool}{s:ByteArray}{dX eZ vp vf vm:Y}{hs gs:List bT}{ss:List gZ}{m mk:dI}{rs ts:List Rec}{r:Rec}{fo ao:Option Addr}{x:bT}{es:List Ed}{X:Nat->Prop}
def Yz (buf:Int)(depth aD:Nat)(m:dI)(l:List UInt8)(k:Nat)(mk:dI):Prop:=Dz buf depth aD m l=((Dz buf depth (aD-k) mk (l.drop (22*k))).1,(Dz buf depth (aD-k) mk (l.drop (22*k))).2+k)
theorem Yz.next {m':dI}(h:Yz buf depth aD m l k mk)(hk:k<aD)(hr:Av mk (l.drop (22*k)) buf depth=M m'):Yz buf depth aD m l (k+1) m':=by
 unfold Yz at h ⊢;rw[h,show aD-k=(aD-(k+1))+1 from by omega,Dz,hr];simp only;rw[AdH,show 22*(k+1)=22*k+22 from by omega];exact Prod.ext rfl (by simp only;omega)
theorem Yz.done (h:Yz buf depth aD m l k mk)(hk:k<aD)(hr:Av mk (l.drop (22*k)) buf depth=O):Dz buf depth aD m l=(mk,k):=by
 unfold Yz at h;rw[h,show aD-k=(aD-(k+1))+1 from by omega,Dz,hr];simp
def RaD (w w':F)(dp tb depth:Nat)(m:dI)(buf:Int)(L:List UInt8)(SZ k:Nat):Prop:=∃m':dI,Dz buf depth (SZ / 22+1) m L=(m',k)/\aW w' dp tb depth m'/\eX m' depth/\(m'.2.2.2.1=m.2.2.2.1+k/\22*k<=SZ)/\Dk w w' (TX dp tb) (TX dp tb)
def vF (fs:List bD)(depth:Nat)(em:Int×dI):dI×Nat:=Dz ((aP fs 1).size:Int) depth ((aP fs (10+em.1)).size / 22+1) em.2 (aP fs (10+em.1)).data.toList
theorem EdsS.of {w0:F}(h:dV w0 x es)(hg:aL w0 w):EdsS w w0.heap.size x es:=by
 obtain⟨d,j,n,-,k,g⟩:=h;refine⟨d,λW c=>j.aN (lK hg c),n,k,λi r e a b=>⟨(g i r e a b).1,λW c=>?_⟩⟩;have:=(g i r e a b).aN (lK hg c);exact⟨this.2.1,this.2.2⟩
theorem YT {v:Y}(h:bL w B v l)(hB:B<=w.heap.size)(hx:EdsS w B x es)(hp:∀e∈es,(0<=e.1/\e.1<4294967296)/\(∀p∈e.2.1,(0<=p.1/\p.1<4294967296)/\(0<=p.2/\p.2<4294967296))/\(∀p∈e.2.2,(0<=p.1/\p.1<4294967296)/\(0<=p.2/\p.2<4294967296))/\e.2.1.length<=10000/\e.2.2.length<=10000)(QK:es.length<=100)(hl:l.length<=100000000):
 H K 204 #[v,x.v] w λe w'=> ∃v',e=G v'/\bL w' B v' (l++oU es)/\wZ w w' v v':=by
 obtain⟨xo,xn,xc⟩:=x;obtain⟨a7,pJ,Xy,Ie,QW⟩:=hx;simp only at pJ Xy;have hn:xn=es.length:=by omega
 subst hn
 have HR:Hid (∀(k:Nat) (e:Ed),es[k]?=M e->∃r:gJ,r.1=e.1/\(∀W,Below B w W->(bJ W r.2.1 e.2.1/\bJ W r.2.2 e.2.2)/\∃b off,xo=M ⟨b,off,O⟩/\W.cell? ⟨b,off+k*3,O⟩=M (I V r.1)/\W.cell? ⟨b,off+k*3+1,O⟩=M r.2.1.v/\W.cell? ⟨b,off+k*3+2,O⟩=M r.2.2.v)):=λk e he=>by
  have bQ:k<a7.length:=by rw[Ie];exact(Aae.1 he).1
  obtain⟨r,hr⟩:∃r,a7[k]?=M r:=⟨_,Aaf bQ⟩;refine⟨r,(QW k r e hr he).1,λW N=>⟨(QW k r e hr he).2 W N,?_⟩⟩;rcases(pJ W N).1 with h0|⟨b,off,h0,hc⟩
  ·rw[h0]at bQ;simp at bQ
  ·obtain⟨g,e2,e3⟩:=Nb hr;exact⟨b,off,h0,hc _ _ g,hc _ _ e2,hc _ _ e3⟩
 have HN:Hid (∀W v' (z:List UInt8) n,bL W B v' z->B<=W.heap.size->0<=n->n<4294967296->z.length<=900000000->H K 202 #[v',I V n] W λe w'=> ∃c,e=G c/\bL w' B c (z++gF n)/\wZ W w' v' c):=λW v' z n D y h3 h4 h5=>FV D y h3 h4 h5;have HP:Hid (∀W v' (z:List UInt8) u j o ps,bL W B v' z->B<=W.heap.size->(∀W',Below B W W'->bJ W' (u,j,o) ps)->(∀p∈ps,(0<=p.1/\p.1<4294967296)/\(0<=p.2/\p.2<4294967296))->ps.length<=10000->z.length<=500000000->H K 203 #[v',Z u j o] W λe w'=> ∃c,e=G c/\bL w' B c (z++lZ ps)/\wZ W w' v' c):=λW v' z u j o ps D y h3 h4 h5 h6=>YS (x:=(u,j,o)) D y h3 h4 (by omega) h6;have Ny:=HN.out w v l (es.length:Int) h hB (by omega) (by omega) (by omega);obtain⟨ao,A,ev,-⟩:=bL.form h;have HV:Hid (bL w B v l):=h;subst ev;simp only[bT.v];clear h pJ Xy Ie QW;go_enter func204,ntmps204;go_wp2_with (go_at_call 202;refine Ny.mono ?_;rintro e w1 ⟨v1,rfl,Cs,a5⟩);have b0:Hid (bL w1 B v1 (l++gF (es.length:Int))/\wZ w w1 (Value.slice ao l.length A) v1):=⟨Cs,a5⟩;clear Cs a5 Ny
 go_loopw [0,6,13] (λv _ i wr=> ∃k:Nat,k<=es.length/\i=I V (k:Int)/\Hid (bL wr B v (l++gF (es.length:Int)++(es.take k).flatMap QU)/\wZ w wr (Value.slice ao l.length A) v)) (λ_ _ i _=>es.length-(intOf i).toNat)
 case atStart=>exact⟨0,Aao _,rfl,by simpa using b0.out.1,b0.out.2⟩
 case round=>
  obtain⟨k,hk,rfl,HO⟩:=hrel;obtain⟨nX,lQ,ev,-⟩:=bL.form HO.out.1;have a0:Hid _:=HO.out.2.below HV.out hB;have jY:=Aal hB a0.out.size;by_cases bQ:k<es.length
  ·obtain⟨e,Jg⟩:∃e,es[k]?=M e:=⟨_,Aaf bQ⟩;obtain⟨b1,b2,b3,b4,b5⟩:=hp e (Aai Jg)
   have X:Hid ((l++gF (es.length:Int)++(es.take k).flatMap QU).length<=200000000):=by
    have:=Ng (l:=es.take k) (λe' Jv=>(hp e' (Aba Jv)).2.2.2);rw[Aaz]at this;show _<=_;rw[Aah,Aah,dO];omega
   obtain⟨r,vJ,a2⟩:=HR.out k e Jg;obtain⟨-,b,off,rfl,d1,d2,d3⟩:=a2 wr a0.out
   have a6:Hid ((es.take (k+1)).flatMap QU=(es.take k).flatMap QU++(gF e.1++lZ e.2.1++lZ e.2.2)):=by
    show _=_;obtain⟨Lc,he⟩:=Aae.1 Jg;rw[Aau Lc,Adf,he];simp[QU]
   have i1:(0:Int)<=(k:Int):=(by omega);have i2:(k:Int)<(es.length:Int):=(by omega);obtain⟨r1,⟨u,j,o⟩,⟨Q,S,R⟩⟩:=r;simp only[bT.v]at d1 d2 d3 vJ;subst vJ;have a1:Hid (∀W,Below B wr W->bJ W (u,j,o) e.2.1/\bJ W (Q,S,R) e.2.2):=λW N=>(a2 W (lK a0.out N)).1;generalize TB:(l++gF (es.length:Int)++(es.take k).flatMap QU)=L at*;have c1:Hid _:=TB;obtain⟨g,la,lb⟩:=e;simp only at b1 b2 b3 b4 b5 a1 a6 d1 d2 d3;subst ev;clear TB a2 Jg;have a3:Hid (bL (wr.alloc (C #[I V g,Z u j o,Z Q S R] 248)) B (Z nX L.length lQ) L):=bL.alloc HO.out.1 _;have Lj:=HN.out _ _ L g a3.out (by simp;omega) b1.1 b1.2 (by have:=X.out;omega);have a8:Hid (∀gq,(Value.slice nX L.length lQ).ownBlock=M gq->gq<wr.heap.size):=λgq b9=>(bL.lt HO.out.1 gq b9).2;have t:Hid (aL wr (wr.alloc (C #[I V g,Z u j o,Z Q S R] 248))):=(aL.refl wr).alloc _;have rR:=Aag wr (C #[I V g,Z u j o,Z Q S R] 248);go_upto_region 5 with fail;generalize (wr.alloc _)=wq at*;have d_:Hid _:=rR;obtain⟨x0,-⟩:=iY rR;have E:Hid _:=Aal jY t.out.le
   have Yb:Hid (∀a d,bL a B d (L++gF g)->wZ wq a (Z nX L.length lQ) d->a.cell? ⟨wr.heap.size,1,O⟩=M (Z u j o)/\H K 203 #[d,Z u j o] a λe w'=> ∃c,e=G c/\bL w' B c (L++gF g++lZ la)/\wZ a w' d c):=λa d D y=>by
    have lN:=y.at d_.out (λe=>by have:=a8.out _ e;omega);have Sj:=y.below a3.out E.out;refine⟨(iY lN).2.1,HP.out a d _ u j o la D (Aal E.out y.1.1.1) (λW N=>(a1.out W (lK (lK ⟨t.out.os,t.out.tape,t.out.output,t.out.size,λq hq=>t.out.block q (by omega)⟩ Sj) N)).1) b2 b4 (by rw[Aah,dO];have:=X.out;omega)⟩
   have b7:Hid (∀a d J P,bL a B d (L++gF g)->wZ wq a (Z nX L.length lQ) d->bL J B P (L++gF g++lZ la)->wZ a J d P->J.cell? ⟨wr.heap.size,2,O⟩=M (Z Q S R)/\H K 203 #[P,Z Q S R] J λe w'=> ∃c,e=G c/\bL w' B c (L++gF g++lZ la++lZ lb)/\wZ J w' P c):=λa d J P D y h3 h4=>by
    have h5:=y.trans h4;have Gw:=h5.at d_.out (λe=>by have:=a8.out _ e;omega);have Sj:=h5.below a3.out E.out;refine⟨(iY Gw).2.2.1,HP.out J P _ Q S R lb h3 (Aal E.out h5.1.1.1) (λW N=>(a1.out W (lK (lK ⟨t.out.os,t.out.tape,t.out.output,t.out.size,λq hq=>t.out.block q (by omega)⟩ Sj) N)).2) b3 b5 (by rw[Aah,Aah,dO,wK];have:=X.out;omega)⟩
   clear rR d1 d2 d3 HN HP HR;go_upto_region 6 with(go_at_call 202;refine Lj.mono ?_;rintro e a ⟨d,rfl,Yu,QM⟩);obtain⟨c2,Oi⟩:=Yb.out a d Yu QM;clear Lj x0 Yb;go_upto_region 7 with(go_at_call 203;refine Oi.mono ?_;rintro e J ⟨P,rfl,b8,a4⟩);obtain⟨c0,Nw⟩:=b7.out a d J P Yu QM b8 a4;clear Oi c2 b7;go_wp2_with (go_at_call 203;refine Nw.mono ?_;rintro e w7 ⟨v7,rfl,b6,a9⟩);have QV:Hid (bL w7 B v7 (L++gF g++lZ la++lZ lb)/\wZ w w7 (Value.slice ao l.length A) v7):=⟨b6,(((HO.out.2.aN t.out).trans QM).trans a4).trans a9⟩;clear b8 a4 QM Yu b6 a9 Nw c0;go_roundw
   case rel=>
    refine⟨k+1,by omega,by go_num,?_,QV.out.2⟩;rw[a6.out,<-AaI,<-AaI,<-AaI,c1.out];exact QV.out.1
   case measure=>simp[intOf];omega
  ·have g:es.take k=es:=Aaq (by omega);subst ev
   have QV:Hid (bL wr B (Z nX (l++gF (es.length:Int)++(es.take k).flatMap QU).length lQ) (l++oU es)/\wZ w wr (Value.slice ao l.length A) (Z nX (l++gF (es.length:Int)++(es.take k).flatMap QU).length lQ)):=by
    have:=HO.out;refine⟨?_,this.2⟩;have D:=this.1;have e2:l++gF (es.length:Int)++(es.take k).flatMap QU=l++oU es:=(by rw[g];simp[oU]);rw[e2]at D ⊢;exact D
   clear HO;generalize (l++gF (es.length:Int)++(es.take k).flatMap QU).length=LL at*;go_wp2_with fail;go_ret;exact⟨_,rfl,QV.out.1,QV.out.2⟩
theorem Uc (ep dn bf:Int)(hk:k<=3):(UQ ep dn bf k).length=1+4*k:=by
 rcases(by omega:k=0\/k=1\/k=2\/k=3)with rfl|rfl|rfl|rfl<;>rfl
def Rs:Nat->Nat
 |0=>196
 |1=>197
 |2=>198
 |3=>199
 |_=>201
theorem e_stepn (k:Nat):∀(args:Array Y) (w:F),(callFunc (Rs k) args).run K w= .ok (.enter (Rs k) args) w:=by
 match k with
 |0=>exact enters_of func196 (by kernel_rfl) rfl
 |1=>exact enters_of func197 (by kernel_rfl) rfl
 |2=>exact enters_of func198 (by kernel_rfl) rfl
 |3=>exact enters_of func199 (by kernel_rfl) rfl
 |k+4=>exact enters_of func201 (by kernel_rfl) rfl
theorem step_idx (w:F){qb fb:Nat}(hk:k<5):(Instr.index 239 (Cz qb fb) (I V (k:Int))).run K w= .ok (.func (.func (Rs k)) #[] (CV qb fb k)) w:=by
 rcases(by omega:k=0\/k=1\/k=2\/k=3\/k=4)with rfl|rfl|rfl|rfl|rfl<;>rfl
theorem YU (ep:Int)(m:dI):(⟨(Rq ep m).toArray⟩:ByteArray).size=(Rq ep m).length/\(Rq ep m).length≠0:=by
 refine⟨by simp[ByteArray.size],?_⟩;unfold Rq;rw[Aah,dO];omega
theorem Nh.is (h:Nh w B b l):Lib.IsBuilder 174 5 B b (Lib.byteCells l) w:=by
 obtain⟨c,p,v,i,e,g,d⟩:=h
 have a:w.ownsRow B 5 1 v (Lib.byteCells l).length (Lib.byteCells l):=by
  rw[Lib.byteCells_length];exact g
 rcases i with rfl|rfl
 ·exact Aac ⟨c,v,e,a,d⟩
 ·exact Aab ⟨c,v,e,a,d⟩
theorem uf {zs:List UInt8}{c:Nat}(h:Nh w B b l)(hBw:B<=w.heap.size)(gV:ao=O->zs.length=0/\c=0)(hr:pX w ao zs)
 (hao:∀a,ao=M a->a.block<B)(hlen:l.length+zs.length<=1000000000):
 H K 96 #[U (M ⟨b,0,O⟩),Z ao zs.length c] w λe w'=>e=G (.tuple #[I V (zs.length:Int),.nilIface])/\Nh w' B b (l++zs)/\Below B w w':=by
 have z:=cc_low h;go_enter func96,ntmps96;go_wp2_with fail;refine z.mono ?_;rintro e u ⟨rfl,L,r⟩;obtain⟨y,p,v,Q,t,x,o⟩:=L;have c1:u.cell? ⟨b,1,O⟩=M v:=by rw[Lib.cell_of_heap t];rfl
 have R:=r.size;have P:=hr.below r hao;go_wp2_with (at_builtin;refine JX rfl (.tmp 12) (.tmp 13) rfl B v l zs rfl x ao _ c rfl rfl gV P hlen (by omega) ?_);intro X n j d _;have A:=aM t
 have i:n.heap[b]?=M (C #[p,v] 174 (0,0)):=by
  rw[d.block b A (λe=>o e.symm)];exact t
 have W:n.cell? ⟨b,1,O⟩=M v:=by rw[Lib.cell_of_heap i];rfl
 have S:=Lib.frozen_of_heap i 1;obtain⟨J,Ov,E,-⟩:=bL.form (Eo.b j);subst E
 go_wp2
 go_ret2;refine⟨by simp,?_,?_⟩
 ·refine⟨y,p,_,Q,by rw[Aah,Aaj n b 1 _ _ _ i];rfl,?_,ne_bld j i⟩;exact j.fr (Fr.set n ⟨b,1,O⟩ _) (λg D e=>ne_bld j i (by rw[D];exact congrArg M e))
 ·exact(r.trans ((AaP B u).grown d (by omega) (λk N=>(AaB x k N).1))).setCell y _
theorem T_eq:(Xb buf (M l)).map (λq=>(q.1,Sv q.2 depth))=
 (let e:=bI (l,false)
  let d:=bI e.2
  let b:=bI d.2
  let t:=dS b.1 b.2
  let u:=lC b.1 t.2
  let r:=lC b.1 u.2
  if r.2.2=false/\r.2.1=[]/\1<=e.1/\e.1<=999/\d.1<=1000000000/\b.1<=buf/\mV (u.1.map uT) (sz t.1)=true/\mV (r.1.map pV) (sz t.1)=true then M (e.1,(t.1,u.1.take depth,r.1.take depth,d.1,b.1))else O):=by
 have c:∀x:Option (Int×dI),x=O->x.map (λq=>(q.1,Sv q.2 depth))=O:=λx h=>by rw[h];rfl
 simp only
 have stop:∀ {A:Option (List UInt8)},(bA (aT 0 buf (aT 0 1000000000 (aT 1 999 A).2).2).1 (bA (aT 0 buf (aT 0 1000000000 (aT 1 999 A).2).2).1 (aS (aT 0 buf (aT 0 1000000000 (aT 1 999 A).2).2).1 (aT 0 buf (aT 0 1000000000 (aT 1 999 A).2).2).2).2).2).2=O->Xb buf A=O:=λ{A} h=>by
  unfold Xb;simp only;rw[h,Nj,Nj,Nj]
 cases i:(aT 1 999 (M l)).2 with
 |none=>
  rw[c _ (stop (by rw[i];rfl))];rcases wM.1 i with h|⟨-,h,g⟩
  ·have hb:(bI (bI (l,false)).2).2.2=true:=(by rw[Ci h]);have P:(bI (bI (bI (l,false)).2).2).2.2=true:=(by rw[Ci hb]);rw[Aaa];rintro⟨k,-⟩;rw[pO (pO (nD P))]at k;cases k
  ·rw[Aaa];rintro⟨-,-,y,o,-⟩;rw[h]at y o;simp only at y o;omega
 |some J=>
  obtain⟨e1,e2,W⟩:=wM.2 J i;rw[e1];simp only;cases g:(aT 0 1000000000 (M J)).2 with
  |none=>
   rw[c _ (stop (by rw[i,g];rfl))];rcases wM.1 g with h|⟨-,h,j⟩
   ·have P:(bI (bI (J,false)).2).2.2=true:=(by rw[Ci h]);rw[Aaa];rintro⟨k,-⟩;rw[pO (pO (nD P))]at k;cases k
   ·have:=mJ J;rw[Aaa];rintro⟨-,-,-,-,y,-⟩;rw[h]at y;simp only at y;omega
  |some a=>
   obtain⟨d1,d2,d3⟩:=wM.2 a g;rw[d1];simp only;cases j:(aT 0 buf (M a)).2 with
   |none=>
    rw[c _ (stop (by rw[i,g,j];rfl))];rcases wM.1 j with h|⟨-,h,w⟩
    ·rw[Aaa];rintro⟨k,-⟩;rw[pO (pO (nD h))]at k;cases k
    ·have:=mJ a;rw[Aaa];rintro⟨-,-,-,-,-,y,-⟩;rw[h]at y;simp only at y;omega
   |some z=>
    obtain⟨b1,b2,b3⟩:=wM.2 z j;rw[b1];simp only;obtain⟨p1,p2⟩:=yH;cases w:(aS (aT 0 buf (M a)).1 (M z)).2 with
    |none=>
     rw[c _ (stop (by rw[i,g,j,w];rfl)),Aaa];rintro⟨k,-⟩;rw[pO (pO (p2 w))]at k;cases k
    |some B=>
     have R:=VD w;rw[p1 B w];simp only;obtain⟨u1,u2⟩:=CY;cases D:(bA (aT 0 buf (M a)).1 (M B)).2 with
     |none=>
      rw[c _ (stop (by rw[i,g,j,w,D];rfl)),Aaa];rintro⟨k,-,-,-,-,-,o,-⟩;rcases u2 D with h|⟨e,E,h⟩
      ·rw[pO h]at k;cases k
      ·rw[FZ _ _ R (back_nn _) ⟨uT e,List.mem_map_of_mem E,h⟩]at o;cases o
     |some N=>
      obtain⟨u3,u4⟩:=u1 N D;rw[u3];simp only;obtain⟨r1,r2⟩:=CY;cases L:(bA (aT 0 buf (M a)).1 (M N)).2 with
      |none=>
       rw[c _ (stop (by rw[i,g,j,w,D,L])),Aaa];rintro⟨k,-,-,-,-,-,-,o⟩;rcases r2 L with h|⟨e,E,h⟩
       ·rw[h]at k;cases k
       ·rw[FZ _ _ R (forth_nn _) ⟨pV e,List.mem_map_of_mem E,h⟩]at o;cases o
      |some Q=>
       obtain⟨r3,r4⟩:=r1 Q L;rw[r3];simp only;unfold Xb;simp only;rw[i,g,j,w,D,L]
       have X:qO (sz (aS (aT 0 buf (M a)).1 (M z)).1) ((bA (aT 0 buf (M a)).1 (M B)).1.map Dp)=mV ((bA (aT 0 buf (M a)).1 (M B)).1.map uT) (sz (aS (aT 0 buf (M a)).1 (M z)).1):=by
        rw[Ty (λe E=>by obtain⟨e',Jv,rfl⟩:=AaS.1 E;exact u4 e' Jv),List.map_map];rfl
       have f2:=Ty (n:=sz (aS (aT 0 buf (M a)).1 (M z)).1) r4;rw[X,f2];generalize mV ((bA (aT 0 buf (M a)).1 (M B)).1.map uT) (sz (aS (aT 0 buf (M a)).1 (M z)).1)=F1;generalize mV ((bA (aT 0 buf (M a)).1 (M N)).1.map pV) (sz (aS (aT 0 buf (M a)).1 (M z)).1)=S;cases F1 with
       |false=>rw[Aaa (by simp)];cases S<;>rfl
       |true=>
        cases S with
        |false=>rw[Aaa (by simp)];rfl
        |true=>
         cases Q with
         |nil=>rw[Aad (by refine⟨?_,?_,e2,W,d3,b3,?_,?_⟩<;>trivial)];rfl
         |cons x Q=>rw[Aaa (by simp)];rfl
theorem check_eq (hz:s.size≠0):jT s buf depth=(zQ s.data.toList buf).map (λq=>(q.1,Sv q.2 depth)):=by
 have z:s.size=s.data.toList.length:=by rw[Abd];rfl
 unfold jT;rw[Aaa hz,z,rck_T];generalize s.data.toList=L;unfold jZ;by_cases c:L.length<29\/L.head?≠M 75
 ·rw[Aad c];by_cases o:L.length<4
  ·rw[Aad o];rfl
  ·rw[Aaa o];split
   ·rfl
   ·rename_i r d;split at d
    ·simp only[AaW]at d;subst d;cases a:vB 75 (M (L.take (L.length-4)))with
     |none=>rw[T_none];rfl
     |some l=>
      cases D:Xb buf (M l)with
      |none=>rfl
      |some x=>
       exfalso;have u:=T_len D
       have g:L.take (L.length-4)=75::l:=by
        cases d:L.take (L.length-4)with
        |nil=>rw[d]at a;simp[vB]at a
        |cons y J=>
         rw[d]at a;unfold vB at a;simp only at a;split at a
         ·rename_i A;simp only[AaW]at a;rw[A,a]
         ·cases a
       have t:=congrArg List.length g;rw[Aaz]at t;simp only[Aan]at t;rcases c with c|c
       ·omega
       ·apply c;cases L with
        |nil=>simp at g
        |cons y L=>
         obtain⟨n,j⟩:∃n,(y::L).length-4=n+1:=⟨(y::L).length-4-1,by omega⟩;rw[j]at g;simp only[AaY,List.cons.injEq]at g;simp[g.1]
    ·cases d
 ·rw[Aaa c];have i:29<=L.length:=by omega
  have w:L.head?=M 75:=by
   refine Classical.byContradiction λe=>c (Aab e)
  rw[Aaa (show ¬L.length<4 by omega)];simp only
  have B:∃l,L.take (L.length-4)=75::l:=by
   cases L with
   |nil=>simp at i
   |cons x l=>
    simp at w;subst w;refine⟨l.take (l.length+1-4-1),?_⟩;obtain⟨n,j⟩:∃n,l.length+1-4=n+1:=⟨l.length+1-4-1,by simp at i;omega⟩;simp only[Aan];rw[j];simp
  obtain⟨l,a⟩:=B;by_cases h:iJ (L.drop (L.length-4))=kU (L.take (L.length-4))
  ·rw[Aad h];simp only;rw[a];have E:vB 75 (M (75::l))=M l:=(by simp[vB]);rw[E,T_eq];simp only[Abr,Abs];rw[a]at h;simp only[h,true_and]
  ·rw[Aaa h,Aaa (λk=>h k.1)];rfl
theorem uy (cr:List UInt8->Int)(XQ:∀l,dF (cr l))(x0 x1 x2 x3 x4 x5 x6 x7 x8 x9 GD GH GI GJ Zc Zd Ze Zf NY NZ OA OB:UInt8)(rest:List UInt8):
 (match (if iJ [NY,NZ,OA,OB]=cr [x0,x1,x2,x3,x4,x5,x6,x7,x8,x9,GD,GH,GI,GJ,Zc,Zd,Ze,Zf]then M [x0,x1,x2,x3,x4,x5,x6,x7,x8,x9,GD,GH,GI,GJ,Zc,Zd,Ze,Zf]else O:Option (List UInt8))with
  |none=>O
  |some t=>if t.headD 0=74 then M (iJ (t.drop 2),(((t.drop 1).headD 0).toNat:Int),iJ (t.drop 6),iJ (t.drop 10),iJ (t.drop 14))else O)=
 if [x0,x1,x2,x3,x4,x5,x6,x7,x8,x9,GD,GH,GI,GJ,Zc,Zd,Ze,Zf]++ [NY,NZ,OA,OB]=[74,x1,x2,x3,x4,x5,x6,x7,x8,x9,GD,GH,GI,GJ,Zc,Zd,Ze,Zf]++gF (cr [74,x1,x2,x3,x4,x5,x6,x7,x8,x9,GD,GH,GI,GJ,Zc,Zd,Ze,Zf])then M (iJ (x2::x3::x4::x5::x6::x7::x8::x9::GD::GH::GI::GJ::Zc::Zd::Ze::Zf::NY::NZ::OA::OB::rest),(x1.toNat:Int),iJ (x6::x7::x8::x9::GD::GH::GI::GJ::Zc::Zd::Ze::Zf::NY::NZ::OA::OB::rest),iJ (GD::GH::GI::GJ::Zc::Zd::Ze::Zf::NY::NZ::OA::OB::rest),iJ (Zc::Zd::Ze::Zf::NY::NZ::OA::OB::rest))else O:=by
 by_cases g:x0=74
 ·subst g;have h:=be_u32 (a:=NY) (b:=NZ) (c:=OA) (d:=OB) (XQ [74,x1,x2,x3,x4,x5,x6,x7,x8,x9,GD,GH,GI,GJ,Zc,Zd,Ze,Zf]);by_cases e:iJ [NY,NZ,OA,OB]=cr [74,x1,x2,x3,x4,x5,x6,x7,x8,x9,GD,GH,GI,GJ,Zc,Zd,Ze,Zf]
  ·rw[Aad e,<-h.1 e,Aad rfl];simp only[List.headD_cons,if_true];rfl
  ·rw[Aaa e,Aaa];intro k;exact e (h.2 (List.append_cancel_left k))
 ·rw[Aaa (c:=_++_=_++_)]
  ·by_cases e:iJ [NY,NZ,OA,OB]=cr [x0,x1,x2,x3,x4,x5,x6,x7,x8,x9,GD,GH,GI,GJ,Zc,Zd,Ze,Zf]
   ·rw[Aad e];simp only[List.headD_cons];exact Aaa g
   ·rw[Aaa e]
  ·intro k;exact g (List.cons.inj k).1
theorem read_rec (l:List UInt8)(h:22<=l.length):mP l=if l.take 22=(fV (((l.drop 1).headD 0).toNat:Int) (iJ (l.drop 2)) (iJ (l.drop 6)) (iJ (l.drop 10)) (iJ (l.drop 14))).data.toList then M (iJ (l.drop 2),(((l.drop 1).headD 0).toNat:Int),iJ (l.drop 6),iJ (l.drop 10),iJ (l.drop 14))else O:=by
 obtain⟨R,l,rfl⟩:=Aaw (l:=l) (by omega);simp only[Aan]at h;obtain⟨w,l,rfl⟩:=Aaw (l:=l) (by omega);simp only[Aan]at h;obtain⟨E,l,rfl⟩:=Aaw (l:=l) (by omega);simp only[Aan]at h;obtain⟨J,l,rfl⟩:=Aaw (l:=l) (by omega);simp only[Aan]at h;obtain⟨L,l,rfl⟩:=Aaw (l:=l) (by omega);simp only[Aan]at h;obtain⟨N,l,rfl⟩:=Aaw (l:=l) (by omega);simp only[Aan]at h;obtain⟨A,l,rfl⟩:=Aaw (l:=l) (by omega);simp only[Aan]at h;obtain⟨B,l,rfl⟩:=Aaw (l:=l) (by omega);simp only[Aan]at h;obtain⟨z,l,rfl⟩:=Aaw (l:=l) (by omega);simp only[Aan]at h;obtain⟨D,l,rfl⟩:=Aaw (l:=l) (by omega);simp only[Aan]at h;obtain⟨x,l,rfl⟩:=Aaw (l:=l) (by omega);simp only[Aan]at h;obtain⟨u,l,rfl⟩:=Aaw (l:=l) (by omega);simp only[Aan]at h;obtain⟨t,l,rfl⟩:=Aaw (l:=l) (by omega);simp only[Aan]at h;obtain⟨r,l,rfl⟩:=Aaw (l:=l) (by omega);simp only[Aan]at h;obtain⟨g,l,rfl⟩:=Aaw (l:=l) (by omega);simp only[Aan]at h;obtain⟨j,l,rfl⟩:=Aaw (l:=l) (by omega);simp only[Aan]at h;obtain⟨i,l,rfl⟩:=Aaw (l:=l) (by omega);simp only[Aan]at h;obtain⟨e,l,rfl⟩:=Aaw (l:=l) (by omega);simp only[Aan]at h;obtain⟨y,l,rfl⟩:=Aaw (l:=l) (by omega);simp only[Aan]at h;obtain⟨n,l,rfl⟩:=Aaw (l:=l) (by omega);simp only[Aan]at h;obtain⟨k,l,rfl⟩:=Aaw (l:=l) (by omega);simp only[Aan]at h;obtain⟨o,l,rfl⟩:=Aaw (l:=l) (by omega);simp only[Aan]at h;generalize l=rest at*;have Q:∀(a b c d:UInt8) (l:List UInt8),iJ (a::b::c::d::l)=(a.toNat:Int)*16777216+(b.toNat:Int)*65536+(c.toNat:Int)*256+(d.toNat:Int):=λ_ _ _ _ _=>rfl;have W:(R::w::E::J::L::N::A::B::z::D::x::u::t::r::g::j::i::e::y::n::k::o::rest).take 22=[R,w,E,J,L,N,A,B,z,D,x,u,t,r,g,j,i,e]++ [y,n,k,o]:=rfl;unfold mP;rw[Aaa (by simp only[Aan];omega),W,VE rfl];simp only[Abr,Abs,List.headD_cons];rw[recB_s];have S:UInt8.ofNat ((w.toNat:Int)).toNat=w:=by rw[Ace];exact UInt8.ofNat_toNat
 have P:ME (w.toNat:Int) (iJ (E::J::L::N::A::B::z::D::x::u::t::r::g::j::i::e::y::n::k::o::rest)) (iJ (A::B::z::D::x::u::t::r::g::j::i::e::y::n::k::o::rest)) (iJ (x::u::t::r::g::j::i::e::y::n::k::o::rest)) (iJ (g::j::i::e::y::n::k::o::rest))=[74,w,E,J,L,N,A,B,z,D,x,u,t,r,g,j,i,e]:=by
  unfold ME;rw[Q,Q,Q,Q,Xd,Xd,Xd,Xd,S];rfl
 rw[P];exact uy kU zZ R w E J L N A B z D x u t r g j i e y n k o rest
theorem rec_eq (m:dI)(l:List UInt8)(buf:Int)(depth:Nat):Av m l buf depth=Si m l buf depth:=by
 unfold Av Si;by_cases h:l.length<22
 ·rw[Aad h];have:mP l=O:=by unfold mP;rw[Aad h]
  rw[this]
 ·rw[Aaa h,read_rec l (by omega)];simp only;generalize (((l.drop 1).headD 0).toNat:Int)=q;generalize iJ (l.drop 6)=a;generalize iJ (l.drop 10)=b;generalize iJ (l.drop 14)=c;by_cases u:iJ (l.drop 2)=m.2.2.2.1+1
  ·rw[u];by_cases g:l.take 22=(fV q (m.2.2.2.1+1) a b c).data.toList
   ·rw[Aad g];simp only[ne_eq,AdP,if_false,g,true_and];by_cases j:qN m q a b c 5000=0
    ·have w:(q=73/\b=m.2.2.2.2)\/(q=68/\c=0)\/((q=85\/q=82)/\a=0/\b=0/\c=0):=by
      have d:=j;unfold qN at d;split at d
      ·rename_i e;obtain⟨k,-⟩:=Tw (depth:=depth) d;exact Aac ⟨e,k.2.2.2.2.2.1⟩
      ·split at d
       ·rename_i e;obtain⟨k,-⟩:=Tx (depth:=depth) d;exact Aab (Aac ⟨e,k.2.2.2.1⟩)
       ·split at d
        ·rename_i e;obtain⟨_,_,_,k,-⟩:=Mv (depth:=depth) d;exact Aab (Aab ⟨Aac e,k⟩)
        ·split at d
         ·rename_i e;obtain⟨_,_,_,k,-⟩:=Mw (depth:=depth) d;exact Aab (Aab ⟨Aab e,k⟩)
         ·omega
     have r:=GK (most:=5000) (depth:=depth) w;rw[j]at r;rw[Aaa (by simp[j]),<-r];by_cases t:q=73/\buf<m.2.2.2.2+c
     ·rw[Aad t,Aaa];rintro⟨i,-⟩;unfold nY at i;obtain⟨rfl,t⟩:=t;simp at i;omega
     ·rw[Aaa t,Aad];refine⟨?_,rfl⟩;unfold nY;rcases w with⟨rfl,rfl⟩|⟨rfl,rfl⟩|⟨rfl|rfl,rfl,rfl,rfl⟩
      ·simp;omega
      ·simp
      ·simp
      ·simp
    ·rw[Aad j,Aaa];rintro⟨i,r⟩;apply j;rw[GK (depth:=depth) ?_,r];unfold nY at i;simp only[Adj,Abh,beq_iff_eq,AbB]at i;rcases i with(⟨⟨o,n⟩,-⟩|⟨o,n⟩)|⟨⟨⟨o,n⟩,x⟩,y⟩
     ·exact Aac ⟨o,n⟩
     ·exact Aab (Aac ⟨o,n⟩)
     ·exact Aab (Aab ⟨o,n,x,y⟩)
   ·rw[Aaa g,Aaa (λk=>g k.1)]
  ·refine Eq.trans ?_ (Aaa (λk=>u k.2.1)).symm;by_cases g:l.take 22=(fV q (iJ (l.drop 2)) a b c).data.toList
   ·rw[Aad g];simp only;rw[Aad u]
   ·rw[Aaa g]
theorem VF (buf:Int)(depth:Nat):∀(k:Nat) (m:dI) (l:List UInt8),Dz buf depth k m l=jC buf depth k m l
 |0,m,l=>rfl
 |k+1,m,l=>by
  unfold Dz jC;rw[rec_eq];cases Si m l buf depth with
  |none=>rfl
  |some m'=>simp only[VF buf depth k]
theorem res_eq (fs:List bD)(depth:Nat):Kv fs depth=jT (aP fs 2) ((aP fs 1).size:Int) depth:=by
 unfold Kv;by_cases a:(aP fs 2).size=0
 ·rw[Aad a];unfold jT;rw[Aad a]
 ·rw[Aaa a,check_eq a];cases zQ (aP fs 2).data.toList ((aP fs 1).size:Int)<;>rfl
theorem zS.same {s:Sc}{fs:List bD}(h:wB w qp s fs m X)(hg:aL w w'):zS w w' qp X (s,fs,m):=⟨X,h.aN hg,Dk.bZ hg⟩
theorem gI.lt {r:gZ}(h:gI w B r)(hb:r.aF b):b<w.heap.size:=by
 obtain⟨c,t,mk,a,-⟩:=(h.ty hb).free;exact aM a
theorem OV {most depth room:Int}(h:Dq most depth room):GS (oN most depth room,[],Ff) D:=by
 obtain⟨i,g,c,d,a,e⟩:=h;refine GS.shut ⟨⟨i,g,c,d,a,e,by simp[oN],by simp[oN],by simp[oN],by simp[oN],by simp[oN],by simp[oN],by simp[oN],by simp[oN],by simp[oN]⟩,by simp[oN],⟨⟨List.Pairwise.nil,by simp⟩,by simp,by simp,by simpa[bX,oN]using a⟩,by simp⟩ rfl
theorem ckB_sum (ep dn bf:Int)(m:dI)(h1:m.2.2.2.1=dn)(h2:m.2.2.2.2=bf):(⟨#[75]⟩:ByteArray)++strOfNums (iG ep)++strOfNums (iG dn)++strOfNums (iG bf)++⟨(lZ m.1).toArray⟩++⟨(oU m.2.1).toArray⟩++⟨(oU m.2.2.1).toArray⟩=⟨(QX ep m).toArray⟩:=by
 rw[II,II,II,show(⟨#[75]⟩:ByteArray)=⟨([75]:List UInt8).toArray⟩ from rfl];simp only[qV];rw[<-h1,<-h2];simp[QX,UQ]
theorem ckS_sum (ep:Int)(m:dI):(⟨(QX ep m).toArray⟩:ByteArray)++strOfNums (iG (kU (QX ep m)))=⟨(Rq ep m).toArray⟩:=by rw[II,qV];rfl
theorem za 
 (hw:w.heap[wb]?=M (dN dX eZ n vp vf vm))(hp:w.ownsRow B 51 1 vp hs.length (hs.map bT.v))(hf:w.ownsRow B 35 1 vf gs.length (gs.map bT.v))(hsl:hs.length=4*bs.count true)(Dm:gs.length=4*bs.count false)
 (hh:DU w bs hs)(hhf:DV w bs gs)(hm:kK w B vm (PX bs))(hc:bs.length<=1200000000000):
 H K 9 #[U (M ⟨wb,2,O⟩)] w λe w'=>e=G (.bool true)/\aL w w':=by
 obtain⟨-,-,-,k3,k4,k5,-⟩:=bW hw;obtain⟨am,cm,rfl,a2,-,-,-⟩:=hm.form;obtain⟨ap,cp,rfl,a1⟩:=SG hp;obtain⟨af,cf,rfl,y_⟩:=OW hf;rw[tV]at k5;have a7:Hid (∀i x,hs[i]?=M x->∃g,ap=M ⟨g,0,O⟩/\w.cell? ⟨g,i,O⟩=M (Z x.1 x.2.1 x.2.2)):=a1;have a4:Hid (∀i x,gs[i]?=M x->∃g,af=M ⟨g,0,O⟩/\w.cell? ⟨g,i,O⟩=M (Z x.1 x.2.1 x.2.2)):=y_;have HM:Hid (RdI w am (PX bs)):=a2;have a3:Hid (DU w bs hs):=hh;have a8:Hid (DV w bs gs):=hhf;have X:Hid (hs.length=4*bs.count true):=hsl;have a0:Hid (gs.length=4*bs.count false):=Dm;have a5:bs.count true<=bs.length:=AcI;have a6:bs.count false<=bs.length:=AcI;clear hw hp hf hm a2 a1 y_ hh hhf hsl Dm;generalize JW:bs.length=c at k5 hc a5 a6;have HC:Hid (bs.length=c):=JW;clear JW;go_enter func9,ntmps9;go_wp2_with fail
 go_loopw [3,4,5] (λp f i wr=> ∃k:Nat,k<=c/\p=I V ((4*Sz bs true k:Nat):Int)/\f=I V ((4*Sz bs false k:Nat):Int)/\i=I V (k:Int)/\aL w wr) (λ_ _ i _=>c-(intOf i).toNat)
 case atStart=>exact⟨0,Aao _,by simp[Sz],by simp[Sz],rfl,aL.refl _⟩
 case round=>
  obtain⟨k,hk,rfl,rfl,rfl,a⟩:=hrel;have d3:=a.cell k3;have d4:=a.cell k4;have d5:=a.cell k5;by_cases bQ:k<c
  ·obtain⟨b0,u⟩:∃b0,bs[k]?=M b0:=⟨_,Aaf (by rw[HC.out];exact bQ)⟩
   have cc:∃b off,am=M ⟨b,off,O⟩/\wr.cell? ⟨b,off+k,O⟩=M (I V (if b0 then (k:Int)+1 else -((k:Int)+1))):=by
    rcases HM.out with h|⟨b,off,h1,h2⟩
    ·have:=tV bs;rw[h]at this;have:=HC.out;simp at*;omega
    ·refine⟨b,off,h1,a.cell ?_⟩;have:=h2 k (by rw[tV,HC.out];exact bQ);rwa[mkA_get u]at this
   obtain⟨b,off,rfl,e1⟩:=cc;have i1:(0:Int)<=(k:Int):=(by omega);have i2:(k:Int)<(c:Int):=(by omega);cases b0
   ·have hP:=np_lt u;generalize eQ:4*Sz bs true k=Q;generalize eP:Sz bs false k=P at hP ⊢;simp only[AaF,if_false]at e1;have i3:¬(0:Int)< -((k:Int)+1):=(by omega);have i4: -((k:Int)+1)<0:=(by omega);go_wp2_with fail
    go_loopw [3,4,7] (λz p q wq=> ∃t:Nat,t<=4/\z=I V (Q:Int)/\p=I V ((4*P+t:Nat):Int)/\q=I V (t:Int)/\aL w wq) (λ_ _ q _=>4-(intOf q).toNat)
    case atStart=>exact⟨0,by omega,rfl,rfl,rfl,a⟩
    case round=>
     clear a d3 d4 d5 e1;obtain⟨t,ht,rfl,rfl,rfl,a⟩:=hrel;by_cases Rz:t<4
     ·have d:4*P+t<gs.length:=(by rw[a0.out];omega);obtain⟨x,L⟩:∃x,gs[4*P+t]?=M x:=⟨_,Aaf d⟩;obtain⟨g,rfl,A⟩:=a4.out _ _ L;obtain⟨R,N⟩:=a8.out k t x u Rz (by rw[eP];exact L);obtain⟨xo,o,xc⟩:=x;simp only at A R N;have HR:Hid (Cn w xo (List.replicate o (uF k))):=R.1;clear R L;have j1:(0:Int)<=((4*P+t:Nat):Int):=(by omega);have j2:((4*P+t:Nat):Int)<(gs.length:Int):=(by omega);have j3:gs.length<=4800000000000:=(by rw[a0.out];omega);have r:(t:Int)<4:=(by omega);generalize W:4*P+t=y at A j1 j2 d ⊢;have HY:Hid (4*P+t=y):=W;clear W d;go_wp2_with fail
      go_loopw [9] (λj wj=> ∃s:Nat,s<=o/\j=I V (s:Int)/\aL w wj) (λj _=>o-(intOf j).toNat)
      case atStart=>exact⟨0,by omega,rfl,a⟩
      case round=>
       clear a;obtain⟨s,b1,rfl,a⟩:=hrel;have d4:=a.cell k4;have dg:=a.cell A;by_cases hsl:s<o
       ·obtain⟨J,S,rfl,E,D⟩:∃b off,xo=M ⟨b,off,O⟩/\w.cell? ⟨b,off+s*2,O⟩=M (I V (-((k:Int)+1)))/\w.cell? ⟨b,off+s*2+1,O⟩=M (.string vH):=by
         obtain⟨b,off,e,h1,h2⟩:=HR.out.at (i:=s) (f:=uF k) (by simp[hsl]);exact⟨b,off,e,h1,h2⟩
        have r1:=a.cell E;have r2:=a.cell D;have s1:(0:Int)<=(s:Int):=(by omega);have s2:(s:Int)<(o:Int):=(by omega);clear k4 k5 E D A;go_wp2_with fail
        go_region_held3 (λw'=>w'.cell? ⟨wb,4,O⟩=M (Z (M ⟨g,0,O⟩) gs.length cf)/\w'.cell? ⟨g,y,O⟩=M (Z (M ⟨J,S,O⟩) o xc)/\w'.cell? ⟨J,S+s*2,O⟩=M (I V (-((k:Int)+1)))/\w'.cell? ⟨J,S+s*2+1,O⟩=M (.string vH)/\aL w w')
         (first|(go_split_ands;refine⟨?_,?_,?_,?_,?_⟩<;>first|assumption|go_keep|(exact Aay (by assumption) (by assumption))|(exact aL.drew (by assumption))|(exact aL.more (by assumption) (by assumption))))
         (first|(go_at_call 40;refine(VU (by omega)).mono ?_;rintro e w5 ⟨rfl,lN⟩))
        all_goals go_wp2_with fail
        all_goals go_roundw
        case rel=>exact⟨s+1,by omega,by go_num,by go_split_ands;assumption⟩
        case measure=>simp[intOf];omega
       ·go_wp2_with fail;go_roundw
        case rel=>exact⟨t+1,by omega,rfl,by rw[<-HY.out];go_num,by go_num,a⟩
        case measure=>simp[intOf];omega
     ·have r:t=4:=(by omega);subst r;go_wp2_with fail;go_roundw
      case rel=>exact⟨k+1,by omega,by rw[np_no u (by decide),eQ],by rw[VT u,eP];go_num,by go_num,a⟩
      case measure=>simp[intOf];omega
   ·have hP:=np_lt u;generalize eQ:4*Sz bs false k=Q;generalize eP:Sz bs true k=P at hP ⊢;simp only[if_true]at e1;have i3:(0:Int)<(k:Int)+1:=(by omega);go_wp2_with fail
    go_loopw [3,4,7] (λp z q wq=> ∃t:Nat,t<=4/\z=I V (Q:Int)/\p=I V ((4*P+t:Nat):Int)/\q=I V (t:Int)/\aL w wq) (λ_ _ q _=>4-(intOf q).toNat)
    case atStart=>exact⟨0,by omega,rfl,rfl,rfl,a⟩
    case round=>
     clear a d3 d4 d5 e1;obtain⟨t,ht,rfl,rfl,rfl,a⟩:=hrel;by_cases Rz:t<4
     ·have d:4*P+t<hs.length:=(by rw[X.out];omega);obtain⟨x,L⟩:∃x,hs[4*P+t]?=M x:=⟨_,Aaf d⟩;obtain⟨g,rfl,A⟩:=a7.out _ _ L;obtain⟨R,N⟩:=a3.out k t x u Rz (by rw[eP];exact L);obtain⟨xo,o,xc⟩:=x;simp only at A R N;have HR:Hid (vI w xo (List.replicate o (mk k))):=R.1;clear R L;have j1:(0:Int)<=((4*P+t:Nat):Int):=(by omega);have j2:((4*P+t:Nat):Int)<(hs.length:Int):=(by omega);have j3:hs.length<=4800000000000:=(by rw[X.out];omega);have r:(t:Int)<4:=(by omega);generalize W:4*P+t=y at A j1 j2 d ⊢;have HY:Hid (4*P+t=y):=W;clear W d;go_wp2_with fail
      go_loopw [8] (λj wj=> ∃s:Nat,s<=o/\j=I V (s:Int)/\aL w wj) (λj _=>o-(intOf j).toNat)
      case atStart=>exact⟨0,by omega,rfl,a⟩
      case round=>
       clear a;obtain⟨s,a9,rfl,a⟩:=hrel;have d3:=a.cell k3;have dg:=a.cell A;by_cases hsl:s<o
       ·obtain⟨J,S,rfl,E,D⟩:=HR.out.at (k:=s) (by simpa using hsl);have e0:(List.replicate o (mk k)).getD s (0,0)=mk k:=(by simp[hsl]);rw[e0]at E D;unfold mk at E D;simp only at E D;have r1:=a.cell E;have r2:=a.cell D;have s1:(0:Int)<=(s:Int):=(by omega);have s2:(s:Int)<(o:Int):=(by omega);clear k3 k5 E D A;go_wp2_with fail
        go_region_held3 (λw'=>w'.cell? ⟨wb,3,O⟩=M (Z (M ⟨g,0,O⟩) hs.length cp)/\w'.cell? ⟨g,y,O⟩=M (Z (M ⟨J,S,O⟩) o xc)/\w'.cell? ⟨J,S+s*2,O⟩=M (I V (-((k:Int)+1)))/\w'.cell? ⟨J,S+s*2+1,O⟩=M (I V ((k:Int)+1))/\aL w w')
         (first|(go_split_ands;refine⟨?_,?_,?_,?_,?_⟩<;>first|assumption|go_keep|(exact Aay (by assumption) (by assumption))|(exact aL.drew (by assumption))|(exact aL.more (by assumption) (by assumption))))
         (first|(go_at_call 39;refine(yK (by omega) (by omega)).mono ?_;rintro e w5 ⟨rfl,lN⟩))
        all_goals go_wp2_with fail
        all_goals go_roundw
        case rel=>exact⟨s+1,by omega,by go_num,by go_split_ands;assumption⟩
        case measure=>simp[intOf];omega
       ·go_wp2_with fail;go_roundw
        case rel=>exact⟨t+1,by omega,rfl,by rw[<-HY.out];go_num,by go_num,a⟩
        case measure=>simp[intOf];omega
     ·have r:t=4:=(by omega);subst r;go_wp2_with fail;go_roundw
      case rel=>exact⟨k+1,by omega,by rw[VT u,eP];go_num,by rw[np_no u (by decide),eQ],by go_num,a⟩
      case measure=>simp[intOf];omega
  ·go_wp2_with fail;go_ret;exact⟨rfl,a⟩
section
variable {w w':F} {X:Nat->Prop} {B k:Nat} {ts:List Rec} {ss:List gZ} {bs:List Bool} {D D':Int} {dX eZ vp vf vts' vss' yw vf':Y} {hs gs g:List bT}
theorem Bc.add {r:gZ}(h:Bc w B eZ ss D)(hF:Fr w w' X)(hX:∀b,X b->oC w b)(hn:∀q∈ss,¬X q.sb/\∀b,q.aF b->¬X b)(bB:w'.ownsRow B 42 1 vss' (ss.length+1) (ze ss++ [Value.pointer (M ⟨r.sb,0,O⟩)]))(h':gI w' B r)(hg:GS r.x D)(hs:w.heap.size<=r.sb)(ht:∀b,r.aF b->w.heap.size<=b):Bc w' B vss' (ss++ [r]) D:=by
 obtain⟨n,c,g⟩:=h;refine⟨?_,λq a=>?_,?_⟩
 ·rw[Aah];unfold ze at*;rw[AaR];exact bB
 ·rcases AaZ.1 a with a|a
  ·exact⟨(c q a).1.fr hF (λb j=>(hX b j).1) (hn q a).1 (hn q a).2,(c q a).2⟩
  ·simp at a;subst a;exact⟨h',hg⟩
 ·rw[Abe];refine⟨g,by simp,λq a o e=>?_⟩;simp at e;subst e;have d:=(c q a).1;have t:=aM d.sb;exact⟨by omega,λb i k=>by have:=d.lt i;have:=ht b k;omega⟩
end
section
variable {w w':F} {B wb k:Nat} {ts:List Rec} {ss:List gZ} {bs:List Bool} {D:Int} {dX eZ vp vf vm vts' vss' yw vf' Zk:Y} {hs gs g:List bT} {X:Nat->Prop}
theorem XT.free {ty:List TypeId}(h:XT w X ty)(hd:∀t∈ty,t≠145/\t≠50/\t≠248/\t≠231/\t≠95):∀b,X b->oC w b:=λb a=>by
 obtain⟨c,t,f,d,e⟩:=h b a;exact oC.of d (hd t e)
theorem fI.own {r r':Rec}(h:fI w B wb ts ss bs D dX eZ vp vf vm hs gs)(hr:ts[k]?=M r)(hF:Fr w w' (λb=>b=r.sb\/b=r.tb\/b=wb\/vp.ownBlock=M b\/vm.ownBlock=M b))(e1:r'.sb=r.sb)(e2:r'.tb=r.tb)(h':yU w' B r')
 (g1:g.length=4)(g2:w'.heap[wb]?=M (dN dX eZ ((bs.length:Int)+1) yw vf Zk))(g3:w'.ownsRow B 51 1 yw (hs++g).length ((hs++g).map bT.v))(g4:kK w' B Zk (PX bs++ [(bs.length:Int)+1]))(g5:∀x∈g,nK w' x.1 (List.replicate x.2.1 (Go.Proofs.YtfplgfodoiiobabGreatDoor.mk bs.length))/\x.2.1<=9000):
 fI w' B wb (ts.set k r') ss (bs++ [true]) D dX eZ yw vf Zk (hs++g) gs:=by
 have u:=Aai hr;obtain⟨E,⟨S,W,z,-⟩,-⟩:=h.tp.2.1 r u
 have j:XT w (λb=>b=r.sb\/b=r.tb\/b=wb\/vp.ownBlock=M b\/vm.ownBlock=M b) [65,104,33,51,3]:=by
  rintro b (rfl|rfl|rfl|e|e)
  ·exact⟨_,_,_,E,by decide⟩
  ·exact⟨_,_,_,z,by decide⟩
  ·exact⟨_,_,_,h.wX,by decide⟩
  ·obtain⟨c,y⟩:=iH h.lp.1 e;exact⟨_,_,_,y,by decide⟩
  ·obtain⟨c,y⟩:=iH h.ms e;exact⟨_,_,_,y,by decide⟩
 have n:=j.free (by decide);refine⟨by rw[g2,Aah];rfl,h.RA,h.tp.set hr hF n (j.row h.tp.1 (by decide)) (λq d P=>?_) e1 e2 h',h.sp.yB hF n (j.row h.sp.1 (by decide)) (λq d=>⟨j.no (h.sp.2.1 q d).1.sb (by decide),λb N=>?_⟩),λt o q d=>?_,h.lp.push hF n g3 g1 g5,(h.fp.yB hF n (j.row h.fp.1 (by decide))).skip,by rw[PY];exact g4⟩
 ·obtain⟨L,⟨Q,R,J,-⟩,-⟩:=h.tp.2.1 q d;have a:=h.wx_t d;refine⟨?_,?_⟩<;>rintro(e|e|e|e|e)
  ·exact P.1 e
  ·rw[e]at L;exact bF L z (dQ (by decide))
  ·exact a.1 (by simp[WX,e])
  ·exact a.1 (by simp[WX,e])
  ·exact a.1 (by simp[WX,e])
  ·rw[e]at J;exact bF J E (dQ (by decide))
  ·exact P.2 e
  ·exact a.2 (by simp[WX,e])
  ·exact a.2 (by simp[WX,e])
  ·exact a.2 (by simp[WX,e])
 ·have a:=(h.wx_s d).2 b N;have A:=(h.Xr u d).2 b N;rintro(e|e|e|e|e)
  ·exact A.1 e
  ·exact A.2 e
  ·exact a (by simp[WX,e])
  ·exact a (by simp[WX,e])
  ·exact a (by simp[WX,e])
 ·rcases qC o with rfl|⟨i,-,o⟩
  ·rw[e2];exact h.Dt r u q d
  ·exact h.Dt t (Aai o) q d
theorem fI.snew {r:gZ}(h:fI w B wb ts ss bs D dX eZ vp vf vm hs gs)(hF:Fr w w' (λb=>b=wb\/eZ.ownBlock=M b))(g2:w'.heap[wb]?=M (dN dX vss' (bs.length:Int) vp vf vm))(bB:w'.ownsRow B 42 1 vss' (ss.length+1) (ze ss++ [Value.pointer (M ⟨r.sb,0,O⟩)]))(h':gI w' B r)(hg:GS r.x D)(hs':w.heap.size<=r.sb)(ht:∀b,r.aF b->w.heap.size<=b):
 fI w' B wb ts (ss++ [r]) bs D dX vss' vp vf vm hs gs:=by
 have d:XT w (λb=>b=wb\/eZ.ownBlock=M b) [33,42]:=by
  rintro b (rfl|e)
  ·exact⟨_,_,_,h.wX,by decide⟩
  ·obtain⟨c,n⟩:=iH h.sp.1 e;exact⟨_,_,_,n,by decide⟩
 have g:=d.free (by decide);refine⟨g2,h.RA,h.tp.yB hF g (d.row h.tp.1 (by decide)) (λr k=>?_),h.sp.add hF g (λq a=>⟨d.no (h.sp.2.1 q a).1.sb (by decide),λb u=>d.sty ((h.sp.2.1 q a).1.ty u) (by decide)⟩) bB h' hg hs' ht,λt j q a=>?_,h.lp.yB hF g (d.row h.lp.1 (by decide)),h.fp.yB hF g (d.row h.fp.1 (by decide)),bE h.ms hF (λb _ e _=>d.row h.ms (by decide) b e)⟩
 ·obtain⟨o,⟨y,z,i,-⟩,-⟩:=h.tp.2.1 r k;exact⟨d.no o (by decide),d.no i (by decide)⟩
 ·rcases AaZ.1 a with a|a
  ·exact h.Dt t j q a
  ·simp at a;subst a;intro e;obtain⟨-,⟨y,z,i,-⟩,-⟩:=h.tp.2.1 t j;have:=aM i;have:=ht _ e;omega
end
theorem growsA4 (h:IA w B wb rs ss bs D)(hr:rs[i]?=M r){m k:Int}:
 H K 6 #[U (M ⟨wb,0,O⟩),U (M ⟨r.sb,0,O⟩),pY 4 a n m k s fo fl fc] w λe w'=>e=G (.bool true)/\sG w w' B wb rs.length ss.length (bs.length+1) D:=by
 obtain⟨E,J,rA,-,-⟩:=h.rec hr;obtain⟨sb,tb,ao,ca,l⟩:=r;simp only[Rec.sb,Rec.tb,Rec.l,Rec.v]at E J rA ⊢;obtain⟨c0,c1,-⟩:=pair_cells E;have bQ:=aM E;have a1:w.heap.size≠sb:=by omega
 obtain⟨kD,t⟩:=J.ok;clear E;unfold pY;go_enter func6,ntmps6;go_upto_region 16 with fail;have j:Below w.heap.size w (w.alloc (C #[I V 4,I V a,I V n,I V m,I V k,.string s,Z fo fl fc] 37)):=aO _ _;have L:(w.alloc (C #[I V 4,I V a,I V n,I V m,I V k,.string s,Z fo fl fc] 37)).cell? ⟨w.heap.size,2,O⟩=M (I V n):=by simp
 have x0:=Aay j c0;have x1:=Aay j c1;have QA:=J.below j;have su:=rA.1.below j;have jY:w.heap.size<(w.alloc (C #[I V 4,I V a,I V n,I V m,I V k,.string s,Z fo fl fc] 37)).heap.size:=by simp
 clear c0 c1;generalize w.alloc _=x at*
 go_cut [17,18] (λp e wc=> ∃u,p=U (M ⟨u,0,O⟩)/\e=I V (jU l n).2/\wc.cell? ⟨u,0,O⟩=M (I V (jU l n).1.1)/\wc.cell? ⟨u,1,O⟩=M (I V (jU l n).1.2)/\aL x wc)
 case first=>
  have ga:=aL.refl x
  go_region_held3 (λw'=>w'.cell? ⟨sb,0,O⟩=M (U (M ⟨tb,0,O⟩))/\w'.cell? ⟨w.heap.size,2,O⟩=M (I V n)/\aL x w')
   (first|(refine keepG x0 L ?_;go_split_ands;first|assumption|(exact aL.drew (by assumption))|(exact aL.more (by assumption) (by assumption))|(exact aL.alloc (by assumption) _)|(exact aL.alloc o _)|(exact aL.set (aL.set o (Aak _) _) (Aak _) _)))
   (first|(go_at_call 31;refine(Ls (by go_split_ands;exact QA.below (by assumption))).mono ?_;rintro e W ⟨rfl,g⟩;have o:aL x W:=aL.more (by go_split_ands;assumption) g;first|(refine xM g ?_;intro c d Q P)|(refine Er g ?_;intro c d Q P)|skip))
  all_goals go_wp2_with fail
  all_goals go_meet
  all_goals refine⟨_,rfl,rfl,?_,?_,by go_split_ands;assumption⟩<;>first|(simp;done)|(exact(Bw c d).1)|(exact(Bw c d).2)
 case rest=>
  obtain⟨u,rfl,rfl,R,N,z⟩:=hcut
  rename F=>A
  have z1:=z.cell x1;have z2:=z.cell L;have X:=su.below z;go_upto_region 17 with fail
  go_cut [19,20] (λp e wc=> ∃y,p=U (M ⟨y,0,O⟩)/\e=I V (jU l n).2/\wc.cell? ⟨y,0,O⟩=M (I V (jU l n).1.1)/\wc.cell? ⟨y,1,O⟩=M (I V (jU l n).1.2)/\aL A wc)
  case first=>
   have ga:=aL.refl A;clear x0 x1 L R N
   go_region_held3 (λw'=>w'.cell? ⟨sb,1,O⟩=M (Z ao l.length ca)/\w'.cell? ⟨w.heap.size,2,O⟩=M (I V n)/\aL A w')
    (first|(refine keepG z1 z2 ?_;go_split_ands;first|assumption|(exact aL.drew (by assumption))|(exact aL.more (by assumption) (by assumption))|(exact aL.alloc (by assumption) _)|(exact aL.alloc o _)|(exact aL.set (aL.set o (Aak _) _) (Aak _) _)))
    (first|(go_at_call 32;refine(dz (l:=l) (by go_split_ands;exact X.below (by assumption)) rfl kD t).mono ?_;rintro e W ⟨rfl,g⟩;have o:aL A W:=aL.more (by go_split_ands;assumption) g;first|(refine xM g ?_;intro c d Q P)|(refine Er g ?_;intro c d Q P)|skip))
   all_goals go_wp2_with fail
   all_goals go_meet
   all_goals refine⟨_,rfl,rfl,?_,?_,by go_split_ands;assumption⟩<;>first|(simp;done)|(exact(Bw c d).1)|(exact(Bw c d).2)
  case rest=>
   obtain⟨y,rfl,rfl,q0,q1,S⟩:=hcut;have a2:=S.cell R;have a0:=S.cell N;clear R N;go_wp2_with fail;refine kW.mono ?_;rintro e w9 ⟨rfl,rfl⟩;go_wp2_with fail;go_ret;refine⟨by simp,sG.quiet h (aQ j (aQ z S))⟩
theorem growsA2 (h:IA w B wb rs ss bs D)(hr:rs[i]?=M r){m k:Int}:
 H K 6 #[U (M ⟨wb,0,O⟩),U (M ⟨r.sb,0,O⟩),pY 2 a n m k s fo fl fc] w λe w'=>e=G (.bool true)/\sG w w' B wb rs.length ss.length (bs.length+1) D:=by
 obtain⟨d,g,y,-,-⟩:=h.rec hr;have S:=g;obtain⟨q1,q2,o,-⟩:=S;obtain⟨sb,tb,ao,ca,l⟩:=r;simp only[Rec.sb,Rec.tb,Rec.l,Rec.v]at d g y o ⊢;obtain⟨c0,c1,-⟩:=pair_cells d;have bQ:=aM d;have Od:=aM o;have a1:w.heap.size≠sb:=by omega
 have P:sb≠tb:=λe=>by rw[e]at d;exact bF d o (dQ (by decide))
 have n2:w.heap.size≠tb:=by omega
 have z:w.heap.size+1≠tb:=by omega
 obtain⟨kD,j⟩:=g.ok;have Rv:Hid _:=d;clear d o;unfold pY;go_enter func6,ntmps6;go_upto_region 4 with fail;have c:Below w.heap.size w ((w.alloc (C #[I V 2,I V a,I V n,I V m,I V k,.string s,Z fo fl fc] 37)).alloc (C #[I V m,I V k] 50)):=aQ (aO _ _) (aO _ _);have t:((w.alloc (C #[I V 2,I V a,I V n,I V m,I V k,.string s,Z fo fl fc] 37)).alloc (C #[I V m,I V k] 50)).cell? ⟨w.heap.size,2,O⟩=M (I V n):=Aay (aO _ _) (by simp)
 have u:((w.alloc (C #[I V 2,I V a,I V n,I V m,I V k,.string s,Z fo fl fc] 37)).alloc (C #[I V m,I V k] 50)).cell? ⟨w.heap.size+1,0,O⟩=M (I V m):=by
  have:=AaD w (C #[I V 2,I V a,I V n,I V m,I V k,.string s,Z fo fl fc] 37);rw[<-this];simp
 have x:((w.alloc (C #[I V 2,I V a,I V n,I V m,I V k,.string s,Z fo fl fc] 37)).alloc (C #[I V m,I V k] 50)).cell? ⟨w.heap.size+1,1,O⟩=M (I V k):=by
  have:=AaD w (C #[I V 2,I V a,I V n,I V m,I V k,.string s,Z fo fl fc] 37);rw[<-this];simp
 have R:=Aay c c0;have J:=Aay c c1;have A:=g.below c;have X:=y.fr (Fr.bK c (λ_=>False)) (λ_ _ _=>id);clear c0 c1;generalize (w.alloc _).alloc _=Q at*
 go_cut [8] (λe wc=>e=I V (xL l n m k).2/\cK wc tb (xL l n m k).1/\Gt tb Q wc)
 case first=>
  have ga:=Gt.refl tb Q;have W:=A.drew;clear g A J y X c
  go_region_held3 (λw'=>w'.cell? ⟨sb,0,O⟩=M (U (M ⟨tb,0,O⟩))/\w'.cell? ⟨w.heap.size,2,O⟩=M (I V n)/\w'.cell? ⟨w.heap.size+1,0,O⟩=M (I V m)/\w'.cell? ⟨w.heap.size+1,1,O⟩=M (I V k)/\Gt tb Q w')
   (first|(refine keepT4 R t u x P n2 z z ?_;go_split_ands;first|assumption|(exact Gt.drew (by assumption))|(exact Gt.more (by assumption) (by assumption))))
   (first|(go_at_call 11;refine(Bv W).mono ?_;rintro e w5 ⟨rfl,N,eY⟩))
  all_goals go_wp2_with fail
  all_goals go_meet
  all_goals exact⟨rfl,N,by go_split_ands;assumption⟩
 case rest=>
  obtain⟨rfl,t1,g1⟩:=hcut
  rename F=>L
  have z1:=g1.cell J P;have z2:=g1.cell t n2;have z3:=g1.cell u z;have z4:=g1.cell x z
  have a0:nK L ao l:=X.fr (Fr.iA g1) (λb aR e hx=>by
   cases hx
   obtain⟨_,_,q5,-⟩:=A;exact bF e q5 (dQ (by decide)))
  go_upto_region 5 with fail
  go_cut [9,10] (λv f wc=> ∃E Be,v=Z E (xL l n m k).1.length Be/\f=I V (xL l n m k).2/\nK wc E (xL l n m k).1/\aL L wc)
  case first=>
   have ga:=aL.refl L;clear R J t u x g A t1 g1 X y c
   go_region_held3 (λw'=>w'.cell? ⟨sb,1,O⟩=M (Z ao l.length ca)/\w'.cell? ⟨w.heap.size,2,O⟩=M (I V n)/\w'.cell? ⟨w.heap.size+1,0,O⟩=M (I V m)/\w'.cell? ⟨w.heap.size+1,1,O⟩=M (I V k)/\aL L w')
    (first|(refine keepG4 z1 z2 z3 z4 ?_;go_split_ands;first|assumption|(exact aL.drew (by assumption))|(exact aL.more (by assumption) (by assumption))))
    (first|(go_at_call 26;refine(JZ (l:=l) (by go_split_ands;exact a0.fr (Fr.bK (by assumption) (λ_=>False)) (λ_ _ _=>id)) rfl kD j).mono ?_;rintro e w5 ⟨E,Be,rfl,Dv,lN⟩))
   all_goals go_wp2_with fail
   all_goals go_meet
   all_goals exact⟨_,_,rfl,rfl,Dv,by go_split_ands;assumption⟩
  case rest=>
   obtain⟨E,Be,rfl,rfl,r2,g2⟩:=hcut;have pa:=(c.block sb bQ).trans Rv.out;have pc:=iP g1 pa (by simpa using λe=>P e.symm);have pd:=(g2.block sb (aM pc)).trans pc;obtain⟨v0,v1,vf⟩:=pair_cells pd;have FB:=IA.changed h (Be:=Be) hr c g1 t1 g2 r2;clear pa pc pd R J t u x z1 z2 z3 z4 Rv;go_wp2_with fail;refine kW.mono ?_;rintro e w9 ⟨rfl,rfl⟩;go_wp2_with fail;go_ret;exact⟨by simp,FB⟩
section
variable {w:F} {B wb p:Nat} {ts:List Rec} {rs:List gZ} {bs:List Bool} {D:Int} {dX eZ vp vf vm:Y} {hs gs:List bT} {r:gZ} {ps:Nat->Addr} {a n m k:Int} {s:ByteArray} {fo:Option Addr} {fl fc:Nat}
theorem gX.aN {w':F}(h:fI w B wb ts rs bs D dX eZ vp vf vm hs gs)(hg:aL w w'):gX w w' B wb ts.length rs.length (bs.length+1) (D+1):=
 ⟨⟨hg.os,hg.tape,hg.output,hg.size,λb a=>hg.block b (by have:=h.lt;omega)⟩,ts,rs,bs,⟨_,_,_,_,_,_,_,(h.aN hg).more (by omega)⟩,rfl,rfl,by omega⟩
end
theorem WE {w1 w2:F}{sb xb:Nat}{v5:Y}{x:St}{f:bT}(h:fI w B wb ts ss bs D dX eZ vp vf vm hs gs)(iV:aL w w1)(hn:∀b,(X b\/b=xb\/∃a,f.1=M a/\b=a.block)->w.heap.size<=b)(EI:w.heap.size<=sb)
 (tX:w1.heap[sb]?=M (Nr qp xb))(hq:wB w1 qp x.1 x.2.1 x.2.2 X)(hy:bO w1 xb x.1 x.2.1 x.2.2 f)(hG:GS x D)
 (bB:w2.ownsRow B 42 1 v5 (ss.length+1) (ze ss++ [Value.pointer (M ⟨sb,0,O⟩)]))(jX:w1.grownBy w2 eZ.ownBlock)(Fx:w2.heap[wb]?=M (dN dX eZ (bs.length:Int) vp vf vm)):
 gX w (w2.setCell ⟨wb,1,O⟩ v5) B wb ts.length (ss.length+1) (bs.length+1) D:=by
 have o:=h.aN iV;have z:=h.lt;have hle:=iV.size;have u:Fr w1 (w2.setCell ⟨wb,1,O⟩ v5) (λb=>b=wb\/eZ.ownBlock=M b):=((Fr.iA jX).mono (λb e=>Aab e)).trans ((Fr.set w2 ⟨wb,1,O⟩ v5).mono (λb e=>Aac e))
 have n:XT w1 (λb=>b=wb\/eZ.ownBlock=M b) [33,42]:=by
  rintro b (rfl|e)
  ·exact⟨_,_,_,o.wX,by decide⟩
  ·obtain⟨c,k⟩:=iH o.sp.1 e;exact⟨_,_,_,k,by decide⟩
 have t:gI w1 B ⟨sb,qp,xb,x,X,f⟩:=⟨tX,hq,hy,by simp only;omega,λb d=>by have:=hn b d;omega⟩;have i:=t.fr u (λb d=>(n.free (by decide) b d).1) (n.no tX (by decide)) (λb d=>n.sty (t.ty d) (by decide));have j:=(Fr.bK iV _).trans u;refine⟨⟨jX.os.trans iV.os,jX.tape.trans iV.tape,jX.output.trans iV.output,j.1,λb d=>j.2 b (by omega) ?_⟩,ts,_,bs,⟨_,_,_,_,_,_,_,h.snew j (yJ Fx v5).2.1 (bE bB (Fr.set w2 ⟨wb,1,O⟩ v5) (λg y _ k r=>?_)) i hG EI (λb d=>hn b d)⟩,rfl,by simp,by omega⟩
 ·rintro(e|e)
  ·have:=h.RA;omega
  ·have:=(h.sp.1.lt b e).1;omega
 ·simp only at r;subst r;exact bF k Fx (dQ (by decide))
theorem zm {rs:List gZ}{m k:Int}(h:fI w B wb ts rs bs D dX eZ vp vf vm hs gs)(hl:rs.length<=2000000)(hn:Dq n m k):
 H K 20 #[U (M ⟨wb,0,O⟩),.agg #[I V 11,I V a,I V n,I V m,I V k,.string s,Z fo fl fc]] w λe w'=>e=G (.bool true)/\gX w w' B wb ts.length (rs.length+1) (bs.length+1) D:=by
 obtain⟨g,t⟩:∃g,g=w.alloc (iZ 11 a n m k s fo fl fc):=⟨_,rfl⟩;have G0:aL w g:=by rw[t];exact(aL.refl w).alloc _
 have gU:g.heap[w.heap.size]?=M (iZ 11 a n m k s fo fl fc):=by rw[t];exact Aag w _
 obtain⟨-,-,s2,s3,s4,-,-⟩:=iI gU;have H1:=xnew (w:=g) hn;have H2:=λW=>jq (w:=W) (most:=n) (depth:=m) (room:=k) (by unfold jo;unfold Dq at hn;omega);have R:Hid _:=h;have E:Hid (aL w g):=G0;have HN:Hid (Dq n m k):=hn;unfold iZ at t;clear h gU G0 hn;go_enter func20,ntmps20;go_upto_region 1 with fail;rw[<-t];clear t;generalize w.heap.size=ob at*;go_upto_region 2 with(go_at_call 14;refine H1.mono ?_;rintro e w1 ⟨X,rfl,Iy,i,y⟩);have t2:=y.cell s2;have t3:=y.cell s3;have t4:=y.cell s4;clear s2 s3 s4 H1;go_upto_region 3 with(go_at_call 55;refine(H2 _).mono ?_;rintro e c ⟨rfl,j,jX⟩);have P:aL w c:=aQ (aQ E.out y) jX;have d:Hid _:=R.out.aN P;obtain⟨-,e1,-,-,-,-,ef⟩:=bW d.out.wX;have a1:=ef 1;have yM:=Iy.aN jX;have HQ:Hid (wB c (g.heap.size+1) (oN n m k) [] Ff X):=yM;have HY:Hid (bO c w1.heap.size (oN n m k) [] Ff (O,0,0)):=j;have HX:Hid (∀b,X b->w.heap.size<=b):=λb Q=>by have:=i b Q;have:=E.out.size;omega
 have jJ:=(aQ E.out y).size;have N:=aM d.out.wX;have HB:Hid (∀o p,((c.alloc o).alloc p).heap[wb]?=M (dN dX eZ (bs.length:Int) vp vf vm)):=λo p=>((((aL.refl c).alloc o).alloc p).block wb N).trans d.out.wX;have u:Hid (∀o p,((c.alloc o).alloc p).ownsRow B 42 1 eZ rs.length (rs.map (λr:gZ=>Value.pointer (M ⟨r.sb,0,O⟩)))):=λo p=>(d.out.sp.1.alloc o).alloc p
 have L:eZ.ownBlock≠M wb:=λe=>by
  obtain⟨c1,Ob⟩:=iH d.out.sp.1 e;exact aZ Ob d.out.wX (by decide) rfl
 have a4:=d.out.lt;have a3:c.heap.size≠wb:=by omega
 have a0:c.heap.size+1≠wb:=by omega
 clear ef Iy yM j i;generalize g.heap.size=z at*;generalize w1.heap.size=S at*;go_upto_region 8 with(first|(go_at_call 27;refine kW.mono ?_;rintro e w3 ⟨rfl,h3⟩;obtain rfl:=h3.symm)|(at_builtin;go_must (refine IE (by rfl) (.tmp 45) (.tmp 50) (by rfl) B eZ rs.length (rs.map (λr:gZ=>Value.pointer (M ⟨r.sb,0,O⟩))) (U (M ⟨c.heap.size,0,O⟩)) (by rfl) (u.out _ _) ⟨c.heap.size+1,0,O⟩ 1 1 (by first|rfl|(simp[Act.eval];done)) rfl (by simp[Addr.add]) rfl hl (by simp;omega) wb _ (HB.out _ _) L ?_);intro Yk J w5 dG eY x;obtain⟨-,k1,-,-,-,-,kf⟩:=bW x;have a2:=kf 1;clear kf));have A:aL c ((c.alloc (Nr (z+1) S)).alloc (C #[U (M ⟨c.heap.size,0,O⟩)] 42)):=((aL.refl c).alloc _).alloc _
 have QJ:((c.alloc (Nr (z+1) S)).alloc (C #[U (M ⟨c.heap.size,0,O⟩)] 42)).heap[c.heap.size]?=M (Nr (z+1) S):=by
  rw[Abz _ _ (by rw[AaD];omega),Aag]
 have jh:Hid (gX w (w5.setCell ⟨wb,1,O⟩ (Z Yk (rs.length+1) J)) B wb ts.length (rs.length+1) (bs.length+1) D):=WE R.out (aQ P A) (by
  rintro b (Q|rfl|⟨a',e,-⟩)
  ·exact HX.out b Q
  ·exact jJ
  ·cases e) P.size QJ (HQ.out.aN A) (HY.out.aN A) (OV HN.out) dG eY x
 clear dG eY R d HQ HY HX HB u;go_wp2_with fail;go_ret;exact⟨by simp,jh.out⟩
theorem fI.owned {w3:F}(h:fI w B wb rs ss bs D dX eZ vp vf vm hs gs)
 (hr:rs[k]?=M r){go:Option Addr}{ca:Nat}{l:List (Int×Int)}
 (hF:Fr w w3 (λb=>b=r.sb\/b=r.tb))(hB:Below B w w3)(hp:w3.heap[r.sb]?=M (lU r.tb (Z ao l.length ca)))(ht:cK w3 r.tb l)(hl:nK w3 ao l)
 (hgo:∀a,go=M a->w.heap.size<=a.block)(hgt:∀a,go=M a->∃aR,w3.heap[a.block]?=M (C aR 50 (0,0)))(hag:∀a,ao=M a->∀g,go=M g->a.block≠g.block)
 (hD:Nt w3 w' B wb bs.length dX eZ vp vf vm (PX bs) hs go):sG w w' B wb rs.length ss.length (bs.length+1) D:=by
 have N:=h.wX;have h6:=h.lp.1;have h9:=h.ms;obtain⟨p1,⟨q1,q2,W,-⟩,p3,p4,p5⟩:=h.tp.2.1 r (Aai hr)
 have n:∀b (aR:Array Y) (t:TypeId) (f:Nat×Nat),t≠65->t≠104->w.heap[b]?=M (C aR t f)->¬(b=r.sb\/b=r.tb):=by
  intro b aR t f j E c d;rcases d with rfl|rfl
  ·exact bF c p1 (dQ j)
  ·exact bF c W (dQ E)
 have X:=hF.at N (n _ _ _ _ (by decide) (by decide) N);have w6:=bE h6 hF (λg aR _ e=>n _ _ _ _ (by decide) (by decide) e);have w9:kK w3 B vm (PX bs):=bE h9 hF (λg aR _ e=>n _ _ _ _ (by decide) (by decide) e);obtain⟨yw,Zk,g,g1,g2,g3,g4,g5,g6,A⟩:=hD
 have y:∀b (aR:Array Y) (t:TypeId) (f:Nat×Nat),t≠33->t≠51->t≠3->(∀a,go=M a->b≠a.block)->w3.heap[b]?=M (C aR t f)->¬(b=wb\/(∃a,go=M a/\b=a.block)\/vp.ownBlock=M b\/vm.ownBlock=M b):=by
  intro b aR t f j E L P c d;rcases d with rfl|⟨a,i,rfl⟩|d|d
  ·exact bF c X (dQ j)
  ·exact P a i rfl
  ·exact qH w6 c (AbX E) d
  ·exact qH w9 c (AbX L) d
 have J:∀b (aR:Array Y) (t:TypeId) (f:Nat×Nat),t≠50->w3.heap[b]?=M (C aR t f)->∀a,go=M a->b≠a.block:=by
  intro b aR t f e c a i Ic;obtain⟨pW,u⟩:=hgt a i;rw[Ic]at c;exact bF c u (dQ e)
 obtain⟨u1,u2,u3,-⟩:=id ht
 have hK:KeepT w w' wb:=by
  refine⟨λb aR t f j E L P e5 e6 e=>?_,λz S n0 a1 a0 a2 e=>?_⟩
  ·have o:=hF.at e (n _ _ _ _ j E e);exact g6.at o (y _ _ _ _ L P e5 (J _ _ _ _ e6 o) o)
  ·rw[N]at e
   have:dX=z:=by
    have R:=AbL e;unfold dN at R;injection R with j;have:=congrArg (λx:Array Y=>x[0]?) j;simpa using this
   subst this;exact(bW g2).1
 refine⟨hK,⟨A.os.trans hB.os,A.tape.trans hB.tape,A.output.trans hB.output,Aal hB.size A.size,λb c=>(A.block b c).trans (hB.block b c)⟩,_,ss,bs++ [true],⟨_,_,_,_,_,_,_,h.own (r':=(r.sb,r.tb,ao,ca,l)) hr ?_ rfl rfl ⟨g6.at hp ?_,ht.fr g6 ?_ ?_,⟨hl.1.fr g6 ?_,?_⟩,p4,p5⟩ g1 g2 g3 g4 g5⟩,by simp,rfl,by simp⟩
 ·refine⟨Aal hF.1 g6.1,λb c d=>?_⟩;have j:=hF.2 b c (λe=>d (by rcases e with e|e;exact Aac e;exact Aab (Aac e)));refine(g6.2 b (AaE c hF.1) ?_).trans j;rintro(e|⟨a,i,rfl⟩|e|e)
  ·exact d (Aab (Aab (Aac e)))
  ·have:=hgo a i;omega
  ·exact d (Aab (Aab (Aab (Aac e))))
  ·exact d (Aab (Aab (Aab (Aab e))))
 ·exact y _ _ _ _ (by decide) (by decide) (by decide) (J _ _ _ _ (by decide) hp) hp
 ·exact y _ _ _ _ (by decide) (by decide) (by decide) (J _ _ _ _ (by decide) u3) u3
 ·intro b la ra p h l e;exact y _ _ _ _ (by decide) (by decide) (by decide) (J _ _ _ _ (by decide) e) e
 ·intro a i;obtain⟨aR,u⟩:=hl.2 a i;exact y _ _ _ _ (by decide) (by decide) (by decide) (λg Q=>hag a i g Q) u
 ·intro a i;obtain⟨aR,u⟩:=hl.2 a i;exact⟨aR,g6.at u (y _ _ _ _ (by decide) (by decide) (by decide) (λg Q=>hag a i g Q) u)⟩
end Go.Proofs.YtfplgfodoiiobabGreatDoor
