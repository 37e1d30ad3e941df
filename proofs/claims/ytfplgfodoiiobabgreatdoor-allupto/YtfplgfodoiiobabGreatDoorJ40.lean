/- a part of the proof. -/
import Derived.Test.YtfplgfodoiiobabGreatDoorJ28
import Derived.Test.YtfplgfodoiiobabGreatDoorJ34
import Derived.Test.YtfplgfodoiiobabGreatDoorJ35
import Derived.Test.YtfplgfodoiiobabGreatDoorJ37
open Option renaming none->O,some->M
open Go.Value renaming int->I,slice->Z,pointer->U
open Go.IntKind renaming i64->V
open Go.Obj renaming cells->C
open Go.Ending renaming returned->G
open Go renaming World->F,Value->Y,Calls->H
open Go.Proofs.Tryz renaming prog→K
open Go.Proofs.Tryz
namespace Go.Proofs.YtfplgfodoiiobabGreatDoor
set_option maxHeartbeats 8000000
set_option maxRecDepth 100000
open Go.RowKit
variable {w W w5:F}{s:Sc}{fs:List bD}{m:dI}{D ep a code:Int}{qp B lp db wb qb fb cap k xb tb:Nat}{X:Nat->Prop}{ps:Nat->Addr}{fv dX eZ vp vf vm:Y}{rs:List FR}{b:ByteArray}{bs:List Bool}{ss:List gZ}{hs gs:List bT}{ad:Addr}{f:bT}{r:gZ}{ts:List Rec}
theorem sync_pg (h:aU w db s fv rs)(hL:w.heap[lp]?=M (jW db ep))(hG:Gl w ps)(hO:qB 1000 s (plain rs))(zD:0<=ep)(Jg:ep<=1000):
 H K 110 #[U (M ⟨lp,0,O⟩)] w λe w'=> ∃v,e=G v/\oQ w w' ps db fv rs 2 v (sS s (plain rs) ep):=by
 have N:=qQ hL zD (by omega)
 have L:Hid (SyB w (w.alloc (C #[I V 1,I V (10+ep)] 3)) ps lp w.heap.size db ep fv rs s (plain rs)):=by
  have g:=(aL.refl w).alloc (C #[I V 1,I V (10+ep)] 3);exact⟨(g.block _ (aM hL)).trans hL,Aag w _,hG.aN g,fv,rs,h.aN g,rfl,Dk.bZ g⟩
 have Q:Hid (∀wr r y n,SyB w wr ps lp w.heap.size db ep fv rs r y->qB 1000 r y->H K 148 #[U (M ⟨db,0,O⟩),I V n] wr λe w'=> ∃v,e=G v/\SyB w w' ps lp w.heap.size db ep fv rs (cO r y n).2.1 (cO r y n).2.2/\LY w' ps v (cO r y n).1):=λwr r y n hs D=>by
  obtain⟨a1,a2,a3,t,u,c,rfl,z⟩:=hs;refine(Vq c a3.yQ D.dJ D.Ef D.inv (by have:=D.len;rw[bP]at this;omega)).mono ?_;rintro e w' ⟨v,rfl,a7,a8,b1,b2,J,b4⟩;exact⟨v,rfl,⟨J.1.at a1 (c.other a1 (by decide) (by decide) (by decide) (by decide)),J.1.at a2 (c.other a2 (by decide) (by decide) (by decide) (by decide)),a3.dk c J,a7,a8,b1,b2,z.trans J⟩,b4⟩
 have E:=syn_ok (ep:=ep) hO;clear h hG hO;go_enter func110,ntmps110;go_wp2_with (go_at_call 128;refine N.mono ?_;rintro e w ⟨rfl,rfl⟩)
 go_loopw [4,5,10] (λ_ _ i wr=> ∃k:Nat,k<=2/\i=I V (k:Int)/\Hid (∀j,j<=k->(uZ s (plain rs) ep j).1=true)/\Hid (SyB w wr ps lp w.heap.size db ep fv rs (uZ s (plain rs) ep k).2.1 (uZ s (plain rs) ep k).2.2)) (λ_ _ i _=>2-(intOf i).toNat)
 case atStart=>exact⟨0,Aao _,rfl,(λj hj=>by have e:j=0:=(by omega);subst e;rfl),L⟩
 case round=>
  obtain⟨k,hk,rfl,P,A⟩:=hrel;by_cases bQ:k<2
  ·have Wj:(k:Int)<2:=(by omega);have h0:(0:Int)<=(k:Int):=(by omega);obtain⟨c0,-⟩:=iE A.out.1
   have o:wr.cell? ⟨w.heap.size,k,O⟩=M (I V (if k=0 then 1 else 10+ep)):=by
    have:=A.out.2.1;have e:k=0\/k=1:=(by omega);rcases e with rfl|rfl<;>simp[World.cell?,this]
   have x:=Q.out wr _ _ (if k=0 then 1 else 10+ep) A.out (E k);have HN:Hid (uZ s (plain rs) ep (k+1)=cO (uZ s (plain rs) ep k).2.1 (uZ s (plain rs) ep k).2.2 (if k=0 then 1 else 10+ep)):=rfl;rw[<-HN.out]at x;generalize (if k=0 then (1:Int)else 10+ep)=nn at o x;cases d:(uZ s (plain rs) ep (k+1)).1 with
   |true=>
    have a0:Hid (∀j,j<=k+1->(uZ s (plain rs) ep j).1=true):=λj hj=>by
     by_cases e:j=k+1
     ·rw[e];exact d
     ·exact P.out j (by omega)
    have UI:H K 148 #[U (M ⟨db,0,O⟩),I V nn] wr λe w'=>e=G .nilIface/\Hid (SyB w w' ps lp w.heap.size db ep fv rs (uZ s (plain rs) ep (k+1)).2.1 (uZ s (plain rs) ep (k+1)).2.2):=x.mono (by
     rintro e w' ⟨v,rfl,a,b⟩;rw[d]at b;rcases b with⟨-,rfl⟩|⟨b,-⟩
     ·exact⟨rfl,a⟩
     ·cases b)
    clear x d Q E L N hL;go_wp2_with (go_at_call 148;refine UI.mono ?_;rintro e w4 ⟨rfl,rO⟩);go_roundw
    case rel=>exact⟨k+1,by omega,by go_num,a0,rO⟩
    case measure=>simp[intOf];omega
   |false=>
    have R:Hid (sS s (plain rs) ep=(10,(uZ s (plain rs) ep (k+1)).2)):=by
     show _=_;unfold sS;have e:k=0\/k=1:=(by omega);rcases e with rfl|rfl
     ·rw[Aad d]
     ·have h1:=P.out 1 (by omega);rw[Aaa (by rw[h1];simp),d];rfl
    have UI:H K 148 #[U (M ⟨db,0,O⟩),I V nn] wr λe w'=> ∃b,e=G (.iface 278 (U (M ⟨b,0,O⟩)))/\Hid (oQ w w' ps db fv rs 1 (.iface 278 (U (M ⟨b,0,O⟩))) (10,(uZ s (plain rs) ep (k+1)).2)):=x.mono (by
     rintro e w' ⟨v,rfl,a,b⟩;rw[d]at b;have hl:=b.wG;rcases b with⟨b,-⟩|⟨-,b0,nm,num,rfl,-⟩
     ·cases b
     ·obtain⟨-,-,-,t,u,c,S,z⟩:=a;exact⟨b0,rfl,t,u,c,S,z,hl⟩)
    have HA:Hid (∀W b,oQ w W ps db fv rs 1 (.iface 278 (U (M ⟨b,0,O⟩))) (10,(uZ s (plain rs) ep (k+1)).2)->H K 87 #[.string ⟨#[115,121,110,99]⟩,.iface 278 (U (M ⟨b,0,O⟩))] W λe w'=> ∃B,e=G B/\oQ w w' ps db fv rs 2 B (10,(uZ s (plain rs) ep (k+1)).2)):=λW b hv=>by
     obtain⟨t,u,k1,k2,k3,k4⟩:=hv;refine(Je k4).mono ?_;rintro e w' ⟨B,rfl,m1,m2⟩;exact⟨B,rfl,t,u,k1.aN m2,k2,k3.Jf m2,m1⟩
    clear x d Q E L N hL;go_wp2_with (first|(go_at_call 148;refine UI.mono ?_;rintro e w4 ⟨b4,rfl,rO⟩)|(go_at_call 87;refine(HA.out _ _ rO.out).mono ?_;rintro e w5 ⟨v5,rfl,X⟩));go_ret;rw[R.out];exact⟨_,rfl,X⟩
  ·have e2:k=2:=(by omega);subst e2
   have R:Hid (sS s (plain rs) ep=(0,(uZ s (plain rs) ep 2).2)):=by
    show _=_;unfold sS;have h1:=P.out 1 (by omega);have h2:=P.out 2 (by omega);rw[Aaa (by rw[h1];simp),h2];rfl
   have HV:Hid (oQ w wr ps db fv rs 2 .nilIface (0,(uZ s (plain rs) ep 2).2)):=by
    obtain⟨-,-,-,t,u,c,S,z⟩:=A.out;exact⟨t,u,c,S,z,Aac ⟨rfl,rfl⟩⟩
   clear Q E L N hL A
   go_wp2
   go_ret;rw[R.out];exact⟨_,rfl,HV.out⟩
theorem stepn_pg (hk:k<5)(h:v_ W qb fb lp db ep ad b.size cap)(hD:aU W db s fv rs)(hG:Gl W ps)(hO:qB 1000 s (plain rs))(Cr:b.size≠0)(hb:b.size<=1000000000)(hr:pX W (M ad) b.data.toList)(Vp:∃aR f,W.heap[ad.block]?=M (C aR 5 f))(zD:0<=ep)(Jg:ep<=1000):
 H K (Rs k) (CV qb fb k) W λe w'=> ∃v,e=G v/\oQ W w' ps db fv rs 1 v (Ga ep b s (plain rs) k):=by
 rcases(by omega:k=0\/k=1\/k=2\/k=3\/k=4)with rfl|rfl|rfl|rfl|rfl
 ·exact(step1_pg h hD hG hO).mono (by rintro e w' ⟨v,rfl,a⟩;exact⟨v,rfl,a.leg⟩)
 ·exact step2_pg h hD hG hO Cr hb hr Vp
 ·exact(step3_pg h hD hG hO).mono (by rintro e w' ⟨v,rfl,a⟩;exact⟨v,rfl,a.leg⟩)
 ·exact(step4_pg h hD hG hO).mono (by rintro e w' ⟨v,rfl,a⟩;exact⟨v,rfl,a.leg⟩)
 ·exact(step5_pg h hD hG hO zD Jg).mono (by rintro e w' ⟨v,rfl,a⟩;exact⟨v,rfl,a.leg⟩)
theorem CkI.step {wr:F}{s':Sc}{dZ:List bD}(h:CkI w5 wr ps qb fb lp db ep ad cap b fv rs k s' dZ)(hk:k<5)(hr:pX w5 (M ad) b.data.toList)(Vp:∃aR f,w5.heap[ad.block]?=M (C aR 5 f))(hn:¬DX db fv rs ad.block)(Cr:b.size≠0)(hb:b.size<=1000000000)(zD:0<=ep)(Jg:ep<=1000):
 H K (Rs k) (CV qb fb k) wr λe w'=> ∃v,e=G v/\lS w' ps 1 v (Ga ep b s' dZ k).1/\CkI w5 w' ps qb fb lp db ep ad cap b fv rs (k+1) (Ga ep b s' dZ k).2.1 (Ga ep b s' dZ k).2.2:=by
 obtain⟨u,r,o,J,E,d,rfl,g⟩:=h;obtain⟨aR,f,Vp⟩:=Vp;refine(stepn_pg hk u d r (o.mono (by omega)) Cr hb (hr.fr g.1 (λa e=>by cases e;exact hn)) ⟨aR,f,g.1.at Vp hn⟩ zD Jg).mono ?_;rintro e w' ⟨v,rfl,j,n,B,D,c,A⟩;have i:MX wr w':=λL aR t f hb z y x w=>c.1.at hb (d.other hb z y x w);exact⟨v,rfl,A,u.keep i,r.dk d c,ck1_ok o Cr k,j,n,B,D,g.trans c⟩
theorem xclose (h:wB w qp s fs m X):H K 64 #[U (M ⟨qp,0,O⟩)] w λe w'=>e=G (I V (pU s).2)/\zS w w' qp X ((pU s).1,fs,m):=by
 have r:=h;rcases h with⟨j,k,g,d,a,rfl,o,rfl⟩|⟨j,k,g,d,x,t,u,tb,a,rfl,rfl⟩
 ·have e:pU s=(s,3):=by unfold pU;rw[Aaa (by simp[j])]
  rw[e];refine(NP o).mono ?_;rintro e w' ⟨rfl,rfl⟩;exact⟨rfl,zS.at r⟩
 ·have e:pU s=({ s with aX:=false },0):=by unfold pU;rw[Aad j]
  rw[e];refine(NQ a.qu).mono ?_;rintro e w' ⟨rfl,n,i⟩;refine⟨rfl,JF qp k g d,Aac ⟨rfl,k,g,d,aU.fr a.disk i.1 ?_,rfl,n,rfl⟩,i.1.mono ?_,i.2,?_⟩
  ·rintro b c rfl;exact a.disk.other a.qu (by decide) (by decide) (by decide) (by decide) c
  ·rintro b rfl;exact Aac rfl
  ·rintro b (c|c)
   ·exact Aac (Aac c)
   ·exact Aac (Aab (Aac c))
theorem xrefuse (h:wB w qp s fs m X):H K 70 #[U (M ⟨qp,0,O⟩),I V a] w λe w'=>e=G (I V (pK s a).2)/\zS w w' qp X ((pK s a).1,fs,m):=by
 unfold pK;by_cases g:a<0
 ·rw[Aad g];refine(UX g).mono ?_;rintro e w' ⟨rfl,rfl⟩;exact⟨rfl,zS.at h⟩
 ·rw[Aaa g];obtain⟨z,t,y,o,c,-,i⟩:=h.disk;refine(NR i c (by omega)).mono ?_;rintro e w' ⟨rfl,r,k⟩;refine⟨rfl,h.num1 i c ⟨rfl,rfl,iR.refl s⟩ (λn _ x j=>?_) k⟩;have u:=r.1;have e:n=t:=by have:=j.1.symm.trans c.1;unfold jO at this;simp at this;exact this
  subst e;exact j.keep u k.1 (λb _ d=>d)
theorem xcrash {b c:Int}(h:wB w qp s fs m X):H K 68 #[U (M ⟨qp,0,O⟩),I V a,I V b,I V c] w λe w'=>e=G (I V (Ew s a b c).2)/\zS w w' qp X ((Ew s a b c).1,fs,m):=by
 unfold Ew;by_cases i:a<0\/b<0\/c<0
 ·rw[Aad i];refine(uh i).mono ?_;rintro e w' ⟨rfl,rfl⟩;exact⟨rfl,zS.at h⟩
 ·rw[Aaa i];obtain⟨A,u,z,o,d,-,j⟩:=h.disk;refine(UY j d (by omega) (by omega) (by omega)).mono ?_;rintro e w' ⟨rfl,t,n⟩;refine⟨rfl,h.num1 j d ⟨rfl,rfl,iR.refl s⟩ (λr _ y k=>?_) n⟩;have x:=t.1;have e:r=u:=by have:=k.1.symm.trans d.1;unfold jO at this;simp at this;exact this
  subst e;exact k.keep x n.1 (λb _ g=>g)
theorem qsync (h:wB w qp s fs m X)(hG:Gl w ps)(hS:GS (s,fs,m) D):
 H K 66 #[U (M ⟨qp,0,O⟩)] w λe w'=>e=G (I V (mY (s,fs,m)).2)/\zS w w' qp X (mY (s,fs,m)).1:=by
 have n:=h;have L:=hS.bk.dJ.oM;have R:=hS.bk.dJ.rW;simp only at L R;rcases h with⟨k,t,o,c,a,rfl,z,rfl⟩|⟨k,t,o,c,E,u,B,tb,a,rfl,rfl⟩
 ·have d:=Hw z;have e:mY (s,plain c,m)=((s,plain c,m),3):=by unfold mY;rw[Aad k]
  rw[e];have x:Hid (wB w qp s (plain c) m (JF qp t o c)):=n;clear n hG hS a z e;go_enter func66,ntmps66;go_wp2_with (go_at_call 49;refine d.mono ?_;rintro e w' ⟨rfl,rfl⟩);go_ret;exact⟨rfl,zS.same x.out (aL.refl _)⟩
 ·have d:=Aw a.qu a.Bg;cases j:s.ro with
  |true=>
   have e:mY (s,plain c,m)=((s,plain c,m),4):=(by unfold mY;simp only;rw[Aaa (by simp[k]),Aad j]);rw[e];rw[j,Aad rfl]at d;have x:Hid (wB w qp s (plain c) m (Ud qp t o c E u B tb)):=n;clear n hG hS a e j k;go_enter func66,ntmps66;go_wp2_with (go_at_call 49;refine d.mono ?_;rintro e w' ⟨rfl,rfl⟩);go_ret;exact⟨rfl,zS.same x.out (aL.refl _)⟩
  |false=>
   rw[j]at d a;simp only[Aaa (show ¬(false=true) by decide)]at d;obtain⟨y,i,g⟩:=syn_flg hS.bk k j;have J:=sync_pg a.disk a.wG hG (hS.bk.dok.more (by omega)) L (by omega);simp only at y i g;rw[g m];generalize sS s (plain c) s.aY=r at*;obtain⟨-,-,-,c3,-⟩:=fG a.qu;obtain⟨d0,-,-⟩:=lH a.Bg;simp only[Abi]at c3
   have Q:Hid (H K 110 #[U (M ⟨u,0,O⟩)] w λe w'=> ∃v,e=G v/\H K 48 #[U (M ⟨qp,0,O⟩),v] w' λe N=>e=G (I V r.1)/\zS w N qp (Ud qp t o c E u B tb) (r.2.1,r.2.2,m)):=by
    refine J.mono ?_;rintro e w' ⟨v,rfl,eD,dY,k1,k2,A,S⟩;obtain⟨P,Fs⟩:=a.dk k1 A i;refine⟨v,rfl,?_⟩;rw[<-k2];exact YW P y (yG (hG.dk a.disk A) S (by omega)) Fs
   clear J n hG hS a j k y i g;go_enter func66,ntmps66;go_wp2_with (first|(go_at_call 49;refine d.mono ?_;rintro e w' ⟨rfl,rfl⟩)|(go_at_call 110;refine Q.out.mono ?_;rintro e w' ⟨v,rfl,hA⟩)|(go_at_call 48;refine hA.mono ?_;rintro e N ⟨rfl,W⟩));go_ret;exact⟨rfl,W⟩
theorem xh (h:bO w xb s fs m f)(hB:BK s fs):
 H K 63 #[U (M ⟨xb,0,O⟩)] w λe w'=>e=G (I V (jP (s,fs,m)).2)/\After w w' xb (jP (s,fs,m)).1.1 (jP (s,fs,m)).1.2.1 (jP (s,fs,m)).1.2.2 f:=by
 have f5:=hB.len;have uN:=hB.dJ.kZ;have e3:((aP fs 1).size:Int)<=1000000:=by have:=gN hB.inv 1;omega
 have yN:w.cell? ⟨xb,10,O⟩=M (.bool s.aX):=by obtain⟨r,hx,-⟩:=h;simp[World.cell?,hx,bR]
 cases ho:s.aX with
 |true=>
  rw[ho]at yN;have e:jP (s,fs,m)=((s,fs,m),2):=by unfold jP;rw[Aad ho]
  rw[e];go_enter func63,ntmps63;go_wp2_with fail;go_ret;exact⟨rfl,f,h,kX.refl _ _ _⟩
 |false=>
  rw[ho]at yN;have c7:=wo h (by omega) hB.dJ hB.inv;cases z:jT (aP fs 2) ((aP fs 1).size:Int) s.depth.toNat with
  |none=>
   rw[z]at c7;have e:jP (s,fs,m)=((s,fs,m),11):=(by unfold jP;rw[Aaa (by simp[ho])];simp only[z]);rw[e];have HA:Hid (∀W,aL w W->After w W xb s fs m f):=λW hW=>⟨f,h.aN hW,(kX.refl w xb f).aN hW⟩
   clear e h z;go_enter func63,ntmps63;go_wp2_with (go_at_call 107;refine c7.mono ?_;rintro e w1 ⟨rfl,iV⟩;unfold Vn fU.v;simp only[bT.v]);go_ret;exact⟨rfl,HA.out _ (iV.alloc _)⟩
  |some em=>
   rw[z]at c7;obtain⟨-,z1,z2,z3,z4,z5⟩:=Gg ((res_eq fs s.depth.toNat).trans z) e3;obtain⟨a,m0⟩:=em;simp only at z1 z2 z3 z4 z5;obtain⟨J,hJ⟩:∃J,J=aP fs (10+a):=⟨_,rfl⟩;have i6:J.size<=1000000:=(by rw[hJ];have:=gN hB.inv (10+a);omega);obtain⟨g,pQ⟩:∃g,g=jC ((aP fs 1).size:Int) s.depth.toNat (J.size / 22+1) m0 J.data.toList:=⟨_,rfl⟩;obtain⟨X,d9⟩:∃X:Int,X=((22*g.2:Nat):Int):=⟨_,rfl⟩;have d5:0<=X:=by omega
   have b0:Hid (jP (s,fs,m)=Zh s fs m a g.1 X):=by
    show _=_;unfold Zh;unfold jP;rw[Aaa (by simp[ho])];simp only[z];have i4:(aP fs (10+a)).data.toList.length=J.size:=(by rw[hJ];simp);rw[i4,<-hJ,<-pQ,<-d9]
   have e6:Hid (∀W (r0:fU),aL w W->eT W r0 m0->H K 108 #[U (M ⟨xb,0,O⟩),r0.v,.string J] W λe w'=> ∃r':fU,e=G (.tuple #[r'.v,I V X])/\eT w' r' g.1/\aL W w'):=λW r0 hW h3=>by
    have:=VH (h.aN hW) (by omega) hB.dJ hB.inv h3 z1 z2 i6;rw[<-pQ,<-d9]at this;exact this
   have f6:Hid (∀W,aL w W->H K 104 #[U (M ⟨xb,0,O⟩),I V (10+a)] W λe w'=>e=G (.string J)/\w'=W):=λW hW=>by
    obtain⟨rx,hx,hf,-⟩:=h.aN hW;rw[hJ];exact wS hx hf (by omega)
   have YV:0<=g.1.2.2.2.2:=by
    have q:=(Nn e3 s.depth.toNat (J.size / 22+1) m0 J.data.toList z1 z3).1.Fa;rw[VF,<-pQ]at q;exact q
   have HW:Hid (bO w xb s fs m f):=h;have XK:IntKind.i64.wrap (10+a)=10+a:=(by rw[AaC];omega);clear z h pQ hJ d9;go_enter func63,ntmps63;go_upto_region 7 with(go_at_call 107;refine c7.mono ?_;rintro e w1 ⟨⟨r1,rfl,Iu⟩,iV⟩;obtain⟨⟨a1,a2,a3⟩,⟨a4,a5,a6⟩,⟨a7,a8,a9⟩,dn,bf⟩:=r1;unfold fU.v;simp only[bT.v]);obtain⟨w2,Fx⟩:∃w2,w2=w1.alloc (bU (Z a1 a2 a3) (Z a4 a5 a6) (Z a7 a8 a9) (I V dn) (I V bf)):=⟨_,rfl⟩;have G2:aL w w2:=(by rw[Fx];exact iV.alloc _);have g7:aL w1 w2:=(by rw[Fx];exact(aL.refl w1).alloc _);have EP:w2.heap[w1.heap.size]?=M (bU (Z a1 a2 a3) (Z a4 a5 a6) (Z a7 a8 a9) (I V dn) (I V bf)):=(by rw[Fx];exact Aag w1 _);have g8:eT w2 ((a1,a2,a3),(a4,a5,a6),(a7,a8,a9),dn,bf) m0:=Iu.aN g7;have f9:=iV.size;unfold bU at Fx;rw[<-Fx];clear Fx g7 Iu iV c7;obtain⟨y0,y1,y2,y3,y4,f0,f1,f2,f3,f4⟩:=aV EP;generalize w1.heap.size=mb at*
   have f7:Hid (∀W,aL w2 W->H K 108 #[U (M ⟨xb,0,O⟩),.agg #[Z a1 a2 a3,Z a4 a5 a6,Z a7 a8 a9,I V dn,I V bf],.string J] W λe w'=> ∃D E P b4 b5 b6 b7 b8 b9 Yl Ib,e=G (.tuple #[.agg #[Z D E P,Z b4 b5 b6,Z b7 b8 b9,I V Yl,I V Ib],I V X])/\eT w' ((D,E,P),(b4,b5,b6),(b7,b8,b9),Yl,Ib) g.1/\aL w2 w'):=λW hW=>by
    refine(e6.out W ((a1,a2,a3),(a4,a5,a6),(a7,a8,a9),dn,bf) (aQ G2 hW) (g8.aN hW)).mono ?_;rintro e w' ⟨⟨⟨D,E,P⟩,⟨b4,b5,b6⟩,⟨b7,b8,b9⟩,Yl,Ib⟩,rfl,k1,k2⟩;exact⟨D,E,P,b4,b5,b6,b7,b8,b9,Yl,Ib,rfl,k1,aQ hW k2⟩
   have e7:Hid (∀W,aL w2 W->H K 104 #[U (M ⟨xb,0,O⟩),I V (10+a)] W λe w'=>e=G (.string J)/\w'=W):=λW hW=>f6.out W (aQ G2 hW);clear e6 f6
   go_cut [7] (λv wc=>v=I V X/\∃Q,IC w wc xb mb Q g.1 s fs m f f)
   case first=>
    go_region_law (first
     |(refine Kz (by rfl) 104 _ _ (by rfl) _ (by first|(simp[Act.eval];done)|(simp[Act.eval,Act.put];done)) e_rbytes ((e7.out _ (by repeat (first|exact aL.refl _|refine aL.drew ?_))).mono ?_);rintro v w' ⟨rfl,rfl⟩;refine⟨_,rfl,?_⟩)|(refine Kz (by rfl) 108 _ _ (by rfl) #[U (M ⟨xb,0,O⟩),.agg #[Z a1 a2 a3,Z a4 a5 a6,Z a7 a8 a9,I V dn,I V bf],.string J] (by first|(simp[Act.eval];done)|(simp[Act.eval,Act.put];done)) wu ((f7.out _ (by repeat (first|exact aL.refl _|refine aL.drew ?_))).mono ?_);rintro v w7 ⟨D,E,P,b4,b5,b6,b7,b8,b9,Yl,Ib,rfl,Ya,oZ⟩;have c8:=(oZ.block _ (aM EP)).trans EP;obtain⟨v0,v1,v2,v3,v4,k0,k1,k2,k3,k4⟩:=aV c8;refine⟨_,rfl,?_⟩))
    all_goals go_wp2_with fail
    all_goals go_meet
    all_goals
     have ga:=dK (aQ G2 oZ) f9 (Z D E P) (Z b4 b5 b6) (Z b7 b8 b9) (I V Yl) (I V Ib);exact⟨rfl,((D,E,P),(b4,b5,b6),(b7,b8,b9),Yl,Ib),⟨HW.out.aN ga,(kX.refl w xb f).aN ga,qJ c8 _ _ _ _ _,Ya.KV c8 _ _ _ _ _⟩⟩
   case rest=>
    obtain⟨rfl,Q,d8⟩:=hcut
    rename F=>wc
    clear f7 e7 EP g8 y0 y1 y2 y3 y4 f0 f1 f2 f3 f4 G2 f9 yN;have h5:∃rx,wc.heap[xb]?=M (bR s f rx):=(by obtain⟨rx,hx,-⟩:=d8.st;exact⟨rx,hx⟩);obtain⟨rx,hx⟩:=h5;have h8:wc.cell? ⟨xb,10,O⟩=M (.bool s.aX):=(by simp[World.cell?,hx,bR]);have h2:wc.frozen? ⟨xb,10,O⟩=false:=(by simp[World.frozen?,hx,bR]);have d3:Hid _:=d8.open;go_upto_region 9 with fail;obtain⟨x,QN⟩:∃x,x=wc.setCell ⟨xb,10,O⟩ (.bool true):=⟨_,rfl⟩;rw[<-QN]at d3 ⊢;clear QN h8 h2 hx d8;obtain⟨k5,Ie,Jz,-⟩:=d3.out.st;have x3:=kG Ie;obtain⟨fo,fl,fc⟩:=f;obtain⟨k1,k2,k3⟩:=Jz;simp only at k1 k2 k3;subst k2;simp only[bT.v]at x3;have e9:Hid (Xx x fo fs):=k1;clear Ie k1 k3;go_wp2_with fail
    go_loopw [8,9,10] (λv i _ wr=> ∃k:Nat,k<=fs.length/\i=I V (k:Int)/\Hid (kK wr x.heap.size v (gW (fs.take k) a)/\aL x wr)) (λ_ i _ _=>fs.length-(intOf i).toNat)
    case atStart=>exact⟨0,Aao _,rfl,AaH _ _ _ _,aL.refl x⟩
    case round=>
     obtain⟨k,hk,rfl,y⟩:=hrel;obtain⟨nX,lQ,ev,-⟩:=kK.form y.out.1;subst ev;have i7:=y.out.2.cell x3;by_cases bQ:k<fs.length
     ·obtain⟨fk,gy⟩:∃f,fs[k]?=M f:=⟨_,Aaf bQ⟩;obtain⟨b,off,rfl,d1,-,-⟩:=e9.out.at gy;have g9:=y.out.2.cell d1;have i1:(0:Int)<=(k:Int):=(by omega);have i2:(k:Int)<(fs.length:Int):=(by omega);have HN:=VK (e:=a) gy;clear gy x3 d1;obtain⟨n,hn⟩:∃n,n=fk.1:=⟨_,rfl⟩;rw[<-hn]at HN g9;clear hn;cases hb:(n !=1 && n !=10+a && (n !=2||a==0))with
      |false=>
       rw[hb]at HN;simp only[AaF,if_false,Acp]at HN;have HN:Hid _:=HN;have HX:Hid (∃wz,aL wr wz):=⟨wr,aL.refl wr⟩
       have d0:n=1\/(n≠1/\n=10+a)\/(n≠1/\n≠10+a/\n=2/\a≠0):=by
        simp only[bne,Bool.and_eq_false_iff,Bool.not_eq_false',beq_iff_eq,Bool.or_eq_false_iff]at hb;have A:=hb;by_cases q1:n=1
        ·exact Aac q1
        by_cases q2:n=10+a
        ·exact Aab (Aac ⟨q1,q2⟩)
        by_cases q3:n=2
        ·by_cases q4:a=0
         ·simp[q3,q4]at hb
         ·exact Aab (Aab ⟨q1,q2,q3,q4⟩)
        ·simp[q1,q2,q3]at hb
       clear hb;have HF:Hid (∀n',n'=k+1->Hid (kK wr x.heap.size (Z nX (gW (fs.take k) a).length lQ) (gW (fs.take n') a)/\aL x wr)):=λn' e=>by rw[e,HN.out];exact y
       have hz:(n !=1 && n !=10+a && (n !=2||a==0))=false:=by
        rcases d0 with q|⟨q1,q2⟩|⟨q1,q2,q3,q4⟩
        ·simp[q]
        ·simp[q2]
        ·simp[q3,q4]
       cases D:(n==1)with
       |true=>
        have c1:(n !=1)=false:=(by simp only[bne,D];rfl);clear d0 hz;go_wp2_with fail;go_roundw
        case rel=>exact⟨k+1,by omega,by go_num,HF.out _ rfl⟩
        case measure=>simp[intOf];omega
       |false=>
        have c1:(n !=1)=true:=(by simp only[bne,D];rfl);cases E:(n==10+a)with
        |true=>
         have c2:(n !=10+a)=false:=(by simp only[bne,E];rfl);clear d0 hz;go_wp2_with fail;go_roundw
         case rel=>exact⟨k+1,by omega,by go_num,HF.out _ rfl⟩
         case measure=>simp[intOf];omega
        |false=>
         have c2:(n !=10+a)=true:=by simp only[bne,E];rfl
         have P:(n==2)=true:=by
          have h0:¬n=1:=(by simpa using D);have h4:¬n=10+a:=(by simpa using E);simp;omega
         have c3:(n !=2)=false:=by simp only[bne,P];rfl
         have b4:(a==0)=false:=by
          have h0:¬n=1:=(by simpa using D);have h4:¬n=10+a:=(by simpa using E);simp;omega
         clear d0 hz;go_wp2_with fail;go_roundw
         case rel=>exact⟨k+1,by omega,by go_num,HF.out _ rfl⟩
         case measure=>simp[intOf];omega
      |true=>
       rw[hb]at HN;simp only[if_true]at HN;have HN:Hid _:=HN;simp only[Abh,Adj]at hb;obtain⟨⟨c1,c2⟩,c3⟩:=hb;have D:(n==1)=false:=(by simpa[bne]using c1);have E:(n==10+a)=false:=by simpa[bne]using c2
       have Qm:(gW (fs.take k) a).length<=1000000:=by
        have q1:(gW (fs.take k) a).length<=((fs.take k).map (λf=>f.1)).length:=Aco _ _;simp at q1;omega
       have vJ:RdI (wr.alloc (C #[I V n] 3)) (M ⟨wr.heap.size,0,O⟩) [n]:=Aab ⟨wr.heap.size,0,rfl,λi hi=>by
        have:i=0:=(by simp at hi;omega);subst this;simp⟩
       have j8:=y.out.2.size
       have HE:Hid (∀v5 w5,kK w5 x.heap.size v5 (gW (fs.take k) a++ [n])->(wr.alloc (C #[I V n] 3)).grownBy w5 (Value.slice nX (gW (fs.take k) a).length lQ).ownBlock->Hid (kK w5 x.heap.size v5 (gW (fs.take (k+1)) a)/\aL x w5)):=λv5 w5 dG eY=>by
        refine⟨by rw[HN.out];exact dG,?_⟩;have h1:=mM eY;refine⟨h1.os.trans y.out.2.os,h1.tape.trans y.out.2.tape,h1.output.trans y.out.2.output,Aal y.out.2.size h1.size,λk hk=>?_⟩;rw[<-y.out.2.block k hk];refine h1.block k (AaE hk y.out.2.size) (λe=>?_);have:=(AaB y.out.1 k e.symm).1;omega
       cases P:(n==2)with
       |true=>
        have c4:(n !=2)=false:=by simp only[bne,P];rfl
        have b4:(a==0)=true:=by
         rcases c3 with c3|c3
         ·rw[c4]at c3;cases c3
         ·exact c3
        clear c3;go_wp2_with (at_builtin;go_must (refine xG (by rfl) (.tmp 70) (.tmp 72) (by rfl) x.heap.size _ (gW (fs.take k) a) [n] (by rfl) (by exact Aax y.out.1 _) _ _ _ (by rfl) (by rfl) (by intro e;cases e) (by exact vJ) (by simp only[Abj];omega) (by simp;omega) ?_);intro v5 w5 dG eY);go_roundw
        case rel=>exact⟨k+1,by omega,by go_num,HE.out _ _ dG eY⟩
        case measure=>simp[intOf];omega
       |false=>
        have c4:(n !=2)=true:=(by simp only[bne,P];rfl);clear c3;go_wp2_with (at_builtin;go_must (refine xG (by rfl) (.tmp 70) (.tmp 72) (by rfl) x.heap.size _ (gW (fs.take k) a) [n] (by rfl) (by exact Aax y.out.1 _) _ _ _ (by rfl) (by rfl) (by intro e;cases e) (by exact vJ) (by simp only[Abj];omega) (by simp;omega) ?_);intro v5 w5 dG eY);go_roundw
        case rel=>exact⟨k+1,by omega,by go_num,HE.out _ _ dG eY⟩
        case measure=>simp[intOf];omega
     ·have HL:Hid (kK wr x.heap.size (Z nX (gW fs a).length lQ) (gW fs a)/\IC w wr xb mb Q g.1 { s with aX:=true } fs m (fo,fs.length,fc) (fo,fs.length,fc)):=by
       have q:=y.out;rw[Aaq (by omega)]at q;exact⟨q.1,d3.out.more q.2⟩
      have e8:(gW (fs.take k) a).length=(gW fs a).length:=(by rw[Aaq (by omega)]);rw[e8];clear y d3 e9 x3 e8
      have Qm:(gW fs a).length<=50:=by
       have q1:(gW fs a).length<=(fs.map (λf=>f.1)).length:=Aco _ _;simp at q1;omega
      have f8:Hid (BK { s with aX:=true } fs):=⟨⟨hB.dJ.KU,hB.dJ.AP,hB.dJ.zL,hB.dJ.xW,hB.dJ.AQ,hB.dJ.kZ,hB.dJ.nV,hB.dJ.Ow,hB.dJ.je,hB.dJ.Ai,hB.dJ.AR,hB.dJ.Iq,hB.dJ.Mg,hB.dJ.oM,hB.dJ.rW⟩,hB.Ef,hB.inv,hB.len⟩;obtain⟨L,TB⟩:∃L,L=gW fs a:=⟨_,rfl⟩;have e4:Hid _:=TB;rw[<-TB]at HL Qm ⊢;clear TB;go_wp2_with fail;clear i7
      go_loopw [5,11] (λo i wq=> ∃(k:Nat) (c:Sc) (d:List bD) (f1:bT),k<=L.length/\o= .bool true/\i=I V (k:Int)/\Hid (kK wq x.heap.size (Z nX L.length lQ) L/\IC w wq xb mb Q g.1 c d m (fo,fs.length,fc) f1/\BK c d/\gM { s with aX:=true } fs L=gM c d (L.drop k))) (λ_ i _=>L.length-(intOf i).toNat)
      case atStart=>exact⟨0,_,_,_,Aao _,rfl,rfl,HL.out.1,HL.out.2,f8.out,by simp⟩
      case round=>
       obtain⟨k,c,d,f1,hk,rfl,rfl,j⟩:=hrel;clear HL;by_cases bQ:k<L.length
       ·obtain⟨n,hn⟩:∃n,L[k]?=M n:=⟨_,Aaf bQ⟩;obtain⟨j6,j0,ev,rA,-⟩:=kK.form j.out.1;cases ev
        rcases rA with e|⟨b,off,rfl,hc⟩
        ·rw[e]at bQ;simp at bQ
        ·have d1:=hc k bQ;have e1:L.getD k 0=n:=(by rw[AbD,hn];rfl);rw[e1]at d1;have i1:(0:Int)<=(k:Int):=(by omega);have i2:(k:Int)<(L.length:Int):=(by omega);have d4:=xg (s:=c) (fs:=d) hn;have c5:=j.out.2.2.1.len;have HC:=Tk (n:=n) j.out.2.1.st (by omega) j.out.2.2.1.dJ j.out.2.2.1.inv (AaT 0);clear hc hn e1;cases hr:(bM c d n 0).1 with
         |false=>
          rw[hr]at HC
          have HX:Hid (jP (s,fs,m)=(((bM c d n 0).2.1,(bM c d n 0).2.2,m),10)):=by
           show _=_;rw[b0.out];refine begT_a ?_ hr;rw[<-e4.out,j.out.2.2.2,d4,Aaa (by rw[hr];simp)]
          clear d4;go_wp2_with (go_at_call 109;refine HC.mono ?_;rintro e w8 ⟨rfl,S⟩);go_ret;rw[HX.out];obtain⟨f2,A,-⟩:=j.out.2.1.after S;exact⟨rfl,f2,A.st,A.did⟩
         |true=>
          rw[hr]at HC
          have HX:Hid (∀n',n'=k+1->gM { s with aX:=true } fs L=gM (bM c d n 0).2.1 (bM c d n 0).2.2 (L.drop n')):=λn' e=>by
           rw[e,j.out.2.2.2,d4,Aad hr]
          clear d4;go_wp2_with (go_at_call 109;refine HC.mono ?_;rintro e w8 ⟨rfl,S⟩);obtain⟨f2,A,Zy⟩:=j.out.2.1.after S;have HF:Hid (kK w8 x.heap.size (Z (M ⟨b,off,O⟩) L.length lQ) L/\IC w w8 xb mb Q g.1 (bM c d n 0).2.1 (bM c d n 0).2.2 m (fo,fs.length,fc) f2/\BK (bM c d n 0).2.1 (bM c d n 0).2.2):=⟨kK.did j.out.1 j.out.2.1.st Zy,A,(Gh j.out.2.2.1 n (AaT 0)).1⟩;go_roundw
          case rel=>exact⟨k+1,_,_,f2,by omega,rfl,by go_num,HF.out.1,HF.out.2.1,HF.out.2.2,HX.out _ rfl⟩
          case measure=>simp[intOf];omega
       ·have HX:Hid (gM { s with aX:=true } fs (gW fs a)=(true,c,d)):=by
         show _=_;rw[<-e4.out,j.out.2.2.2,AcB (by omega)];rfl
        have c5:=j.out.2.2.1.len;have HC:=Tk (n:=10+a) j.out.2.1.st (by omega) j.out.2.2.1.dJ j.out.2.2.1.inv d5;have d2:Hid (IC w wr xb mb Q g.1 c d m (fo,fs.length,fc) f1/\BK c d):=⟨j.out.2.1,j.out.2.2.1⟩;clear j;cases hr:(bM c d (10+a) X).1 with
        |false=>
         rw[hr]at HC;have HE:Hid _:=b0.out.trans (begT_b HX.out hr);go_wp2_with (go_at_call 109;refine HC.mono ?_;rintro e w8 ⟨rfl,S⟩);go_ret;rw[HE.out];obtain⟨f2,A,-⟩:=d2.out.1.after S;exact⟨rfl,f2,A.st,A.did⟩
        |true=>
         rw[hr]at HC;have u:=(Gh d2.out.2 (10+a) d5).1;obtain⟨B,Ll⟩:∃B,B=(bM c d (10+a) X).2.1:=⟨_,rfl⟩;obtain⟨N,c6⟩:∃N,N=(bM c d (10+a) X).2.2:=⟨_,rfl⟩;rw[<-Ll,<-c6]at HC u;have t:Hid (B=(bM c d (10+a) X).2.1/\N=(bM c d (10+a) X).2.2):=⟨Ll,c6⟩;clear Ll c6;go_upto_region 23 with(go_at_call 109;refine HC.mono ?_;rintro e w8 ⟨rfl,S⟩);obtain⟨f2,A,-⟩:=d2.out.1.after S;have Ei:=u.len;have d6:=A.Ee.2.2.2.2;obtain⟨y0,y1,y2,y3,y4,-⟩:=aV A.mod;rw[d6]at y4;have c0:=Tk (n:=1) A.st (by omega) u.dJ u.inv YV;have EU:Hid _:=A;clear HC S A y0 y1 y2 y3;cases zH:(bM B N 1 g.1.2.2.2.2).1 with
         |false=>
          rw[zH]at c0
          have HE:Hid (jP (s,fs,m)=(((bM B N 1 g.1.2.2.2.2).2.1,(bM B N 1 g.1.2.2.2.2).2.2,m),10)):=by
           show _=_;rw[b0.out,t.out.1,t.out.2];exact begT_c HX.out hr (by rw[<-t.out.1,<-t.out.2];exact zH)
          go_wp2_with (go_at_call 109;refine c0.mono ?_;rintro e w9 ⟨rfl,S⟩);go_ret;rw[HE.out];obtain⟨f3,sU,-⟩:=EU.out.after S;exact⟨rfl,f3,sU.st,sU.did⟩
         |true=>
          rw[zH]at c0
          have HE:Hid (jP (s,fs,m)=(({ (bM B N 1 g.1.2.2.2.2).2.1 with ro:=false,aY:=a },(bM B N 1 g.1.2.2.2.2).2.2,g.1),0)):=by
           show _=_;rw[b0.out,t.out.1,t.out.2];exact begT_d HX.out hr (by rw[<-t.out.1,<-t.out.2];exact zH)
          go_upto_region 25 with(go_at_call 109;refine c0.mono ?_;rintro e w9 ⟨rfl,S⟩);obtain⟨f3,sU,-⟩:=EU.out.after S;obtain⟨y0,y1,y2,y3,h6,-⟩:=aV sU.mod;obtain⟨R,Iz,-,-⟩:=sU.st;have h9:Hid (∀s3 Eb,s3=(bM B N 1 g.1.2.2.2.2).2.1->Eb=(bM B N 1 g.1.2.2.2.2).2.2->IC w w9 xb mb Q g.1 s3 Eb m (fo,fs.length,fc) f3):=λs3 Eb e1 e2=>by rw[e1,e2];exact sU
          have e5:mb≠xb:=λe=>by subst e;exact bF sU.mod Iz (dQ (by decide))
          have j2:xb≠mb:=λe=>e5 e.symm;have c9:Hid (After w (((((((w9.setCell ⟨xb,11,O⟩ (.bool false)).setCell ⟨xb,12,O⟩ (I V a)).setCell ⟨xb,13,O⟩ Q.1.v).setCell ⟨xb,14,O⟩ Q.2.1.v).setCell ⟨xb,15,O⟩ Q.2.2.1.v).setCell ⟨xb,16,O⟩ (I V Q.2.2.2.1)).setCell ⟨xb,17,O⟩ (I V Q.2.2.2.2)) xb { (bM B N 1 g.1.2.2.2.2).2.1 with ro:=false,aY:=a } (bM B N 1 g.1.2.2.2.2).2.2 g.1 (fo,fs.length,fc)):=sU.close a;generalize (bM B N 1 g.1.2.2.2.2).2.1=s3 at HE c9 Iz;generalize (bM B N 1 g.1.2.2.2.2).2.2=Eb at HE c9;have h7:w9.cell? ⟨xb,11,O⟩=M (.bool s3.ro):=(by simp[World.cell?,Iz,bR]);have i3:w9.cell? ⟨xb,12,O⟩=M (I V s3.aY):=(by simp[World.cell?,Iz,bR]);have i5:w9.frozen? ⟨xb,11,O⟩=false:=(by simp[World.frozen?,Iz,bR]);have i0:w9.frozen? ⟨xb,12,O⟩=false:=(by simp[World.frozen?,Iz,bR]);have Sy:((w9.setCell ⟨xb,11,O⟩ (.bool false)).setCell ⟨xb,12,O⟩ (I V a)).heap[xb]?=M (bR { s3 with ro:=false,aY:=a } f3 R):=Gm a (uW false Iz);have a0:=(Fr.set (w9.setCell ⟨xb,11,O⟩ (.bool false)) ⟨xb,12,O⟩ (I V a)).at ((Fr.set w9 ⟨xb,11,O⟩ (.bool false)).at sU.mod e5) e5;clear sU Iz S c0 h9 EU t u zH hr HX d2 f8 e4 b0 c5 Ei Qm y0 y1 y2 y3 y4 h6 d6 YV HW hB e3 z1 z2 z3 uN f5;go_upto_region 28 with fail;go_upto_region 29 with fail;obtain⟨Pz,d7⟩:∃Pz,Pz=(w9.setCell ⟨xb,11,O⟩ (.bool false)).setCell ⟨xb,12,O⟩ (I V a):=⟨_,rfl⟩;rw[<-d7]at Sy a0 c9 ⊢;clear d7 h7 i3 i5 i0;obtain⟨y0,y1,y2,y3,y4,-⟩:=aV a0;have k7:Pz.cell? ⟨xb,13,O⟩=M R.1.v:=(by simp[World.cell?,Sy,bR]);have j9:Pz.cell? ⟨xb,14,O⟩=M R.2.1.v:=(by simp[World.cell?,Sy,bR]);have k6:Pz.cell? ⟨xb,15,O⟩=M R.2.2.1.v:=(by simp[World.cell?,Sy,bR]);have j5:Pz.cell? ⟨xb,16,O⟩=M (I V R.2.2.2.1):=(by simp[World.cell?,Sy,bR]);have j7:Pz.cell? ⟨xb,17,O⟩=M (I V R.2.2.2.2):=(by simp[World.cell?,Sy,bR]);have i9:Pz.frozen? ⟨xb,13,O⟩=false:=(by simp[World.frozen?,Sy,bR]);have j1:Pz.frozen? ⟨xb,14,O⟩=false:=(by simp[World.frozen?,Sy,bR]);have j4:Pz.frozen? ⟨xb,15,O⟩=false:=(by simp[World.frozen?,Sy,bR]);have i8:Pz.frozen? ⟨xb,16,O⟩=false:=(by simp[World.frozen?,Sy,bR]);have j3:Pz.frozen? ⟨xb,17,O⟩=false:=(by simp[World.frozen?,Sy,bR]);clear Sy a0;obtain⟨⟨D,E,P⟩,⟨b4,b5,b6⟩,⟨b7,b8,b9⟩,Yl,Ib⟩:=Q;simp only[bT.v]at y0 y1 y2 y3 y4 c9;go_wp2_with fail;go_ret;rw[HE.out];exact⟨rfl,c9.out⟩
theorem Zi {f:FuncId}{args:Array Y}{x1:St}(hP:gI w B r)(hB:B<=w.heap.size)(h:∀W,bO W r.xb r.x.1 r.x.2.1 r.x.2.2 r.f->H K f args W λe w'=>e=G (I V code)/\After W w' r.xb x1.1 x1.2.1 x1.2.2 r.f):DocC w B r f args x1 code:=λg j d c W a=>by
 refine(h W ((hP.half c).1.aN a)).mono ?_;rintro e w' ⟨rfl,i⟩;exact⟨rfl,hP.both hB d c (After.trans ((kX.refl g r.xb r.f).aN a) i)⟩
theorem ck1_flg {N:Nat}(h:qB N s fs)(hb:b.size≠0)(ho:s.aX=true)(hr:s.ro=false)(k:Nat):uw (Ga ep b s fs k).2.1 (Ga ep b s fs k).1/\iR s (Ga ep b s fs k).2.1:=by
 match k with
 |0=>exact Ui (fs:=fs) ho hr (OZ h.dJ h.inv 1)
 |1=>exact Ni h (by omega) hb ho hr
 |2=>exact Ui (fs:=fs) ho hr (OZ h.dJ h.inv 3)
 |3=>exact Ui (fs:=fs) ho hr (move_how h.dJ h.inv 3 2)
 |k+4=>exact Ui (fs:=fs) ho hr (cut_h2 h.dJ h.inv (10+ep))
theorem PD (hb:b.size≠0):∀(f k N:Nat) (s:Sc) (fs:List bD),qB N s fs->s.aX=true->s.ro=false->uw (lD ep b f k s fs).2.1 (lD ep b f k s fs).1/\iR s (lD ep b f k s fs).2.1
 |0,k,N,s,fs,h,ho,hr=>⟨Or.inr (Or.inr ⟨by simp[lD],by simp[lD],ho,hr⟩),iR.refl s⟩
 |f+1,k,N,s,fs,h,ho,hr=>by
  obtain⟨h1,h2⟩:=ck1_flg (ep:=ep) h hb ho hr k;unfold lD;split
  ·rename_i a;obtain⟨c,d⟩:=flg_zero h1 a;obtain⟨g1,g2⟩:=PD hb f (k+1) (N+1) _ _ (ck1_ok (ep:=ep) h hb k) c d;exact⟨g1,h2.trans g2⟩
  ·exact⟨h1,h2⟩
theorem Xn {sp dp:Nat}{v:Y}(h:sF W qp db s false fv rs sp lp dp tb m)(hf:uw s code)(hE:sD W v code)(hk:Dk w W X (Ud qp db fv rs sp lp dp tb)):
 H K 48 #[U (M ⟨qp,0,O⟩),v] W λe w'=>e=G (I V code)/\(∃ro,w'.heap[sp]?=M (vP lp dp ro))/\zS w w' qp X (s,plain rs,m):=by
 rcases hf with⟨rfl,d⟩|⟨rfl,d,j⟩|⟨n,i,d,j⟩
 ·refine(Qa h.qu hE).mono ?_;rintro e w' ⟨rfl,g,a⟩;refine⟨rfl,⟨false,a.1.at h.Bg (aZ h.Bg h.qu (by decide))⟩,JF qp db fv rs,Aac ⟨d,db,fv,rs,h.disk.fr a.1 ?_,rfl,g,rfl⟩,hk.trans ⟨a.1.mono ?_,a.2,?_⟩⟩
  ·rintro b c rfl;exact h.disk.other h.qu (by decide) (by decide) (by decide) (by decide) c
  ·rintro b rfl;exact Aac rfl
  ·rintro b (c|c)
   ·exact Aac (Aac c)
   ·exact Aac (Aab (Aac c))
 ·refine(NS h.qu h.Bg hE).mono ?_;rintro e w' ⟨rfl,g,a⟩;refine⟨rfl,⟨true,g⟩,Ud qp db fv rs sp lp dp tb,Aab ⟨d,db,fv,rs,sp,lp,dp,tb,⟨h.disk.fr a.1 ?_,a.1.at h.qu (aZ h.qu h.Bg (by decide)),?_,a.1.at h.wG (aZ h.wG h.Bg (by decide)),h.CX.off a.1 h.Bg (by decide) (by decide) (by decide) (by decide) (by decide)⟩,rfl,rfl⟩,hk.trans ⟨a.1.mono ?_,a.2,λb c=>Aac c⟩⟩
  ·rintro b c rfl;exact h.disk.other h.Bg (by decide) (by decide) (by decide) (by decide) c
  ·rw[j];exact g
  ·rintro b rfl;exact Aab (Aab (Aac rfl))
 ·refine(Wv hE n i).mono ?_;rintro e w' ⟨rfl,k⟩;have:=h.aN k;have o:=this.Bg;rw[<-j]at this;exact⟨rfl,⟨false,o⟩,Ud qp db fv rs sp lp dp tb,Aab ⟨d,db,fv,rs,sp,lp,dp,tb,this,rfl,rfl⟩,hk.aN k⟩
theorem ckpt_ref (h:bO w xb s fs m f)(hG:GS (s,fs,m) D)(hD:D<=4000000000):
 H K 73 #[U (M ⟨xb,0,O⟩)] w λe w'=>e=G (I V (iU (s,fs,m)).2)/\After w w' xb (iU (s,fs,m)).1.1 (iU (s,fs,m)).1.2.1 m f:=by
 have HS:Hid (bO w xb s fs m f):=h;have j:=hG.bk.len;have N:=hG.bk.dJ;have hI:=hG.bk.inv;simp only at j N hI;have gU:=Hg (n:=1) h (by omega) N hI;obtain⟨r,hx,-,-⟩:=h;obtain⟨yN,Yn,e9,-⟩:=gD hx;clear hx;by_cases e1:s.aX=false
 ·have d:Hid (iU (s,fs,m)=((s,fs,m),3)):=by show _=_;unfold iU;rw[Aad e1]
  rw[e1]at yN;clear gU hG j N hI;go_enter func73,ntmps73;go_wp2_with fail;go_ret;rw[d.out];exact⟨rfl,f,HS.out,kX.refl _ _ _⟩
 have sP:s.aX=true:=by simpa using e1
 rw[sP]at yN;by_cases e2:s.ro=true
 ·have d:Hid (iU (s,fs,m)=((s,fs,m),4)):=by show _=_;unfold iU;rw[Aaa e1,Aad e2]
  rw[e2]at Yn;clear gU hG j N hI;go_enter func73,ntmps73;go_wp2_with fail;go_ret;rw[d.out];exact⟨rfl,f,HS.out,kX.refl _ _ _⟩
 have Es:s.ro=false:=by simpa using e2
 rw[Es]at Yn;by_cases e3:999<=s.aY
 ·have d:Hid (iU (s,fs,m)=((s,fs,m),12)):=by show _=_;unfold iU;rw[Aaa e1,Aaa e2,Aad e3]
  have e4:s.aY=999:=by have:=N.rW;omega
  rw[e4]at e9;clear gU hG j N hI;go_enter func73,ntmps73;go_wp2_with fail;go_ret;rw[d.out];exact⟨rfl,f,HS.out,kX.refl _ _ _⟩
 have L:Hid _:=ZK (fs:=fs) (m:=m) sP Es e3;have e4:(s.aY==999)=false:=by rw[Aat];omega
 have e5:¬s.aY=999:=by omega
 have HG:Hid (GS (s,fs,m) D):=hG;have HI:Hid (gH s.room fs):=hI;have HC:Hid (iX s):=N;rcases qZ N hI 1 with⟨s1,A,ef,hd,f3,i7,Iu⟩|⟨s1,A,ef,hd⟩
 ·have b7:s1.aY=s.aY:=hd.1.2.2.2;have Ih:=hG.Ee sP;have e8:=hG.GL sP Es;have tY:=hG.done sP;simp only at Ih e8 tY;have d6:aP A 1=aP fs 1:=Da Iu 1;have j1:A.length<=50:=by omega
  have mh:iX s1:=hd.2.2.2;have c6:gH s1.room A:=f3.room hd.1.2.2.1;have mZ:=gN hI 1;have j8:=N.kZ;have Ur:=Ih.done;have zD:=N.oM;have j9:=N.xW;have j0:=N.zL;have Ju:=Ih.Ym;have Iw:=Ih.KQ;have j6:=Ih.few;obtain⟨Al,Xv⟩:=good_eds Ih;have QK:=(Fz Ih).1;have b2:m.2.1.length<=100:=by omega
  have b4:m.2.2.1.length<=100:=by omega
  have l1:=PE Al b2;have l2:=PE Xv b4;have l3:=wK m.1;rw[ef]at gU;simp only at gU;have HB:Hid (∀S,S=m.2.2.2.1->(⟨#[75]⟩:ByteArray)++strOfNums (iG (s.aY+1))++strOfNums (iG S)++strOfNums (iG ((aP fs 1).size:Int))++⟨(lZ m.1).toArray⟩++⟨(oU m.2.1).toArray⟩++⟨(oU m.2.2.1).toArray⟩=⟨(QX (s.aY+1) m).toArray⟩):=λS e=>ckB_sum _ _ _ m e.symm e8
  have i4:Hid (∀g∈A,g.1≠3):=λg hg e=>by
   have:=Xe Iu (hG.nam sP) g hg;simp only at this;omega
  have d1:qB 50 s1 A:=by
   have:=hG.bk.dok.flush 1;simp only at this;rw[ef]at this;exact this
  clear hG Ih Ju Iw hI N hd Iu i7 f3;go_enter func73,ntmps73;go_upto_region 10 with(go_at_call 111;refine gU.mono ?_;clear gU;rintro e w1 ⟨rfl,f1,vN,zR⟩);have c7:Hid (bO w1 xb s1 A m f1):=vN;have h4:Hid (kX w w1 xb f f1):=zR
  have h0:Hid (∀W,aL w1 W->H K 98 #[U (M ⟨xb,0,O⟩),I V 1] W λe w'=>e=G (I V ((aP fs 1).size:Int))/\w'=W):=λW hW=>by
   obtain⟨r9,Iz,XM,-⟩:=c7.out.aN hW;have:=Bz (n:=1) Iz XM (by omega);rw[d6]at this;exact this
  obtain⟨⟨⟨ta,tn,tc⟩,⟨ua,un,uc⟩,⟨va,vn,vc⟩,S,bf⟩,pJ,-,q1,q2,q3,q4,-⟩:=vN;have b0:=ck_cells pJ;simp only[bT.v]at b0;rw[b7]at b0;have HK:Hid _:=b0;have h7:tn=m.1.length:=q1.2.1;subst h7;have hT:PcOk w1 ta m.1.length tc ⟨(lZ m.1).toArray⟩:=λW hW=>IJ (q1.1.1.below hW) QK (by omega);have hU:EcOk w1 (ua,un,uc) ⟨(oU m.2.1).toArray⟩:=λW hW=>ZJ (x:=(ua,un,uc)) (q2.aN hW) Al b2;have hV:EcOk w1 (va,vn,vc) ⟨(oU m.2.2.1).toArray⟩:=λW hW=>ZJ (x:=(va,vn,vc)) (q3.aN hW) Xv b4;have EU:Hid _:=HB.out S q4;have i9:0<=S:=by simp only at q4;omega
  have i8:S<4294967296:=by simp only at q4;omega
  have c:∀x,(strOfNums (iG x)).size=4:=λx=>rfl;have i2:(⟨(lZ m.1).toArray⟩:ByteArray).size<=40000:=by rw[Xm];omega
  have i5:(⟨(oU m.2.1).toArray⟩:ByteArray).size<=20000004:=l1;have i6:(⟨(oU m.2.2.1).toArray⟩:ByteArray).size<=20000004:=l2;clear q1 q2 q3 q4 pJ b0 Al Xv QK l1 l2 l3 HB yN Yn e9;generalize (⟨(lZ m.1).toArray⟩:ByteArray)=P at*;generalize (⟨(oU m.2.1).toArray⟩:ByteArray)=aH at*;generalize (⟨(oU m.2.2.1).toArray⟩:ByteArray)=aI at*;generalize m.1.length=tn at*;have j2:(0:Int)<=((aP fs 1).size:Int):=by omega
  have j3:((aP fs 1).size:Int)<4294967296:=by omega
  generalize ((aP fs 1).size:Int)=c0 at*;have a1:∀w:F,(Op.stringOp .add ⟨#[75]⟩ (strOfNums (iG (s.aY+1)))).run K w= .ok (.string (⟨#[75]⟩++strOfNums (iG (s.aY+1)))) w:=λw=>AaV w _ _ (by rw[c];decide)
  have a2:∀w:F,(Op.stringOp .add (⟨#[75]⟩++strOfNums (iG (s.aY+1))) (strOfNums (iG S))).run K w= .ok (.string (⟨#[75]⟩++strOfNums (iG (s.aY+1))++strOfNums (iG S))) w:=λw=>AaV w _ _ (by rw[dH,c,c];decide);have a3:∀w:F,(Op.stringOp .add (⟨#[75]⟩++strOfNums (iG (s.aY+1))++strOfNums (iG S)) (strOfNums (iG c0))).run K w= .ok (.string (⟨#[75]⟩++strOfNums (iG (s.aY+1))++strOfNums (iG S)++strOfNums (iG c0))) w:=λw=>AaV w _ _ (by rw[dH,dH,c,c,c];decide);obtain⟨A0,a7⟩:∃A0,A0=(⟨#[75]⟩:ByteArray)++strOfNums (iG (s.aY+1))++strOfNums (iG S)++strOfNums (iG c0):=⟨_,rfl⟩;have c9:A0.size=13:=by rw[a7,dH,dH,dH,c,c,c];rfl
  have a4:∀w:F,(Op.stringOp .add A0 P).run K w= .ok (.string (A0++P)) w:=λw=>AaV w _ _ (by omega);have a5:∀w:F,(Op.stringOp .add (A0++P) aH).run K w= .ok (.string (A0++P++aH)) w:=λw=>AaV w _ _ (by rw[dH];omega);have a6:∀w:F,(Op.stringOp .add (A0++P++aH) aI).run K w= .ok (.string (A0++P++aH++aI)) w:=λw=>AaV w _ _ (by rw[dH,dH];omega);have b9:(A0++P++aH++aI).size<=100000000:=by rw[dH,dH,dH];omega
  rw[<-a7]at a3;rw[<-a7]at EU;have g7:Hid ((A0++P++aH++aI).size<=100000000):=b9;clear a7 c9 i2 i5 i6 c b9;have h6:Hid (IntKind.i64.wrap (s.aY+1)=s.aY+1):=by show _=_;rw[AaC];omega
  have gr:=aL.refl w1;refine Gn (λw'=>w'.cell? ⟨xb,12,O⟩=M (I V s.aY)/\w'.cell? ⟨xb,13,O⟩=M (Z ta tn tc)/\w'.cell? ⟨xb,14,O⟩=M (Z ua un uc)/\w'.cell? ⟨xb,15,O⟩=M (Z va vn vc)/\w'.cell? ⟨xb,16,O⟩=M (I V S)/\aL w1 w') (by kernel_rfl) (by kernel_rfl) (HK.out _ gr.drew) ?_
  repeat (refine⟨?_,⟨by rfl,λw' hS=>?_⟩,?_⟩;rotate_left;(focus (obtain⟨y0,y1,y2,y3,y4,y5⟩:=hS;go_simp;(try rw[h6.out]);first|(refine⟨?_,y0,y1,y2,y3,y4,y5⟩;rfl)|(refine(oH (by omega) (by omega)).mono ?_;rintro e w5 ⟨rfl,lN⟩;refine⟨?_,HK.out _ (y5.more lN)⟩;rfl)|(refine(h0.out _ y5).mono ?_;rintro e w5 ⟨rfl,rfl⟩;refine⟨?_,y0,y1,y2,y3,y4,y5⟩;rfl)|(refine(pc_use (by with_reducible assumption) y5).mono ?_;rintro e w5 ⟨rfl,lN⟩;refine⟨?_,HK.out _ (y5.then lN)⟩;rfl)|(refine(ec_use (by with_reducible assumption) y5).mono ?_;rintro e w5 ⟨rfl,lN⟩;refine⟨?_,HK.out _ (y5.then lN)⟩;rfl)));simp only[Act.put,Aam,Aas,Aar])
  refine OX ?_;intro w2 hS;have Ht:Hid (aL w1 w2):=hS.2.2.2.2.2;clear hS hT hU hV a1 a2 a3 a4 a5 a6 HK h0 gr;rw[EU.out];have h8:(⟨(QX (s.aY+1) m).toArray⟩:ByteArray).size<=100000000:=by rw[<-EU.out];exact g7.out
  have XQ:=EG (w:=w2) (s:=⟨(QX (s.aY+1) m).toArray⟩) (by omega);have d8:(⟨(QX (s.aY+1) m).toArray⟩:ByteArray).data.toList=QX (s.aY+1) m:=rfl;rw[d8]at XQ;have hu:=zZ (QX (s.aY+1) m);unfold dF at hu;obtain⟨d0,WT⟩:=hu;have f0:Hid (_=ckA (s,fs,m)):=ckS_sum (s.aY+1) m;clear EU g7 d8;generalize kU (QX (s.aY+1) m)=cr at*;generalize (⟨(QX (s.aY+1) m).toArray⟩:ByteArray)=B0 at*;have b1:∀w:F,(Op.stringOp .add B0 (strOfNums (iG cr))).run K w= .ok (.string (B0++strOfNums (iG cr))) w:=λw=>AaV w _ _ (by rw[show(strOfNums (iG cr)).size=4 from rfl];omega)
  have a0:Hid ((B0++strOfNums (iG cr)).size<=200000000/\(B0++strOfNums (iG cr)).size≠0):=by
   show _/\_;rw[dH,show(strOfNums (iG cr)).size=4 from rfl];omega
  go_upto_region 12 with(first|(go_at_call 119;refine XQ.mono ?_;clear XQ;rintro e w3 ⟨rfl,rfl⟩)|(go_at_call 116;refine(oH d0 WT).mono ?_;rintro e w4 ⟨rfl,Yf⟩));have g9:Hid (bO w4 xb s1 A m f1):=c7.out.aN (Ht.out.more Yf);have oh:Hid (kX w w4 xb f f1):=h4.out.aN (Ht.out.more Yf);rw[f0.out]at a0 ⊢;have Cr:=a0.out.2;have h5:=a0.out.1;clear Yf Ht c7 h4 b1 h8 a0 f0 d0 WT;have w_:Hid (cO s fs 1=(true,s1,A)):=ef;have HB:Hid (ckA (s,fs,m)=ckA (s,fs,m)):=rfl;generalize j7:ckA (s,fs,m)=B at*;clear HB;have x_:=Tm (n:=3) (b:=B) g9.out (by omega) mh c6 h5;have u:=d1.add (n:=3) (by omega) Cr;rcases Hf mh c6 (n:=3) (b:=B) (by omega) Cr with⟨s2,ea,Zy,-⟩|⟨s2,ea,-⟩|⟨s2,Wm,ea,-⟩
  ·rw[DN i4.out]at ea;rw[ea]at x_ u;simp only at x_ u;have z:Hid (bY s1 A 3 B=(0,s2,jA A (3,B,0))):=ea;have Jr:gK (jA A (3,B,0)) 3=M (3,B,0):=(by rw[Ey c6.sort];exact Aad rfl);have h1:s2.aY=s.aY:=Zy.1.2.2.2.trans b7;clear ea ef;go_upto_region 15 with(go_at_call 100;refine x_.mono ?_;clear x_;rintro e w5 ⟨rfl,f5,d5,d7⟩);have c5:Hid (kX w w5 xb f f5):=oh.out.trans d7;have Lc:=u.len;have o:=Hg (n:=3) d5 (by omega) u.dJ u.inv;have J:=u.flush 3;clear d5 d7 g9 oh;rcases qZ u.dJ u.inv 3 with⟨s3,E,eg,d9,-⟩|⟨s3,E,eg,-⟩
   ·have PG:=DR u.inv Jr eg u.dJ;rw[eg]at o J;simp only at o J PG;have Jz:gK E 3=M (3,B,(B.size:Int)):=(by rw[PG,Ey u.inv.sort];exact Aad rfl);have Q:Hid (cO s2 (jA A (3,B,0)) 3=(true,s3,E)):=eg;have g8:s3.aY=s.aY:=d9.1.2.2.2.trans h1;clear eg PG Jr d9 Zy;go_upto_region 18 with(go_at_call 111;refine o.mono ?_;clear o;rintro e w6 ⟨rfl,f6,e7,e6⟩);have c8:Hid (kX w w6 xb f f6):=c5.out.trans e6;have j4:=J.len;have i:=Ev e7 (by omega) J.inv.ok J.dJ.Ow J.dJ.Ai J.dJ.nV;have d4:=J.move 3 (t:=2) (by omega);clear e7 e6 c5;rcases nO J.dJ J.inv with⟨c,et,f4⟩|⟨c,h2,et,-⟩
    ·rw[et]at i;simp only at i
     have Yt:lW s3 E 3 2=(true,c,qI E (2,B,(B.size:Int)) 3):=by
      unfold lW;rw[Jz];simp only;rw[et,yj J.inv.sort Cr];rfl
     rw[Yt]at d4;simp only at d4;have a8:Hid _:=Yt;have b3:c.aY=s.aY:=f4.1.2.2.2.trans g8;clear et Yt f4;go_upto_region 21 with(go_at_call 120;refine i.mono ?_;clear i;rintro e w7 ⟨rfl,f7,⟨r7,Xz,f2,Ya⟩,AY⟩);have h3:=Ti (f:=(2,B,(B.size:Int))) (but:=3) Xz f2 (by omega);have c2:Hid (kX w w7 xb f f7):=c8.out.trans AY;clear c8 AY;go_upto_region 22 with(go_at_call 121;refine h3.mono ?_;clear h3;rintro e w8 ⟨rfl,f8,w9,rfl,XM,a9,f9⟩);have Iz:=(a9.block xb (aM Xz)).trans Xz;have c3:bO (w9.setCell ⟨xb,3,O⟩ f8.v) xb c (qI E (2,B,(B.size:Int)) 3) m f8:=⟨r7,sW Iz,XM.jM Iz,(Ya.aN a9).jM Iz⟩;have c4:Hid (kX w (w9.setCell ⟨xb,3,O⟩ f8.v) xb f f8):=((c2.out.aN a9).row (λa e=>Aal c2.out.1.1 (f9 a e))).set;clear Xz f2 Ya XM a9 f9 Iz c2;generalize w9.setCell ⟨xb,3,O⟩ f8.v=Pz at*;have j5:=d4.len;have X:=Tk (n:=10+s.aY) (k:=0) c3 (by omega) d4.dJ d4.inv (AaT 0)
     have fw:Pz.cell? ⟨xb,12,O⟩=M (I V s.aY):=by
      obtain⟨r8,h9,-,-⟩:=c3;rw[<-b3];exact(gD h9).2.2.1
     clear c3;cases JY:(bM c (qI E (2,B,(B.size:Int)) 3) (10+s.aY) 0).1 with
     |true=>
      have e0:=(cut_ep (n:=10+s.aY) d4.dJ d4.inv).trans b3;have d:Hid (iU (s,fs,m)=(({ (bM c (qI E (2,B,(B.size:Int)) 3) (10+s.aY) 0).2.1 with aY:=s.aY+1 },(bM c (qI E (2,B,(B.size:Int)) 3) (10+s.aY) 0).2.2,m),0)):=(by show _=_;rw[L.out];simp[lD,Ga,vO,w_.out,z.out,Q.out,a8.out,JY]);rw[JY]at X;generalize bM c (qI E (2,B,(B.size:Int)) 3) (10+s.aY) 0=R at*;clear L JY d4 J u d1 w_ z Q a8 Jz;go_upto_region 25 with(go_at_call 109;refine X.mono ?_;clear X;rintro e t_ ⟨rfl,i3,⟨i1,y,b6,b5⟩,b8⟩);have HA:Hid (After w (t_.setCell ⟨xb,12,O⟩ (I V (s.aY+1))) xb { R.2.1 with aY:=s.aY+1 } R.2.2 m f):=⟨i3,⟨i1,Gm _ y,b6.jM y,b5.jM y⟩,(c4.out.trans b8).set⟩;refine ck_open y ?_;intro c1 cf;rw[e0]at c1;clear y b6 b5 b8 c4 fw;go_wp2_with fail;go_ret;rw[d.out];exact⟨rfl,HA.out⟩
     |false=>
      have d:Hid (iU (s,fs,m)=(((bM c (qI E (2,B,(B.size:Int)) 3) (10+s.aY) 0).2.1,(bM c (qI E (2,B,(B.size:Int)) 3) (10+s.aY) 0).2.2,m),10)):=(by show _=_;rw[L.out];simp[lD,Ga,vO,w_.out,z.out,Q.out,a8.out,JY]);rw[JY]at X;generalize bM c (qI E (2,B,(B.size:Int)) 3) (10+s.aY) 0=R at*;clear L JY d4 J u d1 w_ z Q a8 Jz;go_upto_region 23 with(go_at_call 109;refine X.mono ?_;clear X;rintro e t_ ⟨rfl,hA⟩);go_wp2_with fail;go_ret;rw[d.out];exact⟨rfl,After.trans c4.out hA⟩
    ·rw[et]at i;simp only at i
     have Yt:lW s3 E 3 2=(false,c,h2):=by
      unfold lW;rw[Jz];simp only;rw[et];simp
     have d:Hid (iU (s,fs,m)=((c,h2,m),10)):=(by show _=_;rw[L.out];simp[lD,Ga,vO,w_.out,z.out,Q.out,Yt]);clear et Yt L d4 J u d1 w_ z Q Jz;go_upto_region 19 with(go_at_call 120;refine i.mono ?_;clear i;rintro e w7 ⟨rfl,f7,jl,AY⟩);go_wp2_with fail;go_ret;rw[d.out];exact⟨rfl,f7,jl,c8.out.trans AY⟩
   ·rw[eg]at o;simp only at o;have d:Hid (iU (s,fs,m)=((s3,E,m),10)):=(by show _=_;rw[L.out];simp[lD,Ga,vO,w_.out,z.out,eg]);clear eg L J u d1 w_ z Jr;go_upto_region 16 with(go_at_call 111;refine o.mono ?_;clear o;rintro e w6 ⟨rfl,hA⟩);go_wp2_with fail;go_ret;rw[d.out];exact⟨rfl,After.trans c5.out hA⟩
  ·rw[ea]at x_;simp only at x_;have d:Hid (iU (s,fs,m)=((s2,A,m),9)):=(by show _=_;rw[L.out];simp[lD,Ga,vO,w_.out,ea]);clear ea ef L u d1 w_;go_upto_region 13 with(go_at_call 100;refine x_.mono ?_;clear x_;rintro e w5 ⟨rfl,hA⟩);go_wp2_with fail;go_ret;rw[d.out];exact⟨rfl,After.trans oh.out hA⟩
  ·rw[ea]at x_;simp only at x_;have d:Hid (iU (s,fs,m)=((s2,Wm,m),10)):=(by show _=_;rw[L.out];simp[lD,Ga,vO,w_.out,ea]);clear ea ef L u d1 w_;go_upto_region 13 with(go_at_call 100;refine x_.mono ?_;clear x_;rintro e w5 ⟨rfl,hA⟩);go_wp2_with fail;go_ret;rw[d.out];exact⟨rfl,After.trans oh.out hA⟩
 ·have d:Hid (iU (s,fs,m)=((s1,A,m),10)):=by show _=_;rw[L.out];simp[lD,Ga,vO,ef]
  rw[ef]at gU;simp only at gU;clear ef hd L hG j N hI e3;go_enter func73,ntmps73;go_upto_region 8 with(go_at_call 111;refine gU.mono ?_;clear gU;rintro e w1 ⟨rfl,i0⟩);go_wp2_with fail;go_ret;rw[d.out];exact⟨rfl,i0⟩
section
variable {w w':F} {X:Nat->Prop} {B k:Nat} {ts:List Rec} {ss:List gZ} {bs:List Bool} {D D':Int} {dX eZ vp vf vts' vss' yw vf':Y} {hs gs g:List bT}
theorem Bc.both {w2:F}{r r':gZ}(h:Bc w B eZ ss D)(hr:ss[k]?=M r)(hb:wN w w2 B r r')(hg:GS r'.x D')(hD:D<=D'):Bc w2 B eZ (ss.set k r') D':=by
 obtain⟨A,j,o⟩:=h;have n:=(j r (Aai hr)).1;refine⟨?_,λq a=>?_,pw_set (λ_ _=>Qd.symm) o hr (λi q _ a c=>⟨by rw[hb.sb];exact c.1,λb u z=>?_⟩)⟩
 ·unfold ze;rw[Acg,PZ hr (by rw[hb.sb])];exact bE A hb.fr (λg J _ e E=>(n.ty E).ne e (by decide))
 ·rcases qC a with rfl|⟨i,y,a⟩
  ·exact⟨hb.pair,hg⟩
  ·have d:=j q (Aai a);have c:=ZQ (λ_ _=>Qd.symm) o hr a y;exact⟨d.1.fr hb.fr (λb hb=>(n.ty hb).free) (λe=>(n.ty e).ne d.1.sb (by decide)) c.2,d.2.more hD⟩
 ·rcases hb.yn b z with t|t
  ·exact c.2 b u t
  ·have:=(j q (Aai a)).1.lt u;omega
end
section
variable {w w' w2 w3:F} {B wb k:Nat} {ts:List Rec} {ss:List gZ} {bs:List Bool} {D D':Int} {dX eZ vp vf vm:Y} {hs gs:List bT}
theorem fI.both {r r':gZ}(h:fI w B wb ts ss bs D dX eZ vp vf vm hs gs)(hr:ss[k]?=M r)(hb:wN w w2 B r r')(hg:GS r'.x D')(hD:D<=D'):fI w2 B wb ts (ss.set k r') bs D' dX eZ vp vf vm hs gs/\Below B w w2:=by
 have c:=Aai hr;have n:=(h.sp.2.1 r c).1;have j:∀b,r.aF b->oC w b:=λb hb=>(n.ty hb).freeA;have d:∀b,WX wb dX eZ vp vf vm b->¬r.aF b:=λb e x=>(h.wx_s c).2 b x e;refine⟨⟨hb.fr.at h.wX (d _ (Aac rfl)),h.RA,h.tp.yB hb.fr j (λb e=>d b (Aab (Aac e))) (λt a=>⟨λe=>((h.Xr a c).2 _ e).1 rfl,λe=>((h.Xr a c).2 _ e).2 rfl⟩),h.sp.both hr hb hg hD,λt a q g=>?_,h.lp.yB hb.fr j (λb e=>d b (by simp[WX,e])),h.fp.yB hb.fr j (λb e=>d b (by simp[WX,e])),bE h.ms hb.fr (λb _ e _=>d b (by simp[WX,e]))⟩,?_⟩
 ·rcases qC g with rfl|⟨i,-,g⟩
  ·intro e;rcases hb.yn _ e with e|e
   ·exact h.Dt t a r c e
   ·obtain⟨-,⟨y,z,o,-⟩,-⟩:=h.tp.2.1 t a;have:=aM o;omega
  ·exact h.Dt t a q (Aai g)
 ·refine⟨hb.io.1,hb.io.2.1,hb.io.2.2,hb.fr.1,λb u=>?_⟩;have:=h.lt;exact hb.fr.2 b (by omega) (λe=>by have:=n.yn b e;omega)
end
section
variable {w w':F} {B wb k:Nat} {ts:List Rec} {ss:List gZ} {bs:List Bool} {D:Int} {dX eZ vp vf vm vts' vss' yw vf' Zk:Y} {hs gs g:List bT} {X:Nat->Prop}
theorem fI.image (h:fI w B wb ts ss bs D dX eZ vp vf vm hs gs)(hF:Fr w w' (λb=>b=wb\/vf.ownBlock=M b\/vm.ownBlock=M b))(g1:g.length=4)(g2:w'.heap[wb]?=M (dN dX eZ ((bs.length:Int)+1) vp vf' Zk))(g3:w'.ownsRow B 35 1 vf' (gs++g).length ((gs++g).map bT.v))(g4:kK w' B Zk (PX bs++ [-((bs.length:Int)+1)]))
 (g5:∀x∈g,Xg w' x.1 (List.replicate x.2.1 (uF bs.length))/\x.2.1<=9000):fI w' B wb ts ss (bs++ [false]) D dX eZ vp vf' Zk hs (gs++g):=by
 have a:XT w (λb=>b=wb\/vf.ownBlock=M b\/vm.ownBlock=M b) [33,35,3]:=by
  rintro b (rfl|e|e)
  ·exact⟨_,_,_,h.wX,by decide⟩
  ·obtain⟨c,i⟩:=iH h.fp.1 e;exact⟨_,_,_,i,by decide⟩
  ·obtain⟨c,i⟩:=iH h.ms e;exact⟨_,_,_,i,by decide⟩
 have d:=a.free (by decide);refine⟨by rw[g2,Aah];rfl,h.RA,h.tp.yB hF d (a.row h.tp.1 (by decide)) (λr o=>?_),h.sp.yB hF d (a.row h.sp.1 (by decide)) (λq j=>⟨a.no (h.sp.2.1 q j).1.sb (by decide),λb t=>a.sty ((h.sp.2.1 q j).1.ty t) (by decide)⟩),h.Dt,(h.lp.yB hF d (a.row h.lp.1 (by decide))).skip,h.fp.push hF d g3 g1 g5,by rw[PY];exact g4⟩;obtain⟨k,⟨u,y,n,-⟩,-⟩:=h.tp.2.1 r o;exact⟨a.no k (by decide),a.no n (by decide)⟩
theorem fI.tnew {r:Rec}(h:fI w B wb ts ss bs D dX eZ vp vf vm hs gs)(hF:Fr w w' (λb=>b=wb\/dX.ownBlock=M b))(g2:w'.heap[wb]?=M (dN vts' eZ (bs.length:Int) vp vf vm))(bB:w'.ownsRow B 39 1 vts' (ts.length+1) (VW ts++ [Value.pointer (M ⟨r.sb,0,O⟩)]))(h':yU w' B r)(hs':w.heap.size<=r.sb)(ht:w.heap.size<=r.tb):
 fI w' B wb (ts++ [r]) ss bs D vts' eZ vp vf vm hs gs:=by
 have a:XT w (λb=>b=wb\/dX.ownBlock=M b) [33,39]:=by
  rintro b (rfl|e)
  ·exact⟨_,_,_,h.wX,by decide⟩
  ·obtain⟨c,n⟩:=iH h.tp.1 e;exact⟨_,_,_,n,by decide⟩
 have i:=a.free (by decide);refine⟨g2,h.RA,h.tp.add hF i (λr k=>?_) bB h' hs' ht,h.sp.yB hF i (a.row h.sp.1 (by decide)) (λq g=>⟨a.no (h.sp.2.1 q g).1.sb (by decide),λb u=>a.sty ((h.sp.2.1 q g).1.ty u) (by decide)⟩),λt d q g=>?_,h.lp.yB hF i (a.row h.lp.1 (by decide)),h.fp.yB hF i (a.row h.fp.1 (by decide)),bE h.ms hF (λb _ e _=>a.row h.ms (by decide) b e)⟩
 ·obtain⟨o,⟨y,x,j,-⟩,-⟩:=h.tp.2.1 r k;exact⟨a.no o (by decide),a.no j (by decide)⟩
 ·rcases AaZ.1 d with d|d
  ·exact h.Dt t d q g
  ·simp at d;subst d;intro e;have:=(h.sp.2.1 q g).1.lt e;omega
end
theorem fI.imaged {w1 w':F}{ao:Option Addr}(h:fI w B wb ts ss bs D dX eZ vp vf vm hs gs)(hg:aL w w1)(hao:∀a,ao=M a->w.heap.size<=a.block)(hd:Qk w1 w' B wb bs.length dX vp eZ vf vm (PX bs) gs ao):
 Below B w w'/\∃vf' Zk gs',fI w' B wb ts ss (bs++ [false]) D dX eZ vp vf' Zk hs gs':=by
 obtain⟨vf',Zk,g,g1,g2,g3,g4,g5,g6,c⟩:=hd;have k:=h.lt;refine⟨⟨c.os.trans hg.os,c.tape.trans hg.tape,c.output.trans hg.output,Aal hg.size c.size,λb d=>(c.block b d).trans (hg.block b (by omega))⟩,vf',Zk,_,h.image ⟨Aal hg.size g6.1,λb d i=>(g6.2 b (AaE d hg.size) ?_).trans (hg.block b d)⟩ g1 g2 g3 g4 g5⟩;rintro(e|⟨a,j,rfl⟩|e|e)
 ·exact i (Aac e)
 ·have:=hao a j;omega
 ·exact i (Aab (Aac e))
 ·exact i (Aab (Aab e))
theorem Xt {rs:List gZ}(h:fI w B wb ts rs bs D dX eZ vp vf vm hs gs)(hr:r∈rs)(hc:bs.length<=1200000000000):
 H K 8 #[U (M ⟨wb,0,O⟩),U (M ⟨r.sb,0,O⟩)] w λe w'=>e=G (.bool true)/\Below B w w'/\∃vf' Zk gs',fI w' B wb ts rs (bs++ [false]) D dX eZ vp vf' Zk hs gs':=by
 have A:=(h.sp.2.1 r hr).1;have S:=(h.sp.2.1 r hr).2;have hI:=ximage A.q S.bk;obtain⟨p0,p1⟩:=lM A.sb;obtain⟨rx,hx,hf,-⟩:=A.y;have E:=kG hx;obtain⟨⟨fo,fl,fc⟩,TG⟩:∃f,f=r.f:=⟨_,rfl⟩;rw[<-TG]at hf E;obtain⟨R,Jr,Jz⟩:=hf;simp only at R Jr Jz;subst Jr;simp only[bT.v]at E;have a0:=S.bk.len;have HI:Hid (fI w B wb ts rs bs D dX eZ vp vf vm hs gs):=h;have HF:Hid (Xx w fo r.x.2.1):=R;have a1:=h.lt;generalize r.x.2.1=c at*;clear h hr A S hx R Jz TG;go_enter func8,ntmps8;go_upto_region 2 with(go_at_call 37;refine hI.mono ?_;rintro e j ⟨g,rfl,W,u⟩);have q1:=u.cell p1;have q3:=u.cell E;obtain⟨TH,Kh,z,t,-,IZ,-⟩:=iM.rdh W;rw[AbM]at z;cases z
 have HO:Hid (iM j w.heap.size (Z (M ⟨g,0,O⟩) c.length c.length) (c.map (λf=>(f.1,f.2.1)))):=W;have Ua:Hid (Cn j (M ⟨g,0,O⟩) (c.map (λf=>(f.1,f.2.1)))):=t.1;have BO:=(IZ _ rfl).1;simp only at BO;have zM:Hid (aL w j):=u;have Q:Hid (Xx j fo c):=HF.out.aN u;have jg:((c.length:Int)==(c.length:Int))=true:=by simp
 clear hI p0 p1 E W t IZ u;go_wp2_with fail
 go_loopw [6,7] (λo i wr=> ∃k:Nat,k<=c.length/\o= .bool true/\i=I V (k:Int)/\Hid (aL j wr)) (λ_ i _=>c.length-(intOf i).toNat)
 case atStart=>exact⟨0,Aao _,by simp,rfl,aL.refl j⟩
 case round=>
  obtain⟨k,hk,rfl,rfl,d⟩:=hrel;by_cases bQ:k<c.length
  ·obtain⟨f,J⟩:∃f,c[k]?=M f:=⟨_,Aaf bQ⟩
   obtain⟨L,P⟩:j.cell? ⟨g,k*2,O⟩=M (I V f.1)/\j.cell? ⟨g,k*2+1,O⟩=M (.string f.2.1):=by
    obtain⟨b,off,e,h1,h2⟩:=Ua.out.at (i:=k) (f:=(f.1,f.2.1)) (by simp[J]);cases e
    rw[Ach]at h1 h2;exact⟨h1,h2⟩
   obtain⟨b,off,rfl,N,X,-⟩:=Q.out.at J;have L:=d.out.cell L;have P:=d.out.cell P;have N:=d.out.cell N;have X:=d.out.cell X;have z1:=d.out.cell q1;have z3:=d.out.cell q3;have i1:(0:Int)<=(k:Int):=(by omega);have i2:(k:Int)<(c.length:Int):=(by omega);obtain⟨fn,fb,fz⟩:=f;simp only at L P N X;have b1:(fn==fn)=true:=(by simp);clear J q1 q3;go_upto_region 6 with fail;go_quiet (fail);go_wp2_with fail;go_roundw
   case rel=>exact⟨k+1,by omega,rfl,by go_num,bC d.out _⟩
   case measure=>simp[intOf];omega
  ·have n:Hid (fI wr B wb ts rs bs D dX eZ vp vf vm hs gs):=HI.out.aN (aQ zM.out d.out)
   have HH:=PW (ao:=M ⟨g,0,O⟩) (l:=c.map (λf=>(f.1,f.2.1))) n.out.wX n.out.RA n.out.fp.1 (by rw[n.out.fp.2.1];have:bs.count false<=bs.length:=AcI;omega) (tV bs) n.out.ms (by
    have q:=(HO.out.aN d.out).weak (B:=B) (by omega);rw[AbM];exact q) hc (by rw[AbM];omega)
   rw[AbM]at HH;go_wp2_with (go_at_call 38;refine HH.mono ?_;rintro e w5 ⟨rfl,hd⟩);go_ret;exact⟨rfl,HI.out.imaged (aQ zM.out d.out) (λa e=>by cases e;exact BO) hd⟩
section
variable {w:F} {B wb p:Nat} {ts:List Rec} {rs:List gZ} {bs:List Bool} {D:Int} {dX eZ vp vf vm:Y} {hs gs:List bT} {r:gZ} {ps:Nat->Addr} {a n m k:Int} {s:ByteArray} {fo:Option Addr} {fl fc:Nat}
theorem gX.both {w0 w':F}(h:fI w B wb ts rs bs D dX eZ vp vf vm hs gs){r':gZ}(hr:rs[p]?=M r)(hg:aL w w0)(hb:wN w0 w' B r r')(hG:GS r'.x (D+1)):gX w w' B wb ts.length rs.length (bs.length+1) (D+1):=by
 have c:=h.aN hg;obtain⟨d,a⟩:=c.both hr hb hG (by omega);have:=h.lt;have e:=hg.size;exact⟨⟨a.os.trans hg.os,a.tape.trans hg.tape,a.output.trans hg.output,Aal hg.size a.size,λb hb=>(a.block b hb).trans (hg.block b (by omega))⟩,ts,_,bs,⟨_,_,_,_,_,_,_,d⟩,rfl,by simp,by omega⟩
theorem qD (h:fI w B wb ts rs bs D dX eZ vp vf vm hs gs)(hr:rs[p]?=M r){f:FuncId}{args:Array Y}{x1:St}(hG:GS x1 (D+1))
 (hc:∀W,gI W B r->aL w W->H K f args W λe w'=>e=G (.bool true)/\∃w0 r',aL W w0/\wN w0 w' B r r'/\r'.x=x1):sH w B wb ts.length rs.length bs.length D f args:=λW a=>by
 refine(hc W ((h.pair r (Aai hr)).aN a) a).mono ?_;rintro e w' ⟨rfl,w0,r',g0,c,rfl⟩;exact⟨rfl,gX.both h hr (aQ a g0) c hG⟩
theorem QF (h:fI w B wb ts rs bs D dX eZ vp vf vm hs gs)(hr:rs[p]?=M r)(hc:bs.length<=1200000000000):
 sH w B wb ts.length rs.length bs.length D 8 #[U (M ⟨wb,0,O⟩),U (M ⟨r.sb,0,O⟩)]:=λW a=>by
 refine(Xt (h.aN a) (Aai hr) hc).mono ?_;rintro e n ⟨rfl,c,j,k,g,d⟩;have:=h.lt;exact⟨rfl,⟨c.os.trans a.os,c.tape.trans a.tape,c.output.trans a.output,Aal a.size c.size,λb i=>(c.block b i).trans (a.block b (by omega))⟩,ts,rs,_,⟨_,_,_,_,_,_,_,d.more (by omega)⟩,rfl,rfl,by simp⟩
theorem WB {l:List AF}(h:fI w B wb ts rs bs D dX eZ vp vf vm hs gs)(hr:rs[p]?=M r)(hf:wO w B fo fl fc l):
 sH w B wb ts.length rs.length bs.length D 24 #[U (M ⟨r.sb,0,O⟩),Z fo fl fc]:=λW a=>by
 have c:=h.dJ r (Aai hr);have d:=(h.pair r (Aai hr)).aN a;refine(load_any d (oV h a) c (hf.rd.aN a) hf.len hf.nil hf.wX hf.few hf.sz).mono ?_;rintro e j ⟨rfl,k,g,i⟩;exact⟨rfl,gX.both h hr a g (by rw[i];exact(gs_load c hf.num).more (by omega))⟩
end
theorem ZR {i:Nat}{rs:List Rec}{r:Rec}(h:IA w B wb rs ss bs D)(hc:bs.length<=1200000000000)(hr:rs[i]?=M r){n m k:Int}{s:ByteArray}{fo:Option Addr}{fl fc:Nat}:
 H K 6 #[U (M ⟨wb,0,O⟩),U (M ⟨r.sb,0,O⟩),pY 5 a n m k s fo fl fc] w λe w'=>e=G (.bool true)/\sG w w' B wb rs.length ss.length (bs.length+1) D:=by
 have t:=h.rec hr;have bQ:=h.lt;obtain⟨dX,eZ,vp,vf,vm,hs,gs,j⟩:=h;have P:=j.wX;have S:=j.RA;have h6:=j.lp.1;have X:hs.length<=4*bs.length:=by rw[j.lp.2.1];have:bs.count true<=bs.length:=AcI;omega
 have h9:=j.ms;have h3:=True.intro;have h4:=True.intro;have h5:=True.intro;have h8:=True.intro;have H0:Hid _:=j;clear j;obtain⟨u,x,y,-,-⟩:=t;obtain⟨sb,tb,ao,ca,l⟩:=r;simp only[Rec.sb,Rec.tb,Rec.l,Rec.v]at u x y ⊢;obtain⟨c0,c1,-⟩:=pair_cells u;have Wj:=aM u;have a1:w.heap.size≠sb:=by omega
 obtain⟨kD,Q⟩:=x.ok;have W:Hid _:=u;have HH:Hid _:=P;clear u P;unfold pY;go_enter func6,ntmps6;go_wp2_with fail;refine(El (x.below (aO _ _))).mono ?_;rintro e R ⟨g,rfl,E,hg,eO⟩;have A:=aQ (aO _ _) eO;have a0:=Aay A c1;have o:=y.1.below A;simp only[AaD]at hg;go_wp2_with fail;refine(Ul (vI.own E) o rfl rfl (by omega)).mono ?_;rintro e w2 ⟨rfl,N,rfl⟩;have d:=bC A N;have c:=Fr.bK d (λ_=>False);go_wp2_with fail;refine(PU (c.at HH.out id) S (bE h6 c (λ_ _ _ _=>id)) X (tV bs) (bE h9 c (λ_ _ _ _=>id)) (fH.weak E (by omega)) hc (by omega)).mono ?_;rintro e w3 ⟨rfl,hD⟩;go_wp2_with fail;go_ret;refine⟨rfl,?_⟩
 have J:∀a,(M (⟨g,0,O⟩:Addr))=M a->∃z,(R.drewN N).heap[a.block]?=M (C z 50 (0,0)):=λa e=>by
  obtain⟨z,L,-⟩:=fH.typed E a e;exact⟨z,L⟩
 exact fI.owned (r:=(sb,tb,ao,ca,l)) (l:=l) H0.out hr (Fr.bK d _) ⟨d.os,d.tape,d.output,d.size,λb hb=>d.block b (by omega)⟩ (c.at W.out id) (x.below d) (y.fr c (λ_ _ _=>id))
  (λa e=>by cases e;simpa using by omega) J (λa ha g' sN=>by
   cases sN
   obtain⟨z,L⟩:=y.2 a ha;have:=aM L;simp only;omega) hD
theorem WG {wa:F}{n8 c8:Nat}{rs:List Rec}{x8:Option Addr}(h:fI w B wb rs ss bs D dX eZ vp vf vm hs gs)
 (ba:Below w.heap.size w wa)(QA:cK wa tb [])(htb:w.heap.size<=tb)
 (hg:((wa.alloc (lU tb (Z O 0 0))).alloc (C #[U (M ⟨wa.heap.size,0,O⟩)] 39)).grownBy w5 dX.ownBlock)(hw5:w5.heap[wb]?=M (dN dX eZ (bs.length:Int) vp vf vm))
 (bB:w5.ownsRow B 39 1 (Z x8 n8 c8) (rs.length+1) (rs.map (λr:Rec=>Value.pointer (M ⟨r.sb,0,O⟩))++ [Value.pointer (M ⟨wa.heap.size,0,O⟩)])):
 gX w (w5.setCell ⟨wb,0,O⟩ (Z x8 n8 c8)) B wb (rs.length+1) ss.length (bs.length+1) D:=by
 have Q:=h.wX;have N:=h.RA;have y:=h.tp.1;have bQ:=aM Q;have W:=ba.size;have a:Below w.heap.size w ((wa.alloc (lU tb (Z O 0 0))).alloc (C #[U (M ⟨wa.heap.size,0,O⟩)] 39)):=aQ ba (aQ (aO _ _) (aO _ _))
 have J:((wa.alloc (lU tb (Z O 0 0))).alloc (C #[U (M ⟨wa.heap.size,0,O⟩)] 39)).heap[wa.heap.size]?=M (lU tb (Z O 0 0)):=by
  rw[Abg _ _ _ (by simp)];exact Aag wa _
 have z:=QA.below (aQ (aO wa (lU tb (Z O 0 0))) (aO _ (C #[U (M ⟨wa.heap.size,0,O⟩)] 39)))
 have c:∀b (d:Array Y) (t:TypeId) (f:Nat×Nat),t≠39->((wa.alloc (lU tb (Z O 0 0))).alloc (C #[U (M ⟨wa.heap.size,0,O⟩)] 39)).heap[b]?=M (C d t f)->¬dX.ownBlock=M b:=by
  intro b d t f e n;exact qH (bE y (Fr.bK a (λ_=>False)) (λ_ _ _ _=>id)) n (AbX e)
 have o:=Fr.iA hg;have A:=o.at J (c _ _ _ _ (by decide) J);have u:=z;obtain⟨y1,y2,P,-⟩:=u;have E:=z.fr o (c _ _ _ _ (by decide) P) (λb S X p h l e=>c _ _ _ _ (by decide) e);have j:=Fr.set w5 ⟨wb,0,O⟩ (Z x8 n8 c8);have i:∀b (d:Array Y) (t:TypeId) (f:Nat×Nat),t≠33->w5.heap[b]?=M (C d t f)->¬(b=wb):=λb d t f e n R=>by subst R;exact bF n hw5 (dQ e)
 have x:=E;obtain⟨u1,u2,u3,-⟩:=x;have L:B<=w.heap.size:=by omega
 refine⟨?_,_,ss,bs,⟨_,_,_,_,_,_,_,h.tnew (r:=(wa.heap.size,tb,O,0,[])) ?_ (yJ hw5 _).1 (bE bB j (λg d _ e=>i _ _ _ _ (by decide) e)) ⟨j.at A (i _ _ _ _ (by decide) A),E.fr j (i _ _ _ _ (by decide) u3) (λb S X p h l e=>i _ _ _ _ (by decide) e),nK.nil _,?_,?_⟩ W htb⟩,by simp,rfl,by omega⟩
 ·have c1:Below B w ((wa.alloc (lU tb (Z O 0 0))).alloc (C #[U (M ⟨wa.heap.size,0,O⟩)] 39)):=⟨a.os,a.tape,a.output,a.size,λb n=>a.block b (by omega)⟩;exact(c1.grown hg (by have:=a.size;omega) (λk e=>(AaB y k e).1)).setCell N _
 ·exact(Fr.bK a _).trans ((o.mono (λb e=>Aab e)).trans (j.mono (λb e=>Aac e)))
 ·show B<=wa.heap.size;omega
 ·show B<=tb;omega
end Go.Proofs.YtfplgfodoiiobabGreatDoor
