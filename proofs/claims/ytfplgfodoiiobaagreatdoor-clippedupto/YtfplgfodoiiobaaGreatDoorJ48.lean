/- KpO, KwV, KwW, KxM0 (joined). -/
import Derived.Test.YtfplgfodoiiobaaGreatDoorJ47
open Option renaming none→O,some→M
open Go.Value renaming int→I,slice→Z,pointer→U
open Go.IntKind renaming i64→V
open Go.Obj renaming cells→C
open Go.Ending renaming returned→G
open Go renaming World→F,Value→Y,Calls→H
open Go.Proofs.Tryz renaming prog→K
namespace Go.Proofs.YtfplgfodoiiobaaGreatDoor
set_option maxHeartbeats 2000000
set_option maxRecDepth 100000
open Go.RowKit
variable {g:Gm}{w W w' W':F}{k d qp T:Nat}{X:Nat->Prop}{ps:Nat->Addr}{s:Sc}{fs:List bF}{m:bT}{t:Tm}{y:St}{a:Int}{b c e:Y}
theorem LP:∀(l:List Int) (s:Sc) (fs:List bF),Xx s (l.length:Int)->∃s',fF s fs l=((fF (aY s) fs l).1,s',(fF (aY s) fs l).2.2)/\Lk s (fF (aY s) fs l).2.1 s' (l.length:Int)
 | [],s,fs,_=>⟨s,_root_.rfl,Lk.rfl s⟩
 |n::l,s,fs,h=>by
  simp only[List.length_cons]at h;obtain⟨s1,e1,l1⟩:=Oh (s:=s) (fs:=fs) (fun q=>by have:=h q;omega) n 0;unfold fF;simp only;rw[e1];generalize bR (aY s) fs n 0=q at*;obtain⟨q1,q2,q3⟩:=q;simp only at l1 ⊢;have hc:q2=aY s1:=l1.calm.symm;subst hc;cases q1 with
  |true=>
   simp only[if_true];obtain⟨s2,e2,l2⟩:=LP l s1 q3 (fun q=>by have:=l1.RD h q;omega);rw[e2];exact⟨s2,_root_.rfl,(l1.trans l2).le (by simp only[List.length_cons];omega)⟩
  |false=>
   simp only[Bool.false_eq_true,if_false];exact⟨s1,_root_.rfl,l1.le (by simp only[List.length_cons];omega)⟩
theorem ZN {em:Int×bT}(hc:jE (aL fs 2) ((aL fs 1).size:Int) s.depth.toNat=M em)(h:Xx s (((iT fs em.1).length:Int)+2)):∃s',jM (s,fs,m)=((s',(jM (aY s,fs,m)).1.2),(jM (aY s,fs,m)).2)/\Lk s (jM (aY s,fs,m)).1.1 s' (((iT fs em.1).length:Int)+2):=by
 unfold jM;simp only;by_cases ho:s.aS=true
 ·rw[if_pos ho,if_pos (show(aY s).aS=true from ho)];exact⟨s,_root_.rfl,(Lk.rfl s).le (by omega)⟩
 ·rw[if_neg ho,if_neg (show ¬(aY s).aS=true from ho)];have ed:(aY s).depth=s.depth:=_root_.rfl;rw[ed,hc];simp only;generalize lZ ((aL fs 1).size:Int) s.depth.toNat ((aL fs (10+em.1)).data.toList.length / 22+1) em.2 (aL fs (10+em.1)).data.toList=g;obtain⟨s0,Tv⟩:∃s0:Sc,s0= { s with aS:=true }:=⟨_,_root_.rfl⟩;have hk0:({ most:=(aY s).most,depth:=s.depth,room:=(aY s).room,eG:=(aY s).eG,after:=(aY s).after,one:=(aY s).one,rest:=(aY s).rest,refusing:=(aY s).refusing,left:=(aY s).left,aS:=true,ro:=(aY s).ro,aV:=(aY s).aV }:Sc)=aY s0:=by rw[Tv];rfl
  have kT:Xx s0 (((iT fs em.1).length:Int)+2):=by rw[Tv];exact h
  have hL:∀ {c s':Sc} {n:Int},Lk s0 c s' n->Lk s c s' n:=fun {c s' n} q=>by rw[Tv]at q;exact⟨q.calm,q.arm,q.lo,q.hi,q.un⟩
  rw[<-Tv,hk0];obtain⟨s1,e1,l1⟩:=LP (iT fs em.1) s0 fs (fun q=>by have:=kT q;omega);rw[e1];generalize fF (aY s0) fs (iT fs em.1)=q at*;obtain⟨q1,q2,q3⟩:=q;simp only at l1 ⊢;have Ig:q2=aY s1:=l1.calm.symm;subst Ig;by_cases hq:q1=false
  ·rw[if_pos hq,if_pos hq];exact⟨s1,_root_.rfl,hL (l1.le (by omega))⟩
  ·rw[if_neg hq,if_neg hq];have bX:=l1.RD kT;obtain⟨s2,e2,l2⟩:=Oh (s:=s1) (fs:=q3) (fun q=>by have:=bX q;omega) (10+em.1) ((22*g.2:Nat):Int);rw[e2];generalize bR (aY s1) q3 (10+em.1) ((22*g.2:Nat):Int)=r at*;obtain⟨r1,r2,r3⟩:=r;simp only at l2 ⊢;have Oo:r2=aY s2:=l2.calm.symm;subst Oo;have l12:=l1.trans l2;by_cases hr:r1=false
   ·rw[if_pos hr,if_pos hr];exact⟨s2,_root_.rfl,hL (l12.le (by omega))⟩
   ·rw[if_neg hr,if_neg hr];have fP:=l2.RD bX;obtain⟨s3,e3,l3⟩:=Oh (s:=s2) (fs:=r3) (fun q=>by have:=fP q;omega) 1 g.1.2.2.2.2;rw[e3];generalize bR (aY s2) r3 1 g.1.2.2.2.2=u at*;obtain⟨u1,u2,u3⟩:=u;simp only at l3 ⊢;have mr:u2=aY s3:=l3.calm.symm;subst mr;have l13:=l12.trans l3;by_cases hu:u1=false
    ·rw[if_pos hu,if_pos hu];exact⟨s3,_root_.rfl,hL (l13.le (by omega))⟩
    ·rw[if_neg hu,if_neg hu];have l14:Lk s (aY s3) s3 (((iT fs em.1).length:Int)+2):=hL (l13.le (by omega));exact⟨{ s3 with ro:=false,aV:=em.1 },_root_.rfl,_root_.rfl,l14.arm,l14.lo,l14.hi,l14.un⟩
def ZO (w:F)(ps:Nat->Addr)(qp d:Nat)(g:Gm)(k:Nat)(a:Int)(X:Nat->Prop):Prop:=Gl w ps/\∃s fs m t,pF w qp { s with refusing:=true,left:=a } fs m X/\nG (aY s,fs,m) g k t/\s.depth=(d:Int)/\Hy s k
theorem ZO.ty (h:ZO w ps qp d g k a X){b:Nat}(hb:X b):lD w b:=by
 obtain⟨-,s,fs,m,t,h2,-⟩:=h;exact h2.ty hb
def Nc (w:F)(ps:Nat->Addr)(qp d:Nat)(g:Gm)(k:Nat)(o:Bool)(X:Nat->Prop):Prop:=Gl w ps/\∃s fs m y t,pF w qp { s with aS:=o } fs m X/\Roz (aY s,fs,m) y g k t/\s.depth=(d:Int)/\Hy s k
theorem Nc.aM {o:Bool}(h:Nc w ps qp d g k o X)(hg:aJ w w'):Nc w' ps qp d g k o X:=by
 obtain⟨h1,s,fs,m,y,t,h2,h3⟩:=h;exact⟨h1.aM hg,s,fs,m,y,t,h2.aM hg,h3⟩
theorem Nc.ty {o:Bool}(h:Nc w ps qp d g k o X){b:Nat}(hb:X b):lD w b:=by
 obtain⟨-,s,fs,m,y,t,h2,-⟩:=h;exact h2.ty hb
def BZ (w w':F)(ps:Nat->Addr)(qp d:Nat)(X:Nat->Prop)(g:Gm)(k:Nat)(o:Bool):Prop:=∃X',Nc w' ps qp d g k o X'/\Dk w w' X X'
theorem r_refuse (h:rO w ps qp d g k X)(ha:0<=a):
 H K 27 #[U (M ⟨qp,0,O⟩),I V a] w fun e w'=>e=G (I V 0)/\∃X',ZO w' ps qp d g k a X'/\Dk w w' X X':=by
 obtain⟨hG,s,fs,m,t,hQ,hS,hd,hW⟩:=h;have e:rT s a=({ s with refusing:=true,left:=a },0):=by unfold rT;rw[if_neg (by omega)]
 refine(xrefuse hQ).mono ?_;rintro e' w' ⟨rfl,X',h1,h2⟩;rw[e]at h1 ⊢;exact⟨rfl,X',⟨hG.q h2.1 (fun b hb=>hQ.ty hb),s,fs,m,t,h1,hS,hd,hW⟩,h2⟩
theorem Sr {pos:Int}{text:ByteArray}(h:ZO w ps qp d g k a X)(hk:k<=399)(ha:a=0\/a=1)(hp:¬(pos<0\/(g.1.length:Int)<pos))(ht:¬(text.size<1\/200<text.size))(hl:¬5000<(g.1.length:Int)+(text.size:Int)):
 H K 28 #[U (M ⟨qp,0,O⟩),I V pos,.string text] w fun e w'=>e=G (I V 9)/\BZ w w' ps qp d X g (k+1) true:=by
 obtain⟨hG,s,fs,m,t,hQ,hS,hd,hW⟩:=h;obtain⟨r,hr⟩:∃r:Sc,r= { s with refusing:=true,left:=a }:=⟨_,rfl⟩;have hc:aY r= { aY s with refusing:=true,left:=a }:=by rw[hr];rfl
 have hbr:Xx r 2:=by rw[hr];exact hW.has (by omega) (by omega)
 have Cv:fU r:=by rw[hr];exact { hW.bK with zM:=by simp only;omega,Cb:=by simp only;omega }
 have FK:0<=r.after:=by rw[hr];exact hW.qC
 have YL:GS (aY r,fs,m) (k:Int):=by
  have:=Xq (a:=a) hS.snd.gs (by omega);unfold rT at this;rw[if_neg (by omega)]at this;rw[hc];exact this
 obtain⟨c1,c2⟩:=ref_act hS (by omega) ha hp ht hl;rw[<-hc]at c1 c2;rw[<-hr]at hQ;refine(BF (n:=0) hQ hG (jK YL Cv FK) (by omega) (by omega)).mono ?_;rintro e w' ⟨rfl,hq⟩;obtain⟨s',e1,hl'⟩:=qJ (fs:=fs) (m:=m) hbr 73 pos 0 text;rw[e1]at hq ⊢;simp only;rw[c1];obtain⟨X',h1,h2⟩:=hq;generalize (eZ (aY r,fs,m) 73 pos 0 text).1=y at*;obtain⟨y1,y2,y3⟩:=y;have hy:y1=aY s':=hl'.calm.symm;subst hy;have ho:s'.aS=true:=c2.op
 have rC:Hy s' (k+1):=by
  have:Hy r k:=⟨Cv,FK,by rw[hr];exact hW.RD⟩;exact this.lk hl' (by omega) (by omega) c2.gs.bk.bK
 refine⟨rfl,X',⟨hG.q h2.1 (fun b hb=>hQ.ty hb),s',y2,y3,_,t,?_,⟨c2.Ep.more (by omega),c2.gs.more (by omega),c2.op,c2.ro,c2.arm,c2.ref,c2.most,c2.room,c2.de,c2.ep,c2.YQ,c2.b1,c2.b2,c2.bj⟩,?_,rC⟩,h2⟩
 ·have:({ s' with aS:=true }:Sc)=s':=by rw[<-ho]
  rw[this];exact h1
 ·have:=c2.de;exact this.trans hd
theorem Bp (h:Roz (aY s,fs,m) y g k t):({ s with aS:=true }:Sc)=s:=by
 have ho:s.aS=true:=h.op;rw[<-ho]
theorem VR {k':Nat}(h:Roz (aY s,fs,m) y g k t)(hW:Hy s k'):GS (s,fs,m) ((k+1:Nat):Int):=jK h.gs hW.bK hW.qC
theorem CB (hG:Gl w ps)(hQ:pF w qp s fs m X)(hR:Roz (aY s,fs,m) y g k t)(hd:s.depth=(d:Int))(hW:Hy s k)(hq:vV w w' qp X (s,fs,m)):BZ w w' ps qp d X g k true:=by
 obtain⟨X',h1,h2⟩:=hq;exact⟨X',⟨hG.q h2.1 (fun b hb=>hQ.ty hb),s,fs,m,y,t,by rw[Bp hR];exact h1,hR,hd,hW⟩,h2⟩
theorem RU (h:Roz (aY s,fs,m) y g k t):(∀kind pos n text,eZ (s,fs,m) kind pos n text=((s,fs,m),4))/\iG (s,fs,m)=((s,fs,m),4)/\gG (s,fs,m)=((s,fs,m),4):=by
 have h1:s.aS=true:=h.op;have h2:s.ro=true:=h.ro;refine⟨fun kind pos n text=>?_,?_,?_⟩
 ·unfold eZ;simp only;rw[if_neg (by simp[h1]),if_pos h2]
 ·unfold iG;simp only;rw[if_neg (by simp[h1]),if_pos h2]
 ·unfold gG;simp only;rw[if_neg (by simp[h1]),if_pos h2]
theorem RV (h:Nc w ps qp d g k true X)(hk:k<=400):
 H K 29 #[U (M ⟨qp,0,O⟩)] w fun e w'=>e=G (I V 4)/\BZ w w' ps qp d X g k true:=by
 obtain⟨hG,s,fs,m,y,t,hQ,hR,hd,hW⟩:=h;rw[Bp hR]at hQ;refine(w_ (pos:=0) (n:=0) hQ hG (VR hR hW) (by omega)).mono ?_;rintro e w' ⟨rfl,hq⟩;rw[(RU hR).1]at hq ⊢;exact⟨rfl,CB hG hQ hR hd hW hq⟩
theorem RX (h:Nc w ps qp d g k true X):
 H K 30 #[U (M ⟨qp,0,O⟩)] w fun e w'=>e=G (I V 4)/\BZ w w' ps qp d X g k true:=by
 obtain⟨hG,s,fs,m,y,t,hQ,hR,hd,hW⟩:=h;rw[Bp hR]at hQ;refine(qsync hQ hG (VR hR hW)).mono ?_;rintro e w' ⟨rfl,hq⟩;rw[(RU hR).2.1]at hq ⊢;exact⟨rfl,CB hG hQ hR hd hW hq⟩
theorem RY (h:Nc w ps qp d g k true X)(hk:k<=400):
 H K 31 #[U (M ⟨qp,0,O⟩)] w fun e w'=>e=G (I V 4)/\BZ w w' ps qp d X g k true:=by
 obtain⟨hG,s,fs,m,y,t,hQ,hR,hd,hW⟩:=h;rw[Bp hR]at hQ;refine(z_ hQ hG (VR hR hW) (by omega)).mono ?_;rintro e w' ⟨rfl,hq⟩;rw[(RU hR).2.2]at hq ⊢;exact⟨rfl,CB hG hQ hR hd hW hq⟩
theorem CF (h:Nc w ps qp d g k true X):
 H K 32 #[U (M ⟨qp,0,O⟩)] w fun e w'=>e=G (I V 0)/\BZ w w' ps qp d X g k false:=by
 obtain⟨hG,s,fs,m,y,t,hQ,hR,hd,hW⟩:=h;rw[Bp hR]at hQ;have ho:s.aS=true:=hR.op;have e:jW s=({ s with aS:=false },0):=by unfold jW;rw[if_pos ho]
 refine(BJ hQ).mono ?_;rintro e' w' ⟨rfl,X',h1,h2⟩;rw[e]at h1 ⊢;exact⟨rfl,X',⟨hG.q h2.1 (fun b hb=>hQ.ty hb),s,fs,m,y,t,h1,hR,hd,hW⟩,h2⟩
theorem Hy.lk2 {s' c:Sc}{j:Nat}{n:Int}(h:Hy s k)(hl:Lk s c s' n)(hk:k+j<=449)(hn:n<=5*(j:Int))(hg:fU c):Hy s' (k+j):=
 ⟨VF hl hg h.bK,KJ hl (fun q=>by have:=h.RD q;omega) h.qC,fun q=>by have:=h.RD (by rw[<-hl.arm];exact q);have:=hl.lo;omega⟩
theorem RZ (h:Nc w ps qp d g k false X)(hk:k<=399):
 H K 24 #[U (M ⟨qp,0,O⟩)] w fun e w'=>e=G (I V 0)/\BM w w' ps qp d X g (k+2):=by
 obtain⟨hG,s,fs,m,y,t,hQ,hR,hd,hW⟩:=h;obtain⟨r,hr⟩:∃r:Sc,r= { s with aS:=false }:=⟨_,rfl⟩;have hWr:Hy r k:=by rw[hr];exact⟨{ hW.bK with },hW.qC,hW.RD⟩
 have hB:BK r fs:=⟨hWr.bK,hWr.qC,by rw[hr];exact hR.gs.bk.inv,hR.gs.bk.len⟩;obtain⟨⟨m0,hc⟩,z,hz,hS,hzd⟩:=roz_open hR;have Ig:jE (aL fs 2) ((aL fs 1).size:Int) r.depth.toNat=M (s.aV,m0):=by rw[hr];exact hc
 have h4:(iT fs s.aV).length<=4:=by
  have:=YR hR.gs.bk.inv.sort.1 (hR.gs.QX hR.op);refine Nat.le_trans (List.length_filter_le _ _) ?_;rw[List.length_map];exact this
 have hb:Xx r (((iT fs s.aV).length:Int)+2):=fun q=>by have:=hWr.RD q;omega
 obtain⟨s',e1,hl⟩:=ZN (m:=m) Ig hb;have hzc:jM (aY r,fs,m)=(z,0):=by rw[hr];exact hz
 rw[hzc]at e1 hl;simp only at e1 hl;rw[<-hr]at hQ;refine(KL (D:=0) hQ hG (GS.shut hB (by rw[hr]))).mono ?_;rintro e w' ⟨rfl,hq⟩;rw[e1]at hq ⊢;have hcz:aY s'=z.1:=hl.calm;refine⟨rfl,Oi hG hQ hq ⟨t,?_⟩ ?_ (hWr.lk2 hl (by omega) (by omega) hS.snd.gs.bk.bK)⟩
 ·simp only;rw[hcz];exact hS.more (by omega)
 ·show(aY s').depth=_;rw[hcz,hzd];exact hR.de.symm.trans hd
theorem CG {v:Y}(h:Nc w ps qp d g k true X)(hm:eU w v g d):
 H K 26 #[U (M ⟨qp,0,O⟩),v] w fun e w'=>e=G (.bool true)/\aJ w w':=by
 obtain⟨hG,s,fs,m,y,t,hQ,hR,hd,hW⟩:=h;rw[Bp hR]at hQ;have ho:s.aS=true:=hR.op;have hmy:m=y.2.2:=hR.YQ;have hlen:=hR.Ep.len;have h5:=hR.Ep.snd.bK.long;refine Xz (fun W rC=>?_) (fun W rC=>?_) (fun W rC=>?_) hm (by omega)
 ·have:=VH (hQ.aM rC);rw[ho]at this;simp only[if_true]at this;rw[hlen,<-hmy];exact this
 ·have:=xdone (hQ.aM rC);rw[ho]at this;simp only[if_true]at this;rw[hR.Ep.done,<-hmy];exact this
 ·refine(xread (hQ.aM rC) (VR hR hW) (by omega)).mono ?_;rintro e w' ⟨rfl,hg⟩;refine⟨?_,hg⟩;obtain⟨e1,e2⟩:=roz_read hR;have er:mX (s,fs,m) 0 (g.1.length:Int)=mX (aY s,fs,m) 0 (g.1.length:Int):=rfl;have e3:(mX (aY s,fs,m) 0 (g.1.length:Int)).1=aR g.1:=pW (by rw[e2];simp[aR]);rw[er,e1,e3]
structure Mp (w W:F)(d:Nat)(g:Gm)(R:Nat)(a b c e:Y)(X:Nat->Prop):Prop where
 md:eU W (.agg #[a,b,c,e]) g d
 bl:W.heap[R]?=M (C #[a,b,c,e] 36 (0,0))
 nx:∀b,X b->w.heap.size<=b
 gr:aJ w W
theorem Mp.aM {R:Nat}{a:Y}(h:Mp w W d g R a b c e X)(hg:aJ W W'):Mp w W' d g R a b c e X:=
 ⟨h.md.aM hg,(hg.block _ (aK h.bl)).trans h.bl,h.nx,h.gr.then hg⟩
theorem Mp.dk {R:Nat}{a:Y}{X':Nat->Prop}(h:Mp w W d g R a b c e X)(hT:∀b,X b->lD W b)(hk:Dk W W' X X'):Mp w W' d g R a b c e X':=by
 obtain⟨g1,n1⟩:=nV h.gr h.nx hk;exact⟨h.md.q hk.1 hT,hk.1.at h.bl (fun q=>(hT _ q).ne h.bl (by decide) rfl),n1,g1⟩
theorem act_dk {X':Nat->Prop}{L:Nat}{cs:Array Y}(h:W.heap[L]?=M (C cs 39 (0,0)))(hT:∀b,X b->lD W b)(hk:Dk W W' X X'):W'.heap[L]?=M (C cs 39 (0,0)):=hk.1.at h (fun q=>(hT _ q).ne h (by decide) rfl)
def Pla (w W:F)(ps:Nat->Addr)(qp d:Nat)(v:Y):Prop:=∃g X,rO W ps qp d g 120 X/\eU W v g d/\(∀b,X b->w.heap.size<=b)/\aJ w W
theorem pla_any {ao:Option Addr}{len cap:Nat}(hA:vX w w.heap.size ao len)(hlen:(len:Int)<=9223372036854775807)(hW:aJ w W)(hd:d<=50)(hS:rF W ps qp d [] ([],[],[],0) 0 0 X)(hX:∀b,X b->w.heap.size<=b):H K 18 #[U (M ⟨qp,0,O⟩),Z ao len cap,I V (d:Int)] W fun e w'=> ∃g n c q1 u1 u2 u3 r1 r2 r3 dn,e=G (.tuple #[Z (M ⟨g,0,O⟩) (n+1) c,.bool true])/\n+1<=c/\n<=120/\w'.cell? ⟨g,n*4,O⟩=M (.string q1)/\w'.cell? ⟨g,n*4+1,O⟩=M (Z u1 u2 u3)/\w'.cell? ⟨g,n*4+2,O⟩=M (Z r1 r2 r3)/\w'.cell? ⟨g,n*4+3,O⟩=M (I V dn)/\Hid (Pla w w' ps qp d (.agg #[.string q1,Z u1 u2 u3,Z r1 r2 r3,I V dn]))/\Hid (∀(L:Nat) (cs:Array Y),W.heap[L]?=M (C cs 39 (0,0))->w'.heap[L]?=M (C cs 39 (0,0))):=by
 refine(Sk (N:=w.heap.size) hS hd (hA.dk (Dk.bH (X:=fun _=>False) hW) (Nat.le_refl _) (fun b e=>e.elim)) hW.size hX hlen).mono ?_;rintro e w3 ⟨v,rfl,g,X',L,q,s3,k3,m3,o3,l3⟩;obtain⟨g3,x3⟩:=nV hW hX k3;obtain⟨gb,c,rfl,hc,-,z0,z1,z2,z3⟩:=o3.last;exact⟨gb,L.length,c,_,_,_,_,_,_,_,_,rfl,hc,l3,z0,z1,z2,z3,⟨g,X',s3,m3,x3,g3⟩,fun L cs h=>act_dk h (fun b hb=>hS.ty hb) k3⟩
theorem mp_make {a:Y}(h:Pla w W ps qp d (.agg #[a,b,c,e])):∃g X,rO (W.alloc (C #[a,b,c,e] 36)) ps qp d g 120 X/\Hid (Mp w (W.alloc (C #[a,b,c,e] 36)) d g W.heap.size a b c e X):=by
 obtain⟨g,X,h1,h3,h5,h7⟩:=h;have hg:aJ W (W.alloc (C #[a,b,c,e] 36)):=(aJ.refl W).alloc _;exact⟨g,X,h1.aM hg,h3.aM hg,heap_alloc_new W _,h5,h7.then hg⟩
theorem CJ {QG:Int}{ao:Option Addr}{len cap:Nat}{q0 qn qm qk:Int}{S:ByteArray}(hG:Gl w ps)(hA:vX w w.heap.size ao len)(DL: -9223372036854775808<=QG)(hd2:QG<=9223372036854775807)(hlen:(len:Int)<=9223372036854775807)(pQ: -9223372036854775808<=qn)(oW:qn<=9223372036854775807)(TV: -9223372036854775808<=qk)(WX:qk<=9223372036854775807)(hs:S.size<=1048576):
 H K 8 #[I V QG,Z ao len cap,.agg #[I V q0,I V qn,I V qm,I V qk,.string S]] w fun e w'=>e=G (.bool true)/\aJ w w':=by
 have hP:=fun W=>vZ (w:=W) (c:=QG) (n:=51) DL hd2 (by decide) (by decide)
 have HPk:Hid (∀W,H K 15 #[I V qk,I V 2] W fun e w'=> ∃r,e=G (I V r)/\0<=r/\r<2/\w'=W):=fun W=>vZ (w:=W) (c:=qk) (n:=2) TV WX (by decide) (by decide)
 have HPn:Hid (∀W (n:Nat),n<=5000->H K 15 #[I V qn,I V ((n:Int)+1)] W fun e w'=> ∃r,e=G (I V r)/\0<=r/\r<(n:Int)+1/\w'=W):=fun W n hn=>vZ (w:=W) (c:=qn) (n:=(n:Int)+1) pQ oW (by omega) (by omega)
 have HF:Hid (∀W (d:Nat),aJ w W->d<=50->H K 17 #[I V (d:Int)] W fun e w'=> ∃qp X,e=G (U (M ⟨qp,0,O⟩))/\rF w' ps qp d [] ([],[],[],0) 0 0 X/\(∀b,X b->W.heap.size<=b)/\aJ W w'):=fun W d hW hd=>BR (hG.aM hW) hd
 obtain⟨w1,dU⟩:∃w1,w1=w.alloc (C #[I V q0,I V qn,I V qm,I V qk,.string S] 39):=⟨_,rfl⟩;have G1:aJ w w1:=by rw[dU];exact(aJ.refl w).alloc _
 have Uo:w1.heap[w.heap.size]?=M (C #[I V q0,I V qn,I V qm,I V qk,.string S] 39 (0,0)):=by rw[dU];exact heap_alloc_new w _
 have HPl:Hid (∀W qp (d:Nat) X,aJ w W->d<=50->rF W ps qp d [] ([],[],[],0) 0 0 X->(∀b,X b->w.heap.size<=b)->_):=fun W qp d X h1 h2 h3 h4=>pla_any (cap:=cap) hA hlen h1 h2 h3 h4
 clear hG hA;go_enter Tryz.func8,Tryz.ntmps8
 go_upto_region 1 with fail
 rw[<-dU];clear dU
 go_upto_region 5 with(first|(go_at_call 15;refine(hP _).mono ?_;rintro e w0 ⟨r,rfl,r1,r2,rfl⟩;obtain⟨d,rfl⟩:=Int.eq_ofNat_of_zero_le r1;have hd:d<=50:=by omega)|(go_at_call 17;refine(HF.out _ d G1 hd).mono ?_;rintro e w2 ⟨qp,X2,rfl,s2,x2,g2⟩;have hPl:=HPl.out _ qp d X2 (G1.then g2) hd s2 (fun b hb=>Nat.le_trans G1.size (x2 b hb));have hL2:=(g2.block _ (aK Uo)).trans Uo;have HQ2:Hid (∀b,X2 b->lD w2 b):=fun b hb=>s2.ty hb;clear s2 x2))
 have HL2:Hid (w2.heap[w.heap.size]?=M (C #[I V q0,I V qn,I V qm,I V qk,.string S] 39 (0,0))):=hL2;clear Uo hL2 HQ2
 go_upto_region 6 with(go_at_call 18;refine hPl.mono ?_;clear hPl;rintro e w3 ⟨g,n,c,q1,u1,u2,u3,a1,a2,a3,dn,rfl,hc,hn,z0,z1,z2,z3,HC,HLk⟩)
 have HL3:Hid _:=HLk.out _ _ HL2.out;have dU:IntKind.i64.wrap (((n+1:Nat):Int)-1)=(n:Int):=by rw[IntKind.wrap_i64];omega
 have Em:IntKind.i64.wrap ((n:Int)+1-1)=(n:Int):=by rw[IntKind.wrap_i64];omega
 have i1:(0:Int)<=(n:Int):=by omega
 have i2:(n:Int)<((n+1:Nat):Int):=by omega
 have hz:(((n+1:Nat):Int)-1)=(n:Int):=by omega
 clear G1 g2 hP HF HPl HLk HL2
 go_upto_region 7 with fail
 obtain⟨aC,X,s5,ZM⟩:=mp_make HC.out;have hL5:=(((aJ.refl w3).alloc (C #[.string q1,Z u1 u2 u3,Z a1 a2 a3,I V dn] 36)).block _ (aK HL3.out)).trans HL3.out
 have Xd:q1=aR aC.1/\aC.1.length<=5000:=by
  obtain⟨su,sr,e,-⟩:=ZM.out.md.form;simp only[Value.agg.injEq,Array.mk.injEq,List.cons.injEq,Value.string.injEq]at e;obtain⟨b1,-⟩:=s5.gm;exact⟨e.1,by omega⟩
 obtain⟨rfl,dK⟩:=Xd;clear z0 z1 z2 z3 HC HL3 dU Em i1 i2 hz hc hn;obtain⟨R,hR⟩:∃R,R=w3.heap.size:=⟨_,rfl⟩;generalize (w3.alloc (C #[.string (aR aC.1),Z u1 u2 u3,Z a1 a2 a3,I V dn] 36))=w5 at*;rw[<-hR]at ZM ⊢;clear hR;obtain⟨l0,l1,l2,l3,l4⟩:=kP hL5;have HRf:Hid (∀a,0<=a->H K 27 #[U (M ⟨qp,0,O⟩),I V a] w5 fun e w'=>e=G (I V 0)/\∃X',ZO w' ps qp d aC 120 a X'/\Dk w5 w' X X'):=fun a ha=>r_refuse s5 ha
 have uh:Hid (∀b,X b->lD w5 b):=fun b hb=>s5.ty hb
 have HL5:Hid (w5.heap[w.heap.size]?=M (C #[I V q0,I V qn,I V qm,I V qk,.string S] 39 (0,0))):=hL5;clear s5 hL5
 go_upto_region 10 with(first|(go_at_call 15;refine(HPk.out _).mono ?_;rintro e w6 ⟨ra,rfl,ra1,ra2,rfl⟩)|(go_at_call 27;refine(HRf.out _ ra1).mono ?_;rintro e w7 ⟨rfl,X7,s7,k7⟩))
 have Mf:Hid _:=ZM.out.dk uh.out k7;have HL7:Hid _:=act_dk HL5.out uh.out k7;clear l0 l1 l2 l3 l4 ZM HL5 HRf uh k7;obtain⟨-,l1,-,-,l4⟩:=kP HL7.out;obtain⟨z0,z1,z2,z3⟩:=aZ Mf.out.bl;have Um:∀w,(Op.stringOp .add ⟨#[120]⟩ S).run K w= .ok (.string (⟨#[120]⟩++S)) w:=fun w=>run_string_add_sum w _ _ (by have:(⟨#[120]⟩:ByteArray).size=1:=rfl;omega)
 go_upto_region 11 with fail
 obtain⟨T0,hT0⟩:∃T,T=(⟨#[120]⟩:ByteArray)++S:=⟨_,rfl⟩;rw[<-hT0];clear Um;have HSz:Hid ((aR aC.1).size=aC.1.length):=iX aC.1;have HSn:Hid ((aR aC.1).size<=5000):=by show _<=_;have:=HSz.out;omega
 have DT:Hid (ZO w7 ps qp d aC 120 ra X7):=s7;have ZL:(⟨#[120]⟩:ByteArray).size=1:=rfl;have hsT:T0.size=1+S.size:=by rw[hT0,ByteArray.size_append,ZL]
 have Tv:((aR aC.1).size:Int)<=5000:=by have:=HSn.out;omega
 clear s7 hT0;by_cases p1:(200:Int)<(T0.size:Int)
 ·go_upto_region 13 with fail
  by_cases hD:((aR aC.1).size:Int)=5000
  ·go_wp2_with fail
   go_ret;exact⟨rfl,Mf.out.gr⟩
  ·have HIn:Hid (∀r,0<=r->r<((aR aC.1).size:Int)+1->H K 28 #[U (M ⟨qp,0,O⟩),I V r,.string ⟨#[120]⟩] w7 fun e w'=>e=G (I V 9)/\BZ w7 w' ps qp d X7 aC 121 true):=fun r h1 h2=>Sr DT.out (by decide) (by omega) (by have:=HSz.out;omega) (by omega) (by have:=HSz.out;omega)
   have qz:Hid (∀b,X7 b->lD w7 b):=fun b hb=>DT.out.ty hb
   clear DT hsT ZL
   go_upto_region 16 with(first|(go_at_call 15;refine(HPn.out _ _ HSn.out).mono ?_;rintro e w8 ⟨rp,rfl,rp1,rp2,rfl⟩)|(go_at_call 28;refine(HIn.out rp rp1 rp2).mono ?_;clear HIn;rintro e w9 ⟨rfl,X9,s9,k9⟩))
   have Bb:Hid _:=Mf.out.dk qz.out k9;have LQ:Hid (∀b,X9 b->lD w9 b):=fun b hb=>s9.ty hb
   have Cr:=CG s9 Bb.out.md;clear Mf HL7 qz k9 l1 l4 z0 z1 z2 z3 hD rp1 rp2 Tv HSz HSn HPn;obtain⟨z0,z1,z2,z3⟩:=aZ Bb.out.bl
   go_upto_region 17 with(go_at_call 26;refine Cr.mono ?_;clear Cr;rintro e PV ⟨rfl,g10⟩)
   have LU:Hid _:=Bb.out.aM g10;have CX:=s9.aM g10;have LV:Hid (∀b,X9 b->lD PV b):=fun b hb=>CX.ty hb
   have hUn:=RV CX (by decide);clear s9 Bb LQ g10 z0 z1 z2 z3 CX
   go_upto_region 18 with(go_at_call 29;refine hUn.mono ?_;clear hUn;rintro e XY ⟨rfl,X11,s11,bg⟩)
   have LW:Hid _:=LU.out.dk LV.out bg;have LX:Hid (∀b,X11 b->lD XY b):=fun b hb=>s11.ty hb
   have hSy:=RX s11;clear s11 bg LU LV
   go_upto_region 19 with(go_at_call 30;refine hSy.mono ?_;clear hSy;rintro e w12 ⟨rfl,X12,s12,k12⟩)
   have LY:Hid _:=LW.out.dk LX.out k12;have LZ:Hid (∀b,X12 b->lD w12 b):=fun b hb=>s12.ty hb
   have hCk:=RY s12 (by decide);clear s12 k12 LW LX
   go_upto_region 20 with(go_at_call 31;refine hCk.mono ?_;clear hCk;rintro e w13 ⟨rfl,X13,s13,k13⟩)
   have MB:Hid _:=LY.out.dk LZ.out k13;have MC:Hid (∀b,X13 b->lD w13 b):=fun b hb=>s13.ty hb
   have Yi:=CF s13;clear s13 k13 LY LZ
   go_upto_region 21 with(go_at_call 32;refine Yi.mono ?_;clear Yi;rintro e PW ⟨rfl,ZP,Km,Yj⟩)
   have wY:Hid _:=MB.out.dk MC.out Yj;have wZ:Hid (∀b,ZP b->lD PW b):=fun b hb=>Km.ty hb
   have Sq:=RZ Km (by decide);clear Km Yj MB MC
   go_upto_region 22 with(go_at_call 24;refine Sq.mono ?_;clear Sq;rintro e w15 ⟨rfl,X15,Yk,Yl⟩)
   have mG:Hid _:=wY.out.dk wZ.out Yl;have Hl:=mF Yk mG.out.md (by decide) hd;obtain⟨y0,y1,y2,y3⟩:=aZ mG.out.bl;clear Yk Yl wY wZ
   go_wp2_with (go_at_call 19;refine Hl.mono ?_;clear Hl;rintro e w16 ⟨rfl,g16,X16,s16,ZQ⟩)
   go_ret;exact⟨rfl,(nV mG.out.gr mG.out.nx ZQ).1⟩
 ·by_cases p2:(5000:Int)<((aR aC.1).size:Int)+(T0.size:Int)
  ·go_upto_region 13 with fail
   by_cases hD:((aR aC.1).size:Int)=5000
   ·go_wp2_with fail
    go_ret;exact⟨rfl,Mf.out.gr⟩
   ·have HIn:Hid (∀r,0<=r->r<((aR aC.1).size:Int)+1->H K 28 #[U (M ⟨qp,0,O⟩),I V r,.string ⟨#[120]⟩] w7 fun e w'=>e=G (I V 9)/\BZ w7 w' ps qp d X7 aC 121 true):=fun r h1 h2=>Sr DT.out (by decide) (by omega) (by have:=HSz.out;omega) (by omega) (by have:=HSz.out;omega)
    have qz:Hid (∀b,X7 b->lD w7 b):=fun b hb=>DT.out.ty hb
    clear DT hsT ZL
    go_upto_region 16 with(first|(go_at_call 15;refine(HPn.out _ _ HSn.out).mono ?_;rintro e w8 ⟨rp,rfl,rp1,rp2,rfl⟩)|(go_at_call 28;refine(HIn.out rp rp1 rp2).mono ?_;clear HIn;rintro e w9 ⟨rfl,X9,s9,k9⟩))
    have Bb:Hid _:=Mf.out.dk qz.out k9;have LQ:Hid (∀b,X9 b->lD w9 b):=fun b hb=>s9.ty hb
    have Cr:=CG s9 Bb.out.md;clear Mf HL7 qz k9 l1 l4 z0 z1 z2 z3 hD rp1 rp2 Tv HSz HSn HPn;obtain⟨z0,z1,z2,z3⟩:=aZ Bb.out.bl
    go_upto_region 17 with(go_at_call 26;refine Cr.mono ?_;clear Cr;rintro e PV ⟨rfl,g10⟩)
    have LU:Hid _:=Bb.out.aM g10;have CX:=s9.aM g10;have LV:Hid (∀b,X9 b->lD PV b):=fun b hb=>CX.ty hb
    have hUn:=RV CX (by decide);clear s9 Bb LQ g10 z0 z1 z2 z3 CX
    go_upto_region 18 with(go_at_call 29;refine hUn.mono ?_;clear hUn;rintro e XY ⟨rfl,X11,s11,bg⟩)
    have LW:Hid _:=LU.out.dk LV.out bg;have LX:Hid (∀b,X11 b->lD XY b):=fun b hb=>s11.ty hb
    have hSy:=RX s11;clear s11 bg LU LV
    go_upto_region 19 with(go_at_call 30;refine hSy.mono ?_;clear hSy;rintro e w12 ⟨rfl,X12,s12,k12⟩)
    have LY:Hid _:=LW.out.dk LX.out k12;have LZ:Hid (∀b,X12 b->lD w12 b):=fun b hb=>s12.ty hb
    have hCk:=RY s12 (by decide);clear s12 k12 LW LX
    go_upto_region 20 with(go_at_call 31;refine hCk.mono ?_;clear hCk;rintro e w13 ⟨rfl,X13,s13,k13⟩)
    have MB:Hid _:=LY.out.dk LZ.out k13;have MC:Hid (∀b,X13 b->lD w13 b):=fun b hb=>s13.ty hb
    have Yi:=CF s13;clear s13 k13 LY LZ
    go_upto_region 21 with(go_at_call 32;refine Yi.mono ?_;clear Yi;rintro e PW ⟨rfl,ZP,Km,Yj⟩)
    have wY:Hid _:=MB.out.dk MC.out Yj;have wZ:Hid (∀b,ZP b->lD PW b):=fun b hb=>Km.ty hb
    have Sq:=RZ Km (by decide);clear Km Yj MB MC
    go_upto_region 22 with(go_at_call 24;refine Sq.mono ?_;clear Sq;rintro e w15 ⟨rfl,X15,Yk,Yl⟩)
    have mG:Hid _:=wY.out.dk wZ.out Yl;have Hl:=mF Yk mG.out.md (by decide) hd;obtain⟨y0,y1,y2,y3⟩:=aZ mG.out.bl;clear Yk Yl wY wZ
    go_wp2_with (go_at_call 19;refine Hl.mono ?_;clear Hl;rintro e w16 ⟨rfl,g16,X16,s16,ZQ⟩)
    go_ret;exact⟨rfl,(nV mG.out.gr mG.out.nx ZQ).1⟩
  ·go_upto_region 13 with fail
   by_cases hD:((aR aC.1).size:Int)=5000
   ·exfalso;omega
   ·have HIn:Hid (∀r,0<=r->r<((aR aC.1).size:Int)+1->H K 28 #[U (M ⟨qp,0,O⟩),I V r,.string T0] w7 fun e w'=>e=G (I V 9)/\BZ w7 w' ps qp d X7 aC 121 true):=fun r h1 h2=>Sr DT.out (by decide) (by omega) (by have:=HSz.out;omega) (by omega) (by have:=HSz.out;omega)
    have qz:Hid (∀b,X7 b->lD w7 b):=fun b hb=>DT.out.ty hb
    clear DT hsT ZL
    go_upto_region 16 with(first|(go_at_call 15;refine(HPn.out _ _ HSn.out).mono ?_;rintro e w8 ⟨rp,rfl,rp1,rp2,rfl⟩)|(go_at_call 28;refine(HIn.out rp rp1 rp2).mono ?_;clear HIn;rintro e w9 ⟨rfl,X9,s9,k9⟩))
    have Bb:Hid _:=Mf.out.dk qz.out k9;have LQ:Hid (∀b,X9 b->lD w9 b):=fun b hb=>s9.ty hb
    have Cr:=CG s9 Bb.out.md;clear Mf HL7 qz k9 l1 l4 z0 z1 z2 z3 hD rp1 rp2 Tv HSz HSn HPn;obtain⟨z0,z1,z2,z3⟩:=aZ Bb.out.bl
    go_upto_region 17 with(go_at_call 26;refine Cr.mono ?_;clear Cr;rintro e PV ⟨rfl,g10⟩)
    have LU:Hid _:=Bb.out.aM g10;have CX:=s9.aM g10;have LV:Hid (∀b,X9 b->lD PV b):=fun b hb=>CX.ty hb
    have hUn:=RV CX (by decide);clear s9 Bb LQ g10 z0 z1 z2 z3 CX
    go_upto_region 18 with(go_at_call 29;refine hUn.mono ?_;clear hUn;rintro e XY ⟨rfl,X11,s11,bg⟩)
    have LW:Hid _:=LU.out.dk LV.out bg;have LX:Hid (∀b,X11 b->lD XY b):=fun b hb=>s11.ty hb
    have hSy:=RX s11;clear s11 bg LU LV
    go_upto_region 19 with(go_at_call 30;refine hSy.mono ?_;clear hSy;rintro e w12 ⟨rfl,X12,s12,k12⟩)
    have LY:Hid _:=LW.out.dk LX.out k12;have LZ:Hid (∀b,X12 b->lD w12 b):=fun b hb=>s12.ty hb
    have hCk:=RY s12 (by decide);clear s12 k12 LW LX
    go_upto_region 20 with(go_at_call 31;refine hCk.mono ?_;clear hCk;rintro e w13 ⟨rfl,X13,s13,k13⟩)
    have MB:Hid _:=LY.out.dk LZ.out k13;have MC:Hid (∀b,X13 b->lD w13 b):=fun b hb=>s13.ty hb
    have Yi:=CF s13;clear s13 k13 LY LZ
    go_upto_region 21 with(go_at_call 32;refine Yi.mono ?_;clear Yi;rintro e PW ⟨rfl,ZP,Km,Yj⟩)
    have wY:Hid _:=MB.out.dk MC.out Yj;have wZ:Hid (∀b,ZP b->lD PW b):=fun b hb=>Km.ty hb
    have Sq:=RZ Km (by decide);clear Km Yj MB MC
    go_upto_region 22 with(go_at_call 24;refine Sq.mono ?_;clear Sq;rintro e w15 ⟨rfl,X15,Yk,Yl⟩)
    have mG:Hid _:=wY.out.dk wZ.out Yl;have Hl:=mF Yk mG.out.md (by decide) hd;obtain⟨y0,y1,y2,y3⟩:=aZ mG.out.bl;clear Yk Yl wY wZ
    go_wp2_with (go_at_call 19;refine Hl.mono ?_;clear Hl;rintro e w16 ⟨rfl,g16,X16,s16,ZQ⟩)
    go_ret;exact⟨rfl,(nV mG.out.gr mG.out.nx ZQ).1⟩
theorem Ta:∀(n:Nat) (l:List Int),l.Nodup->(∀k∈l,0<=k/\k<(n:Int))->l.length<=n
 |0,l,_,h=>by
  cases l with
  |nil=>exact Nat.le_refl _
  |cons a l=>have:=h a (by simp);omega
 |n+1,l,hn,h=>by
  by_cases hm:(n:Int)∈l
  ·have h1:=Ta n (l.erase (n:Int)) (hn.erase _) (fun k hk=>by
    rw[hn.mem_erase_iff]at hk;have:=h k hk.2;have:=hk.1;omega)
   rw[List.length_erase_of_mem hm]at h1;omega
  ·have:=Ta n l hn (fun k hk=>by
    have h1:=h k hk;have:k≠(n:Int):=fun e=>hm (e ▸ hk)
    omega)
   omega
theorem ZR {x:St}(h:nG x g k t):g.1.length<=(aL x.2.1 1).size:=by
 have hl:=h.len;have hf:=lW h.snd.bK.Tg;obtain⟨X,-,hc⟩:=h.snd.cnt;have hn:(fl x.2.2.1).Nodup:=by rw[<-h.snd.yV.text];exact hc.nd
 have hb:=h.snd.gs.wU h.snd.op h.snd.ro
 have:=Ta (aL x.2.1 1).size (fl x.2.2.1) hn (fun k hk=>by
  have:=Po h.snd.bK.text k hk;omega)
 omega
def ImC (L:List AF)(g:Gm)(T:Nat):Prop:=(∃c,L=[(2,c)]/\29<=c.size)\/∃b c,L=[(1,b),(2,c)]/\29<=c.size/\g.1.length<=b.size/\b.size<=T
theorem img_ck {room:Int}(hI:dY room fs)(hn:∀f∈fs,f.1=1\/f.1=2)(h2:29<=(aL fs 2).size)(hg:g.1.length<=(aL fs 1).size)(hT:(aL fs 1).size<=T):ImC (fs.map (fun f=>(f.1,f.2.1))) g T:=by
 have hs:=hI.sort.1
 match fs,hs,hn,h2,hg,hT with
 | [],_,_,h2,_,_=>exact absurd h2 (by show ¬29<=(⟨#[]⟩:ByteArray).size;decide)
 | [a],_,hn,h2,_,_=>
  rcases hn a (by simp)with q|q
  ·have:aL [a] 2=⟨#[]⟩:=Rw (fun f hf=>by simp at hf;rw[hf,q];decide);rw[this]at h2;exact absurd h2 (by decide)
  ·have:aL [a] 2=a.2.1:=by rw[cK,lY,if_pos q];rfl
   rw[this]at h2;exact Or.inl ⟨a.2.1,by simp[q],h2⟩
 | [a,b],hs,hn,h2,hg,hT=>
  have hab:a.1<b.1:=by simpa using hs
  have qa:a.1=1:=by rcases hn a (by simp)with q|q;exact q;rcases hn b (by simp)with q'|q'<;>omega
  have qb:b.1=2:=by rcases hn b (by simp)with q|q;omega;exact q
  have e2:aL [a,b] 2=b.2.1:=by rw[cK,lY,if_neg (by omega),lY,if_pos qb];rfl
  have e1:aL [a,b] 1=a.2.1:=by rw[cK,lY,if_pos qa];rfl
  rw[e2]at h2;rw[e1]at hg hT;exact Or.inr ⟨a.2.1,b.2.1,by simp[qa,qb],h2,hg,hT⟩
 |a::b::c::l,hs,hn,_,_,_=>
  simp only[List.pairwise_cons]at hs;have h1:=hs.1 b (by simp);have h2:=hs.2.1 c (by simp);have:=hn a (by simp);have:=hn b (by simp);have:=hn c (by simp);omega
def ZT (w:F)(ps:Nat->Addr)(qp d:Nat)(g:Gm)(k T:Nat)(X:Nat->Prop):Prop:=rO w ps qp d g k X/\∃s fs m,pF w qp s fs m X/\BK s fs/\ImC (fs.map (fun f=>(f.1,f.2.1))) g T
theorem ZT.aM (h:ZT w ps qp d g k T X)(hg:aJ w w'):ZT w' ps qp d g k T X:=by
 obtain⟨h1,s,fs,m,h2,h3⟩:=h;exact⟨h1.aM hg,s,fs,m,h2.aM hg,h3⟩
theorem c_ckpt {aA:List Gm}(h:rF w ps qp d aA g k T X)(hk:k<=122):
 H K 31 #[U (M ⟨qp,0,O⟩)] w fun e w'=>e=G (I V 0)/\∃X',ZT w' ps qp d g (k+1) T X'/\Dk w w' X X':=by
 obtain⟨hG,s,fs,m,hQ,hH,hd,hW,hT⟩:=h;obtain⟨t,hS⟩:=hH.Ep;refine(z_ hQ hG (jK hS.snd.gs hW.bK hW.qC) (by omega)).mono ?_;rintro e w' ⟨rfl,hq⟩;obtain⟨s',e1,hl⟩:=KI (fs:=fs) (m:=m) (hW.has (by omega) (n:=5) (by omega));obtain⟨c1,c2s⟩:=KE hS hk;obtain⟨-,-,c3,c4,c5⟩:=Hu hS.snd hk;have Wy:=Si hS.snd;have htf:=ZR c2s;rw[e1]at hq ⊢;obtain⟨X',q1,q2⟩:=hq;have e:=hl.calm;simp only;rw[c1];have Sg:=hW.lk hl (by omega) (by omega) c2s.snd.gs.bk.bK;have hck:=AO ((aY s,fs,m).1.aV+1) (aY s,fs,m).2.2;refine⟨rfl,X',⟨⟨hG.q q2.1 (fun b hb=>hQ.ty hb),s',_,_,t,q1,by rw[e];exact c2s,?_,Sg⟩,s',_,_,q1,⟨Sg.bK,Sg.qC,?_,c2s.snd.gs.bk.len⟩,img_ck c2s.snd.gs.bk.inv c5 ?_ htf ?_⟩,q2⟩
 ·show(aY s').depth=_;rw[e,Wy];exact hd
 ·have:=c2s.snd.gs.bk.inv;have er:s'.room=(gG (aY s,fs,m)).1.1.room:=by rw[<-e];rfl
  rw[er];exact this
 ·rw[c4,<-Dy,ck_ba];omega
 ·rw[c3];exact hT
theorem c_image (h:ZT w ps qp d g k T X):
 H K 34 #[U (M ⟨qp,0,O⟩)] w fun e w'=> ∃gb L,e=G (Z (M ⟨gb,0,O⟩) L.length L.length)/\TD w' (M ⟨gb,0,O⟩) L/\ImC L g T/\aJ w w':=by
 obtain⟨-,s,fs,m,hQ,hB,hI⟩:=h;refine(H_ hQ hB).mono ?_;rintro e w' ⟨g',rfl,ho,hg⟩;refine⟨g',fs.map (fun f=>(f.1,f.2.1)),by rw[List.length_map],?_,hI,hg⟩;obtain⟨ao,cap,e,hr,-⟩:=Ad.rdh ho;simp only[Value.slice.injEq]at e;obtain⟨rfl,-,-⟩:=e;exact hr.1
end Go.Proofs.YtfplgfodoiiobaaGreatDoor
