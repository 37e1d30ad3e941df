/- a part of the proof. -/
import Derived.Test.YtfplgfodoiiobabGreatDoorJ38
import Derived.Test.YtfplgfodoiiobabGreatDoorJ41
import Derived.Test.YtfplgfodoiiobabGreatDoorJ43
open Option renaming none->O,some->M
open Go.Value renaming int->I,slice->Z,pointer->U
open Go.IntKind renaming i64->V
open Go.Obj renaming cells->C
open Go.Ending renaming returned->G
open Go renaming World->F,Value->Y,Calls->H
open Go.Proofs.Tryz renaming prog→K
open Go.Proofs.Tryz
namespace Go.Proofs.YtfplgfodoiiobabGreatDoor
set_option maxHeartbeats 2000000
set_option maxRecDepth 100000
open Go.RowKit
variable {w:F}{ps:Nat->Addr}{s:Sc}{fs:List bD}{m:dI}{D:Int}
theorem open_any {db depth:Nat}{fv:Y}{rs:List FR}{em:Int×dI}(hD:aU w db s fv rs)(hO:qB 1000 s (plain rs))(hG:Gl w ps)(hd:depth<=100)(hr:Kv (plain rs) depth=M em):
 H K 47 #[U (M ⟨db,0,O⟩),I V (depth:Int)] w λe w'=>OpnA w w' ps db depth fv rs em.1 (vF (plain rs) depth em).1 (Fy s (plain rs) depth em) e:=by
 have n:=(aL.refl w).alloc (C #[U (M ⟨db,0,O⟩),I V 0] 157);have u:(w.alloc (C #[U (M ⟨db,0,O⟩),I V 0] 157)).heap[w.heap.size]?=M (jW db 0):=Aag w _;obtain⟨hR,Ih,tY,zD,Jg⟩:=FU u (hD.aN n) hO (hG.aN n) hd hr;obtain⟨j,jJ⟩:∃j,j=w.alloc (C #[U (M ⟨db,0,O⟩),I V 0] 157):=⟨_,rfl⟩;rw[<-jJ]at n u hR;have tX:=n.le
 have y:Hid (∀r a tb,aW r a tb depth em.2->r.heap[w.heap.size]?=M (jW db em.1)->j.heap.size<=a->j.heap.size<=tb->Og j r w.heap.size->H K 88 #[U (M ⟨w.heap.size,0,O⟩),U (M ⟨a,0,O⟩)] r λe w'=> ∃(R:Nat),e=G (I V (R:Int))/\(Hid (R=22*(vF (plain rs) depth em).2)/\aW w' a tb depth (vF (plain rs) depth em).1/\eX (vF (plain rs) depth em).1 depth)/\aU w' db s fv rs/\w'.heap[w.heap.size]?=M (jW db em.1)/\Gl w' ps/\aL w w'):=λr a tb J A h3 h4 h5=>by
  have S:aU r db s fv rs:=(hD.aN n).fr h5.1 (λb i e=>by
   obtain⟨aR,t,Tp,z,x⟩:=(hD.aN n).ty i;rcases x with rfl|rfl|rfl|rfl<;>exact aZ z u (by decide) e)
  have X:=(hG.aN n).fr h5.1 (λb aR i=>aZ i u (by decide)) (λb aR t g i=>aZ i u (g.ne (by decide))) (λb aR i=>aZ i u (by decide)) (λb aR i=>aZ i u (by decide));have g3:=Fw n h5 (Aak _);refine(FQ A J Ih S hO X zD (by omega) tY hd).mono ?_;rintro e w' ⟨k,R,rfl,a0,m',Ra,z,x,-,P⟩;obtain⟨z1,z2,z3,-⟩:=Dk.wG J P;have e1:vF (plain rs) depth em=(m',k):=Ra;rw[e1];exact⟨R,rfl,⟨a0,z,x⟩,z1 S,z2 A,z3 X,YH g3 P (by rintro b (rfl|rfl)<;>omega)⟩
 have Q:Hid (∀d a tb (b:Nat),aW d a tb depth (vF (plain rs) depth em).1->aU d db s fv rs->d.heap[w.heap.size]?=M (jW db em.1)->Gl d ps->aL w d->j.heap.size<=a->j.heap.size<=tb->(b:Int)=(vF (plain rs) depth em).1.2.2.2.2->∀R:Nat,R=22*(vF (plain rs) depth em).2->H K 89 #[U (M ⟨w.heap.size,0,O⟩),I V (R:Int),I V (b:Int)] d λe w'=> ∃v,e=G v/\lS w' ps 1 v (Fy s (plain rs) depth em).1/\OpnD w w' ps w.heap.size a tb db depth fv rs em.1 (vF (plain rs) depth em).1 (Fy s (plain rs) depth em)):=λd a tb b J A h3 h4 h5 h6 h7 h8 R h9=>by
  refine(tidy_pg A h3 h4 hO zD (by omega)).mono ?_;rintro e w' ⟨v,rfl,eD,dY,z,x,D,P⟩;have e1:rF s (plain rs) em.1 (R:Int) (b:Int)=Fy s (plain rs) depth em:=by unfold Fy;rw[h8,<-h9]
  rw[e1]at z x P;exact⟨v,rfl,P,⟨D.1.at h3 (A.other h3 (by decide) (by decide) (by decide) (by decide)),J.dsk A D,h4.dk A D,⟨eD,dY,z,x,(Dk.bZ h5).trans D⟩,⟨Aak _,by omega,by omega⟩⟩⟩
 have L:Hid (∀d a tb,aW d a tb depth (vF (plain rs) depth em).1->H K 50 #[U (M ⟨a,0,O⟩)] d λe w'=>e=G (I V (vF (plain rs) depth em).1.2.2.2.2)/\w'=d):=λd a tb J=>Cw J;have a1:Hid (∀W v c,lS W ps 1 v c->H K 87 #[.string ⟨#[111,112,101,110]⟩,v] W λe w'=> ∃v',e=G v'/\lS w' ps 2 v' c/\aL W w'):=λW v c h=>Je h
 have N:Hid (H K 86 #[U (M ⟨w.heap.size,0,O⟩),I V (depth:Int)] j λe w'=> ∃a tb:Nat,e=G (.tuple #[U (M ⟨a,0,O⟩),.nilIface])/\aW w' a tb depth em.2/\w'.heap[w.heap.size]?=M (jW db em.1)/\j.heap.size<=a/\j.heap.size<=tb/\Og j w' w.heap.size):=hR;clear hR hD hO hG u n hr Ih;generalize Fy s (plain rs) depth em=T at*;generalize vF (plain rs) depth em=aK at*;go_enter func47,ntmps47;go_upto_region 2 with fail;rw[<-jJ];clear jJ
 go_upto_region 6 with(first
  |(go_at_call 86;refine N.out.mono ?_;rintro e r ⟨a,tb,rfl,d1,d2,d3,d4,d5⟩;have su:=y.out r a tb d1 d2 d3 d4 d5)
  |(go_at_call 88;refine su.mono ?_;rintro e d ⟨R,rfl,⟨r1,r2,r3⟩,r4,r5,r6,r7⟩))
 have o:=L.out d a tb r2;obtain⟨b,i⟩:=AbC r3.Fa;have B:=Q.out d a tb b r2 r4 r5 r6 r7 d3 d4 i.symm R r1.out;rw[i]at o;clear y Q L N su d1 d2 d5 r2 r3 r4 r5 r6 r7 i r1
 go_upto_region 7 with(first
  |(go_at_call 50;refine o.mono ?_;rintro e d ⟨rfl,rfl⟩)
  |(go_at_call 89;refine B.mono ?_;rintro e w5 ⟨v5,rfl,e5,o5⟩))
 by_cases E:T.1=0
 ·have HV:Hid (v5= .nilIface):=by rw[E]at e5;exact e5.no
  obtain rfl:=HV.out;have HT:Hid _:=E;clear E B o;go_wp2_with fail;refine Aap (v:= .tuple #[U (M ⟨w.heap.size,0,O⟩),U (M ⟨a,0,O⟩),.nilIface]) (by simp[results,results47,go_sem]) rfl ?_;exact⟨λ_=>⟨_,a,tb,rfl,o5⟩,λh=>absurd HT.out h⟩
 ·obtain⟨t5,b5,rfl⟩:=e5.yes E;have Tq:=a1.out w5 _ _ e5;have HT:Hid (T.1≠0):=E;clear E B o e5;go_wp2_with (go_at_call 87;refine Tq.mono ?_;rintro e w6 ⟨v6,rfl,e6,g6⟩);refine Aap (v:= .tuple #[U O,U O,v6]) (by simp[results,results47,go_sem]) rfl ?_;refine⟨λh=>absurd h HT.out,λ_=>⟨v6,rfl,?_⟩⟩;obtain⟨eD,dY,z,x,D⟩:=o5.dsk;exact⟨eD,dY,z.aN g6,x,D.Jf g6,e6⟩
theorem OE (ho:s.aX=false)(hI:gH s.room fs)(hb:((aP fs 1).size:Int)<=1000000):
 jP (s,fs,m)=match Kv fs s.depth.toNat with
  |none=>((s,fs,m),11)
  |some em=>(if (Fy { s with aX:=true } fs s.depth.toNat em).1=0 then ({ (Fy { s with aX:=true } fs s.depth.toNat em).2.1 with ro:=false,aY:=em.1 },(Fy { s with aX:=true } fs s.depth.toNat em).2.2,(vF fs s.depth.toNat em).1)else ((Fy { s with aX:=true } fs s.depth.toNat em).2.1,(Fy { s with aX:=true } fs s.depth.toNat em).2.2,m),(Fy { s with aX:=true } fs s.depth.toNat em).1):=by
 unfold jP;simp only;rw[if_neg (by simp[ho]),<-res_eq];cases j:Kv fs s.depth.toNat with
 |none=>rfl
 |some em=>
  obtain⟨i,-⟩:=Gg j hb;simp only
  have e:vF fs s.depth.toNat em=jC ((aP fs 1).size:Int) s.depth.toNat ((aP fs (10+em.1)).data.toList.length / 22+1) em.2 (aP fs (10+em.1)).data.toList:=by
   unfold vF;rw[VF];have:(aP fs (10+em.1)).data.toList.length=(aP fs (10+em.1)).size:=(by rw[Array.length_toList];rfl);rw[this]
  rw[<-e];unfold Fy rF;rw[oth_eq hI i];generalize vF fs s.depth.toNat em=g;generalize gM { s with aX:=true } fs (gW fs em.1)=r;by_cases c:r.1=false
  ·simp[c]
  ·simp only[if_neg c];generalize bM r.2.1 r.2.2 (10+em.1) ((22*g.2:Nat):Int)=a;by_cases d:a.1=false
   ·simp[d]
   ·simp only[if_neg d];generalize bM a.2.1 a.2.2 1 g.1.2.2.2.2=h;cases k:h.1 with
    |false=>simp
    |true=>simp
theorem OG {x:St}(h:GS x D)(hD:1000100000<=D):GS (jP x).1 D:=by
 obtain⟨s,a,m⟩:=x;by_cases P:s.aX=true
 ·unfold jP;simp only;rw[Aad P];exact h
 ·have Al:s.aX=false:=by simpa using P
  have vJ:=gN h.bk.inv 1;have zH:=h.bk.dJ.kZ;simp only at vJ zH;have B:((aP a 1).size:Int)<=1000000:=by omega
  rw[OE Al h.bk.inv B];cases hr:Kv a s.depth.toNat with
  |none=>exact h
  |some c=>
   obtain⟨z0,z1,z2,z3,z4,z5⟩:=Gg hr B;simp only;have IZ:BK { s with aX:=true } a:=⟨{ h.bk.dJ with },h.bk.Ef,h.bk.inv,h.bk.len⟩;have vk:=gN h.bk.inv (10+c.1);simp only at vk;obtain⟨g1,g2,g3⟩:=Nn (buf:=((aP a 1).size:Int)) (by omega) s.depth.toNat ((aP a (10+c.1)).size / 22+1) c.2 (aP a (10+c.1)).data.toList z1 z3;have u:Dz ((aP a 1).size:Int) s.depth.toNat ((aP a (10+c.1)).size / 22+1) c.2 (aP a (10+c.1)).data.toList=vF a s.depth.toNat c:=rfl;rw[u]at g1 g2 g3;have sj:=g1.Fa;unfold Fy rF;generalize vF a s.depth.toNat c=g at*;obtain⟨A,j2,j3⟩:=GU (tK a c.1) IZ
   have Dx:(1:Int) ∉ tK a c.1/\10+c.1 ∉ tK a c.1:=by
    unfold tK;constructor<;>simp
   have d:∀f∈a,f.1 ∉ tK a c.1->f.1=1\/f.1=2\/f.1=10+c.1:=by
    intro f o i;unfold tK at i;simp only[Abl,AaS,Abh,bne_iff_ne,ne_eq,not_and,AdN]at i;by_cases R:f.1=1
    ·exact Aac R
    ·by_cases S:f.1=2
     ·exact Aab (Aac S)
     ·exact Aab (Aab (i ⟨f,o,rfl⟩ ⟨R,S⟩))
   generalize gM { s with aX:=true } a (tK a c.1)=r at*;rcases j3 with⟨n,W,q3,q4,q5⟩|⟨n,W⟩
   ·simp only[n,AbN,if_false];obtain⟨Q,k2,k3⟩:=Gh A (10+c.1) (k:=((22*g.2:Nat):Int)) (by omega);generalize bM r.2.1 r.2.2 (10+c.1) ((22*g.2:Nat):Int)=t at*;rcases k3 with⟨j,J,p3,p4,-,-,p5⟩|⟨j,J⟩
    ·simp only[j,AbN,if_false];obtain⟨e,i2,i3⟩:=Gh Q 1 (k:=g.1.2.2.2.2) sj;generalize bM t.2.1 t.2.2 1 g.1.2.2.2.2=N at*;rcases i3 with⟨w,L,t3,t4,-,z,-⟩|⟨w,L⟩
     ·simp only[w,if_true];have AV:=(j2.trans k2).trans i2;have E:(aP t.2.2 1).size=(aP a 1).size:=(by rw[p5 1 (by omega),q5 1 Dx.1]);have Qx:BK { N.2.1 with ro:=false,aY:=c.1 } N.2.2:=⟨{ e.dJ with oM:=z4,rW:=z5 },e.Ef,e.inv,e.len⟩;refine⟨Qx,λ_=>?_,λ_=>?_,λ_=>?_,λ_=>?_,λ_ _=>?_⟩
      ·simp only;rw[AV.2.1];exact g1
      ·simp only;omega
      ·simp only;intro f o;obtain⟨⟨f1,Ir,e1⟩,-⟩:=t4 f o;obtain⟨⟨f2,Jr,e2⟩,-⟩:=p4 f1 Ir;obtain⟨⟨f3,Jz,y⟩,X⟩:=q4 f2 Jr;have:=d f3 Jz (by rw[y];exact X);rw[<-e1,<-e2,<-y];exact this
      ·simp only;rw[z,E];omega
      ·simp only;rw[z,E];omega
     ·simp only[w,AaF,if_false];exact GS.shut e L
    ·simp only[j,if_true];exact GS.shut Q J
   ·simp only[n,if_true];exact GS.shut A W
theorem qopen {qp:Nat}{X:Nat->Prop}(h:wB w qp s fs m X)(hG:Gl w ps)(hS:GS (s,fs,m) D):
 H K 15 #[U (M ⟨qp,0,O⟩)] w λe w'=>e=G (I V (jP (s,fs,m)).2)/\zS w w' qp X (jP (s,fs,m)).1:=by
 have h0:=h;have vJ:=gN hS.bk.inv 1;have zH:=hS.bk.dJ.kZ;have Ur:=hS.bk.dJ.zL;have Rb:=hS.bk.dJ.xW;simp only at vJ zH Ur Rb;have Gs:((aP fs 1).size:Int)<=1000000:=by omega
 rcases h with⟨ho,i,u,c,h1,rfl,J,rfl⟩|⟨ho,i,u,c,sp,o,n,tb,h1,rfl,rfl⟩
 ·rw[OE ho hS.bk.inv Gs];have IZ:BK { s with aX:=true } (plain c):=⟨{ hS.bk.dJ with },hS.bk.Ef,hS.bk.inv,hS.bk.len⟩;have E:aU w i { s with aX:=true } u c:=h1;have a0:((s.depth.toNat:Nat):Int)=s.depth:=by omega
  have z:∀ {W:F} {x y},aL w W->aU W i { s with aX:=true } u c->∀ {w'},Dk W w' (DX i u c) (DX i x y)->w'.heap[qp]?=M (yF s.most s.depth i O):=λ{W x y} a hD {w'} g=>by
   have S:=(a.block _ (aM J)).trans J;exact g.1.at S (hD.other S (by decide) (by decide) (by decide) (by decide))
  cases hr:Kv (plain c) s.depth.toNat with
  |none=>
   simp only;refine Ji J λW a=>?_
   have:=NJ (E.aN a) (IZ.dok.more (by omega)) (hG.aN a) hr;rw[a0]at this;refine this.mono ?_;rintro e w' ⟨v,rfl,hv,hg⟩;obtain⟨t,b,rfl⟩:=hv.yes (by omega);refine⟨t,b,rfl,λW' A=>?_⟩;have g1:=a.then (hg.then A);exact NU (h1.aN g1) ((g1.block _ (aM J)).trans J) ho (yG (hG.aN g1) (hv.aN A) (by omega)) (Dk.bZ g1)
  |some j=>
   simp only;obtain⟨z0,z1,z2,z3,z4,z5⟩:=Gg hr Gs
   have hY:∀W,aL w W->H K 47 #[U (M ⟨i,0,O⟩),I V s.depth] W λe w'=>OpnA W w' ps i s.depth.toNat u c j.1 (vF (plain c) s.depth.toNat j).1 (Fy { s with aX:=true } (plain c) s.depth.toNat j) e:=λW a=>by
    have:=open_any (E.aN a) (IZ.dok.more (by omega)) (hG.aN a) (by omega) hr;rwa[a0]at this
   obtain⟨kB,P,kF⟩:=gs_opn IZ j.1 (22*(vF (plain c) s.depth.toNat j).2) (opn_buf hr Gs);have a3:rF { s with aX:=true } (plain c) j.1 ((22*(vF (plain c) s.depth.toNat j).2:Nat):Int) (vF (plain c) s.depth.toNat j).1.2.2.2.2=Fy { s with aX:=true } (plain c) s.depth.toNat j:=rfl;rw[a3]at kB P kF;generalize Fy { s with aX:=true } (plain c) s.depth.toNat j=r at*;generalize (vF (plain c) s.depth.toNat j).1=m' at*;by_cases L:r.1=0
   ·rw[Aad L,L];rcases kF with⟨-,kO⟩|⟨kE,-⟩
    ·refine(GX (R:=λw' o n=> ∃W tb,aL w W/\OpnD W w' ps o n tb i s.depth.toNat u c j.1 m' r) J λW a=>?_).mono ?_
     ·refine(hY W a).mono ?_;rintro e w' ⟨k1,-⟩;obtain⟨o,n,tb,rfl,B⟩:=k1 L;obtain⟨x,y,-,-,g⟩:=B.dsk;exact⟨o,n,rfl,⟨W,tb,a,B⟩,z a (E.aN a) g⟩
     ·rintro e w' ⟨rfl,w1,N,o,n,⟨W,tb,a,B⟩,iV,rfl⟩;refine⟨rfl,?_⟩;obtain⟨x,y,hd,hp,g⟩:=B.dsk;have Iy:=(iV.block _ (aM (z a (E.aN a) g))).trans (z a (E.aN a) g);have ga:=(aL.refl N).alloc (vP o n false);have gb:=iV.then ga;have yM:=(ga.block _ (aM Iy)).trans Iy;have hF:=Fr.set (N.alloc (vP o n false)) ⟨qp,3,O⟩ (U (M ⟨N.heap.size,0,O⟩));have Q:=Aag N (vP o n false);have a1:=(gb.block _ (aM B.wG)).trans B.wG;have a2:=hd.aN gb;refine⟨Ud qp i x y N.heap.size o n tb,Aab ⟨kO,i,x,y,N.heap.size,o,n,tb,⟨?_,?_,?_,?_,?_⟩,hp,rfl⟩,?_⟩
      ·refine aU.fr a2 hF ?_;rintro b d rfl;exact a2.other yM (by decide) (by decide) (by decide) (by decide) d
      ·rw[Aaj _ qp 3 _ _ _ yM];simp only;rw[P.1,P.2.1];rfl
      ·exact hF.at Q (aZ Q yM (by decide))
      ·exact hF.at a1 (aZ a1 yM (by decide))
      ·simp only;rw[P.2.1];exact(B.dr.aN gb).off hF yM (by decide) (by decide) (by decide) (by decide) (by decide)
      ·have jY:=a.size;have a5:=g.1.1;have a4:=iV.size
       have k1:Dk w w1 (JF qp i u c) (JF qp i x y):=by
        refine Fu a ⟨g.1.mono (λb d=>Aab d),g.2.1,?_⟩;rintro b (d|d)
        ·exact Aac (Aac d)
        ·rcases g.2.2 b d with k|k
         ·exact Aac (Aab k)
         ·exact Aab k
       have k2:=k1.aN gb;refine⟨k2.1.trans (hF.mono (λb e=>Aac e)),k2.2.1,?_⟩;obtain⟨n1,n2,n3⟩:=B.new;rintro b (d|d|rfl|rfl|rfl|rfl)
       ·exact Aac (Aac d)
       ·exact k2.2.2 b (Aab d)
       ·exact Aab (by omega)
       ·exact Aab (by omega)
       ·exact Aab (by omega)
       ·exact Aab (by omega)
    ·omega
   ·rw[Aaa L];rcases kF with⟨kE,-⟩|⟨-,kO⟩
    ·exact absurd kE L
    ·refine Ji J λW a=>?_;refine(hY W a).mono ?_;rintro e w' ⟨-,k2⟩;obtain⟨v,rfl,x,y,hd,hp,g,hE⟩:=k2 L;obtain⟨t,b,rfl⟩:=hE.yes L;refine⟨t,b,rfl,λW' A=>?_⟩;have S:=z a (E.aN a) g
     have k1:Dk w w' (JF qp i u c) (JF qp i x y):=by
      refine Fu a ⟨g.1.mono (λb d=>Aab d),g.2.1,?_⟩;rintro b (d|d)
      ·exact Aac (Aac d)
      ·rcases g.2.2 b d with k|k
       ·exact Aac (Aab k)
       ·exact Aab k
     rw[<-hp];refine NU (hd.aN A) ?_ kO (yG (((hG.aN a).dk (E.aN a) g).aN A) (hE.aN A) (by omega)) (k1.aN A);rw[P.1,P.2.1];exact(A.block _ (aM S)).trans S
 ·have e:jP (s,plain c,m)=((s,plain c,m),2):=by unfold jP;simp only;rw[Aad ho]
  rw[e];obtain⟨-,-,-,c3,-⟩:=fG h1.qu;simp only[Abi]at c3;have HQ:Hid (wB w qp s (plain c) m (Ud qp i u c sp o n tb)):=h0;clear h0 hG hS h1 e ho;go_enter func15,ntmps15;go_wp2_with fail;go_ret;exact⟨rfl,zS.same HQ.out (aL.refl _)⟩
theorem gs1:GS pJ 1000100000:=OG gs0 (by omega)
theorem gs2:GS Xy 1000100001:=Kw gs1
theorem gs3:GS Ie 1000100002:=Kw gs2
theorem gs4:GS QW 1000100003:=Kw gs3
theorem IK (hG:Gl w ps):H K 4 #[.bool true] w λe w'=>e=G (.bool true)/\aL w w':=by
 have YB:Hid _:=hG;clear hG;go_enter func4,ntmps4;go_wp2_with fail;refine(EB _).mono ?_;rintro e w1 ⟨rfl,rfl⟩;have t0:=Uk w;have N:=aO w (vS O);generalize w.alloc _=wa at*;go_wp2_with fail;refine(Bv t0).mono ?_;rintro e w1 ⟨rfl,t1,g1⟩;rw[hd_ia]at t1 ⊢;go_wp2_with fail;refine(Bv t1).mono ?_;rintro e w2 ⟨rfl,P,g2⟩;simp only at P ⊢;rw[hd_ib]at P ⊢;go_wp2_with fail;refine(El P).mono ?_;rintro e w3 ⟨g,rfl,bB,hg,u⟩;simp only at bB ⊢;go_wp2_with fail;refine(Ul ((vI.own bB).below (aO _ _)) (Lm w3 #[I V 10,I V 2,I V 50,I V 1,I V 12,I V 3] [(10,2),(50,1),(12,3)] rfl (by simp[maxLen])) rfl rfl (by simp)).mono ?_;rintro e t ⟨rfl,nd,x⟩;have r:=(N.grown g1 (by have:=N.size;omega) (λk e=>by cases e;exact Aak _)).grown g2 (by have:=N.size;have:=g1.size;omega) (λk e=>by cases e;exact Aak _);have B3:Below w.heap.size w w3:=⟨u.os.trans r.os,u.tape.trans r.tape,u.output.trans r.output,Aal r.size u.size,λb hb=>(u.block b (by have:=r.size;omega)).trans (r.block b hb)⟩;have Q:aL w t:=by rw[x];exact bC (aQ B3 (aO _ _)) nd
 have o:Hid (aL w t/\Gl t ps):=⟨Q,YB.out.aN Q⟩;clear x r B3 Q N g1 g2 bB u hg t0 t1 P;have L:=xnew (w:=t) (most:=100) (depth:=10) (room:=10000) ⟨by omega,by omega,by omega,by omega,by omega,by omega⟩;go_upto_region 11 with(go_at_call 14;refine L.mono ?_;rintro e w5 ⟨X5,rfl,E,B,R⟩);have rO:=o.out.1.size;have D:Hid (HdI w w5 ps (t.heap.size+1) FK):=⟨X5,E,o.out.2.aN R,aQ o.out.1 R,λb hb=>by have:=B b hb;omega⟩;generalize t.heap.size+1=z at*;clear L E B R o YB rO;obtain⟨X,a,d,h,i⟩:=D.out;have c:=qopen a d gs0;rw[show(FK.1,FK.2.1,FK.2.2)=FK from rfl,hd_open]at c;go_upto_region 14 with(go_at_call 15;refine c.mono ?_;rintro e w6 ⟨rfl,j⟩);have y:Hid (HdI w w6 ps z pJ):=HdI.next a d h i j;clear c a d h i j D;obtain⟨X,a,d,h,i⟩:=y.out;have c:=GV (pos:=0) (n:=0) (text:=⟨#[104,101,108,108,111]⟩) a d gs1 (by omega) (by decide);rw[show(pJ.1,pJ.2.1,pJ.2.2)=pJ from rfl,hd_a]at c;go_upto_region 15 with(go_at_call 16;refine c.mono ?_;rintro e w7 ⟨rfl,j⟩);have A:Hid (HdI w w7 ps z Xy):=HdI.next a d h i j;clear c a d h i j y;obtain⟨X,a,d,h,i⟩:=A.out;have c:=GV (pos:=5) (n:=0) (text:=⟨#[32,121,111,117]⟩) a d gs2 (by omega) (by decide);rw[show(Xy.1,Xy.2.1,Xy.2.2)=Xy from rfl,hd_b]at c;go_upto_region 16 with(go_at_call 16;refine c.mono ?_;rintro e w8 ⟨rfl,j⟩);have J:Hid (HdI w w8 ps z Ie):=HdI.next a d h i j;clear c a d h i j A;obtain⟨X,a,d,h,i⟩:=J.out;have c:=ZG (pos:=0) (n:=1) a d gs3 (by omega) (by omega);rw[show(Ie.1,Ie.2.1,Ie.2.2)=Ie from rfl,hd_c]at c;go_upto_region 17 with(go_at_call 17;refine c.mono ?_;rintro e w9 ⟨rfl,j⟩);have S:Hid (HdI w w9 ps z QW):=HdI.next a d h i j;clear c a d h i j J;obtain⟨X,a,d,h,i⟩:=S.out;have c:=xread (pos:=0) (n:=8) a gs4 (by omega);rw[show(QW.1,QW.2.1,QW.2.2)=QW from rfl,hd_r]at c
 have HQ:Hid (∀W,aL w9 W->H K 19 #[U (M ⟨z,0,O⟩)] W λe w'=>e=G (.tuple #[I V 3,I V 0])/\w'=W):=λW hW=>by
  have q:=xdone (a.aN hW);rw[hd_d.1,hd_d.2]at q;exact q
 go_upto_region 18 with(go_at_call 18;refine c.mono ?_;rintro e Pz ⟨rfl,yS⟩);have HD:=HQ.out Pz yS;clear c HQ a d i;go_wp2_with (go_at_call 19;refine HD.mono ?_;rintro e t_ ⟨rfl,a0⟩;obtain rfl:=a0.symm);go_ret;exact⟨by simp,aQ h yS⟩
section
variable {w:F} {B wb p:Nat} {ts:List Rec} {rs:List gZ} {bs:List Bool} {D:Int} {dX eZ vp vf vm:Y} {hs gs:List bT} {r:gZ} {ps:Nat->Addr} {a n m k:Int} {s:ByteArray} {fo:Option Addr} {fl fc:Nat}
theorem QE {q:Int}(h:fI w B wb ts rs bs D dX eZ vp vf vm hs gs)(hr:rs[p]?=M r)(hm:i64 m)(hq:q=18\/q=19\/q=20):
 sH w B wb ts.length rs.length bs.length D 23 #[U (M ⟨r.sb,0,O⟩),.agg #[I V q,I V a,I V n,I V m,I V k,.string s,Z fo fl fc]]:=λW g=>by
 have i:=h.dJ r (Aai hr);have c:=(h.pair r (Aai hr)).aN g
 have d:H K 23 #[U (M ⟨r.sb,0,O⟩),.agg #[I V q,I V a,I V n,I V m,I V k,.string s,Z fo fl fc]] W λe j=>e=G (.bool true)/\aL W j:=by
  rcases hq with rfl|rfl|rfl
  ·exact VN c i hm.2
  ·exact xk c i
  ·exact VL c
 refine d.mono ?_;rintro e j ⟨rfl,o⟩;exact⟨rfl,gX.aN h (aQ g o)⟩
end
end Go.Proofs.YtfplgfodoiiobabGreatDoor
