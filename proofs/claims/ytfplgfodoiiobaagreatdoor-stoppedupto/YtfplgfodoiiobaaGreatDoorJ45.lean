/- KwO, KwP (joined). -/
import Derived.Test.YtfplgfodoiiobaaGreatDoorJ44
open Option renaming none→O,some→M
open Go.Value renaming int→I,slice→Z,pointer→U
open Go.IntKind renaming i64→V
open Go.Obj renaming cells→C
open Go.Ending renaming returned→G
open Go renaming World→F,Value→Y,Calls→H
open Go.Proofs.Tryz renaming prog→K
namespace Go.Proofs.YtfplgfodoiiobaaGreatDoor
set_option maxHeartbeats 2000000
set_option maxRecDepth 100000
open Go.RowKit
variable {w w':F}{v:Y}{B:Nat}
def MdAt (w:F)(B:Nat)(g:Gm)(d:Nat):Prop:=∃uo un uc ro rn rc,w.heap[B]?=M (C #[.string (aR g.1),Z uo un uc,Z ro rn rc,I V g.2.2.2] 36 (0,0))/\eU w (.agg #[.string (aR g.1),Z uo un uc,Z ro rn rc,I V g.2.2.2]) g d
def ZJ (w wr:F)(ps:Nat->Addr)(qp d:Nat)(X:Nat->Prop)(B k:Nat):Prop:=∃g X',rO wr ps qp d g k X'/\Dk w wr X X'/\MdAt wr B g d
def SamO (w w':F)(ps:Nat->Addr)(qp d:Nat)(X:Nat->Prop)(k:Nat):Prop:=∃g,BM w w' ps qp d X g k
theorem mF {ps:Nat->Addr}{qp d:Nat}{g:Gm}{k:Nat}{X:Nat->Prop}(h:rO w ps qp d g k X)(hm:eU w v g d)(hk:k<=290)(hd:d<=50):
 H K 19 #[U (M ⟨qp,0,O⟩),v,I V (d:Int)] w fun e w'=>e=G (.bool true)/\SamO w w' ps qp d X (k+102):=by
 obtain⟨su,sr,rfl,h1,h2⟩:=hm.form;obtain⟨uo,un,uc,rfl⟩:=h1.form;obtain⟨ro,rn,rc,rfl⟩:=h2.form
 have hun:un<=50:=by
  obtain⟨ao,cc,e,-⟩:=h1;simp only[Value.slice.injEq]at e;have:=hm.ul;rw[e.2.1,List.length_reverse];omega
 obtain⟨w1,dU⟩:∃w1,w1=w.alloc (C #[.string (aR g.1),Z uo un uc,Z ro rn rc,I V g.2.2.2] 36):=⟨_,rfl⟩;have kT:w1.heap[w.heap.size]?=M (C #[.string (aR g.1),Z uo un uc,Z ro rn rc,I V g.2.2.2] 36 (0,0)):=by rw[dU];exact heap_alloc_new w _
 have G1:aJ w w1:=by rw[dU];exact(aJ.refl w).alloc _
 have Co:Hid (Gl w ps):=h.1;have HSh:Hid (∀W,aJ w1 W->H K 26 #[U (M ⟨qp,0,O⟩),.agg #[.string (aR g.1),Z uo un uc,Z ro rn rc,I V g.2.2.2]] W fun e w'=>e=G (.bool true)/\aJ W w'):=fun W hW=>iL (h.aM (G1.then hW)) (hm.aM (G1.then hW))
 have HS0:Hid (∀W,aJ w1 W->ZJ w W ps qp d X w.heap.size k):=fun W hW=>⟨g,X,h.aM (G1.then hW),Dk.bH (G1.then hW),uo,un,uc,ro,rn,rc,(hW.block _ (aK kT)).trans kT,hm.aM (G1.then hW)⟩
 obtain⟨c0,c1,c2,c3⟩:=aZ kT;clear h hm h1 h2 kT;go_enter Tryz.func19,Tryz.ntmps19
 go_upto_region 1 with fail
 rw[<-dU];clear dU
 go_upto_region 2 with(go_at_call 26;refine(HSh.out _ (aJ.refl _)).mono ?_;rintro e w2 ⟨rfl,jL⟩)
 have y1:=jL.cell c1;have HS2:Hid (ZJ w w2 ps qp d X w.heap.size k):=HS0.out _ jL;clear c0 c1 c2 c3 jL HSh HS0;have oW:(0:Int)<=(un:Int):=by omega
 go_wp2_with fail
 go_loopw [7,9] (fun vo vi wr=> ∃i:Nat,i<=un+1/\vo= .bool true/\vi=I V (i:Int)/\Hid (ZJ w wr ps qp d X w.heap.size (k+i))) (fun _ vi _=>un+1-(intOf vi).toNat)
 case atStart=>exact⟨0,by omega,rfl,rfl,HS2⟩
 case round=>
  clear HS2;obtain⟨i,hi,rfl,rfl,HS⟩:=hrel;by_cases bV:i<=un
  ·obtain⟨g1,X1,s1,k1,Ea,Eb,Ec,Ee,Ag,Ef,bX,BP⟩:=HS.out;obtain⟨c0,c1,c2,c3⟩:=aZ bX;have HC:Hid (∀W,aJ wr W->H K 23 #[U (M ⟨qp,0,O⟩),.agg #[.string (aR g1.1),Z Ea Eb Ec,Z Ee Ag Ef,I V g1.2.2.2],.agg #[I V 3,I V 0,I V 0,I V 0,.string ⟨#[]⟩],I V (d:Int)] W fun e w'=>Mc W w' ps qp d X1 (k+i) e g1 3 0 ⟨#[]⟩):=fun W hW=>KX (s1.aM hW) (BP.aM hW) (by omega) hd (by decide) (by decide) (by decide) (by decide) (by decide)
   have i2:(i:Int)<=(un:Int):=by omega
   have DK:Hid (∀W X3,Dk wr W X1 X3->W.heap[w.heap.size]?=M (C #[.string (aR g1.1),Z Ea Eb Ec,Z Ee Ag Ef,I V g1.2.2.2] 36 (0,0))):=fun W X3 hW=>hW.1.at bX (fun e=>(s1.ty e).ne bX (by decide) rfl)
   have HK1:Hid (Dk w wr X X1):=k1;clear s1 k1 bX BP
   go_upto_region 7 with(go_at_call 23;refine(HC.out _ (aJ.refl _)).mono ?_;rintro e w3 ⟨pos,c,v',rfl,s3,m3⟩;generalize dL g1 3 pos 0 ⟨#[]⟩ d=g3 at s3 m3;obtain⟨su3,sr3,rfl,t1,t2⟩:=m3.form;obtain⟨a1,a2,a3,rfl⟩:=t1.form;obtain⟨b1,b2,b3,rfl⟩:=t2.form;clear t1 t2)
   obtain⟨w4,VL⟩:∃w4,w4=w3.alloc (C #[.string (aR g3.1),Z a1 a2 a3,Z b1 b2 b3,I V g3.2.2.2] 36):=⟨_,rfl⟩;have G4:aJ w3 w4:=by rw[VL];exact(aJ.refl _).alloc _
   have GU:w4.heap[w3.heap.size]?=M (C #[.string (aR g3.1),Z a1 a2 a3,Z b1 b2 b3,I V g3.2.2.2] 36 (0,0)):=by rw[VL];exact heap_alloc_new w3 _
   rw[<-VL];clear VL
   have Nw:w4.heap[w.heap.size]?=M (C #[.string (aR g1.1),Z Ea Eb Ec,Z Ee Ag Ef,I V g1.2.2.2] 36 (0,0)):=by
    obtain⟨X3,-,e3⟩:=s3;have:=DK.out _ _ e3;exact(G4.block _ (aK this)).trans this
   have xE:=KT Co.out (KU (Z_ HK1.out s3) G4) (Nat.le_refl _) Nw (.string (aR g3.1)) (Z a1 a2 a3) (Z b1 b2 b3) (I V g3.2.2.2);have Ux:=(m3.aM G4).sN Nw (.string (aR g3.1)) (Z a1 a2 a3) (Z b1 b2 b3) (I V g3.2.2.2);have Ti:=iP Nw (.string (aR g3.1)) (Z a1 a2 a3) (Z b1 b2 b3) (I V g3.2.2.2);obtain⟨n0,n1,n2,n3⟩:=aZ GU;have HS5:Hid (BM w ((((w4.setCell ⟨w.heap.size,0,O⟩ (.string (aR g3.1))).setCell ⟨w.heap.size,1,O⟩ (Z a1 a2 a3)).setCell ⟨w.heap.size,2,O⟩ (Z b1 b2 b3)).setCell ⟨w.heap.size,3,O⟩ (I V g3.2.2.2)) ps qp d X g3 (k+i+1)):=xE;have RN:Hid (eU ((((w4.setCell ⟨w.heap.size,0,O⟩ (.string (aR g3.1))).setCell ⟨w.heap.size,1,O⟩ (Z a1 a2 a3)).setCell ⟨w.heap.size,2,O⟩ (Z b1 b2 b3)).setCell ⟨w.heap.size,3,O⟩ (I V g3.2.2.2)) (.agg #[.string (aR g3.1),Z a1 a2 a3,Z b1 b2 b3,I V g3.2.2.2]) g3 d):=Ux;clear s3 m3 xE Ux HK1 DK HC c0 c1 c2 c3 G4 GU;refine fZ Nw ?_;intro z0 z1 z2 z3 zf;clear Nw
   go_upto_region 8 with fail
   clear z0 z1 z2 z3 zf n0 n1 n2 n3;generalize ((((w4.setCell ⟨w.heap.size,0,O⟩ (.string (aR g3.1))).setCell ⟨w.heap.size,1,O⟩ (Z a1 a2 a3)).setCell ⟨w.heap.size,2,O⟩ (Z b1 b2 b3)).setCell ⟨w.heap.size,3,O⟩ (I V g3.2.2.2))=w5 at*;obtain⟨X5,s5,k5⟩:=HS5.out;have Cr:=iL s5 RN.out;obtain⟨c0,c1,c2,c3⟩:=aZ Ti;have HN:Hid (∀W,aJ w5 W->ZJ w W ps qp d X w.heap.size (k+i+1)):=fun W hW=>⟨g3,X5,s5.aM hW,k5.aM hW,a1,a2,a3,b1,b2,b3,(hW.block _ (aK Ti)).trans Ti,RN.out.aM hW⟩
   clear s5 k5 RN HS5 Ti
   go_wp2_with (go_at_call 26;refine Cr.mono ?_;rintro e w6 ⟨rfl,yJ⟩)
   go_roundw
   case rel=>exact⟨i+1,by omega,by first|rfl|simp,by go_num,HN.out _ yJ⟩
   case measure=>simp[intOf];omega
  ·have hiu:i=un+1:=by omega
   subst hiu;have i3:¬((un+1:Nat):Int)<=(un:Int):=by omega
   obtain⟨g1,X1,s1,k1,Ea,Eb,Ec,Ee,Ag,Ef,bX,BP⟩:=HS.out;obtain⟨c0,c1,c2,c3⟩:=aZ bX
   have MK:Ag<=50:=by
    obtain⟨su5,sr5,e5,-,t2⟩:=BP.form;have TS:=BP.rl;cases e5
    obtain⟨ao,cc,e,-⟩:=t2;simp only[Value.slice.injEq]at e;rw[e.2.1,List.length_reverse];omega
   clear s1 k1 bX BP;generalize hK:k+(un+1)=aD at*;have hK2:aD<=k+51:=by omega
   clear hK
   go_wp2_with fail
   clear c0 c1 c2 c3
   go_loopw [7,14] (fun vo vi wr=> ∃i:Nat,i<=Ag+1/\vo= .bool true/\vi=I V (i:Int)/\Hid (ZJ w wr ps qp d X w.heap.size (aD+i))) (fun _ vi _=>Ag+1-(intOf vi).toNat)
   case atStart=>exact⟨0,by omega,rfl,rfl,HS⟩
   case round=>
    clear HS;obtain⟨i,hi,rfl,rfl,HS⟩:=hrel;by_cases bV:i<=Ag
    ·obtain⟨g1,X1,s1,k1,Ea,Eb,Ec,Ee,rn2,Ef,bX,BP⟩:=HS.out;obtain⟨c0,c1,c2,c3⟩:=aZ bX;have HC:Hid (∀W,aJ wr W->H K 23 #[U (M ⟨qp,0,O⟩),.agg #[.string (aR g1.1),Z Ea Eb Ec,Z Ee rn2 Ef,I V g1.2.2.2],.agg #[I V 4,I V 0,I V 0,I V 0,.string ⟨#[]⟩],I V (d:Int)] W fun e w'=>Mc W w' ps qp d X1 (aD+i) e g1 4 0 ⟨#[]⟩):=fun W hW=>KX (s1.aM hW) (BP.aM hW) (by omega) hd (by decide) (by decide) (by decide) (by decide) (by decide)
     have i2:(i:Int)<=(Ag:Int):=by omega
     have DK:Hid (∀W X3,Dk wr W X1 X3->W.heap[w.heap.size]?=M (C #[.string (aR g1.1),Z Ea Eb Ec,Z Ee rn2 Ef,I V g1.2.2.2] 36 (0,0))):=fun W X3 hW=>hW.1.at bX (fun e=>(s1.ty e).ne bX (by decide) rfl)
     have HK1:Hid (Dk w wr X X1):=k1;clear s1 k1 bX BP
     go_upto_region 15 with(go_at_call 23;refine(HC.out _ (aJ.refl _)).mono ?_;rintro e w3 ⟨pos,c,v',rfl,s3,m3⟩;generalize dL g1 4 pos 0 ⟨#[]⟩ d=g3 at s3 m3;obtain⟨su3,sr3,rfl,t1,t2⟩:=m3.form;obtain⟨a1,a2,a3,rfl⟩:=t1.form;obtain⟨b1,b2,b3,rfl⟩:=t2.form;clear t1 t2)
     obtain⟨w4,VL⟩:∃w4,w4=w3.alloc (C #[.string (aR g3.1),Z a1 a2 a3,Z b1 b2 b3,I V g3.2.2.2] 36):=⟨_,rfl⟩;have G4:aJ w3 w4:=by rw[VL];exact(aJ.refl _).alloc _
     have GU:w4.heap[w3.heap.size]?=M (C #[.string (aR g3.1),Z a1 a2 a3,Z b1 b2 b3,I V g3.2.2.2] 36 (0,0)):=by rw[VL];exact heap_alloc_new w3 _
     rw[<-VL];clear VL
     have Nw:w4.heap[w.heap.size]?=M (C #[.string (aR g1.1),Z Ea Eb Ec,Z Ee rn2 Ef,I V g1.2.2.2] 36 (0,0)):=by
      obtain⟨X3,-,e3⟩:=s3;have:=DK.out _ _ e3;exact(G4.block _ (aK this)).trans this
     have xE:=KT Co.out (KU (Z_ HK1.out s3) G4) (Nat.le_refl _) Nw (.string (aR g3.1)) (Z a1 a2 a3) (Z b1 b2 b3) (I V g3.2.2.2);have Ux:=(m3.aM G4).sN Nw (.string (aR g3.1)) (Z a1 a2 a3) (Z b1 b2 b3) (I V g3.2.2.2);have Ti:=iP Nw (.string (aR g3.1)) (Z a1 a2 a3) (Z b1 b2 b3) (I V g3.2.2.2);obtain⟨n0,n1,n2,n3⟩:=aZ GU;have HS5:Hid (BM w ((((w4.setCell ⟨w.heap.size,0,O⟩ (.string (aR g3.1))).setCell ⟨w.heap.size,1,O⟩ (Z a1 a2 a3)).setCell ⟨w.heap.size,2,O⟩ (Z b1 b2 b3)).setCell ⟨w.heap.size,3,O⟩ (I V g3.2.2.2)) ps qp d X g3 (aD+i+1)):=xE;have RN:Hid (eU ((((w4.setCell ⟨w.heap.size,0,O⟩ (.string (aR g3.1))).setCell ⟨w.heap.size,1,O⟩ (Z a1 a2 a3)).setCell ⟨w.heap.size,2,O⟩ (Z b1 b2 b3)).setCell ⟨w.heap.size,3,O⟩ (I V g3.2.2.2)) (.agg #[.string (aR g3.1),Z a1 a2 a3,Z b1 b2 b3,I V g3.2.2.2]) g3 d):=Ux;clear s3 m3 xE Ux HK1 DK HC c0 c1 c2 c3 G4 GU;refine fZ Nw ?_;intro z0 z1 z2 z3 zf;clear Nw
     go_upto_region 16 with fail
     clear z0 z1 z2 z3 zf n0 n1 n2 n3;generalize ((((w4.setCell ⟨w.heap.size,0,O⟩ (.string (aR g3.1))).setCell ⟨w.heap.size,1,O⟩ (Z a1 a2 a3)).setCell ⟨w.heap.size,2,O⟩ (Z b1 b2 b3)).setCell ⟨w.heap.size,3,O⟩ (I V g3.2.2.2))=w5 at*;obtain⟨X5,s5,k5⟩:=HS5.out;have Cr:=iL s5 RN.out;obtain⟨c0,c1,c2,c3⟩:=aZ Ti;have HN:Hid (∀W,aJ w5 W->ZJ w W ps qp d X w.heap.size (aD+i+1)):=fun W hW=>⟨g3,X5,s5.aM hW,k5.aM hW,a1,a2,a3,b1,b2,b3,(hW.block _ (aK Ti)).trans Ti,RN.out.aM hW⟩
     clear s5 k5 RN HS5 Ti
     go_wp2_with (go_at_call 26;refine Cr.mono ?_;rintro e w6 ⟨rfl,yJ⟩)
     go_roundw
     case rel=>exact⟨i+1,by omega,by first|rfl|simp,by go_num,HN.out _ yJ⟩
     case measure=>simp[intOf];omega
    ·have hiu:i=Ag+1:=by omega
     subst hiu;have i3:¬((Ag+1:Nat):Int)<=(Ag:Int):=by omega
     have HE:=HS
     go_wp2_with fail
     go_ret;obtain⟨g9,X9,s9,k9,-⟩:=HE.out;exact⟨rfl,g9,X9,s9.more (by omega),k9⟩
abbrev MQ:=ByteArray×(Option Addr×Nat×Nat)×(Option Addr×Nat×Nat)×Int
variable {l:List MQ}
def MQ.cells (x:MQ):List Y:=[.string x.1,Z x.2.1.1 x.2.1.2.1 x.2.1.2.2,Z x.2.2.1.1 x.2.2.1.2.1 x.2.2.1.2.2,I V x.2.2.2]
def MQ.agg (x:MQ):Y:= .agg #[.string x.1,Z x.2.1.1 x.2.1.2.1 x.2.1.2.2,Z x.2.2.1.1 x.2.2.1.2.1 x.2.2.1.2.2,I V x.2.2.2]
def dm (l:List MQ):List Y:=l.flatMap MQ.cells
theorem Sj (a b:List MQ):dm (a++b)=dm a++dm b:=by simp[dm]
theorem RO (l:List MQ):(dm l).length=l.length*4:=by
 induction l with
 |nil=>rfl
 |cons a l ih=>simp[dm,MQ.cells]at ih ⊢;omega
def nW (w:F)(B:Nat)(v:Y)(l:List MQ):Prop:=w.ownsRow B 36 4 v l.length (dm l)
theorem nW.fr {X:Nat->Prop}(h:nW w B v l)(hF:Fr w w' X)(hx:∀b aT,B<=b->w.heap[b]?=M (C aT 36 (0,0))->¬X b):nW w' B v l:=
 fK h hF (fun b aT hb hh e=>hx b aT (World.ownsRow.lt h b hb).1 hh e)
theorem nW.aM (h:nW w B v l)(hg:aJ w w'):nW w' B v l:=h.fr (Fr.dO hg (fun _=>False)) (fun _ _ _ _=>id)
theorem nW.q {aB:Nat->Prop}(h:nW w B v l)(hF:Fr w w' aB)(hY:∀b,aB b->lD w b):nW w' B v l:=h.fr hF (fun b aT _ hb e=>(hY _ e).ne hb (by decide) rfl)
theorem Tryz.infoMd:(Tryz.prog.info? 36).map (fun i=>(i.zero,i.size,i.bytes))=M (M (.agg #[.string ⟨#[]⟩,Z O 0 0,Z O 0 0,I V 0]),4,72):=by kernel_rfl
theorem BS {ops:Array Oper}{rest:List Oper}{o:Oper}{a:Act}{Q:Exit->Act->F->Prop}(Bq:o.guard=O)(s x:Operand)
 (ho:o.op= .call { callee:= .builtin .append,args:=#[s,x],argTypes:=#[30,30] })
 (base:Nat)(v:Y)(ys:List MQ)(z:MQ)(hs:a.eval s=v)(cZ:nW w base v ys)(ad:Addr)(m c:Nat)(hx:a.eval x=Z (M ad) m c)(hm:m=1)(hr:∀j u,(dm [z])[j]?=M u->w.cell? (ad.add j)=M u)
 (hlen:ys.length<=1000000000)(kW:base<=w.heap.size)
 (h:∀v' w',nW w' base v' (ys++ [z])->w.grownBy w' v.ownBlock->wpList K ops Q rest (a.put o.dst v') w'):wpList K ops Q (o::rest) a w:=by
 obtain⟨i0,hi,tO,tQ,uW⟩:=info_parts Tryz.infoMd;subst hm;refine wpList_append_own w Bq s x 30 ho base 36 i0 (.agg #[.string ⟨#[]⟩,Z O 0 0,Z O 0 0,I V 0]) 4 72 Tryz.underlying30 hi tO tQ uW rfl (by decide) v ys.length (dm ys) hs cZ ad 1 c (dm [z]) hx rfl hr ?_ (by unfold maxLen;omega) (by omega) kW ?_
 ·intro u hu;obtain⟨p,-,hp⟩:=List.mem_flatMap.1 hu;simp[MQ.cells]at hp;rcases hp with rfl|rfl|rfl|rfl<;>rfl
 ·intro v' w' h1 h2 _;refine h v' w' ?_ h2;unfold nW;rw[Sj,List.length_append];exact h1
theorem nW.last {q:MQ}(h:nW w B v (l++ [q])):∃g cap,v=Z (M ⟨g,0,O⟩) (l.length+1) cap/\l.length+1<=cap/\B<=g/\w.cell? ⟨g,l.length*4,O⟩=M (.string q.1)/\w.cell? ⟨g,l.length*4+1,O⟩=M (Z q.2.1.1 q.2.1.2.1 q.2.1.2.2)/\w.cell? ⟨g,l.length*4+2,O⟩=M (Z q.2.2.1.1 q.2.2.1.2.1 q.2.2.1.2.2)/\w.cell? ⟨g,l.length*4+3,O⟩=M (I V q.2.2.2):=by
 have h0:w.ownsRow B 36 4 v (l.length+1) (dm (l++ [q])):=by
  have:=h;unfold nW at this;rwa[List.length_append]at this
 rcases h0.2 with⟨-,e⟩|⟨g,cap,aT,rfl,ZU,-,hnc,-⟩
 ·omega
 ·have hc:=fun j hj=>World.ownsRow.cellAt h0 j hj
  have hlen:=RO l
  have key:∀j,j<4->w.cell? ⟨g,l.length*4+j,O⟩=(MQ.cells q)[j]?:=fun j hj=>by
   rw[hc _ (by omega),Sj,List.getElem?_append_right (by omega),hlen];simp[dm]
  exact⟨g,cap,rfl,hnc,ZU,key 0 (by omega),key 1 (by omega),key 2 (by omega),key 3 (by omega)⟩
end Go.Proofs.YtfplgfodoiiobaaGreatDoor
