/- KxS5, KxS6, KxZ4, KxC0, KxC (joined). -/
import Derived.Test.YtfplgfodoiiobaaGreatDoorJ56
open Option renaming none→O,some→M
open Go.Value renaming int→I,slice→Z,pointer→U
open Go.IntKind renaming i64→V
open Go.Obj renaming cells→C
open Go.Ending renaming returned→G
open Go renaming World→F,Value→Y,Calls→H
open Go.Proofs.Tryz renaming prog→K
namespace Go.Proofs.YtfplgfodoiiobaaGreatDoor
set_option maxHeartbeats 2000000
set_option maxRecDepth 100000
open Go.RowKit
open Go.ChangeShapes Go.WideShapes Go.ChangeAt Go.RowKit Go.Deep
variable {w W:F}{d n qy aAU j B b:Nat}{v u:Y}{ps:Nat->Addr}{g:Gm}{aB qm X:Nat->Prop}{ep:Int}{aF fs:List bF}{m1:bT}{L:List AF}{t:ByteArray}
def undoI (d:Nat):Nat->Gm->Gm
 |0,g=>g
 |i+1,g=>(nC (undoI d i g) d).1
def redoI (d:Nat):Nat->Gm->Gm
 |0,g=>g
 |i+1,g=>(nD (redoI d i g) d).1
def sameG (g:Gm)(d:Nat):Gm:=redoI d ((undoI d (g.2.1.length+1) g).2.2.1.length+1) (undoI d (g.2.1.length+1) g)
def SamV (w wr:F)(ps:Nat->Addr)(qp d:Nat)(X:Nat->Prop)(B k:Nat)(E:Gm):Prop:=∃g X',g=E/\rO wr ps qp d g k X'/\Dk w wr X X'/\MdAt wr B g d
theorem callG_undo (g:Gm)(pos m:Int)(S:ByteArray)(d:Nat):dL g 3 pos m S d=(nC g d).1:=by simp[dL]
theorem callG_redo (g:Gm)(pos m:Int)(S:ByteArray)(d:Nat):dL g 4 pos m S d=(nD g d).1:=by simp[dL]
theorem ksame_v {qp:Nat}{k:Nat}(h:rO w ps qp d g k X)(hm:eU w v g d)(hk:k<=290)(hd:d<=50):
 H K 19 #[U (M ⟨qp,0,O⟩),v,I V (d:Int)] w fun e w'=>e=G (.bool true)/\BM w w' ps qp d X (sameG g d) (k+102):=by
 obtain⟨su,sr,rfl,h1,h2⟩:=hm.form;obtain⟨uo,un,uc,rfl⟩:=h1.form;obtain⟨ro,rn,rc,rfl⟩:=h2.form
 have hun:un<=50:=by
  obtain⟨ao,cc,e,-⟩:=h1;simp only[Value.slice.injEq]at e;have:=hm.ul;rw[e.2.1,List.length_reverse];omega
 have HUn:Hid (un=g.2.1.length):=by
  obtain⟨ao,cc,e,-⟩:=h1;simp only[Value.slice.injEq]at e;show un=_;rw[e.2.1,List.length_reverse]
 obtain⟨w1,dU⟩:∃w1,w1=w.alloc (C #[.string (aR g.1),Z uo un uc,Z ro rn rc,I V g.2.2.2] 36):=⟨_,rfl⟩;have kT:w1.heap[w.heap.size]?=M (C #[.string (aR g.1),Z uo un uc,Z ro rn rc,I V g.2.2.2] 36 (0,0)):=by rw[dU];exact heap_alloc_new w _
 have G1:aJ w w1:=by rw[dU];exact(aJ.refl w).alloc _
 have Co:Hid (Gl w ps):=h.1;have HSh:Hid (∀W,aJ w1 W->H K 26 #[U (M ⟨qp,0,O⟩),.agg #[.string (aR g.1),Z uo un uc,Z ro rn rc,I V g.2.2.2]] W fun e w'=>e=G (.bool true)/\aJ W w'):=fun W hW=>iL (h.aM (G1.then hW)) (hm.aM (G1.then hW))
 have HS0:Hid (∀W,aJ w1 W->SamV w W ps qp d X w.heap.size k (undoI d 0 g)):=fun W hW=>⟨g,X,rfl,h.aM (G1.then hW),Dk.bH (G1.then hW),uo,un,uc,ro,rn,rc,(hW.block _ (aK kT)).trans kT,hm.aM (G1.then hW)⟩
 obtain⟨c0,c1,c2,c3⟩:=aZ kT;clear h hm h1 h2 kT;go_enter Tryz.func19,Tryz.ntmps19
 go_upto_region 1 with fail
 rw[<-dU];clear dU
 go_upto_region 2 with(go_at_call 26;refine(HSh.out _ (aJ.refl _)).mono ?_;rintro e w2 ⟨rfl,jL⟩)
 have y1:=jL.cell c1;have HS2:Hid (SamV w w2 ps qp d X w.heap.size k (undoI d 0 g)):=HS0.out _ jL;clear c0 c1 c2 c3 jL HSh HS0;have oW:(0:Int)<=(un:Int):=by omega
 go_wp2_with fail
 go_loopw [7,9] (fun vo vi wr=> ∃i:Nat,i<=un+1/\vo= .bool true/\vi=I V (i:Int)/\Hid (SamV w wr ps qp d X w.heap.size (k+i) (undoI d i g))) (fun _ vi _=>un+1-(intOf vi).toNat)
 case atStart=>exact⟨0,by omega,rfl,rfl,HS2⟩
 case round=>
  clear HS2;obtain⟨i,hi,rfl,rfl,HS⟩:=hrel;by_cases bV:i<=un
  ·obtain⟨g1,X1,hE1,s1,k1,Ea,Eb,Ec,Ee,Ag,Ef,bX,BP⟩:=HS.out;have HE1:Hid (g1=undoI d i g):=hE1;clear hE1;obtain⟨c0,c1,c2,c3⟩:=aZ bX;have HC:Hid (∀W,aJ wr W->H K 23 #[U (M ⟨qp,0,O⟩),.agg #[.string (aR g1.1),Z Ea Eb Ec,Z Ee Ag Ef,I V g1.2.2.2],.agg #[I V 3,I V 0,I V 0,I V 0,.string ⟨#[]⟩],I V (d:Int)] W fun e w'=>Mc W w' ps qp d X1 (k+i) e g1 3 0 ⟨#[]⟩):=fun W hW=>KX (s1.aM hW) (BP.aM hW) (by omega) hd (by decide) (by decide) (by decide) (by decide) (by decide)
   have i2:(i:Int)<=(un:Int):=by omega
   have DK:Hid (∀W X3,Dk wr W X1 X3->W.heap[w.heap.size]?=M (C #[.string (aR g1.1),Z Ea Eb Ec,Z Ee Ag Ef,I V g1.2.2.2] 36 (0,0))):=fun W X3 hW=>hW.1.at bX (fun e=>(s1.ty e).ne bX (by decide) rfl)
   have HK1:Hid (Dk w wr X X1):=k1;clear s1 k1 bX BP
   go_upto_region 7 with(go_at_call 23;refine(HC.out _ (aJ.refl _)).mono ?_;rintro e w3 ⟨pos,c,v',rfl,s3,m3⟩;generalize jT:dL g1 3 pos 0 ⟨#[]⟩ d=g3 at s3 m3;have ah:Hid (g3=undoI d (i+1) g):=(by show g3=(nC (undoI d i g) d).1;rw[<-jT,callG_undo,<-HE1.out]);clear jT;obtain⟨su3,sr3,rfl,t1,t2⟩:=m3.form;obtain⟨a1,a2,a3,rfl⟩:=t1.form;obtain⟨b1,b2,b3,rfl⟩:=t2.form;clear t1 t2)
   obtain⟨w4,VL⟩:∃w4,w4=w3.alloc (C #[.string (aR g3.1),Z a1 a2 a3,Z b1 b2 b3,I V g3.2.2.2] 36):=⟨_,rfl⟩;have G4:aJ w3 w4:=by rw[VL];exact(aJ.refl _).alloc _
   have GU:w4.heap[w3.heap.size]?=M (C #[.string (aR g3.1),Z a1 a2 a3,Z b1 b2 b3,I V g3.2.2.2] 36 (0,0)):=by rw[VL];exact heap_alloc_new w3 _
   rw[<-VL];clear VL
   have Nw:w4.heap[w.heap.size]?=M (C #[.string (aR g1.1),Z Ea Eb Ec,Z Ee Ag Ef,I V g1.2.2.2] 36 (0,0)):=by
    obtain⟨X3,-,e3⟩:=s3;have:=DK.out _ _ e3;exact(G4.block _ (aK this)).trans this
   have xE:=KT Co.out (KU (Z_ HK1.out s3) G4) (Nat.le_refl _) Nw (.string (aR g3.1)) (Z a1 a2 a3) (Z b1 b2 b3) (I V g3.2.2.2);have Ux:=(m3.aM G4).sN Nw (.string (aR g3.1)) (Z a1 a2 a3) (Z b1 b2 b3) (I V g3.2.2.2);have Ti:=iP Nw (.string (aR g3.1)) (Z a1 a2 a3) (Z b1 b2 b3) (I V g3.2.2.2);obtain⟨n0,n1,n2,n3⟩:=aZ GU;have HS5:Hid (BM w ((((w4.setCell ⟨w.heap.size,0,O⟩ (.string (aR g3.1))).setCell ⟨w.heap.size,1,O⟩ (Z a1 a2 a3)).setCell ⟨w.heap.size,2,O⟩ (Z b1 b2 b3)).setCell ⟨w.heap.size,3,O⟩ (I V g3.2.2.2)) ps qp d X g3 (k+i+1)):=xE;have RN:Hid (eU ((((w4.setCell ⟨w.heap.size,0,O⟩ (.string (aR g3.1))).setCell ⟨w.heap.size,1,O⟩ (Z a1 a2 a3)).setCell ⟨w.heap.size,2,O⟩ (Z b1 b2 b3)).setCell ⟨w.heap.size,3,O⟩ (I V g3.2.2.2)) (.agg #[.string (aR g3.1),Z a1 a2 a3,Z b1 b2 b3,I V g3.2.2.2]) g3 d):=Ux;clear s3 m3 xE Ux HK1 DK HC c0 c1 c2 c3 G4 GU;refine fZ Nw ?_;intro z0 z1 z2 z3 zf;clear Nw
   go_upto_region 8 with fail
   clear z0 z1 z2 z3 zf n0 n1 n2 n3;generalize ((((w4.setCell ⟨w.heap.size,0,O⟩ (.string (aR g3.1))).setCell ⟨w.heap.size,1,O⟩ (Z a1 a2 a3)).setCell ⟨w.heap.size,2,O⟩ (Z b1 b2 b3)).setCell ⟨w.heap.size,3,O⟩ (I V g3.2.2.2))=w5 at*;obtain⟨X5,s5,k5⟩:=HS5.out;have Cr:=iL s5 RN.out;obtain⟨c0,c1,c2,c3⟩:=aZ Ti;have HN:Hid (∀W,aJ w5 W->SamV w W ps qp d X w.heap.size (k+i+1) (undoI d (i+1) g)):=fun W hW=>⟨g3,X5,ah.out,s5.aM hW,k5.aM hW,a1,a2,a3,b1,b2,b3,(hW.block _ (aK Ti)).trans Ti,RN.out.aM hW⟩
   clear s5 k5 RN HS5 Ti
   go_wp2_with (go_at_call 26;refine Cr.mono ?_;rintro e w6 ⟨rfl,yJ⟩)
   go_roundw
   case rel=>exact⟨i+1,by omega,by first|rfl|simp,by go_num,HN.out _ yJ⟩
   case measure=>simp[intOf];omega
  ·have hiu:i=un+1:=by omega
   subst hiu;have i3:¬((un+1:Nat):Int)<=(un:Int):=by omega
   obtain⟨g1,X1,hE1,s1,k1,Ea,Eb,Ec,Ee,Ag,Ef,bX,BP⟩:=HS.out;obtain⟨c0,c1,c2,c3⟩:=aZ bX;obtain⟨GG,hGG⟩:∃GG,GG=undoI d (un+1) g:=⟨_,rfl⟩;have HGG:Hid (GG=undoI d (un+1) g):=hGG
   have HRn:Hid (Ag=GG.2.2.1.length):=by
    obtain⟨su5,sr5,e5,-,t2⟩:=BP.form;cases e5
    obtain⟨ao,cc,e,-⟩:=t2;simp only[Value.slice.injEq]at e;show Ag=_;rw[e.2.1,List.length_reverse,hE1,hGG]
   have HS2:Hid (SamV w wr ps qp d X w.heap.size (k+(un+1)) (redoI d 0 GG)):=by
    have:=HS.out;rw[<-hGG]at this;exact this
   have MK:Ag<=50:=by
    obtain⟨su5,sr5,e5,-,t2⟩:=BP.form;have TS:=BP.rl;cases e5
    obtain⟨ao,cc,e,-⟩:=t2;simp only[Value.slice.injEq]at e;rw[e.2.1,List.length_reverse];omega
   clear s1 k1 bX BP hE1 hGG HS;have HS:=HS2;clear HS2;generalize hK:k+(un+1)=aD at*;have hK2:aD<=k+51:=by omega
   clear hK
   go_wp2_with fail
   clear c0 c1 c2 c3
   go_loopw [7,14] (fun vo vi wr=> ∃i:Nat,i<=Ag+1/\vo= .bool true/\vi=I V (i:Int)/\Hid (SamV w wr ps qp d X w.heap.size (aD+i) (redoI d i GG))) (fun _ vi _=>Ag+1-(intOf vi).toNat)
   case atStart=>exact⟨0,by omega,rfl,rfl,HS⟩
   case round=>
    clear HS;obtain⟨i,hi,rfl,rfl,HS⟩:=hrel;by_cases bV:i<=Ag
    ·obtain⟨g1,X1,hE1,s1,k1,Ea,Eb,Ec,Ee,rn2,Ef,bX,BP⟩:=HS.out;have HE1:Hid (g1=redoI d i GG):=hE1;clear hE1;obtain⟨c0,c1,c2,c3⟩:=aZ bX;have HC:Hid (∀W,aJ wr W->H K 23 #[U (M ⟨qp,0,O⟩),.agg #[.string (aR g1.1),Z Ea Eb Ec,Z Ee rn2 Ef,I V g1.2.2.2],.agg #[I V 4,I V 0,I V 0,I V 0,.string ⟨#[]⟩],I V (d:Int)] W fun e w'=>Mc W w' ps qp d X1 (aD+i) e g1 4 0 ⟨#[]⟩):=fun W hW=>KX (s1.aM hW) (BP.aM hW) (by omega) hd (by decide) (by decide) (by decide) (by decide) (by decide)
     have i2:(i:Int)<=(Ag:Int):=by omega
     have DK:Hid (∀W X3,Dk wr W X1 X3->W.heap[w.heap.size]?=M (C #[.string (aR g1.1),Z Ea Eb Ec,Z Ee rn2 Ef,I V g1.2.2.2] 36 (0,0))):=fun W X3 hW=>hW.1.at bX (fun e=>(s1.ty e).ne bX (by decide) rfl)
     have HK1:Hid (Dk w wr X X1):=k1;clear s1 k1 bX BP
     go_upto_region 15 with(go_at_call 23;refine(HC.out _ (aJ.refl _)).mono ?_;rintro e w3 ⟨pos,c,v',rfl,s3,m3⟩;generalize jT:dL g1 4 pos 0 ⟨#[]⟩ d=g3 at s3 m3;have ah:Hid (g3=redoI d (i+1) GG):=(by show g3=(nD (redoI d i GG) d).1;rw[<-jT,callG_redo,<-HE1.out]);clear jT;obtain⟨su3,sr3,rfl,t1,t2⟩:=m3.form;obtain⟨a1,a2,a3,rfl⟩:=t1.form;obtain⟨b1,b2,b3,rfl⟩:=t2.form;clear t1 t2)
     obtain⟨w4,VL⟩:∃w4,w4=w3.alloc (C #[.string (aR g3.1),Z a1 a2 a3,Z b1 b2 b3,I V g3.2.2.2] 36):=⟨_,rfl⟩;have G4:aJ w3 w4:=by rw[VL];exact(aJ.refl _).alloc _
     have GU:w4.heap[w3.heap.size]?=M (C #[.string (aR g3.1),Z a1 a2 a3,Z b1 b2 b3,I V g3.2.2.2] 36 (0,0)):=by rw[VL];exact heap_alloc_new w3 _
     rw[<-VL];clear VL
     have Nw:w4.heap[w.heap.size]?=M (C #[.string (aR g1.1),Z Ea Eb Ec,Z Ee rn2 Ef,I V g1.2.2.2] 36 (0,0)):=by
      obtain⟨X3,-,e3⟩:=s3;have:=DK.out _ _ e3;exact(G4.block _ (aK this)).trans this
     have xE:=KT Co.out (KU (Z_ HK1.out s3) G4) (Nat.le_refl _) Nw (.string (aR g3.1)) (Z a1 a2 a3) (Z b1 b2 b3) (I V g3.2.2.2);have Ux:=(m3.aM G4).sN Nw (.string (aR g3.1)) (Z a1 a2 a3) (Z b1 b2 b3) (I V g3.2.2.2);have Ti:=iP Nw (.string (aR g3.1)) (Z a1 a2 a3) (Z b1 b2 b3) (I V g3.2.2.2);obtain⟨n0,n1,n2,n3⟩:=aZ GU;have HS5:Hid (BM w ((((w4.setCell ⟨w.heap.size,0,O⟩ (.string (aR g3.1))).setCell ⟨w.heap.size,1,O⟩ (Z a1 a2 a3)).setCell ⟨w.heap.size,2,O⟩ (Z b1 b2 b3)).setCell ⟨w.heap.size,3,O⟩ (I V g3.2.2.2)) ps qp d X g3 (aD+i+1)):=xE;have RN:Hid (eU ((((w4.setCell ⟨w.heap.size,0,O⟩ (.string (aR g3.1))).setCell ⟨w.heap.size,1,O⟩ (Z a1 a2 a3)).setCell ⟨w.heap.size,2,O⟩ (Z b1 b2 b3)).setCell ⟨w.heap.size,3,O⟩ (I V g3.2.2.2)) (.agg #[.string (aR g3.1),Z a1 a2 a3,Z b1 b2 b3,I V g3.2.2.2]) g3 d):=Ux;clear s3 m3 xE Ux HK1 DK HC c0 c1 c2 c3 G4 GU;refine fZ Nw ?_;intro z0 z1 z2 z3 zf;clear Nw
     go_upto_region 16 with fail
     clear z0 z1 z2 z3 zf n0 n1 n2 n3;generalize ((((w4.setCell ⟨w.heap.size,0,O⟩ (.string (aR g3.1))).setCell ⟨w.heap.size,1,O⟩ (Z a1 a2 a3)).setCell ⟨w.heap.size,2,O⟩ (Z b1 b2 b3)).setCell ⟨w.heap.size,3,O⟩ (I V g3.2.2.2))=w5 at*;obtain⟨X5,s5,k5⟩:=HS5.out;have Cr:=iL s5 RN.out;obtain⟨c0,c1,c2,c3⟩:=aZ Ti;have HN:Hid (∀W,aJ w5 W->SamV w W ps qp d X w.heap.size (aD+i+1) (redoI d (i+1) GG)):=fun W hW=>⟨g3,X5,ah.out,s5.aM hW,k5.aM hW,a1,a2,a3,b1,b2,b3,(hW.block _ (aK Ti)).trans Ti,RN.out.aM hW⟩
     clear s5 k5 RN HS5 Ti
     go_wp2_with (go_at_call 26;refine Cr.mono ?_;rintro e w6 ⟨rfl,yJ⟩)
     go_roundw
     case rel=>exact⟨i+1,by omega,by first|rfl|simp,by go_num,HN.out _ yJ⟩
     case measure=>simp[intOf];omega
    ·have hiu:i=Ag+1:=by omega
     subst hiu;have i3:¬((Ag+1:Nat):Int)<=(Ag:Int):=by omega
     have HE:=HS
     go_wp2_with fail
     go_ret;obtain⟨g9,X9,e9,s9,k9,-⟩:=HE.out;have eGGG:g9=sameG g d:=by rw[e9,HRn.out,HGG.out,HUn.out];rfl
     subst eGGG;exact⟨rfl,X9,s9.more (by omega),k9⟩
structure Ld1 (w W:F)(ps:Nat->Addr)(qy aAU d:Nat)(v:Y)(n:Nat)(g:Gm)(fs:List bF)(aB qm:Nat->Prop):Prop where
 two:Two w W d v n g aB qm
 y:LF W ps qy d fs aB
 z:LF W ps aAU d [] qm
structure Ld2 (w W:F)(ps:Nat->Addr)(qy aAU d:Nat)(v:Y)(n:Nat)(g:Gm)(fs:List bF)(aB qm:Nat->Prop):Prop where
 two:Two w W d v n g aB qm
 y:LF W ps qy d fs aB
 z:LF W ps aAU d fs qm
structure LpSt (w W:F)(ps:Nat->Addr)(qy aAU d:Nat)(v:Y)(n:Nat)(g:Gm)(fs aF:List bF)(ep:Int)(m1:bT)(j:Nat)(h:Int)(aB qm:Nat->Prop):Prop where
 two:Two w W d v n g aB qm
 y:OBt W ps qy d aF ep m1 aB
 z:(h=10/\ZAt W ps aAU d fs ep j qm)\/(h=0/\OAt W ps aAU d aF ep m1 qm)
structure LfSt (w W:F)(ps:Nat->Addr)(qy aAU d:Nat)(v:Y)(n:Nat)(g:Gm)(fs aF:List bF)(ep:Int)(m1:bT)(j:Nat)(aB qm:Nat->Prop):Prop where
 two:Two w W d v n g aB qm
 y:OBt W ps qy d aF ep m1 aB
 z:ZLt W ps aAU d fs ep j qm
structure Fn (w W:F)(ps:Nat->Addr)(qy aAU d:Nat)(v:Y)(n:Nat)(g:Gm)(aF:List bF)(ep:Int)(m1:bT)(aB qm:Nat->Prop):Prop where
 two:Two w W d v n g aB qm
 y:OBt W ps qy d aF ep m1 aB
 z:OBt W ps aAU d aF ep m1 qm
theorem ZLt.ty {qp:Nat}{fs0:List bF}(h:ZLt w ps qp d fs0 ep j X)(hb:X b):lD w b:=by
 obtain⟨-,s,fs,m,hQ,-⟩:=h;exact hQ.ty hb
theorem ld_y {qx:Nat}(h:StP w W ps qx qy aAU d v n g X aB qm)(hI:Img L d g 120)(ht:t.size<=100)(hd:d<=50)(hR:Ad W B u (aAW L t)):
 H K 35 #[U (M ⟨qy,0,O⟩),u] W fun e w'=>e=G (I V 0)/\∃Y',Hid (Ld1 w w' ps qy aAU d v n g (Sm (aAW L t)) Y' qm)/\Hid (Ad w' B u (aAW L t)):=by
 refine(stp_laid h.fy hI (by decide) ht hd hR).mono ?_;rintro e w' ⟨rfl,Y',f,k⟩;exact⟨rfl,Y',⟨h.two.y k (fun b hb=>f.ty hb),f,h.fz.away k.1 h.two.ty (fun b hb hy=>h.yz b hy hb)⟩,hR.q k.1 h.two.ty⟩
theorem ld_z (h:Ld1 w W ps qy aAU d v n g (Sm (aAW L t)) aB qm)(hI:Img L d g 120)(ht:t.size<=100)(hd:d<=50)(hR:Ad W B u (aAW L t)):
 H K 35 #[U (M ⟨aAU,0,O⟩),u] W fun e w'=>e=G (I V 0)/\∃Z',Hid (Ld2 w w' ps qy aAU d v n g (Sm (aAW L t)) aB Z'):=by
 refine(stp_laid h.z hI (by decide) ht hd hR).mono ?_;rintro e w' ⟨rfl,Z',f,k⟩;exact⟨rfl,Z',h.two.z k (fun b hb=>f.ty hb),h.y.away k.1 h.two.tz (fun b hb hz=>h.two.yz b hb hz),f⟩
theorem ld_open (h:Ld2 w W ps qy aAU d v n g (Sm (aAW L t)) aB qm)(hD:Dsk L t d g aF ep m1 j):
 H K 24 #[U (M ⟨qy,0,O⟩)] W fun e w'=>e=G (I V 0)/\∃Y',Hid (LpSt w w' ps qy aAU d v n g (Sm (aAW L t)) aF ep m1 j 10 Y' qm):=by
 refine(half_calm h.y hD.bk hD.rdn hD.buf ⟨_,hD.beg⟩).mono ?_;rintro e w' ⟨rfl,Y',k,f⟩;exact⟨rfl,Y',h.two.y k (fun b hb=>f.ty hb),f,Or.inl ⟨rfl,LF.half (h.z.away k.1 h.two.ty (fun b hb hy=>h.two.yz b hy hb)) hD.bk (laid_fl _)⟩⟩
theorem lp_crash {a:Int}(h:LpSt w W ps qy aAU d v n g fs aF ep m1 j 10 aB qm)(ha:0<=a/\a<=1000):
 H K 21 #[U (M ⟨aAU,0,O⟩),I V a,I V 0,I V 0] W fun e w'=>e=G (I V 0)/\∃Z',Hid (LpSt w w' ps qy aAU d v n g fs aF ep m1 j 10 aB Z'):=by
 rcases h.z with⟨-,hz⟩|⟨e,-⟩
 ·refine(half_crash hz ha).mono ?_;rintro e w' ⟨rfl,Z',f,k⟩;exact⟨rfl,Z',h.two.z k (fun b hb=>f.ty hb),h.y.away k.1 h.two.tz (fun b hb hz=>h.two.yz b hb hz),Or.inl ⟨rfl,f⟩⟩
 ·exact absurd e (by decide)
theorem lp_open (h:LpSt w W ps qy aAU d v n g (Sm (aAW L t)) aF ep m1 j 10 aB qm)(hD:Dsk L t d g aF ep m1 j):
 H K 24 #[U (M ⟨aAU,0,O⟩)] W fun e w'=> ∃c:Int,e=G (I V c)/\(c=0\/c=10)/\∃Z',Hid (LpSt w w' ps qy aAU d v n g (Sm (aAW L t)) aF ep m1 j c aB Z'):=by
 rcases h.z with⟨-,hz⟩|⟨e,-⟩
 ·refine(half_open hz hD.bk (laid_fl _) hD.rdn hD.buf ⟨_,hD.beg⟩).mono ?_;rintro e w' ⟨c,rfl,Z',k,f⟩;refine⟨c,rfl,by rcases f with⟨f,-⟩|⟨f,-⟩<;>simp[f],Z',h.two.z k (fun b hb=>?_),h.y.away k.1 h.two.tz (fun b hb hz=>h.two.yz b hb hz),?_⟩
  ·rcases f with⟨-,f⟩|⟨-,f⟩
   ·exact f.ty hb
   ·exact f.ty hb
  ·rcases f with⟨rfl,f⟩|⟨rfl,f⟩
   ·exact Or.inr ⟨rfl,f⟩
   ·exact Or.inl ⟨rfl,f⟩
 ·exact absurd e (by decide)
theorem lp_far (h:LpSt w W ps qy aAU d v n g fs aF ep m1 j 10 aB qm):
 H K 21 #[U (M ⟨aAU,0,O⟩),I V 1000,I V 0,I V 0] W fun e w'=>e=G (I V 0)/\∃Z',Hid (LfSt w w' ps qy aAU d v n g fs aF ep m1 j aB Z'):=by
 rcases h.z with⟨-,hz⟩|⟨e,-⟩
 ·refine(half_far hz).mono ?_;rintro e w' ⟨rfl,Z',f,k⟩;exact⟨rfl,Z',h.two.z k (fun b hb=>f.ty hb),h.y.away k.1 h.two.tz (fun b hb hz=>h.two.yz b hb hz),f⟩
 ·exact absurd e (by decide)
theorem lf_last (h:LfSt w W ps qy aAU d v n g (Sm (aAW L t)) aF ep m1 j aB qm)(hD:Dsk L t d g aF ep m1 j):
 H K 24 #[U (M ⟨aAU,0,O⟩)] W fun e w'=>e=G (I V 0)/\∃Z',Hid (LpSt w w' ps qy aAU d v n g (Sm (aAW L t)) aF ep m1 j 0 aB Z'):=by
 refine(half_last h.z hD.bk (laid_fl _) hD.rdn hD.buf ⟨_,hD.beg⟩).mono ?_;rintro e w' ⟨rfl,Z',k,f⟩;exact⟨rfl,Z',h.two.z k (fun b hb=>f.ty hb),h.y.away k.1 h.two.tz (fun b hb hz=>h.two.yz b hb hz),Or.inr ⟨rfl,f⟩⟩
theorem lp_end (h:LpSt w W ps qy aAU d v n g fs aF ep m1 j 0 aB qm):
 H K 21 #[U (M ⟨aAU,0,O⟩),I V 1000,I V 0,I V 0] W fun e w'=>e=G (I V 0)/\∃Z',Hid (Fn w w' ps qy aAU d v n g aF ep m1 aB Z'):=by
 rcases h.z with⟨e,-⟩|⟨-,hz⟩
 ·exact absurd e (by decide)
 ·refine(o_crash hz).mono ?_;rintro e w' ⟨rfl,Z',f,k⟩;exact⟨rfl,Z',h.two.z k (fun b hb=>f.ty hb),h.y.away k.1 h.two.tz (fun b hb hz=>h.two.yz b hb hz),f⟩
theorem Fn.aM {W':F}(h:Fn w W ps qy aAU d v n g aF ep m1 aB qm)(hg:aJ W W'):Fn w W' ps qy aAU d v n g aF ep m1 aB qm:=⟨h.two.aM hg,h.y.aM hg,h.z.aM hg⟩
structure EdS (w W:F)(ps:Nat->Addr)(qy aAU:Nat)(D:Int):Prop where
 gr:aJ w W
 y:H K 25 #[U (M ⟨qy,0,O⟩)] W fun e w'=>e=G (.tuple #[I V D,I V 0])/\w'=W
 z:H K 25 #[U (M ⟨aAU,0,O⟩)] W fun e w'=>e=G (.tuple #[I V D,I V 0])/\w'=W
theorem fn_ed (h:Fn w W ps qy aAU d v n g aF ep m1 aB qm):EdS w W ps qy aAU m1.2.2.2.1:=⟨h.two.gr,o_done h.y,o_done h.z⟩
structure SmSt (w W:F)(ps:Nat->Addr)(qy aAU d:Nat)(v:Y)(n:Nat)(g:Gm)(aB qm:Nat->Prop):Prop where
 two:Two w W d v n g aB qm
 y:rO W ps qy d (sameG g d) 352 aB
 z:rO W ps aAU d g 250 qm
theorem fn_sat (h:Fn w W ps qy aAU d v n g aF ep m1 aB qm)(hD:Dsk L t d g aF ep m1 j)(ht:t.size=0):rO W ps qy d g 250 aB/\rO W ps aAU d g 250 qm:=by
 obtain⟨x,tt,hS,e1,e2,e3⟩:=stp_sto hD.img (by decide) ht hD.d50 hD.beg;exact⟨o_sat h.y hS (by decide) e1 e2 e3,o_sat h.z hS (by decide) e1 e2 e3⟩
theorem sm_y (hT:Two w W d v n g aB qm)(hy:rO W ps qy d g 250 aB)(hz:rO W ps aAU d g 250 qm)(hm:eU W u g d)(hd:d<=50):
 H K 19 #[U (M ⟨qy,0,O⟩),u,I V (d:Int)] W fun e w'=>e=G (.bool true)/\∃Y',Hid (SmSt w w' ps qy aAU d v n g Y' qm)/\Hid (Dk W w' aB Y'):=by
 refine(ksame_v hy hm (by decide) hd).mono ?_;rintro e w' ⟨rfl,Y',f,k⟩;exact⟨rfl,Y',⟨hT.y k (fun b hb=>f.ty hb),f,hz.away k.1 hT.ty (fun b hb hy=>hT.yz b hy hb)⟩,k⟩
theorem sm_z (h:SmSt w W ps qy aAU d v n g aB qm)(hm:eU W u g d)(hd:d<=50):
 H K 19 #[U (M ⟨aAU,0,O⟩),u,I V (d:Int)] W fun e w'=>e=G (.bool true)/\Hid (EdS w w' ps qy aAU (sameG g d).2.2.2):=by
 refine(ksame_v h.z hm (by decide) hd).mono ?_;rintro e w' ⟨rfl,Z',f,k⟩;exact⟨rfl,(nV h.two.gr h.two.nz k).1,s_done (h.y.away k.1 h.two.tz (fun b hb hz=>h.two.yz b hb hz)),s_done f⟩
theorem fn_iy {A:List AF}(h:Fn w W ps qy aAU d v n g aF ep m1 aB qm)(hI:dY 1000000 aF)(hl:aF.length<=50)(hA:aF.map (fun f=>(f.1,f.2.1))=A):
 H K 34 #[U (M ⟨qy,0,O⟩)] W fun e w'=> ∃gb,e=G (Z (M ⟨gb,0,O⟩) A.length A.length)/\Ad w' W.heap.size (Z (M ⟨gb,0,O⟩) A.length A.length) A/\aJ W w':=by
 subst hA;rw[List.length_map];exact o_image h.y hI hl
theorem fn_iz {A:List AF}(h:Fn w W ps qy aAU d v n g aF ep m1 aB qm)(hI:dY 1000000 aF)(hl:aF.length<=50)(hA:aF.map (fun f=>(f.1,f.2.1))=A):
 H K 34 #[U (M ⟨aAU,0,O⟩)] W fun e w'=> ∃gb,e=G (Z (M ⟨gb,0,O⟩) A.length A.length)/\Ad w' W.heap.size (Z (M ⟨gb,0,O⟩) A.length A.length) A/\aJ W w':=by
 subst hA;rw[List.length_map];exact o_image h.z hI hl
theorem Two.last {ga c:Nat}(h:Two w W d (Z (M ⟨ga,0,O⟩) (n+1) c) n g aB qm):∃q1 u1 u2 u3 r1 r2 r3 dn,W.cell? ⟨ga,n*4,O⟩=M (.string q1)/\W.cell? ⟨ga,n*4+1,O⟩=M (Z u1 u2 u3)/\W.cell? ⟨ga,n*4+2,O⟩=M (Z r1 r2 r3)/\W.cell? ⟨ga,n*4+3,O⟩=M (I V dn)/\eU W (.agg #[.string q1,Z u1 u2 u3,Z r1 r2 r3,I V dn]) g d:=by
 obtain⟨L,q,B,h1,h2,rfl,-⟩:=h.row;obtain⟨g',cap,e,-,-,z0,z1,z2,z3⟩:=h1.last;simp only[Value.slice.injEq,Option.some.injEq]at e;have eg:=e.1;cases eg
 exact⟨_,_,_,_,_,_,_,_,z0,z1,z2,z3,h2⟩
theorem pick_v {c n:Int}(Ig: -9223372036854775808<=c)(Oo:c<=9223372036854775807)(hn:1<=n)(oW:n<=9223372036854775807):∃r:Int,0<=r/\r<n/\∀w,H K 15 #[I V c,I V n] w fun e w'=>e=G (I V r)/\w'=w:=by
 by_cases h0:c<0
 ·have Yo:(n==0)=false:=by simp;omega
  refine⟨-((c+1).tmod n),?_,?_,fun w=>?_⟩
  ·rw[<-Int.neg_tmod];exact(SI (by omega) hn).1
  ·rw[<-Int.neg_tmod];exact(SI (by omega) hn).2
  ·go_enter Tryz.func15,Tryz.ntmps15
   go_wp2
   go_ret;exact⟨rfl,rfl⟩
 ·have Yo:(n==0)=false:=by simp;omega
  refine⟨c % n,Int.emod_nonneg _ (by omega),Int.emod_lt_of_pos _ (by omega),fun w=>?_⟩;go_enter Tryz.func15,Tryz.ntmps15
  go_wp2
  go_ret;exact⟨rfl,rfl⟩
theorem take_one {i:Nat}{f:AF}(h:L[i]?=M f):L.take (i+1)=L.take i++ [f]:=by
 have bV:=(List.getElem?_eq_some_iff.1 h).1;rw[List.take_succ_eq_append_getElem bV,(List.getElem?_eq_some_iff.1 h).2]
theorem rda_at {gb:Nat}{i:Nat}{f:AF}(h:Ad w B (Z (M ⟨gb,0,O⟩) L.length L.length) L)(hf:L[i]?=M f):w.cell? ⟨gb,i*2,O⟩=M (I V f.1)/\w.cell? ⟨gb,i*2+1,O⟩=M (.string f.2):=by
 obtain⟨ao,cap,e,hr,-⟩:=Ad.rdh h;simp only[Value.slice.injEq]at e;obtain⟨rfl,-,-⟩:=e;rcases hr.1 with hr|⟨b,off,e,hr⟩
 ·rw[hr]at hf;cases hf
 ·cases e
  have:=hr i f hf;simpa using this
theorem grew_set1 {w0:F}(h:aJ w0 w)(hb:w0.heap.size<=b)(v:Y):aJ w0 (w.setCell ⟨b,1,O⟩ v):=by
 have hF:=Fr.set w ⟨b,1,O⟩ v;exact⟨h.os,h.tape,h.output,Nat.le_trans h.size hF.1,fun k hk=>(hF.2 k (Nat.lt_of_lt_of_le hk h.size) (fun e=>by have:k=b:=e;omega)).trans (h.block k hk)⟩
theorem af_set1 {R:Nat}{a b:Y}(h:W.heap[R]?=M (C #[a,b] 58 (0,0)))(b':Y):(W.setCell ⟨R,1,O⟩ b').heap[R]?=M (C #[a,b'] 58 (0,0)):=by rw[heap_setCell_same W R 1 _ _ _ h];rfl
theorem aAC {x y:Y}{P:Prop}(h:w.heap[b]?=M (C #[x,y] 58 (0,0)))(k:w.cell? ⟨b,0,O⟩=M x->w.cell? ⟨b,1,O⟩=M y->(∀j,w.frozen? ⟨b,j,O⟩=false)->P):P:=k (by simp[World.cell?,h]) (by simp[World.cell?,h]) (fun j=>by simp[World.frozen?,h])
theorem Ad.gr {w':F}{l:List AF}(h:Ad w B v l)(hg:aJ w w'):Ad w' B v l:=fK h (Fr.dO hg (fun _=>False)) (fun _ _ _ _=>id)
theorem rda_new (w:F)(a:Int)(b:ByteArray):TD (w.alloc (C #[I V a,.string b] 58)) (M ⟨w.heap.size,0,O⟩) [(a,b)]:=by
 refine Or.inr ⟨w.heap.size,0,rfl,fun i f hf=>?_⟩;have hb:=heap_alloc_new w (C #[I V a,.string b] 58)
 have hi:i=0:=by
  have:=(List.getElem?_eq_some_iff.1 hf).1;simp at this;exact this
 subst hi;simp at hf;subst hf;exact aAC hb (fun a b _=>⟨a,b⟩)
theorem ownA_gr {w0 w':F}{aI:List AF}(h:Ad w w0.heap.size v aI)(hg:w.grownBy w' v.ownBlock)(h0:aJ w0 w):aJ w0 w':=by
 refine⟨hg.os.trans h0.os,hg.tape.trans h0.tape,hg.output.trans h0.output,Nat.le_trans h0.size hg.size,fun b hb=>(hg.block b (Nat.lt_of_lt_of_le hb h0.size) (fun e=>?_)).trans (h0.block b hb)⟩;have:=(World.ownsRow.lt h b e.symm).1;omega
end Go.Proofs.YtfplgfodoiiobaaGreatDoor
