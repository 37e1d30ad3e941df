/- KwQ, KwR (joined). -/
import Derived.Test.YtfplgfodoiiobaaGreatDoorJ47
open Option renaming none→O,some→M
open Go.Value renaming int→I,slice→Z,pointer→U
open Go.IntKind renaming i64→V
open Go.Obj renaming cells→C
open Go.Ending renaming returned→G
open Go renaming World→F,Value→Y,Calls→H
open Go.Proofs.Tryz renaming prog→K
namespace Go.Proofs.YtfplgfodoiiobaaGreatDoor
set_option maxHeartbeats 2000000
set_option maxRecDepth 100000
open Go.RowKit
variable {w w':F}{ao:Option Addr}{len d R:Nat}{X:Nat->Prop}{v:Y}{ps:Nat->Addr}
def ActAt (w:F)(b o:Nat)(q n m kk:Int)(S:ByteArray):Prop:=(-9223372036854775808<=n/\n<=9223372036854775807)/\(-9223372036854775808<=m/\m<=9223372036854775807)/\S.size<=140737488355328/\w.cell? ⟨b,o,O⟩=M (I V q)/\w.cell? ⟨b,o+1,O⟩=M (I V n)/\w.cell? ⟨b,o+2,O⟩=M (I V m)/\w.cell? ⟨b,o+3,O⟩=M (I V kk)/\w.cell? ⟨b,o+4,O⟩=M (.string S)
def Cz (w:F)(N:Nat)(ao:Option Addr)(len:Nat):Prop:=len=0\/∃b off,ao=M ⟨b,off,O⟩/\b<N/\∀i,i<len->∃q n m kk S,ActAt w b (off+i*5) q n m kk S
theorem Cz.dk {N:Nat}{X':Nat->Prop}(h:Cz w N ao len)(hk:Dk w w' X X')(hN:N<=w.heap.size)(hX:∀b,X b->N<=b):Cz w' N ao len:=by
 rcases h with h|⟨b,off,e,hb,h⟩
 ·exact Or.inl h
 ·refine Or.inr ⟨b,off,e,hb,fun i hi=>?_⟩;obtain⟨q,n,m,kk,S,h1,h2,h3,c0,c1,c2,c3,c4⟩:=h i hi;have hbb:w'.heap[b]?=w.heap[b]?:=hk.1.2 b (by omega) (fun e=>by have:=hX b e;omega);have key:∀(o:Nat) (v:Y),w.cell? ⟨b,o,O⟩=M v->w'.cell? ⟨b,o,O⟩=M v:=fun o v hv=>(World.cell?_of_block (a:=⟨b,o,O⟩) hbb).trans hv
  exact⟨q,n,m,kk,S,h1,h2,h3,key _ _ c0,key _ _ c1,key _ _ c2,key _ _ c3,key _ _ c4⟩
theorem SF (g:Gm)(kind pos m:Int)(S:ByteArray)(d:Nat):iZ g kind pos m S d=g\/(iZ g kind pos m S d).2.2.2=g.2.2.2+1:=by
 unfold iZ uT Cr sU uH;split
 ·split
  ·exact Or.inl rfl
  ·split
   ·exact Or.inl rfl
   ·split
    ·exact Or.inl rfl
    ·exact Or.inr rfl
 ·split
  ·split
   ·exact Or.inl rfl
   ·exact Or.inr rfl
  ·split
   ·split
    ·exact Or.inl rfl
    ·rename_i hz;cases hl:g.2.1 with
     |nil=>exact absurd hl hz
     |cons f l=>exact Or.inr (by simp[qL,hl])
   ·split
    ·split
     ·exact Or.inl rfl
     ·rename_i hz;cases hl:g.2.2.1 with
      |nil=>exact absurd hl hz
      |cons f l=>exact Or.inr (by simp[xX,hl])
    ·exact Or.inl rfl
def TM (w wr:F)(ps:Nat->Addr)(qp d:Nat)(X:Nat->Prop)(i:Nat)(v:Y):Prop:=∃g X' L q,qM wr ps qp d g i X'/\Dk w wr X X'/\MdAt wr w.heap.size g d/\eZ wr (MQ.agg q) g d/\nH wr (w.heap.size+1) v (L++ [q])/\L.length<=i
def PlD (w wr:F)(ps:Nat->Addr)(qp d:Nat)(X:Nat->Prop)(v:Y):Prop:=∃g X' L q,qM wr ps qp d g 120 X'/\Dk w wr X X'/\eZ wr (MQ.agg q) g d/\nH wr (w.heap.size+1) v (L++ [q])/\L.length<=120
theorem G_ {B:Nat}{l:List MQ}{q:MQ}(h:nH w B v (l++ [q]))(hg:w.grownBy w' v.ownBlock):∃R aQ,B<=R/\w.heap[R]?=M (C aQ 36 (0,0))/\Fr w w' (fun b=>b=R)/\v.ownBlock=M R:=by
 rcases h.2 with⟨-,e⟩|⟨g,cap,aQ,rfl,SI,hh,-⟩
 ·simp at e
 ·refine⟨g,aQ,SI,hh,⟨hg.size,fun b hb hx=>hg.block b hb (fun e=>hx ?_)⟩,rfl⟩;simp[Value.ownBlock]at e;omega
theorem H_ {W W':F}{qp:Nat}{g:Gm}{k:Nat}{aQ:Array Y}{row:Option Nat}(hG:Gl w ps)(h:uU w W ps qp d X g k)(hF:Fr W W' (fun b=>b=R))(hb:W.heap[R]?=M (C aQ 36 (0,0)))(hR:w.heap.size<=R)(hg:W.grownBy W' row):uU w W' ps qp d X g k:=by
 obtain⟨X',h1,h2⟩:=h;exact⟨X',h1.off hF hb (fun k hk e=>by have:=hG.lt k hk;omega),⟨dh h2.1 hF hR,⟨hg.os.trans h2.2.1.1,hg.tape.trans h2.2.1.2.1,hg.output.trans h2.2.1.2.2⟩,h2.2.2⟩⟩
theorem eZ.row {g:Gm}{aQ:Array Y}(h:eZ w v g d)(hF:Fr w w' (fun b=>b=R))(hb:w.heap[R]?=M (C aQ 36 (0,0))):eZ w' v g d:=by
 obtain⟨su,sr,e,h1,h2⟩:=h.form;exact⟨⟨su,sr,e,h1.fr hF (fun b aQ f mF e=>aW mF hb (by decide) e),h2.fr hF (fun b aQ f mF e=>aW mF hb (by decide) e)⟩,h.ul,h.rl,h.d0,h.d1⟩
theorem DU {B:Nat}{l:List MQ}(h:nH w B v l)(hR:R<B)(a b c d:Y):nH ((((w.setCell ⟨R,0,O⟩ a).setCell ⟨R,1,O⟩ b).setCell ⟨R,2,O⟩ c).setCell ⟨R,3,O⟩ d) B v l:=h.fr (fr4 w R a b c d) (fun x aQ hx _ e=>by omega)
theorem KH {qp:Nat}{cap N:Nat}(h:qM w ps qp d ([],[],[],0) 0 X)(hd:d<=50)(hA:Cz w N ao len)(hN:N<=w.heap.size)(hX:∀b,X b->N<=b)(hlen:(len:Int)<=9223372036854775807):
 H K 18 #[U (M ⟨qp,0,O⟩),Z ao len cap,I V (d:Int)] w fun e w'=> ∃v,e=G (.tuple #[v,.bool true])/\PlD w w' ps qp d X v:=by
 obtain⟨w1,dU⟩:∃w1,w1=(w.alloc (C #[.string ⟨#[]⟩,Z O 0 0,Z O 0 0,I V 0] 36)).alloc (C #[.string ⟨#[]⟩,Z O 0 0,Z O 0 0,I V 0] 36):=⟨_,rfl⟩;have Be:Hid (Gl w ps):=h.1;have HAc:Hid (∀W X',Dk w W X X'->Cz W N ao len):=fun W X' hk=>hA.dk hk hN hX
 have HS0:Hid (TM w w1 ps qp d X 0 (Z (M ⟨w.heap.size+1,0,O⟩) 1 1)):=by
  rw[dU];have aC:aK w _:=((aK.refl w).alloc (C #[.string ⟨#[]⟩,Z O 0 0,Z O 0 0,I V 0] 36)).alloc (C #[.string ⟨#[]⟩,Z O 0 0,Z O 0 0,I V 0] 36);have hM:∀W,eZ W (.agg #[.string ⟨#[]⟩,Z O 0 0,Z O 0 0,I V 0]) ([],[],[],0) d:=fun W=>⟨⟨_,_,rfl,iJ.nil W,iJ.nil W⟩,Nat.zero_le _,Nat.zero_le _,Int.le_refl _,by decide⟩
  refine⟨([],[],[],0),X,[],(⟨#[]⟩,(O,0,0),(O,0,0),0),h.aM aC,Dk.bI aC,⟨O,0,0,O,0,0,?_,hM _⟩,hM _,?_,Nat.le_refl _⟩
  ·exact((aU _ _).block _ (by simp)).trans (heap_alloc_new w _)
  ·have:=World.ownsRow_lit (base:=w.heap.size+1) (e:=36) (size:=4) (w.alloc (C #[.string ⟨#[]⟩,Z O 0 0,Z O 0 0,I V 0] 36)) #[.string ⟨#[]⟩,Z O 0 0,Z O 0 0,I V 0] 1 (by simp) (by decide) rfl;rw[World.size_alloc]at this;exact this
 clear h hA;go_enter Tryz.func18,Tryz.ntmps18
 go_upto_region 3 with fail
 rw[<-dU];clear dU;have l0:(0:Int)<=(len:Int):=by omega
 go_wp2_with fail
 go_loopw [9,10] (fun va vi wr=> ∃i:Nat,i<=len/\i<=120/\vi=I V (i:Int)/\Hid (TM w wr ps qp d X i va)) (fun _ vi _=>len-(intOf vi).toNat)
 case atStart=>exact⟨0,Nat.zero_le _,Nat.zero_le _,rfl,HS0⟩
 case round=>
  clear HS0;obtain⟨i,hi,rz,rfl,HS⟩:=hrel;by_cases bS:i<len
  ·by_cases h120:i<120
   ·obtain⟨g1,X1,L,q',s1,k1,⟨Cu,Cv,Cw,Cx,zN,Cy,bX,KC⟩,XK,Gy,BO⟩:=HS.out
    obtain⟨b,off,rfl,kd,n,m,kk,S,hn,hm,hs,y0,y1,y2,y3,y4⟩:∃b off,ao=M ⟨b,off,O⟩/\∃kd n m kk S,ActAt wr b (off+i*5) kd n m kk S:=by
     rcases HAc.out _ _ k1 with h|⟨b,off,h1,-,h2⟩
     ·omega
     ·exact⟨b,off,h1,h2 i bS⟩
    obtain⟨c0,c1,c2,c3⟩:=bC bX;have i1:(0:Int)<=(i:Int):=by omega
    have i2:(i:Int)<(len:Int):=by omega
    have i3:(i:Int)<120:=by omega
    obtain⟨w2,Fy⟩:∃w2,w2=wr.alloc (C #[I V kd,I V n,I V m,I V kk,.string S] 39):=⟨_,rfl⟩;have G2:aK wr w2:=by rw[Fy];exact(aK.refl _).alloc _
    have Zl:w2.heap[wr.heap.size]?=M (C #[I V kd,I V n,I V m,I V kk,.string S] 39 (0,0)):=by rw[Fy];exact heap_alloc_new wr _
    have fG:=(G2.block _ (aL bX)).trans bX;have Fh:Hid (qM w2 ps qp d g1 i X1):=s1.aM G2;have HM:Hid (eZ w2 (.agg #[.string (aT g1.1),Z Cu Cv Cw,Z Cx zN Cy,I V g1.2.2.2]) g1 d):=KC.aM G2;have HQ:Hid (eZ w2 (MQ.agg q') g1 d):=XK.aM G2;have HO:Hid (nH w2 (w.heap.size+1) u9 (L++ [q'])):=Gy.aM G2;have HK:Hid (Dk w w2 X X1):=k1.aM G2;have HB:Hid (w2.heap[w.heap.size]?=M (C #[.string (aT g1.1),Z Cu Cv Cw,Z Cx zN Cy,I V g1.2.2.2] 36 (0,0))):=fG;have HL:Hid (L.length<=i):=BO;have iU:=lC g1.1;have qK:(g1.1.length:Int)<=5000:=s1.gm.1;clear s1 k1 bX KC XK Gy BO G2 HS;clear c0 c1 c2 c3
    go_upto_region 7 with fail
    rw[<-Fy];clear Fy y0 y1 y2 y3 y4;obtain⟨c0,c1,c2,c3⟩:=bC fG;obtain⟨y0,y1,y2,y3,y4⟩:=nD Zl;clear fG Zl;by_cases k5:kd=5
    ·subst k5;have Av:=fun W=>rU (w:=W) hn.1 hn.2 (show(0:Int)<=(g1.1.length:Int) by omega) qK
     have HR:Hid (∀r,H K 39 #[U (M ⟨qp,0,O⟩),I V r,I V m] w2 fun e w'=>e=G (.tuple #[.string (wB g1 r m).1,I V (wB g1 r m).2])/\aK w2 w'):=fun r=>Ws Fh.out hm.2
     go_upto_region 18 with(first|(go_at_call 41;refine(Av _).mono ?_;rintro e w9 ⟨r,rfl,r1,r2,rfl⟩)|(go_at_call 39;refine(HR.out _).mono ?_;rintro e w3 ⟨rfl,jI⟩))
     have Ik:Hid (qM w3 ps qp d g1 (i+1) X1):=(Fh.out.aM jI).more (by omega);have Wx:Hid (Dk w w3 X X1):=HK.out.aM jI;have Il:Hid (eZ w3 (.agg #[.string (aT g1.1),Z Cu Cv Cw,Z Cx zN Cy,I V g1.2.2.2]) g1 d):=HM.out.aM jI;have Ny:Hid (eZ w3 (MQ.agg q') g1 d):=HQ.out.aM jI;have Dc:Hid (nH w3 (w.heap.size+1) u9 (L++ [q'])):=HO.out.aM jI;have zO:Hid (w3.heap[w.heap.size]?=M (C #[.string (aT g1.1),Z Cu Cv Cw,Z Cx zN Cy,I V g1.2.2.2] 36 (0,0))):=(jI.block _ (aL HB.out)).trans HB.out;have j2:=jI.cell y2;have j0:=jI.cell c0;clear jI y0 y1 y2 y3 y4 c0 c1 c2 c3 HR Av Fh HK HM HQ HO HB;by_cases k1:r<0\/(g1.1.length:Int)<r\/m<0\/(g1.1.length:Int)-r<m
     ·have hq:wB g1 r m=(⟨#[]⟩,5):=by unfold wB;rw[if_pos k1]
      simp only[hq];clear hq;by_cases k2:r<0
      ·clear k1
       go_upto_region 29 with fail
       have Pw:=iC Ik.out Il.out;obtain⟨c0,c1,c2,c3⟩:=bC zO.out;have HN:Hid (∀W,aK w3 W->TM w W ps qp d X (i+1) u9):=fun W hW=>⟨g1,X1,L,q',Ik.out.aM hW,Wx.out.aM hW,⟨Cu,Cv,Cw,Cx,zN,Cy,(hW.block _ (aL zO.out)).trans zO.out,Il.out.aM hW⟩,Ny.out.aM hW,Dc.out.aM hW,by have:=HL.out;omega⟩
       clear Ik Il Ny Dc zO Wx
       go_wp2_with (go_at_call 26;refine Pw.mono ?_;rintro e w7 ⟨rfl,jG⟩)
       go_roundw
       case rel=>exact⟨i+1,by omega,by omega,by go_num,HN.out _ jG⟩
       case measure=>simp[intOf];omega
      ·by_cases k3:(g1.1.length:Int)<r
       ·clear k1
        go_upto_region 29 with fail
        have Pw:=iC Ik.out Il.out;obtain⟨c0,c1,c2,c3⟩:=bC zO.out;have HN:Hid (∀W,aK w3 W->TM w W ps qp d X (i+1) u9):=fun W hW=>⟨g1,X1,L,q',Ik.out.aM hW,Wx.out.aM hW,⟨Cu,Cv,Cw,Cx,zN,Cy,(hW.block _ (aL zO.out)).trans zO.out,Il.out.aM hW⟩,Ny.out.aM hW,Dc.out.aM hW,by have:=HL.out;omega⟩
        clear Ik Il Ny Dc zO Wx
        go_wp2_with (go_at_call 26;refine Pw.mono ?_;rintro e w7 ⟨rfl,jG⟩)
        go_roundw
        case rel=>exact⟨i+1,by omega,by omega,by go_num,HN.out _ jG⟩
        case measure=>simp[intOf];omega
       ·by_cases k4:m<0
        ·clear k1
         go_upto_region 29 with fail
         have Pw:=iC Ik.out Il.out;obtain⟨c0,c1,c2,c3⟩:=bC zO.out;have HN:Hid (∀W,aK w3 W->TM w W ps qp d X (i+1) u9):=fun W hW=>⟨g1,X1,L,q',Ik.out.aM hW,Wx.out.aM hW,⟨Cu,Cv,Cw,Cx,zN,Cy,(hW.block _ (aL zO.out)).trans zO.out,Il.out.aM hW⟩,Ny.out.aM hW,Dc.out.aM hW,by have:=HL.out;omega⟩
         clear Ik Il Ny Dc zO Wx
         go_wp2_with (go_at_call 26;refine Pw.mono ?_;rintro e w7 ⟨rfl,jG⟩)
         go_roundw
         case rel=>exact⟨i+1,by omega,by omega,by go_num,HN.out _ jG⟩
         case measure=>simp[intOf];omega
        ·have k6:(g1.1.length:Int)-r<m:=by omega
         clear k1
         go_upto_region 29 with fail
         have Pw:=iC Ik.out Il.out;obtain⟨c0,c1,c2,c3⟩:=bC zO.out;have HN:Hid (∀W,aK w3 W->TM w W ps qp d X (i+1) u9):=fun W hW=>⟨g1,X1,L,q',Ik.out.aM hW,Wx.out.aM hW,⟨Cu,Cv,Cw,Cx,zN,Cy,(hW.block _ (aL zO.out)).trans zO.out,Il.out.aM hW⟩,Ny.out.aM hW,Dc.out.aM hW,by have:=HL.out;omega⟩
         clear Ik Il Ny Dc zO Wx
         go_wp2_with (go_at_call 26;refine Pw.mono ?_;rintro e w7 ⟨rfl,jG⟩)
         go_roundw
         case rel=>exact⟨i+1,by omega,by omega,by go_num,HN.out _ jG⟩
         case measure=>simp[intOf];omega
     ·have k2:¬r<0:=by omega
      have k3:¬(g1.1.length:Int)<r:=by omega
      have k4:¬m<0:=by omega
      have k6:¬(g1.1.length:Int)-r<m:=by omega
      have e1:0<=r:=by omega
      have e2:r<=r+m:=by omega
      have e3:r+m<=((aT g1.1).size:Int):=by omega
      have WR:IntKind.i64.wrap (r+m)=r+m:=by rw[IntKind.wrap_i64];omega
      have hq:wB g1 r m=((aT g1.1).extract r.toNat (r+m).toNat,0):=by
       unfold wB;rw[if_neg k1]
       have:(⟨((g1.1.drop r.toNat).take m.toNat).toArray⟩:ByteArray)=(aT g1.1).extract r.toNat (r+m).toNat:=Bw (by
        rw[jM];simp only[aT];rw[show(r+m).toNat-r.toNat=m.toNat by omega])
       rw[this]
      simp only[hq];clear hq k1
      go_upto_region 29 with fail
      have Pw:=iC Ik.out Il.out;obtain⟨c0,c1,c2,c3⟩:=bC zO.out;have HN:Hid (∀W,aK w3 W->TM w W ps qp d X (i+1) u9):=fun W hW=>⟨g1,X1,L,q',Ik.out.aM hW,Wx.out.aM hW,⟨Cu,Cv,Cw,Cx,zN,Cy,(hW.block _ (aL zO.out)).trans zO.out,Il.out.aM hW⟩,Ny.out.aM hW,Dc.out.aM hW,by have:=HL.out;omega⟩
      clear Ik Il Ny Dc zO Wx
      go_wp2_with (go_at_call 26;refine Pw.mono ?_;rintro e w7 ⟨rfl,jG⟩)
      go_roundw
      case rel=>exact⟨i+1,by omega,by omega,by go_num,HN.out _ jG⟩
      case measure=>simp[intOf];omega
    ·by_cases k678:kd=6\/kd=7\/kd=8
     ·skip;have HKp:Hid (H K 22 #[U (M ⟨qp,0,O⟩),I V kd] w2 fun e w'=>e=G (I V 0)/\uU w2 w' ps qp d X1 g1 (i+1)):=gy Fh.out (by omega);rcases k678 with rfl|rfl|rfl
      ·go_upto_region 29 with(go_at_call 22;refine HKp.out.mono ?_;rintro e w3 ⟨rfl,X6,s6,k6⟩)
       have Ik:Hid (qM w3 ps qp d g1 (i+1) X6):=s6;have Wx:Hid (Dk w w3 X X6):=HK.out.trans k6;have Il:Hid (eZ w3 (.agg #[.string (aT g1.1),Z Cu Cv Cw,Z Cx zN Cy,I V g1.2.2.2]) g1 d):=HM.out.q k6.1 (fun b hb=>Fh.out.ty hb);have Ny:Hid (eZ w3 (MQ.agg q') g1 d):=HQ.out.q k6.1 (fun b hb=>Fh.out.ty hb);have Dc:Hid (nH w3 (w.heap.size+1) u9 (L++ [q'])):=HO.out.q k6.1 (fun b hb=>Fh.out.ty hb);have zO:Hid (w3.heap[w.heap.size]?=M (C #[.string (aT g1.1),Z Cu Cv Cw,Z Cx zN Cy,I V g1.2.2.2] 36 (0,0))):=k6.1.at HB.out (fun e=>(Fh.out.ty e).ne HB.out (by decide) rfl);clear s6 k6 c0 c1 c2 c3 y0 y1 y2 y3 y4;have Pw:=iC Ik.out Il.out;obtain⟨c0,c1,c2,c3⟩:=bC zO.out;have HN:Hid (∀W,aK w3 W->TM w W ps qp d X (i+1) u9):=fun W hW=>⟨g1,X6,L,q',Ik.out.aM hW,Wx.out.aM hW,⟨Cu,Cv,Cw,Cx,zN,Cy,(hW.block _ (aL zO.out)).trans zO.out,Il.out.aM hW⟩,Ny.out.aM hW,Dc.out.aM hW,by have:=HL.out;omega⟩
       clear Ik Il Ny Dc zO Wx
       go_wp2_with (go_at_call 26;refine Pw.mono ?_;rintro e w7 ⟨rfl,jG⟩)
       go_roundw
       case rel=>exact⟨i+1,by omega,by omega,by go_num,HN.out _ jG⟩
       case measure=>simp[intOf];omega
      ·go_upto_region 29 with(go_at_call 22;refine HKp.out.mono ?_;rintro e w3 ⟨rfl,X6,s6,k6⟩)
       have Ik:Hid (qM w3 ps qp d g1 (i+1) X6):=s6;have Wx:Hid (Dk w w3 X X6):=HK.out.trans k6;have Il:Hid (eZ w3 (.agg #[.string (aT g1.1),Z Cu Cv Cw,Z Cx zN Cy,I V g1.2.2.2]) g1 d):=HM.out.q k6.1 (fun b hb=>Fh.out.ty hb);have Ny:Hid (eZ w3 (MQ.agg q') g1 d):=HQ.out.q k6.1 (fun b hb=>Fh.out.ty hb);have Dc:Hid (nH w3 (w.heap.size+1) u9 (L++ [q'])):=HO.out.q k6.1 (fun b hb=>Fh.out.ty hb);have zO:Hid (w3.heap[w.heap.size]?=M (C #[.string (aT g1.1),Z Cu Cv Cw,Z Cx zN Cy,I V g1.2.2.2] 36 (0,0))):=k6.1.at HB.out (fun e=>(Fh.out.ty e).ne HB.out (by decide) rfl);clear s6 k6 c0 c1 c2 c3 y0 y1 y2 y3 y4;have Pw:=iC Ik.out Il.out;obtain⟨c0,c1,c2,c3⟩:=bC zO.out;have HN:Hid (∀W,aK w3 W->TM w W ps qp d X (i+1) u9):=fun W hW=>⟨g1,X6,L,q',Ik.out.aM hW,Wx.out.aM hW,⟨Cu,Cv,Cw,Cx,zN,Cy,(hW.block _ (aL zO.out)).trans zO.out,Il.out.aM hW⟩,Ny.out.aM hW,Dc.out.aM hW,by have:=HL.out;omega⟩
       clear Ik Il Ny Dc zO Wx
       go_wp2_with (go_at_call 26;refine Pw.mono ?_;rintro e w7 ⟨rfl,jG⟩)
       go_roundw
       case rel=>exact⟨i+1,by omega,by omega,by go_num,HN.out _ jG⟩
       case measure=>simp[intOf];omega
      ·go_upto_region 29 with(go_at_call 22;refine HKp.out.mono ?_;rintro e w3 ⟨rfl,X6,s6,k6⟩)
       have Ik:Hid (qM w3 ps qp d g1 (i+1) X6):=s6;have Wx:Hid (Dk w w3 X X6):=HK.out.trans k6;have Il:Hid (eZ w3 (.agg #[.string (aT g1.1),Z Cu Cv Cw,Z Cx zN Cy,I V g1.2.2.2]) g1 d):=HM.out.q k6.1 (fun b hb=>Fh.out.ty hb);have Ny:Hid (eZ w3 (MQ.agg q') g1 d):=HQ.out.q k6.1 (fun b hb=>Fh.out.ty hb);have Dc:Hid (nH w3 (w.heap.size+1) u9 (L++ [q'])):=HO.out.q k6.1 (fun b hb=>Fh.out.ty hb);have zO:Hid (w3.heap[w.heap.size]?=M (C #[.string (aT g1.1),Z Cu Cv Cw,Z Cx zN Cy,I V g1.2.2.2] 36 (0,0))):=k6.1.at HB.out (fun e=>(Fh.out.ty e).ne HB.out (by decide) rfl);clear s6 k6 c0 c1 c2 c3 y0 y1 y2 y3 y4;have Pw:=iC Ik.out Il.out;obtain⟨c0,c1,c2,c3⟩:=bC zO.out;have HN:Hid (∀W,aK w3 W->TM w W ps qp d X (i+1) u9):=fun W hW=>⟨g1,X6,L,q',Ik.out.aM hW,Wx.out.aM hW,⟨Cu,Cv,Cw,Cx,zN,Cy,(hW.block _ (aL zO.out)).trans zO.out,Il.out.aM hW⟩,Ny.out.aM hW,Dc.out.aM hW,by have:=HL.out;omega⟩
       clear Ik Il Ny Dc zO Wx
       go_wp2_with (go_at_call 26;refine Pw.mono ?_;rintro e w7 ⟨rfl,jG⟩)
       go_roundw
       case rel=>exact⟨i+1,by omega,by omega,by go_num,HN.out _ jG⟩
       case measure=>simp[intOf];omega
     ·have p5:(kd==5)=false:=by simpa using k5
      have p6:(kd==6)=false:=by simp;omega
      have p7:(kd==7)=false:=by simp;omega
      have p8:(kd==8)=false:=by simp;omega
      have HC:Hid (H K 23 #[U (M ⟨qp,0,O⟩),.agg #[.string (aT g1.1),Z Cu Cv Cw,Z Cx zN Cy,I V g1.2.2.2],.agg #[I V kd,I V n,I V m,I V kk,.string S],I V (d:Int)] w2 fun e w'=>Fq w2 w' ps qp d X1 i e g1 kd m S):=Pv Fh.out HM.out (by omega) hd hn.1 hn.2 hm.1 hm.2 hs
      go_upto_region 10 with(go_at_call 23;refine HC.out.mono ?_;rintro e w3 ⟨pos,c,v',rfl,s3,m3⟩;have hcd:=SF g1 kd pos m S d;generalize iZ g1 kd pos m S d=g3 at s3 m3 hcd;obtain⟨su3,sr3,rfl,t1,t2⟩:=m3.form;obtain⟨a1,a2,a3,rfl⟩:=t1.form;obtain⟨b1,b2,b3,rfl⟩:=t2.form;clear t1 t2)
      obtain⟨X3,S3,K3⟩:=s3;obtain⟨w4,NS⟩:∃w4,w4=w3.alloc (C #[.string (aT g3.1),Z a1 a2 a3,Z b1 b2 b3,I V g3.2.2.2] 36):=⟨_,rfl⟩;have G4:aK w3 w4:=by rw[NS];exact(aK.refl _).alloc _
      have AU:w4.heap[w3.heap.size]?=M (C #[.string (aT g3.1),Z a1 a2 a3,Z b1 b2 b3,I V g3.2.2.2] 36 (0,0)):=by rw[NS];exact heap_alloc_new w3 _
      rw[<-NS];clear NS;have Bj:=K3.1.at HB.out (fun e=>(Fh.out.ty e).ne HB.out (by decide) rfl);have Kv:w4.heap[w.heap.size]?=M (C #[.string (aT g1.1),Z Cu Cv Cw,Z Cx zN Cy,I V g1.2.2.2] 36 (0,0)):=(G4.block _ (aL Bj)).trans Bj;have HO4:Hid (nH w4 (w.heap.size+1) u9 (L++ [q'])):=(HO.out.q K3.1 (fun b hb=>Fh.out.ty hb)).aM G4;have HLt:Hid (∀R,Value.ownBlock u9=M R->R<w3.heap.size):=fun R e=>(World.ownsRow.lt (HO.out.q K3.1 (fun b hb=>Fh.out.ty hb)) R e).2
      have HQ4:Hid (eZ w4 (MQ.agg q') g1 d):=(HQ.out.q K3.1 (fun b hb=>Fh.out.ty hb)).aM G4;have HM4:Hid (eZ w4 (.agg #[.string (aT g3.1),Z a1 a2 a3,Z b1 b2 b3,I V g3.2.2.2]) g3 d):=m3.aM G4;have HS4:Hid (uU w w4 ps qp d X g3 (i+1)):=eU (Wv HK.out ⟨X3,S3,K3⟩) G4;have Kl:Hid (w4.heap[w.heap.size]?=M (C #[.string (aT g1.1),Z Cu Cv Cw,Z Cx zN Cy,I V g1.2.2.2] 36 (0,0))):=Kv;clear Bj K3 S3 m3 HQ HO Fh HM HK HB HC c0 c1 c2 c3 y0 y1 y2 y3 y4;obtain⟨c0,c1,c2,c3⟩:=bC Kv;obtain⟨n0,n1,n2,n3⟩:=bC AU;clear Kv;rcases hcd with hcd|hcd
      ·have hlt3:¬g1.2.2.2<g3.2.2.2:=by rw[hcd];omega
       have HQ5:Hid (eZ w4 (MQ.agg q') g3 d):=by show eZ _ _ _ _;rw[hcd];exact HQ4.out
       clear hcd AU
       go_upto_region 14 with fail
       have ig:Hid (∃L' Wy,nH w4 (w.heap.size+1) u9 (L'++ [Wy])/\eZ w4 (MQ.agg Wy) g3 d/\L'.length<=i+1):=⟨L,q',HO4.out,HQ5.out,by have:=HL.out;omega⟩;clear HO4 HQ4 HQ5;have wL:=fI Be.out HS4.out (Nat.le_refl _) Kl.out (.string (aT g3.1)) (Z a1 a2 a3) (Z b1 b2 b3) (I V g3.2.2.2);have Rj:=HM4.out.tJ Kl.out (.string (aT g3.1)) (Z a1 a2 a3) (Z b1 b2 b3) (I V g3.2.2.2);have Qa:=iG Kl.out (.string (aT g3.1)) (Z a1 a2 a3) (Z b1 b2 b3) (I V g3.2.2.2)
       have HF5:Hid (∃L' Wy,nH ((((w4.setCell ⟨w.heap.size,0,O⟩ (.string (aT g3.1))).setCell ⟨w.heap.size,1,O⟩ (Z a1 a2 a3)).setCell ⟨w.heap.size,2,O⟩ (Z b1 b2 b3)).setCell ⟨w.heap.size,3,O⟩ (I V g3.2.2.2)) (w.heap.size+1) u9 (L'++ [Wy])/\eZ ((((w4.setCell ⟨w.heap.size,0,O⟩ (.string (aT g3.1))).setCell ⟨w.heap.size,1,O⟩ (Z a1 a2 a3)).setCell ⟨w.heap.size,2,O⟩ (Z b1 b2 b3)).setCell ⟨w.heap.size,3,O⟩ (I V g3.2.2.2)) (MQ.agg Wy) g3 d/\L'.length<=i+1):=by
        obtain⟨L',Wy,e1,e2,e3⟩:=ig.out;exact⟨L',Wy,DU e1 (by omega) _ _ _ _,e2.tJ Kl.out _ _ _ _,e3⟩
       have ic:Hid (uU w ((((w4.setCell ⟨w.heap.size,0,O⟩ (.string (aT g3.1))).setCell ⟨w.heap.size,1,O⟩ (Z a1 a2 a3)).setCell ⟨w.heap.size,2,O⟩ (Z b1 b2 b3)).setCell ⟨w.heap.size,3,O⟩ (I V g3.2.2.2)) ps qp d X g3 (i+1)):=wL;have KF:Hid (eZ ((((w4.setCell ⟨w.heap.size,0,O⟩ (.string (aT g3.1))).setCell ⟨w.heap.size,1,O⟩ (Z a1 a2 a3)).setCell ⟨w.heap.size,2,O⟩ (Z b1 b2 b3)).setCell ⟨w.heap.size,3,O⟩ (I V g3.2.2.2)) (.agg #[.string (aT g3.1),Z a1 a2 a3,Z b1 b2 b3,I V g3.2.2.2]) g3 d):=Rj;refine fT Kl.out ?_;intro z0 z1 z2 z3 zf;clear wL Rj HS4 HM4 ig c0 c1 c2 c3 Kl
       go_upto_region 29 with fail
       clear z0 z1 z2 z3 zf n0 n1 n2 n3;generalize ((((w4.setCell ⟨w.heap.size,0,O⟩ (.string (aT g3.1))).setCell ⟨w.heap.size,1,O⟩ (Z a1 a2 a3)).setCell ⟨w.heap.size,2,O⟩ (Z b1 b2 b3)).setCell ⟨w.heap.size,3,O⟩ (I V g3.2.2.2))=w6 at*;obtain⟨X6,s6,k6⟩:=ic.out;have Pw:=iC s6 KF.out;obtain⟨c0,c1,c2,c3⟩:=bC Qa
       have HN:Hid (∀W,aK w6 W->TM w W ps qp d X (i+1) u9):=fun W hW=>by
        obtain⟨L',Wy,e1,e2,e3⟩:=HF5.out;exact⟨g3,X6,L',Wy,s6.aM hW,k6.aM hW,⟨a1,a2,a3,b1,b2,b3,(hW.block _ (aL Qa)).trans Qa,KF.out.aM hW⟩,e2.aM hW,e1.aM hW,e3⟩
       clear s6 k6 KF ic HF5 Qa
       go_wp2_with (go_at_call 26;refine Pw.mono ?_;rintro e w7 ⟨rfl,jG⟩)
       go_roundw
       case rel=>exact⟨i+1,by omega,by omega,by go_num,HN.out _ jG⟩
       case measure=>simp[intOf];omega
      ·have hlt3:g1.2.2.2<g3.2.2.2:=by omega
       clear hcd;have hz4:w.heap.size+1<=w4.heap.size:=aL Kl.out;have hl4:(L++ [q']).length<=1000000000:=by have:=HL.out;rw[List.length_append,List.length_singleton];omega
       clear HQ4
       go_upto_region 14 with(at_builtin;go_must (refine Ww (by rfl) (.tmp 60) (.tmp 62) (by rfl) (w.heap.size+1) _ (L++ [q']) (aT g3.1,(a1,a2,a3),(b1,b2,b3),g3.2.2.2) (by rfl) (by exact World.ownsRow.alloc HO4.out _) _ _ _ (by rfl) (by rfl) (by exact World.news_of_block (heap_alloc_new w4 _)) (by exact hl4) (by rw[World.size_alloc];omega) ?_);intro v5 w5 lH dY)
       obtain⟨R,aQ,hR,hbR,hF,hvR⟩:=G_ (World.ownsRow.alloc HO4.out _) dY;have hRl:=HLt.out R hvR;have G5:aK w4 (w4.alloc (C #[.string (aT g3.1),Z a1 a2 a3,Z b1 b2 b3,I V g3.2.2.2] 36)):=(aK.refl w4).alloc _;have HS9:Hid (uU w w5 ps qp d X g3 (i+1)):=H_ Be.out (eU HS4.out G5) hF hbR (by omega) dY;have HM9:Hid (eZ w5 (.agg #[.string (aT g3.1),Z a1 a2 a3,Z b1 b2 b3,I V g3.2.2.2]) g3 d):=(HM4.out.aM G5).row hF hbR;have HB9:Hid (w5.heap[w.heap.size]?=M (C #[.string (aT g1.1),Z Cu Cv Cw,Z Cx zN Cy,I V g1.2.2.2] 36 (0,0))):=hF.at ((G5.block _ (aL Kl.out)).trans Kl.out) (by omega);have hn9:w5.heap[w3.heap.size]?=M (C #[.string (aT g3.1),Z a1 a2 a3,Z b1 b2 b3,I V g3.2.2.2] 36 (0,0)):=hF.at ((G5.block _ (aL AU)).trans AU) (by omega);have ig:Hid (∃L' Wy,nH w5 (w.heap.size+1) v5 (L'++ [Wy])/\eZ w5 (MQ.agg Wy) g3 d/\L'.length<=i+1):=⟨_,_,lH,HM9.out,by have:=HL.out;rw[List.length_append,List.length_singleton];omega⟩;clear HS4 HM4 Kl HO4 HLt lH dY hF hbR hR hvR hRl G5 AU c0 c1 c2 c3 n0 n1 n2 n3;have HS4:=HS9;have HM4:=HM9;have Kl:=HB9;clear HS9 HM9 HB9;obtain⟨c0,c1,c2,c3⟩:=bC Kl.out;obtain⟨n0,n1,n2,n3⟩:=bC hn9;clear hn9;have wL:=fI Be.out HS4.out (Nat.le_refl _) Kl.out (.string (aT g3.1)) (Z a1 a2 a3) (Z b1 b2 b3) (I V g3.2.2.2);have Rj:=HM4.out.tJ Kl.out (.string (aT g3.1)) (Z a1 a2 a3) (Z b1 b2 b3) (I V g3.2.2.2);have Qa:=iG Kl.out (.string (aT g3.1)) (Z a1 a2 a3) (Z b1 b2 b3) (I V g3.2.2.2)
       have HF5:Hid (∃L' Wy,nH ((((w5.setCell ⟨w.heap.size,0,O⟩ (.string (aT g3.1))).setCell ⟨w.heap.size,1,O⟩ (Z a1 a2 a3)).setCell ⟨w.heap.size,2,O⟩ (Z b1 b2 b3)).setCell ⟨w.heap.size,3,O⟩ (I V g3.2.2.2)) (w.heap.size+1) v5 (L'++ [Wy])/\eZ ((((w5.setCell ⟨w.heap.size,0,O⟩ (.string (aT g3.1))).setCell ⟨w.heap.size,1,O⟩ (Z a1 a2 a3)).setCell ⟨w.heap.size,2,O⟩ (Z b1 b2 b3)).setCell ⟨w.heap.size,3,O⟩ (I V g3.2.2.2)) (MQ.agg Wy) g3 d/\L'.length<=i+1):=by
        obtain⟨L',Wy,e1,e2,e3⟩:=ig.out;exact⟨L',Wy,DU e1 (by omega) _ _ _ _,e2.tJ Kl.out _ _ _ _,e3⟩
       have ic:Hid (uU w ((((w5.setCell ⟨w.heap.size,0,O⟩ (.string (aT g3.1))).setCell ⟨w.heap.size,1,O⟩ (Z a1 a2 a3)).setCell ⟨w.heap.size,2,O⟩ (Z b1 b2 b3)).setCell ⟨w.heap.size,3,O⟩ (I V g3.2.2.2)) ps qp d X g3 (i+1)):=wL;have KF:Hid (eZ ((((w5.setCell ⟨w.heap.size,0,O⟩ (.string (aT g3.1))).setCell ⟨w.heap.size,1,O⟩ (Z a1 a2 a3)).setCell ⟨w.heap.size,2,O⟩ (Z b1 b2 b3)).setCell ⟨w.heap.size,3,O⟩ (I V g3.2.2.2)) (.agg #[.string (aT g3.1),Z a1 a2 a3,Z b1 b2 b3,I V g3.2.2.2]) g3 d):=Rj;refine fT Kl.out ?_;intro z0 z1 z2 z3 zf;clear wL Rj HS4 HM4 ig c0 c1 c2 c3 Kl
       go_upto_region 29 with fail
       clear z0 z1 z2 z3 zf n0 n1 n2 n3;generalize ((((w5.setCell ⟨w.heap.size,0,O⟩ (.string (aT g3.1))).setCell ⟨w.heap.size,1,O⟩ (Z a1 a2 a3)).setCell ⟨w.heap.size,2,O⟩ (Z b1 b2 b3)).setCell ⟨w.heap.size,3,O⟩ (I V g3.2.2.2))=w6 at*;obtain⟨X6,s6,k6⟩:=ic.out;have Pw:=iC s6 KF.out;obtain⟨c0,c1,c2,c3⟩:=bC Qa
       have HN:Hid (∀W,aK w6 W->TM w W ps qp d X (i+1) v5):=fun W hW=>by
        obtain⟨L',Wy,e1,e2,e3⟩:=HF5.out;exact⟨g3,X6,L',Wy,s6.aM hW,k6.aM hW,⟨a1,a2,a3,b1,b2,b3,(hW.block _ (aL Qa)).trans Qa,KF.out.aM hW⟩,e2.aM hW,e1.aM hW,e3⟩
       clear s6 k6 KF ic HF5 Qa
       go_wp2_with (go_at_call 26;refine Pw.mono ?_;rintro e w7 ⟨rfl,jG⟩)
       go_roundw
       case rel=>exact⟨i+1,by omega,by omega,by go_num,HN.out _ jG⟩
       case measure=>simp[intOf];omega
   ·have i3:¬(i:Int)<120:=by omega
    have i2:(i:Int)<(len:Int):=by omega
    have he:i=120:=by omega
    subst he;have HE:=HS
    go_wp2_with fail
    refine bodyPost_ret (v:= .tuple #[u9,.bool true]) (by simp[results,Tryz.results18,go_sem]) rfl ?_;obtain⟨g9,X9,L9,q9,s9,k9,-,m9,o9,l9⟩:=HE.out;exact⟨u9,rfl,g9,X9,L9,q9,s9,k9,m9,o9,l9⟩
  ·have i2:¬(i:Int)<(len:Int):=by omega
   have HE:=HS
   go_wp2_with fail
   refine bodyPost_ret (v:= .tuple #[u9,.bool true]) (by simp[results,Tryz.results18,go_sem]) rfl ?_;obtain⟨g9,X9,L9,q9,s9,k9,-,m9,o9,l9⟩:=HE.out;exact⟨u9,rfl,g9,X9,L9,q9,s9.more rz,k9,m9,o9,Nat.le_trans l9 rz⟩
theorem KI {dep:Int}{cap:Nat}(hG:Gl w ps)(hA:Cz w w.heap.size ao len)(MI: -9223372036854775808<=dep)(hd2:dep<=9223372036854775807)(hlen:(len:Int)<=9223372036854775807):
 H K 6 #[I V dep,Z ao len cap] w fun e w'=>e=G (.bool true)/\aK w w':=by
 have hP:=Yd (w:=w) (c:=dep) (n:=51) MI hd2 (by decide) (by decide);have Fh:Hid (H K 16 #[] w fun e w'=>e=G (.bool true)/\aK w w'):=KE hG;have HF:Hid (∀W (d:Nat),aK w W->d<=50->H K 17 #[I V (d:Int)] W fun e w'=> ∃qp X,e=G (U (M ⟨qp,0,O⟩))/\qM w' ps qp d ([],[],[],0) 0 X/\(∀b,X b->W.heap.size<=b)/\aK W w'):=fun W d hW hd=>Uf (hG.aM hW) hd
 have HPl:Hid (∀W qp (d:Nat) X,aK w W->d<=50->qM W ps qp d ([],[],[],0) 0 X->(∀b,X b->w.heap.size<=b)->H K 18 #[U (M ⟨qp,0,O⟩),Z ao len cap,I V (d:Int)] W fun e w'=> ∃g n c q1 u1 u2 u3 r1 r2 r3 dn,e=G (.tuple #[Z (M ⟨g,0,O⟩) (n+1) c,.bool true])/\n+1<=c/\n<=120/\w'.cell? ⟨g,n*4,O⟩=M (.string q1)/\w'.cell? ⟨g,n*4+1,O⟩=M (Z u1 u2 u3)/\w'.cell? ⟨g,n*4+2,O⟩=M (Z r1 r2 r3)/\w'.cell? ⟨g,n*4+3,O⟩=M (I V dn)/\Hid (H K 19 #[U (M ⟨qp,0,O⟩),.agg #[.string q1,Z u1 u2 u3,Z r1 r2 r3,I V dn],I V (d:Int)] w' fun e w''=>e=G (.bool true)/\aK w w'')):=fun W qp d X hW hd hS hX=>by
  refine(KH (N:=w.heap.size) hS hd (hA.dk (Dk.bI (X:=fun _=>False) hW) (Nat.le_refl _) (fun b e=>e.elim)) hW.size hX hlen).mono ?_;rintro e w3 ⟨v,rfl,g,X',L,q,s3,k3,m3,o3,l3⟩;obtain⟨g3,x3⟩:=xK hW hX k3;obtain⟨gb,c,rfl,hc,-,z0,z1,z2,z3⟩:=o3.last;refine⟨gb,L.length,c,_,_,_,_,_,_,_,_,rfl,hc,l3,z0,z1,z2,z3,?_⟩;refine(SE s3 m3 (by decide) hd).mono ?_;rintro e w4 ⟨rfl,g4,X4,s4,k4⟩;exact⟨rfl,(xK g3 x3 k4).1⟩
 clear hG hA;go_enter Tryz.func6,Tryz.ntmps6
 go_upto_region 4 with(first|(go_at_call 15;refine hP.mono ?_;rintro e w0 ⟨r,rfl,r1,r2,rfl⟩;obtain⟨d,rfl⟩:=Int.eq_ofNat_of_zero_le r1;have hd:d<=50:=by omega)|(go_at_call 16;refine Fh.out.mono ?_;rintro e w1 ⟨rfl,g1⟩;have hF:=HF.out _ d g1 hd)|(go_at_call 17;refine hF.mono ?_;clear hF;rintro e w2 ⟨qp,X2,rfl,s2,x2,g2⟩;have hPl:=HPl.out _ qp d X2 (g1.then g2) hd s2 (fun b hb=>Nat.le_trans g1.size (x2 b hb));clear s2 x2))
 go_upto_region 7 with(go_at_call 18;refine hPl.mono ?_;clear hPl;rintro e w3 ⟨g,n,c,q1,u1,u2,u3,a1,a2,a3,dn,rfl,hc,hn,z0,z1,z2,z3,HSm⟩)
 have dU:IntKind.i64.wrap (((n+1:Nat):Int)-1)=(n:Int):=by rw[IntKind.wrap_i64];omega
 have Fy:IntKind.i64.wrap ((n:Int)+1-1)=(n:Int):=by rw[IntKind.wrap_i64];omega
 have i1:(0:Int)<=(n:Int):=by omega
 have i2:(n:Int)<((n+1:Nat):Int):=by omega
 have hz:(((n+1:Nat):Int)-1)=(n:Int):=by omega
 clear g1 g2 hP Fh HF HPl
 go_wp2_with (go_at_call 19;refine HSm.out.mono ?_;rintro e w4 ⟨rfl,g4⟩)
 go_ret;exact⟨rfl,g4⟩
end Go.Proofs.YtfplgfodoiiobaaGreatDoor
