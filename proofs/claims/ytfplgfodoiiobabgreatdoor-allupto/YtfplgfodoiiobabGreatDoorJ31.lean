/- a part of the proof. -/
import Derived.Test.YtfplgfodoiiobabGreatDoorJ24
import Derived.Test.YtfplgfodoiiobabGreatDoorJ25
import Derived.Test.YtfplgfodoiiobabGreatDoorJ26
open Option renaming none->O,some->M
open Go.Value renaming int->I,slice->Z,pointer->U
open Go.IntKind renaming i64->V
open Go.Obj renaming cells->C
open Go.Ending renaming returned->G
open Go renaming World->F,Value->Y,Calls->H
open Go.Proofs.Tryz renaming prog→K
open Go.Proofs.Tryz
namespace Go.Proofs.YtfplgfodoiiobabGreatDoor
set_option maxHeartbeats 2000000
set_option maxRecDepth 100000
open Go.RowKit
variable {w w' w2 w1 w0:F}{s:Sc}{fs:List bD}{qp db B sp lp dp tb dd fl fc:Nat}{most a depth b c n e k:Int}{m:dI}{X:Nat->Prop}{r r':gZ}{ps:Nat->Addr}{ro:Bool}{text:ByteArray}{fo ao:Option Addr}{l:List AF}{aR:Array Y}
def uZ (s:Sc)(fs:List bD)(ep:Int):Nat->Bool×Sc×List bD
 |0=>(true,s,fs)
 |k+1=>cO (uZ s fs ep k).2.1 (uZ s fs ep k).2.2 (if k=0 then 1 else 10+ep)
def sS (s:Sc)(fs:List bD)(ep:Int):Int×Sc×List bD:=
 if (uZ s fs ep 1).1=false then (10,(uZ s fs ep 1).2)else (if (uZ s fs ep 2).1 then 0 else 10,(uZ s fs ep 2).2)
def SyB (w wr:F)(ps:Nat->Addr)(lp rb db:Nat)(ep:Int)(fv:Y)(rs:List FR)(s':Sc)(dZ:List bD):Prop:=
 wr.heap[lp]?=M (jW db ep)/\wr.heap[rb]?=M (C #[I V 1,I V (10+ep)] 3 (0,0))/\Gl wr ps/\∃eD dY,aU wr db s' eD dY/\plain dY=dZ/\Dk w wr (DX db fv rs) (DX db eD dY)
theorem CO {b off cap:Nat}{l:List UInt8}{buf:Int}(h:pX w (M ⟨b,off,O⟩) l)(ht:∃aR f,w.heap[b]?=M (C aR 5 f))(iW:l.length<=cap)(hl:l.length<=900000000)(hG:Gl w ps)(Cr:0<=buf)(eO:buf<=1000000000):
 H K 126 #[Z (M ⟨b,off,O⟩) l.length cap,I V buf] w λe w'=>RckV w' ps e (zQ l buf)/\aL w w':=by
 obtain⟨B,jJ⟩:∃B,B=w.alloc (C #[I V 0,I V 0,Z O 0 0,Z O 0 0,Z O 0 0] 193):=⟨_,rfl⟩;have d5:B.heap[w.heap.size]?=M (C #[I V 0,I V 0,Z O 0 0,Z O 0 0,Z O 0 0] 193 (0,0)):=by rw[jJ];exact Aag w _
 have G1:aL w B:=by rw[jJ];exact(aL.refl w).alloc _
 have hU:=Zw (cap:=cap) (h.aN G1) hl iW;have zM:Hid (Gl B ps):=hG.aN G1;have a5:Hid (aL w B):=G1;have Ua:Hid (B.heap[w.heap.size]?=M (C #[I V 0,I V 0,Z O 0 0,Z O 0 0,Z O 0 0] 193 (0,0))):=d5
 have c3:Hid (pX B (M ⟨b,off,O⟩) l/\∃aR f,B.heap[b]?=M (C aR 5 f)):=by
  obtain⟨aR,f,ht⟩:=ht;exact⟨h.aN G1,aR,f,(G1.block _ (aM ht)).trans ht⟩
 clear d5 G1 h ht hG;cases hu:jZ l with
 |none=>
  have HE:Hid (zQ l buf=O):=by show _=_;unfold zQ;rw[hu]
  rw[hu]at hU;unfold Bo at hU;simp only at hU
  have e4:Hid (∀W,aL B W->W.cell? ⟨3,0,O⟩=M (jQ (ps 3))/\H K 87 #[.string ⟨#[105,116,115,32,99,114,99]⟩,jQ (ps 3)] W λe w'=> ∃t b0,e=G (.iface t (U (M b0)))/\lS w' ps 1 (.iface t (U (M b0))) 11/\aL B w'):=λW A=>by
   refine⟨(zM.out.aN A).yQ.cell (by omega),?_⟩;have he:lS W ps 0 (jQ (ps 3)) 11:=Aab ⟨0,3,Aak _,by omega,rfl,rfl⟩;refine(Je he).mono ?_;rintro e w' ⟨v',rfl,h1,h2⟩;obtain⟨t,b0,rfl⟩:=h1.yes (by omega);exact⟨t,b0,rfl,h1,A.then h2⟩
  unfold jQ at e4;clear hu c3;go_enter func126,ntmps126;go_upto_region 1 with fail;rw[<-jJ];clear jJ;go_upto_region 3 with(go_at_call 154;refine hU.mono ?_;rintro e w2 ⟨rfl,q,hq⟩;have jX:aL B w2:=(by rw[hq];exact bC (aL.refl B) q);clear hq;obtain⟨gc,Tq⟩:=e4.out w2 jX);have HN:Hid (∀W,aL B W->(W.cell? ⟨w.heap.size,0,O⟩=M (I V 0)/\W.cell? ⟨w.heap.size,1,O⟩=M (I V 0)/\W.cell? ⟨w.heap.size,2,O⟩=M (Z O 0 0)/\W.cell? ⟨w.heap.size,3,O⟩=M (Z O 0 0)/\W.cell? ⟨w.heap.size,4,O⟩=M (Z O 0 0))/\∀j,W.frozen? ⟨w.heap.size,j,O⟩=false):=λW A=>rZ ((A.block _ (aM Ua.out)).trans Ua.out)
  go_wp2_with (go_at_call 87;refine Tq.mono ?_;rintro e w3 ⟨t,b0,rfl,j2,pG⟩;obtain⟨⟨y0,y1,y2,y3,y4⟩,yf⟩:=HN.out w3 pG);refine Aap (v:= .tuple #[I V 0,.agg #[I V 0,I V 0,Z O 0 0,Z O 0 0,Z O 0 0],.iface t (U (M b0))]) (by simp[results,results126,go_sem, *]) rfl ?_;rw[HE.out];have sU:=(pG.block _ (aM Ua.out)).trans Ua.out;exact⟨⟨t,b0,rfl,j2.fr (Cy w3 w.heap.size _ _ _ _ _) (λb aR Q e=>aZ Q sU (by decide) e) (λb aR Q e=>aZ Q sU (by decide) e)⟩,dK (a5.out.then pG) (Aak _) _ _ _ _ _⟩
 |some k=>
  have NG:k=l.take (l.length-4)/\4<=l.length:=by
   unfold jZ at hu;split at hu
   ·cases hu
   ·split at hu
    ·cases hu;exact⟨rfl,by omega⟩
    ·cases hu
  have Sj:k.length<=cap:=by rw[NG.1,Aaz];omega
  rw[hu]at hU;unfold Bo at hU;simp only at hU
  have e9:Hid (∀W,aL B W->zP (W.alloc (C #[Z (M ⟨b,off,O⟩) k.length cap,I V 0,.nilIface] 253)) W.heap.size k 0/\Gl (W.alloc (C #[Z (M ⟨b,off,O⟩) k.length cap,I V 0,.nilIface] 253)) ps/\aL B (W.alloc (C #[Z (M ⟨b,off,O⟩) k.length cap,I V 0,.nilIface] 253))):=λW A=>by
   have hg:=A.alloc (C #[Z (M ⟨b,off,O⟩) k.length cap,I V 0,.nilIface] 253);obtain⟨hr,aR,f,ht⟩:=c3.out;refine⟨⟨b,off,cap,Aag W _,Sj,?_,aR,f,(hg.block _ (aM ht)).trans ht⟩,zM.out.aN hg,hg⟩;have hk:=(hr.aN hg).take (l.length-4);rw[<-NG.1]at hk;exact hk
  have Rp:Hid (zQ l buf=rck3 (aT 0 buf (aT 0 1000000000 (aT 1 999 (vB 75 (M k))).2).2).1 (aT 0 buf (aT 0 1000000000 (aT 1 999 (vB 75 (M k))).2).2).2 (aT 1 999 (vB 75 (M k))).1 (aT 0 1000000000 (aT 1 999 (vB 75 (M k))).2).1):=by
   show _=_;unfold zQ;rw[hu];rfl
  clear hu NG Sj c3 zM;generalize YM:vB 75 (M k)=P at*;have a9:=zF 0 buf (aT 0 1000000000 (aT 1 999 P).2).2;have e5:=Ub (lo:=0) (hi:=buf) Cr (aT 0 1000000000 (aT 1 999 P).2).2;have e6:Hid (∀W g,eG W g P 0 ps->Gl W ps->H K 156 #[U (M ⟨g,0,O⟩),.string ⟨#[105,116,115,32,101,112,111,99,104]⟩,I V 1,I V 999] W λe w'=>e=G (I V (aT 1 999 P).1)/\eG w' g (aT 1 999 P).2 0 ps/\Og W w' g):=λW g h1 h2=>yD h1 h2
  have Yb:Hid (∀W g,eG W g (aT 1 999 P).2 0 ps->Gl W ps->H K 156 #[U (M ⟨g,0,O⟩),.string ⟨#[105,116,115,32,68,111,110,101]⟩,I V 0,I V 1000000000] W λe w'=>e=G (I V (aT 0 1000000000 (aT 1 999 P).2).1)/\eG w' g (aT 0 1000000000 (aT 1 999 P).2).2 0 ps/\Og W w' g):=λW g h1 h2=>yD h1 h2;have h4:Hid (∀W g,eG W g (aT 0 1000000000 (aT 1 999 P).2).2 0 ps->Gl W ps->H K 156 #[U (M ⟨g,0,O⟩),.string ⟨#[105,116,115,32,108,101,110,103,116,104,32,111,102,32,116,104,101,32,98,117,102,102,101,114]⟩,I V 0,I V buf] W λe w'=>e=G (I V (aT 0 buf (aT 0 1000000000 (aT 1 999 P).2).2).1)/\eG w' g (aT 0 buf (aT 0 1000000000 (aT 1 999 P).2).2).2 0 ps/\Og W w' g):=λW g h1 h2=>yD h1 h2;generalize (aT 0 buf (aT 0 1000000000 (aT 1 999 P).2).2).2=i at*;generalize (aT 0 buf (aT 0 1000000000 (aT 1 999 P).2).2).1=bf at*;generalize (aT 0 1000000000 (aT 1 999 P).2).2=s2 at*;generalize (aT 0 1000000000 (aT 1 999 P).2).1=N at*;generalize (aT 1 999 P).2=s1 at*;generalize (aT 1 999 P).1=ep at*
  have g_:Hid (∀W g,zP W g k 0->Gl W ps->H K 155 #[U (M ⟨g,0,O⟩),I .u8 75] W λe w'=>e=G (.tuple #[])/\eG w' g P 0 ps/\Og W w' g):=λW g h1 h2=>by
   have:=qw (x:=75) h1 h2;rw[YM]at this;exact this
  clear YM;go_enter func126,ntmps126;go_upto_region 1 with fail;rw[<-jJ];clear jJ;go_upto_region 5 with(go_at_call 154;refine hU.mono ?_;rintro e w2 ⟨rfl,q,hq⟩;have jX:aL B w2:=(by rw[hq];exact bC (aL.refl B) q);clear hq);obtain⟨r3,g3,G3⟩:=e9.out w2 jX;obtain⟨g,r_⟩:∃g,g=w2.heap.size:=⟨_,rfl⟩
  have R:Hid (w.heap.size<g/\B.heap.size<=g):=by
   have:=aM Ua.out;have:=jX.le;exact⟨by omega,by omega⟩
  rw[<-r_]at r3 ⊢;clear r_;generalize (w2.alloc (C #[Z (M ⟨b,off,O⟩) k.length cap,I V 0,.nilIface] 253))=w3 at*
  have f5:Hid (∀W Eg Ib,eG W g Eg Ib ps->W.frozen? ⟨g,1,O⟩=false):=λW Eg Ib A=>by
   obtain⟨c,hc⟩:=A.wX;simp[World.frozen?,hc]
  have f_:Hid (aL B w3):=G3;have bQ:=g_.out w3 g r3 g3;have MZ:Hid (∀W W' Eg Ib,eG W g Eg Ib ps->Gl W ps->Og W W' g->Gl W' ps):=λW W' Eg Ib h1 h2 h3=>h2.og h1 h3;have d8:Hid (eG w3 g (M k) 0 ps):=r3;clear r3 G3 e9 g_ jX hU
  go_upto_region 9 with(first
   |(go_at_call 155;refine bQ.mono ?_;clear bQ;rintro e w4 ⟨rfl,r4,o4⟩;have g4:=MZ.out _ _ _ _ d8.out g3 o4;have Lj:=e6.out w4 g r4 g4)
   |(go_at_call 156;refine Lj.mono ?_;clear Lj;rintro e w5 ⟨rfl,r5,o5⟩;have g5:=MZ.out _ _ _ _ r4 g4 o5;have Oi:=Yb.out w5 g r5 g5)
   |(go_at_call 156;refine Oi.mono ?_;clear Oi;rintro e w6 ⟨rfl,r6,o6⟩;have g6:=MZ.out _ _ _ _ r5 g5 o6;have Nw:=h4.out w6 g r6 g6)
   |(go_at_call 156;refine Nw.mono ?_;clear Nw;rintro e w7 ⟨rfl,r7,o7⟩;have g7:=MZ.out _ _ _ _ r6 g6 o7;have h9:=r7.bf;have i9:=f5.out w7 _ _ r7))
  obtain⟨r8,o8⟩:=r7.setbf bf;have e1:Og w3 (w7.setCell ⟨g,1,O⟩ (I V bf)) g:=(((o4.trans o5).trans o6).trans o7).trans o8;have g8:=MZ.out _ _ _ _ r7 g7 o8;have G8:Hid (aL B (w7.setCell ⟨g,1,O⟩ (I V bf))):=Fw f_.out e1 R.out.2;clear r4 r5 r6 r7 o4 o5 o6 o7 o8 g3 g4 g5 g6 g7 h9 i9 e6 Yb h4 MZ d8 f_ e1 f5;generalize (w7.setCell ⟨g,1,O⟩ (I V bf))=w8 at*
  have c4:Hid (∀W,aL w8 W->H K 157 #[U (M ⟨g,0,O⟩)] W λe w'=> ∃o n z,e=G (Z o n z)/\bJ w' (o,n,z) (aS bf i).1/\eG w' g (aS bf i).2 bf ps/\Gl w' ps/\aL B w'/\CK W w'):=λW A=>(Wp (r8.aN A) (g8.aN A) a9.1 (by omega)).mono (by
   rintro e w' ⟨o,n,z,a,b,c,d⟩;exact⟨o,n,z,a,b,c,(g8.aN A).og (r8.aN A) d,Fw (G8.out.then A) d R.out.2,CK.og (r8.aN A) d⟩)
  have d2:Hid (∀W Eg o n z,eG W g Eg bf ps->Gl W ps->aL B W->bJ W (o,n,z) (aS bf i).1->∀W',aL W W'->H K 158 #[U (M ⟨g,0,O⟩)] W' λe w'=> ∃u1 u2 u3,e=G (Z u1 u2 u3)/\dV w' (u1,u2,u3) (bA bf Eg).1/\eG w' g (bA bf Eg).2 bf ps/\Gl w' ps/\aL B w'/\CK W' w'/\bJ w' (o,n,z) (aS bf i).1/\∀y l,dV W y l->dV w' y l):=λW Eg o n z hr Dm hg hx W' A=>(ru (hr.aN A) (Dm.aN A) a9.1 (by omega)).mono (by
   rintro e w' ⟨u1,u2,u3,a,b,c,d⟩;exact⟨u1,u2,u3,a,b,c,(Dm.aN A).og (hr.aN A) d,Fw (hg.then A) d R.out.2,CK.og (hr.aN A) d,(hx.aN A).rg (hr.aN A) d,λy l hy=>(hy.aN A).rg (hr.aN A) d⟩)
  have c5:=r8.bf;have b8:w8.drew.cell? ⟨g,1,O⟩=M (I V bf):=c5;have R8:Hid (∀W,aL w8 W->eG W g i bf ps):=λW A=>r8.aN A;clear r8 g8
  go_cut [12] (λp wc=> ∃(sb:Nat) (x u r:bT),p=U (M ⟨sb,0,O⟩)/\Hid (Yy B wc g sb (bA bf (bA bf (aS bf i).2).2).2 N bf ps x u r (aS bf i).1 (bA bf (aS bf i).2).1 (bA bf (bA bf (aS bf i).2).2).1))
  case first=>
   go_region_held3 (λw'=>w'.cell? ⟨g,1,O⟩=M (I V bf))
    (first|(with_reducible exact c5)|(with_reducible exact b8)|(with_reducible exact r9.bf)|(with_reducible exact c7.bf)|(with_reducible exact a0.bf)|(refine eG.bf (R8.out _ ?_);with_reducible (exact aL.drew (aL.alloc (aL.refl _) _)))|(refine eG.bf (eG.aN r9 ?_);with_reducible (exact aL.alloc (aL.refl _) _))|(refine eG.bf (eG.aN c7 ?_);with_reducible (exact aL.alloc (aL.refl _) _))|(refine eG.bf (eG.aN a0 ?_);with_reducible (exact aL.alloc (aL.refl _) _))|(with_reducible exact(eG.st5 a0 zh.out _ _ _ _ _).bf))
    (first
     |(go_at_call 157;refine(c4.out _ (by repeat (first|exact aL.refl _|refine aL.alloc ?_ _|refine aL.drew ?_))).mono ?_;clear c4;rintro e w9 ⟨o,n,z,rfl,i6,r9,g9,G9,k9⟩;have Jg:=d2.out w9 _ o n z r9 g9 G9 i6)|(go_at_call 158;refine(Jg _ (by repeat (first|exact aL.refl _|refine aL.alloc ?_ _|refine aL.drew ?_))).mono ?_;clear Jg;rintro e Pz ⟨u1,u2,u3,rfl,e8,c7,i1,f4,f3,e7,-⟩;have d9:=d2.out Pz _ o n z c7 i1 f4 e7)|(go_at_call 158;refine(d9 _ (by repeat (first|exact aL.refl _|refine aL.alloc ?_ _|refine aL.drew ?_))).mono ?_;clear d9;rintro e t_ ⟨J,E,D,rfl,a2,a0,a8,a6,d1,a1,f7⟩;first|(refine FP (d1 _ _ (f3 _ _ (k9 _ _ (Aag w8 _)))) ?_;intro z0 z1 z2 z3 z4 zf zh)|(refine FP (d1 _ _ (f3 _ _ (Aag w9 _))) ?_;intro z0 z1 z2 z3 z4 zf zh)|(refine FP (d1 _ _ (Aag Pz _)) ?_;intro z0 z1 z2 z3 z4 zf zh)|skip))
   all_goals have b3:=f7 _ _ e8
   ·have ga:=(aL.refl t_).alloc (C #[I V N,I V bf,Z o n z,Z u1 u2 u3,Z J E D] 193);have HF:Hid (Yy B (t_.alloc (C #[I V N,I V bf,Z o n z,Z u1 u2 u3,Z J E D] 193)) g t_.heap.size (bA bf (bA bf (aS bf i).2).2).2 N bf ps (o,n,z) (u1,u2,u3) (J,E,D) (aS bf i).1 (bA bf (aS bf i).2).1 (bA bf (bA bf (aS bf i).2).2).1):=Yy.mk (a0.aN ga) (a8.aN ga) (a6.then ga) (Aag t_ _) (a1.aN ga) (b3.aN ga) (a2.aN ga) a6.le;clear ga;go_wp2_with fail;go_meet;exact⟨_,_,_,_,rfl,HF⟩
   ·have HF:Hid (Yy B (((((t_.setCell ⟨Pz.heap.size,0,O⟩ (I V N)).setCell ⟨Pz.heap.size,1,O⟩ (I V bf)).setCell ⟨Pz.heap.size,2,O⟩ (Z o n z)).setCell ⟨Pz.heap.size,3,O⟩ (Z u1 u2 u3)).setCell ⟨Pz.heap.size,4,O⟩ (Z J E D)) g Pz.heap.size (bA bf (bA bf (aS bf i).2).2).2 N bf ps (o,n,z) (u1,u2,u3) (J,E,D) (aS bf i).1 (bA bf (aS bf i).2).1 (bA bf (bA bf (aS bf i).2).2).1):=Yy.st5 (x:=(o,n,z)) (u:=(u1,u2,u3)) (r:=(J,E,D)) zh.out f4.le a0 a8 a6 a1 b3 a2;clear z0 z1 z2 z3 z4 zf;go_wp2_with fail;go_meet;exact⟨_,_,_,_,rfl,HF⟩
   ·have HF:Hid (Yy B (((((t_.setCell ⟨w9.heap.size,0,O⟩ (I V N)).setCell ⟨w9.heap.size,1,O⟩ (I V bf)).setCell ⟨w9.heap.size,2,O⟩ (Z o n z)).setCell ⟨w9.heap.size,3,O⟩ (Z u1 u2 u3)).setCell ⟨w9.heap.size,4,O⟩ (Z J E D)) g w9.heap.size (bA bf (bA bf (aS bf i).2).2).2 N bf ps (o,n,z) (u1,u2,u3) (J,E,D) (aS bf i).1 (bA bf (aS bf i).2).1 (bA bf (bA bf (aS bf i).2).2).1):=Yy.st5 (x:=(o,n,z)) (u:=(u1,u2,u3)) (r:=(J,E,D)) zh.out G9.le a0 a8 a6 a1 b3 a2;clear z0 z1 z2 z3 z4 zf;go_wp2_with fail;go_meet;exact⟨_,_,_,_,rfl,HF⟩
   ·have HF:Hid (Yy B (((((t_.setCell ⟨w8.heap.size,0,O⟩ (I V N)).setCell ⟨w8.heap.size,1,O⟩ (I V bf)).setCell ⟨w8.heap.size,2,O⟩ (Z o n z)).setCell ⟨w8.heap.size,3,O⟩ (Z u1 u2 u3)).setCell ⟨w8.heap.size,4,O⟩ (Z J E D)) g w8.heap.size (bA bf (bA bf (aS bf i).2).2).2 N bf ps (o,n,z) (u1,u2,u3) (J,E,D) (aS bf i).1 (bA bf (aS bf i).2).1 (bA bf (bA bf (aS bf i).2).2).1):=Yy.st5 (x:=(o,n,z)) (u:=(u1,u2,u3)) (r:=(J,E,D)) zh.out G8.out.le a0 a8 a6 a1 b3 a2;clear z0 z1 z2 z3 z4 zf;go_wp2_with fail;go_meet;exact⟨_,_,_,_,rfl,HF⟩
  case rest=>
   obtain⟨sb,⟨o,n,z⟩,⟨u1,u2,u3⟩,⟨J,E,D⟩,rfl,HC⟩:=hcut
   rename F=>i8
   have d6:Hid (∀W y1 y2 y3,dV W (y1,y2,y3) ((bA bf (aS bf i).2).1.map Dp)->H K 161 #[I V (sz (aS bf i).1),Z y1 y2 y3] W λe w'=>e=G (.bool (qO (sz (aS bf i).1) ((bA bf (aS bf i).2).1.map Dp)))/\aL W w'):=λW y1 y2 y3 hy=>by
    have hp:=tN (bf:=bf) (by omega) i;have he:=Au (bf:=bf) (by omega) (aS bf i).2;cases hs:(aS bf i).2 with
    |none=>
     rw[hs,Fv]at hy;have e:qO (sz (aS bf i).1) (List.map Dp (bA bf O).1)=true:=rfl;rw[e];exact NC (x:=(y1,y2,y3)) hy
    |some lq=>
     rw[hs]at hy he
     exact YI (x:=(y1,y2,y3)) hy (by simp;omega) (rY hp.1) (hp.2.2 _ hs) (λe hm=>by
      obtain⟨e0,h0,rfl⟩:=AaS.1 hm;obtain⟨-,q1,q2,q3,q4⟩:=he.1 e0 h0;exact⟨q2,q1,q4,q3⟩)
   have f0:Hid (∀W,dV W (J,E,D) (bA bf (bA bf (aS bf i).2).2).1->H K 161 #[I V (sz (aS bf i).1),Z J E D] W λe w'=>e=G (.bool (qO (sz (aS bf i).1) (bA bf (bA bf (aS bf i).2).2).1))/\aL W w'):=λW hy=>by
    have hp:=tN (bf:=bf) (by omega) i;have he:=Au (bf:=bf) (by omega) (bA bf (aS bf i).2).2;cases hs:(aS bf i).2 with
    |none=>
     rw[hs,Fv]at hy;have e:qO (sz (aS bf i).1) (bA bf (bA bf O).2).1=true:=rfl;rw[e];exact NC (x:=(J,E,D)) hy
    |some lq=>
     rw[hs]at hy he;exact YI (x:=(J,E,D)) hy (by omega) (rY hp.1) (hp.2.2 _ hs) (λe hm=>(he.1 e hm).2)
   have d7:Hid (∀W,bJ W (o,n,z) (aS bf i).1->H K 160 #[Z o n z] W λe w'=>e=G (I V (sz (aS bf i).1))/\aL W w'):=λW A=>by
    have hp:=tN (bf:=bf) (by omega) i;exact wW (x:=(o,n,z)) A hp.1 (by omega)
   have e2:Hid (∀W,dV W (u1,u2,u3) (bA bf (aS bf i).2).1->H K 162 #[Z u1 u2 u3] W λe w'=> ∃y1 y2 y3,e=G (Z y1 y2 y3)/\dV w' (y1,y2,y3) ((bA bf (aS bf i).2).1.map Dp)/\aL W w'):=λW A=>by
    have he:=Au (bf:=bf) (by omega) (aS bf i).2;exact UE (x:=(u1,u2,u3)) A (by omega)
   have a3:Hid (zQ l buf=match jB (qO (sz (aS bf i).1) (bA bf (bA bf (aS bf i).2).2).1) (jB (qO (sz (aS bf i).1) ((bA bf (aS bf i).2).1.map Dp)) (jB ((bA bf (bA bf (aS bf i).2).2).2==M []) (bA bf (bA bf (aS bf i).2).2).2))with
    |none=>O
    |some _=>M (ep,((aS bf i).1,(bA bf (aS bf i).2).1,(bA bf (bA bf (aS bf i).2).2).1,N,bf))):=Rp.out
   generalize (bA bf (bA bf (aS bf i).2).2).2=sr at*;generalize (bA bf (bA bf (aS bf i).2).2).1=rl at*;generalize (bA bf (aS bf i).2).1=ul at*;generalize (aS bf i).1=t at*
   have b1:Hid (∀W Eg (sx:ByteArray) (S:Bool),Yy B W g sb Eg N bf ps (o,n,z) (u1,u2,u3) (J,E,D) t ul rl->H K 159 #[U (M ⟨g,0,O⟩),.string sx,.bool S] W λe w'=>e=G (.tuple #[])/\Yy B w' g sb (jB S Eg) N bf ps (o,n,z) (u1,u2,u3) (J,E,D) t ul rl):=λW Eg sx S A=>(Kt A.rg A.gl).mono (by
    rintro e w' ⟨a,b,c⟩;exact⟨a,A.ask R.out.2 b c⟩)
   obtain⟨j3,nn,nc,cn,f9⟩:=HC.out.rg.rest;have c8:=b1.out i8 sr ⟨#[105,116,115,32,101,110,100]⟩ ((nn:Int)==0) HC.out;rw[ask_rest f9]at c8;clear f9 Rp c4 d2 R8 c5 b8 HC G8;generalize Ir:qO (sz t) (ul.map Dp)=f1 at*;generalize Jr:qO (sz t) rl=f2 at*;generalize Iy:jB (sr==M []) sr=q1 at*;generalize sz t=zt at*;clear Ir Jr Iy;go_upto_region 11 with(go_at_call 159;refine c8.mono ?_;rintro e j0 ⟨rfl,a7⟩);clear c8 cn;obtain⟨-,-,k2,-,-⟩:=a7.cells;have Sd:=d7.out j0 a7.lx;simp only[bT.v]at k2;clear d7;go_upto_region 12 with(go_at_call 160;refine Sd.mono ?_;rintro e i7 ⟨rfl,b6⟩);have b2:=a7.aN b6;obtain⟨-,-,-,k3,-⟩:=b2.cells;simp only[bT.v]at k3;have h5:=e2.out i7 b2.lu;clear Sd k2 e2 a7 b6
   go_upto_region 13 with(first
    |(go_at_call 162;refine h5.mono ?_;clear h5;rintro e i2 ⟨y1,y2,y3,rfl,b7,c0⟩;have e3:=b2.aN c0;have Ir:=d6.out i2 y1 y2 y3 b7)
    |(go_at_call 161;refine Ir.mono ?_;clear Ir;rintro e h8 ⟨rfl,c1⟩;have h6:=e3.aN c1;have dx:=b1.out h8 q1 ⟨#[105,116,115,32,101,100,105,116,115,32,116,104,97,116,32,99,97,110,32,98,101,32,117,110,100,111,110,101]⟩ f1 h6)
    |(go_at_call 159;refine dx.mono ?_;clear dx;rintro e i0 ⟨rfl,b5⟩))
   obtain⟨-,-,-,-,k4⟩:=b5.cells;simp only[bT.v]at k4;have Jr:=f0.out i0 b5.lr;clear k3 b2 e3 h6 c0 c1 b7 d6 f0
   go_upto_region 14 with(first
    |(go_at_call 161;refine Jr.mono ?_;clear Jr;rintro e i3 ⟨rfl,b9⟩;have f8:=b5.aN b9;have d3:=b1.out i3 (jB f1 q1) ⟨#[105,116,115,32,101,100,105,116,115,32,116,104,97,116,32,99,97,110,32,98,101,32,100,111,110,101,32,97,103,97,105,110]⟩ f2 f8)
    |(go_at_call 159;refine d3.mono ?_;clear d3;rintro e L ⟨rfl,X⟩))
   clear k4 b5 f8 b9 b1;have b4:Hid (L.heap[w.heap.size]?=M (C #[I V 0,I V 0,Z O 0 0,Z O 0 0,Z O 0 0] 193 (0,0))):=(X.gr.block _ (aM Ua.out)).trans Ua.out;obtain⟨⟨z0,z1,z2,z3,z4⟩,zf⟩:=rZ b4.out;cases Jz:jB f2 (jB f1 q1)with
   |none=>
    rw[Jz]at X;have HE:Hid (zQ l buf=O):=(by show _=_;rw[a3.out,Jz]);obtain⟨_,_,_,te,be,c6,f6⟩:=X.rg;obtain⟨-,-,ke,-⟩:=mU c6;have i5:L.drew.cell? ⟨g,2,O⟩=M (.iface te (U (M be))):=ke;have d4:Hid (L.heap[g]?=_):=c6;have h7:Hid (lS L ps 1 (.iface te (U (M be))) 11):=f6;have a4:Hid (g≠w.heap.size):=(by have:=R.out.1;show g≠_;omega);have c2:Hid (aL w L):=a5.out.then X.gr;clear c6 f6 X a3 Jz R Ua a5 iW hl Cr eO a9 e5;go_upto_region 15 with fail
    go_region_held3 (λw'=>w'.cell? ⟨g,2,O⟩=M (.iface te (U (M be)))) (first|(with_reducible exact ke)|(with_reducible exact i5)|(with_reducible exact(ND d4.out a4.out _ _ _ _ _).2)|(with_reducible exact(ND d4.out a4.out _ _ _ _ _).1)) (fail)
    all_goals go_wp2_with fail
    all_goals refine Aap (v:= .tuple #[I V 0,.agg #[I V 0,I V 0,Z O 0 0,Z O 0 0,Z O 0 0],.iface te (U (M be))]) (by simp[results,results126,go_sem, *]) rfl ?_
    all_goals rw[HE.out]
    all_goals have hF:=Cy L w.heap.size (I V 0) (I V 0) (Z O 0 0) (Z O 0 0) (Z O 0 0)
    all_goals have hE:=(h7.out.fr hF (λ_ _ Q=>Wq b4.out _ _ _ _ Q (by decide)) (λ_ _ Q=>Wq b4.out _ _ _ _ Q (by decide))).aN (aL.drew (aL.refl _))
    all_goals have d0:=aL.drew (dK c2.out (Aak _) (I V 0) (I V 0) (Z O 0 0) (Z O 0 0) (Z O 0 0))
    all_goals exact⟨⟨te,be,rfl,hE⟩,d0⟩
   |some lz=>
    rw[Jz]at X;have HE:Hid (zQ l buf=M (ep,(t,ul,rl,N,bf))):=(by show _=_;rw[a3.out,Jz]);obtain⟨_,_,_,-,-,ke,-⟩:=zP.cells X.rg;have rR:=X.box;have i4:=X.sbn;have JI:=aM Ua.out;obtain⟨m0,m1,m2,m3,m4⟩:=X.cells;simp only[bT.v]at m2 m3 m4 rR;have md:L.drew.cell? ⟨sb,0,O⟩=M (I V N)/\L.drew.cell? ⟨sb,1,O⟩=M (I V bf)/\L.drew.cell? ⟨sb,2,O⟩=M (Z o n z)/\L.drew.cell? ⟨sb,3,O⟩=M (Z u1 u2 u3)/\L.drew.cell? ⟨sb,4,O⟩=M (Z J E D):=⟨m0,m1,m2,m3,m4⟩;have j1:Hid (L.drew.cell? ⟨sb,0,O⟩=M (I V N)/\L.drew.cell? ⟨sb,1,O⟩=M (I V bf)/\L.drew.cell? ⟨sb,2,O⟩=M (Z o n z)/\L.drew.cell? ⟨sb,3,O⟩=M (Z u1 u2 u3)/\L.drew.cell? ⟨sb,4,O⟩=M (Z J E D)):=md;have d_:Hid (L.heap[sb]?=_):=rR;have a4:Hid (sb≠w.heap.size):=(by show sb≠_;omega);have c2:Hid (aL w L):=a5.out.then X.gr;have c9:Hid (bJ L (o,n,z) t/\dV L (u1,u2,u3) ul/\dV L (J,E,D) rl):=⟨X.lx,X.lu,X.lr⟩;clear rR X a3 Jz md i4 JI R Ua a5 iW hl Cr eO a9 e5;go_upto_region 16 with fail
    go_region_held3 (λw'=>w'.cell? ⟨sb,0,O⟩=M (I V N)/\w'.cell? ⟨sb,1,O⟩=M (I V bf)/\w'.cell? ⟨sb,2,O⟩=M (Z o n z)/\w'.cell? ⟨sb,3,O⟩=M (Z u1 u2 u3)/\w'.cell? ⟨sb,4,O⟩=M (Z J E D)) (first|(with_reducible exact j1.out)|(with_reducible exact⟨m0,m1,m2,m3,m4⟩)|(with_reducible exact(NE d_.out a4.out _ _ _ _ _).2)|(with_reducible exact(NE d_.out a4.out _ _ _ _ _).1)) (fail)
    all_goals go_wp2_with fail
    all_goals refine Aap (v:= .tuple #[I V ep,.agg #[I V N,I V bf,Z o n z,Z u1 u2 u3,Z J E D],.nilIface]) (by simp[results,results126,go_sem, *]) rfl ?_
    all_goals rw[HE.out]
    all_goals have hF:=Cy L w.heap.size (I V N) (I V bf) (Z o n z) (Z u1 u2 u3) (Z J E D)
    all_goals have hn:=Wq b4.out
    all_goals have hX:=(c9.out.1.fr hF (λ_ _ Q=>hn _ _ _ _ Q (by decide))).aN (aL.drew (aL.refl _))
    all_goals have hU:=(c9.out.2.1.fr hF (λ_ _ Q=>hn _ _ _ _ Q (by decide)) (λ_ _ Q=>hn _ _ _ _ Q (by decide))).aN (aL.drew (aL.refl _))
    all_goals have hV:=(c9.out.2.2.fr hF (λ_ _ Q=>hn _ _ _ _ Q (by decide)) (λ_ _ Q=>hn _ _ _ _ Q (by decide))).aN (aL.drew (aL.refl _))
    all_goals have d0:=aL.drew (dK c2.out (Aak _) (I V N) (I V bf) (Z o n z) (Z u1 u2 u3) (Z J E D))
    all_goals exact⟨⟨(o,n,z),(u1,u2,u3),(J,E,D),rfl,hX,hU,hV⟩,d0⟩
structure OpnD (w w':F)(ps:Nat->Addr)(lp dp tb db depth:Nat)(fv:Y)(rs:List FR)(ep:Int)(m:dI)(r:Int×Sc×List bD):Prop where
 wG:w'.heap[lp]?=M (jW db ep)
 dr:aW w' dp tb depth m
 gl:Gl w' ps
 dsk:∃eD dY,aU w' db r.2.1 eD dY/\plain dY=r.2.2/\Dk w w' (DX db fv rs) (DX db eD dY)
 new:w.heap.size<=lp/\w.heap.size<=dp/\w.heap.size<=tb
def OpnA (w w':F)(ps:Nat->Addr)(db depth:Nat)(fv:Y)(rs:List FR)(ep:Int)(m:dI)(r:Int×Sc×List bD)(e:Ending):Prop:=
 (r.1=0->∃lp dp tb:Nat,e=G (.tuple #[U (M ⟨lp,0,O⟩),U (M ⟨dp,0,O⟩),.nilIface])/\OpnD w w' ps lp dp tb db depth fv rs ep m r)/\(r.1≠0->∃v,e=G (.tuple #[U O,U O,v])/\oQ w w' ps db fv rs 2 v r)
theorem FY (h:w.heap[qp]?=M (yF most depth db (M sp)))(hs:w.heap[sp]?=M (vP lp dp ro))(hd:aW w dp tb dd m):H K 59 #[U (M ⟨qp,0,O⟩)] w λe w'=>e=G (.tuple #[I V (sz m.1),I V 0])/\w'=w:=by
 obtain⟨-,-,-,c,-⟩:=fG h;obtain⟨-,d,-⟩:=lH hs;simp only[Abi]at c;have a:=Kj hd;clear h hs hd;go_enter func59,ntmps59;go_wp2_with (go_at_call 102;refine a.mono ?_;rintro e w ⟨rfl,rfl⟩);go_ret2;exact⟨rfl,rfl⟩
theorem UW (h:w.heap[qp]?=M (yF most depth db (M sp)))(hs:w.heap[sp]?=M (vP lp dp ro))(hd:aW w dp tb dd m):H K 19 #[U (M ⟨qp,0,O⟩)] w λe w'=>e=G (.tuple #[I V m.2.2.2.1,I V 0])/\w'=w:=by
 obtain⟨-,-,-,c,-⟩:=fG h;obtain⟨-,d,-⟩:=lH hs;simp only[Abi]at c;have a:=Mq hd;clear h hs hd;go_enter func19,ntmps19;go_wp2_with (go_at_call 54;refine a.mono ?_;rintro e w ⟨rfl,rfl⟩);go_ret2;exact⟨rfl,rfl⟩
theorem Gl.q {aF:Nat->Prop}(h:Gl w ps)(hF:Fr w w' aF)(hY:∀b,aF b->QTy w b):Gl w' ps:=
 h.fr hF (λb c a e=>(hY _ e).ne a (by decide) rfl) (λb c t g a e=>(hY _ e).ne a ⟨g.ne (by decide),g.ne (by decide),g.ne (by decide),g.ne (by decide),g.ne (by decide),g.ne (by decide),g.ne (by decide),g.ne (by decide),g.ne (by decide)⟩ rfl) (λb c a e=>(hY _ e).ne a (by decide) rfl) (λb c a e=>(hY _ e).ne a (by decide) rfl)
theorem may_u32 {q:Int}{depth:Nat}(hg:eX m depth)(h:qN m q a b c most=0):(dF a/\dF b/\dF c)/\(q=73\/q=68\/q=85\/q=82)/\c<=200:=by
 have g:=hg.Fa;have i:=hg.Dw;have d:=hg.long;unfold qN at h;unfold dF;split at h
 ·obtain⟨k,-⟩:=Tw (depth:=depth) h;omega
 ·split at h
  ·obtain⟨k,-⟩:=Tx (depth:=depth) h;omega
  ·split at h
   ·obtain⟨e,r,-,k,-⟩:=Mv (depth:=depth) h;omega
   ·split at h
    ·obtain⟨e,r,-,k,-⟩:=Mw (depth:=depth) h;omega
    ·omega
theorem Nl (ha:0<=s.after):0<=(dL s fs).2.1.after:=by
 rcases Cc s fs with⟨_,e⟩|⟨_,a,e⟩|⟨_,_,e⟩
 ·rw[e];exact ha
 ·rw[e];simp only;omega
 ·rw[e];exact ha
theorem aft_add {b:ByteArray}(ha:0<=s.after):0<=(bY s fs n b).2.1.after:=by
 unfold bY;split
 ·exact ha
 ·split
  ·exact ha
  ·simp only;have a:0<=(if s.refusing=true then { s with left:=s.left-1 } else s:Sc).after:=(by split<;>exact ha);generalize (if s.refusing=true then { s with left:=s.left-1 } else s:Sc)=c at*;split
   ·exact Nl a
   ·exact Nl a
theorem uz (ha:0<=s.after):0<=(cO s fs n).2.1.after:=by
 unfold cO;split
 ·exact ha
 ·simp only;split
  ·exact Nl ha
  ·exact Nl ha
theorem few4 {l:List bD}(hs:l.Pairwise (λa b=>a.1<b.1))(hn:OC l e):l.length<=4:=few4x (e:=e) hs (λf c=>by have:=hn f c;omega)
theorem GN (fs:List bD)(n:Int)(b:ByteArray):(nN fs n b).1=n/\(nN fs n b).2.1=aP fs n++b:=by
 unfold nN;rw[fP];cases gK fs n with
 |none=>exact⟨rfl,(ByteArray.empty_append (b:=b)).symm⟩
 |some f=>exact⟨rfl,rfl⟩
theorem gs_arm {x:St}{D:Int}(h:GS x D)(ha:a<=9223372036854775807)(hb:b<=9223372036854775807)(hc:c<=9223372036854775807):GS ((Ew x.1 a b c).1,x.2) D:=by
 unfold Ew;split
 ·exact h
 ·exact⟨⟨{ h.bk.dJ with nV:=ha,Ow:=by simp only;omega,je:=hb,Ai:=by simp only;omega,AR:=hc },by simp only;omega,h.bk.inv,h.bk.len⟩,h.Ee,h.done,h.nam,h.buf,h.GL⟩
theorem xlength (h:wB w qp s fs m X):H K 59 #[U (M ⟨qp,0,O⟩)] w λe w'=>e=G (.tuple #[I V (if s.aX then sz m.1 else 0),I V (if s.aX then 0 else 3)])/\w'=w:=by
 rcases h with⟨c,j,i,d,a,rfl,g,rfl⟩|⟨c,j,i,d,k,n,o,tb,a,rfl,rfl⟩
 ·rw[c];exact FX g
 ·rw[c];exact FY a.qu a.Bg a.CX
theorem xdone (h:wB w qp s fs m X):H K 19 #[U (M ⟨qp,0,O⟩)] w λe w'=>e=G (.tuple #[I V (if s.aX then m.2.2.2.1 else 0),I V (if s.aX then 0 else 3)])/\w'=w:=by
 rcases h with⟨c,j,i,d,a,rfl,g,rfl⟩|⟨c,j,i,d,k,n,o,tb,a,rfl,rfl⟩
 ·rw[c];exact UU g
 ·rw[c];exact UW a.qu a.Bg a.CX
theorem wB.disk (h:wB w qp s fs m X):∃db fv rs o,aU w db s fv rs/\plain rs=fs/\w.heap[qp]?=M (yF s.most s.depth db o):=by
 rcases h with⟨e,db,fv,rs,a,rfl,c,rfl⟩|⟨e,db,fv,rs,d,g,i,tb,a,rfl,rfl⟩
 ·exact⟨db,fv,rs,O,a,rfl,c⟩
 ·exact⟨db,fv,rs,M d,a.disk,rfl,a.qu⟩
theorem TY.aN {v:Y}{q:Int}(h:TY w v q e)(hg:aL w w'):TY w' v q e:=by
 obtain⟨b,c,a⟩:=h;exact⟨b,c,(hg.block _ (aM a)).trans a⟩
theorem DJ (m:dI)(q a b c most:Int):¬qN m q a b c most=9/\¬qN m q a b c most=10:=by
 unfold qN ML FC Yw Yx Dy
 repeat' split
 all_goals omega
theorem qB.more {N aK:Nat}(h:qB N s fs)(hn:N<=aK):qB aK s fs:=⟨h.dJ,h.Ef,h.inv,Aal h.len hn⟩
theorem OM {q:Int}(h:w.heap[qp]?=M (yF most depth db O)):
 H K 51 #[U (M ⟨qp,0,O⟩),.agg #[I .u8 q,I V a,I V b,I V c],.string text] w λe w'=>e=G (I V 3)/\aL w w':=by
 obtain⟨g,d⟩:∃g,g=(w.alloc (C #[I .u8 q,I V a,I V b,I V c] 128)).alloc (C #[.string text] 9):=⟨_,rfl⟩;have i:aL w g:=by rw[d];exact((aL.refl w).alloc _).alloc _
 have j:=Hw ((i.block _ (aM h)).trans h);clear h;go_enter func51,ntmps51;go_upto_region 1 with fail;rw[<-d];clear d;go_wp2_with (go_at_call 49;refine j.mono ?_;rintro e w' ⟨rfl,rfl⟩);go_ret;exact⟨rfl,i⟩
theorem vz {q:Int}(h:w.heap[qp]?=M (yF most depth db (M sp)))(hs:w.heap[sp]?=M (vP lp dp true)):
 H K 51 #[U (M ⟨qp,0,O⟩),.agg #[I .u8 q,I V a,I V b,I V c],.string text] w λe w'=>e=G (I V 4)/\aL w w':=by
 obtain⟨g,d⟩:∃g,g=(w.alloc (C #[I .u8 q,I V a,I V b,I V c] 128)).alloc (C #[.string text] 9):=⟨_,rfl⟩;have i:aL w g:=by rw[d];exact((aL.refl w).alloc _).alloc _
 have j:=Aw ((i.block _ (aM h)).trans h) ((i.block _ (aM hs)).trans hs);rw[Aad rfl]at j;clear h hs;go_enter func51,ntmps51;go_upto_region 1 with fail;rw[<-d];clear d;go_wp2_with (go_at_call 49;refine j.mono ?_;rintro e w' ⟨rfl,rfl⟩);go_ret;exact⟨rfl,i⟩
theorem GX {R:F->Nat->Nat->Prop}(h:w.heap[qp]?=M (yF most depth db O))
 (hO:∀W,aL w W->H K 47 #[U (M ⟨db,0,O⟩),I V depth] W λe w'=> ∃lp dp,e=G (.tuple #[U (M ⟨lp,0,O⟩),U (M ⟨dp,0,O⟩),.nilIface])/\R w' lp dp/\w'.heap[qp]?=M (yF most depth db O)):
 H K 15 #[U (M ⟨qp,0,O⟩)] w λe w'=>e=G (I V 0)/\∃w1 W lp dp,R w1 lp dp/\aL w1 W/\w'=(W.alloc (vP lp dp false)).setCell ⟨qp,3,O⟩ (U (M ⟨W.heap.size,0,O⟩)):=by
 have g:Hid _:=hO;obtain⟨-,o,t,i,-⟩:=fG h;simp only[AbU]at i;clear h hO;go_enter func15,ntmps15;go_upto_region 3 with fail
 go_cut [3,4,5] (λx y z wc=> ∃w1 lp dp,x=U (M ⟨lp,0,O⟩)/\y=U (M ⟨dp,0,O⟩)/\z= .nilIface/\R w1 lp dp/\aL w1 wc/\wc.heap[qp]?=M (yF most depth db O))
 case first=>
  go_region_law ((refine dD (by rfl) 47 _ _ (by rfl) #[U (M ⟨db,0,O⟩),I V depth] (by first|(simp[Act.eval];done)|(simp[Act.eval,Act.put];done)) ZH ((g.out _ (by repeat (first|exact aL.refl _|refine aL.drew ?_))).mono ?_);rintro v j ⟨lp,dp,rfl,c,a⟩;refine⟨_,rfl,?_⟩))
  all_goals go_wp2_with fail
  all_goals go_meet
  all_goals exact⟨j,lp,dp,rfl,rfl,rfl,c,by repeat (first|exact aL.refl _|refine aL.drew ?_),a⟩
 case rest=>
  rename F=>wc
  obtain⟨w1,lp,dp,rfl,rfl,rfl,c,k,a⟩:=hcut;have d:=(((aL.refl wc).alloc (vP lp dp false)).block _ (aM a)).trans a;obtain⟨-,-,-,n,bf⟩:=fG d;have r:=bf 3;unfold vP at n r;clear o t i g bf d a;go_wp2_with fail;go_ret;exact⟨rfl,w1,wc,lp,dp,c,k,rfl⟩
structure wN (w w2:F)(B:Nat)(r r':gZ):Prop where
 pair:gI w2 B r'
 sb:r'.sb=r.sb
 fr:Fr w w2 r.aF
 io:w2.os=w.os/\w2.tape=w.tape/\w2.output=w.output
 yn:∀b,r'.aF b->r.aF b\/w.heap.size<=b
def OU (w:F)(r:gZ)(f:FuncId)(args:Array Y)(x1:St)(code:Int):Prop:=
 ∀W,aL w W->H K f args W λe w'=>e=G (I V code)/\∃X',wB w' r.qp x1.1 x1.2.1 x1.2.2 X'/\Dk w w' r.X X'
def DocC (w:F)(B:Nat)(r:gZ)(f:FuncId)(args:Array Y)(x1:St)(code:Int):Prop:=
 ∀w1 X',wB w1 r.qp x1.1 x1.2.1 x1.2.2 X'->Dk w w1 r.X X'->∀W,aL w1 W->H K f args W λe w'=>e=G (I V code)/\∃r',wN w w' B r r'/\r'.x=x1
theorem Az {b:Nat}(h:gI w B r){X':Nat->Prop}(hk:Dk w w1 r.X X'){q m:Int}{s:ByteArray}(hb:w.heap[b]?=M (iZ q a n m k s fo fl fc)):w1.heap[b]?=M (iZ q a n m k s fo fl fc):=
 hk.1.at hb (λe=>(h.q.ty e).ne hb (by decide) rfl)
theorem Jk {ops:Array Oper}{rest:List Oper}{o:Oper}{a:Act}{Q:Exit->Act->F->Prop}(pQ:o.guard=O)(s x:Operand)
 (ho:o.op= .call { callee:= .builtin .append,args:=#[s,x],argTypes:=#[35,35] })
 (base:Nat)(v:Y)(ys zs:List AF)(hs:a.eval s=v)(bB:iM w base v ys)(ao:Option Addr)(m c:Nat)(hx:a.eval x=Z ao m c)(hm:m=zs.length)(gV:ao=O->zs.length=0/\c=0)(hr:Cn w ao zs)
 (hlen:ys.length+zs.length<=1000000000000)(gY:base<=w.heap.size)
 (h:∀v' w',iM w' base v' (ys++zs)->w.grownBy w' v.ownBlock->(v'=Z O 0 0->v=Z O 0 0)->wpList K ops Q rest (a.put o.dst v') w'):wpList K ops Q (o::rest) a w:=by
 obtain⟨i,j,D,J,z⟩:=AaO Tryz.infoAF;subst hm;cases ao with
 |none=>
  obtain⟨y,rfl⟩:=gV rfl;have B:=Aav y;subst B;exact AbO pQ s x 35 ho base 95 i 2 underlying35 j v _ _ hs bB hx (h v w (by simpa using bB) (Abp _ _) id)
 |some n=>
  have g:∀u∈Ii zs,u.oneCell'=true:=by
   intro u t;obtain⟨p,-,k⟩:=AbG.1 t;simp[AFc]at k;rcases k with rfl|rfl<;>rfl
  obtain⟨v',w',L,E,r,d⟩:=AdG w base 35 o.type 95 i (.agg #[I V 0,.string ⟨#[]⟩]) 2 24 underlying35 j D J z rfl (by decide) v ys.length (Ii ys) bB n zs.length c (Ii zs) (qU zs) (Cn.cells hr) g (by unfold maxLen;omega) (by omega) gY;refine Adl pQ λ_ A=>?_;unfold Oper.wp execOp;simp only[ho,resolve,invoke,builtin,Aci,AcM,Acd,Ack,AaK,AbJ,hs,hx,L];refine A _ _ (h v' w' ?_ r (λe=>(d.1 e).1));unfold iM;rw[Db,Aah];exact E
theorem wN.later {w3:F}{aJ:Nat->Prop}(h:wN w w2 B r r')(hF:Fr w2 w3 aJ)(hio:w3.os=w2.os/\w3.tape=w2.tape/\w3.output=w2.output)(hZ:∀b,aJ b->w.heap.size<=b/\∃aR,w2.heap[b]?=M (C aR 95 (0,0))):wN w w3 B r r':=by
 refine⟨h.pair.fr hF (λb a=>?_) (λe=>?_) (λb a e=>?_),h.sb,⟨Aal h.fr.1 hF.1,λb a g=>?_⟩,⟨hio.1.trans h.io.1,hio.2.1.trans h.io.2.1,hio.2.2.trans h.io.2.2⟩,h.yn⟩
 ·obtain⟨-,aR,c⟩:=hZ b a;exact Qc.of c (by decide) (by decide) (by decide) (by decide)
 ·obtain⟨-,aR,c⟩:=hZ _ e;exact aZ h.pair.sb c (by decide) rfl
 ·obtain⟨-,aR,c⟩:=hZ b e;exact(h.pair.ty a).ne c (by decide)
 ·have d:¬aJ b:=λe=>by have:=(hZ b e).1;omega
  rw[hF.2 b (AaE a h.fr.1) d,h.fr.2 b a g]
theorem wN.early (hg:aL w w0)(h:wN w0 w2 B r r'):wN w w2 B r r':=by
 have e:=hg.size;refine⟨h.pair,h.sb,⟨Aal hg.size h.fr.1,λb a d=>?_⟩,⟨h.io.1.trans hg.os,h.io.2.1.trans hg.tape,h.io.2.2.trans hg.output⟩,λb a=>?_⟩
 ·rw[h.fr.2 b (by omega) d,hg.block b a]
 ·rcases h.yn b a with c|c
  ·exact Aac c
  ·exact Aab (by omega)
theorem Xh {row:Option Nat}(hg:aL w w0)(h:w0.grownBy w1 row)(hr:∀k,row=M k->w.heap.size<=k):aL w w1:=
 ⟨h.os.trans hg.os,h.tape.trans hg.tape,h.output.trans hg.output,Aal hg.size h.size,λb a=>(h.block b (AaE a hg.size) (λe=>by have:=hr b e.symm;omega)).trans (hg.block b a)⟩
theorem Cn.fr (h:Cn w ao l)(hF:Fr w w' X)(hx:∀a,ao=M a->l≠[]->¬X a.block):Cn w' ao l:=by
 by_cases d:l=[]
 ·exact Aac d
 rcases h with h|⟨b,off,e,j⟩
 ·exact Aac h
 ·refine Aab ⟨b,off,e,λi f k=>?_⟩;have c:=j i f k;have g:=hF.2 b (AaA _ _ c.1) (hx _ e d);exact⟨(AaN g).trans c.1,(AaN g).trans c.2⟩
theorem Cn.left {r:List AF}(h:Cn w ao (l++r)):Cn w ao l:=by
 rcases h with h|⟨b,off,e,c⟩
 ·exact Aac (List.append_eq_nil_iff.1 h).1
 ·exact Aab ⟨b,off,e,λi f a=>c i f (by rw[Abw (Aae.1 a).1];exact a)⟩
theorem Xi (x:St)(l:List AF):(gT x l).1.1=x.1/\(gT x l).1.2.2=x.2.2:=by
 unfold gT;split
 ·exact⟨rfl,rfl⟩
 ·split<;>exact⟨rfl,rfl⟩
theorem wN.at (hP:gI w B r)(h:wN w w2 B r r'){b:Nat}{t:TypeId}{f:Nat×Nat}(hb:w.heap[b]?=M (C aR t f))(ht:(t≠155/\t≠200/\t≠202/\t≠5/\t≠115/\t≠124/\t≠157/\t≠165/\t≠104)/\t≠93/\t≠97):w2.heap[b]?=M (C aR t f):=
 h.fr.at hb (λe=>(hP.ty e).ne hb ht)
theorem move_how (hc:iX s)(h:gH s.room fs)(n t:Int):(∃s' dZ,lW s fs n t=(true,s',dZ)/\Aj s s')\/(∃s' dZ,lW s fs n t=(false,s',dZ)/\Qw s s' fs dZ):=by
 unfold lW;cases gK fs n with
 |none=>exact Aac ⟨s,fs,rfl,iR.refl s,rfl,rfl,hc⟩
 |some f=>
  simp only;rcases nO hc h with⟨s',e,a⟩|⟨s',dZ,e,a⟩
  ·rw[e];exact Aac ⟨_,_,rfl,a⟩
  ·rw[e];exact Aab ⟨_,_,rfl,a⟩
theorem OZ (hc:iX s)(h:gH s.room fs)(n:Int):(∃s' dZ,cO s fs n=(true,s',dZ)/\Aj s s')\/(∃s' dZ,cO s fs n=(false,s',dZ)/\Qw s s' fs dZ):=by
 rcases qZ hc h n with⟨s',dZ,e,a,-⟩|h
 ·exact Aac ⟨s',dZ,e,a⟩
 ·exact Aab h
def FK:St:=(oN 100 10 10000,[],Ff)
def pJ:St:=(jP FK).1
def Xy:St:=(jH pJ 73 0 0 ⟨#[104,101,108,108,111]⟩).1
def Ie:St:=(jH Xy 73 5 0 ⟨#[32,121,111,117]⟩).1
def QW:St:=(jH Ie 68 0 1 ⟨#[]⟩).1
theorem hd_open:(jP FK).2=0:=by kernel_rfl
theorem hd_a:(jH pJ 73 0 0 ⟨#[104,101,108,108,111]⟩).2=0:=by kernel_rfl
theorem hd_b:(jH Xy 73 5 0 ⟨#[32,121,111,117]⟩).2=0:=by kernel_rfl
theorem hd_c:(jH Ie 68 0 1 ⟨#[]⟩).2=0:=by kernel_rfl
theorem hd_r:(sQ QW 0 8)=(⟨#[101,108,108,111,32,121,111,117]⟩,0):=by kernel_rfl
theorem hd_d:QW.1.aX=true/\QW.2.2.2.2.2.1=3:=⟨by kernel_rfl,by kernel_rfl⟩
def HdI (w W:F)(ps:Nat->Addr)(qp:Nat)(x:St):Prop:=∃X,wB W qp x.1 x.2.1 x.2.2 X/\Gl W ps/\aL w W/\∀b,X b->w.heap.size<=b
theorem hd_ia:xL [] 0 10 5=([(10,5)],0):=by decide
theorem hd_ib:xL [(10,5)] 2 50 1=([(10,2),(50,1),(12,3)],0):=by decide
section
variable {w:F} {B wb p:Nat} {ts:List Rec} {rs:List gZ} {bs:List Bool} {D:Int} {dX eZ vp vf vm:Y} {hs gs:List bT} {r:gZ} {ps:Nat->Addr} {a n m k:Int} {s:ByteArray} {fo:Option Addr} {fl fc:Nat}
theorem fI.dJ (h:fI w B wb ts rs bs D dX eZ vp vf vm hs gs)(r:gZ)(hr:r∈rs):GS r.x D:=(h.sp.2.1 r hr).2
theorem fI.pair (h:fI w B wb ts rs bs D dX eZ vp vf vm hs gs)(r:gZ)(hr:r∈rs):gI w B r:=(h.sp.2.1 r hr).1
end
def yL (q a n m k:Int)(s:ByteArray)(fo:Option Addr)(fl fc:Nat):Obj:=C #[I V q,I V a,I V n,I V m,I V k,.string s,Z fo fl fc] 37 (0,0)
theorem Rx {wb g p bx:Nat}{dX u:Y}{q m:Int}{s:ByteArray}(h0:w.cell? ⟨wb,0,O⟩=M dX)(hg:w.heap[g]?=M (C aR 39 (0,0)))(hp:aR[p]?=M u)
 (hb:w.heap[bx]?=M (yL q a n m k s fo fl fc)):w.cell? ⟨wb,0,O⟩=M dX/\w.cell? ⟨g,p,O⟩=M u/\w.cell? ⟨bx,0,O⟩=M (I V q)/\w.cell? ⟨bx,1,O⟩=M (I V a)/\w.cell? ⟨bx,2,O⟩=M (I V n)/\w.cell? ⟨bx,3,O⟩=M (I V m)/\w.cell? ⟨bx,4,O⟩=M (I V k)/\w.cell? ⟨bx,5,O⟩=M (.string s)/\w.cell? ⟨bx,6,O⟩=M (Z fo fl fc):=by
 refine⟨h0,?_,?_⟩
 ·rw[AcT w g p aR _ _ hg];exact hp
 ·simp[World.cell?,hb,yL]
end Go.Proofs.YtfplgfodoiiobabGreatDoor
