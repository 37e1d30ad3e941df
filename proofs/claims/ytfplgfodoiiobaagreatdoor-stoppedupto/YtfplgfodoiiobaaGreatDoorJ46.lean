/- KwQ, SwB, SwG, SwK (joined). -/
import Derived.Test.YtfplgfodoiiobaaGreatDoorJ45
open Option renaming none→O,some→M
open Go.Value renaming int→I,slice→Z,pointer→U
open Go.IntKind renaming i64→V
open Go.Obj renaming cells→C
open Go.Ending renaming returned→G
open Go renaming World→F,Value→Y,Calls→H
open Go.Proofs.Tryz renaming prog→K
namespace Go.Proofs.YtfplgfodoiiobaaGreatDoor
set_option maxHeartbeats 2000000
set_option maxRecDepth 100000
open Go.RowKit
variable {w w' W:F}{d R N len qp B k T:Nat}{g:Gm}{aA:List Gm}{X:Nat->Prop}{L:List MQ}{ao:Option Addr}{v:Y}{ps:Nat->Addr}{aT:Array Y}
def KY (w:F)(b o:Nat)(q n m kk:Int)(S:ByteArray):Prop:=(-9223372036854775808<=n/\n<=9223372036854775807)/\(-9223372036854775808<=m/\m<=9223372036854775807)/\S.size<=140737488355328/\w.cell? ⟨b,o,O⟩=M (I V q)/\w.cell? ⟨b,o+1,O⟩=M (I V n)/\w.cell? ⟨b,o+2,O⟩=M (I V m)/\w.cell? ⟨b,o+3,O⟩=M (I V kk)/\w.cell? ⟨b,o+4,O⟩=M (.string S)
def vX (w:F)(N:Nat)(ao:Option Addr)(len:Nat):Prop:=len=0\/∃b off,ao=M ⟨b,off,O⟩/\b<N/\∀i,i<len->∃q n m kk S,KY w b (off+i*5) q n m kk S
theorem vX.dk {X':Nat->Prop}(h:vX w N ao len)(hk:Dk w w' X X')(hN:N<=w.heap.size)(hX:∀b,X b->N<=b):vX w' N ao len:=by
 rcases h with h|⟨b,off,e,hb,h⟩
 ·exact Or.inl h
 ·refine Or.inr ⟨b,off,e,hb,fun i hi=>?_⟩;obtain⟨q,n,m,kk,S,h1,h2,h3,c0,c1,c2,c3,c4⟩:=h i hi;have hbb:w'.heap[b]?=w.heap[b]?:=hk.1.2 b (by omega) (fun e=>by have:=hX b e;omega);have key:∀(o:Nat) (v:Y),w.cell? ⟨b,o,O⟩=M v->w'.cell? ⟨b,o,O⟩=M v:=fun o v hv=>(World.cell?_of_block (a:=⟨b,o,O⟩) hbb).trans hv
  exact⟨q,n,m,kk,S,h1,h2,h3,key _ _ c0,key _ _ c1,key _ _ c2,key _ _ c3,key _ _ c4⟩
theorem ZK (g:Gm)(kind pos m:Int)(S:ByteArray)(d:Nat):dL g kind pos m S d=g\/(dL g kind pos m S d).2.2.2=g.2.2.2+1:=by
 unfold dL qZ vB nC nD;split
 ·split
  ·exact Or.inl rfl
  ·split
   ·exact Or.inl rfl
   ·split
    ·exact Or.inl rfl
    ·exact Or.inr rfl
 ·split
  ·split
   ·exact Or.inl rfl
   ·exact Or.inr rfl
  ·split
   ·split
    ·exact Or.inl rfl
    ·rename_i hz;cases hl:g.2.1 with
     |nil=>exact absurd hl hz
     |cons f l=>exact Or.inr (by simp[yM,hl])
   ·split
    ·split
     ·exact Or.inl rfl
     ·rename_i hz;cases hl:g.2.2.1 with
      |nil=>exact absurd hl hz
      |cons f l=>exact Or.inr (by simp[yN,hl])
    ·exact Or.inl rfl
def Me (w:F)(N:Nat)(ao:Option Addr)(len:Nat)(sz:Nat->Nat):Prop:=len=0\/∃b off,ao=M ⟨b,off,O⟩/\b<N/\∀i,i<len->∃q n m kk S,KY w b (off+i*5) q n m kk S/\S.size=sz i
theorem VN (h:vX w N ao len):∃sz,Me w N ao len sz:=by
 rcases h with h|⟨b,off,e,hb,h⟩
 ·exact⟨fun _=>0,Or.inl h⟩
 ·have:∀i,∃n:Nat,i<len->∃q n' m kk S,KY w b (off+i*5) q n' m kk S/\S.size=n:=fun i=>by
   by_cases hi:i<len
   ·obtain⟨q,n',m,kk,S,ha⟩:=h i hi;exact⟨S.size,fun _=>⟨q,n',m,kk,S,ha,rfl⟩⟩
   ·exact⟨0,fun ZW=>absurd ZW hi⟩
  obtain⟨sz,gQ⟩:=Classical.axiomOfChoice this;exact⟨sz,Or.inr ⟨b,off,e,hb,gQ⟩⟩
theorem Me.dk {sz:Nat->Nat}{X':Nat->Prop}(h:Me w N ao len sz)(hk:Dk w w' X X')(hN:N<=w.heap.size)(hX:∀b,X b->N<=b):Me w' N ao len sz:=by
 rcases h with h|⟨b,off,e,hb,h⟩
 ·exact Or.inl h
 ·refine Or.inr ⟨b,off,e,hb,fun i hi=>?_⟩;obtain⟨q,n,m,kk,S,⟨h1,h2,h3,c0,c1,c2,c3,c4⟩,hz⟩:=h i hi;have hbb:w'.heap[b]?=w.heap[b]?:=hk.1.2 b (by omega) (fun e=>by have:=hX b e;omega);have key:∀(o:Nat) (v:Y),w.cell? ⟨b,o,O⟩=M v->w'.cell? ⟨b,o,O⟩=M v:=fun o v hv=>(World.cell?_of_block (a:=⟨b,o,O⟩) hbb).trans hv
  exact⟨q,n,m,kk,S,⟨h1,h2,h3,key _ _ c0,key _ _ c1,key _ _ c2,key _ _ c3,key _ _ c4⟩,hz⟩
def oF (sz:Nat->Nat):Nat->Nat
 |0=>0
 |i+1=>oF sz i+sz i
theorem own_row {l:List MQ}{q:MQ}(h:nW w B v (l++ [q]))(hg:w.grownBy w' v.ownBlock):∃R aT,B<=R/\w.heap[R]?=M (C aT 36 (0,0))/\Fr w w' (fun b=>b=R)/\v.ownBlock=M R:=by
 rcases h.2 with⟨-,e⟩|⟨g,cap,aT,rfl,ZU,hh,-⟩
 ·simp at e
 ·refine⟨g,aT,ZU,hh,⟨hg.size,fun b hb hx=>hg.block b hb (fun e=>hx ?_)⟩,rfl⟩;simp[Value.ownBlock]at e;omega
theorem pso_row {W':F}{row:Option Nat}(hG:Gl w ps)(h:Ih w W ps qp d X aA g k T)(hF:Fr W W' (fun b=>b=R))(hb:W.heap[R]?=M (C aT 36 (0,0)))(hR:w.heap.size<=R)(hg:W.grownBy W' row):Ih w W' ps qp d X aA g k T:=by
 obtain⟨X',h1,h2⟩:=h;exact⟨X',h1.off hF hb (fun k hk e=>by have:=hG.lt k hk;omega),⟨RI h2.1 hF hR,⟨hg.os.trans h2.2.1.1,hg.tape.trans h2.2.1.2.1,hg.output.trans h2.2.1.2.2⟩,h2.2.2⟩⟩
theorem KZ {w1:F}(h:Ih w w1 ps qp d X aA g k T)(hg:aJ w1 W):Ih w W ps qp d X aA g k T:=by
 obtain⟨X',h1,h2⟩:=h;exact⟨X',h1.aM hg,h2.aM hg⟩
theorem LA {x y z u:Y}(hG:Gl w ps)(h:Ih w W ps qp d X aA g k T)(hR:w.heap.size<=R)(hb:W.heap[R]?=M (C #[x,y,z,u] 36 (0,0)))(a b c e:Y):Ih w ((((W.setCell ⟨R,0,O⟩ a).setCell ⟨R,1,O⟩ b).setCell ⟨R,2,O⟩ c).setCell ⟨R,3,O⟩ e) ps qp d X aA g k T:=gW (P:=fun w X=>rF w ps qp d aA g k T X) Bo hG h hR hb a b c e
theorem eU.row (h:eU w v g d)(hF:Fr w w' (fun b=>b=R))(hb:w.heap[R]?=M (C aT 36 (0,0))):eU w' v g d:=by
 obtain⟨su,sr,e,h1,h2⟩:=h.form;exact⟨⟨su,sr,e,h1.fr hF (fun b aT f pR e=>aW pR hb (by decide) e),h2.fr hF (fun b aT f pR e=>aW pR hb (by decide) e)⟩,h.ul,h.rl,h.d0,h.d1⟩
theorem LB {l:List MQ}(h:nW w B v l)(hR:R<B)(a b c d:Y):nW ((((w.setCell ⟨R,0,O⟩ a).setCell ⟨R,1,O⟩ b).setCell ⟨R,2,O⟩ c).setCell ⟨R,3,O⟩ d) B v l:=h.fr (fr4 w R a b c d) (fun x aT hx _ e=>by omega)
def AlM (w:F)(L:List MQ)(aA:List Gm)(d:Nat):Prop:=L.length=aA.length/\∀(j:Nat) (q:MQ) (g:Gm),L[j]?=M q->aA[j]?=M g->eU w (MQ.agg q) g d
def Eg (w:F)(L:List MQ)(aA:List Gm)(q:MQ)(g:Gm)(d:Nat):Prop:=eU w (MQ.agg q) g d/\AlM w L aA d
theorem Eg.to {q:MQ}(h:Eg w L aA q g d)(f:∀q g,eU w (MQ.agg q) g d->eU w' (MQ.agg q) g d):Eg w' L aA q g d:=⟨f _ _ h.1,h.2.1,fun j q g a b=>f _ _ (h.2.2 j q g a b)⟩
theorem Eg.aM {q:MQ}(h:Eg w L aA q g d)(hg:aJ w w'):Eg w' L aA q g d:=h.to (fun _ _ k=>k.aM hg)
theorem Eg.q {aB:Nat->Prop}{q:MQ}(h:Eg w L aA q g d)(hF:Fr w w' aB)(hY:∀b,aB b->lD w b):Eg w' L aA q g d:=h.to (fun _ _ k=>k.q hF hY)
theorem Eg.sN {q:MQ}{dd:Nat}{x y z u:Y}(h:Eg w L aA q g dd)(hb:w.heap[R]?=M (C #[x,y,z,u] 36 (0,0)))(a b c d:Y):Eg ((((w.setCell ⟨R,0,O⟩ a).setCell ⟨R,1,O⟩ b).setCell ⟨R,2,O⟩ c).setCell ⟨R,3,O⟩ d) L aA q g dd:=h.to (fun _ _ k=>k.sN hb a b c d)
theorem Eg.row {q:MQ}(h:Eg w L aA q g d)(hF:Fr w w' (fun b=>b=R))(hb:w.heap[R]?=M (C aT 36 (0,0))):Eg w' L aA q g d:=h.to (fun _ _ k=>k.row hF hb)
theorem Eg.snoc {q:MQ}(h:Eg w L aA q g d):AlM w (L++ [q]) (aA++ [g]) d:=by
 obtain⟨h1,h2,h3⟩:=h;refine⟨by rw[List.length_append,List.length_append,h2];rfl,fun j q' g' hq hg=>?_⟩;rcases Nat.lt_or_ge j L.length with hj|hj
 ·rw[List.getElem?_append_left hj]at hq;rw[List.getElem?_append_left (by omega)]at hg;exact h3 j q' g' hq hg
 ·rw[List.getElem?_append_right hj]at hq;rw[List.getElem?_append_right (by omega)]at hg
  have hj0:j-L.length=0:=by
   have:=(List.getElem?_eq_some_iff.1 hq).1;simp at this;omega
  rw[hj0]at hq;rw[show j-aA.length=0 by omega]at hg;simp at hq hg;rw[<-hq,<-hg];exact h1
def dw (w wr:F)(ps:Nat->Addr)(qp d:Nat)(X:Nat->Prop)(sz:Nat->Nat)(i:Nat)(v:Y):Prop:=∃g X' L q aA,rF wr ps qp d aA g i (oF sz i) X'/\Dk w wr X X'/\MdAt wr w.heap.size g d/\Eg wr L aA q g d/\nW wr (w.heap.size+1) v (L++ [q])/\L.length<=i
def PlP (w wr:F)(ps:Nat->Addr)(qp d:Nat)(X:Nat->Prop)(T:Nat)(v:Y):Prop:=∃g X' L q aA,rF wr ps qp d aA g 120 T X'/\Dk w wr X X'/\Eg wr L aA q g d/\nW wr (w.heap.size+1) v (L++ [q])/\L.length<=120
def PlD (w wr:F)(ps:Nat->Addr)(qp d:Nat)(X:Nat->Prop)(v:Y):Prop:=∃g X' L q,rO wr ps qp d g 120 X'/\Dk w wr X X'/\eU wr (MQ.agg q) g d/\nW wr (w.heap.size+1) v (L++ [q])/\L.length<=120
theorem LC {cap:Nat}{sz:Nat->Nat}(h:rF w ps qp d [] ([],[],[],0) 0 0 X)(hd:d<=50)(hA:Me w N ao len sz)(hN:N<=w.heap.size)(hX:∀b,X b->N<=b)(hlen:(len:Int)<=9223372036854775807):
 H K 18 #[U (M ⟨qp,0,O⟩),Z ao len cap,I V (d:Int)] w fun e w'=> ∃v,e=G (.tuple #[v,.bool true])/\PlP w w' ps qp d X (oF sz (min len 120)) v:=by
 obtain⟨w1,dU⟩:∃w1,w1=(w.alloc (C #[.string ⟨#[]⟩,Z O 0 0,Z O 0 0,I V 0] 36)).alloc (C #[.string ⟨#[]⟩,Z O 0 0,Z O 0 0,I V 0] 36):=⟨_,rfl⟩;have Co:Hid (Gl w ps):=h.1;have HAc:Hid (∀W X',Dk w W X X'->Me W N ao len sz):=fun W X' hk=>hA.dk hk hN hX
 have HS0:Hid (dw w w1 ps qp d X sz 0 (Z (M ⟨w.heap.size+1,0,O⟩) 1 1)):=by
  rw[dU];have aC:aJ w _:=((aJ.refl w).alloc (C #[.string ⟨#[]⟩,Z O 0 0,Z O 0 0,I V 0] 36)).alloc (C #[.string ⟨#[]⟩,Z O 0 0,Z O 0 0,I V 0] 36);have hM:∀W,eU W (.agg #[.string ⟨#[]⟩,Z O 0 0,Z O 0 0,I V 0]) ([],[],[],0) d:=fun W=>⟨⟨_,_,rfl,jI.nil W,jI.nil W⟩,Nat.zero_le _,Nat.zero_le _,Int.le_refl _,by decide⟩
  refine⟨([],[],[],0),X,[],(⟨#[]⟩,(O,0,0),(O,0,0),0),[],h.aM aC,Dk.bH aC,⟨O,0,0,O,0,0,?_,hM _⟩,⟨hM _,rfl,fun j q g h=>by simp at h⟩,?_,Nat.le_refl _⟩
  ·exact((aU _ _).block _ (by simp)).trans (heap_alloc_new w _)
  ·have:=World.ownsRow_lit (base:=w.heap.size+1) (e:=36) (size:=4) (w.alloc (C #[.string ⟨#[]⟩,Z O 0 0,Z O 0 0,I V 0] 36)) #[.string ⟨#[]⟩,Z O 0 0,Z O 0 0,I V 0] 1 (by simp) (by decide) rfl;rw[World.size_alloc]at this;exact this
 clear h hA;go_enter Tryz.func18,Tryz.ntmps18
 go_upto_region 3 with fail
 rw[<-dU];clear dU;have l0:(0:Int)<=(len:Int):=by omega
 go_wp2_with fail
 go_loopw [9,10] (fun va vi wr=> ∃i:Nat,i<=len/\i<=120/\vi=I V (i:Int)/\Hid (dw w wr ps qp d X sz i va)) (fun _ vi _=>len-(intOf vi).toNat)
 case atStart=>exact⟨0,Nat.zero_le _,Nat.zero_le _,rfl,HS0⟩
 case round=>
  clear HS0;obtain⟨i,hi,hi2,rfl,HS⟩:=hrel;by_cases bV:i<len
  ·by_cases ZL:i<120
   ·obtain⟨g1,X1,L,q',aA,s1,k1,⟨Ea,Eb,Ec,Ee,Ag,Ef,bX,BP⟩,Xd,Je,Uo⟩:=HS.out
    obtain⟨b,off,rfl,kd,n,m,kk,S,⟨hn,hm,hs,y0,y1,y2,y3,y4⟩,HZ⟩:∃b off,ao=M ⟨b,off,O⟩/\∃kd n m kk S,KY wr b (off+i*5) kd n m kk S/\Hid (S.size=sz i):=by
     rcases HAc.out _ _ k1 with h|⟨b,off,h1,-,h2⟩
     ·omega
     ·exact⟨b,off,h1,h2 i bV⟩
    obtain⟨c0,c1,c2,c3⟩:=aZ bX;have i1:(0:Int)<=(i:Int):=by omega
    have i2:(i:Int)<(len:Int):=by omega
    have i3:(i:Int)<120:=by omega
    obtain⟨w2,Em⟩:∃w2,w2=wr.alloc (C #[I V kd,I V n,I V m,I V kk,.string S] 39):=⟨_,rfl⟩;have G2:aJ wr w2:=by rw[Em];exact(aJ.refl _).alloc _
    have FJ:w2.heap[wr.heap.size]?=M (C #[I V kd,I V n,I V m,I V kk,.string S] 39 (0,0)):=by rw[Em];exact heap_alloc_new wr _
    have fP:=(G2.block _ (aK bX)).trans bX;have Lu:Hid (rF w2 ps qp d aA g1 i (oF sz i) X1):=s1.aM G2;have HM:Hid (eU w2 (.agg #[.string (aR g1.1),Z Ea Eb Ec,Z Ee Ag Ef,I V g1.2.2.2]) g1 d):=BP.aM G2;have HQ:Hid (Eg w2 L aA q' g1 d):=Xd.aM G2;have HO:Hid (nW w2 (w.heap.size+1) u9 (L++ [q'])):=Je.aM G2;have HK:Hid (Dk w w2 X X1):=k1.aM G2;have HB:Hid (w2.heap[w.heap.size]?=M (C #[.string (aR g1.1),Z Ea Eb Ec,Z Ee Ag Ef,I V g1.2.2.2] 36 (0,0))):=fP;have HL:Hid (L.length<=i):=Uo;have gQ:=iX g1.1;have rG:(g1.1.length:Int)<=5000:=s1.gm.1;clear s1 k1 bX BP Xd Je Uo G2 HS;clear c0 c1 c2 c3
    go_upto_region 7 with fail
    rw[<-Em];clear Em y0 y1 y2 y3 y4;obtain⟨c0,c1,c2,c3⟩:=aZ fP;obtain⟨y0,y1,y2,y3,y4⟩:=kP FJ;clear fP FJ;by_cases k5:kd=5
    ·subst k5;have Ce:=fun W=>tH (w:=W) hn.1 hn.2 (show(0:Int)<=(g1.1.length:Int) by omega) rG
     have HR:Hid (∀r,H K 39 #[U (M ⟨qp,0,O⟩),I V r,I V m] w2 fun e w'=>e=G (.tuple #[.string (Ae g1 r m).1,I V (Ae g1 r m).2])/\aJ w2 w'):=fun r=>M_ Lu.out.sat hm.2
     go_upto_region 18 with(first|(go_at_call 41;refine(Ce _).mono ?_;rintro e w9 ⟨r,rfl,r1,r2,rfl⟩)|(go_at_call 39;refine(HR.out _).mono ?_;rintro e w3 ⟨rfl,jT⟩))
     have Er:Hid (rF w3 ps qp d aA g1 (i+1) (oF sz (i+1)) X1):=(Lu.out.aM jT).more (by omega) (Nat.le_add_right _ _);have BU:Hid (Dk w w3 X X1):=HK.out.aM jT;have Ki:Hid (eU w3 (.agg #[.string (aR g1.1),Z Ea Eb Ec,Z Ee Ag Ef,I V g1.2.2.2]) g1 d):=HM.out.aM jT;have Qm:Hid (Eg w3 L aA q' g1 d):=HQ.out.aM jT;have El:Hid (nW w3 (w.heap.size+1) u9 (L++ [q'])):=HO.out.aM jT;have Ah:Hid (w3.heap[w.heap.size]?=M (C #[.string (aR g1.1),Z Ea Eb Ec,Z Ee Ag Ef,I V g1.2.2.2] 36 (0,0))):=(jT.block _ (aK HB.out)).trans HB.out;have j2:=jT.cell y2;have j0:=jT.cell c0;clear jT y0 y1 y2 y3 y4 c0 c1 c2 c3 HR Ce Lu HK HM HQ HO HB;by_cases k1:r<0\/(g1.1.length:Int)<r\/m<0\/(g1.1.length:Int)-r<m
     ·have hq:Ae g1 r m=(⟨#[]⟩,5):=by unfold Ae;rw[if_pos k1]
      simp only[hq];clear hq;by_cases k2:r<0
      ·clear k1
       go_upto_region 29 with fail
       have Cr:=iL Er.out.sat Ki.out;obtain⟨c0,c1,c2,c3⟩:=aZ Ah.out;have HN:Hid (∀W,aJ w3 W->dw w W ps qp d X sz (i+1) u9):=fun W hW=>⟨g1,X1,L,q',aA,Er.out.aM hW,BU.out.aM hW,⟨Ea,Eb,Ec,Ee,Ag,Ef,(hW.block _ (aK Ah.out)).trans Ah.out,Ki.out.aM hW⟩,Qm.out.aM hW,El.out.aM hW,by have:=HL.out;omega⟩
       clear Er Ki Qm El Ah BU
       go_wp2_with (go_at_call 26;refine Cr.mono ?_;rintro e w7 ⟨rfl,jS⟩)
       go_roundw
       case rel=>exact⟨i+1,by omega,by omega,by go_num,HN.out _ jS⟩
       case measure=>simp[intOf];omega
      ·by_cases k3:(g1.1.length:Int)<r
       ·clear k1
        go_upto_region 29 with fail
        have Cr:=iL Er.out.sat Ki.out;obtain⟨c0,c1,c2,c3⟩:=aZ Ah.out;have HN:Hid (∀W,aJ w3 W->dw w W ps qp d X sz (i+1) u9):=fun W hW=>⟨g1,X1,L,q',aA,Er.out.aM hW,BU.out.aM hW,⟨Ea,Eb,Ec,Ee,Ag,Ef,(hW.block _ (aK Ah.out)).trans Ah.out,Ki.out.aM hW⟩,Qm.out.aM hW,El.out.aM hW,by have:=HL.out;omega⟩
        clear Er Ki Qm El Ah BU
        go_wp2_with (go_at_call 26;refine Cr.mono ?_;rintro e w7 ⟨rfl,jS⟩)
        go_roundw
        case rel=>exact⟨i+1,by omega,by omega,by go_num,HN.out _ jS⟩
        case measure=>simp[intOf];omega
       ·by_cases k4:m<0
        ·clear k1
         go_upto_region 29 with fail
         have Cr:=iL Er.out.sat Ki.out;obtain⟨c0,c1,c2,c3⟩:=aZ Ah.out;have HN:Hid (∀W,aJ w3 W->dw w W ps qp d X sz (i+1) u9):=fun W hW=>⟨g1,X1,L,q',aA,Er.out.aM hW,BU.out.aM hW,⟨Ea,Eb,Ec,Ee,Ag,Ef,(hW.block _ (aK Ah.out)).trans Ah.out,Ki.out.aM hW⟩,Qm.out.aM hW,El.out.aM hW,by have:=HL.out;omega⟩
         clear Er Ki Qm El Ah BU
         go_wp2_with (go_at_call 26;refine Cr.mono ?_;rintro e w7 ⟨rfl,jS⟩)
         go_roundw
         case rel=>exact⟨i+1,by omega,by omega,by go_num,HN.out _ jS⟩
         case measure=>simp[intOf];omega
        ·have k6:(g1.1.length:Int)-r<m:=by omega
         clear k1
         go_upto_region 29 with fail
         have Cr:=iL Er.out.sat Ki.out;obtain⟨c0,c1,c2,c3⟩:=aZ Ah.out;have HN:Hid (∀W,aJ w3 W->dw w W ps qp d X sz (i+1) u9):=fun W hW=>⟨g1,X1,L,q',aA,Er.out.aM hW,BU.out.aM hW,⟨Ea,Eb,Ec,Ee,Ag,Ef,(hW.block _ (aK Ah.out)).trans Ah.out,Ki.out.aM hW⟩,Qm.out.aM hW,El.out.aM hW,by have:=HL.out;omega⟩
         clear Er Ki Qm El Ah BU
         go_wp2_with (go_at_call 26;refine Cr.mono ?_;rintro e w7 ⟨rfl,jS⟩)
         go_roundw
         case rel=>exact⟨i+1,by omega,by omega,by go_num,HN.out _ jS⟩
         case measure=>simp[intOf];omega
     ·have k2:¬r<0:=by omega
      have k3:¬(g1.1.length:Int)<r:=by omega
      have k4:¬m<0:=by omega
      have k6:¬(g1.1.length:Int)-r<m:=by omega
      have e1:0<=r:=by omega
      have e2:r<=r+m:=by omega
      have e3:r+m<=((aR g1.1).size:Int):=by omega
      have ru:IntKind.i64.wrap (r+m)=r+m:=by rw[IntKind.wrap_i64];omega
      have hq:Ae g1 r m=((aR g1.1).extract r.toNat (r+m).toNat,0):=by
       unfold Ae;rw[if_neg k1]
       have:(⟨((g1.1.drop r.toNat).take m.toNat).toArray⟩:ByteArray)=(aR g1.1).extract r.toNat (r+m).toNat:=pW (by
        rw[iC];simp only[aR];rw[show(r+m).toNat-r.toNat=m.toNat by omega])
       rw[this]
      simp only[hq];clear hq k1
      go_upto_region 29 with fail
      have Cr:=iL Er.out.sat Ki.out;obtain⟨c0,c1,c2,c3⟩:=aZ Ah.out;have HN:Hid (∀W,aJ w3 W->dw w W ps qp d X sz (i+1) u9):=fun W hW=>⟨g1,X1,L,q',aA,Er.out.aM hW,BU.out.aM hW,⟨Ea,Eb,Ec,Ee,Ag,Ef,(hW.block _ (aK Ah.out)).trans Ah.out,Ki.out.aM hW⟩,Qm.out.aM hW,El.out.aM hW,by have:=HL.out;omega⟩
      clear Er Ki Qm El Ah BU
      go_wp2_with (go_at_call 26;refine Cr.mono ?_;rintro e w7 ⟨rfl,jS⟩)
      go_roundw
      case rel=>exact⟨i+1,by omega,by omega,by go_num,HN.out _ jS⟩
      case measure=>simp[intOf];omega
    ·by_cases k678:kd=6\/kd=7\/kd=8
     ·skip;have HKp:Hid (H K 22 #[U (M ⟨qp,0,O⟩),I V kd] w2 fun e w'=>e=G (I V 0)/\Ih w2 w' ps qp d X1 aA g1 (i+1) (oF sz i)):=kept_p Lu.out (by omega);rcases k678 with rfl|rfl|rfl
      ·go_upto_region 29 with(go_at_call 22;refine HKp.out.mono ?_;rintro e w3 ⟨rfl,X6,s6,k6⟩)
       have Er:Hid (rF w3 ps qp d aA g1 (i+1) (oF sz (i+1)) X6):=s6.more (Nat.le_refl _) (Nat.le_add_right _ _);have BU:Hid (Dk w w3 X X6):=HK.out.trans k6;have Ki:Hid (eU w3 (.agg #[.string (aR g1.1),Z Ea Eb Ec,Z Ee Ag Ef,I V g1.2.2.2]) g1 d):=HM.out.q k6.1 (fun b hb=>Lu.out.ty hb);have Qm:Hid (Eg w3 L aA q' g1 d):=HQ.out.q k6.1 (fun b hb=>Lu.out.ty hb);have El:Hid (nW w3 (w.heap.size+1) u9 (L++ [q'])):=HO.out.q k6.1 (fun b hb=>Lu.out.ty hb);have Ah:Hid (w3.heap[w.heap.size]?=M (C #[.string (aR g1.1),Z Ea Eb Ec,Z Ee Ag Ef,I V g1.2.2.2] 36 (0,0))):=k6.1.at HB.out (fun e=>(Lu.out.ty e).ne HB.out (by decide) rfl);clear s6 k6 c0 c1 c2 c3 y0 y1 y2 y3 y4;have Cr:=iL Er.out.sat Ki.out;obtain⟨c0,c1,c2,c3⟩:=aZ Ah.out;have HN:Hid (∀W,aJ w3 W->dw w W ps qp d X sz (i+1) u9):=fun W hW=>⟨g1,X6,L,q',aA,Er.out.aM hW,BU.out.aM hW,⟨Ea,Eb,Ec,Ee,Ag,Ef,(hW.block _ (aK Ah.out)).trans Ah.out,Ki.out.aM hW⟩,Qm.out.aM hW,El.out.aM hW,by have:=HL.out;omega⟩
       clear Er Ki Qm El Ah BU
       go_wp2_with (go_at_call 26;refine Cr.mono ?_;rintro e w7 ⟨rfl,jS⟩)
       go_roundw
       case rel=>exact⟨i+1,by omega,by omega,by go_num,HN.out _ jS⟩
       case measure=>simp[intOf];omega
      ·go_upto_region 29 with(go_at_call 22;refine HKp.out.mono ?_;rintro e w3 ⟨rfl,X6,s6,k6⟩)
       have Er:Hid (rF w3 ps qp d aA g1 (i+1) (oF sz (i+1)) X6):=s6.more (Nat.le_refl _) (Nat.le_add_right _ _);have BU:Hid (Dk w w3 X X6):=HK.out.trans k6;have Ki:Hid (eU w3 (.agg #[.string (aR g1.1),Z Ea Eb Ec,Z Ee Ag Ef,I V g1.2.2.2]) g1 d):=HM.out.q k6.1 (fun b hb=>Lu.out.ty hb);have Qm:Hid (Eg w3 L aA q' g1 d):=HQ.out.q k6.1 (fun b hb=>Lu.out.ty hb);have El:Hid (nW w3 (w.heap.size+1) u9 (L++ [q'])):=HO.out.q k6.1 (fun b hb=>Lu.out.ty hb);have Ah:Hid (w3.heap[w.heap.size]?=M (C #[.string (aR g1.1),Z Ea Eb Ec,Z Ee Ag Ef,I V g1.2.2.2] 36 (0,0))):=k6.1.at HB.out (fun e=>(Lu.out.ty e).ne HB.out (by decide) rfl);clear s6 k6 c0 c1 c2 c3 y0 y1 y2 y3 y4;have Cr:=iL Er.out.sat Ki.out;obtain⟨c0,c1,c2,c3⟩:=aZ Ah.out;have HN:Hid (∀W,aJ w3 W->dw w W ps qp d X sz (i+1) u9):=fun W hW=>⟨g1,X6,L,q',aA,Er.out.aM hW,BU.out.aM hW,⟨Ea,Eb,Ec,Ee,Ag,Ef,(hW.block _ (aK Ah.out)).trans Ah.out,Ki.out.aM hW⟩,Qm.out.aM hW,El.out.aM hW,by have:=HL.out;omega⟩
       clear Er Ki Qm El Ah BU
       go_wp2_with (go_at_call 26;refine Cr.mono ?_;rintro e w7 ⟨rfl,jS⟩)
       go_roundw
       case rel=>exact⟨i+1,by omega,by omega,by go_num,HN.out _ jS⟩
       case measure=>simp[intOf];omega
      ·go_upto_region 29 with(go_at_call 22;refine HKp.out.mono ?_;rintro e w3 ⟨rfl,X6,s6,k6⟩)
       have Er:Hid (rF w3 ps qp d aA g1 (i+1) (oF sz (i+1)) X6):=s6.more (Nat.le_refl _) (Nat.le_add_right _ _);have BU:Hid (Dk w w3 X X6):=HK.out.trans k6;have Ki:Hid (eU w3 (.agg #[.string (aR g1.1),Z Ea Eb Ec,Z Ee Ag Ef,I V g1.2.2.2]) g1 d):=HM.out.q k6.1 (fun b hb=>Lu.out.ty hb);have Qm:Hid (Eg w3 L aA q' g1 d):=HQ.out.q k6.1 (fun b hb=>Lu.out.ty hb);have El:Hid (nW w3 (w.heap.size+1) u9 (L++ [q'])):=HO.out.q k6.1 (fun b hb=>Lu.out.ty hb);have Ah:Hid (w3.heap[w.heap.size]?=M (C #[.string (aR g1.1),Z Ea Eb Ec,Z Ee Ag Ef,I V g1.2.2.2] 36 (0,0))):=k6.1.at HB.out (fun e=>(Lu.out.ty e).ne HB.out (by decide) rfl);clear s6 k6 c0 c1 c2 c3 y0 y1 y2 y3 y4;have Cr:=iL Er.out.sat Ki.out;obtain⟨c0,c1,c2,c3⟩:=aZ Ah.out;have HN:Hid (∀W,aJ w3 W->dw w W ps qp d X sz (i+1) u9):=fun W hW=>⟨g1,X6,L,q',aA,Er.out.aM hW,BU.out.aM hW,⟨Ea,Eb,Ec,Ee,Ag,Ef,(hW.block _ (aK Ah.out)).trans Ah.out,Ki.out.aM hW⟩,Qm.out.aM hW,El.out.aM hW,by have:=HL.out;omega⟩
       clear Er Ki Qm El Ah BU
       go_wp2_with (go_at_call 26;refine Cr.mono ?_;rintro e w7 ⟨rfl,jS⟩)
       go_roundw
       case rel=>exact⟨i+1,by omega,by omega,by go_num,HN.out _ jS⟩
       case measure=>simp[intOf];omega
     ·have p5:(kd==5)=false:=by simpa using k5
      have p6:(kd==6)=false:=by simp;omega
      have p7:(kd==7)=false:=by simp;omega
      have p8:(kd==8)=false:=by simp;omega
      have HC:Hid (H K 23 #[U (M ⟨qp,0,O⟩),.agg #[.string (aR g1.1),Z Ea Eb Ec,Z Ee Ag Ef,I V g1.2.2.2],.agg #[I V kd,I V n,I V m,I V kk,.string S],I V (d:Int)] w2 fun e w'=>Y_ w2 w' ps qp d X1 aA i (oF sz i) e g1 kd m S):=p_call Lu.out HM.out (by omega) hd hn.1 hn.2 hm.1 hm.2 hs
      go_upto_region 10 with(go_at_call 23;refine HC.out.mono ?_;rintro e w3 ⟨pos,c,v',rfl,s3,m3⟩;have hcd:=ZK g1 kd pos m S d;generalize dL g1 kd pos m S d=g3 at s3 m3 hcd;obtain⟨su3,sr3,rfl,t1,t2⟩:=m3.form;obtain⟨a1,a2,a3,rfl⟩:=t1.form;obtain⟨b1,b2,b3,rfl⟩:=t2.form;clear t1 t2)
      obtain⟨X3,S3,K3⟩:=s3;rw[HZ.out]at S3;obtain⟨w4,VL⟩:∃w4,w4=w3.alloc (C #[.string (aR g3.1),Z a1 a2 a3,Z b1 b2 b3,I V g3.2.2.2] 36):=⟨_,rfl⟩;have G4:aJ w3 w4:=by rw[VL];exact(aJ.refl _).alloc _
      have GU:w4.heap[w3.heap.size]?=M (C #[.string (aR g3.1),Z a1 a2 a3,Z b1 b2 b3,I V g3.2.2.2] 36 (0,0)):=by rw[VL];exact heap_alloc_new w3 _
      rw[<-VL];clear VL;have Ct:=K3.1.at HB.out (fun e=>(Lu.out.ty e).ne HB.out (by decide) rfl);have Nw:w4.heap[w.heap.size]?=M (C #[.string (aR g1.1),Z Ea Eb Ec,Z Ee Ag Ef,I V g1.2.2.2] 36 (0,0)):=(G4.block _ (aK Ct)).trans Ct;have HO4:Hid (nW w4 (w.heap.size+1) u9 (L++ [q'])):=(HO.out.q K3.1 (fun b hb=>Lu.out.ty hb)).aM G4;have HLt:Hid (∀R,Value.ownBlock u9=M R->R<w3.heap.size):=fun R e=>(World.ownsRow.lt (HO.out.q K3.1 (fun b hb=>Lu.out.ty hb)) R e).2
      have HQ4:Hid (Eg w4 L aA q' g1 d):=(HQ.out.q K3.1 (fun b hb=>Lu.out.ty hb)).aM G4;have HM4:Hid (eU w4 (.agg #[.string (aR g3.1),Z a1 a2 a3,Z b1 b2 b3,I V g3.2.2.2]) g3 d):=m3.aM G4;have HS4:Hid (Ih w w4 ps qp d X (Mx aA g1 g3) g3 (i+1) (oF sz (i+1))):=KZ (aAa HK.out ⟨X3,S3,K3⟩) G4;have Nn:Hid (w4.heap[w.heap.size]?=M (C #[.string (aR g1.1),Z Ea Eb Ec,Z Ee Ag Ef,I V g1.2.2.2] 36 (0,0))):=Nw;clear Ct K3 S3 m3 HQ HO Lu HM HK HB HC c0 c1 c2 c3 y0 y1 y2 y3 y4;obtain⟨c0,c1,c2,c3⟩:=aZ Nw;obtain⟨n0,n1,n2,n3⟩:=aZ GU;clear Nw;rcases hcd with hcd|hcd
      ·have hlt3:¬g1.2.2.2<g3.2.2.2:=by rw[hcd];omega
       have HQ5:Hid (Eg w4 L (Mx aA g1 g3) q' g3 d):=by show Eg _ _ _ _ _ _;rw[hcd,Sd];exact HQ4.out
       clear hcd GU
       go_upto_region 14 with fail
       have HFin:Hid (∃L' BV,nW w4 (w.heap.size+1) u9 (L'++ [BV])/\Eg w4 L' (Mx aA g1 g3) BV g3 d/\L'.length<=i+1):=⟨L,q',HO4.out,HQ5.out,by have:=HL.out;omega⟩;clear HO4 HQ4 HQ5;have xE:=LA Co.out HS4.out (Nat.le_refl _) Nn.out (.string (aR g3.1)) (Z a1 a2 a3) (Z b1 b2 b3) (I V g3.2.2.2);have Ux:=HM4.out.sN Nn.out (.string (aR g3.1)) (Z a1 a2 a3) (Z b1 b2 b3) (I V g3.2.2.2);have Ti:=iP Nn.out (.string (aR g3.1)) (Z a1 a2 a3) (Z b1 b2 b3) (I V g3.2.2.2)
       have HF5:Hid (∃L' BV,nW ((((w4.setCell ⟨w.heap.size,0,O⟩ (.string (aR g3.1))).setCell ⟨w.heap.size,1,O⟩ (Z a1 a2 a3)).setCell ⟨w.heap.size,2,O⟩ (Z b1 b2 b3)).setCell ⟨w.heap.size,3,O⟩ (I V g3.2.2.2)) (w.heap.size+1) u9 (L'++ [BV])/\Eg ((((w4.setCell ⟨w.heap.size,0,O⟩ (.string (aR g3.1))).setCell ⟨w.heap.size,1,O⟩ (Z a1 a2 a3)).setCell ⟨w.heap.size,2,O⟩ (Z b1 b2 b3)).setCell ⟨w.heap.size,3,O⟩ (I V g3.2.2.2)) L' (Mx aA g1 g3) BV g3 d/\L'.length<=i+1):=by
        obtain⟨L',BV,e1,e2,e3⟩:=HFin.out;exact⟨L',BV,LB e1 (by omega) _ _ _ _,e2.sN Nn.out _ _ _ _,e3⟩
       have HS5:Hid (Ih w ((((w4.setCell ⟨w.heap.size,0,O⟩ (.string (aR g3.1))).setCell ⟨w.heap.size,1,O⟩ (Z a1 a2 a3)).setCell ⟨w.heap.size,2,O⟩ (Z b1 b2 b3)).setCell ⟨w.heap.size,3,O⟩ (I V g3.2.2.2)) ps qp d X (Mx aA g1 g3) g3 (i+1) (oF sz (i+1))):=xE;have RN:Hid (eU ((((w4.setCell ⟨w.heap.size,0,O⟩ (.string (aR g3.1))).setCell ⟨w.heap.size,1,O⟩ (Z a1 a2 a3)).setCell ⟨w.heap.size,2,O⟩ (Z b1 b2 b3)).setCell ⟨w.heap.size,3,O⟩ (I V g3.2.2.2)) (.agg #[.string (aR g3.1),Z a1 a2 a3,Z b1 b2 b3,I V g3.2.2.2]) g3 d):=Ux;refine fZ Nn.out ?_;intro z0 z1 z2 z3 zf;clear xE Ux HS4 HM4 HFin c0 c1 c2 c3 Nn
       go_upto_region 29 with fail
       clear z0 z1 z2 z3 zf n0 n1 n2 n3;generalize ((((w4.setCell ⟨w.heap.size,0,O⟩ (.string (aR g3.1))).setCell ⟨w.heap.size,1,O⟩ (Z a1 a2 a3)).setCell ⟨w.heap.size,2,O⟩ (Z b1 b2 b3)).setCell ⟨w.heap.size,3,O⟩ (I V g3.2.2.2))=w6 at*;obtain⟨X6,s6,k6⟩:=HS5.out;have Cr:=iL s6.sat RN.out;obtain⟨c0,c1,c2,c3⟩:=aZ Ti
       have HN:Hid (∀W,aJ w6 W->dw w W ps qp d X sz (i+1) u9):=fun W hW=>by
        obtain⟨L',BV,e1,e2,e3⟩:=HF5.out;exact⟨g3,X6,L',BV,Mx aA g1 g3,s6.aM hW,k6.aM hW,⟨a1,a2,a3,b1,b2,b3,(hW.block _ (aK Ti)).trans Ti,RN.out.aM hW⟩,e2.aM hW,e1.aM hW,e3⟩
       clear s6 k6 RN HS5 HF5 Ti
       go_wp2_with (go_at_call 26;refine Cr.mono ?_;rintro e w7 ⟨rfl,jS⟩)
       go_roundw
       case rel=>exact⟨i+1,by omega,by omega,by go_num,HN.out _ jS⟩
       case measure=>simp[intOf];omega
      ·have hlt3:g1.2.2.2<g3.2.2.2:=by omega
       clear hcd;have hz4:w.heap.size+1<=w4.heap.size:=aK Nn.out;have hl4:(L++ [q']).length<=1000000000:=by have:=HL.out;rw[List.length_append,List.length_singleton];omega
       go_upto_region 14 with(at_builtin;go_must (refine BS (by rfl) (.tmp 60) (.tmp 62) (by rfl) (w.heap.size+1) _ (L++ [q']) (aR g3.1,(a1,a2,a3),(b1,b2,b3),g3.2.2.2) (by rfl) (by exact World.ownsRow.alloc HO4.out _) _ _ _ (by rfl) (by rfl) (by exact World.news_of_block (heap_alloc_new w4 _)) (by exact hl4) (by rw[World.size_alloc];omega) ?_);intro v5 w5 jU dK)
       obtain⟨R,aT,hR,hbR,hF,hvR⟩:=own_row (World.ownsRow.alloc HO4.out _) dK;have hRl:=HLt.out R hvR;have G5:aJ w4 (w4.alloc (C #[.string (aR g3.1),Z a1 a2 a3,Z b1 b2 b3,I V g3.2.2.2] 36)):=(aJ.refl w4).alloc _;have HS9:Hid (Ih w w5 ps qp d X (Mx aA g1 g3) g3 (i+1) (oF sz (i+1))):=pso_row Co.out (KZ HS4.out G5) hF hbR (by omega) dK;have HM9:Hid (eU w5 (.agg #[.string (aR g3.1),Z a1 a2 a3,Z b1 b2 b3,I V g3.2.2.2]) g3 d):=(HM4.out.aM G5).row hF hbR;have HB9:Hid (w5.heap[w.heap.size]?=M (C #[.string (aR g1.1),Z Ea Eb Ec,Z Ee Ag Ef,I V g1.2.2.2] 36 (0,0))):=hF.at ((G5.block _ (aK Nn.out)).trans Nn.out) (by omega);have hn9:w5.heap[w3.heap.size]?=M (C #[.string (aR g3.1),Z a1 a2 a3,Z b1 b2 b3,I V g3.2.2.2] 36 (0,0)):=hF.at ((G5.block _ (aK GU)).trans GU) (by omega);have HFin:Hid (∃L' BV,nW w5 (w.heap.size+1) v5 (L'++ [BV])/\Eg w5 L' (Mx aA g1 g3) BV g3 d/\L'.length<=i+1):=⟨_,_,jU,⟨HM9.out,by rw[show Mx aA g1 g3=aA++ [g1] from if_pos hlt3];exact((HQ4.out.aM G5).row hF hbR).snoc⟩,by have:=HL.out;rw[List.length_append,List.length_singleton];omega⟩;clear HS4 HM4 Nn HO4 HQ4 HLt jU dK hF hbR hR hvR hRl G5 GU c0 c1 c2 c3 n0 n1 n2 n3;have HS4:=HS9;have HM4:=HM9;have Nn:=HB9;clear HS9 HM9 HB9;obtain⟨c0,c1,c2,c3⟩:=aZ Nn.out;obtain⟨n0,n1,n2,n3⟩:=aZ hn9;clear hn9;have xE:=LA Co.out HS4.out (Nat.le_refl _) Nn.out (.string (aR g3.1)) (Z a1 a2 a3) (Z b1 b2 b3) (I V g3.2.2.2);have Ux:=HM4.out.sN Nn.out (.string (aR g3.1)) (Z a1 a2 a3) (Z b1 b2 b3) (I V g3.2.2.2);have Ti:=iP Nn.out (.string (aR g3.1)) (Z a1 a2 a3) (Z b1 b2 b3) (I V g3.2.2.2)
       have HF5:Hid (∃L' BV,nW ((((w5.setCell ⟨w.heap.size,0,O⟩ (.string (aR g3.1))).setCell ⟨w.heap.size,1,O⟩ (Z a1 a2 a3)).setCell ⟨w.heap.size,2,O⟩ (Z b1 b2 b3)).setCell ⟨w.heap.size,3,O⟩ (I V g3.2.2.2)) (w.heap.size+1) v5 (L'++ [BV])/\Eg ((((w5.setCell ⟨w.heap.size,0,O⟩ (.string (aR g3.1))).setCell ⟨w.heap.size,1,O⟩ (Z a1 a2 a3)).setCell ⟨w.heap.size,2,O⟩ (Z b1 b2 b3)).setCell ⟨w.heap.size,3,O⟩ (I V g3.2.2.2)) L' (Mx aA g1 g3) BV g3 d/\L'.length<=i+1):=by
        obtain⟨L',BV,e1,e2,e3⟩:=HFin.out;exact⟨L',BV,LB e1 (by omega) _ _ _ _,e2.sN Nn.out _ _ _ _,e3⟩
       have HS5:Hid (Ih w ((((w5.setCell ⟨w.heap.size,0,O⟩ (.string (aR g3.1))).setCell ⟨w.heap.size,1,O⟩ (Z a1 a2 a3)).setCell ⟨w.heap.size,2,O⟩ (Z b1 b2 b3)).setCell ⟨w.heap.size,3,O⟩ (I V g3.2.2.2)) ps qp d X (Mx aA g1 g3) g3 (i+1) (oF sz (i+1))):=xE;have RN:Hid (eU ((((w5.setCell ⟨w.heap.size,0,O⟩ (.string (aR g3.1))).setCell ⟨w.heap.size,1,O⟩ (Z a1 a2 a3)).setCell ⟨w.heap.size,2,O⟩ (Z b1 b2 b3)).setCell ⟨w.heap.size,3,O⟩ (I V g3.2.2.2)) (.agg #[.string (aR g3.1),Z a1 a2 a3,Z b1 b2 b3,I V g3.2.2.2]) g3 d):=Ux;refine fZ Nn.out ?_;intro z0 z1 z2 z3 zf;clear xE Ux HS4 HM4 HFin c0 c1 c2 c3 Nn
       go_upto_region 29 with fail
       clear z0 z1 z2 z3 zf n0 n1 n2 n3;generalize ((((w5.setCell ⟨w.heap.size,0,O⟩ (.string (aR g3.1))).setCell ⟨w.heap.size,1,O⟩ (Z a1 a2 a3)).setCell ⟨w.heap.size,2,O⟩ (Z b1 b2 b3)).setCell ⟨w.heap.size,3,O⟩ (I V g3.2.2.2))=w6 at*;obtain⟨X6,s6,k6⟩:=HS5.out;have Cr:=iL s6.sat RN.out;obtain⟨c0,c1,c2,c3⟩:=aZ Ti
       have HN:Hid (∀W,aJ w6 W->dw w W ps qp d X sz (i+1) v5):=fun W hW=>by
        obtain⟨L',BV,e1,e2,e3⟩:=HF5.out;exact⟨g3,X6,L',BV,Mx aA g1 g3,s6.aM hW,k6.aM hW,⟨a1,a2,a3,b1,b2,b3,(hW.block _ (aK Ti)).trans Ti,RN.out.aM hW⟩,e2.aM hW,e1.aM hW,e3⟩
       clear s6 k6 RN HS5 HF5 Ti
       go_wp2_with (go_at_call 26;refine Cr.mono ?_;rintro e w7 ⟨rfl,jS⟩)
       go_roundw
       case rel=>exact⟨i+1,by omega,by omega,by go_num,HN.out _ jS⟩
       case measure=>simp[intOf];omega
   ·have i3:¬(i:Int)<120:=by omega
    have i2:(i:Int)<(len:Int):=by omega
    have he:i=120:=by omega
    subst he;have HE:=HS
    go_wp2_with fail
    refine bodyPost_ret (v:= .tuple #[u9,.bool true]) (by simp[results,Tryz.results18,go_sem]) rfl ?_;obtain⟨g9,X9,L9,q9,H9,s9,k9,-,m9,o9,l9⟩:=HE.out;exact⟨u9,rfl,g9,X9,L9,q9,H9,s9.more (Nat.le_refl _) (by first|exact Nat.le_refl _|exact Nat.le_of_eq (by rw[show min len 120=120 by omega])),k9,m9,o9,l9⟩
  ·have i2:¬(i:Int)<(len:Int):=by omega
   have HE:=HS
   go_wp2_with fail
   refine bodyPost_ret (v:= .tuple #[u9,.bool true]) (by simp[results,Tryz.results18,go_sem]) rfl ?_;obtain⟨g9,X9,L9,q9,H9,s9,k9,-,m9,o9,l9⟩:=HE.out;exact⟨u9,rfl,g9,X9,L9,q9,H9,s9.more hi2 (by first|exact Nat.le_refl _|exact Nat.le_of_eq (by rw[show min len 120=i by omega])),k9,m9,o9,Nat.le_trans l9 hi2⟩
theorem Sk {cap:Nat}(h:rF w ps qp d [] ([],[],[],0) 0 0 X)(hd:d<=50)(hA:vX w N ao len)(hN:N<=w.heap.size)(hX:∀b,X b->N<=b)(hlen:(len:Int)<=9223372036854775807):
 H K 18 #[U (M ⟨qp,0,O⟩),Z ao len cap,I V (d:Int)] w fun e w'=> ∃v,e=G (.tuple #[v,.bool true])/\PlD w w' ps qp d X v:=by
 obtain⟨sz,hZ⟩:=VN hA;refine(LC h hd hZ hN hX hlen).mono ?_;rintro e w' ⟨v,rfl,g,X',L,q,aA,s,k,m,o,l⟩;exact⟨v,rfl,g,X',L,q,s.sat,k,m.1,o,l⟩
def RdH (w:F)(ao:Option Addr)(l:List AF):Prop:=TD w ao l/\∀a,ao=M a->∃aT,w.heap[a.block]?=M (C aT 58 (0,0))
theorem VO:∀(l:List AF) (i:Nat) (f:AF),l[i]?=M f->(MX l)[i*2]?=M (I V f.1)/\(MX l)[i*2+1]?=M (.string f.2)
 | [],i,f,h=>by simp at h
 |a::l,0,f,h=>by
  simp at h;subst h;exact⟨rfl,rfl⟩
 |a::l,i+1,f,h=>by
  have:=VO l i f (by simpa using h);have e:MX (a::l)=AFc a++MX l:=rfl;rw[e,show(i+1)*2=i*2+1+1 from by omega];simpa[AFc]using this
theorem Ad.row {l:List AF}(h:Ad w B v l):(v=Z O 0 0/\l=[])\/∃g cap aT,v=Z (M ⟨g,0,O⟩) l.length cap/\B<=g/\w.heap[g]?=M (C aT 58 (0,0))/\l.length<=cap/\aT.size=cap*2/\aT.toList.take (l.length*2)=MX l:=by
 rcases h.2 with⟨rfl,h0⟩|⟨g,cap,aT,rfl,hg,hh,h1,-,h2,h3⟩
 ·exact Or.inl ⟨rfl,List.eq_nil_of_length_eq_zero h0⟩
 ·exact Or.inr ⟨g,cap,aT,rfl,hg,hh,h1,h2,h3⟩
theorem Ad.rdh {l:List AF}(h:Ad w B v l):∃ao cap,v=Z ao l.length cap/\RdH w ao l/\l.length<=cap/\(∀a,ao=M a->B<=a.block/\a.off=0/\a.spot=O)/\(ao=O->l=[]/\cap=0):=by
 rcases h.row with⟨rfl,rfl⟩|⟨g,cap,aT,rfl,hg,hh,h1,h2,h3⟩
 ·exact⟨O,0,rfl,⟨Or.inl rfl,(fun a e=>by cases e)⟩,Nat.le_refl _,(fun a e=>by cases e),fun _=>⟨rfl,rfl⟩⟩
 ·refine⟨M ⟨g,0,O⟩,cap,rfl,⟨Or.inr ⟨g,0,rfl,fun i f hf=>?_⟩,(fun a e=>by cases e;exact⟨aT,hh⟩)⟩,h1,(fun a e=>by cases e;exact⟨hg,rfl,rfl⟩),(fun e=>by cases e)⟩;obtain⟨q1,q2⟩:=VO l i f hf;rw[<-h3,List.getElem?_take]at q1 q2;rw[Nat.zero_add,cell_of_row w g _ aT _ _ hh,cell_of_row w g _ aT _ _ hh];constructor
  ·split at q1
   ·simpa using q1
   ·cases q1
  ·split at q2
   ·simpa using q2
   ·cases q2
def i64 (n:Int):Prop:= -9223372036854775808<=n/\n<=9223372036854775807
end Go.Proofs.YtfplgfodoiiobaaGreatDoor
