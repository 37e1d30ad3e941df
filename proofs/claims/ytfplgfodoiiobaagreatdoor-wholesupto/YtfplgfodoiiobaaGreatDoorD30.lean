/- LgJ, LgK (joined). -/
import Derived.Test.YtfplgfodoiiobaaGreatDoorD24
import Derived.Test.YtfplgfodoiiobaaGreatDoorD28
open Option renaming none→O,some→M
open Go.Value renaming int→I,slice→Z,pointer→U
open Go.IntKind renaming i64→V
open Go.Obj renaming cells→C
open Go.Ending renaming returned→G
open Go renaming World→F,Value→Y,Calls→H
open Go.Proofs.Tryz renaming prog→K
open Go.Proofs.Tryz
namespace Go.Proofs.YtfplgfodoiiobaaGreatDoor
set_option maxHeartbeats 2000000
set_option maxRecDepth 100000
open Go.RowKit
variable {W w w1 w' W':F}{g sb R cb pb qb lp dp db:Nat}{ps:Nat->Addr}{bf dn ep q:Int}{st:Option (List UInt8)}{a b c d e:Y}{x u r:bS}{t:List (Int×Int)}{ul rl:List Ed}
def rck3 (bf:Int)(s3:Option (List UInt8))(ep dn:Int):Option (Int×dD):=
 match iP (pY (sz (aR bf s3).1) (bA bf (bA bf (aR bf s3).2).2).1) (iP (pY (sz (aR bf s3).1) ((bA bf (aR bf s3).2).1.map Cb)) (iP ((bA bf (bA bf (aR bf s3).2).2).2==M []) (bA bf (bA bf (aR bf s3).2).2).2))with
 |none=>O
 |some _=>M (ep,((aR bf s3).1,(bA bf (aR bf s3).2).1,(bA bf (bA bf (aR bf s3).2).2).1,dn,bf))
def RckV (w:F)(ps:Nat->Addr)(e:Ending):Option (Int×dD)->Prop
 |none=> ∃t b,e=G (.tuple #[I V 0,.agg #[I V 0,I V 0,Z O 0 0,Z O 0 0,Z O 0 0],.iface t (U (M b))])/\kZ w ps 1 (.iface t (U (M b))) 11
 |some q=> ∃t u r:bS,e=G (.tuple #[I V q.1,JZ q.2.2.2.2.1 q.2.2.2.2.2 t u r,.nilIface])/\bH w t q.2.1/\dR w u q.2.2.1/\dR w r q.2.2.2.1
theorem Bl (W:F)(g:Nat)(a b c d e:Y):Fr W (((((W.setCell ⟨g,0,O⟩ a).setCell ⟨g,1,O⟩ b).setCell ⟨g,2,O⟩ c).setCell ⟨g,3,O⟩ d).setCell ⟨g,4,O⟩ e) (fun b=>b=g):=
 ((((Fr.set W ⟨g,0,O⟩ a).trans (Fr.set _ ⟨g,1,O⟩ b)).trans (Fr.set _ ⟨g,2,O⟩ c)).trans (Fr.set _ ⟨g,3,O⟩ d)).trans (Fr.set _ ⟨g,4,O⟩ e)
theorem rH (h:W.heap[R]?=M (C #[a,b,c,d,e] 105 (0,0))):(W.cell? ⟨R,0,O⟩=M a/\W.cell? ⟨R,1,O⟩=M b/\W.cell? ⟨R,2,O⟩=M c/\W.cell? ⟨R,3,O⟩=M d/\W.cell? ⟨R,4,O⟩=M e)/\∀j,W.frozen? ⟨R,j,O⟩=false:=
 ⟨by simp[World.cell?,h],fun j=>by simp[World.frozen?,h]⟩
theorem Ee {wk ko:F}(h:aL w wk)(ho:Og wk ko g)(hg:w.heap.size<=g):aL w ko:=by
 obtain⟨⟨a1,a2⟩,b1,b2,b3⟩:=ho;exact⟨b1.trans h.os,b2.trans h.tape,b3.trans h.output,Aam h.size a1,fun b hb=>(a2 b (AaC hb h.size) (by omega)).trans (h.block b hb)⟩
theorem dR.rg {l:List Ed}(h:dR w x l)(hr:dW w g st bf ps)(ho:Og w w' g):dR w' x l:=by
 obtain⟨c,hc⟩:=hr.zY;exact h.fr ho.1 (fun b aS hb=>aZ hb hc (by decide)) (fun b aS hb=>aZ hb hc (by decide))
theorem dW.fr {X:Nat->Prop}(h:dW w g st bf ps)(hF:Fr w w' X)(hX:∀(b:Nat) (aS:Array Y) (t:TypeId) (f:Nat×Nat),w.heap[b]?=M (C aS t f)->t≠105->¬X b):dW w' g st bf ps:=by
 cases st with
 |some l=>
  obtain⟨b,off,c,hb,hc,hr,aS,f,ht⟩:=h;exact⟨b,off,c,hF.at hb (hX _ _ _ _ hb (by decide)),hc,hr.fr hF (fun a e=>by cases e;exact hX _ _ _ _ ht (by decide)),aS,f,hF.at ht (hX _ _ _ _ ht (by decide))⟩
 |none=>
  obtain⟨ao,n,c,t,b,hb,he⟩:=h;exact⟨ao,n,c,t,b,hF.at hb (hX _ _ _ _ hb (by decide)),he.fr hF (fun b aS qG=>hX _ _ _ _ qG (by decide)) (fun b aS qG=>hX _ _ _ _ qG (by decide))⟩
theorem Uu {aS:Array Y}(hz:w.heap[sb]?=M (C aS 105 (0,0))):∀(b:Nat) (aS:Array Y) (t:TypeId) (f:Nat×Nat),w.heap[b]?=M (C aS t f)->t≠105->¬b=sb:=fun _ _ _ _ hb ht=>aZ hb hz ht
theorem dW.st5 {aS:Array Y}(h:dW w g st bf ps)(hz:w.heap[sb]?=M (C aS 105 (0,0)))(a b c d e:Y):dW (((((w.setCell ⟨sb,0,O⟩ a).setCell ⟨sb,1,O⟩ b).setCell ⟨sb,2,O⟩ c).setCell ⟨sb,3,O⟩ d).setCell ⟨sb,4,O⟩ e) g st bf ps:=h.fr (Bl w sb a b c d e) (Uu hz)
def Zv (W w':F):Prop:=∀(b:Nat) (aS:Array Y),W.heap[b]?=M (C aS 105 (0,0))->w'.heap[b]?=M (C aS 105 (0,0))
theorem Zv.og (h:dW W g st bf ps)(ho:Og W w' g):Zv W w':=fun b aS hb=>by
 obtain⟨c,hc⟩:=h.zY;exact ho.1.at hb (fun e=>aZ hb hc (by decide) e)
theorem DC {P:Prop}(h:W.heap[R]?=M (C #[a,b,c,d,e] 105 (0,0)))(k:W.cell? ⟨R,0,O⟩=M a->W.cell? ⟨R,1,O⟩=M b->W.cell? ⟨R,2,O⟩=M c->W.cell? ⟨R,3,O⟩=M d->W.cell? ⟨R,4,O⟩=M e->(∀j,W.frozen? ⟨R,j,O⟩=false)->Hid (W.heap[R]?=M (C #[a,b,c,d,e] 105 (0,0)))->P):P:=by
 obtain⟨⟨a,b,c,d,e⟩,f⟩:=rH h;exact k a b c d e f h
theorem st5_blk (h:W.heap[R]?=M (C #[a,b,c,d,e] 105 (0,0)))(a' b' c' d' e':Y):(((((W.setCell ⟨R,0,O⟩ a').setCell ⟨R,1,O⟩ b').setCell ⟨R,2,O⟩ c').setCell ⟨R,3,O⟩ d').setCell ⟨R,4,O⟩ e').heap[R]?=M (C #[a',b',c',d',e'] 105 (0,0)):=by
 have h0:(W.setCell ⟨R,0,O⟩ a').heap[R]?=M (C #[a',b,c,d,e] 105 (0,0)):=by rw[Aaj W R 0 _ _ _ h];rfl
 have h1:((W.setCell ⟨R,0,O⟩ a').setCell ⟨R,1,O⟩ b').heap[R]?=M (C #[a',b',c,d,e] 105 (0,0)):=by rw[Aaj _ R 1 _ _ _ h0];rfl
 have h2:(((W.setCell ⟨R,0,O⟩ a').setCell ⟨R,1,O⟩ b').setCell ⟨R,2,O⟩ c').heap[R]?=M (C #[a',b',c',d,e] 105 (0,0)):=by rw[Aaj _ R 2 _ _ _ h1];rfl
 have h3:((((W.setCell ⟨R,0,O⟩ a').setCell ⟨R,1,O⟩ b').setCell ⟨R,2,O⟩ c').setCell ⟨R,3,O⟩ d').heap[R]?=M (C #[a',b',c',d',e] 105 (0,0)):=by rw[Aaj _ R 3 _ _ _ h2];rfl
 rw[Aaj _ R 4 _ _ _ h3];rfl
structure Xd (w1 W:F)(g sb:Nat)(st:Option (List UInt8))(dn bf:Int)(ps:Nat->Addr)(x u r:bS)(t:List (Int×Int))(ul rl:List Ed):Prop where
 rg:dW W g st bf ps
 gl:Gl W ps
 gr:aL w1 W
 box:W.heap[sb]?=M (C #[I V dn,I V bf,x.v,u.v,r.v] 105 (0,0))
 lx:bH W x t
 lu:dR W u ul
 lr:dR W r rl
 sbn:w1.heap.size<=sb
theorem Xd.aN (h:Xd w1 W g sb st dn bf ps x u r t ul rl)(hg:aL W W'):Xd w1 W' g sb st dn bf ps x u r t ul rl:=
 ⟨h.rg.aN hg,h.gl.aN hg,h.gr.then hg,(hg.block _ (aM h.box)).trans h.box,h.lx.aN hg,h.lu.aN hg,h.lr.aN hg,h.sbn⟩
theorem Xd.ask {Cv:Option (List UInt8)}(h:Xd w1 W g sb st dn bf ps x u r t ul rl)(hg:w1.heap.size<=g)(hr:dW W' g Cv bf ps)(ho:Og W W' g):Xd w1 W' g sb Cv dn bf ps x u r t ul rl:=by
 obtain⟨c,hc⟩:=h.rg.zY;exact⟨hr,h.gl.og h.rg ho,Ee h.gr ho hg,ho.1.at h.box (fun e=>aZ h.box hc (by decide) e),h.lx.rg h.rg ho,h.lu.rg h.rg ho,h.lr.rg h.rg ho,h.sbn⟩
theorem Xd.cells (h:Xd w1 W g sb st dn bf ps x u r t ul rl):W.cell? ⟨sb,0,O⟩=M (I V dn)/\W.cell? ⟨sb,1,O⟩=M (I V bf)/\W.cell? ⟨sb,2,O⟩=M x.v/\W.cell? ⟨sb,3,O⟩=M u.v/\W.cell? ⟨sb,4,O⟩=M r.v:=(rH h.box).1
theorem Xd.st5 (hz:W.heap[sb]?=M (C #[a,b,c,d,e] 105 (0,0)))(hs:w1.heap.size<=sb)(hr:dW W g st bf ps)(hg:Gl W ps)(hG:aL w1 W)(hx:bH W x t)(hu:dR W u ul)(hv:dR W r rl):Xd w1 (((((W.setCell ⟨sb,0,O⟩ (I V dn)).setCell ⟨sb,1,O⟩ (I V bf)).setCell ⟨sb,2,O⟩ x.v).setCell ⟨sb,3,O⟩ u.v).setCell ⟨sb,4,O⟩ r.v) g sb st dn bf ps x u r t ul rl:=by
 have hF:=Bl W sb (I V dn) (I V bf) x.v u.v r.v;have hn:=Uu hz;exact⟨hr.st5 hz _ _ _ _ _,hg.fr hF (fun _ _ hb=>hn _ _ _ _ hb (by decide)) (fun _ _ _ g hb=>hn _ _ _ _ hb (g.ne (by decide))) (fun _ _ hb=>hn _ _ _ _ hb (by decide)) (fun _ _ hb=>hn _ _ _ _ hb (by decide)),dH hG hs _ _ _ _ _,st5_blk hz _ _ _ _ _,hx.fr hF (fun _ _ hb=>hn _ _ _ _ hb (by decide)),hu.fr hF (fun _ _ hb=>hn _ _ _ _ hb (by decide)) (fun _ _ hb=>hn _ _ _ _ hb (by decide)),hv.fr hF (fun _ _ hb=>hn _ _ _ _ hb (by decide)) (fun _ _ hb=>hn _ _ _ _ hb (by decide)),hs⟩
theorem KO {ao:Option Addr}{n c:Nat}{ev:Y}(h:W.heap[g]?=M (rgB ao n c bf ev))(hne:g≠R)(a' b' c' d' e':Y):(((((W.setCell ⟨R,0,O⟩ a').setCell ⟨R,1,O⟩ b').setCell ⟨R,2,O⟩ c').setCell ⟨R,3,O⟩ d').setCell ⟨R,4,O⟩ e').cell? ⟨g,2,O⟩=M ev/\(World.drew (((((W.setCell ⟨R,0,O⟩ a').setCell ⟨R,1,O⟩ b').setCell ⟨R,2,O⟩ c').setCell ⟨R,3,O⟩ d').setCell ⟨R,4,O⟩ e')).cell? ⟨g,2,O⟩=M ev:=by
 have h1:=(Bl W R a' b' c' d' e').at h hne;generalize (((((W.setCell ⟨R,0,O⟩ a').setCell ⟨R,1,O⟩ b').setCell ⟨R,2,O⟩ c').setCell ⟨R,3,O⟩ d').setCell ⟨R,4,O⟩ e')=aI at*;have h2:aI.drew.heap[g]?=M (rgB ao n c bf ev):=h1;exact⟨(lT h1).2.2.1,(lT h2).2.2.1⟩
theorem KP (h:W.heap[sb]?=M (C #[a,b,c,d,e] 105 (0,0)))(hne:sb≠R)(a' b' c' d' e':Y):((((((W.setCell ⟨R,0,O⟩ a').setCell ⟨R,1,O⟩ b').setCell ⟨R,2,O⟩ c').setCell ⟨R,3,O⟩ d').setCell ⟨R,4,O⟩ e').cell? ⟨sb,0,O⟩=M a/\(((((W.setCell ⟨R,0,O⟩ a').setCell ⟨R,1,O⟩ b').setCell ⟨R,2,O⟩ c').setCell ⟨R,3,O⟩ d').setCell ⟨R,4,O⟩ e').cell? ⟨sb,1,O⟩=M b/\(((((W.setCell ⟨R,0,O⟩ a').setCell ⟨R,1,O⟩ b').setCell ⟨R,2,O⟩ c').setCell ⟨R,3,O⟩ d').setCell ⟨R,4,O⟩ e').cell? ⟨sb,2,O⟩=M c/\(((((W.setCell ⟨R,0,O⟩ a').setCell ⟨R,1,O⟩ b').setCell ⟨R,2,O⟩ c').setCell ⟨R,3,O⟩ d').setCell ⟨R,4,O⟩ e').cell? ⟨sb,3,O⟩=M d/\(((((W.setCell ⟨R,0,O⟩ a').setCell ⟨R,1,O⟩ b').setCell ⟨R,2,O⟩ c').setCell ⟨R,3,O⟩ d').setCell ⟨R,4,O⟩ e').cell? ⟨sb,4,O⟩=M e)/\((World.drew (((((W.setCell ⟨R,0,O⟩ a').setCell ⟨R,1,O⟩ b').setCell ⟨R,2,O⟩ c').setCell ⟨R,3,O⟩ d').setCell ⟨R,4,O⟩ e')).cell? ⟨sb,0,O⟩=M a/\(World.drew (((((W.setCell ⟨R,0,O⟩ a').setCell ⟨R,1,O⟩ b').setCell ⟨R,2,O⟩ c').setCell ⟨R,3,O⟩ d').setCell ⟨R,4,O⟩ e')).cell? ⟨sb,1,O⟩=M b/\(World.drew (((((W.setCell ⟨R,0,O⟩ a').setCell ⟨R,1,O⟩ b').setCell ⟨R,2,O⟩ c').setCell ⟨R,3,O⟩ d').setCell ⟨R,4,O⟩ e')).cell? ⟨sb,2,O⟩=M c/\(World.drew (((((W.setCell ⟨R,0,O⟩ a').setCell ⟨R,1,O⟩ b').setCell ⟨R,2,O⟩ c').setCell ⟨R,3,O⟩ d').setCell ⟨R,4,O⟩ e')).cell? ⟨sb,3,O⟩=M d/\(World.drew (((((W.setCell ⟨R,0,O⟩ a').setCell ⟨R,1,O⟩ b').setCell ⟨R,2,O⟩ c').setCell ⟨R,3,O⟩ d').setCell ⟨R,4,O⟩ e')).cell? ⟨sb,4,O⟩=M e):=by
 have h1:=(Bl W R a' b' c' d' e').at h hne;generalize (((((W.setCell ⟨R,0,O⟩ a').setCell ⟨R,1,O⟩ b').setCell ⟨R,2,O⟩ c').setCell ⟨R,3,O⟩ d').setCell ⟨R,4,O⟩ e')=aI at*;have h2:aI.drew.heap[sb]?=M (C #[a,b,c,d,e] 105 (0,0)):=h1;exact⟨(rH h1).1,(rH h2).1⟩
theorem Zw {b off cap:Nat}{l:List UInt8}{buf:Int}(h:pG w (M ⟨b,off,O⟩) l)(ht:∃aS f,w.heap[b]?=M (C aS 5 f))(iI:l.length<=cap)(hl:l.length<=900000000)(hG:Gl w ps)(uU:0<=buf)(dY:buf<=1000000000):
 H K 123 #[Z (M ⟨b,off,O⟩) l.length cap,I V buf] w fun e w'=>RckV w' ps e (yM l buf)/\aL w w':=by
 obtain⟨w1,iY⟩:∃w1,w1=w.alloc (C #[I V 0,I V 0,Z O 0 0,Z O 0 0,Z O 0 0] 105):=⟨_,rfl⟩;have hR1:w1.heap[w.heap.size]?=M (C #[I V 0,I V 0,Z O 0 0,Z O 0 0,Z O 0 0] 105 (0,0)):=by rw[iY];exact Aaf w _
 have G1:aL w w1:=by rw[iY];exact(aL.refl w).alloc _
 have hU:=Yd (cap:=cap) (h.aN G1) hl iI;have yJ:Hid (Gl w1 ps):=hG.aN G1;have HW1:Hid (aL w w1):=G1;have Zt:Hid (w1.heap[w.heap.size]?=M (C #[I V 0,I V 0,Z O 0 0,Z O 0 0,Z O 0 0] 105 (0,0))):=hR1
 have HRW:Hid (pG w1 (M ⟨b,off,O⟩) l/\∃aS f,w1.heap[b]?=M (C aS 5 f)):=by
  obtain⟨aS,f,ht⟩:=ht;exact⟨h.aN G1,aS,f,(G1.block _ (aM ht)).trans ht⟩
 clear hR1 G1 h ht hG;cases hu:jN l with
 |none=>
  have HE:Hid (yM l buf=O):=by show _=_;unfold yM;rw[hu]
  rw[hu]at hU;unfold Ac at hU;simp only at hU
  have HAT:Hid (∀W,aL w1 W->W.cell? ⟨3,0,O⟩=M (jH (ps 3))/\H K 81 #[.string ⟨#[105,116,115,32,99,114,99]⟩,jH (ps 3)] W fun e w'=> ∃t b0,e=G (.iface t (U (M b0)))/\kZ w' ps 1 (.iface t (U (M b0))) 11/\aL w1 w'):=fun W hW=>by
   refine⟨(yJ.out.aN hW).xR.cell (by omega),?_⟩;have he:kZ W ps 0 (jH (ps 3)) 11:=Aab ⟨0,3,Aak _,by omega,rfl,rfl⟩;refine(Hr he).mono ?_;rintro e w' ⟨v',rfl,h1,h2⟩;obtain⟨t,b0,rfl⟩:=h1.yes (by omega);exact⟨t,b0,rfl,h1,hW.then h2⟩
  unfold jH at HAT;clear hu HRW;go_enter func123,ntmps123;go_upto_region 1 with fail;rw[<-iY];clear iY;go_upto_region 3 with(go_at_call 181;refine hU.mono ?_;rintro e w2 ⟨rfl,q,hq⟩;have kR:aL w1 w2:=(by rw[hq];exact bB (aL.refl w1) q);clear hq;obtain⟨gc,Ri⟩:=HAT.out w2 kR);have HN:Hid (∀W,aL w1 W->(W.cell? ⟨w.heap.size,0,O⟩=M (I V 0)/\W.cell? ⟨w.heap.size,1,O⟩=M (I V 0)/\W.cell? ⟨w.heap.size,2,O⟩=M (Z O 0 0)/\W.cell? ⟨w.heap.size,3,O⟩=M (Z O 0 0)/\W.cell? ⟨w.heap.size,4,O⟩=M (Z O 0 0))/\∀j,W.frozen? ⟨w.heap.size,j,O⟩=false):=fun W hW=>rH ((hW.block _ (aM Zt.out)).trans Zt.out)
  go_wp2_with (go_at_call 81;refine Ri.mono ?_;rintro e w3 ⟨t,b0,rfl,he3,oK⟩;obtain⟨⟨y0,y1,y2,y3,y4⟩,yf⟩:=HN.out w3 oK);refine Aan (v:= .tuple #[I V 0,.agg #[I V 0,I V 0,Z O 0 0,Z O 0 0,Z O 0 0],.iface t (U (M b0))]) (by simp[results,results123,go_sem, *]) rfl ?_;rw[HE.out];have uM:=(oK.block _ (aM Zt.out)).trans Zt.out;exact⟨⟨t,b0,rfl,he3.fr (Bl w3 w.heap.size _ _ _ _ _) (fun b aS hb e=>aZ hb uM (by decide) e) (fun b aS hb e=>aZ hb uM (by decide) e)⟩,dH (HW1.out.then oK) (Aak _) _ _ _ _ _⟩
 |some body=>
  have KQ:body=l.take (l.length-4)/\4<=l.length:=by
   unfold jN at hu;split at hu
   ·cases hu
   ·split at hu
    ·cases hu;exact⟨rfl,by omega⟩
    ·cases hu
  have Qj:body.length<=cap:=by rw[KQ.1,Aaw];omega
  rw[hu]at hU;unfold Ac at hU;simp only at hU
  have HRG:Hid (∀W,aL w1 W->yL (W.alloc (C #[Z (M ⟨b,off,O⟩) body.length cap,I V 0,.nilIface] 266)) W.heap.size body 0/\Gl (W.alloc (C #[Z (M ⟨b,off,O⟩) body.length cap,I V 0,.nilIface] 266)) ps/\aL w1 (W.alloc (C #[Z (M ⟨b,off,O⟩) body.length cap,I V 0,.nilIface] 266))):=fun W hW=>by
   have hg:=hW.alloc (C #[Z (M ⟨b,off,O⟩) body.length cap,I V 0,.nilIface] 266);obtain⟨hr,aS,f,ht⟩:=HRW.out;refine⟨⟨b,off,cap,Aaf W _,Qj,?_,aS,f,(hg.block _ (aM ht)).trans ht⟩,yJ.out.aN hg,hg⟩;have hk:=(hr.aN hg).take (l.length-4);rw[<-KQ.1]at hk;exact hk
  have Qb:Hid (yM l buf=rck3 (aT 0 buf (aT 0 1000000000 (aT 1 999 (uF 75 (M body))).2).2).1 (aT 0 buf (aT 0 1000000000 (aT 1 999 (uF 75 (M body))).2).2).2 (aT 1 999 (uF 75 (M body))).1 (aT 0 1000000000 (aT 1 999 (uF 75 (M body))).2).1):=by
   show _=_;unfold yM;rw[hu];rfl
  clear hu KQ Qj HRW yJ;generalize VE:uF 75 (M body)=s0 at*;have bbd:=yE 0 buf (aT 0 1000000000 (aT 1 999 s0).2).2;have bhi:=Rp (lo:=0) (hi:=buf) uU (aT 0 1000000000 (aT 1 999 s0).2).2;have HN1:Hid (∀W g,dW W g s0 0 ps->Gl W ps->H K 183 #[U (M ⟨g,0,O⟩),.string ⟨#[105,116,115,32,101,112,111,99,104]⟩,I V 1,I V 999] W fun e w'=>e=G (I V (aT 1 999 s0).1)/\dW w' g (aT 1 999 s0).2 0 ps/\Og W w' g):=fun W g h1 h2=>xD h1 h2
  have Wi:Hid (∀W g,dW W g (aT 1 999 s0).2 0 ps->Gl W ps->H K 183 #[U (M ⟨g,0,O⟩),.string ⟨#[105,116,115,32,68,111,110,101]⟩,I V 0,I V 1000000000] W fun e w'=>e=G (I V (aT 0 1000000000 (aT 1 999 s0).2).1)/\dW w' g (aT 0 1000000000 (aT 1 999 s0).2).2 0 ps/\Og W w' g):=fun W g h1 h2=>xD h1 h2;have HN3:Hid (∀W g,dW W g (aT 0 1000000000 (aT 1 999 s0).2).2 0 ps->Gl W ps->H K 183 #[U (M ⟨g,0,O⟩),.string ⟨#[105,116,115,32,108,101,110,103,116,104,32,111,102,32,116,104,101,32,98,117,102,102,101,114]⟩,I V 0,I V buf] W fun e w'=>e=G (I V (aT 0 buf (aT 0 1000000000 (aT 1 999 s0).2).2).1)/\dW w' g (aT 0 buf (aT 0 1000000000 (aT 1 999 s0).2).2).2 0 ps/\Og W w' g):=fun W g h1 h2=>xD h1 h2;generalize (aT 0 buf (aT 0 1000000000 (aT 1 999 s0).2).2).2=s3 at*;generalize (aT 0 buf (aT 0 1000000000 (aT 1 999 s0).2).2).1=bf at*;generalize (aT 0 1000000000 (aT 1 999 s0).2).2=s2 at*;generalize (aT 0 1000000000 (aT 1 999 s0).2).1=dn at*;generalize (aT 1 999 s0).2=s1 at*;generalize (aT 1 999 s0).1=ep at*
  have jo:Hid (∀W g,yL W g body 0->Gl W ps->H K 182 #[U (M ⟨g,0,O⟩),I .u8 75] W fun e w'=>e=G (.tuple #[])/\dW w' g s0 0 ps/\Og W w' g):=fun W g h1 h2=>by
   have:=ZI (x:=75) h1 h2;rw[VE]at this;exact this
  clear VE;go_enter func123,ntmps123;go_upto_region 1 with fail;rw[<-iY];clear iY;go_upto_region 5 with(go_at_call 181;refine hU.mono ?_;rintro e w2 ⟨rfl,q,hq⟩;have kR:aL w1 w2:=(by rw[hq];exact bB (aL.refl w1) q);clear hq);obtain⟨r3,g3,G3⟩:=HRG.out w2 kR;obtain⟨g,ku⟩:∃g,g=w2.heap.size:=⟨_,rfl⟩
  have HGN:Hid (w.heap.size<g/\w1.heap.size<=g):=by
   have:=aM Zt.out;have:=kR.le;exact⟨by omega,by omega⟩
  rw[<-ku]at r3 ⊢;clear ku;generalize (w2.alloc (C #[Z (M ⟨b,off,O⟩) body.length cap,I V 0,.nilIface] 266))=w3 at*
  have HSB:Hid (∀W Cv Gf,dW W g Cv Gf ps->W.frozen? ⟨g,1,O⟩=false):=fun W Cv Gf hW=>by
   obtain⟨c,hc⟩:=hW.zY;simp[World.frozen?,hc]
  have jm:Hid (aL w1 w3):=G3;have bP:=jo.out w3 g r3 g3;have KL:Hid (∀W W' Cv Gf,dW W g Cv Gf ps->Gl W ps->Og W W' g->Gl W' ps):=fun W W' Cv Gf h1 h2 h3=>h2.og h1 h3;have HR3:Hid (dW w3 g (M body) 0 ps):=r3;clear r3 G3 HRG jo kR hU
  go_upto_region 9 with(first
   |(go_at_call 182;refine bP.mono ?_;clear bP;rintro e w4 ⟨rfl,r4,o4⟩;have g4:=KL.out _ _ _ _ HR3.out g3 o4;have Js:=HN1.out w4 g r4 g4)
   |(go_at_call 183;refine Js.mono ?_;clear Js;rintro e w5 ⟨rfl,r5,o5⟩;have g5:=KL.out _ _ _ _ r4 g4 o5;have Ox:=Wi.out w5 g r5 g5)
   |(go_at_call 183;refine Ox.mono ?_;clear Ox;rintro e w6 ⟨rfl,r6,o6⟩;have g6:=KL.out _ _ _ _ r5 g5 o6;have Pb:=HN3.out w6 g r6 g6)
   |(go_at_call 183;refine Pb.mono ?_;clear Pb;rintro e w7 ⟨rfl,r7,o7⟩;have g7:=KL.out _ _ _ _ r6 g6 o7;have cb7:=r7.bf;have cf7:=HSB.out w7 _ _ r7))
  obtain⟨r8,o8⟩:=r7.setbf bf;have hO8:Og w3 (w7.setCell ⟨g,1,O⟩ (I V bf)) g:=(((o4.trans o5).trans o6).trans o7).trans o8;have g8:=KL.out _ _ _ _ r7 g7 o8;have G8:Hid (aL w1 (w7.setCell ⟨g,1,O⟩ (I V bf))):=Ee jm.out hO8 HGN.out.2;clear r4 r5 r6 r7 o4 o5 o6 o7 o8 g3 g4 g5 g6 g7 cb7 cf7 HN1 Wi HN3 KL HR3 jm hO8 HSB;generalize (w7.setCell ⟨g,1,O⟩ (I V bf))=w8 at*
  have HPC:Hid (∀W,aL w8 W->H K 184 #[U (M ⟨g,0,O⟩)] W fun e w'=> ∃x1 x2 x3,e=G (Z x1 x2 x3)/\bH w' (x1,x2,x3) (aR bf s3).1/\dW w' g (aR bf s3).2 bf ps/\Gl w' ps/\aL w1 w'/\Zv W w'):=fun W hW=>(Ut (r8.aN hW) (g8.aN hW) bbd.1 (by omega)).mono (by
   rintro e w' ⟨x1,x2,x3,a,b,c,d⟩;exact⟨x1,x2,x3,a,b,c,(g8.aN hW).og (r8.aN hW) d,Ee (G8.out.then hW) d HGN.out.2,Zv.og (r8.aN hW) d⟩)
  have HED:Hid (∀W Cv x1 x2 x3,dW W g Cv bf ps->Gl W ps->aL w1 W->bH W (x1,x2,x3) (aR bf s3).1->∀W',aL W W'->H K 185 #[U (M ⟨g,0,O⟩)] W' fun e w'=> ∃u1 u2 u3,e=G (Z u1 u2 u3)/\dR w' (u1,u2,u3) (bA bf Cv).1/\dW w' g (bA bf Cv).2 bf ps/\Gl w' ps/\aL w1 w'/\Zv W' w'/\bH w' (x1,x2,x3) (aR bf s3).1/\∀y l,dR W y l->dR w' y l):=fun W Cv x1 x2 x3 hr Fu hg hx W' hW=>(ZJ (hr.aN hW) (Fu.aN hW) bbd.1 (by omega)).mono (by
   rintro e w' ⟨u1,u2,u3,a,b,c,d⟩;exact⟨u1,u2,u3,a,b,c,(Fu.aN hW).og (hr.aN hW) d,Ee (hg.then hW) d HGN.out.2,Zv.og (hr.aN hW) d,(hx.aN hW).rg (hr.aN hW) d,fun y l hy=>(hy.aN hW).rg (hr.aN hW) d⟩)
  have cb8:=r8.bf;have cb8d:w8.drew.cell? ⟨g,1,O⟩=M (I V bf):=cb8;have R8:Hid (∀W,aL w8 W->dW W g s3 bf ps):=fun W hW=>r8.aN hW;clear r8 g8
  go_cut [12] (fun p wc=> ∃(sb:Nat) (x u r:bS),p=U (M ⟨sb,0,O⟩)/\Hid (Xd w1 wc g sb (bA bf (bA bf (aR bf s3).2).2).2 dn bf ps x u r (aR bf s3).1 (bA bf (aR bf s3).2).1 (bA bf (bA bf (aR bf s3).2).2).1))
  case first=>
   go_region_held3 (fun w'=>w'.cell? ⟨g,1,O⟩=M (I V bf))
    (first|(with_reducible exact cb8)|(with_reducible exact cb8d)|(with_reducible exact r9.bf)|(with_reducible exact r10.bf)|(with_reducible exact r11.bf)|(refine dW.bf (R8.out _ ?_);with_reducible (exact aL.drew (aL.alloc (aL.refl _) _)))|(refine dW.bf (dW.aN r9 ?_);with_reducible (exact aL.alloc (aL.refl _) _))|(refine dW.bf (dW.aN r10 ?_);with_reducible (exact aL.alloc (aL.refl _) _))|(refine dW.bf (dW.aN r11 ?_);with_reducible (exact aL.alloc (aL.refl _) _))|(with_reducible exact(dW.st5 r11 zh.out _ _ _ _ _).bf))
    (first
     |(go_at_call 184;refine(HPC.out _ (by repeat (first|exact aL.refl _|refine aL.alloc ?_ _|refine aL.drew ?_))).mono ?_;clear HPC;rintro e w9 ⟨x1,x2,x3,rfl,lx9,r9,g9,G9,k9⟩;have Hu:=HED.out w9 _ x1 x2 x3 r9 g9 G9 lx9)|(go_at_call 185;refine(Hu _ (by repeat (first|exact aL.refl _|refine aL.alloc ?_ _|refine aL.drew ?_))).mono ?_;clear Hu;rintro e Od ⟨u1,u2,u3,rfl,lu10,r10,g10,G10,k10,lx10,-⟩;have he2:=HED.out Od _ x1 x2 x3 r10 g10 G10 lx10)|(go_at_call 185;refine(he2 _ (by repeat (first|exact aL.refl _|refine aL.alloc ?_ _|refine aL.drew ?_))).mono ?_;clear he2;rintro e mg ⟨v1,v2,v3,rfl,lr11,r11,g11,G11,k11,lx11,kk11⟩;first|(refine DC (k11 _ _ (k10 _ _ (k9 _ _ (Aaf w8 _)))) ?_;intro z0 z1 z2 z3 z4 zf zh)|(refine DC (k11 _ _ (k10 _ _ (Aaf w9 _))) ?_;intro z0 z1 z2 z3 z4 zf zh)|(refine DC (k11 _ _ (Aaf Od _)) ?_;intro z0 z1 z2 z3 z4 zf zh)|skip))
   all_goals have hlu:=kk11 _ _ lu10
   ·have ga:=(aL.refl mg).alloc (C #[I V dn,I V bf,Z x1 x2 x3,Z u1 u2 u3,Z v1 v2 v3] 105);have HF:Hid (Xd w1 (mg.alloc (C #[I V dn,I V bf,Z x1 x2 x3,Z u1 u2 u3,Z v1 v2 v3] 105)) g mg.heap.size (bA bf (bA bf (aR bf s3).2).2).2 dn bf ps (x1,x2,x3) (u1,u2,u3) (v1,v2,v3) (aR bf s3).1 (bA bf (aR bf s3).2).1 (bA bf (bA bf (aR bf s3).2).2).1):=Xd.mk (r11.aN ga) (g11.aN ga) (G11.then ga) (Aaf mg _) (lx11.aN ga) (hlu.aN ga) (lr11.aN ga) G11.le;clear ga;go_wp2_with fail;go_meet;exact⟨_,_,_,_,rfl,HF⟩
   ·have HF:Hid (Xd w1 (((((mg.setCell ⟨Od.heap.size,0,O⟩ (I V dn)).setCell ⟨Od.heap.size,1,O⟩ (I V bf)).setCell ⟨Od.heap.size,2,O⟩ (Z x1 x2 x3)).setCell ⟨Od.heap.size,3,O⟩ (Z u1 u2 u3)).setCell ⟨Od.heap.size,4,O⟩ (Z v1 v2 v3)) g Od.heap.size (bA bf (bA bf (aR bf s3).2).2).2 dn bf ps (x1,x2,x3) (u1,u2,u3) (v1,v2,v3) (aR bf s3).1 (bA bf (aR bf s3).2).1 (bA bf (bA bf (aR bf s3).2).2).1):=Xd.st5 (x:=(x1,x2,x3)) (u:=(u1,u2,u3)) (r:=(v1,v2,v3)) zh.out G10.le r11 g11 G11 lx11 hlu lr11;clear z0 z1 z2 z3 z4 zf;go_wp2_with fail;go_meet;exact⟨_,_,_,_,rfl,HF⟩
   ·have HF:Hid (Xd w1 (((((mg.setCell ⟨w9.heap.size,0,O⟩ (I V dn)).setCell ⟨w9.heap.size,1,O⟩ (I V bf)).setCell ⟨w9.heap.size,2,O⟩ (Z x1 x2 x3)).setCell ⟨w9.heap.size,3,O⟩ (Z u1 u2 u3)).setCell ⟨w9.heap.size,4,O⟩ (Z v1 v2 v3)) g w9.heap.size (bA bf (bA bf (aR bf s3).2).2).2 dn bf ps (x1,x2,x3) (u1,u2,u3) (v1,v2,v3) (aR bf s3).1 (bA bf (aR bf s3).2).1 (bA bf (bA bf (aR bf s3).2).2).1):=Xd.st5 (x:=(x1,x2,x3)) (u:=(u1,u2,u3)) (r:=(v1,v2,v3)) zh.out G9.le r11 g11 G11 lx11 hlu lr11;clear z0 z1 z2 z3 z4 zf;go_wp2_with fail;go_meet;exact⟨_,_,_,_,rfl,HF⟩
   ·have HF:Hid (Xd w1 (((((mg.setCell ⟨w8.heap.size,0,O⟩ (I V dn)).setCell ⟨w8.heap.size,1,O⟩ (I V bf)).setCell ⟨w8.heap.size,2,O⟩ (Z x1 x2 x3)).setCell ⟨w8.heap.size,3,O⟩ (Z u1 u2 u3)).setCell ⟨w8.heap.size,4,O⟩ (Z v1 v2 v3)) g w8.heap.size (bA bf (bA bf (aR bf s3).2).2).2 dn bf ps (x1,x2,x3) (u1,u2,u3) (v1,v2,v3) (aR bf s3).1 (bA bf (aR bf s3).2).1 (bA bf (bA bf (aR bf s3).2).2).1):=Xd.st5 (x:=(x1,x2,x3)) (u:=(u1,u2,u3)) (r:=(v1,v2,v3)) zh.out G8.out.le r11 g11 G11 lx11 hlu lr11;clear z0 z1 z2 z3 z4 zf;go_wp2_with fail;go_meet;exact⟨_,_,_,_,rfl,HF⟩
  case rest=>
   obtain⟨sb,⟨x1,x2,x3⟩,⟨u1,u2,u3⟩,⟨v1,v2,v3⟩,rfl,HC⟩:=hcut
   rename F=>w12
   have HF1:Hid (∀W y1 y2 y3,dR W (y1,y2,y3) ((bA bf (aR bf s3).2).1.map Cb)->H K 188 #[I V (sz (aR bf s3).1),Z y1 y2 y3] W fun e w'=>e=G (.bool (pY (sz (aR bf s3).1) ((bA bf (aR bf s3).2).1.map Cb)))/\aL W w'):=fun W y1 y2 y3 hy=>by
    have hp:=sK (bf:=bf) (by omega) s3;have he:=zQ (bf:=bf) (by omega) (aR bf s3).2;cases hs:(aR bf s3).2 with
    |none=>
     rw[hs,Ec]at hy;have e:pY (sz (aR bf s3).1) (List.map Cb (bA bf O).1)=true:=rfl;rw[e];exact KN (x:=(y1,y2,y3)) hy
    |some lq=>
     rw[hs]at hy he
     exact UZ (x:=(y1,y2,y3)) hy (by simp;omega) (rG hp.1) (hp.2.2 _ hs) (fun e hm=>by
      obtain⟨e0,h0,rfl⟩:=AaY.1 hm;obtain⟨-,q1,q2,q3,q4⟩:=he.1 e0 h0;exact⟨q2,q1,q4,q3⟩)
   have vo:Hid (∀W,dR W (v1,v2,v3) (bA bf (bA bf (aR bf s3).2).2).1->H K 188 #[I V (sz (aR bf s3).1),Z v1 v2 v3] W fun e w'=>e=G (.bool (pY (sz (aR bf s3).1) (bA bf (bA bf (aR bf s3).2).2).1))/\aL W w'):=fun W hy=>by
    have hp:=sK (bf:=bf) (by omega) s3;have he:=zQ (bf:=bf) (by omega) (bA bf (aR bf s3).2).2;cases hs:(aR bf s3).2 with
    |none=>
     rw[hs,Ec]at hy;have e:pY (sz (aR bf s3).1) (bA bf (bA bf O).2).1=true:=rfl;rw[e];exact KN (x:=(v1,v2,v3)) hy
    |some lq=>
     rw[hs]at hy he;exact UZ (x:=(v1,v2,v3)) hy (by omega) (rG hp.1) (hp.2.2 _ hs) (fun e hm=>(he.1 e hm).2)
   have HBY:Hid (∀W,bH W (x1,x2,x3) (aR bf s3).1->H K 187 #[Z x1 x2 x3] W fun e w'=>e=G (I V (sz (aR bf s3).1))/\aL W w'):=fun W hW=>by
    have hp:=sK (bf:=bf) (by omega) s3;exact vZ (x:=(x1,x2,x3)) hW hp.1 (by omega)
   have HTU:Hid (∀W,dR W (u1,u2,u3) (bA bf (aR bf s3).2).1->H K 189 #[Z u1 u2 u3] W fun e w'=> ∃y1 y2 y3,e=G (Z y1 y2 y3)/\dR w' (y1,y2,y3) ((bA bf (aR bf s3).2).1.map Cb)/\aL W w'):=fun W hW=>by
    have he:=zQ (bf:=bf) (by omega) (aR bf s3).2;exact QK (x:=(u1,u2,u3)) hW (by omega)
   have HCK3:Hid (yM l buf=match iP (pY (sz (aR bf s3).1) (bA bf (bA bf (aR bf s3).2).2).1) (iP (pY (sz (aR bf s3).1) ((bA bf (aR bf s3).2).1.map Cb)) (iP ((bA bf (bA bf (aR bf s3).2).2).2==M []) (bA bf (bA bf (aR bf s3).2).2).2))with
    |none=>O
    |some _=>M (ep,((aR bf s3).1,(bA bf (aR bf s3).2).1,(bA bf (bA bf (aR bf s3).2).2).1,dn,bf))):=Qb.out
   generalize (bA bf (bA bf (aR bf s3).2).2).2=sr at*;generalize (bA bf (bA bf (aR bf s3).2).2).1=rl at*;generalize (bA bf (aR bf s3).2).1=ul at*;generalize (aR bf s3).1=t at*
   have HAS:Hid (∀W Cv (sx:ByteArray) (right:Bool),Xd w1 W g sb Cv dn bf ps (x1,x2,x3) (u1,u2,u3) (v1,v2,v3) t ul rl->H K 186 #[U (M ⟨g,0,O⟩),.string sx,.bool right] W fun e w'=>e=G (.tuple #[])/\Xd w1 w' g sb (iP right Cv) dn bf ps (x1,x2,x3) (u1,u2,u3) (v1,v2,v3) t ul rl):=fun W Cv sx right hW=>(Ji hW.rg hW.gl).mono (by
    rintro e w' ⟨a,b,c⟩;exact⟨a,hW.ask HGN.out.2 b c⟩)
   obtain⟨nao,nn,nc,cn,hnn⟩:=HC.out.rg.rest;have ha1:=HAS.out w12 sr ⟨#[105,116,115,32,101,110,100]⟩ ((nn:Int)==0) HC.out;rw[S_ hnn]at ha1;clear hnn Qb HPC HED R8 cb8 cb8d HC G8;generalize Gx:pY (sz t) (ul.map Cb)=f1 at*;generalize Ii:pY (sz t) rl=f2 at*;generalize Av:iP (sr==M []) sr=q1 at*;generalize sz t=zt at*;clear Gx Ii Av;go_upto_region 11 with(go_at_call 186;refine ha1.mono ?_;rintro e w13 ⟨rfl,c13⟩);clear ha1 cn;obtain⟨-,-,k2,-,-⟩:=c13.cells;have Qg:=HBY.out w13 c13.lx;simp only[bS.v]at k2;clear HBY;go_upto_region 12 with(go_at_call 187;refine Qg.mono ?_;rintro e w14 ⟨rfl,hg14⟩);have c14:=c13.aN hg14;obtain⟨-,-,-,k3,-⟩:=c14.cells;simp only[bS.v]at k3;have htu:=HTU.out w14 c14.lu;clear Qg k2 HTU c13 hg14
   go_upto_region 13 with(first
    |(go_at_call 189;refine htu.mono ?_;clear htu;rintro e w15 ⟨y1,y2,y3,rfl,ey15,hg15⟩;have c15:=c14.aN hg15;have Gx:=HF1.out w15 y1 y2 y3 ey15)
    |(go_at_call 188;refine Gx.mono ?_;clear Gx;rintro e w16 ⟨rfl,hg16⟩;have c16:=c15.aN hg16;have ru:=HAS.out w16 q1 ⟨#[105,116,115,32,101,100,105,116,115,32,116,104,97,116,32,99,97,110,32,98,101,32,117,110,100,111,110,101]⟩ f1 c16)
    |(go_at_call 186;refine ru.mono ?_;clear ru;rintro e w17 ⟨rfl,c17⟩))
   obtain⟨-,-,-,-,k4⟩:=c17.cells;simp only[bS.v]at k4;have Ii:=vo.out w17 c17.lr;clear k3 c14 c15 c16 hg15 hg16 ey15 HF1 vo
   go_upto_region 14 with(first
    |(go_at_call 188;refine Ii.mono ?_;clear Ii;rintro e w18 ⟨rfl,hg18⟩;have c18:=c17.aN hg18;have ha3:=HAS.out w18 (iP f1 q1) ⟨#[105,116,115,32,101,100,105,116,115,32,116,104,97,116,32,99,97,110,32,98,101,32,100,111,110,101,32,97,103,97,105,110]⟩ f2 c18)
    |(go_at_call 186;refine ha3.mono ?_;clear ha3;rintro e Wl ⟨rfl,QT⟩))
   clear k4 c17 c18 hg18 HAS;have HRZ:Hid (Wl.heap[w.heap.size]?=M (C #[I V 0,I V 0,Z O 0 0,Z O 0 0,Z O 0 0] 105 (0,0))):=(QT.gr.block _ (aM Zt.out)).trans Zt.out;obtain⟨⟨z0,z1,z2,z3,z4⟩,zf⟩:=rH HRZ.out;cases Iq:iP f2 (iP f1 q1)with
   |none=>
    rw[Iq]at QT;have HE:Hid (yM l buf=O):=(by show _=_;rw[HCK3.out,Iq]);obtain⟨_,_,_,te,be,hbe,hee⟩:=QT.rg;obtain⟨-,-,ke,-⟩:=lT hbe;have ked:Wl.drew.cell? ⟨g,2,O⟩=M (.iface te (U (M be))):=ke;have HBE:Hid (Wl.heap[g]?=_):=hbe;have HEL:Hid (kZ Wl ps 1 (.iface te (U (M be))) 11):=hee;have HNE:Hid (g≠w.heap.size):=(by have:=HGN.out.1;show g≠_;omega);have HGW:Hid (aL w Wl):=HW1.out.then QT.gr;clear hbe hee QT HCK3 Iq HGN Zt HW1 iI hl uU dY bbd bhi;go_upto_region 15 with fail
    go_region_held3 (fun w'=>w'.cell? ⟨g,2,O⟩=M (.iface te (U (M be)))) (first|(with_reducible exact ke)|(with_reducible exact ked)|(with_reducible exact(KO HBE.out HNE.out _ _ _ _ _).2)|(with_reducible exact(KO HBE.out HNE.out _ _ _ _ _).1)) (fail)
    all_goals go_wp2_with fail
    all_goals refine Aan (v:= .tuple #[I V 0,.agg #[I V 0,I V 0,Z O 0 0,Z O 0 0,Z O 0 0],.iface te (U (M be))]) (by simp[results,results123,go_sem, *]) rfl ?_
    all_goals rw[HE.out]
    all_goals have hF:=Bl Wl w.heap.size (I V 0) (I V 0) (Z O 0 0) (Z O 0 0) (Z O 0 0)
    all_goals have hE:=(HEL.out.fr hF (fun _ _ hb=>Uu HRZ.out _ _ _ _ hb (by decide)) (fun _ _ hb=>Uu HRZ.out _ _ _ _ hb (by decide))).aN (aL.drew (aL.refl _))
    all_goals have hGG:=aL.drew (dH HGW.out (Aak _) (I V 0) (I V 0) (Z O 0 0) (Z O 0 0) (Z O 0 0))
    all_goals exact⟨⟨te,be,rfl,hE⟩,hGG⟩
   |some lz=>
    rw[Iq]at QT;have HE:Hid (yM l buf=M (ep,(t,ul,rl,dn,bf))):=(by show _=_;rw[HCK3.out,Iq]);obtain⟨_,_,_,-,-,ke,-⟩:=yL.cells QT.rg;have qZ:=QT.box;have hsb:=QT.sbn;have FM:=aM Zt.out;obtain⟨m0,m1,m2,m3,m4⟩:=QT.cells;simp only[bS.v]at m2 m3 m4 qZ;have md:Wl.drew.cell? ⟨sb,0,O⟩=M (I V dn)/\Wl.drew.cell? ⟨sb,1,O⟩=M (I V bf)/\Wl.drew.cell? ⟨sb,2,O⟩=M (Z x1 x2 x3)/\Wl.drew.cell? ⟨sb,3,O⟩=M (Z u1 u2 u3)/\Wl.drew.cell? ⟨sb,4,O⟩=M (Z v1 v2 v3):=⟨m0,m1,m2,m3,m4⟩;have HMD:Hid (Wl.drew.cell? ⟨sb,0,O⟩=M (I V dn)/\Wl.drew.cell? ⟨sb,1,O⟩=M (I V bf)/\Wl.drew.cell? ⟨sb,2,O⟩=M (Z x1 x2 x3)/\Wl.drew.cell? ⟨sb,3,O⟩=M (Z u1 u2 u3)/\Wl.drew.cell? ⟨sb,4,O⟩=M (Z v1 v2 v3)):=md;have jk:Hid (Wl.heap[sb]?=_):=qZ;have HNE:Hid (sb≠w.heap.size):=(by show sb≠_;omega);have HGW:Hid (aL w Wl):=HW1.out.then QT.gr;have T_:Hid (bH Wl (x1,x2,x3) t/\dR Wl (u1,u2,u3) ul/\dR Wl (v1,v2,v3) rl):=⟨QT.lx,QT.lu,QT.lr⟩;clear qZ QT HCK3 Iq md hsb FM HGN Zt HW1 iI hl uU dY bbd bhi;go_upto_region 16 with fail
    go_region_held3 (fun w'=>w'.cell? ⟨sb,0,O⟩=M (I V dn)/\w'.cell? ⟨sb,1,O⟩=M (I V bf)/\w'.cell? ⟨sb,2,O⟩=M (Z x1 x2 x3)/\w'.cell? ⟨sb,3,O⟩=M (Z u1 u2 u3)/\w'.cell? ⟨sb,4,O⟩=M (Z v1 v2 v3)) (first|(with_reducible exact HMD.out)|(with_reducible exact⟨m0,m1,m2,m3,m4⟩)|(with_reducible exact(KP jk.out HNE.out _ _ _ _ _).2)|(with_reducible exact(KP jk.out HNE.out _ _ _ _ _).1)) (fail)
    all_goals go_wp2_with fail
    all_goals refine Aan (v:= .tuple #[I V ep,.agg #[I V dn,I V bf,Z x1 x2 x3,Z u1 u2 u3,Z v1 v2 v3],.nilIface]) (by simp[results,results123,go_sem, *]) rfl ?_
    all_goals rw[HE.out]
    all_goals have hF:=Bl Wl w.heap.size (I V dn) (I V bf) (Z x1 x2 x3) (Z u1 u2 u3) (Z v1 v2 v3)
    all_goals have hn:=Uu HRZ.out
    all_goals have hX:=(T_.out.1.fr hF (fun _ _ hb=>hn _ _ _ _ hb (by decide))).aN (aL.drew (aL.refl _))
    all_goals have hU:=(T_.out.2.1.fr hF (fun _ _ hb=>hn _ _ _ _ hb (by decide)) (fun _ _ hb=>hn _ _ _ _ hb (by decide))).aN (aL.drew (aL.refl _))
    all_goals have hV:=(T_.out.2.2.fr hF (fun _ _ hb=>hn _ _ _ _ hb (by decide)) (fun _ _ hb=>hn _ _ _ _ hb (by decide))).aN (aL.drew (aL.refl _))
    all_goals have hGG:=aL.drew (dH HGW.out (Aak _) (I V dn) (I V bf) (Z x1 x2 x3) (Z u1 u2 u3) (Z v1 v2 v3))
    all_goals exact⟨⟨(x1,x2,x3),(u1,u2,u3),(v1,v2,v3),rfl,hX,hU,hV⟩,hGG⟩
structure U_ (W:F)(cb pb qb lp dp db:Nat)(ep q a b c:Int):Prop where
 chg:W.heap[cb]?=M (C #[I .u8 q,I V a,I V b,I V c] 99 (0,0))
 dr:W.heap[pb]?=M (C #[U (M ⟨dp,0,O⟩)] 86 (0,0))
 lg:W.heap[qb]?=M (C #[U (M ⟨lp,0,O⟩)] 85 (0,0))
 vF:W.heap[lp]?=M (jM db ep)
theorem U_.aN {a b c:Int}(h:U_ W cb pb qb lp dp db ep q a b c)(hg:aL W W'):U_ W' cb pb qb lp dp db ep q a b c:=
 ⟨(hg.block _ (aM h.chg)).trans h.chg,(hg.block _ (aM h.dr)).trans h.dr,(hg.block _ (aM h.lg)).trans h.lg,(hg.block _ (aM h.vF)).trans h.vF⟩
theorem U_.cells {a b c:Int}(h:U_ W cb pb qb lp dp db ep q a b c):(W.cell? ⟨cb,0,O⟩=M (I .u8 q)/\W.cell? ⟨cb,1,O⟩=M (I V a)/\W.cell? ⟨cb,2,O⟩=M (I V b)/\W.cell? ⟨cb,3,O⟩=M (I V c))/\W.cell? ⟨pb,0,O⟩=M (U (M ⟨dp,0,O⟩))/\W.cell? ⟨qb,0,O⟩=M (U (M ⟨lp,0,O⟩))/\W.cell? ⟨lp,0,O⟩=M (U (M ⟨db,0,O⟩)):=by
 obtain⟨h1,h2,h3,h4⟩:=h;refine⟨by simp[World.cell?,h1],by simp[World.cell?,h2],by simp[World.cell?,h3],(gU h4).1⟩
theorem V_:∀(args:Array Y) (w:F),(callFunc 191 args).run K w= .ok (.enter 191 args) w:=enters_of func191 (by kernel_rfl) rfl
theorem QU {a b c:Int}(h:U_ W cb pb qb lp dp db ep q a b c)(hq:q≠73):
 H K 191 #[U (M ⟨cb,0,O⟩),U (M ⟨pb,0,O⟩),U (M ⟨qb,0,O⟩)] W fun e w'=>e=G .nilIface/\aL W w':=by
 obtain⟨⟨c0,c1,c2,c3⟩,c4,c5,c6⟩:=h.cells;have hq':(q==73)=false:=Aat.2 hq;clear h;go_enter func191,ntmps191;go_wp2_with fail;go_quiet (fail);go_wp2_with fail;go_ret;exact⟨rfl,bB (aL.refl W) _⟩
theorem KR {tb depth:Nat}{a b c:Int}{m:dD}{s:Sc}{fv:Y}{rs:List FR}(h:U_ W cb pb qb lp dp db ep 73 a b c)(hd:aV W dp tb depth m)(hD:aU W db s fv rs)(hO:pJ 1000 s (plain rs))(hG:Gl W ps)(uU:0<=m.2.2.2.2)(dY:m.2.2.2.2<=1000000)(Bh:0<=c)(wY:c<4294967296):
 H K 191 #[U (M ⟨cb,0,O⟩),U (M ⟨pb,0,O⟩),U (M ⟨qb,0,O⟩)] W fun e w'=>e=G (if ((aO (plain rs) 1).size:Int)<m.2.2.2.2+c then jH (ps 4)else .nilIface)/\aL W w':=by
 obtain⟨⟨c0,c1,c2,c3⟩,c4,c5,c6⟩:=h.cells;have HB:Hid (∀W',aL W W'->H K 53 #[U (M ⟨dp,0,O⟩)] W' fun e w'=>e=G (I V m.2.2.2.2)/\∃q,w'=W'.drewN q):=fun W' hW=>(Bg (hd.aN hW)).mono (by rintro e w' ⟨rfl,rfl⟩;exact⟨rfl,0,rfl⟩);have HL:Hid (∀W',aL W W'->H K 124 #[U (M ⟨db,0,O⟩),I V 1] W' fun e w'=>e=G (I V ((aO (plain rs) 1).size:Int))/\∃q,w'=W'.drewN q):=fun W' hW=>(Fj (hD.aN hW) hO.inv.sort.1 (by have:=hO.len;rw[bN]at this;omega)).mono (by rintro e w' ⟨rfl,rfl⟩;exact⟨rfl,0,rfl⟩);have gc:=hG.xR.cell (k:=4) (by omega);unfold jH at gc ⊢;generalize (aO (plain rs) 1).size=z at*;generalize m.2.2.2.2=bf at*;have hw:wrap64 (bf+c)=bf+c:=by unfold wrap64;omega
 clear h hd hD hG;by_cases bP:(z:Int)<bf+c
 ·have hdd:decide ((z:Int)<bf+c)=true:=AaH bP;rw[Aad bP];go_enter func191,ntmps191;go_wp2_with fail;go_quiet (first|(go_at_call 53;exact Acm (HB.out _ (bB (aL.refl W) _)))|(go_at_call 124;exact Acm (HL.out _ (bB (aL.refl W) _))));go_wp2_with fail;go_ret;exact⟨rfl,bB (aL.refl W) _⟩
 ·have hdd:decide ((z:Int)<bf+c)=false:=AaN bP;rw[Aaa bP];go_enter func191,ntmps191;go_wp2_with fail;go_quiet (first|(go_at_call 53;exact Acm (HB.out _ (bB (aL.refl W) _)))|(go_at_call 124;exact Acm (HL.out _ (bB (aL.refl W) _))));go_wp2_with fail;go_ret;exact⟨rfl,bB (aL.refl W) _⟩
end Go.Proofs.YtfplgfodoiiobaaGreatDoor
