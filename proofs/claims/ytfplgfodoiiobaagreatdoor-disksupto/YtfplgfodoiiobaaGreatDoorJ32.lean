/- LgJ (joined). -/
import Derived.Test.YtfplgfodoiiobaaGreatDoorJ31
open Option renaming none→O,some→M
open Go.Value renaming int→I,slice→Z,pointer→U
open Go.IntKind renaming i64→V
open Go.Obj renaming cells→C
open Go.Ending renaming returned→G
open Go renaming World→F,Value→Y,Calls→H
open Go.Proofs.Tryz renaming prog→K
namespace Go.Proofs.YtfplgfodoiiobaaGreatDoor
set_option maxHeartbeats 1500000
set_option maxRecDepth 100000
open Go.RowKit
variable {W w w1 w':F}{g sb R:Nat}{bf dn:Int}{ps:Nat->Addr}{st:Option (List UInt8)}{a b c d e:Y}{x u r:bS}{t:List (Int×Int)}{ul rl:List Ed}
def rck3 (bf:Int)(s3:Option (List UInt8))(ep dn:Int):Option (Int×dF):=
 match iG (pE (sz (aR bf s3).1) (aY bf (aY bf (aR bf s3).2).2).1) (iG (pE (sz (aR bf s3).1) ((aY bf (aR bf s3).2).1.map Bc)) (iG ((aY bf (aY bf (aR bf s3).2).2).2==M []) (aY bf (aY bf (aR bf s3).2).2).2))with
 |none=>O
 |some _=>M (ep,((aR bf s3).1,(aY bf (aR bf s3).2).1,(aY bf (aY bf (aR bf s3).2).2).1,dn,bf))
def RckV (w:F)(ps:Nat->Addr)(e:Ending):Option (Int×dF)->Prop
 |none=> ∃t b,e=G (.tuple #[I V 0,.agg #[I V 0,I V 0,Z O 0 0,Z O 0 0,Z O 0 0],.iface t (U (M b))])/\nX w ps 1 (.iface t (U (M b))) 11
 |some q=> ∃t u r:bS,e=G (.tuple #[I V q.1,stV q.2.2.2.2.1 q.2.2.2.2.2 t u r,.nilIface])/\bL w t q.2.1/\dY w u q.2.2.1/\dY w r q.2.2.2.1
theorem uT (W:F)(g:Nat)(a b c d e:Y):Fr W (((((W.setCell ⟨g,0,O⟩ a).setCell ⟨g,1,O⟩ b).setCell ⟨g,2,O⟩ c).setCell ⟨g,3,O⟩ d).setCell ⟨g,4,O⟩ e) (fun b=>b=g):=
 ((((Fr.set W ⟨g,0,O⟩ a).trans (Fr.set _ ⟨g,1,O⟩ b)).trans (Fr.set _ ⟨g,2,O⟩ c)).trans (Fr.set _ ⟨g,3,O⟩ d)).trans (Fr.set _ ⟨g,4,O⟩ e)
theorem wZ (h:W.heap[R]?=M (C #[a,b,c,d,e] 105 (0,0))):(W.cell? ⟨R,0,O⟩=M a/\W.cell? ⟨R,1,O⟩=M b/\W.cell? ⟨R,2,O⟩=M c/\W.cell? ⟨R,3,O⟩=M d/\W.cell? ⟨R,4,O⟩=M e)/\∀j,W.frozen? ⟨R,j,O⟩=false:=
 ⟨by simp[World.cell?,h],fun j=>by simp[World.frozen?,h]⟩
theorem Cv {wk YJ:F}(h:aL w wk)(ho:Og wk YJ g)(hg:w.heap.size<=g):aL w YJ:=by
 obtain⟨⟨a1,a2⟩,b1,b2,b3⟩:=ho;exact⟨b1.trans h.os,b2.trans h.tape,b3.trans h.output,Nat.le_trans h.size a1,fun b hb=>(a2 b (Nat.lt_of_lt_of_le hb h.size) (by omega)).trans (h.block b hb)⟩
theorem dY.rg {l:List Ed}(h:dY w x l)(hr:dU w g st bf ps)(ho:Og w w' g):dY w' x l:=by
 obtain⟨c,hc⟩:=hr.rX;exact h.fr ho.1 (fun b aS hb=>bB hb hc (by decide)) (fun b aS hb=>bB hb hc (by decide))
theorem dU.fr {X:Nat->Prop}(h:dU w g st bf ps)(hF:Fr w w' X)(hX:∀(b:Nat) (aS:Array Y) (t:TypeId) (f:Nat×Nat),w.heap[b]?=M (C aS t f)->t≠105->¬X b):dU w' g st bf ps:=by
 cases st with
 |some l=>
  obtain⟨b,off,c,hb,hc,hr,aS,f,ht⟩:=h;exact⟨b,off,c,hF.at hb (hX _ _ _ _ hb (by decide)),hc,hr.fr hF (fun a e=>by cases e;exact hX _ _ _ _ ht (by decide)),aS,f,hF.at ht (hX _ _ _ _ ht (by decide))⟩
 |none=>
  obtain⟨ao,n,c,t,b,hb,he⟩:=h;exact⟨ao,n,c,t,b,hF.at hb (hX _ _ _ _ hb (by decide)),he.fr hF (fun b aS pX=>hX _ _ _ _ pX (by decide)) (fun b aS pX=>hX _ _ _ _ pX (by decide))⟩
theorem Td {aS:Array Y}(hz:w.heap[sb]?=M (C aS 105 (0,0))):∀(b:Nat) (aS:Array Y) (t:TypeId) (f:Nat×Nat),w.heap[b]?=M (C aS t f)->t≠105->¬b=sb:=fun _ _ _ _ hb ht=>bB hb hz ht
theorem dU.st5 {aS:Array Y}(h:dU w g st bf ps)(hz:w.heap[sb]?=M (C aS 105 (0,0)))(a b c d e:Y):dU (((((w.setCell ⟨sb,0,O⟩ a).setCell ⟨sb,1,O⟩ b).setCell ⟨sb,2,O⟩ c).setCell ⟨sb,3,O⟩ d).setCell ⟨sb,4,O⟩ e) g st bf ps:=h.fr (uT w sb a b c d e) (Td hz)
def Xx (W w':F):Prop:=∀(b:Nat) (aS:Array Y),W.heap[b]?=M (C aS 105 (0,0))->w'.heap[b]?=M (C aS 105 (0,0))
theorem Xx.og (h:dU W g st bf ps)(ho:Og W w' g):Xx W w':=fun b aS hb=>by
 obtain⟨c,hc⟩:=h.rX;exact ho.1.at hb (fun e=>bB hb hc (by decide) e)
theorem Zw {P:Prop}(h:W.heap[R]?=M (C #[a,b,c,d,e] 105 (0,0)))(k:W.cell? ⟨R,0,O⟩=M a->W.cell? ⟨R,1,O⟩=M b->W.cell? ⟨R,2,O⟩=M c->W.cell? ⟨R,3,O⟩=M d->W.cell? ⟨R,4,O⟩=M e->(∀j,W.frozen? ⟨R,j,O⟩=false)->Hid (W.heap[R]?=M (C #[a,b,c,d,e] 105 (0,0)))->P):P:=by
 obtain⟨⟨a,b,c,d,e⟩,f⟩:=wZ h;exact k a b c d e f h
theorem st5_blk (h:W.heap[R]?=M (C #[a,b,c,d,e] 105 (0,0)))(a' b' c' d' e':Y):(((((W.setCell ⟨R,0,O⟩ a').setCell ⟨R,1,O⟩ b').setCell ⟨R,2,O⟩ c').setCell ⟨R,3,O⟩ d').setCell ⟨R,4,O⟩ e').heap[R]?=M (C #[a',b',c',d',e'] 105 (0,0)):=by
 have h0:(W.setCell ⟨R,0,O⟩ a').heap[R]?=M (C #[a',b,c,d,e] 105 (0,0)):=by rw[heap_setCell_same W R 0 _ _ _ h];rfl
 have h1:((W.setCell ⟨R,0,O⟩ a').setCell ⟨R,1,O⟩ b').heap[R]?=M (C #[a',b',c,d,e] 105 (0,0)):=by rw[heap_setCell_same _ R 1 _ _ _ h0];rfl
 have h2:(((W.setCell ⟨R,0,O⟩ a').setCell ⟨R,1,O⟩ b').setCell ⟨R,2,O⟩ c').heap[R]?=M (C #[a',b',c',d,e] 105 (0,0)):=by rw[heap_setCell_same _ R 2 _ _ _ h1];rfl
 have h3:((((W.setCell ⟨R,0,O⟩ a').setCell ⟨R,1,O⟩ b').setCell ⟨R,2,O⟩ c').setCell ⟨R,3,O⟩ d').heap[R]?=M (C #[a',b',c',d',e] 105 (0,0)):=by rw[heap_setCell_same _ R 3 _ _ _ h2];rfl
 rw[heap_setCell_same _ R 4 _ _ _ h3];rfl
structure Vh (w1 W:F)(g sb:Nat)(st:Option (List UInt8))(dn bf:Int)(ps:Nat->Addr)(x u r:bS)(t:List (Int×Int))(ul rl:List Ed):Prop where
 rg:dU W g st bf ps
 gl:Gl W ps
 gr:aL w1 W
 box:W.heap[sb]?=M (C #[I V dn,I V bf,x.v,u.v,r.v] 105 (0,0))
 lx:bL W x t
 lu:dY W u ul
 lr:dY W r rl
 sbn:w1.heap.size<=sb
theorem Vh.aN {W':F}(h:Vh w1 W g sb st dn bf ps x u r t ul rl)(hg:aL W W'):Vh w1 W' g sb st dn bf ps x u r t ul rl:=
 ⟨h.rg.aN hg,h.gl.aN hg,h.gr.then hg,(hg.block _ (aM h.box)).trans h.box,h.lx.aN hg,h.lu.aN hg,h.lr.aN hg,h.sbn⟩
theorem Vh.ask {W':F}{Br:Option (List UInt8)}(h:Vh w1 W g sb st dn bf ps x u r t ul rl)(hg:w1.heap.size<=g)(hr:dU W' g Br bf ps)(ho:Og W W' g):Vh w1 W' g sb Br dn bf ps x u r t ul rl:=by
 obtain⟨c,hc⟩:=h.rg.rX;exact⟨hr,h.gl.og h.rg ho,Cv h.gr ho hg,ho.1.at h.box (fun e=>bB h.box hc (by decide) e),h.lx.rg h.rg ho,h.lu.rg h.rg ho,h.lr.rg h.rg ho,h.sbn⟩
theorem Vh.cells (h:Vh w1 W g sb st dn bf ps x u r t ul rl):W.cell? ⟨sb,0,O⟩=M (I V dn)/\W.cell? ⟨sb,1,O⟩=M (I V bf)/\W.cell? ⟨sb,2,O⟩=M x.v/\W.cell? ⟨sb,3,O⟩=M u.v/\W.cell? ⟨sb,4,O⟩=M r.v:=(wZ h.box).1
theorem Vh.st5 (hz:W.heap[sb]?=M (C #[a,b,c,d,e] 105 (0,0)))(hs:w1.heap.size<=sb)(hr:dU W g st bf ps)(hg:Gl W ps)(hG:aL w1 W)(hx:bL W x t)(hu:dY W u ul)(hv:dY W r rl):Vh w1 (((((W.setCell ⟨sb,0,O⟩ (I V dn)).setCell ⟨sb,1,O⟩ (I V bf)).setCell ⟨sb,2,O⟩ x.v).setCell ⟨sb,3,O⟩ u.v).setCell ⟨sb,4,O⟩ r.v) g sb st dn bf ps x u r t ul rl:=by
 have hF:=uT W sb (I V dn) (I V bf) x.v u.v r.v;have hn:=Td hz;exact⟨hr.st5 hz _ _ _ _ _,hg.fr hF (fun _ _ hb=>hn _ _ _ _ hb (by decide)) (fun _ _ _ g hb=>hn _ _ _ _ hb (g.ne (by decide))) (fun _ _ hb=>hn _ _ _ _ hb (by decide)) (fun _ _ hb=>hn _ _ _ _ hb (by decide)),bZ hG hs _ _ _ _ _,st5_blk hz _ _ _ _ _,hx.fr hF (fun _ _ hb=>hn _ _ _ _ hb (by decide)),hu.fr hF (fun _ _ hb=>hn _ _ _ _ hb (by decide)) (fun _ _ hb=>hn _ _ _ _ hb (by decide)),hv.fr hF (fun _ _ hb=>hn _ _ _ _ hb (by decide)) (fun _ _ hb=>hn _ _ _ _ hb (by decide)),hs⟩
theorem GY {ao:Option Addr}{n c:Nat}{ev:Y}(h:W.heap[g]?=M (rgB ao n c bf ev))(hne:g≠R)(a' b' c' d' e':Y):(((((W.setCell ⟨R,0,O⟩ a').setCell ⟨R,1,O⟩ b').setCell ⟨R,2,O⟩ c').setCell ⟨R,3,O⟩ d').setCell ⟨R,4,O⟩ e').cell? ⟨g,2,O⟩=M ev/\(World.drew (((((W.setCell ⟨R,0,O⟩ a').setCell ⟨R,1,O⟩ b').setCell ⟨R,2,O⟩ c').setCell ⟨R,3,O⟩ d').setCell ⟨R,4,O⟩ e')).cell? ⟨g,2,O⟩=M ev:=by
 have h1:=(uT W R a' b' c' d' e').at h hne;generalize (((((W.setCell ⟨R,0,O⟩ a').setCell ⟨R,1,O⟩ b').setCell ⟨R,2,O⟩ c').setCell ⟨R,3,O⟩ d').setCell ⟨R,4,O⟩ e')=aJ at*;have h2:aJ.drew.heap[g]?=M (rgB ao n c bf ev):=h1;exact⟨(kY h1).2.2.1,(kY h2).2.2.1⟩
theorem GZ (h:W.heap[sb]?=M (C #[a,b,c,d,e] 105 (0,0)))(hne:sb≠R)(a' b' c' d' e':Y):((((((W.setCell ⟨R,0,O⟩ a').setCell ⟨R,1,O⟩ b').setCell ⟨R,2,O⟩ c').setCell ⟨R,3,O⟩ d').setCell ⟨R,4,O⟩ e').cell? ⟨sb,0,O⟩=M a/\(((((W.setCell ⟨R,0,O⟩ a').setCell ⟨R,1,O⟩ b').setCell ⟨R,2,O⟩ c').setCell ⟨R,3,O⟩ d').setCell ⟨R,4,O⟩ e').cell? ⟨sb,1,O⟩=M b/\(((((W.setCell ⟨R,0,O⟩ a').setCell ⟨R,1,O⟩ b').setCell ⟨R,2,O⟩ c').setCell ⟨R,3,O⟩ d').setCell ⟨R,4,O⟩ e').cell? ⟨sb,2,O⟩=M c/\(((((W.setCell ⟨R,0,O⟩ a').setCell ⟨R,1,O⟩ b').setCell ⟨R,2,O⟩ c').setCell ⟨R,3,O⟩ d').setCell ⟨R,4,O⟩ e').cell? ⟨sb,3,O⟩=M d/\(((((W.setCell ⟨R,0,O⟩ a').setCell ⟨R,1,O⟩ b').setCell ⟨R,2,O⟩ c').setCell ⟨R,3,O⟩ d').setCell ⟨R,4,O⟩ e').cell? ⟨sb,4,O⟩=M e)/\((World.drew (((((W.setCell ⟨R,0,O⟩ a').setCell ⟨R,1,O⟩ b').setCell ⟨R,2,O⟩ c').setCell ⟨R,3,O⟩ d').setCell ⟨R,4,O⟩ e')).cell? ⟨sb,0,O⟩=M a/\(World.drew (((((W.setCell ⟨R,0,O⟩ a').setCell ⟨R,1,O⟩ b').setCell ⟨R,2,O⟩ c').setCell ⟨R,3,O⟩ d').setCell ⟨R,4,O⟩ e')).cell? ⟨sb,1,O⟩=M b/\(World.drew (((((W.setCell ⟨R,0,O⟩ a').setCell ⟨R,1,O⟩ b').setCell ⟨R,2,O⟩ c').setCell ⟨R,3,O⟩ d').setCell ⟨R,4,O⟩ e')).cell? ⟨sb,2,O⟩=M c/\(World.drew (((((W.setCell ⟨R,0,O⟩ a').setCell ⟨R,1,O⟩ b').setCell ⟨R,2,O⟩ c').setCell ⟨R,3,O⟩ d').setCell ⟨R,4,O⟩ e')).cell? ⟨sb,3,O⟩=M d/\(World.drew (((((W.setCell ⟨R,0,O⟩ a').setCell ⟨R,1,O⟩ b').setCell ⟨R,2,O⟩ c').setCell ⟨R,3,O⟩ d').setCell ⟨R,4,O⟩ e')).cell? ⟨sb,4,O⟩=M e):=by
 have h1:=(uT W R a' b' c' d' e').at h hne;generalize (((((W.setCell ⟨R,0,O⟩ a').setCell ⟨R,1,O⟩ b').setCell ⟨R,2,O⟩ c').setCell ⟨R,3,O⟩ d').setCell ⟨R,4,O⟩ e')=aJ at*;have h2:aJ.drew.heap[sb]?=M (C #[a,b,c,d,e] 105 (0,0)):=h1;exact⟨(wZ h1).1,(wZ h2).1⟩
theorem Xy {b off cap:Nat}{l:List UInt8}{buf:Int}(h:qQ w (M ⟨b,off,O⟩) l)(ht:∃aS f,w.heap[b]?=M (C aS 5 f))(iL:l.length<=cap)(hl:l.length<=900000000)(hG:Gl w ps)(Eo:0<=buf)(fC:buf<=1000000000):
 H K 123 #[Z (M ⟨b,off,O⟩) l.length cap,I V buf] w fun e w'=>RckV w' ps e (yB l buf)/\aL w w':=by
 obtain⟨w1,jJ⟩:∃w1,w1=w.alloc (C #[I V 0,I V 0,Z O 0 0,Z O 0 0,Z O 0 0] 105):=⟨_,rfl⟩;have hR1:w1.heap[w.heap.size]?=M (C #[I V 0,I V 0,Z O 0 0,Z O 0 0,Z O 0 0] 105 (0,0)):=by rw[jJ];exact heap_alloc_new w _
 have G1:aL w w1:=by rw[jJ];exact(aL.refl w).alloc _
 have hU:=Wd (cap:=cap) (h.aN G1) hl iL;have yU:Hid (Gl w1 ps):=hG.aN G1;have HW1:Hid (aL w w1):=G1;have Xv:Hid (w1.heap[w.heap.size]?=M (C #[I V 0,I V 0,Z O 0 0,Z O 0 0,Z O 0 0] 105 (0,0))):=hR1
 have HRW:Hid (qQ w1 (M ⟨b,off,O⟩) l/\∃aS f,w1.heap[b]?=M (C aS 5 f)):=by
  obtain⟨aS,f,ht⟩:=ht;exact⟨h.aN G1,aS,f,(G1.block _ (aM ht)).trans ht⟩
 clear hR1 G1 h ht hG;cases hu:jL l with
 |none=>
  have HE:Hid (yB l buf=O):=by show _=_;unfold yB;rw[hu]
  rw[hu]at hU;unfold zL at hU;simp only at hU
  have HAT:Hid (∀W,aL w1 W->W.cell? ⟨3,0,O⟩=M (jX (ps 3))/\H K 81 #[.string ⟨#[105,116,115,32,99,114,99]⟩,jX (ps 3)] W fun e w'=> ∃t b0,e=G (.iface t (U (M b0)))/\nX w' ps 1 (.iface t (U (M b0))) 11/\aL w1 w'):=fun W hW=>by
   refine⟨(yU.out.aN hW).Ep.cell (by omega),?_⟩;have he:nX W ps 0 (jX (ps 3)) 11:=Or.inr ⟨0,3,Nat.le_refl _,by omega,rfl,rfl⟩;refine(Nv he).mono ?_;rintro e w' ⟨v',rfl,h1,h2⟩;obtain⟨t,b0,rfl⟩:=h1.yes (by omega);exact⟨t,b0,rfl,h1,hW.then h2⟩
  unfold jX at HAT;clear hu HRW;go_enter Tryz.func123,Tryz.ntmps123
  go_upto_region 1 with fail
  rw[<-jJ];clear jJ
  go_upto_region 3 with(go_at_call 181;refine hU.mono ?_;rintro e w2 ⟨rfl,q,hq⟩;have kJ:aL w1 w2:=(by rw[hq];exact aZ (aL.refl w1) q);clear hq;obtain⟨gc,RA⟩:=HAT.out w2 kJ)
  have HN:Hid (∀W,aL w1 W->(W.cell? ⟨w.heap.size,0,O⟩=M (I V 0)/\W.cell? ⟨w.heap.size,1,O⟩=M (I V 0)/\W.cell? ⟨w.heap.size,2,O⟩=M (Z O 0 0)/\W.cell? ⟨w.heap.size,3,O⟩=M (Z O 0 0)/\W.cell? ⟨w.heap.size,4,O⟩=M (Z O 0 0))/\∀j,W.frozen? ⟨w.heap.size,j,O⟩=false):=fun W hW=>wZ ((hW.block _ (aM Xv.out)).trans Xv.out)
  go_wp2_with (go_at_call 81;refine RA.mono ?_;rintro e w3 ⟨t,b0,rfl,he3,yE⟩;obtain⟨⟨y0,y1,y2,y3,y4⟩,yf⟩:=HN.out w3 yE)
  refine bodyPost_ret (v:= .tuple #[I V 0,.agg #[I V 0,I V 0,Z O 0 0,Z O 0 0,Z O 0 0],.iface t (U (M b0))]) (by simp[results,Tryz.results123,go_sem, *]) rfl ?_;rw[HE.out];have sZ:=(yE.block _ (aM Xv.out)).trans Xv.out;exact⟨⟨t,b0,rfl,he3.fr (uT w3 w.heap.size _ _ _ _ _) (fun b aS hb e=>bB hb sZ (by decide) e) (fun b aS hb e=>bB hb sZ (by decide) e)⟩,bZ (HW1.out.then yE) (Nat.le_refl _) _ _ _ _ _⟩
 |some body=>
  have IB:body=l.take (l.length-4)/\4<=l.length:=by
   unfold jL at hu;split at hu
   ·cases hu
   ·split at hu
    ·cases hu;exact⟨rfl,by omega⟩
    ·cases hu
  have Pt:body.length<=cap:=by rw[IB.1,List.length_take];omega
  rw[hu]at hU;unfold zL at hU;simp only at hU
  have HRG:Hid (∀W,aL w1 W->tZ (W.alloc (C #[Z (M ⟨b,off,O⟩) body.length cap,I V 0,.nilIface] 266)) W.heap.size body 0/\Gl (W.alloc (C #[Z (M ⟨b,off,O⟩) body.length cap,I V 0,.nilIface] 266)) ps/\aL w1 (W.alloc (C #[Z (M ⟨b,off,O⟩) body.length cap,I V 0,.nilIface] 266))):=fun W hW=>by
   have hg:=hW.alloc (C #[Z (M ⟨b,off,O⟩) body.length cap,I V 0,.nilIface] 266);obtain⟨hr,aS,f,ht⟩:=HRW.out;refine⟨⟨b,off,cap,heap_alloc_new W _,Pt,?_,aS,f,(hg.block _ (aM ht)).trans ht⟩,yU.out.aN hg,hg⟩;have hk:=(hr.aN hg).take (l.length-4);rw[<-IB.1]at hk;exact hk
  have Te:Hid (yB l buf=rck3 (aU 0 buf (aU 0 1000000000 (aU 1 999 (sP 75 (M body))).2).2).1 (aU 0 buf (aU 0 1000000000 (aU 1 999 (sP 75 (M body))).2).2).2 (aU 1 999 (sP 75 (M body))).1 (aU 0 1000000000 (aU 1 999 (sP 75 (M body))).2).1):=by
   show _=_;unfold yB;rw[hu];rfl
  clear hu IB Pt HRW yU;generalize IC:sP 75 (M body)=s0 at*;have bbd:=xU 0 buf (aU 0 1000000000 (aU 1 999 s0).2).2;have bhi:=Qd (lo:=0) (hi:=buf) Eo (aU 0 1000000000 (aU 1 999 s0).2).2;have HN1:Hid (∀W g,dU W g s0 0 ps->Gl W ps->H K 183 #[U (M ⟨g,0,O⟩),.string ⟨#[105,116,115,32,101,112,111,99,104]⟩,I V 1,I V 999] W fun e w'=>e=G (I V (aU 1 999 s0).1)/\dU w' g (aU 1 999 s0).2 0 ps/\Og W w' g):=fun W g h1 h2=>wY h1 h2
  have KN:Hid (∀W g,dU W g (aU 1 999 s0).2 0 ps->Gl W ps->H K 183 #[U (M ⟨g,0,O⟩),.string ⟨#[105,116,115,32,68,111,110,101]⟩,I V 0,I V 1000000000] W fun e w'=>e=G (I V (aU 0 1000000000 (aU 1 999 s0).2).1)/\dU w' g (aU 0 1000000000 (aU 1 999 s0).2).2 0 ps/\Og W w' g):=fun W g h1 h2=>wY h1 h2
  have HN3:Hid (∀W g,dU W g (aU 0 1000000000 (aU 1 999 s0).2).2 0 ps->Gl W ps->H K 183 #[U (M ⟨g,0,O⟩),.string ⟨#[105,116,115,32,108,101,110,103,116,104,32,111,102,32,116,104,101,32,98,117,102,102,101,114]⟩,I V 0,I V buf] W fun e w'=>e=G (I V (aU 0 buf (aU 0 1000000000 (aU 1 999 s0).2).2).1)/\dU w' g (aU 0 buf (aU 0 1000000000 (aU 1 999 s0).2).2).2 0 ps/\Og W w' g):=fun W g h1 h2=>wY h1 h2
  generalize (aU 0 buf (aU 0 1000000000 (aU 1 999 s0).2).2).2=s3 at*;generalize (aU 0 buf (aU 0 1000000000 (aU 1 999 s0).2).2).1=bf at*;generalize (aU 0 1000000000 (aU 1 999 s0).2).2=s2 at*;generalize (aU 0 1000000000 (aU 1 999 s0).2).1=dn at*;generalize (aU 1 999 s0).2=s1 at*;generalize (aU 1 999 s0).1=ep at*
  have YC:Hid (∀W g,tZ W g body 0->Gl W ps->H K 182 #[U (M ⟨g,0,O⟩),I .u8 75] W fun e w'=>e=G (.tuple #[])/\dU w' g s0 0 ps/\Og W w' g):=fun W g h1 h2=>by
   have:=VR (x:=75) h1 h2;rw[IC]at this;exact this
  clear IC;go_enter Tryz.func123,Tryz.ntmps123
  go_upto_region 1 with fail
  rw[<-jJ];clear jJ
  go_upto_region 5 with(go_at_call 181;refine hU.mono ?_;rintro e w2 ⟨rfl,q,hq⟩;have kJ:aL w1 w2:=(by rw[hq];exact aZ (aL.refl w1) q);clear hq)
  obtain⟨r3,g3,G3⟩:=HRG.out w2 kJ;obtain⟨g,YK⟩:∃g,g=w2.heap.size:=⟨_,rfl⟩
  have HGN:Hid (w.heap.size<g/\w1.heap.size<=g):=by
   have:=aM Xv.out;have:=kJ.le;exact⟨by omega,by omega⟩
  rw[<-YK]at r3 ⊢;clear YK;generalize (w2.alloc (C #[Z (M ⟨b,off,O⟩) body.length cap,I V 0,.nilIface] 266))=w3 at*
  have HSB:Hid (∀W Br Aq,dU W g Br Aq ps->W.frozen? ⟨g,1,O⟩=false):=fun W Br Aq hW=>by
   obtain⟨c,hc⟩:=hW.rX;simp[World.frozen?,hc]
  have YB:Hid (aL w1 w3):=G3;have bT:=YC.out w3 g r3 g3;have GU:Hid (∀W W' Br Aq,dU W g Br Aq ps->Gl W ps->Og W W' g->Gl W' ps):=fun W W' Br Aq h1 h2 h3=>h2.og h1 h3
  have HR3:Hid (dU w3 g (M body) 0 ps):=r3;clear r3 G3 HRG YC kJ hU
  go_upto_region 9 with(first
   |(go_at_call 182;refine bT.mono ?_;clear bT;rintro e w4 ⟨rfl,r4,o4⟩;have g4:=GU.out _ _ _ _ HR3.out g3 o4;have Ul:=HN1.out w4 g r4 g4)
   |(go_at_call 183;refine Ul.mono ?_;clear Ul;rintro e w5 ⟨rfl,r5,o5⟩;have g5:=GU.out _ _ _ _ r4 g4 o5;have Um:=KN.out w5 g r5 g5)
   |(go_at_call 183;refine Um.mono ?_;clear Um;rintro e w6 ⟨rfl,r6,o6⟩;have g6:=GU.out _ _ _ _ r5 g5 o6;have Qo:=HN3.out w6 g r6 g6)
   |(go_at_call 183;refine Qo.mono ?_;clear Qo;rintro e w7 ⟨rfl,r7,o7⟩;have g7:=GU.out _ _ _ _ r6 g6 o7;have cb7:=r7.bf;have cf7:=HSB.out w7 _ _ r7))
  obtain⟨r8,o8⟩:=r7.setbf bf;have hO8:Og w3 (w7.setCell ⟨g,1,O⟩ (I V bf)) g:=(((o4.trans o5).trans o6).trans o7).trans o8;have g8:=GU.out _ _ _ _ r7 g7 o8;have G8:Hid (aL w1 (w7.setCell ⟨g,1,O⟩ (I V bf))):=Cv YB.out hO8 HGN.out.2;clear r4 r5 r6 r7 o4 o5 o6 o7 o8 g3 g4 g5 g6 g7 cb7 cf7 HN1 KN HN3 GU HR3 YB hO8 HSB;generalize (w7.setCell ⟨g,1,O⟩ (I V bf))=w8 at*
  have HPC:Hid (∀W,aL w8 W->H K 184 #[U (M ⟨g,0,O⟩)] W fun e w'=> ∃x1 x2 x3,e=G (Z x1 x2 x3)/\bL w' (x1,x2,x3) (aR bf s3).1/\dU w' g (aR bf s3).2 bf ps/\Gl w' ps/\aL w1 w'/\Xx W w'):=fun W hW=>(Tc (r8.aN hW) (g8.aN hW) bbd.1 (by omega)).mono (by
   rintro e w' ⟨x1,x2,x3,a,b,c,d⟩;exact⟨x1,x2,x3,a,b,c,(g8.aN hW).og (r8.aN hW) d,Cv (G8.out.then hW) d HGN.out.2,Xx.og (r8.aN hW) d⟩)
  have HED:Hid (∀W Br x1 x2 x3,dU W g Br bf ps->Gl W ps->aL w1 W->bL W (x1,x2,x3) (aR bf s3).1->∀W',aL W W'->H K 185 #[U (M ⟨g,0,O⟩)] W' fun e w'=> ∃u1 u2 u3,e=G (Z u1 u2 u3)/\dY w' (u1,u2,u3) (aY bf Br).1/\dU w' g (aY bf Br).2 bf ps/\Gl w' ps/\aL w1 w'/\Xx W' w'/\bL w' (x1,x2,x3) (aR bf s3).1/\∀y l,dY W y l->dY w' y l):=fun W Br x1 x2 x3 hr Bp hg hx W' hW=>(VT (hr.aN hW) (Bp.aN hW) bbd.1 (by omega)).mono (by
   rintro e w' ⟨u1,u2,u3,a,b,c,d⟩;exact⟨u1,u2,u3,a,b,c,(Bp.aN hW).og (hr.aN hW) d,Cv (hg.then hW) d HGN.out.2,Xx.og (hr.aN hW) d,(hx.aN hW).rg (hr.aN hW) d,fun y l hy=>(hy.aN hW).rg (hr.aN hW) d⟩)
  have cb8:=r8.bf;have cb8d:w8.drew.cell? ⟨g,1,O⟩=M (I V bf):=cb8;have R8:Hid (∀W,aL w8 W->dU W g s3 bf ps):=fun W hW=>r8.aN hW
  clear r8 g8
  go_cut [12] (fun p wc=> ∃(sb:Nat) (x u r:bS),p=U (M ⟨sb,0,O⟩)/\Hid (Vh w1 wc g sb (aY bf (aY bf (aR bf s3).2).2).2 dn bf ps x u r (aR bf s3).1 (aY bf (aR bf s3).2).1 (aY bf (aY bf (aR bf s3).2).2).1))
  case first=>
   go_region_held3 (fun w'=>w'.cell? ⟨g,1,O⟩=M (I V bf))
    (first|(with_reducible exact cb8)|(with_reducible exact cb8d)|(with_reducible exact r9.bf)|(with_reducible exact r10.bf)|(with_reducible exact r11.bf)|(refine dU.bf (R8.out _ ?_);with_reducible (exact aL.drew (aL.alloc (aL.refl _) _)))|(refine dU.bf (dU.aN r9 ?_);with_reducible (exact aL.alloc (aL.refl _) _))|(refine dU.bf (dU.aN r10 ?_);with_reducible (exact aL.alloc (aL.refl _) _))|(refine dU.bf (dU.aN r11 ?_);with_reducible (exact aL.alloc (aL.refl _) _))|(with_reducible exact(dU.st5 r11 zh.out _ _ _ _ _).bf))
    (first
     |(go_at_call 184;refine(HPC.out _ (by repeat (first|exact aL.refl _|refine aL.alloc ?_ _|refine aL.drew ?_))).mono ?_;clear HPC;rintro e w9 ⟨x1,x2,x3,rfl,lx9,r9,g9,G9,k9⟩;have CU:=HED.out w9 _ x1 x2 x3 r9 g9 G9 lx9)|(go_at_call 185;refine(CU _ (by repeat (first|exact aL.refl _|refine aL.alloc ?_ _|refine aL.drew ?_))).mono ?_;clear CU;rintro e Ow ⟨u1,u2,u3,rfl,lu10,r10,g10,G10,k10,lx10,-⟩;have he2:=HED.out Ow _ x1 x2 x3 r10 g10 G10 lx10)|(go_at_call 185;refine(he2 _ (by repeat (first|exact aL.refl _|refine aL.alloc ?_ _|refine aL.drew ?_))).mono ?_;clear he2;rintro e w11 ⟨v1,v2,v3,rfl,lr11,r11,g11,G11,k11,lx11,kk11⟩;first|(refine Zw (k11 _ _ (k10 _ _ (k9 _ _ (heap_alloc_new w8 _)))) ?_;intro z0 z1 z2 z3 z4 zf zh)|(refine Zw (k11 _ _ (k10 _ _ (heap_alloc_new w9 _))) ?_;intro z0 z1 z2 z3 z4 zf zh)|(refine Zw (k11 _ _ (heap_alloc_new Ow _)) ?_;intro z0 z1 z2 z3 z4 zf zh)|skip))
   all_goals have hlu:=kk11 _ _ lu10
   ·have ga:=(aL.refl w11).alloc (C #[I V dn,I V bf,Z x1 x2 x3,Z u1 u2 u3,Z v1 v2 v3] 105);have HF:Hid (Vh w1 (w11.alloc (C #[I V dn,I V bf,Z x1 x2 x3,Z u1 u2 u3,Z v1 v2 v3] 105)) g w11.heap.size (aY bf (aY bf (aR bf s3).2).2).2 dn bf ps (x1,x2,x3) (u1,u2,u3) (v1,v2,v3) (aR bf s3).1 (aY bf (aR bf s3).2).1 (aY bf (aY bf (aR bf s3).2).2).1):=Vh.mk (r11.aN ga) (g11.aN ga) (G11.then ga) (heap_alloc_new w11 _) (lx11.aN ga) (hlu.aN ga) (lr11.aN ga) G11.le;clear ga
    go_wp2_with fail
    go_meet;exact⟨_,_,_,_,rfl,HF⟩
   ·have HF:Hid (Vh w1 (((((w11.setCell ⟨Ow.heap.size,0,O⟩ (I V dn)).setCell ⟨Ow.heap.size,1,O⟩ (I V bf)).setCell ⟨Ow.heap.size,2,O⟩ (Z x1 x2 x3)).setCell ⟨Ow.heap.size,3,O⟩ (Z u1 u2 u3)).setCell ⟨Ow.heap.size,4,O⟩ (Z v1 v2 v3)) g Ow.heap.size (aY bf (aY bf (aR bf s3).2).2).2 dn bf ps (x1,x2,x3) (u1,u2,u3) (v1,v2,v3) (aR bf s3).1 (aY bf (aR bf s3).2).1 (aY bf (aY bf (aR bf s3).2).2).1):=Vh.st5 (x:=(x1,x2,x3)) (u:=(u1,u2,u3)) (r:=(v1,v2,v3)) zh.out G10.le r11 g11 G11 lx11 hlu lr11;clear z0 z1 z2 z3 z4 zf
    go_wp2_with fail
    go_meet;exact⟨_,_,_,_,rfl,HF⟩
   ·have HF:Hid (Vh w1 (((((w11.setCell ⟨w9.heap.size,0,O⟩ (I V dn)).setCell ⟨w9.heap.size,1,O⟩ (I V bf)).setCell ⟨w9.heap.size,2,O⟩ (Z x1 x2 x3)).setCell ⟨w9.heap.size,3,O⟩ (Z u1 u2 u3)).setCell ⟨w9.heap.size,4,O⟩ (Z v1 v2 v3)) g w9.heap.size (aY bf (aY bf (aR bf s3).2).2).2 dn bf ps (x1,x2,x3) (u1,u2,u3) (v1,v2,v3) (aR bf s3).1 (aY bf (aR bf s3).2).1 (aY bf (aY bf (aR bf s3).2).2).1):=Vh.st5 (x:=(x1,x2,x3)) (u:=(u1,u2,u3)) (r:=(v1,v2,v3)) zh.out G9.le r11 g11 G11 lx11 hlu lr11;clear z0 z1 z2 z3 z4 zf
    go_wp2_with fail
    go_meet;exact⟨_,_,_,_,rfl,HF⟩
   ·have HF:Hid (Vh w1 (((((w11.setCell ⟨w8.heap.size,0,O⟩ (I V dn)).setCell ⟨w8.heap.size,1,O⟩ (I V bf)).setCell ⟨w8.heap.size,2,O⟩ (Z x1 x2 x3)).setCell ⟨w8.heap.size,3,O⟩ (Z u1 u2 u3)).setCell ⟨w8.heap.size,4,O⟩ (Z v1 v2 v3)) g w8.heap.size (aY bf (aY bf (aR bf s3).2).2).2 dn bf ps (x1,x2,x3) (u1,u2,u3) (v1,v2,v3) (aR bf s3).1 (aY bf (aR bf s3).2).1 (aY bf (aY bf (aR bf s3).2).2).1):=Vh.st5 (x:=(x1,x2,x3)) (u:=(u1,u2,u3)) (r:=(v1,v2,v3)) zh.out G8.out.le r11 g11 G11 lx11 hlu lr11;clear z0 z1 z2 z3 z4 zf
    go_wp2_with fail
    go_meet;exact⟨_,_,_,_,rfl,HF⟩
  case rest=>
   obtain⟨sb,⟨x1,x2,x3⟩,⟨u1,u2,u3⟩,⟨v1,v2,v3⟩,rfl,HC⟩:=hcut
   rename F=>w12
   have D_:Hid (∀W y1 y2 y3,dY W (y1,y2,y3) ((aY bf (aR bf s3).2).1.map Bc)->H K 188 #[I V (sz (aR bf s3).1),Z y1 y2 y3] W fun e w'=>e=G (.bool (pE (sz (aR bf s3).1) ((aY bf (aR bf s3).2).1.map Bc)))/\aL W w'):=fun W y1 y2 y3 hy=>by
    have hp:=rU (bf:=bf) (by omega) s3;have he:=zB (bf:=bf) (by omega) (aR bf s3).2;cases hs:(aR bf s3).2 with
    |none=>
     rw[hs,Cu]at hy;have e:pE (sz (aR bf s3).1) (List.map Bc (aY bf O).1)=true:=rfl;rw[e];exact GX (x:=(y1,y2,y3)) hy
    |some lq=>
     rw[hs]at hy he
     exact RO (x:=(y1,y2,y3)) hy (by simp;omega) (qN hp.1) (hp.2.2 _ hs) (fun e hm=>by
      obtain⟨e0,h0,rfl⟩:=List.mem_map.1 hm;obtain⟨-,q1,q2,q3,q4⟩:=he.1 e0 h0;exact⟨q2,q1,q4,q3⟩)
   have HF2:Hid (∀W,dY W (v1,v2,v3) (aY bf (aY bf (aR bf s3).2).2).1->H K 188 #[I V (sz (aR bf s3).1),Z v1 v2 v3] W fun e w'=>e=G (.bool (pE (sz (aR bf s3).1) (aY bf (aY bf (aR bf s3).2).2).1))/\aL W w'):=fun W hy=>by
    have hp:=rU (bf:=bf) (by omega) s3;have he:=zB (bf:=bf) (by omega) (aY bf (aR bf s3).2).2;cases hs:(aR bf s3).2 with
    |none=>
     rw[hs,Cu]at hy;have e:pE (sz (aR bf s3).1) (aY bf (aY bf O).2).1=true:=rfl;rw[e];exact GX (x:=(v1,v2,v3)) hy
    |some lq=>
     rw[hs]at hy he;exact RO (x:=(v1,v2,v3)) hy (by omega) (qN hp.1) (hp.2.2 _ hs) (fun e hm=>(he.1 e hm).2)
   have HBY:Hid (∀W,bL W (x1,x2,x3) (aR bf s3).1->H K 187 #[Z x1 x2 x3] W fun e w'=>e=G (I V (sz (aR bf s3).1))/\aL W w'):=fun W hW=>by
    have hp:=rU (bf:=bf) (by omega) s3;exact vK (x:=(x1,x2,x3)) hW hp.1 (by omega)
   have HTU:Hid (∀W,dY W (u1,u2,u3) (aY bf (aR bf s3).2).1->H K 189 #[Z u1 u2 u3] W fun e w'=> ∃y1 y2 y3,e=G (Z y1 y2 y3)/\dY w' (y1,y2,y3) ((aY bf (aR bf s3).2).1.map Bc)/\aL W w'):=fun W hW=>by
    have he:=zB (bf:=bf) (by omega) (aR bf s3).2;exact NI (x:=(u1,u2,u3)) hW (by omega)
   have HCK3:Hid (yB l buf=match iG (pE (sz (aR bf s3).1) (aY bf (aY bf (aR bf s3).2).2).1) (iG (pE (sz (aR bf s3).1) ((aY bf (aR bf s3).2).1.map Bc)) (iG ((aY bf (aY bf (aR bf s3).2).2).2==M []) (aY bf (aY bf (aR bf s3).2).2).2))with
    |none=>O
    |some _=>M (ep,((aR bf s3).1,(aY bf (aR bf s3).2).1,(aY bf (aY bf (aR bf s3).2).2).1,dn,bf))):=Te.out
   generalize (aY bf (aY bf (aR bf s3).2).2).2=sr at*;generalize (aY bf (aY bf (aR bf s3).2).2).1=rl at*;generalize (aY bf (aR bf s3).2).1=ul at*;generalize (aR bf s3).1=t at*
   have HAS:Hid (∀W Br (sx:ByteArray) (right:Bool),Vh w1 W g sb Br dn bf ps (x1,x2,x3) (u1,u2,u3) (v1,v2,v3) t ul rl->H K 186 #[U (M ⟨g,0,O⟩),.string sx,.bool right] W fun e w'=>e=G (.tuple #[])/\Vh w1 w' g sb (iG right Br) dn bf ps (x1,x2,x3) (u1,u2,u3) (v1,v2,v3) t ul rl):=fun W Br sx right hW=>(Gu hW.rg hW.gl).mono (by
    rintro e w' ⟨a,b,c⟩;exact⟨a,hW.ask HGN.out.2 b c⟩)
   obtain⟨nao,nn,nc,cn,hnn⟩:=HC.out.rg.rest;have ha1:=HAS.out w12 sr ⟨#[105,116,115,32,101,110,100]⟩ ((nn:Int)==0) HC.out;rw[uh hnn]at ha1;clear hnn Te HPC HED R8 cb8 cb8d HC G8;generalize Aw:pE (sz t) (ul.map Bc)=f1 at*;generalize KJ:pE (sz t) rl=f2 at*;generalize qA:iG (sr==M []) sr=q1 at*;generalize sz t=zt at*;clear Aw KJ qA
   go_upto_region 11 with(go_at_call 186;refine ha1.mono ?_;rintro e w13 ⟨rfl,c13⟩)
   clear ha1 cn;obtain⟨-,-,k2,-,-⟩:=c13.cells;have Oi:=HBY.out w13 c13.lx;simp only[bS.v]at k2;clear HBY
   go_upto_region 12 with(go_at_call 187;refine Oi.mono ?_;rintro e w14 ⟨rfl,hg14⟩)
   have c14:=c13.aN hg14;obtain⟨-,-,-,k3,-⟩:=c14.cells;simp only[bS.v]at k3;have htu:=HTU.out w14 c14.lu;clear Oi k2 HTU c13 hg14
   go_upto_region 13 with(first
    |(go_at_call 189;refine htu.mono ?_;clear htu;rintro e w15 ⟨y1,y2,y3,rfl,ey15,hg15⟩;have c15:=c14.aN hg15;have Aw:=D_.out w15 y1 y2 y3 ey15)
    |(go_at_call 188;refine Aw.mono ?_;clear Aw;rintro e w16 ⟨rfl,hg16⟩;have c16:=c15.aN hg16;have ZL:=HAS.out w16 q1 ⟨#[105,116,115,32,101,100,105,116,115,32,116,104,97,116,32,99,97,110,32,98,101,32,117,110,100,111,110,101]⟩ f1 c16)
    |(go_at_call 186;refine ZL.mono ?_;clear ZL;rintro e w17 ⟨rfl,c17⟩))
   obtain⟨-,-,-,-,k4⟩:=c17.cells;simp only[bS.v]at k4;have KJ:=HF2.out w17 c17.lr;clear k3 c14 c15 c16 hg15 hg16 ey15 D_ HF2
   go_upto_region 14 with(first
    |(go_at_call 188;refine KJ.mono ?_;clear KJ;rintro e w18 ⟨rfl,hg18⟩;have c18:=c17.aN hg18;have ha3:=HAS.out w18 (iG f1 q1) ⟨#[105,116,115,32,101,100,105,116,115,32,116,104,97,116,32,99,97,110,32,98,101,32,100,111,110,101,32,97,103,97,105,110]⟩ f2 c18)
    |(go_at_call 186;refine ha3.mono ?_;clear ha3;rintro e Us ⟨rfl,NQ⟩))
   clear k4 c17 c18 hg18 HAS;have HRZ:Hid (Us.heap[w.heap.size]?=M (C #[I V 0,I V 0,Z O 0 0,Z O 0 0,Z O 0 0] 105 (0,0))):=(NQ.gr.block _ (aM Xv.out)).trans Xv.out;obtain⟨⟨z0,z1,z2,z3,z4⟩,zf⟩:=wZ HRZ.out;cases Km:iG f2 (iG f1 q1)with
   |none=>
    rw[Km]at NQ;have HE:Hid (yB l buf=O):=by show _=_;rw[HCK3.out,Km]
    obtain⟨_,_,_,te,be,hbe,hee⟩:=NQ.rg;obtain⟨-,-,ke,-⟩:=kY hbe;have ked:Us.drew.cell? ⟨g,2,O⟩=M (.iface te (U (M be))):=ke;have HBE:Hid (Us.heap[g]?=_):=hbe;have HEL:Hid (nX Us ps 1 (.iface te (U (M be))) 11):=hee;have HNE:Hid (g≠w.heap.size):=by have:=HGN.out.1;show g≠_;omega
    have HGW:Hid (aL w Us):=HW1.out.then NQ.gr;clear hbe hee NQ HCK3 Km HGN Xv HW1 iL hl Eo fC bbd bhi
    go_upto_region 15 with fail
    go_region_held3 (fun w'=>w'.cell? ⟨g,2,O⟩=M (.iface te (U (M be)))) (first|(with_reducible exact ke)|(with_reducible exact ked)|(with_reducible exact(GY HBE.out HNE.out _ _ _ _ _).2)|(with_reducible exact(GY HBE.out HNE.out _ _ _ _ _).1)) (fail)
    all_goals go_wp2_with fail
    all_goals refine bodyPost_ret (v:= .tuple #[I V 0,.agg #[I V 0,I V 0,Z O 0 0,Z O 0 0,Z O 0 0],.iface te (U (M be))]) (by simp[results,Tryz.results123,go_sem, *]) rfl ?_
    all_goals rw[HE.out]
    all_goals have hF:=uT Us w.heap.size (I V 0) (I V 0) (Z O 0 0) (Z O 0 0) (Z O 0 0)
    all_goals have hE:=(HEL.out.fr hF (fun _ _ hb=>Td HRZ.out _ _ _ _ hb (by decide)) (fun _ _ hb=>Td HRZ.out _ _ _ _ hb (by decide))).aN (aL.drew (aL.refl _))
    all_goals have hGG:=aL.drew (bZ HGW.out (Nat.le_refl _) (I V 0) (I V 0) (Z O 0 0) (Z O 0 0) (Z O 0 0))
    all_goals exact⟨⟨te,be,rfl,hE⟩,hGG⟩
   |some lz=>
    rw[Km]at NQ;have HE:Hid (yB l buf=M (ep,(t,ul,rl,dn,bf))):=by show _=_;rw[HCK3.out,Km]
    obtain⟨_,_,_,-,-,ke,-⟩:=tZ.cells NQ.rg;have oJ:=NQ.box;have hsb:=NQ.sbn;have CZ:=aM Xv.out;obtain⟨m0,m1,m2,m3,m4⟩:=NQ.cells;simp only[bS.v]at m2 m3 m4 oJ;have md:Us.drew.cell? ⟨sb,0,O⟩=M (I V dn)/\Us.drew.cell? ⟨sb,1,O⟩=M (I V bf)/\Us.drew.cell? ⟨sb,2,O⟩=M (Z x1 x2 x3)/\Us.drew.cell? ⟨sb,3,O⟩=M (Z u1 u2 u3)/\Us.drew.cell? ⟨sb,4,O⟩=M (Z v1 v2 v3):=⟨m0,m1,m2,m3,m4⟩;have HMD:Hid (Us.drew.cell? ⟨sb,0,O⟩=M (I V dn)/\Us.drew.cell? ⟨sb,1,O⟩=M (I V bf)/\Us.drew.cell? ⟨sb,2,O⟩=M (Z x1 x2 x3)/\Us.drew.cell? ⟨sb,3,O⟩=M (Z u1 u2 u3)/\Us.drew.cell? ⟨sb,4,O⟩=M (Z v1 v2 v3)):=md;have gy:Hid (Us.heap[sb]?=_):=oJ;have HNE:Hid (sb≠w.heap.size):=by show sb≠_;omega
    have HGW:Hid (aL w Us):=HW1.out.then NQ.gr;have HLL:Hid (bL Us (x1,x2,x3) t/\dY Us (u1,u2,u3) ul/\dY Us (v1,v2,v3) rl):=⟨NQ.lx,NQ.lu,NQ.lr⟩;clear oJ NQ HCK3 Km md hsb CZ HGN Xv HW1 iL hl Eo fC bbd bhi
    go_upto_region 16 with fail
    go_region_held3 (fun w'=>w'.cell? ⟨sb,0,O⟩=M (I V dn)/\w'.cell? ⟨sb,1,O⟩=M (I V bf)/\w'.cell? ⟨sb,2,O⟩=M (Z x1 x2 x3)/\w'.cell? ⟨sb,3,O⟩=M (Z u1 u2 u3)/\w'.cell? ⟨sb,4,O⟩=M (Z v1 v2 v3)) (first|(with_reducible exact HMD.out)|(with_reducible exact⟨m0,m1,m2,m3,m4⟩)|(with_reducible exact(GZ gy.out HNE.out _ _ _ _ _).2)|(with_reducible exact(GZ gy.out HNE.out _ _ _ _ _).1)) (fail)
    all_goals go_wp2_with fail
    all_goals refine bodyPost_ret (v:= .tuple #[I V ep,.agg #[I V dn,I V bf,Z x1 x2 x3,Z u1 u2 u3,Z v1 v2 v3],.nilIface]) (by simp[results,Tryz.results123,go_sem, *]) rfl ?_
    all_goals rw[HE.out]
    all_goals have hF:=uT Us w.heap.size (I V dn) (I V bf) (Z x1 x2 x3) (Z u1 u2 u3) (Z v1 v2 v3)
    all_goals have hn:=Td HRZ.out
    all_goals have hX:=(HLL.out.1.fr hF (fun _ _ hb=>hn _ _ _ _ hb (by decide))).aN (aL.drew (aL.refl _))
    all_goals have hU:=(HLL.out.2.1.fr hF (fun _ _ hb=>hn _ _ _ _ hb (by decide)) (fun _ _ hb=>hn _ _ _ _ hb (by decide))).aN (aL.drew (aL.refl _))
    all_goals have hV:=(HLL.out.2.2.fr hF (fun _ _ hb=>hn _ _ _ _ hb (by decide)) (fun _ _ hb=>hn _ _ _ _ hb (by decide))).aN (aL.drew (aL.refl _))
    all_goals have hGG:=aL.drew (bZ HGW.out (Nat.le_refl _) (I V dn) (I V bf) (Z x1 x2 x3) (Z u1 u2 u3) (Z v1 v2 v3))
    all_goals exact⟨⟨(x1,x2,x3),(u1,u2,u3),(v1,v2,v3),rfl,hX,hU,hV⟩,hGG⟩
end Go.Proofs.YtfplgfodoiiobaaGreatDoor
