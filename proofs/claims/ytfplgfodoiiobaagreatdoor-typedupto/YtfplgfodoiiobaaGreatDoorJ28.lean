/- LgJ (joined). -/
import Derived.Test.YtfplgfodoiiobaaGreatDoorJ27
open Option renaming none→O,some→M
open Go.Value renaming int→I,slice→Z,pointer→U
open Go.IntKind renaming i64→V
open Go.Obj renaming cells→C
open Go.Ending renaming returned→G
open Go renaming World→F,Value→Y,Calls→H
open Go.Proofs.Tryz renaming prog→K
namespace Go.Proofs.YtfplgfodoiiobaaGreatDoor
set_option maxHeartbeats 1500000
set_option maxRecDepth 100000
open Go.RowKit
variable {W w w1 w':F}{g sb R:Nat}{bf dn:Int}{ps:Nat->Addr}{st:Option (List UInt8)}{a b c d e:Y}{x u r:dS}{t:List (Int×Int)}{ul rl:List Ed}
def rck3 (bf:Int)(s3:Option (List UInt8))(ep dn:Int):Option (Int×bR):=
 match fV (mM (sz (aO bf s3).1) (aV bf (aV bf (aO bf s3).2).2).1) (fV (mM (sz (aO bf s3).1) ((aV bf (aO bf s3).2).1.map xW)) (fV ((aV bf (aV bf (aO bf s3).2).2).2==M []) (aV bf (aV bf (aO bf s3).2).2).2))with
 |none=>O
 |some _=>M (ep,((aO bf s3).1,(aV bf (aO bf s3).2).1,(aV bf (aV bf (aO bf s3).2).2).1,dn,bf))
def RckV (w:F)(ps:Nat->Addr)(e:Ending):Option (Int×bR)->Prop
 |none=> ∃t b,e=G (.tuple #[I V 0,.agg #[I V 0,I V 0,Z O 0 0,Z O 0 0,Z O 0 0],.iface t (U (M b))])/\iX w ps 1 (.iface t (U (M b))) 11
 |some q=> ∃t u r:dS,e=G (.tuple #[I V q.1,AO q.2.2.2.2.1 q.2.2.2.2.2 t u r,.nilIface])/\bF w t q.2.1/\cO w u q.2.2.1/\cO w r q.2.2.2.1
theorem wZ (W:F)(g:Nat)(a b c d e:Y):Fr W (((((W.setCell ⟨g,0,O⟩ a).setCell ⟨g,1,O⟩ b).setCell ⟨g,2,O⟩ c).setCell ⟨g,3,O⟩ d).setCell ⟨g,4,O⟩ e) (fun b=>b=g):=
 ((((Fr.set W ⟨g,0,O⟩ a).trans (Fr.set _ ⟨g,1,O⟩ b)).trans (Fr.set _ ⟨g,2,O⟩ c)).trans (Fr.set _ ⟨g,3,O⟩ d)).trans (Fr.set _ ⟨g,4,O⟩ e)
theorem nY (h:W.heap[R]?=M (C #[a,b,c,d,e] 105 (0,0))):(W.cell? ⟨R,0,O⟩=M a/\W.cell? ⟨R,1,O⟩=M b/\W.cell? ⟨R,2,O⟩=M c/\W.cell? ⟨R,3,O⟩=M d/\W.cell? ⟨R,4,O⟩=M e)/\∀j,W.frozen? ⟨R,j,O⟩=false:=
 ⟨by simp[World.cell?,h],fun j=>by simp[World.frozen?,h]⟩
theorem zB {wk wk':F}(h:aK w wk)(ho:Og wk wk' g)(hg:w.heap.size<=g):aK w wk':=by
 obtain⟨⟨a1,a2⟩,b1,b2,b3⟩:=ho;exact⟨b1.trans h.os,b2.trans h.tape,b3.trans h.output,Nat.le_trans h.size a1,fun b hb=>(a2 b (Nat.lt_of_lt_of_le hb h.size) (by omega)).trans (h.block b hb)⟩
theorem cO.rg {l:List Ed}(h:cO w x l)(hr:dD w g st bf ps)(ho:Og w w' g):cO w' x l:=by
 obtain⟨c,hc⟩:=hr.Qy;exact h.fr ho.1 (fun b aQ hb=>aW hb hc (by decide)) (fun b aQ hb=>aW hb hc (by decide))
theorem dD.fr {X:Nat->Prop}(h:dD w g st bf ps)(hF:Fr w w' X)(hX:∀(b:Nat) (aQ:Array Y) (t:TypeId) (f:Nat×Nat),w.heap[b]?=M (C aQ t f)->t≠105->¬X b):dD w' g st bf ps:=by
 cases st with
 |some l=>
  obtain⟨b,off,c,hb,hc,hr,aQ,f,ht⟩:=h;exact⟨b,off,c,hF.at hb (hX _ _ _ _ hb (by decide)),hc,hr.fr hF (fun a e=>by cases e;exact hX _ _ _ _ ht (by decide)),aQ,f,hF.at ht (hX _ _ _ _ ht (by decide))⟩
 |none=>
  obtain⟨ao,n,c,t,b,hb,he⟩:=h;exact⟨ao,n,c,t,b,hF.at hb (hX _ _ _ _ hb (by decide)),he.fr hF (fun b aQ mF=>hX _ _ _ _ mF (by decide)) (fun b aQ mF=>hX _ _ _ _ mF (by decide))⟩
theorem Ob {aQ:Array Y}(hz:w.heap[sb]?=M (C aQ 105 (0,0))):∀(b:Nat) (aQ:Array Y) (t:TypeId) (f:Nat×Nat),w.heap[b]?=M (C aQ t f)->t≠105->¬b=sb:=fun _ _ _ _ hb ht=>aW hb hz ht
theorem dD.yh {aQ:Array Y}(h:dD w g st bf ps)(hz:w.heap[sb]?=M (C aQ 105 (0,0)))(a b c d e:Y):dD (((((w.setCell ⟨sb,0,O⟩ a).setCell ⟨sb,1,O⟩ b).setCell ⟨sb,2,O⟩ c).setCell ⟨sb,3,O⟩ d).setCell ⟨sb,4,O⟩ e) g st bf ps:=h.fr (wZ w sb a b c d e) (Ob hz)
def Ti (W w':F):Prop:=∀(b:Nat) (aQ:Array Y),W.heap[b]?=M (C aQ 105 (0,0))->w'.heap[b]?=M (C aQ 105 (0,0))
theorem Ti.og (h:dD W g st bf ps)(ho:Og W w' g):Ti W w':=fun b aQ hb=>by
 obtain⟨c,hc⟩:=h.Qy;exact ho.1.at hb (fun e=>aW hb hc (by decide) e)
theorem Vl {P:Prop}(h:W.heap[R]?=M (C #[a,b,c,d,e] 105 (0,0)))(k:W.cell? ⟨R,0,O⟩=M a->W.cell? ⟨R,1,O⟩=M b->W.cell? ⟨R,2,O⟩=M c->W.cell? ⟨R,3,O⟩=M d->W.cell? ⟨R,4,O⟩=M e->(∀j,W.frozen? ⟨R,j,O⟩=false)->Hid (W.heap[R]?=M (C #[a,b,c,d,e] 105 (0,0)))->P):P:=by
 obtain⟨⟨a,b,c,d,e⟩,f⟩:=nY h;exact k a b c d e f h
theorem yu (h:W.heap[R]?=M (C #[a,b,c,d,e] 105 (0,0)))(a' b' c' d' e':Y):(((((W.setCell ⟨R,0,O⟩ a').setCell ⟨R,1,O⟩ b').setCell ⟨R,2,O⟩ c').setCell ⟨R,3,O⟩ d').setCell ⟨R,4,O⟩ e').heap[R]?=M (C #[a',b',c',d',e'] 105 (0,0)):=by
 have h0:(W.setCell ⟨R,0,O⟩ a').heap[R]?=M (C #[a',b,c,d,e] 105 (0,0)):=by rw[heap_setCell_same W R 0 _ _ _ h];rfl
 have h1:((W.setCell ⟨R,0,O⟩ a').setCell ⟨R,1,O⟩ b').heap[R]?=M (C #[a',b',c,d,e] 105 (0,0)):=by rw[heap_setCell_same _ R 1 _ _ _ h0];rfl
 have h2:(((W.setCell ⟨R,0,O⟩ a').setCell ⟨R,1,O⟩ b').setCell ⟨R,2,O⟩ c').heap[R]?=M (C #[a',b',c',d,e] 105 (0,0)):=by rw[heap_setCell_same _ R 2 _ _ _ h1];rfl
 have h3:((((W.setCell ⟨R,0,O⟩ a').setCell ⟨R,1,O⟩ b').setCell ⟨R,2,O⟩ c').setCell ⟨R,3,O⟩ d').heap[R]?=M (C #[a',b',c',d',e] 105 (0,0)):=by rw[heap_setCell_same _ R 3 _ _ _ h2];rfl
 rw[heap_setCell_same _ R 4 _ _ _ h3];rfl
structure Qz (w1 W:F)(g sb:Nat)(st:Option (List UInt8))(dn bf:Int)(ps:Nat->Addr)(x u r:dS)(t:List (Int×Int))(ul rl:List Ed):Prop where
 rg:dD W g st bf ps
 gl:Gl W ps
 gr:aK w1 W
 box:W.heap[sb]?=M (C #[I V dn,I V bf,x.v,u.v,r.v] 105 (0,0))
 lx:bF W x t
 lu:cO W u ul
 lr:cO W r rl
 sbn:w1.heap.size<=sb
theorem Qz.aM {W':F}(h:Qz w1 W g sb st dn bf ps x u r t ul rl)(hg:aK W W'):Qz w1 W' g sb st dn bf ps x u r t ul rl:=
 ⟨h.rg.aM hg,h.gl.aM hg,h.gr.then hg,(hg.block _ (aL h.box)).trans h.box,h.lx.aM hg,h.lu.aM hg,h.lr.aM hg,h.sbn⟩
theorem Qz.ask {W':F}{yG:Option (List UInt8)}(h:Qz w1 W g sb st dn bf ps x u r t ul rl)(hg:w1.heap.size<=g)(hr:dD W' g yG bf ps)(ho:Og W W' g):Qz w1 W' g sb yG dn bf ps x u r t ul rl:=by
 obtain⟨c,hc⟩:=h.rg.Qy;exact⟨hr,h.gl.og h.rg ho,zB h.gr ho hg,ho.1.at h.box (fun e=>aW h.box hc (by decide) e),h.lx.rg h.rg ho,h.lu.rg h.rg ho,h.lr.rg h.rg ho,h.sbn⟩
theorem Qz.cells (h:Qz w1 W g sb st dn bf ps x u r t ul rl):W.cell? ⟨sb,0,O⟩=M (I V dn)/\W.cell? ⟨sb,1,O⟩=M (I V bf)/\W.cell? ⟨sb,2,O⟩=M x.v/\W.cell? ⟨sb,3,O⟩=M u.v/\W.cell? ⟨sb,4,O⟩=M r.v:=(nY h.box).1
theorem Qz.yh (hz:W.heap[sb]?=M (C #[a,b,c,d,e] 105 (0,0)))(hs:w1.heap.size<=sb)(hr:dD W g st bf ps)(hg:Gl W ps)(hG:aK w1 W)(hx:bF W x t)(hu:cO W u ul)(hv:cO W r rl):Qz w1 (((((W.setCell ⟨sb,0,O⟩ (I V dn)).setCell ⟨sb,1,O⟩ (I V bf)).setCell ⟨sb,2,O⟩ x.v).setCell ⟨sb,3,O⟩ u.v).setCell ⟨sb,4,O⟩ r.v) g sb st dn bf ps x u r t ul rl:=by
 have hF:=wZ W sb (I V dn) (I V bf) x.v u.v r.v;have hn:=Ob hz;exact⟨hr.yh hz _ _ _ _ _,hg.fr hF (fun _ _ hb=>hn _ _ _ _ hb (by decide)) (fun _ _ _ g hb=>hn _ _ _ _ hb (g.ne (by decide))) (fun _ _ hb=>hn _ _ _ _ hb (by decide)) (fun _ _ hb=>hn _ _ _ _ hb (by decide)),kW hG hs _ _ _ _ _,yu hz _ _ _ _ _,hx.fr hF (fun _ _ hb=>hn _ _ _ _ hb (by decide)),hu.fr hF (fun _ _ hb=>hn _ _ _ _ hb (by decide)) (fun _ _ hb=>hn _ _ _ _ hb (by decide)),hv.fr hF (fun _ _ hb=>hn _ _ _ _ hb (by decide)) (fun _ _ hb=>hn _ _ _ _ hb (by decide)),hs⟩
theorem BH {ao:Option Addr}{n c:Nat}{ev:Y}(h:W.heap[g]?=M (rgB ao n c bf ev))(hne:g≠R)(a' b' c' d' e':Y):(((((W.setCell ⟨R,0,O⟩ a').setCell ⟨R,1,O⟩ b').setCell ⟨R,2,O⟩ c').setCell ⟨R,3,O⟩ d').setCell ⟨R,4,O⟩ e').cell? ⟨g,2,O⟩=M ev/\(World.drew (((((W.setCell ⟨R,0,O⟩ a').setCell ⟨R,1,O⟩ b').setCell ⟨R,2,O⟩ c').setCell ⟨R,3,O⟩ d').setCell ⟨R,4,O⟩ e')).cell? ⟨g,2,O⟩=M ev:=by
 have h1:=(wZ W R a' b' c' d' e').at h hne;generalize (((((W.setCell ⟨R,0,O⟩ a').setCell ⟨R,1,O⟩ b').setCell ⟨R,2,O⟩ c').setCell ⟨R,3,O⟩ d').setCell ⟨R,4,O⟩ e')=aI at*;have h2:aI.drew.heap[g]?=M (rgB ao n c bf ev):=h1;exact⟨(jF h1).2.2.1,(jF h2).2.2.1⟩
theorem BI (h:W.heap[sb]?=M (C #[a,b,c,d,e] 105 (0,0)))(hne:sb≠R)(a' b' c' d' e':Y):((((((W.setCell ⟨R,0,O⟩ a').setCell ⟨R,1,O⟩ b').setCell ⟨R,2,O⟩ c').setCell ⟨R,3,O⟩ d').setCell ⟨R,4,O⟩ e').cell? ⟨sb,0,O⟩=M a/\(((((W.setCell ⟨R,0,O⟩ a').setCell ⟨R,1,O⟩ b').setCell ⟨R,2,O⟩ c').setCell ⟨R,3,O⟩ d').setCell ⟨R,4,O⟩ e').cell? ⟨sb,1,O⟩=M b/\(((((W.setCell ⟨R,0,O⟩ a').setCell ⟨R,1,O⟩ b').setCell ⟨R,2,O⟩ c').setCell ⟨R,3,O⟩ d').setCell ⟨R,4,O⟩ e').cell? ⟨sb,2,O⟩=M c/\(((((W.setCell ⟨R,0,O⟩ a').setCell ⟨R,1,O⟩ b').setCell ⟨R,2,O⟩ c').setCell ⟨R,3,O⟩ d').setCell ⟨R,4,O⟩ e').cell? ⟨sb,3,O⟩=M d/\(((((W.setCell ⟨R,0,O⟩ a').setCell ⟨R,1,O⟩ b').setCell ⟨R,2,O⟩ c').setCell ⟨R,3,O⟩ d').setCell ⟨R,4,O⟩ e').cell? ⟨sb,4,O⟩=M e)/\((World.drew (((((W.setCell ⟨R,0,O⟩ a').setCell ⟨R,1,O⟩ b').setCell ⟨R,2,O⟩ c').setCell ⟨R,3,O⟩ d').setCell ⟨R,4,O⟩ e')).cell? ⟨sb,0,O⟩=M a/\(World.drew (((((W.setCell ⟨R,0,O⟩ a').setCell ⟨R,1,O⟩ b').setCell ⟨R,2,O⟩ c').setCell ⟨R,3,O⟩ d').setCell ⟨R,4,O⟩ e')).cell? ⟨sb,1,O⟩=M b/\(World.drew (((((W.setCell ⟨R,0,O⟩ a').setCell ⟨R,1,O⟩ b').setCell ⟨R,2,O⟩ c').setCell ⟨R,3,O⟩ d').setCell ⟨R,4,O⟩ e')).cell? ⟨sb,2,O⟩=M c/\(World.drew (((((W.setCell ⟨R,0,O⟩ a').setCell ⟨R,1,O⟩ b').setCell ⟨R,2,O⟩ c').setCell ⟨R,3,O⟩ d').setCell ⟨R,4,O⟩ e')).cell? ⟨sb,3,O⟩=M d/\(World.drew (((((W.setCell ⟨R,0,O⟩ a').setCell ⟨R,1,O⟩ b').setCell ⟨R,2,O⟩ c').setCell ⟨R,3,O⟩ d').setCell ⟨R,4,O⟩ e')).cell? ⟨sb,4,O⟩=M e):=by
 have h1:=(wZ W R a' b' c' d' e').at h hne;generalize (((((W.setCell ⟨R,0,O⟩ a').setCell ⟨R,1,O⟩ b').setCell ⟨R,2,O⟩ c').setCell ⟨R,3,O⟩ d').setCell ⟨R,4,O⟩ e')=aI at*;have h2:aI.drew.heap[sb]?=M (C #[a,b,c,d,e] 105 (0,0)):=h1;exact⟨(nY h1).1,(nY h2).1⟩
theorem Tj {b off cap:Nat}{l:List UInt8}{buf:Int}(h:lZ w (M ⟨b,off,O⟩) l)(ht:∃aQ f,w.heap[b]?=M (C aQ 5 f))(gG:l.length<=cap)(hl:l.length<=900000000)(hG:Gl w ps)(lG:0<=buf)(bX:buf<=1000000000):
 H K 123 #[Z (M ⟨b,off,O⟩) l.length cap,I V buf] w fun e w'=>RckV w' ps e (uQ l buf)/\aK w w':=by
 obtain⟨w1,dU⟩:∃w1,w1=w.alloc (C #[I V 0,I V 0,Z O 0 0,Z O 0 0,Z O 0 0] 105):=⟨_,rfl⟩;have hR1:w1.heap[w.heap.size]?=M (C #[I V 0,I V 0,Z O 0 0,Z O 0 0,Z O 0 0] 105 (0,0)):=by rw[dU];exact heap_alloc_new w _
 have G1:aK w w1:=by rw[dU];exact(aK.refl w).alloc _
 have hU:=Sd (cap:=cap) (h.aM G1) hl gG;have pW:Hid (Gl w1 ps):=hG.aM G1;have HW1:Hid (aK w w1):=G1;have MK:Hid (w1.heap[w.heap.size]?=M (C #[I V 0,I V 0,Z O 0 0,Z O 0 0,Z O 0 0] 105 (0,0))):=hR1
 have QT:Hid (lZ w1 (M ⟨b,off,O⟩) l/\∃aQ f,w1.heap[b]?=M (C aQ 5 f)):=by
  obtain⟨aQ,f,ht⟩:=ht;exact⟨h.aM G1,aQ,f,(G1.block _ (aL ht)).trans ht⟩
 clear hR1 G1 h ht hG;cases hu:gU l with
 |none=>
  have HE:Hid (uQ l buf=O):=by show _=_;unfold uQ;rw[hu]
  rw[hu]at hU;unfold wM at hU;simp only at hU
  have HAT:Hid (∀W,aK w1 W->W.cell? ⟨3,0,O⟩=M (gP (ps 3))/\H K 81 #[.string ⟨#[105,116,115,32,99,114,99]⟩,gP (ps 3)] W fun e w'=> ∃t b0,e=G (.iface t (U (M b0)))/\iX w' ps 1 (.iface t (U (M b0))) 11/\aK w1 w'):=fun W hW=>by
   refine⟨(pW.out.aM hW).sM.cell (by omega),?_⟩;have he:iX W ps 0 (gP (ps 3)) 11:=Or.inr ⟨0,3,Nat.le_refl _,by omega,rfl,rfl⟩;refine(Az he).mono ?_;rintro e w' ⟨v',rfl,h1,h2⟩;obtain⟨t,b0,rfl⟩:=h1.yes (by omega);exact⟨t,b0,rfl,h1,hW.then h2⟩
  unfold gP at HAT;clear hu QT;go_enter Tryz.func123,Tryz.ntmps123
  go_upto_region 1 with fail
  rw[<-dU];clear dU
  go_upto_region 3 with(go_at_call 181;refine hU.mono ?_;rintro e w2 ⟨rfl,q,hq⟩;have jA:aK w1 w2:=(by rw[hq];exact bD (aK.refl w1) q);clear hq;obtain⟨gc,Kk⟩:=HAT.out w2 jA)
  have HN:Hid (∀W,aK w1 W->(W.cell? ⟨w.heap.size,0,O⟩=M (I V 0)/\W.cell? ⟨w.heap.size,1,O⟩=M (I V 0)/\W.cell? ⟨w.heap.size,2,O⟩=M (Z O 0 0)/\W.cell? ⟨w.heap.size,3,O⟩=M (Z O 0 0)/\W.cell? ⟨w.heap.size,4,O⟩=M (Z O 0 0))/\∀j,W.frozen? ⟨w.heap.size,j,O⟩=false):=fun W hW=>nY ((hW.block _ (aL MK.out)).trans MK.out)
  go_wp2_with (go_at_call 81;refine Kk.mono ?_;rintro e w3 ⟨t,b0,rfl,he3,jI⟩;obtain⟨⟨y0,y1,y2,y3,y4⟩,yf⟩:=HN.out w3 jI)
  refine bodyPost_ret (v:= .tuple #[I V 0,.agg #[I V 0,I V 0,Z O 0 0,Z O 0 0,Z O 0 0],.iface t (U (M b0))]) (by simp[results,Tryz.results123,go_sem, *]) rfl ?_;rw[HE.out];have Bj:=(jI.block _ (aL MK.out)).trans MK.out;exact⟨⟨t,b0,rfl,he3.fr (wZ w3 w.heap.size _ _ _ _ _) (fun b aQ hb e=>aW hb Bj (by decide) e) (fun b aQ hb e=>aW hb Bj (by decide) e)⟩,kW (HW1.out.then jI) (Nat.le_refl _) _ _ _ _ _⟩
 |some body=>
  have BJ:body=l.take (l.length-4)/\4<=l.length:=by
   unfold gU at hu;split at hu
   ·cases hu
   ·split at hu
    ·cases hu;exact⟨rfl,by omega⟩
    ·cases hu
  have Xq:body.length<=cap:=by rw[BJ.1,List.length_take];omega
  rw[hu]at hU;unfold wM at hU;simp only at hU
  have HRG:Hid (∀W,aK w1 W->qG (W.alloc (C #[Z (M ⟨b,off,O⟩) body.length cap,I V 0,.nilIface] 266)) W.heap.size body 0/\Gl (W.alloc (C #[Z (M ⟨b,off,O⟩) body.length cap,I V 0,.nilIface] 266)) ps/\aK w1 (W.alloc (C #[Z (M ⟨b,off,O⟩) body.length cap,I V 0,.nilIface] 266))):=fun W hW=>by
   have hg:=hW.alloc (C #[Z (M ⟨b,off,O⟩) body.length cap,I V 0,.nilIface] 266);obtain⟨hr,aQ,f,ht⟩:=QT.out;refine⟨⟨b,off,cap,heap_alloc_new W _,Xq,?_,aQ,f,(hg.block _ (aL ht)).trans ht⟩,pW.out.aM hg,hg⟩;have hk:=(hr.aM hg).take (l.length-4);rw[<-BJ.1]at hk;exact hk
  have HCK:Hid (uQ l buf=rck3 (aP 0 buf (aP 0 1000000000 (aP 1 999 (qB 75 (M body))).2).2).1 (aP 0 buf (aP 0 1000000000 (aP 1 999 (qB 75 (M body))).2).2).2 (aP 1 999 (qB 75 (M body))).1 (aP 0 1000000000 (aP 1 999 (qB 75 (M body))).2).1):=by
   show _=_;unfold uQ;rw[hu];rfl
  clear hu BJ Xq QT pW;generalize hs0:qB 75 (M body)=s0 at*;have bbd:=uF 0 buf (aP 0 1000000000 (aP 1 999 s0).2).2;have bhi:=Kw (lo:=0) (hi:=buf) lG (aP 0 1000000000 (aP 1 999 s0).2).2;have HN1:Hid (∀W g,dD W g s0 0 ps->Gl W ps->H K 183 #[U (M ⟨g,0,O⟩),.string ⟨#[105,116,115,32,101,112,111,99,104]⟩,I V 1,I V 999] W fun e w'=>e=G (I V (aP 1 999 s0).1)/\dD w' g (aP 1 999 s0).2 0 ps/\Og W w' g):=fun W g h1 h2=>sN h1 h2
  have Qc:Hid (∀W g,dD W g (aP 1 999 s0).2 0 ps->Gl W ps->H K 183 #[U (M ⟨g,0,O⟩),.string ⟨#[105,116,115,32,68,111,110,101]⟩,I V 0,I V 1000000000] W fun e w'=>e=G (I V (aP 0 1000000000 (aP 1 999 s0).2).1)/\dD w' g (aP 0 1000000000 (aP 1 999 s0).2).2 0 ps/\Og W w' g):=fun W g h1 h2=>sN h1 h2
  have HN3:Hid (∀W g,dD W g (aP 0 1000000000 (aP 1 999 s0).2).2 0 ps->Gl W ps->H K 183 #[U (M ⟨g,0,O⟩),.string ⟨#[105,116,115,32,108,101,110,103,116,104,32,111,102,32,116,104,101,32,98,117,102,102,101,114]⟩,I V 0,I V buf] W fun e w'=>e=G (I V (aP 0 buf (aP 0 1000000000 (aP 1 999 s0).2).2).1)/\dD w' g (aP 0 buf (aP 0 1000000000 (aP 1 999 s0).2).2).2 0 ps/\Og W w' g):=fun W g h1 h2=>sN h1 h2
  generalize (aP 0 buf (aP 0 1000000000 (aP 1 999 s0).2).2).2=s3 at*;generalize (aP 0 buf (aP 0 1000000000 (aP 1 999 s0).2).2).1=bf at*;generalize (aP 0 1000000000 (aP 1 999 s0).2).2=s2 at*;generalize (aP 0 1000000000 (aP 1 999 s0).2).1=dn at*;generalize (aP 1 999 s0).2=s1 at*;generalize (aP 1 999 s0).1=ep at*
  have SX:Hid (∀W g,qG W g body 0->Gl W ps->H K 182 #[U (M ⟨g,0,O⟩),I .u8 75] W fun e w'=>e=G (.tuple #[])/\dD w' g s0 0 ps/\Og W w' g):=fun W g h1 h2=>by
   have:=QN (x:=75) h1 h2;rw[hs0]at this;exact this
  clear hs0;go_enter Tryz.func123,Tryz.ntmps123
  go_upto_region 1 with fail
  rw[<-dU];clear dU
  go_upto_region 5 with(go_at_call 181;refine hU.mono ?_;rintro e w2 ⟨rfl,q,hq⟩;have jA:aK w1 w2:=(by rw[hq];exact bD (aK.refl w1) q);clear hq)
  obtain⟨r3,g3,G3⟩:=HRG.out w2 jA;obtain⟨g,XJ⟩:∃g,g=w2.heap.size:=⟨_,rfl⟩
  have HGN:Hid (w.heap.size<g/\w1.heap.size<=g):=by
   have:=aL MK.out;have:=jA.le;exact⟨by omega,by omega⟩
  rw[<-XJ]at r3 ⊢;clear XJ;generalize (w2.alloc (C #[Z (M ⟨b,off,O⟩) body.length cap,I V 0,.nilIface] 266))=w3 at*
  have HSB:Hid (∀W yG QB,dD W g yG QB ps->W.frozen? ⟨g,1,O⟩=false):=fun W yG QB hW=>by
   obtain⟨c,hc⟩:=hW.Qy;simp[World.frozen?,hc]
  have SS:Hid (aK w1 w3):=G3;have bS:=SX.out w3 g r3 g3;have BD:Hid (∀W W' yG QB,dD W g yG QB ps->Gl W ps->Og W W' g->Gl W' ps):=fun W W' yG QB h1 h2 h3=>h2.og h1 h3
  have iT:Hid (dD w3 g (M body) 0 ps):=r3;clear r3 G3 HRG SX jA hU
  go_upto_region 9 with(first
   |(go_at_call 182;refine bS.mono ?_;clear bS;rintro e w4 ⟨rfl,r4,o4⟩;have g4:=BD.out _ _ _ _ iT.out g3 o4;have xO:=HN1.out w4 g r4 g4)
   |(go_at_call 183;refine xO.mono ?_;clear xO;rintro e w5 ⟨rfl,r5,o5⟩;have g5:=BD.out _ _ _ _ r4 g4 o5;have uY:=Qc.out w5 g r5 g5)
   |(go_at_call 183;refine uY.mono ?_;clear uY;rintro e w6 ⟨rfl,r6,o6⟩;have g6:=BD.out _ _ _ _ r5 g5 o6;have Vi:=HN3.out w6 g r6 g6)
   |(go_at_call 183;refine Vi.mono ?_;clear Vi;rintro e w7 ⟨rfl,r7,o7⟩;have g7:=BD.out _ _ _ _ r6 g6 o7;have cb7:=r7.bf;have cf7:=HSB.out w7 _ _ r7))
  obtain⟨r8,o8⟩:=r7.setbf bf;have hO8:Og w3 (w7.setCell ⟨g,1,O⟩ (I V bf)) g:=(((o4.trans o5).trans o6).trans o7).trans o8;have g8:=BD.out _ _ _ _ r7 g7 o8;have G8:Hid (aK w1 (w7.setCell ⟨g,1,O⟩ (I V bf))):=zB SS.out hO8 HGN.out.2;clear r4 r5 r6 r7 o4 o5 o6 o7 o8 g3 g4 g5 g6 g7 cb7 cf7 HN1 Qc HN3 BD iT SS hO8 HSB;generalize (w7.setCell ⟨g,1,O⟩ (I V bf))=w8 at*
  have HPC:Hid (∀W,aK w8 W->H K 184 #[U (M ⟨g,0,O⟩)] W fun e w'=> ∃x1 x2 x3,e=G (Z x1 x2 x3)/\bF w' (x1,x2,x3) (aO bf s3).1/\dD w' g (aO bf s3).2 bf ps/\Gl w' ps/\aK w1 w'/\Ti W w'):=fun W hW=>(Oa (r8.aM hW) (g8.aM hW) bbd.1 (by omega)).mono (by
   rintro e w' ⟨x1,x2,x3,a,b,c,d⟩;exact⟨x1,x2,x3,a,b,c,(g8.aM hW).og (r8.aM hW) d,zB (G8.out.then hW) d HGN.out.2,Ti.og (r8.aM hW) d⟩)
  have HED:Hid (∀W yG x1 x2 x3,dD W g yG bf ps->Gl W ps->aK w1 W->bF W (x1,x2,x3) (aO bf s3).1->∀W',aK W W'->H K 185 #[U (M ⟨g,0,O⟩)] W' fun e w'=> ∃u1 u2 u3,e=G (Z u1 u2 u3)/\cO w' (u1,u2,u3) (aV bf yG).1/\dD w' g (aV bf yG).2 bf ps/\Gl w' ps/\aK w1 w'/\Ti W' w'/\bF w' (x1,x2,x3) (aO bf s3).1/\∀y l,cO W y l->cO w' y l):=fun W yG x1 x2 x3 hr GZ hg hx W' hW=>(QS (hr.aM hW) (GZ.aM hW) bbd.1 (by omega)).mono (by
   rintro e w' ⟨u1,u2,u3,a,b,c,d⟩;exact⟨u1,u2,u3,a,b,c,(GZ.aM hW).og (hr.aM hW) d,zB (hg.then hW) d HGN.out.2,Ti.og (hr.aM hW) d,(hx.aM hW).rg (hr.aM hW) d,fun y l hy=>(hy.aM hW).rg (hr.aM hW) d⟩)
  have cb8:=r8.bf;have cb8d:w8.drew.cell? ⟨g,1,O⟩=M (I V bf):=cb8;have R8:Hid (∀W,aK w8 W->dD W g s3 bf ps):=fun W hW=>r8.aM hW
  clear r8 g8
  go_cut [12] (fun p wc=> ∃(sb:Nat) (x u r:dS),p=U (M ⟨sb,0,O⟩)/\Hid (Qz w1 wc g sb (aV bf (aV bf (aO bf s3).2).2).2 dn bf ps x u r (aO bf s3).1 (aV bf (aO bf s3).2).1 (aV bf (aV bf (aO bf s3).2).2).1))
  case first=>
   go_region_held3 (fun w'=>w'.cell? ⟨g,1,O⟩=M (I V bf))
    (first|(with_reducible exact cb8)|(with_reducible exact cb8d)|(with_reducible exact r9.bf)|(with_reducible exact r10.bf)|(with_reducible exact r11.bf)|(refine dD.bf (R8.out _ ?_);with_reducible (exact aK.drew (aK.alloc (aK.refl _) _)))|(refine dD.bf (dD.aM r9 ?_);with_reducible (exact aK.alloc (aK.refl _) _))|(refine dD.bf (dD.aM r10 ?_);with_reducible (exact aK.alloc (aK.refl _) _))|(refine dD.bf (dD.aM r11 ?_);with_reducible (exact aK.alloc (aK.refl _) _))|(with_reducible exact(dD.yh r11 zh.out _ _ _ _ _).bf))
    (first
     |(go_at_call 184;refine(HPC.out _ (by repeat (first|exact aK.refl _|refine aK.alloc ?_ _|refine aK.drew ?_))).mono ?_;clear HPC;rintro e w9 ⟨x1,x2,x3,rfl,lx9,r9,g9,G9,k9⟩;have Bb:=HED.out w9 _ x1 x2 x3 r9 g9 G9 lx9)|(go_at_call 185;refine(Bb _ (by repeat (first|exact aK.refl _|refine aK.alloc ?_ _|refine aK.drew ?_))).mono ?_;clear Bb;rintro e w10 ⟨u1,u2,u3,rfl,lu10,r10,g10,G10,k10,lx10,-⟩;have he2:=HED.out w10 _ x1 x2 x3 r10 g10 G10 lx10)|(go_at_call 185;refine(he2 _ (by repeat (first|exact aK.refl _|refine aK.alloc ?_ _|refine aK.drew ?_))).mono ?_;clear he2;rintro e w11 ⟨v1,v2,v3,rfl,yw,r11,g11,G11,k11,yx,kk11⟩;first|(refine Vl (k11 _ _ (k10 _ _ (k9 _ _ (heap_alloc_new w8 _)))) ?_;intro z0 z1 z2 z3 z4 zf zh)|(refine Vl (k11 _ _ (k10 _ _ (heap_alloc_new w9 _))) ?_;intro z0 z1 z2 z3 z4 zf zh)|(refine Vl (k11 _ _ (heap_alloc_new w10 _)) ?_;intro z0 z1 z2 z3 z4 zf zh)|skip))
   all_goals have hlu:=kk11 _ _ lu10
   ·have ga:=(aK.refl w11).alloc (C #[I V dn,I V bf,Z x1 x2 x3,Z u1 u2 u3,Z v1 v2 v3] 105);have HF:Hid (Qz w1 (w11.alloc (C #[I V dn,I V bf,Z x1 x2 x3,Z u1 u2 u3,Z v1 v2 v3] 105)) g w11.heap.size (aV bf (aV bf (aO bf s3).2).2).2 dn bf ps (x1,x2,x3) (u1,u2,u3) (v1,v2,v3) (aO bf s3).1 (aV bf (aO bf s3).2).1 (aV bf (aV bf (aO bf s3).2).2).1):=Qz.mk (r11.aM ga) (g11.aM ga) (G11.then ga) (heap_alloc_new w11 _) (yx.aM ga) (hlu.aM ga) (yw.aM ga) G11.le;clear ga
    go_wp2_with fail
    go_meet;exact⟨_,_,_,_,rfl,HF⟩
   ·have HF:Hid (Qz w1 (((((w11.setCell ⟨w10.heap.size,0,O⟩ (I V dn)).setCell ⟨w10.heap.size,1,O⟩ (I V bf)).setCell ⟨w10.heap.size,2,O⟩ (Z x1 x2 x3)).setCell ⟨w10.heap.size,3,O⟩ (Z u1 u2 u3)).setCell ⟨w10.heap.size,4,O⟩ (Z v1 v2 v3)) g w10.heap.size (aV bf (aV bf (aO bf s3).2).2).2 dn bf ps (x1,x2,x3) (u1,u2,u3) (v1,v2,v3) (aO bf s3).1 (aV bf (aO bf s3).2).1 (aV bf (aV bf (aO bf s3).2).2).1):=Qz.yh (x:=(x1,x2,x3)) (u:=(u1,u2,u3)) (r:=(v1,v2,v3)) zh.out G10.le r11 g11 G11 yx hlu yw;clear z0 z1 z2 z3 z4 zf
    go_wp2_with fail
    go_meet;exact⟨_,_,_,_,rfl,HF⟩
   ·have HF:Hid (Qz w1 (((((w11.setCell ⟨w9.heap.size,0,O⟩ (I V dn)).setCell ⟨w9.heap.size,1,O⟩ (I V bf)).setCell ⟨w9.heap.size,2,O⟩ (Z x1 x2 x3)).setCell ⟨w9.heap.size,3,O⟩ (Z u1 u2 u3)).setCell ⟨w9.heap.size,4,O⟩ (Z v1 v2 v3)) g w9.heap.size (aV bf (aV bf (aO bf s3).2).2).2 dn bf ps (x1,x2,x3) (u1,u2,u3) (v1,v2,v3) (aO bf s3).1 (aV bf (aO bf s3).2).1 (aV bf (aV bf (aO bf s3).2).2).1):=Qz.yh (x:=(x1,x2,x3)) (u:=(u1,u2,u3)) (r:=(v1,v2,v3)) zh.out G9.le r11 g11 G11 yx hlu yw;clear z0 z1 z2 z3 z4 zf
    go_wp2_with fail
    go_meet;exact⟨_,_,_,_,rfl,HF⟩
   ·have HF:Hid (Qz w1 (((((w11.setCell ⟨w8.heap.size,0,O⟩ (I V dn)).setCell ⟨w8.heap.size,1,O⟩ (I V bf)).setCell ⟨w8.heap.size,2,O⟩ (Z x1 x2 x3)).setCell ⟨w8.heap.size,3,O⟩ (Z u1 u2 u3)).setCell ⟨w8.heap.size,4,O⟩ (Z v1 v2 v3)) g w8.heap.size (aV bf (aV bf (aO bf s3).2).2).2 dn bf ps (x1,x2,x3) (u1,u2,u3) (v1,v2,v3) (aO bf s3).1 (aV bf (aO bf s3).2).1 (aV bf (aV bf (aO bf s3).2).2).1):=Qz.yh (x:=(x1,x2,x3)) (u:=(u1,u2,u3)) (r:=(v1,v2,v3)) zh.out G8.out.le r11 g11 G11 yx hlu yw;clear z0 z1 z2 z3 z4 zf
    go_wp2_with fail
    go_meet;exact⟨_,_,_,_,rfl,HF⟩
  case rest=>
   obtain⟨sb,⟨x1,x2,x3⟩,⟨u1,u2,u3⟩,⟨v1,v2,v3⟩,rfl,HC⟩:=hcut
   rename F=>w12
   have HF1:Hid (∀W y1 y2 y3,cO W (y1,y2,y3) ((aV bf (aO bf s3).2).1.map xW)->H K 188 #[I V (sz (aO bf s3).1),Z y1 y2 y3] W fun e w'=>e=G (.bool (mM (sz (aO bf s3).1) ((aV bf (aO bf s3).2).1.map xW)))/\aK W w'):=fun W y1 y2 y3 hy=>by
    have hp:=oW (bf:=bf) (by omega) s3;have he:=vS (bf:=bf) (by omega) (aO bf s3).2;cases hs:(aO bf s3).2 with
    |none=>
     rw[hs,zA]at hy;have e:mM (sz (aO bf s3).1) (List.map xW (aV bf O).1)=true:=rfl;rw[e];exact BG (x:=(y1,y2,y3)) hy
    |some lq=>
     rw[hs]at hy he
     exact MG (x:=(y1,y2,y3)) hy (by simp;omega) (nW hp.1) (hp.2.2 _ hs) (fun e hm=>by
      obtain⟨e0,h0,rfl⟩:=List.mem_map.1 hm;obtain⟨-,q1,q2,q3,q4⟩:=he.1 e0 h0;exact⟨q2,q1,q4,q3⟩)
   have rf:Hid (∀W,cO W (v1,v2,v3) (aV bf (aV bf (aO bf s3).2).2).1->H K 188 #[I V (sz (aO bf s3).1),Z v1 v2 v3] W fun e w'=>e=G (.bool (mM (sz (aO bf s3).1) (aV bf (aV bf (aO bf s3).2).2).1))/\aK W w'):=fun W hy=>by
    have hp:=oW (bf:=bf) (by omega) s3;have he:=vS (bf:=bf) (by omega) (aV bf (aO bf s3).2).2;cases hs:(aO bf s3).2 with
    |none=>
     rw[hs,zA]at hy;have e:mM (sz (aO bf s3).1) (aV bf (aV bf O).2).1=true:=rfl;rw[e];exact BG (x:=(v1,v2,v3)) hy
    |some lq=>
     rw[hs]at hy he;exact MG (x:=(v1,v2,v3)) hy (by omega) (nW hp.1) (hp.2.2 _ hs) (fun e hm=>(he.1 e hm).2)
   have HBY:Hid (∀W,bF W (x1,x2,x3) (aO bf s3).1->H K 187 #[Z x1 x2 x3] W fun e w'=>e=G (I V (sz (aO bf s3).1))/\aK W w'):=fun W hW=>by
    have hp:=oW (bf:=bf) (by omega) s3;exact rO (x:=(x1,x2,x3)) hW hp.1 (by omega)
   have HTU:Hid (∀W,cO W (u1,u2,u3) (aV bf (aO bf s3).2).1->H K 189 #[Z u1 u2 u3] W fun e w'=> ∃y1 y2 y3,e=G (Z y1 y2 y3)/\cO w' (y1,y2,y3) ((aV bf (aO bf s3).2).1.map xW)/\aK W w'):=fun W hW=>by
    have he:=vS (bf:=bf) (by omega) (aO bf s3).2;exact II (x:=(u1,u2,u3)) hW (by omega)
   have za:Hid (uQ l buf=match fV (mM (sz (aO bf s3).1) (aV bf (aV bf (aO bf s3).2).2).1) (fV (mM (sz (aO bf s3).1) ((aV bf (aO bf s3).2).1.map xW)) (fV ((aV bf (aV bf (aO bf s3).2).2).2==M []) (aV bf (aV bf (aO bf s3).2).2).2))with
    |none=>O
    |some _=>M (ep,((aO bf s3).1,(aV bf (aO bf s3).2).1,(aV bf (aV bf (aO bf s3).2).2).1,dn,bf))):=HCK.out
   generalize (aV bf (aV bf (aO bf s3).2).2).2=sr at*;generalize (aV bf (aV bf (aO bf s3).2).2).1=rl at*;generalize (aV bf (aO bf s3).2).1=ul at*;generalize (aO bf s3).1=t at*
   have HAS:Hid (∀W yG (sx:ByteArray) (right:Bool),Qz w1 W g sb yG dn bf ps (x1,x2,x3) (u1,u2,u3) (v1,v2,v3) t ul rl->H K 186 #[U (M ⟨g,0,O⟩),.string sx,.bool right] W fun e w'=>e=G (.tuple #[])/\Qz w1 w' g sb (fV right yG) dn bf ps (x1,x2,x3) (u1,u2,u3) (v1,v2,v3) t ul rl):=fun W yG sx right hW=>(Cg hW.rg hW.gl).mono (by
    rintro e w' ⟨a,b,c⟩;exact⟨a,hW.ask HGN.out.2 b c⟩)
   obtain⟨nao,nn,nc,cn,hnn⟩:=HC.out.rg.rest;have jv:=HAS.out w12 sr ⟨#[105,116,115,32,101,110,100]⟩ ((nn:Int)==0) HC.out;rw[XI hnn]at jv;clear hnn HCK HPC HED R8 cb8 cb8d HC G8;generalize uh:mM (sz t) (ul.map xW)=f1 at*;generalize EF:mM (sz t) rl=f2 at*;generalize XK:fV (sr==M []) sr=q1 at*;generalize sz t=zt at*;clear uh EF XK
   go_upto_region 11 with(go_at_call 186;refine jv.mono ?_;rintro e w13 ⟨rfl,c13⟩)
   clear jv cn;obtain⟨-,-,k2,-,-⟩:=c13.cells;have Yr:=HBY.out w13 c13.lx;simp only[dS.v]at k2;clear HBY
   go_upto_region 12 with(go_at_call 187;refine Yr.mono ?_;rintro e w14 ⟨rfl,hg14⟩)
   have c14:=c13.aM hg14;obtain⟨-,-,-,k3,-⟩:=c14.cells;simp only[dS.v]at k3;have htu:=HTU.out w14 c14.lu;clear Yr k2 HTU c13 hg14
   go_upto_region 13 with(first
    |(go_at_call 189;refine htu.mono ?_;clear htu;rintro e w15 ⟨y1,y2,y3,rfl,ey15,hg15⟩;have c15:=c14.aM hg15;have uh:=HF1.out w15 y1 y2 y3 ey15)
    |(go_at_call 188;refine uh.mono ?_;clear uh;rintro e w16 ⟨rfl,hg16⟩;have c16:=c15.aM hg16;have Zl:=HAS.out w16 q1 ⟨#[105,116,115,32,101,100,105,116,115,32,116,104,97,116,32,99,97,110,32,98,101,32,117,110,100,111,110,101]⟩ f1 c16)
    |(go_at_call 186;refine Zl.mono ?_;clear Zl;rintro e w17 ⟨rfl,c17⟩))
   obtain⟨-,-,-,-,k4⟩:=c17.cells;simp only[dS.v]at k4;have EF:=rf.out w17 c17.lr;clear k3 c14 c15 c16 hg15 hg16 ey15 HF1 rf
   go_upto_region 14 with(first
    |(go_at_call 188;refine EF.mono ?_;clear EF;rintro e w18 ⟨rfl,hg18⟩;have c18:=c17.aM hg18;have MP:=HAS.out w18 (fV f1 q1) ⟨#[105,116,115,32,101,100,105,116,115,32,116,104,97,116,32,99,97,110,32,98,101,32,100,111,110,101,32,97,103,97,105,110]⟩ f2 c18)
    |(go_at_call 186;refine MP.mono ?_;clear MP;rintro e Qf ⟨rfl,IV⟩))
   clear k4 c17 c18 hg18 HAS;have HRZ:Hid (Qf.heap[w.heap.size]?=M (C #[I V 0,I V 0,Z O 0 0,Z O 0 0,Z O 0 0] 105 (0,0))):=(IV.gr.block _ (aL MK.out)).trans MK.out;obtain⟨⟨z0,z1,z2,z3,z4⟩,zf⟩:=nY HRZ.out;cases hf3:fV f2 (fV f1 q1)with
   |none=>
    rw[hf3]at IV;have HE:Hid (uQ l buf=O):=by show _=_;rw[za.out,hf3]
    obtain⟨_,_,_,te,be,hbe,hee⟩:=IV.rg;obtain⟨-,-,ke,-⟩:=jF hbe;have ked:Qf.drew.cell? ⟨g,2,O⟩=M (.iface te (U (M be))):=ke;have HBE:Hid (Qf.heap[g]?=_):=hbe;have HEL:Hid (iX Qf ps 1 (.iface te (U (M be))) 11):=hee;have HNE:Hid (g≠w.heap.size):=by have:=HGN.out.1;show g≠_;omega
    have HGW:Hid (aK w Qf):=HW1.out.then IV.gr;clear hbe hee IV za hf3 HGN MK HW1 gG hl lG bX bbd bhi
    go_upto_region 15 with fail
    go_region_held3 (fun w'=>w'.cell? ⟨g,2,O⟩=M (.iface te (U (M be)))) (first|(with_reducible exact ke)|(with_reducible exact ked)|(with_reducible exact(BH HBE.out HNE.out _ _ _ _ _).2)|(with_reducible exact(BH HBE.out HNE.out _ _ _ _ _).1)) (fail)
    all_goals go_wp2_with fail
    all_goals refine bodyPost_ret (v:= .tuple #[I V 0,.agg #[I V 0,I V 0,Z O 0 0,Z O 0 0,Z O 0 0],.iface te (U (M be))]) (by simp[results,Tryz.results123,go_sem, *]) rfl ?_
    all_goals rw[HE.out]
    all_goals have hF:=wZ Qf w.heap.size (I V 0) (I V 0) (Z O 0 0) (Z O 0 0) (Z O 0 0)
    all_goals have hE:=(HEL.out.fr hF (fun _ _ hb=>Ob HRZ.out _ _ _ _ hb (by decide)) (fun _ _ hb=>Ob HRZ.out _ _ _ _ hb (by decide))).aM (aK.drew (aK.refl _))
    all_goals have hGG:=aK.drew (kW HGW.out (Nat.le_refl _) (I V 0) (I V 0) (Z O 0 0) (Z O 0 0) (Z O 0 0))
    all_goals exact⟨⟨te,be,rfl,hE⟩,hGG⟩
   |some lz=>
    rw[hf3]at IV;have HE:Hid (uQ l buf=M (ep,(t,ul,rl,dn,bf))):=by show _=_;rw[za.out,hf3]
    obtain⟨_,_,_,-,-,ke,-⟩:=qG.cells IV.rg;have Ad:=IV.box;have hsb:=IV.sbn;have Xw:=aL MK.out;obtain⟨m0,m1,m2,m3,m4⟩:=IV.cells;simp only[dS.v]at m2 m3 m4 Ad;have md:Qf.drew.cell? ⟨sb,0,O⟩=M (I V dn)/\Qf.drew.cell? ⟨sb,1,O⟩=M (I V bf)/\Qf.drew.cell? ⟨sb,2,O⟩=M (Z x1 x2 x3)/\Qf.drew.cell? ⟨sb,3,O⟩=M (Z u1 u2 u3)/\Qf.drew.cell? ⟨sb,4,O⟩=M (Z v1 v2 v3):=⟨m0,m1,m2,m3,m4⟩;have HMD:Hid (Qf.drew.cell? ⟨sb,0,O⟩=M (I V dn)/\Qf.drew.cell? ⟨sb,1,O⟩=M (I V bf)/\Qf.drew.cell? ⟨sb,2,O⟩=M (Z x1 x2 x3)/\Qf.drew.cell? ⟨sb,3,O⟩=M (Z u1 u2 u3)/\Qf.drew.cell? ⟨sb,4,O⟩=M (Z v1 v2 v3)):=md;have jm:Hid (Qf.heap[sb]?=_):=Ad;have HNE:Hid (sb≠w.heap.size):=by show sb≠_;omega
    have HGW:Hid (aK w Qf):=HW1.out.then IV.gr;have HLL:Hid (bF Qf (x1,x2,x3) t/\cO Qf (u1,u2,u3) ul/\cO Qf (v1,v2,v3) rl):=⟨IV.lx,IV.lu,IV.lr⟩;clear Ad IV za hf3 md hsb Xw HGN MK HW1 gG hl lG bX bbd bhi
    go_upto_region 16 with fail
    go_region_held3 (fun w'=>w'.cell? ⟨sb,0,O⟩=M (I V dn)/\w'.cell? ⟨sb,1,O⟩=M (I V bf)/\w'.cell? ⟨sb,2,O⟩=M (Z x1 x2 x3)/\w'.cell? ⟨sb,3,O⟩=M (Z u1 u2 u3)/\w'.cell? ⟨sb,4,O⟩=M (Z v1 v2 v3)) (first|(with_reducible exact HMD.out)|(with_reducible exact⟨m0,m1,m2,m3,m4⟩)|(with_reducible exact(BI jm.out HNE.out _ _ _ _ _).2)|(with_reducible exact(BI jm.out HNE.out _ _ _ _ _).1)) (fail)
    all_goals go_wp2_with fail
    all_goals refine bodyPost_ret (v:= .tuple #[I V ep,.agg #[I V dn,I V bf,Z x1 x2 x3,Z u1 u2 u3,Z v1 v2 v3],.nilIface]) (by simp[results,Tryz.results123,go_sem, *]) rfl ?_
    all_goals rw[HE.out]
    all_goals have hF:=wZ Qf w.heap.size (I V dn) (I V bf) (Z x1 x2 x3) (Z u1 u2 u3) (Z v1 v2 v3)
    all_goals have hn:=Ob HRZ.out
    all_goals have hX:=(HLL.out.1.fr hF (fun _ _ hb=>hn _ _ _ _ hb (by decide))).aM (aK.drew (aK.refl _))
    all_goals have hU:=(HLL.out.2.1.fr hF (fun _ _ hb=>hn _ _ _ _ hb (by decide)) (fun _ _ hb=>hn _ _ _ _ hb (by decide))).aM (aK.drew (aK.refl _))
    all_goals have hV:=(HLL.out.2.2.fr hF (fun _ _ hb=>hn _ _ _ _ hb (by decide)) (fun _ _ hb=>hn _ _ _ _ hb (by decide))).aM (aK.drew (aK.refl _))
    all_goals have hGG:=aK.drew (kW HGW.out (Nat.le_refl _) (I V dn) (I V bf) (Z x1 x2 x3) (Z u1 u2 u3) (Z v1 v2 v3))
    all_goals exact⟨⟨(x1,x2,x3),(u1,u2,u3),(v1,v2,v3),rfl,hX,hU,hV⟩,hGG⟩
end Go.Proofs.YtfplgfodoiiobaaGreatDoor
