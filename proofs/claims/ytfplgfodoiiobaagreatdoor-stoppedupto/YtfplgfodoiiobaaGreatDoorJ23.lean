/- LgJ (joined). -/
import Derived.Test.YtfplgfodoiiobaaGreatDoorJ22
open Option renaming none→O,some→M
open Go.Value renaming int→I,slice→Z,pointer→U
open Go.IntKind renaming i64→V
open Go.Obj renaming cells→C
open Go.Ending renaming returned→G
open Go renaming World→F,Value→Y,Calls→H
open Go.Proofs.Tryz renaming prog→K
namespace Go.Proofs.YtfplgfodoiiobaaGreatDoor
set_option maxHeartbeats 1500000
set_option maxRecDepth 100000
open Go.RowKit
variable {W w w1 w':F}{g sb R:Nat}{bf dn:Int}{ps:Nat->Addr}{st:Option (List UInt8)}{a b c d e:Y}{x u r:gN}{t:List (Int×Int)}{ul rl:List Ed}
def rck3 (bf:Int)(s3:Option (List UInt8))(ep dn:Int):Option (Int×bT):=
 match gB (nP (sz (aN bf s3).1) (aX bf (aX bf (aN bf s3).2).2).1) (gB (nP (sz (aN bf s3).1) ((aX bf (aN bf s3).2).1.map yL)) (gB ((aX bf (aX bf (aN bf s3).2).2).2==M []) (aX bf (aX bf (aN bf s3).2).2).2))with
 |none=>O
 |some _=>M (ep,((aN bf s3).1,(aX bf (aN bf s3).2).1,(aX bf (aX bf (aN bf s3).2).2).1,dn,bf))
def RckV (w:F)(ps:Nat->Addr)(e:Ending):Option (Int×bT)->Prop
 |none=> ∃t b,e=G (.tuple #[I V 0,.agg #[I V 0,I V 0,Z O 0 0,Z O 0 0,Z O 0 0],.iface t (U (M b))])/\jG w ps 1 (.iface t (U (M b))) 11
 |some q=> ∃t u r:gN,e=G (.tuple #[I V q.1,GQ q.2.2.2.2.1 q.2.2.2.2.2 t u r,.nilIface])/\bI w t q.2.1/\dG w u q.2.2.1/\dG w r q.2.2.2.1
theorem xS (W:F)(g:Nat)(a b c d e:Y):Fr W (((((W.setCell ⟨g,0,O⟩ a).setCell ⟨g,1,O⟩ b).setCell ⟨g,2,O⟩ c).setCell ⟨g,3,O⟩ d).setCell ⟨g,4,O⟩ e) (fun b=>b=g):=
 ((((Fr.set W ⟨g,0,O⟩ a).trans (Fr.set _ ⟨g,1,O⟩ b)).trans (Fr.set _ ⟨g,2,O⟩ c)).trans (Fr.set _ ⟨g,3,O⟩ d)).trans (Fr.set _ ⟨g,4,O⟩ e)
theorem oP (h:W.heap[R]?=M (C #[a,b,c,d,e] 105 (0,0))):(W.cell? ⟨R,0,O⟩=M a/\W.cell? ⟨R,1,O⟩=M b/\W.cell? ⟨R,2,O⟩=M c/\W.cell? ⟨R,3,O⟩=M d/\W.cell? ⟨R,4,O⟩=M e)/\∀j,W.frozen? ⟨R,j,O⟩=false:=
 ⟨by simp[World.cell?,h],fun j=>by simp[World.frozen?,h]⟩
theorem zU {wk wk':F}(h:aJ w wk)(ho:Og wk wk' g)(hg:w.heap.size<=g):aJ w wk':=by
 obtain⟨⟨a1,a2⟩,b1,b2,b3⟩:=ho;exact⟨b1.trans h.os,b2.trans h.tape,b3.trans h.output,Nat.le_trans h.size a1,fun b hb=>(a2 b (Nat.lt_of_lt_of_le hb h.size) (by omega)).trans (h.block b hb)⟩
theorem dG.rg {l:List Ed}(h:dG w x l)(hr:dI w g st bf ps)(ho:Og w w' g):dG w' x l:=by
 obtain⟨c,hc⟩:=hr.MP;exact h.fr ho.1 (fun b aT hb=>aW hb hc (by decide)) (fun b aT hb=>aW hb hc (by decide))
theorem dI.fr {X:Nat->Prop}(h:dI w g st bf ps)(hF:Fr w w' X)(hX:∀(b:Nat) (aT:Array Y) (t:TypeId) (f:Nat×Nat),w.heap[b]?=M (C aT t f)->t≠105->¬X b):dI w' g st bf ps:=by
 cases st with
 |some l=>
  obtain⟨b,off,c,hb,hc,hr,aT,f,ht⟩:=h;exact⟨b,off,c,hF.at hb (hX _ _ _ _ hb (by decide)),hc,hr.fr hF (fun a e=>by cases e;exact hX _ _ _ _ ht (by decide)),aT,f,hF.at ht (hX _ _ _ _ ht (by decide))⟩
 |none=>
  obtain⟨ao,n,c,t,b,hb,he⟩:=h;exact⟨ao,n,c,t,b,hF.at hb (hX _ _ _ _ hb (by decide)),he.fr hF (fun b aT pR=>hX _ _ _ _ pR (by decide)) (fun b aT pR=>hX _ _ _ _ pR (by decide))⟩
theorem Qp {aT:Array Y}(hz:w.heap[sb]?=M (C aT 105 (0,0))):∀(b:Nat) (aT:Array Y) (t:TypeId) (f:Nat×Nat),w.heap[b]?=M (C aT t f)->t≠105->¬b=sb:=fun _ _ _ _ hb ht=>aW hb hz ht
theorem dI.st5 {aT:Array Y}(h:dI w g st bf ps)(hz:w.heap[sb]?=M (C aT 105 (0,0)))(a b c d e:Y):dI (((((w.setCell ⟨sb,0,O⟩ a).setCell ⟨sb,1,O⟩ b).setCell ⟨sb,2,O⟩ c).setCell ⟨sb,3,O⟩ d).setCell ⟨sb,4,O⟩ e) g st bf ps:=h.fr (xS w sb a b c d e) (Qp hz)
def Xb (W w':F):Prop:=∀(b:Nat) (aT:Array Y),W.heap[b]?=M (C aT 105 (0,0))->w'.heap[b]?=M (C aT 105 (0,0))
theorem Xb.og (h:dI W g st bf ps)(ho:Og W w' g):Xb W w':=fun b aT hb=>by
 obtain⟨c,hc⟩:=h.MP;exact ho.1.at hb (fun e=>aW hb hc (by decide) e)
theorem Zq {P:Prop}(h:W.heap[R]?=M (C #[a,b,c,d,e] 105 (0,0)))(k:W.cell? ⟨R,0,O⟩=M a->W.cell? ⟨R,1,O⟩=M b->W.cell? ⟨R,2,O⟩=M c->W.cell? ⟨R,3,O⟩=M d->W.cell? ⟨R,4,O⟩=M e->(∀j,W.frozen? ⟨R,j,O⟩=false)->Hid (W.heap[R]?=M (C #[a,b,c,d,e] 105 (0,0)))->P):P:=by
 obtain⟨⟨a,b,c,d,e⟩,f⟩:=oP h;exact k a b c d e f h
theorem st5_blk (h:W.heap[R]?=M (C #[a,b,c,d,e] 105 (0,0)))(a' b' c' d' e':Y):(((((W.setCell ⟨R,0,O⟩ a').setCell ⟨R,1,O⟩ b').setCell ⟨R,2,O⟩ c').setCell ⟨R,3,O⟩ d').setCell ⟨R,4,O⟩ e').heap[R]?=M (C #[a',b',c',d',e'] 105 (0,0)):=by
 have h0:(W.setCell ⟨R,0,O⟩ a').heap[R]?=M (C #[a',b,c,d,e] 105 (0,0)):=by rw[heap_setCell_same W R 0 _ _ _ h];rfl
 have h1:((W.setCell ⟨R,0,O⟩ a').setCell ⟨R,1,O⟩ b').heap[R]?=M (C #[a',b',c,d,e] 105 (0,0)):=by rw[heap_setCell_same _ R 1 _ _ _ h0];rfl
 have h2:(((W.setCell ⟨R,0,O⟩ a').setCell ⟨R,1,O⟩ b').setCell ⟨R,2,O⟩ c').heap[R]?=M (C #[a',b',c',d,e] 105 (0,0)):=by rw[heap_setCell_same _ R 2 _ _ _ h1];rfl
 have h3:((((W.setCell ⟨R,0,O⟩ a').setCell ⟨R,1,O⟩ b').setCell ⟨R,2,O⟩ c').setCell ⟨R,3,O⟩ d').heap[R]?=M (C #[a',b',c',d',e] 105 (0,0)):=by rw[heap_setCell_same _ R 3 _ _ _ h2];rfl
 rw[heap_setCell_same _ R 4 _ _ _ h3];rfl
structure Un (w1 W:F)(g sb:Nat)(st:Option (List UInt8))(dn bf:Int)(ps:Nat->Addr)(x u r:gN)(t:List (Int×Int))(ul rl:List Ed):Prop where
 rg:dI W g st bf ps
 gl:Gl W ps
 gr:aJ w1 W
 box:W.heap[sb]?=M (C #[I V dn,I V bf,x.v,u.v,r.v] 105 (0,0))
 lx:bI W x t
 lu:dG W u ul
 lr:dG W r rl
 sbn:w1.heap.size<=sb
theorem Un.aM {W':F}(h:Un w1 W g sb st dn bf ps x u r t ul rl)(hg:aJ W W'):Un w1 W' g sb st dn bf ps x u r t ul rl:=
 ⟨h.rg.aM hg,h.gl.aM hg,h.gr.then hg,(hg.block _ (aK h.box)).trans h.box,h.lx.aM hg,h.lu.aM hg,h.lr.aM hg,h.sbn⟩
theorem Un.ask {W':F}{yU:Option (List UInt8)}(h:Un w1 W g sb st dn bf ps x u r t ul rl)(hg:w1.heap.size<=g)(hr:dI W' g yU bf ps)(ho:Og W W' g):Un w1 W' g sb yU dn bf ps x u r t ul rl:=by
 obtain⟨c,hc⟩:=h.rg.MP;exact⟨hr,h.gl.og h.rg ho,zU h.gr ho hg,ho.1.at h.box (fun e=>aW h.box hc (by decide) e),h.lx.rg h.rg ho,h.lu.rg h.rg ho,h.lr.rg h.rg ho,h.sbn⟩
theorem Un.cells (h:Un w1 W g sb st dn bf ps x u r t ul rl):W.cell? ⟨sb,0,O⟩=M (I V dn)/\W.cell? ⟨sb,1,O⟩=M (I V bf)/\W.cell? ⟨sb,2,O⟩=M x.v/\W.cell? ⟨sb,3,O⟩=M u.v/\W.cell? ⟨sb,4,O⟩=M r.v:=(oP h.box).1
theorem Un.st5 (hz:W.heap[sb]?=M (C #[a,b,c,d,e] 105 (0,0)))(hs:w1.heap.size<=sb)(hr:dI W g st bf ps)(hg:Gl W ps)(hG:aJ w1 W)(hx:bI W x t)(hu:dG W u ul)(hv:dG W r rl):Un w1 (((((W.setCell ⟨sb,0,O⟩ (I V dn)).setCell ⟨sb,1,O⟩ (I V bf)).setCell ⟨sb,2,O⟩ x.v).setCell ⟨sb,3,O⟩ u.v).setCell ⟨sb,4,O⟩ r.v) g sb st dn bf ps x u r t ul rl:=by
 have hF:=xS W sb (I V dn) (I V bf) x.v u.v r.v;have hn:=Qp hz;exact⟨hr.st5 hz _ _ _ _ _,hg.fr hF (fun _ _ hb=>hn _ _ _ _ hb (by decide)) (fun _ _ _ g hb=>hn _ _ _ _ hb (g.ne (by decide))) (fun _ _ hb=>hn _ _ _ _ hb (by decide)) (fun _ _ hb=>hn _ _ _ _ hb (by decide)),pV hG hs _ _ _ _ _,st5_blk hz _ _ _ _ _,hx.fr hF (fun _ _ hb=>hn _ _ _ _ hb (by decide)),hu.fr hF (fun _ _ hb=>hn _ _ _ _ hb (by decide)) (fun _ _ hb=>hn _ _ _ _ hb (by decide)),hv.fr hF (fun _ _ hb=>hn _ _ _ _ hb (by decide)) (fun _ _ hb=>hn _ _ _ _ hb (by decide)),hs⟩
theorem IJ {ao:Option Addr}{n c:Nat}{ev:Y}(h:W.heap[g]?=M (rgB ao n c bf ev))(hne:g≠R)(a' b' c' d' e':Y):(((((W.setCell ⟨R,0,O⟩ a').setCell ⟨R,1,O⟩ b').setCell ⟨R,2,O⟩ c').setCell ⟨R,3,O⟩ d').setCell ⟨R,4,O⟩ e').cell? ⟨g,2,O⟩=M ev/\(World.drew (((((W.setCell ⟨R,0,O⟩ a').setCell ⟨R,1,O⟩ b').setCell ⟨R,2,O⟩ c').setCell ⟨R,3,O⟩ d').setCell ⟨R,4,O⟩ e')).cell? ⟨g,2,O⟩=M ev:=by
 have h1:=(xS W R a' b' c' d' e').at h hne;generalize (((((W.setCell ⟨R,0,O⟩ a').setCell ⟨R,1,O⟩ b').setCell ⟨R,2,O⟩ c').setCell ⟨R,3,O⟩ d').setCell ⟨R,4,O⟩ e')=aH at*;have h2:aH.drew.heap[g]?=M (rgB ao n c bf ev):=h1;exact⟨(jQ h1).2.2.1,(jQ h2).2.2.1⟩
theorem IK (h:W.heap[sb]?=M (C #[a,b,c,d,e] 105 (0,0)))(hne:sb≠R)(a' b' c' d' e':Y):((((((W.setCell ⟨R,0,O⟩ a').setCell ⟨R,1,O⟩ b').setCell ⟨R,2,O⟩ c').setCell ⟨R,3,O⟩ d').setCell ⟨R,4,O⟩ e').cell? ⟨sb,0,O⟩=M a/\(((((W.setCell ⟨R,0,O⟩ a').setCell ⟨R,1,O⟩ b').setCell ⟨R,2,O⟩ c').setCell ⟨R,3,O⟩ d').setCell ⟨R,4,O⟩ e').cell? ⟨sb,1,O⟩=M b/\(((((W.setCell ⟨R,0,O⟩ a').setCell ⟨R,1,O⟩ b').setCell ⟨R,2,O⟩ c').setCell ⟨R,3,O⟩ d').setCell ⟨R,4,O⟩ e').cell? ⟨sb,2,O⟩=M c/\(((((W.setCell ⟨R,0,O⟩ a').setCell ⟨R,1,O⟩ b').setCell ⟨R,2,O⟩ c').setCell ⟨R,3,O⟩ d').setCell ⟨R,4,O⟩ e').cell? ⟨sb,3,O⟩=M d/\(((((W.setCell ⟨R,0,O⟩ a').setCell ⟨R,1,O⟩ b').setCell ⟨R,2,O⟩ c').setCell ⟨R,3,O⟩ d').setCell ⟨R,4,O⟩ e').cell? ⟨sb,4,O⟩=M e)/\((World.drew (((((W.setCell ⟨R,0,O⟩ a').setCell ⟨R,1,O⟩ b').setCell ⟨R,2,O⟩ c').setCell ⟨R,3,O⟩ d').setCell ⟨R,4,O⟩ e')).cell? ⟨sb,0,O⟩=M a/\(World.drew (((((W.setCell ⟨R,0,O⟩ a').setCell ⟨R,1,O⟩ b').setCell ⟨R,2,O⟩ c').setCell ⟨R,3,O⟩ d').setCell ⟨R,4,O⟩ e')).cell? ⟨sb,1,O⟩=M b/\(World.drew (((((W.setCell ⟨R,0,O⟩ a').setCell ⟨R,1,O⟩ b').setCell ⟨R,2,O⟩ c').setCell ⟨R,3,O⟩ d').setCell ⟨R,4,O⟩ e')).cell? ⟨sb,2,O⟩=M c/\(World.drew (((((W.setCell ⟨R,0,O⟩ a').setCell ⟨R,1,O⟩ b').setCell ⟨R,2,O⟩ c').setCell ⟨R,3,O⟩ d').setCell ⟨R,4,O⟩ e')).cell? ⟨sb,3,O⟩=M d/\(World.drew (((((W.setCell ⟨R,0,O⟩ a').setCell ⟨R,1,O⟩ b').setCell ⟨R,2,O⟩ c').setCell ⟨R,3,O⟩ d').setCell ⟨R,4,O⟩ e')).cell? ⟨sb,4,O⟩=M e):=by
 have h1:=(xS W R a' b' c' d' e').at h hne;generalize (((((W.setCell ⟨R,0,O⟩ a').setCell ⟨R,1,O⟩ b').setCell ⟨R,2,O⟩ c').setCell ⟨R,3,O⟩ d').setCell ⟨R,4,O⟩ e')=aH at*;have h2:aH.drew.heap[sb]?=M (C #[a,b,c,d,e] 105 (0,0)):=h1;exact⟨(oP h1).1,(oP h2).1⟩
theorem Xc {b off cap:Nat}{l:List UInt8}{buf:Int}(h:mU w (M ⟨b,off,O⟩) l)(ht:∃aT f,w.heap[b]?=M (C aT 5 f))(gX:l.length<=cap)(hl:l.length<=900000000)(hG:Gl w ps)(kT:0<=buf)(bX:buf<=1000000000):
 H K 123 #[Z (M ⟨b,off,O⟩) l.length cap,I V buf] w fun e w'=>RckV w' ps e (vU l buf)/\aJ w w':=by
 obtain⟨w1,dU⟩:∃w1,w1=w.alloc (C #[I V 0,I V 0,Z O 0 0,Z O 0 0,Z O 0 0] 105):=⟨_,rfl⟩;have hR1:w1.heap[w.heap.size]?=M (C #[I V 0,I V 0,Z O 0 0,Z O 0 0,Z O 0 0] 105 (0,0)):=by rw[dU];exact heap_alloc_new w _
 have G1:aJ w w1:=by rw[dU];exact(aJ.refl w).alloc _
 have hU:=Vv (cap:=cap) (h.aM G1) hl gX;have qQ:Hid (Gl w1 ps):=hG.aM G1;have HW1:Hid (aJ w w1):=G1;have TY:Hid (w1.heap[w.heap.size]?=M (C #[I V 0,I V 0,Z O 0 0,Z O 0 0,Z O 0 0] 105 (0,0))):=hR1
 have XW:Hid (mU w1 (M ⟨b,off,O⟩) l/\∃aT f,w1.heap[b]?=M (C aT 5 f)):=by
  obtain⟨aT,f,ht⟩:=ht;exact⟨h.aM G1,aT,f,(G1.block _ (aK ht)).trans ht⟩
 clear hR1 G1 h ht hG;cases hu:iD l with
 |none=>
  have HE:Hid (vU l buf=O):=by show _=_;unfold vU;rw[hu]
  rw[hu]at hU;unfold xG at hU;simp only at hU
  have HAT:Hid (∀W,aJ w1 W->W.cell? ⟨3,0,O⟩=M (gY (ps 3))/\H K 81 #[.string ⟨#[105,116,115,32,99,114,99]⟩,gY (ps 3)] W fun e w'=> ∃t b0,e=G (.iface t (U (M b0)))/\jG w' ps 1 (.iface t (U (M b0))) 11/\aJ w1 w'):=fun W hW=>by
   refine⟨(qQ.out.aM hW).uM.cell (by omega),?_⟩;have he:jG W ps 0 (gY (ps 3)) 11:=Or.inr ⟨0,3,Nat.le_refl _,by omega,rfl,rfl⟩;refine(Ci he).mono ?_;rintro e w' ⟨v',rfl,h1,h2⟩;obtain⟨t,b0,rfl⟩:=h1.yes (by omega);exact⟨t,b0,rfl,h1,hW.then h2⟩
  unfold gY at HAT;clear hu XW;go_enter Tryz.func123,Tryz.ntmps123
  go_upto_region 1 with fail
  rw[<-dU];clear dU
  go_upto_region 3 with(go_at_call 181;refine hU.mono ?_;rintro e w2 ⟨rfl,q,hq⟩;have jL:aJ w1 w2:=(by rw[hq];exact bG (aJ.refl w1) q);clear hq;obtain⟨gc,Nl⟩:=HAT.out w2 jL)
  have HN:Hid (∀W,aJ w1 W->(W.cell? ⟨w.heap.size,0,O⟩=M (I V 0)/\W.cell? ⟨w.heap.size,1,O⟩=M (I V 0)/\W.cell? ⟨w.heap.size,2,O⟩=M (Z O 0 0)/\W.cell? ⟨w.heap.size,3,O⟩=M (Z O 0 0)/\W.cell? ⟨w.heap.size,4,O⟩=M (Z O 0 0))/\∀j,W.frozen? ⟨w.heap.size,j,O⟩=false):=fun W hW=>oP ((hW.block _ (aK TY.out)).trans TY.out)
  go_wp2_with (go_at_call 81;refine Nl.mono ?_;rintro e w3 ⟨t,b0,rfl,he3,jT⟩;obtain⟨⟨y0,y1,y2,y3,y4⟩,yf⟩:=HN.out w3 jT)
  refine bodyPost_ret (v:= .tuple #[I V 0,.agg #[I V 0,I V 0,Z O 0 0,Z O 0 0,Z O 0 0],.iface t (U (M b0))]) (by simp[results,Tryz.results123,go_sem, *]) rfl ?_;rw[HE.out];have Ct:=(jT.block _ (aK TY.out)).trans TY.out;exact⟨⟨t,b0,rfl,he3.fr (xS w3 w.heap.size _ _ _ _ _) (fun b aT hb e=>aW hb Ct (by decide) e) (fun b aT hb e=>aW hb Ct (by decide) e)⟩,pV (HW1.out.then jT) (Nat.le_refl _) _ _ _ _ _⟩
 |some body=>
  have IL:body=l.take (l.length-4)/\4<=l.length:=by
   unfold iD at hu;split at hu
   ·cases hu
   ·split at hu
    ·cases hu;exact⟨rfl,by omega⟩
    ·cases hu
  have Jw:body.length<=cap:=by rw[IL.1,List.length_take];omega
  rw[hu]at hU;unfold xG at hU;simp only at hU
  have HRG:Hid (∀W,aJ w1 W->rD (W.alloc (C #[Z (M ⟨b,off,O⟩) body.length cap,I V 0,.nilIface] 266)) W.heap.size body 0/\Gl (W.alloc (C #[Z (M ⟨b,off,O⟩) body.length cap,I V 0,.nilIface] 266)) ps/\aJ w1 (W.alloc (C #[Z (M ⟨b,off,O⟩) body.length cap,I V 0,.nilIface] 266))):=fun W hW=>by
   have hg:=hW.alloc (C #[Z (M ⟨b,off,O⟩) body.length cap,I V 0,.nilIface] 266);obtain⟨hr,aT,f,ht⟩:=XW.out;refine⟨⟨b,off,cap,heap_alloc_new W _,Jw,?_,aT,f,(hg.block _ (aK ht)).trans ht⟩,qQ.out.aM hg,hg⟩;have hk:=(hr.aM hg).take (l.length-4);rw[<-IL.1]at hk;exact hk
  have HCK:Hid (vU l buf=rck3 (aO 0 buf (aO 0 1000000000 (aO 1 999 (qW 75 (M body))).2).2).1 (aO 0 buf (aO 0 1000000000 (aO 1 999 (qW 75 (M body))).2).2).2 (aO 1 999 (qW 75 (M body))).1 (aO 0 1000000000 (aO 1 999 (qW 75 (M body))).2).1):=by
   show _=_;unfold vU;rw[hu];rfl
  clear hu IL Jw XW qQ;generalize Tv:qW 75 (M body)=s0 at*;have bbd:=vM 0 buf (aO 0 1000000000 (aO 1 999 s0).2).2;have bhi:=Ny (lo:=0) (hi:=buf) kT (aO 0 1000000000 (aO 1 999 s0).2).2;have HN1:Hid (∀W g,dI W g s0 0 ps->Gl W ps->H K 183 #[U (M ⟨g,0,O⟩),.string ⟨#[105,116,115,32,101,112,111,99,104]⟩,I V 1,I V 999] W fun e w'=>e=G (I V (aO 1 999 s0).1)/\dI w' g (aO 1 999 s0).2 0 ps/\Og W w' g):=fun W g h1 h2=>uN h1 h2
  have Tk:Hid (∀W g,dI W g (aO 1 999 s0).2 0 ps->Gl W ps->H K 183 #[U (M ⟨g,0,O⟩),.string ⟨#[105,116,115,32,68,111,110,101]⟩,I V 0,I V 1000000000] W fun e w'=>e=G (I V (aO 0 1000000000 (aO 1 999 s0).2).1)/\dI w' g (aO 0 1000000000 (aO 1 999 s0).2).2 0 ps/\Og W w' g):=fun W g h1 h2=>uN h1 h2
  have HN3:Hid (∀W g,dI W g (aO 0 1000000000 (aO 1 999 s0).2).2 0 ps->Gl W ps->H K 183 #[U (M ⟨g,0,O⟩),.string ⟨#[105,116,115,32,108,101,110,103,116,104,32,111,102,32,116,104,101,32,98,117,102,102,101,114]⟩,I V 0,I V buf] W fun e w'=>e=G (I V (aO 0 buf (aO 0 1000000000 (aO 1 999 s0).2).2).1)/\dI w' g (aO 0 buf (aO 0 1000000000 (aO 1 999 s0).2).2).2 0 ps/\Og W w' g):=fun W g h1 h2=>uN h1 h2
  generalize (aO 0 buf (aO 0 1000000000 (aO 1 999 s0).2).2).2=s3 at*;generalize (aO 0 buf (aO 0 1000000000 (aO 1 999 s0).2).2).1=bf at*;generalize (aO 0 1000000000 (aO 1 999 s0).2).2=s2 at*;generalize (aO 0 1000000000 (aO 1 999 s0).2).1=dn at*;generalize (aO 1 999 s0).2=s1 at*;generalize (aO 1 999 s0).1=ep at*
  have aj:Hid (∀W g,rD W g body 0->Gl W ps->H K 182 #[U (M ⟨g,0,O⟩),I .u8 75] W fun e w'=>e=G (.tuple #[])/\dI w' g s0 0 ps/\Og W w' g):=fun W g h1 h2=>by
   have:=XT (x:=75) h1 h2;rw[Tv]at this;exact this
  clear Tv;go_enter Tryz.func123,Tryz.ntmps123
  go_upto_region 1 with fail
  rw[<-dU];clear dU
  go_upto_region 5 with(go_at_call 181;refine hU.mono ?_;rintro e w2 ⟨rfl,q,hq⟩;have jL:aJ w1 w2:=(by rw[hq];exact bG (aJ.refl w1) q);clear hq)
  obtain⟨r3,g3,G3⟩:=HRG.out w2 jL;obtain⟨g,vw⟩:∃g,g=w2.heap.size:=⟨_,rfl⟩
  have HGN:Hid (w.heap.size<g/\w1.heap.size<=g):=by
   have:=aK TY.out;have:=jL.le;exact⟨by omega,by omega⟩
  rw[<-vw]at r3 ⊢;clear vw;generalize (w2.alloc (C #[Z (M ⟨b,off,O⟩) body.length cap,I V 0,.nilIface] 266))=w3 at*
  have HSB:Hid (∀W yU XH,dI W g yU XH ps->W.frozen? ⟨g,1,O⟩=false):=fun W yU XH hW=>by
   obtain⟨c,hc⟩:=hW.MP;simp[World.frozen?,hc]
  have ah:Hid (aJ w1 w3):=G3;have bV:=aj.out w3 g r3 g3;have IE:Hid (∀W W' yU XH,dI W g yU XH ps->Gl W ps->Og W W' g->Gl W' ps):=fun W W' yU XH h1 h2 h3=>h2.og h1 h3
  have jD:Hid (dI w3 g (M body) 0 ps):=r3;clear r3 G3 HRG aj jL hU
  go_upto_region 9 with(first
   |(go_at_call 182;refine bV.mono ?_;clear bV;rintro e w4 ⟨rfl,r4,o4⟩;have g4:=IE.out _ _ _ _ jD.out g3 o4;have pQ:=HN1.out w4 g r4 g4)
   |(go_at_call 183;refine pQ.mono ?_;clear pQ;rintro e w5 ⟨rfl,r5,o5⟩;have g5:=IE.out _ _ _ _ r4 g4 o5;have oW:=Tk.out w5 g r5 g5)
   |(go_at_call 183;refine oW.mono ?_;clear oW;rintro e w6 ⟨rfl,r6,o6⟩;have g6:=IE.out _ _ _ _ r5 g5 o6;have Wz:=HN3.out w6 g r6 g6)
   |(go_at_call 183;refine Wz.mono ?_;clear Wz;rintro e w7 ⟨rfl,r7,o7⟩;have g7:=IE.out _ _ _ _ r6 g6 o7;have cb7:=r7.bf;have cf7:=HSB.out w7 _ _ r7))
  obtain⟨r8,o8⟩:=r7.setbf bf;have hO8:Og w3 (w7.setCell ⟨g,1,O⟩ (I V bf)) g:=(((o4.trans o5).trans o6).trans o7).trans o8;have g8:=IE.out _ _ _ _ r7 g7 o8;have G8:Hid (aJ w1 (w7.setCell ⟨g,1,O⟩ (I V bf))):=zU ah.out hO8 HGN.out.2;clear r4 r5 r6 r7 o4 o5 o6 o7 o8 g3 g4 g5 g6 g7 cb7 cf7 HN1 Tk HN3 IE jD ah hO8 HSB;generalize (w7.setCell ⟨g,1,O⟩ (I V bf))=w8 at*
  have HPC:Hid (∀W,aJ w8 W->H K 184 #[U (M ⟨g,0,O⟩)] W fun e w'=> ∃x1 x2 x3,e=G (Z x1 x2 x3)/\bI w' (x1,x2,x3) (aN bf s3).1/\dI w' g (aN bf s3).2 bf ps/\Gl w' ps/\aJ w1 w'/\Xb W w'):=fun W hW=>(Qo (r8.aM hW) (g8.aM hW) bbd.1 (by omega)).mono (by
   rintro e w' ⟨x1,x2,x3,a,b,c,d⟩;exact⟨x1,x2,x3,a,b,c,(g8.aM hW).og (r8.aM hW) d,zU (G8.out.then hW) d HGN.out.2,Xb.og (r8.aM hW) d⟩)
  have HED:Hid (∀W yU x1 x2 x3,dI W g yU bf ps->Gl W ps->aJ w1 W->bI W (x1,x2,x3) (aN bf s3).1->∀W',aJ W W'->H K 185 #[U (M ⟨g,0,O⟩)] W' fun e w'=> ∃u1 u2 u3,e=G (Z u1 u2 u3)/\dG w' (u1,u2,u3) (aX bf yU).1/\dI w' g (aX bf yU).2 bf ps/\Gl w' ps/\aJ w1 w'/\Xb W' w'/\bI w' (x1,x2,x3) (aN bf s3).1/\∀y l,dG W y l->dG w' y l):=fun W yU x1 x2 x3 hr OY hg hx W' hW=>(XV (hr.aM hW) (OY.aM hW) bbd.1 (by omega)).mono (by
   rintro e w' ⟨u1,u2,u3,a,b,c,d⟩;exact⟨u1,u2,u3,a,b,c,(OY.aM hW).og (hr.aM hW) d,zU (hg.then hW) d HGN.out.2,Xb.og (hr.aM hW) d,(hx.aM hW).rg (hr.aM hW) d,fun y l hy=>(hy.aM hW).rg (hr.aM hW) d⟩)
  have cb8:=r8.bf;have cb8d:w8.drew.cell? ⟨g,1,O⟩=M (I V bf):=cb8;have R8:Hid (∀W,aJ w8 W->dI W g s3 bf ps):=fun W hW=>r8.aM hW
  clear r8 g8
  go_cut [12] (fun p wc=> ∃(sb:Nat) (x u r:gN),p=U (M ⟨sb,0,O⟩)/\Hid (Un w1 wc g sb (aX bf (aX bf (aN bf s3).2).2).2 dn bf ps x u r (aN bf s3).1 (aX bf (aN bf s3).2).1 (aX bf (aX bf (aN bf s3).2).2).1))
  case first=>
   go_region_held3 (fun w'=>w'.cell? ⟨g,1,O⟩=M (I V bf))
    (first|(with_reducible exact cb8)|(with_reducible exact cb8d)|(with_reducible exact r9.bf)|(with_reducible exact r10.bf)|(with_reducible exact r11.bf)|(refine dI.bf (R8.out _ ?_);with_reducible (exact aJ.drew (aJ.alloc (aJ.refl _) _)))|(refine dI.bf (dI.aM r9 ?_);with_reducible (exact aJ.alloc (aJ.refl _) _))|(refine dI.bf (dI.aM r10 ?_);with_reducible (exact aJ.alloc (aJ.refl _) _))|(refine dI.bf (dI.aM r11 ?_);with_reducible (exact aJ.alloc (aJ.refl _) _))|(with_reducible exact(dI.st5 r11 zh.out _ _ _ _ _).bf))
    (first
     |(go_at_call 184;refine(HPC.out _ (by repeat (first|exact aJ.refl _|refine aJ.alloc ?_ _|refine aJ.drew ?_))).mono ?_;clear HPC;rintro e w9 ⟨x1,x2,x3,rfl,lx9,r9,g9,G9,k9⟩;have Ck:=HED.out w9 _ x1 x2 x3 r9 g9 G9 lx9)|(go_at_call 185;refine(Ck _ (by repeat (first|exact aJ.refl _|refine aJ.alloc ?_ _|refine aJ.drew ?_))).mono ?_;clear Ck;rintro e PV ⟨u1,u2,u3,rfl,lu10,r10,g10,G10,k10,lx10,-⟩;have he2:=HED.out PV _ x1 x2 x3 r10 g10 G10 lx10)|(go_at_call 185;refine(he2 _ (by repeat (first|exact aJ.refl _|refine aJ.alloc ?_ _|refine aJ.drew ?_))).mono ?_;clear he2;rintro e XY ⟨v1,v2,v3,rfl,lr11,r11,g11,G11,bg,lx11,kk11⟩;first|(refine Zq (bg _ _ (k10 _ _ (k9 _ _ (heap_alloc_new w8 _)))) ?_;intro z0 z1 z2 z3 z4 zf zh)|(refine Zq (bg _ _ (k10 _ _ (heap_alloc_new w9 _))) ?_;intro z0 z1 z2 z3 z4 zf zh)|(refine Zq (bg _ _ (heap_alloc_new PV _)) ?_;intro z0 z1 z2 z3 z4 zf zh)|skip))
   all_goals have hlu:=kk11 _ _ lu10
   ·have ga:=(aJ.refl XY).alloc (C #[I V dn,I V bf,Z x1 x2 x3,Z u1 u2 u3,Z v1 v2 v3] 105);have HF:Hid (Un w1 (XY.alloc (C #[I V dn,I V bf,Z x1 x2 x3,Z u1 u2 u3,Z v1 v2 v3] 105)) g XY.heap.size (aX bf (aX bf (aN bf s3).2).2).2 dn bf ps (x1,x2,x3) (u1,u2,u3) (v1,v2,v3) (aN bf s3).1 (aX bf (aN bf s3).2).1 (aX bf (aX bf (aN bf s3).2).2).1):=Un.mk (r11.aM ga) (g11.aM ga) (G11.then ga) (heap_alloc_new XY _) (lx11.aM ga) (hlu.aM ga) (lr11.aM ga) G11.le;clear ga
    go_wp2_with fail
    go_meet;exact⟨_,_,_,_,rfl,HF⟩
   ·have HF:Hid (Un w1 (((((XY.setCell ⟨PV.heap.size,0,O⟩ (I V dn)).setCell ⟨PV.heap.size,1,O⟩ (I V bf)).setCell ⟨PV.heap.size,2,O⟩ (Z x1 x2 x3)).setCell ⟨PV.heap.size,3,O⟩ (Z u1 u2 u3)).setCell ⟨PV.heap.size,4,O⟩ (Z v1 v2 v3)) g PV.heap.size (aX bf (aX bf (aN bf s3).2).2).2 dn bf ps (x1,x2,x3) (u1,u2,u3) (v1,v2,v3) (aN bf s3).1 (aX bf (aN bf s3).2).1 (aX bf (aX bf (aN bf s3).2).2).1):=Un.st5 (x:=(x1,x2,x3)) (u:=(u1,u2,u3)) (r:=(v1,v2,v3)) zh.out G10.le r11 g11 G11 lx11 hlu lr11;clear z0 z1 z2 z3 z4 zf
    go_wp2_with fail
    go_meet;exact⟨_,_,_,_,rfl,HF⟩
   ·have HF:Hid (Un w1 (((((XY.setCell ⟨w9.heap.size,0,O⟩ (I V dn)).setCell ⟨w9.heap.size,1,O⟩ (I V bf)).setCell ⟨w9.heap.size,2,O⟩ (Z x1 x2 x3)).setCell ⟨w9.heap.size,3,O⟩ (Z u1 u2 u3)).setCell ⟨w9.heap.size,4,O⟩ (Z v1 v2 v3)) g w9.heap.size (aX bf (aX bf (aN bf s3).2).2).2 dn bf ps (x1,x2,x3) (u1,u2,u3) (v1,v2,v3) (aN bf s3).1 (aX bf (aN bf s3).2).1 (aX bf (aX bf (aN bf s3).2).2).1):=Un.st5 (x:=(x1,x2,x3)) (u:=(u1,u2,u3)) (r:=(v1,v2,v3)) zh.out G9.le r11 g11 G11 lx11 hlu lr11;clear z0 z1 z2 z3 z4 zf
    go_wp2_with fail
    go_meet;exact⟨_,_,_,_,rfl,HF⟩
   ·have HF:Hid (Un w1 (((((XY.setCell ⟨w8.heap.size,0,O⟩ (I V dn)).setCell ⟨w8.heap.size,1,O⟩ (I V bf)).setCell ⟨w8.heap.size,2,O⟩ (Z x1 x2 x3)).setCell ⟨w8.heap.size,3,O⟩ (Z u1 u2 u3)).setCell ⟨w8.heap.size,4,O⟩ (Z v1 v2 v3)) g w8.heap.size (aX bf (aX bf (aN bf s3).2).2).2 dn bf ps (x1,x2,x3) (u1,u2,u3) (v1,v2,v3) (aN bf s3).1 (aX bf (aN bf s3).2).1 (aX bf (aX bf (aN bf s3).2).2).1):=Un.st5 (x:=(x1,x2,x3)) (u:=(u1,u2,u3)) (r:=(v1,v2,v3)) zh.out G8.out.le r11 g11 G11 lx11 hlu lr11;clear z0 z1 z2 z3 z4 zf
    go_wp2_with fail
    go_meet;exact⟨_,_,_,_,rfl,HF⟩
  case rest=>
   obtain⟨sb,⟨x1,x2,x3⟩,⟨u1,u2,u3⟩,⟨v1,v2,v3⟩,rfl,HC⟩:=hcut
   rename F=>w12
   have HF1:Hid (∀W y1 y2 y3,dG W (y1,y2,y3) ((aX bf (aN bf s3).2).1.map yL)->H K 188 #[I V (sz (aN bf s3).1),Z y1 y2 y3] W fun e w'=>e=G (.bool (nP (sz (aN bf s3).1) ((aX bf (aN bf s3).2).1.map yL)))/\aJ W w'):=fun W y1 y2 y3 hy=>by
    have hp:=qD (bf:=bf) (by omega) s3;have he:=wM (bf:=bf) (by omega) (aN bf s3).2;cases hs:(aN bf s3).2 with
    |none=>
     rw[hs,zT]at hy;have e:nP (sz (aN bf s3).1) (List.map yL (aX bf O).1)=true:=rfl;rw[e];exact II (x:=(y1,y2,y3)) hy
    |some lq=>
     rw[hs]at hy he
     exact TU (x:=(y1,y2,y3)) hy (by simp;omega) (oN hp.1) (hp.2.2 _ hs) (fun e hm=>by
      obtain⟨e0,h0,rfl⟩:=List.mem_map.1 hm;obtain⟨-,q1,q2,q3,q4⟩:=he.1 e0 h0;exact⟨q2,q1,q4,q3⟩)
   have HF2:Hid (∀W,dG W (v1,v2,v3) (aX bf (aX bf (aN bf s3).2).2).1->H K 188 #[I V (sz (aN bf s3).1),Z v1 v2 v3] W fun e w'=>e=G (.bool (nP (sz (aN bf s3).1) (aX bf (aX bf (aN bf s3).2).2).1))/\aJ W w'):=fun W hy=>by
    have hp:=qD (bf:=bf) (by omega) s3;have he:=wM (bf:=bf) (by omega) (aX bf (aN bf s3).2).2;cases hs:(aN bf s3).2 with
    |none=>
     rw[hs,zT]at hy;have e:nP (sz (aN bf s3).1) (aX bf (aX bf O).2).1=true:=rfl;rw[e];exact II (x:=(v1,v2,v3)) hy
    |some lq=>
     rw[hs]at hy he;exact TU (x:=(v1,v2,v3)) hy (by omega) (oN hp.1) (hp.2.2 _ hs) (fun e hm=>(he.1 e hm).2)
   have HBY:Hid (∀W,bI W (x1,x2,x3) (aN bf s3).1->H K 187 #[Z x1 x2 x3] W fun e w'=>e=G (I V (sz (aN bf s3).1))/\aJ W w'):=fun W hW=>by
    have hp:=qD (bf:=bf) (by omega) s3;exact sW (x:=(x1,x2,x3)) hW hp.1 (by omega)
   have HTU:Hid (∀W,dG W (u1,u2,u3) (aX bf (aN bf s3).2).1->H K 189 #[Z u1 u2 u3] W fun e w'=> ∃y1 y2 y3,e=G (Z y1 y2 y3)/\dG w' (y1,y2,y3) ((aX bf (aN bf s3).2).1.map yL)/\aJ W w'):=fun W hW=>by
    have he:=wM (bf:=bf) (by omega) (aN bf s3).2;exact PK (x:=(u1,u2,u3)) hW (by omega)
   have HCK3:Hid (vU l buf=match gB (nP (sz (aN bf s3).1) (aX bf (aX bf (aN bf s3).2).2).1) (gB (nP (sz (aN bf s3).1) ((aX bf (aN bf s3).2).1.map yL)) (gB ((aX bf (aX bf (aN bf s3).2).2).2==M []) (aX bf (aX bf (aN bf s3).2).2).2))with
    |none=>O
    |some _=>M (ep,((aN bf s3).1,(aX bf (aN bf s3).2).1,(aX bf (aX bf (aN bf s3).2).2).1,dn,bf))):=HCK.out
   generalize (aX bf (aX bf (aN bf s3).2).2).2=sr at*;generalize (aX bf (aX bf (aN bf s3).2).2).1=rl at*;generalize (aX bf (aN bf s3).2).1=ul at*;generalize (aN bf s3).1=t at*
   have HAS:Hid (∀W yU (sx:ByteArray) (right:Bool),Un w1 W g sb yU dn bf ps (x1,x2,x3) (u1,u2,u3) (v1,v2,v3) t ul rl->H K 186 #[U (M ⟨g,0,O⟩),.string sx,.bool right] W fun e w'=>e=G (.tuple #[])/\Un w1 w' g sb (gB right yU) dn bf ps (x1,x2,x3) (u1,u2,u3) (v1,v2,v3) t ul rl):=fun W yU sx right hW=>(Dq hW.rg hW.gl).mono (by
    rintro e w' ⟨a,b,c⟩;exact⟨a,hW.ask HGN.out.2 b c⟩)
   obtain⟨nao,nn,nc,cn,hnn⟩:=HC.out.rg.rest;have ha1:=HAS.out w12 sr ⟨#[105,116,115,32,101,110,100]⟩ ((nn:Int)==0) HC.out;rw[vk hnn]at ha1;clear hnn HCK HPC HED R8 cb8 cb8d HC G8;generalize hf1:nP (sz t) (ul.map yL)=f1 at*;generalize MN:nP (sz t) rl=f2 at*;generalize Xd:gB (sr==M []) sr=q1 at*;generalize sz t=zt at*;clear hf1 MN Xd
   go_upto_region 11 with(go_at_call 186;refine ha1.mono ?_;rintro e w13 ⟨rfl,c13⟩)
   clear ha1 cn;obtain⟨-,-,k2,-,-⟩:=c13.cells;have EN:=HBY.out w13 c13.lx;simp only[gN.v]at k2;clear HBY
   go_upto_region 12 with(go_at_call 187;refine EN.mono ?_;rintro e PW ⟨rfl,hg14⟩)
   have c14:=c13.aM hg14;obtain⟨-,-,-,k3,-⟩:=c14.cells;simp only[gN.v]at k3;have htu:=HTU.out PW c14.lu;clear EN k2 HTU c13 hg14
   go_upto_region 13 with(first
    |(go_at_call 189;refine htu.mono ?_;clear htu;rintro e w15 ⟨y1,y2,y3,rfl,ey15,hg15⟩;have c15:=c14.aM hg15;have hf1:=HF1.out w15 y1 y2 y3 ey15)
    |(go_at_call 188;refine hf1.mono ?_;clear hf1;rintro e w16 ⟨rfl,hg16⟩;have c16:=c15.aM hg16;have FJ:=HAS.out w16 q1 ⟨#[105,116,115,32,101,100,105,116,115,32,116,104,97,116,32,99,97,110,32,98,101,32,117,110,100,111,110,101]⟩ f1 c16)
    |(go_at_call 186;refine FJ.mono ?_;clear FJ;rintro e w17 ⟨rfl,c17⟩))
   obtain⟨-,-,-,-,k4⟩:=c17.cells;simp only[gN.v]at k4;have MN:=HF2.out w17 c17.lr;clear k3 c14 c15 c16 hg15 hg16 ey15 HF1 HF2
   go_upto_region 14 with(first
    |(go_at_call 188;refine MN.mono ?_;clear MN;rintro e w18 ⟨rfl,hg18⟩;have c18:=c17.aM hg18;have UE:=HAS.out w18 (gB f1 q1) ⟨#[105,116,115,32,101,100,105,116,115,32,116,104,97,116,32,99,97,110,32,98,101,32,100,111,110,101,32,97,103,97,105,110]⟩ f2 c18)
    |(go_at_call 186;refine UE.mono ?_;clear UE;rintro e Tw ⟨rfl,PX⟩))
   clear k4 c17 c18 hg18 HAS;have HRZ:Hid (Tw.heap[w.heap.size]?=M (C #[I V 0,I V 0,Z O 0 0,Z O 0 0,Z O 0 0] 105 (0,0))):=(PX.gr.block _ (aK TY.out)).trans TY.out;obtain⟨⟨z0,z1,z2,z3,z4⟩,zf⟩:=oP HRZ.out;cases hf3:gB f2 (gB f1 q1)with
   |none=>
    rw[hf3]at PX;have HE:Hid (vU l buf=O):=by show _=_;rw[HCK3.out,hf3]
    obtain⟨_,_,_,te,be,hbe,hee⟩:=PX.rg;obtain⟨-,-,ke,-⟩:=jQ hbe;have ked:Tw.drew.cell? ⟨g,2,O⟩=M (.iface te (U (M be))):=ke;have HBE:Hid (Tw.heap[g]?=_):=hbe;have HEL:Hid (jG Tw ps 1 (.iface te (U (M be))) 11):=hee;have HNE:Hid (g≠w.heap.size):=by have:=HGN.out.1;show g≠_;omega
    have HGW:Hid (aJ w Tw):=HW1.out.then PX.gr;clear hbe hee PX HCK3 hf3 HGN TY HW1 gX hl kT bX bbd bhi
    go_upto_region 15 with fail
    go_region_held3 (fun w'=>w'.cell? ⟨g,2,O⟩=M (.iface te (U (M be)))) (first|(with_reducible exact ke)|(with_reducible exact ked)|(with_reducible exact(IJ HBE.out HNE.out _ _ _ _ _).2)|(with_reducible exact(IJ HBE.out HNE.out _ _ _ _ _).1)) (fail)
    all_goals go_wp2_with fail
    all_goals refine bodyPost_ret (v:= .tuple #[I V 0,.agg #[I V 0,I V 0,Z O 0 0,Z O 0 0,Z O 0 0],.iface te (U (M be))]) (by simp[results,Tryz.results123,go_sem, *]) rfl ?_
    all_goals rw[HE.out]
    all_goals have hF:=xS Tw w.heap.size (I V 0) (I V 0) (Z O 0 0) (Z O 0 0) (Z O 0 0)
    all_goals have hE:=(HEL.out.fr hF (fun _ _ hb=>Qp HRZ.out _ _ _ _ hb (by decide)) (fun _ _ hb=>Qp HRZ.out _ _ _ _ hb (by decide))).aM (aJ.drew (aJ.refl _))
    all_goals have hGG:=aJ.drew (pV HGW.out (Nat.le_refl _) (I V 0) (I V 0) (Z O 0 0) (Z O 0 0) (Z O 0 0))
    all_goals exact⟨⟨te,be,rfl,hE⟩,hGG⟩
   |some lz=>
    rw[hf3]at PX;have HE:Hid (vU l buf=M (ep,(t,ul,rl,dn,bf))):=by show _=_;rw[HCK3.out,hf3]
    obtain⟨_,_,_,-,-,ke,-⟩:=rD.cells PX.rg;have Ba:=PX.box;have hsb:=PX.sbn;have DV:=aK TY.out;obtain⟨m0,m1,m2,m3,m4⟩:=PX.cells;simp only[gN.v]at m2 m3 m4 Ba;have md:Tw.drew.cell? ⟨sb,0,O⟩=M (I V dn)/\Tw.drew.cell? ⟨sb,1,O⟩=M (I V bf)/\Tw.drew.cell? ⟨sb,2,O⟩=M (Z x1 x2 x3)/\Tw.drew.cell? ⟨sb,3,O⟩=M (Z u1 u2 u3)/\Tw.drew.cell? ⟨sb,4,O⟩=M (Z v1 v2 v3):=⟨m0,m1,m2,m3,m4⟩;have HMD:Hid (Tw.drew.cell? ⟨sb,0,O⟩=M (I V dn)/\Tw.drew.cell? ⟨sb,1,O⟩=M (I V bf)/\Tw.drew.cell? ⟨sb,2,O⟩=M (Z x1 x2 x3)/\Tw.drew.cell? ⟨sb,3,O⟩=M (Z u1 u2 u3)/\Tw.drew.cell? ⟨sb,4,O⟩=M (Z v1 v2 v3)):=md;have HBX:Hid (Tw.heap[sb]?=_):=Ba;have HNE:Hid (sb≠w.heap.size):=by show sb≠_;omega
    have HGW:Hid (aJ w Tw):=HW1.out.then PX.gr;have HLL:Hid (bI Tw (x1,x2,x3) t/\dG Tw (u1,u2,u3) ul/\dG Tw (v1,v2,v3) rl):=⟨PX.lx,PX.lu,PX.lr⟩;clear Ba PX HCK3 hf3 md hsb DV HGN TY HW1 gX hl kT bX bbd bhi
    go_upto_region 16 with fail
    go_region_held3 (fun w'=>w'.cell? ⟨sb,0,O⟩=M (I V dn)/\w'.cell? ⟨sb,1,O⟩=M (I V bf)/\w'.cell? ⟨sb,2,O⟩=M (Z x1 x2 x3)/\w'.cell? ⟨sb,3,O⟩=M (Z u1 u2 u3)/\w'.cell? ⟨sb,4,O⟩=M (Z v1 v2 v3)) (first|(with_reducible exact HMD.out)|(with_reducible exact⟨m0,m1,m2,m3,m4⟩)|(with_reducible exact(IK HBX.out HNE.out _ _ _ _ _).2)|(with_reducible exact(IK HBX.out HNE.out _ _ _ _ _).1)) (fail)
    all_goals go_wp2_with fail
    all_goals refine bodyPost_ret (v:= .tuple #[I V ep,.agg #[I V dn,I V bf,Z x1 x2 x3,Z u1 u2 u3,Z v1 v2 v3],.nilIface]) (by simp[results,Tryz.results123,go_sem, *]) rfl ?_
    all_goals rw[HE.out]
    all_goals have hF:=xS Tw w.heap.size (I V dn) (I V bf) (Z x1 x2 x3) (Z u1 u2 u3) (Z v1 v2 v3)
    all_goals have hn:=Qp HRZ.out
    all_goals have hX:=(HLL.out.1.fr hF (fun _ _ hb=>hn _ _ _ _ hb (by decide))).aM (aJ.drew (aJ.refl _))
    all_goals have hU:=(HLL.out.2.1.fr hF (fun _ _ hb=>hn _ _ _ _ hb (by decide)) (fun _ _ hb=>hn _ _ _ _ hb (by decide))).aM (aJ.drew (aJ.refl _))
    all_goals have hV:=(HLL.out.2.2.fr hF (fun _ _ hb=>hn _ _ _ _ hb (by decide)) (fun _ _ hb=>hn _ _ _ _ hb (by decide))).aM (aJ.drew (aJ.refl _))
    all_goals have hGG:=aJ.drew (pV HGW.out (Nat.le_refl _) (I V dn) (I V bf) (Z x1 x2 x3) (Z u1 u2 u3) (Z v1 v2 v3))
    all_goals exact⟨⟨(x1,x2,x3),(u1,u2,u3),(v1,v2,v3),rfl,hX,hU,hV⟩,hGG⟩
end Go.Proofs.YtfplgfodoiiobaaGreatDoor
