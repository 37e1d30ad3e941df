/- LgF, LgG (joined). -/
import Derived.Test.YtfplgfodoiiobaaGreatDoorJ25
open Option renaming none→O,some→M
open Go.Value renaming int→I,slice→Z,pointer→U
open Go.IntKind renaming i64→V
open Go.Obj renaming cells→C
open Go.Ending renaming returned→G
open Go renaming World→F,Value→Y,Calls→H
open Go.Proofs.Tryz renaming prog→K
namespace Go.Proofs.YtfplgfodoiiobaaGreatDoor
set_option maxHeartbeats 4000000
set_option maxRecDepth 100000
open Go.RowKit
variable {g k n B:Nat}{w wr w5:F}{ps:Nat->Addr}{st:Option (List UInt8)}{l:List UInt8}{v:Y}{cs:List Y}{o:Obj}
def rgB (ao:Option Addr)(n c:Nat)(bf:Int)(ev:Y):Obj:=C #[Z ao n c,I V bf,ev] 266 (0,0)
def qG (w:F)(g:Nat)(l:List UInt8)(bf:Int):Prop:=∃(b off c:Nat),w.heap[g]?=M (rgB (M ⟨b,off,O⟩) l.length c bf .nilIface)/\l.length<=c/\lZ w (M ⟨b,off,O⟩) l/\∃aQ f,w.heap[b]?=M (C aQ 5 f)
def Nw (w:F)(g:Nat)(bf:Int)(ps:Nat->Addr):Prop:=∃(ao:Option Addr) (n c t:Nat) (b:Addr),w.heap[g]?=M (rgB ao n c bf (.iface t (U (M b))))/\iX w ps 1 (.iface t (U (M b))) 11
def dD (w:F)(g:Nat)(st:Option (List UInt8))(bf:Int)(ps:Nat->Addr):Prop:=match st with
 |some l=>qG w g l bf
 |none=>Nw w g bf ps
theorem jF {ao:Option Addr}{c:Nat}{bf:Int}{ev:Y}(h:w.heap[g]?=M (rgB ao n c bf ev)):w.cell? ⟨g,0,O⟩=M (Z ao n c)/\w.cell? ⟨g,1,O⟩=M (I V bf)/\w.cell? ⟨g,2,O⟩=M ev/\∀j,w.frozen? ⟨g,j,O⟩=false:=by
 simp[World.cell?,World.frozen?,h,rgB]
theorem dD.Qy {bf:Int}(h:dD w g st bf ps):∃aQ,w.heap[g]?=M (C aQ 266 (0,0)):=by
 cases st with
 |some l=>obtain⟨b,off,c,hb,-⟩:=h;exact⟨_,hb⟩
 |none=>obtain⟨ao,n,c,t,b,hb,-⟩:=h;exact⟨_,hb⟩
theorem dD.aM {w':F}{bf:Int}(h:dD w g st bf ps)(hg:aK w w'):dD w' g st bf ps:=by
 cases st with
 |some l=>
  obtain⟨b,off,c,hb,hc,hr,aQ,f,ht⟩:=h;exact⟨b,off,c,(hg.block _ (aL hb)).trans hb,hc,hr.aM hg,aQ,f,(hg.block _ (aL ht)).trans ht⟩
 |none=>
  obtain⟨ao,n,c,t,b,hb,he⟩:=h;exact⟨ao,n,c,t,b,(hg.block _ (aL hb)).trans hb,he.aM hg⟩
theorem Gl.og {w':F}{bf:Int}(h:Gl w ps)(hr:dD w g st bf ps)(ho:Og w w' g):Gl w' ps:=by
 obtain⟨aQ,hc⟩:=hr.Qy;exact h.fr ho.1 (fun b c hb=>aW hb hc (by decide)) (fun b c t g hb=>aW hb hc (g.ne (by decide))) (fun b c hb=>aW hb hc (by decide)) (fun b c hb=>aW hb hc (by decide))
def fV (right:Bool)(st:Option (List UInt8)):Option (List UInt8):=if right then st else O
theorem Cg {bf:Int}{s:ByteArray}{right:Bool}(h:dD w g st bf ps)(hG:Gl w ps):
 H K 186 #[U (M ⟨g,0,O⟩),.string s,.bool right] w fun e w'=>e=G (.tuple #[])/\dD w' g (fV right st) bf ps/\Og w w' g:=by
 cases st with
 |none=>
  have HR:Hid (dD w g (fV right O) bf ps):=by show dD _ _ _ _ _;unfold fV;cases right<;>exact h
  obtain⟨ao,n,c,t,b,hb,he⟩:=h;obtain⟨c0,c1,c2,cf⟩:=jF hb;clear hb he;go_enter Tryz.func186,Tryz.ntmps186
  go_wp2_with fail
  go_end0;exact⟨rfl,HR.out,Og.refl w g⟩
 |some l=>
  cases right with
  |true=>
   have HR:Hid (dD w g (fV true (M l)) bf ps):=h;obtain⟨b,off,c,hb,-⟩:=h;obtain⟨c0,c1,c2,cf⟩:=jF hb;clear hb;go_enter Tryz.func186,Tryz.ntmps186
   go_wp2_with fail
   go_end0;exact⟨rfl,HR.out,Og.refl w g⟩
  |false=>
   obtain⟨b,off,c,hb,-⟩:=h;obtain⟨c0,c1,c2,cf⟩:=jF hb;have gc:=hG.sM.cell (k:=3) (by omega)
   have Kk:Hid (H K 81 #[.string s,gP (ps 3)] w fun e w'=> ∃t b0,e=G (.iface t (U (M b0)))/\iX w' ps 1 (.iface t (U (M b0))) 11/\aK w w'):=by
    have he:iX w ps 0 (gP (ps 3)) 11:=Or.inr ⟨0,3,Nat.le_refl _,by omega,rfl,rfl⟩;refine(Az he).mono ?_;rintro e w' ⟨v',rfl,h1,h2⟩;obtain⟨t,b0,rfl⟩:=h1.yes (by omega);exact⟨t,b0,rfl,h1,h2⟩
   have HK:Hid (∀w4 t b0,aK w w4->iX w4 ps 1 (.iface t (U (M b0))) 11->w4.cell? ⟨g,2,O⟩=M .nilIface/\w4.frozen? ⟨g,2,O⟩=false/\dD (w4.setCell ⟨g,2,O⟩ (.iface t (U (M b0)))) g (fV false (M l)) bf ps/\Og w (w4.setCell ⟨g,2,O⟩ (.iface t (U (M b0)))) g):=fun w4 t b0 h4 he=>by
    have Kv:=(h4.block _ (aL hb)).trans hb;obtain⟨-,-,d2,df⟩:=jF Kv;have hF:=Fr.set w4 ⟨g,2,O⟩ (.iface t (U (M b0)));refine⟨d2,df 2,⟨M ⟨b,off,O⟩,l.length,c,t,b0,?_,he.fr hF (fun b aQ mF=>aW mF Kv (by decide)) (fun b aQ mF=>aW mF Kv (by decide))⟩,((Og.refl w g).aM h4).set⟩;rw[heap_setCell_same w4 g 2 _ _ _ Kv];rfl
   unfold gP at gc Kk;clear hb hG;go_enter Tryz.func186,Tryz.ntmps186
   go_wp2_with (go_at_call 81;refine Kk.out.mono ?_;rintro e w4 ⟨t,b0,rfl,he4,lS⟩;obtain⟨k1,k2,k3,k4⟩:=HK.out w4 t b0 lS he4)
   go_end0;exact⟨rfl,k3,k4⟩
def qB (x:UInt8):Option (List UInt8)->Option (List UInt8)
 |some (y::l)=>if y=x then M l else O
 |_=>O
def aP (lo hi:Int):Option (List UInt8)->Int×Option (List UInt8)
 |none=>(0,O)
 |some l=>if l.length<4 then (0,O)else if eP l<lo\/hi<eP l then (0,O)else (eP l,M (l.drop 4))
theorem qG.drop {bf:Int}{b off c:Nat}(hb:w.heap[g]?=M (rgB (M ⟨b,off,O⟩) l.length c bf .nilIface))(hc:l.length<=c)(hr:lZ w (M ⟨b,off,O⟩) l)(ht:∃aQ f,w.heap[b]?=M (C aQ 5 f))(hk:k<=l.length)(ao:Option Addr)(ha:ao=if c=k then M ⟨b,off,O⟩else M ⟨b,off+k,O⟩):qG (w.setCell ⟨g,0,O⟩ (Z ao (l.length-k) (c-k))) g (l.drop k) bf/\Og w (w.setCell ⟨g,0,O⟩ (Z ao (l.length-k) (c-k))) g:=by
 obtain⟨aQ,f,ht⟩:=ht;have hF:=Fr.set w ⟨g,0,O⟩ (Z ao (l.length-k) (c-k));have hne:b≠g:=aW ht hb (by decide)
 have hs:(w.setCell ⟨g,0,O⟩ (Z ao (l.length-k) (c-k))).heap[g]?=M (rgB ao (l.length-k) (c-k) bf .nilIface):=by
  rw[heap_setCell_same w g 0 _ _ _ hb];rfl
 refine⟨?_,(Og.refl w g).set⟩;have Qb:=hr.drop k;by_cases hck:c=k
 ·rw[if_pos hck]at ha;subst ha;have gJ:l.drop k=[]:=List.drop_eq_nil_of_le (by omega);refine⟨b,off,c-k,by rw[List.length_drop];exact hs,by rw[List.length_drop];omega,by rw[gJ];exact lZ.nil _ _,aQ,f,hF.at ht hne⟩
 ·rw[if_neg hck]at ha;subst ha;exact⟨b,off+k,c-k,by rw[List.length_drop];exact hs,by rw[List.length_drop];omega,Qb.fr hF (fun a e=>by cases e;exact hne),aQ,f,hF.at ht hne⟩
theorem QN {bf:Int}{x:UInt8}(h:qG w g l bf)(hG:Gl w ps):
 H K 182 #[U (M ⟨g,0,O⟩),I .u8 (x.toNat:Int)] w fun e w'=>e=G (.tuple #[])/\dD w' g (qB x (M l)) bf ps/\Og w w' g:=by
 have HA:Hid (∀(s:ByteArray) (right:Bool),H K 186 #[U (M ⟨g,0,O⟩),.string s,.bool right] w fun e w'=>e=G (.tuple #[])/\dD w' g (fV right (M l)) bf ps/\Og w w' g):=fun s right=>Cg (st:=M l) h hG
 obtain⟨b,off,c,hb,hc,hr,ht⟩:=h;obtain⟨c0,c1,c2,cf⟩:=jF hb
 have HN:Hid (∀W,Nw W g bf ps->∃t b0,W.cell? ⟨g,2,O⟩=M (.iface t (U (M b0)))):=fun W hW=>by
  obtain⟨ao,n,c,t,b0,hb,-⟩:=hW;exact⟨t,b0,(jF hb).2.2.1⟩
 cases l with
 |nil=>
  have SL:Hid (H K 186 #[U (M ⟨g,0,O⟩),.string ⟨#[105,116,115,32,108,101,116,116,101,114]⟩,.bool false] w fun e w'=>e=G (.tuple #[])/\dD w' g O bf ps/\Og w w' g):=HA.out _ false;clear hb hr ht hG HA;go_enter Tryz.func182,Tryz.ntmps182
  go_wp2_with (go_at_call 186;refine SL.out.mono ?_;rintro e w4 ⟨rfl,Hy,Qd⟩;obtain⟨t4,b4,k4⟩:=HN.out w4 Hy)
  go_end0;exact⟨rfl,Hy,Qd⟩
 |cons y l=>
  have hy:w.cell? ⟨b,off,O⟩=M (I .u8 (y.toNat:Int)):=by
   rcases hr with hx|⟨b',Lx,e,UI⟩
   ·cases hx
   ·cases e;have:=UI 0 y rfl;simpa using this
  by_cases hxy:y=x
  ·subst hxy
   have XG:Hid (H K 186 #[U (M ⟨g,0,O⟩),.string ⟨#[105,116,115,32,108,101,116,116,101,114]⟩,.bool true] w fun e w'=>e=G (.tuple #[])/\∃b off c,w'.cell? ⟨g,0,O⟩=M (Z (M ⟨b,off,O⟩) (l.length+1) c)/\w'.cell? ⟨g,2,O⟩=M .nilIface/\w'.frozen? ⟨g,0,O⟩=false/\l.length+1<=c/\(∀ao,ao=(if c=1 then M ⟨b,off,O⟩else M ⟨b,off+1,O⟩)->dD (w'.setCell ⟨g,0,O⟩ (Z ao l.length (c-1))) g (M l) bf ps/\Og w (w'.setCell ⟨g,0,O⟩ (Z ao l.length (c-1))) g)):=(HA.out _ true).mono (by
    rintro e w' ⟨rfl,⟨b',Lx,c',mF,jk,Kb,ht'⟩,OP⟩;obtain⟨d0,-,d2,df⟩:=jF mF;refine⟨rfl,b',Lx,c',d0,d2,df 0,by simpa using jk,fun ao ha=>?_⟩;obtain⟨q1,q2⟩:=qG.drop (k:=1) mF jk Kb ht' (by simp) ao ha;exact⟨q1,OP.trans q2⟩)
   have HE:Hid (qB y (M (y::l))=M l):=by show _=_;simp[qB]
   clear hb hr ht hG HA;have j1:(0:Int)<((l.length+1:Nat):Int):=by omega
   have j2:(0:Int)<(l.length:Int)+1:=by omega
   have j3:(1:Int)<=(l.length:Int)+1:=by omega
   simp only[List.length_cons]at c0;go_enter Tryz.func182,Tryz.ntmps182
   go_upto_region 1 with(go_at_call 186;refine XG.out.mono ?_;rintro e w4 ⟨rfl,b4,QO,c4,k0,k2,kf,kc,hk⟩)
   have HKK:Hid (∀ao,ao=(if c4=1 then M ⟨b4,QO,O⟩else M ⟨b4,QO+1,O⟩)->dD (w4.setCell ⟨g,0,O⟩ (Z ao l.length (c4-1))) g (M l) bf ps/\Og w (w4.setCell ⟨g,0,O⟩ (Z ao l.length (c4-1))) g):=hk;clear hk;by_cases Da:c4=1
   ·have q:=HKK.out _ (if_pos Da).symm
    have Q:Hid (dD (w4.setCell ⟨g,0,O⟩ (Z (M ⟨b4,QO,O⟩) l.length 0)) g (M l) bf ps/\Og w (w4.setCell ⟨g,0,O⟩ (Z (M ⟨b4,QO,O⟩) l.length 0)) g):=by
     rw[Da]at q;exact q
    clear q HKK;have e0:l=[]:=List.eq_nil_of_length_eq_zero (by omega);subst Da e0
    go_wp2_with fail
    go_end0;rw[HE.out];exact⟨rfl,Q.out.1,Q.out.2⟩
   ·have Q:Hid _:=HKK.out _ (if_neg Da).symm;clear HKK
    go_wp2_with fail
    go_end0;rw[HE.out];exact⟨rfl,Q.out.1,Q.out.2⟩
  ·have SL:Hid (H K 186 #[U (M ⟨g,0,O⟩),.string ⟨#[105,116,115,32,108,101,116,116,101,114]⟩,.bool false] w fun e w'=>e=G (.tuple #[])/\dD w' g O bf ps/\Og w w' g):=HA.out _ false;have HE:Hid (qB x (M (y::l))=O):=by show _=_;simp[qB,hxy]
   have hne:(((y.toNat:Nat):Int)==((x.toNat:Nat):Int))=false:=by
    rw[beq_eq_false_iff_ne];intro e;exact hxy (UInt8.toNat_inj.1 (by omega))
   clear hb hr ht hG HA;have j1:(0:Int)<((l.length+1:Nat):Int):=by omega
   have j2:(0:Int)<(l.length:Int)+1:=by omega
   simp only[List.length_cons]at c0;go_enter Tryz.func182,Tryz.ntmps182
   go_wp2_with (go_at_call 186;refine SL.out.mono ?_;rintro e w4 ⟨rfl,Hy,Qd⟩;obtain⟨t4,b4,k4⟩:=HN.out w4 Hy)
   go_end0;rw[HE.out];exact⟨rfl,Hy,Qd⟩
theorem qG.cells {bf:Int}(h:qG w g l bf):∃b off c,w.cell? ⟨g,0,O⟩=M (Z (M ⟨b,off,O⟩) l.length c)/\w.cell? ⟨g,1,O⟩=M (I V bf)/\w.cell? ⟨g,2,O⟩=M .nilIface/\l.length<=c/\w.frozen? ⟨g,0,O⟩=false/\lZ w (M ⟨b,off,O⟩) l:=by
 obtain⟨b,off,c,hb,hc,hr,-⟩:=h;obtain⟨c0,c1,c2,cf⟩:=jF hb;exact⟨b,off,c,c0,c1,c2,hc,cf 0,hr⟩
theorem Nw.cells {bf:Int}(h:Nw w g bf ps):∃ao n c t b0,w.cell? ⟨g,0,O⟩=M (Z ao n c)/\w.cell? ⟨g,1,O⟩=M (I V bf)/\w.cell? ⟨g,2,O⟩=M (.iface t (U (M b0))):=by
 obtain⟨ao,n,c,t,b0,hb,-⟩:=h;obtain⟨c0,c1,c2,cf⟩:=jF hb;exact⟨ao,n,c,t,b0,c0,c1,c2⟩
theorem sN {bf lo hi:Int}{s:ByteArray}(h:dD w g st bf ps)(hG:Gl w ps):
 H K 183 #[U (M ⟨g,0,O⟩),.string s,I V lo,I V hi] w fun e w'=>e=G (I V (aP lo hi st).1)/\dD w' g (aP lo hi st).2 bf ps/\Og w w' g:=by
 cases st with
 |none=>
  have HA:Hid (∀(right:Bool),H K 186 #[U (M ⟨g,0,O⟩),.string s,.bool right] w fun e w'=>e=G (.tuple #[])/\dD w' g O bf ps/\Og w w' g):=fun right=>(Cg (right:=right) h hG).mono (by
   rintro e w' ⟨a,b,c⟩;have:fV right O=O:=by unfold fV;cases right<;>rfl
   rw[this]at b;exact⟨a,b,c⟩)
  obtain⟨ao,n,c,t,b0,c0,-,-⟩:=Nw.cells h;clear h hG;go_enter Tryz.func183,Tryz.ntmps183
  go_wp2_with (go_at_call 186;refine(HA.out _).mono ?_;rintro e w4 ⟨rfl,Hy,Qd⟩;obtain⟨_,_,_,t4,b4,-,-,k4⟩:=Nw.cells Hy)
  go_ret;exact⟨rfl,Hy,Qd⟩
 |some l=>
  obtain⟨b,off,c,c0,-,c2,hc,cf,hr⟩:=qG.cells h;by_cases hl:l.length<4
  ·have HA:Hid (H K 186 #[U (M ⟨g,0,O⟩),.string s,.bool false] w fun e w'=>e=G (.tuple #[])/\dD w' g O bf ps/\Og w w' g):=Cg (right:=false) h hG;have HE:Hid (aP lo hi (M l)=(0,O)):=by show _=_;simp[aP,hl]
   have hl':¬(4:Int)<=(l.length:Int):=by omega
   clear h hG hr;go_enter Tryz.func183,Tryz.ntmps183
   go_wp2_with (go_at_call 186;refine HA.out.mono ?_;rintro e w4 ⟨rfl,Hy,Qd⟩;obtain⟨_,_,_,t4,b4,-,-,k4⟩:=Nw.cells Hy)
   go_ret;rw[HE.out];exact⟨rfl,Hy,Qd⟩
  ·have hl':(4:Int)<=(l.length:Int):=by omega
   have hbd:=lJ l;have HA:Hid (H K 186 #[U (M ⟨g,0,O⟩),.string s,.bool true] w fun e w'=>e=G (.tuple #[])/\qG w' g l bf/\Og w w' g):=Cg (right:=true) h hG;have Hl:Hid (∀W,Og w W g->Gl W ps):=fun W hW=>hG.og h hW
   have HN:Hid (∀W b off c,lZ W (M ⟨b,off,O⟩) l->H K 234 #[Z (M ⟨b,off,O⟩) l.length c] W fun e w'=>e=G (I .u32 (eP l))/\aK W w'):=fun W b off c hW=>(Gv hW (by omega) (by omega)).mono (by
    rintro e w' ⟨rfl,q,rfl⟩;exact⟨rfl,bD (aK.refl W) q⟩)
   have HD:Hid (∀W,qG W g l bf->∃b off c,W.cell? ⟨g,0,O⟩=M (Z (M ⟨b,off,O⟩) l.length c)/\W.frozen? ⟨g,0,O⟩=false/\l.length<=c/\∀ao,ao=(if c=4 then M ⟨b,off,O⟩else M ⟨b,off+4,O⟩)->qG (W.setCell ⟨g,0,O⟩ (Z ao (l.length-4) (c-4))) g (l.drop 4) bf/\Og W (W.setCell ⟨g,0,O⟩ (Z ao (l.length-4) (c-4))) g):=fun W hW=>by
    obtain⟨b,off,c,hb,hc,hr,ht⟩:=hW;obtain⟨c0,c1,c2,cf⟩:=jF hb;exact⟨b,off,c,c0,cf 0,hc,fun ao ha=>qG.drop hb hc hr ht (by omega) ao ha⟩
   have HE:Hid (aP lo hi (M l)=if eP l<lo\/hi<eP l then (0,O)else (eP l,M (l.drop 4))):=by show _=_;simp only[aP];rw[if_neg hl]
   have HAF:Hid (∀W,qG W g (l.drop 4) bf->Og w W g->H K 186 #[U (M ⟨g,0,O⟩),.string s,.bool false] W fun e w'=>e=G (.tuple #[])/\dD w' g O bf ps/\Og w w' g):=fun W hW hO=>(Cg (right:=false) (st:=M (l.drop 4)) hW (Hl.out W hO)).mono (by
    rintro e w' ⟨a,b,c⟩;exact⟨a,b,hO.trans c⟩)
   clear h hG hr;go_enter Tryz.func183,Tryz.ntmps183
   go_upto_region 4 with(go_at_call 186;refine HA.out.mono ?_;rintro e w4 ⟨rfl,Hy,Qd⟩;obtain⟨b4,QO,c4,k0,-,k2,kc,kf,kr⟩:=qG.cells Hy)
   have AU:=HN.out w4 b4 QO c4 kr;have HR4:Hid (qG w4 g l bf):=Hy;clear Hy kr c0 c2;generalize eP l=nb at*;have WR:wrap64 nb=nb:=by unfold wrap64;omega
   go_upto_region 5 with(go_at_call 234;refine AU.mono ?_;rintro e w5 ⟨rfl,dY⟩)
   have GX:qG w5 g l bf:=dD.aM (st:=M l) (ps:=ps) HR4.out dY;obtain⟨b5,yg,c5,k5,kf5,kc5,hk5⟩:=HD.out w5 GX;have HO5:Hid (Og w w5 g):=Qd.aM dY;have HK5:Hid (∀ao,ao=(if c5=4 then M ⟨b5,yg,O⟩else M ⟨b5,yg+4,O⟩)->qG (w5.setCell ⟨g,0,O⟩ (Z ao (l.length-4) (c5-4))) g (l.drop 4) bf/\Og w5 (w5.setCell ⟨g,0,O⟩ (Z ao (l.length-4) (c5-4))) g):=hk5;clear hk5 GX AU k0 k2 kf dY Qd HR4 HA HN HD
   go_upto_region 6 with fail
   obtain⟨q5,q6⟩:=HK5.out _ rfl;have HQ5:Hid (qG _ g (l.drop 4) bf):=q5;have Ny:Hid (Og w _ g):=HO5.out.trans q6;clear HK5 q5 q6 k5 kf5 HO5;generalize (if c5=4 then M (⟨b5,yg,O⟩:Addr)else M ⟨b5,yg+4,O⟩)=jg at*;generalize (w5.setCell ⟨g,0,O⟩ (Z jg (l.length-4) (c5-4)))=w6 at*;by_cases wF:nb<lo
   ·have HE1:Hid (aP lo hi (M l)=(0,O)):=by show _=_;rw[HE.out,if_pos (Or.inl wF)]
    have hf6:=HAF.out w6 HQ5.out Ny.out;clear HE
    go_wp2_with (go_at_call 186;refine hf6.mono ?_;rintro e w7 ⟨rfl,IC,ho7⟩)
    go_ret;rw[HE1.out];exact⟨rfl,IC,ho7⟩
   ·by_cases Qb:hi<nb
    ·have HE1:Hid (aP lo hi (M l)=(0,O)):=by show _=_;rw[HE.out,if_pos (Or.inr Qb)]
     have hf6:=HAF.out w6 HQ5.out Ny.out;clear HE
     go_wp2_with (go_at_call 186;refine hf6.mono ?_;rintro e w7 ⟨rfl,IC,ho7⟩)
     go_ret;rw[HE1.out];exact⟨rfl,IC,ho7⟩
    ·have HE1:Hid (aP lo hi (M l)=(nb,M (l.drop 4))):=by show _=_;rw[HE.out,if_neg (by omega)]
     clear HE
     go_wp2_with fail
     go_ret;rw[HE1.out];exact⟨rfl,HQ5.out,Ny.out⟩
def qC (bf:Int)(l:List UInt8):(Int×Int)×Option (List UInt8):=
 (((aP 0 bf (M l)).1,(aP 1 5000 (aP 0 bf (M l)).2).1),fV (decide ((aP 0 bf (M l)).1+(aP 1 5000 (aP 0 bf (M l)).2).1<=bf)) (aP 1 5000 (aP 0 bf (M l)).2).2)
def qW (bf:Int):Nat->List (Int×Int)->List UInt8->Option (List (Int×Int)×List UInt8)
 |0,out,l=>M (out,l)
 |k+1,out,l=>match (qC bf l).2 with
  |none=>O
  |some l'=>qW bf k (out++ [(qC bf l).1]) l'
def Eu:Option (List (Int×Int)×List UInt8)->List (Int×Int)×Option (List UInt8)
 |none=>([],O)
 |some q=>(q.1,fV (decide (sz q.1<=5000)) (M q.2))
def aO (bf:Int)(st:Option (List UInt8)):List (Int×Int)×Option (List UInt8):=match (aP 0 4096 st).2 with
 |none=>([],O)
 |some l=>Eu (qW bf (aP 0 4096 st).1.toNat [] l)
def Vh (bf:Int)(N k:Nat)(out:List (Int×Int))(Ic:Option (List UInt8))(res:List (Int×Int)×Option (List UInt8)):Prop:=
 (Ic=O->N=0/\out=[]/\res=([],O))/\∀l,Ic=M l->res=Eu (qW bf (N-k) out l)
theorem Vh.done {bf:Int}{N:Nat}{out:List (Int×Int)}{Ic:Option (List UInt8)}{res:List (Int×Int)×Option (List UInt8)}(h:Vh bf N N out Ic res):res=(out,fV (decide (sz out<=5000)) Ic):=by
 cases Ic with
 |none=>obtain⟨-,rfl,e⟩:=h.1 rfl;rw[e];simp[sz,fV]
 |some l=>have:=h.2 l rfl;rw[Nat.sub_self]at this;exact this
theorem Vh.next {bf:Int}{N:Nat}{out:List (Int×Int)}{res:List (Int×Int)×Option (List UInt8)}(h:Vh bf N k out (M l) res)(hk:k<N):((qC bf l).2=O->res=([],O))/\∀l',(qC bf l).2=M l'->Vh bf N (k+1) (out++ [(qC bf l).1]) (M l') res:=by
 have:=h.2 l rfl;rw[show N-k=(N-(k+1))+1 from by omega,qW]at this;refine⟨fun e=>?_,fun l' e=>⟨fun e2=>(by cases e2),fun l2 e2=>?_⟩⟩
 ·rw[e]at this;exact this
 ·cases e2;rw[e]at this;exact this
theorem uF (lo hi:Int)(st:Option (List UInt8)):0<=(aP lo hi st).1/\(aP lo hi st).1<4294967296:=by
 cases st with
 |none=>simp[aP]
 |some l=>
  have:=lJ l;simp only[aP];split
  ·simp
  ·split
   ·simp
   ·exact this
theorem rQ {lo hi:Int}(h:(aP lo hi st).2=M l):lo<=(aP lo hi st).1/\(aP lo hi st).1<=hi/\∃l0,st=M l0/\4<=l0.length/\(aP lo hi st).1=eP l0/\l=l0.drop 4:=by
 cases st with
 |none=>simp[aP]at h
 |some l0=>
  simp only[aP]at h ⊢;split at h
  ·simp at h
  ·rename_i h1;split at h
   ·simp at h
   ·rename_i h2;rw[if_neg h1,if_neg h2];simp at h;exact⟨by omega,by omega,l0,rfl,by omega,rfl,h.symm⟩
theorem Nz {bf:Int}{l':List UInt8}(h:(qC bf l).2=M l'):0<=(qC bf l).1.1/\1<=(qC bf l).1.2/\(qC bf l).1.2<=5000/\(qC bf l).1.1+(qC bf l).1.2<=bf:=by
 unfold qC at h ⊢;simp only[fV]at h;split at h
 ·rename_i hd;have h2:=rQ h;have:=uF 0 bf (M l);simp only at hd ⊢;exact⟨this.1,h2.1,h2.2.1,of_decide_eq_true hd⟩
 ·cases h
theorem dD.bf {bf:Int}(h:dD w g st bf ps):w.cell? ⟨g,1,O⟩=M (I V bf):=by
 cases st with
 |none=>obtain⟨_,_,_,_,_,-,h,-⟩:=Nw.cells h;exact h
 |some l=>obtain⟨_,_,_,-,h,-⟩:=qG.cells h;exact h
theorem Og.own {t:TypeId}(hO:Og w wr g)(hB:w.heap.size<=B)(cZ:wr.ownsRow B t n v k cs)(hg:(wr.alloc o).grownBy w5 v.ownBlock):Og w w5 g:=by
 have h1:=kX hg;obtain⟨⟨a1,a2⟩,b1,b2,b3⟩:=hO;refine⟨⟨Nat.le_trans a1 h1.size,fun b hb hne=>?_⟩,h1.os.trans b1,h1.tape.trans b2,h1.output.trans b3⟩;rw[<-a2 b hb hne];refine h1.block b (Nat.lt_of_lt_of_le hb a1) (fun e=>?_);have:=(World.ownsRow.lt cZ b e.symm).1;omega
theorem dD.own {t:TypeId}{bf:Int}(h:dD wr g st bf ps)(cZ:wr.ownsRow B t n v k cs)(ht:t=114\/t=261)(hg:(wr.alloc o).grownBy w5 v.ownBlock):dD w5 g st bf ps:=by
 have h1:=kX hg;have hF:=Fr.jC h1
 have key:∀(b:Nat) (aQ:Array Y) (t':TypeId) (f:Nat×Nat),wr.heap[b]?=M (C aQ t' f)->t'≠114->t'≠261->¬(v.ownBlock=M b):=fun b aQ t' f hb n1 n2 e=>by
  obtain⟨c,hc⟩:=jE cZ e;rcases ht with rfl|rfl
  ·exact aW hb hc n1 rfl
  ·exact aW hb hc n2 rfl
 cases st with
 |some l=>
  obtain⟨b,off,c,hb,hc,hr,aQ,f,yB⟩:=h;exact⟨b,off,c,hF.at hb (key _ _ _ _ hb (by decide) (by decide)),hc,hr.fr hF (fun a e=>by cases e;exact key _ _ _ _ yB (by decide) (by decide)),aQ,f,hF.at yB (key _ _ _ _ yB (by decide) (by decide))⟩
 |none=>
  obtain⟨ao,m,c,t',b,hb,he⟩:=h;exact⟨ao,m,c,t',b,hF.at hb (key _ _ _ _ hb (by decide) (by decide)),he.fr hF (fun b aQ hb=>key _ _ _ _ hb (by decide) (by decide)) (fun b aQ hb=>key _ _ _ _ hb (by decide) (by decide))⟩
theorem Gl.own {t:TypeId}(h:Gl wr ps)(cZ:wr.ownsRow B t n v k cs)(ht:t=114\/t=261)(hg:(wr.alloc o).grownBy w5 v.ownBlock):Gl w5 ps:=by
 have h1:=kX hg
 have key:∀(b:Nat) (aQ:Array Y) (t':TypeId) (f:Nat×Nat),wr.heap[b]?=M (C aQ t' f)->t'≠114->t'≠261->¬(v.ownBlock=M b):=fun b aQ t' f hb n1 n2 e=>by
  obtain⟨c,hc⟩:=jE cZ e;rcases ht with rfl|rfl
  ·exact aW hb hc n1 rfl
  ·exact aW hb hc n2 rfl
 exact h.fr (Fr.jC h1) (fun b c hb=>key _ _ _ _ hb (by decide) (by decide)) (fun b c t g hb=>key _ _ _ _ hb (g.ne (by decide)) (g.ne (by decide))) (fun b c hb=>key _ _ _ _ hb (by decide) (by decide)) (fun b c hb=>key _ _ _ _ hb (by decide) (by decide))
theorem Oa {bf:Int}(h:dD w g st bf ps)(hG:Gl w ps)(lG:0<=bf)(bX:bf<=1000000000):
 H K 184 #[U (M ⟨g,0,O⟩)] w fun e w'=> ∃x1 x2 x3,e=G (Z x1 x2 x3)/\bF w' (x1,x2,x3) (aO bf st).1/\dD w' g (aO bf st).2 bf ps/\Og w w' g:=by
 have GZ:g<w.heap.size:=by obtain⟨c,hc⟩:=h.Qy;exact aL hc
 have BD:Hid (∀W yG,dD W g yG bf ps->Gl W ps->∀lo hi (s:ByteArray),H K 183 #[U (M ⟨g,0,O⟩),.string s,I V lo,I V hi] W fun e w'=>e=G (I V (aP lo hi yG).1)/\dD w' g (aP lo hi yG).2 bf ps/\Og W w' g/\Gl w' ps):=fun W yG hW Vg lo hi s=>(sN hW Vg).mono (by
  rintro e w' ⟨a,b,c⟩;exact⟨a,b,c,Vg.og hW c⟩)
 have HAS:Hid (∀W yG,dD W g yG bf ps->Gl W ps->∀(s:ByteArray) (right:Bool),H K 186 #[U (M ⟨g,0,O⟩),.string s,.bool right] W fun e w'=>e=G (.tuple #[])/\dD w' g (fV right yG) bf ps/\Og W w' g/\Gl w' ps):=fun W yG hW Vg s right=>(Cg hW Vg).mono (by
  rintro e w' ⟨a,b,c⟩;exact⟨a,b,c,Vg.og hW c⟩)
 have Uj:=BD.out w st h hG 0 4096 ⟨#[104,111,119,32,109,97,110,121,32,112,105,101,99,101,115]⟩;have Xm:Hid (∀N:Nat,(aP 0 4096 st).1=(N:Int)->((aP 0 4096 st).2=O->(aP 0 4096 st).1=0)->Vh bf N 0 [] (aP 0 4096 st).2 (aO bf st)):=fun N hN h0=>⟨fun e=>⟨by have:=h0 e;omega,rfl,by unfold aO;rw[e]⟩,fun l e=>by unfold aO;rw[e,hN];rfl⟩
 have hN4:(aP 0 4096 st).1<=4096:=by
  cases hs:(aP 0 4096 st).2 with
  |some l=>exact(rQ hs).2.1
  |none=>
   cases st with
   |none=>simp[aP]
   |some l=>
    simp only[aP]at hs ⊢;split
    ·simp
    ·rename_i h1;rw[if_neg h1]at hs;split
     ·simp
     ·rename_i h2;rw[if_neg h2]at hs;cases hs
 have hNb:=(uF 0 4096 st).1
 have hN0:(aP 0 4096 st).2=O->(aP 0 4096 st).1=0:=fun e=>by
  cases st with
  |none=>simp[aP]
  |some l=>
   simp only[aP]at e ⊢;split
   ·rfl
   ·rename_i h1;rw[if_neg h1]at e;split
    ·rfl
    ·rename_i h2;rw[if_neg h2]at e;cases e
 obtain⟨N,hN⟩:=Int.eq_ofNat_of_zero_le hNb;have HPR:Hid (Vh bf N 0 [] (aP 0 4096 st).2 (aO bf st)):=Xm.out N hN hN0;rw[hN]at Uj hN4;generalize (aP 0 4096 st).2=st1 at*;clear hN hN0 hNb h hG Xm;have HB:Hid (∀W (x:dS) (l:List (Int×Int)),bF W x l->dX l->l.length<=10000->H K 187 #[x.v] W fun e w'=>e=G (I V (sz l))/\aK W w'):=fun W x l h1 h2 h3=>rO h1 h2 (by omega)
 go_enter Tryz.func184,Tryz.ntmps184
 go_wp2_with (go_at_call 183;refine Uj.mono ?_;rintro e w1 ⟨rfl,wF,Gy,jh⟩)
 have MK:Hid (dD w1 g st1 bf ps/\Og w w1 g/\Gl w1 ps):=⟨wF,Gy,jh⟩;clear wF Gy jh Uj
 go_loopw [3,4,5,8] (fun v _ _ i wr=> ∃(out:List (Int×Int)) (Ic:Option (List UInt8)),i=I V (out.length:Int)/\out.length<=N/\Hid (Vh bf N out.length out Ic (aO bf st))/\Hid (dD wr g Ic bf ps/\Og w wr g/\Gl wr ps)/\Hid (iV wr w.heap.size v out/\dX out)) (fun _ _ _ i _=>N-(intOf i).toNat)
 case atStart=>exact⟨[],st1,rfl,Nat.zero_le _,HPR,MK,World.ownsRow_nil _ _ _ _,fun q hq=>by simp at hq⟩
 case round=>
  obtain⟨out,Ic,rfl,hk,HP,HR,HO⟩:=hrel;by_cases bS:out.length<N
  ·have Qx:(out.length:Int)<(N:Int):=by omega
   have rR:decide (out.length<N)=true:=decide_eq_true bS;cases Ic with
   |none=>have:=(HP.out.1 rfl).1;omega
   |some l=>
    obtain⟨p1,p2⟩:=HP.out.next bS;have cbf:=HR.out.1.bf;have xO:=BD.out wr (M l) HR.out.1 HR.out.2.2 0 bf ⟨#[97,110,32,111,102,102,115,101,116]⟩;have Qc:Hid (∀W,dD W g (aP 0 bf (M l)).2 bf ps->Gl W ps->_):=fun W h1 h2=>BD.out W _ h1 h2 1 5000 ⟨#[97,32,108,101,110,103,116,104]⟩
    have HA3:Hid (∀W,dD W g (aP 1 5000 (aP 0 bf (M l)).2).2 bf ps->Gl W ps->∀right,_):=fun W h1 h2 right=>HAS.out W _ h1 h2 ⟨#[116,104,101,32,101,110,100,32,111,102,32,97,32,112,105,101,99,101]⟩ right
    have ba:=uF 0 bf (M l);have bb:=uF 1 5000 (aP 0 bf (M l)).2;have Ga:=fun l'=>Nz (bf:=bf) (l:=l) (l':=l')
    have HRP:Hid (qC bf l=(((aP 0 bf (M l)).1,(aP 1 5000 (aP 0 bf (M l)).2).1),fV (decide ((aP 0 bf (M l)).1+(aP 1 5000 (aP 0 bf (M l)).2).1<=bf)) (aP 1 5000 (aP 0 bf (M l)).2).2)):=rfl;rw[HRP.out]at p1 p2 Ga;simp only at p1 p2 Ga;generalize (aP 1 5000 (aP 0 bf (M l)).2).2=yh at*;generalize (aP 1 5000 (aP 0 bf (M l)).2).1=b at*;generalize (aP 0 bf (M l)).2=st4 at*;generalize (aP 0 bf (M l)).1=a at*;obtain⟨xU,jT,ev,-⟩:=iV.form HO.out.1;subst ev;have HOR:Hid (Og w wr g):=HR.out.2.1;clear HRP HP HR BD HAS;have hG4:Hid True:=trivial
    go_upto_region 7 with(first
     |(go_at_call 183;refine xO.mono ?_;clear xO;rintro e w4 ⟨rfl,Hy,Qd,lS⟩;have uY:=Qc.out w4 Hy lS)
     |(go_at_call 183;refine uY.mono ?_;clear uY;rintro e w5 ⟨rfl,GX,ho5,dY⟩;have cbf5:=GX.bf;have Vi:=HA3.out w5 GX dY (decide (a+b<=bf)))
     |(go_at_call 186;refine Vi.mono ?_;clear Vi;rintro e w6 ⟨rfl,ML,ho6,yF⟩))
    have jr:Hid (Og wr w6 g):=(Qd.trans ho5).trans ho6;clear Qc HA3 Hy GX Qd ho5 ho6 lS dY cbf cbf5;cases qR:fV (decide (a+b<=bf)) yh with
    |none=>
     rw[qR]at ML;have HE:Hid (aO bf st=([],O)):=p1 qR;obtain⟨_,_,_,t6,b6,-,-,k6⟩:=Nw.cells ML;have HR6:Hid (dD w6 g O bf ps):=ML;clear ML p1 p2 Ga qR
     go_wp2_with fail
     go_ret;rw[HE.out];exact⟨O,0,0,rfl,qV _,HR6.out,HOR.out.trans jr.out⟩
    |some l'=>
     rw[qR]at ML;have VS:Hid (Vh bf N (out.length+1) (out++ [(a,b)]) (M l') (aO bf st)):=p2 l' qR;obtain⟨q1,q2,q3,q4⟩:=Ga l' qR;obtain⟨_,_,_,-,-,k6,-⟩:=qG.cells ML;have HR6:Hid (dD w6 g (M l') bf ps):=ML;have Dc:Hid (iV w6 w.heap.size (Z xU out.length jT) out):=HO.out.1.og jr.out GZ;have HOK:Hid (dX (out++ [(a,b)])):=fM HO.out.2 (fun q hq=>by simp at hq;subst hq;unfold jU;simp only;omega);have hle6:w.heap.size<=w6.heap.size:=(HOR.out.trans jr.out).1.1;have hol:out.length<=4096:=by omega
     clear ML p1 p2 Ga qR
     go_wp2_with (at_builtin;go_must (refine vB (by rfl) (.tmp 33) (.tmp 37) (by rfl) w.heap.size _ out [(a,b)] (by rfl) (by exact World.ownsRow.alloc Dc.out _) _ _ _ (by rfl) (by rfl) (by intro e;cases e) (by exact QF w6 a b) (by simp only[List.length_singleton];omega) (by simp;omega) ?_);intro v7 w7 Zr jG)
     have HF:Hid ((dD w7 g (M l') bf ps/\Og w w7 g/\Gl w7 ps)/\iV w7 w.heap.size v7 (out++ [(a,b)])/\dX (out++ [(a,b)])):=⟨⟨HR6.out.own Dc.out (Or.inl rfl) jG,(HOR.out.trans jr.out).own (Nat.le_refl _) Dc.out jG,yF.own Dc.out (Or.inl rfl) jG⟩,Zr,HOK.out⟩;clear Zr jG;go_roundw
     case rel=>exact⟨out++ [(a,b)],M l',by simp,by simp;omega,by simpa using VS,HF.out.1,HF.out.2⟩
     case measure=>simp[intOf];omega
  ·have Qx:¬(out.length:Int)<(N:Int):=by omega
   have rR:decide (out.length<N)=false:=decide_eq_false bS;have hkN:N=out.length:=by omega
   have HE:Hid (aO bf st=(out,fV (decide (sz out<=5000)) Ic)):=by
    have:=HP.out;rw[hkN]at this;exact this.done
   obtain⟨xU,jT,ev,He,hnn⟩:=Lr.yM HO.out.1;subst ev;have hLst:bF wr (xU,out.length,jT) out:=⟨He,rfl,hnn⟩;have Yr:=HB.out wr (xU,out.length,jT) out hLst HO.out.2 (by omega);simp only[dS.v]at Yr
   have HA5:Hid (∀W,aK wr W->∀right,H K 186 #[U (M ⟨g,0,O⟩),.string ⟨#[116,104,101,32,98,121,116,101,115,32,111,102,32,112,105,101,99,101,115]⟩,.bool right] W fun e w'=>e=G (.tuple #[])/\bF w' (xU,out.length,jT) out/\dD w' g (fV right Ic) bf ps/\Og w w' g):=fun W hW right=>(HAS.out W Ic (HR.out.1.aM hW) (HR.out.2.2.aM hW) _ right).mono (by
    rintro e w' ⟨rfl,a1,a2,a3⟩;obtain⟨cb,hcb⟩:=(HR.out.1.aM hW).Qy;exact⟨rfl,(hLst.aM hW).fr a2.1 (fun b aQ hb=>aW hb hcb (by decide)),a1,(HR.out.2.1.aM hW).trans a2⟩)
   clear HP HR HO BD HAS He hLst HB
   go_wp2_with (first
    |(go_at_call 187;refine Yr.mono ?_;rintro e w4 ⟨rfl,lS⟩;have ha4:=HA5.out w4 lS (decide (sz out<=5000)))
    |(go_at_call 186;refine ha4.mono ?_;rintro e w5 ⟨rfl,m1,m2,m3⟩))
   go_ret;rw[HE.out];exact⟨_,_,_,rfl,m1,m2,m3⟩
end Go.Proofs.YtfplgfodoiiobaaGreatDoor
