/- LgF, LgG (joined). -/
import Derived.Test.YtfplgfodoiiobaaGreatDoorJ20
open Option renaming none→O,some→M
open Go.Value renaming int→I,slice→Z,pointer→U
open Go.IntKind renaming i64→V
open Go.Obj renaming cells→C
open Go.Ending renaming returned→G
open Go renaming World→F,Value→Y,Calls→H
open Go.Proofs.Tryz renaming prog→K
namespace Go.Proofs.YtfplgfodoiiobaaGreatDoor
set_option maxHeartbeats 4000000
set_option maxRecDepth 100000
open Go.RowKit
variable {g k n B:Nat}{w wr w5:F}{ps:Nat->Addr}{st:Option (List UInt8)}{l:List UInt8}{v:Y}{cs:List Y}{o:Obj}
def rgB (ao:Option Addr)(n c:Nat)(bf:Int)(ev:Y):Obj:=C #[Z ao n c,I V bf,ev] 266 (0,0)
def rD (w:F)(g:Nat)(l:List UInt8)(bf:Int):Prop:=∃(b off c:Nat),w.heap[g]?=M (rgB (M ⟨b,off,O⟩) l.length c bf .nilIface)/\l.length<=c/\mU w (M ⟨b,off,O⟩) l/\∃aT f,w.heap[b]?=M (C aT 5 f)
def Ql (w:F)(g:Nat)(bf:Int)(ps:Nat->Addr):Prop:=∃(ao:Option Addr) (n c t:Nat) (b:Addr),w.heap[g]?=M (rgB ao n c bf (.iface t (U (M b))))/\jG w ps 1 (.iface t (U (M b))) 11
def dI (w:F)(g:Nat)(st:Option (List UInt8))(bf:Int)(ps:Nat->Addr):Prop:=match st with
 |some l=>rD w g l bf
 |none=>Ql w g bf ps
theorem jQ {ao:Option Addr}{c:Nat}{bf:Int}{ev:Y}(h:w.heap[g]?=M (rgB ao n c bf ev)):w.cell? ⟨g,0,O⟩=M (Z ao n c)/\w.cell? ⟨g,1,O⟩=M (I V bf)/\w.cell? ⟨g,2,O⟩=M ev/\∀j,w.frozen? ⟨g,j,O⟩=false:=by
 simp[World.cell?,World.frozen?,h,rgB]
theorem dI.MP {bf:Int}(h:dI w g st bf ps):∃aT,w.heap[g]?=M (C aT 266 (0,0)):=by
 cases st with
 |some l=>obtain⟨b,off,c,hb,-⟩:=h;exact⟨_,hb⟩
 |none=>obtain⟨ao,n,c,t,b,hb,-⟩:=h;exact⟨_,hb⟩
theorem dI.aM {w':F}{bf:Int}(h:dI w g st bf ps)(hg:aJ w w'):dI w' g st bf ps:=by
 cases st with
 |some l=>
  obtain⟨b,off,c,hb,hc,hr,aT,f,ht⟩:=h;exact⟨b,off,c,(hg.block _ (aK hb)).trans hb,hc,hr.aM hg,aT,f,(hg.block _ (aK ht)).trans ht⟩
 |none=>
  obtain⟨ao,n,c,t,b,hb,he⟩:=h;exact⟨ao,n,c,t,b,(hg.block _ (aK hb)).trans hb,he.aM hg⟩
theorem Gl.og {w':F}{bf:Int}(h:Gl w ps)(hr:dI w g st bf ps)(ho:Og w w' g):Gl w' ps:=by
 obtain⟨aT,hc⟩:=hr.MP;exact h.fr ho.1 (fun b c hb=>aW hb hc (by decide)) (fun b c t g hb=>aW hb hc (g.ne (by decide))) (fun b c hb=>aW hb hc (by decide)) (fun b c hb=>aW hb hc (by decide))
def gB (right:Bool)(st:Option (List UInt8)):Option (List UInt8):=if right then st else O
theorem Dq {bf:Int}{s:ByteArray}{right:Bool}(h:dI w g st bf ps)(hG:Gl w ps):
 H K 186 #[U (M ⟨g,0,O⟩),.string s,.bool right] w fun e w'=>e=G (.tuple #[])/\dI w' g (gB right st) bf ps/\Og w w' g:=by
 cases st with
 |none=>
  have HR:Hid (dI w g (gB right O) bf ps):=by show dI _ _ _ _ _;unfold gB;cases right<;>exact h
  obtain⟨ao,n,c,t,b,hb,he⟩:=h;obtain⟨c0,c1,c2,cf⟩:=jQ hb;clear hb he;go_enter Tryz.func186,Tryz.ntmps186
  go_wp2_with fail
  go_end0;exact⟨rfl,HR.out,Og.refl w g⟩
 |some l=>
  cases right with
  |true=>
   have HR:Hid (dI w g (gB true (M l)) bf ps):=h;obtain⟨b,off,c,hb,-⟩:=h;obtain⟨c0,c1,c2,cf⟩:=jQ hb;clear hb;go_enter Tryz.func186,Tryz.ntmps186
   go_wp2_with fail
   go_end0;exact⟨rfl,HR.out,Og.refl w g⟩
  |false=>
   obtain⟨b,off,c,hb,-⟩:=h;obtain⟨c0,c1,c2,cf⟩:=jQ hb;have gc:=hG.uM.cell (k:=3) (by omega)
   have Nl:Hid (H K 81 #[.string s,gY (ps 3)] w fun e w'=> ∃t b0,e=G (.iface t (U (M b0)))/\jG w' ps 1 (.iface t (U (M b0))) 11/\aJ w w'):=by
    have he:jG w ps 0 (gY (ps 3)) 11:=Or.inr ⟨0,3,Nat.le_refl _,by omega,rfl,rfl⟩;refine(Ci he).mono ?_;rintro e w' ⟨v',rfl,h1,h2⟩;obtain⟨t,b0,rfl⟩:=h1.yes (by omega);exact⟨t,b0,rfl,h1,h2⟩
   have HK:Hid (∀w4 t b0,aJ w w4->jG w4 ps 1 (.iface t (U (M b0))) 11->w4.cell? ⟨g,2,O⟩=M .nilIface/\w4.frozen? ⟨g,2,O⟩=false/\dI (w4.setCell ⟨g,2,O⟩ (.iface t (U (M b0)))) g (gB false (M l)) bf ps/\Og w (w4.setCell ⟨g,2,O⟩ (.iface t (U (M b0)))) g):=fun w4 t b0 h4 he=>by
    have Nw:=(h4.block _ (aK hb)).trans hb;obtain⟨-,-,d2,df⟩:=jQ Nw;have hF:=Fr.set w4 ⟨g,2,O⟩ (.iface t (U (M b0)));refine⟨d2,df 2,⟨M ⟨b,off,O⟩,l.length,c,t,b0,?_,he.fr hF (fun b aT pR=>aW pR Nw (by decide)) (fun b aT pR=>aW pR Nw (by decide))⟩,((Og.refl w g).aM h4).set⟩;rw[heap_setCell_same w4 g 2 _ _ _ Nw];rfl
   unfold gY at gc Nl;clear hb hG;go_enter Tryz.func186,Tryz.ntmps186
   go_wp2_with (go_at_call 81;refine Nl.out.mono ?_;rintro e w4 ⟨t,b0,rfl,he4,mO⟩;obtain⟨k1,k2,k3,k4⟩:=HK.out w4 t b0 mO he4)
   go_end0;exact⟨rfl,k3,k4⟩
def qW (x:UInt8):Option (List UInt8)->Option (List UInt8)
 |some (y::l)=>if y=x then M l else O
 |_=>O
def aO (lo hi:Int):Option (List UInt8)->Int×Option (List UInt8)
 |none=>(0,O)
 |some l=>if l.length<4 then (0,O)else if fC l<lo\/hi<fC l then (0,O)else (fC l,M (l.drop 4))
theorem rD.drop {bf:Int}{b off c:Nat}(hb:w.heap[g]?=M (rgB (M ⟨b,off,O⟩) l.length c bf .nilIface))(hc:l.length<=c)(hr:mU w (M ⟨b,off,O⟩) l)(ht:∃aT f,w.heap[b]?=M (C aT 5 f))(hk:k<=l.length)(ao:Option Addr)(ha:ao=if c=k then M ⟨b,off,O⟩else M ⟨b,off+k,O⟩):rD (w.setCell ⟨g,0,O⟩ (Z ao (l.length-k) (c-k))) g (l.drop k) bf/\Og w (w.setCell ⟨g,0,O⟩ (Z ao (l.length-k) (c-k))) g:=by
 obtain⟨aT,f,ht⟩:=ht;have hF:=Fr.set w ⟨g,0,O⟩ (Z ao (l.length-k) (c-k));have hne:b≠g:=aW ht hb (by decide)
 have hs:(w.setCell ⟨g,0,O⟩ (Z ao (l.length-k) (c-k))).heap[g]?=M (rgB ao (l.length-k) (c-k) bf .nilIface):=by
  rw[heap_setCell_same w g 0 _ _ _ hb];rfl
 refine⟨?_,(Og.refl w g).set⟩;have Ua:=hr.drop k;by_cases hck:c=k
 ·rw[if_pos hck]at ha;subst ha;have gJ:l.drop k=[]:=List.drop_eq_nil_of_le (by omega);refine⟨b,off,c-k,by rw[List.length_drop];exact hs,by rw[List.length_drop];omega,by rw[gJ];exact mU.nil _ _,aT,f,hF.at ht hne⟩
 ·rw[if_neg hck]at ha;subst ha;exact⟨b,off+k,c-k,by rw[List.length_drop];exact hs,by rw[List.length_drop];omega,Ua.fr hF (fun a e=>by cases e;exact hne),aT,f,hF.at ht hne⟩
theorem XT {bf:Int}{x:UInt8}(h:rD w g l bf)(hG:Gl w ps):
 H K 182 #[U (M ⟨g,0,O⟩),I .u8 (x.toNat:Int)] w fun e w'=>e=G (.tuple #[])/\dI w' g (qW x (M l)) bf ps/\Og w w' g:=by
 have HA:Hid (∀(s:ByteArray) (right:Bool),H K 186 #[U (M ⟨g,0,O⟩),.string s,.bool right] w fun e w'=>e=G (.tuple #[])/\dI w' g (gB right (M l)) bf ps/\Og w w' g):=fun s right=>Dq (st:=M l) h hG
 obtain⟨b,off,c,hb,hc,hr,ht⟩:=h;obtain⟨c0,c1,c2,cf⟩:=jQ hb
 have HN:Hid (∀W,Ql W g bf ps->∃t b0,W.cell? ⟨g,2,O⟩=M (.iface t (U (M b0)))):=fun W hW=>by
  obtain⟨ao,n,c,t,b0,hb,-⟩:=hW;exact⟨t,b0,(jQ hb).2.2.1⟩
 cases l with
 |nil=>
  have ZV:Hid (H K 186 #[U (M ⟨g,0,O⟩),.string ⟨#[105,116,115,32,108,101,116,116,101,114]⟩,.bool false] w fun e w'=>e=G (.tuple #[])/\dI w' g O bf ps/\Og w w' g):=HA.out _ false;clear hb hr ht hG HA;go_enter Tryz.func182,Tryz.ntmps182
  go_wp2_with (go_at_call 186;refine ZV.out.mono ?_;rintro e w4 ⟨rfl,Jr,Tq⟩;obtain⟨t4,b4,k4⟩:=HN.out w4 Jr)
  go_end0;exact⟨rfl,Jr,Tq⟩
 |cons y l=>
  have hy:w.cell? ⟨b,off,O⟩=M (I .u8 (y.toNat:Int)):=by
   rcases hr with hx|⟨b',Tz,e,hcc⟩
   ·cases hx
   ·cases e;have:=hcc 0 y rfl;simpa using this
  by_cases hxy:y=x
  ·subst hxy
   have uz:Hid (H K 186 #[U (M ⟨g,0,O⟩),.string ⟨#[105,116,115,32,108,101,116,116,101,114]⟩,.bool true] w fun e w'=>e=G (.tuple #[])/\∃b off c,w'.cell? ⟨g,0,O⟩=M (Z (M ⟨b,off,O⟩) (l.length+1) c)/\w'.cell? ⟨g,2,O⟩=M .nilIface/\w'.frozen? ⟨g,0,O⟩=false/\l.length+1<=c/\(∀ao,ao=(if c=1 then M ⟨b,off,O⟩else M ⟨b,off+1,O⟩)->dI (w'.setCell ⟨g,0,O⟩ (Z ao l.length (c-1))) g (M l) bf ps/\Og w (w'.setCell ⟨g,0,O⟩ (Z ao l.length (c-1))) g)):=(HA.out _ true).mono (by
    rintro e w' ⟨rfl,⟨b',Tz,c',pR,hc',Fh,ht'⟩,CV⟩;obtain⟨d0,-,d2,df⟩:=jQ pR;refine⟨rfl,b',Tz,c',d0,d2,df 0,by simpa using hc',fun ao ha=>?_⟩;obtain⟨q1,q2⟩:=rD.drop (k:=1) pR hc' Fh ht' (by simp) ao ha;exact⟨q1,CV.trans q2⟩)
   have HE:Hid (qW y (M (y::l))=M l):=by show _=_;simp[qW]
   clear hb hr ht hG HA;have j1:(0:Int)<((l.length+1:Nat):Int):=by omega
   have j2:(0:Int)<(l.length:Int)+1:=by omega
   have j3:(1:Int)<=(l.length:Int)+1:=by omega
   simp only[List.length_cons]at c0;go_enter Tryz.func182,Tryz.ntmps182
   go_upto_region 1 with(go_at_call 186;refine uz.out.mono ?_;rintro e w4 ⟨rfl,b4,XU,c4,k0,k2,kf,kc,hk⟩)
   have HKK:Hid (∀ao,ao=(if c4=1 then M ⟨b4,XU,O⟩else M ⟨b4,XU+1,O⟩)->dI (w4.setCell ⟨g,0,O⟩ (Z ao l.length (c4-1))) g (M l) bf ps/\Og w (w4.setCell ⟨g,0,O⟩ (Z ao l.length (c4-1))) g):=hk;clear hk;by_cases Ig:c4=1
   ·have q:=HKK.out _ (if_pos Ig).symm
    have Q:Hid (dI (w4.setCell ⟨g,0,O⟩ (Z (M ⟨b4,XU,O⟩) l.length 0)) g (M l) bf ps/\Og w (w4.setCell ⟨g,0,O⟩ (Z (M ⟨b4,XU,O⟩) l.length 0)) g):=by
     rw[Ig]at q;exact q
    clear q HKK;have e0:l=[]:=List.eq_nil_of_length_eq_zero (by omega);subst Ig e0
    go_wp2_with fail
    go_end0;rw[HE.out];exact⟨rfl,Q.out.1,Q.out.2⟩
   ·have Q:Hid _:=HKK.out _ (if_neg Ig).symm;clear HKK
    go_wp2_with fail
    go_end0;rw[HE.out];exact⟨rfl,Q.out.1,Q.out.2⟩
  ·have ZV:Hid (H K 186 #[U (M ⟨g,0,O⟩),.string ⟨#[105,116,115,32,108,101,116,116,101,114]⟩,.bool false] w fun e w'=>e=G (.tuple #[])/\dI w' g O bf ps/\Og w w' g):=HA.out _ false;have HE:Hid (qW x (M (y::l))=O):=by show _=_;simp[qW,hxy]
   have hne:(((y.toNat:Nat):Int)==((x.toNat:Nat):Int))=false:=by
    rw[beq_eq_false_iff_ne];intro e;exact hxy (UInt8.toNat_inj.1 (by omega))
   clear hb hr ht hG HA;have j1:(0:Int)<((l.length+1:Nat):Int):=by omega
   have j2:(0:Int)<(l.length:Int)+1:=by omega
   simp only[List.length_cons]at c0;go_enter Tryz.func182,Tryz.ntmps182
   go_wp2_with (go_at_call 186;refine ZV.out.mono ?_;rintro e w4 ⟨rfl,Jr,Tq⟩;obtain⟨t4,b4,k4⟩:=HN.out w4 Jr)
   go_end0;rw[HE.out];exact⟨rfl,Jr,Tq⟩
theorem rD.cells {bf:Int}(h:rD w g l bf):∃b off c,w.cell? ⟨g,0,O⟩=M (Z (M ⟨b,off,O⟩) l.length c)/\w.cell? ⟨g,1,O⟩=M (I V bf)/\w.cell? ⟨g,2,O⟩=M .nilIface/\l.length<=c/\w.frozen? ⟨g,0,O⟩=false/\mU w (M ⟨b,off,O⟩) l:=by
 obtain⟨b,off,c,hb,hc,hr,-⟩:=h;obtain⟨c0,c1,c2,cf⟩:=jQ hb;exact⟨b,off,c,c0,c1,c2,hc,cf 0,hr⟩
theorem Ql.cells {bf:Int}(h:Ql w g bf ps):∃ao n c t b0,w.cell? ⟨g,0,O⟩=M (Z ao n c)/\w.cell? ⟨g,1,O⟩=M (I V bf)/\w.cell? ⟨g,2,O⟩=M (.iface t (U (M b0))):=by
 obtain⟨ao,n,c,t,b0,hb,-⟩:=h;obtain⟨c0,c1,c2,cf⟩:=jQ hb;exact⟨ao,n,c,t,b0,c0,c1,c2⟩
theorem uN {bf lo hi:Int}{s:ByteArray}(h:dI w g st bf ps)(hG:Gl w ps):
 H K 183 #[U (M ⟨g,0,O⟩),.string s,I V lo,I V hi] w fun e w'=>e=G (I V (aO lo hi st).1)/\dI w' g (aO lo hi st).2 bf ps/\Og w w' g:=by
 cases st with
 |none=>
  have HA:Hid (∀(right:Bool),H K 186 #[U (M ⟨g,0,O⟩),.string s,.bool right] w fun e w'=>e=G (.tuple #[])/\dI w' g O bf ps/\Og w w' g):=fun right=>(Dq (right:=right) h hG).mono (by
   rintro e w' ⟨a,b,c⟩;have:gB right O=O:=by unfold gB;cases right<;>rfl
   rw[this]at b;exact⟨a,b,c⟩)
  obtain⟨ao,n,c,t,b0,c0,-,-⟩:=Ql.cells h;clear h hG;go_enter Tryz.func183,Tryz.ntmps183
  go_wp2_with (go_at_call 186;refine(HA.out _).mono ?_;rintro e w4 ⟨rfl,Jr,Tq⟩;obtain⟨_,_,_,t4,b4,-,-,k4⟩:=Ql.cells Jr)
  go_ret;exact⟨rfl,Jr,Tq⟩
 |some l=>
  obtain⟨b,off,c,c0,-,c2,hc,cf,hr⟩:=rD.cells h;by_cases hl:l.length<4
  ·have HA:Hid (H K 186 #[U (M ⟨g,0,O⟩),.string s,.bool false] w fun e w'=>e=G (.tuple #[])/\dI w' g O bf ps/\Og w w' g):=Dq (right:=false) h hG;have HE:Hid (aO lo hi (M l)=(0,O)):=by show _=_;simp[aO,hl]
   have hl':¬(4:Int)<=(l.length:Int):=by omega
   clear h hG hr;go_enter Tryz.func183,Tryz.ntmps183
   go_wp2_with (go_at_call 186;refine HA.out.mono ?_;rintro e w4 ⟨rfl,Jr,Tq⟩;obtain⟨_,_,_,t4,b4,-,-,k4⟩:=Ql.cells Jr)
   go_ret;rw[HE.out];exact⟨rfl,Jr,Tq⟩
  ·have hl':(4:Int)<=(l.length:Int):=by omega
   have hbd:=mJ l;have HA:Hid (H K 186 #[U (M ⟨g,0,O⟩),.string s,.bool true] w fun e w'=>e=G (.tuple #[])/\rD w' g l bf/\Og w w' g):=Dq (right:=true) h hG;have Jj:Hid (∀W,Og w W g->Gl W ps):=fun W hW=>hG.og h hW
   have HN:Hid (∀W b off c,mU W (M ⟨b,off,O⟩) l->H K 234 #[Z (M ⟨b,off,O⟩) l.length c] W fun e w'=>e=G (I .u32 (fC l))/\aJ W w'):=fun W b off c hW=>(Ja hW (by omega) (by omega)).mono (by
    rintro e w' ⟨rfl,q,rfl⟩;exact⟨rfl,bG (aJ.refl W) q⟩)
   have HD:Hid (∀W,rD W g l bf->∃b off c,W.cell? ⟨g,0,O⟩=M (Z (M ⟨b,off,O⟩) l.length c)/\W.frozen? ⟨g,0,O⟩=false/\l.length<=c/\∀ao,ao=(if c=4 then M ⟨b,off,O⟩else M ⟨b,off+4,O⟩)->rD (W.setCell ⟨g,0,O⟩ (Z ao (l.length-4) (c-4))) g (l.drop 4) bf/\Og W (W.setCell ⟨g,0,O⟩ (Z ao (l.length-4) (c-4))) g):=fun W hW=>by
    obtain⟨b,off,c,hb,hc,hr,ht⟩:=hW;obtain⟨c0,c1,c2,cf⟩:=jQ hb;exact⟨b,off,c,c0,cf 0,hc,fun ao ha=>rD.drop hb hc hr ht (by omega) ao ha⟩
   have HE:Hid (aO lo hi (M l)=if fC l<lo\/hi<fC l then (0,O)else (fC l,M (l.drop 4))):=by show _=_;simp only[aO];rw[if_neg hl]
   have HAF:Hid (∀W,rD W g (l.drop 4) bf->Og w W g->H K 186 #[U (M ⟨g,0,O⟩),.string s,.bool false] W fun e w'=>e=G (.tuple #[])/\dI w' g O bf ps/\Og w w' g):=fun W hW hO=>(Dq (right:=false) (st:=M (l.drop 4)) hW (Jj.out W hO)).mono (by
    rintro e w' ⟨a,b,c⟩;exact⟨a,b,hO.trans c⟩)
   clear h hG hr;go_enter Tryz.func183,Tryz.ntmps183
   go_upto_region 4 with(go_at_call 186;refine HA.out.mono ?_;rintro e w4 ⟨rfl,Jr,Tq⟩;obtain⟨b4,XU,c4,k0,-,k2,kc,kf,kr⟩:=rD.cells Jr)
   have GU:=HN.out w4 b4 XU c4 kr;have HR4:Hid (rD w4 g l bf):=Jr;clear Jr kr c0 c2;generalize fC l=nb at*;have ru:wrap64 nb=nb:=by unfold wrap64;omega
   go_upto_region 5 with(go_at_call 234;refine GU.mono ?_;rintro e w5 ⟨rfl,dK⟩)
   have OW:rD w5 g l bf:=dI.aM (st:=M l) (ps:=ps) HR4.out dK;obtain⟨b5,off5,c5,k5,kf5,kc5,hk5⟩:=HD.out w5 OW;have HO5:Hid (Og w w5 g):=Tq.aM dK;have HK5:Hid (∀ao,ao=(if c5=4 then M ⟨b5,off5,O⟩else M ⟨b5,off5+4,O⟩)->rD (w5.setCell ⟨g,0,O⟩ (Z ao (l.length-4) (c5-4))) g (l.drop 4) bf/\Og w5 (w5.setCell ⟨g,0,O⟩ (Z ao (l.length-4) (c5-4))) g):=hk5;clear hk5 OW GU k0 k2 kf dK Tq HR4 HA HN HD
   go_upto_region 6 with fail
   obtain⟨q5,q6⟩:=HK5.out _ rfl;have HQ5:Hid (rD _ g (l.drop 4) bf):=q5;have Qm:Hid (Og w _ g):=HO5.out.trans q6;clear HK5 q5 q6 k5 kf5 HO5;generalize (if c5=4 then M (⟨b5,off5,O⟩:Addr)else M ⟨b5,off5+4,O⟩)=oh at*;generalize (w5.setCell ⟨g,0,O⟩ (Z oh (l.length-4) (c5-4)))=w6 at*;by_cases yK:nb<lo
   ·have HE1:Hid (aO lo hi (M l)=(0,O)):=by show _=_;rw[HE.out,if_pos (Or.inl yK)]
    have hf6:=HAF.out w6 HQ5.out Qm.out;clear HE
    go_wp2_with (go_at_call 186;refine hf6.mono ?_;rintro e w7 ⟨rfl,PE,ho7⟩)
    go_ret;rw[HE1.out];exact⟨rfl,PE,ho7⟩
   ·by_cases Ua:hi<nb
    ·have HE1:Hid (aO lo hi (M l)=(0,O)):=by show _=_;rw[HE.out,if_pos (Or.inr Ua)]
     have hf6:=HAF.out w6 HQ5.out Qm.out;clear HE
     go_wp2_with (go_at_call 186;refine hf6.mono ?_;rintro e w7 ⟨rfl,PE,ho7⟩)
     go_ret;rw[HE1.out];exact⟨rfl,PE,ho7⟩
    ·have HE1:Hid (aO lo hi (M l)=(nb,M (l.drop 4))):=by show _=_;rw[HE.out,if_neg (by omega)]
     clear HE
     go_wp2_with fail
     go_ret;rw[HE1.out];exact⟨rfl,HQ5.out,Qm.out⟩
def qX (bf:Int)(l:List UInt8):(Int×Int)×Option (List UInt8):=
 (((aO 0 bf (M l)).1,(aO 1 5000 (aO 0 bf (M l)).2).1),gB (decide ((aO 0 bf (M l)).1+(aO 1 5000 (aO 0 bf (M l)).2).1<=bf)) (aO 1 5000 (aO 0 bf (M l)).2).2)
def sD (bf:Int):Nat->List (Int×Int)->List UInt8->Option (List (Int×Int)×List UInt8)
 |0,out,l=>M (out,l)
 |k+1,out,l=>match (qX bf l).2 with
  |none=>O
  |some l'=>sD bf k (out++ [(qX bf l).1]) l'
def Gq:Option (List (Int×Int)×List UInt8)->List (Int×Int)×Option (List UInt8)
 |none=>([],O)
 |some q=>(q.1,gB (decide (sz q.1<=5000)) (M q.2))
def aN (bf:Int)(st:Option (List UInt8)):List (Int×Int)×Option (List UInt8):=match (aO 0 4096 st).2 with
 |none=>([],O)
 |some l=>Gq (sD bf (aO 0 4096 st).1.toNat [] l)
def Zn (bf:Int)(N k:Nat)(out:List (Int×Int))(Jv:Option (List UInt8))(res:List (Int×Int)×Option (List UInt8)):Prop:=
 (Jv=O->N=0/\out=[]/\res=([],O))/\∀l,Jv=M l->res=Gq (sD bf (N-k) out l)
theorem Zn.done {bf:Int}{N:Nat}{out:List (Int×Int)}{Jv:Option (List UInt8)}{res:List (Int×Int)×Option (List UInt8)}(h:Zn bf N N out Jv res):res=(out,gB (decide (sz out<=5000)) Jv):=by
 cases Jv with
 |none=>obtain⟨-,rfl,e⟩:=h.1 rfl;rw[e];simp[sz,gB]
 |some l=>have:=h.2 l rfl;rw[Nat.sub_self]at this;exact this
theorem Zn.next {bf:Int}{N:Nat}{out:List (Int×Int)}{res:List (Int×Int)×Option (List UInt8)}(h:Zn bf N k out (M l) res)(hk:k<N):((qX bf l).2=O->res=([],O))/\∀l',(qX bf l).2=M l'->Zn bf N (k+1) (out++ [(qX bf l).1]) (M l') res:=by
 have:=h.2 l rfl;rw[show N-k=(N-(k+1))+1 from by omega,sD]at this;refine⟨fun e=>?_,fun l' e=>⟨fun e2=>(by cases e2),fun l2 e2=>?_⟩⟩
 ·rw[e]at this;exact this
 ·cases e2;rw[e]at this;exact this
theorem vM (lo hi:Int)(st:Option (List UInt8)):0<=(aO lo hi st).1/\(aO lo hi st).1<4294967296:=by
 cases st with
 |none=>simp[aO]
 |some l=>
  have:=mJ l;simp only[aO];split
  ·simp
  ·split
   ·simp
   ·exact this
theorem sZ {lo hi:Int}(h:(aO lo hi st).2=M l):lo<=(aO lo hi st).1/\(aO lo hi st).1<=hi/\∃l0,st=M l0/\4<=l0.length/\(aO lo hi st).1=fC l0/\l=l0.drop 4:=by
 cases st with
 |none=>simp[aO]at h
 |some l0=>
  simp only[aO]at h ⊢;split at h
  ·simp at h
  ·rename_i h1;split at h
   ·simp at h
   ·rename_i h2;rw[if_neg h1,if_neg h2];simp at h;exact⟨by omega,by omega,l0,rfl,by omega,rfl,h.symm⟩
theorem Qn {bf:Int}{l':List UInt8}(h:(qX bf l).2=M l'):0<=(qX bf l).1.1/\1<=(qX bf l).1.2/\(qX bf l).1.2<=5000/\(qX bf l).1.1+(qX bf l).1.2<=bf:=by
 unfold qX at h ⊢;simp only[gB]at h;split at h
 ·rename_i hd;have h2:=sZ h;have:=vM 0 bf (M l);simp only at hd ⊢;exact⟨this.1,h2.1,h2.2.1,of_decide_eq_true hd⟩
 ·cases h
theorem dI.bf {bf:Int}(h:dI w g st bf ps):w.cell? ⟨g,1,O⟩=M (I V bf):=by
 cases st with
 |none=>obtain⟨_,_,_,_,_,-,h,-⟩:=Ql.cells h;exact h
 |some l=>obtain⟨_,_,_,-,h,-⟩:=rD.cells h;exact h
theorem Og.own {t:TypeId}(hO:Og w wr g)(hB:w.heap.size<=B)(cZ:wr.ownsRow B t n v k cs)(hg:(wr.alloc o).grownBy w5 v.ownBlock):Og w w5 g:=by
 have h1:=kM hg;obtain⟨⟨a1,a2⟩,b1,b2,b3⟩:=hO;refine⟨⟨Nat.le_trans a1 h1.size,fun b hb hne=>?_⟩,h1.os.trans b1,h1.tape.trans b2,h1.output.trans b3⟩;rw[<-a2 b hb hne];refine h1.block b (Nat.lt_of_lt_of_le hb a1) (fun e=>?_);have:=(World.ownsRow.lt cZ b e.symm).1;omega
theorem dI.own {t:TypeId}{bf:Int}(h:dI wr g st bf ps)(cZ:wr.ownsRow B t n v k cs)(ht:t=114\/t=261)(hg:(wr.alloc o).grownBy w5 v.ownBlock):dI w5 g st bf ps:=by
 have h1:=kM hg;have hF:=Fr.kG h1
 have key:∀(b:Nat) (aT:Array Y) (t':TypeId) (f:Nat×Nat),wr.heap[b]?=M (C aT t' f)->t'≠114->t'≠261->¬(v.ownBlock=M b):=fun b aT t' f hb n1 n2 e=>by
  obtain⟨c,hc⟩:=kV cZ e;rcases ht with rfl|rfl
  ·exact aW hb hc n1 rfl
  ·exact aW hb hc n2 rfl
 cases st with
 |some l=>
  obtain⟨b,off,c,hb,hc,hr,aT,f,Di⟩:=h;exact⟨b,off,c,hF.at hb (key _ _ _ _ hb (by decide) (by decide)),hc,hr.fr hF (fun a e=>by cases e;exact key _ _ _ _ Di (by decide) (by decide)),aT,f,hF.at Di (key _ _ _ _ Di (by decide) (by decide))⟩
 |none=>
  obtain⟨ao,m,c,t',b,hb,he⟩:=h;exact⟨ao,m,c,t',b,hF.at hb (key _ _ _ _ hb (by decide) (by decide)),he.fr hF (fun b aT hb=>key _ _ _ _ hb (by decide) (by decide)) (fun b aT hb=>key _ _ _ _ hb (by decide) (by decide))⟩
theorem Gl.own {t:TypeId}(h:Gl wr ps)(cZ:wr.ownsRow B t n v k cs)(ht:t=114\/t=261)(hg:(wr.alloc o).grownBy w5 v.ownBlock):Gl w5 ps:=by
 have h1:=kM hg
 have key:∀(b:Nat) (aT:Array Y) (t':TypeId) (f:Nat×Nat),wr.heap[b]?=M (C aT t' f)->t'≠114->t'≠261->¬(v.ownBlock=M b):=fun b aT t' f hb n1 n2 e=>by
  obtain⟨c,hc⟩:=kV cZ e;rcases ht with rfl|rfl
  ·exact aW hb hc n1 rfl
  ·exact aW hb hc n2 rfl
 exact h.fr (Fr.kG h1) (fun b c hb=>key _ _ _ _ hb (by decide) (by decide)) (fun b c t g hb=>key _ _ _ _ hb (g.ne (by decide)) (g.ne (by decide))) (fun b c hb=>key _ _ _ _ hb (by decide) (by decide)) (fun b c hb=>key _ _ _ _ hb (by decide) (by decide))
theorem Qo {bf:Int}(h:dI w g st bf ps)(hG:Gl w ps)(kT:0<=bf)(bX:bf<=1000000000):
 H K 184 #[U (M ⟨g,0,O⟩)] w fun e w'=> ∃x1 x2 x3,e=G (Z x1 x2 x3)/\bI w' (x1,x2,x3) (aN bf st).1/\dI w' g (aN bf st).2 bf ps/\Og w w' g:=by
 have OY:g<w.heap.size:=by obtain⟨c,hc⟩:=h.MP;exact aK hc
 have IE:Hid (∀W yU,dI W g yU bf ps->Gl W ps->∀lo hi (s:ByteArray),H K 183 #[U (M ⟨g,0,O⟩),.string s,I V lo,I V hi] W fun e w'=>e=G (I V (aO lo hi yU).1)/\dI w' g (aO lo hi yU).2 bf ps/\Og W w' g/\Gl w' ps):=fun W yU hW Zm lo hi s=>(uN hW Zm).mono (by
  rintro e w' ⟨a,b,c⟩;exact⟨a,b,c,Zm.og hW c⟩)
 have HAS:Hid (∀W yU,dI W g yU bf ps->Gl W ps->∀(s:ByteArray) (right:Bool),H K 186 #[U (M ⟨g,0,O⟩),.string s,.bool right] W fun e w'=>e=G (.tuple #[])/\dI w' g (gB right yU) bf ps/\Og W w' g/\Gl w' ps):=fun W yU hW Zm s right=>(Dq hW Zm).mono (by
  rintro e w' ⟨a,b,c⟩;exact⟨a,b,c,Zm.og hW c⟩)
 have Yo:=IE.out w st h hG 0 4096 ⟨#[104,111,119,32,109,97,110,121,32,112,105,101,99,101,115]⟩;have DI:Hid (∀N:Nat,(aO 0 4096 st).1=(N:Int)->((aO 0 4096 st).2=O->(aO 0 4096 st).1=0)->Zn bf N 0 [] (aO 0 4096 st).2 (aN bf st)):=fun N hN h0=>⟨fun e=>⟨by have:=h0 e;omega,rfl,by unfold aN;rw[e]⟩,fun l e=>by unfold aN;rw[e,hN];rfl⟩
 have hN4:(aO 0 4096 st).1<=4096:=by
  cases hs:(aO 0 4096 st).2 with
  |some l=>exact(sZ hs).2.1
  |none=>
   cases st with
   |none=>simp[aO]
   |some l=>
    simp only[aO]at hs ⊢;split
    ·simp
    ·rename_i h1;rw[if_neg h1]at hs;split
     ·simp
     ·rename_i h2;rw[if_neg h2]at hs;cases hs
 have hNb:=(vM 0 4096 st).1
 have hN0:(aO 0 4096 st).2=O->(aO 0 4096 st).1=0:=fun e=>by
  cases st with
  |none=>simp[aO]
  |some l=>
   simp only[aO]at e ⊢;split
   ·rfl
   ·rename_i h1;rw[if_neg h1]at e;split
    ·rfl
    ·rename_i h2;rw[if_neg h2]at e;cases e
 obtain⟨N,hN⟩:=Int.eq_ofNat_of_zero_le hNb;have HPR:Hid (Zn bf N 0 [] (aO 0 4096 st).2 (aN bf st)):=DI.out N hN hN0;rw[hN]at Yo hN4;generalize (aO 0 4096 st).2=st1 at*;clear hN hN0 hNb h hG DI;have HB:Hid (∀W (x:gN) (l:List (Int×Int)),bI W x l->eF l->l.length<=10000->H K 187 #[x.v] W fun e w'=>e=G (I V (sz l))/\aJ W w'):=fun W x l h1 h2 h3=>sW h1 h2 (by omega)
 go_enter Tryz.func184,Tryz.ntmps184
 go_wp2_with (go_at_call 183;refine Yo.mono ?_;rintro e w1 ⟨rfl,yK,Je,hG1⟩)
 have TY:Hid (dI w1 g st1 bf ps/\Og w w1 g/\Gl w1 ps):=⟨yK,Je,hG1⟩;clear yK Je hG1 Yo
 go_loopw [3,4,5,8] (fun v _ _ i wr=> ∃(out:List (Int×Int)) (Jv:Option (List UInt8)),i=I V (out.length:Int)/\out.length<=N/\Hid (Zn bf N out.length out Jv (aN bf st))/\Hid (dI wr g Jv bf ps/\Og w wr g/\Gl wr ps)/\Hid (rQ wr w.heap.size v out/\eF out)) (fun _ _ _ i _=>N-(intOf i).toNat)
 case atStart=>exact⟨[],st1,rfl,Nat.zero_le _,HPR,TY,World.ownsRow_nil _ _ _ _,fun q hq=>by simp at hq⟩
 case round=>
  obtain⟨out,Jv,rfl,hk,HP,HR,HO⟩:=hrel;by_cases bV:out.length<N
  ·have Ul:(out.length:Int)<(N:Int):=by omega
   have rJ:decide (out.length<N)=true:=decide_eq_true bV;cases Jv with
   |none=>have:=(HP.out.1 rfl).1;omega
   |some l=>
    obtain⟨p1,p2⟩:=HP.out.next bV;have cbf:=HR.out.1.bf;have pQ:=IE.out wr (M l) HR.out.1 HR.out.2.2 0 bf ⟨#[97,110,32,111,102,102,115,101,116]⟩;have Tk:Hid (∀W,dI W g (aO 0 bf (M l)).2 bf ps->Gl W ps->_):=fun W h1 h2=>IE.out W _ h1 h2 1 5000 ⟨#[97,32,108,101,110,103,116,104]⟩
    have HA3:Hid (∀W,dI W g (aO 1 5000 (aO 0 bf (M l)).2).2 bf ps->Gl W ps->∀right,_):=fun W h1 h2 right=>HAS.out W _ h1 h2 ⟨#[116,104,101,32,101,110,100,32,111,102,32,97,32,112,105,101,99,101]⟩ right
    have ba:=vM 0 bf (M l);have bb:=vM 1 5000 (aO 0 bf (M l)).2;have yC:=fun l'=>Qn (bf:=bf) (l:=l) (l':=l')
    have HRP:Hid (qX bf l=(((aO 0 bf (M l)).1,(aO 1 5000 (aO 0 bf (M l)).2).1),gB (decide ((aO 0 bf (M l)).1+(aO 1 5000 (aO 0 bf (M l)).2).1<=bf)) (aO 1 5000 (aO 0 bf (M l)).2).2)):=rfl;rw[HRP.out]at p1 p2 yC;simp only at p1 p2 yC;generalize (aO 1 5000 (aO 0 bf (M l)).2).2=st5 at*;generalize (aO 1 5000 (aO 0 bf (M l)).2).1=b at*;generalize (aO 0 bf (M l)).2=st4 at*;generalize (aO 0 bf (M l)).1=a at*;obtain⟨yI,kJ,ev,-⟩:=rQ.form HO.out.1;subst ev;have HOR:Hid (Og w wr g):=HR.out.2.1;clear HRP HP HR IE HAS;have hG4:Hid True:=trivial
    go_upto_region 7 with(first
     |(go_at_call 183;refine pQ.mono ?_;clear pQ;rintro e w4 ⟨rfl,Jr,Tq,mO⟩;have oW:=Tk.out w4 Jr mO)
     |(go_at_call 183;refine oW.mono ?_;clear oW;rintro e w5 ⟨rfl,OW,ho5,dK⟩;have cbf5:=OW.bf;have Wz:=HA3.out w5 OW dK (decide (a+b<=bf)))
     |(go_at_call 186;refine Wz.mono ?_;clear Wz;rintro e w6 ⟨rfl,UA,ho6,yJ⟩))
    have HOG:Hid (Og wr w6 g):=(Tq.trans ho5).trans ho6;clear Tk HA3 Jr OW Tq ho5 ho6 mO dK cbf cbf5;cases rX:gB (decide (a+b<=bf)) st5 with
    |none=>
     rw[rX]at UA;have HE:Hid (aN bf st=([],O)):=p1 rX;obtain⟨_,_,_,t6,b6,-,-,k6⟩:=Ql.cells UA;have HR6:Hid (dI w6 g O bf ps):=UA;clear UA p1 p2 yC rX
     go_wp2_with fail
     go_ret;rw[HE.out];exact⟨O,0,0,rfl,rZ _,HR6.out,HOR.out.trans HOG.out⟩
    |some l'=>
     rw[rX]at UA;have ol:Hid (Zn bf N (out.length+1) (out++ [(a,b)]) (M l') (aN bf st)):=p2 l' rX;obtain⟨q1,q2,q3,q4⟩:=yC l' rX;obtain⟨_,_,_,-,-,k6,-⟩:=rD.cells UA;have HR6:Hid (dI w6 g (M l') bf ps):=UA;have El:Hid (rQ w6 w.heap.size (Z yI out.length kJ) out):=HO.out.1.og HOG.out OY;have HOK:Hid (eF (out++ [(a,b)])):=fT HO.out.2 (fun q hq=>by simp at hq;subst hq;unfold kQ;simp only;omega);have hle6:w.heap.size<=w6.heap.size:=(HOR.out.trans HOG.out).1.1;have hol:out.length<=4096:=by omega
     clear UA p1 p2 yC rX
     go_wp2_with (at_builtin;go_must (refine wB (by rfl) (.tmp 33) (.tmp 37) (by rfl) w.heap.size _ out [(a,b)] (by rfl) (by exact World.ownsRow.alloc El.out _) _ _ _ (by rfl) (by rfl) (by intro e;cases e) (by exact XK w6 a b) (by simp only[List.length_singleton];omega) (by simp;omega) ?_);intro v7 w7 FQ jS)
     have HF:Hid ((dI w7 g (M l') bf ps/\Og w w7 g/\Gl w7 ps)/\rQ w7 w.heap.size v7 (out++ [(a,b)])/\eF (out++ [(a,b)])):=⟨⟨HR6.out.own El.out (Or.inl rfl) jS,(HOR.out.trans HOG.out).own (Nat.le_refl _) El.out jS,yJ.own El.out (Or.inl rfl) jS⟩,FQ,HOK.out⟩;clear FQ jS;go_roundw
     case rel=>exact⟨out++ [(a,b)],M l',by simp,by simp;omega,by simpa using ol,HF.out.1,HF.out.2⟩
     case measure=>simp[intOf];omega
  ·have Ul:¬(out.length:Int)<(N:Int):=by omega
   have rJ:decide (out.length<N)=false:=decide_eq_false bV;have hkN:N=out.length:=by omega
   have HE:Hid (aN bf st=(out,gB (decide (sz out<=5000)) Jv)):=by
    have:=HP.out;rw[hkN]at this;exact this.done
   obtain⟨yI,kJ,ev,Jg,hnn⟩:=ED.zC HO.out.1;subst ev;have hLst:bI wr (yI,out.length,kJ) out:=⟨Jg,rfl,hnn⟩;have EN:=HB.out wr (yI,out.length,kJ) out hLst HO.out.2 (by omega);simp only[gN.v]at EN
   have HA5:Hid (∀W,aJ wr W->∀right,H K 186 #[U (M ⟨g,0,O⟩),.string ⟨#[116,104,101,32,98,121,116,101,115,32,111,102,32,112,105,101,99,101,115]⟩,.bool right] W fun e w'=>e=G (.tuple #[])/\bI w' (yI,out.length,kJ) out/\dI w' g (gB right Jv) bf ps/\Og w w' g):=fun W hW right=>(HAS.out W Jv (HR.out.1.aM hW) (HR.out.2.2.aM hW) _ right).mono (by
    rintro e w' ⟨rfl,a1,a2,a3⟩;obtain⟨cb,hcb⟩:=(HR.out.1.aM hW).MP;exact⟨rfl,(hLst.aM hW).fr a2.1 (fun b aT hb=>aW hb hcb (by decide)),a1,(HR.out.2.1.aM hW).trans a2⟩)
   clear HP HR HO IE HAS Jg hLst HB
   go_wp2_with (first
    |(go_at_call 187;refine EN.mono ?_;rintro e w4 ⟨rfl,mO⟩;have ha4:=HA5.out w4 mO (decide (sz out<=5000)))
    |(go_at_call 186;refine ha4.mono ?_;rintro e w5 ⟨rfl,m1,m2,m3⟩))
   go_ret;rw[HE.out];exact⟨_,_,_,rfl,m1,m2,m3⟩
end Go.Proofs.YtfplgfodoiiobaaGreatDoor
