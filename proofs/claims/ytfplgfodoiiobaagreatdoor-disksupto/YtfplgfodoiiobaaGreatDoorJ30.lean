/- LgF, LgG (joined). -/
import Derived.Test.YtfplgfodoiiobaaGreatDoorJ29
open Option renaming none→O,some→M
open Go.Value renaming int→I,slice→Z,pointer→U
open Go.IntKind renaming i64→V
open Go.Obj renaming cells→C
open Go.Ending renaming returned→G
open Go renaming World→F,Value→Y,Calls→H
open Go.Proofs.Tryz renaming prog→K
namespace Go.Proofs.YtfplgfodoiiobaaGreatDoor
set_option maxHeartbeats 4000000
set_option maxRecDepth 100000
open Go.RowKit
variable {g k n B:Nat}{w wr w5:F}{ps:Nat->Addr}{st:Option (List UInt8)}{l:List UInt8}{v:Y}{cs:List Y}{o:Obj}
def rgB (ao:Option Addr)(n c:Nat)(bf:Int)(ev:Y):Obj:=C #[Z ao n c,I V bf,ev] 266 (0,0)
def tZ (w:F)(g:Nat)(l:List UInt8)(bf:Int):Prop:=∃(b off c:Nat),w.heap[g]?=M (rgB (M ⟨b,off,O⟩) l.length c bf .nilIface)/\l.length<=c/\qQ w (M ⟨b,off,O⟩) l/\∃aS f,w.heap[b]?=M (C aS 5 f)
def Sz (w:F)(g:Nat)(bf:Int)(ps:Nat->Addr):Prop:=∃(ao:Option Addr) (n c t:Nat) (b:Addr),w.heap[g]?=M (rgB ao n c bf (.iface t (U (M b))))/\nX w ps 1 (.iface t (U (M b))) 11
def dU (w:F)(g:Nat)(st:Option (List UInt8))(bf:Int)(ps:Nat->Addr):Prop:=match st with
 |some l=>tZ w g l bf
 |none=>Sz w g bf ps
theorem kY {ao:Option Addr}{c:Nat}{bf:Int}{ev:Y}(h:w.heap[g]?=M (rgB ao n c bf ev)):w.cell? ⟨g,0,O⟩=M (Z ao n c)/\w.cell? ⟨g,1,O⟩=M (I V bf)/\w.cell? ⟨g,2,O⟩=M ev/\∀j,w.frozen? ⟨g,j,O⟩=false:=by
 simp[World.cell?,World.frozen?,h,rgB]
theorem dU.rX {bf:Int}(h:dU w g st bf ps):∃aS,w.heap[g]?=M (C aS 266 (0,0)):=by
 cases st with
 |some l=>obtain⟨b,off,c,hb,-⟩:=h;exact⟨_,hb⟩
 |none=>obtain⟨ao,n,c,t,b,hb,-⟩:=h;exact⟨_,hb⟩
theorem dU.aN {w':F}{bf:Int}(h:dU w g st bf ps)(hg:aL w w'):dU w' g st bf ps:=by
 cases st with
 |some l=>
  obtain⟨b,off,c,hb,hc,hr,aS,f,ht⟩:=h;exact⟨b,off,c,(hg.block _ (aM hb)).trans hb,hc,hr.aN hg,aS,f,(hg.block _ (aM ht)).trans ht⟩
 |none=>
  obtain⟨ao,n,c,t,b,hb,he⟩:=h;exact⟨ao,n,c,t,b,(hg.block _ (aM hb)).trans hb,he.aN hg⟩
theorem Gl.og {w':F}{bf:Int}(h:Gl w ps)(hr:dU w g st bf ps)(ho:Og w w' g):Gl w' ps:=by
 obtain⟨aS,hc⟩:=hr.rX;exact h.fr ho.1 (fun b c hb=>bB hb hc (by decide)) (fun b c t g hb=>bB hb hc (g.ne (by decide))) (fun b c hb=>bB hb hc (by decide)) (fun b c hb=>bB hb hc (by decide))
def iG (right:Bool)(st:Option (List UInt8)):Option (List UInt8):=if right then st else O
theorem Gu {bf:Int}{s:ByteArray}{right:Bool}(h:dU w g st bf ps)(hG:Gl w ps):
 H K 186 #[U (M ⟨g,0,O⟩),.string s,.bool right] w fun e w'=>e=G (.tuple #[])/\dU w' g (iG right st) bf ps/\Og w w' g:=by
 cases st with
 |none=>
  have HR:Hid (dU w g (iG right O) bf ps):=by show dU _ _ _ _ _;unfold iG;cases right<;>exact h
  obtain⟨ao,n,c,t,b,hb,he⟩:=h;obtain⟨c0,c1,c2,cf⟩:=kY hb;clear hb he;go_enter Tryz.func186,Tryz.ntmps186
  go_wp2_with fail
  go_end0;exact⟨rfl,HR.out,Og.refl w g⟩
 |some l=>
  cases right with
  |true=>
   have HR:Hid (dU w g (iG true (M l)) bf ps):=h;obtain⟨b,off,c,hb,-⟩:=h;obtain⟨c0,c1,c2,cf⟩:=kY hb;clear hb;go_enter Tryz.func186,Tryz.ntmps186
   go_wp2_with fail
   go_end0;exact⟨rfl,HR.out,Og.refl w g⟩
  |false=>
   obtain⟨b,off,c,hb,-⟩:=h;obtain⟨c0,c1,c2,cf⟩:=kY hb;have gc:=hG.Ep.cell (k:=3) (by omega)
   have RA:Hid (H K 81 #[.string s,jX (ps 3)] w fun e w'=> ∃t b0,e=G (.iface t (U (M b0)))/\nX w' ps 1 (.iface t (U (M b0))) 11/\aL w w'):=by
    have he:nX w ps 0 (jX (ps 3)) 11:=Or.inr ⟨0,3,Nat.le_refl _,by omega,rfl,rfl⟩;refine(Nv he).mono ?_;rintro e w' ⟨v',rfl,h1,h2⟩;obtain⟨t,b0,rfl⟩:=h1.yes (by omega);exact⟨t,b0,rfl,h1,h2⟩
   have HK:Hid (∀w4 t b0,aL w w4->nX w4 ps 1 (.iface t (U (M b0))) 11->w4.cell? ⟨g,2,O⟩=M .nilIface/\w4.frozen? ⟨g,2,O⟩=false/\dU (w4.setCell ⟨g,2,O⟩ (.iface t (U (M b0)))) g (iG false (M l)) bf ps/\Og w (w4.setCell ⟨g,2,O⟩ (.iface t (U (M b0)))) g):=fun w4 t b0 h4 he=>by
    have KS:=(h4.block _ (aM hb)).trans hb;obtain⟨-,-,d2,df⟩:=kY KS;have hF:=Fr.set w4 ⟨g,2,O⟩ (.iface t (U (M b0)));refine⟨d2,df 2,⟨M ⟨b,off,O⟩,l.length,c,t,b0,?_,he.fr hF (fun b aS pX=>bB pX KS (by decide)) (fun b aS pX=>bB pX KS (by decide))⟩,((Og.refl w g).aN h4).set⟩;rw[heap_setCell_same w4 g 2 _ _ _ KS];rfl
   unfold jX at gc RA;clear hb hG;go_enter Tryz.func186,Tryz.ntmps186
   go_wp2_with (go_at_call 81;refine RA.out.mono ?_;rintro e w4 ⟨t,b0,rfl,he4,oD⟩;obtain⟨k1,k2,k3,k4⟩:=HK.out w4 t b0 oD he4)
   go_end0;exact⟨rfl,k3,k4⟩
def sP (x:UInt8):Option (List UInt8)->Option (List UInt8)
 |some (y::l)=>if y=x then M l else O
 |_=>O
def aU (lo hi:Int):Option (List UInt8)->Int×Option (List UInt8)
 |none=>(0,O)
 |some l=>if l.length<4 then (0,O)else if gX l<lo\/hi<gX l then (0,O)else (gX l,M (l.drop 4))
theorem tZ.drop {bf:Int}{b off c:Nat}(hb:w.heap[g]?=M (rgB (M ⟨b,off,O⟩) l.length c bf .nilIface))(hc:l.length<=c)(hr:qQ w (M ⟨b,off,O⟩) l)(ht:∃aS f,w.heap[b]?=M (C aS 5 f))(hk:k<=l.length)(ao:Option Addr)(ha:ao=if c=k then M ⟨b,off,O⟩else M ⟨b,off+k,O⟩):tZ (w.setCell ⟨g,0,O⟩ (Z ao (l.length-k) (c-k))) g (l.drop k) bf/\Og w (w.setCell ⟨g,0,O⟩ (Z ao (l.length-k) (c-k))) g:=by
 obtain⟨aS,f,ht⟩:=ht;have hF:=Fr.set w ⟨g,0,O⟩ (Z ao (l.length-k) (c-k));have hne:b≠g:=bB ht hb (by decide)
 have hs:(w.setCell ⟨g,0,O⟩ (Z ao (l.length-k) (c-k))).heap[g]?=M (rgB ao (l.length-k) (c-k) bf .nilIface):=by
  rw[heap_setCell_same w g 0 _ _ _ hb];rfl
 refine⟨?_,(Og.refl w g).set⟩;have Bn:=hr.drop k;by_cases hck:c=k
 ·rw[if_pos hck]at ha;subst ha;have gP:l.drop k=[]:=List.drop_eq_nil_of_le (by omega);refine⟨b,off,c-k,by rw[List.length_drop];exact hs,by rw[List.length_drop];omega,by rw[gP];exact qQ.nil _ _,aS,f,hF.at ht hne⟩
 ·rw[if_neg hck]at ha;subst ha;exact⟨b,off+k,c-k,by rw[List.length_drop];exact hs,by rw[List.length_drop];omega,Bn.fr hF (fun a e=>by cases e;exact hne),aS,f,hF.at ht hne⟩
theorem VR {bf:Int}{x:UInt8}(h:tZ w g l bf)(hG:Gl w ps):
 H K 182 #[U (M ⟨g,0,O⟩),I .u8 (x.toNat:Int)] w fun e w'=>e=G (.tuple #[])/\dU w' g (sP x (M l)) bf ps/\Og w w' g:=by
 have HA:Hid (∀(s:ByteArray) (right:Bool),H K 186 #[U (M ⟨g,0,O⟩),.string s,.bool right] w fun e w'=>e=G (.tuple #[])/\dU w' g (iG right (M l)) bf ps/\Og w w' g):=fun s right=>Gu (st:=M l) h hG
 obtain⟨b,off,c,hb,hc,hr,ht⟩:=h;obtain⟨c0,c1,c2,cf⟩:=kY hb
 have HN:Hid (∀W,Sz W g bf ps->∃t b0,W.cell? ⟨g,2,O⟩=M (.iface t (U (M b0)))):=fun W hW=>by
  obtain⟨ao,n,c,t,b0,hb,-⟩:=hW;exact⟨t,b0,(kY hb).2.2.1⟩
 cases l with
 |nil=>
  have Pk:Hid (H K 186 #[U (M ⟨g,0,O⟩),.string ⟨#[105,116,115,32,108,101,116,116,101,114]⟩,.bool false] w fun e w'=>e=G (.tuple #[])/\dU w' g O bf ps/\Og w w' g):=HA.out _ false;clear hb hr ht hG HA;go_enter Tryz.func182,Tryz.ntmps182
  go_wp2_with (go_at_call 186;refine Pk.out.mono ?_;rintro e w4 ⟨rfl,Ee,Bb⟩;obtain⟨t4,b4,k4⟩:=HN.out w4 Ee)
  go_end0;exact⟨rfl,Ee,Bb⟩
 |cons y l=>
  have hy:w.cell? ⟨b,off,O⟩=M (I .u8 (y.toNat:Int)):=by
   rcases hr with hx|⟨b',Oh,e,ZO⟩
   ·cases hx
   ·cases e;have:=ZO 0 y rfl;simpa using this
  by_cases hxy:y=x
  ·subst hxy
   have uf:Hid (H K 186 #[U (M ⟨g,0,O⟩),.string ⟨#[105,116,115,32,108,101,116,116,101,114]⟩,.bool true] w fun e w'=>e=G (.tuple #[])/\∃b off c,w'.cell? ⟨g,0,O⟩=M (Z (M ⟨b,off,O⟩) (l.length+1) c)/\w'.cell? ⟨g,2,O⟩=M .nilIface/\w'.frozen? ⟨g,0,O⟩=false/\l.length+1<=c/\(∀ao,ao=(if c=1 then M ⟨b,off,O⟩else M ⟨b,off+1,O⟩)->dU (w'.setCell ⟨g,0,O⟩ (Z ao l.length (c-1))) g (M l) bf ps/\Og w (w'.setCell ⟨g,0,O⟩ (Z ao l.length (c-1))) g)):=(HA.out _ true).mono (by
    rintro e w' ⟨rfl,⟨b',Oh,c',pX,YA,tO,ht'⟩,Uw⟩;obtain⟨d0,-,d2,df⟩:=kY pX;refine⟨rfl,b',Oh,c',d0,d2,df 0,by simpa using YA,fun ao ha=>?_⟩;obtain⟨q1,q2⟩:=tZ.drop (k:=1) pX YA tO ht' (by simp) ao ha;exact⟨q1,Uw.trans q2⟩)
   have HE:Hid (sP y (M (y::l))=M l):=by show _=_;simp[sP]
   clear hb hr ht hG HA;have j1:(0:Int)<((l.length+1:Nat):Int):=by omega
   have j2:(0:Int)<(l.length:Int)+1:=by omega
   have j3:(1:Int)<=(l.length:Int)+1:=by omega
   simp only[List.length_cons]at c0;go_enter Tryz.func182,Tryz.ntmps182
   go_upto_region 1 with(go_at_call 186;refine uf.out.mono ?_;rintro e w4 ⟨rfl,b4,VS,c4,k0,k2,kf,kc,hk⟩)
   have HKK:Hid (∀ao,ao=(if c4=1 then M ⟨b4,VS,O⟩else M ⟨b4,VS+1,O⟩)->dU (w4.setCell ⟨g,0,O⟩ (Z ao l.length (c4-1))) g (M l) bf ps/\Og w (w4.setCell ⟨g,0,O⟩ (Z ao l.length (c4-1))) g):=hk;clear hk;by_cases vI:c4=1
   ·have q:=HKK.out _ (if_pos vI).symm
    have Q:Hid (dU (w4.setCell ⟨g,0,O⟩ (Z (M ⟨b4,VS,O⟩) l.length 0)) g (M l) bf ps/\Og w (w4.setCell ⟨g,0,O⟩ (Z (M ⟨b4,VS,O⟩) l.length 0)) g):=by
     rw[vI]at q;exact q
    clear q HKK;have e0:l=[]:=List.eq_nil_of_length_eq_zero (by omega);subst vI e0
    go_wp2_with fail
    go_end0;rw[HE.out];exact⟨rfl,Q.out.1,Q.out.2⟩
   ·have Q:Hid _:=HKK.out _ (if_neg vI).symm;clear HKK
    go_wp2_with fail
    go_end0;rw[HE.out];exact⟨rfl,Q.out.1,Q.out.2⟩
  ·have Pk:Hid (H K 186 #[U (M ⟨g,0,O⟩),.string ⟨#[105,116,115,32,108,101,116,116,101,114]⟩,.bool false] w fun e w'=>e=G (.tuple #[])/\dU w' g O bf ps/\Og w w' g):=HA.out _ false;have HE:Hid (sP x (M (y::l))=O):=by show _=_;simp[sP,hxy]
   have hne:(((y.toNat:Nat):Int)==((x.toNat:Nat):Int))=false:=by
    rw[beq_eq_false_iff_ne];intro e;exact hxy (UInt8.toNat_inj.1 (by omega))
   clear hb hr ht hG HA;have j1:(0:Int)<((l.length+1:Nat):Int):=by omega
   have j2:(0:Int)<(l.length:Int)+1:=by omega
   simp only[List.length_cons]at c0;go_enter Tryz.func182,Tryz.ntmps182
   go_wp2_with (go_at_call 186;refine Pk.out.mono ?_;rintro e w4 ⟨rfl,Ee,Bb⟩;obtain⟨t4,b4,k4⟩:=HN.out w4 Ee)
   go_end0;rw[HE.out];exact⟨rfl,Ee,Bb⟩
theorem tZ.cells {bf:Int}(h:tZ w g l bf):∃b off c,w.cell? ⟨g,0,O⟩=M (Z (M ⟨b,off,O⟩) l.length c)/\w.cell? ⟨g,1,O⟩=M (I V bf)/\w.cell? ⟨g,2,O⟩=M .nilIface/\l.length<=c/\w.frozen? ⟨g,0,O⟩=false/\qQ w (M ⟨b,off,O⟩) l:=by
 obtain⟨b,off,c,hb,hc,hr,-⟩:=h;obtain⟨c0,c1,c2,cf⟩:=kY hb;exact⟨b,off,c,c0,c1,c2,hc,cf 0,hr⟩
theorem Sz.cells {bf:Int}(h:Sz w g bf ps):∃ao n c t b0,w.cell? ⟨g,0,O⟩=M (Z ao n c)/\w.cell? ⟨g,1,O⟩=M (I V bf)/\w.cell? ⟨g,2,O⟩=M (.iface t (U (M b0))):=by
 obtain⟨ao,n,c,t,b0,hb,-⟩:=h;obtain⟨c0,c1,c2,cf⟩:=kY hb;exact⟨ao,n,c,t,b0,c0,c1,c2⟩
theorem wY {bf lo hi:Int}{s:ByteArray}(h:dU w g st bf ps)(hG:Gl w ps):
 H K 183 #[U (M ⟨g,0,O⟩),.string s,I V lo,I V hi] w fun e w'=>e=G (I V (aU lo hi st).1)/\dU w' g (aU lo hi st).2 bf ps/\Og w w' g:=by
 cases st with
 |none=>
  have HA:Hid (∀(right:Bool),H K 186 #[U (M ⟨g,0,O⟩),.string s,.bool right] w fun e w'=>e=G (.tuple #[])/\dU w' g O bf ps/\Og w w' g):=fun right=>(Gu (right:=right) h hG).mono (by
   rintro e w' ⟨a,b,c⟩;have:iG right O=O:=by unfold iG;cases right<;>rfl
   rw[this]at b;exact⟨a,b,c⟩)
  obtain⟨ao,n,c,t,b0,c0,-,-⟩:=Sz.cells h;clear h hG;go_enter Tryz.func183,Tryz.ntmps183
  go_wp2_with (go_at_call 186;refine(HA.out _).mono ?_;rintro e w4 ⟨rfl,Ee,Bb⟩;obtain⟨_,_,_,t4,b4,-,-,k4⟩:=Sz.cells Ee)
  go_ret;exact⟨rfl,Ee,Bb⟩
 |some l=>
  obtain⟨b,off,c,c0,-,c2,hc,cf,hr⟩:=tZ.cells h;by_cases hl:l.length<4
  ·have HA:Hid (H K 186 #[U (M ⟨g,0,O⟩),.string s,.bool false] w fun e w'=>e=G (.tuple #[])/\dU w' g O bf ps/\Og w w' g):=Gu (right:=false) h hG;have HE:Hid (aU lo hi (M l)=(0,O)):=by show _=_;simp[aU,hl]
   have hl':¬(4:Int)<=(l.length:Int):=by omega
   clear h hG hr;go_enter Tryz.func183,Tryz.ntmps183
   go_wp2_with (go_at_call 186;refine HA.out.mono ?_;rintro e w4 ⟨rfl,Ee,Bb⟩;obtain⟨_,_,_,t4,b4,-,-,k4⟩:=Sz.cells Ee)
   go_ret;rw[HE.out];exact⟨rfl,Ee,Bb⟩
  ·have hl':(4:Int)<=(l.length:Int):=by omega
   have hbd:=kU l;have HA:Hid (H K 186 #[U (M ⟨g,0,O⟩),.string s,.bool true] w fun e w'=>e=G (.tuple #[])/\tZ w' g l bf/\Og w w' g):=Gu (right:=true) h hG;have Hq:Hid (∀W,Og w W g->Gl W ps):=fun W hW=>hG.og h hW
   have HN:Hid (∀W b off c,qQ W (M ⟨b,off,O⟩) l->H K 234 #[Z (M ⟨b,off,O⟩) l.length c] W fun e w'=>e=G (I .u32 (gX l))/\aL W w'):=fun W b off c hW=>(Ky hW (by omega) (by omega)).mono (by
    rintro e w' ⟨rfl,q,rfl⟩;exact⟨rfl,aZ (aL.refl W) q⟩)
   have HD:Hid (∀W,tZ W g l bf->∃b off c,W.cell? ⟨g,0,O⟩=M (Z (M ⟨b,off,O⟩) l.length c)/\W.frozen? ⟨g,0,O⟩=false/\l.length<=c/\∀ao,ao=(if c=4 then M ⟨b,off,O⟩else M ⟨b,off+4,O⟩)->tZ (W.setCell ⟨g,0,O⟩ (Z ao (l.length-4) (c-4))) g (l.drop 4) bf/\Og W (W.setCell ⟨g,0,O⟩ (Z ao (l.length-4) (c-4))) g):=fun W hW=>by
    obtain⟨b,off,c,hb,hc,hr,ht⟩:=hW;obtain⟨c0,c1,c2,cf⟩:=kY hb;exact⟨b,off,c,c0,cf 0,hc,fun ao ha=>tZ.drop hb hc hr ht (by omega) ao ha⟩
   have HE:Hid (aU lo hi (M l)=if gX l<lo\/hi<gX l then (0,O)else (gX l,M (l.drop 4))):=by show _=_;simp only[aU];rw[if_neg hl]
   have HAF:Hid (∀W,tZ W g (l.drop 4) bf->Og w W g->H K 186 #[U (M ⟨g,0,O⟩),.string s,.bool false] W fun e w'=>e=G (.tuple #[])/\dU w' g O bf ps/\Og w w' g):=fun W hW hO=>(Gu (right:=false) (st:=M (l.drop 4)) hW (Hq.out W hO)).mono (by
    rintro e w' ⟨a,b,c⟩;exact⟨a,b,hO.trans c⟩)
   clear h hG hr;go_enter Tryz.func183,Tryz.ntmps183
   go_upto_region 4 with(go_at_call 186;refine HA.out.mono ?_;rintro e w4 ⟨rfl,Ee,Bb⟩;obtain⟨b4,VS,c4,k0,-,k2,kc,kf,kr⟩:=tZ.cells Ee)
   have hn4:=HN.out w4 b4 VS c4 kr;have HR4:Hid (tZ w4 g l bf):=Ee;clear Ee kr c0 c2;generalize gX l=nb at*;have EP:wrap64 nb=nb:=by unfold wrap64;omega
   go_upto_region 5 with(go_at_call 234;refine hn4.mono ?_;rintro e w5 ⟨rfl,fQ⟩)
   have Ef:tZ w5 g l bf:=dU.aN (st:=M l) (ps:=ps) HR4.out fQ;obtain⟨b5,off5,c5,k5,kf5,kc5,hk5⟩:=HD.out w5 Ef;have HO5:Hid (Og w w5 g):=Bb.aN fQ;have HK5:Hid (∀ao,ao=(if c5=4 then M ⟨b5,off5,O⟩else M ⟨b5,off5+4,O⟩)->tZ (w5.setCell ⟨g,0,O⟩ (Z ao (l.length-4) (c5-4))) g (l.drop 4) bf/\Og w5 (w5.setCell ⟨g,0,O⟩ (Z ao (l.length-4) (c5-4))) g):=hk5;clear hk5 Ef hn4 k0 k2 kf fQ Bb HR4 HA HN HD
   go_upto_region 6 with fail
   obtain⟨q5,q6⟩:=HK5.out _ rfl;have HQ5:Hid (tZ _ g (l.drop 4) bf):=q5;have HQ6:Hid (Og w _ g):=HO5.out.trans q6;clear HK5 q5 q6 k5 kf5 HO5;generalize (if c5=4 then M (⟨b5,off5,O⟩:Addr)else M ⟨b5,off5+4,O⟩)=Wh at*;generalize (w5.setCell ⟨g,0,O⟩ (Z Wh (l.length-4) (c5-4)))=w6 at*;by_cases vB:nb<lo
   ·have HE1:Hid (aU lo hi (M l)=(0,O)):=by show _=_;rw[HE.out,if_pos (Or.inl vB)]
    have hf6:=HAF.out w6 HQ5.out HQ6.out;clear HE
    go_wp2_with (go_at_call 186;refine hf6.mono ?_;rintro e w7 ⟨rfl,NG,ho7⟩)
    go_ret;rw[HE1.out];exact⟨rfl,NG,ho7⟩
   ·by_cases Bn:hi<nb
    ·have HE1:Hid (aU lo hi (M l)=(0,O)):=by show _=_;rw[HE.out,if_pos (Or.inr Bn)]
     have hf6:=HAF.out w6 HQ5.out HQ6.out;clear HE
     go_wp2_with (go_at_call 186;refine hf6.mono ?_;rintro e w7 ⟨rfl,NG,ho7⟩)
     go_ret;rw[HE1.out];exact⟨rfl,NG,ho7⟩
    ·have HE1:Hid (aU lo hi (M l)=(nb,M (l.drop 4))):=by show _=_;rw[HE.out,if_neg (by omega)]
     clear HE
     go_wp2_with fail
     go_ret;rw[HE1.out];exact⟨rfl,HQ5.out,HQ6.out⟩
def sQ (bf:Int)(l:List UInt8):(Int×Int)×Option (List UInt8):=
 (((aU 0 bf (M l)).1,(aU 1 5000 (aU 0 bf (M l)).2).1),iG (decide ((aU 0 bf (M l)).1+(aU 1 5000 (aU 0 bf (M l)).2).1<=bf)) (aU 1 5000 (aU 0 bf (M l)).2).2)
def uQ (bf:Int):Nat->List (Int×Int)->List UInt8->Option (List (Int×Int)×List UInt8)
 |0,out,l=>M (out,l)
 |k+1,out,l=>match (sQ bf l).2 with
  |none=>O
  |some l'=>uQ bf k (out++ [(sQ bf l).1]) l'
def Jp:Option (List (Int×Int)×List UInt8)->List (Int×Int)×Option (List UInt8)
 |none=>([],O)
 |some q=>(q.1,iG (decide (sz q.1<=5000)) (M q.2))
def aR (bf:Int)(st:Option (List UInt8)):List (Int×Int)×Option (List UInt8):=match (aU 0 4096 st).2 with
 |none=>([],O)
 |some l=>Jp (uQ bf (aU 0 4096 st).1.toNat [] l)
def Zt (bf:Int)(N k:Nat)(out:List (Int×Int))(Mh:Option (List UInt8))(res:List (Int×Int)×Option (List UInt8)):Prop:=
 (Mh=O->N=0/\out=[]/\res=([],O))/\∀l,Mh=M l->res=Jp (uQ bf (N-k) out l)
theorem Zt.done {bf:Int}{N:Nat}{out:List (Int×Int)}{Mh:Option (List UInt8)}{res:List (Int×Int)×Option (List UInt8)}(h:Zt bf N N out Mh res):res=(out,iG (decide (sz out<=5000)) Mh):=by
 cases Mh with
 |none=>obtain⟨-,rfl,e⟩:=h.1 rfl;rw[e];simp[sz,iG]
 |some l=>have:=h.2 l rfl;rw[Nat.sub_self]at this;exact this
theorem Zt.next {bf:Int}{N:Nat}{out:List (Int×Int)}{res:List (Int×Int)×Option (List UInt8)}(h:Zt bf N k out (M l) res)(hk:k<N):((sQ bf l).2=O->res=([],O))/\∀l',(sQ bf l).2=M l'->Zt bf N (k+1) (out++ [(sQ bf l).1]) (M l') res:=by
 have:=h.2 l rfl;rw[show N-k=(N-(k+1))+1 from by omega,uQ]at this;refine⟨fun e=>?_,fun l' e=>⟨fun e2=>(by cases e2),fun l2 e2=>?_⟩⟩
 ·rw[e]at this;exact this
 ·cases e2;rw[e]at this;exact this
theorem xU (lo hi:Int)(st:Option (List UInt8)):0<=(aU lo hi st).1/\(aU lo hi st).1<4294967296:=by
 cases st with
 |none=>simp[aU]
 |some l=>
  have:=kU l;simp only[aU];split
  ·simp
  ·split
   ·simp
   ·exact this
theorem vL {lo hi:Int}(h:(aU lo hi st).2=M l):lo<=(aU lo hi st).1/\(aU lo hi st).1<=hi/\∃l0,st=M l0/\4<=l0.length/\(aU lo hi st).1=gX l0/\l=l0.drop 4:=by
 cases st with
 |none=>simp[aU]at h
 |some l0=>
  simp only[aU]at h ⊢;split at h
  ·simp at h
  ·rename_i h1;split at h
   ·simp at h
   ·rename_i h2;rw[if_neg h1,if_neg h2];simp at h;exact⟨by omega,by omega,l0,rfl,by omega,rfl,h.symm⟩
theorem Ta {bf:Int}{l':List UInt8}(h:(sQ bf l).2=M l'):0<=(sQ bf l).1.1/\1<=(sQ bf l).1.2/\(sQ bf l).1.2<=5000/\(sQ bf l).1.1+(sQ bf l).1.2<=bf:=by
 unfold sQ at h ⊢;simp only[iG]at h;split at h
 ·rename_i hd;have h2:=vL h;have:=xU 0 bf (M l);simp only at hd ⊢;exact⟨this.1,h2.1,h2.2.1,of_decide_eq_true hd⟩
 ·cases h
theorem dU.bf {bf:Int}(h:dU w g st bf ps):w.cell? ⟨g,1,O⟩=M (I V bf):=by
 cases st with
 |none=>obtain⟨_,_,_,_,_,-,h,-⟩:=Sz.cells h;exact h
 |some l=>obtain⟨_,_,_,-,h,-⟩:=tZ.cells h;exact h
theorem Og.own {t:TypeId}(hO:Og w wr g)(hB:w.heap.size<=B)(bA:wr.ownsRow B t n v k cs)(hg:(wr.alloc o).grownBy w5 v.ownBlock):Og w w5 g:=by
 have h1:=kV hg;obtain⟨⟨a1,a2⟩,b1,b2,b3⟩:=hO;refine⟨⟨Nat.le_trans a1 h1.size,fun b hb hne=>?_⟩,h1.os.trans b1,h1.tape.trans b2,h1.output.trans b3⟩;rw[<-a2 b hb hne];refine h1.block b (Nat.lt_of_lt_of_le hb a1) (fun e=>?_);have:=(World.ownsRow.lt bA b e.symm).1;omega
theorem dU.own {t:TypeId}{bf:Int}(h:dU wr g st bf ps)(bA:wr.ownsRow B t n v k cs)(ht:t=114\/t=261)(hg:(wr.alloc o).grownBy w5 v.ownBlock):dU w5 g st bf ps:=by
 have h1:=kV hg;have hF:=Fr.kK h1
 have key:∀(b:Nat) (aS:Array Y) (t':TypeId) (f:Nat×Nat),wr.heap[b]?=M (C aS t' f)->t'≠114->t'≠261->¬(v.ownBlock=M b):=fun b aS t' f hb n1 n2 e=>by
  obtain⟨c,hc⟩:=mF bA e;rcases ht with rfl|rfl
  ·exact bB hb hc n1 rfl
  ·exact bB hb hc n2 rfl
 cases st with
 |some l=>
  obtain⟨b,off,c,hb,hc,hr,aS,f,vC⟩:=h;exact⟨b,off,c,hF.at hb (key _ _ _ _ hb (by decide) (by decide)),hc,hr.fr hF (fun a e=>by cases e;exact key _ _ _ _ vC (by decide) (by decide)),aS,f,hF.at vC (key _ _ _ _ vC (by decide) (by decide))⟩
 |none=>
  obtain⟨ao,m,c,t',b,hb,he⟩:=h;exact⟨ao,m,c,t',b,hF.at hb (key _ _ _ _ hb (by decide) (by decide)),he.fr hF (fun b aS hb=>key _ _ _ _ hb (by decide) (by decide)) (fun b aS hb=>key _ _ _ _ hb (by decide) (by decide))⟩
theorem Gl.own {t:TypeId}(h:Gl wr ps)(bA:wr.ownsRow B t n v k cs)(ht:t=114\/t=261)(hg:(wr.alloc o).grownBy w5 v.ownBlock):Gl w5 ps:=by
 have h1:=kV hg
 have key:∀(b:Nat) (aS:Array Y) (t':TypeId) (f:Nat×Nat),wr.heap[b]?=M (C aS t' f)->t'≠114->t'≠261->¬(v.ownBlock=M b):=fun b aS t' f hb n1 n2 e=>by
  obtain⟨c,hc⟩:=mF bA e;rcases ht with rfl|rfl
  ·exact bB hb hc n1 rfl
  ·exact bB hb hc n2 rfl
 exact h.fr (Fr.kK h1) (fun b c hb=>key _ _ _ _ hb (by decide) (by decide)) (fun b c t g hb=>key _ _ _ _ hb (g.ne (by decide)) (g.ne (by decide))) (fun b c hb=>key _ _ _ _ hb (by decide) (by decide)) (fun b c hb=>key _ _ _ _ hb (by decide) (by decide))
theorem Tc {bf:Int}(h:dU w g st bf ps)(hG:Gl w ps)(Eo:0<=bf)(fC:bf<=1000000000):
 H K 184 #[U (M ⟨g,0,O⟩)] w fun e w'=> ∃x1 x2 x3,e=G (Z x1 x2 x3)/\bL w' (x1,x2,x3) (aR bf st).1/\dU w' g (aR bf st).2 bf ps/\Og w w' g:=by
 have Bp:g<w.heap.size:=by obtain⟨c,hc⟩:=h.rX;exact aM hc
 have GU:Hid (∀W Br,dU W g Br bf ps->Gl W ps->∀lo hi (s:ByteArray),H K 183 #[U (M ⟨g,0,O⟩),.string s,I V lo,I V hi] W fun e w'=>e=G (I V (aU lo hi Br).1)/\dU w' g (aU lo hi Br).2 bf ps/\Og W w' g/\Gl w' ps):=fun W Br hW Zr lo hi s=>(wY hW Zr).mono (by
  rintro e w' ⟨a,b,c⟩;exact⟨a,b,c,Zr.og hW c⟩)
 have HAS:Hid (∀W Br,dU W g Br bf ps->Gl W ps->∀(s:ByteArray) (right:Bool),H K 186 #[U (M ⟨g,0,O⟩),.string s,.bool right] W fun e w'=>e=G (.tuple #[])/\dU w' g (iG right Br) bf ps/\Og W w' g/\Gl w' ps):=fun W Br hW Zr s right=>(Gu hW Zr).mono (by
  rintro e w' ⟨a,b,c⟩;exact⟨a,b,c,Zr.og hW c⟩)
 have KL:=GU.out w st h hG 0 4096 ⟨#[104,111,119,32,109,97,110,121,32,112,105,101,99,101,115]⟩;have MU:Hid (∀N:Nat,(aU 0 4096 st).1=(N:Int)->((aU 0 4096 st).2=O->(aU 0 4096 st).1=0)->Zt bf N 0 [] (aU 0 4096 st).2 (aR bf st)):=fun N hN h0=>⟨fun e=>⟨by have:=h0 e;omega,rfl,by unfold aR;rw[e]⟩,fun l e=>by unfold aR;rw[e,hN];rfl⟩
 have hN4:(aU 0 4096 st).1<=4096:=by
  cases hs:(aU 0 4096 st).2 with
  |some l=>exact(vL hs).2.1
  |none=>
   cases st with
   |none=>simp[aU]
   |some l=>
    simp only[aU]at hs ⊢;split
    ·simp
    ·rename_i h1;rw[if_neg h1]at hs;split
     ·simp
     ·rename_i h2;rw[if_neg h2]at hs;cases hs
 have hNb:=(xU 0 4096 st).1
 have hN0:(aU 0 4096 st).2=O->(aU 0 4096 st).1=0:=fun e=>by
  cases st with
  |none=>simp[aU]
  |some l=>
   simp only[aU]at e ⊢;split
   ·rfl
   ·rename_i h1;rw[if_neg h1]at e;split
    ·rfl
    ·rename_i h2;rw[if_neg h2]at e;cases e
 obtain⟨N,hN⟩:=Int.eq_ofNat_of_zero_le hNb;have HPR:Hid (Zt bf N 0 [] (aU 0 4096 st).2 (aR bf st)):=MU.out N hN hN0;rw[hN]at KL hN4;generalize (aU 0 4096 st).2=st1 at*;clear hN hN0 hNb h hG MU;have HB:Hid (∀W (x:bS) (l:List (Int×Int)),bL W x l->fG l->l.length<=10000->H K 187 #[x.v] W fun e w'=>e=G (I V (sz l))/\aL W w'):=fun W x l h1 h2 h3=>vK h1 h2 (by omega)
 go_enter Tryz.func184,Tryz.ntmps184
 go_wp2_with (go_at_call 183;refine KL.mono ?_;rintro e w1 ⟨rfl,vB,Fe,G_⟩)
 have Xv:Hid (dU w1 g st1 bf ps/\Og w w1 g/\Gl w1 ps):=⟨vB,Fe,G_⟩;clear vB Fe G_ KL
 go_loopw [3,4,5,8] (fun v _ _ i wr=> ∃(out:List (Int×Int)) (Mh:Option (List UInt8)),i=I V (out.length:Int)/\out.length<=N/\Hid (Zt bf N out.length out Mh (aR bf st))/\Hid (dU wr g Mh bf ps/\Og w wr g/\Gl wr ps)/\Hid (gY wr w.heap.size v out/\fG out)) (fun _ _ _ i _=>N-(intOf i).toNat)
 case atStart=>exact⟨[],st1,rfl,Nat.zero_le _,HPR,Xv,World.ownsRow_nil _ _ _ _,fun q hq=>by simp at hq⟩
 case round=>
  obtain⟨out,Mh,rfl,hk,HP,HR,HO⟩:=hrel;by_cases bT:out.length<N
  ·have VL:(out.length:Int)<(N:Int):=by omega
   have tF:decide (out.length<N)=true:=decide_eq_true bT;cases Mh with
   |none=>have:=(HP.out.1 rfl).1;omega
   |some l=>
    obtain⟨p1,p2⟩:=HP.out.next bT;have cbf:=HR.out.1.bf;have Ul:=GU.out wr (M l) HR.out.1 HR.out.2.2 0 bf ⟨#[97,110,32,111,102,102,115,101,116]⟩;have KN:Hid (∀W,dU W g (aU 0 bf (M l)).2 bf ps->Gl W ps->_):=fun W h1 h2=>GU.out W _ h1 h2 1 5000 ⟨#[97,32,108,101,110,103,116,104]⟩
    have HA3:Hid (∀W,dU W g (aU 1 5000 (aU 0 bf (M l)).2).2 bf ps->Gl W ps->∀right,_):=fun W h1 h2 right=>HAS.out W _ h1 h2 ⟨#[116,104,101,32,101,110,100,32,111,102,32,97,32,112,105,101,99,101]⟩ right
    have ba:=xU 0 bf (M l);have bb:=xU 1 5000 (aU 0 bf (M l)).2;have tK:=fun l'=>Ta (bf:=bf) (l:=l) (l':=l')
    have HRP:Hid (sQ bf l=(((aU 0 bf (M l)).1,(aU 1 5000 (aU 0 bf (M l)).2).1),iG (decide ((aU 0 bf (M l)).1+(aU 1 5000 (aU 0 bf (M l)).2).1<=bf)) (aU 1 5000 (aU 0 bf (M l)).2).2)):=rfl;rw[HRP.out]at p1 p2 tK;simp only at p1 p2 tK;generalize (aU 1 5000 (aU 0 bf (M l)).2).2=st5 at*;generalize (aU 1 5000 (aU 0 bf (M l)).2).1=b at*;generalize (aU 0 bf (M l)).2=st4 at*;generalize (aU 0 bf (M l)).1=a at*;obtain⟨qP,qV,ev,-⟩:=gY.form HO.out.1;subst ev;have HOR:Hid (Og w wr g):=HR.out.2.1;clear HRP HP HR GU HAS;have hG4:Hid True:=trivial
    go_upto_region 7 with(first
     |(go_at_call 183;refine Ul.mono ?_;clear Ul;rintro e w4 ⟨rfl,Ee,Bb,oD⟩;have Um:=KN.out w4 Ee oD)
     |(go_at_call 183;refine Um.mono ?_;clear Um;rintro e w5 ⟨rfl,Ef,RN,fQ⟩;have cbf5:=Ef.bf;have Qo:=HA3.out w5 Ef fQ (decide (a+b<=bf)))
     |(go_at_call 186;refine Qo.mono ?_;clear Qo;rintro e w6 ⟨rfl,Uo,YI,uI⟩))
    have L_:Hid (Og wr w6 g):=(Bb.trans RN).trans YI;clear KN HA3 Ee Ef Bb RN YI oD fQ cbf cbf5;cases dV:iG (decide (a+b<=bf)) st5 with
    |none=>
     rw[dV]at Uo;have HE:Hid (aR bf st=([],O)):=p1 dV;obtain⟨_,_,_,t6,b6,-,-,k6⟩:=Sz.cells Uo;have HR6:Hid (dU w6 g O bf ps):=Uo;clear Uo p1 p2 tK dV
     go_wp2_with fail
     go_ret;rw[HE.out];exact⟨O,0,0,rfl,uO _,HR6.out,HOR.out.trans L_.out⟩
    |some l'=>
     rw[dV]at Uo;have FC:Hid (Zt bf N (out.length+1) (out++ [(a,b)]) (M l') (aR bf st)):=p2 l' dV;obtain⟨q1,q2,q3,q4⟩:=tK l' dV;obtain⟨_,_,_,-,-,k6,-⟩:=tZ.cells Uo;have HR6:Hid (dU w6 g (M l') bf ps):=Uo;have M_:Hid (gY w6 w.heap.size (Z qP out.length qV) out):=HO.out.1.og L_.out Bp;have YE:Hid (fG (out++ [(a,b)])):=iE HO.out.2 (fun q hq=>by simp at hq;subst hq;unfold lX;simp only;omega);have hle6:w.heap.size<=w6.heap.size:=(HOR.out.trans L_.out).1.1;have hol:out.length<=4096:=by omega
     clear Uo p1 p2 tK dV
     go_wp2_with (at_builtin;go_must (refine gQ (by rfl) (.tmp 33) (.tmp 37) (by rfl) w.heap.size _ out [(a,b)] (by rfl) (by exact World.ownsRow.alloc M_.out _) _ _ _ (by rfl) (by rfl) (by intro e;cases e) (by exact yZ w6 a b) (by simp only[List.length_singleton];omega) (by simp;omega) ?_);intro v7 w7 yM oO)
     have HF:Hid ((dU w7 g (M l') bf ps/\Og w w7 g/\Gl w7 ps)/\gY w7 w.heap.size v7 (out++ [(a,b)])/\fG (out++ [(a,b)])):=⟨⟨HR6.out.own M_.out (Or.inl rfl) oO,(HOR.out.trans L_.out).own (Nat.le_refl _) M_.out oO,uI.own M_.out (Or.inl rfl) oO⟩,yM,YE.out⟩;clear yM oO;go_roundw
     case rel=>exact⟨out++ [(a,b)],M l',by simp,by simp;omega,by simpa using FC,HF.out.1,HF.out.2⟩
     case measure=>simp[intOf];omega
  ·have VL:¬(out.length:Int)<(N:Int):=by omega
   have tF:decide (out.length<N)=false:=decide_eq_false bT;have hkN:N=out.length:=by omega
   have HE:Hid (aR bf st=(out,iG (decide (sz out<=5000)) Mh)):=by
    have:=HP.out;rw[hkN]at this;exact this.done
   obtain⟨qP,qV,ev,Lr,hnn⟩:=yF.oF HO.out.1;subst ev;have hLst:bL wr (qP,out.length,qV) out:=⟨Lr,rfl,hnn⟩;have Oi:=HB.out wr (qP,out.length,qV) out hLst HO.out.2 (by omega);simp only[bS.v]at Oi
   have HA5:Hid (∀W,aL wr W->∀right,H K 186 #[U (M ⟨g,0,O⟩),.string ⟨#[116,104,101,32,98,121,116,101,115,32,111,102,32,112,105,101,99,101,115]⟩,.bool right] W fun e w'=>e=G (.tuple #[])/\bL w' (qP,out.length,qV) out/\dU w' g (iG right Mh) bf ps/\Og w w' g):=fun W hW right=>(HAS.out W Mh (HR.out.1.aN hW) (HR.out.2.2.aN hW) _ right).mono (by
    rintro e w' ⟨rfl,a1,a2,a3⟩;obtain⟨cb,A_⟩:=(HR.out.1.aN hW).rX;exact⟨rfl,(hLst.aN hW).fr a2.1 (fun b aS hb=>bB hb A_ (by decide)),a1,(HR.out.2.1.aN hW).trans a2⟩)
   clear HP HR HO GU HAS Lr hLst HB
   go_wp2_with (first
    |(go_at_call 187;refine Oi.mono ?_;rintro e w4 ⟨rfl,oD⟩;have ha4:=HA5.out w4 oD (decide (sz out<=5000)))
    |(go_at_call 186;refine ha4.mono ?_;rintro e w5 ⟨rfl,m1,m2,m3⟩))
   go_ret;rw[HE.out];exact⟨_,_,_,rfl,m1,m2,m3⟩
end Go.Proofs.YtfplgfodoiiobaaGreatDoor
