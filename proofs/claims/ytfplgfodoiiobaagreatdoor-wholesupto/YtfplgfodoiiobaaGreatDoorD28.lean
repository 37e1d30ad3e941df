/- LgF, LgG, LgH, LgI (joined). -/
import Derived.Test.YtfplgfodoiiobaaGreatDoorD27
open Option renaming none→O,some→M
open Go.Value renaming int→I,slice→Z,pointer→U
open Go.IntKind renaming i64→V
open Go.Obj renaming cells→C
open Go.Ending renaming returned→G
open Go renaming World→F,Value→Y,Calls→H
open Go.Proofs.Tryz renaming prog→K
open Go.Proofs.Tryz
namespace Go.Proofs.YtfplgfodoiiobaaGreatDoor
section
set_option maxHeartbeats 4000000
set_option maxRecDepth 100000
open Go.RowKit
abbrev Acp:=@of_decide_eq_true
variable {g k n B:Nat}{w wr w5:F}{ps:Nat->Addr}{st:Option (List UInt8)}{l:List UInt8}{v:Y}{cs:List Y}{o:Obj}
def rgB (ao:Option Addr)(n c:Nat)(bf:Int)(ev:Y):Obj:=C #[Z ao n c,I V bf,ev] 266 (0,0)
def yL (w:F)(g:Nat)(l:List UInt8)(bf:Int):Prop:=∃(b off c:Nat),w.heap[g]?=M (rgB (M ⟨b,off,O⟩) l.length c bf .nilIface)/\l.length<=c/\pG w (M ⟨b,off,O⟩) l/\∃aS f,w.heap[b]?=M (C aS 5 f)
def Ur (w:F)(g:Nat)(bf:Int)(ps:Nat->Addr):Prop:=∃(ao:Option Addr) (n c t:Nat) (b:Addr),w.heap[g]?=M (rgB ao n c bf (.iface t (U (M b))))/\kZ w ps 1 (.iface t (U (M b))) 11
def dW (w:F)(g:Nat)(st:Option (List UInt8))(bf:Int)(ps:Nat->Addr):Prop:=match st with
 |some l=>yL w g l bf
 |none=>Ur w g bf ps
theorem lT {ao:Option Addr}{c:Nat}{bf:Int}{ev:Y}(h:w.heap[g]?=M (rgB ao n c bf ev)):w.cell? ⟨g,0,O⟩=M (Z ao n c)/\w.cell? ⟨g,1,O⟩=M (I V bf)/\w.cell? ⟨g,2,O⟩=M ev/\∀j,w.frozen? ⟨g,j,O⟩=false:=by
 simp[World.cell?,World.frozen?,h,rgB]
theorem dW.zY {bf:Int}(h:dW w g st bf ps):∃aS,w.heap[g]?=M (C aS 266 (0,0)):=by
 cases st with
 |some l=>obtain⟨b,off,c,hb,-⟩:=h;exact⟨_,hb⟩
 |none=>obtain⟨ao,n,c,t,b,hb,-⟩:=h;exact⟨_,hb⟩
theorem dW.aN {w':F}{bf:Int}(h:dW w g st bf ps)(hg:aL w w'):dW w' g st bf ps:=by
 cases st with
 |some l=>
  obtain⟨b,off,c,hb,hc,hr,aS,f,ht⟩:=h;exact⟨b,off,c,(hg.block _ (aM hb)).trans hb,hc,hr.aN hg,aS,f,(hg.block _ (aM ht)).trans ht⟩
 |none=>
  obtain⟨ao,n,c,t,b,hb,he⟩:=h;exact⟨ao,n,c,t,b,(hg.block _ (aM hb)).trans hb,he.aN hg⟩
theorem Gl.og {w':F}{bf:Int}(h:Gl w ps)(hr:dW w g st bf ps)(ho:Og w w' g):Gl w' ps:=by
 obtain⟨aS,hc⟩:=hr.zY;exact h.fr ho.1 (fun b c hb=>aZ hb hc (by decide)) (fun b c t g hb=>aZ hb hc (g.ne (by decide))) (fun b c hb=>aZ hb hc (by decide)) (fun b c hb=>aZ hb hc (by decide))
def iP (right:Bool)(st:Option (List UInt8)):Option (List UInt8):=if right then st else O
theorem Ji {bf:Int}{s:ByteArray}{right:Bool}(h:dW w g st bf ps)(hG:Gl w ps):
 H K 186 #[U (M ⟨g,0,O⟩),.string s,.bool right] w fun e w'=>e=G (.tuple #[])/\dW w' g (iP right st) bf ps/\Og w w' g:=by
 cases st with
 |none=>
  have HR:Hid (dW w g (iP right O) bf ps):=by show dW _ _ _ _ _;unfold iP;cases right<;>exact h
  obtain⟨ao,n,c,t,b,hb,he⟩:=h;obtain⟨c0,c1,c2,cf⟩:=lT hb;clear hb he;go_enter func186,ntmps186
  go_wp2
  go_end0;exact⟨rfl,HR.out,Og.refl w g⟩
 |some l=>
  cases right with
  |true=>
   have HR:Hid _:=h;obtain⟨b,off,c,hb,-⟩:=h;obtain⟨c0,c1,c2,cf⟩:=lT hb;clear hb;go_enter func186,ntmps186
   go_wp2
   go_end0;exact⟨rfl,HR.out,Og.refl w g⟩
  |false=>
   obtain⟨b,off,c,hb,-⟩:=h;obtain⟨c0,c1,c2,cf⟩:=lT hb;have gc:=hG.xR.cell (k:=3) (by omega)
   have Ri:Hid (H K 81 #[.string s,jH (ps 3)] w fun e w'=> ∃t b0,e=G (.iface t (U (M b0)))/\kZ w' ps 1 (.iface t (U (M b0))) 11/\aL w w'):=by
    have he:kZ w ps 0 (jH (ps 3)) 11:=Aab ⟨0,3,Aak _,by omega,rfl,rfl⟩;refine(Hr he).mono ?_;rintro e w' ⟨v',rfl,h1,h2⟩;obtain⟨t,b0,rfl⟩:=h1.yes (by omega);exact⟨t,b0,rfl,h1,h2⟩
   have HK:Hid (∀w4 t b0,aL w w4->kZ w4 ps 1 (.iface t (U (M b0))) 11->w4.cell? ⟨g,2,O⟩=M .nilIface/\w4.frozen? ⟨g,2,O⟩=false/\dW (w4.setCell ⟨g,2,O⟩ (.iface t (U (M b0)))) g (iP false (M l)) bf ps/\Og w (w4.setCell ⟨g,2,O⟩ (.iface t (U (M b0)))) g):=fun w4 t b0 h4 he=>by
    have Zr:=(h4.block _ (aM hb)).trans hb;obtain⟨-,-,d2,df⟩:=lT Zr;have hF:=Fr.set w4 ⟨g,2,O⟩ (.iface t (U (M b0)));refine⟨d2,df 2,⟨M ⟨b,off,O⟩,l.length,c,t,b0,?_,he.fr hF (fun b aS qG=>aZ qG Zr (by decide)) (fun b aS qG=>aZ qG Zr (by decide))⟩,((Og.refl w g).aN h4).set⟩;rw[Aaj w4 g 2 _ _ _ Zr];rfl
   unfold jH at gc Ri;clear hb hG;go_enter func186,ntmps186;go_wp2_with (go_at_call 81;refine Ri.out.mono ?_;rintro e w4 ⟨t,b0,rfl,he4,nO⟩;obtain⟨k1,k2,k3,k4⟩:=HK.out w4 t b0 nO he4);go_end0;exact⟨rfl,k3,k4⟩
def uF (x:UInt8):Option (List UInt8)->Option (List UInt8)
 |some (y::l)=>if y=x then M l else O
 |_=>O
def aT (lo hi:Int):Option (List UInt8)->Int×Option (List UInt8)
 |none=>(0,O)
 |some l=>if l.length<4 then (0,O)else if gZ l<lo\/hi<gZ l then (0,O)else (gZ l,M (l.drop 4))
theorem yL.drop {bf:Int}{b off c:Nat}(hb:w.heap[g]?=M (rgB (M ⟨b,off,O⟩) l.length c bf .nilIface))(hc:l.length<=c)(hr:pG w (M ⟨b,off,O⟩) l)(ht:∃aS f,w.heap[b]?=M (C aS 5 f))(hk:k<=l.length)(ao:Option Addr)(ha:ao=if c=k then M ⟨b,off,O⟩else M ⟨b,off+k,O⟩):yL (w.setCell ⟨g,0,O⟩ (Z ao (l.length-k) (c-k))) g (l.drop k) bf/\Og w (w.setCell ⟨g,0,O⟩ (Z ao (l.length-k) (c-k))) g:=by
 obtain⟨aS,f,ht⟩:=ht;have hF:=Fr.set w ⟨g,0,O⟩ (Z ao (l.length-k) (c-k));have hne:=aZ ht hb (by decide)
 have hs:(w.setCell ⟨g,0,O⟩ (Z ao (l.length-k) (c-k))).heap[g]?=M (rgB ao (l.length-k) (c-k) bf .nilIface):=by
  rw[Aaj w g 0 _ _ _ hb];rfl
 refine⟨?_,(Og.refl w g).set⟩;have Bt:=hr.drop k;by_cases hck:c=k
 ·rw[Aad hck]at ha;subst ha;have gL:l.drop k=[]:=Acz (by omega);refine⟨b,off,c-k,by rw[AaP];exact hs,by rw[AaP];omega,by rw[gL];exact pG.nil _ _,aS,f,hF.at ht hne⟩
 ·rw[Aaa hck]at ha;subst ha;exact⟨b,off+k,c-k,by rw[AaP];exact hs,by rw[AaP];omega,Bt.fr hF (fun a e=>by cases e;exact hne),aS,f,hF.at ht hne⟩
theorem ZI {bf:Int}{x:UInt8}(h:yL w g l bf)(hG:Gl w ps):
 H K 182 #[U (M ⟨g,0,O⟩),I .u8 (x.toNat:Int)] w fun e w'=>e=G (.tuple #[])/\dW w' g (uF x (M l)) bf ps/\Og w w' g:=by
 have HA:Hid (∀(s:ByteArray) (right:Bool),H K 186 #[U (M ⟨g,0,O⟩),.string s,.bool right] w fun e w'=>e=G (.tuple #[])/\dW w' g (iP right (M l)) bf ps/\Og w w' g):=fun s right=>Ji (st:=M l) h hG;obtain⟨b,off,c,hb,hc,hr,ht⟩:=h;obtain⟨c0,c1,c2,cf⟩:=lT hb
 have HN:Hid (∀W,Ur W g bf ps->∃t b0,W.cell? ⟨g,2,O⟩=M (.iface t (U (M b0)))):=fun W hW=>by
  obtain⟨ao,n,c,t,b0,hb,-⟩:=hW;exact⟨t,b0,(lT hb).2.2.1⟩
 cases l with
 |nil=>
  have Pf:Hid (H K 186 #[U (M ⟨g,0,O⟩),.string ⟨#[105,116,115,32,108,101,116,116,101,114]⟩,.bool false] w fun e w'=>e=G (.tuple #[])/\dW w' g O bf ps/\Og w w' g):=HA.out _ false;clear hb hr ht hG HA;go_enter func182,ntmps182;go_wp2_with (go_at_call 186;refine Pf.out.mono ?_;rintro e w4 ⟨rfl,Gc,Ca⟩;obtain⟨t4,b4,k4⟩:=HN.out w4 Gc);go_end0;exact⟨rfl,Gc,Ca⟩
 |cons y l=>
  have hy:w.cell? ⟨b,off,O⟩=M (I .u8 (y.toNat:Int)):=by
   rcases hr with hx|⟨b',Qf,e,XF⟩
   ·cases hx
   ·cases e;have:=XF 0 y rfl;simpa using this
  by_cases hxy:y=x
  ·subst hxy
   have Q_:Hid (H K 186 #[U (M ⟨g,0,O⟩),.string ⟨#[105,116,115,32,108,101,116,116,101,114]⟩,.bool true] w fun e w'=>e=G (.tuple #[])/\∃b off c,w'.cell? ⟨g,0,O⟩=M (Z (M ⟨b,off,O⟩) (l.length+1) c)/\w'.cell? ⟨g,2,O⟩=M .nilIface/\w'.frozen? ⟨g,0,O⟩=false/\l.length+1<=c/\(∀ao,ao=(if c=1 then M ⟨b,off,O⟩else M ⟨b,off+1,O⟩)->dW (w'.setCell ⟨g,0,O⟩ (Z ao l.length (c-1))) g (M l) bf ps/\Og w (w'.setCell ⟨g,0,O⟩ (Z ao l.length (c-1))) g)):=(HA.out _ true).mono (by
    rintro e w' ⟨rfl,⟨b',Qf,c',qG,jl,yV,ht'⟩,Wo⟩;obtain⟨d0,-,d2,df⟩:=lT qG;refine⟨rfl,b',Qf,c',d0,d2,df 0,by simpa using jl,fun ao ha=>?_⟩;obtain⟨q1,q2⟩:=yL.drop (k:=1) qG jl yV ht' (by simp) ao ha;exact⟨q1,Wo.trans q2⟩)
   have HE:Hid (uF y (M (y::l))=M l):=(by show _=_;simp[uF]);clear hb hr ht hG HA;have j1:(0:Int)<((l.length+1:Nat):Int):=(by omega);have j2:(0:Int)<(l.length:Int)+1:=(by omega);have j3:(1:Int)<=(l.length:Int)+1:=(by omega);simp only[Aao]at c0;go_enter func182,ntmps182;go_upto_region 1 with(go_at_call 186;refine Q_.out.mono ?_;rintro e w4 ⟨rfl,b4,off4,c4,k0,k2,kf,kc,hk⟩);have HKK:Hid _:=hk;clear hk;by_cases wY:c4=1
   ·have q:=HKK.out _ (Aad wY).symm
    have Q:Hid (dW (w4.setCell ⟨g,0,O⟩ (Z (M ⟨b4,off4,O⟩) l.length 0)) g (M l) bf ps/\Og w (w4.setCell ⟨g,0,O⟩ (Z (M ⟨b4,off4,O⟩) l.length 0)) g):=by
     rw[wY]at q;exact q
    clear q HKK;have e0:l=[]:=Aax (by omega);subst wY e0
    go_wp2
    go_end0;rw[HE.out];exact⟨rfl,Q.out.1,Q.out.2⟩
   ·have Q:Hid _:=HKK.out _ (Aaa wY).symm;clear HKK
    go_wp2
    go_end0;rw[HE.out];exact⟨rfl,Q.out.1,Q.out.2⟩
  ·have Pf:Hid (H K 186 #[U (M ⟨g,0,O⟩),.string ⟨#[105,116,115,32,108,101,116,116,101,114]⟩,.bool false] w fun e w'=>e=G (.tuple #[])/\dW w' g O bf ps/\Og w w' g):=HA.out _ false;have HE:Hid (uF x (M (y::l))=O):=by show _=_;simp[uF,hxy]
   have hne:(((y.toNat:Nat):Int)==((x.toNat:Nat):Int))=false:=by
    rw[Aat];intro e;exact hxy (UInt8.toNat_inj.1 (by omega))
   clear hb hr ht hG HA;have j1:(0:Int)<((l.length+1:Nat):Int):=(by omega);have j2:(0:Int)<(l.length:Int)+1:=(by omega);simp only[Aao]at c0;go_enter func182,ntmps182;go_wp2_with (go_at_call 186;refine Pf.out.mono ?_;rintro e w4 ⟨rfl,Gc,Ca⟩;obtain⟨t4,b4,k4⟩:=HN.out w4 Gc);go_end0;rw[HE.out];exact⟨rfl,Gc,Ca⟩
theorem yL.cells {bf:Int}(h:yL w g l bf):∃b off c,w.cell? ⟨g,0,O⟩=M (Z (M ⟨b,off,O⟩) l.length c)/\w.cell? ⟨g,1,O⟩=M (I V bf)/\w.cell? ⟨g,2,O⟩=M .nilIface/\l.length<=c/\w.frozen? ⟨g,0,O⟩=false/\pG w (M ⟨b,off,O⟩) l:=by
 obtain⟨b,off,c,hb,hc,hr,-⟩:=h;obtain⟨c0,c1,c2,cf⟩:=lT hb;exact⟨b,off,c,c0,c1,c2,hc,cf 0,hr⟩
theorem Ur.cells {bf:Int}(h:Ur w g bf ps):∃ao n c t b0,w.cell? ⟨g,0,O⟩=M (Z ao n c)/\w.cell? ⟨g,1,O⟩=M (I V bf)/\w.cell? ⟨g,2,O⟩=M (.iface t (U (M b0))):=by
 obtain⟨ao,n,c,t,b0,hb,-⟩:=h;obtain⟨c0,c1,c2,cf⟩:=lT hb;exact⟨ao,n,c,t,b0,c0,c1,c2⟩
theorem xD {bf lo hi:Int}{s:ByteArray}(h:dW w g st bf ps)(hG:Gl w ps):
 H K 183 #[U (M ⟨g,0,O⟩),.string s,I V lo,I V hi] w fun e w'=>e=G (I V (aT lo hi st).1)/\dW w' g (aT lo hi st).2 bf ps/\Og w w' g:=by
 cases st with
 |none=>
  have HA:Hid (∀(right:Bool),H K 186 #[U (M ⟨g,0,O⟩),.string s,.bool right] w fun e w'=>e=G (.tuple #[])/\dW w' g O bf ps/\Og w w' g):=fun right=>(Ji (right:=right) h hG).mono (by
   rintro e w' ⟨a,b,c⟩;have:iP right O=O:=(by unfold iP;cases right<;>rfl);rw[this]at b;exact⟨a,b,c⟩)
  obtain⟨ao,n,c,t,b0,c0,-,-⟩:=Ur.cells h;clear h hG;go_enter func183,ntmps183;go_wp2_with (go_at_call 186;refine(HA.out _).mono ?_;rintro e w4 ⟨rfl,Gc,Ca⟩;obtain⟨_,_,_,t4,b4,-,-,k4⟩:=Ur.cells Gc);go_ret;exact⟨rfl,Gc,Ca⟩
 |some l=>
  obtain⟨b,off,c,c0,-,c2,hc,cf,hr⟩:=yL.cells h;by_cases hl:l.length<4
  ·have HA:Hid (H K 186 #[U (M ⟨g,0,O⟩),.string s,.bool false] w fun e w'=>e=G (.tuple #[])/\dW w' g O bf ps/\Og w w' g):=Ji (right:=false) h hG;have HE:Hid (aT lo hi (M l)=(0,O)):=(by show _=_;simp[aT,hl]);have hl':¬(4:Int)<=(l.length:Int):=(by omega);clear h hG hr;go_enter func183,ntmps183;go_wp2_with (go_at_call 186;refine HA.out.mono ?_;rintro e w4 ⟨rfl,Gc,Ca⟩;obtain⟨_,_,_,t4,b4,-,-,k4⟩:=Ur.cells Gc);go_ret;rw[HE.out];exact⟨rfl,Gc,Ca⟩
  ·have hl':(4:Int)<=(l.length:Int):=(by omega);have hbd:=lK l;have HA:Hid (H K 186 #[U (M ⟨g,0,O⟩),.string s,.bool true] w fun e w'=>e=G (.tuple #[])/\yL w' g l bf/\Og w w' g):=Ji (right:=true) h hG;have Fy:Hid (∀W,Og w W g->Gl W ps):=fun W hW=>hG.og h hW
   have HN:Hid (∀W b off c,pG W (M ⟨b,off,O⟩) l->H K 234 #[Z (M ⟨b,off,O⟩) l.length c] W fun e w'=>e=G (I .u32 (gZ l))/\aL W w'):=fun W b off c hW=>(Mv hW (by omega) (by omega)).mono (by
    rintro e w' ⟨rfl,q,rfl⟩;exact⟨rfl,bB (aL.refl W) q⟩)
   have HD:Hid (∀W,yL W g l bf->∃b off c,W.cell? ⟨g,0,O⟩=M (Z (M ⟨b,off,O⟩) l.length c)/\W.frozen? ⟨g,0,O⟩=false/\l.length<=c/\∀ao,ao=(if c=4 then M ⟨b,off,O⟩else M ⟨b,off+4,O⟩)->yL (W.setCell ⟨g,0,O⟩ (Z ao (l.length-4) (c-4))) g (l.drop 4) bf/\Og W (W.setCell ⟨g,0,O⟩ (Z ao (l.length-4) (c-4))) g):=fun W hW=>by
    obtain⟨b,off,c,hb,hc,hr,ht⟩:=hW;obtain⟨c0,c1,c2,cf⟩:=lT hb;exact⟨b,off,c,c0,cf 0,hc,fun ao ha=>yL.drop hb hc hr ht (by omega) ao ha⟩
   have HE:Hid (aT lo hi (M l)=if gZ l<lo\/hi<gZ l then (0,O)else (gZ l,M (l.drop 4))):=by show _=_;simp only[aT];rw[Aaa hl]
   have HAF:Hid (∀W,yL W g (l.drop 4) bf->Og w W g->H K 186 #[U (M ⟨g,0,O⟩),.string s,.bool false] W fun e w'=>e=G (.tuple #[])/\dW w' g O bf ps/\Og w w' g):=fun W hW hO=>(Ji (right:=false) (st:=M (l.drop 4)) hW (Fy.out W hO)).mono (by
    rintro e w' ⟨a,b,c⟩;exact⟨a,b,hO.trans c⟩)
   clear h hG hr;go_enter func183,ntmps183;go_upto_region 4 with(go_at_call 186;refine HA.out.mono ?_;rintro e w4 ⟨rfl,Gc,Ca⟩;obtain⟨b4,off4,c4,k0,-,k2,kc,kf,kr⟩:=yL.cells Gc);have hn4:=HN.out w4 b4 off4 c4 kr;have HR4:Hid _:=Gc;clear Gc kr c0 c2;generalize gZ l=nb at*;have TY:wrap64 nb=nb:=(by unfold wrap64;omega);go_upto_region 5 with(go_at_call 234;refine hn4.mono ?_;rintro e w5 ⟨rfl,eO⟩);have Gd:=dW.aN (st:=M l) (ps:=ps) HR4.out eO;obtain⟨b5,off5,c5,k5,kf5,kc5,hk5⟩:=HD.out w5 Gd;have HO5:Hid (Og w w5 g):=Ca.aN eO;have HK5:Hid _:=hk5;clear hk5 Gd hn4 k0 k2 kf eO Ca HR4 HA HN HD;go_upto_region 6 with fail;obtain⟨q5,q6⟩:=HK5.out _ rfl;have HQ5:Hid _:=q5;have HQ6:Hid _:=HO5.out.trans q6;clear HK5 q5 q6 k5 kf5 HO5;generalize (if c5=4 then M (⟨b5,off5,O⟩:Addr)else M ⟨b5,off5+4,O⟩)=Vw at*;generalize (w5.setCell ⟨g,0,O⟩ (Z Vw (l.length-4) (c5-4)))=w6 at*;by_cases uP:nb<lo
   ·have HE1:Hid (aT lo hi (M l)=(0,O)):=(by show _=_;rw[HE.out,Aad (Aac uP)]);have hf6:=HAF.out w6 HQ5.out HQ6.out;clear HE;go_wp2_with (go_at_call 186;refine hf6.mono ?_;rintro e w7 ⟨rfl,QH,ho7⟩);go_ret;rw[HE1.out];exact⟨rfl,QH,ho7⟩
   ·by_cases Bt:hi<nb
    ·have HE1:Hid (aT lo hi (M l)=(0,O)):=(by show _=_;rw[HE.out,Aad (Aab Bt)]);have hf6:=HAF.out w6 HQ5.out HQ6.out;clear HE;go_wp2_with (go_at_call 186;refine hf6.mono ?_;rintro e w7 ⟨rfl,QH,ho7⟩);go_ret;rw[HE1.out];exact⟨rfl,QH,ho7⟩
    ·have HE1:Hid (aT lo hi (M l)=(nb,M (l.drop 4))):=(by show _=_;rw[HE.out,Aaa (by omega)]);clear HE
     go_wp2
     go_ret;rw[HE1.out];exact⟨rfl,HQ5.out,HQ6.out⟩
def uG (bf:Int)(l:List UInt8):(Int×Int)×Option (List UInt8):=
 (((aT 0 bf (M l)).1,(aT 1 5000 (aT 0 bf (M l)).2).1),iP (decide ((aT 0 bf (M l)).1+(aT 1 5000 (aT 0 bf (M l)).2).1<=bf)) (aT 1 5000 (aT 0 bf (M l)).2).2)
def vK (bf:Int):Nat->List (Int×Int)->List UInt8->Option (List (Int×Int)×List UInt8)
 |0,out,l=>M (out,l)
 |k+1,out,l=>match (uG bf l).2 with
  |none=>O
  |some l'=>vK bf k (out++ [(uG bf l).1]) l'
def Ll:Option (List (Int×Int)×List UInt8)->List (Int×Int)×Option (List UInt8)
 |none=>([],O)
 |some q=>(q.1,iP (decide (sz q.1<=5000)) (M q.2))
def aR (bf:Int)(st:Option (List UInt8)):List (Int×Int)×Option (List UInt8):=match (aT 0 4096 st).2 with
 |none=>([],O)
 |some l=>Ll (vK bf (aT 0 4096 st).1.toNat [] l)
def CX (bf:Int)(N k:Nat)(out:List (Int×Int))(Oc:Option (List UInt8))(res:List (Int×Int)×Option (List UInt8)):Prop:=
 (Oc=O->N=0/\out=[]/\res=([],O))/\∀l,Oc=M l->res=Ll (vK bf (N-k) out l)
theorem CX.done {bf:Int}{N:Nat}{out:List (Int×Int)}{Oc:Option (List UInt8)}{res:List (Int×Int)×Option (List UInt8)}(h:CX bf N N out Oc res):res=(out,iP (decide (sz out<=5000)) Oc):=by
 cases Oc with
 |none=>obtain⟨-,rfl,e⟩:=h.1 rfl;rw[e];simp[sz,iP]
 |some l=>have:=h.2 l rfl;rw[AcS]at this;exact this
theorem CX.next {bf:Int}{N:Nat}{out:List (Int×Int)}{res:List (Int×Int)×Option (List UInt8)}(h:CX bf N k out (M l) res)(hk:k<N):((uG bf l).2=O->res=([],O))/\∀l',(uG bf l).2=M l'->CX bf N (k+1) (out++ [(uG bf l).1]) (M l') res:=by
 have:=h.2 l rfl;rw[show N-k=(N-(k+1))+1 from by omega,vK]at this;refine⟨fun e=>?_,fun l' e=>⟨fun e2=>(by cases e2),fun l2 e2=>?_⟩⟩
 ·rw[e]at this;exact this
 ·cases e2;rw[e]at this;exact this
theorem yE (lo hi:Int)(st:Option (List UInt8)):0<=(aT lo hi st).1/\(aT lo hi st).1<4294967296:=by
 cases st with
 |none=>simp[aT]
 |some l=>
  have:=lK l;simp only[aT];split
  ·simp
  ·split
   ·simp
   ·exact this
theorem wB {lo hi:Int}(h:(aT lo hi st).2=M l):lo<=(aT lo hi st).1/\(aT lo hi st).1<=hi/\∃l0,st=M l0/\4<=l0.length/\(aT lo hi st).1=gZ l0/\l=l0.drop 4:=by
 cases st with
 |none=>simp[aT]at h
 |some l0=>
  simp only[aT]at h ⊢;split at h
  ·simp at h
  ·rename_i h1;split at h
   ·simp at h
   ·rename_i h2;rw[Aaa h1,Aaa h2];simp at h;exact⟨by omega,by omega,l0,rfl,by omega,rfl,h.symm⟩
theorem Us {bf:Int}{l':List UInt8}(h:(uG bf l).2=M l'):0<=(uG bf l).1.1/\1<=(uG bf l).1.2/\(uG bf l).1.2<=5000/\(uG bf l).1.1+(uG bf l).1.2<=bf:=by
 unfold uG at h ⊢;simp only[iP]at h;split at h
 ·rename_i hd;have h2:=wB h;have:=yE 0 bf (M l);simp only at hd ⊢;exact⟨this.1,h2.1,h2.2.1,Acp hd⟩
 ·cases h
theorem dW.bf {bf:Int}(h:dW w g st bf ps):w.cell? ⟨g,1,O⟩=M (I V bf):=by
 cases st with
 |none=>obtain⟨_,_,_,_,_,-,h,-⟩:=Ur.cells h;exact h
 |some l=>obtain⟨_,_,_,-,h,-⟩:=yL.cells h;exact h
theorem Og.own {t:TypeId}(hO:Og w wr g)(hB:w.heap.size<=B)(bD:wr.ownsRow B t n v k cs)(hg:(wr.alloc o).grownBy w5 v.ownBlock):Og w w5 g:=by
 have h1:=lM hg;obtain⟨⟨a1,a2⟩,b1,b2,b3⟩:=hO;refine⟨⟨Aam a1 h1.size,fun b hb hne=>?_⟩,h1.os.trans b1,h1.tape.trans b2,h1.output.trans b3⟩;rw[<-a2 b hb hne];refine h1.block b (AaC hb a1) (fun e=>?_);have:=(AaA bD b e.symm).1;omega
theorem dW.own {t:TypeId}{bf:Int}(h:dW wr g st bf ps)(bD:wr.ownsRow B t n v k cs)(ht:t=114\/t=261)(hg:(wr.alloc o).grownBy w5 v.ownBlock):dW w5 g st bf ps:=by
 have h1:=lM hg;have hF:=Fr.kC h1
 have key:∀(b:Nat) (aS:Array Y) (t':TypeId) (f:Nat×Nat),wr.heap[b]?=M (C aS t' f)->t'≠114->t'≠261->¬(v.ownBlock=M b):=fun b aS t' f hb n1 n2 e=>by
  obtain⟨c,hc⟩:=jK bD e;rcases ht with rfl|rfl
  ·exact aZ hb hc n1 rfl
  ·exact aZ hb hc n2 rfl
 cases st with
 |some l=>
  obtain⟨b,off,c,hb,hc,hr,aS,f,vV⟩:=h;exact⟨b,off,c,hF.at hb (key _ _ _ _ hb (by decide) (by decide)),hc,hr.fr hF (fun a e=>by cases e;exact key _ _ _ _ vV (by decide) (by decide)),aS,f,hF.at vV (key _ _ _ _ vV (by decide) (by decide))⟩
 |none=>
  obtain⟨ao,m,c,t',b,hb,he⟩:=h;exact⟨ao,m,c,t',b,hF.at hb (key _ _ _ _ hb (by decide) (by decide)),he.fr hF (fun b aS hb=>key _ _ _ _ hb (by decide) (by decide)) (fun b aS hb=>key _ _ _ _ hb (by decide) (by decide))⟩
theorem Gl.own {t:TypeId}(h:Gl wr ps)(bD:wr.ownsRow B t n v k cs)(ht:t=114\/t=261)(hg:(wr.alloc o).grownBy w5 v.ownBlock):Gl w5 ps:=by
 have h1:=lM hg
 have key:∀(b:Nat) (aS:Array Y) (t':TypeId) (f:Nat×Nat),wr.heap[b]?=M (C aS t' f)->t'≠114->t'≠261->¬(v.ownBlock=M b):=fun b aS t' f hb n1 n2 e=>by
  obtain⟨c,hc⟩:=jK bD e;rcases ht with rfl|rfl
  ·exact aZ hb hc n1 rfl
  ·exact aZ hb hc n2 rfl
 exact h.fr (Fr.kC h1) (fun b c hb=>key _ _ _ _ hb (by decide) (by decide)) (fun b c t g hb=>key _ _ _ _ hb (g.ne (by decide)) (g.ne (by decide))) (fun b c hb=>key _ _ _ _ hb (by decide) (by decide)) (fun b c hb=>key _ _ _ _ hb (by decide) (by decide))
theorem Ut {bf:Int}(h:dW w g st bf ps)(hG:Gl w ps)(uU:0<=bf)(dY:bf<=1000000000):
 H K 184 #[U (M ⟨g,0,O⟩)] w fun e w'=> ∃x1 x2 x3,e=G (Z x1 x2 x3)/\bH w' (x1,x2,x3) (aR bf st).1/\dW w' g (aR bf st).2 bf ps/\Og w w' g:=by
 have Fu:g<w.heap.size:=by obtain⟨c,hc⟩:=h.zY;exact aM hc
 have KL:Hid (∀W Cv,dW W g Cv bf ps->Gl W ps->∀lo hi (s:ByteArray),H K 183 #[U (M ⟨g,0,O⟩),.string s,I V lo,I V hi] W fun e w'=>e=G (I V (aT lo hi Cv).1)/\dW w' g (aT lo hi Cv).2 bf ps/\Og W w' g/\Gl w' ps):=fun W Cv hW CW lo hi s=>(xD hW CW).mono (by
  rintro e w' ⟨a,b,c⟩;exact⟨a,b,c,CW.og hW c⟩)
 have HAS:Hid (∀W Cv,dW W g Cv bf ps->Gl W ps->∀(s:ByteArray) (right:Bool),H K 186 #[U (M ⟨g,0,O⟩),.string s,.bool right] W fun e w'=>e=G (.tuple #[])/\dW w' g (iP right Cv) bf ps/\Og W w' g/\Gl w' ps):=fun W Cv hW CW s right=>(Ji hW CW).mono (by
  rintro e w' ⟨a,b,c⟩;exact⟨a,b,c,CW.og hW c⟩)
 have Mg:=KL.out w st h hG 0 4096 ⟨#[104,111,119,32,109,97,110,121,32,112,105,101,99,101,115]⟩;have FE:Hid (∀N:Nat,(aT 0 4096 st).1=(N:Int)->((aT 0 4096 st).2=O->(aT 0 4096 st).1=0)->CX bf N 0 [] (aT 0 4096 st).2 (aR bf st)):=fun N hN h0=>⟨fun e=>⟨by have:=h0 e;omega,rfl,by unfold aR;rw[e]⟩,fun l e=>by unfold aR;rw[e,hN];rfl⟩
 have hN4:(aT 0 4096 st).1<=4096:=by
  cases hs:(aT 0 4096 st).2 with
  |some l=>exact(wB hs).2.1
  |none=>
   cases st with
   |none=>simp[aT]
   |some l=>
    simp only[aT]at hs ⊢;split
    ·simp
    ·rename_i h1;rw[Aaa h1]at hs;split
     ·simp
     ·rename_i h2;rw[Aaa h2]at hs;cases hs
 have hNb:=(yE 0 4096 st).1
 have hN0:(aT 0 4096 st).2=O->(aT 0 4096 st).1=0:=fun e=>by
  cases st with
  |none=>simp[aT]
  |some l=>
   simp only[aT]at e ⊢;split
   ·rfl
   ·rename_i h1;rw[Aaa h1]at e;split
    ·rfl
    ·rename_i h2;rw[Aaa h2]at e;cases e
 obtain⟨N,hN⟩:=AbA hNb;have HPR:Hid (CX bf N 0 [] (aT 0 4096 st).2 (aR bf st)):=FE.out N hN hN0;rw[hN]at Mg hN4;generalize (aT 0 4096 st).2=st1 at*;clear hN hN0 hNb h hG FE;have HB:Hid (∀W (x:bS) (l:List (Int×Int)),bH W x l->eY l->l.length<=10000->H K 187 #[x.v] W fun e w'=>e=G (I V (sz l))/\aL W w'):=fun W x l h1 h2 h3=>vZ h1 h2 (by omega);go_enter func184,ntmps184;go_wp2_with (go_at_call 183;refine Mg.mono ?_;rintro e w1 ⟨rfl,uP,Ct,YK⟩);have Zt:Hid (dW w1 g st1 bf ps/\Og w w1 g/\Gl w1 ps):=⟨uP,Ct,YK⟩;clear uP Ct YK Mg
 go_loopw [3,4,5,8] (fun v _ _ i wr=> ∃(out:List (Int×Int)) (Oc:Option (List UInt8)),i=I V (out.length:Int)/\out.length<=N/\Hid (CX bf N out.length out Oc (aR bf st))/\Hid (dW wr g Oc bf ps/\Og w wr g/\Gl wr ps)/\Hid (gY wr w.heap.size v out/\eY out)) (fun _ _ _ i _=>N-(intOf i).toNat)
 case atStart=>exact⟨[],st1,rfl,Aap _,HPR,Zt,AaI _ _ _ _,fun q hq=>by simp at hq⟩
 case round=>
  obtain⟨out,Oc,rfl,hk,HP,HR,HO⟩:=hrel;by_cases bP:out.length<N
  ·have Xc:(out.length:Int)<(N:Int):=(by omega);have tX:decide (out.length<N)=true:=AaH bP;cases Oc with
   |none=>have:=(HP.out.1 rfl).1;omega
   |some l=>
    obtain⟨p1,p2⟩:=HP.out.next bP;have cbf:=HR.out.1.bf;have Js:=KL.out wr (M l) HR.out.1 HR.out.2.2 0 bf ⟨#[97,110,32,111,102,102,115,101,116]⟩;have Wi:Hid (∀W,dW W g (aT 0 bf (M l)).2 bf ps->Gl W ps->_):=fun W h1 h2=>KL.out W _ h1 h2 1 5000 ⟨#[97,32,108,101,110,103,116,104]⟩;have HA3:Hid (∀W,dW W g (aT 1 5000 (aT 0 bf (M l)).2).2 bf ps->Gl W ps->∀right,_):=fun W h1 h2 right=>HAS.out W _ h1 h2 ⟨#[116,104,101,32,101,110,100,32,111,102,32,97,32,112,105,101,99,101]⟩ right;have ba:=yE 0 bf (M l);have bb:=yE 1 5000 (aT 0 bf (M l)).2;have sV:=fun l'=>Us (bf:=bf) (l:=l) (l':=l');have HRP:Hid (uG bf l=(((aT 0 bf (M l)).1,(aT 1 5000 (aT 0 bf (M l)).2).1),iP (decide ((aT 0 bf (M l)).1+(aT 1 5000 (aT 0 bf (M l)).2).1<=bf)) (aT 1 5000 (aT 0 bf (M l)).2).2)):=rfl;rw[HRP.out]at p1 p2 sV;simp only at p1 p2 sV;generalize (aT 1 5000 (aT 0 bf (M l)).2).2=st5 at*;generalize (aT 1 5000 (aT 0 bf (M l)).2).1=b at*;generalize (aT 0 bf (M l)).2=st4 at*;generalize (aT 0 bf (M l)).1=a at*;obtain⟨nI,kX,ev,-⟩:=gY.form HO.out.1;subst ev;have HOR:Hid (Og w wr g):=HR.out.2.1;clear HRP HP HR KL HAS;have hG4:Hid True:=trivial
    go_upto_region 7 with(first
     |(go_at_call 183;refine Js.mono ?_;clear Js;rintro e w4 ⟨rfl,Gc,Ca,nO⟩;have Ox:=Wi.out w4 Gc nO)
     |(go_at_call 183;refine Ox.mono ?_;clear Ox;rintro e w5 ⟨rfl,Gd,UY,eO⟩;have cbf5:=Gd.bf;have Pb:=HA3.out w5 Gd eO (decide (a+b<=bf)))
     |(go_at_call 186;refine Pb.mono ?_;clear Pb;rintro e w6 ⟨rfl,Vx,kg,vC⟩))
    have HOG:Hid _:=(Ca.trans UY).trans kg;clear Wi HA3 Gc Gd Ca UY kg nO eO cbf cbf5;cases gK:iP (decide (a+b<=bf)) st5 with
    |none=>
     rw[gK]at Vx;have HE:Hid _:=p1 gK;obtain⟨_,_,_,t6,b6,-,-,k6⟩:=Ur.cells Vx;have HR6:Hid _:=Vx;clear Vx p1 p2 sV gK
     go_wp2
     go_ret;rw[HE.out];exact⟨O,0,0,rfl,vJ _,HR6.out,HOR.out.trans HOG.out⟩
    |some l'=>
     rw[gK]at Vx;have JB:Hid (CX bf N (out.length+1) (out++ [(a,b)]) (M l') (aR bf st)):=p2 l' gK;obtain⟨q1,q2,q3,q4⟩:=sV l' gK;obtain⟨_,_,_,-,-,k6,-⟩:=yL.cells Vx;have HR6:Hid (dW w6 g (M l') bf ps):=Vx;have HO6:Hid _:=HO.out.1.og HOG.out Fu;have jr:Hid (eY (out++ [(a,b)])):=iD HO.out.2 (fun q hq=>by simp at hq;subst hq;unfold mV;simp only;omega);have hle6:w.heap.size<=w6.heap.size:=(HOR.out.trans HOG.out).1.1;have hol:out.length<=4096:=(by omega);clear Vx p1 p2 sV gK;go_wp2_with (at_builtin;go_must (refine gM (by rfl) (.tmp 33) (.tmp 37) (by rfl) w.heap.size _ out [(a,b)] (by rfl) (by exact Aay HO6.out _) _ _ _ (by rfl) (by rfl) (by intro e;cases e) (by exact zN w6 a b) (by simp only[Abg];omega) (by simp;omega) ?_);intro v7 w7 yX oH);have HF:Hid ((dW w7 g (M l') bf ps/\Og w w7 g/\Gl w7 ps)/\gY w7 w.heap.size v7 (out++ [(a,b)])/\eY (out++ [(a,b)])):=⟨⟨HR6.out.own HO6.out (Aac rfl) oH,(HOR.out.trans HOG.out).own (Aak _) HO6.out oH,vC.own HO6.out (Aac rfl) oH⟩,yX,jr.out⟩;clear yX oH;go_roundw
     case rel=>exact⟨out++ [(a,b)],M l',by simp,by simp;omega,by simpa using JB,HF.out.1,HF.out.2⟩
     case measure=>simp[intOf];omega
  ·have Xc:¬(out.length:Int)<(N:Int):=(by omega);have tX:decide (out.length<N)=false:=AaN bP;have hkN:N=out.length:=by omega
   have HE:Hid (aR bf st=(out,iP (decide (sz out<=5000)) Oc)):=by
    have:=HP.out;rw[hkN]at this;exact this.done
   obtain⟨nI,kX,ev,Nn,hnn⟩:=yF.nP HO.out.1;subst ev;have hLst:bH wr (nI,out.length,kX) out:=⟨Nn,rfl,hnn⟩;have Qg:=HB.out wr (nI,out.length,kX) out hLst HO.out.2 (by omega);simp only[bS.v]at Qg
   have HA5:Hid (∀W,aL wr W->∀right,H K 186 #[U (M ⟨g,0,O⟩),.string ⟨#[116,104,101,32,98,121,116,101,115,32,111,102,32,112,105,101,99,101,115]⟩,.bool right] W fun e w'=>e=G (.tuple #[])/\bH w' (nI,out.length,kX) out/\dW w' g (iP right Oc) bf ps/\Og w w' g):=fun W hW right=>(HAS.out W Oc (HR.out.1.aN hW) (HR.out.2.2.aN hW) _ right).mono (by
    rintro e w' ⟨rfl,a1,a2,a3⟩;obtain⟨cb,FZ⟩:=(HR.out.1.aN hW).zY;exact⟨rfl,(hLst.aN hW).fr a2.1 (fun b aS hb=>aZ hb FZ (by decide)),a1,(HR.out.2.1.aN hW).trans a2⟩)
   clear HP HR HO KL HAS Nn hLst HB
   go_wp2_with (first
    |(go_at_call 187;refine Qg.mono ?_;rintro e w4 ⟨rfl,nO⟩;have ha4:=HA5.out w4 nO (decide (sz out<=5000)))
    |(go_at_call 186;refine ha4.mono ?_;rintro e w5 ⟨rfl,m1,m2,m3⟩))
   go_ret;rw[HE.out];exact⟨_,_,_,rfl,m1,m2,m3⟩
end
section
set_option maxHeartbeats 4000000
set_option maxRecDepth 100000
open Go.RowKit
variable {bf:Int}{w w':F}{st:Option (List UInt8)}{g:Nat}{ps:Nat->Addr}{raw:List fP}{l:List Ed}
def vL (bf:Int)(l:List UInt8):Ed×Option (List UInt8):=
 (((aT 0 5000 (M l)).1,(aR bf (aT 0 5000 (M l)).2).1,(aR bf (aR bf (aT 0 5000 (M l)).2).2).1),(aR bf (aR bf (aT 0 5000 (M l)).2).2).2)
def xS (bf:Int):Nat->List Ed->List UInt8->Option (List Ed×List UInt8)
 |0,out,l=>M (out,l)
 |k+1,out,l=>match (vL bf l).2 with
  |none=>O
  |some l'=>xS bf k (out++ [(vL bf l).1]) l'
def CY:Option (List Ed×List UInt8)->List Ed×Option (List UInt8)
 |none=>([],O)
 |some q=>(q.1,M q.2)
def bA (bf:Int)(st:Option (List UInt8)):List Ed×Option (List UInt8):=match (aT 0 50 st).2 with
 |none=>([],O)
 |some l=>CY (xS bf (aT 0 50 st).1.toNat [] l)
def KM (bf:Int)(N k:Nat)(out:List Ed)(Oc:Option (List UInt8))(res:List Ed×Option (List UInt8)):Prop:=
 (Oc=O->N=0/\out=[]/\res=([],O))/\∀l,Oc=M l->res=CY (xS bf (N-k) out l)
theorem KM.done {N:Nat}{out:List Ed}{Oc:Option (List UInt8)}{res:List Ed×Option (List UInt8)}(h:KM bf N N out Oc res):res=(out,Oc):=by
 cases Oc with
 |none=>obtain⟨-,rfl,e⟩:=h.1 rfl;exact e
 |some l=>have:=h.2 l rfl;rw[AcS]at this;exact this
theorem KM.next {N k:Nat}{out:List Ed}{l:List UInt8}{res:List Ed×Option (List UInt8)}(h:KM bf N k out (M l) res)(hk:k<N):((vL bf l).2=O->res=([],O))/\∀l',(vL bf l).2=M l'->KM bf N (k+1) (out++ [(vL bf l).1]) (M l') res:=by
 have:=h.2 l rfl;rw[show N-k=(N-(k+1))+1 from by omega,xS]at this;refine⟨fun e=>?_,fun l' e=>⟨fun e2=>(by cases e2),fun l2 e2=>?_⟩⟩
 ·rw[e]at this;exact this
 ·cases e2;rw[e]at this;exact this
theorem Zu {lo hi:Int}(e:(aT lo hi st).2=O):(aT lo hi st).1=0:=by
 cases st with
 |none=>simp[aT]
 |some l=>
  simp only[aT]at e ⊢;split
  ·rfl
  ·rename_i h1;rw[Aaa h1]at e;split
   ·rfl
   ·rename_i h2;rw[Aaa h2]at e;cases e
theorem Rp {lo hi:Int}(h0:0<=hi)(st:Option (List UInt8)):(aT lo hi st).1<=hi:=by
 cases hs:(aT lo hi st).2 with
 |some l=>exact(wB hs).2.1
 |none=>rw[Zu hs];exact h0
theorem vI.og {B:Nat}{v:Y}{l:List fP}(h:vI w B v l)(ho:Og w w' g)(hg:g<B):vI w' B v l:=
 bK h ho.1 (fun b aS hb _ e=>by have:=(AaA h b hb).1;omega)
theorem bH.rg {x:bS}{l:List (Int×Int)}(h:bH w x l)(hr:dW w g st bf ps)(ho:Og w w' g):bH w' x l:=by
 obtain⟨c,hc⟩:=hr.zY;exact h.fr ho.1 (fun b aS hb=>aZ hb hc (by decide))
theorem gF.rg (h:gF w raw l)(hr:dW w g st bf ps)(ho:Og w w' g):gF w' raw l:=by
 obtain⟨c,hc⟩:=hr.zY;exact h.fr ho.1 (fun b aS hb=>aZ hb hc (by decide))
theorem gF.aN (h:gF w raw l)(hg:aL w w'):gF w' raw l:=h.fr (Fr.cZ hg (fun _=>False)) (fun _ _ _=>id)
theorem gF.own {B:Nat}{v:Y}{cs:List fP}{o:Obj}(h:gF w raw l)(bD:vI w B v cs)(hg:(w.alloc o).grownBy w' v.ownBlock):gF w' raw l:=
 h.fr (Fr.kC (lM hg)) (fun b aS hb e=>by obtain⟨c,hc⟩:=jK bD e;exact aZ hb hc (by decide) rfl)
theorem ZJ (h:dW w g st bf ps)(hG:Gl w ps)(uU:0<=bf)(dY:bf<=1000000000):
 H K 185 #[U (M ⟨g,0,O⟩)] w fun e w'=> ∃x1 x2 x3,e=G (Z x1 x2 x3)/\dR w' (x1,x2,x3) (bA bf st).1/\dW w' g (bA bf st).2 bf ps/\Og w w' g:=by
 have Fu:g<w.heap.size:=by obtain⟨c,hc⟩:=h.zY;exact aM hc
 have KL:Hid (∀W Cv,dW W g Cv bf ps->Gl W ps->∀lo hi (s:ByteArray),H K 183 #[U (M ⟨g,0,O⟩),.string s,I V lo,I V hi] W fun e w'=>e=G (I V (aT lo hi Cv).1)/\dW w' g (aT lo hi Cv).2 bf ps/\Og W w' g/\Gl w' ps):=fun W Cv hW CW lo hi s=>(xD hW CW).mono (by
  rintro e w' ⟨a,b,c⟩;exact⟨a,b,c,CW.og hW c⟩)
 have HPC:Hid (∀W Cv,dW W g Cv bf ps->Gl W ps->H K 184 #[U (M ⟨g,0,O⟩)] W fun e w'=> ∃x1 x2 x3,e=G (Z x1 x2 x3)/\bH w' (x1,x2,x3) (aR bf Cv).1/\dW w' g (aR bf Cv).2 bf ps/\Og W w' g/\Gl w' ps):=fun W Cv hW CW=>(Ut hW CW uU dY).mono (by
  rintro e w' ⟨x1,x2,x3,a,b,c,d⟩;exact⟨x1,x2,x3,a,b,c,d,CW.og hW d⟩)
 have Mg:=KL.out w st h hG 0 50 ⟨#[104,111,119,32,109,97,110,121,32,101,100,105,116,115]⟩;have hN4:=Rp (lo:=0) (hi:=50) (by omega) st;have hNb:=(yE 0 50 st).1;obtain⟨N,hN⟩:=AbA hNb;have HPR:Hid (KM bf N 0 [] (aT 0 50 st).2 (bA bf st)):=⟨fun e=>⟨by have:=Zu e;omega,rfl,by unfold bA;rw[e]⟩,fun l e=>by unfold bA;rw[e,hN];rfl⟩;rw[hN]at Mg hN4;generalize (aT 0 50 st).2=st1 at*;clear hN hNb h hG;go_enter func185,ntmps185;go_wp2_with (go_at_call 183;refine Mg.mono ?_;rintro e w1 ⟨rfl,uP,Ct,YK⟩);have Zt:Hid (dW w1 g st1 bf ps/\Og w w1 g/\Gl w1 ps):=⟨uP,Ct,YK⟩;clear uP Ct YK Mg
 go_loopw [3,4,7] (fun v _ i wr=> ∃(raw:List fP) (out:List Ed) (Oc:Option (List UInt8)),i=I V (out.length:Int)/\out.length<=N/\Hid (KM bf N out.length out Oc (bA bf st))/\Hid (dW wr g Oc bf ps/\Og w wr g/\Gl wr ps)/\Hid (vI wr w.heap.size v raw/\gF wr raw out)) (fun _ _ i _=>N-(intOf i).toNat)
 case atStart=>exact⟨[],[],st1,rfl,Aap _,HPR,Zt,AaI _ _ _ _,rfl,fun i r e a=>by simp at a⟩
 case round=>
  obtain⟨raw,out,Oc,rfl,hk,HP,HR,HO⟩:=hrel;by_cases bP:out.length<N
  ·have Xc:(out.length:Int)<(N:Int):=(by omega);have tX:decide (out.length<N)=true:=AaH bP;cases Oc with
   |none=>have:=(HP.out.1 rfl).1;omega
   |some l=>
    obtain⟨p1,p2⟩:=HP.out.next bP;have Js:=KL.out wr (M l) HR.out.1 HR.out.2.2 0 5000 ⟨#[119,104,101,114,101,32,97,110,32,101,100,105,116,32,105,115]⟩;have Wi:Hid (∀W,dW W g (aT 0 5000 (M l)).2 bf ps->Gl W ps->_):=fun W h1 h2=>HPC.out W _ h1 h2;have HN3:Hid (∀W,dW W g (aR bf (aT 0 5000 (M l)).2).2 bf ps->Gl W ps->_):=fun W h1 h2=>HPC.out W _ h1 h2;have HRP:Hid (vL bf l=(((aT 0 5000 (M l)).1,(aR bf (aT 0 5000 (M l)).2).1,(aR bf (aR bf (aT 0 5000 (M l)).2).2).1),(aR bf (aR bf (aT 0 5000 (M l)).2).2).2)):=rfl;rw[HRP.out]at p1 p2;simp only at p1 p2;generalize (aR bf (aR bf (aT 0 5000 (M l)).2).2).2=st6 at*;generalize (aR bf (aR bf (aT 0 5000 (M l)).2).2).1=lb at*;generalize (aR bf (aT 0 5000 (M l)).2).2=st5 at*;generalize (aR bf (aT 0 5000 (M l)).2).1=la at*;generalize (aT 0 5000 (M l)).2=st4 at*;generalize (aT 0 5000 (M l)).1=a at*;obtain⟨nI,kX,ev,-⟩:=vI.form HO.out.1;subst ev;have HOR:Hid (Og w wr g/\dW wr g (M l) bf ps):=⟨HR.out.2.1,HR.out.1⟩;have HRL:Hid (raw.length=out.length):=HO.out.2.1;clear HRP HP HR KL HPC
    go_upto_region 5 with(first
     |(go_at_call 183;refine Js.mono ?_;clear Js;rintro e w4 ⟨rfl,Gc,Ca,nO⟩;have Ox:=Wi.out w4 Gc nO)
     |(go_at_call 184;refine Ox.mono ?_;clear Ox;rintro e w5 ⟨x1,x2,x3,rfl,hl5,Gd,UY,eO⟩;have Pb:=HN3.out w5 Gd eO)
     |(go_at_call 184;refine Pb.mono ?_;clear Pb;rintro e w6 ⟨y1,y2,y3,rfl,hl6,Vx,kg,vC⟩))
    have HOG:Hid (Og wr w6 g):=(Ca.trans UY).trans kg;have HEI:Hid (rP w6 (a,(x1,x2,x3),(y1,y2,y3)) (a,la,lb)):=⟨rfl,hl5.rg Gd kg,hl6⟩;clear Wi HN3 Gc Gd Ca UY kg nO eO hl5 hl6;have ga:aL w6 (w6.alloc (C #[I V a,Z x1 x2 x3,Z y1 y2 y3] 261)):=(aL.refl w6).alloc _;obtain⟨e0,e1,e2,-⟩:=iM (Aaf w6 (C #[I V a,Z x1 x2 x3,Z y1 y2 y3] 261));have Ro:Hid (aL w6 (w6.alloc (C #[I V a,Z x1 x2 x3,Z y1 y2 y3] 261))):=ga;have QH:=Vx.aN ga;have oH:=vC.aN ga;generalize (w6.alloc (C #[I V a,Z x1 x2 x3,Z y1 y2 y3] 261))=w7 at*;clear Vx vC ga;cases st6 with
    |none=>
     have HE:Hid (bA bf st=([],O)):=p1 rfl;obtain⟨_,_,_,t6,b6,-,-,k6⟩:=Ur.cells QH;have HR6:Hid (dW w7 g O bf ps):=QH;clear QH p1 p2;go_wp2_with fail;go_ret;rw[HE.out];exact⟨O,0,0,rfl,dR.nil _,HR6.out,(HOR.out.1.trans HOG.out).aN Ro.out⟩
    |some l'=>
     have JB:Hid (KM bf N (out.length+1) (out++ [(a,la,lb)]) (M l') (bA bf st)):=p2 l' rfl;obtain⟨_,_,_,-,-,k6,-⟩:=yL.cells QH;have HR6:Hid (dW w7 g (M l') bf ps):=QH;have HO6:Hid (vI w7 w.heap.size (Z nI raw.length kX) raw):=bK (HO.out.1.og HOG.out Fu) (Fr.cZ Ro.out (fun _=>False)) (fun _ _ _ _ h=>h);have HRW:Hid (gF w7 (raw++ [(a,(x1,x2,x3),(y1,y2,y3))]) (out++ [(a,la,lb)])):=((HO.out.2.rg HOR.out.2 HOG.out).snoc HEI.out).aN Ro.out;have hle6:w.heap.size<=w7.heap.size:=Aam (HOR.out.1.trans HOG.out).1.1 Ro.out.le;have hol:raw.length<=4096:=(by have:=HRL.out;omega);clear QH p1 p2;go_wp2_with (at_builtin;go_must (refine yK (by rfl) (.tmp 21) (.tmp 23) (by rfl) w.heap.size _ raw [(a,(x1,x2,x3),(y1,y2,y3))] (by rfl) (by exact Aay HO6.out _) _ _ _ (by rfl) (by rfl) (by intro e;cases e) (by exact Zq w7 (a,(x1,x2,x3),(y1,y2,y3))) (by simp only[Abg];omega) (by simp;omega) ?_);intro v8 w8 Dl JJ);have HF:Hid ((dW w8 g (M l') bf ps/\Og w w8 g/\Gl w8 ps)/\vI w8 w.heap.size v8 (raw++ [(a,(x1,x2,x3),(y1,y2,y3))])/\gF w8 (raw++ [(a,(x1,x2,x3),(y1,y2,y3))]) (out++ [(a,la,lb)])):=⟨⟨HR6.out.own HO6.out (Aab rfl) JJ,((HOR.out.1.trans HOG.out).aN Ro.out).own (Aak _) HO6.out JJ,oH.own HO6.out (Aab rfl) JJ⟩,Dl,HRW.out.own HO6.out JJ⟩;clear Dl JJ;go_roundw
     case rel=>exact⟨raw++ [(a,(x1,x2,x3),(y1,y2,y3))],out++ [(a,la,lb)],M l',by simp,by simp;omega,by simpa using JB,HF.out.1,HF.out.2⟩
     case measure=>simp[intOf];omega
  ·have Xc:¬(out.length:Int)<(N:Int):=(by omega);have tX:decide (out.length<N)=false:=AaN bP;have hkN:N=out.length:=by omega
   have HE:Hid (bA bf st=(out,Oc)):=by
    have:=HP.out;rw[hkN]at this;exact this.done
   obtain⟨x1,x2,x3,ev,hE⟩:=dR.nP HO.out.1 HO.out.2;subst ev;have HEE:Hid (dR wr (x1,x2,x3) out):=hE;clear HP HO KL HPC hE;go_wp2_with fail;go_ret;rw[HE.out];exact⟨_,_,_,rfl,HEE.out,HR.out.1,HR.out.2.1⟩
theorem KN {x:bS}{n:Int}(h:dR w x []):
 H K 188 #[I V n,x.v] w fun e w'=>e=G (.bool true)/\aL w w':=by
 obtain⟨xo,xn,xc⟩:=x;have hlen:=h.len;simp only[AcC]at hlen;subst hlen;simp only[bS.v];clear h;go_enter func188,ntmps188;go_wp2_with fail
 go_loopw [0,6,7,10] (fun _ _ _ i wr=>i=I V 0/\Hid (aL w wr)) (fun _ _ _ i _=>0)
 case atStart=>exact⟨rfl,aL.refl w⟩
 case round=>
  obtain⟨rfl,HG⟩:=hrel;go_wp2_with fail;go_ret;exact⟨rfl,HG.out⟩
def yM (l:List UInt8)(buf:Int):Option (Int×dD):=match jN l with
 |none=>O
 |some body=>
  let e:=aT 1 999 (uF 75 (M body))
  let d:=aT 0 1000000000 e.2
  let b:=aT 0 buf d.2
  let t:=aR b.1 b.2
  let u:=bA b.1 t.2
  let r:=bA b.1 u.2
  match iP (pY (sz t.1) r.1) (iP (pY (sz t.1) (u.1.map Cb)) (iP (r.2==M []) r.2))with
  |none=>O
  |some _=>M (e.1,(t.1,u.1,r.1,d.1,b.1))
theorem VB (hb:bf<=1000000000):∀(N:Nat) (out:List (Int×Int)) (l:List UInt8) (q:List (Int×Int)×List UInt8),eY out->vK bf N out l=M q->eY q.1/\q.1.length=out.length+N
 |0,out,l,q,h,e=>by simp[vK]at e;subst e;exact⟨h,rfl⟩
 |N+1,out,l,q,h,e=>by
  rw[vK]at e;cases hs:(uG bf l).2 with
  |none=>rw[hs]at e;cases e
  |some l'=>
   rw[hs]at e;obtain⟨q1,q2,q3,q4⟩:=Us hs;obtain⟨h1,h2⟩:=VB hb N _ _ _ (iD h (fun x hx=>by simp at hx;subst hx;unfold mV;omega)) e;exact⟨h1,by rw[h2];simp;omega⟩
theorem sK (hb:bf<=1000000000)(st:Option (List UInt8)):eY (aR bf st).1/\(aR bf st).1.length<=4096/\∀l,(aR bf st).2=M l->sz (aR bf st).1<=5000:=by
 unfold aR;have hN:=Rp (lo:=0) (hi:=4096) (by omega) st;split
 ·exact⟨fun q hq=>by simp at hq,by simp,fun l e=>by cases e⟩
 ·rename_i l0 hl0;cases hc:vK bf (aT 0 4096 st).1.toNat [] l0 with
  |none=>exact⟨fun q hq=>by simp[Ll]at hq,by simp[Ll],fun l e=>by simp[Ll]at e⟩
  |some q=>
   obtain⟨h1,h2⟩:=VB hb _ _ _ _ vG hc;refine⟨h1,by simp only[Ll];rw[h2];simp;omega,fun l e=>?_⟩;simp only[Ll,iP]at e ⊢;split at e
   ·rename_i hd;exact Acp hd
   ·cases e
theorem CZ (bf:Int):aR bf O=([],O):=rfl
theorem Ec (bf:Int):bA bf O=([],O):=rfl
def R_ (e:Ed):Prop:=0<=e.1/\(eY e.2.1/\eY e.2.2/\e.2.1.length<=10000/\e.2.2.length<=10000)
theorem red1_ok (hb:bf<=1000000000)(l:List UInt8):R_ (vL bf l).1:=by
 unfold vL R_;have h1:=sK hb (aT 0 5000 (M l)).2;have h2:=sK hb (aR bf (aT 0 5000 (M l)).2).2;exact⟨(yE _ _ _).1,h1.1,h2.1,by have:=h1.2.1;simp only;omega,by have:=h2.2.1;simp only;omega⟩
theorem VD (hb:bf<=1000000000):∀(N:Nat) (out:List Ed) (l:List UInt8) (q:List Ed×List UInt8),(∀e∈out,R_ e)->xS bf N out l=M q->(∀e∈q.1,R_ e)/\q.1.length=out.length+N
 |0,out,l,q,h,e=>by simp[xS]at e;subst e;exact⟨h,rfl⟩
 |N+1,out,l,q,h,e=>by
  rw[xS]at e;cases hs:(vL bf l).2 with
  |none=>rw[hs]at e;cases e
  |some l'=>
   rw[hs]at e
   obtain⟨h1,h2⟩:=VD hb N _ _ _ (fun x hx=>by
    rcases Aba.1 hx with hx|hx
    ·exact h x hx
    ·simp at hx;subst hx;exact red1_ok hb l) e
   exact⟨h1,by rw[h2];simp;omega⟩
theorem zQ (hb:bf<=1000000000)(st:Option (List UInt8)):(∀e∈(bA bf st).1,R_ e)/\(bA bf st).1.length<=50:=by
 unfold bA;have hN:=Rp (lo:=0) (hi:=50) (by omega) st;split
 ·exact⟨fun q hq=>by simp at hq,by simp⟩
 ·rename_i l0 hl0;cases hc:xS bf (aT 0 50 st).1.toNat [] l0 with
  |none=>exact⟨fun q hq=>by simp[CY]at hq,by simp[CY]⟩
  |some q=>
   obtain⟨h1,h2⟩:=VD hb _ _ _ _ (fun e he=>by simp at he) hc;exact⟨h1,by simp only[CY];rw[h2];simp;omega⟩
theorem dW.setbf (h:dW w g st bf ps)(Gf:Int):dW (w.setCell ⟨g,1,O⟩ (I V Gf)) g st Gf ps/\Og w (w.setCell ⟨g,1,O⟩ (I V Gf)) g:=by
 have hF:=Fr.set w ⟨g,1,O⟩ (I V Gf);refine⟨?_,(Og.refl w g).set⟩;cases st with
 |some l=>
  obtain⟨b,off,c,hb,hc,hr,aS,f,ht⟩:=h;have hne:b≠g:=aZ ht hb (by decide);exact⟨b,off,c,by rw[Aaj w g 1 _ _ _ hb];rfl,hc,hr.fr hF (fun a e=>by cases e;exact hne),aS,f,hF.at ht hne⟩
 |none=>
  obtain⟨ao,n,c,t,b,hb,he⟩:=h;exact⟨ao,n,c,t,b,by rw[Aaj w g 1 _ _ _ hb];rfl,he.fr hF (fun b aS qG=>aZ qG hb (by decide)) (fun b aS qG=>aZ qG hb (by decide))⟩
theorem dW.rest (h:dW w g st bf ps):∃ao n c,w.cell? ⟨g,0,O⟩=M (Z ao n c)/\(∀l,st=M l->n=l.length):=by
 cases st with
 |none=>obtain⟨ao,n,c,_,_,h,-⟩:=Ur.cells h;exact⟨ao,n,c,h,fun l e=>by cases e⟩
 |some l=>obtain⟨b,off,c,h,-⟩:=yL.cells h;exact⟨_,_,_,h,fun l e=>by cases e;rfl⟩
theorem S_ {n:Nat}(h:∀l,st=M l->n=l.length):iP ((n:Int)==0) st=iP (st==M []) st:=by
 cases st with
 |none=>simp[iP]
 |some l=>
  have:=h l rfl;subst this;cases l with
  |nil=>rfl
  |cons x l=>
   have e1:(((x::l).length:Int)==0)=false:=(by rw[Aat];simp;omega);have e2:((M (x::l):Option (List UInt8))==M [])=false:=rfl;rw[e1,e2]
end
end Go.Proofs.YtfplgfodoiiobaaGreatDoor
