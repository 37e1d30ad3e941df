/- PgO, PgP, PgQ (joined). -/
import Derived.Test.YtfplgfodoiiobaaGreatDoorJ13
open Option renaming none→O,some→M
open Go.Value renaming int→I,slice→Z,pointer→U
open Go.IntKind renaming i64→V
open Go.Obj renaming cells→C
open Go.Ending renaming returned→G
open Go renaming World→F,Value→Y,Calls→H
open Go.Proofs.Tryz renaming prog→K
namespace Go.Proofs.YtfplgfodoiiobaaGreatDoor
set_option maxHeartbeats 4000000
set_option maxRecDepth 100000
open Go.RowKit
variable {s:Sc}{w:F}{db g lo bx:Nat}{fv:Y}{rs:List FR}{n:Int}{lb:Array Y}{r:FR}{ps:Nat->Addr}{nm:ByteArray}
def ErrD (w:F)(ps:Nat->Addr)(v:Y)(c:Int):Prop:=(c=0/\v= .nilIface)\/(c=9/\Eh w ps v 1)\/(c=10/\Eh w ps v 2)
def AddD (w w':F)(ps:Nat->Addr)(db:Nat)(s:Sc)(fv:Y)(rs:List FR)(n:Int)(b:ByteArray)(v:Y):Prop:=
 ∃dI dH,aS w' db (dR s (plain rs) n b).2.1 dI dH/\plain dH=(dR s (plain rs) n b).2.2/\Dk w w' (DX db fv rs) (DX db dI dH)/\ErrD w' ps v (dR s (plain rs) n b).1
theorem VZ (s:Sc)(fs:List bE)(n:Int)(b:ByteArray):((mG s fs (b.size:Int)).1=true->(dR s fs n b).1=9/\(dR s fs n b).2.1= { (mG s fs (b.size:Int)).2 with ro:=true }/\(dR s fs n b).2.2=fs)/\
 ((mG s fs (b.size:Int)).1=false->dR s fs n b=(if (dF (mG s fs (b.size:Int)).2 fs).1 then (0,(dF (mG s fs (b.size:Int)).2 fs).2.1,Ma (dF (mG s fs (b.size:Int)).2 fs).2.2 (lU (dF (mG s fs (b.size:Int)).2 fs).2.2 n b) (-1))else (10,(dF (mG s fs (b.size:Int)).2 fs).2.1,(dF (mG s fs (b.size:Int)).2 fs).2.2))):=by
 unfold dR mG;split
 ·simp
 ·split
  ·simp
  ·simp
theorem WA {fs:List bE}(hc:kH s)(ha:0<=s.after):kH (mG s fs n).2/\0<=(mG s fs n).2.after/\(mG s fs n).2.room=s.room:=by
 unfold mG;split
 ·exact⟨⟨hc.UR,hc.LD,hc.Mk,hc.Bt,hc.LF,hc.sF,hc.qF,hc.FO,hc.UU,hc.Ml,hc.Yx,hc.Mq,hc.Sb,hc.uM,hc.Gr⟩,ha,rfl⟩
 ·split
  ·exact⟨hc,ha,rfl⟩
  ·rename_i h1 h2;split
   ·rename_i h3;refine⟨⟨hc.UR,hc.LD,hc.Mk,hc.Bt,hc.LF,hc.sF,hc.qF,hc.FO,hc.UU,hc.Ml,hc.Yx,?_,?_,hc.uM,hc.Gr⟩,ha,rfl⟩
    ·have:=hc.Mq;have h4:s.left≠0:=fun e=>h1 ⟨h3,e⟩
     simp only;omega
    ·have:=hc.Sb;have:=hc.Mq;simp only;omega
   ·exact⟨hc,ha,rfl⟩
theorem LY (l:List bE):0<=dG l:=by
 induction l with
 |nil=>simp[dG]
 |cons f l ih=>simp only[dG];omega
theorem new3 (w:F)(o1 o2 o3:Obj):aK w (((w.alloc o1).alloc o2).alloc o3)/\(((w.alloc o1).alloc o2).alloc o3).heap[w.heap.size]?=M o1/\(((w.alloc o1).alloc o2).alloc o3).heap[w.heap.size+1]?=M o2/\(((w.alloc o1).alloc o2).alloc o3).heap[w.heap.size+1+1]?=M o3:=by
 refine⟨aK.alloc (aK.alloc (aK.alloc (aK.refl w) _) _) _,?_,?_,?_⟩
 ·rw[Below.heap_alloc _ o3 _ (by simp;omega),Below.heap_alloc _ o2 _ (by simp)];exact heap_alloc_new w o1
 ·rw[Below.heap_alloc _ o3 _ (by simp)];have:=heap_alloc_new (w.alloc o1) o2;rwa[World.size_alloc]at this
 ·have:=heap_alloc_new ((w.alloc o1).alloc o2) o3;rwa[World.size_alloc,World.size_alloc]at this
theorem PS:∀(args:Array Y) (w:F),(callFunc 212 args).run K w= .ok (.enter 212 args) w:=enters_of Tryz.func212 (by kernel_rfl) rfl
theorem PU {fs:List bE}(h:(mG s fs n).1=false):dG fs+n<=s.room:=by
 unfold mG at h;split at h
 ·cases h
 ·split at h
  ·cases h
  ·omega
theorem sI {cap:Nat}{ad:Addr}{b:ByteArray}(h:aS w db s fv rs)(hG:Qp w ps)(hC:kH s)(ha:0<=s.after)(hI:eO s.room (plain rs))(hl:rs.length<=1000)(lG:b.size≠0)(hb:b.size<=1000000000)
 (hr:lZ w (M ad) b.data.toList)(Nb:∃aQ f,w.heap[ad.block]?=M (C aQ 5 f)):
 H K 133 #[U (M ⟨db,0,O⟩),I V n,Z (M ad) b.size cap] w fun e w'=> ∃v,e=G v/\AddD w w' ps db s fv rs n b v:=by
 obtain⟨hA1,hA2⟩:=VZ s (plain rs) n b;obtain⟨g1,g2,g3⟩:=WA (fs:=plain rs) (n:=(b.size:Int)) hC ha;have hR:=fun (W:F) (hW:aK w W)=>FY (w:=W) (n:=(b.size:Int)) (h.aM hW) hl (fun f hf=>(hI.ok f hf).2.2) hC.LF hC.sF (by omega) (by omega) hC.Mq hC.Sb (LY _) (by have:=hI.used;have:=hC.sF;omega)
 obtain⟨k0,k1,k2,k3⟩:=new3 w (C #[U (M ⟨db,0,O⟩)] 77) (C #[I V n] 3) (C #[Z (M ad) b.size cap] 153);obtain⟨W3,PE⟩:∃W3,W3=((w.alloc (C #[U (M ⟨db,0,O⟩)] 77)).alloc (C #[I V n] 3)).alloc (C #[Z (M ad) b.size cap] 153):=⟨_,rfl⟩;have iT:=hR W3 (by rw[PE];exact k0);rw[<-PE]at k0 k1 k2 k3;have SS:Hid (Qp W3 ps):=hG.aM k0;have HD3:Hid (aS W3 db s fv rs):=h.aM k0;have GN:=HD3.out.1;have c0:W3.cell? ⟨w.heap.size,0,O⟩=M (U (M ⟨db,0,O⟩)):=by simp[World.cell?,k1]
 have c1:W3.cell? ⟨w.heap.size+1,0,O⟩=M (I V n):=by simp[World.cell?,k2]
 have c2:W3.cell? ⟨w.heap.size+1+1,0,O⟩=M (Z (M ad) b.size cap):=by simp[World.cell?,k3]
 have Kl:Hid (∀w4,Og W3 w4 db->w4.heap[w.heap.size]?=M (C #[U (M ⟨db,0,O⟩)] 77 (0,0))/\w4.heap[w.heap.size+1]?=M (C #[I V n] 3 (0,0))/\w4.heap[w.heap.size+1+1]?=M (C #[Z (M ad) b.size cap] 153 (0,0))/\Qp w4 ps/\lZ w4 (M ad) b.data.toList/\∃aQ f,w4.heap[ad.block]?=M (C aQ 5 f)):=fun w4 ho=>by
  obtain⟨aQ,f,hc⟩:=Nb;have qw:W3.heap[ad.block]?=M (C aQ 5 f):=(k0.block _ (aL hc)).trans hc;refine⟨ho.1.at k1 (fun e=>aW k1 GN (by decide) e),ho.1.at k2 (fun e=>aW k2 GN (by decide) e),ho.1.at k3 (fun e=>aW k3 GN (by decide) e),SS.out.fr ho.1 (fun b aQ hb=>aW hb GN (by decide)),?_,aQ,f,ho.1.at qw (fun e=>aW qw GN (by decide) e)⟩;exact(hr.aM k0).fr ho.1 (fun a e hx=>by cases e;exact aW qw GN (by decide) hx)
 have HK3:Hid (aK w W3):=k0;clear h hG k0 k1 k2 k3 hR hr Nb GN;cases FZ:(mG s (plain rs) (b.size:Int)).1 with
 |true=>
  obtain⟨e1,e2,e3⟩:=hA1 FZ;rw[FZ]at iT;go_enter Tryz.func133,Tryz.ntmps133
  go_upto_region 1 with fail
  rw[<-PE];clear PE
  go_wp2_with fail
  refine iT.mono ?_;rintro e w4 ⟨rfl,Xk,Xl⟩;obtain⟨q0,q1,q2,q3,-⟩:=Kl.out w4 Xl;have x1:w4.cell? ⟨w.heap.size+1,0,O⟩=M (I V n):=by simp[World.cell?,q1]
  have x2:=q3.cell (k:=1) (by omega);unfold gP at x2;have HD4:Hid (aS w4 db (mG s (plain rs) (b.size:Int)).2 fv rs):=Xk;clear Xk q0 q1 q2 q3
  go_wp2_with fail
  go_ret;refine⟨_,rfl,fv,rs,?_,?_,?_,?_⟩
  ·rw[e2];exact HD4.out.aM (aU _ _)
  ·rw[e3]
  ·exact((Dk.bI HK3.out).trans (Dk.Jc Xl.1 Xl.2 (Or.inl rfl))).aM (aU _ _)
  ·exact Or.inr (Or.inl ⟨e1,w4.heap.size,_,n,rfl,heap_alloc_new w4 _⟩)
 |false=>
  have hb:b.size<=1000000:=by have h1:=PU FZ;have h2:=LY (plain rs);have h3:=hC.sF;omega
  have hA:=hA2 FZ;rw[FZ]at iT;obtain⟨s1,Ga⟩:∃s1,s1=(mG s (plain rs) (b.size:Int)).2:=⟨_,rfl⟩;rw[<-Ga]at hA iT g1 g2 g3;have iY:=hI.sort.1;cases qR:(dF s1 (plain rs)).1 with
  |true=>
   have Zt:(dF s1 (plain rs)).2.2=plain rs:=by
    rcases vL g1 (by rw[g3];exact hI:eO s1.room (plain rs))with⟨s',e,-⟩|⟨s',bZ,e,-⟩
    ·rw[e]
    ·rw[e]at qR;cases qR
   rw[qR,if_pos rfl,Zt]at hA;have Lv:=Rx hI n b;have hnz:(lU (plain rs) n b).2.1.size≠0:=by rw[Lv.2.1,ByteArray.size_append];omega
   have hput:Ma (plain rs) (lU (plain rs) n b) (-1)=iN (plain rs) (lU (plain rs) n b):=vF hI.sort hnz (hI.no (by omega));rw[hput]at hA
   have Xm:Hid (∀w4,aS w4 db s1 fv rs->Og W3 w4 db->H K 211 #[U (M ⟨db,0,O⟩),.string ⟨#[97,112,112,101,110,100,32,116,111]⟩,I V n,.func (.func 212) #[] #[U (M ⟨w.heap.size,0,O⟩),U (M ⟨w.heap.size+1,0,O⟩),U (M ⟨w.heap.size+1+1,0,O⟩)]] w4 fun e w'=>e=G .nilIface/\∃w1,Og w4 w1 db/\VU w1 w' db (dF s1 (plain rs)).2.1 fv rs n b):=fun w4 Xk Xl=>by
    refine Zk Xk g2 g1.qF PS qR (fun w1 Kj wS=>?_);obtain⟨q0,q1,q2,q3,q4,q5⟩:=Kl.out w1 (Xl.trans wS);cases hh:gV (plain rs) n with
    |true=>
     refine(Zo (Jr:=cap) Kj iY (by omega) (fun f hf=>(hI.ok f hf).2.2) (by omega) (by simp[World.cell?,q0]) (by simp[World.cell?,q1]) (by simp[World.cell?,q2]) q4 hh).mono ?_;rintro e w2 ⟨rfl,hA⟩;exact⟨rfl,w1,wS,hA⟩
    |false=>
     refine(Zq (Jr:=cap) Kj iY (by omega) (by omega) q0 q1 q2 q4 q5 hh).mono ?_;rintro e w2 ⟨rfl,hA⟩;exact⟨rfl,w1,wS,hA⟩
   clear iY Lv hnz hput Zt hI;go_enter Tryz.func133,Tryz.ntmps133
   go_upto_region 1 with fail
   rw[<-PE];clear PE
   go_wp2_with fail
   refine iT.mono ?_;rintro e w4 ⟨rfl,Xk,Xl⟩;obtain⟨q0,q1,-⟩:=Kl.out w4 Xl;have x0:w4.cell? ⟨w.heap.size,0,O⟩=M (U (M ⟨db,0,O⟩)):=by simp[World.cell?,q0]
   have x1:w4.cell? ⟨w.heap.size+1,0,O⟩=M (I V n):=by simp[World.cell?,q1]
   have HD4:Hid (aS w4 db s1 fv rs):=Xk;clear Xk q0 q1
   go_wp2_with fail
   refine(Xm.out w4 HD4.out Xl).mono ?_;rintro e w5 ⟨rfl,w1,wS,dI,dH,p1,p2,p3⟩
   go_wp2_with fail
   go_ret;refine⟨_,rfl,dI,dH,?_,?_,?_,?_⟩
   ·rw[hA];exact p1
   ·rw[hA];exact p2
   ·have hO:=Xl.trans wS;exact((Dk.bI HK3.out).trans (Dk.Jc hO.1 hO.2 (Or.inl rfl))).trans p3
   ·rw[hA];exact Or.inl ⟨rfl,rfl⟩
  |false=>
   rw[qR,if_neg (by simp)]at hA
   have Xm:Hid (∀w4 fn,aS w4 db s1 fv rs->Og W3 w4 db->H K 211 #[U (M ⟨db,0,O⟩),.string ⟨#[97,112,112,101,110,100,32,116,111]⟩,I V n,fn] w4 fun e w'=> ∃v,e=G v/\GL w4 w' ps db s1 fv rs v):=fun w4 fn Xk Xl=>
    LW Xk (Kl.out w4 Xl).2.2.2.1 g2 g1.qF (by omega) hI.ok iY g1.FO g1.Ml g1.UU g1.Yx qR
   clear iY hI;go_enter Tryz.func133,Tryz.ntmps133
   go_upto_region 1 with fail
   rw[<-PE];clear PE
   go_wp2_with fail
   refine iT.mono ?_;rintro e w4 ⟨rfl,Xk,Xl⟩;obtain⟨q0,q1,-⟩:=Kl.out w4 Xl;have x0:w4.cell? ⟨w.heap.size,0,O⟩=M (U (M ⟨db,0,O⟩)):=by simp[World.cell?,q0]
   have x1:w4.cell? ⟨w.heap.size+1,0,O⟩=M (I V n):=by simp[World.cell?,q1]
   have HD4:Hid (aS w4 db s1 fv rs):=Xk;clear Xk q0 q1
   go_wp2_with fail
   refine(Xm.out w4 _ HD4.out Xl).mono ?_;rintro e w5 ⟨v,rfl,hE,dI,dH,p1,p2,p3⟩;obtain⟨bb,nm,num,rfl,hbb⟩:=hE
   go_wp2_with fail
   go_ret;refine⟨_,rfl,dI,dH,?_,?_,?_,?_⟩
   ·rw[hA];exact p1
   ·rw[hA];exact p2
   ·exact((Dk.bI HK3.out).trans (Dk.Jc Xl.1 Xl.2 (Or.inl rfl))).trans p3
   ·rw[hA];exact Or.inr (Or.inr ⟨rfl,bb,nm,num,rfl,hbb⟩)
theorem GQ {b7 b9:Nat}{lo:Int}{R:F->Prop}(c7:w.cell? ⟨b7,0,O⟩=M (.func (.func g) #[] lb))(c9:w.cell? ⟨b9,0,O⟩=M (I V lo))(eg:∀(args:Array Y) (w:F),(callFunc g args).run K w= .ok (.enter g args) w)
 (hc:H K g (#[I V lo]++lb) w fun e w'=>e=G (.tuple #[])/\R w'):
 H K 215 #[U (M ⟨b7,0,O⟩),U (M ⟨b9,0,O⟩)] w fun e w'=>e=G (.tuple #[])/\R w':=by
 go_enter Tryz.func215,Tryz.ntmps215
 go_wp2_with (go_at_fn g;refine hc.mono ?_;rintro e w2 ⟨rfl,hR⟩)
 go_end0;exact⟨rfl,hR⟩
theorem PV:∀(args:Array Y) (w:F),(callFunc 215 args).run K w= .ok (.enter 215 args) w:=enters_of Tryz.func215 (by kernel_rfl) rfl
theorem yY (h:aS w db s fv rs)(hs:(plain rs).Pairwise (fun a b=>a.1<b.1))(hl:rs.length<=1000000)(hh:gV (plain rs) n=false):
 H K 135 #[U (M ⟨db,0,O⟩),.string nm,I V n,.func (.func g) #[] lb] w fun e w'=>e=G .nilIface/\aK w w':=by
 have hF:=wO (n:=n) (h.aM (aU w (C #[.func (.func g) #[] lb] 95))) hs hl;rw[hh]at hF;generalize dM (plain rs) n=lo at hF;clear h hs hh;go_enter Tryz.func135,Tryz.ntmps135
 go_wp2_with (go_at_call 177;refine hF.mono ?_;rintro e w1 ⟨rfl,rfl⟩)
 go_ret;refine⟨rfl,?_⟩
 repeat (first|exact aK.refl _|refine aK.alloc ?_ _|refine aK.drew ?_)
theorem Zu (w:F)(o1 o2:Obj):aK w ((w.alloc o1).alloc o2)/\((w.alloc o1).alloc o2).heap[w.heap.size]?=M o1/\((w.alloc o1).alloc o2).heap[w.heap.size+1]?=M o2:=⟨aK.alloc (aK.alloc (aK.refl w) _) _,LX w o1 o2,X_ w o1 o2⟩
theorem wU {R:F->Prop}(h:aS w db s fv rs)(hs:(plain rs).Pairwise (fun a b=>a.1<b.1))(hl:rs.length<=1000000)(hh:gV (plain rs) n=true)(ha:0<=s.after)(Zl:s.after<=9223372036854775807)
 (eg:∀(args:Array Y) (w:F),(callFunc g args).run K w= .ok (.enter g args) w)(qR:(dF s (plain rs)).1=true)
 (Na:∀w1,aS w1 db (dF s (plain rs)).2.1 fv rs->Og w w1 db->H K g (#[I V (dM (plain rs) n:Nat)]++lb) w1 fun e w2=>e=G (.tuple #[])/\R w2):
 H K 135 #[U (M ⟨db,0,O⟩),.string nm,I V n,.func (.func g) #[] lb] w fun e w'=>e=G .nilIface/\R w':=by
 have hF:=wO (n:=n) (h.aM (aU w (C #[.func (.func g) #[] lb] 95))) hs hl;rw[hh]at hF;obtain⟨k0,k1,k2⟩:=Zu w (C #[.func (.func g) #[] lb] 95) (C #[I V (dM (plain rs) n:Nat)] 3)
 have Xm:=Zk (nm:=nm) (num:=n) (g:=215) (lb:=#[U (M ⟨w.heap.size,0,O⟩),U (M ⟨w.heap.size+1,0,O⟩)]) (R:=R) (h.aM k0) ha Zl PV qR (fun w1 Kj wS=>by
  have hne:∀(k:Nat) (aQ:Array Y) (t:TypeId),((w.alloc (C #[.func (.func g) #[] lb] 95)).alloc (C #[I V (dM (plain rs) n:Nat)] 3)).heap[k]?=M (Obj.cells aQ t (0,0))->t≠137->w1.heap[k]?=M (Obj.cells aQ t (0,0)):=fun k aQ t hk ht=>wS.1.at hk (fun e=>aW hk (h.aM k0).1 ht e)
  refine GQ (lo:=(dM (plain rs) n:Nat)) (by simp[World.cell?,hne _ _ _ k1 (by decide)]) (by simp[World.cell?,hne _ _ _ k2 (by decide)]) eg (Na w1 Kj ?_);exact((Og.refl w db).aM k0).trans wS)
 generalize dM (plain rs) n=lo at hF Xm;clear h hs hh Na qR k0 k1 k2;go_enter Tryz.func135,Tryz.ntmps135
 go_wp2_with (first|(go_at_call 177;refine hF.mono ?_;rintro e w1 ⟨rfl,rfl⟩)|(go_at_call 211;refine Xm.mono ?_;rintro e w2 ⟨rfl,hR⟩))
 go_ret;exact⟨rfl,hR⟩
theorem Ac (h:aS w db s fv rs)(hG:Qp w ps)(hC:kH s)(ha:0<=s.after)(hI:eO s.room (plain rs))(hl:rs.length<=1000000)(hh:gV (plain rs) n=true)(qR:(dF s (plain rs)).1=false):
 H K 135 #[U (M ⟨db,0,O⟩),.string nm,I V n,.func (.func g) #[] lb] w fun e w'=> ∃v,e=G v/\GL w w' ps db s fv rs v:=by
 have hF:=wO (n:=n) (h.aM (aU w (C #[.func (.func g) #[] lb] 95))) hI.sort.1 hl;rw[hh]at hF;obtain⟨k0,k1,k2⟩:=Zu w (C #[.func (.func g) #[] lb] 95) (C #[I V (dM (plain rs) n:Nat)] 3);have Xm:=fun fn=>LW (nm:=nm) (num:=n) (fn:=fn) (h.aM k0) (hG.aM k0) ha hC.qF hl hI.ok hI.sort.1 hC.FO hC.Ml hC.UU hC.Yx qR
 have HK:Hid (aK w ((w.alloc (C #[.func (.func g) #[] lb] 95)).alloc (C #[I V (dM (plain rs) n:Nat)] 3))):=k0;generalize dM (plain rs) n=lo at hF Xm HK;clear h hh qR k0 k1 k2 hG hC hI;go_enter Tryz.func135,Tryz.ntmps135
 go_wp2_with (go_at_call 177;refine hF.mono ?_;rintro e w1 ⟨rfl,rfl⟩)
 refine(Xm _).mono ?_;rintro e w2 ⟨v,rfl,⟨bb,nm',num,rfl,hbb⟩,dI,dH,p1,p2,p3⟩
 go_wp2_with fail
 go_ret;exact⟨_,rfl,⟨bb,nm',num,rfl,hbb⟩,dI,dH,p1,p2,(Dk.bI HK.out).trans p3⟩
def Zv (w:F)(ps:Nat->Addr)(v:Y)(ok:Bool):Prop:=(ok=true/\v= .nilIface)\/(ok=false/\Eh w ps v 2)
def oP (w w':F)(ps:Nat->Addr)(db:Nat)(fv:Y)(rs:List FR)(v:Y)(r:Bool×Sc×List bE):Prop:=
 ∃dI dH,aS w' db r.2.1 dI dH/\plain dH=r.2.2/\Dk w w' (DX db fv rs) (DX db dI dH)/\Zv w' ps v r.1
def DoD (w w':F)(db:Nat)(s:Sc)(fv:Y)(rs:List FR)(bZ:List bE):Prop:=∃dI dH,aS w' db s dI dH/\plain dH=bZ/\Dk w w' (DX db fv rs) (DX db dI dH)
theorem aS.at (h:aS w db s fv rs)(hr:rs[lo]?=M r):∃g cap,fv=Z (M ⟨g,0,O⟩) rs.length cap/\w.cell? ⟨db,1,O⟩=M (Z (M ⟨g,0,O⟩) rs.length cap)/\w.frozen? ⟨db,1,O⟩=false/\w.cell? ⟨g,lo,O⟩=M (U (M ⟨r.b,0,O⟩))/\lo<rs.length/\eY w r:=by
 have bS:=(List.getElem?_eq_some_iff.1 hr).1;obtain⟨-,c1,-,-,-,-,-,-,cf⟩:=dP h.1;obtain⟨ao,cap,rfl,-,-,gJ,gW⟩:=fJ.form h.2.1;cases ao with
 |none=>obtain⟨rfl,-⟩:=gJ rfl;simp at bS
 |some a=>
  obtain⟨g,aQ,rfl,-,-,-,hc⟩:=gW a rfl;exact⟨g,cap,rfl,c1,cf 1,hc _ r hr,bS,h.2.2.1 r (List.mem_of_getElem? hr)⟩
theorem PW (h:aS w db s fv rs)(hr:rs[lo]?=M r)(c0:w.cell? ⟨bx,0,O⟩=M (U (M ⟨db,0,O⟩))):
 H K 136 #[I V (lo:Int),U (M ⟨bx,0,O⟩)] w fun e w'=>e=G (.tuple #[])/\DoD w w' db s fv rs ((plain rs).set lo (r.f.1,r.f.2.1,(r.f.2.1.size:Int))):=by
 obtain⟨g,cap,rfl,c1,-,c2,bS,hf⟩:=h.at hr;have hFl:=Sj hf;have HD:Hid (aS w db s (Z (M ⟨g,0,O⟩) rs.length cap) rs):=h;have HR:Hid (rs[lo]?=M r):=hr;have i1:(0:Int)<=(lo:Int):=by omega
 have i2:(lo:Int)<(rs.length:Int):=by omega
 clear h hr hf;go_enter Tryz.func136,Tryz.ntmps136
 go_wp2_with fail
 refine hFl.mono ?_;rintro e w1 ⟨rfl,je,wS⟩
 go_wp2_with fail
 go_end0;obtain⟨p1,p2⟩:=HD.out.Ef (r':=(r.b,r.v,(r.f.1,r.f.2.1,(r.f.2.1.size:Int)))) HR.out rfl (wS.1.mono fun b e=>Or.inl e) wS.2 je (Or.inl rfl);exact⟨rfl,_,_,p1,by rw[Ab];rfl,p2⟩
theorem e_cut:∀(args:Array Y) (w:F),(callFunc 237 args).run K w= .ok (.enter 237 args) w:=enters_of Tryz.func237 (by kernel_rfl) rfl
theorem Zw:∀(args:Array Y) (w:F),(callFunc 193 args).run K w= .ok (.enter 193 args) w:=enters_of Tryz.func193 (by kernel_rfl) rfl
theorem WB:∀(args:Array Y) (w:F),(callFunc 136 args).run K w= .ok (.enter 136 args) w:=enters_of Tryz.func136 (by kernel_rfl) rfl
theorem e_cut1:∀(args:Array Y) (w:F),(callFunc 236 args).run K w= .ok (.enter 236 args) w:=enters_of Tryz.func236 (by kernel_rfl) rfl
theorem PX:∀(args:Array Y) (w:F),(callFunc 192 args).run K w= .ok (.enter 192 args) w:=enters_of Tryz.func192 (by kernel_rfl) rfl
theorem sw {by' k:Nat}(h:aS w db s fv rs)(hr:rs[lo]?=M r)(hk:k<=r.f.2.1.size)(hz:r.f.2.1.size<=2000000)(c0:w.cell? ⟨bx,0,O⟩=M (U (M ⟨db,0,O⟩)))(J_:w.cell? ⟨by',0,O⟩=M (I V (k:Int))):
 H K 236 #[I V (lo:Int),U (M ⟨bx,0,O⟩),U (M ⟨by',0,O⟩)] w fun e w'=>e=G (.tuple #[])/\DoD w w' db s fv rs ((plain rs).set lo (r.f.1,r.f.2.1.extract 0 k,(k:Int))):=by
 obtain⟨g,cap,rfl,c1,-,c2,bS,hf⟩:=h.at hr
 have HC:Hid (∀W,aK w W->H K 237 #[U (M ⟨r.b,0,O⟩),I V (k:Int)] W fun e w'=>e=G (.tuple #[])/\DoD w w' db s (Z (M ⟨g,0,O⟩) rs.length cap) rs ((plain rs).set lo (r.f.1,r.f.2.1.extract 0 k,(k:Int)))):=fun W hW=>by
  refine(LM (w:=W) (n:=k) ⟨(hW.block _ (aL hf.1)).trans hf.1,hf.2.aM hW⟩ hk hz).mono ?_;rintro e w' ⟨rfl,v',hF,jY,VP⟩;obtain⟨p1,p2⟩:=(h.aM hW).Ef (r':=(r.b,v',(r.f.1,r.f.2.1.extract 0 k,(k:Int)))) hr rfl (jY.1.mono fun b e=>Or.inl e) jY.2 hF (Or.inr VP);exact⟨rfl,_,_,p1,by rw[Ab];rfl,(Dk.bI hW).trans p2⟩
 have i1:(0:Int)<=(lo:Int):=by omega
 have i2:(lo:Int)<(rs.length:Int):=by omega
 clear h hr hf;go_enter Tryz.func236,Tryz.ntmps236
 go_region_law ((refine bK (by rfl) 237 _ _ (by rfl) _ (by simp[Act.eval];done) e_cut ((HC.out _ (by repeat (first|exact aK.refl _|refine aK.drew ?_))).mono ?_);rintro e w5 ⟨rfl,Na⟩;refine⟨_,rfl,?_⟩))
 all_goals go_wp2_with fail
 all_goals go_end0
 all_goals exact⟨rfl,Na⟩
theorem GR (h:aS w db s fv rs)(hr:rs[lo]?=M r)(hl:rs.length<=1000000)(c0:w.heap[bx]?=M (C #[U (M ⟨db,0,O⟩)] 77 (0,0))):
 H K 192 #[I V (lo:Int),U (M ⟨bx,0,O⟩)] w fun e w'=>e=G (.tuple #[])/\DoD w w' db s fv rs ((plain rs).eraseIdx lo):=by
 obtain⟨g,cap,rfl,c1,c1f,c2,bS,hf⟩:=h.at hr
 have HC:Hid (∀W,aK w W->H K 193 #[Z (M ⟨g,0,O⟩) rs.length cap,I V (lo:Int),I V ((lo:Int)+1)] W fun e w'=> ∃(c5 n5:Nat),e=G (Z (M ⟨g,0,O⟩) n5 c5)/\w'.cell? ⟨bx,0,O⟩=M (U (M ⟨db,0,O⟩))/\w'.cell? ⟨db,1,O⟩=M (Z (M ⟨g,0,O⟩) rs.length cap)/\w'.frozen? ⟨db,1,O⟩=false/\DoD w (w'.setCell ⟨db,1,O⟩ (Z (M ⟨g,0,O⟩) n5 c5)) db s (Z (M ⟨g,0,O⟩) rs.length cap) rs ((plain rs).eraseIdx lo)):=fun W hW=>by
  refine(Sl (h.aM hW).2.1 bS hl).mono ?_;rintro e w' ⟨v',g',rfl,gW,yE,WC,jY⟩;simp[Value.ownBlock]at yE;subst yE;obtain⟨jg,tF,e5,-,-,-,hro5⟩:=fJ.form gW;subst e5;cases jg with
  |none=>simp[Value.ownBlock]at WC
  |some a5=>
   obtain⟨g6,cur6,rfl,-⟩:=hro5 a5 rfl;simp[Value.ownBlock]at WC;subst WC;obtain⟨cg,Sw⟩:=jE (h.aM hW).2.1 (g:=g6) rfl;have Mw:w'.heap[db]?=M (jS s (Z (M ⟨g6,0,O⟩) rs.length cap)):=jY.1.at (h.aM hW).1 (fun e=>aW (h.aM hW).1 Sw (by decide) e);have Ad:w'.heap[bx]?=M (C #[U (M ⟨db,0,O⟩)] 77 (0,0)):=jY.1.at ((hW.block _ (aL c0)).trans c0) (fun e=>aW ((hW.block _ (aL c0)).trans c0) Sw (by decide) e);obtain⟨-,m1,-,-,-,-,-,-,mf⟩:=dP Mw;obtain⟨p1,p2⟩:=(h.aM hW).setRow (dI:=Z (M ⟨g6,0,O⟩) (rs.eraseIdx lo).length tF) (jY.1.mono fun b e=>by rw[e];rfl) jY.2 gW rfl (List.eraseIdx_sublist rs lo) rfl;refine⟨tF,(rs.eraseIdx lo).length,rfl,by simp[World.cell?,Ad],m1,mf 1,_,_,p1,?_,(Dk.bI hW).trans p2⟩;unfold plain;rw[kJ,kJ,List.map_append,List.map_take,List.map_drop]
 have J_:w.cell? ⟨bx,0,O⟩=M (U (M ⟨db,0,O⟩)):=by simp[World.cell?,c0]
 have dU:IntKind.i64.wrap ((lo:Int)+1)=(lo:Int)+1:=by rw[IntKind.wrap_i64];omega
 clear h hr hf c0 c2;go_enter Tryz.func192,Tryz.ntmps192
 go_region_law ((refine bK (by rfl) 193 _ _ (by rfl) _ (by simp[Act.eval];done) Zw ((HC.out _ (by repeat (first|exact aK.refl _|refine aK.drew ?_))).mono ?_);rintro e w5 ⟨c5,n5,rfl,y0,y1,y2,Na⟩;refine⟨_,rfl,?_⟩))
 all_goals go_wp2_with fail
 all_goals go_end0
 all_goals exact⟨rfl,Na⟩
theorem new1c (w:F)(o:Obj):aK w (w.alloc o)/\(w.alloc o).heap[w.heap.size]?=M o:=⟨aK.alloc (aK.refl w) _,heap_alloc_new w o⟩
theorem Nc (h:aS w db s fv rs)(hG:Qp w ps)(hC:kH s)(ha:0<=s.after)(hI:eO s.room (plain rs))(hl:rs.length<=1000):
 H K 89 #[U (M ⟨db,0,O⟩),I V n] w fun e w'=> ∃v,e=G v/\oP w w' ps db fv rs v (bV s (plain rs) n):=by
 obtain⟨k0,k1⟩:=new1c w (C #[U (M ⟨db,0,O⟩)] 77);have hD:=h.aM k0;have hp:=Ea hI.sort.1 n
 have HC:Hid (H K 135 #[U (M ⟨db,0,O⟩),.string ⟨#[102,108,117,115,104]⟩,I V n,.func (.func 136) #[] #[U (M ⟨w.heap.size,0,O⟩)]] (w.alloc (C #[U (M ⟨db,0,O⟩)] 77)) fun e w'=> ∃v,e=G v/\oP w w' ps db fv rs v (bV s (plain rs) n)):=by
  cases hh:gV (plain rs) n with
  |false=>
   have e1:bV s (plain rs) n=(true,s,plain rs):=by unfold bV;rw[hp,hh];rfl
   refine(yY hD hI.sort.1 (by omega) hh).mono ?_;rintro e w' ⟨rfl,hg⟩;exact⟨_,rfl,fv,rs,by rw[e1];exact hD.aM hg,by rw[e1],Dk.bI (bA k0 hg),by rw[e1];exact Or.inl ⟨rfl,rfl⟩⟩
  |true=>
   rw[hh]at hp;obtain⟨r,hr,hn⟩:=tY hh;cases qR:(dF s (plain rs)).1 with
   |true=>
    have Zt:=zU qR
    have hb:aN (plain rs) n=r.f.2.1:=by
     rcases wP hI.sort.1 n with⟨q,-,hq,-,e,-⟩|⟨e,-⟩
     ·rw[hr]at hq;cases hq;exact e
     ·rw[hh]at e;cases e
    have e1:bV s (plain rs) n=(true,(dF s (plain rs)).2.1,(plain rs).set (dM (plain rs) n) (r.f.1,r.f.2.1,(r.f.2.1.size:Int))):=by
     unfold bV;rw[hp];simp only[if_true,qR,Zt,hb,hn]
    refine(wU (R:=fun w2=>DoD w w2 db (dF s (plain rs)).2.1 fv rs ((plain rs).set (dM (plain rs) n) (r.f.1,r.f.2.1,(r.f.2.1.size:Int)))) hD hI.sort.1 (by omega) hh ha hC.qF WB qR (fun w1 Kj wS=>?_)).mono ?_
    ·refine(PW Kj hr ?_).mono ?_
     ·have:=wS.1.at k1 (fun e=>aW k1 hD.1 (by decide) e);simp[World.cell?,this]
     ·rintro e w2 ⟨rfl,dI,dH,p1,p2,p3⟩;exact⟨rfl,dI,dH,p1,p2,((Dk.bI k0).trans (Dk.Jc wS.1 wS.2 (Or.inl rfl))).trans p3⟩
    ·rintro e w2 ⟨rfl,dI,dH,p1,p2,p3⟩;exact⟨_,rfl,dI,dH,by rw[e1];exact p1,by rw[e1];exact p2,p3,by rw[e1];exact Or.inl ⟨rfl,rfl⟩⟩
   |false=>
    have e1:bV s (plain rs) n=dF s (plain rs):=by
     unfold bV;rw[hp];simp only[if_true,qR,Bool.false_eq_true,if_false]
    refine(Ac hD (hG.aM k0) hC ha hI (by omega) hh qR).mono ?_;rintro e w2 ⟨v,rfl,hE,dI,dH,p1,p2,p3⟩;exact⟨v,rfl,dI,dH,by rw[e1];exact p1,by rw[e1];exact p2,(Dk.bI k0).trans p3,by rw[e1,qR];exact Or.inr ⟨rfl,hE⟩⟩
 clear h hG hC ha hI hl k0 k1 hD hp;go_enter Tryz.func89,Tryz.ntmps89
 go_wp2_with fail
 refine HC.out.mono ?_;rintro e w1 ⟨v,rfl,hR⟩;obtain⟨dI,dH,p1,p2,p3,p4⟩:=hR;have hR:oP w w1 ps db fv rs v (bV s (plain rs) n):=⟨dI,dH,p1,p2,p3,p4⟩;rcases p4 with⟨-,rfl⟩|⟨-,bb,nm,num,rfl,-⟩
 ·clear p1 p2 p3
  go_wp2_with fail
  go_ret;exact⟨_,rfl,hR⟩
 ·clear p1 p2 p3
  go_wp2_with fail
  go_ret;exact⟨_,rfl,hR⟩
end Go.Proofs.YtfplgfodoiiobaaGreatDoor
