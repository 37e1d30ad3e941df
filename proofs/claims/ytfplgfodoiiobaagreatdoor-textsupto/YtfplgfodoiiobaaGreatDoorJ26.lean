/- DrK, DrL, DrM, DrN (joined). -/
import Derived.Deep.MidRow
import Derived.Test.YtfplgfodoiiobaaGreatDoorJ25
open Option renaming none→O,some→M
open Go.Value renaming int→I,slice→Z,pointer→U
open Go.IntKind renaming i64→V
open Go.Obj renaming cells→C
open Go.Ending renaming returned→G
open Go renaming World→F,Value→Y,Calls→H
open Go.Proofs.Tryz renaming prog→K
namespace Go.Proofs.YtfplgfodoiiobaaGreatDoor
set_option maxHeartbeats 4000000
set_option maxRecDepth 100000
open Go.RowKit
variable {w:F}{a b c q most dn bf:Int}{depth dp g tb:Nat}{m:dF}{lb:Array Y}{l:List (Int×Int)}
theorem Ah {J fm fd:Nat}{P:F->Nat->Y->F->Prop}(hJ:J<4)(hT:TK J=(q,fm,fd))(hL:∀k,k<J->(TK k).1≠q)(em:∀(args:Array Y) (w:F),(callFunc fm args).run K w= .ok (.enter fm args) w)(eg:∀(args:Array Y) (w:F),(callFunc g args).run K w= .ok (.enter g args) w)(hm:∀W,aL w W->H K fm #[U (M ⟨dp,0,O⟩),iD q a b c,I V most] W fun e w'=>e=G (I V 0)/\aL W w')(hw:∀W,aL w W->H K g lb W fun e w'=> ∃t v,e=G (.iface t v)/\P W t v w'):
 H K 85 #[U (M ⟨dp,0,O⟩),iD q a b c,I V most,.func (.func g) #[] lb] w fun e w'=> ∃W t v,e=G (.iface t v)/\aL w W/\P W t v w':=by
 have HL:Hid (∀k,k<J->(TK k).1≠q):=hL;have HM:Hid (∀W,aL w W->H K fm #[U (M ⟨dp,0,O⟩),iD q a b c,I V most] W fun e w'=>e=G (I V 0)/\aL W w'):=hm;have HW:Hid (∀W,aL w W->H K g lb W fun e w'=> ∃t v,e=G (.iface t v)/\P W t v w'):=hw;clear hm hL hw;obtain⟨w1,jJ⟩:∃w1,w1=w.alloc (C #[I .u8 q,I V a,I V b,I V c] 99):=⟨_,rfl⟩;have fC:w1.heap[w.heap.size]?=M (C #[I .u8 q,I V a,I V b,I V c] 99 (0,0)):=by rw[jJ];exact heap_alloc_new w _
 have G1:Hid (aL w w1):=by show aL _ _;rw[jJ];exact(aL.refl w).alloc _
 have HB:Hid (∀W,aL w1 W->W.cell? ⟨w.heap.size,0,O⟩=M (I .u8 q)/\W.cell? ⟨w.heap.size,1,O⟩=M (I V a)/\W.cell? ⟨w.heap.size,2,O⟩=M (I V b)/\W.cell? ⟨w.heap.size,3,O⟩=M (I V c)):=fun W hW=>by
  have:=(hW.block _ (aM fC)).trans fC;simp[World.cell?,this]
 have hK:=Jh (w:=w1);have HX:Hid (∀(k:Nat),k<4->∀w,(Instr.index 223 wX (I V (k:Int))).run K w= .ok (.agg #[I .u8 (TK k).1,.func (.func (TK k).2.1) #[] #[],.func (.func (TK k).2.2) #[] #[]]) w):=fun k hk w=>Ji w hk
 generalize wX=kv at*;unfold iD at*;clear fC;go_enter Tryz.func85,Tryz.ntmps85
 go_upto_region 1 with fail
 rw[<-jJ];clear jJ
 go_upto_region 2 with(go_at_call 131;refine hK.mono ?_;rintro v w2 ⟨rfl,kJ⟩)
 have Hq:Hid (aL w1 w2):=kJ;clear kJ hK
 go_loopw [10,11,12,14] (fun _ _ _ i wr=> ∃k:Nat,k<=J/\i=I V (k:Int)/\Hid (aL w1 wr)) (fun _ _ _ i _=>4-(intOf i).toNat)
 case atStart=>exact⟨0,Nat.zero_le _,rfl,Hq.out⟩
 case round=>
  obtain⟨k,hk,rfl,HG⟩:=hrel;obtain⟨b0,b1,b2,b3⟩:=HB.out wr HG.out;by_cases hkJ:k<J
  ·have hx:=HX.out k (by omega);have hq:=HL.out k hkJ;have K_:((TK k).1==q)=false:=beq_eq_false_iff_ne.2 hq;have bT:(k:Int)<4:=by omega
   have hbo:=Py k;generalize TK k=t at*;obtain⟨t1,t2,t3⟩:=t;simp only at hx hq K_ hbo;obtain⟨c0,-⟩:=HB.out _ (HG.out.alloc (C #[I .u8 t1,.func (.func t2) #[] #[],.func (.func t3) #[] #[]] 222));clear hq b0 b1 b2 b3
   go_wp2_with fail
   go_roundw
   case rel=>exact⟨k+1,by omega,by go_num,(show aL w1 _ from HG.out.alloc _)⟩
   case measure=>simp[intOf];omega
  ·have z_:k=J:=by omega
   subst z_;have hx:=HX.out k hJ;rw[hT]at hx;simp only at hx;have bT:(k:Int)<4:=by omega
   have gA:=HG.out.alloc (C #[I .u8 q,.func (.func fm) #[] #[],.func (.func fd) #[] #[]] 222);obtain⟨c0,c1,c2,c3⟩:=HB.out _ gA;have Xo:=heap_alloc_new wr (C #[I .u8 q,.func (.func fm) #[] #[],.func (.func fd) #[] #[]] 222);have k0:(wr.alloc (C #[I .u8 q,.func (.func fm) #[] #[],.func (.func fd) #[] #[]] 222)).cell? ⟨wr.heap.size,1,O⟩=M (.func (.func fm) #[] #[]):=by simp only[World.cell?,Xo];rfl
   have hmc:=HM.out _ (G1.out.then gA);clear b0 b1 b2 b3
   go_upto_region 4 with fail
   have GA:Hid (aL w1 (wr.alloc (C #[I .u8 q,.func (.func fm) #[] #[],.func (.func fd) #[] #[]] 222))):=gA;clear gA HG;have k9:(wr.alloc (C #[I .u8 q,.func (.func fm) #[] #[],.func (.func fd) #[] #[]] 222)).cell? ⟨wr.heap.size,0,O⟩=M (I .u8 q):=by simp only[World.cell?,Xo];rfl
   generalize (wr.alloc (C #[I .u8 q,.func (.func fm) #[] #[],.func (.func fd) #[] #[]] 222))=wa at*
   go_wp2_with (first|(go_at_fn fm;refine hmc.mono ?_;rintro v w5 ⟨rfl,fQ⟩;have hwc:=HW.out w5 (G1.out.then (GA.out.then fQ)))|(go_at_fn g;refine hwc.mono ?_;rintro v w6 ⟨t,x,rfl,hp6⟩))
   go_ret;exact⟨w5,t,x,rfl,G1.out.then (GA.out.then fQ),hp6⟩
theorem Zm (hL:∀k,k<4->(TK k).1≠q):
 H K 85 #[U (M ⟨dp,0,O⟩),iD q a b c,I V most,.func (.func g) #[] lb] w fun e w'=> ∃v,e=G v/\NE w' v q 1/\aL w w':=by
 have HL:Hid (∀k,k<4->(TK k).1≠q):=hL;clear hL;obtain⟨w1,jJ⟩:∃w1,w1=w.alloc (C #[I .u8 q,I V a,I V b,I V c] 99):=⟨_,rfl⟩;have fC:w1.heap[w.heap.size]?=M (C #[I .u8 q,I V a,I V b,I V c] 99 (0,0)):=by rw[jJ];exact heap_alloc_new w _
 have G1:Hid (aL w w1):=by show aL _ _;rw[jJ];exact(aL.refl w).alloc _
 have HB:Hid (∀W,aL w1 W->W.cell? ⟨w.heap.size,0,O⟩=M (I .u8 q)/\W.cell? ⟨w.heap.size,1,O⟩=M (I V a)/\W.cell? ⟨w.heap.size,2,O⟩=M (I V b)/\W.cell? ⟨w.heap.size,3,O⟩=M (I V c)):=fun W hW=>by
  have:=(hW.block _ (aM fC)).trans fC;simp[World.cell?,this]
 have hK:=Jh (w:=w1);have HX:Hid (∀(k:Nat),k<4->∀w,(Instr.index 223 wX (I V (k:Int))).run K w= .ok (.agg #[I .u8 (TK k).1,.func (.func (TK k).2.1) #[] #[],.func (.func (TK k).2.2) #[] #[]]) w):=fun k hk w=>Ji w hk
 generalize wX=kv at*;unfold iD at*;clear fC;go_enter Tryz.func85,Tryz.ntmps85
 go_upto_region 1 with fail
 rw[<-jJ];clear jJ
 go_upto_region 2 with(go_at_call 131;refine hK.mono ?_;rintro v w2 ⟨rfl,kJ⟩)
 have Hq:Hid (aL w1 w2):=kJ;clear kJ hK
 go_loopw [10,11,12,14] (fun _ _ _ i wr=> ∃k:Nat,k<=4/\i=I V (k:Int)/\Hid (aL w1 wr)) (fun _ _ _ i _=>4-(intOf i).toNat)
 case atStart=>exact⟨0,Nat.zero_le _,rfl,Hq.out⟩
 case round=>
  obtain⟨k,hk,rfl,HG⟩:=hrel;obtain⟨b0,b1,b2,b3⟩:=HB.out wr HG.out;by_cases hkJ:k<4
  ·have hx:=HX.out k (by omega);have hq:=HL.out k hkJ;have K_:((TK k).1==q)=false:=beq_eq_false_iff_ne.2 hq;have bT:(k:Int)<4:=by omega
   have hbo:=Py k;generalize TK k=t at*;obtain⟨t1,t2,t3⟩:=t;simp only at hx hq K_ hbo;obtain⟨c0,-⟩:=HB.out _ (HG.out.alloc (C #[I .u8 t1,.func (.func t2) #[] #[],.func (.func t3) #[] #[]] 222));clear hq b0 b1 b2 b3
   go_wp2_with fail
   go_roundw
   case rel=>exact⟨k+1,by omega,by go_num,(show aL w1 _ from HG.out.alloc _)⟩
   case measure=>simp[intOf];omega
  ·have bT:¬(k:Int)<4:=by omega
   go_wp2_with fail
   go_ret;exact⟨_,rfl,⟨_,rfl,heap_alloc_new wr _⟩,(G1.out.then HG.out).alloc _⟩
theorem Dx {J fm fd:Nat}{P R:F->F->Prop}(hJ:J<4)(hT:TK J=(q,fm,fd))(hL:∀k,k<J->(TK k).1≠q)(em:∀(args:Array Y) (w:F),(callFunc fm args).run K w= .ok (.enter fm args) w)(ed:∀(args:Array Y) (w:F),(callFunc fd args).run K w= .ok (.enter fd args) w)(eg:∀(args:Array Y) (w:F),(callFunc g args).run K w= .ok (.enter g args) w)(hm:∀W,aL w W->H K fm #[U (M ⟨dp,0,O⟩),iD q a b c,I V most] W fun e w'=>e=G (I V 0)/\aL W w')(hw:∀W,aL w W->H K g lb W fun e w'=>e=G .nilIface/\P W w')(hP:∀W W1,aL w W->P W W1->∀b,w.heap.size<=b->b<W.heap.size->W1.heap[b]?=W.heap[b]?)(hd:∀W W1,aL w W->P W W1->H K fd #[U (M ⟨dp,0,O⟩),iD q a b c] W1 fun e w'=>e=G (.tuple #[])/\R W1 w')(hR:∀W W1 W2,aL w W->P W W1->R W1 W2->W2.cell? ⟨dp,5,O⟩=M (I V dn)/\W2.frozen? ⟨dp,5,O⟩=false)(KL:0<=dn)(Ul:dn<=2000000000):
 H K 85 #[U (M ⟨dp,0,O⟩),iD q a b c,I V most,.func (.func g) #[] lb] w fun e w'=> ∃W W1 W2,e=G .nilIface/\aL w W/\P W W1/\R W1 W2/\w'=W2.setCell ⟨dp,5,O⟩ (I V (dn+1)):=by
 have HL:Hid (∀k,k<J->(TK k).1≠q):=hL;have HM:Hid (∀W,aL w W->H K fm #[U (M ⟨dp,0,O⟩),iD q a b c,I V most] W fun e w'=>e=G (I V 0)/\aL W w'):=hm;have HW:Hid (∀W,aL w W->H K g lb W fun e w'=>e=G .nilIface/\P W w'):=hw;have HD:Hid (∀W W1,aL w W->P W W1->H K fd #[U (M ⟨dp,0,O⟩),iD q a b c] W1 fun e w'=>e=G (.tuple #[])/\R W1 w'):=hd;have HP:Hid (∀W W1,aL w W->P W W1->∀b,w.heap.size<=b->b<W.heap.size->W1.heap[b]?=W.heap[b]?):=hP;have HR:Hid (∀W W1 W2,aL w W->P W W1->R W1 W2->W2.cell? ⟨dp,5,O⟩=M (I V dn)/\W2.frozen? ⟨dp,5,O⟩=false):=hR;have EP:wrap64 (dn+1)=dn+1:=by unfold wrap64;omega
 clear hm hL hw hd hP hR;obtain⟨w1,jJ⟩:∃w1,w1=w.alloc (C #[I .u8 q,I V a,I V b,I V c] 99):=⟨_,rfl⟩;have fC:w1.heap[w.heap.size]?=M (C #[I .u8 q,I V a,I V b,I V c] 99 (0,0)):=by rw[jJ];exact heap_alloc_new w _
 have G1:Hid (aL w w1):=by show aL _ _;rw[jJ];exact(aL.refl w).alloc _
 have HB:Hid (∀W,aL w1 W->W.cell? ⟨w.heap.size,0,O⟩=M (I .u8 q)/\W.cell? ⟨w.heap.size,1,O⟩=M (I V a)/\W.cell? ⟨w.heap.size,2,O⟩=M (I V b)/\W.cell? ⟨w.heap.size,3,O⟩=M (I V c)):=fun W hW=>by
  have:=(hW.block _ (aM fC)).trans fC;simp[World.cell?,this]
 have hK:=Jh (w:=w1);have HX:Hid (∀(k:Nat),k<4->∀w,(Instr.index 223 wX (I V (k:Int))).run K w= .ok (.agg #[I .u8 (TK k).1,.func (.func (TK k).2.1) #[] #[],.func (.func (TK k).2.2) #[] #[]]) w):=fun k hk w=>Ji w hk
 generalize wX=kv at*;unfold iD at*;have HZ:Hid (w.heap.size<w1.heap.size):=aM fC;clear fC;go_enter Tryz.func85,Tryz.ntmps85
 go_upto_region 1 with fail
 rw[<-jJ];clear jJ
 go_upto_region 2 with(go_at_call 131;refine hK.mono ?_;rintro v w2 ⟨rfl,kJ⟩)
 have Hq:Hid (aL w1 w2):=kJ;clear kJ hK
 go_loopw [10,11,12,14] (fun _ _ _ i wr=> ∃k:Nat,k<=J/\i=I V (k:Int)/\Hid (aL w1 wr)) (fun _ _ _ i _=>4-(intOf i).toNat)
 case atStart=>exact⟨0,Nat.zero_le _,rfl,Hq.out⟩
 case round=>
  obtain⟨k,hk,rfl,HG⟩:=hrel;obtain⟨b0,b1,b2,b3⟩:=HB.out wr HG.out;by_cases hkJ:k<J
  ·have hx:=HX.out k (by omega);have hq:=HL.out k hkJ;have K_:((TK k).1==q)=false:=beq_eq_false_iff_ne.2 hq;have bT:(k:Int)<4:=by omega
   have hbo:=Py k;generalize TK k=t at*;obtain⟨t1,t2,t3⟩:=t;simp only at hx hq K_ hbo;obtain⟨c0,-⟩:=HB.out _ (HG.out.alloc (C #[I .u8 t1,.func (.func t2) #[] #[],.func (.func t3) #[] #[]] 222));clear hq b0 b1 b2 b3
   go_wp2_with fail
   go_roundw
   case rel=>exact⟨k+1,by omega,by go_num,(show aL w1 _ from HG.out.alloc _)⟩
   case measure=>simp[intOf];omega
  ·have z_:k=J:=by omega
   subst z_;have hx:=HX.out k hJ;rw[hT]at hx;simp only at hx;have bT:(k:Int)<4:=by omega
   have gA:=HG.out.alloc (C #[I .u8 q,.func (.func fm) #[] #[],.func (.func fd) #[] #[]] 222);obtain⟨c0,c1,c2,c3⟩:=HB.out _ gA;have Xo:=heap_alloc_new wr (C #[I .u8 q,.func (.func fm) #[] #[],.func (.func fd) #[] #[]] 222);have k0:(wr.alloc (C #[I .u8 q,.func (.func fm) #[] #[],.func (.func fd) #[] #[]] 222)).cell? ⟨wr.heap.size,1,O⟩=M (.func (.func fm) #[] #[]):=by simp only[World.cell?,Xo];rfl
   have hmc:=HM.out _ (G1.out.then gA);clear b0 b1 b2 b3
   go_upto_region 4 with fail
   have GA:Hid (aL w1 (wr.alloc (C #[I .u8 q,.func (.func fm) #[] #[],.func (.func fd) #[] #[]] 222))):=gA;have HKB:Hid ((wr.alloc (C #[I .u8 q,.func (.func fm) #[] #[],.func (.func fd) #[] #[]] 222)).heap[wr.heap.size]?=M (C #[I .u8 q,.func (.func fm) #[] #[],.func (.func fd) #[] #[]] 222 (0,0))):=Xo;have jT:w1.heap.size<=wr.heap.size:=HG.out.le;have hsz1:w.heap.size<w1.heap.size:=HZ;have HSZ:Hid (w.heap.size<wr.heap.size):=(show _<_ by omega);clear gA HG;have k9:(wr.alloc (C #[I .u8 q,.func (.func fm) #[] #[],.func (.func fd) #[] #[]] 222)).cell? ⟨wr.heap.size,0,O⟩=M (I .u8 q):=by simp only[World.cell?,Xo];rfl
   generalize (wr.alloc (C #[I .u8 q,.func (.func fm) #[] #[],.func (.func fd) #[] #[]] 222))=wa at*;have GA0:=GA.out
   have HKK:Hid (∀W W1,aL wa W->P W W1->(W1.cell? ⟨w.heap.size,0,O⟩=M (I .u8 q)/\W1.cell? ⟨w.heap.size,1,O⟩=M (I V a)/\W1.cell? ⟨w.heap.size,2,O⟩=M (I V b)/\W1.cell? ⟨w.heap.size,3,O⟩=M (I V c))/\W1.cell? ⟨wr.heap.size,2,O⟩=M (.func (.func fd) #[] #[])):=fun W W1 hW hp=>by
    have gw:=GA0.then hW;have e1:=HP.out W W1 (G1.out.then gw) hp w.heap.size (Nat.le_refl _) (Nat.lt_of_lt_of_le HZ.out gw.le);have e2:=HP.out W W1 (G1.out.then gw) hp wr.heap.size (Nat.le_of_lt HSZ.out) (Nat.lt_of_lt_of_le (aM HKB.out) hW.le);have e3:=(hW.block _ (aM HKB.out)).trans HKB.out;obtain⟨x0,x1,x2,x3⟩:=HB.out W gw;simp only[World.cell?,e1,e2,e3]at x0 x1 x2 x3 ⊢;exact⟨⟨x0,x1,x2,x3⟩,rfl⟩
   go_wp2_with (first|(go_at_fn fm;refine hmc.mono ?_;rintro v w5 ⟨rfl,fQ⟩;have hwc:=HW.out w5 (G1.out.then (GA.out.then fQ)))|(go_at_fn g;refine hwc.mono ?_;rintro v w6 ⟨rfl,hp6⟩;obtain⟨⟨y0,y1,y2,y3⟩,y4⟩:=HKK.out w5 w6 fQ hp6;have hdc:=HD.out w5 w6 (G1.out.then (GA.out.then fQ)) hp6)|(go_at_fn fd;refine hdc.mono ?_;rintro v w7 ⟨rfl,NG⟩;obtain⟨z0,z1⟩:=HR.out w5 w6 w7 (G1.out.then (GA.out.then fQ)) hp6 NG))
   go_ret;exact⟨w5,w6,w7,rfl,G1.out.then (GA.out.then fQ),hp6,NG,rfl⟩
def oZ (m:dF)(q a b c most:Int):Int:=
 if q=73 then FX m a b c most else if q=68 then Zk m a b c else if q=85 then Vf m a b c else if q=82 then Vg m a b c else 1
theorem Sk:∀(args:Array Y) (w:F),(callFunc 201 args).run K w= .ok (.enter 201 args) w:=enters_of Tryz.func201 (by kernel_rfl) rfl
theorem Sl:∀(args:Array Y) (w:F),(callFunc 203 args).run K w= .ok (.enter 203 args) w:=enters_of Tryz.func203 (by kernel_rfl) rfl
theorem Md:∀(args:Array Y) (w:F),(callFunc 205 args).run K w= .ok (.enter 205 args) w:=enters_of Tryz.func205 (by kernel_rfl) rfl
theorem Me:∀(args:Array Y) (w:F),(callFunc 207 args).run K w= .ok (.enter 207 args) w:=enters_of Tryz.func207 (by kernel_rfl) rfl
theorem e_doins:∀(args:Array Y) (w:F),(callFunc 202 args).run K w= .ok (.enter 202 args) w:=enters_of Tryz.func202 (by kernel_rfl) rfl
theorem e_dodel:∀(args:Array Y) (w:F),(callFunc 204 args).run K w= .ok (.enter 204 args) w:=enters_of Tryz.func204 (by kernel_rfl) rfl
theorem pu:∀(args:Array Y) (w:F),(callFunc 206 args).run K w= .ok (.enter 206 args) w:=enters_of Tryz.func206 (by kernel_rfl) rfl
theorem pz:∀(args:Array Y) (w:F),(callFunc 208 args).run K w= .ok (.enter 208 args) w:=enters_of Tryz.func208 (by kernel_rfl) rfl
theorem Sm:(∀k,k<0->(TK k).1≠73)/\(∀k,k<1->(TK k).1≠68)/\(∀k,k<2->(TK k).1≠85)/\(∀k,k<3->(TK k).1≠82):=by
 refine⟨fun k h=>by omega,fun k h=>?_,fun k h=>?_,fun k h=>?_⟩
 ·have e:k=0:=by omega
  subst e;simp[TK]
 ·have e:k=0\/k=1:=by omega
  rcases e with rfl|rfl<;>simp[TK]
 ·have e:k=0\/k=1\/k=2:=by omega
  rcases e with rfl|rfl|rfl<;>simp[TK]
theorem tk_none (h1:q≠73)(h2:q≠68)(h3:q≠85)(h4:q≠82):∀k,k<4->(TK k).1≠q:=fun k hk=>by
 match k,hk with
 |0,_=>simp[TK];omega
 |1,_=>simp[TK];omega
 |2,_=>simp[TK];omega
 |3,_=>simp[TK];omega
theorem Sq (h:aV w dp tb depth m)(hg:eG m depth)(Ag: -9223372036854770000<=c)(hc:c<=9223372036854770000)(hb:b<=9223372036854775807)(hE:oZ m q a b c most≠0):
 H K 85 #[U (M ⟨dp,0,O⟩),iD q a b c,I V most,.func (.func g) #[] lb] w fun e w'=> ∃v,e=G v/\NE w' v q (oZ m q a b c most)/\aL w w':=by
 obtain⟨t0,t1,t2,t3⟩:=Sm;unfold oZ at hE ⊢;by_cases h1:q=73
 ·subst h1;rw[if_pos rfl]at hE ⊢;exact rW (J:=0) (by omega) rfl t0 Sk (fun W hW=>Ma (h.aN hW) hg hc Ag) hE
 ·rw[if_neg h1]at hE ⊢;by_cases h2:q=68
  ·subst h2;rw[if_pos rfl]at hE ⊢;exact rW (J:=1) (by omega) rfl t1 Sl (fun W hW=>Mc (h.aN hW) hg hb) hE
  ·rw[if_neg h2]at hE ⊢;by_cases h3:q=85
   ·subst h3;rw[if_pos rfl]at hE ⊢;exact rW (J:=2) (by omega) rfl t2 Md (fun W hW=>Gn (h.aN hW) hg.long hg.dz) hE
   ·rw[if_neg h3]at hE ⊢;by_cases h4:q=82
    ·subst h4;rw[if_pos rfl]at hE ⊢;exact rW (J:=3) (by omega) rfl t3 Me (fun W hW=>Gp (h.aN hW) hg.long hg.fu) hE
    ·rw[if_neg h4];exact Zm (tk_none h1 h2 h3 h4)
theorem Ns {P:F->Nat->Y->F->Prop}(h:aV w dp tb depth m)(hg:eG m depth)(Ag: -9223372036854770000<=c)(hc:c<=9223372036854770000)(hb:b<=9223372036854775807)(hE:oZ m q a b c most=0)(eg:∀(args:Array Y) (w:F),(callFunc g args).run K w= .ok (.enter g args) w)(hw:∀W,aL w W->H K g lb W fun e w'=> ∃t v,e=G (.iface t v)/\P W t v w'):
 H K 85 #[U (M ⟨dp,0,O⟩),iD q a b c,I V most,.func (.func g) #[] lb] w fun e w'=> ∃W t v,e=G (.iface t v)/\aL w W/\P W t v w':=by
 obtain⟨t0,t1,t2,t3⟩:=Sm;unfold oZ at hE;by_cases h1:q=73
 ·subst h1;rw[if_pos rfl]at hE;exact Ah (J:=0) (by omega) rfl t0 Sk eg (fun W hW=>by have:=Ma (q:=73) (a:=a) (b:=b) (most:=most) (h.aN hW) hg hc Ag;rwa[hE]at this) hw
 ·rw[if_neg h1]at hE;by_cases h2:q=68
  ·subst h2;rw[if_pos rfl]at hE;exact Ah (J:=1) (by omega) rfl t1 Sl eg (fun W hW=>by have:=Mc (q:=68) (a:=a) (c:=c) (most:=most) (h.aN hW) hg hb;rwa[hE]at this) hw
  ·rw[if_neg h2]at hE;by_cases h3:q=85
   ·subst h3;rw[if_pos rfl]at hE;exact Ah (J:=2) (by omega) rfl t2 Md eg (fun W hW=>by have:=Gn (q:=85) (a:=a) (b:=b) (c:=c) (most:=most) (h.aN hW) hg.long hg.dz;rwa[hE]at this) hw
   ·rw[if_neg h3]at hE;by_cases h4:q=82
    ·subst h4;rw[if_pos rfl]at hE;exact Ah (J:=3) (by omega) rfl t3 Me eg (fun W hW=>by have:=Gp (q:=82) (a:=a) (b:=b) (c:=c) (most:=most) (h.aN hW) hg.long hg.fu;rwa[hE]at this) hw
    ·rw[if_neg h4]at hE;omega
theorem NH {u r:List Ed}(h:aV w dp tb depth (l,u,r,dn,bf)):aV (w.setCell ⟨dp,5,O⟩ (I V (dn+1))) dp tb depth (l,u,r,dn+1,bf):=by
 obtain⟨u',r',hb,ht,hu,hr⟩:=h;exact aV.put hb ((pV hb).2.2.1 _) ht hu hr
theorem Pz (h:FX m a b c most=0):(0<=a/\a<=sz m.1/\1<=c/\c<=200/\sz m.1+c<=most/\b=m.2.2.2.2/\(bO m.1 a [(b,c)]).length<=4096)/\tQ m a b c most depth=((bO m.1 a [(b,c)],((a,[],[(b,c)])::m.2.1).take depth,[],m.2.2.2.1+1,m.2.2.2.2+c),0):=by
 unfold FX at h;split at h;· omega
 rename_i h1;split at h;· omega
 rename_i h2;split at h;· omega
 rename_i h3;split at h;· omega
 rename_i h4;split at h;· omega
 rename_i h5;simp only[qW,Bool.and_eq_false_imp,decide_eq_true_eq,decide_eq_false_iff_not]at h1
 have Kt:0<=a/\a<=sz m.1:=by
  by_cases ha:0<=a
  ·refine⟨ha,?_⟩;by_cases hb:a<=sz m.1
   ·exact hb
   ·exact absurd (fun _=>by omega) h1
  ·exact absurd (fun hh=>absurd hh ha) h1
 refine⟨⟨Kt.1,Kt.2,by omega,by omega,by omega,by simpa using h4,by omega⟩,?_⟩;unfold tQ;rw[if_neg (by omega),if_neg (by omega),if_neg (by omega),if_neg (by omega)]
theorem Qa (h:Zk m a b c=0):(0<=a/\1<=b/\a+b<=sz m.1/\c=0/\(bJ m.1 a b).1.length<=4096)/\zR m a b depth=(((bJ m.1 a b).1,((a,(bJ m.1 a b).2,[])::m.2.1).take depth,[],m.2.2.2.1+1,m.2.2.2.2),0):=by
 unfold Zk at h;split at h;· omega
 rename_i h1;split at h;· omega
 rename_i h2;split at h;· omega
 rename_i h3
 have hb:1<=b:=by
  by_cases hb:1<=b
  ·exact hb
  ·exact absurd (Or.inl (by omega)) h1
 have h1:¬qW m.1 a b=false:=fun hh=>h1 (Or.inr hh)
 simp only[qW,Bool.and_eq_false_imp,decide_eq_true_eq,decide_eq_false_iff_not]at h1
 have Kt:0<=a/\a<=sz m.1-b:=by
  by_cases ha:0<=a
  ·refine⟨ha,?_⟩;by_cases hb:a<=sz m.1-b
   ·exact hb
   ·exact absurd (fun _=>by omega) h1
  ·exact absurd (fun hh=>absurd hh ha) h1
 refine⟨⟨Kt.1,hb,by omega,by simpa using h2,by omega⟩,?_⟩;unfold zR;rw[if_neg (by omega),if_neg (by omega)]
theorem Jj (h:Vf m a b c=0):∃e rest,m.2.1=e::rest/\(a=0/\b=0/\c=0)/\(bO (bJ m.1 e.1 (sz e.2.2)).1 e.1 e.2.1).length<=4096/\uF m depth=((bO (bJ m.1 e.1 (sz e.2.2)).1 e.1 e.2.1,rest,(e::m.2.2.1).take depth,m.2.2.2.1+1,m.2.2.2.2),0):=by
 unfold Vf at h;cases hu:m.2.1 with
 |nil=>rw[hu]at h;simp at h
 |cons e rest=>
  rw[hu]at h;simp only at h;unfold Bh at h;split at h;· omega
  rename_i h1;split at h;· omega
  rename_i h2;simp only at h2;refine⟨e,rest,rfl,Decidable.not_not.1 h1,by omega,?_⟩;unfold uF;rw[hu];simp only;rw[if_neg h2]
theorem Jk (h:Vg m a b c=0):∃e rest,m.2.2.1=e::rest/\(a=0/\b=0/\c=0)/\(bO (bJ m.1 e.1 (sz e.2.1)).1 e.1 e.2.2).length<=4096/\uG m depth=((bO (bJ m.1 e.1 (sz e.2.1)).1 e.1 e.2.2,(e::m.2.1).take depth,rest,m.2.2.2.1+1,m.2.2.2.2),0):=by
 unfold Vg at h;cases hu:m.2.2.1 with
 |nil=>rw[hu]at h;simp at h
 |cons e rest=>
  rw[hu]at h;simp only at h;unfold Bh at h;split at h;· omega
  rename_i h1;split at h;· omega
  rename_i h2;refine⟨e,rest,rfl,Decidable.not_not.1 h1,by omega,?_⟩;unfold uG;rw[hu];simp only;rw[if_neg h2]
theorem xS {u r:List Ed}(h:aV w dp tb depth (l,u,r,dn,bf)):w.cell? ⟨dp,5,O⟩=M (I V dn)/\w.frozen? ⟨dp,5,O⟩=false:=by
 obtain⟨u,r,hb,-⟩:=h;obtain⟨-,-,-,-,-,h5,-,hf⟩:=cB hb;exact⟨h5,hf 5⟩
theorem Nt {P:F->F->Prop}(h:aV w dp tb depth m)(hg:eG m depth)(hd:depth<=100)(hD:m.2.2.2.1<=2000000000)(Ag: -9223372036854770000<=c)(hc:c<=9223372036854770000)(hb:b<=9223372036854775807)(hE:oZ m q a b c most=0)(eg:∀(args:Array Y) (w:F),(callFunc g args).run K w= .ok (.enter g args) w)(hw:∀W,aL w W->H K g lb W fun e w'=>e=G .nilIface/\P W w')(hP:∀W W1,aL w W->P W W1->aV W1 dp tb depth m/\∀b,w.heap.size<=b->b<W.heap.size->W1.heap[b]?=W.heap[b]?):
 H K 85 #[U (M ⟨dp,0,O⟩),iD q a b c,I V most,.func (.func g) #[] lb] w fun e w'=> ∃W W1,e=G .nilIface/\aL w W/\P W W1/\aV w' dp tb depth (eO m q a b c most depth).1/\Dk W1 w' (TX dp tb) (TX dp tb):=by
 obtain⟨t0,t1,t2,t3⟩:=Sm;have hbf0:=hg.Eh;have hbf1:=hg.Ei;have Kl:=hg.ME;have El:=hg.ax
 have key:∀(l:List (Int×Int)) (u r:List Ed) (bf:Int),∀(e:Ending) (w':F),(∃W W1 W2,e=G .nilIface/\aL w W/\P W W1/\(aV W2 dp tb depth (l,u,r,m.2.2.2.1,bf)/\Dk W1 W2 (TX dp tb) (TX dp tb))/\w'=W2.setCell ⟨dp,5,O⟩ (I V (m.2.2.2.1+1)))->∃W W1,e=G .nilIface/\aL w W/\P W W1/\aV w' dp tb depth (l,u,r,m.2.2.2.1+1,bf)/\Dk W1 w' (TX dp tb) (TX dp tb):=by
  rintro l u r bf e w' ⟨W,W1,W2,he,hW,hp,⟨ZV,hk⟩,rfl⟩;exact⟨W,W1,he,hW,hp,NH ZV,hk.set (Or.inl rfl)⟩
 unfold oZ at hE;unfold eO;by_cases h1:q=73
 ·subst h1;rw[if_pos rfl]at hE ⊢;obtain⟨⟨i1,i2,i3,i4,i5,i6,i7⟩,i8⟩:=Pz (depth:=depth) hE;rw[i8];refine(Dx (J:=0) (dn:=m.2.2.2.1) (R:=fun W1 W2=>aV W2 dp tb depth (bO m.1 a [(b,c)],((a,[],[(b,c)])::m.2.1).take depth,[],m.2.2.2.1,m.2.2.2.2+c)/\Dk W1 W2 (TX dp tb) (TX dp tb)) (by omega) rfl t0 Sk e_doins eg (fun W hW=>by have:=Ma (q:=73) (a:=a) (b:=b) (most:=most) (h.aN hW) hg hc Ag;rwa[hE]at this) hw (fun W W1 hW hp=>(hP W W1 hW hp).2) (fun W W1 hW hp=>oz (hP W W1 hW hp).1 hg hd i1 i2 (by omega) (by omega) i3 i4 i7) (fun W W1 W2 hW hp hr=>xS hr.1) hg.done hD).mono (key _ _ _ _)
 ·rw[if_neg h1]at hE ⊢;by_cases h2:q=68
  ·subst h2;rw[if_pos rfl]at hE ⊢;obtain⟨⟨i1,i2,i3,i4,i5⟩,i8⟩:=Qa (depth:=depth) hE;rw[i8];refine(Dx (J:=1) (dn:=m.2.2.2.1) (R:=fun W1 W2=>aV W2 dp tb depth ((bJ m.1 a b).1,((a,(bJ m.1 a b).2,[])::m.2.1).take depth,[],m.2.2.2.1,m.2.2.2.2)/\Dk W1 W2 (TX dp tb) (TX dp tb)) (by omega) rfl t1 Sl e_dodel eg (fun W hW=>by have:=Mc (q:=68) (a:=a) (c:=c) (most:=most) (h.aN hW) hg hb;rwa[hE]at this) hw (fun W W1 hW hp=>(hP W W1 hW hp).2) (fun W W1 hW hp=>pq (hP W W1 hW hp).1 hg hd i1 i2 i3 i5) (fun W W1 W2 hW hp hr=>xS hr.1) hg.done hD).mono (key _ _ _ _)
  ·rw[if_neg h2]at hE ⊢;by_cases h3:q=85
   ·subst h3;rw[if_pos rfl]at hE ⊢;obtain⟨e,rest,i1,i2,i3,i8⟩:=Jj (depth:=depth) hE;rw[i8];obtain⟨n1,n2,n3⟩:=hg.jA e (by rw[i1];simp);refine(Dx (J:=2) (dn:=m.2.2.2.1) (R:=fun W1 W2=>aV W2 dp tb depth (bO (bJ m.1 e.1 (sz e.2.2)).1 e.1 e.2.1,rest,(e::m.2.2.1).take depth,m.2.2.2.1,m.2.2.2.2)/\Dk W1 W2 (TX dp tb) (TX dp tb)) (by omega) rfl t2 Md pu eg (fun W hW=>by have:=Gn (q:=85) (a:=a) (b:=b) (c:=c) (most:=most) (h.aN hW) hg.long hg.dz;rwa[hE]at this) hw (fun W W1 hW hp=>(hP W W1 hW hp).2) (fun W W1 hW hp=>VI (hP W W1 hW hp).1 i1 hd (by omega) hg.long (hg.dz e rest i1) (fun x hx=>by have:=n2 x hx;omega) i3) (fun W W1 W2 hW hp hr=>xS hr.1) hg.done hD).mono (key _ _ _ _)
   ·rw[if_neg h3]at hE ⊢;by_cases h4:q=82
    ·subst h4;rw[if_pos rfl]at hE;obtain⟨e,rest,i1,i2,i3,i8⟩:=Jk (depth:=depth) hE;rw[i8];obtain⟨n1,n2,n3⟩:=hg.jW e (by rw[i1];simp);refine(Dx (J:=3) (dn:=m.2.2.2.1) (R:=fun W1 W2=>aV W2 dp tb depth (bO (bJ m.1 e.1 (sz e.2.1)).1 e.1 e.2.2,(e::m.2.1).take depth,rest,m.2.2.2.1,m.2.2.2.2)/\Dk W1 W2 (TX dp tb) (TX dp tb)) (by omega) rfl t3 Me pz eg (fun W hW=>by have:=Gp (q:=82) (a:=a) (b:=b) (c:=c) (most:=most) (h.aN hW) hg.long hg.fu;rwa[hE]at this) hw (fun W W1 hW hp=>(hP W W1 hW hp).2) (fun W W1 hW hp=>VJ (hP W W1 hW hp).1 i1 hd (by omega) hg.long (hg.fu e rest i1) (fun x hx=>by have:=n3 x hx;omega) i3) (fun W W1 W2 hW hp hr=>xS hr.1) hg.done hD).mono (key _ _ _ _)
    ·rw[if_neg h4]at hE;omega
def stV (dn bf:Int)(t u r:bS):Y:= .agg #[I V dn,I V bf,t.v,u.v,r.v]
theorem RL {w1 w2:F}{X X':Nat->Prop}(h:aL w w1)(hk:Dk w1 w2 X X')(hx:∀b,X b->w.heap.size<=b):aL w w2:=by
 obtain⟨⟨a1,a2⟩,⟨b1,b2,b3⟩,-⟩:=hk;exact⟨b1.trans h.os,b2.trans h.tape,b3.trans h.output,Nat.le_trans h.size a1,fun b hb=>(a2 b (Nat.lt_of_lt_of_le hb h.size) (fun hX=>by have:=hx b hX;omega)).trans (h.block b hb)⟩
theorem put_nil (l:List (Int×Int)):bO (bJ [] 0 (sz [])).1 0 l=l:=by
 simp[bO,bJ,sz,dS,bU]
theorem Sr {ul rl:List Ed}{t u r:bS}(ht:bL w t l)(hu:dY w u ul)(hr:dY w r rl)(Kl:ul.length<=100000)(El:rl.length<=100000)(hd:depth<=100)(kI:fG l)(hl:l.length<=4096)(h9:∀q∈l,q.1<=1000000000):
 H K 122 #[I V (depth:Int),stV dn bf t u r] w fun e w'=> ∃dp tb,e=G (U (M ⟨dp,0,O⟩))/\aV w' dp tb depth (l,ul.take depth,rl.take depth,dn,bf)/\w.heap.size<=dp/\w.heap.size<=tb/\aL w w':=by
 have HN:Hid (∀W,H K 62 #[] W fun e w'=> ∃tb,e=G (U (M ⟨tb,0,O⟩))/\dD w' tb []/\W.heap.size<=tb/\aL W w'):=fun W=>by
  refine(PX W).mono ?_;rintro e w' ⟨rfl,rfl⟩;exact⟨_,rfl,DF W,Nat.le_refl _,(aL.refl W).alloc _⟩
 have HF:Hid (∀W x1 x2 x3 l0,dY W (x1,x2,x3) l0->l0.length<=100000->H K 179 #[Z x1 x2 x3,I V (depth:Int)] W fun e w'=> ∃y1 y2 y3,e=G (Z y1 y2 y3)/\dY W (y1,y2,y3) (l0.take depth)/\w'=W):=fun W x1 x2 x3 l0 hx XY=>by
  refine(Xm hx (by omega) (by omega)).mono ?_;rintro e w' ⟨⟨y1,y2,y3⟩,rfl,hy,rfl⟩;exact⟨y1,y2,y3,rfl,hy,rfl⟩
 have HA:Hid (∀W dp tb,aL w W->aV W dp tb depth ([],ul.take depth,rl.take depth,dn,bf)->w.heap.size<=dp->w.heap.size<=tb->H K 180 #[U (M ⟨dp,0,O⟩),.agg #[I V 0,Z O 0 0,t.v]] W fun e w'=> ∃g1 g2 g3,e=G (Z g1 g2 g3)/\aV w' dp tb depth (l,ul.take depth,rl.take depth,dn,bf)/\aL w w'):=fun W dp tb hW hD h1 h2=>by
  have hp:=put_nil l;refine(yX (p:=0) (x:=(O,0,0)) (g:=[]) hD (uO W) (ht.aN hW) (by intro q hq;simp at hq) (by simp) kI h9 (by omega) (by omega) (by simp[sz]) (by simp[sz]) (by simp only[hp];exact hl)).mono ?_;rintro e w' ⟨⟨g1,g2,g3⟩,rfl,-,I_,hk,-⟩;simp only[hp]at I_;exact⟨g1,g2,g3,rfl,I_,RL hW hk (by rintro b (rfl|rfl)<;>assumption)⟩
 have HD:Hid (∀W dp tb u1 u2 u3 r1 r2 r3,W.heap[dp]?=M (C #[I V (depth:Int),U (M ⟨tb,0,O⟩),I V 0,Z u1 u2 u3,Z r1 r2 r3,I V dn,I V bf] 147 (0,0))->dD W tb []->dY W (u1,u2,u3) (ul.take depth)->dY W (r1,r2,r3) (rl.take depth)->aV W dp tb depth ([],ul.take depth,rl.take depth,dn,bf)):=fun W dp tb u1 u2 u3 r1 r2 r3 h1 h2 h3 h4=>⟨(u1,u2,u3),(r1,r2,r3),h1,h2,h3,h4⟩
 obtain⟨t1,t2,t3⟩:=t;obtain⟨u1,u2,u3⟩:=u;obtain⟨r1,r2,r3⟩:=r;unfold stV;simp only[bS.v]at*;have HU:Hid (∀W,aL w W->dY W (u1,u2,u3) ul):=fun W hW=>hu.aN hW
 have HR:Hid (∀W,aL w W->dY W (r1,r2,r3) rl):=fun W hW=>hr.aN hW
 clear ht hu hr;obtain⟨w1,jJ⟩:∃w1,w1=w.alloc (C #[I V dn,I V bf,Z t1 t2 t3,Z u1 u2 u3,Z r1 r2 r3] 105):=⟨_,rfl⟩;have fC:w1.heap[w.heap.size]?=M (C #[I V dn,I V bf,Z t1 t2 t3,Z u1 u2 u3,Z r1 r2 r3] 105 (0,0)):=by rw[jJ];exact heap_alloc_new w _
 have G1:Hid (aL w w1):=by show aL _ _;rw[jJ];exact(aL.refl w).alloc _
 have HS:Hid (∀W,aL w1 W->W.cell? ⟨w.heap.size,0,O⟩=M (I V dn)/\W.cell? ⟨w.heap.size,1,O⟩=M (I V bf)/\W.cell? ⟨w.heap.size,2,O⟩=M (Z t1 t2 t3)/\W.cell? ⟨w.heap.size,3,O⟩=M (Z u1 u2 u3)/\W.cell? ⟨w.heap.size,4,O⟩=M (Z r1 r2 r3)/\aL w1 W):=fun W hW=>by
  have pX:=(hW.block _ (aM fC)).trans fC;exact⟨by simp[World.cell?,pX],by simp[World.cell?,pX],by simp[World.cell?,pX],by simp[World.cell?,pX],by simp[World.cell?,pX],hW⟩
 clear fC;go_enter Tryz.func122,Tryz.ntmps122
 go_upto_region 1 with fail
 rw[<-jJ];clear jJ;have ga:=aL.refl w1
 go_region_held3 (fun w'=>w'.cell? ⟨w.heap.size,0,O⟩=M (I V dn)/\w'.cell? ⟨w.heap.size,1,O⟩=M (I V bf)/\w'.cell? ⟨w.heap.size,2,O⟩=M (Z t1 t2 t3)/\w'.cell? ⟨w.heap.size,3,O⟩=M (Z u1 u2 u3)/\w'.cell? ⟨w.heap.size,4,O⟩=M (Z r1 r2 r3)/\aL w1 w')
  (first|(refine HS.out _ ?_;go_split_ands;with_reducible (first|assumption|(refine aL.alloc ?_ _;assumption)|(refine aL.drew ?_;assumption)|(refine aL.drew (aL.alloc ?_ _);assumption))))
  (first
   |(go_at_call 62;refine(HN.out _).mono ?_;rintro e w5 ⟨tb,rfl,ht5,hle5,pY⟩;have nI:aL w1 w5:=aL.more (by go_split_ands;assumption) pY;have HT5:Hid (dD w5 tb []/\w1.heap.size<=tb):=⟨ht5,hle5⟩;clear ht5 hle5)
   |(go_at_call 179;(with_reducible (refine(HF.out _ u1 u2 u3 ul (HU.out _ (G1.out.then (by go_split_ands;assumption))) Kl).mono ?_));rintro e w5 ⟨y1,y2,y3,rfl,hy5,rfl⟩;have HY:Hid (dY w5 (y1,y2,y3) (ul.take depth)):=hy5;clear hy5)
   |(go_at_call 179;(with_reducible (refine(HF.out _ r1 r2 r3 rl (HR.out _ (G1.out.then (by go_split_ands;assumption))) El).mono ?_));rintro e w5 ⟨z1,z2,z3,rfl,hz5,rfl⟩;have HZ:Hid (dY w5 (z1,z2,z3) (rl.take depth)):=hz5;clear hz5))
 rename_i hh;obtain⟨-,-,c2,-,-,uI⟩:=hh;have yG:=heap_alloc_new w5 (C #[I V (depth:Int),U (M ⟨tb,0,O⟩),I V 0,Z y1 y2 y3,Z z1 z2 z3,I V dn,I V bf] 147);have ha6:=(aL.refl w5).alloc (C #[I V (depth:Int),U (M ⟨tb,0,O⟩),I V 0,Z y1 y2 y3,Z z1 z2 z3,I V dn,I V bf] 147);have tK:=G1.out.le;have Na:=nI.le;have hD6:=HD.out _ _ tb y1 y2 y3 z1 z2 z3 yG (HT5.out.1.below ha6) (HY.out.aN ha6) (HZ.out.aN ha6);have hc:=HA.out _ _ tb (G1.out.then uI) hD6 (by omega) (by have:=HT5.out.2;omega);have HLE:Hid (w.heap.size<=w5.heap.size/\w.heap.size<=tb):=⟨by omega,by have:=HT5.out.2;omega⟩;clear hD6 yG ha6 tK Na uI HT5 HY HZ;generalize (w5.alloc (C #[I V (depth:Int),U (M ⟨tb,0,O⟩),I V 0,Z y1 y2 y3,Z z1 z2 z3,I V dn,I V bf] 147))=w6 at*
 go_wp2_with (go_at_call 180;refine hc.mono ?_;rintro e w7 ⟨g1,g2,g3,rfl,Ja,oO⟩)
 go_ret;exact⟨_,tb,rfl,Ja,HLE.out.1,HLE.out.2,oO⟩
end Go.Proofs.YtfplgfodoiiobaaGreatDoor
