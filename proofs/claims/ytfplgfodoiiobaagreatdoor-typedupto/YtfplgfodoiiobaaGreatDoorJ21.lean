/- DrJ, DrK, DrL (joined). -/
import Derived.Laws.EntriesVeiled
import Derived.Test.YtfplgfodoiiobaaGreatDoorJ20
open Option renaming none→O,some→M
open Go.Value renaming int→I,pointer→U
open Go.IntKind renaming i64→V
open Go.Obj renaming cells→C
open Go.Ending renaming returned→G
open Go renaming World→F,Value→Y,Calls→H
open Go.Proofs.Tryz renaming prog→K
namespace Go.Proofs.YtfplgfodoiiobaaGreatDoor
set_option maxHeartbeats 4000000
set_option maxRecDepth 100000
open Go.RowKit
variable {a b c q most dn:Int}{w:F}{dp depth g tb J fm fd:Nat}{lb:Array Y}{m:bR}
def TK:Nat->Int×Nat×Nat
 |0=>(73,201,202)
 |1=>(68,203,204)
 |2=>(85,205,206)
 |_=>(82,207,208)
def sK:Y:= .agg #[I .u8 73,.func (.func 201) #[] #[],.func (.func 202) #[] #[],I .u8 68,.func (.func 203) #[] #[],.func (.func 204) #[] #[],I .u8 85,.func (.func 205) #[] #[],.func (.func 206) #[] #[],I .u8 82,.func (.func 207) #[] #[],.func (.func 208) #[] #[]]
theorem Eo:H K 131 #[] w fun e w'=>e=G sK/\aK w w':=by
 unfold sK;go_enter Tryz.func131,Tryz.ntmps131
 go_wp2_with fail
 refine bodyPost_ret (v:= .agg #[I .u8 73,.func (.func 201) #[] #[],.func (.func 202) #[] #[],I .u8 68,.func (.func 203) #[] #[],.func (.func 204) #[] #[],I .u8 85,.func (.func 205) #[] #[],.func (.func 206) #[] #[],I .u8 82,.func (.func 207) #[] #[],.func (.func 208) #[] #[]]) (by simp[results,Tryz.results131,go_sem]) rfl ?_;exact⟨rfl,(aK.refl w).alloc _⟩
theorem Ep (w:F){k:Nat}(hk:k<4):(Instr.index 223 sK (I V (k:Int))).run K w= .ok (.agg #[I .u8 (TK k).1,.func (.func (TK k).2.1) #[] #[],.func (.func (TK k).2.2) #[] #[]]) w:=by
 have h:k=0\/k=1\/k=2\/k=3:=by omega
 rcases h with rfl|rfl|rfl|rfl<;>rfl
def IB (w:F)(v:Y)(q e:Int):Prop:=∃b,v= .iface 213 (U (M ⟨b,0,O⟩))/\w.heap[b]?=M (C #[I .u8 q,I V e] 217 (0,0))
theorem Ko (k:Nat):0<=(TK k).1/\(TK k).1<256:=by
 match k with
 |0=>simp[TK]
 |1=>simp[TK]
 |2=>simp[TK]
 |k+3=>simp[TK]
theorem pG {E:Int}(hJ:J<4)(hT:TK J=(q,fm,fd))(hL:∀k,k<J->(TK k).1≠q)(em:∀(args:Array Y) (w:F),(callFunc fm args).run K w= .ok (.enter fm args) w)(hm:∀W,aK w W->H K fm #[U (M ⟨dp,0,O⟩),fK q a b c,I V most] W fun e w'=>e=G (I V E)/\aK W w')(hE:E≠0):
 H K 85 #[U (M ⟨dp,0,O⟩),fK q a b c,I V most,.func (.func g) #[] lb] w fun e w'=> ∃v,e=G v/\IB w' v q E/\aK w w':=by
 have HL:Hid (∀k,k<J->(TK k).1≠q):=hL;have HM:Hid (∀W,aK w W->H K fm #[U (M ⟨dp,0,O⟩),fK q a b c,I V most] W fun e w'=>e=G (I V E)/\aK W w'):=hm;have hE':(E==0)=false:=beq_eq_false_iff_ne.2 hE;clear hm hL;obtain⟨w1,dU⟩:∃w1,w1=w.alloc (C #[I .u8 q,I V a,I V b,I V c] 99):=⟨_,rfl⟩;have bX:w1.heap[w.heap.size]?=M (C #[I .u8 q,I V a,I V b,I V c] 99 (0,0)):=by rw[dU];exact heap_alloc_new w _
 have G1:Hid (aK w w1):=by show aK _ _;rw[dU];exact(aK.refl w).alloc _
 have HB:Hid (∀W,aK w1 W->W.cell? ⟨w.heap.size,0,O⟩=M (I .u8 q)/\W.cell? ⟨w.heap.size,1,O⟩=M (I V a)/\W.cell? ⟨w.heap.size,2,O⟩=M (I V b)/\W.cell? ⟨w.heap.size,3,O⟩=M (I V c)):=fun W hW=>by
  have:=(hW.block _ (aL bX)).trans bX;simp[World.cell?,this]
 have hK:=Eo (w:=w1);have HX:Hid (∀(k:Nat),k<4->∀w,(Instr.index 223 sK (I V (k:Int))).run K w= .ok (.agg #[I .u8 (TK k).1,.func (.func (TK k).2.1) #[] #[],.func (.func (TK k).2.2) #[] #[]]) w):=fun k hk w=>Ep w hk
 generalize sK=kv at*;unfold fK at*;clear bX;go_enter Tryz.func85,Tryz.ntmps85
 go_upto_region 1 with fail
 rw[<-dU];clear dU
 go_upto_region 2 with(go_at_call 131;refine hK.mono ?_;rintro v w2 ⟨rfl,jA⟩)
 have Hl:Hid (aK w1 w2):=jA;clear jA hK
 go_loopw [10,11,12,14] (fun _ _ _ i wr=> ∃k:Nat,k<=J/\i=I V (k:Int)/\Hid (aK w1 wr)) (fun _ _ _ i _=>4-(intOf i).toNat)
 case atStart=>exact⟨0,Nat.zero_le _,rfl,Hl.out⟩
 case round=>
  obtain⟨k,hk,rfl,HG⟩:=hrel;obtain⟨b0,b1,b2,b3⟩:=HB.out wr HG.out;by_cases hkJ:k<J
  ·have hx:=HX.out k (by omega);have hq:=HL.out k hkJ;have hq':((TK k).1==q)=false:=beq_eq_false_iff_ne.2 hq;have bS:(k:Int)<4:=by omega
   have hbo:=Ko k;generalize TK k=t at*;obtain⟨t1,t2,t3⟩:=t;simp only at hx hq hq' hbo;obtain⟨c0,-⟩:=HB.out _ (HG.out.alloc (C #[I .u8 t1,.func (.func t2) #[] #[],.func (.func t3) #[] #[]] 222));clear hq b0 b1 b2 b3
   go_wp2_with fail
   go_roundw
   case rel=>exact⟨k+1,by omega,by go_num,(show aK w1 _ from HG.out.alloc _)⟩
   case measure=>simp[intOf];omega
  ·have qh:k=J:=by omega
   subst qh;have hx:=HX.out k hJ;rw[hT]at hx;simp only at hx;have bS:(k:Int)<4:=by omega
   have gA:=HG.out.alloc (C #[I .u8 q,.func (.func fm) #[] #[],.func (.func fd) #[] #[]] 222);obtain⟨c0,c1,c2,c3⟩:=HB.out _ gA;have Xo:=heap_alloc_new wr (C #[I .u8 q,.func (.func fm) #[] #[],.func (.func fd) #[] #[]] 222);have k0:(wr.alloc (C #[I .u8 q,.func (.func fm) #[] #[],.func (.func fd) #[] #[]] 222)).cell? ⟨wr.heap.size,1,O⟩=M (.func (.func fm) #[] #[]):=by simp only[World.cell?,Xo];rfl
   have hmc:=HM.out _ (G1.out.then gA);clear b0 b1 b2 b3
   go_upto_region 4 with fail
   have GA:Hid (aK w1 (wr.alloc (C #[I .u8 q,.func (.func fm) #[] #[],.func (.func fd) #[] #[]] 222))):=gA;clear gA HG;have k9:(wr.alloc (C #[I .u8 q,.func (.func fm) #[] #[],.func (.func fd) #[] #[]] 222)).cell? ⟨wr.heap.size,0,O⟩=M (I .u8 q):=by simp only[World.cell?,Xo];rfl
   generalize (wr.alloc (C #[I .u8 q,.func (.func fm) #[] #[],.func (.func fd) #[] #[]] 222))=wa at*
   go_wp2_with (first|(go_at_fn fm;refine hmc.mono ?_;rintro v w5 ⟨rfl,dY⟩;obtain⟨l0,-⟩:=HB.out w5 (GA.out.then dY)))
   go_ret;exact⟨_,rfl,⟨_,rfl,heap_alloc_new w5 _⟩,(G1.out.then (GA.out.then dY)).alloc _⟩
theorem wY {P:F->Nat->Y->F->Prop}(hJ:J<4)(hT:TK J=(q,fm,fd))(hL:∀k,k<J->(TK k).1≠q)(em:∀(args:Array Y) (w:F),(callFunc fm args).run K w= .ok (.enter fm args) w)(eg:∀(args:Array Y) (w:F),(callFunc g args).run K w= .ok (.enter g args) w)(hm:∀W,aK w W->H K fm #[U (M ⟨dp,0,O⟩),fK q a b c,I V most] W fun e w'=>e=G (I V 0)/\aK W w')(hw:∀W,aK w W->H K g lb W fun e w'=> ∃t v,e=G (.iface t v)/\P W t v w'):
 H K 85 #[U (M ⟨dp,0,O⟩),fK q a b c,I V most,.func (.func g) #[] lb] w fun e w'=> ∃W t v,e=G (.iface t v)/\aK w W/\P W t v w':=by
 have HL:Hid (∀k,k<J->(TK k).1≠q):=hL;have HM:Hid (∀W,aK w W->H K fm #[U (M ⟨dp,0,O⟩),fK q a b c,I V most] W fun e w'=>e=G (I V 0)/\aK W w'):=hm;have HW:Hid (∀W,aK w W->H K g lb W fun e w'=> ∃t v,e=G (.iface t v)/\P W t v w'):=hw;clear hm hL hw;obtain⟨w1,dU⟩:∃w1,w1=w.alloc (C #[I .u8 q,I V a,I V b,I V c] 99):=⟨_,rfl⟩;have bX:w1.heap[w.heap.size]?=M (C #[I .u8 q,I V a,I V b,I V c] 99 (0,0)):=by rw[dU];exact heap_alloc_new w _
 have G1:Hid (aK w w1):=by show aK _ _;rw[dU];exact(aK.refl w).alloc _
 have HB:Hid (∀W,aK w1 W->W.cell? ⟨w.heap.size,0,O⟩=M (I .u8 q)/\W.cell? ⟨w.heap.size,1,O⟩=M (I V a)/\W.cell? ⟨w.heap.size,2,O⟩=M (I V b)/\W.cell? ⟨w.heap.size,3,O⟩=M (I V c)):=fun W hW=>by
  have:=(hW.block _ (aL bX)).trans bX;simp[World.cell?,this]
 have hK:=Eo (w:=w1);have HX:Hid (∀(k:Nat),k<4->∀w,(Instr.index 223 sK (I V (k:Int))).run K w= .ok (.agg #[I .u8 (TK k).1,.func (.func (TK k).2.1) #[] #[],.func (.func (TK k).2.2) #[] #[]]) w):=fun k hk w=>Ep w hk
 generalize sK=kv at*;unfold fK at*;clear bX;go_enter Tryz.func85,Tryz.ntmps85
 go_upto_region 1 with fail
 rw[<-dU];clear dU
 go_upto_region 2 with(go_at_call 131;refine hK.mono ?_;rintro v w2 ⟨rfl,jA⟩)
 have Hl:Hid (aK w1 w2):=jA;clear jA hK
 go_loopw [10,11,12,14] (fun _ _ _ i wr=> ∃k:Nat,k<=J/\i=I V (k:Int)/\Hid (aK w1 wr)) (fun _ _ _ i _=>4-(intOf i).toNat)
 case atStart=>exact⟨0,Nat.zero_le _,rfl,Hl.out⟩
 case round=>
  obtain⟨k,hk,rfl,HG⟩:=hrel;obtain⟨b0,b1,b2,b3⟩:=HB.out wr HG.out;by_cases hkJ:k<J
  ·have hx:=HX.out k (by omega);have hq:=HL.out k hkJ;have hq':((TK k).1==q)=false:=beq_eq_false_iff_ne.2 hq;have bS:(k:Int)<4:=by omega
   have hbo:=Ko k;generalize TK k=t at*;obtain⟨t1,t2,t3⟩:=t;simp only at hx hq hq' hbo;obtain⟨c0,-⟩:=HB.out _ (HG.out.alloc (C #[I .u8 t1,.func (.func t2) #[] #[],.func (.func t3) #[] #[]] 222));clear hq b0 b1 b2 b3
   go_wp2_with fail
   go_roundw
   case rel=>exact⟨k+1,by omega,by go_num,(show aK w1 _ from HG.out.alloc _)⟩
   case measure=>simp[intOf];omega
  ·have qh:k=J:=by omega
   subst qh;have hx:=HX.out k hJ;rw[hT]at hx;simp only at hx;have bS:(k:Int)<4:=by omega
   have gA:=HG.out.alloc (C #[I .u8 q,.func (.func fm) #[] #[],.func (.func fd) #[] #[]] 222);obtain⟨c0,c1,c2,c3⟩:=HB.out _ gA;have Xo:=heap_alloc_new wr (C #[I .u8 q,.func (.func fm) #[] #[],.func (.func fd) #[] #[]] 222);have k0:(wr.alloc (C #[I .u8 q,.func (.func fm) #[] #[],.func (.func fd) #[] #[]] 222)).cell? ⟨wr.heap.size,1,O⟩=M (.func (.func fm) #[] #[]):=by simp only[World.cell?,Xo];rfl
   have hmc:=HM.out _ (G1.out.then gA);clear b0 b1 b2 b3
   go_upto_region 4 with fail
   have GA:Hid (aK w1 (wr.alloc (C #[I .u8 q,.func (.func fm) #[] #[],.func (.func fd) #[] #[]] 222))):=gA;clear gA HG;have k9:(wr.alloc (C #[I .u8 q,.func (.func fm) #[] #[],.func (.func fd) #[] #[]] 222)).cell? ⟨wr.heap.size,0,O⟩=M (I .u8 q):=by simp only[World.cell?,Xo];rfl
   generalize (wr.alloc (C #[I .u8 q,.func (.func fm) #[] #[],.func (.func fd) #[] #[]] 222))=wa at*
   go_wp2_with (first|(go_at_fn fm;refine hmc.mono ?_;rintro v w5 ⟨rfl,dY⟩;have hwc:=HW.out w5 (G1.out.then (GA.out.then dY)))|(go_at_fn g;refine hwc.mono ?_;rintro v w6 ⟨t,x,rfl,hp6⟩))
   go_ret;exact⟨w5,t,x,rfl,G1.out.then (GA.out.then dY),hp6⟩
theorem Ve (hL:∀k,k<4->(TK k).1≠q):
 H K 85 #[U (M ⟨dp,0,O⟩),fK q a b c,I V most,.func (.func g) #[] lb] w fun e w'=> ∃v,e=G v/\IB w' v q 1/\aK w w':=by
 have HL:Hid (∀k,k<4->(TK k).1≠q):=hL;clear hL;obtain⟨w1,dU⟩:∃w1,w1=w.alloc (C #[I .u8 q,I V a,I V b,I V c] 99):=⟨_,rfl⟩;have bX:w1.heap[w.heap.size]?=M (C #[I .u8 q,I V a,I V b,I V c] 99 (0,0)):=by rw[dU];exact heap_alloc_new w _
 have G1:Hid (aK w w1):=by show aK _ _;rw[dU];exact(aK.refl w).alloc _
 have HB:Hid (∀W,aK w1 W->W.cell? ⟨w.heap.size,0,O⟩=M (I .u8 q)/\W.cell? ⟨w.heap.size,1,O⟩=M (I V a)/\W.cell? ⟨w.heap.size,2,O⟩=M (I V b)/\W.cell? ⟨w.heap.size,3,O⟩=M (I V c)):=fun W hW=>by
  have:=(hW.block _ (aL bX)).trans bX;simp[World.cell?,this]
 have hK:=Eo (w:=w1);have HX:Hid (∀(k:Nat),k<4->∀w,(Instr.index 223 sK (I V (k:Int))).run K w= .ok (.agg #[I .u8 (TK k).1,.func (.func (TK k).2.1) #[] #[],.func (.func (TK k).2.2) #[] #[]]) w):=fun k hk w=>Ep w hk
 generalize sK=kv at*;unfold fK at*;clear bX;go_enter Tryz.func85,Tryz.ntmps85
 go_upto_region 1 with fail
 rw[<-dU];clear dU
 go_upto_region 2 with(go_at_call 131;refine hK.mono ?_;rintro v w2 ⟨rfl,jA⟩)
 have Hl:Hid (aK w1 w2):=jA;clear jA hK
 go_loopw [10,11,12,14] (fun _ _ _ i wr=> ∃k:Nat,k<=4/\i=I V (k:Int)/\Hid (aK w1 wr)) (fun _ _ _ i _=>4-(intOf i).toNat)
 case atStart=>exact⟨0,Nat.zero_le _,rfl,Hl.out⟩
 case round=>
  obtain⟨k,hk,rfl,HG⟩:=hrel;obtain⟨b0,b1,b2,b3⟩:=HB.out wr HG.out;by_cases hkJ:k<4
  ·have hx:=HX.out k (by omega);have hq:=HL.out k hkJ;have hq':((TK k).1==q)=false:=beq_eq_false_iff_ne.2 hq;have bS:(k:Int)<4:=by omega
   have hbo:=Ko k;generalize TK k=t at*;obtain⟨t1,t2,t3⟩:=t;simp only at hx hq hq' hbo;obtain⟨c0,-⟩:=HB.out _ (HG.out.alloc (C #[I .u8 t1,.func (.func t2) #[] #[],.func (.func t3) #[] #[]] 222));clear hq b0 b1 b2 b3
   go_wp2_with fail
   go_roundw
   case rel=>exact⟨k+1,by omega,by go_num,(show aK w1 _ from HG.out.alloc _)⟩
   case measure=>simp[intOf];omega
  ·have bS:¬(k:Int)<4:=by omega
   go_wp2_with fail
   go_ret;exact⟨_,rfl,⟨_,rfl,heap_alloc_new wr _⟩,(G1.out.then HG.out).alloc _⟩
theorem Ae {P R:F->F->Prop}(hJ:J<4)(hT:TK J=(q,fm,fd))(hL:∀k,k<J->(TK k).1≠q)(em:∀(args:Array Y) (w:F),(callFunc fm args).run K w= .ok (.enter fm args) w)(ed:∀(args:Array Y) (w:F),(callFunc fd args).run K w= .ok (.enter fd args) w)(eg:∀(args:Array Y) (w:F),(callFunc g args).run K w= .ok (.enter g args) w)(hm:∀W,aK w W->H K fm #[U (M ⟨dp,0,O⟩),fK q a b c,I V most] W fun e w'=>e=G (I V 0)/\aK W w')(hw:∀W,aK w W->H K g lb W fun e w'=>e=G .nilIface/\P W w')(hP:∀W W1,aK w W->P W W1->∀b,w.heap.size<=b->b<W.heap.size->W1.heap[b]?=W.heap[b]?)(hd:∀W W1,aK w W->P W W1->H K fd #[U (M ⟨dp,0,O⟩),fK q a b c] W1 fun e w'=>e=G (.tuple #[])/\R W1 w')(hR:∀W W1 W2,aK w W->P W W1->R W1 W2->W2.cell? ⟨dp,5,O⟩=M (I V dn)/\W2.frozen? ⟨dp,5,O⟩=false)(Uj:0<=dn)(xO:dn<=2000000000):
 H K 85 #[U (M ⟨dp,0,O⟩),fK q a b c,I V most,.func (.func g) #[] lb] w fun e w'=> ∃W W1 W2,e=G .nilIface/\aK w W/\P W W1/\R W1 W2/\w'=W2.setCell ⟨dp,5,O⟩ (I V (dn+1)):=by
 have HL:Hid (∀k,k<J->(TK k).1≠q):=hL;have HM:Hid (∀W,aK w W->H K fm #[U (M ⟨dp,0,O⟩),fK q a b c,I V most] W fun e w'=>e=G (I V 0)/\aK W w'):=hm;have HW:Hid (∀W,aK w W->H K g lb W fun e w'=>e=G .nilIface/\P W w'):=hw;have HD:Hid (∀W W1,aK w W->P W W1->H K fd #[U (M ⟨dp,0,O⟩),fK q a b c] W1 fun e w'=>e=G (.tuple #[])/\R W1 w'):=hd;have HP:Hid (∀W W1,aK w W->P W W1->∀b,w.heap.size<=b->b<W.heap.size->W1.heap[b]?=W.heap[b]?):=hP;have HR:Hid (∀W W1 W2,aK w W->P W W1->R W1 W2->W2.cell? ⟨dp,5,O⟩=M (I V dn)/\W2.frozen? ⟨dp,5,O⟩=false):=hR;have WR:wrap64 (dn+1)=dn+1:=by unfold wrap64;omega
 clear hm hL hw hd hP hR;obtain⟨w1,dU⟩:∃w1,w1=w.alloc (C #[I .u8 q,I V a,I V b,I V c] 99):=⟨_,rfl⟩;have bX:w1.heap[w.heap.size]?=M (C #[I .u8 q,I V a,I V b,I V c] 99 (0,0)):=by rw[dU];exact heap_alloc_new w _
 have G1:Hid (aK w w1):=by show aK _ _;rw[dU];exact(aK.refl w).alloc _
 have HB:Hid (∀W,aK w1 W->W.cell? ⟨w.heap.size,0,O⟩=M (I .u8 q)/\W.cell? ⟨w.heap.size,1,O⟩=M (I V a)/\W.cell? ⟨w.heap.size,2,O⟩=M (I V b)/\W.cell? ⟨w.heap.size,3,O⟩=M (I V c)):=fun W hW=>by
  have:=(hW.block _ (aL bX)).trans bX;simp[World.cell?,this]
 have hK:=Eo (w:=w1);have HX:Hid (∀(k:Nat),k<4->∀w,(Instr.index 223 sK (I V (k:Int))).run K w= .ok (.agg #[I .u8 (TK k).1,.func (.func (TK k).2.1) #[] #[],.func (.func (TK k).2.2) #[] #[]]) w):=fun k hk w=>Ep w hk
 generalize sK=kv at*;unfold fK at*;have HZ:Hid (w.heap.size<w1.heap.size):=aL bX;clear bX;go_enter Tryz.func85,Tryz.ntmps85
 go_upto_region 1 with fail
 rw[<-dU];clear dU
 go_upto_region 2 with(go_at_call 131;refine hK.mono ?_;rintro v w2 ⟨rfl,jA⟩)
 have Hl:Hid (aK w1 w2):=jA;clear jA hK
 go_loopw [10,11,12,14] (fun _ _ _ i wr=> ∃k:Nat,k<=J/\i=I V (k:Int)/\Hid (aK w1 wr)) (fun _ _ _ i _=>4-(intOf i).toNat)
 case atStart=>exact⟨0,Nat.zero_le _,rfl,Hl.out⟩
 case round=>
  obtain⟨k,hk,rfl,HG⟩:=hrel;obtain⟨b0,b1,b2,b3⟩:=HB.out wr HG.out;by_cases hkJ:k<J
  ·have hx:=HX.out k (by omega);have hq:=HL.out k hkJ;have hq':((TK k).1==q)=false:=beq_eq_false_iff_ne.2 hq;have bS:(k:Int)<4:=by omega
   have hbo:=Ko k;generalize TK k=t at*;obtain⟨t1,t2,t3⟩:=t;simp only at hx hq hq' hbo;obtain⟨c0,-⟩:=HB.out _ (HG.out.alloc (C #[I .u8 t1,.func (.func t2) #[] #[],.func (.func t3) #[] #[]] 222));clear hq b0 b1 b2 b3
   go_wp2_with fail
   go_roundw
   case rel=>exact⟨k+1,by omega,by go_num,(show aK w1 _ from HG.out.alloc _)⟩
   case measure=>simp[intOf];omega
  ·have qh:k=J:=by omega
   subst qh;have hx:=HX.out k hJ;rw[hT]at hx;simp only at hx;have bS:(k:Int)<4:=by omega
   have gA:=HG.out.alloc (C #[I .u8 q,.func (.func fm) #[] #[],.func (.func fd) #[] #[]] 222);obtain⟨c0,c1,c2,c3⟩:=HB.out _ gA;have Xo:=heap_alloc_new wr (C #[I .u8 q,.func (.func fm) #[] #[],.func (.func fd) #[] #[]] 222);have k0:(wr.alloc (C #[I .u8 q,.func (.func fm) #[] #[],.func (.func fd) #[] #[]] 222)).cell? ⟨wr.heap.size,1,O⟩=M (.func (.func fm) #[] #[]):=by simp only[World.cell?,Xo];rfl
   have hmc:=HM.out _ (G1.out.then gA);clear b0 b1 b2 b3
   go_upto_region 4 with fail
   have GA:Hid (aK w1 (wr.alloc (C #[I .u8 q,.func (.func fm) #[] #[],.func (.func fd) #[] #[]] 222))):=gA;have HKB:Hid ((wr.alloc (C #[I .u8 q,.func (.func fm) #[] #[],.func (.func fd) #[] #[]] 222)).heap[wr.heap.size]?=M (C #[I .u8 q,.func (.func fm) #[] #[],.func (.func fd) #[] #[]] 222 (0,0))):=Xo;have iU:w1.heap.size<=wr.heap.size:=HG.out.le;have hsz1:w.heap.size<w1.heap.size:=HZ;have HSZ:Hid (w.heap.size<wr.heap.size):=(show _<_ by omega);clear gA HG;have k9:(wr.alloc (C #[I .u8 q,.func (.func fm) #[] #[],.func (.func fd) #[] #[]] 222)).cell? ⟨wr.heap.size,0,O⟩=M (I .u8 q):=by simp only[World.cell?,Xo];rfl
   generalize (wr.alloc (C #[I .u8 q,.func (.func fm) #[] #[],.func (.func fd) #[] #[]] 222))=wa at*;have GA0:=GA.out
   have HKK:Hid (∀W W1,aK wa W->P W W1->(W1.cell? ⟨w.heap.size,0,O⟩=M (I .u8 q)/\W1.cell? ⟨w.heap.size,1,O⟩=M (I V a)/\W1.cell? ⟨w.heap.size,2,O⟩=M (I V b)/\W1.cell? ⟨w.heap.size,3,O⟩=M (I V c))/\W1.cell? ⟨wr.heap.size,2,O⟩=M (.func (.func fd) #[] #[])):=fun W W1 hW hp=>by
    have gw:=GA0.then hW;have e1:=HP.out W W1 (G1.out.then gw) hp w.heap.size (Nat.le_refl _) (Nat.lt_of_lt_of_le HZ.out gw.le);have e2:=HP.out W W1 (G1.out.then gw) hp wr.heap.size (Nat.le_of_lt HSZ.out) (Nat.lt_of_lt_of_le (aL HKB.out) hW.le);have e3:=(hW.block _ (aL HKB.out)).trans HKB.out;obtain⟨x0,x1,x2,x3⟩:=HB.out W gw;simp only[World.cell?,e1,e2,e3]at x0 x1 x2 x3 ⊢;exact⟨⟨x0,x1,x2,x3⟩,rfl⟩
   go_wp2_with (first|(go_at_fn fm;refine hmc.mono ?_;rintro v w5 ⟨rfl,dY⟩;have hwc:=HW.out w5 (G1.out.then (GA.out.then dY)))|(go_at_fn g;refine hwc.mono ?_;rintro v w6 ⟨rfl,hp6⟩;obtain⟨⟨y0,y1,y2,y3⟩,y4⟩:=HKK.out w5 w6 dY hp6;have hdc:=HD.out w5 w6 (G1.out.then (GA.out.then dY)) hp6)|(go_at_fn fd;refine hdc.mono ?_;rintro v w7 ⟨rfl,IC⟩;obtain⟨z0,z1⟩:=HR.out w5 w6 w7 (G1.out.then (GA.out.then dY)) hp6 IC))
   go_ret;exact⟨w5,w6,w7,rfl,G1.out.then (GA.out.then dY),hp6,IC,rfl⟩
def mJ (m:bR)(q a b c most:Int):Int:=
 if q=73 then AL m a b c most else if q=68 then Vb m a b c else if q=85 then Qu m a b c else if q=82 then Qv m a b c else 1
theorem Nk:∀(args:Array Y) (w:F),(callFunc 201 args).run K w= .ok (.enter 201 args) w:=enters_of Tryz.func201 (by kernel_rfl) rfl
theorem Nl:∀(args:Array Y) (w:F),(callFunc 203 args).run K w= .ok (.enter 203 args) w:=enters_of Tryz.func203 (by kernel_rfl) rfl
theorem Hu:∀(args:Array Y) (w:F),(callFunc 205 args).run K w= .ok (.enter 205 args) w:=enters_of Tryz.func205 (by kernel_rfl) rfl
theorem Hw:∀(args:Array Y) (w:F),(callFunc 207 args).run K w= .ok (.enter 207 args) w:=enters_of Tryz.func207 (by kernel_rfl) rfl
theorem uy:∀(args:Array Y) (w:F),(callFunc 202 args).run K w= .ok (.enter 202 args) w:=enters_of Tryz.func202 (by kernel_rfl) rfl
theorem uz:∀(args:Array Y) (w:F),(callFunc 204 args).run K w= .ok (.enter 204 args) w:=enters_of Tryz.func204 (by kernel_rfl) rfl
theorem WX:∀(args:Array Y) (w:F),(callFunc 206 args).run K w= .ok (.enter 206 args) w:=enters_of Tryz.func206 (by kernel_rfl) rfl
theorem WY:∀(args:Array Y) (w:F),(callFunc 208 args).run K w= .ok (.enter 208 args) w:=enters_of Tryz.func208 (by kernel_rfl) rfl
theorem Nn:(∀k,k<0->(TK k).1≠73)/\(∀k,k<1->(TK k).1≠68)/\(∀k,k<2->(TK k).1≠85)/\(∀k,k<3->(TK k).1≠82):=by
 refine⟨fun k h=>by omega,fun k h=>?_,fun k h=>?_,fun k h=>?_⟩
 ·have e:k=0:=by omega
  subst e;simp[TK]
 ·have e:k=0\/k=1:=by omega
  rcases e with rfl|rfl<;>simp[TK]
 ·have e:k=0\/k=1\/k=2:=by omega
  rcases e with rfl|rfl|rfl<;>simp[TK]
theorem vg (h1:q≠73)(h2:q≠68)(h3:q≠85)(h4:q≠82):∀k,k<4->(TK k).1≠q:=fun k hk=>by
 match k,hk with
 |0,_=>simp[TK];omega
 |1,_=>simp[TK];omega
 |2,_=>simp[TK];omega
 |3,_=>simp[TK];omega
theorem Np (h:aR w dp tb depth m)(hg:dJ m depth)(Kn: -9223372036854770000<=c)(hc:c<=9223372036854770000)(hb:b<=9223372036854775807)(hE:mJ m q a b c most≠0):
 H K 85 #[U (M ⟨dp,0,O⟩),fK q a b c,I V most,.func (.func g) #[] lb] w fun e w'=> ∃v,e=G v/\IB w' v q (mJ m q a b c most)/\aK w w':=by
 obtain⟨t0,t1,t2,t3⟩:=Nn;unfold mJ at hE ⊢;by_cases h1:q=73
 ·subst h1;rw[if_pos rfl]at hE ⊢;exact pG (J:=0) (by omega) rfl t0 Nk (fun W hW=>Hr (h.aM hW) hg hc Kn) hE
 ·rw[if_neg h1]at hE ⊢;by_cases h2:q=68
  ·subst h2;rw[if_pos rfl]at hE ⊢;exact pG (J:=1) (by omega) rfl t1 Nl (fun W hW=>Ht (h.aM hW) hg hb) hE
  ·rw[if_neg h2]at hE ⊢;by_cases h3:q=85
   ·subst h3;rw[if_pos rfl]at hE ⊢;exact pG (J:=2) (by omega) rfl t2 Hu (fun W hW=>Cc (h.aM hW) hg.long hg.ow) hE
   ·rw[if_neg h3]at hE ⊢;by_cases h4:q=82
    ·subst h4;rw[if_pos rfl]at hE ⊢;exact pG (J:=3) (by omega) rfl t3 Hw (fun W hW=>Ce (h.aM hW) hg.long hg.oz) hE
    ·rw[if_neg h4];exact Ve (vg h1 h2 h3 h4)
theorem Jk {P:F->Nat->Y->F->Prop}(h:aR w dp tb depth m)(hg:dJ m depth)(Kn: -9223372036854770000<=c)(hc:c<=9223372036854770000)(hb:b<=9223372036854775807)(hE:mJ m q a b c most=0)(eg:∀(args:Array Y) (w:F),(callFunc g args).run K w= .ok (.enter g args) w)(hw:∀W,aK w W->H K g lb W fun e w'=> ∃t v,e=G (.iface t v)/\P W t v w'):
 H K 85 #[U (M ⟨dp,0,O⟩),fK q a b c,I V most,.func (.func g) #[] lb] w fun e w'=> ∃W t v,e=G (.iface t v)/\aK w W/\P W t v w':=by
 obtain⟨t0,t1,t2,t3⟩:=Nn;unfold mJ at hE;by_cases h1:q=73
 ·subst h1;rw[if_pos rfl]at hE;exact wY (J:=0) (by omega) rfl t0 Nk eg (fun W hW=>by have:=Hr (q:=73) (a:=a) (b:=b) (most:=most) (h.aM hW) hg hc Kn;rwa[hE]at this) hw
 ·rw[if_neg h1]at hE;by_cases h2:q=68
  ·subst h2;rw[if_pos rfl]at hE;exact wY (J:=1) (by omega) rfl t1 Nl eg (fun W hW=>by have:=Ht (q:=68) (a:=a) (c:=c) (most:=most) (h.aM hW) hg hb;rwa[hE]at this) hw
  ·rw[if_neg h2]at hE;by_cases h3:q=85
   ·subst h3;rw[if_pos rfl]at hE;exact wY (J:=2) (by omega) rfl t2 Hu eg (fun W hW=>by have:=Cc (q:=85) (a:=a) (b:=b) (c:=c) (most:=most) (h.aM hW) hg.long hg.ow;rwa[hE]at this) hw
   ·rw[if_neg h3]at hE;by_cases h4:q=82
    ·subst h4;rw[if_pos rfl]at hE;exact wY (J:=3) (by omega) rfl t3 Hw eg (fun W hW=>by have:=Ce (q:=82) (a:=a) (b:=b) (c:=c) (most:=most) (h.aM hW) hg.long hg.oz;rwa[hE]at this) hw
    ·rw[if_neg h4]at hE;omega
theorem IE {l:List (Int×Int)}{u r:List Ed}{bf:Int}(h:aR w dp tb depth (l,u,r,dn,bf)):aR (w.setCell ⟨dp,5,O⟩ (I V (dn+1))) dp tb depth (l,u,r,dn+1,bf):=by
 obtain⟨u',r',hb,ht,hu,hr⟩:=h;exact aR.put hb ((nA hb).2.2.1 _) ht hu hr
theorem Kq (h:AL m a b c most=0):(0<=a/\a<=sz m.1/\1<=c/\c<=200/\sz m.1+c<=most/\b=m.2.2.2.2/\(bY m.1 a [(b,c)]).length<=4096)/\sW m a b c most depth=((bY m.1 a [(b,c)],((a,[],[(b,c)])::m.2.1).take depth,[],m.2.2.2.1+1,m.2.2.2.2+c),0):=by
 unfold AL at h;split at h;· omega
 rename_i h1;split at h;· omega
 rename_i h2;split at h;· omega
 rename_i h3;split at h;· omega
 rename_i h4;split at h;· omega
 rename_i h5;simp only[oH,Bool.and_eq_false_imp,decide_eq_true_eq,decide_eq_false_iff_not]at h1
 have Qm:0<=a/\a<=sz m.1:=by
  by_cases ha:0<=a
  ·refine⟨ha,?_⟩;by_cases hb:a<=sz m.1
   ·exact hb
   ·exact absurd (fun _=>by omega) h1
  ·exact absurd (fun hh=>absurd hh ha) h1
 refine⟨⟨Qm.1,Qm.2,by omega,by omega,by omega,by simpa using h4,by omega⟩,?_⟩;unfold sW;rw[if_neg (by omega),if_neg (by omega),if_neg (by omega),if_neg (by omega)]
theorem Kr (h:Vb m a b c=0):(0<=a/\1<=b/\a+b<=sz m.1/\c=0/\(bU m.1 a b).1.length<=4096)/\yA m a b depth=(((bU m.1 a b).1,((a,(bU m.1 a b).2,[])::m.2.1).take depth,[],m.2.2.2.1+1,m.2.2.2.2),0):=by
 unfold Vb at h;split at h;· omega
 rename_i h1;split at h;· omega
 rename_i h2;split at h;· omega
 rename_i h3
 have hb:1<=b:=by
  by_cases hb:1<=b
  ·exact hb
  ·exact absurd (Or.inl (by omega)) h1
 have h1:¬oH m.1 a b=false:=fun hh=>h1 (Or.inr hh)
 simp only[oH,Bool.and_eq_false_imp,decide_eq_true_eq,decide_eq_false_iff_not]at h1
 have Qm:0<=a/\a<=sz m.1-b:=by
  by_cases ha:0<=a
  ·refine⟨ha,?_⟩;by_cases hb:a<=sz m.1-b
   ·exact hb
   ·exact absurd (fun _=>by omega) h1
  ·exact absurd (fun hh=>absurd hh ha) h1
 refine⟨⟨Qm.1,hb,by omega,by simpa using h2,by omega⟩,?_⟩;unfold yA;rw[if_neg (by omega),if_neg (by omega)]
theorem Er (h:Qu m a b c=0):∃e rest,m.2.1=e::rest/\(a=0/\b=0/\c=0)/\(bY (bU m.1 e.1 (sz e.2.2)).1 e.1 e.2.1).length<=4096/\pK m depth=((bY (bU m.1 e.1 (sz e.2.2)).1 e.1 e.2.1,rest,(e::m.2.2.1).take depth,m.2.2.2.1+1,m.2.2.2.2),0):=by
 unfold Qu at h;cases hu:m.2.1 with
 |nil=>rw[hu]at h;simp at h
 |cons e rest=>
  rw[hu]at h;simp only at h;unfold yC at h;split at h;· omega
  rename_i h1;split at h;· omega
  rename_i h2;simp only at h2;refine⟨e,rest,rfl,Decidable.not_not.1 h1,by omega,?_⟩;unfold pK;rw[hu];simp only;rw[if_neg h2]
theorem Es (h:Qv m a b c=0):∃e rest,m.2.2.1=e::rest/\(a=0/\b=0/\c=0)/\(bY (bU m.1 e.1 (sz e.2.1)).1 e.1 e.2.2).length<=4096/\pO m depth=((bY (bU m.1 e.1 (sz e.2.1)).1 e.1 e.2.2,(e::m.2.1).take depth,rest,m.2.2.2.1+1,m.2.2.2.2),0):=by
 unfold Qv at h;cases hu:m.2.2.1 with
 |nil=>rw[hu]at h;simp at h
 |cons e rest=>
  rw[hu]at h;simp only at h;unfold yC at h;split at h;· omega
  rename_i h1;split at h;· omega
  rename_i h2;refine⟨e,rest,rfl,Decidable.not_not.1 h1,by omega,?_⟩;unfold pO;rw[hu];simp only;rw[if_neg h2]
theorem uD {l:List (Int×Int)}{u r:List Ed}{bf:Int}(h:aR w dp tb depth (l,u,r,dn,bf)):w.cell? ⟨dp,5,O⟩=M (I V dn)/\w.frozen? ⟨dp,5,O⟩=false:=by
 obtain⟨u,r,hb,-⟩:=h;obtain⟨-,-,-,-,-,h5,-,hf⟩:=bJ hb;exact⟨h5,hf 5⟩
theorem Jl {P:F->F->Prop}(h:aR w dp tb depth m)(hg:dJ m depth)(hd:depth<=100)(hD:m.2.2.2.1<=2000000000)(Kn: -9223372036854770000<=c)(hc:c<=9223372036854770000)(hb:b<=9223372036854775807)(hE:mJ m q a b c most=0)(eg:∀(args:Array Y) (w:F),(callFunc g args).run K w= .ok (.enter g args) w)(hw:∀W,aK w W->H K g lb W fun e w'=>e=G .nilIface/\P W w')(hP:∀W W1,aK w W->P W W1->aR W1 dp tb depth m/\∀b,w.heap.size<=b->b<W.heap.size->W1.heap[b]?=W.heap[b]?):
 H K 85 #[U (M ⟨dp,0,O⟩),fK q a b c,I V most,.func (.func g) #[] lb] w fun e w'=> ∃W W1,e=G .nilIface/\aK w W/\P W W1/\aR w' dp tb depth (gQ m q a b c most depth).1/\Dk W1 w' (TX dp tb) (TX dp tb):=by
 obtain⟨t0,t1,t2,t3⟩:=Nn;have hbf0:=hg.yT;have hbf1:=hg.tC;have Qw:=hg.Br;have SY:=hg.Gq
 have key:∀(l:List (Int×Int)) (u r:List Ed) (bf:Int),∀(e:Ending) (w':F),(∃W W1 W2,e=G .nilIface/\aK w W/\P W W1/\(aR W2 dp tb depth (l,u,r,m.2.2.2.1,bf)/\Dk W1 W2 (TX dp tb) (TX dp tb))/\w'=W2.setCell ⟨dp,5,O⟩ (I V (m.2.2.2.1+1)))->∃W W1,e=G .nilIface/\aK w W/\P W W1/\aR w' dp tb depth (l,u,r,m.2.2.2.1+1,bf)/\Dk W1 w' (TX dp tb) (TX dp tb):=by
  rintro l u r bf e w' ⟨W,W1,W2,he,hW,hp,⟨hd2,hk⟩,rfl⟩;exact⟨W,W1,he,hW,hp,IE hd2,hk.set (Or.inl rfl)⟩
 unfold mJ at hE;unfold gQ;by_cases h1:q=73
 ·subst h1;rw[if_pos rfl]at hE ⊢;obtain⟨⟨i1,i2,i3,i4,i5,i6,i7⟩,i8⟩:=Kq (depth:=depth) hE;rw[i8];refine(Ae (J:=0) (dn:=m.2.2.2.1) (R:=fun W1 W2=>aR W2 dp tb depth (bY m.1 a [(b,c)],((a,[],[(b,c)])::m.2.1).take depth,[],m.2.2.2.1,m.2.2.2.2+c)/\Dk W1 W2 (TX dp tb) (TX dp tb)) (by omega) rfl t0 Nk uy eg (fun W hW=>by have:=Hr (q:=73) (a:=a) (b:=b) (most:=most) (h.aM hW) hg hc Kn;rwa[hE]at this) hw (fun W W1 hW hp=>(hP W W1 hW hp).2) (fun W W1 hW hp=>WU (hP W W1 hW hp).1 hg hd i1 i2 (by omega) (by omega) i3 i4 i7) (fun W W1 W2 hW hp hr=>uD hr.1) hg.done hD).mono (key _ _ _ _)
 ·rw[if_neg h1]at hE ⊢;by_cases h2:q=68
  ·subst h2;rw[if_pos rfl]at hE ⊢;obtain⟨⟨i1,i2,i3,i4,i5⟩,i8⟩:=Kr (depth:=depth) hE;rw[i8];refine(Ae (J:=1) (dn:=m.2.2.2.1) (R:=fun W1 W2=>aR W2 dp tb depth ((bU m.1 a b).1,((a,(bU m.1 a b).2,[])::m.2.1).take depth,[],m.2.2.2.1,m.2.2.2.2)/\Dk W1 W2 (TX dp tb) (TX dp tb)) (by omega) rfl t1 Nl uz eg (fun W hW=>by have:=Ht (q:=68) (a:=a) (c:=c) (most:=most) (h.aM hW) hg hb;rwa[hE]at this) hw (fun W W1 hW hp=>(hP W W1 hW hp).2) (fun W W1 hW hp=>WV (hP W W1 hW hp).1 hg hd i1 i2 i3 i5) (fun W W1 W2 hW hp hr=>uD hr.1) hg.done hD).mono (key _ _ _ _)
  ·rw[if_neg h2]at hE ⊢;by_cases h3:q=85
   ·subst h3;rw[if_pos rfl]at hE ⊢;obtain⟨e,rest,i1,i2,i3,i8⟩:=Er (depth:=depth) hE;rw[i8];obtain⟨n1,n2,n3⟩:=hg.lN e (by rw[i1];simp);refine(Ae (J:=2) (dn:=m.2.2.2.1) (R:=fun W1 W2=>aR W2 dp tb depth (bY (bU m.1 e.1 (sz e.2.2)).1 e.1 e.2.1,rest,(e::m.2.2.1).take depth,m.2.2.2.1,m.2.2.2.2)/\Dk W1 W2 (TX dp tb) (TX dp tb)) (by omega) rfl t2 Hu WX eg (fun W hW=>by have:=Cc (q:=85) (a:=a) (b:=b) (c:=c) (most:=most) (h.aM hW) hg.long hg.ow;rwa[hE]at this) hw (fun W W1 hW hp=>(hP W W1 hW hp).2) (fun W W1 hW hp=>QC (hP W W1 hW hp).1 i1 hd (by omega) hg.long (hg.ow e rest i1) (fun x hx=>by have:=n2 x hx;omega) i3) (fun W W1 W2 hW hp hr=>uD hr.1) hg.done hD).mono (key _ _ _ _)
   ·rw[if_neg h3]at hE ⊢;by_cases h4:q=82
    ·subst h4;rw[if_pos rfl]at hE;obtain⟨e,rest,i1,i2,i3,i8⟩:=Es (depth:=depth) hE;rw[i8];obtain⟨n1,n2,n3⟩:=hg.nT e (by rw[i1];simp);refine(Ae (J:=3) (dn:=m.2.2.2.1) (R:=fun W1 W2=>aR W2 dp tb depth (bY (bU m.1 e.1 (sz e.2.1)).1 e.1 e.2.2,(e::m.2.1).take depth,rest,m.2.2.2.1,m.2.2.2.2)/\Dk W1 W2 (TX dp tb) (TX dp tb)) (by omega) rfl t3 Hw WY eg (fun W hW=>by have:=Ce (q:=82) (a:=a) (b:=b) (c:=c) (most:=most) (h.aM hW) hg.long hg.oz;rwa[hE]at this) hw (fun W W1 hW hp=>(hP W W1 hW hp).2) (fun W W1 hW hp=>QE (hP W W1 hW hp).1 i1 hd (by omega) hg.long (hg.oz e rest i1) (fun x hx=>by have:=n3 x hx;omega) i3) (fun W W1 W2 hW hp hr=>uD hr.1) hg.done hD).mono (key _ _ _ _)
    ·rw[if_neg h4]at hE;omega
end Go.Proofs.YtfplgfodoiiobaaGreatDoor
