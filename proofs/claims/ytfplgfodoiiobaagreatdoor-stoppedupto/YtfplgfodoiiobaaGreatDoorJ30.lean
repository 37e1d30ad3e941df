/- QlA, QlB, QlC, QlD, QlE, QlF, QlG, QlH (joined). -/
import Derived.LaidEql
import Derived.Stop.Asserts
import Derived.Test.YtfplgfodoiiobaaGreatDoorJ29
open Option renaming none→O,some→M
open Go.Value renaming int→I,slice→Z,pointer→U
open Go.IntKind renaming i64→V
open Go.Obj renaming cells→C
open Go.Ending renaming returned→G
open Go renaming World→F,Value→Y,Calls→H
open Go.Proofs.Tryz renaming prog→K
namespace Go.Proofs.YtfplgfodoiiobaaGreatDoor
set_option maxHeartbeats 1000000
set_option maxRecDepth 100000
open Go.RowKit
open Go.RowKit Go.Extern.Stop Go.Stop Go.Extern
variable {w:F}{qp db sp lp dp k tb dd d:Nat}{most depth pos n:Int}{v:Y}{ro:Bool}{ps:Nat->Addr}{m:bT}{o:Option Nat}
def uV (most depth:Int)(db:Nat)(o:Option Nat):Obj:=C #[I V most,I V depth,U (M ⟨db,0,O⟩),U (o.map fun p=>⟨p,0,O⟩)] 80 (0,0)
def rE (lp dp:Nat)(ro:Bool):Obj:=C #[U (M ⟨lp,0,O⟩),U (M ⟨dp,0,O⟩),.bool ro] 93 (0,0)
theorem dW (h:w.heap[qp]?=M (uV most depth db o)):
 w.cell? ⟨qp,0,O⟩=M (I V most)/\w.cell? ⟨qp,1,O⟩=M (I V depth)/\w.cell? ⟨qp,2,O⟩=M (U (M ⟨db,0,O⟩))/\w.cell? ⟨qp,3,O⟩=M (U (o.map fun p=>⟨p,0,O⟩))/\∀j,w.frozen? ⟨qp,j,O⟩=false:=by
 simp[World.cell?,World.frozen?,h,uV]
theorem iW (h:w.heap[sp]?=M (rE lp dp ro)):
 w.cell? ⟨sp,0,O⟩=M (U (M ⟨lp,0,O⟩))/\w.cell? ⟨sp,1,O⟩=M (U (M ⟨dp,0,O⟩))/\w.cell? ⟨sp,2,O⟩=M (.bool ro)/\∀j,w.frozen? ⟨sp,j,O⟩=false:=by
 simp[World.cell?,World.frozen?,h,rE]
theorem Bf (h:w.heap[qp]?=M (uV most depth db O)):H K 52 #[U (M ⟨qp,0,O⟩)] w fun e w'=>e=G (I V 3)/\w'=w:=by
 obtain⟨-,-,-,c3,-⟩:=dW h;simp only[Option.map_none]at c3;clear h;go_enter Tryz.func52,Tryz.ntmps52
 go_wp2_with fail
 go_ret;exact⟨rfl,rfl⟩
theorem wQ (h:w.heap[qp]?=M (uV most depth db (M sp)))(hs:w.heap[sp]?=M (rE lp dp ro)):H K 52 #[U (M ⟨qp,0,O⟩)] w fun e w'=>e=G (I V (if ro then 4 else 0))/\w'=w:=by
 obtain⟨-,-,-,c3,-⟩:=dW h;obtain⟨-,-,d2,-⟩:=iW hs;simp only[Option.map_some]at c3;clear h hs;cases ro with
 |true=>
  go_enter Tryz.func52,Tryz.ntmps52
  go_wp2_with fail
  go_ret;exact⟨rfl,rfl⟩
 |false=>
  go_enter Tryz.func52,Tryz.ntmps52
  go_wp2_with fail
  go_ret;exact⟨rfl,rfl⟩
theorem JI (h:w.heap[qp]?=M (uV most depth db O)):H K 32 #[U (M ⟨qp,0,O⟩)] w fun e w'=>e=G (I V 3)/\w'=w:=by
 obtain⟨-,-,-,c3,-⟩:=dW h;simp only[Option.map_none]at c3;clear h;go_enter Tryz.func32,Tryz.ntmps32
 go_wp2_with fail
 go_ret;exact⟨rfl,rfl⟩
theorem JJ (h:w.heap[qp]?=M (uV most depth db (M sp))):H K 32 #[U (M ⟨qp,0,O⟩)] w fun e w'=>e=G (I V 0)/\w'.heap[qp]?=M (uV most depth db O)/\Og w w' qp:=by
 obtain⟨-,-,-,c3,cf⟩:=dW h;have f3:=cf 3;have hh:(w.setCell ⟨qp,3,O⟩ (U O)).heap[qp]?=M (uV most depth db O):=by rw[heap_setCell_same w qp 3 _ _ _ h];rfl
 simp only[Option.map_some]at c3;clear h cf;go_enter Tryz.func32,Tryz.ntmps32
 go_wp2_with fail
 go_ret;exact⟨rfl,hh,(Og.refl w qp).set⟩
theorem AY (h:w.heap[qp]?=M (uV most depth db O)):H K 40 #[U (M ⟨qp,0,O⟩)] w fun e w'=>e=G (.tuple #[I V 0,I V 3])/\w'=w:=by
 obtain⟨-,-,-,c3,-⟩:=dW h;simp only[Option.map_none]at c3;clear h;go_enter Tryz.func40,Tryz.ntmps40
 go_wp2_with fail
 go_ret2;exact⟨rfl,rfl⟩
theorem AZ (h:w.heap[qp]?=M (uV most depth db (M sp)))(hs:w.heap[sp]?=M (rE lp dp ro))(hd:aQ w dp tb dd m):H K 40 #[U (M ⟨qp,0,O⟩)] w fun e w'=>e=G (.tuple #[I V (sz m.1),I V 0])/\w'=w:=by
 obtain⟨-,-,-,c3,-⟩:=dW h;obtain⟨-,d1,-⟩:=iW hs;simp only[Option.map_some]at c3;have hc:=Dl hd;clear h hs hd;go_enter Tryz.func40,Tryz.ntmps40
 go_wp2_with (go_at_call 78;refine hc.mono ?_;rintro e w ⟨rfl,rfl⟩)
 go_ret2;exact⟨rfl,rfl⟩
theorem QO (h:w.heap[qp]?=M (uV most depth db O)):H K 25 #[U (M ⟨qp,0,O⟩)] w fun e w'=>e=G (.tuple #[I V 0,I V 3])/\w'=w:=by
 obtain⟨-,-,-,c3,-⟩:=dW h;simp only[Option.map_none]at c3;clear h;go_enter Tryz.func25,Tryz.ntmps25
 go_wp2_with fail
 go_ret2;exact⟨rfl,rfl⟩
theorem QS (h:w.heap[qp]?=M (uV most depth db (M sp)))(hs:w.heap[sp]?=M (rE lp dp ro))(hd:aQ w dp tb dd m):H K 25 #[U (M ⟨qp,0,O⟩)] w fun e w'=>e=G (.tuple #[I V m.2.2.2.1,I V 0])/\w'=w:=by
 obtain⟨-,-,-,c3,-⟩:=dW h;obtain⟨-,d1,-⟩:=iW hs;simp only[Option.map_some]at c3;have hc:=Gf hd;clear h hs hd;go_enter Tryz.func25,Tryz.ntmps25
 go_wp2_with (go_at_call 50;refine hc.mono ?_;rintro e w ⟨rfl,rfl⟩)
 go_ret2;exact⟨rfl,rfl⟩
theorem QT {a:Int}(ha:a<0):H K 27 #[U (M ⟨qp,0,O⟩),I V a] w fun e w'=>e=G (I V 1)/\w'=w:=by
 go_enter Tryz.func27,Tryz.ntmps27
 go_wp2_with fail
 go_ret;exact⟨rfl,rfl⟩
theorem JK {a:Int}{s:Sc}{fv:Y}{rs:List FR}(h:w.heap[qp]?=M (uV most depth db o))(hD:aP w db s fv rs)(ha:0<=a):H K 27 #[U (M ⟨qp,0,O⟩),I V a] w fun e w'=>e=G (I V 0)/\aP w' db { s with refusing:=true,left:=a } fv rs/\Og w w' db:=by
 obtain⟨-,-,c2,-,-⟩:=dW h;have hc:=FY (a:=a) hD;have hn:¬a<0:=by omega
 clear h hD;go_enter Tryz.func27,Tryz.ntmps27
 go_wp2_with (go_at_call 51;refine hc.mono ?_;rintro e w1 ⟨rfl,h1,h2⟩)
 go_ret;exact⟨rfl,h1,h2⟩
def JL (most depth room:Int):Prop:=0<=most/\most<=5000/\0<=depth/\depth<=50/\0<=room/\room<=1000000
theorem d_ {room:Int}(h:JL most depth room):H K 33 #[I V most,I V depth,I V room] w fun e w'=>e=G (.tuple #[U (M ⟨w.heap.size+1,0,O⟩),I V 0])/\w'=(w.alloc (C #[I V room,Z O 0 0,.bool false,I V 0,.bool false,I V 0,I V 0,I V 0] 137)).alloc (uV most depth w.heap.size O):=by
 unfold JL at h;have hC:=pz (w:=w) (n:=room);have n1:¬most<0:=by omega
 have n2:¬5000<most:=by omega
 have n3:¬depth<0:=by omega
 have n4:¬50<depth:=by omega
 have n5:¬room<0:=by omega
 have n6:¬1000000<room:=by omega
 clear h;go_enter Tryz.func33,Tryz.ntmps33
 go_wp2_with (go_at_call 58;refine hC.mono ?_;rintro e w1 ⟨rfl,rfl⟩)
 go_ret2;exact⟨by simp,rfl⟩
theorem QU (h:w.heap[qp]?=M (uV most depth db O)):H K 39 #[U (M ⟨qp,0,O⟩),I V pos,I V n] w fun e w'=>e=G (.tuple #[.string ⟨#[]⟩,I V 3])/\w'=w:=by
 obtain⟨-,-,-,c3,-⟩:=dW h;simp only[Option.map_none]at c3;clear h;go_enter Tryz.func39,Tryz.ntmps39
 go_wp2_with fail
 go_ret2;exact⟨rfl,rfl⟩
theorem f_ (h:w.heap[qp]?=M (uV most depth db (M sp)))(hs:w.heap[sp]?=M (rE lp dp ro))(hd:aQ w dp tb dd m)(hn:n<=9223372036854775807)(hz:sz m.1<=100000000)(tO:0<=sz m.1)(hb:n<0\/pE m.1 pos n=false):
 H K 39 #[U (M ⟨qp,0,O⟩),I V pos,I V n] w fun e w'=>e=G (.tuple #[.string ⟨#[]⟩,I V 5])/\w'=w:=by
 obtain⟨-,-,-,c3,-⟩:=dW h;obtain⟨d0,d1,-⟩:=iW hs;simp only[Option.map_some]at c3;have hc:=um (pos:=pos) hd hn hz tO hb;clear h hs hd hb;go_enter Tryz.func39,Tryz.ntmps39
 go_wp2_with (go_at_call 76;refine hc.mono ?_;rintro e w ⟨rfl,rfl⟩)
 go_ret2;exact⟨rfl,rfl⟩
theorem YJ {ep:Int}{s:Sc}{fv:Y}{rs:List FR}(h:w.heap[qp]?=M (uV most depth db (M sp)))(hs:w.heap[sp]?=M (rE lp dp ro))(hL:w.heap[lp]?=M (iA db ep))(hD:aP w db s fv rs)(hsr:(plain rs).Pairwise (fun a b=>a.1<b.1))(hl:rs.length<=1000000)(hbz:(aL (plain rs) 1).size<=1000000000)
 (hd:aQ w dp tb dd m)(hz:sz m.1<=5000)(h0:0<=n)(h1:0<=pos)(h2:pos+n<=sz m.1)(Ga:mV ((aL (plain rs) 1).size:Int) m.1)(Jy:m.1.length<=10000):
 H K 39 #[U (M ⟨qp,0,O⟩),I V pos,I V n] w fun e w'=>e=G (.tuple #[.string (jN (aL (plain rs) 1) (kX m.1 pos (pos+n))),I V 0])/\aJ w w':=by
 obtain⟨-,-,-,c3,-⟩:=dW h;obtain⟨d0,d1,-⟩:=iW hs;simp only[Option.map_some]at c3;have hc:=uq (pos:=pos) (n:=n) hd hz h0 h1 h2;have hip:=ET Ga pos (pos+n);have Ce:=jb m.1 pos (pos+n);have HT:Hid (∀W x1 x3,aJ w W->bI W (x1,(kX m.1 pos (pos+n)).length,x3) (kX m.1 pos (pos+n))->H K 77 #[U (M ⟨lp,0,O⟩),Z x1 (kX m.1 pos (pos+n)).length x3] W fun e w'=>e=G (.string (jN (aL (plain rs) 1) (kX m.1 pos (pos+n))))/\aJ W w'):=fun W x1 x3 hW hx=>b_ ((hW.block _ (aK hL)).trans hL) (hD.aM hW) hsr hl hx hip (by omega) hbz
 generalize jN (aL (plain rs) 1) (kX m.1 pos (pos+n))=T at*;generalize kX m.1 pos (pos+n)=L at*;clear h hs hd hL hD hsr Ga hip Ce Jy h2 hz hl hbz;go_enter Tryz.func39,Tryz.ntmps39
 go_wp2_with fail
 refine hc.mono ?_;rintro e w1 ⟨x1,x2,x3,rfl,hx,hg⟩;obtain rfl:x2=L.length:=hx.2.1;have k3:=cell_later hg c3;have k0:=cell_later hg d0;have ht:=HT.out w1 x1 x3 hg hx;clear c3 d0 d1 hc hx HT
 go_wp2_with (go_at_call 77;refine ht.mono ?_;rintro e w2 ⟨rfl,jL⟩)
 go_ret2;exact⟨rfl,bD hg jL⟩
def oU (w:F)(v:Y)(c:Int):Prop:=H K 84 #[v] w fun e w'=>e=G (I V c)/\aJ w w'
theorem Ka (h:w.heap[qp]?=M (uV most depth db o))(hE:oU w v 10):
 H K 49 #[U (M ⟨qp,0,O⟩),v] w fun e w'=>e=G (I V 10)/\w'.heap[qp]?=M (uV most depth db O)/\Og w w' qp:=by
 unfold oU at hE;have HQ:Hid (w.heap[qp]?=M (uV most depth db o)):=h;clear h;go_enter Tryz.func49,Tryz.ntmps49
 go_wp2_with fail
 refine hE.mono ?_;rintro e w1 ⟨rfl,hg⟩;have h1:=(hg.block _ (aK HQ.out)).trans HQ.out;obtain⟨-,-,-,c3,cf⟩:=dW h1;have f3:=cf 3;have hh:(w1.setCell ⟨qp,3,O⟩ (U O)).heap[qp]?=M (uV most depth db O):=by rw[heap_setCell_same w1 qp 3 _ _ _ h1];rfl
 clear cf h1 hE
 go_wp2_with fail
 go_ret;exact⟨rfl,hh,((Og.refl w qp).aM hg).set⟩
theorem JM (h:w.heap[qp]?=M (uV most depth db (M sp)))(hs:w.heap[sp]?=M (rE lp dp ro))(hE:oU w v 9):
 H K 49 #[U (M ⟨qp,0,O⟩),v] w fun e w'=>e=G (I V 9)/\w'.heap[sp]?=M (rE lp dp true)/\Og w w' sp:=by
 unfold oU at hE;have HQ:Hid (w.heap[qp]?=M (uV most depth db (M sp))):=h;have HS:Hid (w.heap[sp]?=M (rE lp dp ro)):=hs;clear h hs;go_enter Tryz.func49,Tryz.ntmps49
 go_wp2_with fail
 refine hE.mono ?_;rintro e w1 ⟨rfl,hg⟩;have h1:=(hg.block _ (aK HQ.out)).trans HQ.out;have h2:=(hg.block _ (aK HS.out)).trans HS.out;obtain⟨-,-,-,c3,-⟩:=dW h1;simp only[Option.map_some]at c3;obtain⟨-,-,d2,df⟩:=iW h2;have f3:=df 2;have hh:(w1.setCell ⟨sp,2,O⟩ (.bool true)).heap[sp]?=M (rE lp dp true):=by rw[heap_setCell_same w1 sp 2 _ _ _ h2];rfl
 clear df h1 h2 hE
 go_wp2_with fail
 go_ret;exact⟨rfl,hh,((Og.refl w sp).aM hg).set⟩
theorem Uv (h:w.heap[qp]?=M (uV most depth db O))(hE:oU w v 9):
 H K 49 #[U (M ⟨qp,0,O⟩),v] w fun e w'=>e=G (I V 9)/\aJ w w':=by
 unfold oU at hE;have HQ:Hid (w.heap[qp]?=M (uV most depth db O)):=h;clear h;go_enter Tryz.func49,Tryz.ntmps49
 go_wp2_with fail
 refine hE.mono ?_;rintro e w1 ⟨rfl,hg⟩;have h1:=(hg.block _ (aK HQ.out)).trans HQ.out;obtain⟨-,-,-,c3,-⟩:=dW h1;simp only[Option.map_none]at c3;clear h1 hE
 go_wp2_with fail
 go_ret;exact⟨rfl,hg⟩
theorem Rf {c:Int}(hE:oU w v c)(h9:¬c=9)(h10:¬c=10):
 H K 49 #[U (M ⟨qp,0,O⟩),v] w fun e w'=>e=G (I V c)/\aJ w w':=by
 unfold oU at hE;go_enter Tryz.func49,Tryz.ntmps49
 go_wp2_with (go_at_call 84;refine hE.mono ?_;rintro e w1 ⟨rfl,hg⟩)
 clear hE
 go_wp2_with fail
 go_ret;exact⟨rfl,hg⟩
theorem JN (w:F):oU w .nilIface 0:=by
 unfold oU;go_enter Tryz.func84,Tryz.ntmps84
 go_wp2_with fail
 go_ret;exact⟨rfl,(aJ.refl w).alloc _⟩
theorem Tryz.isTypeOf (v:Y)(w:F):(Extern.ReflectliteType.typeOf #[.iface 358 v]).run K w= .ok (.iface 318 (.agg #[U (M ⟨9,358,O⟩)])) w:=by kernel_rfl
theorem Tryz.isMethodComparable (v:Y)(w:F):(Go.method 488 318 v "Comparable").run K w= .ok (300,v) w:=by kernel_rfl
theorem Tryz.isComp:(Tryz.prog.info? 358).map (·.comparable)=M true:=by kernel_rfl
theorem Tryz.isSize:(Tryz.prog.info? 376).map (·.size)=M 1:=by kernel_rfl
theorem Tryz.noIsE (v:Y)(xT:TypeId)(w:F):(Instr.typeAssert (.iface 358 v) xT 329 true).run K w= .ok (.tuple #[.nilIface,.bool false]) w:=run_typeAssert_lacksB Tryz.underlying329 (by kernel_rfl) (by kernel_rfl) v xT w
theorem Tryz.noUnwrapE (v:Y)(xT:TypeId)(w:F):(Instr.typeAssert (.iface 358 v) xT 325 true).run K w= .ok (.tuple #[.nilIface,.bool false]) w:=run_typeAssert_lacksB Tryz.underlying325 (by kernel_rfl) (by kernel_rfl) v xT w
theorem Tryz.noUnwrapsE (v:Y)(xT:TypeId)(w:F):(Instr.typeAssert (.iface 358 v) xT 326 true).run K w= .ok (.tuple #[.nilIface,.bool false]) w:=run_typeAssert_lacksB Tryz.underlying326 (by kernel_rfl) (by kernel_rfl) v xT w
theorem Tryz.noIsS (v:Y)(xT:TypeId)(w:F):(Instr.typeAssert (.iface 290 v) xT 329 true).run K w= .ok (.tuple #[.nilIface,.bool false]) w:=run_typeAssert_lacksB Tryz.underlying329 (by kernel_rfl) (by kernel_rfl) v xT w
theorem Tryz.noIsL (v:Y)(xT:TypeId)(w:F):(Instr.typeAssert (.iface 208 v) xT 329 true).run K w= .ok (.tuple #[.nilIface,.bool false]) w:=run_typeAssert_lacksB Tryz.underlying329 (by kernel_rfl) (by kernel_rfl) v xT w
theorem Tryz.hasUnwrapS (v:Y)(xT:TypeId)(w:F):(Instr.typeAssert (.iface 290 v) xT 325 true).run K w= .ok (.tuple #[.iface 290 v,.bool true]) w:=run_typeAssert_hasB Tryz.underlying325 (by kernel_rfl) v xT w
theorem Tryz.hasUnwrapL (v:Y)(xT:TypeId)(w:F):(Instr.typeAssert (.iface 208 v) xT 325 true).run K w= .ok (.tuple #[.iface 208 v,.bool true]) w:=run_typeAssert_hasB Tryz.underlying325 (by kernel_rfl) v xT w
theorem Tryz.methodUnwrapS (v:Y)(w:F):(Go.method 488 290 v "Unwrap").run K w= .ok (297,v) w:=by kernel_rfl
theorem Tryz.methodUnwrapL (v:Y)(w:F):(Go.method 488 208 v "Unwrap").run K w= .ok (291,v) w:=by kernel_rfl
def MU (w:F):Nat->Y->Nat
 |f+1,.iface t (U (M a))=>if t=290 then 1+MU w f ((w.cell? ⟨a.block,2,O⟩).getD .nilIface)else if t=208 then 1+MU w f ((w.cell? ⟨a.block,1,O⟩).getD .nilIface)else 0
 |_,_=>0
theorem zY:∀ {f d:Nat} {v:Y},nQ w ps d v k->d<f->MU w f v=d
 |0,_,_,_,h=>by omega
 |f+1,0,v,h,_=>by
  have e:v=gY (ps k):=h;subst e;simp[MU,gY]
 |f+1,d+1,v,h,hl=>by
  rcases h with⟨b,nm,num,x,rfl,hb,hx⟩|⟨b,nm,x,rfl,hb,hx⟩
  ·have:=zY (f:=f) hx (by omega);simp[MU,World.cell?,hb,this];omega
  ·have:=zY (f:=f) hx (by omega);simp[MU,World.cell?,hb,this];omega
theorem nQ.shape:∀ {d:Nat} {v:Y},nQ w ps d v k->∃t p,v= .iface t (U (M p))
 |0,_,h=>⟨_,_,h⟩
 |_+1,_,h=>by
  rcases h with⟨b,nm,num,x,rfl,-,-⟩|⟨b,nm,x,rfl,-,-⟩
  ·exact⟨_,_,rfl⟩
  ·exact⟨_,_,rfl⟩
theorem Rh {b:Nat}(h:w.cell? ⟨b,2,O⟩=M v):H K 297 #[U (M ⟨b,0,O⟩)] w fun e w'=>e=G v/\w'=w:=by
 go_enter Tryz.func297,Tryz.ntmps297
 go_wp2_with fail
 go_ret;exact⟨rfl,rfl⟩
theorem Ri {b:Nat}(h:w.cell? ⟨b,1,O⟩=M v):H K 291 #[U (M ⟨b,0,O⟩)] w fun e w'=>e=G v/\w'=w:=by
 go_enter Tryz.func291,Tryz.ntmps291
 go_wp2_with fail
 go_ret;exact⟨rfl,rfl⟩
theorem eis_pg {j:Nat}(hG:Gl w ps)(hC:nQ w ps d v k)(hd:d<=5)(hk:k<5)(hj:j<5):
 H K 200 #[v,gY (ps j),.bool true] w fun e w'=>e=G (.bool (decide (k=j)))/\w'=w:=by
 obtain⟨i,hi,hcmp⟩:=Option.map_eq_some_iff.1 Tryz.isComp;obtain⟨jj,hjj,hjs⟩:=Option.map_eq_some_iff.1 Tryz.isSize;have nE:=Tryz.noIsE;have uE:=Tryz.noUnwrapE;have vE:=Tryz.noUnwrapsE;have nS:=Tryz.noIsS;have nL:=Tryz.noIsL;have uS:=Tryz.hasUnwrapS;have uL:=Tryz.hasUnwrapL;have mS:=Tryz.methodUnwrapS;have mL:=Tryz.methodUnwrapL
 have HEQ:Hid ((binOp .eql 88 (gY (ps k)) (gY (ps j))).run K w= .ok (.bool (decide (k=j))) w):=by
  show _=_;unfold gY;by_cases e:k=j
  ·subst e;rw[decide_eq_true rfl];exact run_eql_iface_ptr_same (P:=K) w _ Tryz.underlying88 Tryz.underlying358 hi hcmp hjj
  ·rw[decide_eq_false e];obtain⟨ca,ta,ha,-⟩:=hG.box k hk;obtain⟨cb,tb,hb,-⟩:=hG.box j hj;exact run_eql_iface_ptr_other (P:=K) w Tryz.underlying88 Tryz.underlying358 hi hcmp hjj (by rw[hjs];decide) (fun h=>e (hG.uM.2 k j hk hj h)) ha hb
 have HC:Hid (nQ w ps d v k):=hC;clear hC hG;generalize decide (k=j)=bb at*;go_enter Tryz.func200,Tryz.ntmps200
 go_wp2_with fail
 go_loop [0] (fun x=> ∃d':Nat,d'<=d/\Hid (nQ w ps d' x k)) (fun x=>MU w 10 x)
 case atStart=>exact⟨d,Nat.le_refl _,HC⟩
 case round=>
  obtain⟨d',hd',HR⟩:=hrel;cases d' with
  |zero=>
   obtain rfl:=(HR.out:_=gY (ps k));have heq:=HEQ.out;unfold gY at heq ⊢;cases bb with
   |true=>
    go_wp2_with fail
    go_ret;exact⟨rfl,rfl⟩
   |false=>
    go_wp2_with fail
    go_ret;exact⟨rfl,rfl⟩
  |succ d'=>
   have wo:=zY (f:=10) HR.out (by omega);rcases HR.out with⟨b,nm,num,y,rfl,hb,hy⟩|⟨b,nm,y,rfl,hb,hy⟩
   ·have hU:=Rh (w:=w) (b:=b) (v:=y) (by simp[World.cell?,hb]);have Di:=run_eql_iface_types (P:=K) 290 358 (U (M ⟨b,0,O⟩)) (U (M (ps j))) Tryz.underlying88 (by decide) w;obtain⟨yt,yp,ey⟩:=hy.shape;have HY:Hid (nQ w ps d' y k):=hy;have hcy:=zY (f:=10) hy (by omega);subst ey;have aj:Hid (MU w 10 (.iface yt (U (M yp)))<MU w 10 (.iface 290 (U (M ⟨b,0,O⟩)))):=by show _<_;omega
    clear hy hb hcy wo;unfold gY
    go_wp2_with (go_at_call 297;refine hU.mono ?_;rintro e w ⟨rfl,rfl⟩)
    go_round
    case rel=>exact⟨d',by omega,HY⟩
    case measure=>exact aj.out
   ·have hU:=Ri (w:=w) (b:=b) (v:=y) (by simp[World.cell?,hb]);have Di:=run_eql_iface_types (P:=K) 208 358 (U (M ⟨b,0,O⟩)) (U (M (ps j))) Tryz.underlying88 (by decide) w;obtain⟨yt,yp,ey⟩:=hy.shape;have HY:Hid (nQ w ps d' y k):=hy;have hcy:=zY (f:=10) hy (by omega);subst ey;have aj:Hid (MU w 10 (.iface yt (U (M yp)))<MU w 10 (.iface 208 (U (M ⟨b,0,O⟩)))):=by show _<_;omega
    clear hy hb hcy wo;unfold gY
    go_wp2_with (go_at_call 291;refine hU.mono ?_;rintro e w ⟨rfl,rfl⟩)
    go_round
    case rel=>exact⟨d',by omega,HY⟩
    case measure=>exact aj.out
theorem YK:∃f:Array Y->Sem Y,(∀(args:Array Y) (w:F),(callFunc 300 args).run K w=((f args).run K w).andThen fun v w'=> .ok (.value v) w')/\∀w:F,(f #[.agg #[U (M ⟨9,358,O⟩)]]).run K w= .ok (.bool true) w:=
 ⟨(Extern.find Tryz.f300).getD (fun _=>pure .nilIface),@run_callFunc_extern K 300 _ _ Tryz.func300 (by kernel_rfl) (by kernel_rfl) (by kernel_rfl) (by kernel_rfl),fun w=>by kernel_rfl⟩
theorem eIs_pg {j:Nat}(hG:Gl w ps)(hC:nQ w ps d v k)(hd:d<=5)(hk:k<5)(hj:j<5):
 H K 130 #[v,gY (ps j)] w fun e w'=>e=G (.bool (decide (k=j)))/\w'=w:=by
 have hL:=eis_pg hG hC hd hk hj;have h8:=@run_callFunc_extern K 199 _ Extern.ReflectliteType.typeOf Tryz.func199 (by kernel_rfl) (by kernel_rfl) (by kernel_rfl) (by kernel_rfl);obtain⟨cf,h32,cT⟩:=YK;have tT:=Tryz.isTypeOf;have mR:=Tryz.isMethodComparable;obtain⟨t,p,rfl⟩:=hC.shape;clear hG hC;generalize decide (k=j)=bb at*;unfold gY at*;go_enter Tryz.func130,Tryz.ntmps130
 go_wp2_with (go_at_call 200;refine hL.mono ?_;rintro e w ⟨rfl,rfl⟩)
 go_ret;exact⟨rfl,rfl⟩
theorem Xm:∃f:Array Y->Sem Y,(∀(args:Array Y) (w:F),(callFunc 299 args).run K w=((f args).run K w).andThen fun v w'=> .ok (.value v) w')/\
 (∀w:F,(f #[.agg #[U (M ⟨9,358,O⟩)],.iface 318 (.agg #[U (M ⟨9,213,O⟩)])]).run K w= .ok (.bool false) w)/\
 (∀w:F,(f #[.agg #[U (M ⟨9,290,O⟩)],.iface 318 (.agg #[U (M ⟨9,213,O⟩)])]).run K w= .ok (.bool false) w)/\
 (∀w:F,(f #[.agg #[U (M ⟨9,208,O⟩)],.iface 318 (.agg #[U (M ⟨9,213,O⟩)])]).run K w= .ok (.bool false) w)/\
 (∀w:F,(f #[.agg #[U (M ⟨9,213,O⟩)],.iface 318 (.agg #[U (M ⟨9,213,O⟩)])]).run K w= .ok (.bool true) w):=
 ⟨(Extern.find Tryz.f299).getD (fun _=>pure .nilIface),@run_callFunc_extern K 299 _ _ Tryz.func299 (by kernel_rfl) (by kernel_rfl) (by kernel_rfl) (by kernel_rfl),fun w=>by kernel_rfl,fun w=>by kernel_rfl,fun w=>by kernel_rfl,fun w=>by kernel_rfl⟩
theorem Tryz.typeOfS (v:Y)(w:F):(Extern.ReflectliteType.typeOf #[.iface 290 v]).run K w= .ok (.iface 318 (.agg #[U (M ⟨9,290,O⟩)])) w:=by kernel_rfl
theorem Tryz.typeOfL (v:Y)(w:F):(Extern.ReflectliteType.typeOf #[.iface 208 v]).run K w= .ok (.iface 318 (.agg #[U (M ⟨9,208,O⟩)])) w:=by kernel_rfl
theorem Tryz.typeOfD (v:Y)(w:F):(Extern.ReflectliteType.typeOf #[.iface 213 v]).run K w= .ok (.iface 318 (.agg #[U (M ⟨9,213,O⟩)])) w:=by kernel_rfl
theorem Tryz.methodAsg (v:Y)(w:F):(Go.method 488 318 v "AssignableTo").run K w= .ok (299,v) w:=by kernel_rfl
theorem Tryz.noAsE (v:Y)(xT:TypeId)(w:F):(Instr.typeAssert (.iface 358 v) xT 322 true).run K w= .ok (.tuple #[.nilIface,.bool false]) w:=run_typeAssert_lacksB Tryz.underlying322 (by kernel_rfl) (by kernel_rfl) v xT w
theorem Tryz.noAsS (v:Y)(xT:TypeId)(w:F):(Instr.typeAssert (.iface 290 v) xT 322 true).run K w= .ok (.tuple #[.nilIface,.bool false]) w:=run_typeAssert_lacksB Tryz.underlying322 (by kernel_rfl) (by kernel_rfl) v xT w
theorem Tryz.noAsL (v:Y)(xT:TypeId)(w:F):(Instr.typeAssert (.iface 208 v) xT 322 true).run K w= .ok (.tuple #[.nilIface,.bool false]) w:=run_typeAssert_lacksB Tryz.underlying322 (by kernel_rfl) (by kernel_rfl) v xT w
theorem g_ {x:Y}{z1 z2 z3:Y}(hC:nQ w ps d v k)(hd:d<=5):
 H K 198 #[v,x,.agg #[z1,z2,z3],.iface 318 (.agg #[U (M ⟨9,213,O⟩)])] w fun e w'=>e=G (.bool false)/\aJ w w':=by
 have h8:=@run_callFunc_extern K 199 _ Extern.ReflectliteType.typeOf Tryz.func199 (by kernel_rfl) (by kernel_rfl) (by kernel_rfl) (by kernel_rfl);obtain⟨f,hf,fE,fS,fL,-⟩:=Xm;have tE:=Tryz.isTypeOf;have tS:=Tryz.typeOfS;have tL:=Tryz.typeOfL;have mA:=Tryz.methodAsg;have nE:=Tryz.noAsE;have nS:=Tryz.noAsS;have nL:=Tryz.noAsL;have uE:=Tryz.noUnwrapE;have vE:=Tryz.noUnwrapsE;have uS:=Tryz.hasUnwrapS;have uL:=Tryz.hasUnwrapL;have mS:=Tryz.methodUnwrapS;have mL:=Tryz.methodUnwrapL;have HC:Hid (nQ (w.alloc (C #[z1,z2,z3] 279)) ps d v k):=nQ.fr (Fr.dO ((aJ.refl w).alloc _) (fun _=>False)) (fun _ _ _=>id) (fun _ _ _=>id) hC;have HG:Hid (aJ w (w.alloc (C #[z1,z2,z3] 279))):=(aJ.refl w).alloc _;clear hC;go_enter Tryz.func198,Tryz.ntmps198
 go_wp2_with fail
 generalize w.alloc (C #[z1,z2,z3] 279)=W at*
 go_loop [0] (fun x=> ∃d':Nat,d'<=d/\Hid (nQ W ps d' x k)) (fun x=>MU W 10 x)
 case atStart=>exact⟨d,Nat.le_refl _,HC⟩
 case round=>
  obtain⟨d',hd',HR⟩:=hrel;cases d' with
  |zero=>
   obtain rfl:=(HR.out:_=gY (ps k));unfold gY
   go_wp2_with fail
   go_ret;exact⟨rfl,HG.out⟩
  |succ d'=>
   have wo:=zY (f:=10) HR.out (by omega);rcases HR.out with⟨b,nm,num,y,rfl,hb,hy⟩|⟨b,nm,y,rfl,hb,hy⟩
   ·have hU:=Rh (w:=W) (b:=b) (v:=y) (by simp[World.cell?,hb]);obtain⟨yt,yp,ey⟩:=hy.shape;have HY:Hid (nQ W ps d' y k):=hy;have hcy:=zY (f:=10) hy (by omega);subst ey;have aj:Hid (MU W 10 (.iface yt (U (M yp)))<MU W 10 (.iface 290 (U (M ⟨b,0,O⟩)))):=by show _<_;omega
    clear hy hb hcy wo
    go_wp2_with (go_at_call 297;refine hU.mono ?_;rintro e W ⟨rfl,rfl⟩)
    go_round
    case rel=>exact⟨d',by omega,HY⟩
    case measure=>exact aj.out
   ·have hU:=Ri (w:=W) (b:=b) (v:=y) (by simp[World.cell?,hb]);obtain⟨yt,yp,ey⟩:=hy.shape;have HY:Hid (nQ W ps d' y k):=hy;have hcy:=zY (f:=10) hy (by omega);subst ey;have aj:Hid (MU W 10 (.iface yt (U (M yp)))<MU W 10 (.iface 208 (U (M ⟨b,0,O⟩)))):=by show _<_;omega
    clear hy hb hcy wo
    go_wp2_with (go_at_call 291;refine hU.mono ?_;rintro e W ⟨rfl,rfl⟩)
    go_round
    case rel=>exact⟨d',by omega,HY⟩
    case measure=>exact aj.out
theorem Tryz.valueOfDD (t:Addr)(w:F):(ReflectliteValue.unpack (.iface 215 (U (M t)))).run K w
 = .ok (.agg #[U (M ⟨9,215,O⟩),U (M ⟨w.heap.size,0,O⟩),I .u64 150]) (w.alloc (C #[U (M t)] 215)):=by kernel_rfl
theorem Tryz.typeDD (a:Addr)(w:F):(ReflectliteValue.methodAny (ReflectliteValue.valueError "reflectlite.Value.Type" 0) (fun t _ _ _=>ReflectliteType.toType t) #[.agg #[U (M ⟨9,215,O⟩),U (M a),I .u64 150]]).run K w
 = .ok (.iface 318 (.agg #[U (M ⟨9,215,O⟩)])) w:=by kernel_rfl
theorem Tryz.methodKind (h:Y)(w:F):(Go.method 488 318 (.agg #[h]) "Kind").run K w= .ok (286,h) w:=by kernel_rfl
theorem Tryz.methodElem (h:Y)(w:F):(Go.method 488 318 (.agg #[h]) "Elem").run K w= .ok (301,.agg #[h]) w:=by kernel_rfl
theorem Tryz.methodImpl (h:Y)(w:F):(Go.method 488 318 (.agg #[h]) "Implements").run K w= .ok (302,.agg #[h]) w:=by kernel_rfl
theorem Rj:∃f:Array Y->Sem Y,(∀(args:Array Y) (w:F),(callFunc 286 args).run K w=((f args).run K w).andThen fun v w'=> .ok (.value v) w')/\
 (∀w:F,(f #[U (M ⟨9,215,O⟩)]).run K w= .ok (I .u8 22) w)/\(∀w:F,(f #[U (M ⟨9,213,O⟩)]).run K w= .ok (I .u8 22) w):=
 ⟨(Extern.find Tryz.f286).getD (fun _=>pure .nilIface),@run_callFunc_extern K 286 _ _ Tryz.func286 (by kernel_rfl) (by kernel_rfl) (by kernel_rfl) (by kernel_rfl),fun w=>by kernel_rfl,fun w=>by kernel_rfl⟩
theorem Rk:∃f:Array Y->Sem Y,(∀(args:Array Y) (w:F),(callFunc 301 args).run K w=((f args).run K w).andThen fun v w'=> .ok (.value v) w')/\
 (∀w:F,(f #[.agg #[U (M ⟨9,215,O⟩)]]).run K w= .ok (.iface 318 (.agg #[U (M ⟨9,213,O⟩)])) w):=
 ⟨(Extern.find Tryz.f301).getD (fun _=>pure .nilIface),@run_callFunc_extern K 301 _ _ Tryz.func301 (by kernel_rfl) (by kernel_rfl) (by kernel_rfl) (by kernel_rfl),fun w=>by kernel_rfl⟩
theorem Rl:∃f:Array Y->Sem Y,(∀(args:Array Y) (w:F),(callFunc 302 args).run K w=((f args).run K w).andThen fun v w'=> .ok (.value v) w')/\
 (∀w:F,(f #[.agg #[U (M ⟨9,213,O⟩)],.iface 318 (.agg #[U (M ⟨9,88,O⟩)])]).run K w= .ok (.bool true) w):=
 ⟨(Extern.find Tryz.f302).getD (fun _=>pure .nilIface),@run_callFunc_extern K 302 _ _ Tryz.func302 (by kernel_rfl) (by kernel_rfl) (by kernel_rfl) (by kernel_rfl),fun w=>by kernel_rfl⟩
theorem rlmz (z:Sem Y)(f:TypeId->Addr->Nat->Nat->Sem Y)(v:Y):
 ReflectliteValue.method z f #[v]=(do match <-ReflectliteValue.parts v with|none=>z|some (t,a,fl)=>f t a fl (fl % 32)):=rfl
theorem Tryz.partsDD (a:Addr)(w:F):(ReflectliteValue.parts (.agg #[U (M ⟨9,215,O⟩),U (M a),I .u64 150])).run K w= .ok (M (215,a,150)) w:=by kernel_rfl
theorem Tryz.isNilDD (a p:Addr)(W:F)(ha:W.cell? a=M (U (M p))):
 (ReflectliteValue.method (ReflectliteValue.valueError "reflectlite.Value.IsNil" 0) ReflectliteValue.isNil #[.agg #[U (M ⟨9,215,O⟩),U (M a),I .u64 150]]).run K W= .ok (.bool false) W:=by
 rw[rlmz];simp only[Sem.run_bind,Tryz.partsDD,Result.andThen];simp[ReflectliteValue.isNil,loadVar,isAgg,underlying,Tryz.underlying215,ha,Result.andThen]
theorem h_ {t:Addr}(hG:Gl w ps)(hC:nQ w ps d v k)(hd:d<=5):
 H K 129 #[v,.iface 215 (U (M t))] w fun e w'=>e=G (.bool false)/\aJ w w':=by
 have h6:=@run_callFunc_extern K 195 _ (fun args=>ReflectliteValue.unpack (args.getD 0 (.tuple #[]))) Tryz.func195 (by kernel_rfl) (by kernel_rfl) (by kernel_rfl) (by kernel_rfl);have h7:=@run_callFunc_extern K 196 _ (ReflectliteValue.methodAny (ReflectliteValue.valueError "reflectlite.Value.Type" 0) (fun t _ _ _=>ReflectliteType.toType t)) Tryz.func196 (by kernel_rfl) (by kernel_rfl) (by kernel_rfl) (by kernel_rfl);have h8:=@run_callFunc_extern K 197 _ (ReflectliteValue.method (ReflectliteValue.valueError "reflectlite.Value.IsNil" 0) ReflectliteValue.isNil) Tryz.func197 (by kernel_rfl) (by kernel_rfl) (by kernel_rfl) (by kernel_rfl);obtain⟨fk,hk,k1,k2⟩:=Rj;obtain⟨fe,he,e1⟩:=Rk;obtain⟨fi,hi,i1⟩:=Rl;have f6:=Tryz.valueOfDD;have f7:=Tryz.typeDD;have mK:=Tryz.methodKind;have mE:=Tryz.methodElem;have mI:=Tryz.methodImpl;have kL:aJ w ((w.alloc (C #[U (M t)] 215)).alloc (C #[U (M ⟨9,215,O⟩),U (M ⟨w.heap.size,0,O⟩),I .u64 150] 279)):=((aJ.refl w).alloc _).alloc _;have qQ:Hid (aJ w ((w.alloc (C #[U (M t)] 215)).alloc (C #[U (M ⟨9,215,O⟩),U (M ⟨w.heap.size,0,O⟩),I .u64 150] 279))):=kL;have n8:=Tryz.isNilDD ⟨w.heap.size,0,O⟩ t ((w.alloc (C #[U (M t)] 215)).alloc (C #[U (M ⟨9,215,O⟩),U (M ⟨w.heap.size,0,O⟩),I .u64 150] 279)) (by simp)
 have jL:((w.alloc (C #[U (M t)] 215)).alloc (C #[U (M ⟨9,215,O⟩),U (M ⟨w.heap.size,0,O⟩),I .u64 150] 279)).cell? ⟨5,0,O⟩=M (.iface 318 (.agg #[U (M ⟨9,88,O⟩)])):=by
  have:=(hG.aM kL).XO;simp[World.cell?,this]
 have hL:=g_ (x:= .iface 215 (U (M t))) (z1:=U (M ⟨9,215,O⟩)) (z2:=U (M ⟨w.heap.size,0,O⟩)) (z3:=I .u64 150) (nQ.fr (Fr.dO kL (fun _=>False)) (fun _ _ _=>id) (fun _ _ _=>id) hC) hd;obtain⟨vt,vp,rfl⟩:=hC.shape;clear hG hC kL;go_enter Tryz.func129,Tryz.ntmps129
 go_wp2_with (go_at_call 198;refine hL.mono ?_;rintro e w4 ⟨rfl,mO⟩)
 go_ret;exact⟨rfl,bD qQ.out mO⟩
theorem Tryz.valueOfD (e:Addr)(w:F):(ReflectliteValue.unpack (.iface 213 (U (M e)))).run K w
 = .ok (.agg #[U (M ⟨9,213,O⟩),U (M ⟨w.heap.size,0,O⟩),I .u64 150]) (w.alloc (C #[U (M e)] 213)):=by kernel_rfl
theorem Tryz.elemOfDD (w:F):(Rtype.elem? 215).run K w= .ok (M 213) w:=by kernel_rfl
theorem Tryz.mkD (p:Addr)(w:F):(ReflectliteValue.mk 213 p ReflectliteValue.flagAddr).run K w= .ok (.agg #[U (M ⟨9,213,O⟩),U (M p),I .u64 406]) w:=by kernel_rfl
theorem Tryz.elemVDD (a p:Addr)(W:F)(ha:W.cell? a=M (U (M p))):
 (ReflectliteValue.method (ReflectliteValue.valueError "reflectlite.Value.Elem" 0) ReflectliteValue.elem #[.agg #[U (M ⟨9,215,O⟩),U (M a),I .u64 150]]).run K W
  = .ok (.agg #[U (M ⟨9,213,O⟩),U (M p),I .u64 406]) W:=by
 rw[rlmz];simp only[Sem.run_bind,Tryz.partsDD,Result.andThen];simp[ReflectliteValue.elem,loadVar,isAgg,underlying,Tryz.underlying215,ha,Result.andThen,Tryz.elemOfDD,Tryz.mkD]
theorem Tryz.partsDa (a:Addr)(w:F):(ReflectliteValue.parts (.agg #[U (M ⟨9,213,O⟩),U (M a),I .u64 406])).run K w= .ok (M (213,a,406)) w:=by kernel_rfl
theorem Tryz.partsD (a:Addr)(w:F):(ReflectliteValue.parts (.agg #[U (M ⟨9,213,O⟩),U (M a),I .u64 150])).run K w= .ok (M (213,a,150)) w:=by kernel_rfl
theorem Tryz.directD (w:F):(Rtype.directlyAssignable 213 213).run K w= .ok true w:=by kernel_rfl
theorem Tryz.setD (ta b e:Addr)(old:Y)(W:F)(hb:W.cell? b=M (U (M e)))(ht:W.cell? ta=M old)(hf:W.frozen? ta=false):
 (ReflectliteValue.set #[.agg #[U (M ⟨9,213,O⟩),U (M ta),I .u64 406],.agg #[U (M ⟨9,213,O⟩),U (M b),I .u64 150]]).run K W
  = .ok (.tuple #[]) (W.setCell ta (U (M e))):=by
 show Sem.run K (ReflectliteValue.parts (.agg #[U (M ⟨9,213,O⟩),U (M ta),I .u64 406])>>=fun p=>ReflectliteValue.parts (.agg #[U (M ⟨9,213,O⟩),U (M b),I .u64 150])>>=fun q=>_) W=_;simp only[Sem.run_bind,Tryz.partsDa,Tryz.partsD,Result.andThen];simp[ReflectliteValue.flagAddr,loadVar,isAgg,underlying,Tryz.underlying213,hb,Result.andThen,Tryz.directD,storeVar,Value.cells,storeCells,Addr.add];rw[run_store K W ta _ _ (by rfl)];simp[ht,hf]
theorem eas_hit {e t a:Addr}{old x:Y}(ha:w.cell? a=M (U (M t)))(ht:w.cell? t=M old)(hf:w.frozen? t=false):
 H K 198 #[.iface 213 (U (M e)),x,.agg #[U (M ⟨9,215,O⟩),U (M a),I .u64 150],.iface 318 (.agg #[U (M ⟨9,213,O⟩)])] w
  fun ev w'=>ev=G (.bool true)/\w'=((w.alloc (C #[U (M ⟨9,215,O⟩),U (M a),I .u64 150] 279)).alloc (C #[U (M e)] 213)).setCell t (U (M e)):=by
 have h8:=@run_callFunc_extern K 199 _ Extern.ReflectliteType.typeOf Tryz.func199 (by kernel_rfl) (by kernel_rfl) (by kernel_rfl) (by kernel_rfl);have h6:=@run_callFunc_extern K 195 _ (fun args=>ReflectliteValue.unpack (args.getD 0 (.tuple #[]))) Tryz.func195 (by kernel_rfl) (by kernel_rfl) (by kernel_rfl) (by kernel_rfl);have h11:=@run_callFunc_extern K 238 _ (ReflectliteValue.method (ReflectliteValue.valueError "reflectlite.Value.Elem" 0) ReflectliteValue.elem) Tryz.func238 (by kernel_rfl) (by kernel_rfl) (by kernel_rfl) (by kernel_rfl);have h12:=@run_callFunc_extern K 239 _ ReflectliteValue.set Tryz.func239 (by kernel_rfl) (by kernel_rfl) (by kernel_rfl) (by kernel_rfl);obtain⟨f,hf0,-,-,-,fD⟩:=Xm;have tD:=Tryz.typeOfD;have mA:=Tryz.methodAsg;have vD:=Tryz.valueOfD;have hal:=World.block_lt_of_cell? _ _ ha;have Zc:=World.block_lt_of_cell? _ _ ht;have el:=Tryz.elemVDD a t (w.alloc (C #[U (M ⟨9,215,O⟩),U (M a),I .u64 150] 279)) (by rw[World.cell?_alloc_lt _ _ a hal];exact ha)
 have st:=Tryz.setD t ⟨w.heap.size+1,0,O⟩ e old ((w.alloc (C #[U (M ⟨9,215,O⟩),U (M a),I .u64 150] 279)).alloc (C #[U (M e)] 213))
  (by rw[World.cell?_alloc_at _ _ _ _ (by simp)];rfl)
  (by rw[World.cell?_alloc_lt _ _ t (by simp;omega),World.cell?_alloc_lt _ _ t Zc];exact ht)
  (by rw[World.frozen?_alloc_old _ _ t (by simp;omega),World.frozen?_alloc_old _ _ t (Nat.ne_of_lt Zc)];exact hf)
 clear ha ht hf;go_enter Tryz.func198,Tryz.ntmps198
 go_wp2
 refine wp_loop_rounds 1 ?_;rw[rounds_succ]
 go_wp2
 go_ret;exact⟨rfl,rfl⟩
end Go.Proofs.YtfplgfodoiiobaaGreatDoor
