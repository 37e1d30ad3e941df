/- QlG, QlH, QlI, QlJ, QlK, QlL, QlN (joined). -/
import Derived.Test.YtfplgfodoiiobaaGreatDoorJ35
open Option renaming none→O,some→M
open Go.Value renaming int→I,pointer→U
open Go.IntKind renaming i64→V
open Go.Obj renaming cells→C
open Go.Ending renaming returned→G
open Go renaming World→F,Value→Y,Calls→H
open Go.Proofs.Tryz renaming prog→K
namespace Go.Proofs.YtfplgfodoiiobaaGreatDoor
set_option maxHeartbeats 1000000
set_option maxRecDepth 100000
open Go.RowKit Go.Extern.Stop Go.Stop Go.Extern
open Go.RowKit
variable {w w':F}{s:Sc}{m:bR}{qp tb db dp lp sp b depth:Nat}{ps:Nat->Addr}{fv v:Y}{rs:List FR}{fs:List bE}{X aA:Nat->Prop}{c:Int}{ro:Bool}{t:Addr}
theorem Tryz.valueOfDD (t:Addr)(w:F):(ReflectliteValue.unpack (.iface 215 (U (M t)))).run K w
 = .ok (.agg #[U (M ⟨9,215,O⟩),U (M ⟨w.heap.size,0,O⟩),I .u64 150]) (w.alloc (C #[U (M t)] 215)):=by kernel_rfl
theorem Tryz.typeDD (a:Addr)(w:F):(ReflectliteValue.methodAny (ReflectliteValue.valueError "reflectlite.Value.Type" 0) (fun t _ _ _=>ReflectliteType.toType t) #[.agg #[U (M ⟨9,215,O⟩),U (M a),I .u64 150]]).run K w
 = .ok (.iface 318 (.agg #[U (M ⟨9,215,O⟩)])) w:=by kernel_rfl
theorem Tryz.methodKind (h:Y)(w:F):(Go.method 488 318 (.agg #[h]) "Kind").run K w= .ok (286,h) w:=by kernel_rfl
theorem Tryz.methodElem (h:Y)(w:F):(Go.method 488 318 (.agg #[h]) "Elem").run K w= .ok (301,.agg #[h]) w:=by kernel_rfl
theorem Tryz.methodImpl (h:Y)(w:F):(Go.method 488 318 (.agg #[h]) "Implements").run K w= .ok (302,.agg #[h]) w:=by kernel_rfl
theorem Ox:∃f:Array Y->Sem Y,(∀(args:Array Y) (w:F),(callFunc 286 args).run K w=((f args).run K w).andThen fun v w'=> .ok (.value v) w')/\
 (∀w:F,(f #[U (M ⟨9,215,O⟩)]).run K w= .ok (I .u8 22) w)/\(∀w:F,(f #[U (M ⟨9,213,O⟩)]).run K w= .ok (I .u8 22) w):=
 ⟨(Extern.find Tryz.f286).getD (fun _=>pure .nilIface),@run_callFunc_extern K 286 _ _ Tryz.func286 (by kernel_rfl) (by kernel_rfl) (by kernel_rfl) (by kernel_rfl),fun w=>by kernel_rfl,fun w=>by kernel_rfl⟩
theorem Oy:∃f:Array Y->Sem Y,(∀(args:Array Y) (w:F),(callFunc 301 args).run K w=((f args).run K w).andThen fun v w'=> .ok (.value v) w')/\
 (∀w:F,(f #[.agg #[U (M ⟨9,215,O⟩)]]).run K w= .ok (.iface 318 (.agg #[U (M ⟨9,213,O⟩)])) w):=
 ⟨(Extern.find Tryz.f301).getD (fun _=>pure .nilIface),@run_callFunc_extern K 301 _ _ Tryz.func301 (by kernel_rfl) (by kernel_rfl) (by kernel_rfl) (by kernel_rfl),fun w=>by kernel_rfl⟩
theorem Oz:∃f:Array Y->Sem Y,(∀(args:Array Y) (w:F),(callFunc 302 args).run K w=((f args).run K w).andThen fun v w'=> .ok (.value v) w')/\
 (∀w:F,(f #[.agg #[U (M ⟨9,213,O⟩)],.iface 318 (.agg #[U (M ⟨9,88,O⟩)])]).run K w= .ok (.bool true) w):=
 ⟨(Extern.find Tryz.f302).getD (fun _=>pure .nilIface),@run_callFunc_extern K 302 _ _ Tryz.func302 (by kernel_rfl) (by kernel_rfl) (by kernel_rfl) (by kernel_rfl),fun w=>by kernel_rfl⟩
theorem rlmz (z:Sem Y)(f:TypeId->Addr->Nat->Nat->Sem Y)(v:Y):
 ReflectliteValue.method z f #[v]=(do match <-ReflectliteValue.parts v with|none=>z|some (t,a,fl)=>f t a fl (fl % 32)):=rfl
theorem Tryz.partsDD (a:Addr)(w:F):(ReflectliteValue.parts (.agg #[U (M ⟨9,215,O⟩),U (M a),I .u64 150])).run K w= .ok (M (215,a,150)) w:=by kernel_rfl
theorem Tryz.isNilDD (a p:Addr)(W:F)(ha:W.cell? a=M (U (M p))):
 (ReflectliteValue.method (ReflectliteValue.valueError "reflectlite.Value.IsNil" 0) ReflectliteValue.isNil #[.agg #[U (M ⟨9,215,O⟩),U (M a),I .u64 150]]).run K W= .ok (.bool false) W:=by
 rw[rlmz];simp only[Sem.run_bind,Tryz.partsDD,Result.andThen];simp[ReflectliteValue.isNil,loadVar,isAgg,underlying,Tryz.underlying215,ha,Result.andThen]
theorem YX {d k:Nat}(hG:Gl w ps)(hC:mO w ps d v k)(hd:d<=5):
 H K 129 #[v,.iface 215 (U (M t))] w fun e w'=>e=G (.bool false)/\aK w w':=by
 have h6:=@run_callFunc_extern K 195 _ (fun args=>ReflectliteValue.unpack (args.getD 0 (.tuple #[]))) Tryz.func195 (by kernel_rfl) (by kernel_rfl) (by kernel_rfl) (by kernel_rfl);have h7:=@run_callFunc_extern K 196 _ (ReflectliteValue.methodAny (ReflectliteValue.valueError "reflectlite.Value.Type" 0) (fun t _ _ _=>ReflectliteType.toType t)) Tryz.func196 (by kernel_rfl) (by kernel_rfl) (by kernel_rfl) (by kernel_rfl);have h8:=@run_callFunc_extern K 197 _ (ReflectliteValue.method (ReflectliteValue.valueError "reflectlite.Value.IsNil" 0) ReflectliteValue.isNil) Tryz.func197 (by kernel_rfl) (by kernel_rfl) (by kernel_rfl) (by kernel_rfl);obtain⟨fk,hk,k1,k2⟩:=Ox;obtain⟨fe,he,e1⟩:=Oy;obtain⟨fi,hi,i1⟩:=Oz;have f6:=Tryz.valueOfDD;have f7:=Tryz.typeDD;have mK:=Tryz.methodKind;have mE:=Tryz.methodElem;have mI:=Tryz.methodImpl;have jH:aK w ((w.alloc (C #[U (M t)] 215)).alloc (C #[U (M ⟨9,215,O⟩),U (M ⟨w.heap.size,0,O⟩),I .u64 150] 279)):=((aK.refl w).alloc _).alloc _;have pW:Hid (aK w ((w.alloc (C #[U (M t)] 215)).alloc (C #[U (M ⟨9,215,O⟩),U (M ⟨w.heap.size,0,O⟩),I .u64 150] 279))):=jH;have n8:=Tryz.isNilDD ⟨w.heap.size,0,O⟩ t ((w.alloc (C #[U (M t)] 215)).alloc (C #[U (M ⟨9,215,O⟩),U (M ⟨w.heap.size,0,O⟩),I .u64 150] 279)) (by simp)
 have jA:((w.alloc (C #[U (M t)] 215)).alloc (C #[U (M ⟨9,215,O⟩),U (M ⟨w.heap.size,0,O⟩),I .u64 150] 279)).cell? ⟨5,0,O⟩=M (.iface 318 (.agg #[U (M ⟨9,88,O⟩)])):=by
  have:=(hG.aM jH).QI;simp[World.cell?,this]
 have hL:=YW (x:= .iface 215 (U (M t))) (z1:=U (M ⟨9,215,O⟩)) (z2:=U (M ⟨w.heap.size,0,O⟩)) (z3:=I .u64 150) (mO.fr (Fr.bT jH (fun _=>False)) (fun _ _ _=>id) (fun _ _ _=>id) hC) hd;obtain⟨vt,vp,rfl⟩:=hC.shape;clear hG hC jH;go_enter Tryz.func129,Tryz.ntmps129
 go_wp2_with (go_at_call 198;refine hL.mono ?_;rintro e w4 ⟨rfl,lS⟩)
 go_ret;exact⟨rfl,bA pW.out lS⟩
theorem Tryz.valueOfD (e:Addr)(w:F):(ReflectliteValue.unpack (.iface 213 (U (M e)))).run K w
 = .ok (.agg #[U (M ⟨9,213,O⟩),U (M ⟨w.heap.size,0,O⟩),I .u64 150]) (w.alloc (C #[U (M e)] 213)):=by kernel_rfl
theorem Tryz.elemOfDD (w:F):(Rtype.elem? 215).run K w= .ok (M 213) w:=by kernel_rfl
theorem Tryz.mkD (p:Addr)(w:F):(ReflectliteValue.mk 213 p ReflectliteValue.flagAddr).run K w= .ok (.agg #[U (M ⟨9,213,O⟩),U (M p),I .u64 406]) w:=by kernel_rfl
theorem Tryz.elemVDD (a p:Addr)(W:F)(ha:W.cell? a=M (U (M p))):
 (ReflectliteValue.method (ReflectliteValue.valueError "reflectlite.Value.Elem" 0) ReflectliteValue.elem #[.agg #[U (M ⟨9,215,O⟩),U (M a),I .u64 150]]).run K W
  = .ok (.agg #[U (M ⟨9,213,O⟩),U (M p),I .u64 406]) W:=by
 rw[rlmz];simp only[Sem.run_bind,Tryz.partsDD,Result.andThen];simp[ReflectliteValue.elem,loadVar,isAgg,underlying,Tryz.underlying215,ha,Result.andThen,Tryz.elemOfDD,Tryz.mkD]
theorem Tryz.partsDa (a:Addr)(w:F):(ReflectliteValue.parts (.agg #[U (M ⟨9,213,O⟩),U (M a),I .u64 406])).run K w= .ok (M (213,a,406)) w:=by kernel_rfl
theorem Tryz.partsD (a:Addr)(w:F):(ReflectliteValue.parts (.agg #[U (M ⟨9,213,O⟩),U (M a),I .u64 150])).run K w= .ok (M (213,a,150)) w:=by kernel_rfl
theorem Tryz.directD (w:F):(Rtype.directlyAssignable 213 213).run K w= .ok true w:=by kernel_rfl
theorem Tryz.setD (ta b e:Addr)(old:Y)(W:F)(hb:W.cell? b=M (U (M e)))(ht:W.cell? ta=M old)(hf:W.frozen? ta=false):
 (ReflectliteValue.set #[.agg #[U (M ⟨9,213,O⟩),U (M ta),I .u64 406],.agg #[U (M ⟨9,213,O⟩),U (M b),I .u64 150]]).run K W
  = .ok (.tuple #[]) (W.setCell ta (U (M e))):=by
 show Sem.run K (ReflectliteValue.parts (.agg #[U (M ⟨9,213,O⟩),U (M ta),I .u64 406])>>=fun p=>ReflectliteValue.parts (.agg #[U (M ⟨9,213,O⟩),U (M b),I .u64 150])>>=fun q=>_) W=_;simp only[Sem.run_bind,Tryz.partsDa,Tryz.partsD,Result.andThen];simp[ReflectliteValue.flagAddr,loadVar,isAgg,underlying,Tryz.underlying213,hb,Result.andThen,Tryz.directD,storeVar,Value.cells,storeCells,Addr.add];rw[run_store K W ta _ _ (by rfl)];simp[ht,hf]
theorem d_ {e a:Addr}{old x:Y}(ha:w.cell? a=M (U (M t)))(ht:w.cell? t=M old)(hf:w.frozen? t=false):
 H K 198 #[.iface 213 (U (M e)),x,.agg #[U (M ⟨9,215,O⟩),U (M a),I .u64 150],.iface 318 (.agg #[U (M ⟨9,213,O⟩)])] w
  fun ev w'=>ev=G (.bool true)/\w'=((w.alloc (C #[U (M ⟨9,215,O⟩),U (M a),I .u64 150] 279)).alloc (C #[U (M e)] 213)).setCell t (U (M e)):=by
 have h8:=@run_callFunc_extern K 199 _ Extern.ReflectliteType.typeOf Tryz.func199 (by kernel_rfl) (by kernel_rfl) (by kernel_rfl) (by kernel_rfl);have h6:=@run_callFunc_extern K 195 _ (fun args=>ReflectliteValue.unpack (args.getD 0 (.tuple #[]))) Tryz.func195 (by kernel_rfl) (by kernel_rfl) (by kernel_rfl) (by kernel_rfl);have h11:=@run_callFunc_extern K 238 _ (ReflectliteValue.method (ReflectliteValue.valueError "reflectlite.Value.Elem" 0) ReflectliteValue.elem) Tryz.func238 (by kernel_rfl) (by kernel_rfl) (by kernel_rfl) (by kernel_rfl);have h12:=@run_callFunc_extern K 239 _ ReflectliteValue.set Tryz.func239 (by kernel_rfl) (by kernel_rfl) (by kernel_rfl) (by kernel_rfl);obtain⟨f,hf0,-,-,-,fD⟩:=Tx;have tD:=Tryz.typeOfD;have mA:=Tryz.methodAsg;have vD:=Tryz.valueOfD;have hal:=World.block_lt_of_cell? _ _ ha;have Uv:=World.block_lt_of_cell? _ _ ht;have el:=Tryz.elemVDD a t (w.alloc (C #[U (M ⟨9,215,O⟩),U (M a),I .u64 150] 279)) (by rw[World.cell?_alloc_lt _ _ a hal];exact ha)
 have st:=Tryz.setD t ⟨w.heap.size+1,0,O⟩ e old ((w.alloc (C #[U (M ⟨9,215,O⟩),U (M a),I .u64 150] 279)).alloc (C #[U (M e)] 213))
  (by rw[World.cell?_alloc_at _ _ _ _ (by simp)];rfl)
  (by rw[World.cell?_alloc_lt _ _ t (by simp;omega),World.cell?_alloc_lt _ _ t Uv];exact ht)
  (by rw[World.frozen?_alloc_old _ _ t (by simp;omega),World.frozen?_alloc_old _ _ t (Nat.ne_of_lt Uv)];exact hf)
 clear ha ht hf;go_enter Tryz.func198,Tryz.ntmps198
 go_wp2
 refine wp_loop_rounds 1 ?_;rw[rounds_succ]
 go_wp2
 go_ret;exact⟨rfl,rfl⟩
theorem f_ {e:Addr}{old:Y}(hte:t=⟨tb,0,O⟩)(hG:Gl w ps)(ht:w.cell? t=M old)(hf:w.frozen? t=false):
 H K 129 #[.iface 213 (U (M e)),.iface 215 (U (M t))] w fun ev w'=>ev=G (.bool true)/\w'.cell? t=M (U (M e))/\Og w w' tb:=by
 have h6:=@run_callFunc_extern K 195 _ (fun args=>ReflectliteValue.unpack (args.getD 0 (.tuple #[]))) Tryz.func195 (by kernel_rfl) (by kernel_rfl) (by kernel_rfl) (by kernel_rfl);have h7:=@run_callFunc_extern K 196 _ (ReflectliteValue.methodAny (ReflectliteValue.valueError "reflectlite.Value.Type" 0) (fun t _ _ _=>ReflectliteType.toType t)) Tryz.func196 (by kernel_rfl) (by kernel_rfl) (by kernel_rfl) (by kernel_rfl);have h8:=@run_callFunc_extern K 197 _ (ReflectliteValue.method (ReflectliteValue.valueError "reflectlite.Value.IsNil" 0) ReflectliteValue.isNil) Tryz.func197 (by kernel_rfl) (by kernel_rfl) (by kernel_rfl) (by kernel_rfl);obtain⟨fk,hk,k1,k2⟩:=Ox;obtain⟨fe,he,e1⟩:=Oy;obtain⟨fi,hi,i1⟩:=Oz;have f6:=Tryz.valueOfDD;have f7:=Tryz.typeDD;have mK:=Tryz.methodKind;have mE:=Tryz.methodElem;have mI:=Tryz.methodImpl;have jH:aK w ((w.alloc (C #[U (M t)] 215)).alloc (C #[U (M ⟨9,215,O⟩),U (M ⟨w.heap.size,0,O⟩),I .u64 150] 279)):=((aK.refl w).alloc _).alloc _;have pW:Hid (aK w ((w.alloc (C #[U (M t)] 215)).alloc (C #[U (M ⟨9,215,O⟩),U (M ⟨w.heap.size,0,O⟩),I .u64 150] 279))):=jH;have n8:=Tryz.isNilDD ⟨w.heap.size,0,O⟩ t ((w.alloc (C #[U (M t)] 215)).alloc (C #[U (M ⟨9,215,O⟩),U (M ⟨w.heap.size,0,O⟩),I .u64 150] 279)) (by simp)
 have jA:((w.alloc (C #[U (M t)] 215)).alloc (C #[U (M ⟨9,215,O⟩),U (M ⟨w.heap.size,0,O⟩),I .u64 150] 279)).cell? ⟨5,0,O⟩=M (.iface 318 (.agg #[U (M ⟨9,88,O⟩)])):=by
  have:=(hG.aM jH).QI;simp[World.cell?,this]
 have Uv:=World.block_lt_of_cell? _ _ ht;have HT:Hid (t=⟨tb,0,O⟩/\w.cell? t=M old):=⟨hte,ht⟩;clear hte
 have hL:=d_ (e:=e) (t:=t) (a:=⟨w.heap.size,0,O⟩) (old:=old) (x:= .iface 215 (U (M t))) (w:=(w.alloc (C #[U (M t)] 215)).alloc (C #[U (M ⟨9,215,O⟩),U (M ⟨w.heap.size,0,O⟩),I .u64 150] 279))
  (by simp) (by rw[World.cell?_alloc_lt _ _ t (by simp;omega),World.cell?_alloc_lt _ _ t Uv];exact ht) (by rw[World.frozen?_alloc_old _ _ t (by simp;omega),World.frozen?_alloc_old _ _ t (Nat.ne_of_lt Uv)];exact hf)
 clear hG jH ht hf Uv;go_enter Tryz.func129,Tryz.ntmps129
 go_wp2_with (go_at_call 198;refine hL.mono ?_;rintro e' w4 ⟨rfl,rfl⟩)
 go_ret;refine⟨rfl,?_,?_⟩
 ·have h1:=cell_later (((pW.out.alloc (C #[U (M ⟨9,215,O⟩),U (M ⟨w.heap.size,0,O⟩),I .u64 150] 279))).alloc (C #[U (M e)] 213)) HT.out.2;exact World.cell?_setCell_same' _ _ _ (by rw[h1];rfl)
 ·obtain rfl:=HT.out.1;exact((Og.refl w tb).aM ((pW.out.alloc _).alloc _)).set
theorem YZ {q:Int}(hG:Gl w ps)(h:IB w v q c):oC w v c:=by
 unfold oC;obtain⟨b,rfl,hb⟩:=h;have ZA:aK w (w.alloc (C #[U O] 213)):=(aK.refl w).alloc _;have hn:=heap_alloc_new w (C #[U O] 213);have hA:=f_ (w:=w.alloc (C #[U O] 213)) (e:=⟨b,0,O⟩) (t:=⟨w.heap.size,0,O⟩) (tb:=w.heap.size) (old:=U O) rfl (hG.aM ZA) (by rw[Lib.cell_of_heap hn];rfl) (Lib.frozen_of_heap hn 0);have HB:Hid (w.heap[b]?=M (C #[I .u8 q,I V c] 217 (0,0))):=hb;have HG:Hid (aK w (w.alloc (C #[U O] 213))):=ZA;clear hG hb ZA hn;go_enter Tryz.func84,Tryz.ntmps84
 go_wp2_with fail
 refine hA.mono ?_;rintro e w1 ⟨rfl,h1,h2⟩;have Xq:=aL HB.out;have bX:w1.heap[b]?=M (C #[I .u8 q,I V c] 217 (0,0)):=h2.1.at ((HG.out.block _ Xq).trans HB.out) (by omega);have c1:w1.cell? ⟨b,1,O⟩=M (I V c):=by simp[World.cell?,bX]
 have HGG:Hid (aK w w1):=by
  show aK w w1;refine⟨h2.2.1.trans HG.out.os,h2.2.2.1.trans HG.out.tape,h2.2.2.2.trans HG.out.output,Nat.le_trans HG.out.size h2.1.1,fun k hk=>?_⟩;rw[h2.1.2 k (Nat.lt_of_lt_of_le hk HG.out.size) (by omega)];exact HG.out.block k hk
 clear hA h2 bX Xq
 go_wp2_with fail
 go_ret;exact⟨rfl,HGG.out⟩
theorem JQ {d k:Nat}(hG:Gl w ps)(hC:mO w ps d v k)(hd:d<=5)(hk:k<5):oC w v (Nr k):=by
 unfold oC;have ZA:aK w (w.alloc (C #[U O] 213)):=(aK.refl w).alloc _;have hC0:=mO.fr (Fr.bT ZA (fun _=>False)) (fun _ _ _=>id) (fun _ _ _=>id) hC;have hA:=YX (t:=⟨w.heap.size,0,O⟩) (hG.aM ZA) hC0 hd;have HI:Hid (∀W j,aK w W->j<5->H K 130 #[v,gP (ps j)] W fun e w'=>e=G (.bool (decide (k=j)))/\w'=W):=fun W j hW hj=>eIs_pg (hG.aM hW) (mO.fr (Fr.bT hW (fun _=>False)) (fun _ _ _=>id) (fun _ _ _=>id) hC) hd hk hj
 have Be:Hid (Gl w ps):=hG;have HG:Hid (aK w (w.alloc (C #[U O] 213))):=ZA;obtain⟨vt,vp,rfl⟩:=hC.shape;clear hG hC hC0 ZA;go_enter Tryz.func84,Tryz.ntmps84
 go_wp2_with fail
 refine hA.mono ?_;rintro e w1 ⟨rfl,h1⟩;have XJ:aK w w1:=bA HG.out h1;have c0:=(Be.out.aM XJ).sM.cell (k:=0) (by omega);have c1:=(Be.out.aM XJ).sM.cell (k:=1) (by omega);have c2:=(Be.out.aM XJ).sM.cell (k:=2) (by omega);have i0:=HI.out w1 0 XJ (by omega);have i1:=HI.out w1 1 XJ (by omega);have i2:=HI.out w1 2 XJ (by omega);have HGG:Hid (aK w w1):=XJ;clear hA h1 XJ HI Be HG;have HK:Hid (k=0\/k=1\/k=2\/k=3\/k=4):=by show _\/_;omega
 clear hk
 go_wp2_with fail
 refine i1.mono ?_;rintro e w1 ⟨rfl,rfl⟩;clear i1;by_cases e1:k=1
 ·subst e1;rw[decide_eq_true rfl]
  go_wp2_with fail
  go_ret;exact⟨rfl,HGG.out⟩
 rw[decide_eq_false e1]
 go_wp2_with fail
 refine i2.mono ?_;rintro e w1 ⟨rfl,rfl⟩;clear i2;by_cases e2:k=2
 ·subst e2;rw[decide_eq_true rfl]
  go_wp2_with fail
  go_ret;exact⟨rfl,HGG.out⟩
 rw[decide_eq_false e2]
 go_wp2_with fail
 refine i0.mono ?_;rintro e w1 ⟨rfl,rfl⟩;clear i0;by_cases e0:k=0
 ·subst e0;rw[decide_eq_true rfl]
  go_wp2_with fail
  go_ret;exact⟨rfl,HGG.out⟩
 rw[decide_eq_false e0]
 go_wp2_with fail
 go_ret;refine⟨?_,HGG.out⟩;rcases HK.out with h|h|h|h|h
 ·exact absurd h e0
 ·exact absurd h e1
 ·exact absurd h e2
 ·subst h;rfl
 ·subst h;rfl
theorem sQ {D:Nat}(hG:Gl w ps)(h:iX w ps D v c)(hD:D<=5):oC w v c:=by
 rcases h with⟨rfl,rfl⟩|⟨d,k,h1,h2,rfl,h3⟩
 ·exact CU w
 ·exact JQ hG h3 (by omega) h2
theorem RI {ep d q a b:Int}{text:ByteArray}(h:aS w db s fv rs)(hL:w.heap[lp]?=M (gT db ep))(hG:Gl w ps)(hO:lY 998 s (plain rs))(uO:0<=ep)(Bb:ep<=1000)(hq:0<=q)(zS:q<256)(hd:bQ d)(ha:bQ a)(hb:bQ b)(hc:bQ c)(TF:text.size<=1000000):
 H K 87 #[U (M ⟨lp,0,O⟩),I V d,fK q a b c,.string text] w fun e w'=> ∃v,e=G v/\kL w w' ps db fv rs 2 v (EI s (plain rs) ep text (fU q d a b c)):=by
 have hd':=hd;unfold bQ at hd';unfold EI;by_cases h0:text.size=0
 ·rw[if_pos h0]
  have e:text=⟨#[]⟩:=by
   cases text with
   |mk a=>simp[ByteArray.size]at h0;rw[h0]
  rw[e];exact IL h hL hG hO uO Bb (by omega) (by omega) hq zS hd ha hb hc
 ·rw[if_neg h0];by_cases h1:(dR s (plain rs) 1 text).1=0
  ·rw[if_neg (fun hh=>hh h1)];exact QK h hL hG hO uO Bb (by omega) (by omega) hq zS hd ha hb hc h0 TF h1
  ·rw[if_pos h1];exact QJ h hL hG hO uO Bb (by omega) (by omega) hq zS hd ha hb hc h0 TF h1
theorem e_clo:∀(args:Array Y) (w:F),(callFunc 86 args).run K w= .ok (.enter 86 args) w:=enters_of Tryz.func86 (by kernel_rfl) rfl
def JR (w:F)(ob cb xb sp lp dp:Nat)(q a b c:Int)(text:ByteArray):Prop:=
 w.heap[ob]?=M (C #[U (M ⟨sp,0,O⟩)] 78 (0,0))/\w.heap[cb]?=M (C #[I .u8 q,I V a,I V b,I V c] 99 (0,0))/\w.heap[xb]?=M (C #[.string text] 9 (0,0))/\∃ro,w.heap[sp]?=M (qH lp dp ro)
def JS (qp db:Nat)(fv:Y)(rs:List FR)(b:Nat):Prop:=b=qp\/DX db fv rs b
def La (qp db:Nat)(fv:Y)(rs:List FR)(sp lp dp tb:Nat)(b:Nat):Prop:=b=qp\/DX db fv rs b\/b=sp\/b=lp\/b=dp\/b=tb
structure oD (w:F)(qp db:Nat)(s:Sc)(ro:Bool)(fv:Y)(rs:List FR)(sp lp dp tb:Nat)(m:bR):Prop where
 disk:aS w db s fv rs
 qu:w.heap[qp]?=M (xC s.most s.depth db (M sp))
 xD:w.heap[sp]?=M (qH lp dp ro)
 rP:w.heap[lp]?=M (gT db s.aZ)
 Ty:aR w dp tb s.depth.toNat m
def uR (w:F)(qp:Nat)(s:Sc)(fs:List bE)(m:bR)(X:Nat->Prop):Prop:=
 (s.aX=false/\∃db fv rs,aS w db s fv rs/\plain rs=fs/\w.heap[qp]?=M (xC s.most s.depth db O)/\X=JS qp db fv rs)\/
 (s.aX=true/\∃db fv rs sp lp dp tb,oD w qp db s s.ro fv rs sp lp dp tb m/\plain rs=fs/\X=La qp db fv rs sp lp dp tb)
def Bf (w w':F)(qp:Nat)(X:Nat->Prop)(x:St):Prop:=∃X',uR w' qp x.1 x.2.1 x.2.2 X'/\Dk w w' X X'
theorem oD.aM (h:oD w qp db s ro fv rs sp lp dp tb m)(hg:aK w w'):oD w' qp db s ro fv rs sp lp dp tb m:=
 ⟨h.disk.aM hg,(hg.block _ (aL h.qu)).trans h.qu,(hg.block _ (aL h.xD)).trans h.xD,(hg.block _ (aL h.rP)).trans h.rP,h.Ty.aM hg⟩
theorem uR.aM (h:uR w qp s fs m X)(hg:aK w w'):uR w' qp s fs m X:=by
 rcases h with⟨h0,db,fv,rs,h1,h2,h3,h4⟩|⟨h0,db,fv,rs,sp,lp,dp,tb,h1,h2,h3⟩
 ·exact Or.inl ⟨h0,db,fv,rs,h1.aM hg,h2,(hg.block _ (aL h3)).trans h3,h4⟩
 ·exact Or.inr ⟨h0,db,fv,rs,sp,lp,dp,tb,h1.aM hg,h2,h3⟩
theorem aR.off {g:Nat}{aQ:Array Y}{t:TypeId}{f:Nat×Nat}(h:aR w dp tb depth m)(hF:Fr w w' (fun b=>b=g))(hg:w.heap[g]?=M (C aQ t f))(t1:t≠147)(t2:t≠160)(t3:t≠234)(t4:t≠114)(t5:t≠261):aR w' dp tb depth m:=by
 obtain⟨u,r,h1,h2,h3,h4⟩:=h;obtain⟨c,hc⟩:=h2.ty;exact⟨u,r,hF.at h1 (aW h1 hg (Ne.symm t1)),h2.fr hF (aW hc hg (Ne.symm t2)) (fun b la ra p h l hb=>aW hb hg (Ne.symm t3)),h3.fr hF (fun b aQ hb=>aW hb hg (Ne.symm t4)) (fun b aQ hb=>aW hb hg (Ne.symm t5)),h4.fr hF (fun b aQ hb=>aW hb hg (Ne.symm t4)) (fun b aQ hb=>aW hb hg (Ne.symm t5))⟩
theorem oD.dk {s':Sc}{dI:Y}{dH:List FR}(h:oD w qp db s ro fv rs sp lp dp tb m)(hd:aS w' db s' dI dH)(hk:Dk w w' (DX db fv rs) (DX db dI dH))(hs:gY s s'):
 oD w' qp db s' ro dI dH sp lp dp tb m/\Dk w w' (La qp db fv rs sp lp dp tb) (La qp db dI dH sp lp dp tb):=by
 obtain⟨e1,e2,e3,e4⟩:=hs;refine⟨⟨hd,?_,hk.1.at h.xD (h.disk.other h.xD (by decide) (by decide) (by decide) (by decide)),?_,?_⟩,hk.1.mono (fun b hb=>Or.inr (Or.inl hb)),hk.2.1,?_⟩
 ·rw[e1,e2];exact hk.1.at h.qu (h.disk.other h.qu (by decide) (by decide) (by decide) (by decide))
 ·rw[e4];exact hk.1.at h.rP (h.disk.other h.rP (by decide) (by decide) (by decide) (by decide))
 ·rw[e2];exact h.Ty.dsk h.disk hk
 ·rintro b (hb|hb|hb)
  ·exact Or.inl (Or.inl hb)
  ·rcases hk.2.2 b hb with k|k
   ·exact Or.inl (Or.inr (Or.inl k))
   ·exact Or.inr k
  ·exact Or.inl (Or.inr (Or.inr hb))
theorem oD.tx {m':bR}(h:oD w qp db s ro fv rs sp lp dp tb m)(hd:aR w' dp tb s.depth.toNat m')(hk:Dk w w' (TX dp tb) (TX dp tb)):
 oD w' qp db s ro fv rs sp lp dp tb m'/\Dk w w' (La qp db fv rs sp lp dp tb) (La qp db fv rs sp lp dp tb):=by
 obtain⟨u,r,h1,h2,-⟩:=h.Ty;obtain⟨c,hc⟩:=h2.ty
 have hne:∀ {b:Nat} {aQ:Array Y} {t:TypeId} {f:Nat×Nat},w.heap[b]?=M (C aQ t f)->t≠147->t≠160->¬TX dp tb b:=fun {b aQ t f} hb k1 k2 e=>by
  rcases e with rfl|rfl
  ·exact aW hb h1 k1 rfl
  ·exact aW hb hc k2 rfl
 refine⟨⟨h.disk.fr hk.1 ?_,hk.1.at h.qu (hne h.qu (by decide) (by decide)),hk.1.at h.xD (hne h.xD (by decide) (by decide)),hk.1.at h.rP (hne h.rP (by decide) (by decide)),hd⟩,hk.1.mono ?_,hk.2.1,fun b hb=>Or.inl hb⟩
 ·intro b hb e;rcases e with rfl|rfl
  ·exact h.disk.other h1 (by decide) (by decide) (by decide) (by decide) hb
  ·exact h.disk.other hc (by decide) (by decide) (by decide) (by decide) hb
 ·rintro b (e|e)
  ·exact Or.inr (Or.inr (Or.inr (Or.inr (Or.inl e))))
  ·exact Or.inr (Or.inr (Or.inr (Or.inr (Or.inr e))))
def Qi (w:F)(b:Nat):Prop:=∃aQ t mk,w.heap[b]?=M (C aQ t mk)/\(t=137\/t=155\/t=157\/t=5\/t=80\/t=93\/t=140\/t=147\/t=160)
theorem DTy.q (h:DTy w b):Qi w b:=by
 obtain⟨aQ,t,mk,h1,h2|h2|h2|h2⟩:=h<;>exact⟨aQ,t,mk,h1,by simp[h2]⟩
theorem oD.ty (h:oD w qp db s ro fv rs sp lp dp tb m)(hb:La qp db fv rs sp lp dp tb b):Qi w b:=by
 obtain⟨u,r,h1,h2,-⟩:=h.Ty;obtain⟨c,hc⟩:=h2.ty;rcases hb with rfl|hb|rfl|rfl|rfl|rfl
 ·exact⟨_,_,_,h.qu,by simp⟩
 ·exact(h.disk.ty hb).q
 ·exact⟨_,_,_,h.xD,by simp⟩
 ·exact⟨_,_,_,h.rP,by simp⟩
 ·exact⟨_,_,_,h1,by simp⟩
 ·exact⟨_,_,_,hc,by simp⟩
theorem uR.ty (h:uR w qp s fs m X)(hb:X b):Qi w b:=by
 rcases h with⟨h0,db,fv,rs,h1,h2,h3,rfl⟩|⟨h0,db,fv,rs,sp,lp,dp,tb,h1,h2,rfl⟩
 ·rcases hb with rfl|hb
  ·exact⟨_,_,_,h3,by simp⟩
  ·exact(h1.ty hb).q
 ·exact h1.ty hb
theorem Qi.lt (h:Qi w b):b<w.heap.size:=by
 obtain⟨aQ,t,mk,h1,-⟩:=h;exact aL h1
theorem Qi.ne (h:Qi w b){c:Nat}{aQ:Array Y}{t:TypeId}{f:Nat×Nat}(hc:w.heap[c]?=M (C aQ t f))(ht:t≠137/\t≠155/\t≠157/\t≠5/\t≠80/\t≠93/\t≠140/\t≠147/\t≠160):b≠c:=by
 obtain⟨oF,t',mk',h1,h2⟩:=h;refine aW h1 hc ?_;rintro rfl;obtain⟨k1,k2,k3,k4,k5,k6,k7,k8,k9⟩:=ht;rcases h2 with e|e|e|e|e|e|e|e|e
 ·exact k1 e
 ·exact k2 e
 ·exact k3 e
 ·exact k4 e
 ·exact k5 e
 ·exact k6 e
 ·exact k7 e
 ·exact k8 e
 ·exact k9 e
theorem aR.fr (h:aR w dp tb depth m)(hF:Fr w w' aA)(hY:∀b,aA b->Qi w b)(h1:¬aA dp)(h2:¬aA tb):aR w' dp tb depth m:=by
 obtain⟨u,r,k1,k2,k3,k4⟩:=h;have no:∀ {b:Nat} {aQ:Array Y} {t:TypeId} {f:Nat×Nat},w.heap[b]?=M (C aQ t f)->(t≠137/\t≠155/\t≠157/\t≠5/\t≠80/\t≠93/\t≠140/\t≠147/\t≠160)->¬aA b:=fun hb ht e=>(hY _ e).ne hb ht rfl
 exact⟨u,r,hF.at k1 h1,k2.fr hF h2 (fun b la ra p h l hb=>no hb (by decide)),k3.fr hF (fun b aQ hb=>no hb (by decide)) (fun b aQ hb=>no hb (by decide)),k4.fr hF (fun b aQ hb=>no hb (by decide)) (fun b aQ hb=>no hb (by decide))⟩
theorem uR.fr (h:uR w qp s fs m X)(hF:Fr w w' aA)(hY:∀b,aA b->Qi w b)(hX:∀b,X b->¬aA b):uR w' qp s fs m X:=by
 rcases h with⟨h0,db,fv,rs,h1,h2,h3,rfl⟩|⟨h0,db,fv,rs,sp,lp,dp,tb,h1,h2,rfl⟩
 ·exact Or.inl ⟨h0,db,fv,rs,h1.fr hF (fun b hb=>hX b (Or.inr hb)),h2,hF.at h3 (hX _ (Or.inl rfl)),rfl⟩
 ·exact Or.inr ⟨h0,db,fv,rs,sp,lp,dp,tb,⟨h1.disk.fr hF (fun b hb=>hX b (Or.inr (Or.inl hb))),hF.at h1.qu (hX _ (Or.inl rfl)),hF.at h1.xD (hX _ (Or.inr (Or.inr (Or.inl rfl)))),hF.at h1.rP (hX _ (Or.inr (Or.inr (Or.inr (Or.inl rfl))))),h1.Ty.fr hF hY (hX _ (Or.inr (Or.inr (Or.inr (Or.inr (Or.inl rfl)))))) (hX _ (Or.inr (Or.inr (Or.inr (Or.inr (Or.inr rfl))))))⟩,h2,rfl⟩
theorem Gl.q (h:Gl w ps)(hF:Fr w w' aA)(hY:∀b,aA b->Qi w b):Gl w' ps:=
 h.fr hF (fun b aQ hb e=>(hY _ e).ne hb (by decide) rfl) (fun b aQ t g hb e=>(hY _ e).ne hb ⟨g.ne (by decide),g.ne (by decide),g.ne (by decide),g.ne (by decide),g.ne (by decide),g.ne (by decide),g.ne (by decide),g.ne (by decide),g.ne (by decide)⟩ rfl) (fun b aQ hb e=>(hY _ e).ne hb (by decide) rfl) (fun b aQ hb e=>(hY _ e).ne hb (by decide) rfl)
def RJ (s:Sc)(code:Int):Prop:=(code=10/\s.aX=false)\/(code=9/\s.aX=true/\s.ro=true)\/(¬code=9/\¬code=10/\s.aX=true/\s.ro=false)
theorem NJ {W:F}{code:Int}(h:oD W qp db s false fv rs sp lp dp tb m)(hf:RJ s code)(hE:oC W v code)(hk:Dk w W X (La qp db fv rs sp lp dp tb)):
 H K 49 #[U (M ⟨qp,0,O⟩),v] W fun e w'=>e=G (I V code)/\Bf w w' qp X (s,plain rs,m):=by
 rcases hf with⟨rfl,ho⟩|⟨rfl,ho,hr⟩|⟨h9,h10,ho,hr⟩
 ·refine(Ie h.qu hE).mono ?_;rintro e w' ⟨rfl,hq,jY⟩;refine⟨rfl,JS qp db fv rs,Or.inl ⟨ho,db,fv,rs,h.disk.fr jY.1 ?_,rfl,hq,rfl⟩,hk.trans ⟨jY.1.mono ?_,jY.2,?_⟩⟩
  ·rintro b hb rfl;exact h.disk.other h.qu (by decide) (by decide) (by decide) (by decide) hb
  ·rintro b rfl;exact Or.inl rfl
  ·rintro b (hb|hb)
   ·exact Or.inl (Or.inl hb)
   ·exact Or.inl (Or.inr (Or.inl hb))
 ·refine(CR h.qu h.xD hE).mono ?_;rintro e w' ⟨rfl,hq,jY⟩;refine⟨rfl,La qp db fv rs sp lp dp tb,Or.inr ⟨ho,db,fv,rs,sp,lp,dp,tb,⟨h.disk.fr jY.1 ?_,jY.1.at h.qu (aW h.qu h.xD (by decide)),?_,jY.1.at h.rP (aW h.rP h.xD (by decide)),h.Ty.off jY.1 h.xD (by decide) (by decide) (by decide) (by decide) (by decide)⟩,rfl,rfl⟩,hk.trans ⟨jY.1.mono ?_,jY.2,fun b hb=>Or.inl hb⟩⟩
  ·rintro b hb rfl;exact h.disk.other h.xD (by decide) (by decide) (by decide) (by decide) hb
  ·rw[hr];exact hq
  ·rintro b rfl;exact Or.inr (Or.inr (Or.inl rfl))
 ·refine(Ou hE h9 h10).mono ?_;rintro e w' ⟨rfl,hg⟩;have:=h.aM hg;rw[<-hr]at this;exact⟨rfl,La qp db fv rs sp lp dp tb,Or.inr ⟨ho,db,fv,rs,sp,lp,dp,tb,this,rfl,rfl⟩,hk.aM hg⟩
theorem CV {W:F}{code:Int}(hd:aS W db s fv rs)(hq:W.heap[qp]?=M (xC s.most s.depth db O))(ho:s.aX=false)(hE:oC W v code)(hk:Dk w W X (JS qp db fv rs)):
 H K 49 #[U (M ⟨qp,0,O⟩),v] W fun e w'=>e=G (I V code)/\Bf w w' qp X (s,plain rs,m):=by
 by_cases h10:code=10
 ·subst h10;refine(Ie hq hE).mono ?_;rintro e w' ⟨rfl,zS,jY⟩;refine⟨rfl,JS qp db fv rs,Or.inl ⟨ho,db,fv,rs,hd.fr jY.1 ?_,rfl,zS,rfl⟩,hk.trans ⟨jY.1.mono ?_,jY.2,fun b hb=>Or.inl hb⟩⟩
  ·rintro b hb rfl;exact hd.other hq (by decide) (by decide) (by decide) (by decide) hb
  ·rintro b rfl;exact Or.inl rfl
 ·have key:∀w',aK W w'->Bf w w' qp X (s,plain rs,m):=fun w' hg=>⟨JS qp db fv rs,Or.inl ⟨ho,db,fv,rs,hd.aM hg,rfl,(hg.block _ (aL hq)).trans hq,rfl⟩,hk.aM hg⟩
  by_cases h9:code=9
  ·subst h9;refine(Ri hq hE).mono ?_;rintro e w' ⟨rfl,hg⟩;exact⟨rfl,key w' hg⟩
  ·refine(Ou hE h9 h10).mono ?_;rintro e w' ⟨rfl,hg⟩;exact⟨rfl,key w' hg⟩
theorem Fe {N:Nat}{n:Int}{b:ByteArray}(h:lY N s fs)(hn:0<=n/\n<=9223372036854775807)(hb:b.size≠0)(ho:s.aX=true)(hr:s.ro=false):RJ (dR s fs n b).2.1 (dR s fs n b).1/\gY s (dR s fs n b).2.1:=by
 rcases Uq h.dN h.inv hn hb with⟨s',e,hd,-⟩|⟨s',e,hs,h1,h2,-⟩|⟨s',bZ,e,hd⟩
 ·rw[e];exact⟨Or.inr (Or.inr ⟨by simp,by simp,hd.2.1.trans ho,hd.2.2.1.trans hr⟩),hd.1⟩
 ·rw[e];exact⟨Or.inr (Or.inl ⟨rfl,h1.trans ho,h2⟩),hs⟩
 ·rw[e];exact⟨Or.inl ⟨rfl,hd.2.1⟩,hd.1⟩
theorem RJ.ok (h:RJ s 0):s.aX=true/\s.ro=false:=by
 rcases h with⟨e,-⟩|⟨e,-⟩|⟨-,-,h1,h2⟩
 ·omega
 ·omega
 ·exact⟨h1,h2⟩
theorem ZB {N:Nat}{ep:Int}{text rec:ByteArray}(h:lY N s fs)(he:0<=ep/\ep<=1000)(hb:rec.size≠0)(ho:s.aX=true)(hr:s.ro=false):RJ (EI s fs ep text rec).2.1 (EI s fs ep text rec).1/\gY s (EI s fs ep text rec).2.1:=by
 unfold EI;by_cases hz:text.size=0
 ·rw[if_pos hz];exact Fe h (by omega) hb ho hr
 ·rw[if_neg hz];have h1:=Fe h (n:=1) (by omega) hz ho hr;by_cases hc:(dR s fs 1 text).1≠0
  ·rw[if_pos hc];exact h1
  ·rw[if_neg hc];have Kn:(dR s fs 1 text).1=0:=by omega
   have h2:=h1.1;rw[Kn]at h2;have h3:=Fe (h.add (n:=1) (by omega) hz) (n:=10+ep) (b:=rec) (by omega) hb h2.ok.1 h2.ok.2;exact⟨h3.1,h1.2.trans h3.2⟩
theorem g_ {q a b most:Int}(hg:dJ m depth)(h:mJ m q a b c most=0):(bQ a/\bQ b/\bQ c)/\(q=73\/q=68\/q=85\/q=82)/\c<=200:=by
 have h1:=hg.yT;have h2:=hg.tC;have h3:=hg.long;unfold mJ at h;unfold bQ;split at h
 ·obtain⟨k,-⟩:=Kq (depth:=depth) h;omega
 ·split at h
  ·obtain⟨k,-⟩:=Kr (depth:=depth) h;omega
  ·split at h
   ·obtain⟨e,r,-,k,-⟩:=Er (depth:=depth) h;omega
   ·split at h
    ·obtain⟨e,r,-,k,-⟩:=Es (depth:=depth) h;omega
    ·omega
end Go.Proofs.YtfplgfodoiiobaaGreatDoor
