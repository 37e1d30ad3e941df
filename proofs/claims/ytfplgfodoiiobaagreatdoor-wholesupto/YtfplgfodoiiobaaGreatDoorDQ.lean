/- QlD to QlK (joined). -/
import Derived.LaidEql
import Derived.Stop.Asserts
import Derived.Test.YtfplgfodoiiobaaGreatDoorD26
open Option renaming none→O,some→M
open Go.Value renaming int→I,slice→Z,pointer→U
open Go.IntKind renaming i64→V
open Go.Obj renaming cells→C
open Go.Ending renaming returned→G
open Go renaming World→F,Value→Y,Calls→H
open Go.Proofs.Tryz renaming prog→K
open Go.Proofs.Tryz
namespace Go.Proofs.YtfplgfodoiiobaaGreatDoor
set_option maxHeartbeats 1000000
set_option maxRecDepth 100000
open Go.RowKit
open Go.RowKit Go.Extern.Stop Go.Stop Go.Extern
abbrev AbJ:=@Go.run_typeAssert_lacksB
abbrev AcH:=@Go.World.cell?_alloc_lt
abbrev AcO:=@Go.World.frozen?_alloc_old
variable {w:F}{v:Y}{ps:Nat->Addr}{qp db k d lp sp dp tb:Nat}{most depth c pos n:Int}{ro:Bool}{t:Addr}
theorem Tryz.isTypeOf (v:Y)(w:F):(Extern.ReflectliteType.typeOf #[.iface 358 v]).run K w= .ok (.iface 318 (.agg #[U (M ⟨9,358,O⟩)])) w:=by kernel_rfl
theorem Tryz.isMethodComparable (v:Y)(w:F):(Go.method 488 318 v "Comparable").run K w= .ok (300,v) w:=by kernel_rfl
theorem Tryz.isComp:(Tryz.prog.info? 358).map (·.comparable)=M true:=by kernel_rfl
theorem Tryz.isSize:(Tryz.prog.info? 376).map (·.size)=M 1:=by kernel_rfl
theorem Tryz.noIsE (v:Y)(xT:TypeId)(w:F):(Instr.typeAssert (.iface 358 v) xT 329 true).run K w= .ok (.tuple #[.nilIface,.bool false]) w:=AbJ underlying329 (by kernel_rfl) (by kernel_rfl) v xT w
theorem Tryz.noUnwrapE (v:Y)(xT:TypeId)(w:F):(Instr.typeAssert (.iface 358 v) xT 325 true).run K w= .ok (.tuple #[.nilIface,.bool false]) w:=AbJ underlying325 (by kernel_rfl) (by kernel_rfl) v xT w
theorem Tryz.noUnwrapsE (v:Y)(xT:TypeId)(w:F):(Instr.typeAssert (.iface 358 v) xT 326 true).run K w= .ok (.tuple #[.nilIface,.bool false]) w:=AbJ underlying326 (by kernel_rfl) (by kernel_rfl) v xT w
theorem Tryz.noIsS (v:Y)(xT:TypeId)(w:F):(Instr.typeAssert (.iface 290 v) xT 329 true).run K w= .ok (.tuple #[.nilIface,.bool false]) w:=AbJ underlying329 (by kernel_rfl) (by kernel_rfl) v xT w
theorem Tryz.noIsL (v:Y)(xT:TypeId)(w:F):(Instr.typeAssert (.iface 208 v) xT 329 true).run K w= .ok (.tuple #[.nilIface,.bool false]) w:=AbJ underlying329 (by kernel_rfl) (by kernel_rfl) v xT w
theorem Tryz.hasUnwrapS (v:Y)(xT:TypeId)(w:F):(Instr.typeAssert (.iface 290 v) xT 325 true).run K w= .ok (.tuple #[.iface 290 v,.bool true]) w:=run_typeAssert_hasB underlying325 (by kernel_rfl) v xT w
theorem Tryz.hasUnwrapL (v:Y)(xT:TypeId)(w:F):(Instr.typeAssert (.iface 208 v) xT 325 true).run K w= .ok (.tuple #[.iface 208 v,.bool true]) w:=run_typeAssert_hasB underlying325 (by kernel_rfl) v xT w
theorem Tryz.methodUnwrapS (v:Y)(w:F):(Go.method 488 290 v "Unwrap").run K w= .ok (297,v) w:=by kernel_rfl
theorem Tryz.methodUnwrapL (v:Y)(w:F):(Go.method 488 208 v "Unwrap").run K w= .ok (291,v) w:=by kernel_rfl
def NT (w:F):Nat->Y->Nat
 |f+1,.iface t (U (M a))=>if t=290 then 1+NT w f ((w.cell? ⟨a.block,2,O⟩).getD .nilIface)else if t=208 then 1+NT w f ((w.cell? ⟨a.block,1,O⟩).getD .nilIface)else 0
 |_,_=>0
theorem Ej:∀ {f d:Nat} {v:Y},qA w ps d v k->d<f->NT w f v=d
 |0,_,_,_,h=>by omega
 |f+1,0,v,h,_=>by
  have e:v=jH (ps k):=h;subst e;simp[NT,jH]
 |f+1,d+1,v,h,hl=>by
  rcases h with⟨b,nm,num,x,rfl,hb,hx⟩|⟨b,nm,x,rfl,hb,hx⟩
  ·have:=Ej (f:=f) hx (by omega);simp[NT,World.cell?,hb,this];omega
  ·have:=Ej (f:=f) hx (by omega);simp[NT,World.cell?,hb,this];omega
theorem qA.shape:∀ {d:Nat} {v:Y},qA w ps d v k->∃t p,v= .iface t (U (M p))
 |0,_,h=>⟨_,_,h⟩
 |_+1,_,h=>by
  rcases h with⟨b,nm,num,x,rfl,-,-⟩|⟨b,nm,x,rfl,-,-⟩
  ·exact⟨_,_,rfl⟩
  ·exact⟨_,_,rfl⟩
theorem Uz {b:Nat}(h:w.cell? ⟨b,2,O⟩=M v):H K 297 #[U (M ⟨b,0,O⟩)] w fun e w'=>e=G v/\w'=w:=by
 go_enter func297,ntmps297;go_wp2_with fail;go_ret;exact⟨rfl,rfl⟩
theorem Va {b:Nat}(h:w.cell? ⟨b,1,O⟩=M v):H K 291 #[U (M ⟨b,0,O⟩)] w fun e w'=>e=G v/\w'=w:=by
 go_enter func291,ntmps291;go_wp2_with fail;go_ret;exact⟨rfl,rfl⟩
theorem eis_pg {j:Nat}(hG:Gl w ps)(hC:qA w ps d v k)(hd:d<=5)(hk:k<5)(hj:j<5):
 H K 200 #[v,jH (ps j),.bool true] w fun e w'=>e=G (.bool (decide (k=j)))/\w'=w:=by
 obtain⟨i,hi,hcmp⟩:=AbP.1 Tryz.isComp;obtain⟨jj,hjj,hjs⟩:=AbP.1 Tryz.isSize;have nE:=Tryz.noIsE;have uE:=Tryz.noUnwrapE;have vE:=Tryz.noUnwrapsE;have nS:=Tryz.noIsS;have nL:=Tryz.noIsL;have uS:=Tryz.hasUnwrapS;have uL:=Tryz.hasUnwrapL;have mS:=Tryz.methodUnwrapS;have mL:=Tryz.methodUnwrapL
 have HEQ:Hid ((binOp .eql 88 (jH (ps k)) (jH (ps j))).run K w= .ok (.bool (decide (k=j))) w):=by
  show _=_;unfold jH;by_cases e:k=j
  ·subst e;rw[AaH rfl];exact run_eql_iface_ptr_same (P:=K) w _ underlying88 underlying358 hi hcmp hjj
  ·rw[AaN e];obtain⟨ca,ta,ha,-⟩:=hG.box k hk;obtain⟨cb,tb,hb,-⟩:=hG.box j hj;exact run_eql_iface_ptr_other (P:=K) w underlying88 underlying358 hi hcmp hjj (by rw[hjs];decide) (fun h=>e (hG.xR.2 k j hk hj h)) ha hb
 have HC:Hid (qA w ps d v k):=hC;clear hC hG;generalize decide (k=j)=bb at*;go_enter func200,ntmps200;go_wp2_with fail
 go_loop [0] (fun x=> ∃d':Nat,d'<=d/\Hid (qA w ps d' x k)) (fun x=>NT w 10 x)
 case atStart=>exact⟨d,Aak _,HC⟩
 case round=>
  obtain⟨d',hd',HR⟩:=hrel;cases d' with
  |zero=>
   obtain rfl:=(HR.out:_=jH (ps k));have heq:=HEQ.out;unfold jH at heq ⊢;cases bb with
   |true=>
    go_wp2_with fail;go_ret;exact⟨rfl,rfl⟩
   |false=>
    go_wp2_with fail;go_ret;exact⟨rfl,rfl⟩
  |succ d'=>
   have Tv:=Ej (f:=10) HR.out (by omega);rcases HR.out with⟨b,nm,num,y,rfl,hb,hy⟩|⟨b,nm,y,rfl,hb,hy⟩
   ·have hU:=Uz (w:=w) (b:=b) (v:=y) (by simp[World.cell?,hb]);have vV:=run_eql_iface_types (P:=K) 290 358 (U (M ⟨b,0,O⟩)) (U (M (ps j))) underlying88 (by decide) w;obtain⟨yt,yp,ey⟩:=hy.shape;have HY:Hid (qA w ps d' y k):=hy;have hcy:=Ej (f:=10) hy (by omega);subst ey;have jo:Hid (NT w 10 (.iface yt (U (M yp)))<NT w 10 (.iface 290 (U (M ⟨b,0,O⟩)))):=(by show _<_;omega);clear hy hb hcy Tv;unfold jH;go_wp2_with (go_at_call 297;refine hU.mono ?_;rintro e w ⟨rfl,rfl⟩)
    go_round
    case rel=>exact⟨d',by omega,HY⟩
    case measure=>exact jo.out
   ·have hU:=Va (w:=w) (b:=b) (v:=y) (by simp[World.cell?,hb]);have vV:=run_eql_iface_types (P:=K) 208 358 (U (M ⟨b,0,O⟩)) (U (M (ps j))) underlying88 (by decide) w;obtain⟨yt,yp,ey⟩:=hy.shape;have HY:Hid (qA w ps d' y k):=hy;have hcy:=Ej (f:=10) hy (by omega);subst ey;have jo:Hid (NT w 10 (.iface yt (U (M yp)))<NT w 10 (.iface 208 (U (M ⟨b,0,O⟩)))):=(by show _<_;omega);clear hy hb hcy Tv;unfold jH;go_wp2_with (go_at_call 291;refine hU.mono ?_;rintro e w ⟨rfl,rfl⟩)
    go_round
    case rel=>exact⟨d',by omega,HY⟩
    case measure=>exact jo.out
theorem ZU:∃f:Array Y->Sem Y,(∀(args:Array Y) (w:F),(callFunc 300 args).run K w=((f args).run K w).andThen fun v w'=> .ok (.value v) w')/\∀w:F,(f #[.agg #[U (M ⟨9,358,O⟩)]]).run K w= .ok (.bool true) w:=
 ⟨(Extern.find Tryz.f300).getD (fun _=>pure .nilIface),@run_callFunc_extern K 300 _ _ func300 (by kernel_rfl) (by kernel_rfl) (by kernel_rfl) (by kernel_rfl),fun w=>by kernel_rfl⟩
theorem eIs_pg {j:Nat}(hG:Gl w ps)(hC:qA w ps d v k)(hd:d<=5)(hk:k<5)(hj:j<5):
 H K 130 #[v,jH (ps j)] w fun e w'=>e=G (.bool (decide (k=j)))/\w'=w:=by
 have hL:=eis_pg hG hC hd hk hj;have h8:=@run_callFunc_extern K 199 _ Extern.ReflectliteType.typeOf func199 (by kernel_rfl) (by kernel_rfl) (by kernel_rfl) (by kernel_rfl);obtain⟨cf,h32,cT⟩:=ZU;have tT:=Tryz.isTypeOf;have mR:=Tryz.isMethodComparable;obtain⟨t,p,rfl⟩:=hC.shape;clear hG hC;generalize decide (k=j)=bb at*;unfold jH at*;go_enter func130,ntmps130;go_wp2_with (go_at_call 200;refine hL.mono ?_;rintro e w ⟨rfl,rfl⟩);go_ret;exact⟨rfl,rfl⟩
theorem AJ:∃f:Array Y->Sem Y,(∀(args:Array Y) (w:F),(callFunc 299 args).run K w=((f args).run K w).andThen fun v w'=> .ok (.value v) w')/\
 (∀w:F,(f #[.agg #[U (M ⟨9,358,O⟩)],.iface 318 (.agg #[U (M ⟨9,213,O⟩)])]).run K w= .ok (.bool false) w)/\
 (∀w:F,(f #[.agg #[U (M ⟨9,290,O⟩)],.iface 318 (.agg #[U (M ⟨9,213,O⟩)])]).run K w= .ok (.bool false) w)/\
 (∀w:F,(f #[.agg #[U (M ⟨9,208,O⟩)],.iface 318 (.agg #[U (M ⟨9,213,O⟩)])]).run K w= .ok (.bool false) w)/\
 (∀w:F,(f #[.agg #[U (M ⟨9,213,O⟩)],.iface 318 (.agg #[U (M ⟨9,213,O⟩)])]).run K w= .ok (.bool true) w):=
 ⟨(Extern.find Tryz.f299).getD (fun _=>pure .nilIface),@run_callFunc_extern K 299 _ _ func299 (by kernel_rfl) (by kernel_rfl) (by kernel_rfl) (by kernel_rfl),fun w=>by kernel_rfl,fun w=>by kernel_rfl,fun w=>by kernel_rfl,fun w=>by kernel_rfl⟩
theorem Tryz.typeOfS (v:Y)(w:F):(Extern.ReflectliteType.typeOf #[.iface 290 v]).run K w= .ok (.iface 318 (.agg #[U (M ⟨9,290,O⟩)])) w:=by kernel_rfl
theorem Tryz.typeOfL (v:Y)(w:F):(Extern.ReflectliteType.typeOf #[.iface 208 v]).run K w= .ok (.iface 318 (.agg #[U (M ⟨9,208,O⟩)])) w:=by kernel_rfl
theorem Tryz.typeOfD (v:Y)(w:F):(Extern.ReflectliteType.typeOf #[.iface 213 v]).run K w= .ok (.iface 318 (.agg #[U (M ⟨9,213,O⟩)])) w:=by kernel_rfl
theorem Tryz.methodAsg (v:Y)(w:F):(Go.method 488 318 v "AssignableTo").run K w= .ok (299,v) w:=by kernel_rfl
theorem Tryz.noAsE (v:Y)(xT:TypeId)(w:F):(Instr.typeAssert (.iface 358 v) xT 322 true).run K w= .ok (.tuple #[.nilIface,.bool false]) w:=AbJ underlying322 (by kernel_rfl) (by kernel_rfl) v xT w
theorem Tryz.noAsS (v:Y)(xT:TypeId)(w:F):(Instr.typeAssert (.iface 290 v) xT 322 true).run K w= .ok (.tuple #[.nilIface,.bool false]) w:=AbJ underlying322 (by kernel_rfl) (by kernel_rfl) v xT w
theorem Tryz.noAsL (v:Y)(xT:TypeId)(w:F):(Instr.typeAssert (.iface 208 v) xT 322 true).run K w= .ok (.tuple #[.nilIface,.bool false]) w:=AbJ underlying322 (by kernel_rfl) (by kernel_rfl) v xT w
theorem aAp {x:Y}{z1 z2 z3:Y}(hC:qA w ps d v k)(hd:d<=5):
 H K 198 #[v,x,.agg #[z1,z2,z3],.iface 318 (.agg #[U (M ⟨9,213,O⟩)])] w fun e w'=>e=G (.bool false)/\aL w w':=by
 have h8:=@run_callFunc_extern K 199 _ Extern.ReflectliteType.typeOf func199 (by kernel_rfl) (by kernel_rfl) (by kernel_rfl) (by kernel_rfl);obtain⟨f,hf,fE,fS,fL,-⟩:=AJ;have tE:=Tryz.isTypeOf;have tS:=Tryz.typeOfS;have tL:=Tryz.typeOfL;have mA:=Tryz.methodAsg;have nE:=Tryz.noAsE;have nS:=Tryz.noAsS;have nL:=Tryz.noAsL;have uE:=Tryz.noUnwrapE;have vE:=Tryz.noUnwrapsE;have uS:=Tryz.hasUnwrapS;have uL:=Tryz.hasUnwrapL;have mS:=Tryz.methodUnwrapS;have mL:=Tryz.methodUnwrapL;have HC:Hid (qA (w.alloc (C #[z1,z2,z3] 279)) ps d v k):=qA.fr (Fr.cZ ((aL.refl w).alloc _) (fun _=>False)) (fun _ _ _=>id) (fun _ _ _=>id) hC;have HG:Hid (aL w (w.alloc (C #[z1,z2,z3] 279))):=(aL.refl w).alloc _;clear hC;go_enter func198,ntmps198;go_wp2_with fail;generalize w.alloc (C #[z1,z2,z3] 279)=W at*
 go_loop [0] (fun x=> ∃d':Nat,d'<=d/\Hid (qA W ps d' x k)) (fun x=>NT W 10 x)
 case atStart=>exact⟨d,Aak _,HC⟩
 case round=>
  obtain⟨d',hd',HR⟩:=hrel;cases d' with
  |zero=>
   obtain rfl:=(HR.out:_=jH (ps k));unfold jH;go_wp2_with fail;go_ret;exact⟨rfl,HG.out⟩
  |succ d'=>
   have Tv:=Ej (f:=10) HR.out (by omega);rcases HR.out with⟨b,nm,num,y,rfl,hb,hy⟩|⟨b,nm,y,rfl,hb,hy⟩
   ·have hU:=Uz (w:=W) (b:=b) (v:=y) (by simp[World.cell?,hb]);obtain⟨yt,yp,ey⟩:=hy.shape;have HY:Hid (qA W ps d' y k):=hy;have hcy:=Ej (f:=10) hy (by omega);subst ey;have jo:Hid (NT W 10 (.iface yt (U (M yp)))<NT W 10 (.iface 290 (U (M ⟨b,0,O⟩)))):=(by show _<_;omega);clear hy hb hcy Tv;go_wp2_with (go_at_call 297;refine hU.mono ?_;rintro e W ⟨rfl,rfl⟩)
    go_round
    case rel=>exact⟨d',by omega,HY⟩
    case measure=>exact jo.out
   ·have hU:=Va (w:=W) (b:=b) (v:=y) (by simp[World.cell?,hb]);obtain⟨yt,yp,ey⟩:=hy.shape;have HY:Hid (qA W ps d' y k):=hy;have hcy:=Ej (f:=10) hy (by omega);subst ey;have jo:Hid (NT W 10 (.iface yt (U (M yp)))<NT W 10 (.iface 208 (U (M ⟨b,0,O⟩)))):=(by show _<_;omega);clear hy hb hcy Tv;go_wp2_with (go_at_call 291;refine hU.mono ?_;rintro e W ⟨rfl,rfl⟩)
    go_round
    case rel=>exact⟨d',by omega,HY⟩
    case measure=>exact jo.out
theorem Tryz.valueOfDD (t:Addr)(w:F):(ReflectliteValue.unpack (.iface 215 (U (M t)))).run K w
 = .ok (.agg #[U (M ⟨9,215,O⟩),U (M ⟨w.heap.size,0,O⟩),I .u64 150]) (w.alloc (C #[U (M t)] 215)):=by kernel_rfl
theorem Tryz.typeDD (a:Addr)(w:F):(ReflectliteValue.methodAny (ReflectliteValue.valueError "reflectlite.Value.Type" 0) (fun t _ _ _=>ReflectliteType.toType t) #[.agg #[U (M ⟨9,215,O⟩),U (M a),I .u64 150]]).run K w
 = .ok (.iface 318 (.agg #[U (M ⟨9,215,O⟩)])) w:=by kernel_rfl
theorem Tryz.methodKind (h:Y)(w:F):(Go.method 488 318 (.agg #[h]) "Kind").run K w= .ok (286,h) w:=by kernel_rfl
theorem Tryz.methodElem (h:Y)(w:F):(Go.method 488 318 (.agg #[h]) "Elem").run K w= .ok (301,.agg #[h]) w:=by kernel_rfl
theorem Tryz.methodImpl (h:Y)(w:F):(Go.method 488 318 (.agg #[h]) "Implements").run K w= .ok (302,.agg #[h]) w:=by kernel_rfl
theorem Vb:∃f:Array Y->Sem Y,(∀(args:Array Y) (w:F),(callFunc 286 args).run K w=((f args).run K w).andThen fun v w'=> .ok (.value v) w')/\
 (∀w:F,(f #[U (M ⟨9,215,O⟩)]).run K w= .ok (I .u8 22) w)/\(∀w:F,(f #[U (M ⟨9,213,O⟩)]).run K w= .ok (I .u8 22) w):=
 ⟨(Extern.find Tryz.f286).getD (fun _=>pure .nilIface),@run_callFunc_extern K 286 _ _ func286 (by kernel_rfl) (by kernel_rfl) (by kernel_rfl) (by kernel_rfl),fun w=>by kernel_rfl,fun w=>by kernel_rfl⟩
theorem Vd:∃f:Array Y->Sem Y,(∀(args:Array Y) (w:F),(callFunc 301 args).run K w=((f args).run K w).andThen fun v w'=> .ok (.value v) w')/\
 (∀w:F,(f #[.agg #[U (M ⟨9,215,O⟩)]]).run K w= .ok (.iface 318 (.agg #[U (M ⟨9,213,O⟩)])) w):=
 ⟨(Extern.find Tryz.f301).getD (fun _=>pure .nilIface),@run_callFunc_extern K 301 _ _ func301 (by kernel_rfl) (by kernel_rfl) (by kernel_rfl) (by kernel_rfl),fun w=>by kernel_rfl⟩
theorem Ve:∃f:Array Y->Sem Y,(∀(args:Array Y) (w:F),(callFunc 302 args).run K w=((f args).run K w).andThen fun v w'=> .ok (.value v) w')/\
 (∀w:F,(f #[.agg #[U (M ⟨9,213,O⟩)],.iface 318 (.agg #[U (M ⟨9,88,O⟩)])]).run K w= .ok (.bool true) w):=
 ⟨(Extern.find Tryz.f302).getD (fun _=>pure .nilIface),@run_callFunc_extern K 302 _ _ func302 (by kernel_rfl) (by kernel_rfl) (by kernel_rfl) (by kernel_rfl),fun w=>by kernel_rfl⟩
theorem rlmz (z:Sem Y)(f:TypeId->Addr->Nat->Nat->Sem Y)(v:Y):
 ReflectliteValue.method z f #[v]=(do match <-ReflectliteValue.parts v with|none=>z|some (t,a,fl)=>f t a fl (fl % 32)):=rfl
theorem Tryz.partsDD (a:Addr)(w:F):(ReflectliteValue.parts (.agg #[U (M ⟨9,215,O⟩),U (M a),I .u64 150])).run K w= .ok (M (215,a,150)) w:=by kernel_rfl
theorem Tryz.isNilDD (a p:Addr)(W:F)(ha:W.cell? a=M (U (M p))):
 (ReflectliteValue.method (ReflectliteValue.valueError "reflectlite.Value.IsNil" 0) ReflectliteValue.isNil #[.agg #[U (M ⟨9,215,O⟩),U (M a),I .u64 150]]).run K W= .ok (.bool false) W:=by
 rw[rlmz];simp only[Aci,Tryz.partsDD,Result.andThen];simp[ReflectliteValue.isNil,loadVar,isAgg,underlying,underlying215,ha,Result.andThen]
theorem aAq (hG:Gl w ps)(hC:qA w ps d v k)(hd:d<=5):
 H K 129 #[v,.iface 215 (U (M t))] w fun e w'=>e=G (.bool false)/\aL w w':=by
 have h6:=@run_callFunc_extern K 195 _ (fun args=>ReflectliteValue.unpack (args.getD 0 (.tuple #[]))) func195 (by kernel_rfl) (by kernel_rfl) (by kernel_rfl) (by kernel_rfl);have h7:=@run_callFunc_extern K 196 _ (ReflectliteValue.methodAny (ReflectliteValue.valueError "reflectlite.Value.Type" 0) (fun t _ _ _=>ReflectliteType.toType t)) func196 (by kernel_rfl) (by kernel_rfl) (by kernel_rfl) (by kernel_rfl);have h8:=@run_callFunc_extern K 197 _ (ReflectliteValue.method (ReflectliteValue.valueError "reflectlite.Value.IsNil" 0) ReflectliteValue.isNil) func197 (by kernel_rfl) (by kernel_rfl) (by kernel_rfl) (by kernel_rfl);obtain⟨fk,hk,k1,k2⟩:=Vb;obtain⟨fe,he,e1⟩:=Vd;obtain⟨fi,hi,i1⟩:=Ve;have f6:=Tryz.valueOfDD;have f7:=Tryz.typeDD;have mK:=Tryz.methodKind;have mE:=Tryz.methodElem;have mI:=Tryz.methodImpl;have iJ:aL w ((w.alloc (C #[U (M t)] 215)).alloc (C #[U (M ⟨9,215,O⟩),U (M ⟨w.heap.size,0,O⟩),I .u64 150] 279)):=((aL.refl w).alloc _).alloc _;have yJ:Hid (aL w ((w.alloc (C #[U (M t)] 215)).alloc (C #[U (M ⟨9,215,O⟩),U (M ⟨w.heap.size,0,O⟩),I .u64 150] 279))):=iJ;have n8:=Tryz.isNilDD ⟨w.heap.size,0,O⟩ t ((w.alloc (C #[U (M t)] 215)).alloc (C #[U (M ⟨9,215,O⟩),U (M ⟨w.heap.size,0,O⟩),I .u64 150] 279)) (by simp)
 have kR:((w.alloc (C #[U (M t)] 215)).alloc (C #[U (M ⟨9,215,O⟩),U (M ⟨w.heap.size,0,O⟩),I .u64 150] 279)).cell? ⟨5,0,O⟩=M (.iface 318 (.agg #[U (M ⟨9,88,O⟩)])):=by
  have:=(hG.aN iJ).errT;simp[World.cell?,this]
 have hL:=aAp (x:= .iface 215 (U (M t))) (z1:=U (M ⟨9,215,O⟩)) (z2:=U (M ⟨w.heap.size,0,O⟩)) (z3:=I .u64 150) (qA.fr (Fr.cZ iJ (fun _=>False)) (fun _ _ _=>id) (fun _ _ _=>id) hC) hd;obtain⟨vt,vp,rfl⟩:=hC.shape;clear hG hC iJ;go_enter func129,ntmps129;go_wp2_with (go_at_call 198;refine hL.mono ?_;rintro e w4 ⟨rfl,nO⟩);go_ret;exact⟨rfl,aQ yJ.out nO⟩
theorem Tryz.valueOfD (e:Addr)(w:F):(ReflectliteValue.unpack (.iface 213 (U (M e)))).run K w
 = .ok (.agg #[U (M ⟨9,213,O⟩),U (M ⟨w.heap.size,0,O⟩),I .u64 150]) (w.alloc (C #[U (M e)] 213)):=by kernel_rfl
theorem Tryz.elemOfDD (w:F):(Rtype.elem? 215).run K w= .ok (M 213) w:=by kernel_rfl
theorem Tryz.mkD (p:Addr)(w:F):(ReflectliteValue.mk 213 p ReflectliteValue.flagAddr).run K w= .ok (.agg #[U (M ⟨9,213,O⟩),U (M p),I .u64 406]) w:=by kernel_rfl
theorem Tryz.elemVDD (a p:Addr)(W:F)(ha:W.cell? a=M (U (M p))):
 (ReflectliteValue.method (ReflectliteValue.valueError "reflectlite.Value.Elem" 0) ReflectliteValue.elem #[.agg #[U (M ⟨9,215,O⟩),U (M a),I .u64 150]]).run K W
  = .ok (.agg #[U (M ⟨9,213,O⟩),U (M p),I .u64 406]) W:=by
 rw[rlmz];simp only[Aci,Tryz.partsDD,Result.andThen];simp[ReflectliteValue.elem,loadVar,isAgg,underlying,underlying215,ha,Result.andThen,Tryz.elemOfDD,Tryz.mkD]
theorem Tryz.partsDa (a:Addr)(w:F):(ReflectliteValue.parts (.agg #[U (M ⟨9,213,O⟩),U (M a),I .u64 406])).run K w= .ok (M (213,a,406)) w:=by kernel_rfl
theorem Tryz.partsD (a:Addr)(w:F):(ReflectliteValue.parts (.agg #[U (M ⟨9,213,O⟩),U (M a),I .u64 150])).run K w= .ok (M (213,a,150)) w:=by kernel_rfl
theorem Tryz.directD (w:F):(Rtype.directlyAssignable 213 213).run K w= .ok true w:=by kernel_rfl
theorem Tryz.setD (ta b e:Addr)(old:Y)(W:F)(hb:W.cell? b=M (U (M e)))(ht:W.cell? ta=M old)(hf:W.frozen? ta=false):
 (ReflectliteValue.set #[.agg #[U (M ⟨9,213,O⟩),U (M ta),I .u64 406],.agg #[U (M ⟨9,213,O⟩),U (M b),I .u64 150]]).run K W
  = .ok (.tuple #[]) (W.setCell ta (U (M e))):=by
 show Sem.run K (ReflectliteValue.parts (.agg #[U (M ⟨9,213,O⟩),U (M ta),I .u64 406])>>=fun p=>ReflectliteValue.parts (.agg #[U (M ⟨9,213,O⟩),U (M b),I .u64 150])>>=fun q=>_) W=_;simp only[Aci,Tryz.partsDa,Tryz.partsD,Result.andThen];simp[ReflectliteValue.flagAddr,loadVar,isAgg,underlying,underlying213,hb,Result.andThen,Tryz.directD,storeVar,Value.cells,storeCells,Addr.add];rw[run_store K W ta _ _ (by rfl)];simp[ht,hf]
theorem eas_hit {e a:Addr}{old x:Y}(ha:w.cell? a=M (U (M t)))(ht:w.cell? t=M old)(hf:w.frozen? t=false):
 H K 198 #[.iface 213 (U (M e)),x,.agg #[U (M ⟨9,215,O⟩),U (M a),I .u64 150],.iface 318 (.agg #[U (M ⟨9,213,O⟩)])] w
  fun ev w'=>ev=G (.bool true)/\w'=((w.alloc (C #[U (M ⟨9,215,O⟩),U (M a),I .u64 150] 279)).alloc (C #[U (M e)] 213)).setCell t (U (M e)):=by
 have h8:=@run_callFunc_extern K 199 _ Extern.ReflectliteType.typeOf func199 (by kernel_rfl) (by kernel_rfl) (by kernel_rfl) (by kernel_rfl);have h6:=@run_callFunc_extern K 195 _ (fun args=>ReflectliteValue.unpack (args.getD 0 (.tuple #[]))) func195 (by kernel_rfl) (by kernel_rfl) (by kernel_rfl) (by kernel_rfl);have h11:=@run_callFunc_extern K 238 _ (ReflectliteValue.method (ReflectliteValue.valueError "reflectlite.Value.Elem" 0) ReflectliteValue.elem) func238 (by kernel_rfl) (by kernel_rfl) (by kernel_rfl) (by kernel_rfl);have h12:=@run_callFunc_extern K 239 _ ReflectliteValue.set func239 (by kernel_rfl) (by kernel_rfl) (by kernel_rfl) (by kernel_rfl);obtain⟨f,hf0,-,-,-,fD⟩:=AJ;have tD:=Tryz.typeOfD;have mA:=Tryz.methodAsg;have vD:=Tryz.valueOfD;have hal:=Aaz _ _ ha;have Vu:=Aaz _ _ ht;have el:=Tryz.elemVDD a t (w.alloc (C #[U (M ⟨9,215,O⟩),U (M a),I .u64 150] 279)) (by rw[AcH _ _ a hal];exact ha)
 have st:=Tryz.setD t ⟨w.heap.size+1,0,O⟩ e old ((w.alloc (C #[U (M ⟨9,215,O⟩),U (M a),I .u64 150] 279)).alloc (C #[U (M e)] 213))
  (by rw[World.cell?_alloc_at _ _ _ _ (by simp)];rfl)
  (by rw[AcH _ _ t (by simp;omega),AcH _ _ t Vu];exact ht)
  (by rw[AcO _ _ t (by simp;omega),AcO _ _ t (Nat.ne_of_lt Vu)];exact hf)
 clear ha ht hf;go_enter func198,ntmps198
 go_wp2
 refine wp_loop_rounds 1 ?_;rw[rounds_succ]
 go_wp2
 go_ret;exact⟨rfl,rfl⟩
theorem eAs_hit {e:Addr}{old:Y}(hte:t=⟨tb,0,O⟩)(hG:Gl w ps)(ht:w.cell? t=M old)(hf:w.frozen? t=false):
 H K 129 #[.iface 213 (U (M e)),.iface 215 (U (M t))] w fun ev w'=>ev=G (.bool true)/\w'.cell? t=M (U (M e))/\Og w w' tb:=by
 have h6:=@run_callFunc_extern K 195 _ (fun args=>ReflectliteValue.unpack (args.getD 0 (.tuple #[]))) func195 (by kernel_rfl) (by kernel_rfl) (by kernel_rfl) (by kernel_rfl);have h7:=@run_callFunc_extern K 196 _ (ReflectliteValue.methodAny (ReflectliteValue.valueError "reflectlite.Value.Type" 0) (fun t _ _ _=>ReflectliteType.toType t)) func196 (by kernel_rfl) (by kernel_rfl) (by kernel_rfl) (by kernel_rfl);have h8:=@run_callFunc_extern K 197 _ (ReflectliteValue.method (ReflectliteValue.valueError "reflectlite.Value.IsNil" 0) ReflectliteValue.isNil) func197 (by kernel_rfl) (by kernel_rfl) (by kernel_rfl) (by kernel_rfl);obtain⟨fk,hk,k1,k2⟩:=Vb;obtain⟨fe,he,e1⟩:=Vd;obtain⟨fi,hi,i1⟩:=Ve;have f6:=Tryz.valueOfDD;have f7:=Tryz.typeDD;have mK:=Tryz.methodKind;have mE:=Tryz.methodElem;have mI:=Tryz.methodImpl;have iJ:aL w ((w.alloc (C #[U (M t)] 215)).alloc (C #[U (M ⟨9,215,O⟩),U (M ⟨w.heap.size,0,O⟩),I .u64 150] 279)):=((aL.refl w).alloc _).alloc _;have yJ:Hid (aL w ((w.alloc (C #[U (M t)] 215)).alloc (C #[U (M ⟨9,215,O⟩),U (M ⟨w.heap.size,0,O⟩),I .u64 150] 279))):=iJ;have n8:=Tryz.isNilDD ⟨w.heap.size,0,O⟩ t ((w.alloc (C #[U (M t)] 215)).alloc (C #[U (M ⟨9,215,O⟩),U (M ⟨w.heap.size,0,O⟩),I .u64 150] 279)) (by simp)
 have kR:((w.alloc (C #[U (M t)] 215)).alloc (C #[U (M ⟨9,215,O⟩),U (M ⟨w.heap.size,0,O⟩),I .u64 150] 279)).cell? ⟨5,0,O⟩=M (.iface 318 (.agg #[U (M ⟨9,88,O⟩)])):=by
  have:=(hG.aN iJ).errT;simp[World.cell?,this]
 have Vu:=Aaz _ _ ht;have HT:Hid (t=⟨tb,0,O⟩/\w.cell? t=M old):=⟨hte,ht⟩;clear hte
 have hL:=eas_hit (e:=e) (t:=t) (a:=⟨w.heap.size,0,O⟩) (old:=old) (x:= .iface 215 (U (M t))) (w:=(w.alloc (C #[U (M t)] 215)).alloc (C #[U (M ⟨9,215,O⟩),U (M ⟨w.heap.size,0,O⟩),I .u64 150] 279))
  (by simp) (by rw[AcH _ _ t (by simp;omega),AcH _ _ t Vu];exact ht) (by rw[AcO _ _ t (by simp;omega),AcO _ _ t (Nat.ne_of_lt Vu)];exact hf)
 clear hG iJ ht hf Vu;go_enter func129,ntmps129;go_wp2_with (go_at_call 198;refine hL.mono ?_;rintro e' w4 ⟨rfl,rfl⟩);go_ret;refine⟨rfl,?_,?_⟩
 ·have h1:=AaB (((yJ.out.alloc (C #[U (M ⟨9,215,O⟩),U (M ⟨w.heap.size,0,O⟩),I .u64 150] 279))).alloc (C #[U (M e)] 213)) HT.out.2;exact World.cell?_setCell_same' _ _ _ (by rw[h1];rfl)
 ·obtain rfl:=HT.out.1;exact((Og.refl w tb).aN ((yJ.out.alloc _).alloc _)).set
end Go.Proofs.YtfplgfodoiiobaaGreatDoor
