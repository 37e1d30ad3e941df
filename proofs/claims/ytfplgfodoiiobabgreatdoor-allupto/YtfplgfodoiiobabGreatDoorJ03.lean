/- a part of the proof. -/
import Derived.Test.YtfplgfodoiiobabGreatDoorJc
open Option renaming none->O,some->M
open Go.Value renaming int->I,slice->Z,pointer->U
open Go.IntKind renaming i64->V
open Go.Obj renaming cells->C
open Go.Ending renaming returned->G
open Go renaming World->F,Value->Y,Calls->H
open Go.Proofs.Tryz renaming prog→K
open Go.Proofs.Tryz
namespace Go.Proofs.YtfplgfodoiiobabGreatDoor
set_option maxHeartbeats 1000000
set_option maxRecDepth 100000
open Go.RowKit
open Go.RowKit Go.Extern.Stop Go.Stop Go.Extern
variable {w W:F}{db qp lp n k R dp i B sp:Nat}{most depth ep a b c q:Int}{v d e:Y}{bs:List Bool}{p:Prop}{ops:Array Oper}{Q:Exit->Act->F->Prop}{o:Oper}{st:Option (List UInt8)}{ro:Bool}{P:Program}
def UG:List TypeId:=[155,200,202,5,115,124,157,165,104,50,248,253,193]
def Pv (t:TypeId):Prop:=t ∉ UG
def Wd:Nat->Int
 |2=>12
 |0=>9
 |1=>10
 |_=>11
theorem code_ne (k:Nat):Wd k≠0:=by
 match k with
 |0=>simp[Wd]
 |1=>simp[Wd]
 |2=>simp[Wd]
 |k+3=>simp[Wd]
def jW (db:Nat)(ep:Int):Obj:=C #[U (M ⟨db,0,O⟩),I V ep] 157 (0,0)
theorem iE (h:w.heap[lp]?=M (jW db ep)):w.cell? ⟨lp,0,O⟩=M (U (M ⟨db,0,O⟩))/\w.cell? ⟨lp,1,O⟩=M (I V ep)/\∀j,w.frozen? ⟨lp,j,O⟩=false:=by
 simp[World.cell?,World.frozen?,h,jW]
theorem qQ (h:w.heap[lp]?=M (jW db ep))(h0:0<=ep)(h1:ep<=100000):H K 128 #[U (M ⟨lp,0,O⟩)] w λe w'=>e=G (I V (10+ep))/\w'=w:=by
 obtain⟨-,a,-⟩:=iE h;clear h;go_enter func128,ntmps128;go_wp2_with fail;go_ret;exact⟨rfl,rfl⟩
def Wl (W:F)(lp bx db:Nat)(ep q a b c:Int):Prop:=W.heap[lp]?=M (jW db ep)/\W.heap[bx]?=M (C #[I .u8 q,I V a,I V b,I V c] 128 (0,0))
theorem Wl.cells {bx:Nat}(h:Wl W lp bx db ep q a b c):W.cell? ⟨lp,0,O⟩=M (U (M ⟨db,0,O⟩))/\W.cell? ⟨bx,0,O⟩=M (I .u8 q)/\W.cell? ⟨bx,1,O⟩=M (I V a)/\W.cell? ⟨bx,2,O⟩=M (I V b)/\W.cell? ⟨bx,3,O⟩=M (I V c):=by
 obtain⟨d,e⟩:=h;refine⟨(iE d).1,?_⟩;simp[World.cell?,e]
theorem Pw:∀(args:Array Y) (w:F),(callFunc 128 args).run K w= .ok (.enter 128 args) w:=enters_of func128 (by kernel_rfl) rfl
theorem MS:∀(args:Array Y) (w:F),(callFunc 138 args).run K w= .ok (.enter 138 args) w:=enters_of func138 (by kernel_rfl) rfl
theorem Px:∀(args:Array Y) (w:F),(callFunc 137 args).run K w= .ok (.enter 137 args) w:=enters_of func137 (by kernel_rfl) rfl
theorem e_at:∀(args:Array Y) (w:F),(callFunc 87 args).run K w= .ok (.enter 87 args) w:=enters_of func87 (by kernel_rfl) rfl
def MX (wr w':F):Prop:=∀(b:Nat) (aR:Array Y) (t:TypeId) (f:Nat×Nat),wr.heap[b]?=M (C aR t f)->t≠155->t≠200->t≠202->t≠5->w'.heap[b]?=M (C aR t f)
def rgB (ao:Option Addr)(n c:Nat)(bf:Int)(ev:Y):Obj:=C #[Z ao n c,I V bf,ev] 253 (0,0)
theorem mU {g:Nat}{ao:Option Addr}{c:Nat}{bf:Int}{ev:Y}(h:w.heap[g]?=M (rgB ao n c bf ev)):w.cell? ⟨g,0,O⟩=M (Z ao n c)/\w.cell? ⟨g,1,O⟩=M (I V bf)/\w.cell? ⟨g,2,O⟩=M ev/\∀j,w.frozen? ⟨g,j,O⟩=false:=by
 simp[World.cell?,World.frozen?,h,rgB]
def jB (right:Bool)(st:Option (List UInt8)):Option (List UInt8):=if right then st else O
def vB (x:UInt8):Option (List UInt8)->Option (List UInt8)
 |some (y::l)=>if y=x then M l else O
 |_=>O
theorem ask_rest (h:∀l,st=M l->n=l.length):jB ((n:Int)==0) st=jB (st==M []) st:=by
 cases st with
 |none=>simp[jB]
 |some l=>
  have:=h l rfl;subst this;cases l with
  |nil=>rfl
  |cons x l=>
   have c:(((x::l).length:Int)==0)=false:=(by rw[Aat];simp;omega);have a:((M (x::l):Option (List UInt8))==M [])=false:=rfl;rw[c,a]
theorem rZ {a b c:Y}(h:W.heap[R]?=M (C #[a,b,c,d,e] 193 (0,0))):(W.cell? ⟨R,0,O⟩=M a/\W.cell? ⟨R,1,O⟩=M b/\W.cell? ⟨R,2,O⟩=M c/\W.cell? ⟨R,3,O⟩=M d/\W.cell? ⟨R,4,O⟩=M e)/\∀j,W.frozen? ⟨R,j,O⟩=false:=
 ⟨by simp[World.cell?,h],λj=>by simp[World.frozen?,h]⟩
def CK (W w':F):Prop:=∀(b:Nat) (aR:Array Y),W.heap[b]?=M (C aR 193 (0,0))->w'.heap[b]?=M (C aR 193 (0,0))
theorem FP {a b c:Y}{P:Prop}(h:W.heap[R]?=M (C #[a,b,c,d,e] 193 (0,0)))(k:W.cell? ⟨R,0,O⟩=M a->W.cell? ⟨R,1,O⟩=M b->W.cell? ⟨R,2,O⟩=M c->W.cell? ⟨R,3,O⟩=M d->W.cell? ⟨R,4,O⟩=M e->(∀j,W.frozen? ⟨R,j,O⟩=false)->Hid (W.heap[R]?=M (C #[a,b,c,d,e] 193 (0,0)))->P):P:=by
 obtain⟨⟨a,b,c,d,e⟩,f⟩:=rZ h;exact k a b c d e f h
theorem st5_blk {a b c:Y}(h:W.heap[R]?=M (C #[a,b,c,d,e] 193 (0,0)))(a' b' c' d' e':Y):(((((W.setCell ⟨R,0,O⟩ a').setCell ⟨R,1,O⟩ b').setCell ⟨R,2,O⟩ c').setCell ⟨R,3,O⟩ d').setCell ⟨R,4,O⟩ e').heap[R]?=M (C #[a',b',c',d',e'] 193 (0,0)):=by
 have j:(W.setCell ⟨R,0,O⟩ a').heap[R]?=M (C #[a',b,c,d,e] 193 (0,0)):=by rw[Aaj W R 0 _ _ _ h];rfl
 have g:((W.setCell ⟨R,0,O⟩ a').setCell ⟨R,1,O⟩ b').heap[R]?=M (C #[a',b',c,d,e] 193 (0,0)):=by rw[Aaj _ R 1 _ _ _ j];rfl
 have k:(((W.setCell ⟨R,0,O⟩ a').setCell ⟨R,1,O⟩ b').setCell ⟨R,2,O⟩ c').heap[R]?=M (C #[a',b',c',d,e] 193 (0,0)):=by rw[Aaj _ R 2 _ _ _ g];rfl
 have i:((((W.setCell ⟨R,0,O⟩ a').setCell ⟨R,1,O⟩ b').setCell ⟨R,2,O⟩ c').setCell ⟨R,3,O⟩ d').heap[R]?=M (C #[a',b',c',d',e] 193 (0,0)):=by rw[Aaj _ R 3 _ _ _ k];rfl
 rw[Aaj _ R 4 _ _ _ i];rfl
structure RpB (W:F)(cb pb qb lp dp db:Nat)(ep q a b c:Int):Prop where
 chg:W.heap[cb]?=M (C #[I .u8 q,I V a,I V b,I V c] 128 (0,0))
 dr:W.heap[pb]?=M (C #[U (M ⟨dp,0,O⟩)] 117 (0,0))
 lg:W.heap[qb]?=M (C #[U (M ⟨lp,0,O⟩)] 116 (0,0))
 wG:W.heap[lp]?=M (jW db ep)
theorem RpB.cells {cb pb qb:Nat}(h:RpB W cb pb qb lp dp db ep q a b c):(W.cell? ⟨cb,0,O⟩=M (I .u8 q)/\W.cell? ⟨cb,1,O⟩=M (I V a)/\W.cell? ⟨cb,2,O⟩=M (I V b)/\W.cell? ⟨cb,3,O⟩=M (I V c))/\W.cell? ⟨pb,0,O⟩=M (U (M ⟨dp,0,O⟩))/\W.cell? ⟨qb,0,O⟩=M (U (M ⟨lp,0,O⟩))/\W.cell? ⟨lp,0,O⟩=M (U (M ⟨db,0,O⟩)):=by
 obtain⟨d,i,e,g⟩:=h;refine⟨by simp[World.cell?,d],by simp[World.cell?,i],by simp[World.cell?,e],(iE g).1⟩
theorem e_rep1:∀(args:Array Y) (w:F),(callFunc 164 args).run K w= .ok (.enter 164 args) w:=enters_of func164 (by kernel_rfl) rfl
theorem Nf {right:Bool}{l:List UInt8}(h:jB right st=M l):right=true/\st=M l:=by
 unfold jB at h;split at h
 ·rename_i a;exact⟨a,h⟩
 ·cases h
theorem YQ (h:w.heap[lp]?=M (jW db ep))(CU:Int):(w.setCell ⟨lp,1,O⟩ (I V CU)).heap[lp]?=M (jW db CU):=by
 rw[Aaj w lp 1 _ _ _ h];rfl
theorem lK {a b c:F}(h1:Below B a b)(h2:Below B b c):Below B a c:=⟨h2.os.trans h1.os,h2.tape.trans h1.tape,h2.output.trans h1.output,Aal h1.size h2.size,λk d=>(h2.block k d).trans (h1.block k d)⟩
theorem UO (B:Nat)(w:F):Below B w w:=⟨rfl,rfl,rfl,Aak _,λ_ _=>rfl⟩
def NM (p:Int×Int):Prop:=(0<=p.1/\p.1<4294967296)/\(0<=p.2/\p.2<4294967296)
theorem sw:∀(args:Array Y) (w:F),(callFunc 131 args).run K w= .ok (.enter 131 args) w:=enters_of func131 (by kernel_rfl) rfl
def CV (qb fb:Nat):Nat->Array Y
 |1=>#[U (M ⟨qb,0,O⟩),U (M ⟨fb,0,O⟩)]
 |_=>#[U (M ⟨qb,0,O⟩)]
def Cz (qb fb:Nat):Y:= .agg #[.func (.func 196) #[] #[U (M ⟨qb,0,O⟩)],.func (.func 197) #[] #[U (M ⟨qb,0,O⟩),U (M ⟨fb,0,O⟩)],.func (.func 198) #[] #[U (M ⟨qb,0,O⟩)],.func (.func 199) #[] #[U (M ⟨qb,0,O⟩)],.func (.func 201) #[] #[U (M ⟨qb,0,O⟩)]]
theorem FW:∀(args:Array Y) (w:F),(callFunc 150 args).run K w= .ok (.enter 150 args) w:=enters_of func150 (by kernel_rfl) rfl
theorem tu:∀(args:Array Y) (w:F),(callFunc 149 args).run K w= .ok (.enter 149 args) w:=enters_of func149 (by kernel_rfl) rfl
theorem NN:(Tryz.prog.info? 174).map (·.size)=M 2:=by kernel_rfl
theorem bld_lies:liesAt K Tryz.prog.depth 174 (2 / Tryz.prog.cellsOf 174) 0 174 1=true:=by kernel_rfl
theorem cc_used (b:Nat)(w:F)(h0:w.cell? ⟨b,0,O⟩=M (U (M ⟨b,0,O⟩))):
 H K 140 #[U (M ⟨b,0,O⟩)] w λe w'=>e=G (.tuple #[])/\w'=w:=by
 obtain⟨j,a,_⟩:=AbP.1 NN;go_enter func140,ntmps140
 go_wp2
 rw[Lib.run_neq_ptr_same w _ underlying172 a]
 go_wp2
 go_end0;exact⟨rfl,rfl⟩
theorem cc_fresh (b:Nat)(w:F)(h0:w.cell? ⟨b,0,O⟩=M (U O))(hsh:w.shape? b=M (174,2))(b_:w.frozen? ⟨b,0,O⟩=false):
 H K 140 #[U (M ⟨b,0,O⟩)] w λe w'=>e=G (.tuple #[])/\w'=w.setCell ⟨b,0,O⟩ (U (M ⟨b,0,O⟩)):=by
 obtain⟨j,c,a⟩:=AbP.1 NN;go_enter func140,ntmps140
 go_wp2
 rw[Lib.run_to_unsafe w ⟨b,0,O⟩ underlying172 underlying264 c (by rw[a];decide) hsh (Nat.zero_lt_succ 1)];simp only[Result.andThen];rw[Oper.upon_value]
 go_wp2
 rw[run_callFunc_extern func193 (by kernel_rfl) (by kernel_rfl) (by kernel_rfl) (by kernel_rfl)];rw[Lib.run_noEscape];simp only[Result.andThen];rw[Oper.upon_value]
 go_wp2
 rw[Lib.run_from_unsafe w ⟨b,0,O⟩ underlying264 underlying172 c hsh bld_lies];simp only[Result.andThen];rw[Oper.upon_value]
 go_wp2
 go_end0;exact⟨rfl,rfl⟩
theorem ug (b:ByteArray)(i j:Nat):(b.extract i j).data.toList=(b.data.toList.drop i).take (j-i):=by
 rw[AcA,AcG]
def yF (most depth:Int)(db:Nat)(o:Option Nat):Obj:=C #[I V most,I V depth,U (M ⟨db,0,O⟩),U (o.map λp=>⟨p,0,O⟩)] 115 (0,0)
def vP (lp dp:Nat)(ro:Bool):Obj:=C #[U (M ⟨lp,0,O⟩),U (M ⟨dp,0,O⟩),.bool ro] 124 (0,0)
theorem fG {o:Option Nat}(h:w.heap[qp]?=M (yF most depth db o)):
 w.cell? ⟨qp,0,O⟩=M (I V most)/\w.cell? ⟨qp,1,O⟩=M (I V depth)/\w.cell? ⟨qp,2,O⟩=M (U (M ⟨db,0,O⟩))/\w.cell? ⟨qp,3,O⟩=M (U (o.map λp=>⟨p,0,O⟩))/\∀j,w.frozen? ⟨qp,j,O⟩=false:=by
 simp[World.cell?,World.frozen?,h,yF]
theorem lH (h:w.heap[sp]?=M (vP lp dp ro)):
 w.cell? ⟨sp,0,O⟩=M (U (M ⟨lp,0,O⟩))/\w.cell? ⟨sp,1,O⟩=M (U (M ⟨dp,0,O⟩))/\w.cell? ⟨sp,2,O⟩=M (.bool ro)/\∀j,w.frozen? ⟨sp,j,O⟩=false:=by
 simp[World.cell?,World.frozen?,h,vP]
theorem Hw (h:w.heap[qp]?=M (yF most depth db O)):H K 49 #[U (M ⟨qp,0,O⟩)] w λe w'=>e=G (I V 3)/\w'=w:=by
 obtain⟨-,-,-,a,-⟩:=fG h;simp only[AbU]at a;clear h;go_enter func49,ntmps49;go_wp2_with fail;go_ret;exact⟨rfl,rfl⟩
theorem Aw (h:w.heap[qp]?=M (yF most depth db (M sp)))(hs:w.heap[sp]?=M (vP lp dp ro)):H K 49 #[U (M ⟨qp,0,O⟩)] w λe w'=>e=G (I V (if ro then 4 else 0))/\w'=w:=by
 obtain⟨-,-,-,a,-⟩:=fG h;obtain⟨-,-,c,-⟩:=lH hs;simp only[Abi]at a;clear h hs;cases ro with
 |true=>
  go_enter func49,ntmps49;go_wp2_with fail;go_ret;exact⟨rfl,rfl⟩
 |false=>
  go_enter func49,ntmps49;go_wp2_with fail;go_ret;exact⟨rfl,rfl⟩
theorem NP (h:w.heap[qp]?=M (yF most depth db O)):H K 64 #[U (M ⟨qp,0,O⟩)] w λe w'=>e=G (I V 3)/\w'=w:=by
 obtain⟨-,-,-,a,-⟩:=fG h;simp only[AbU]at a;clear h;go_enter func64,ntmps64;go_wp2_with fail;go_ret;exact⟨rfl,rfl⟩
theorem FX (h:w.heap[qp]?=M (yF most depth db O)):H K 59 #[U (M ⟨qp,0,O⟩)] w λe w'=>e=G (.tuple #[I V 0,I V 3])/\w'=w:=by
 obtain⟨-,-,-,a,-⟩:=fG h;simp only[AbU]at a;clear h;go_enter func59,ntmps59;go_wp2_with fail;go_ret2;exact⟨rfl,rfl⟩
theorem UU (h:w.heap[qp]?=M (yF most depth db O)):H K 19 #[U (M ⟨qp,0,O⟩)] w λe w'=>e=G (.tuple #[I V 0,I V 3])/\w'=w:=by
 obtain⟨-,-,-,a,-⟩:=fG h;simp only[AbU]at a;clear h;go_enter func19,ntmps19;go_wp2_with fail;go_ret2;exact⟨rfl,rfl⟩
theorem UX (ha:a<0):H K 70 #[U (M ⟨qp,0,O⟩),I V a] w λe w'=>e=G (I V 1)/\w'=w:=by
 go_enter func70,ntmps70;go_wp2_with fail;go_ret;exact⟨rfl,rfl⟩
theorem uh (h:a<0\/b<0\/c<0):H K 68 #[U (M ⟨qp,0,O⟩),I V a,I V b,I V c] w λe w'=>e=G (I V 1)/\w'=w:=by
 by_cases i:a<0
 ·clear h;go_enter func68,ntmps68;go_wp2_with fail;go_ret;exact⟨rfl,rfl⟩
 ·by_cases d:b<0
  ·clear h;go_enter func68,ntmps68;go_wp2_with fail;go_ret;exact⟨rfl,rfl⟩
  ·have g:c<0:=(by omega);clear h;go_enter func68,ntmps68;go_wp2_with fail;go_ret;exact⟨rfl,rfl⟩
def Dq (most depth room:Int):Prop:=0<=most/\most<=5000/\0<=depth/\depth<=50/\0<=room/\room<=1000000
theorem qnew_no {room:Int}(h:¬Dq most depth room):H K 14 #[I V most,I V depth,I V room] w λe w'=>e=G (.tuple #[U O,I V 1])/\w'=w:=by
 unfold Dq at h;by_cases g:most<0
 ·clear h;go_enter func14,ntmps14;go_wp2_with fail;go_ret2;exact⟨rfl,rfl⟩
 by_cases i:5000<most
 ·clear h;go_enter func14,ntmps14;go_wp2_with fail;go_ret2;exact⟨rfl,rfl⟩
 by_cases d:depth<0
 ·clear h;go_enter func14,ntmps14;go_wp2_with fail;go_ret2;exact⟨rfl,rfl⟩
 by_cases c:50<depth
 ·clear h;go_enter func14,ntmps14;go_wp2_with fail;go_ret2;exact⟨rfl,rfl⟩
 by_cases a:room<0
 ·clear h;go_enter func14,ntmps14;go_wp2_with fail;go_ret2;exact⟨rfl,rfl⟩
 have j:1000000<room:=by omega
 clear h;go_enter func14,ntmps14;go_wp2_with fail;go_ret2;exact⟨rfl,rfl⟩
theorem UZ {pos n:Int}(h:w.heap[qp]?=M (yF most depth db O)):H K 18 #[U (M ⟨qp,0,O⟩),I V pos,I V n] w λe w'=>e=G (.tuple #[.string ⟨#[]⟩,I V 3])/\w'=w:=by
 obtain⟨-,-,-,a,-⟩:=fG h;simp only[AbU]at a;clear h;go_enter func18,ntmps18;go_wp2_with fail;go_ret2;exact⟨rfl,rfl⟩
theorem Tryz.isTypeOf (v:Y)(w:F):(Extern.ReflectliteType.typeOf #[.iface 335 v]).run K w= .ok (.iface 295 (.agg #[U (M ⟨9,335,O⟩)])) w:=by kernel_rfl
theorem Tryz.isMethodComparable (v:Y)(w:F):(Go.method 465 295 v "Comparable").run K w= .ok (275,v) w:=by kernel_rfl
theorem Tryz.isComp:(Tryz.prog.info? 335).map (·.comparable)=M true:=by kernel_rfl
theorem Tryz.isSize:(Tryz.prog.info? 353).map (·.size)=M 1:=by kernel_rfl
theorem Tryz.noIsE (v:Y)(xT:TypeId)(w:F):(Instr.typeAssert (.iface 335 v) xT 306 true).run K w= .ok (.tuple #[.nilIface,.bool false]) w:=AbK underlying306 (by kernel_rfl) (by kernel_rfl) v xT w
theorem Tryz.noUnwrapE (v:Y)(xT:TypeId)(w:F):(Instr.typeAssert (.iface 335 v) xT 302 true).run K w= .ok (.tuple #[.nilIface,.bool false]) w:=AbK underlying302 (by kernel_rfl) (by kernel_rfl) v xT w
theorem Tryz.noUnwrapsE (v:Y)(xT:TypeId)(w:F):(Instr.typeAssert (.iface 335 v) xT 303 true).run K w= .ok (.tuple #[.nilIface,.bool false]) w:=AbK underlying303 (by kernel_rfl) (by kernel_rfl) v xT w
theorem Tryz.noIsS (v:Y)(xT:TypeId)(w:F):(Instr.typeAssert (.iface 278 v) xT 306 true).run K w= .ok (.tuple #[.nilIface,.bool false]) w:=AbK underlying306 (by kernel_rfl) (by kernel_rfl) v xT w
theorem Tryz.noIsL (v:Y)(xT:TypeId)(w:F):(Instr.typeAssert (.iface 206 v) xT 306 true).run K w= .ok (.tuple #[.nilIface,.bool false]) w:=AbK underlying306 (by kernel_rfl) (by kernel_rfl) v xT w
theorem Tryz.hasUnwrapS (v:Y)(xT:TypeId)(w:F):(Instr.typeAssert (.iface 278 v) xT 302 true).run K w= .ok (.tuple #[.iface 278 v,.bool true]) w:=run_typeAssert_hasB underlying302 (by kernel_rfl) v xT w
theorem Tryz.hasUnwrapL (v:Y)(xT:TypeId)(w:F):(Instr.typeAssert (.iface 206 v) xT 302 true).run K w= .ok (.tuple #[.iface 206 v,.bool true]) w:=run_typeAssert_hasB underlying302 (by kernel_rfl) v xT w
theorem Tryz.methodUnwrapS (v:Y)(w:F):(Go.method 465 278 v "Unwrap").run K w= .ok (272,v) w:=by kernel_rfl
theorem Tryz.methodUnwrapL (v:Y)(w:F):(Go.method 465 206 v "Unwrap").run K w= .ok (266,v) w:=by kernel_rfl
def QY (w:F):Nat->Y->Nat
 |f+1,.iface t (U (M a))=>if t=278 then 1+QY w f ((w.cell? ⟨a.block,2,O⟩).getD .nilIface)else if t=206 then 1+QY w f ((w.cell? ⟨a.block,1,O⟩).getD .nilIface)else 0
 |_,_=>0
theorem Ww {b:Nat}(h:w.cell? ⟨b,2,O⟩=M v):H K 272 #[U (M ⟨b,0,O⟩)] w λe w'=>e=G v/\w'=w:=by
 go_enter func272,ntmps272;go_wp2_with fail;go_ret;exact⟨rfl,rfl⟩
theorem Wx {b:Nat}(h:w.cell? ⟨b,1,O⟩=M v):H K 266 #[U (M ⟨b,0,O⟩)] w λe w'=>e=G v/\w'=w:=by
 go_enter func266,ntmps266;go_wp2_with fail;go_ret;exact⟨rfl,rfl⟩
theorem um:∃f:Array Y->Sem Y,(∀(args:Array Y) (w:F),(callFunc 275 args).run K w=((f args).run K w).andThen λv w'=> .ok (.value v) w')/\∀w:F,(f #[.agg #[U (M ⟨9,335,O⟩)]]).run K w= .ok (.bool true) w:=
 ⟨(Extern.find Tryz.f275).getD (λ_=>pure .nilIface),@run_callFunc_extern K 275 _ _ func275 (by kernel_rfl) (by kernel_rfl) (by kernel_rfl) (by kernel_rfl),λw=>by kernel_rfl⟩
theorem CW:∃f:Array Y->Sem Y,(∀(args:Array Y) (w:F),(callFunc 274 args).run K w=((f args).run K w).andThen λv w'=> .ok (.value v) w')/\
 (∀w:F,(f #[.agg #[U (M ⟨9,335,O⟩)],.iface 295 (.agg #[U (M ⟨9,212,O⟩)])]).run K w= .ok (.bool false) w)/\
 (∀w:F,(f #[.agg #[U (M ⟨9,278,O⟩)],.iface 295 (.agg #[U (M ⟨9,212,O⟩)])]).run K w= .ok (.bool false) w)/\
 (∀w:F,(f #[.agg #[U (M ⟨9,206,O⟩)],.iface 295 (.agg #[U (M ⟨9,212,O⟩)])]).run K w= .ok (.bool false) w)/\
 (∀w:F,(f #[.agg #[U (M ⟨9,212,O⟩)],.iface 295 (.agg #[U (M ⟨9,212,O⟩)])]).run K w= .ok (.bool true) w):=
 ⟨(Extern.find Tryz.f274).getD (λ_=>pure .nilIface),@run_callFunc_extern K 274 _ _ func274 (by kernel_rfl) (by kernel_rfl) (by kernel_rfl) (by kernel_rfl),λw=>by kernel_rfl,λw=>by kernel_rfl,λw=>by kernel_rfl,λw=>by kernel_rfl⟩
theorem Tryz.typeOfS (v:Y)(w:F):(Extern.ReflectliteType.typeOf #[.iface 278 v]).run K w= .ok (.iface 295 (.agg #[U (M ⟨9,278,O⟩)])) w:=by kernel_rfl
theorem Tryz.typeOfL (v:Y)(w:F):(Extern.ReflectliteType.typeOf #[.iface 206 v]).run K w= .ok (.iface 295 (.agg #[U (M ⟨9,206,O⟩)])) w:=by kernel_rfl
theorem Tryz.typeOfD (v:Y)(w:F):(Extern.ReflectliteType.typeOf #[.iface 212 v]).run K w= .ok (.iface 295 (.agg #[U (M ⟨9,212,O⟩)])) w:=by kernel_rfl
theorem Tryz.methodAsg (v:Y)(w:F):(Go.method 465 295 v "AssignableTo").run K w= .ok (274,v) w:=by kernel_rfl
theorem Tryz.noAsE (v:Y)(xT:TypeId)(w:F):(Instr.typeAssert (.iface 335 v) xT 299 true).run K w= .ok (.tuple #[.nilIface,.bool false]) w:=AbK underlying299 (by kernel_rfl) (by kernel_rfl) v xT w
theorem Tryz.noAsS (v:Y)(xT:TypeId)(w:F):(Instr.typeAssert (.iface 278 v) xT 299 true).run K w= .ok (.tuple #[.nilIface,.bool false]) w:=AbK underlying299 (by kernel_rfl) (by kernel_rfl) v xT w
theorem Tryz.noAsL (v:Y)(xT:TypeId)(w:F):(Instr.typeAssert (.iface 206 v) xT 299 true).run K w= .ok (.tuple #[.nilIface,.bool false]) w:=AbK underlying299 (by kernel_rfl) (by kernel_rfl) v xT w
theorem Tryz.valueOfDD (t:Addr)(w:F):(ReflectliteValue.unpack (.iface 214 (U (M t)))).run K w
 = .ok (.agg #[U (M ⟨9,214,O⟩),U (M ⟨w.heap.size,0,O⟩),I .u64 150]) (w.alloc (C #[U (M t)] 214)):=by kernel_rfl
theorem Tryz.typeDD (a:Addr)(w:F):(ReflectliteValue.methodAny (ReflectliteValue.valueError "reflectlite.Value.Type" 0) (λt _ _ _=>ReflectliteType.toType t) #[.agg #[U (M ⟨9,214,O⟩),U (M a),I .u64 150]]).run K w
 = .ok (.iface 295 (.agg #[U (M ⟨9,214,O⟩)])) w:=by kernel_rfl
theorem Tryz.methodKind (h:Y)(w:F):(Go.method 465 295 (.agg #[h]) "Kind").run K w= .ok (261,h) w:=by kernel_rfl
theorem Tryz.methodElem (h:Y)(w:F):(Go.method 465 295 (.agg #[h]) "Elem").run K w= .ok (276,.agg #[h]) w:=by kernel_rfl
theorem Tryz.methodImpl (h:Y)(w:F):(Go.method 465 295 (.agg #[h]) "Implements").run K w= .ok (277,.agg #[h]) w:=by kernel_rfl
theorem Wy:∃f:Array Y->Sem Y,(∀(args:Array Y) (w:F),(callFunc 261 args).run K w=((f args).run K w).andThen λv w'=> .ok (.value v) w')/\
 (∀w:F,(f #[U (M ⟨9,214,O⟩)]).run K w= .ok (I .u8 22) w)/\(∀w:F,(f #[U (M ⟨9,212,O⟩)]).run K w= .ok (I .u8 22) w):=
 ⟨(Extern.find Tryz.f261).getD (λ_=>pure .nilIface),@run_callFunc_extern K 261 _ _ func261 (by kernel_rfl) (by kernel_rfl) (by kernel_rfl) (by kernel_rfl),λw=>by kernel_rfl,λw=>by kernel_rfl⟩
theorem Wz:∃f:Array Y->Sem Y,(∀(args:Array Y) (w:F),(callFunc 276 args).run K w=((f args).run K w).andThen λv w'=> .ok (.value v) w')/\
 (∀w:F,(f #[.agg #[U (M ⟨9,214,O⟩)]]).run K w= .ok (.iface 295 (.agg #[U (M ⟨9,212,O⟩)])) w):=
 ⟨(Extern.find Tryz.f276).getD (λ_=>pure .nilIface),@run_callFunc_extern K 276 _ _ func276 (by kernel_rfl) (by kernel_rfl) (by kernel_rfl) (by kernel_rfl),λw=>by kernel_rfl⟩
theorem Xa:∃f:Array Y->Sem Y,(∀(args:Array Y) (w:F),(callFunc 277 args).run K w=((f args).run K w).andThen λv w'=> .ok (.value v) w')/\
 (∀w:F,(f #[.agg #[U (M ⟨9,212,O⟩)],.iface 295 (.agg #[U (M ⟨9,119,O⟩)])]).run K w= .ok (.bool true) w):=
 ⟨(Extern.find Tryz.f277).getD (λ_=>pure .nilIface),@run_callFunc_extern K 277 _ _ func277 (by kernel_rfl) (by kernel_rfl) (by kernel_rfl) (by kernel_rfl),λw=>by kernel_rfl⟩
theorem Tryz.partsDD (a:Addr)(w:F):(ReflectliteValue.parts (.agg #[U (M ⟨9,214,O⟩),U (M a),I .u64 150])).run K w= .ok (M (214,a,150)) w:=by kernel_rfl
theorem Tryz.valueOfD (e:Addr)(w:F):(ReflectliteValue.unpack (.iface 212 (U (M e)))).run K w
 = .ok (.agg #[U (M ⟨9,212,O⟩),U (M ⟨w.heap.size,0,O⟩),I .u64 150]) (w.alloc (C #[U (M e)] 212)):=by kernel_rfl
theorem Tryz.elemOfDD (w:F):(Rtype.elem? 214).run K w= .ok (M 212) w:=by kernel_rfl
theorem Tryz.mkD (p:Addr)(w:F):(ReflectliteValue.mk 212 p ReflectliteValue.flagAddr).run K w= .ok (.agg #[U (M ⟨9,212,O⟩),U (M p),I .u64 406]) w:=by kernel_rfl
theorem Tryz.partsDa (a:Addr)(w:F):(ReflectliteValue.parts (.agg #[U (M ⟨9,212,O⟩),U (M a),I .u64 406])).run K w= .ok (M (212,a,406)) w:=by kernel_rfl
theorem Tryz.partsD (a:Addr)(w:F):(ReflectliteValue.parts (.agg #[U (M ⟨9,212,O⟩),U (M a),I .u64 150])).run K w= .ok (M (212,a,150)) w:=by kernel_rfl
theorem Tryz.directD (w:F):(Rtype.directlyAssignable 212 212).run K w= .ok true w:=by kernel_rfl
theorem Tryz.setD (ta b e:Addr)(old:Y)(W:F)(hb:W.cell? b=M (U (M e)))(ht:W.cell? ta=M old)(hf:W.frozen? ta=false):
 (ReflectliteValue.set #[.agg #[U (M ⟨9,212,O⟩),U (M ta),I .u64 406],.agg #[U (M ⟨9,212,O⟩),U (M b),I .u64 150]]).run K W
  = .ok (.tuple #[]) (W.setCell ta (U (M e))):=by
 show Sem.run K (ReflectliteValue.parts (.agg #[U (M ⟨9,212,O⟩),U (M ta),I .u64 406])>>=λp=>ReflectliteValue.parts (.agg #[U (M ⟨9,212,O⟩),U (M b),I .u64 150])>>=λq=>_) W=_;simp only[Aci,Tryz.partsDa,Tryz.partsD,Result.andThen];simp[ReflectliteValue.flagAddr,loadVar,isAgg,underlying,underlying212,hb,Result.andThen,Tryz.directD,storeVar,Value.cells,storeCells,Addr.add];rw[run_store K W ta _ _ (by rfl)];simp[ht,hf]
theorem e_clo:∀(args:Array Y) (w:F),(callFunc 92 args).run K w= .ok (.enter 92 args) w:=enters_of func92 (by kernel_rfl) rfl
def VB (w:F)(ob cb xb sp lp dp:Nat)(q a b c:Int)(text:ByteArray):Prop:=
 w.heap[ob]?=M (C #[U (M ⟨sp,0,O⟩)] 113 (0,0))/\w.heap[cb]?=M (C #[I .u8 q,I V a,I V b,I V c] 128 (0,0))/\w.heap[xb]?=M (C #[.string text] 9 (0,0))/\∃ro,w.heap[sp]?=M (vP lp dp ro)
theorem Nj (p:Bool):jB p O=O:=by unfold jB;split<;>rfl
theorem Tryz.infoAF:(Tryz.prog.info? 95).map (λi=>(i.zero,i.size,i.bytes))=M (M (.agg #[I V 0,.string ⟨#[]⟩]),2,24):=by kernel_rfl
theorem ZB {db':Nat}{o o':Option Nat}(h:w.heap[qp]?=M (yF a b db o))(h':w.heap[qp]?=M (yF a b db' o')):db=db':=by
 rw[h]at h';unfold yF at h';simp at h';exact h'.1
def ZC (_:Nat)(p:Prop):Prop:=p
theorem nxs (i:Nat)(h:ZC i p):p:=h
theorem nxj (j:Nat)(h:ZC j p):ZC i p:=h
theorem nxe (h:p):ZC i p:=h
theorem ZE {md:Region.Mode}{S:F->Prop}{listed:Array Bool}{a:Act}(hi:ops[i]?=M o)(hB:(Region.noSelect ops && Region.free md ops listed i && (Region.ready md ops listed).contains i)=true)(hQ:∀c a w,Q (.panic c) (a.put o.dst v) w->Q (.panic c) a w)(hw:Region.wanted o (yielded ops a.tmps)=true)(hS:S w)(hy:∀w,S w->(execOp a.eval o).run P w= .ok (.value v) w)(h:ZC (i+1) (wpAnyH P md ops Q S n (listed.setIfInBounds i true) (a.put o.dst v) w)):ZC i (wpAnyH P md ops Q S (n+1) listed a w):=by
 simp only[Abh]at hB;exact wpAnyH_take hi hB.1.1 hB.1.2 hB.2 hQ (Aac ⟨hw,hy⟩) hS h
theorem Np {B' e size:Nat}{xs:List Y}(h:w.ownsRow B e size v n xs)(hB:B'<=B):w.ownsRow B' e size v n xs:=by
 obtain⟨i,c⟩:=h;refine⟨i,?_⟩;rcases c with c|⟨g,a,j,rfl,d,k⟩
 ·exact Aac c
 ·exact Aab ⟨g,a,j,rfl,Aal hB d,k⟩
theorem vw:∀(args:Array Y) (w:F),(callFunc 91 args).run K w= .ok (.enter 91 args) w:=enters_of func91 (by kernel_rfl) rfl
theorem OJ:∀(args:Array Y) (w:F),(callFunc 48 args).run K w= .ok (.enter 48 args) w:=enters_of func48 (by kernel_rfl) rfl
def Gi (kind pos:Int):Int:=if kind=73\/kind=68 then pos else 0
def Gj (kind:Int)(text:ByteArray):Int:=if kind=73 then (text.size:Int)else 0
theorem ZH:∀(args:Array Y) (w:F),(callFunc 47 args).run K w= .ok (.enter 47 args) w:=enters_of func47 (by kernel_rfl) rfl
theorem ba_ne {b:ByteArray}(h:¬b.size=0):b.toList.isEmpty=false:=by
 rw[AcO];cases e:b.data.toList with
 |nil=>exact absurd (by show b.data.size=0;rw[<-Abd,e];rfl) h
 |cons x l=>rfl
theorem Kz {a:Act}{aA:Act->F->Prop}{E:Prop}(pQ:o.guard=O)(f:FuncId)(xs:Array Operand)(ats:Array TypeId)
 (ho:o.op= .call { callee:= .value (.func f),args:=xs,argTypes:=ats })(args:Array Y)(LJ:xs.map a.eval=args)(he:∀(args:Array Y) (w:F),(callFunc f args).run P w= .ok (.enter f args) w)
 (hc:H P f args w λe w'=> ∃v,e=G v/\aA (a.put o.dst v) w'):if Region.wanted o (yielded ops a.tmps)=true then Oper.wp P o a w aA Q else E:=by
 have g:Region.wanted o (yielded ops a.tmps)=true:=by simp[Region.wanted,pQ]
 rw[Aad g];unfold Oper.wp;simp only[execOp,ho]
 have h:Sem.run P (do
  let d <-resolve a.eval { callee:=Callee.value (Operand.func f),args:=xs,argTypes:=ats } o.type
  invoke d.target d.args) w= .ok (.enter f args) w:=by
  simp[resolve,invoke,LJ,he,Act.eval,Deferred.ofValue]
 rw[h];simp only[Oper.upon];refine hc.mono ?_;rintro e w' ⟨v,rfl,c⟩;exact c
theorem wm:∀(args:Array Y) (w:F),(callFunc 101 args).run K w= .ok (.enter 101 args) w:=enters_of func101 (by kernel_rfl) rfl
theorem ba_one {S:ByteArray}(h:1<S.size):S[1]=(S.data.toList.drop 1).headD 0:=by
 have a:1<S.data.toList.length:=by rw[Abd];exact h
 have e:=AaQ a;rw[e];rfl
theorem e_rbytes:∀(args:Array Y) (w:F),(callFunc 104 args).run K w= .ok (.enter 104 args) w:=enters_of func104 (by kernel_rfl) rfl
theorem wu:∀(args:Array Y) (w:F),(callFunc 108 args).run K w= .ok (.enter 108 args) w:=enters_of func108 (by kernel_rfl) rfl
def Nr (qp xb:Nat):Obj:=C #[U (M ⟨qp,0,O⟩),U (M ⟨xb,0,O⟩)] 86 (0,0)
def vH:ByteArray:=⟨#[109,97,114,107]⟩
theorem lM {xb sb:Nat}(h:w.heap[sb]?=M (Nr qp xb)):w.cell? ⟨sb,0,O⟩=M (U (M ⟨qp,0,O⟩))/\w.cell? ⟨sb,1,O⟩=M (U (M ⟨xb,0,O⟩)):=by
 simp[World.cell?,h,Nr]
theorem Tryz.infoSP:(Tryz.prog.info? 42).map (λi=>(i.zero,i.size,i.bytes))=M (M (U O),1,8):=by kernel_rfl
theorem Tryz.infoFSl:(Tryz.prog.info? 35).map (λi=>(i.zero,i.size,i.bytes))=M (M (Z O 0 0),1,24):=by kernel_rfl
theorem Tryz.infoTP:(Tryz.prog.info? 39).map (λi=>(i.zero,i.size,i.bytes))=M (M (U O),1,8):=by kernel_rfl
theorem Xk {rest:List Oper}{a:Act}(pQ:o.guard=O)(s x:Operand)
 (ho:o.op= .call { callee:= .builtin .append,args:=#[s,x],argTypes:=#[25,25] })
 (B:Nat)(v:Y)(xs:List Y)(n:Nat)(u:Y)(he:a.eval s=v)(bB:w.ownsRow B 39 1 v n xs)(ad:Addr)(m c:Nat)(hx:a.eval x=Z (M ad) m c)(hm:m=1)
 (hr:w.cell? (ad.add 0)=M u)(hu:u.oneCell'=true)(hlen:n<=1000000000)(gY:B<=w.heap.size)
 (h:∀v' w',w'.ownsRow B 39 1 v' (n+1) (xs++ [u])->w.grownBy w' v.ownBlock->wpList K ops Q rest (a.put o.dst v') w'):wpList K ops Q (o::rest) a w:=by
 obtain⟨g,i,z,t,r⟩:=AaO Tryz.infoTP;subst hm;refine Abu w pQ s x 25 ho B 39 g (U O) 1 8 underlying25 i z t r rfl (by decide) v n xs he bB ad 1 c [u] hx rfl ?_ ?_ (by unfold maxLen;omega) (by omega) gY ?_
 ·intro j y d;cases j with
  |zero=>simp at d;subst d;exact hr
  |succ j=>simp at d
 ·intro y e;simp at e;subst e;exact hu
 ·intro v' w' k A _;exact h v' w' k A
theorem ba_ext {a b:ByteArray}(h:a.data.toList=b.data.toList):a=b:=by
 obtain⟨⟨a⟩⟩:=a;obtain⟨⟨b⟩⟩:=b;simp only at h;rw[h]
section
variable {P:Program} {ops:Array Oper} {S:F->Prop} {md:Region.Mode} {Q:Exit->Act->F->Prop}
def outG (P:Program)(S:F->Prop)(v:Y):Result Next->Prop
 | .ok (.value u) w=>u=v/\S w
 | .ok (.enter f args) w=>H P f args w λe w'=>e=G v/\S w'
 |_=>False
def YG (P:Program)(ops:Array Oper)(S:F->Prop)(o:Oper)(v:Y)(a:Act):Prop:=Region.wanted o (yielded ops a.tmps)=true/\∀w,S w->outG P S v ((execOp a.eval o).run P w)
theorem YG.wpOp {i:Nat}{o:Oper}{v:Y}{a:Act}(hi:ops[i]?=M o)(hy:YG P ops S o v a){aA:Act->F->Prop}{w:F}(hS:S w)(h:∀w',S w'->aA (a.put o.dst v) w'):wpOp P ops Q i aA a w:=by
 unfold Go.wpOp;have c:=hy.2 w hS;simp only[hi,hy.1,if_true];refine .inl ?_;unfold Oper.wp;generalize (execOp a.eval o).run P w=r at*;cases r with
 |ok n w'=>
  cases n<;>simp only[outG]at c<;>simp only[Oper.upon]
  case value u=>obtain⟨rfl,g⟩:=c;exact h _ g
  case enter f args=>exact c.mono λe d ⟨j,k⟩=>by subst j;exact h _ k
 |halt x w'=>simp only[outG]at c
theorem YG.same {o:Oper}{v:Y}{a a':Act}(hy:YG P ops S o v a)(he:execOp a'.eval o=execOp a.eval o)(hw:Region.wanted o (yielded ops a'.tmps)=Region.wanted o (yielded ops a.tmps)):YG P ops S o v a':=by
 unfold YG at*;rw[he,hw];exact hy
def anyG (P:Program)(md:Region.Mode)(ops:Array Oper)(S:F->Prop)(aA:Act->Prop):Nat->Array Bool->Act->Prop
 |0,listed,a=>Region.ready md ops listed=[]/\aA a
 |n+1,listed,a=>(Region.ready md ops listed=[]->aA a)/\∀i∈Region.ready md ops listed,∃o v,ops[i]?=M o/\YG P ops S o v a/\anyG P md ops S aA n (listed.setIfInBounds i true) (a.put o.dst v)
theorem Xl {aA:Act->Prop}(hK:∀a w,aA a->S w->Q .normal a w):∀(n:Nat) (listed:Array Bool) (a:Act) (w:F),anyG P md ops S aA n listed a->S w->wpAny P md ops Q n listed a w
 |0,_,_,_,h,hS=>⟨h.1,hK _ _ h.2 hS⟩
 |n+1,_,_,_,h,hS=>⟨λh0=>hK _ _ (h.1 h0) hS,λi hi=>by
  obtain⟨o,v,h1,h2,h3⟩:=h.2 i hi;exact h2.wpOp h1 hS (λw' hS'=>Xl hK n _ _ w' h3 hS')⟩
theorem VO {aA:Act->Prop}{i:Nat}{oi:Oper}{v:Y}(hi:ops[i]?=M oi)(hsel:∀(j:Nat) (o:Oper) cs b,ops[j]?=M o->o.op≠.select cs b):∀(n:Nat) (listed:Array Bool) (a:Act),
 (∀j oj,ops[j]?=M oj->j≠i->listed.getD j true=false->(∀e∈oj.after,Region.binds md e=true->e.on≠i)->oi.apart ops oj=true)->
 i∈Region.ready md ops listed->YG P ops S oi v a->anyG P md ops S aA n (listed.setIfInBounds i true) (a.put oi.dst v)->anyG P md ops S aA (n+1) listed a:=by
 intro n
 induction n with
 |zero=>
  intro listed a _ t B z;refine⟨λh=>(by rw[h]at t;cases t),λj D=>?_⟩;by_cases c:j=i
  ·subst c;exact⟨oi,v,hi,B,z⟩
  ·have:=ready_mono D c;rw[z.1]at this;cases this
 |succ n ih=>
  intro listed a d t B z;refine⟨λh=>(by rw[h]at t;cases t),λj D=>?_⟩;by_cases c:j=i
  ·subst c;exact⟨oi,v,hi,B,z⟩
  ·obtain⟨oj,u,g,hu,X⟩:=z.2 j (ready_mono D c);obtain⟨r,L,y,x⟩:=mem_ready.1 D;obtain rfl:oj=L:=AbL (g.symm.trans y)
   have w:∀e∈oj.after,Region.binds md e=true->e.on≠i:=λe he hb J=>by
    have N:=x e he hb;rw[J,getD_both (mem_ready.1 t).1]at N;cases N
   obtain⟨W,a2,Q⟩:=Oper.apart_spec (d j oj g c r w);refine⟨oj,u,g,hu.same (execOp_put oj (λcs b=>hsel j oj cs b g) a oi.dst v W).symm (wanted_put oj a oi.dst v W).symm,ih _ _ (λk ok hk E A Qs=>?_) (ready_mono t (AbX c)) (B.same (execOp_put oi (λcs b=>hsel i oi cs b hi) a oj.dst u Q) (wanted_put oi a oj.dst u Q)) ?_⟩
   ·refine d k ok hk E ?_ Qs;by_cases R:j=k
    ·subst R;exact r
    ·rw[getD_set_ne true R]at A;exact A
   ·rw[Array.setIfInBounds_comm _ _ c,<-Act.put_comm a v u a2];exact X
def seqG (P:Program)(ops:Array Oper)(S:F->Prop)(aA:Act->Prop):List Oper->Act->Prop
 | [],a=>aA a
 |o::l,a=> ∃v,YG P ops S o v a/\seqG P ops S aA l (a.put o.dst v)
theorem OX {aA:Act->Prop}{a:Act}(h:aA a):seqG P ops S aA [] a:=h
theorem OY {aA:Act->Prop}(hs:Region.noSelect ops=true):∀(l:List Oper) (k:Nat) (listed:Array Bool) (a:Act),(∀j,l[j]?=ops[k+j]?)->Region.lexFrom md ops l.length k listed=true->seqG P ops S aA l a->anyG P md ops S aA l.length listed a
 | [],_,_,_,_,hB,h=>⟨by simpa[Region.lexFrom]using hB,h⟩
 |o::l,k,listed,a,hl,hB,h=>by
  have h0:ops[k]?=M o:=by simpa using(hl 0).symm
  simp only[List.length_cons,Region.lexFrom,Bool.and_eq_true]at hB;obtain⟨v,d,c⟩:=h;exact VO h0 (Region.noSelect_spec hs) l.length listed a (Region.free_spec h0 hB.1.2) (by simpa using hB.1.1) d (OY hs l (k+1) _ _ (λj=>by have:=hl (j+1);simpa[Nat.add_assoc,Nat.add_comm 1 j]using this) hB.2 c)
theorem Gn (S:F->Prop){id:Nat}{a:Act}{w:F}{l:List Oper}(hm:P.follows .mixedOrders=true)(hB:Region.lexB .any l.toArray=true)(hS:S { w with drawn:=w.drawn+1 })(h:seqG P l.toArray S (λa'=> ∀w',S w'->Q .normal a' w') l a):(Code.region id l.toArray true).wp P Q a w:=by
 simp only[Region.lexB,Abh]at hB;refine wp_region_any hm (Xl (aA:=λa'=> ∀w',S w'->Q .normal a' w') (λ_ _ h hS=>h _ hS) _ _ _ _ ?_ hS);have:=OY hB.1 l 0 (Array.replicate l.toArray.size false) a (by simp) (by simpa using hB.2) h;simpa using this
end
theorem Xm (a:List UInt8):(⟨a.toArray⟩:ByteArray).size=a.length:=rfl
theorem Xo:∀(args:Array Y) (w:F),(callFunc 115 args).run K w= .ok (.enter 115 args) w:=enters_of func115 (by kernel_rfl) rfl
theorem e_lckpt:∀(args:Array Y) (w:F),(callFunc 114 args).run K w= .ok (.enter 114 args) w:=enters_of func114 (by kernel_rfl) rfl
theorem VR {c:Nat}(h:c<=1200000000000):IntKind.i64.wrap (-((c:Int)+1))= -((c:Int)+1):=by rw[AaC];omega
def PX (bs:List Bool):List Int:=bs.mapIdx (λi b=>if b then (i:Int)+1 else -((i:Int)+1))
theorem tV (bs:List Bool):(PX bs).length=bs.length:=by simp[PX]
theorem mkA_get {b:Bool}(h:bs[k]?=M b):(PX bs).getD k 0=if b then (k:Int)+1 else -((k:Int)+1):=by
 simp[PX,List.getD_eq_getElem?_getD,List.getElem?_mapIdx,h]
theorem PY (bs:List Bool)(b:Bool):PX (bs++ [b])=PX bs++ [if b then (bs.length:Int)+1 else -((bs.length:Int)+1)]:=by
 simp[PX,List.mapIdx_concat]
def Sz (bs:List Bool)(b:Bool)(k:Nat):Nat:=(bs.take k).count b
theorem VT {b:Bool}(h:bs[k]?=M b):Sz bs b (k+1)=Sz bs b k+1:=by
 simp[Sz,List.take_add_one,h]
theorem np_no {b b':Bool}(h:bs[k]?=M b')(hne:b'≠b):Sz bs b (k+1)=Sz bs b k:=by
 simp[Sz,List.take_add_one,h,hne]
theorem np_le (bs:List Bool)(b:Bool)(k:Nat):Sz bs b k<=bs.count b:=(List.take_sublist k bs).count_le b
theorem np_lt {b:Bool}(h:bs[k]?=M b):Sz bs b k<bs.count b:=by
 have:=np_le bs b (k+1);rw[VT h]at this;omega
end Go.Proofs.YtfplgfodoiiobabGreatDoor
