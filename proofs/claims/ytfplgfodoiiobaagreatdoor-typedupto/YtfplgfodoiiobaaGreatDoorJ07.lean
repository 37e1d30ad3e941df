/- PgA, RefQ (joined). -/
import Derived.Test.YtfplgfodoiiobaaGreatDoorJ06
open Option renaming none→O,some→M
open Go.Value renaming int→I,slice→Z
open Go.Obj renaming cells→C
open Go renaming World→F,Value→Y
open Go.Proofs.Tryz renaming prog→K
namespace Go.Proofs.YtfplgfodoiiobaaGreatDoor
open Go.RowKit
variable {w w':F}{l:List UInt8}{B:Nat}{v:Y}{X:Nat->Prop}{ao:Option Addr}
def eP:List UInt8->Int
 |a::b::c::d::_=>(a.toNat:Int)*16777216+(b.toNat:Int)*65536+(c.toNat:Int)*256+(d.toNat:Int)
 |_=>0
theorem lJ (l:List UInt8):0<=eP l/\eP l<4294967296:=by
 unfold eP;split
 ·rename_i a b c d _;have h1:=UInt8.toNat_lt a;have h2:=UInt8.toNat_lt b;have h3:=UInt8.toNat_lt c;have h4:=UInt8.toNat_lt d;omega
 ·omega
def Db (l:List UInt8):List Y:=l.map fun b=>Value.int .u8 (b.toNat:Int)
theorem iE (l:List UInt8):(Db l).length=l.length:=by simp[Db]
theorem wH (a b:List UInt8):Db (a++b)=Db a++Db b:=by simp[Db]
theorem KZ {j:Nat}{b:UInt8}(h:l[j]?=M b):(Db l)[j]?=M (I .u8 (b.toNat:Int)):=by simp[Db,h]
def lZ (w:F)(ao:Option Addr)(l:List UInt8):Prop:=
 l=[]\/∃b off,ao=M ⟨b,off,O⟩/\∀(i:Nat) (x:UInt8),l[i]?=M x->w.cell? ⟨b,off+i,O⟩=M (I .u8 (x.toNat:Int))
def bB (w:F)(B:Nat)(v:Y)(l:List UInt8):Prop:=(v=Z O 0 0/\l=[])\/∃g cap aQ mk,v=Z (M ⟨g,0,O⟩) l.length cap/\B<=g/\w.heap[g]?=M (C aQ 5 mk)/\(mk=(0,0)\/mk=(aQ.size,aQ.size+1))/\l.length<=cap/\cap<=maxLen/\aQ.size=cap/\aQ.toList.take l.length=Db l
theorem bB.of {n:Nat}(h:w.ownsRow B 5 1 v n (Db l)):bB w B v l:=by
 obtain⟨h0,h⟩:=h;have hn:n=l.length:=by rw[iE]at h0;omega
 subst hn;rcases h with⟨rfl,h⟩|⟨g,cap,aQ,rfl,hb,hg,h1,h2,h3,h4⟩
 ·exact Or.inl ⟨rfl,List.eq_nil_of_length_eq_zero h⟩
 ·exact Or.inr ⟨g,cap,aQ,(0,0),rfl,hb,hg,Or.inl rfl,h1,h2,by omega,by simpa using h4⟩
theorem bB.ty (h:bB w B v l){g:Nat}(hg:v.ownBlock=M g):∃aQ mk,w.heap[g]?=M (C aQ 5 mk):=by
 rcases h with⟨rfl,-⟩|⟨g',cap,aQ,mk,rfl,-,hh,-⟩
 ·simp[Value.ownBlock]at hg
 ·simp[Value.ownBlock]at hg;subst hg;exact⟨aQ,mk,hh⟩
theorem bB.lt (h:bB w B v l):∀k,v.ownBlock=M k->B<=k/\k<w.heap.size:=by
 intro k hk;rcases h with⟨rfl,-⟩|⟨g',cap,aQ,mk,rfl,hb,hh,-⟩
 ·simp[Value.ownBlock]at hk
 ·simp[Value.ownBlock]at hk;subst hk;exact⟨hb,aL hh⟩
theorem bB.fr (h:bB w B v l)(hF:Fr w w' X)(hx:∀g,v.ownBlock=M g->¬X g):bB w' B v l:=by
 rcases h with h|⟨g,cap,aQ,mk,rfl,hb,hh,h1⟩
 ·exact Or.inl h
 ·exact Or.inr ⟨g,cap,aQ,mk,rfl,hb,hF.at hh (hx g rfl),h1⟩
theorem bB.kept {row:Option Nat}(h:bB w B v l)(hg:w.grownBy w' row)(hne:v.ownBlock=O\/v.ownBlock≠row):bB w' B v l:=by
 rcases h with h|⟨g,cap,aQ,mk,rfl,hb,hh,h1⟩
 ·exact Or.inl h
 ·exact Or.inr ⟨g,cap,aQ,mk,rfl,hb,(hg.block g (aL hh) (by simpa[Value.ownBlock]using hne)).trans hh,h1⟩
theorem bB.alloc (h:bB w B v l)(o:Obj):bB (w.alloc o) B v l:=
 h.kept (World.grownBy_alloc w o O) (by cases hv:v.ownBlock<;>simp)
theorem bB.ne {b:Nat}{cs:Array Y}{t:TypeId}{f:Nat×Nat}(h:bB w B v l)(hb:w.heap[b]?=M (C cs t f))(ht:t≠5):v.ownBlock≠M b:=fun e=>by
 obtain⟨aQ,mk,hc⟩:=h.ty e;rw[hb]at hc;cases hc
 exact ht rfl
theorem lZ.nil (w:F)(ao:Option Addr):lZ w ao []:=Or.inl rfl
theorem lZ.aM (h:lZ w ao l)(hg:aK w w'):lZ w' ao l:=by
 rcases h with h|⟨b,off,e,hc⟩
 ·exact Or.inl h
 ·exact Or.inr ⟨b,off,e,fun i x hx=>cell_later hg (hc i x hx)⟩
theorem lZ.fr (h:lZ w ao l)(hF:Fr w w' X)(hx:∀a,ao=M a->¬X a.block):lZ w' ao l:=by
 rcases h with rfl|⟨b,off,rfl,hc⟩
 ·left;rfl
 ·refine Or.inr ⟨b,off,rfl,fun i x hi=>?_⟩;have h1:=hc i x hi;have hb:w'.heap[b]?=w.heap[b]?:=hF.2 b (World.block_lt_of_cell? _ _ h1) (hx _ rfl);exact(World.cell?_of_block (a:=⟨b,off+i,O⟩) hb).trans h1
theorem lZ.drop {b off:Nat}(h:lZ w (M ⟨b,off,O⟩) l)(k:Nat):lZ w (M ⟨b,off+k,O⟩) (l.drop k):=by
 rcases h with rfl|⟨b',Lx,e,hc⟩
 ·left;simp
 ·cases e
  refine Or.inr ⟨b,off+k,rfl,fun i x hx=>?_⟩;rw[List.getElem?_drop]at hx;have:=hc (k+i) x hx;rw[<-Nat.add_assoc]at this;exact this
theorem lZ.take (h:lZ w ao l)(k:Nat):lZ w ao (l.take k):=by
 rcases h with rfl|⟨b,off,e,hc⟩
 ·left;simp
 ·refine Or.inr ⟨b,off,e,fun i x hx=>?_⟩;rw[List.getElem?_take]at hx;split at hx
  ·exact hc i x hx
  ·cases hx
theorem bB.form (h:bB w B v l):
 ∃ao cap,v=Z ao l.length cap/\lZ w ao l/\l.length<=cap/\(ao=O->l.length=0/\cap=0)/\(∀a,ao=M a->B<=a.block/\a.block<w.heap.size/\∃aQ mk,w.heap[a.block]?=M (C aQ 5 mk)):=by
 rcases h with⟨rfl,rfl⟩|⟨g,cap,aQ,mk,rfl,hg,hh,-,gG,-,hcs,ht⟩
 ·exact⟨O,0,rfl,Or.inl rfl,by simp,fun _=>⟨rfl,rfl⟩,(fun _ e=>by cases e)⟩
 ·refine⟨M ⟨g,0,O⟩,cap,rfl,Or.inr ⟨g,0,rfl,fun i x hx=>?_⟩,gG,(fun e=>by cases e),(fun a e=>by cases e;exact⟨hg,aL hh,aQ,mk,hh⟩)⟩;have h1:=KZ hx;rw[<-ht,List.getElem?_take]at h1;rw[Nat.zero_add,cell_of_row w g i aQ 5 mk hh];split at h1
  ·simpa using h1
  ·cases h1
theorem bB.nil (w:F)(B:Nat):bB w B (Z O 0 0) []:=Or.inl ⟨rfl,rfl⟩
theorem bB.aM (h:bB w B v l)(hg:aK w w'):bB w' B v l:=h.fr (Fr.bT hg (fun _=>False)) (fun _ _=>id)
theorem bB.mono {B':Nat}(h:bB w B v l)(hB:B'<=B):bB w B' v l:=by
 rcases h with h2|⟨g,cap,aQ,mk,rfl,hg,hh⟩
 ·exact Or.inl h2
 ·exact Or.inr ⟨g,cap,aQ,mk,rfl,Nat.le_trans hB hg,hh⟩
theorem FL {α:Type}(l:List α)(o:Nat)(v:α)(k:Nat)(ho:o<l.length):(l.set o v).take (o+1)=l.take o++ [v]/\(l.set o v).drop (o+1+k)=l.drop (o+1+k):=by
 refine⟨?_,?_⟩
 ·rw[List.take_add_one,List.take_set_of_le (Nat.le_refl o)];simp[ho]
 ·rw[List.drop_set_of_lt (by omega)]
theorem Iy (g:Nat)(t:TypeId)(mk:Nat×Nat):∀(vs:List Y) (o:Nat) (w:F) (aQ:Array Y),w.heap[g]?=M (C aQ t mk)->o+vs.length<=aQ.size->
 ∃oF,(w.setCells g o vs).heap[g]?=M (C oF t mk)/\oF.toList=aQ.toList.take o++vs++aQ.toList.drop (o+vs.length)
 | [],o,w,aQ,h,_=>⟨aQ,h,by simp⟩
 |v::vs,o,w,aQ,h,hl=>by
  simp only[List.length_cons]at hl
  have h1:(w.setCell ⟨g,o,O⟩ v).heap[g]?=M (C (aQ.setIfInBounds o v) t mk):=by
   simp[World.setCell,Array.getElem?_modify,h]
  have iU:(aQ.toList.set o v).length=aQ.size:=by simp
  obtain⟨oF,h2,h3⟩:=Iy g t mk vs (o+1) (w.setCell ⟨g,o,O⟩ v) _ h1 (by simp;omega);refine⟨oF,h2,h3.trans ?_⟩;have bS:o<aQ.toList.length:=by simp;omega
  have e:(aQ.setIfInBounds o v).toList=aQ.toList.set o v:=by simp
  obtain⟨p1,p2⟩:=FL aQ.toList o v vs.length bS;rw[e,p1,p2,show o+1+vs.length=o+(v::vs).length from by simp;omega];simp
theorem yR (g:Nat):∀(vs:List Y) (o:Nat) (w:F),w.grownBy (w.setCells g o vs) (M g)
 | [],_,w=>World.grownBy.refl _ _
 |v::vs,o,w=>by
  have h:=yR g vs (o+1) (w.setCell ⟨g,o,O⟩ v);refine⟨h.os,h.tape,h.output,?_,fun k hk hne=>?_⟩
  ·have h2:(w.setCell ⟨g,o,O⟩ v).heap.size=w.heap.size:=by simp[World.setCell]
   rw[<-h2];exact h.size
  ·refine(h.block k (by simpa[World.setCell]using hk) hne).trans ?_;have hgk:g≠k:=fun e=>hne (by rw[e])
   simp[World.setCell,Array.getElem?_modify,hgk]
theorem Tryz.infoByte:(Tryz.prog.info? 5).map (fun i=>(i.zero,i.size,i.bytes))=M (M (I .u8 0),1,1):=by kernel_rfl
def fC (w:F)(v v':Y):Prop:=v'.ownBlock=v.ownBlock\/∀k,v'.ownBlock=M k->w.heap.size<=k
theorem wJ {P:Program}(w:F)(base:Nat)(t ty e:TypeId)(i:TypeInfo)(z:Y)(size bytes:Nat)(ht:P.underlying t=M (.slice e))(hi:P.info? e=M i)(hz:i.zero=M z)
 (Ar:i.size=size)(Yr:i.bytes=bytes)(hzs:z.cells.size=size)(iU:0<size)
 (v:Y)(n:Nat)(xs:List Y)(cZ:w.ownsRow base e size v n xs)
 (a:Addr)(m c:Nat)(news:List Y)(hl:news.length=m*size)(tV:∀j u,news[j]?=M u->w.cell? (a.add j)=M u)(h1:∀u∈news,u.oneCell'=true)
 (h63:n+m<=maxLen)(Gn:(n+m)*bytes<=140737488355328)(mX:base<=w.heap.size):
 ∃v' w',(Builtin.append_ #[t,t] ty #[v,Z (M a) m c]).run P w= .ok v' w'/\w'.ownsRow base e size v' (n+m) (xs++news)/\w.grownBy w' v.ownBlock/\fC w v v':=by
 obtain⟨v',w',hr,ho,Ls,-⟩:=run_append_own (P:=P) w base t ty e i z size bytes ht hi hz Ar Yr hzs iU v n xs cZ a m c news hl tV h1 h63 Gn mX;refine⟨v',w',hr,ho,Ls,?_⟩;have hsmall:n+m<=9223372036854775807:=by simp only[maxLen]at h63;omega
 rcases cZ.2 with⟨rfl,rfl⟩|⟨g,cap,aQ,rfl,SI,hg,hnc,hcm,hcs,Q_⟩
 ·have hx:xs=[]:=List.eq_nil_of_length_eq_zero (by simpa using cZ.1);subst hx;obtain⟨v2,w2,Qb,ho2,-,-⟩:=run_append_own (P:=P) w w.heap.size t ty e i z size bytes ht hi hz Ar Yr hzs iU _ 0 [] (World.ownsRow_nil w w.heap.size e size) a m c news hl tV h1 h63 Gn (Nat.le_refl _);rw[hr]at Qb;cases Qb
  refine Or.inr fun k hk=>(ho2.lt k hk).1
 ·subst Ar;by_cases qJ:n+m<=cap
  ·have Mg:n*i.size+news.length<=aQ.size:=by rw[hl,hcs,<-Nat.add_mul];exact Nat.mul_le_mul_right _ qJ
   have Qb:=run_append_room (P:=P) w t ty e i ht hi g n cap aQ hg a m c news hl tV h1 qJ Mg;rw[hr]at Qb;cases Qb
   exact Or.inl rfl
  ·subst Yr;have holds:∀j u,xs[j]?=M u->w.cell? ((⟨g,0,O⟩:Addr).add j)=M u:=cZ.cells (g:=g) rfl;have Qb:=run_append_grow (P:=P) w t ty e i z ht hi hz ⟨g,0,O⟩ n cap xs cZ.1 holds a m c news hl tV (by omega) (by omega) (growslice_fits (by omega) Gn);rw[hr]at Qb;cases Qb
   exact Or.inr fun k hk=>by simp[Value.ownBlock]at hk;omega
theorem lZ.cells {ad:Addr}{zs:List UInt8}(hr:lZ w (M ad) zs):∀j u,(Db zs)[j]?=M u->w.cell? (ad.add j)=M u:=by
 intro j u hj;rcases hr with rfl|⟨b,off,e,hc⟩
 ·simp[Db]at hj
 ·cases e
  unfold Db at hj;rw[List.getElem?_map]at hj;cases hz:zs[j]? with
  |none=>rw[hz]at hj;simp at hj
  |some x=>
   rw[hz]at hj;simp at hj;subst hj;have:=hc j x hz;cases j with
   |zero=>simpa[Addr.add]using this
   |succ j=>simpa[Addr.add]using this
theorem Iz {P:Program}(w:F)(base:Nat)(t ty:TypeId)(i:TypeInfo)(z:Y)(ht:P.underlying t=M (.slice 5))(hi:P.info? 5=M i)(hz:i.zero=M z)
 (Ar:i.size=1)(Yr:i.bytes=1)(hzs:z.cells.size=1)
 (v:Y)(l:List UInt8)(cZ:bB w base v l)
 (a:Addr)(m c:Nat)(zs:List UInt8)(hl:zs.length=m)(tV:∀j u,(Db zs)[j]?=M u->w.cell? (a.add j)=M u)
 (h63:l.length+m<=maxLen)(Gn:(l.length+m)*1<=140737488355328)(mX:base<=w.heap.size):
 ∃v' w',(Builtin.append_ #[t,t] ty #[v,Z (M a) m c]).run P w= .ok v' w'/\bB w' base v' (l++zs)/\w.grownBy w' v.ownBlock/\fC w v v':=by
 have h1:∀u∈Db zs,u.oneCell'=true:=by
  intro u hu;obtain⟨z,-,rfl⟩:=List.mem_map.1 hu;rfl
 have hzl:(Db zs).length=m*1:=by rw[iE];omega
 have plain:∀v,w.ownsRow base 5 1 v l.length (Db l)->∃v' w',(Builtin.append_ #[t,t] ty #[v,Z (M a) m c]).run P w= .ok v' w'/\bB w' base v' (l++zs)/\w.grownBy w' v.ownBlock/\fC w v v':=fun v h=>by
  obtain⟨v',w',a1,a2,a3,a4⟩:=wJ (P:=P) w base t ty 5 i z 1 1 ht hi hz Ar Yr hzs (by decide) v l.length (Db l) h a m c (Db zs) hzl tV h1 h63 Gn mX;exact⟨v',w',a1,bB.of (n:=l.length+m) (by rw[wH];exact a2),a3,a4⟩
 rcases cZ with⟨rfl,rfl⟩|⟨g,cap,aQ,mk,rfl,hb,hg,hmk,gG,hcm,hcs,Un⟩
 ·exact plain _ (World.ownsRow_nil w base 5 1)
 ·rcases hmk with rfl|rfl
  ·exact plain _ ⟨by rw[iE];omega,Or.inr ⟨g,cap,aQ,rfl,hb,hg,gG,hcm,by omega,by simpa using Un⟩⟩
  ·have hcell:∀j,w.cell? ⟨g,j,O⟩=aQ[j]?:=fun j=>cell_of_row w g j aQ 5 _ hg
   by_cases qJ:l.length+m<=cap
   ·have hr:=run_append_room_cells (P:=P) w t ty 5 i ht hi g 0 l.length cap a m c (Db zs) (by rw[Ar];exact hzl) tV h1 qJ (fun j hj=>by
     rw[hcell,Ar];rw[iE]at hj;simp;omega) (fun j hj=>by
     rw[iE]at hj;rw[Ar];simp only[World.frozen?,hg];simp;omega)
    rw[Ar]at hr;obtain⟨oF,q1,q2⟩:=Iy g 5 _ (Db zs) (0+l.length*1) w aQ hg (by rw[iE];omega)
    have LA:oF.size=aQ.size:=by
     have:=congrArg List.length q2;simp[iE]at this;omega
    refine⟨_,_,hr,Or.inr ⟨g,cap,oF,(aQ.size,aQ.size+1),by rw[List.length_append,hl],hb,q1,Or.inr (by rw[LA]),by rw[List.length_append];omega,hcm,by omega,?_⟩,yR g _ _ w,Or.inl rfl⟩;rw[q2,wH,<-Un];have e1:(List.take l.length aQ.toList).length=l.length:=by simp;omega
    rw[show 0+l.length*1=l.length from by omega,List.length_append,List.take_append_of_le_length (by simp[iE];omega),List.take_of_length_le (by simp[iE];omega)]
   ·obtain⟨v',w',hr,ho,Ls⟩:=run_append_arg_grows (P:=P) w t ty 5 i z 1 1 ht hi hz Ar Yr hzs (by decide) ⟨g,0,O⟩ l.length cap (Db l) (by rw[iE];omega) (fun j u hu=>by
     rw[Addr.add_lit,Nat.zero_add,hcell];rw[<-Un,List.getElem?_take]at hu;split at hu
     ·simpa using hu
     ·cases hu) a m c (Db zs) hzl tV (by omega) h63 Gn
    refine⟨v',w',hr,(bB.of (n:=l.length+m) (by rw[wH];exact ho)).mono mX,⟨Ls.os,Ls.tape,Ls.output,Ls.size,fun k hk _=>Ls.block k hk (by simp)⟩,Or.inr fun k hk=>(ho.lt k hk).1⟩
theorem xQ {ops:Array Oper}{rest:List Oper}{o:Oper}{a:Act}{Q:Exit->Act->F->Prop}(Ir:o.guard=O)(s x:Operand)
 (ho:o.op= .call { callee:= .builtin .append,args:=#[s,x],argTypes:=#[153,153] })
 (base:Nat)(v:Y)(ys zs:List UInt8)(hs:a.eval s=v)(cZ:bB w base v ys)(ao:Option Addr)(m c:Nat)(hx:a.eval x=Z ao m c)(hm:m=zs.length)(gJ:ao=O->zs.length=0/\c=0)(hr:lZ w ao zs)
 (hlen:ys.length+zs.length<=1000000000)(mX:base<=w.heap.size)
 (h:∀v' w',bB w' base v' (ys++zs)->w.grownBy w' v.ownBlock->fC w v v'->wpList K ops Q rest (a.put o.dst v') w'):wpList K ops Q (o::rest) a w:=by
 obtain⟨i0,hi,uZ,wE,xZ⟩:=info_parts Tryz.infoByte;subst hm;cases ao with
 |none=>
  obtain⟨h1,rfl⟩:=gJ rfl;have hz:zs=[]:=List.eq_nil_of_length_eq_zero h1;subst hz;rcases cZ with⟨rfl,rfl⟩|⟨g,cap,aQ,mk,rfl,hb,hg,hmk,gG,hcm,hcs,Un⟩
  ·exact wpList_append_own_none Ir s x 153 ho base 5 i0 1 Tryz.underlying153 hi _ _ _ hs (World.ownsRow_nil w base 5 1) hx (h _ w (bB.nil w base) (World.grownBy.refl _ _) (Or.inl rfl))
  ·have Kb:∀ty,(Builtin.append_ #[153,153] ty #[Z (M ⟨g,0,O⟩) ys.length cap,Z O 0 0]).run K w= .ok (Z (M ⟨g,0,O⟩) ys.length cap) w:=fun ty=>by
    simp[Builtin.append_,run_underlying Tryz.underlying153,sizeOf,typeInfo,hi,Builtin.lenOf,Builtin.firstCells,gG,storeCells]
   refine wpList_plain Ir fun _ hK=>?_
   unfold Oper.wp;simp[execOp,ho,resolve,invoke,builtin,hs,hx,Kb,Result.andThen];exact hK _ _ (h _ w (by rw[List.append_nil];exact Or.inr ⟨g,cap,aQ,mk,rfl,hb,hg,hmk,gG,hcm,hcs,Un⟩) (World.grownBy.refl _ _) (Or.inl rfl))
 |some ad=>
  obtain⟨v',w',Kb,OP,Ls,LB⟩:=Iz (P:=K) w base 153 o.type i0 (I .u8 0) Tryz.underlying153 hi uZ wE xZ rfl v ys cZ ad zs.length c zs rfl (lZ.cells hr) (by unfold maxLen;omega) (by omega) mX;refine wpList_plain Ir fun _ hK=>?_
  unfold Oper.wp execOp;simp only[ho,resolve,invoke,builtin,Sem.run_bind,Sem.run_pure,Result.andThen_ok,List.map_toArray,List.map_cons,List.map_nil,hs,hx,Kb];exact hK _ _ (h v' w' OP Ls LB)
def yS (w:F)(B:Nat)(v:Y)(l:List UInt8):Prop:=w.ownsRow B 5 1 v l.length (Db l)
theorem yS.nil (w:F)(B:Nat):yS w B (Z O 0 0) []:=World.ownsRow_nil w B 5 1
theorem yS.b (h:yS w B v l):bB w B v l:=bB.of h
theorem yS.fr (h:yS w B v l)(hF:Fr w w' X)(hx:∀g,v.ownBlock=M g->¬X g):yS w' B v l:=bO h hF (fun g _ e _=>hx g e)
theorem yS.aM (h:yS w B v l)(hg:aK w w'):yS w' B v l:=bO h (Fr.bT hg (fun _=>False)) (fun _ _ _ _=>id)
theorem Yt {ops:Array Oper}{rest:List Oper}{o:Oper}{a:Act}{Q:Exit->Act->F->Prop}(Ir:o.guard=O)(s x:Operand)
 (ho:o.op= .call { callee:= .builtin .append,args:=#[s,x],argTypes:=#[153,153] })
 (base:Nat)(v:Y)(ys zs:List UInt8)(hs:a.eval s=v)(cZ:yS w base v ys)(ao:Option Addr)(m c:Nat)(hx:a.eval x=Z ao m c)(hm:m=zs.length)(gJ:ao=O->zs.length=0/\c=0)(hr:lZ w ao zs)
 (hlen:ys.length+zs.length<=1000000000)(mX:base<=w.heap.size)
 (h:∀v' w',yS w' base v' (ys++zs)->w.grownBy w' v.ownBlock->fC w v v'->wpList K ops Q rest (a.put o.dst v') w'):wpList K ops Q (o::rest) a w:=by
 obtain⟨i0,hi,uZ,wE,xZ⟩:=info_parts Tryz.infoByte;subst hm;cases ao with
 |none=>
  obtain⟨h1,rfl⟩:=gJ rfl;have hz:zs=[]:=List.eq_nil_of_length_eq_zero h1;subst hz;exact wpList_append_own_none Ir s x 153 ho base 5 i0 1 Tryz.underlying153 hi v _ _ hs cZ hx (h v w (by simpa using cZ) (World.grownBy.refl _ _) (Or.inl rfl))
 |some ad=>
  obtain⟨v',w',Kb,OP,Ls,LB⟩:=wJ (P:=K) w base 153 o.type 5 i0 (I .u8 0) 1 1 Tryz.underlying153 hi uZ wE xZ rfl (by decide) v ys.length (Db ys) cZ ad zs.length c (Db zs) (by rw[iE];omega) (lZ.cells hr) (by
   intro u hu;obtain⟨z,-,rfl⟩:=List.mem_map.1 hu;rfl) (by unfold maxLen;omega) (by omega) mX
  refine wpList_plain Ir fun _ hK=>?_
  unfold Oper.wp execOp;simp only[ho,resolve,invoke,builtin,Sem.run_bind,Sem.run_pure,Result.andThen_ok,List.map_toArray,List.map_cons,List.map_nil,hs,hx,Kb];refine hK _ _ (h v' w' ?_ Ls LB);unfold yS;rw[wH,List.length_append];exact OP
abbrev Sn:=List UInt8×Bool
def bM (r:Sn):Int×Sn:=if r.2=true\/r.1.length<4 then (0,(r.1,true))else (eP r.1,(r.1.drop 4,false))
def gX (p:Prop)[Decidable p](r:Sn):Sn:=if p then (r.1,true)else r
def sZ:Nat->Int->Sn->List (Int×Int)×Sn
 |0,_,r=>([],r)
 |k+1,size,r=>if r.2=true then ([],r)else
  let a:=bM r
  let b:=bM a.2
  let q:=sZ k size (gX (b.1<1\/5000<b.1\/size<a.1+b.1) b.2)
  ((a.1,b.1)::q.1,q.2)
def eD (size:Int)(r:Sn):List (Int×Int)×Sn:=
 let n:=bM r
 let q:=sZ n.1.toNat size (gX (4096<n.1) n.2)
 (q.1,gX (5000<sz q.1) q.2)
def sD:Nat->Int->Sn->List Ed×Sn
 |0,_,r=>([],r)
 |k+1,size,r=>if r.2=true then ([],r)else
  let a:=bM r
  let b:=eD size a.2
  let c:=eD size b.2
  let q:=sD k size c.2
  ((a.1,b.1,c.1)::q.1,q.2)
def jL (size:Int)(r:Sn):List Ed×Sn:=
 let n:=bM r
 sD n.1.toNat size (gX (50<n.1) n.2)
def oG:List (Int×Int×Int)->Int->Bool
 | [],_=>true
 |(p,a,b)::l,n=>if n<p+a then false else if 5000<n-a+b then false else oG l (n-a+b)
def pU (e:Ed):Int×Int×Int:=(e.1,sz e.2.2,sz e.2.1)
def lK (e:Ed):Int×Int×Int:=(e.1,sz e.2.1,sz e.2.2)
theorem FM (r:Sn):0<=(bM r).1/\(bM r).1<4294967296:=by
 unfold bM;split
 ·simp
 ·exact lJ _
theorem zV {r:Sn}(h:r.2=true):bM r=(0,(r.1,true)):=by unfold bM;rw[if_pos (Or.inl h)]
def OQ (p:Int×Int):Prop:=0<=p.1/\p.1<4294967296/\0<=p.2/\p.2<4294967296
theorem UN:∀(k:Nat) (size:Int) (r:Sn),(∀p∈(sZ k size r).1,OQ p)/\(sZ k size r).1.length<=k:=by
 intro k
 induction k with
 |zero=>intro size r;simp[sZ]
 |succ k ih=>
  intro size r;unfold sZ;split
  ·simp
  ·simp only;generalize gX ((bM (bM r).2).1<1\/5000<(bM (bM r).2).1\/size<(bM r).1+(bM (bM r).2).1) (bM (bM r).2).2=q;obtain⟨h1,h2⟩:=ih size q;refine⟨fun p hp=>?_,by simp;omega⟩;simp only[List.mem_cons]at hp;rcases hp with rfl|hp
   ·have a:=FM r;have b:=FM (bM r).2;unfold OQ;simp only;omega
   ·exact h1 p hp
theorem vI:∀(k:Nat) (size:Int) (r:Sn),r.2=true->sZ k size r=([],r):=by
 intro k size r h;cases k with
 |zero=>rfl
 |succ k=>unfold sZ;rw[if_pos h]
theorem Ja (size:Int)(r:Sn):(∀p∈(eD size r).1,OQ p)/\(eD size r).1.length<=4096:=by
 unfold eD;simp only;obtain⟨h1,h2⟩:=UN (bM r).1.toNat size (gX (4096<(bM r).1) (bM r).2);refine⟨h1,?_⟩;by_cases h:4096<(bM r).1
 ·rw[vI _ _ _ (by unfold gX;rw[if_pos h])];simp
 ·omega
theorem pV:∀(k:Nat) (size:Int) (r:Sn),r.2=true->sD k size r=([],r):=by
 intro k size r h;cases k with
 |zero=>rfl
 |succ k=>unfold sD;rw[if_pos h]
def rawE (e:Ed):Prop:=(0<=e.1/\e.1<4294967296)/\((∀p∈e.2.1,OQ p)/\e.2.1.length<=4096)/\((∀p∈e.2.2,OQ p)/\e.2.2.length<=4096)
theorem UO:∀(k:Nat) (size:Int) (r:Sn),(∀e∈(sD k size r).1,rawE e)/\(sD k size r).1.length<=k:=by
 intro k
 induction k with
 |zero=>intro size r;simp[sD]
 |succ k ih=>
  intro size r;unfold sD;split
  ·simp
  ·simp only;obtain⟨h1,h2⟩:=ih size (eD size (eD size (bM r).2).2).2;refine⟨fun e he=>?_,by simp;omega⟩;simp only[List.mem_cons]at he;rcases he with rfl|he
   ·exact⟨FM r,Ja _ _,Ja _ _⟩
   ·exact h1 e he
theorem Mh (size:Int)(r:Sn):(∀e∈(jL size r).1,rawE e)/\(jL size r).1.length<=50:=by
 unfold jL;simp only;obtain⟨h1,h2⟩:=UO (bM r).1.toNat size (gX (50<(bM r).1) (bM r).2);refine⟨h1,?_⟩;by_cases h:50<(bM r).1
 ·rw[pV _ _ _ (by unfold gX;rw[if_pos h])];simp
 ·omega
def lM (s:ByteArray)(buf:Int)(depth:Nat):Option (Int×bR):=
 if s.size=0 then M (0,([],[],[],0,0))else
 if s.size<29\/s.data.toList.head?≠M 75 then O else
 let body:=s.data.toList.take (s.size-4)
 let e:=bM (body.drop 1,false)
 let d:=bM e.2
 let b:=bM d.2
 let t:=eD b.1 b.2
 let u:=jL b.1 t.2
 let r:=jL b.1 u.2
 if eP (s.data.toList.drop (s.size-4))=jR body/\r.2.2=false/\r.2.1=[]/\1<=e.1/\e.1<=999/\d.1<=1000000000/\b.1<=buf/\oG (u.1.map pU) (sz t.1)=true/\oG (r.1.map lK) (sz t.1)=true
 then M (e.1,(t.1,u.1.take depth,r.1.take depth,d.1,b.1))else O
def gQ (m:bR)(kind a b c most:Int)(depth:Nat):bR×Int:=
 if kind=73 then sW m a b c most depth else if kind=68 then yA m a b depth else if kind=85 then pK m depth else pO m depth
def tX (m:bR)(buf kind a b c:Int):Bool:=(kind==73 && b==m.2.2.2.2 && decide (b+c<=buf))||(kind==68 && c==0)||((kind==85||kind==82) && a==0 && b==0 && c==0)
def oM (m:bR)(l:List UInt8)(buf:Int)(depth:Nat):Option bR:=
 if l.length<22 then O else
 let kind:=(((l.drop 1).headD 0).toNat:Int)
 let a:=eP (l.drop 6)
 let b:=eP (l.drop 10)
 let c:=eP (l.drop 14)
 if l.take 22=(fU kind (m.2.2.2.1+1) a b c).data.toList/\eP (l.drop 2)=m.2.2.2.1+1/\tX m buf kind a b c=true/\(gQ m kind a b c 5000 depth).2=0 then M (gQ m kind a b c 5000 depth).1 else O
def nP (buf:Int)(depth:Nat):Nat->bR->List UInt8->bR×Nat
 |0,m,_=>(m,0)
 |k+1,m,l=>match oM m l buf depth with
  |none=>(m,0)
  |some m'=>((nP buf depth k m' (l.drop 22)).1,(nP buf depth k m' (l.drop 22)).2+1)
def gH:Sc->List bE->List Int->Bool×Sc×List bE
 |s,fs,[]=>(true,s,fs)
 |s,fs,n::l=>let r:=bW s fs n 0;if r.1 then gH r.2.1 r.2.2 l else r
def Gp (fs:List bE)(e:Int):List Int:=(fs.map (fun f=>f.1)).filter (fun n=>n !=1 && n !=10+e && (n !=2||e==0))
abbrev St:=Sc×List bE×bR
def uK (x:St):St×Int:=
 if x.1.aX then (x,2)else
 match lM (aN x.2.1 2) ((aN x.2.1 1).size:Int) x.1.depth.toNat with
 |none=>(x,11)
 |some em=>
  let j:=(aN x.2.1 (10+em.1)).data.toList
  let g:=nP ((aN x.2.1 1).size:Int) x.1.depth.toNat (j.length / 22+1) em.2 j
  let r:=gH { x.1 with aX:=true } x.2.1 (Gp x.2.1 em.1)
  if r.1=false then ((r.2.1,r.2.2,x.2.2),10)else
  let r2:=bW r.2.1 r.2.2 (10+em.1) ((22*g.2:Nat):Int)
  if r2.1=false then ((r2.2.1,r2.2.2,x.2.2),10)else
  let r3:=bW r2.2.1 r2.2.2 1 g.1.2.2.2.2
  if r3.1=false then ((r3.2.1,r3.2.2,x.2.2),10)else
  (({ r3.2.1 with ro:=false,aZ:=em.1 },r3.2.2,g.1),0)
def nQ (x:St):St×Int:=
 if x.1.aX=false then (x,3)else if x.1.ro then (x,4)else
 let r:=bV x.1 x.2.1 1
 if r.1=false then ((r.2.1,r.2.2,x.2.2),10)else
 let r2:=bV r.2.1 r.2.2 (10+r.2.1.aZ)
 ((r2.2.1,r2.2.2,x.2.2),if r2.1 then 0 else 10)
def iW (x:St)(kind pos n:Int)(text:ByteArray):St×Int:=
 if x.1.aX=false then (x,3)else if x.1.ro then (x,4)else
 let a:=if kind=73\/kind=68 then pos else 0
 let b:=if kind=73 then ((aN x.2.1 1).size:Int)else if kind=68 then n else 0
 let c:=if kind=73 then (text.size:Int)else 0
 let r:=gQ x.2.2 kind a b c x.1.most x.1.depth.toNat
 if r.2≠0 then (x,r.2)else
 let q:=if kind=73 then dR x.1 x.2.1 1 text else (0,x.1,x.2.1)
 if q.1≠0 then ((q.2.1,q.2.2,x.2.2),q.1)else
 let q2:=dR q.2.1 q.2.2 (10+q.2.1.aZ) (fU kind r.1.2.2.2.1 a b c)
 ((q2.2.1,q2.2.2,if q2.1=0 then r.1 else x.2.2),q2.1)
end Go.Proofs.YtfplgfodoiiobaaGreatDoor
