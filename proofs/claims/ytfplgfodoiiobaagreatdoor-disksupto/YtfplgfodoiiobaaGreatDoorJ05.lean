/- PgA, PgB, TreesK (joined). -/
import Derived.Laws.BitsAllLaws
import Derived.Laws.BitsLemmas
import Derived.Test.YtfplgfodoiiobaaGreatDoorJ04
open Option renaming none→O,some→M
open Go.Value renaming int→I,slice→Z
open Go.IntKind renaming i64→V
open Go.Obj renaming cells→C
open Go.Ending renaming returned→G
open Go renaming World→F,Value→Y,Calls→H
open Go.Proofs.Tryz renaming prog→K
namespace Go.Proofs.YtfplgfodoiiobaaGreatDoor
set_option maxHeartbeats 1000000
set_option maxRecDepth 100000
open Go.RowKit
variable {w w':F}{l:List UInt8}{v:Y}{B n off cap:Nat}{ao:Option Addr}{z:Int}{X:Nat->Prop}
def gX:List UInt8->Int
 |a::b::c::d::_=>(a.toNat:Int)*16777216+(b.toNat:Int)*65536+(c.toNat:Int)*256+(d.toNat:Int)
 |_=>0
theorem kU (l:List UInt8):0<=gX l/\gX l<4294967296:=by
 unfold gX;split
 ·rename_i a b c d _;have h1:=UInt8.toNat_lt a;have h2:=UInt8.toNat_lt b;have h3:=UInt8.toNat_lt c;have h4:=UInt8.toNat_lt d;omega
 ·omega
def Fx (l:List UInt8):List Y:=l.map fun b=>Value.int .u8 (b.toNat:Int)
theorem jV (l:List UInt8):(Fx l).length=l.length:=by simp[Fx]
theorem zK (a b:List UInt8):Fx (a++b)=Fx a++Fx b:=by simp[Fx]
theorem QB {j:Nat}{b:UInt8}(h:l[j]?=M b):(Fx l)[j]?=M (I .u8 (b.toNat:Int)):=by simp[Fx,h]
def qQ (w:F)(ao:Option Addr)(l:List UInt8):Prop:=
 l=[]\/∃b off,ao=M ⟨b,off,O⟩/\∀(i:Nat) (x:UInt8),l[i]?=M x->w.cell? ⟨b,off+i,O⟩=M (I .u8 (x.toNat:Int))
def dI (w:F)(B:Nat)(v:Y)(l:List UInt8):Prop:=(v=Z O 0 0/\l=[])\/∃g cap aS mk,v=Z (M ⟨g,0,O⟩) l.length cap/\B<=g/\w.heap[g]?=M (C aS 5 mk)/\(mk=(0,0)\/mk=(aS.size,aS.size+1))/\l.length<=cap/\cap<=maxLen/\aS.size=cap/\aS.toList.take l.length=Fx l
theorem dI.of (h:w.ownsRow B 5 1 v n (Fx l)):dI w B v l:=by
 obtain⟨h0,h⟩:=h;have hn:n=l.length:=by rw[jV]at h0;omega
 subst hn;rcases h with⟨rfl,h⟩|⟨g,cap,aS,rfl,hb,hg,h1,h2,h3,h4⟩
 ·exact Or.inl ⟨rfl,List.eq_nil_of_length_eq_zero h⟩
 ·exact Or.inr ⟨g,cap,aS,(0,0),rfl,hb,hg,Or.inl rfl,h1,h2,by omega,by simpa using h4⟩
theorem dI.ty (h:dI w B v l){g:Nat}(hg:v.ownBlock=M g):∃aS mk,w.heap[g]?=M (C aS 5 mk):=by
 rcases h with⟨rfl,-⟩|⟨g',cap,aS,mk,rfl,-,hh,-⟩
 ·simp[Value.ownBlock]at hg
 ·simp[Value.ownBlock]at hg;subst hg;exact⟨aS,mk,hh⟩
theorem dI.lt (h:dI w B v l):∀k,v.ownBlock=M k->B<=k/\k<w.heap.size:=by
 intro k hk;rcases h with⟨rfl,-⟩|⟨g',cap,aS,mk,rfl,hb,hh,-⟩
 ·simp[Value.ownBlock]at hk
 ·simp[Value.ownBlock]at hk;subst hk;exact⟨hb,aM hh⟩
theorem dI.fr (h:dI w B v l)(hF:Fr w w' X)(hx:∀g,v.ownBlock=M g->¬X g):dI w' B v l:=by
 rcases h with h|⟨g,cap,aS,mk,rfl,hb,hh,h1⟩
 ·exact Or.inl h
 ·exact Or.inr ⟨g,cap,aS,mk,rfl,hb,hF.at hh (hx g rfl),h1⟩
theorem dI.kept {row:Option Nat}(h:dI w B v l)(hg:w.grownBy w' row)(hne:v.ownBlock=O\/v.ownBlock≠row):dI w' B v l:=by
 rcases h with h|⟨g,cap,aS,mk,rfl,hb,hh,h1⟩
 ·exact Or.inl h
 ·exact Or.inr ⟨g,cap,aS,mk,rfl,hb,(hg.block g (aM hh) (by simpa[Value.ownBlock]using hne)).trans hh,h1⟩
theorem dI.alloc (h:dI w B v l)(o:Obj):dI (w.alloc o) B v l:=
 h.kept (World.grownBy_alloc w o O) (by cases hv:v.ownBlock<;>simp)
theorem dI.ne {b:Nat}{cs:Array Y}{t:TypeId}{f:Nat×Nat}(h:dI w B v l)(hb:w.heap[b]?=M (C cs t f))(ht:t≠5):v.ownBlock≠M b:=fun e=>by
 obtain⟨aS,mk,hc⟩:=h.ty e;rw[hb]at hc;cases hc
 exact ht rfl
theorem qQ.nil (w:F)(ao:Option Addr):qQ w ao []:=Or.inl rfl
theorem qQ.aN (h:qQ w ao l)(hg:aL w w'):qQ w' ao l:=by
 rcases h with h|⟨b,off,e,hc⟩
 ·exact Or.inl h
 ·exact Or.inr ⟨b,off,e,fun i x hx=>cell_later hg (hc i x hx)⟩
theorem qQ.fr (h:qQ w ao l)(hF:Fr w w' X)(hx:∀a,ao=M a->¬X a.block):qQ w' ao l:=by
 rcases h with rfl|⟨b,off,rfl,hc⟩
 ·left;rfl
 ·refine Or.inr ⟨b,off,rfl,fun i x hi=>?_⟩;have h1:=hc i x hi;have hb:w'.heap[b]?=w.heap[b]?:=hF.2 b (World.block_lt_of_cell? _ _ h1) (hx _ rfl);exact(World.cell?_of_block (a:=⟨b,off+i,O⟩) hb).trans h1
theorem qQ.drop {b:Nat}(h:qQ w (M ⟨b,off,O⟩) l)(k:Nat):qQ w (M ⟨b,off+k,O⟩) (l.drop k):=by
 rcases h with rfl|⟨b',Oh,e,hc⟩
 ·left;simp
 ·cases e
  refine Or.inr ⟨b,off+k,rfl,fun i x hx=>?_⟩;rw[List.getElem?_drop]at hx;have:=hc (k+i) x hx;rw[<-Nat.add_assoc]at this;exact this
theorem qQ.take (h:qQ w ao l)(k:Nat):qQ w ao (l.take k):=by
 rcases h with rfl|⟨b,off,e,hc⟩
 ·left;simp
 ·refine Or.inr ⟨b,off,e,fun i x hx=>?_⟩;rw[List.getElem?_take]at hx;split at hx
  ·exact hc i x hx
  ·cases hx
theorem dI.form (h:dI w B v l):
 ∃ao cap,v=Z ao l.length cap/\qQ w ao l/\l.length<=cap/\(ao=O->l.length=0/\cap=0)/\(∀a,ao=M a->B<=a.block/\a.block<w.heap.size/\∃aS mk,w.heap[a.block]?=M (C aS 5 mk)):=by
 rcases h with⟨rfl,rfl⟩|⟨g,cap,aS,mk,rfl,hg,hh,-,iL,-,hcs,ht⟩
 ·exact⟨O,0,rfl,Or.inl rfl,by simp,fun _=>⟨rfl,rfl⟩,(fun _ e=>by cases e)⟩
 ·refine⟨M ⟨g,0,O⟩,cap,rfl,Or.inr ⟨g,0,rfl,fun i x hx=>?_⟩,iL,(fun e=>by cases e),(fun a e=>by cases e;exact⟨hg,aM hh,aS,mk,hh⟩)⟩;have h1:=QB hx;rw[<-ht,List.getElem?_take]at h1;rw[Nat.zero_add,cell_of_row w g i aS 5 mk hh];split at h1
  ·simpa using h1
  ·cases h1
theorem dI.nil (w:F)(B:Nat):dI w B (Z O 0 0) []:=Or.inl ⟨rfl,rfl⟩
theorem dI.aN (h:dI w B v l)(hg:aL w w'):dI w' B v l:=h.fr (Fr.cZ hg (fun _=>False)) (fun _ _=>id)
theorem dI.mono {B':Nat}(h:dI w B v l)(hB:B'<=B):dI w B' v l:=by
 rcases h with h2|⟨g,cap,aS,mk,rfl,hg,hh⟩
 ·exact Or.inl h2
 ·exact Or.inr ⟨g,cap,aS,mk,rfl,Nat.le_trans hB hg,hh⟩
theorem LK {α:Type}(l:List α)(o:Nat)(v:α)(k:Nat)(ho:o<l.length):(l.set o v).take (o+1)=l.take o++ [v]/\(l.set o v).drop (o+1+k)=l.drop (o+1+k):=by
 refine⟨?_,?_⟩
 ·rw[List.take_add_one,List.take_set_of_le (Nat.le_refl o)];simp[ho]
 ·rw[List.drop_set_of_lt (by omega)]
theorem Mw (g:Nat)(t:TypeId)(mk:Nat×Nat):∀(vs:List Y) (o:Nat) (w:F) (aS:Array Y),w.heap[g]?=M (C aS t mk)->o+vs.length<=aS.size->
 ∃tN,(w.setCells g o vs).heap[g]?=M (C tN t mk)/\tN.toList=aS.toList.take o++vs++aS.toList.drop (o+vs.length)
 | [],o,w,aS,h,_=>⟨aS,h,by simp⟩
 |v::vs,o,w,aS,h,hl=>by
  simp only[List.length_cons]at hl
  have h1:(w.setCell ⟨g,o,O⟩ v).heap[g]?=M (C (aS.setIfInBounds o v) t mk):=by
   simp[World.setCell,Array.getElem?_modify,h]
  have jT:(aS.toList.set o v).length=aS.size:=by simp
  obtain⟨tN,h2,h3⟩:=Mw g t mk vs (o+1) (w.setCell ⟨g,o,O⟩ v) _ h1 (by simp;omega);refine⟨tN,h2,h3.trans ?_⟩;have bT:o<aS.toList.length:=by simp;omega
  have e:(aS.setIfInBounds o v).toList=aS.toList.set o v:=by simp
  obtain⟨p1,p2⟩:=LK aS.toList o v vs.length bT;rw[e,p1,p2,show o+1+vs.length=o+(v::vs).length from by simp;omega];simp
theorem Ca (g:Nat):∀(vs:List Y) (o:Nat) (w:F),w.grownBy (w.setCells g o vs) (M g)
 | [],_,w=>World.grownBy.refl _ _
 |v::vs,o,w=>by
  have h:=Ca g vs (o+1) (w.setCell ⟨g,o,O⟩ v);refine⟨h.os,h.tape,h.output,?_,fun k hk hne=>?_⟩
  ·have h2:(w.setCell ⟨g,o,O⟩ v).heap.size=w.heap.size:=by simp[World.setCell]
   rw[<-h2];exact h.size
  ·refine(h.block k (by simpa[World.setCell]using hk) hne).trans ?_;have hgk:g≠k:=fun e=>hne (by rw[e])
   simp[World.setCell,Array.getElem?_modify,hgk]
theorem Tryz.infoByte:(Tryz.prog.info? 5).map (fun i=>(i.zero,i.size,i.bytes))=M (M (I .u8 0),1,1):=by kernel_rfl
def gT (w:F)(v v':Y):Prop:=v'.ownBlock=v.ownBlock\/∀k,v'.ownBlock=M k->w.heap.size<=k
theorem vV {P:Program}(w:F)(base:Nat)(t ty e:TypeId)(i:TypeInfo)(z:Y)(size bytes:Nat)(ht:P.underlying t=M (.slice e))(hi:P.info? e=M i)(hz:i.zero=M z)
 (Et:i.size=size)(Oi:i.bytes=bytes)(hzs:z.cells.size=size)(jT:0<size)
 (v:Y)(n:Nat)(xs:List Y)(bA:w.ownsRow base e size v n xs)
 (a:Addr)(m c:Nat)(news:List Y)(hl:news.length=m*size)(xL:∀j u,news[j]?=M u->w.cell? (a.add j)=M u)(h1:∀u∈news,u.oneCell'=true)
 (h63:n+m<=maxLen)(Kv:(n+m)*bytes<=140737488355328)(iI:base<=w.heap.size):
 ∃v' w',(Builtin.append_ #[t,t] ty #[v,Z (M a) m c]).run P w= .ok v' w'/\w'.ownsRow base e size v' (n+m) (xs++news)/\w.grownBy w' v.ownBlock/\gT w v v':=by
 obtain⟨v',w',hr,ho,zG,-⟩:=run_append_own (P:=P) w base t ty e i z size bytes ht hi hz Et Oi hzs jT v n xs bA a m c news hl xL h1 h63 Kv iI;refine⟨v',w',hr,ho,zG,?_⟩;have hsmall:n+m<=9223372036854775807:=by simp only[maxLen]at h63;omega
 rcases bA.2 with⟨rfl,rfl⟩|⟨g,cap,aS,rfl,hbg,hg,hnc,hcm,hcs,htake⟩
 ·have hx:xs=[]:=List.eq_nil_of_length_eq_zero (by simpa using bA.1);subst hx;obtain⟨v2,w2,Bn,TJ,-,-⟩:=run_append_own (P:=P) w w.heap.size t ty e i z size bytes ht hi hz Et Oi hzs jT _ 0 [] (World.ownsRow_nil w w.heap.size e size) a m c news hl xL h1 h63 Kv (Nat.le_refl _);rw[hr]at Bn;cases Bn
  refine Or.inr fun k hk=>(TJ.lt k hk).1
 ·subst Et;by_cases sF:n+m<=cap
  ·have xW:n*i.size+news.length<=aS.size:=by rw[hl,hcs,<-Nat.add_mul];exact Nat.mul_le_mul_right _ sF
   have Bn:=run_append_room (P:=P) w t ty e i ht hi g n cap aS hg a m c news hl xL h1 sF xW;rw[hr]at Bn;cases Bn
   exact Or.inl rfl
  ·subst Oi;have holds:∀j u,xs[j]?=M u->w.cell? ((⟨g,0,O⟩:Addr).add j)=M u:=bA.cells (g:=g) rfl;have Bn:=run_append_grow (P:=P) w t ty e i z ht hi hz ⟨g,0,O⟩ n cap xs bA.1 holds a m c news hl xL (by omega) (by omega) (growslice_fits (by omega) Kv);rw[hr]at Bn;cases Bn
   exact Or.inr fun k hk=>by simp[Value.ownBlock]at hk;omega
theorem qQ.cells {ad:Addr}{zs:List UInt8}(hr:qQ w (M ad) zs):∀j u,(Fx zs)[j]?=M u->w.cell? (ad.add j)=M u:=by
 intro j u hj;rcases hr with rfl|⟨b,off,e,hc⟩
 ·simp[Fx]at hj
 ·cases e
  unfold Fx at hj;rw[List.getElem?_map]at hj;cases hz:zs[j]? with
  |none=>rw[hz]at hj;simp at hj
  |some x=>
   rw[hz]at hj;simp at hj;subst hj;have:=hc j x hz;cases j with
   |zero=>simpa[Addr.add]using this
   |succ j=>simpa[Addr.add]using this
theorem Mx {P:Program}(w:F)(base:Nat)(t ty:TypeId)(i:TypeInfo)(z:Y)(ht:P.underlying t=M (.slice 5))(hi:P.info? 5=M i)(hz:i.zero=M z)
 (Et:i.size=1)(Oi:i.bytes=1)(hzs:z.cells.size=1)
 (v:Y)(l:List UInt8)(bA:dI w base v l)
 (a:Addr)(m c:Nat)(zs:List UInt8)(hl:zs.length=m)(xL:∀j u,(Fx zs)[j]?=M u->w.cell? (a.add j)=M u)
 (h63:l.length+m<=maxLen)(Kv:(l.length+m)*1<=140737488355328)(iI:base<=w.heap.size):
 ∃v' w',(Builtin.append_ #[t,t] ty #[v,Z (M a) m c]).run P w= .ok v' w'/\dI w' base v' (l++zs)/\w.grownBy w' v.ownBlock/\gT w v v':=by
 have h1:∀u∈Fx zs,u.oneCell'=true:=by
  intro u hu;obtain⟨z,-,rfl⟩:=List.mem_map.1 hu;rfl
 have hzl:(Fx zs).length=m*1:=by rw[jV];omega
 have plain:∀v,w.ownsRow base 5 1 v l.length (Fx l)->∃v' w',(Builtin.append_ #[t,t] ty #[v,Z (M a) m c]).run P w= .ok v' w'/\dI w' base v' (l++zs)/\w.grownBy w' v.ownBlock/\gT w v v':=fun v h=>by
  obtain⟨v',w',a1,a2,a3,a4⟩:=vV (P:=P) w base t ty 5 i z 1 1 ht hi hz Et Oi hzs (by decide) v l.length (Fx l) h a m c (Fx zs) hzl xL h1 h63 Kv iI;exact⟨v',w',a1,dI.of (n:=l.length+m) (by rw[zK];exact a2),a3,a4⟩
 rcases bA with⟨rfl,rfl⟩|⟨g,cap,aS,mk,rfl,hb,hg,hmk,iL,hcm,hcs,Vz⟩
 ·exact plain _ (World.ownsRow_nil w base 5 1)
 ·rcases hmk with rfl|rfl
  ·exact plain _ ⟨by rw[jV];omega,Or.inr ⟨g,cap,aS,rfl,hb,hg,iL,hcm,by omega,by simpa using Vz⟩⟩
  ·have hcell:∀j,w.cell? ⟨g,j,O⟩=aS[j]?:=fun j=>cell_of_row w g j aS 5 _ hg
   by_cases sF:l.length+m<=cap
   ·have hr:=run_append_room_cells (P:=P) w t ty 5 i ht hi g 0 l.length cap a m c (Fx zs) (by rw[Et];exact hzl) xL h1 sF (fun j hj=>by
     rw[hcell,Et];rw[jV]at hj;simp;omega) (fun j hj=>by
     rw[jV]at hj;rw[Et];simp only[World.frozen?,hg];simp;omega)
    rw[Et]at hr;obtain⟨tN,q1,q2⟩:=Mw g 5 _ (Fx zs) (0+l.length*1) w aS hg (by rw[jV];omega)
    have QC:tN.size=aS.size:=by
     have:=congrArg List.length q2;simp[jV]at this;omega
    refine⟨_,_,hr,Or.inr ⟨g,cap,tN,(aS.size,aS.size+1),by rw[List.length_append,hl],hb,q1,Or.inr (by rw[QC]),by rw[List.length_append];omega,hcm,by omega,?_⟩,Ca g _ _ w,Or.inl rfl⟩;rw[q2,zK,<-Vz];have e1:(List.take l.length aS.toList).length=l.length:=by simp;omega
    rw[show 0+l.length*1=l.length from by omega,List.length_append,List.take_append_of_le_length (by simp[jV];omega),List.take_of_length_le (by simp[jV];omega)]
   ·obtain⟨v',w',hr,ho,zG⟩:=run_append_arg_grows (P:=P) w t ty 5 i z 1 1 ht hi hz Et Oi hzs (by decide) ⟨g,0,O⟩ l.length cap (Fx l) (by rw[jV];omega) (fun j u hu=>by
     rw[Addr.add_lit,Nat.zero_add,hcell];rw[<-Vz,List.getElem?_take]at hu;split at hu
     ·simpa using hu
     ·cases hu) a m c (Fx zs) hzl xL (by omega) h63 Kv
    refine⟨v',w',hr,(dI.of (n:=l.length+m) (by rw[zK];exact ho)).mono iI,⟨zG.os,zG.tape,zG.output,zG.size,fun k hk _=>zG.block k hk (by simp)⟩,Or.inr fun k hk=>(ho.lt k hk).1⟩
theorem Ao {ops:Array Oper}{rest:List Oper}{o:Oper}{a:Act}{Q:Exit->Act->F->Prop}(qE:o.guard=O)(s x:Operand)
 (ho:o.op= .call { callee:= .builtin .append,args:=#[s,x],argTypes:=#[153,153] })
 (base:Nat)(v:Y)(ys zs:List UInt8)(hs:a.eval s=v)(bA:dI w base v ys)(ao:Option Addr)(m c:Nat)(hx:a.eval x=Z ao m c)(hm:m=zs.length)(gP:ao=O->zs.length=0/\c=0)(hr:qQ w ao zs)
 (hlen:ys.length+zs.length<=1000000000)(iI:base<=w.heap.size)
 (h:∀v' w',dI w' base v' (ys++zs)->w.grownBy w' v.ownBlock->gT w v v'->wpList K ops Q rest (a.put o.dst v') w'):wpList K ops Q (o::rest) a w:=by
 obtain⟨i0,hi,nN,nO,oM⟩:=info_parts Tryz.infoByte;subst hm;cases ao with
 |none=>
  obtain⟨h1,rfl⟩:=gP rfl;have hz:zs=[]:=List.eq_nil_of_length_eq_zero h1;subst hz;rcases bA with⟨rfl,rfl⟩|⟨g,cap,aS,mk,rfl,hb,hg,hmk,iL,hcm,hcs,Vz⟩
  ·exact wpList_append_own_none qE s x 153 ho base 5 i0 1 Tryz.underlying153 hi _ _ _ hs (World.ownsRow_nil w base 5 1) hx (h _ w (dI.nil w base) (World.grownBy.refl _ _) (Or.inl rfl))
  ·have tO:∀ty,(Builtin.append_ #[153,153] ty #[Z (M ⟨g,0,O⟩) ys.length cap,Z O 0 0]).run K w= .ok (Z (M ⟨g,0,O⟩) ys.length cap) w:=fun ty=>by
    simp[Builtin.append_,run_underlying Tryz.underlying153,sizeOf,typeInfo,hi,Builtin.lenOf,Builtin.firstCells,iL,storeCells]
   refine wpList_plain qE fun _ hK=>?_
   unfold Oper.wp;simp[execOp,ho,resolve,invoke,builtin,hs,hx,tO,Result.andThen];exact hK _ _ (h _ w (by rw[List.append_nil];exact Or.inr ⟨g,cap,aS,mk,rfl,hb,hg,hmk,iL,hcm,hcs,Vz⟩) (World.grownBy.refl _ _) (Or.inl rfl))
 |some ad=>
  obtain⟨v',w',tO,Uw,zG,CF⟩:=Mx (P:=K) w base 153 o.type i0 (I .u8 0) Tryz.underlying153 hi nN nO oM rfl v ys bA ad zs.length c zs rfl (qQ.cells hr) (by unfold maxLen;omega) (by omega) iI;refine wpList_plain qE fun _ hK=>?_
  unfold Oper.wp execOp;simp only[ho,resolve,invoke,builtin,Sem.run_bind,Sem.run_pure,Result.andThen_ok,List.map_toArray,List.map_cons,List.map_nil,hs,hx,tO];exact hK _ _ (h v' w' Uw zG CF)
def Cb (w:F)(B:Nat)(v:Y)(l:List UInt8):Prop:=w.ownsRow B 5 1 v l.length (Fx l)
theorem Cb.nil (w:F)(B:Nat):Cb w B (Z O 0 0) []:=World.ownsRow_nil w B 5 1
theorem Cb.b (h:Cb w B v l):dI w B v l:=dI.of h
theorem Cb.fr (h:Cb w B v l)(hF:Fr w w' X)(hx:∀g,v.ownBlock=M g->¬X g):Cb w' B v l:=bI h hF (fun g _ e _=>hx g e)
theorem Cb.aN (h:Cb w B v l)(hg:aL w w'):Cb w' B v l:=bI h (Fr.cZ hg (fun _=>False)) (fun _ _ _ _=>id)
theorem DV {ops:Array Oper}{rest:List Oper}{o:Oper}{a:Act}{Q:Exit->Act->F->Prop}(qE:o.guard=O)(s x:Operand)
 (ho:o.op= .call { callee:= .builtin .append,args:=#[s,x],argTypes:=#[153,153] })
 (base:Nat)(v:Y)(ys zs:List UInt8)(hs:a.eval s=v)(bA:Cb w base v ys)(ao:Option Addr)(m c:Nat)(hx:a.eval x=Z ao m c)(hm:m=zs.length)(gP:ao=O->zs.length=0/\c=0)(hr:qQ w ao zs)
 (hlen:ys.length+zs.length<=1000000000)(iI:base<=w.heap.size)
 (h:∀v' w',Cb w' base v' (ys++zs)->w.grownBy w' v.ownBlock->gT w v v'->wpList K ops Q rest (a.put o.dst v') w'):wpList K ops Q (o::rest) a w:=by
 obtain⟨i0,hi,nN,nO,oM⟩:=info_parts Tryz.infoByte;subst hm;cases ao with
 |none=>
  obtain⟨h1,rfl⟩:=gP rfl;have hz:zs=[]:=List.eq_nil_of_length_eq_zero h1;subst hz;exact wpList_append_own_none qE s x 153 ho base 5 i0 1 Tryz.underlying153 hi v _ _ hs bA hx (h v w (by simpa using bA) (World.grownBy.refl _ _) (Or.inl rfl))
 |some ad=>
  obtain⟨v',w',tO,Uw,zG,CF⟩:=vV (P:=K) w base 153 o.type 5 i0 (I .u8 0) 1 1 Tryz.underlying153 hi nN nO oM rfl (by decide) v ys.length (Fx ys) bA ad zs.length c (Fx zs) (by rw[jV];omega) (qQ.cells hr) (by
   intro u hu;obtain⟨z,-,rfl⟩:=List.mem_map.1 hu;rfl) (by unfold maxLen;omega) (by omega) iI
  refine wpList_plain qE fun _ hK=>?_
  unfold Oper.wp execOp;simp only[ho,resolve,invoke,builtin,Sem.run_bind,Sem.run_pure,Result.andThen_ok,List.map_toArray,List.map_cons,List.map_nil,hs,hx,tO];refine hK _ _ (h v' w' ?_ zG CF);unfold Cb;rw[zK,List.length_append];exact Uw
def vW (n:Int):List UInt8:=(Bw n).map fun x=>UInt8.ofNat x.toNat
theorem sG (n:Int):(vW n).length=4:=rfl
theorem Cc {x:Int}(h0:0<=x)(h1:x<256):((UInt8.ofNat x.toNat).toNat:Int)=x:=by
 rw[UInt8.toNat_ofNat'];omega
theorem aAa {n:Int}(h0:0<=n)(h1:n<4294967296):Fx (vW n)=[I .u8 (n / 16777216),I .u8 (n / 65536 % 256),I .u8 (n / 256 % 256),I .u8 (n % 256)]:=by
 simp only[Fx,vW,Bw,List.map_cons,List.map_nil];rw[Cc (by omega) (by omega),Cc (by omega) (by omega),Cc (by omega) (by omega),Cc (by omega) (by omega)]
theorem aAb (w:F)(cs:Array Y)(l:List UInt8)(h:cs.toList=Fx l):qQ (w.alloc (C cs 5)) (M ⟨w.heap.size,0,O⟩) l:=by
 refine Or.inr ⟨w.heap.size,0,rfl,fun i x hx=>?_⟩;have h1:=QB hx;rw[<-h]at h1;have h2:=heap_alloc_new w (C cs 5);unfold World.cell?;simp only[h2,Nat.zero_add];simpa using h1
theorem kV {o:Obj}{r:Option Nat}(h:(w.alloc o).grownBy w' r):w.grownBy w' r:=
 ⟨h.os,h.tape,h.output,by have:=h.size;simp at this;omega,fun k hk hn=>(h.block k (by simp;omega) hn).trans (heap_alloc_old w o hk)⟩
theorem gT.alloc {o:Obj}{v':Y}(h:gT (w.alloc o) v v'):gT w v v':=by
 rcases h with h|h
 ·exact Or.inl h
 ·exact Or.inr fun k hk=>by have:=h k hk;simp at this;omega
theorem Kw {n:Int}(h:dI w B v l)(hB:B<=w.heap.size)(h0:0<=n)(h1:n<4294967296)(hl:l.length<=900000000):
 H K 214 #[v,I .u32 n] w fun e w'=> ∃v',e=G v'/\dI w' B v' (l++vW n)/\w.grownBy w' v.ownBlock/\gT w v v':=by
 have hc:=aAa h0 h1;have hr:=aAb w #[I .u8 (n / 16777216),I .u8 (n / 65536 % 256),I .u8 (n / 256 % 256),I .u8 (n % 256)] (vW n) (by rw[hc]);have w1:IntKind.u8.wrap (n / 16777216)=n / 16777216:=by rw[IntKind.wrap_u8];omega
 go_enter Tryz.func214,Tryz.ntmps214
 go_wp2_with (at_builtin;go_must (refine Ao (by rfl) (.tmp 5) (.tmp 17) (by rfl) B _ l (vW n) (by rfl) (by exact dI.alloc h _) _ _ _ (by rfl) (by rfl) (by intro e;cases e) (by exact hr) (by rw[sG];omega) (by simp;omega) ?_);intro v5 w5 cO fQ Na)
 go_ret;exact⟨_,rfl,cO,kV fQ,Na.alloc⟩
theorem LM (i:Nat)(x y:Int)(ZF:0<=x)(hx:x % 2 ^ i=0)(ZG:x<2 ^ 32)(ZH:0<=y)(hy:y<2 ^ i)(ZI:y<2 ^ 32):bits .or .u32 x y=x+y:=
 bits_join .u32 32 (by decide) (fun n h0 h1=>by rw[IntKind.wrap_u32];omega) i x y ZF hx ZG ZH hy ZI
theorem or4u {a b c d:Int}(a0:0<=a)(a1:a<256)(b0:0<=b)(b1:b<256)(c0:0<=c)(c1:c<256)(d0:0<=d)(d1:d<256):
 bits .or .u32 (bits .or .u32 (bits .or .u32 (a*16777216) (b*65536)) (c*256)) d=a*16777216+b*65536+c*256+d:=by
 rw[LM 24 (a*16777216) (b*65536) (by omega) (by omega) (by omega) (by omega) (by omega) (by omega)];rw[LM 16 (a*16777216+b*65536) (c*256) (by omega) (by omega) (by omega) (by omega) (by omega) (by omega)];rw[LM 8 (a*16777216+b*65536+c*256) d (by omega) (by omega) (by omega) (by omega) (by omega) (by omega)]
theorem QE {a b:Int}(h:a=b):Ending.returned (I .u32 a)=G (I .u32 b):=by rw[h]
theorem Ky {b:Nat}(h:qQ w (M ⟨b,off,O⟩) l)(hl:4<=l.length)(hn:4<=n):
 H K 234 #[Z (M ⟨b,off,O⟩) n cap] w fun e w'=>e=G (I .u32 (gX l))/\∃q,w'=w.drewN q:=by
 obtain⟨a0,a1,a2,a3,rest,rfl⟩:∃a b c d rest,l=a::b::c::d::rest:=by
  match l,hl with
  |a::b::c::d::rest,_=>exact⟨a,b,c,d,rest,rfl⟩
 rcases h with h|⟨b',Oh,e,hc⟩
 ·cases h
 ·cases e
  have c0:w.cell? ⟨b,off,O⟩=M (I .u8 (a0.toNat:Int)):=hc 0 a0 rfl;have c1:=hc 1 a1 rfl;have c2:=hc 2 a2 rfl;have c3:=hc 3 a3 rfl;have b0:=UInt8.toNat_lt a0;have b1:=UInt8.toNat_lt a1;have b2:=UInt8.toNat_lt a2;have b3:=UInt8.toNat_lt a3;have z0:0<n:=by omega
  have z1:(1:Int)<(n:Int):=by omega
  have z2:(2:Int)<(n:Int):=by omega
  have z3:(3:Int)<(n:Int):=by omega
  clear hc;go_enter Tryz.func234,Tryz.ntmps234
  go_wp2_with fail
  go_quiet (fail)
  go_wp2_with fail
  go_ret;refine⟨QE ?_,_,rfl⟩;have e:=or4u (a:=(a0.toNat:Int)) (b:=(a1.toNat:Int)) (c:=(a2.toNat:Int)) (d:=(a3.toNat:Int)) (by omega) (by omega) (by omega) (by omega) (by omega) (by omega) (by omega) (by omega);simp only[gX];exact e
theorem and1 (h:bN z):bits .and .u32 z 1=z % 2:=bits_mask .u32 32 (by decide) (fun n h0 h1=>by rw[IntKind.wrap_u32];omega) 1 (by decide) z h.1 h.2
theorem xor0 (h:bN z):bits .xor .u32 z 0=z:=by
 rw[u32_xor z 0 h.1 h.2 (by omega) (by omega)];have:=h.1;simp;omega
theorem TL (h:bN z):bits .xor .u32 (z / 2) (bits .and .u32 z 1*3988292384 % 4294967296)=xV z:=by
 have h':=h;unfold bN at h';unfold xV;rw[and1 h];rcases(by omega:z % 2=0\/z % 2=1)with e|e
 ·rw[e,if_neg (by omega)];exact xor0 (by unfold bN;omega)
 ·rw[e,if_pos rfl];rfl
theorem aAc (h:bN z):bits .xor .u32 z 4294967295=bits .xor .u32 IntKind.u32.max z:=by
 rw[show IntKind.u32.max=(4294967295:Int) from rfl,u32_xor z 4294967295 h.1 h.2 (by omega) (by omega),u32_xor 4294967295 z (by omega) (by omega) h.1 h.2,Nat.xor_comm]
theorem ZJ (h:qQ w ao l)(hn:n=l.length)(h1:l.length<=900000000):
 H K 217 #[Z ao n cap] w fun e w'=>e=G (I .u32 (lG l))/\w'=w:=by
 subst hn;go_enter Tryz.func217,Tryz.ntmps217
 go_wp2_with fail
 go_loop [3,9] (fun c i=> ∃(k:Nat),k<=l.length/\c=I .u32 (sD (l.take k))/\i=I V (k:Int)) (fun _ i=>l.length-(intOf i).toNat)
 case atStart=>exact⟨0,Nat.zero_le _,by rw[List.take_zero];rfl,rfl⟩
 case round=>
  obtain⟨k,hk,rfl,rfl⟩:=hrel;have hu:=Vy (l.take k);by_cases bT:k<l.length
  ·rcases h with rfl|⟨b,off,rfl,hc⟩
   ·simp at bT
   ·have d1:=hc k l[k] (List.getElem?_eq_getElem bT);have i1:(0:Int)<=(k:Int):=by omega
    have i2:(k:Int)<(l.length:Int):=by omega
    have HT:Hid (sD (l.take (k+1))=uK (sD (l.take k)) l[k]):=Qq _;have hx:=UInt8.toNat_lt l[k];generalize l[k]=x at hx HT d1;generalize sD (l.take k)=z at hu HT;clear hc;have e1:((x.toNat:Int) % 4294967296)=(x.toNat:Int):=by omega
    go_wp2_with fail
    have HB:Hid (uK z x=nT 8 (bits BinOp.xor IntKind.u32 z (x.toNat:Int))):=rfl;have hy0:=Bz BinOp.xor z (x.toNat:Int);generalize bits BinOp.xor IntKind.u32 z (x.toNat:Int)=y0 at hy0 HB
    go_loop [3,17] (fun c j=> ∃(t:Nat),t<=8/\c=I .u32 (nT t y0)/\j=I V (t:Int)) (fun _ j=>8-(intOf j).toNat)
    case atStart=>exact⟨0,by omega,rfl,rfl⟩
    case round=>
     obtain⟨t,ht,rfl,rfl⟩:=hrel;have hy:=xK hy0 t;by_cases Un:t<8
     ·have HN:Hid (nT (t+1) y0=xV (nT t y0)):=rfl;generalize nT t y0=y at hy HN;have HC:Hid (bits .xor .u32 (y / 2) (bits .and .u32 y 1*3988292384 % 4294967296)=xV y):=TL hy
      go_wp2_with fail
      go_round
      case rel=>exact⟨t+1,by omega,by rw[HN.out,<-HC.out],by go_num⟩
      case measure=>simp[intOf];omega
     ·have ht8:t=8:=by omega
      subst ht8
      go_wp2_with fail
      go_round
      case rel=>exact⟨k+1,by omega,by rw[HT.out,HB.out],by go_num⟩
      case measure=>simp[intOf];omega
  ·have z_:k=l.length:=by omega
   have e1:l.take k=l:=List.take_of_length_le (by omega);rw[e1]at hu ⊢;have HN:Hid (lG l=bits .xor .u32 IntKind.u32.max (sD l)):=aAc hu;generalize sD l=z at HN
   go_wp2_with fail
   go_ret;exact⟨QE (by rw[HN.out]),rfl⟩
theorem gT.row {v':Y}(h:gT w v v')(hv:∀k,v.ownBlock=M k->B<=k)(hB:B<=w.heap.size):∀k,v'.ownBlock=M k->B<=k:=by
 intro k hk;rcases h with h|h
 ·exact hv k (h ▸ hk)
 ·have:=h k hk;omega
theorem aAd (h:dI w B v l)(hB:B<=w.heap.size)(hl:l.length<=900000000):
 H K 147 #[v] w fun e w'=> ∃v',e=G v'/\dI w' B v' (l++vW (lG l))/\w.grownBy w' v.ownBlock/\gT w v v':=by
 obtain⟨ao,cap,rfl,hr,-⟩:=dI.form h;have hu:=Dm l;have hA:=Kw (n:=lG l) h hB hu.1 hu.2 hl;have hC:=ZJ (cap:=cap) hr rfl hl;generalize lG l=z at hA hC ⊢;go_enter Tryz.func147,Tryz.ntmps147
 go_wp2_with fail
 refine hC.mono ?_;rintro e w ⟨rfl,rfl⟩
 go_wp2_with fail
 refine hA.mono ?_;rintro e w2 ⟨v2,rfl,h1,h2,h3⟩
 go_wp2_with fail
 go_ret;exact⟨_,rfl,h1,h2,h3⟩
def jL (l:List UInt8):Option (List UInt8):=if l.length<4 then O else if gX (l.drop (l.length-4))=lG (l.take (l.length-4))then M (l.take (l.length-4))else O
def zL (b off cap:Nat):Option (List UInt8)->Ending
 |none=> G (.tuple #[Z O 0 0,.bool false])
 |some t=> G (.tuple #[Z (M ⟨b,off,O⟩) t.length cap,.bool true])
theorem Wd {b:Nat}(h:qQ w (M ⟨b,off,O⟩) l)(hl:l.length<=900000000)(iL:l.length<=cap):
 H K 181 #[Z (M ⟨b,off,O⟩) l.length cap] w fun e w'=>e=zL b off cap (jL l)/\∃q,w'=w.drewN q:=by
 by_cases hs:l.length<4
 ·have HE:Hid (jL l=O):=by show _=_;unfold jL;rw[if_pos hs]
  have z1:decide ((l.length:Int)-4<0)=true:=by rw[decide_eq_true_eq];omega
  clear h;go_enter Tryz.func181,Tryz.ntmps181
  go_wp2_with fail
  go_quiet (fail)
  go_wp2_with fail
  go_ret2;rw[HE.out];exact⟨rfl,_,rfl⟩
 ·have z1:decide ((l.length:Int)-4<0)=false:=by rw[decide_eq_false_iff_not];omega
  have z2:((l.length:Int)-4).toNat=l.length-4:=by omega
  have z3:(0:Int)<=(l.length:Int)-4:=by omega
  have z4:(l.length:Int)-4<=(l.length:Int):=by omega
  have z5:(l.length:Int)-4<=(cap:Int):=by omega
  have z6:(l.length:Int)<=(cap:Int):=by omega
  have hl4:(l.take (l.length-4)).length=l.length-4:=by rw[List.length_take];omega
  have HN:Hid (∀W:F,Below w.heap.size w W->∀n c,4<=n->H K 234 #[Z (M ⟨b,off+(l.length-4),O⟩) n c] W fun e w'=>e=G (I .u32 (gX (l.drop (l.length-4))))/\∃q,w'=W.drewN q):=fun W hW n c hn=>Ky ((h.aN hW).drop _) (by rw[List.length_drop];omega) hn
  have HC:Hid (∀W:F,Below w.heap.size w W->∀c,H K 217 #[Z (M ⟨b,off,O⟩) (l.length-4) c] W fun e w'=>e=G (I .u32 (lG (l.take (l.length-4))))/\w'=W):=fun W hW c=>ZJ ((h.aN hW).take _) hl4.symm (by omega)
  clear h;go_enter Tryz.func181,Tryz.ntmps181
  go_wp2_with fail
  by_cases he:gX (l.drop (l.length-4))=lG (l.take (l.length-4))
  ·have HE:Hid (jL l=M (l.take (l.length-4))):=by show _=_;unfold jL;rw[if_neg hs,if_pos he]
   have hb:(gX (l.drop (l.length-4)) !=lG (l.take (l.length-4)))=false:=by simp[he]
   generalize gX (l.drop (l.length-4))=x at hb HN;generalize lG (l.take (l.length-4))=y at hb HC;clear he
   go_quiet (first|(go_at_call 234;exact Calls.quiet_of (HN.out _ (aZ (Below.refl _ _) _) _ _ (by omega)))|(go_at_call 217;exact Calls.quiet_of_same (HC.out _ (aZ (Below.refl _ _) _) _)))
   go_wp2_with fail
   go_ret2;rw[HE.out,zL,hl4];exact⟨rfl,_,rfl⟩
  ·have HE:Hid (jL l=O):=by show _=_;unfold jL;rw[if_neg hs,if_neg he]
   have hb:(gX (l.drop (l.length-4)) !=lG (l.take (l.length-4)))=true:=by simp[he]
   generalize gX (l.drop (l.length-4))=x at hb HN;generalize lG (l.take (l.length-4))=y at hb HC;clear he
   go_quiet (first|(go_at_call 234;exact Calls.quiet_of (HN.out _ (aZ (Below.refl _ _) _) _ _ (by omega)))|(go_at_call 217;exact Calls.quiet_of_same (HC.out _ (aZ (Below.refl _ _) _) _)))
   go_wp2_with fail
   go_ret2;rw[HE.out];exact⟨rfl,_,rfl⟩
def aAe (w w':F)(B wb c:Nat)(nP vp vm:Y)(hs:List bS)(ao:Option Addr):Prop:=
 ∃(TM Ux:Y) (h4:List bS),h4.length=4/\w'.heap[wb]?=M (qF nP ((c:Int)+1) TM Ux)/\w'.ownsRow B 102 1 TM (hs++h4).length ((hs++h4).map bS.v)/\iP w' B Ux (marks (c+1))
  /\(∀x∈h4,yF w' x.1 (List.replicate x.2.1 (mk c))/\x.2.1<=9000)/\Fr w w' (fun b=>b=wb\/(∃a,ao=M a/\b=a.block)\/vp.ownBlock=M b\/vm.ownBlock=M b)/\Below B w w'
end Go.Proofs.YtfplgfodoiiobaaGreatDoor
