/- PgA, RefQ (joined). -/
import Derived.Test.YtfplgfodoiiobaaGreatDoorJ04
open Option renaming none→O,some→M
open Go.Value renaming int→I,slice→Z
open Go.Obj renaming cells→C
open Go renaming World→F,Value→Y
open Go.Proofs.Tryz renaming prog→K
namespace Go.Proofs.YtfplgfodoiiobaaGreatDoor
open Go.RowKit
variable {w w':F}{l:List UInt8}{B:Nat}{v:Y}{X:Nat->Prop}{ao:Option Addr}
def fC:List UInt8->Int
 |a::b::c::d::_=>(a.toNat:Int)*16777216+(b.toNat:Int)*65536+(c.toNat:Int)*256+(d.toNat:Int)
 |_=>0
theorem mJ (l:List UInt8):0<=fC l/\fC l<4294967296:=by
 unfold fC;split
 ·rename_i a b c d _;have h1:=UInt8.toNat_lt a;have h2:=UInt8.toNat_lt b;have h3:=UInt8.toNat_lt c;have h4:=UInt8.toNat_lt d;omega
 ·omega
def Cz (l:List UInt8):List Y:=l.map fun b=>Value.int .u8 (b.toNat:Int)
theorem iM (l:List UInt8):(Cz l).length=l.length:=by simp[Cz]
theorem xB (a b:List UInt8):Cz (a++b)=Cz a++Cz b:=by simp[Cz]
theorem SQ {j:Nat}{b:UInt8}(h:l[j]?=M b):(Cz l)[j]?=M (I .u8 (b.toNat:Int)):=by simp[Cz,h]
def mU (w:F)(ao:Option Addr)(l:List UInt8):Prop:=
 l=[]\/∃b off,ao=M ⟨b,off,O⟩/\∀(i:Nat) (x:UInt8),l[i]?=M x->w.cell? ⟨b,off+i,O⟩=M (I .u8 (x.toNat:Int))
def bC (w:F)(B:Nat)(v:Y)(l:List UInt8):Prop:=(v=Z O 0 0/\l=[])\/∃g cap aT mk,v=Z (M ⟨g,0,O⟩) l.length cap/\B<=g/\w.heap[g]?=M (C aT 5 mk)/\(mk=(0,0)\/mk=(aT.size,aT.size+1))/\l.length<=cap/\cap<=maxLen/\aT.size=cap/\aT.toList.take l.length=Cz l
theorem bC.of {n:Nat}(h:w.ownsRow B 5 1 v n (Cz l)):bC w B v l:=by
 obtain⟨h0,h⟩:=h;have hn:n=l.length:=by rw[iM]at h0;omega
 subst hn;rcases h with⟨rfl,h⟩|⟨g,cap,aT,rfl,hb,hg,h1,h2,h3,h4⟩
 ·exact Or.inl ⟨rfl,List.eq_nil_of_length_eq_zero h⟩
 ·exact Or.inr ⟨g,cap,aT,(0,0),rfl,hb,hg,Or.inl rfl,h1,h2,by omega,by simpa using h4⟩
theorem bC.ty (h:bC w B v l){g:Nat}(hg:v.ownBlock=M g):∃aT mk,w.heap[g]?=M (C aT 5 mk):=by
 rcases h with⟨rfl,-⟩|⟨g',cap,aT,mk,rfl,-,hh,-⟩
 ·simp[Value.ownBlock]at hg
 ·simp[Value.ownBlock]at hg;subst hg;exact⟨aT,mk,hh⟩
theorem bC.lt (h:bC w B v l):∀k,v.ownBlock=M k->B<=k/\k<w.heap.size:=by
 intro k hk;rcases h with⟨rfl,-⟩|⟨g',cap,aT,mk,rfl,hb,hh,-⟩
 ·simp[Value.ownBlock]at hk
 ·simp[Value.ownBlock]at hk;subst hk;exact⟨hb,aK hh⟩
theorem bC.fr (h:bC w B v l)(hF:Fr w w' X)(hx:∀g,v.ownBlock=M g->¬X g):bC w' B v l:=by
 rcases h with h|⟨g,cap,aT,mk,rfl,hb,hh,h1⟩
 ·exact Or.inl h
 ·exact Or.inr ⟨g,cap,aT,mk,rfl,hb,hF.at hh (hx g rfl),h1⟩
theorem bC.kept {row:Option Nat}(h:bC w B v l)(hg:w.grownBy w' row)(hne:v.ownBlock=O\/v.ownBlock≠row):bC w' B v l:=by
 rcases h with h|⟨g,cap,aT,mk,rfl,hb,hh,h1⟩
 ·exact Or.inl h
 ·exact Or.inr ⟨g,cap,aT,mk,rfl,hb,(hg.block g (aK hh) (by simpa[Value.ownBlock]using hne)).trans hh,h1⟩
theorem bC.alloc (h:bC w B v l)(o:Obj):bC (w.alloc o) B v l:=
 h.kept (World.grownBy_alloc w o O) (by cases hv:v.ownBlock<;>simp)
theorem mU.nil (w:F)(ao:Option Addr):mU w ao []:=Or.inl rfl
theorem mU.aM (h:mU w ao l)(hg:aJ w w'):mU w' ao l:=by
 rcases h with h|⟨b,off,e,hc⟩
 ·exact Or.inl h
 ·exact Or.inr ⟨b,off,e,fun i x hx=>cell_later hg (hc i x hx)⟩
theorem mU.fr (h:mU w ao l)(hF:Fr w w' X)(hx:∀a,ao=M a->¬X a.block):mU w' ao l:=by
 rcases h with rfl|⟨b,off,rfl,hc⟩
 ·left;rfl
 ·refine Or.inr ⟨b,off,rfl,fun i x hi=>?_⟩;have h1:=hc i x hi;have hb:w'.heap[b]?=w.heap[b]?:=hF.2 b (World.block_lt_of_cell? _ _ h1) (hx _ rfl);exact(World.cell?_of_block (a:=⟨b,off+i,O⟩) hb).trans h1
theorem mU.drop {b off:Nat}(h:mU w (M ⟨b,off,O⟩) l)(k:Nat):mU w (M ⟨b,off+k,O⟩) (l.drop k):=by
 rcases h with rfl|⟨b',Tz,e,hc⟩
 ·left;simp
 ·cases e
  refine Or.inr ⟨b,off+k,rfl,fun i x hx=>?_⟩;rw[List.getElem?_drop]at hx;have:=hc (k+i) x hx;rw[<-Nat.add_assoc]at this;exact this
theorem mU.take (h:mU w ao l)(k:Nat):mU w ao (l.take k):=by
 rcases h with rfl|⟨b,off,e,hc⟩
 ·left;simp
 ·refine Or.inr ⟨b,off,e,fun i x hx=>?_⟩;rw[List.getElem?_take]at hx;split at hx
  ·exact hc i x hx
  ·cases hx
theorem bC.form (h:bC w B v l):
 ∃ao cap,v=Z ao l.length cap/\mU w ao l/\l.length<=cap/\(ao=O->l.length=0/\cap=0)/\(∀a,ao=M a->B<=a.block/\a.block<w.heap.size/\∃aT mk,w.heap[a.block]?=M (C aT 5 mk)):=by
 rcases h with⟨rfl,rfl⟩|⟨g,cap,aT,mk,rfl,hg,hh,-,gX,-,hcs,ht⟩
 ·exact⟨O,0,rfl,Or.inl rfl,by simp,fun _=>⟨rfl,rfl⟩,(fun _ e=>by cases e)⟩
 ·refine⟨M ⟨g,0,O⟩,cap,rfl,Or.inr ⟨g,0,rfl,fun i x hx=>?_⟩,gX,(fun e=>by cases e),(fun a e=>by cases e;exact⟨hg,aK hh,aT,mk,hh⟩)⟩;have h1:=SQ hx;rw[<-ht,List.getElem?_take]at h1;rw[Nat.zero_add,cell_of_row w g i aT 5 mk hh];split at h1
  ·simpa using h1
  ·cases h1
theorem bC.nil (w:F)(B:Nat):bC w B (Z O 0 0) []:=Or.inl ⟨rfl,rfl⟩
theorem bC.aM (h:bC w B v l)(hg:aJ w w'):bC w' B v l:=h.fr (Fr.dO hg (fun _=>False)) (fun _ _=>id)
theorem bC.mono {B':Nat}(h:bC w B v l)(hB:B'<=B):bC w B' v l:=by
 rcases h with h2|⟨g,cap,aT,mk,rfl,hg,hh⟩
 ·exact Or.inl h2
 ·exact Or.inr ⟨g,cap,aT,mk,rfl,Nat.le_trans hB hg,hh⟩
theorem NT {α:Type}(l:List α)(o:Nat)(v:α)(k:Nat)(ho:o<l.length):(l.set o v).take (o+1)=l.take o++ [v]/\(l.set o v).drop (o+1+k)=l.drop (o+1+k):=by
 refine⟨?_,?_⟩
 ·rw[List.take_add_one,List.take_set_of_le (Nat.le_refl o)];simp[ho]
 ·rw[List.drop_set_of_lt (by omega)]
theorem Ky (g:Nat)(t:TypeId)(mk:Nat×Nat):∀(vs:List Y) (o:Nat) (w:F) (aT:Array Y),w.heap[g]?=M (C aT t mk)->o+vs.length<=aT.size->
 ∃rW,(w.setCells g o vs).heap[g]?=M (C rW t mk)/\rW.toList=aT.toList.take o++vs++aT.toList.drop (o+vs.length)
 | [],o,w,aT,h,_=>⟨aT,h,by simp⟩
 |v::vs,o,w,aT,h,hl=>by
  simp only[List.length_cons]at hl
  have h1:(w.setCell ⟨g,o,O⟩ v).heap[g]?=M (C (aT.setIfInBounds o v) t mk):=by
   simp[World.setCell,Array.getElem?_modify,h]
  have gQ:(aT.toList.set o v).length=aT.size:=by simp
  obtain⟨rW,h2,h3⟩:=Ky g t mk vs (o+1) (w.setCell ⟨g,o,O⟩ v) _ h1 (by simp;omega);refine⟨rW,h2,h3.trans ?_⟩;have bV:o<aT.toList.length:=by simp;omega
  have e:(aT.setIfInBounds o v).toList=aT.toList.set o v:=by simp
  obtain⟨p1,p2⟩:=NT aT.toList o v vs.length bV;rw[e,p1,p2,show o+1+vs.length=o+(v::vs).length from by simp;omega];simp
theorem zI (g:Nat):∀(vs:List Y) (o:Nat) (w:F),w.grownBy (w.setCells g o vs) (M g)
 | [],_,w=>World.grownBy.refl _ _
 |v::vs,o,w=>by
  have h:=zI g vs (o+1) (w.setCell ⟨g,o,O⟩ v);refine⟨h.os,h.tape,h.output,?_,fun k hk hne=>?_⟩
  ·have h2:(w.setCell ⟨g,o,O⟩ v).heap.size=w.heap.size:=by simp[World.setCell]
   rw[<-h2];exact h.size
  ·refine(h.block k (by simpa[World.setCell]using hk) hne).trans ?_;have hgk:g≠k:=fun e=>hne (by rw[e])
   simp[World.setCell,Array.getElem?_modify,hgk]
theorem Tryz.infoByte:(Tryz.prog.info? 5).map (fun i=>(i.zero,i.size,i.bytes))=M (M (I .u8 0),1,1):=by kernel_rfl
def fI (w:F)(v v':Y):Prop:=v'.ownBlock=v.ownBlock\/∀k,v'.ownBlock=M k->w.heap.size<=k
theorem tY {P:Program}(w:F)(base:Nat)(t ty e:TypeId)(i:TypeInfo)(z:Y)(size bytes:Nat)(ht:P.underlying t=M (.slice e))(hi:P.info? e=M i)(hz:i.zero=M z)
 (Ca:i.size=size)(EN:i.bytes=bytes)(hzs:z.cells.size=size)(gQ:0<size)
 (v:Y)(n:Nat)(xs:List Y)(cZ:w.ownsRow base e size v n xs)
 (a:Addr)(m c:Nat)(news:List Y)(hl:news.length=m*size)(vH:∀j u,news[j]?=M u->w.cell? (a.add j)=M u)(h1:∀u∈news,u.oneCell'=true)
 (h63:n+m<=maxLen)(Iu:(n+m)*bytes<=140737488355328)(kW:base<=w.heap.size):
 ∃v' w',(Builtin.append_ #[t,t] ty #[v,Z (M a) m c]).run P w= .ok v' w'/\w'.ownsRow base e size v' (n+m) (xs++news)/\w.grownBy w' v.ownBlock/\fI w v v':=by
 obtain⟨v',w',hr,ho,Cv,-⟩:=run_append_own (P:=P) w base t ty e i z size bytes ht hi hz Ca EN hzs gQ v n xs cZ a m c news hl vH h1 h63 Iu kW;refine⟨v',w',hr,ho,Cv,?_⟩;have hsmall:n+m<=9223372036854775807:=by simp only[maxLen]at h63;omega
 rcases cZ.2 with⟨rfl,rfl⟩|⟨g,cap,aT,rfl,ZU,hg,hnc,hcm,hcs,htake⟩
 ·have hx:xs=[]:=List.eq_nil_of_length_eq_zero (by simpa using cZ.1);subst hx;obtain⟨v2,w2,Ua,ho2,-,-⟩:=run_append_own (P:=P) w w.heap.size t ty e i z size bytes ht hi hz Ca EN hzs gQ _ 0 [] (World.ownsRow_nil w w.heap.size e size) a m c news hl vH h1 h63 Iu (Nat.le_refl _);rw[hr]at Ua;cases Ua
  refine Or.inr fun k hk=>(ho2.lt k hk).1
 ·subst Ca;by_cases nZ:n+m<=cap
  ·have Pe:n*i.size+news.length<=aT.size:=by rw[hl,hcs,<-Nat.add_mul];exact Nat.mul_le_mul_right _ nZ
   have Ua:=run_append_room (P:=P) w t ty e i ht hi g n cap aT hg a m c news hl vH h1 nZ Pe;rw[hr]at Ua;cases Ua
   exact Or.inl rfl
  ·subst EN;have holds:∀j u,xs[j]?=M u->w.cell? ((⟨g,0,O⟩:Addr).add j)=M u:=cZ.cells (g:=g) rfl;have Ua:=run_append_grow (P:=P) w t ty e i z ht hi hz ⟨g,0,O⟩ n cap xs cZ.1 holds a m c news hl vH (by omega) (by omega) (growslice_fits (by omega) Iu);rw[hr]at Ua;cases Ua
   exact Or.inr fun k hk=>by simp[Value.ownBlock]at hk;omega
theorem mU.cells {ad:Addr}{zs:List UInt8}(hr:mU w (M ad) zs):∀j u,(Cz zs)[j]?=M u->w.cell? (ad.add j)=M u:=by
 intro j u hj;rcases hr with rfl|⟨b,off,e,hc⟩
 ·simp[Cz]at hj
 ·cases e
  unfold Cz at hj;rw[List.getElem?_map]at hj;cases hz:zs[j]? with
  |none=>rw[hz]at hj;simp at hj
  |some x=>
   rw[hz]at hj;simp at hj;subst hj;have:=hc j x hz;cases j with
   |zero=>simpa[Addr.add]using this
   |succ j=>simpa[Addr.add]using this
theorem Kz {P:Program}(w:F)(base:Nat)(t ty:TypeId)(i:TypeInfo)(z:Y)(ht:P.underlying t=M (.slice 5))(hi:P.info? 5=M i)(hz:i.zero=M z)
 (Ca:i.size=1)(EN:i.bytes=1)(hzs:z.cells.size=1)
 (v:Y)(l:List UInt8)(cZ:bC w base v l)
 (a:Addr)(m c:Nat)(zs:List UInt8)(hl:zs.length=m)(vH:∀j u,(Cz zs)[j]?=M u->w.cell? (a.add j)=M u)
 (h63:l.length+m<=maxLen)(Iu:(l.length+m)*1<=140737488355328)(kW:base<=w.heap.size):
 ∃v' w',(Builtin.append_ #[t,t] ty #[v,Z (M a) m c]).run P w= .ok v' w'/\bC w' base v' (l++zs)/\w.grownBy w' v.ownBlock/\fI w v v':=by
 have h1:∀u∈Cz zs,u.oneCell'=true:=by
  intro u hu;obtain⟨z,-,rfl⟩:=List.mem_map.1 hu;rfl
 have hzl:(Cz zs).length=m*1:=by rw[iM];omega
 have plain:∀v,w.ownsRow base 5 1 v l.length (Cz l)->∃v' w',(Builtin.append_ #[t,t] ty #[v,Z (M a) m c]).run P w= .ok v' w'/\bC w' base v' (l++zs)/\w.grownBy w' v.ownBlock/\fI w v v':=fun v h=>by
  obtain⟨v',w',a1,a2,a3,a4⟩:=tY (P:=P) w base t ty 5 i z 1 1 ht hi hz Ca EN hzs (by decide) v l.length (Cz l) h a m c (Cz zs) hzl vH h1 h63 Iu kW;exact⟨v',w',a1,bC.of (n:=l.length+m) (by rw[xB];exact a2),a3,a4⟩
 rcases cZ with⟨rfl,rfl⟩|⟨g,cap,aT,mk,rfl,hb,hg,hmk,gX,hcm,hcs,Yr⟩
 ·exact plain _ (World.ownsRow_nil w base 5 1)
 ·rcases hmk with rfl|rfl
  ·exact plain _ ⟨by rw[iM];omega,Or.inr ⟨g,cap,aT,rfl,hb,hg,gX,hcm,by omega,by simpa using Yr⟩⟩
  ·have hcell:∀j,w.cell? ⟨g,j,O⟩=aT[j]?:=fun j=>cell_of_row w g j aT 5 _ hg
   by_cases nZ:l.length+m<=cap
   ·have hr:=run_append_room_cells (P:=P) w t ty 5 i ht hi g 0 l.length cap a m c (Cz zs) (by rw[Ca];exact hzl) vH h1 nZ (fun j hj=>by
     rw[hcell,Ca];rw[iM]at hj;simp;omega) (fun j hj=>by
     rw[iM]at hj;rw[Ca];simp only[World.frozen?,hg];simp;omega)
    rw[Ca]at hr;obtain⟨rW,q1,q2⟩:=Ky g 5 _ (Cz zs) (0+l.length*1) w aT hg (by rw[iM];omega)
    have SS:rW.size=aT.size:=by
     have:=congrArg List.length q2;simp[iM]at this;omega
    refine⟨_,_,hr,Or.inr ⟨g,cap,rW,(aT.size,aT.size+1),by rw[List.length_append,hl],hb,q1,Or.inr (by rw[SS]),by rw[List.length_append];omega,hcm,by omega,?_⟩,zI g _ _ w,Or.inl rfl⟩;rw[q2,xB,<-Yr];have e1:(List.take l.length aT.toList).length=l.length:=by simp;omega
    rw[show 0+l.length*1=l.length from by omega,List.length_append,List.take_append_of_le_length (by simp[iM];omega),List.take_of_length_le (by simp[iM];omega)]
   ·obtain⟨v',w',hr,ho,Cv⟩:=run_append_arg_grows (P:=P) w t ty 5 i z 1 1 ht hi hz Ca EN hzs (by decide) ⟨g,0,O⟩ l.length cap (Cz l) (by rw[iM];omega) (fun j u hu=>by
     rw[Addr.add_lit,Nat.zero_add,hcell];rw[<-Yr,List.getElem?_take]at hu;split at hu
     ·simpa using hu
     ·cases hu) a m c (Cz zs) hzl vH (by omega) h63 Iu
    refine⟨v',w',hr,(bC.of (n:=l.length+m) (by rw[xB];exact ho)).mono kW,⟨Cv.os,Cv.tape,Cv.output,Cv.size,fun k hk _=>Cv.block k hk (by simp)⟩,Or.inr fun k hk=>(ho.lt k hk).1⟩
theorem yE {ops:Array Oper}{rest:List Oper}{o:Oper}{a:Act}{Q:Exit->Act->F->Prop}(Bq:o.guard=O)(s x:Operand)
 (ho:o.op= .call { callee:= .builtin .append,args:=#[s,x],argTypes:=#[153,153] })
 (base:Nat)(v:Y)(ys zs:List UInt8)(hs:a.eval s=v)(cZ:bC w base v ys)(ao:Option Addr)(m c:Nat)(hx:a.eval x=Z ao m c)(hm:m=zs.length)(gJ:ao=O->zs.length=0/\c=0)(hr:mU w ao zs)
 (hlen:ys.length+zs.length<=1000000000)(kW:base<=w.heap.size)
 (h:∀v' w',bC w' base v' (ys++zs)->w.grownBy w' v.ownBlock->fI w v v'->wpList K ops Q rest (a.put o.dst v') w'):wpList K ops Q (o::rest) a w:=by
 obtain⟨i0,hi,tO,tQ,uW⟩:=info_parts Tryz.infoByte;subst hm;cases ao with
 |none=>
  obtain⟨h1,rfl⟩:=gJ rfl;have hz:zs=[]:=List.eq_nil_of_length_eq_zero h1;subst hz;rcases cZ with⟨rfl,rfl⟩|⟨g,cap,aT,mk,rfl,hb,hg,hmk,gX,hcm,hcs,Yr⟩
  ·exact wpList_append_own_none Bq s x 153 ho base 5 i0 1 Tryz.underlying153 hi _ _ _ hs (World.ownsRow_nil w base 5 1) hx (h _ w (bC.nil w base) (World.grownBy.refl _ _) (Or.inl rfl))
  ·have Fh:∀ty,(Builtin.append_ #[153,153] ty #[Z (M ⟨g,0,O⟩) ys.length cap,Z O 0 0]).run K w= .ok (Z (M ⟨g,0,O⟩) ys.length cap) w:=fun ty=>by
    simp[Builtin.append_,run_underlying Tryz.underlying153,sizeOf,typeInfo,hi,Builtin.lenOf,Builtin.firstCells,gX,storeCells]
   refine wpList_plain Bq fun _ hK=>?_
   unfold Oper.wp;simp[execOp,ho,resolve,invoke,builtin,hs,hx,Fh,Result.andThen];exact hK _ _ (h _ w (by rw[List.append_nil];exact Or.inr ⟨g,cap,aT,mk,rfl,hb,hg,hmk,gX,hcm,hcs,Yr⟩) (World.grownBy.refl _ _) (Or.inl rfl))
 |some ad=>
  obtain⟨v',w',Fh,CV,Cv,CW⟩:=Kz (P:=K) w base 153 o.type i0 (I .u8 0) Tryz.underlying153 hi tO tQ uW rfl v ys cZ ad zs.length c zs rfl (mU.cells hr) (by unfold maxLen;omega) (by omega) kW;refine wpList_plain Bq fun _ hK=>?_
  unfold Oper.wp execOp;simp only[ho,resolve,invoke,builtin,Sem.run_bind,Sem.run_pure,Result.andThen_ok,List.map_toArray,List.map_cons,List.map_nil,hs,hx,Fh];exact hK _ _ (h v' w' CV Cv CW)
def zJ (w:F)(B:Nat)(v:Y)(l:List UInt8):Prop:=w.ownsRow B 5 1 v l.length (Cz l)
theorem zJ.nil (w:F)(B:Nat):zJ w B (Z O 0 0) []:=World.ownsRow_nil w B 5 1
theorem zJ.b (h:zJ w B v l):bC w B v l:=bC.of h
theorem zJ.fr (h:zJ w B v l)(hF:Fr w w' X)(hx:∀g,v.ownBlock=M g->¬X g):zJ w' B v l:=fK h hF (fun g _ e _=>hx g e)
theorem zJ.aM (h:zJ w B v l)(hg:aJ w w'):zJ w' B v l:=fK h (Fr.dO hg (fun _=>False)) (fun _ _ _ _=>id)
theorem EO {ops:Array Oper}{rest:List Oper}{o:Oper}{a:Act}{Q:Exit->Act->F->Prop}(Bq:o.guard=O)(s x:Operand)
 (ho:o.op= .call { callee:= .builtin .append,args:=#[s,x],argTypes:=#[153,153] })
 (base:Nat)(v:Y)(ys zs:List UInt8)(hs:a.eval s=v)(cZ:zJ w base v ys)(ao:Option Addr)(m c:Nat)(hx:a.eval x=Z ao m c)(hm:m=zs.length)(gJ:ao=O->zs.length=0/\c=0)(hr:mU w ao zs)
 (hlen:ys.length+zs.length<=1000000000)(kW:base<=w.heap.size)
 (h:∀v' w',zJ w' base v' (ys++zs)->w.grownBy w' v.ownBlock->fI w v v'->wpList K ops Q rest (a.put o.dst v') w'):wpList K ops Q (o::rest) a w:=by
 obtain⟨i0,hi,tO,tQ,uW⟩:=info_parts Tryz.infoByte;subst hm;cases ao with
 |none=>
  obtain⟨h1,rfl⟩:=gJ rfl;have hz:zs=[]:=List.eq_nil_of_length_eq_zero h1;subst hz;exact wpList_append_own_none Bq s x 153 ho base 5 i0 1 Tryz.underlying153 hi v _ _ hs cZ hx (h v w (by simpa using cZ) (World.grownBy.refl _ _) (Or.inl rfl))
 |some ad=>
  obtain⟨v',w',Fh,CV,Cv,CW⟩:=tY (P:=K) w base 153 o.type 5 i0 (I .u8 0) 1 1 Tryz.underlying153 hi tO tQ uW rfl (by decide) v ys.length (Cz ys) cZ ad zs.length c (Cz zs) (by rw[iM];omega) (mU.cells hr) (by
   intro u hu;obtain⟨z,-,rfl⟩:=List.mem_map.1 hu;rfl) (by unfold maxLen;omega) (by omega) kW
  refine wpList_plain Bq fun _ hK=>?_
  unfold Oper.wp execOp;simp only[ho,resolve,invoke,builtin,Sem.run_bind,Sem.run_pure,Result.andThen_ok,List.map_toArray,List.map_cons,List.map_nil,hs,hx,Fh];refine hK _ _ (h v' w' ?_ Cv CW);unfold zJ;rw[xB,List.length_append];exact CV
abbrev Sn:=List UInt8×Bool
def dX (r:Sn):Int×Sn:=if r.2=true\/r.1.length<4 then (0,(r.1,true))else (fC r.1,(r.1.drop 4,false))
def iZ (p:Prop)[Decidable p](r:Sn):Sn:=if p then (r.1,true)else r
def Iw:Nat->Int->Sn->List (Int×Int)×Sn
 |0,_,r=>([],r)
 |k+1,size,r=>if r.2=true then ([],r)else
  let a:=dX r
  let b:=dX a.2
  let q:=Iw k size (iZ (b.1<1\/5000<b.1\/size<a.1+b.1) b.2)
  ((a.1,b.1)::q.1,q.2)
def jA (size:Int)(r:Sn):List (Int×Int)×Sn:=
 let n:=dX r
 let q:=Iw n.1.toNat size (iZ (4096<n.1) n.2)
 (q.1,iZ (5000<sz q.1) q.2)
def Fj:Nat->Int->Sn->List Ed×Sn
 |0,_,r=>([],r)
 |k+1,size,r=>if r.2=true then ([],r)else
  let a:=dX r
  let b:=jA size a.2
  let c:=jA size b.2
  let q:=Fj k size c.2
  ((a.1,b.1,c.1)::q.1,q.2)
def jX (size:Int)(r:Sn):List Ed×Sn:=
 let n:=dX r
 Fj n.1.toNat size (iZ (50<n.1) n.2)
def oZ:List (Int×Int×Int)->Int->Bool
 | [],_=>true
 |(p,a,b)::l,n=>if n<p+a then false else if 5000<n-a+b then false else oZ l (n-a+b)
def qP (e:Ed):Int×Int×Int:=(e.1,sz e.2.2,sz e.2.1)
def mM (e:Ed):Int×Int×Int:=(e.1,sz e.2.1,sz e.2.2)
theorem NU (r:Sn):0<=(dX r).1/\(dX r).1<4294967296:=by
 unfold dX;split
 ·simp
 ·exact mJ _
theorem Ap {r:Sn}(h:r.2=true):dX r=(0,(r.1,true)):=by unfold dX;rw[if_pos (Or.inl h)]
def WJ (p:Int×Int):Prop:=0<=p.1/\p.1<4294967296/\0<=p.2/\p.2<4294967296
theorem jk:∀(k:Nat) (size:Int) (r:Sn),(∀p∈(Iw k size r).1,WJ p)/\(Iw k size r).1.length<=k:=by
 intro k
 induction k with
 |zero=>intro size r;simp[Iw]
 |succ k ih=>
  intro size r;unfold Iw;split
  ·simp
  ·simp only;generalize iZ ((dX (dX r).2).1<1\/5000<(dX (dX r).2).1\/size<(dX r).1+(dX (dX r).2).1) (dX (dX r).2).2=q;obtain⟨h1,h2⟩:=ih size q;refine⟨fun p hp=>?_,by simp;omega⟩;simp only[List.mem_cons]at hp;rcases hp with rfl|hp
   ·have a:=NU r;have b:=NU (dX r).2;unfold WJ;simp only;omega
   ·exact h1 p hp
theorem zK:∀(k:Nat) (size:Int) (r:Sn),r.2=true->Iw k size r=([],r):=by
 intro k size r h;cases k with
 |zero=>rfl
 |succ k=>unfold Iw;rw[if_pos h]
theorem La (size:Int)(r:Sn):(∀p∈(jA size r).1,WJ p)/\(jA size r).1.length<=4096:=by
 unfold jA;simp only;obtain⟨h1,h2⟩:=jk (dX r).1.toNat size (iZ (4096<(dX r).1) (dX r).2);refine⟨h1,?_⟩;by_cases h:4096<(dX r).1
 ·rw[zK _ _ _ (by unfold iZ;rw[if_pos h])];simp
 ·omega
theorem tZ:∀(k:Nat) (size:Int) (r:Sn),r.2=true->Fj k size r=([],r):=by
 intro k size r h;cases k with
 |zero=>rfl
 |succ k=>unfold Fj;rw[if_pos h]
def rawE (e:Ed):Prop:=(0<=e.1/\e.1<4294967296)/\((∀p∈e.2.1,WJ p)/\e.2.1.length<=4096)/\((∀p∈e.2.2,WJ p)/\e.2.2.length<=4096)
theorem jl:∀(k:Nat) (size:Int) (r:Sn),(∀e∈(Fj k size r).1,rawE e)/\(Fj k size r).1.length<=k:=by
 intro k
 induction k with
 |zero=>intro size r;simp[Fj]
 |succ k ih=>
  intro size r;unfold Fj;split
  ·simp
  ·simp only;obtain⟨h1,h2⟩:=ih size (jA size (jA size (dX r).2).2).2;refine⟨fun e he=>?_,by simp;omega⟩;simp only[List.mem_cons]at he;rcases he with rfl|he
   ·exact⟨NU r,La _ _,La _ _⟩
   ·exact h1 e he
theorem Pf (size:Int)(r:Sn):(∀e∈(jX size r).1,rawE e)/\(jX size r).1.length<=50:=by
 unfold jX;simp only;obtain⟨h1,h2⟩:=jl (dX r).1.toNat size (iZ (50<(dX r).1) (dX r).2);refine⟨h1,?_⟩;by_cases h:50<(dX r).1
 ·rw[tZ _ _ _ (by unfold iZ;rw[if_pos h])];simp
 ·omega
def jE (s:ByteArray)(buf:Int)(depth:Nat):Option (Int×bT):=
 if s.size=0 then M (0,([],[],[],0,0))else
 if s.size<29\/s.data.toList.head?≠M 75 then O else
 let body:=s.data.toList.take (s.size-4)
 let e:=dX (body.drop 1,false)
 let d:=dX e.2
 let b:=dX d.2
 let t:=jA b.1 b.2
 let u:=jX b.1 t.2
 let r:=jX b.1 u.2
 if fC (s.data.toList.drop (s.size-4))=kH body/\r.2.2=false/\r.2.1=[]/\1<=e.1/\e.1<=999/\d.1<=1000000000/\b.1<=buf/\oZ (u.1.map qP) (sz t.1)=true/\oZ (r.1.map mM) (sz t.1)=true
 then M (e.1,(t.1,u.1.take depth,r.1.take depth,d.1,b.1))else O
def gK (m:bT)(kind a b c most:Int)(depth:Nat):bT×Int:=
 if kind=73 then rR m a b c most depth else if kind=68 then yQ m a b depth else if kind=85 then qM m depth else qN m depth
def pI (m:bT)(buf kind a b c:Int):Bool:=(kind==73 && b==m.2.2.2.2 && decide (b+c<=buf))||(kind==68 && c==0)||((kind==85||kind==82) && a==0 && b==0 && c==0)
def nI (m:bT)(l:List UInt8)(buf:Int)(depth:Nat):Option bT:=
 if l.length<22 then O else
 let kind:=(((l.drop 1).headD 0).toNat:Int)
 let a:=fC (l.drop 6)
 let b:=fC (l.drop 10)
 let c:=fC (l.drop 14)
 if l.take 22=(fO kind (m.2.2.2.1+1) a b c).data.toList/\fC (l.drop 2)=m.2.2.2.1+1/\pI m buf kind a b c=true/\(gK m kind a b c 5000 depth).2=0 then M (gK m kind a b c 5000 depth).1 else O
def lZ (buf:Int)(depth:Nat):Nat->bT->List UInt8->bT×Nat
 |0,m,_=>(m,0)
 |k+1,m,l=>match nI m l buf depth with
  |none=>(m,0)
  |some m'=>((lZ buf depth k m' (l.drop 22)).1,(lZ buf depth k m' (l.drop 22)).2+1)
def fF:Sc->List bF->List Int->Bool×Sc×List bF
 |s,fs,[]=>(true,s,fs)
 |s,fs,n::l=>let r:=bR s fs n 0;if r.1 then fF r.2.1 r.2.2 l else r
def iT (fs:List bF)(e:Int):List Int:=(fs.map (fun f=>f.1)).filter (fun n=>n !=1 && n !=10+e && (n !=2||e==0))
abbrev St:=Sc×List bF×bT
def jM (x:St):St×Int:=
 if x.1.aS then (x,2)else
 match jE (aL x.2.1 2) ((aL x.2.1 1).size:Int) x.1.depth.toNat with
 |none=>(x,11)
 |some em=>
  let j:=(aL x.2.1 (10+em.1)).data.toList
  let g:=lZ ((aL x.2.1 1).size:Int) x.1.depth.toNat (j.length / 22+1) em.2 j
  let r:=fF { x.1 with aS:=true } x.2.1 (iT x.2.1 em.1)
  if r.1=false then ((r.2.1,r.2.2,x.2.2),10)else
  let r2:=bR r.2.1 r.2.2 (10+em.1) ((22*g.2:Nat):Int)
  if r2.1=false then ((r2.2.1,r2.2.2,x.2.2),10)else
  let r3:=bR r2.2.1 r2.2.2 1 g.1.2.2.2.2
  if r3.1=false then ((r3.2.1,r3.2.2,x.2.2),10)else
  (({ r3.2.1 with ro:=false,aV:=em.1 },r3.2.2,g.1),0)
def yF (x:St)(l:List (Int×ByteArray)):St×Int:=
 if x.1.aS then (x,2)else
 if l.length<=40/\l.Pairwise (fun a b=>a.1<b.1)/\(∀f∈l,0<=f.1/\f.2.size≠0)/\bP (l.map (fun f=>(f.1,f.2,(f.2.size:Int))))<=x.1.room
 then ((x.1,l.map (fun f=>(f.1,f.2,(f.2.size:Int))),x.2.2),0)else (x,1)
def iG (x:St):St×Int:=
 if x.1.aS=false then (x,3)else if x.1.ro then (x,4)else
 let r:=bQ x.1 x.2.1 1
 if r.1=false then ((r.2.1,r.2.2,x.2.2),10)else
 let r2:=bQ r.2.1 r.2.2 (10+r.2.1.aV)
 ((r2.2.1,r2.2.2,x.2.2),if r2.1 then 0 else 10)
def eZ (x:St)(kind pos n:Int)(text:ByteArray):St×Int:=
 if x.1.aS=false then (x,3)else if x.1.ro then (x,4)else
 let a:=if kind=73\/kind=68 then pos else 0
 let b:=if kind=73 then ((aL x.2.1 1).size:Int)else if kind=68 then n else 0
 let c:=if kind=73 then (text.size:Int)else 0
 let r:=gK x.2.2 kind a b c x.1.most x.1.depth.toNat
 if r.2≠0 then (x,r.2)else
 let q:=if kind=73 then dJ x.1 x.2.1 1 text else (0,x.1,x.2.1)
 if q.1≠0 then ((q.2.1,q.2.2,x.2.2),q.1)else
 let q2:=dJ q.2.1 q.2.2 (10+q.2.1.aV) (fO kind r.1.2.2.2.1 a b c)
 ((q2.2.1,q2.2.2,if q2.1=0 then r.1 else x.2.2),q2.1)
end Go.Proofs.YtfplgfodoiiobaaGreatDoor
