/- PgI, PgJ (joined). -/
import Derived.Lib.AppendZerosOnto
import Derived.Shelf.Spec.SlicesInsert
import Derived.Test.YtfplgfodoiiobaaGreatDoorJ17
open Option renaming none→O,some→M
open Go.Value renaming int→I,slice→Z,pointer→U
open Go.IntKind renaming i64→V
open Go.Obj renaming cells→C
open Go.Ending renaming returned→G
open Go renaming World→F,Value→Y,Calls→H
open Go.Proofs.Tryz renaming prog→K
namespace Go.Proofs.YtfplgfodoiiobaaGreatDoor
set_option maxHeartbeats 4000000
set_option maxRecDepth 100000
open Go.RowKit
variable {w w':F}{r:FR}{rs:List FR}{i vb g db:Nat}{s:Sc}{fv:Y}
theorem Fb {ops:Array Oper}{rest:List Oper}{o:Oper}{a:Act}{Q:Exit->Act->F->Prop}(qE:o.guard=O)(s x:Operand)
 (ho:o.op= .call { callee:= .builtin .append,args:=#[s,x],argTypes:=#[135,135] })
 (v:Y)(rs:List FR)(r:FR)(hs:a.eval s=v)(bA:iJ w v rs)(vb:Nat)(hx:a.eval x=Z (M ⟨vb,0,O⟩) 1 1)(hr:w.cell? ⟨vb,0,O⟩=M r.p)
 (hlen:rs.length<=1000000)
 (h:∀v' w',iJ w' v' (rs++ [r])->w.grownBy w' v.ownBlock->gT w v v'->wpList K ops Q rest (a.put o.dst v') w'):wpList K ops Q (o::rest) a w:=by
 obtain⟨i0,hi,nN,nO,oM⟩:=info_parts Tryz.infoPtr
 obtain⟨v',w',tO,Uw,zG,CF⟩:=vV (P:=K) w 0 135 o.type 155 i0 (U O) 1 8 Tryz.underlying135 hi nN nO oM rfl (by decide) v rs.length (rs.map FR.p) bA ⟨vb,0,O⟩ 1 1 [r.p] rfl (by
  intro j u hj;cases j with
  |zero=>simp at hj;subst hj;simpa[Addr.add]using hr
  |succ j=>simp at hj) (by
  intro u hu;simp at hu;subst hu;rfl) (by unfold maxLen;omega) (by omega) (Nat.zero_le _)
 refine wpList_plain qE fun _ hK=>?_
 unfold Oper.wp execOp;simp only[ho,resolve,invoke,builtin,Sem.run_bind,Sem.run_pure,Result.andThen_ok,List.map_toArray,List.map_cons,List.map_nil,hs,hx,tO];refine hK _ _ (h v' w' ?_ zG CF);unfold iJ;rw[List.map_append,List.length_append];exact Uw
def lN (w w':F)(v v':Y)(rs:List FR)(i:Nat)(r:FR):Prop:=iJ w' v' (rs.take i++r::rs.drop i)/\w.grownBy w' v.ownBlock/\gT w v v'
theorem MN {v:Y}(h:iJ w v rs)(hv:w.heap[vb]?=M (C #[r.p] 155 (0,0)))(hl:rs.length<=1000000):
 H K 213 #[v,I V (rs.length:Int),Z (M ⟨vb,0,O⟩) 1 1] w fun e w'=> ∃v',e=G v'/\lN w w' v v' rs rs.length r:=by
 obtain⟨ao,cap,rfl,iL,hm,-,-⟩:=iJ.form h;have hr:w.cell? ⟨vb,0,O⟩=M r.p:=by simp[World.cell?,hv]
 have j1:(0:Int)<=(rs.length:Int):=by omega
 clear hv;by_cases hq:cap=rs.length
 ·subst hq;go_enter Tryz.func213,Tryz.ntmps213
  go_wp2_with (at_builtin;go_must (refine Fb (by rfl) (.tmp 23) (.tmp 24) (by rfl) _ rs r (by rfl) (by exact h) vb (by rfl) (by exact hr) (by exact hl) ?_);intro v5 w5 cO fQ Na)
  go_ret;exact⟨_,rfl,by unfold lN;rw[List.take_length,List.drop_length];exact⟨cO,fQ,Na⟩⟩
 ·go_enter Tryz.func213,Tryz.ntmps213
  go_wp2_with (at_builtin;go_must (refine Fb (by rfl) (.tmp 23) (.tmp 24) (by rfl) _ rs r (by rfl) (by exact h) vb (by rfl) (by exact hr) (by exact hl) ?_);intro v5 w5 cO fQ Na)
  go_ret;exact⟨_,rfl,by unfold lN;rw[List.take_length,List.drop_length];exact⟨cO,fQ,Na⟩⟩
theorem EW {α:Type}(A:List α)(p:α)(B R:List α)(i n:Nat)(hA:A.length=i)(hB:B.length=n-i)(hi:i<=n):(A++ [p]++(B++R)).take (n+1)=A++p::B:=by
 have:(A++ [p]++B).length=n+1:=by simp;omega
 rw[<-List.append_assoc,List.take_left' this];simp
theorem Zg {cap:Nat}(h:iJ w (Z (M ⟨g,0,O⟩) rs.length cap) rs)(hi:i<rs.length)(sF:rs.length+1<=cap)(hv:w.heap[vb]?=M (C #[r.p] 155 (0,0)))(hne:vb≠g)(hl:rs.length<=1000000):
 H K 213 #[Z (M ⟨g,0,O⟩) rs.length cap,I V (i:Int),Z (M ⟨vb,0,O⟩) 1 1] w fun e w'=> ∃v',e=G v'/\lN w w' (Z (M ⟨g,0,O⟩) rs.length cap) v' rs i r:=by
 obtain⟨ao,mW,e,iL,hm,-,jE⟩:=iJ.form h;cases e
 obtain⟨g',aS,e,hg,hcs,Vz,hc⟩:=jE _ rfl;cases e
 obtain⟨i0,hi0,nN,nO,oM⟩:=info_parts Tryz.infoPtr;have jT:(Tryz.prog.info? 155).map (·.size)=M 1:=by rw[hi0];simp[nO]
 have QC:aS.toList.length=cap:=by simpa using hcs
 have hov:∀lb cb,(callFunc 251 #[Z (M ⟨vb,0,O⟩) 1 1,Z (M ⟨g,i+1,O⟩) lb cb]).run K w= .ok (.value (.bool false)) w:=fun lb cb=>by
  rw[run_callFunc_extern Tryz.func251 (by kernel_rfl) (by kernel_rfl) (by kernel_rfl) (e:=Extern.SlicesOverlaps.overlaps #[135,135] #[4]) (by kernel_rfl),
   Lib.run_overlaps_apart w 135 4 155 Tryz.underlying135 1 (fun w=>by simp[sizeOf,typeInfo,hi0,nO]) ⟨vb,0,O⟩ ⟨g,i+1,O⟩ 1 1 lb cb hne 155 155 1 cap (by simp[World.shape?,hv]) (by simp[World.shape?,hg,hcs]) (by omega) (by simp[World.frozen?,hv]) (by simp[World.frozen?,hv])]
  rfl
 obtain⟨ps,jl⟩:∃ps,ps=(rs.drop i).map FR.p:=⟨_,rfl⟩;have Bq:ps.length=rs.length-i:=by rw[jl];simp
 have h1c:∀u∈ps,u.oneCell'=true:=by
  intro u hu;rw[jl]at hu;obtain⟨x,_,rfl⟩:=List.mem_map.1 hu;rfl
 have hcp1:∀ty dc sc,(Builtin.copy_ #[135,135] ty #[Z (M ⟨g,i+1,O⟩) (rs.length-i) dc,Z (M ⟨g,i,O⟩) (rs.length+1-i) sc]).run K w.drew= .ok (goInt ps.length) (w.drew.setCells g (i+1) ps):=fun ty dc sc=>
  run_copy_cells w.drew _ _ ty 155 g (i+1) (rs.length-i) dc ⟨g,i,O⟩ (rs.length+1-i) sc ps Tryz.underlying135 jT (by rw[Bq];simp only[Nat.min_def];split<;>omega)
   (fun j v hj=>by
    rw[Addr.add_lit];rw[jl,List.getElem?_map,List.getElem?_drop]at hj;cases hr:rs[i+j]? with
    |none=>rw[hr]at hj;simp at hj
    |some q=>rw[hr]at hj;simp at hj;subst hj;exact hc _ _ hr)
   (fun j hj=>by show(w.cell? _).isSome=true;rw[(iN hg _).1];simp;rw[hcs];omega) (fun j hj=>(iN hg _).2) h1c
 obtain⟨W1,Xc⟩:∃W1,W1=w.drew.setCells g (i+1) ps:=⟨_,rfl⟩;obtain⟨rO,iH,vI⟩:=jQ g 155 ps (i+1) w.drew aS hg (by rw[Bq,hcs];omega);rw[<-Xc]at iH;have ML:rO.toList.length=cap:=by rw[vI];simp;omega
 have jk:rO.size=cap:=by simpa using ML
 have hv1:W1.cell? ⟨vb,0,O⟩=M r.p:=by
  rw[Xc,World.cell?_setCells_out _ _ _ _ _ (fun h _=>absurd h hne)];have:w.cell? ⟨vb,0,O⟩=M r.p:=by simp[World.cell?,hv]
  exact this
 have hcp2:∀ty dc,(Builtin.copy_ #[135,135] ty #[Z (M ⟨g,i,O⟩) (rs.length+1-i) dc,Z (M ⟨vb,0,O⟩) 1 1]).run K W1= .ok (goInt 1) (W1.setCells g i [r.p]):=fun ty dc=>
  run_copy_cells W1 _ _ ty 155 g i (rs.length+1-i) dc ⟨vb,0,O⟩ 1 1 [r.p] Tryz.underlying135 jT (by simp only[Nat.min_def,List.length_singleton];split<;>omega)
   (fun j v hj=>by
    cases j with
    |zero=>simp at hj;subst hj;simpa[Addr.add]using hv1
    |succ j=>simp at hj)
   (fun j hj=>by rw[(iN iH _).1];simp at hj ⊢;rw[jk];omega) (fun j hj=>(iN iH _).2) (fun u hu=>by simp at hu;subst hu;rfl)
 obtain⟨Lm,kJ,Uv⟩:=jQ g 155 [r.p] i W1 rO iH (by simp;omega)
 have HOWN:Hid (lN w (W1.setCells g i [r.p]) (Z (M ⟨g,0,O⟩) rs.length cap) (Z (M ⟨g,0,O⟩) (rs.length+1) cap) rs i r):=by
  have nW:Og w (W1.setCells g i [r.p]) g:=by rw[Xc];exact Og.cells g _ _ (Og.cells g _ _ ((Og.refl w g).aN (aZ (aL.refl w) 1)))
  refine⟨⟨by simp,Or.inr ⟨g,cap,Lm,?_,Nat.zero_le _,kJ,?_,hm,?_,?_⟩⟩,⟨nW.2.1,nW.2.2.1,nW.2.2.2,nW.1.1,fun k hk hn=>nW.1.2 k hk (fun e=>hn (by rw[e];rfl))⟩,Or.inl rfl⟩
  ·have:(rs.take i++r::rs.drop i).length=rs.length+1:=by simp;omega
   rw[this]
  ·simp;omega
  ·have:Lm.toList.length=cap:=by rw[Uv];simp;omega
   simpa using this
  ·have e0:(rs.take i++r::rs.drop i).length=rs.length+1:=by simp;omega
   have e1:(aS.toList.take (i+1)).length=i+1:=by rw[List.length_take,QC];omega
   have e2:rO.toList.take i=aS.toList.take i:=by rw[vI,List.append_assoc,List.take_append_of_le_length (by rw[e1];omega),List.take_take,Nat.min_eq_left (by omega)]
   have e3:rO.toList.drop (i+1)=ps++aS.toList.drop (i+1+ps.length):=by rw[vI,List.append_assoc,List.drop_left' e1]
   have e4:(aS.toList.take i).length=i:=by rw[List.length_take,QC];omega
   rw[e0,Nat.mul_one,Uv,List.length_singleton,e2,e3,EW _ _ _ _ i rs.length e4 Bq (by omega),List.map_append,List.map_cons,jl];congr 1;rw[List.map_take,<-Vz,List.take_take,Nat.min_eq_left (by omega)]
 rw[<-Xc]at hcp1;have j1:(0:Int)<=(i:Int):=by omega
 have j2:(i:Int)<=(rs.length:Int):=by omega
 have j3:¬((i:Int)=(rs.length:Int)):=by omega
 have j4:¬(cap:Int)<(rs.length:Int)+1:=by omega
 have j5:((i:Int)+1).toNat=i+1:=by omega
 have j6:((rs.length:Int)+1).toNat=rs.length+1:=by omega
 have j7:(0:Int)<=(i:Int)+1:=by omega
 have jJ:IntKind.i64.wrap ((i:Int)+1)=(i:Int)+1:=by rw[IntKind.wrap_i64];unfold maxLen at hm;omega
 have j8:(i:Int)+1<=(rs.length:Int)+1:=by omega
 have j9:¬cap=i+1:=by omega
 have j10:¬cap=i:=by omega
 have j11:(rs.length:Int)+1<=(cap:Int):=by omega
 have j12:(0:Int)<=(rs.length:Int)+1:=by omega
 have j13:(i:Int)<=(rs.length:Int)+1:=by omega
 clear Xc iH vI jl Vz hc jE hg h kJ Uv hv1 hv;go_enter Tryz.func213,Tryz.ntmps213
 go_wp2_with (simp only[hov])
 go_region_law (refine step_copy_runI rfl _ _ 135 135 rfl _ _ (by simp[Act.eval,Act.put];done) (by simp[Act.eval,Act.put];done) (hcp1 _ _ _) ?_)
 go_wp2_with (at_builtin;refine wpList_copy_runI _ rfl _ _ 135 135 rfl _ _ rfl rfl (hcp2 _ _) ?_)
 go_ret;exact⟨_,rfl,HOWN.out⟩
theorem EX {cap:Nat}(h:iJ w (Z (M ⟨g,0,O⟩) rs.length cap) rs)(hi:i<rs.length)(sF:cap<rs.length+1)(hv:w.heap[vb]?=M (C #[r.p] 155 (0,0)))(hl:rs.length<=1000000):
 H K 213 #[Z (M ⟨g,0,O⟩) rs.length cap,I V (i:Int),Z (M ⟨vb,0,O⟩) 1 1] w fun e w'=> ∃v',e=G v'/\lN w w' (Z (M ⟨g,0,O⟩) rs.length cap) v' rs i r:=by
 obtain⟨ao,mW,e,iL,hm,-,jE⟩:=iJ.form h;cases e
 obtain⟨g',aS,e,hg,hcs,Vz,hc⟩:=jE _ rfl;cases e
 obtain⟨i0,hi0,nN,nO,oM⟩:=info_parts Tryz.infoPtr;have jT:(Tryz.prog.info? 155).map (·.size)=M 1:=by rw[hi0];simp[nO]
 have bT:=aM hg;have hvl:=aM hv;obtain⟨ps,jl⟩:∃ps,ps=(rs.drop i).map FR.p:=⟨_,rfl⟩;have Bq:ps.length=rs.length-i:=by rw[jl];simp
 obtain⟨hd,F_⟩:∃hd,hd=(rs.take i).map FR.p:=⟨_,rfl⟩;have hhl:hd.length=i:=by rw[F_];simp;omega
 have h1c:∀u∈ps,u.oneCell'=true:=by
  intro u hu;rw[jl]at hu;obtain⟨x,_,rfl⟩:=List.mem_map.1 hu;rfl
 have hold:(Builtin.firstCells i0.size i (Z (M ⟨g,0,O⟩) i cap)).run K w.drew= .ok hd.toArray w.drew:=by
  rw[nO]
  exact run_firstCells_some w.drew 1 i ⟨g,0,O⟩ i cap hd (by rw[hhl];omega) (fun j v hj=>by
   rw[Addr.add_lit,Nat.zero_add];rw[F_,List.getElem?_map,List.getElem?_take]at hj;split at hj
   ·cases hr:rs[j]? with
    |none=>rw[hr]at hj;simp at hj
    |some q=>rw[hr]at hj;simp at hj;subst hj;exact hc _ _ hr
   ·simp at hj)
 have Uz:i+(rs.length+1-i)=rs.length+1:=by omega
 have z_:(rs.length:Int)+1-(i:Int)=((rs.length+1-i:Nat):Int):=by omega
 obtain⟨aD,hG⟩:∃aD,aD=grownCap w (rs.length+1) cap 155:=⟨_,rfl⟩;obtain⟨ROW,hROW⟩:∃ROW:Array Y,ROW=hd.toArray++Builtin.zeroCells (Value.pointer O).cells (rs.length+1-i)++Builtin.zeroCells (Value.pointer O).cells (aD-(rs.length+1)):=⟨_,rfl⟩;obtain⟨W1,Xc⟩:∃W1,W1=w.drew.alloc (C ROW 155):=⟨_,rfl⟩
 have hrz:∀ty,(Builtin.append_ #[135,3] ty #[Z (M ⟨g,0,O⟩) i cap,I V ((rs.length:Int)+1-(i:Int))]).run K w= .ok (Z (M ⟨w.heap.size,0,O⟩) (rs.length+1) aD) W1:=fun ty=>by
  have hq:=Lib.run_append_grow_zeros w 135 3 ty 155 i0 _ V V Tryz.underlying135 Tryz.underlying3 hi0 nN (M ⟨g,0,O⟩) i cap hd hold (rs.length+1-i) (by omega) (by omega) (by omega) (by omega) (by rw[oM];omega) (by rw[oM,Uz];exact growslice_fits sF (by omega));rw[Uz]at hq;rw[z_,hq,Xc,hROW,hG]
 have hGn:rs.length+1<=aD:=by rw[hG];exact grownCap_ge w _ _ _
 have hGm:aD<=maxLen:=by rw[hG];exact grownCap_le_maxLen w (rs.length+1) cap 155 (by unfold maxLen;omega)
 have hRl:ROW.size=aD:=by
  rw[hROW];simp[Builtin.zeroCells,Value.cells];omega
 have hRt:ROW.toList.take i=hd:=by
  rw[hROW];simp only[Array.toList_append,List.append_assoc];rw[List.take_left' hhl]
 have iH:W1.heap[w.heap.size]?=M (C ROW 155 (0,0)):=by rw[Xc];exact heap_alloc_new w.drew _
 have CP:Below w.heap.size w W1:=by rw[Xc];exact aQ (aZ (aL.refl w) 1) (aO _ _)
 have hv1:W1.cell? ⟨vb,0,O⟩=M r.p:=cell_later CP (by simp[World.cell?,hv]);obtain⟨W2,QU⟩:∃W2,W2=W1.setCells w.heap.size i [r.p]:=⟨_,rfl⟩
 have hcp1:∀ty dc,(Builtin.copy_ #[135,135] ty #[Z (M ⟨w.heap.size,i,O⟩) (rs.length+1-i) dc,Z (M ⟨vb,0,O⟩) 1 1]).run K W1= .ok (goInt 1) W2:=fun ty dc=>by
  rw[QU]
  exact run_copy_cells W1 _ _ ty 155 w.heap.size i (rs.length+1-i) dc ⟨vb,0,O⟩ 1 1 [r.p] Tryz.underlying135 jT (by simp only[Nat.min_def,List.length_singleton];split<;>omega)
   (fun j v hj=>by
    cases j with
    |zero=>simp at hj;subst hj;simpa[Addr.add]using hv1
    |succ j=>simp at hj)
   (fun j hj=>by rw[(iN iH _).1];simp at hj ⊢;rw[hRl];omega) (fun j hj=>(iN iH _).2) (fun u hu=>by simp at hu;subst hu;rfl)
 obtain⟨Lm,kJ,Uv⟩:=jQ w.heap.size 155 [r.p] i W1 ROW iH (by simp;omega);rw[<-QU]at kJ
 have hcs2:Lm.size=aD:=by
  have:Lm.toList.length=aD:=by rw[Uv];simp;omega
  simpa using this
 have hF2:Fr w W2 (fun b=>b=w.heap.size):=by
  rw[QU];exact(Fr.cZ CP _).trans (Og.cells w.heap.size [r.p] i (Og.refl W1 w.heap.size)).1
 have hold2:∀j q,rs[j]?=M q->W2.cell? ⟨g,j,O⟩=M q.p:=fun j q hq=>by
  rw[QU,World.cell?_setCells_out _ _ _ _ _ (fun h _=>by simp only at h;omega)];exact cell_later CP (hc _ _ hq)
 obtain⟨W3,UM⟩:∃W3,W3=W2.drew.setCells w.heap.size (i+1) ps:=⟨_,rfl⟩
 have hcp2:∀ty dc sc,(Builtin.copy_ #[135,135] ty #[Z (M ⟨w.heap.size,i+1,O⟩) (rs.length-i) dc,Z (M ⟨g,i,O⟩) (rs.length-i) sc]).run K W2.drew= .ok (goInt ps.length) W3:=fun ty dc sc=>by
  rw[UM]
  exact run_copy_cells W2.drew _ _ ty 155 w.heap.size (i+1) (rs.length-i) dc ⟨g,i,O⟩ (rs.length-i) sc ps Tryz.underlying135 jT (by rw[Bq];simp only[Nat.min_def];split<;>omega)
   (fun j v hj=>by
    rw[Addr.add_lit];rw[jl,List.getElem?_map,List.getElem?_drop]at hj;cases hr:rs[i+j]? with
    |none=>rw[hr]at hj;simp at hj
    |some q=>rw[hr]at hj;simp at hj;subst hj;exact hold2 _ _ hr)
   (fun j hj=>by show(W2.cell? _).isSome=true;rw[(iN kJ _).1];simp;rw[hcs2];omega) (fun j hj=>(iN kJ _).2) h1c
 obtain⟨cur3,yE,hc3⟩:=jQ w.heap.size 155 ps (i+1) W2.drew Lm kJ (by rw[Bq,hcs2];omega);rw[<-UM]at yE
 have HOWN:Hid (lN w W3 (Z (M ⟨g,0,O⟩) rs.length cap) (Z (M ⟨w.heap.size,0,O⟩) (rs.length+1) aD) rs i r):=by
  have nW:Og w W3 w.heap.size:=by
   rw[UM,QU];exact Og.cells _ _ _ ((Og.cells w.heap.size [r.p] i ((Og.refl w w.heap.size).aN CP)).aN (aZ (aL.refl _) 1))
  have e0:(rs.take i++r::rs.drop i).length=rs.length+1:=by simp;omega
  refine⟨⟨by simp,Or.inr ⟨w.heap.size,aD,cur3,by rw[e0],Nat.zero_le _,yE,by rw[e0];exact hGn,hGm,?_,?_⟩⟩,⟨nW.2.1,nW.2.2.1,nW.2.2.2,nW.1.1,fun k hk _=>nW.1.2 k hk (fun e=>by omega)⟩,Or.inr fun k hk=>by simp[Value.ownBlock]at hk;omega⟩
  ·have:cur3.toList.length=aD:=by rw[hc3];simp;omega
   simpa using this
  ·have e1:(Lm.toList.take (i+1))=hd++ [r.p]:=by
    rw[Uv,List.append_assoc,<-List.append_assoc,hRt,List.take_left' (by simp;omega)]
   rw[e0,Nat.mul_one,hc3,e1,List.append_assoc,EW _ _ _ _ i rs.length hhl Bq (by omega),List.map_append,List.map_cons,F_,jl]
 have j1:(0:Int)<=(i:Int):=by omega
 have j2:(i:Int)<=(rs.length:Int):=by omega
 have j3:¬((i:Int)=(rs.length:Int)):=by omega
 have j4:(cap:Int)<(rs.length:Int)+1:=by omega
 have j5:((i:Int)+1).toNat=i+1:=by omega
 have j7:(0:Int)<=(i:Int)+1:=by omega
 have jJ:IntKind.i64.wrap ((i:Int)+1)=(i:Int)+1:=by rw[IntKind.wrap_i64];omega
 have j8:(i:Int)+1<=(rs.length:Int)+1:=by omega
 have j9:¬aD=i+1:=by omega
 have j10:¬cap=i:=by omega
 have j11:¬aD=i:=by omega
 have j13:(i:Int)<=(rs.length:Int)+1:=by omega
 have j14:i<=cap:=by omega
 clear Xc QU UM iH kJ yE Uv hc3 jl F_ Vz hc jE hg h hv1 hv hROW hRt hold hold2 hF2 CP z_ hG;go_enter Tryz.func213,Tryz.ntmps213
 go_wp2_with (first
  |(at_builtin;refine Lib.wpList_append_run _ rfl _ _ _ _ rfl _ _ rfl rfl _ _ (hrz _) ?_)
  |(at_builtin;refine wpList_copy_runI _ rfl _ _ 135 135 rfl _ _ rfl rfl (hcp1 _ _) ?_))
 go_region_law (refine step_copy_runI rfl _ _ 135 135 rfl _ _ (by simp[Act.eval,Act.put];done) (by simp[Act.eval,Act.put];done) (hcp2 _ _ _) ?_)
 go_wp2_with fail
 go_ret;exact⟨_,rfl,HOWN.out⟩
theorem UN {v:Y}(h:iJ w v rs)(hi:i<=rs.length)(hv:w.heap[vb]?=M (C #[r.p] 155 (0,0)))(hne:v.ownBlock≠M vb)(hl:rs.length<=1000000):
 H K 213 #[v,I V (i:Int),Z (M ⟨vb,0,O⟩) 1 1] w fun e w'=> ∃v',e=G v'/\lN w w' v v' rs i r:=by
 by_cases he:i=rs.length
 ·subst he;exact MN h hv hl
 ·obtain⟨ao,cap,rfl,iL,hm,gP,jE⟩:=iJ.form h;cases ao with
  |none=>obtain⟨rfl,-⟩:=gP rfl;simp at hi he;omega
  |some a=>
   obtain⟨g,aS,rfl,hg,-⟩:=jE a rfl;by_cases sF:rs.length+1<=cap
   ·exact Zg h (by omega) sF hv (fun e=>hne (by rw[e];rfl)) hl
   ·exact EX h (by omega) (by omega) hv hl
theorem xY.symm {s:FR}(h:xY r s):xY s r:=⟨fun e=>h.1 e.symm,fun g hs hr=>h.2 g hr hs⟩
theorem EY (h:rs.Pairwise xY){j:Nat}{s:FR}(hi:rs[i]?=M r)(hj:rs[j]?=M s)(hne:i≠j):xY r s:=by
 obtain⟨li,rfl⟩:=List.getElem?_eq_some_iff.1 hi;obtain⟨lj,rfl⟩:=List.getElem?_eq_some_iff.1 hj;rcases Nat.lt_or_gt_of_ne hne with bT|hgt
 ·exact List.pairwise_iff_getElem.1 h i j li lj bT
 ·exact(List.pairwise_iff_getElem.1 h j i lj li hgt).symm
theorem own_lt (h:iQ w r)(hg:r.v.ownBlock=M g):g<w.heap.size:=(dI.lt h.2 g hg).2
theorem Lp (rs:List FR)(k:Nat)(r:FR):plain (rs.set k r)=(plain rs).set k r.f:=by simp[plain,List.map_set]
theorem aW.Jb {k:Nat}{r':FR}(h:aW w db s fv rs)(hk:rs[k]?=M r)(hb:r'.b=r.b)(hF:Fr w w' (fun b=>b=r.b\/r.v.ownBlock=M b))(ho:w'.os=w.os/\w'.tape=w.tape/\w'.output=w.output)
 (tO:iQ w' r')(hn:r'.v.ownBlock=r.v.ownBlock\/∀g,r'.v.ownBlock=M g->w.heap.size<=g):aW w' db s fv (rs.set k r')/\Dk w w' (DX db fv rs) (DX db fv (rs.set k r')):=by
 obtain⟨h1,h2,h3,h4⟩:=h;have zS:=List.mem_of_getElem? hk;have hf:=h3 r zS;obtain⟨Wi,hke⟩:=List.getElem?_eq_some_iff.1 hk
 have hX:∀(b:Nat) (aS:Array Y) (t:TypeId) (f:Nat×Nat),t≠157->t≠5->w.heap[b]?=M (C aS t f)->¬(b=r.b\/r.v.ownBlock=M b):=by
  intro b aS t f e1 e2 hb hx;rcases hx with rfl|hx
  ·exact bB hb hf.1 e1 rfl
  ·obtain⟨c,KO,hc⟩:=dI.ty hf.2 hx;exact bB hb hc e2 rfl
 have hmap:(rs.set k r').map FR.p=rs.map FR.p:=by
  rw[List.map_set];apply List.ext_getElem?;intro i;rw[List.getElem?_set];by_cases hi:k=i
  ·subst hi;simp[Wi,FR.p,hb,hke]
  ·simp[hi]
 refine⟨⟨hF.at h1 (hX _ _ _ _ (by decide) (by decide) h1),?_,?_,?_⟩,?_⟩
 ·unfold iJ;rw[hmap,List.length_set];exact bI h2 hF (fun g aS _ hc=>hX _ _ _ _ (by decide) (by decide) hc)
 ·intro q hq;obtain⟨i,hi,rfl⟩:=List.getElem_of_mem hq;rw[List.getElem_set];by_cases Uz:k=i
  ·rw[if_pos Uz];exact tO
  ·rw[if_neg Uz];have Va:i<rs.length:=by simpa using hi
   have Eg:=EY h4 (List.getElem?_eq_getElem Va) hk (fun e=>Uz e.symm);have hq:=h3 rs[i] (List.getElem_mem Va);refine hq.fr hF (fun hx=>?_) (fun g hg hx=>?_)
   ·rcases hx with hx|hx
    ·exact Eg.1 hx
    ·obtain⟨c,KO,hc⟩:=dI.ty hf.2 hx;exact bB hq.1 hc (by decide) rfl
   ·rcases hx with hx|hx
    ·obtain⟨c,KO,hc⟩:=dI.ty hq.2 hg;exact bB hc hf.1 (by decide) hx
    ·exact Eg.2 g hg hx
 ·rw[List.pairwise_iff_getElem]
  have QV:∀i (hi:i<rs.length),i≠k->xY rs[i] r':=by
   intro i hi Uz;have Eg:=EY h4 (List.getElem?_eq_getElem hi) hk Uz;refine⟨by rw[hb];exact Eg.1,fun g hg wU=>?_⟩;rcases hn with hn|hn
   ·exact Eg.2 g hg (hn ▸ wU)
   ·have:=own_lt (h3 rs[i] (List.getElem_mem hi)) hg;have:=hn g wU;omega
  intro i j hi hj hij;have Va:i<rs.length:=by simpa using hi
  have ZM:j<rs.length:=by simpa using hj
  rw[List.getElem_set,List.getElem_set];by_cases Uz:k=i
  ·rw[if_pos Uz,if_neg (by omega)];exact(QV j ZM (by omega)).symm
  ·rw[if_neg Uz];by_cases hjk:k=j
   ·rw[if_pos hjk];exact QV i Va (by omega)
   ·rw[if_neg hjk];exact List.pairwise_iff_getElem.1 h4 i j Va ZM hij
 ·refine⟨hF.mono fun b hx=>Or.inr (Or.inr ⟨r,zS,hx⟩),ho,fun b hx=>?_⟩;rcases hx with hx|hx|⟨q,hq,hx⟩
  ·exact Or.inl (Or.inl hx)
  ·exact Or.inl (Or.inr (Or.inl hx))
  ·rcases List.mem_or_eq_of_mem_set hq with hq|rfl
   ·exact Or.inl (Or.inr (Or.inr ⟨q,hq,hx⟩))
   ·rcases hx with hx|hx
    ·exact Or.inl (Or.inr (Or.inr ⟨r,zS,Or.inl (by rw[hx,hb])⟩))
    ·rcases hn with hn|hn
     ·exact Or.inl (Or.inr (Or.inr ⟨r,zS,Or.inr (hn ▸ hx)⟩))
     ·exact Or.inr (hn b hx)
theorem aW.setRow {w1:F}{fO:Y}{eZ:List FR}(h:aW w db s fv rs)(hF1:Fr w w1 (fun b=>fv.ownBlock=M b))(Fe:w1.os=w.os/\w1.tape=w.tape/\w1.output=w.output)(jE:iJ w1 fO eZ)(wU:fO.ownBlock=fv.ownBlock)(hsub:eZ.Sublist rs)(hw':w'=w1.setCell ⟨db,1,O⟩ fO):
 aW w' db s fO eZ/\Dk w w' (DX db fv rs) (DX db fO eZ):=by
 obtain⟨h1,h2,h3,h4⟩:=h
 have Qz:∀b aS t f,t≠155->w.heap[b]?=M (C aS t f)->¬fv.ownBlock=M b:=fun b aS t f ht hb e=>by
  obtain⟨c,hc⟩:=mF h2 e;exact bB hb hc ht rfl
 have Kt:w1.heap[db]?=M (jI s fv):=hF1.at h1 (Qz _ _ _ _ (by decide) h1);have CO:w'.heap[db]?=M (jI s fO):=by rw[hw',heap_setCell_same w1 db 1 _ _ _ Kt];rfl
 have hF:Fr w w' (fun b=>b=db\/fv.ownBlock=M b):=by
  rw[hw'];exact(hF1.mono fun b e=>Or.inr e).trans ((Fr.set w1 ⟨db,1,O⟩ fO).mono fun b e=>Or.inl e)
 refine⟨⟨CO,?_,fun r hr=>?_,h4.sublist hsub⟩,?_⟩
 ·rw[hw'];exact bI jE (Fr.set w1 ⟨db,1,O⟩ fO) (fun k aS e hc hx=>bB hc Kt (by decide) hx)
 ·have hf:=h3 r (hsub.subset hr);refine hf.fr hF (fun hx=>?_) (fun k hk hx=>?_)
  ·rcases hx with hx|hx
   ·exact bB hf.1 h1 (by decide) hx
   ·exact Qz _ _ _ _ (by decide) hf.1 hx
  ·obtain⟨c,KO,hc⟩:=dI.ty hf.2 hk;rcases hx with hx|hx
   ·exact bB hc h1 (by decide) hx
   ·exact Qz _ _ _ _ (by decide) hc hx
 ·refine⟨hF.mono fun b hx=>?_,?_,fun b hx=>?_⟩
  ·rcases hx with rfl|hx
   ·exact Or.inl rfl
   ·exact Or.inr (Or.inl hx)
  ·rw[hw'];exact Fe
  ·rcases hx with hx|hx|⟨q,hq,hx⟩
   ·exact Or.inl (Or.inl hx)
   ·exact Or.inl (Or.inr (Or.inl (by rw[<-wU];exact hx)))
   ·exact Or.inl (Or.inr (Or.inr ⟨q,hsub.subset hq,hx⟩))
theorem aW.insFile {w1:F}{fO:Y}(h:aW w db s fv rs)(Nc:lN w w1 fv fO rs i r)(hr:iQ w r)(Eg:∀q∈rs,xY q r)(hw':w'=w1.setCell ⟨db,1,O⟩ fO):
 aW w' db s fO (rs.take i++r::rs.drop i)/\Dk w w' (fun b=>DX db fv rs b\/b=r.b\/r.v.ownBlock=M b) (DX db fO (rs.take i++r::rs.drop i)):=by
 obtain⟨h1,h2,h3,h4⟩:=h;obtain⟨i1,i2,i3⟩:=Nc
 have Qz:∀b aS t f,t≠155->w.heap[b]?=M (C aS t f)->¬fv.ownBlock=M b:=fun b aS t f ht hb e=>by
  obtain⟨c,hc⟩:=mF h2 e;exact bB hb hc ht rfl
 have Kt:w1.heap[db]?=M (jI s fv):=mY i2 h1 (Qz _ _ _ _ (by decide) h1);have CO:w'.heap[db]?=M (jI s fO):=by rw[hw',heap_setCell_same w1 db 1 _ _ _ Kt];rfl
 have hF:Fr w w' (fun b=>b=db\/fv.ownBlock=M b):=by
  rw[hw'];exact((Fr.kK i2).mono fun b e=>Or.inr e).trans ((Fr.set w1 ⟨db,1,O⟩ fO).mono fun b e=>Or.inl e)
 have Rw:∀q,iQ w q->iQ w' q:=fun q hf=>by
  refine hf.fr hF (fun hx=>?_) (fun k hk hx=>?_)
  ·rcases hx with hx|hx
   ·exact bB hf.1 h1 (by decide) hx
   ·exact Qz _ _ _ _ (by decide) hf.1 hx
  ·obtain⟨c,KO,hc⟩:=dI.ty hf.2 hk;rcases hx with hx|hx
   ·exact bB hc h1 (by decide) hx
   ·exact Qz _ _ _ _ (by decide) hc hx
 refine⟨⟨CO,?_,fun q hq=>?_,?_⟩,?_⟩
 ·rw[hw'];exact bI i1 (Fr.set w1 ⟨db,1,O⟩ fO) (fun k aS e hc hx=>bB hc Kt (by decide) hx)
 ·rcases List.mem_append.1 hq with hq|hq
  ·exact Rw q (h3 q (List.mem_of_mem_take hq))
  ·rcases List.mem_cons.1 hq with rfl|hq
   ·exact Rw q hr
   ·exact Rw q (h3 q (List.mem_of_mem_drop hq))
 ·have h5:(rs.take i++rs.drop i).Pairwise xY:=by rw[List.take_append_drop];exact h4
  rw[List.pairwise_append]at h5;rw[List.pairwise_append,List.pairwise_cons];refine⟨h5.1,⟨fun q hq=>(Eg q (List.mem_of_mem_drop hq)).symm,h5.2.1⟩,fun a ha b hb=>?_⟩;rcases List.mem_cons.1 hb with rfl|hb
  ·exact Eg a (List.mem_of_mem_take ha)
  ·exact h5.2.2 a ha b hb
 ·refine⟨hF.mono fun b hx=>?_,?_,fun b hx=>?_⟩
  ·rcases hx with rfl|hx
   ·exact Or.inl (Or.inl rfl)
   ·exact Or.inl (Or.inr (Or.inl hx))
  ·rw[hw'];exact⟨i2.os,i2.tape,i2.output⟩
  ·rcases hx with hx|hx|⟨q,hq,hx⟩
   ·exact Or.inl (Or.inl (Or.inl hx))
   ·rcases i3 with e|e
    ·exact Or.inl (Or.inl (Or.inr (Or.inl (e ▸ hx))))
    ·exact Or.inr (e b hx)
   ·rcases List.mem_append.1 hq with hq|hq
    ·exact Or.inl (Or.inl (Or.inr (Or.inr ⟨q,List.mem_of_mem_take hq,hx⟩)))
    ·rcases List.mem_cons.1 hq with rfl|hq
     ·exact Or.inl (Or.inr hx)
     ·exact Or.inl (Or.inl (Or.inr (Or.inr ⟨q,List.mem_of_mem_drop hq,hx⟩)))
end Go.Proofs.YtfplgfodoiiobaaGreatDoor
