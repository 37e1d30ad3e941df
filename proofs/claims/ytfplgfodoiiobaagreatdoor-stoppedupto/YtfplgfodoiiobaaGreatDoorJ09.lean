/- PgI, PgJ (joined). -/
import Derived.Lib.AppendZerosOnto
import Derived.Shelf.Spec.SlicesInsert
import Derived.Test.YtfplgfodoiiobaaGreatDoorJ08
open Option renaming none→O,some→M
open Go.Value renaming int→I,slice→Z,pointer→U
open Go.IntKind renaming i64→V
open Go.Obj renaming cells→C
open Go.Ending renaming returned→G
open Go renaming World→F,Value→Y,Calls→H
open Go.Proofs.Tryz renaming prog→K
namespace Go.Proofs.YtfplgfodoiiobaaGreatDoor
set_option maxHeartbeats 4000000
set_option maxRecDepth 100000
open Go.RowKit
variable {w w':F}{r:FR}{rs:List FR}{i vb g db:Nat}{s:Sc}{fv:Y}
theorem Cc {ops:Array Oper}{rest:List Oper}{o:Oper}{a:Act}{Q:Exit->Act->F->Prop}(Bq:o.guard=O)(s x:Operand)
 (ho:o.op= .call { callee:= .builtin .append,args:=#[s,x],argTypes:=#[135,135] })
 (v:Y)(rs:List FR)(r:FR)(hs:a.eval s=v)(cZ:fM w v rs)(vb:Nat)(hx:a.eval x=Z (M ⟨vb,0,O⟩) 1 1)(hr:w.cell? ⟨vb,0,O⟩=M r.p)
 (hlen:rs.length<=1000000)
 (h:∀v' w',fM w' v' (rs++ [r])->w.grownBy w' v.ownBlock->fI w v v'->wpList K ops Q rest (a.put o.dst v') w'):wpList K ops Q (o::rest) a w:=by
 obtain⟨i0,hi,tO,tQ,uW⟩:=info_parts Tryz.infoPtr
 obtain⟨v',w',Fh,CV,Cv,CW⟩:=tY (P:=K) w 0 135 o.type 155 i0 (U O) 1 8 Tryz.underlying135 hi tO tQ uW rfl (by decide) v rs.length (rs.map FR.p) cZ ⟨vb,0,O⟩ 1 1 [r.p] rfl (by
  intro j u hj;cases j with
  |zero=>simp at hj;subst hj;simpa[Addr.add]using hr
  |succ j=>simp at hj) (by
  intro u hu;simp at hu;subst hu;rfl) (by unfold maxLen;omega) (by omega) (Nat.zero_le _)
 refine wpList_plain Bq fun _ hK=>?_
 unfold Oper.wp execOp;simp only[ho,resolve,invoke,builtin,Sem.run_bind,Sem.run_pure,Result.andThen_ok,List.map_toArray,List.map_cons,List.map_nil,hs,hx,Fh];refine hK _ _ (h v' w' ?_ Cv CW);unfold fM;rw[List.map_append,List.length_append];exact CV
def jJ (w w':F)(v v':Y)(rs:List FR)(i:Nat)(r:FR):Prop:=fM w' v' (rs.take i++r::rs.drop i)/\w.grownBy w' v.ownBlock/\fI w v v'
theorem OI {v:Y}(h:fM w v rs)(hv:w.heap[vb]?=M (C #[r.p] 155 (0,0)))(hl:rs.length<=1000000):
 H K 213 #[v,I V (rs.length:Int),Z (M ⟨vb,0,O⟩) 1 1] w fun e w'=> ∃v',e=G v'/\jJ w w' v v' rs rs.length r:=by
 obtain⟨ao,cap,rfl,gX,hm,-,-⟩:=fM.form h;have hr:w.cell? ⟨vb,0,O⟩=M r.p:=by simp[World.cell?,hv]
 have j1:(0:Int)<=(rs.length:Int):=by omega
 clear hv;by_cases hq:cap=rs.length
 ·subst hq;go_enter Tryz.func213,Tryz.ntmps213
  go_wp2_with (at_builtin;go_must (refine Cc (by rfl) (.tmp 23) (.tmp 24) (by rfl) _ rs r (by rfl) (by exact h) vb (by rfl) (by exact hr) (by exact hl) ?_);intro v5 w5 jU dK xE)
  go_ret;exact⟨_,rfl,by unfold jJ;rw[List.take_length,List.drop_length];exact⟨jU,dK,xE⟩⟩
 ·go_enter Tryz.func213,Tryz.ntmps213
  go_wp2_with (at_builtin;go_must (refine Cc (by rfl) (.tmp 23) (.tmp 24) (by rfl) _ rs r (by rfl) (by exact h) vb (by rfl) (by exact hr) (by exact hl) ?_);intro v5 w5 jU dK xE)
  go_ret;exact⟨_,rfl,by unfold jJ;rw[List.take_length,List.drop_length];exact⟨jU,dK,xE⟩⟩
theorem FD {α:Type}(A:List α)(p:α)(B R:List α)(i n:Nat)(hA:A.length=i)(hB:B.length=n-i)(hi:i<=n):(A++ [p]++(B++R)).take (n+1)=A++p::B:=by
 have:(A++ [p]++B).length=n+1:=by simp;omega
 rw[<-List.append_assoc,List.take_left' this];simp
theorem Ze {cap:Nat}(h:fM w (Z (M ⟨g,0,O⟩) rs.length cap) rs)(hi:i<rs.length)(nZ:rs.length+1<=cap)(hv:w.heap[vb]?=M (C #[r.p] 155 (0,0)))(hne:vb≠g)(hl:rs.length<=1000000):
 H K 213 #[Z (M ⟨g,0,O⟩) rs.length cap,I V (i:Int),Z (M ⟨vb,0,O⟩) 1 1] w fun e w'=> ∃v',e=G v'/\jJ w w' (Z (M ⟨g,0,O⟩) rs.length cap) v' rs i r:=by
 obtain⟨ao,yZ,e,gX,hm,-,gL⟩:=fM.form h;cases e
 obtain⟨g',aT,e,hg,hcs,Yr,hc⟩:=gL _ rfl;cases e
 obtain⟨i0,hi0,tO,tQ,uW⟩:=info_parts Tryz.infoPtr;have gQ:(Tryz.prog.info? 155).map (·.size)=M 1:=by rw[hi0];simp[tQ]
 have SS:aT.toList.length=cap:=by simpa using hcs
 have hov:∀lb cb,(callFunc 251 #[Z (M ⟨vb,0,O⟩) 1 1,Z (M ⟨g,i+1,O⟩) lb cb]).run K w= .ok (.value (.bool false)) w:=fun lb cb=>by
  rw[run_callFunc_extern Tryz.func251 (by kernel_rfl) (by kernel_rfl) (by kernel_rfl) (e:=Extern.SlicesOverlaps.overlaps #[135,135] #[4]) (by kernel_rfl),
   Lib.run_overlaps_apart w 135 4 155 Tryz.underlying135 1 (fun w=>by simp[sizeOf,typeInfo,hi0,tQ]) ⟨vb,0,O⟩ ⟨g,i+1,O⟩ 1 1 lb cb hne 155 155 1 cap (by simp[World.shape?,hv]) (by simp[World.shape?,hg,hcs]) (by omega) (by simp[World.frozen?,hv]) (by simp[World.frozen?,hv])]
  rfl
 obtain⟨ps,WQ⟩:∃ps,ps=(rs.drop i).map FR.p:=⟨_,rfl⟩;have Ce:ps.length=rs.length-i:=by rw[WQ];simp
 have h1c:∀u∈ps,u.oneCell'=true:=by
  intro u hu;rw[WQ]at hu;obtain⟨x,_,rfl⟩:=List.mem_map.1 hu;rfl
 have hcp1:∀ty dc sc,(Builtin.copy_ #[135,135] ty #[Z (M ⟨g,i+1,O⟩) (rs.length-i) dc,Z (M ⟨g,i,O⟩) (rs.length+1-i) sc]).run K w.drew= .ok (goInt ps.length) (w.drew.setCells g (i+1) ps):=fun ty dc sc=>
  run_copy_cells w.drew _ _ ty 155 g (i+1) (rs.length-i) dc ⟨g,i,O⟩ (rs.length+1-i) sc ps Tryz.underlying135 gQ (by rw[Ce];simp only[Nat.min_def];split<;>omega)
   (fun j v hj=>by
    rw[Addr.add_lit];rw[WQ,List.getElem?_map,List.getElem?_drop]at hj;cases hr:rs[i+j]? with
    |none=>rw[hr]at hj;simp at hj
    |some q=>rw[hr]at hj;simp at hj;subst hj;exact hc _ _ hr)
   (fun j hj=>by show(w.cell? _).isSome=true;rw[(fV hg _).1];simp;rw[hcs];omega) (fun j hj=>(fV hg _).2) h1c
 obtain⟨W1,CY⟩:∃W1,W1=w.drew.setCells g (i+1) ps:=⟨_,rfl⟩;obtain⟨pX,kL,Ig⟩:=iH g 155 ps (i+1) w.drew aT hg (by rw[Ce,hcs];omega);rw[<-CY]at kL;have OH:pX.toList.length=cap:=by rw[Ig];simp;omega
 have mg:pX.size=cap:=by simpa using OH
 have hv1:W1.cell? ⟨vb,0,O⟩=M r.p:=by
  rw[CY,World.cell?_setCells_out _ _ _ _ _ (fun h _=>absurd h hne)];have:w.cell? ⟨vb,0,O⟩=M r.p:=by simp[World.cell?,hv]
  exact this
 have hcp2:∀ty dc,(Builtin.copy_ #[135,135] ty #[Z (M ⟨g,i,O⟩) (rs.length+1-i) dc,Z (M ⟨vb,0,O⟩) 1 1]).run K W1= .ok (goInt 1) (W1.setCells g i [r.p]):=fun ty dc=>
  run_copy_cells W1 _ _ ty 155 g i (rs.length+1-i) dc ⟨vb,0,O⟩ 1 1 [r.p] Tryz.underlying135 gQ (by simp only[Nat.min_def,List.length_singleton];split<;>omega)
   (fun j v hj=>by
    cases j with
    |zero=>simp at hj;subst hj;simpa[Addr.add]using hv1
    |succ j=>simp at hj)
   (fun j hj=>by rw[(fV kL _).1];simp at hj ⊢;rw[mg];omega) (fun j hj=>(fV kL _).2) (fun u hu=>by simp at hu;subst hu;rfl)
 obtain⟨Jd,jL,Oo⟩:=iH g 155 [r.p] i W1 pX kL (by simp;omega)
 have HOWN:Hid (jJ w (W1.setCells g i [r.p]) (Z (M ⟨g,0,O⟩) rs.length cap) (Z (M ⟨g,0,O⟩) (rs.length+1) cap) rs i r):=by
  have iV:Og w (W1.setCells g i [r.p]) g:=by rw[CY];exact Og.cells g _ _ (Og.cells g _ _ ((Og.refl w g).aM (bG (aJ.refl w) 1)))
  refine⟨⟨by simp,Or.inr ⟨g,cap,Jd,?_,Nat.zero_le _,jL,?_,hm,?_,?_⟩⟩,⟨iV.2.1,iV.2.2.1,iV.2.2.2,iV.1.1,fun k hk hn=>iV.1.2 k hk (fun e=>hn (by rw[e];rfl))⟩,Or.inl rfl⟩
  ·have:(rs.take i++r::rs.drop i).length=rs.length+1:=by simp;omega
   rw[this]
  ·simp;omega
  ·have:Jd.toList.length=cap:=by rw[Oo];simp;omega
   simpa using this
  ·have e0:(rs.take i++r::rs.drop i).length=rs.length+1:=by simp;omega
   have e1:(aT.toList.take (i+1)).length=i+1:=by rw[List.length_take,SS];omega
   have e2:pX.toList.take i=aT.toList.take i:=by rw[Ig,List.append_assoc,List.take_append_of_le_length (by rw[e1];omega),List.take_take,Nat.min_eq_left (by omega)]
   have e3:pX.toList.drop (i+1)=ps++aT.toList.drop (i+1+ps.length):=by rw[Ig,List.append_assoc,List.drop_left' e1]
   have e4:(aT.toList.take i).length=i:=by rw[List.length_take,SS];omega
   rw[e0,Nat.mul_one,Oo,List.length_singleton,e2,e3,FD _ _ _ _ i rs.length e4 Ce (by omega),List.map_append,List.map_cons,WQ];congr 1;rw[List.map_take,<-Yr,List.take_take,Nat.min_eq_left (by omega)]
 rw[<-CY]at hcp1;have j1:(0:Int)<=(i:Int):=by omega
 have j2:(i:Int)<=(rs.length:Int):=by omega
 have j3:¬((i:Int)=(rs.length:Int)):=by omega
 have j4:¬(cap:Int)<(rs.length:Int)+1:=by omega
 have j5:((i:Int)+1).toNat=i+1:=by omega
 have j6:((rs.length:Int)+1).toNat=rs.length+1:=by omega
 have j7:(0:Int)<=(i:Int)+1:=by omega
 have dU:IntKind.i64.wrap ((i:Int)+1)=(i:Int)+1:=by rw[IntKind.wrap_i64];unfold maxLen at hm;omega
 have j8:(i:Int)+1<=(rs.length:Int)+1:=by omega
 have j9:¬cap=i+1:=by omega
 have j10:¬cap=i:=by omega
 have j11:(rs.length:Int)+1<=(cap:Int):=by omega
 have j12:(0:Int)<=(rs.length:Int)+1:=by omega
 have j13:(i:Int)<=(rs.length:Int)+1:=by omega
 clear CY kL Ig WQ Yr hc gL hg h jL Oo hv1 hv;go_enter Tryz.func213,Tryz.ntmps213
 go_wp2_with (simp only[hov])
 go_region_law (refine step_copy_runI rfl _ _ 135 135 rfl _ _ (by simp[Act.eval,Act.put];done) (by simp[Act.eval,Act.put];done) (hcp1 _ _ _) ?_)
 go_wp2_with (at_builtin;refine wpList_copy_runI _ rfl _ _ 135 135 rfl _ _ rfl rfl (hcp2 _ _) ?_)
 go_ret;exact⟨_,rfl,HOWN.out⟩
theorem FE {cap:Nat}(h:fM w (Z (M ⟨g,0,O⟩) rs.length cap) rs)(hi:i<rs.length)(nZ:cap<rs.length+1)(hv:w.heap[vb]?=M (C #[r.p] 155 (0,0)))(hl:rs.length<=1000000):
 H K 213 #[Z (M ⟨g,0,O⟩) rs.length cap,I V (i:Int),Z (M ⟨vb,0,O⟩) 1 1] w fun e w'=> ∃v',e=G v'/\jJ w w' (Z (M ⟨g,0,O⟩) rs.length cap) v' rs i r:=by
 obtain⟨ao,yZ,e,gX,hm,-,gL⟩:=fM.form h;cases e
 obtain⟨g',aT,e,hg,hcs,Yr,hc⟩:=gL _ rfl;cases e
 obtain⟨i0,hi0,tO,tQ,uW⟩:=info_parts Tryz.infoPtr;have gQ:(Tryz.prog.info? 155).map (·.size)=M 1:=by rw[hi0];simp[tQ]
 have bV:=aK hg;have hvl:=aK hv;obtain⟨ps,WQ⟩:∃ps,ps=(rs.drop i).map FR.p:=⟨_,rfl⟩;have Ce:ps.length=rs.length-i:=by rw[WQ];simp
 obtain⟨hd,hhd⟩:∃hd,hd=(rs.take i).map FR.p:=⟨_,rfl⟩;have hhl:hd.length=i:=by rw[hhd];simp;omega
 have h1c:∀u∈ps,u.oneCell'=true:=by
  intro u hu;rw[WQ]at hu;obtain⟨x,_,rfl⟩:=List.mem_map.1 hu;rfl
 have hold:(Builtin.firstCells i0.size i (Z (M ⟨g,0,O⟩) i cap)).run K w.drew= .ok hd.toArray w.drew:=by
  rw[tQ]
  exact run_firstCells_some w.drew 1 i ⟨g,0,O⟩ i cap hd (by rw[hhl];omega) (fun j v hj=>by
   rw[Addr.add_lit,Nat.zero_add];rw[hhd,List.getElem?_map,List.getElem?_take]at hj;split at hj
   ·cases hr:rs[j]? with
    |none=>rw[hr]at hj;simp at hj
    |some q=>rw[hr]at hj;simp at hj;subst hj;exact hc _ _ hr
   ·simp at hj)
 have WR:i+(rs.length+1-i)=rs.length+1:=by omega
 have hkk:(rs.length:Int)+1-(i:Int)=((rs.length+1-i:Nat):Int):=by omega
 obtain⟨aC,hG⟩:∃aC,aC=grownCap w (rs.length+1) cap 155:=⟨_,rfl⟩;obtain⟨ROW,hROW⟩:∃ROW:Array Y,ROW=hd.toArray++Builtin.zeroCells (Value.pointer O).cells (rs.length+1-i)++Builtin.zeroCells (Value.pointer O).cells (aC-(rs.length+1)):=⟨_,rfl⟩;obtain⟨W1,CY⟩:∃W1,W1=w.drew.alloc (C ROW 155):=⟨_,rfl⟩
 have hrz:∀ty,(Builtin.append_ #[135,3] ty #[Z (M ⟨g,0,O⟩) i cap,I V ((rs.length:Int)+1-(i:Int))]).run K w= .ok (Z (M ⟨w.heap.size,0,O⟩) (rs.length+1) aC) W1:=fun ty=>by
  have hq:=Lib.run_append_grow_zeros w 135 3 ty 155 i0 _ V V Tryz.underlying135 Tryz.underlying3 hi0 tO (M ⟨g,0,O⟩) i cap hd hold (rs.length+1-i) (by omega) (by omega) (by omega) (by omega) (by rw[uW];omega) (by rw[uW,WR];exact growslice_fits nZ (by omega));rw[WR]at hq;rw[hkk,hq,CY,hROW,hG]
 have hGn:rs.length+1<=aC:=by rw[hG];exact grownCap_ge w _ _ _
 have hGm:aC<=maxLen:=by rw[hG];exact grownCap_le_maxLen w (rs.length+1) cap 155 (by unfold maxLen;omega)
 have hRl:ROW.size=aC:=by
  rw[hROW];simp[Builtin.zeroCells,Value.cells];omega
 have hRt:ROW.toList.take i=hd:=by
  rw[hROW];simp only[Array.toList_append,List.append_assoc];rw[List.take_left' hhl]
 have kL:W1.heap[w.heap.size]?=M (C ROW 155 (0,0)):=by rw[CY];exact heap_alloc_new w.drew _
 have mh:Below w.heap.size w W1:=by rw[CY];exact bD (bG (aJ.refl w) 1) (aU _ _)
 have hv1:W1.cell? ⟨vb,0,O⟩=M r.p:=cell_later mh (by simp[World.cell?,hv]);obtain⟨W2,TH⟩:∃W2,W2=W1.setCells w.heap.size i [r.p]:=⟨_,rfl⟩
 have hcp1:∀ty dc,(Builtin.copy_ #[135,135] ty #[Z (M ⟨w.heap.size,i,O⟩) (rs.length+1-i) dc,Z (M ⟨vb,0,O⟩) 1 1]).run K W1= .ok (goInt 1) W2:=fun ty dc=>by
  rw[TH]
  exact run_copy_cells W1 _ _ ty 155 w.heap.size i (rs.length+1-i) dc ⟨vb,0,O⟩ 1 1 [r.p] Tryz.underlying135 gQ (by simp only[Nat.min_def,List.length_singleton];split<;>omega)
   (fun j v hj=>by
    cases j with
    |zero=>simp at hj;subst hj;simpa[Addr.add]using hv1
    |succ j=>simp at hj)
   (fun j hj=>by rw[(fV kL _).1];simp at hj ⊢;rw[hRl];omega) (fun j hj=>(fV kL _).2) (fun u hu=>by simp at hu;subst hu;rfl)
 obtain⟨Jd,jL,Oo⟩:=iH w.heap.size 155 [r.p] i W1 ROW kL (by simp;omega);rw[<-TH]at jL
 have hcs2:Jd.size=aC:=by
  have:Jd.toList.length=aC:=by rw[Oo];simp;omega
  simpa using this
 have hF2:Fr w W2 (fun b=>b=w.heap.size):=by
  rw[TH];exact(Fr.dO mh _).trans (Og.cells w.heap.size [r.p] i (Og.refl W1 w.heap.size)).1
 have hold2:∀j q,rs[j]?=M q->W2.cell? ⟨g,j,O⟩=M q.p:=fun j q hq=>by
  rw[TH,World.cell?_setCells_out _ _ _ _ _ (fun h _=>by simp only at h;omega)];exact cell_later mh (hc _ _ hq)
 obtain⟨W3,WS⟩:∃W3,W3=W2.drew.setCells w.heap.size (i+1) ps:=⟨_,rfl⟩
 have hcp2:∀ty dc sc,(Builtin.copy_ #[135,135] ty #[Z (M ⟨w.heap.size,i+1,O⟩) (rs.length-i) dc,Z (M ⟨g,i,O⟩) (rs.length-i) sc]).run K W2.drew= .ok (goInt ps.length) W3:=fun ty dc sc=>by
  rw[WS]
  exact run_copy_cells W2.drew _ _ ty 155 w.heap.size (i+1) (rs.length-i) dc ⟨g,i,O⟩ (rs.length-i) sc ps Tryz.underlying135 gQ (by rw[Ce];simp only[Nat.min_def];split<;>omega)
   (fun j v hj=>by
    rw[Addr.add_lit];rw[WQ,List.getElem?_map,List.getElem?_drop]at hj;cases hr:rs[i+j]? with
    |none=>rw[hr]at hj;simp at hj
    |some q=>rw[hr]at hj;simp at hj;subst hj;exact hold2 _ _ hr)
   (fun j hj=>by show(W2.cell? _).isSome=true;rw[(fV jL _).1];simp;rw[hcs2];omega) (fun j hj=>(fV jL _).2) h1c
 obtain⟨cur3,jT,mr⟩:=iH w.heap.size 155 ps (i+1) W2.drew Jd jL (by rw[Ce,hcs2];omega);rw[<-WS]at jT
 have HOWN:Hid (jJ w W3 (Z (M ⟨g,0,O⟩) rs.length cap) (Z (M ⟨w.heap.size,0,O⟩) (rs.length+1) aC) rs i r):=by
  have iV:Og w W3 w.heap.size:=by
   rw[WS,TH];exact Og.cells _ _ _ ((Og.cells w.heap.size [r.p] i ((Og.refl w w.heap.size).aM mh)).aM (bG (aJ.refl _) 1))
  have e0:(rs.take i++r::rs.drop i).length=rs.length+1:=by simp;omega
  refine⟨⟨by simp,Or.inr ⟨w.heap.size,aC,cur3,by rw[e0],Nat.zero_le _,jT,by rw[e0];exact hGn,hGm,?_,?_⟩⟩,⟨iV.2.1,iV.2.2.1,iV.2.2.2,iV.1.1,fun k hk _=>iV.1.2 k hk (fun e=>by omega)⟩,Or.inr fun k hk=>by simp[Value.ownBlock]at hk;omega⟩
  ·have:cur3.toList.length=aC:=by rw[mr];simp;omega
   simpa using this
  ·have e1:(Jd.toList.take (i+1))=hd++ [r.p]:=by
    rw[Oo,List.append_assoc,<-List.append_assoc,hRt,List.take_left' (by simp;omega)]
   rw[e0,Nat.mul_one,mr,e1,List.append_assoc,FD _ _ _ _ i rs.length hhl Ce (by omega),List.map_append,List.map_cons,hhd,WQ]
 have j1:(0:Int)<=(i:Int):=by omega
 have j2:(i:Int)<=(rs.length:Int):=by omega
 have j3:¬((i:Int)=(rs.length:Int)):=by omega
 have j4:(cap:Int)<(rs.length:Int)+1:=by omega
 have j5:((i:Int)+1).toNat=i+1:=by omega
 have j7:(0:Int)<=(i:Int)+1:=by omega
 have dU:IntKind.i64.wrap ((i:Int)+1)=(i:Int)+1:=by rw[IntKind.wrap_i64];omega
 have j8:(i:Int)+1<=(rs.length:Int)+1:=by omega
 have j9:¬aC=i+1:=by omega
 have j10:¬cap=i:=by omega
 have j11:¬aC=i:=by omega
 have j13:(i:Int)<=(rs.length:Int)+1:=by omega
 have j14:i<=cap:=by omega
 clear CY TH WS kL jL jT Oo mr WQ hhd Yr hc gL hg h hv1 hv hROW hRt hold hold2 hF2 mh hkk hG;go_enter Tryz.func213,Tryz.ntmps213
 go_wp2_with (first
  |(at_builtin;refine Lib.wpList_append_run _ rfl _ _ _ _ rfl _ _ rfl rfl _ _ (hrz _) ?_)
  |(at_builtin;refine wpList_copy_runI _ rfl _ _ 135 135 rfl _ _ rfl rfl (hcp1 _ _) ?_))
 go_region_law (refine step_copy_runI rfl _ _ 135 135 rfl _ _ (by simp[Act.eval,Act.put];done) (by simp[Act.eval,Act.put];done) (hcp2 _ _ _) ?_)
 go_wp2_with fail
 go_ret;exact⟨_,rfl,HOWN.out⟩
theorem Wh {v:Y}(h:fM w v rs)(hi:i<=rs.length)(hv:w.heap[vb]?=M (C #[r.p] 155 (0,0)))(hne:v.ownBlock≠M vb)(hl:rs.length<=1000000):
 H K 213 #[v,I V (i:Int),Z (M ⟨vb,0,O⟩) 1 1] w fun e w'=> ∃v',e=G v'/\jJ w w' v v' rs i r:=by
 by_cases he:i=rs.length
 ·subst he;exact OI h hv hl
 ·obtain⟨ao,cap,rfl,gX,hm,gJ,gL⟩:=fM.form h;cases ao with
  |none=>obtain⟨rfl,-⟩:=gJ rfl;simp at hi he;omega
  |some a=>
   obtain⟨g,aT,rfl,hg,-⟩:=gL a rfl;by_cases nZ:rs.length+1<=cap
   ·exact Ze h (by omega) nZ hv (fun e=>hne (by rw[e];rfl)) hl
   ·exact FE h (by omega) (by omega) hv hl
theorem kU.symm {s:FR}(h:kU r s):kU s r:=⟨fun e=>h.1 e.symm,fun g hs hr=>h.2 g hr hs⟩
theorem Fy (h:rs.Pairwise kU){j:Nat}{s:FR}(hi:rs[i]?=M r)(hj:rs[j]?=M s)(hne:i≠j):kU r s:=by
 obtain⟨li,rfl⟩:=List.getElem?_eq_some_iff.1 hi;obtain⟨lj,rfl⟩:=List.getElem?_eq_some_iff.1 hj;rcases Nat.lt_or_gt_of_ne hne with bV|hgt
 ·exact List.pairwise_iff_getElem.1 h i j li lj bV
 ·exact(List.pairwise_iff_getElem.1 h j i lj li hgt).symm
theorem own_lt (h:fG w r)(hg:r.v.ownBlock=M g):g<w.heap.size:=(bC.lt h.2 g hg).2
theorem Ay (rs:List FR)(k:Nat)(r:FR):plain (rs.set k r)=(plain rs).set k r.f:=by simp[plain,List.map_set]
theorem aP.Fz {k:Nat}{r':FR}(h:aP w db s fv rs)(hk:rs[k]?=M r)(hb:r'.b=r.b)(hF:Fr w w' (fun b=>b=r.b\/r.v.ownBlock=M b))(ho:w'.os=w.os/\w'.tape=w.tape/\w'.output=w.output)
 (Fh:fG w' r')(hn:r'.v.ownBlock=r.v.ownBlock\/∀g,r'.v.ownBlock=M g->w.heap.size<=g):aP w' db s fv (rs.set k r')/\Dk w w' (DX db fv rs) (DX db fv (rs.set k r')):=by
 obtain⟨h1,h2,h3,h4⟩:=h;have OJ:=List.mem_of_getElem? hk;have hf:=h3 r OJ;obtain⟨hkl,hke⟩:=List.getElem?_eq_some_iff.1 hk
 have hX:∀(b:Nat) (aT:Array Y) (t:TypeId) (f:Nat×Nat),t≠157->t≠5->w.heap[b]?=M (C aT t f)->¬(b=r.b\/r.v.ownBlock=M b):=by
  intro b aT t f e1 e2 hb hx;rcases hx with rfl|hx
  ·exact aW hb hf.1 e1 rfl
  ·obtain⟨c,Nj,hc⟩:=bC.ty hf.2 hx;exact aW hb hc e2 rfl
 have hmap:(rs.set k r').map FR.p=rs.map FR.p:=by
  rw[List.map_set];apply List.ext_getElem?;intro i;rw[List.getElem?_set];by_cases hi:k=i
  ·subst hi;simp[hkl,FR.p,hb,hke]
  ·simp[hi]
 refine⟨⟨hF.at h1 (hX _ _ _ _ (by decide) (by decide) h1),?_,?_,?_⟩,?_⟩
 ·unfold fM;rw[hmap,List.length_set];exact fK h2 hF (fun g aT _ hc=>hX _ _ _ _ (by decide) (by decide) hc)
 ·intro q hq;obtain⟨i,hi,rfl⟩:=List.getElem_of_mem hq;rw[List.getElem_set];by_cases WR:k=i
  ·rw[if_pos WR];exact Fh
  ·rw[if_neg WR];have ZW:i<rs.length:=by simpa using hi
   have Wi:=Fy h4 (List.getElem?_eq_getElem ZW) hk (fun e=>WR e.symm);have hq:=h3 rs[i] (List.getElem_mem ZW);refine hq.fr hF (fun hx=>?_) (fun g hg hx=>?_)
   ·rcases hx with hx|hx
    ·exact Wi.1 hx
    ·obtain⟨c,Nj,hc⟩:=bC.ty hf.2 hx;exact aW hq.1 hc (by decide) rfl
   ·rcases hx with hx|hx
    ·obtain⟨c,Nj,hc⟩:=bC.ty hq.2 hg;exact aW hc hf.1 (by decide) hx
    ·exact Wi.2 g hg hx
 ·rw[List.pairwise_iff_getElem]
  have Wj:∀i (hi:i<rs.length),i≠k->kU rs[i] r':=by
   intro i hi WR;have Wi:=Fy h4 (List.getElem?_eq_getElem hi) hk WR;refine⟨by rw[hb];exact Wi.1,fun g hg yT=>?_⟩;rcases hn with hn|hn
   ·exact Wi.2 g hg (hn ▸ yT)
   ·have:=own_lt (h3 rs[i] (List.getElem_mem hi)) hg;have:=hn g yT;omega
  intro i j hi hj hij;have ZW:i<rs.length:=by simpa using hi
  have hj':j<rs.length:=by simpa using hj
  rw[List.getElem_set,List.getElem_set];by_cases WR:k=i
  ·rw[if_pos WR,if_neg (by omega)];exact(Wj j hj' (by omega)).symm
  ·rw[if_neg WR];by_cases hjk:k=j
   ·rw[if_pos hjk];exact Wj i ZW (by omega)
   ·rw[if_neg hjk];exact List.pairwise_iff_getElem.1 h4 i j ZW hj' hij
 ·refine⟨hF.mono fun b hx=>Or.inr (Or.inr ⟨r,OJ,hx⟩),ho,fun b hx=>?_⟩;rcases hx with hx|hx|⟨q,hq,hx⟩
  ·exact Or.inl (Or.inl hx)
  ·exact Or.inl (Or.inr (Or.inl hx))
  ·rcases List.mem_or_eq_of_mem_set hq with hq|rfl
   ·exact Or.inl (Or.inr (Or.inr ⟨q,hq,hx⟩))
   ·rcases hx with hx|hx
    ·exact Or.inl (Or.inr (Or.inr ⟨r,OJ,Or.inl (by rw[hx,hb])⟩))
    ·rcases hn with hn|hn
     ·exact Or.inl (Or.inr (Or.inr ⟨r,OJ,Or.inr (hn ▸ hx)⟩))
     ·exact Or.inr (hn b hx)
theorem aP.setRow {w1:F}{dN:Y}{dH:List FR}(h:aP w db s fv rs)(hF1:Fr w w1 (fun b=>fv.ownBlock=M b))(Je:w1.os=w.os/\w1.tape=w.tape/\w1.output=w.output)(gL:fM w1 dN dH)(yT:dN.ownBlock=fv.ownBlock)(WT:dH.Sublist rs)(hw':w'=w1.setCell ⟨db,1,O⟩ dN):
 aP w' db s dN dH/\Dk w w' (DX db fv rs) (DX db dN dH):=by
 obtain⟨h1,h2,h3,h4⟩:=h
 have MK:∀b aT t f,t≠155->w.heap[b]?=M (C aT t f)->¬fv.ownBlock=M b:=fun b aT t f ht hb e=>by
  obtain⟨c,hc⟩:=kV h2 e;exact aW hb hc ht rfl
 have Tn:w1.heap[db]?=M (iN s fv):=hF1.at h1 (MK _ _ _ _ (by decide) h1);have Le:w'.heap[db]?=M (iN s dN):=by rw[hw',heap_setCell_same w1 db 1 _ _ _ Tn];rfl
 have hF:Fr w w' (fun b=>b=db\/fv.ownBlock=M b):=by
  rw[hw'];exact(hF1.mono fun b e=>Or.inr e).trans ((Fr.set w1 ⟨db,1,O⟩ dN).mono fun b e=>Or.inl e)
 refine⟨⟨Le,?_,fun r hr=>?_,h4.sublist WT⟩,?_⟩
 ·rw[hw'];exact fK gL (Fr.set w1 ⟨db,1,O⟩ dN) (fun k aT e hc hx=>aW hc Tn (by decide) hx)
 ·have hf:=h3 r (WT.subset hr);refine hf.fr hF (fun hx=>?_) (fun k hk hx=>?_)
  ·rcases hx with hx|hx
   ·exact aW hf.1 h1 (by decide) hx
   ·exact MK _ _ _ _ (by decide) hf.1 hx
  ·obtain⟨c,Nj,hc⟩:=bC.ty hf.2 hk;rcases hx with hx|hx
   ·exact aW hc h1 (by decide) hx
   ·exact MK _ _ _ _ (by decide) hc hx
 ·refine⟨hF.mono fun b hx=>?_,?_,fun b hx=>?_⟩
  ·rcases hx with rfl|hx
   ·exact Or.inl rfl
   ·exact Or.inr (Or.inl hx)
  ·rw[hw'];exact Je
  ·rcases hx with hx|hx|⟨q,hq,hx⟩
   ·exact Or.inl (Or.inl hx)
   ·exact Or.inl (Or.inr (Or.inl (by rw[<-yT];exact hx)))
   ·exact Or.inl (Or.inr (Or.inr ⟨q,WT.subset hq,hx⟩))
theorem aP.TI {w1:F}{dN:Y}(h:aP w db s fv rs)(Ga:jJ w w1 fv dN rs i r)(hr:fG w r)(Wi:∀q∈rs,kU q r)(hw':w'=w1.setCell ⟨db,1,O⟩ dN):
 aP w' db s dN (rs.take i++r::rs.drop i)/\Dk w w' (fun b=>DX db fv rs b\/b=r.b\/r.v.ownBlock=M b) (DX db dN (rs.take i++r::rs.drop i)):=by
 obtain⟨h1,h2,h3,h4⟩:=h;obtain⟨i1,i2,i3⟩:=Ga
 have MK:∀b aT t f,t≠155->w.heap[b]?=M (C aT t f)->¬fv.ownBlock=M b:=fun b aT t f ht hb e=>by
  obtain⟨c,hc⟩:=kV h2 e;exact aW hb hc ht rfl
 have Tn:w1.heap[db]?=M (iN s fv):=mP i2 h1 (MK _ _ _ _ (by decide) h1);have Le:w'.heap[db]?=M (iN s dN):=by rw[hw',heap_setCell_same w1 db 1 _ _ _ Tn];rfl
 have hF:Fr w w' (fun b=>b=db\/fv.ownBlock=M b):=by
  rw[hw'];exact((Fr.kG i2).mono fun b e=>Or.inr e).trans ((Fr.set w1 ⟨db,1,O⟩ dN).mono fun b e=>Or.inl e)
 have Cg:∀q,fG w q->fG w' q:=fun q hf=>by
  refine hf.fr hF (fun hx=>?_) (fun k hk hx=>?_)
  ·rcases hx with hx|hx
   ·exact aW hf.1 h1 (by decide) hx
   ·exact MK _ _ _ _ (by decide) hf.1 hx
  ·obtain⟨c,Nj,hc⟩:=bC.ty hf.2 hk;rcases hx with hx|hx
   ·exact aW hc h1 (by decide) hx
   ·exact MK _ _ _ _ (by decide) hc hx
 refine⟨⟨Le,?_,fun q hq=>?_,?_⟩,?_⟩
 ·rw[hw'];exact fK i1 (Fr.set w1 ⟨db,1,O⟩ dN) (fun k aT e hc hx=>aW hc Tn (by decide) hx)
 ·rcases List.mem_append.1 hq with hq|hq
  ·exact Cg q (h3 q (List.mem_of_mem_take hq))
  ·rcases List.mem_cons.1 hq with rfl|hq
   ·exact Cg q hr
   ·exact Cg q (h3 q (List.mem_of_mem_drop hq))
 ·have h5:(rs.take i++rs.drop i).Pairwise kU:=by rw[List.take_append_drop];exact h4
  rw[List.pairwise_append]at h5;rw[List.pairwise_append,List.pairwise_cons];refine⟨h5.1,⟨fun q hq=>(Wi q (List.mem_of_mem_drop hq)).symm,h5.2.1⟩,fun a ha b hb=>?_⟩;rcases List.mem_cons.1 hb with rfl|hb
  ·exact Wi a (List.mem_of_mem_take ha)
  ·exact h5.2.2 a ha b hb
 ·refine⟨hF.mono fun b hx=>?_,?_,fun b hx=>?_⟩
  ·rcases hx with rfl|hx
   ·exact Or.inl (Or.inl rfl)
   ·exact Or.inl (Or.inr (Or.inl hx))
  ·rw[hw'];exact⟨i2.os,i2.tape,i2.output⟩
  ·rcases hx with hx|hx|⟨q,hq,hx⟩
   ·exact Or.inl (Or.inl (Or.inl hx))
   ·rcases i3 with e|e
    ·exact Or.inl (Or.inl (Or.inr (Or.inl (e ▸ hx))))
    ·exact Or.inr (e b hx)
   ·rcases List.mem_append.1 hq with hq|hq
    ·exact Or.inl (Or.inl (Or.inr (Or.inr ⟨q,List.mem_of_mem_take hq,hx⟩)))
    ·rcases List.mem_cons.1 hq with rfl|hq
     ·exact Or.inl (Or.inr hx)
     ·exact Or.inl (Or.inl (Or.inr (Or.inr ⟨q,List.mem_of_mem_drop hq,hx⟩)))
end Go.Proofs.YtfplgfodoiiobaaGreatDoor
