/- PgH, PgI (joined). -/
import Derived.Deep.RegionLaw
import Derived.Lib.AppendZerosOnto
import Derived.Shelf.Spec.SlicesInsert
import Derived.Test.YtfplgfodoiiobaaGreatDoorJ10
open Option renaming none→O,some→M
open Go.Value renaming int→I,slice→Z,pointer→U
open Go.IntKind renaming i64→V
open Go.Obj renaming cells→C
open Go.Ending renaming returned→G
open Go renaming World→F,Value→Y,Calls→H
open Go.Proofs.Tryz renaming prog→K
namespace Go.Proofs.YtfplgfodoiiobaaGreatDoor
set_option maxHeartbeats 4000000
set_option maxRecDepth 100000
open Go.RowKit
variable {w:F}{rs:List FR}{i vb g:Nat}{r:FR}{v:Y}
theorem Sk {α:Type}(l:List α)(o:Nat)(v:α)(k:Nat)(h:o<l.length):(l.set o v).take (o+1)=l.take o++ [v]/\(l.set o v).drop (o+1+k)=l.drop (o+1+k):=by
 constructor
 ·rw[List.set_eq_take_append_cons_drop,if_pos h,List.take_append];have:(l.take o).length=o:=by rw[List.length_take];omega
  rw[this,List.take_of_length_le (by omega)];simp
 ·rw[List.drop_set_of_lt (by omega)]
theorem gZ (g:Nat)(t:TypeId):∀(vs:List Y) (o:Nat) (w:F) (aQ:Array Y),w.heap[g]?=M (C aQ t (0,0))->o+vs.length<=aQ.size->
 ∃oF,(w.setCells g o vs).heap[g]?=M (C oF t (0,0))/\oF.toList=aQ.toList.take o++vs++aQ.toList.drop (o+vs.length)
 | [],o,w,aQ,h,_=>⟨aQ,h,by simp⟩
 |v::vs,o,w,aQ,h,hl=>by
  simp only[List.length_cons]at hl;have h1:=heap_setCell_same w g o aQ t v h;have iU:(aQ.toList.set o v).length=aQ.size:=by simp
  obtain⟨oF,h2,h3⟩:=gZ g t vs (o+1) (w.setCell ⟨g,o,O⟩ v) _ h1 (by simp;omega);refine⟨oF,h2,h3.trans ?_⟩;have bS:o<aQ.toList.length:=by simp;omega
  have e:(aQ.setIfInBounds o v).toList=aQ.toList.set o v:=by simp
  obtain⟨p1,p2⟩:=Sk aQ.toList o v vs.length bS;rw[e,p1,p2,show o+1+vs.length=o+(v::vs).length from by simp;omega];simp
theorem Og.cells (g:Nat):∀(vs:List Y) (o:Nat) {w w1:F},Og w w1 g->Og w (w1.setCells g o vs) g
 | [],_,_,_,h=>h
 |v::vs,o,w,w1,h=>by
  show Og w ((w1.setCell ⟨g,o,O⟩ v).setCells g (o+1) vs) g;exact Og.cells g vs (o+1) h.set
theorem Tryz.infoPtr:(Tryz.prog.info? 155).map (fun i=>(i.zero,i.size,i.bytes))=M (M (U O),1,8):=by kernel_rfl
theorem Zg:∀w,(zeroValue 155).run K w= .ok (U O) w:=fun w=>by
 obtain⟨i0,hi,uZ,-⟩:=info_parts Tryz.infoPtr;simp[zeroValue,typeInfo,hi,uZ]
theorem fP {aQ:Array Y}{t:TypeId}(h:w.heap[g]?=M (C aQ t (0,0)))(j:Nat):w.cell? ⟨g,j,O⟩=aQ.toList[j]?/\w.frozen? ⟨g,j,O⟩=false:=by
 simp[World.cell?,World.frozen?,h]
theorem kJ {α:Type}(l:List α)(i:Nat):l.eraseIdx i=l.take i++l.drop (i+1):=List.eraseIdx_eq_take_drop_succ l i
theorem Sl (h:fJ w v rs)(hi:i<rs.length)(hl:rs.length<=1000000):
 H K 193 #[v,I V (i:Int),I V ((i:Int)+1)] w fun e w'=> ∃v' g,e=G v'/\fJ w' v' (rs.eraseIdx i)/\v.ownBlock=M g/\v'.ownBlock=M g/\Og w w' g:=by
 obtain⟨ao,cap,rfl,gG,hm,gJ,gW⟩:=fJ.form h;cases ao with
 |none=>obtain⟨rfl,-⟩:=gJ rfl;simp at hi
 |some a=>
  obtain⟨g,aQ,rfl,hg,hcs,Un,hc⟩:=gW a rfl;obtain⟨i0,qj,uZ,wE,xZ⟩:=info_parts Tryz.infoPtr;have LA:aQ.toList.length=cap:=by simpa using hcs
  obtain⟨news,tV⟩:∃news,news=(rs.drop (i+1)).map FR.p:=⟨_,rfl⟩;have hnl:news.length=rs.length-(i+1):=by rw[tV];simp
  obtain⟨A,hA,hsrc⟩:∃A:Addr,(if cap=i+1 then M (⟨g,0,O⟩:Addr)else M ⟨g,i+1,O⟩)=M A/\Hid (∀t u,news[t]?=M u->w.drew.cell? (A.add t)=M u):=by
   by_cases hq:cap=i+1
   ·refine⟨⟨g,0,O⟩,by simp[hq],fun t u hu=>?_⟩;have h0:news.length=0:=by rw[hnl];omega
    rw[List.length_eq_zero_iff.1 h0]at hu;simp at hu
   ·refine⟨⟨g,i+1,O⟩,by simp[hq],fun t u hu=>?_⟩;rw[tV,List.getElem?_map,List.getElem?_drop]at hu;cases hr:rs[i+1+t]? with
    |none=>rw[hr]at hu;simp at hu
    |some r=>
     rw[hr]at hu;simp at hu;subst hu;rw[Addr.add_lit];exact hc _ _ hr
  have s1:Hid (news.length=(rs.length-(i+1))*1):=by show _=_;rw[hnl];omega
  have s2:Hid (∀u∈news,u.oneCell'=true):=by
   intro u hu;rw[tV]at hu;obtain⟨x,_,rfl⟩:=List.mem_map.1 hu;rfl
  have s3:Hid (∀t,t<news.length->(w.drew.cell? ⟨g,0+i*1+t,O⟩).isSome=true/\w.drew.frozen? ⟨g,0+i*1+t,O⟩=false):=by
   intro t ht;obtain⟨q1,q2⟩:=fP hg (0+i*1+t);refine⟨?_,q2⟩;show(w.cell? _).isSome=true;rw[q1];simp;omega
  obtain⟨W1,Xj⟩:∃W1,W1=w.drew.setCells g (0+i*1) news:=⟨_,rfl⟩;obtain⟨oO,jH,Da⟩:=gZ g 155 news (0+i*1) w.drew aQ hg (by rw[hnl,hcs];omega);rw[<-Xj]at jH;have GH:oO.toList.length=cap:=by rw[Da];simp;omega
  have VJ:oO.size=cap:=by simpa using GH
  have ql:∀ty,(Builtin.clear_ #[135] ty #[Z (M ⟨g,i+(rs.length-(i+1)),O⟩) (rs.length-(i+(rs.length-(i+1)))) (cap-(i+(rs.length-(i+1))))]).run K W1= .ok (.tuple #[]) (W1.setCells g (i+(rs.length-(i+1))) (List.replicate (rs.length-(i+(rs.length-(i+1)))) (U O))):=
   fun ty=>Lib.run_clear_slice W1 _ _ ty _ Tryz.underlying135 Zg rfl rfl g _ _ _ (by omega) (fun t ht=>by rw[(fP jH _).1];simp;rw[VJ];omega) (fun t ht=>(fP jH _).2)
  have HW:Hid (W1=w.drew.setCells g (0+i*1) news):=Xj;have HC1:Hid (oO.toList=aQ.toList.take (0+i*1)++news++aQ.toList.drop (0+i*1+news.length)):=Da;have pW:Hid (W1.heap[g]?=M (C oO 155 (0,0))):=jH;have HNW:Hid (news=(rs.drop (i+1)).map FR.p):=tV;have HTK:Hid (aQ.toList.take rs.length=rs.map FR.p):=Un;have j1:(0:Int)<=(i:Int):=by omega
  have j2:(i:Int)<=(i:Int)+1:=by omega
  have j3:(i:Int)+1<=(rs.length:Int):=by omega
  have j4:(rs.length:Int)<=(cap:Int):=by omega
  have j5:i<=cap:=by omega
  have j6:i+1<=cap:=by omega
  have j7:((i:Int)+1).toNat=i+1:=by omega
  have j9:(0:Int)<=(i:Int)+1:=by omega
  have j8:¬((i:Int)=(i:Int)+1):=by omega
  have bS:=aL hg;clear Xj jH Da tV Un hc gW gJ hg h;go_enter Tryz.func193,Tryz.ntmps193
  go_wp2_with fail
  go_region_law (refine step_append_room rfl (.tmp 22) (.tmp 25) 135 rfl 155 i0 1 Tryz.underlying135 qj wE g 0 i cap (by simp[Act.eval,Act.put]) A (rs.length-(i+1)) (cap-(i+1)) news (by simp[Act.eval,Act.put];done) s1.out hsrc.out s2.out (by omega) s3.out ?_;rw[<-HW.out])
  go_wp2_with fail
  go_ret;have xO:i+(rs.length-(i+1))=rs.length-1:=by omega
  have hz:rs.length-(rs.length-1)=1:=by omega
  obtain⟨Gx,jA,Qk⟩:=gZ g 155 (List.replicate (rs.length-(i+(rs.length-(i+1)))) (U O)) (i+(rs.length-(i+1))) W1 oO pW.out (by rw[List.length_replicate,VJ];omega);refine⟨_,g,rfl,⟨?_,Or.inr ⟨g,cap,Gx,?_,Nat.zero_le _,jA,?_,hm,?_,?_⟩⟩,rfl,rfl,?_⟩
  ·simp
  ·rw[List.length_eraseIdx,if_pos hi,xO];rfl
  ·rw[List.length_eraseIdx,if_pos hi];omega
  ·have:Gx.toList.length=cap:=by rw[Qk];simp;rw[VJ];omega
   simpa using this
  ·rw[List.length_eraseIdx,if_pos hi,Nat.mul_one,Qk,xO,List.append_assoc,List.take_append_of_le_length (by rw[List.length_take,GH];omega),List.take_take,Nat.min_self,HC1.out,List.append_assoc,Nat.zero_add,Nat.mul_one];have e1:(aQ.toList.take i).length=i:=by rw[List.length_take,LA];omega
   rw[<-List.append_assoc,List.take_left' (by rw[List.length_append,e1,hnl];omega),kJ,List.map_append,HNW.out];congr 1;rw[List.map_take,<-HTK.out,List.take_take,Nat.min_eq_left (by omega)]
  ·rw[HW.out];exact Og.cells g _ _ (Og.cells g _ _ ((Og.refl w g).aM (bD (aK.refl w) 1)))
theorem Au {ops:Array Oper}{rest:List Oper}{o:Oper}{a:Act}{Q:Exit->Act->F->Prop}(Ir:o.guard=O)(s x:Operand)
 (ho:o.op= .call { callee:= .builtin .append,args:=#[s,x],argTypes:=#[135,135] })
 (v:Y)(rs:List FR)(r:FR)(hs:a.eval s=v)(cZ:fJ w v rs)(vb:Nat)(hx:a.eval x=Z (M ⟨vb,0,O⟩) 1 1)(hr:w.cell? ⟨vb,0,O⟩=M r.p)
 (hlen:rs.length<=1000000)
 (h:∀v' w',fJ w' v' (rs++ [r])->w.grownBy w' v.ownBlock->fC w v v'->wpList K ops Q rest (a.put o.dst v') w'):wpList K ops Q (o::rest) a w:=by
 obtain⟨i0,hi,uZ,wE,xZ⟩:=info_parts Tryz.infoPtr
 obtain⟨v',w',Kb,OP,Ls,LB⟩:=wJ (P:=K) w 0 135 o.type 155 i0 (U O) 1 8 Tryz.underlying135 hi uZ wE xZ rfl (by decide) v rs.length (rs.map FR.p) cZ ⟨vb,0,O⟩ 1 1 [r.p] rfl (by
  intro j u hj;cases j with
  |zero=>simp at hj;subst hj;simpa[Addr.add]using hr
  |succ j=>simp at hj) (by
  intro u hu;simp at hu;subst hu;rfl) (by unfold maxLen;omega) (by omega) (Nat.zero_le _)
 refine wpList_plain Ir fun _ hK=>?_
 unfold Oper.wp execOp;simp only[ho,resolve,invoke,builtin,Sem.run_bind,Sem.run_pure,Result.andThen_ok,List.map_toArray,List.map_cons,List.map_nil,hs,hx,Kb];refine hK _ _ (h v' w' ?_ Ls LB);unfold fJ;rw[List.map_append,List.length_append];exact OP
def jB (w w':F)(v v':Y)(rs:List FR)(i:Nat)(r:FR):Prop:=fJ w' v' (rs.take i++r::rs.drop i)/\w.grownBy w' v.ownBlock/\fC w v v'
theorem GI (h:fJ w v rs)(hv:w.heap[vb]?=M (C #[r.p] 155 (0,0)))(hl:rs.length<=1000000):
 H K 213 #[v,I V (rs.length:Int),Z (M ⟨vb,0,O⟩) 1 1] w fun e w'=> ∃v',e=G v'/\jB w w' v v' rs rs.length r:=by
 obtain⟨ao,cap,rfl,gG,hm,-,-⟩:=fJ.form h;have hr:w.cell? ⟨vb,0,O⟩=M r.p:=by simp[World.cell?,hv]
 have j1:(0:Int)<=(rs.length:Int):=by omega
 clear hv;by_cases hq:cap=rs.length
 ·subst hq;go_enter Tryz.func213,Tryz.ntmps213
  go_wp2_with (at_builtin;go_must (refine Au (by rfl) (.tmp 23) (.tmp 24) (by rfl) _ rs r (by rfl) (by exact h) vb (by rfl) (by exact hr) (by exact hl) ?_);intro v5 w5 lH dY wL)
  go_ret;exact⟨_,rfl,by unfold jB;rw[List.take_length,List.drop_length];exact⟨lH,dY,wL⟩⟩
 ·go_enter Tryz.func213,Tryz.ntmps213
  go_wp2_with (at_builtin;go_must (refine Au (by rfl) (.tmp 23) (.tmp 24) (by rfl) _ rs r (by rfl) (by exact h) vb (by rfl) (by exact hr) (by exact hl) ?_);intro v5 w5 lH dY wL)
  go_ret;exact⟨_,rfl,by unfold jB;rw[List.take_length,List.drop_length];exact⟨lH,dY,wL⟩⟩
theorem Zh {α:Type}(A:List α)(p:α)(B R:List α)(i n:Nat)(hA:A.length=i)(hB:B.length=n-i)(hi:i<=n):(A++ [p]++(B++R)).take (n+1)=A++p::B:=by
 have:(A++ [p]++B).length=n+1:=by simp;omega
 rw[<-List.append_assoc,List.take_left' this];simp
theorem Ux {cap:Nat}(h:fJ w (Z (M ⟨g,0,O⟩) rs.length cap) rs)(hi:i<rs.length)(qJ:rs.length+1<=cap)(hv:w.heap[vb]?=M (C #[r.p] 155 (0,0)))(hne:vb≠g)(hl:rs.length<=1000000):
 H K 213 #[Z (M ⟨g,0,O⟩) rs.length cap,I V (i:Int),Z (M ⟨vb,0,O⟩) 1 1] w fun e w'=> ∃v',e=G v'/\jB w w' (Z (M ⟨g,0,O⟩) rs.length cap) v' rs i r:=by
 obtain⟨ao,Gd,e,gG,hm,-,gW⟩:=fJ.form h;cases e
 obtain⟨g',aQ,e,hg,hcs,Un,hc⟩:=gW _ rfl;cases e
 obtain⟨i0,qj,uZ,wE,xZ⟩:=info_parts Tryz.infoPtr;have iU:(Tryz.prog.info? 155).map (·.size)=M 1:=by rw[qj];simp[wE]
 have LA:aQ.toList.length=cap:=by simpa using hcs
 have hov:∀lb cb,(callFunc 251 #[Z (M ⟨vb,0,O⟩) 1 1,Z (M ⟨g,i+1,O⟩) lb cb]).run K w= .ok (.value (.bool false)) w:=fun lb cb=>by
  rw[run_callFunc_extern Tryz.func251 (by kernel_rfl) (by kernel_rfl) (by kernel_rfl) (e:=Extern.SlicesOverlaps.overlaps #[135,135] #[4]) (by kernel_rfl),
   Lib.run_overlaps_apart w 135 4 155 Tryz.underlying135 1 (fun w=>by simp[sizeOf,typeInfo,qj,wE]) ⟨vb,0,O⟩ ⟨g,i+1,O⟩ 1 1 lb cb hne 155 155 1 cap (by simp[World.shape?,hv]) (by simp[World.shape?,hg,hcs]) (by omega) (by simp[World.frozen?,hv]) (by simp[World.frozen?,hv])]
  rfl
 obtain⟨ps,PD⟩:∃ps,ps=(rs.drop i).map FR.p:=⟨_,rfl⟩;have Av:ps.length=rs.length-i:=by rw[PD];simp
 have h1c:∀u∈ps,u.oneCell'=true:=by
  intro u hu;rw[PD]at hu;obtain⟨x,_,rfl⟩:=List.mem_map.1 hu;rfl
 have qm:∀ty dc sc,(Builtin.copy_ #[135,135] ty #[Z (M ⟨g,i+1,O⟩) (rs.length-i) dc,Z (M ⟨g,i,O⟩) (rs.length+1-i) sc]).run K w.drew= .ok (goInt ps.length) (w.drew.setCells g (i+1) ps):=fun ty dc sc=>
  run_copy_cells w.drew _ _ ty 155 g (i+1) (rs.length-i) dc ⟨g,i,O⟩ (rs.length+1-i) sc ps Tryz.underlying135 iU (by rw[Av];simp only[Nat.min_def];split<;>omega)
   (fun j v hj=>by
    rw[Addr.add_lit];rw[PD,List.getElem?_map,List.getElem?_drop]at hj;cases hr:rs[i+j]? with
    |none=>rw[hr]at hj;simp at hj
    |some q=>rw[hr]at hj;simp at hj;subst hj;exact hc _ _ hr)
   (fun j hj=>by show(w.cell? _).isSome=true;rw[(fP hg _).1];simp;rw[hcs];omega) (fun j hj=>(fP hg _).2) h1c
 obtain⟨W1,Xj⟩:∃W1,W1=w.drew.setCells g (i+1) ps:=⟨_,rfl⟩;obtain⟨oO,jH,Da⟩:=gZ g 155 ps (i+1) w.drew aQ hg (by rw[Av,hcs];omega);rw[<-Xj]at jH;have GH:oO.toList.length=cap:=by rw[Da];simp;omega
 have VJ:oO.size=cap:=by simpa using GH
 have hv1:W1.cell? ⟨vb,0,O⟩=M r.p:=by
  rw[Xj,World.cell?_setCells_out _ _ _ _ _ (fun h _=>absurd h hne)];have:w.cell? ⟨vb,0,O⟩=M r.p:=by simp[World.cell?,hv]
  exact this
 have hcp2:∀ty dc,(Builtin.copy_ #[135,135] ty #[Z (M ⟨g,i,O⟩) (rs.length+1-i) dc,Z (M ⟨vb,0,O⟩) 1 1]).run K W1= .ok (goInt 1) (W1.setCells g i [r.p]):=fun ty dc=>
  run_copy_cells W1 _ _ ty 155 g i (rs.length+1-i) dc ⟨vb,0,O⟩ 1 1 [r.p] Tryz.underlying135 iU (by simp only[Nat.min_def,List.length_singleton];split<;>omega)
   (fun j v hj=>by
    cases j with
    |zero=>simp at hj;subst hj;simpa[Addr.add]using hv1
    |succ j=>simp at hj)
   (fun j hj=>by rw[(fP jH _).1];simp at hj ⊢;rw[VJ];omega) (fun j hj=>(fP jH _).2) (fun u hu=>by simp at hu;subst hu;rfl)
 obtain⟨Gx,jA,Qk⟩:=gZ g 155 [r.p] i W1 oO jH (by simp;omega)
 have HOWN:Hid (jB w (W1.setCells g i [r.p]) (Z (M ⟨g,0,O⟩) rs.length cap) (Z (M ⟨g,0,O⟩) (rs.length+1) cap) rs i r):=by
  have jY:Og w (W1.setCells g i [r.p]) g:=by rw[Xj];exact Og.cells g _ _ (Og.cells g _ _ ((Og.refl w g).aM (bD (aK.refl w) 1)))
  refine⟨⟨by simp,Or.inr ⟨g,cap,Gx,?_,Nat.zero_le _,jA,?_,hm,?_,?_⟩⟩,⟨jY.2.1,jY.2.2.1,jY.2.2.2,jY.1.1,fun k hk hn=>jY.1.2 k hk (fun e=>hn (by rw[e];rfl))⟩,Or.inl rfl⟩
  ·have:(rs.take i++r::rs.drop i).length=rs.length+1:=by simp;omega
   rw[this]
  ·simp;omega
  ·have:Gx.toList.length=cap:=by rw[Qk];simp;omega
   simpa using this
  ·have e0:(rs.take i++r::rs.drop i).length=rs.length+1:=by simp;omega
   have e1:(aQ.toList.take (i+1)).length=i+1:=by rw[List.length_take,LA];omega
   have e2:oO.toList.take i=aQ.toList.take i:=by rw[Da,List.append_assoc,List.take_append_of_le_length (by rw[e1];omega),List.take_take,Nat.min_eq_left (by omega)]
   have e3:oO.toList.drop (i+1)=ps++aQ.toList.drop (i+1+ps.length):=by rw[Da,List.append_assoc,List.drop_left' e1]
   have e4:(aQ.toList.take i).length=i:=by rw[List.length_take,LA];omega
   rw[e0,Nat.mul_one,Qk,List.length_singleton,e2,e3,Zh _ _ _ _ i rs.length e4 Av (by omega),List.map_append,List.map_cons,PD];congr 1;rw[List.map_take,<-Un,List.take_take,Nat.min_eq_left (by omega)]
 rw[<-Xj]at qm;have j1:(0:Int)<=(i:Int):=by omega
 have j2:(i:Int)<=(rs.length:Int):=by omega
 have j3:¬((i:Int)=(rs.length:Int)):=by omega
 have j4:¬(cap:Int)<(rs.length:Int)+1:=by omega
 have j5:((i:Int)+1).toNat=i+1:=by omega
 have j6:((rs.length:Int)+1).toNat=rs.length+1:=by omega
 have j7:(0:Int)<=(i:Int)+1:=by omega
 have dU:IntKind.i64.wrap ((i:Int)+1)=(i:Int)+1:=by rw[IntKind.wrap_i64];unfold maxLen at hm;omega
 have j8:(i:Int)+1<=(rs.length:Int)+1:=by omega
 have j9:¬cap=i+1:=by omega
 have j10:¬cap=i:=by omega
 have j11:(rs.length:Int)+1<=(cap:Int):=by omega
 have j12:(0:Int)<=(rs.length:Int)+1:=by omega
 have j13:(i:Int)<=(rs.length:Int)+1:=by omega
 clear Xj jH Da PD Un hc gW hg h jA Qk hv1 hv;go_enter Tryz.func213,Tryz.ntmps213
 go_wp2_with (simp only[hov])
 go_region_law (refine step_copy_runI rfl _ _ 135 135 rfl _ _ (by simp[Act.eval,Act.put];done) (by simp[Act.eval,Act.put];done) (qm _ _ _) ?_)
 go_wp2_with (at_builtin;refine wpList_copy_runI _ rfl _ _ 135 135 rfl _ _ rfl rfl (hcp2 _ _) ?_)
 go_ret;exact⟨_,rfl,HOWN.out⟩
theorem Zi {cap:Nat}(h:fJ w (Z (M ⟨g,0,O⟩) rs.length cap) rs)(hi:i<rs.length)(qJ:cap<rs.length+1)(hv:w.heap[vb]?=M (C #[r.p] 155 (0,0)))(hl:rs.length<=1000000):
 H K 213 #[Z (M ⟨g,0,O⟩) rs.length cap,I V (i:Int),Z (M ⟨vb,0,O⟩) 1 1] w fun e w'=> ∃v',e=G v'/\jB w w' (Z (M ⟨g,0,O⟩) rs.length cap) v' rs i r:=by
 obtain⟨ao,Gd,e,gG,hm,-,gW⟩:=fJ.form h;cases e
 obtain⟨g',aQ,e,hg,hcs,Un,hc⟩:=gW _ rfl;cases e
 obtain⟨i0,qj,uZ,wE,xZ⟩:=info_parts Tryz.infoPtr;have iU:(Tryz.prog.info? 155).map (·.size)=M 1:=by rw[qj];simp[wE]
 have bS:=aL hg;have hvl:=aL hv;obtain⟨ps,PD⟩:∃ps,ps=(rs.drop i).map FR.p:=⟨_,rfl⟩;have Av:ps.length=rs.length-i:=by rw[PD];simp
 obtain⟨hd,hhd⟩:∃hd,hd=(rs.take i).map FR.p:=⟨_,rfl⟩;have hhl:hd.length=i:=by rw[hhd];simp;omega
 have h1c:∀u∈ps,u.oneCell'=true:=by
  intro u hu;rw[PD]at hu;obtain⟨x,_,rfl⟩:=List.mem_map.1 hu;rfl
 have hold:(Builtin.firstCells i0.size i (Z (M ⟨g,0,O⟩) i cap)).run K w.drew= .ok hd.toArray w.drew:=by
  rw[wE]
  exact run_firstCells_some w.drew 1 i ⟨g,0,O⟩ i cap hd (by rw[hhl];omega) (fun j v hj=>by
   rw[Addr.add_lit,Nat.zero_add];rw[hhd,List.getElem?_map,List.getElem?_take]at hj;split at hj
   ·cases hr:rs[j]? with
    |none=>rw[hr]at hj;simp at hj
    |some q=>rw[hr]at hj;simp at hj;subst hj;exact hc _ _ hr
   ·simp at hj)
 have Xh:i+(rs.length+1-i)=rs.length+1:=by omega
 have qh:(rs.length:Int)+1-(i:Int)=((rs.length+1-i:Nat):Int):=by omega
 obtain⟨aC,hG⟩:∃aC,aC=grownCap w (rs.length+1) cap 155:=⟨_,rfl⟩;obtain⟨ROW,qo⟩:∃ROW:Array Y,ROW=hd.toArray++Builtin.zeroCells (Value.pointer O).cells (rs.length+1-i)++Builtin.zeroCells (Value.pointer O).cells (aC-(rs.length+1)):=⟨_,rfl⟩;obtain⟨W1,Xj⟩:∃W1,W1=w.drew.alloc (C ROW 155):=⟨_,rfl⟩
 have hrz:∀ty,(Builtin.append_ #[135,3] ty #[Z (M ⟨g,0,O⟩) i cap,I V ((rs.length:Int)+1-(i:Int))]).run K w= .ok (Z (M ⟨w.heap.size,0,O⟩) (rs.length+1) aC) W1:=fun ty=>by
  have hq:=Lib.run_append_grow_zeros w 135 3 ty 155 i0 _ V V Tryz.underlying135 Tryz.underlying3 qj uZ (M ⟨g,0,O⟩) i cap hd hold (rs.length+1-i) (by omega) (by omega) (by omega) (by omega) (by rw[xZ];omega) (by rw[xZ,Xh];exact growslice_fits qJ (by omega));rw[Xh]at hq;rw[qh,hq,Xj,qo,hG]
 have hGn:rs.length+1<=aC:=by rw[hG];exact grownCap_ge w _ _ _
 have hGm:aC<=maxLen:=by rw[hG];exact grownCap_le_maxLen w (rs.length+1) cap 155 (by unfold maxLen;omega)
 have hRl:ROW.size=aC:=by
  rw[qo];simp[Builtin.zeroCells,Value.cells];omega
 have hRt:ROW.toList.take i=hd:=by
  rw[qo];simp only[Array.toList_append,List.append_assoc];rw[List.take_left' hhl]
 have jH:W1.heap[w.heap.size]?=M (C ROW 155 (0,0)):=by rw[Xj];exact heap_alloc_new w.drew _
 have VK:Below w.heap.size w W1:=by rw[Xj];exact bA (bD (aK.refl w) 1) (aU _ _)
 have hv1:W1.cell? ⟨vb,0,O⟩=M r.p:=cell_later VK (by simp[World.cell?,hv]);obtain⟨W2,LQ⟩:∃W2,W2=W1.setCells w.heap.size i [r.p]:=⟨_,rfl⟩
 have qm:∀ty dc,(Builtin.copy_ #[135,135] ty #[Z (M ⟨w.heap.size,i,O⟩) (rs.length+1-i) dc,Z (M ⟨vb,0,O⟩) 1 1]).run K W1= .ok (goInt 1) W2:=fun ty dc=>by
  rw[LQ]
  exact run_copy_cells W1 _ _ ty 155 w.heap.size i (rs.length+1-i) dc ⟨vb,0,O⟩ 1 1 [r.p] Tryz.underlying135 iU (by simp only[Nat.min_def,List.length_singleton];split<;>omega)
   (fun j v hj=>by
    cases j with
    |zero=>simp at hj;subst hj;simpa[Addr.add]using hv1
    |succ j=>simp at hj)
   (fun j hj=>by rw[(fP jH _).1];simp at hj ⊢;rw[hRl];omega) (fun j hj=>(fP jH _).2) (fun u hu=>by simp at hu;subst hu;rfl)
 obtain⟨Gx,jA,Qk⟩:=gZ w.heap.size 155 [r.p] i W1 ROW jH (by simp;omega);rw[<-LQ]at jA
 have hcs2:Gx.size=aC:=by
  have:Gx.toList.length=aC:=by rw[Qk];simp;omega
  simpa using this
 have hF2:Fr w W2 (fun b=>b=w.heap.size):=by
  rw[LQ];exact(Fr.bT VK _).trans (Og.cells w.heap.size [r.p] i (Og.refl W1 w.heap.size)).1
 have R_:∀j q,rs[j]?=M q->W2.cell? ⟨g,j,O⟩=M q.p:=fun j q hq=>by
  rw[LQ,World.cell?_setCells_out _ _ _ _ _ (fun h _=>by simp only at h;omega)];exact cell_later VK (hc _ _ hq)
 obtain⟨W3,PE⟩:∃W3,W3=W2.drew.setCells w.heap.size (i+1) ps:=⟨_,rfl⟩
 have hcp2:∀ty dc sc,(Builtin.copy_ #[135,135] ty #[Z (M ⟨w.heap.size,i+1,O⟩) (rs.length-i) dc,Z (M ⟨g,i,O⟩) (rs.length-i) sc]).run K W2.drew= .ok (goInt ps.length) W3:=fun ty dc sc=>by
  rw[PE]
  exact run_copy_cells W2.drew _ _ ty 155 w.heap.size (i+1) (rs.length-i) dc ⟨g,i,O⟩ (rs.length-i) sc ps Tryz.underlying135 iU (by rw[Av];simp only[Nat.min_def];split<;>omega)
   (fun j v hj=>by
    rw[Addr.add_lit];rw[PD,List.getElem?_map,List.getElem?_drop]at hj;cases hr:rs[i+j]? with
    |none=>rw[hr]at hj;simp at hj
    |some q=>rw[hr]at hj;simp at hj;subst hj;exact R_ _ _ hr)
   (fun j hj=>by show(W2.cell? _).isSome=true;rw[(fP jA _).1];simp;rw[hcs2];omega) (fun j hj=>(fP jA _).2) h1c
 obtain⟨cur3,jI,qw⟩:=gZ w.heap.size 155 ps (i+1) W2.drew Gx jA (by rw[Av,hcs2];omega);rw[<-PE]at jI
 have HOWN:Hid (jB w W3 (Z (M ⟨g,0,O⟩) rs.length cap) (Z (M ⟨w.heap.size,0,O⟩) (rs.length+1) aC) rs i r):=by
  have jY:Og w W3 w.heap.size:=by
   rw[PE,LQ];exact Og.cells _ _ _ ((Og.cells w.heap.size [r.p] i ((Og.refl w w.heap.size).aM VK)).aM (bD (aK.refl _) 1))
  have e0:(rs.take i++r::rs.drop i).length=rs.length+1:=by simp;omega
  refine⟨⟨by simp,Or.inr ⟨w.heap.size,aC,cur3,by rw[e0],Nat.zero_le _,jI,by rw[e0];exact hGn,hGm,?_,?_⟩⟩,⟨jY.2.1,jY.2.2.1,jY.2.2.2,jY.1.1,fun k hk _=>jY.1.2 k hk (fun e=>by omega)⟩,Or.inr fun k hk=>by simp[Value.ownBlock]at hk;omega⟩
  ·have:cur3.toList.length=aC:=by rw[qw];simp;omega
   simpa using this
  ·have e1:(Gx.toList.take (i+1))=hd++ [r.p]:=by
    rw[Qk,List.append_assoc,<-List.append_assoc,hRt,List.take_left' (by simp;omega)]
   rw[e0,Nat.mul_one,qw,e1,List.append_assoc,Zh _ _ _ _ i rs.length hhl Av (by omega),List.map_append,List.map_cons,hhd,PD]
 have j1:(0:Int)<=(i:Int):=by omega
 have j2:(i:Int)<=(rs.length:Int):=by omega
 have j3:¬((i:Int)=(rs.length:Int)):=by omega
 have j4:(cap:Int)<(rs.length:Int)+1:=by omega
 have j5:((i:Int)+1).toNat=i+1:=by omega
 have j7:(0:Int)<=(i:Int)+1:=by omega
 have dU:IntKind.i64.wrap ((i:Int)+1)=(i:Int)+1:=by rw[IntKind.wrap_i64];omega
 have j8:(i:Int)+1<=(rs.length:Int)+1:=by omega
 have j9:¬aC=i+1:=by omega
 have j10:¬cap=i:=by omega
 have j11:¬aC=i:=by omega
 have j13:(i:Int)<=(rs.length:Int)+1:=by omega
 have j14:i<=cap:=by omega
 clear Xj LQ PE jH jA jI Qk qw PD hhd Un hc gW hg h hv1 hv qo hRt hold R_ hF2 VK qh hG;go_enter Tryz.func213,Tryz.ntmps213
 go_wp2_with (first
  |(at_builtin;refine Lib.wpList_append_run _ rfl _ _ _ _ rfl _ _ rfl rfl _ _ (hrz _) ?_)
  |(at_builtin;refine wpList_copy_runI _ rfl _ _ 135 135 rfl _ _ rfl rfl (qm _ _) ?_))
 go_region_law (refine step_copy_runI rfl _ _ 135 135 rfl _ _ (by simp[Act.eval,Act.put];done) (by simp[Act.eval,Act.put];done) (hcp2 _ _ _) ?_)
 go_wp2_with fail
 go_ret;exact⟨_,rfl,HOWN.out⟩
theorem Sm (h:fJ w v rs)(hi:i<=rs.length)(hv:w.heap[vb]?=M (C #[r.p] 155 (0,0)))(hne:v.ownBlock≠M vb)(hl:rs.length<=1000000):
 H K 213 #[v,I V (i:Int),Z (M ⟨vb,0,O⟩) 1 1] w fun e w'=> ∃v',e=G v'/\jB w w' v v' rs i r:=by
 by_cases he:i=rs.length
 ·subst he;exact GI h hv hl
 ·obtain⟨ao,cap,rfl,gG,hm,gJ,gW⟩:=fJ.form h;cases ao with
  |none=>obtain⟨rfl,-⟩:=gJ rfl;simp at hi he;omega
  |some a=>
   obtain⟨g,aQ,rfl,hg,-⟩:=gW a rfl;by_cases qJ:rs.length+1<=cap
   ·exact Ux h (by omega) qJ hv (fun e=>hne (by rw[e];rfl)) hl
   ·exact Zi h (by omega) (by omega) hv hl
end Go.Proofs.YtfplgfodoiiobaaGreatDoor
