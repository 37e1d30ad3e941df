/- PgH, PgI, PgJ (joined). -/
import Derived.Deep.RegionLaw
import Derived.Lib.AppendZerosOnto
import Derived.Shelf.Spec.SlicesInsert
import Derived.Test.YtfplgfodoiiobaaGreatDoorD14
open Option renaming none→O,some→M
open Go.Value renaming int→I,slice→Z,pointer→U
open Go.IntKind renaming i64→V
open Go.Obj renaming cells→C
open Go.Ending renaming returned→G
open Go renaming World→F,Value→Y,Calls→H
open Go.Proofs.Tryz renaming prog→K
open Go.Proofs.Tryz
namespace Go.Proofs.YtfplgfodoiiobaaGreatDoor
set_option maxHeartbeats 4000000
set_option maxRecDepth 100000
open Go.RowKit
abbrev Ado:=@List.set_eq_take_append_cons_drop
abbrev AcW:=@List.length_eraseIdx
abbrev Adp:=@Nat.mul_one
abbrev AcI:=@List.take_take
abbrev Adc:=@List.take_left'
abbrev Ady:=@Nat.min_eq_left
abbrev Acl:=@List.take_length
abbrev AdE:=@Go.run_copy_cells
abbrev Abg:=@List.length_singleton
abbrev AcZ:=@Array.toList_append
abbrev Ade:=@List.mem_or_eq_of_mem_set
abbrev Adz:=@List.mem_of_mem_drop
variable {w w':F}{rs:List FR}{r:FR}{i g vb db:Nat}{v fv:Y}{s:Sc}
theorem Zb {α:Type}(l:List α)(o:Nat)(v:α)(k:Nat)(h:o<l.length):(l.set o v).take (o+1)=l.take o++ [v]/\(l.set o v).drop (o+1+k)=l.drop (o+1+k):=by
 constructor
 ·rw[Ado,Aad h,List.take_append];have:(l.take o).length=o:=by rw[Aaw];omega
  rw[this,Aaq (by omega)];simp
 ·rw[List.drop_set_of_lt (by omega)]
theorem jS (g:Nat)(t:TypeId):∀(vs:List Y) (o:Nat) (w:F) (aS:Array Y),w.heap[g]?=M (C aS t (0,0))->o+vs.length<=aS.size->
 ∃qN,(w.setCells g o vs).heap[g]?=M (C qN t (0,0))/\qN.toList=aS.toList.take o++vs++aS.toList.drop (o+vs.length)
 | [],o,w,aS,h,_=>⟨aS,h,by simp⟩
 |v::vs,o,w,aS,h,hl=>by
  simp only[Aao]at hl;have h1:=Aaj w g o aS t v h;have jW:(aS.toList.set o v).length=aS.size:=by simp
  obtain⟨qN,h2,h3⟩:=jS g t vs (o+1) (w.setCell ⟨g,o,O⟩ v) _ h1 (by simp;omega);refine⟨qN,h2,h3.trans ?_⟩;have bP:o<aS.toList.length:=by simp;omega
  have e:(aS.setIfInBounds o v).toList=aS.toList.set o v:=by simp
  obtain⟨p1,p2⟩:=Zb aS.toList o v vs.length bP;rw[e,p1,p2,show o+1+vs.length=o+(v::vs).length from by simp;omega];simp
theorem Og.cells (g:Nat):∀(vs:List Y) (o:Nat) {w w1:F},Og w w1 g->Og w (w1.setCells g o vs) g
 | [],_,_,_,h=>h
 |v::vs,o,w,w1,h=>by
  show Og w ((w1.setCell ⟨g,o,O⟩ v).setCells g (o+1) vs) g;exact Og.cells g vs (o+1) h.set
theorem Tryz.infoPtr:(Tryz.prog.info? 155).map (fun i=>(i.zero,i.size,i.bytes))=M (M (U O),1,8):=by kernel_rfl
theorem IW:∀w,(zeroValue 155).run K w= .ok (U O) w:=fun w=>by
 obtain⟨i0,hi,oG,-⟩:=AaW Tryz.infoPtr;simp[zeroValue,typeInfo,hi,oG]
theorem iG {aS:Array Y}{t:TypeId}(h:w.heap[g]?=M (C aS t (0,0)))(j:Nat):w.cell? ⟨g,j,O⟩=aS.toList[j]?/\w.frozen? ⟨g,j,O⟩=false:=by
 simp[World.cell?,World.frozen?,h]
theorem nY {α:Type}(l:List α)(i:Nat):l.eraseIdx i=l.take i++l.drop (i+1):=List.eraseIdx_eq_take_drop_succ l i
theorem Zc (h:iA w v rs)(hi:i<rs.length)(hl:rs.length<=1000000):
 H K 193 #[v,I V (i:Int),I V ((i:Int)+1)] w fun e w'=> ∃v' g,e=G v'/\iA w' v' (rs.eraseIdx i)/\v.ownBlock=M g/\v'.ownBlock=M g/\Og w w' g:=by
 obtain⟨ao,cap,rfl,iI,hm,gL,iU⟩:=iA.form h;cases ao with
 |none=>obtain⟨rfl,-⟩:=gL rfl;simp at hi
 |some a=>
  obtain⟨g,aS,rfl,hg,hcs,Vv,hc⟩:=iU a rfl;obtain⟨i0,hi0,oG,nM,oP⟩:=AaW Tryz.infoPtr;have TH:aS.toList.length=cap:=by simpa using hcs
  obtain⟨news,xX⟩:∃news,news=(rs.drop (i+1)).map FR.p:=⟨_,rfl⟩;have hnl:news.length=rs.length-(i+1):=by rw[xX];simp
  obtain⟨A,hA,hsrc⟩:∃A:Addr,(if cap=i+1 then M (⟨g,0,O⟩:Addr)else M ⟨g,i+1,O⟩)=M A/\Hid (∀t u,news[t]?=M u->w.drew.cell? (A.add t)=M u):=by
   by_cases hq:cap=i+1
   ·refine⟨⟨g,0,O⟩,by simp[hq],fun t u hu=>?_⟩;have h0:news.length=0:=(by rw[hnl];omega);rw[List.length_eq_zero_iff.1 h0]at hu;simp at hu
   ·refine⟨⟨g,i+1,O⟩,by simp[hq],fun t u hu=>?_⟩;rw[xX,Abk,AcB]at hu;cases hr:rs[i+1+t]? with
    |none=>rw[hr]at hu;simp at hu
    |some r=>
     rw[hr]at hu;simp at hu;subst hu;rw[Adg];exact hc _ _ hr
  have s1:Hid (news.length=(rs.length-(i+1))*1):=by show _=_;rw[hnl];omega
  have s2:Hid (∀u∈news,u.oneCell'=true):=by
   intro u hu;rw[xX]at hu;obtain⟨x,_,rfl⟩:=AaY.1 hu;rfl
  have s3:Hid (∀t,t<news.length->(w.drew.cell? ⟨g,0+i*1+t,O⟩).isSome=true/\w.drew.frozen? ⟨g,0+i*1+t,O⟩=false):=by
   intro t ht;obtain⟨q1,q2⟩:=iG hg (0+i*1+t);refine⟨?_,q2⟩;show(w.cell? _).isSome=true;rw[q1];simp;omega
  obtain⟨W1,Zd⟩:∃W1,W1=w.drew.setCells g (0+i*1) news:=⟨_,rfl⟩;obtain⟨sG,iJ,wY⟩:=jS g 155 news (0+i*1) w.drew aS hg (by rw[hnl,hcs];omega);rw[<-Zd]at iJ;have PN:sG.toList.length=cap:=by rw[wY];simp;omega
  have yx:sG.size=cap:=by simpa using PN
  have UF:∀ty,(Builtin.clear_ #[135] ty #[Z (M ⟨g,i+(rs.length-(i+1)),O⟩) (rs.length-(i+(rs.length-(i+1)))) (cap-(i+(rs.length-(i+1))))]).run K W1= .ok (.tuple #[]) (W1.setCells g (i+(rs.length-(i+1))) (List.replicate (rs.length-(i+(rs.length-(i+1)))) (U O))):=
   fun ty=>Lib.run_clear_slice W1 _ _ ty _ underlying135 IW rfl rfl g _ _ _ (by omega) (fun t ht=>by rw[(iG iJ _).1];simp;rw[yx];omega) (fun t ht=>(iG iJ _).2)
  have HW:Hid (W1=w.drew.setCells g (0+i*1) news):=Zd;have HC1:Hid (sG.toList=aS.toList.take (0+i*1)++news++aS.toList.drop (0+i*1+news.length)):=wY;have yJ:Hid (W1.heap[g]?=M (C sG 155 (0,0))):=iJ;have HNW:Hid (news=(rs.drop (i+1)).map FR.p):=xX;have HTK:Hid (aS.toList.take rs.length=rs.map FR.p):=Vv;have j1:(0:Int)<=(i:Int):=by omega
  have j2:(i:Int)<=(i:Int)+1:=by omega
  have j3:(i:Int)+1<=(rs.length:Int):=by omega
  have j4:(rs.length:Int)<=(cap:Int):=by omega
  have j5:i<=cap:=by omega
  have j6:i+1<=cap:=by omega
  have j7:((i:Int)+1).toNat=i+1:=by omega
  have j9:(0:Int)<=(i:Int)+1:=by omega
  have j8:¬((i:Int)=(i:Int)+1):=by omega
  have bP:=aM hg;clear Zd iJ wY xX Vv hc iU gL hg h;go_enter func193,ntmps193;go_wp2_with fail
  go_region_law (refine step_append_room rfl (.tmp 22) (.tmp 25) 135 rfl 155 i0 1 underlying135 hi0 nM g 0 i cap (by simp[Act.eval,Act.put]) A (rs.length-(i+1)) (cap-(i+1)) news (by simp[Act.eval,Act.put];done) s1.out hsrc.out s2.out (by omega) s3.out ?_;rw[<-HW.out])
  go_wp2_with fail;go_ret;have Js:i+(rs.length-(i+1))=rs.length-1:=by omega
  have hz:rs.length-(rs.length-1)=1:=by omega
  obtain⟨Nk,kR,Wn⟩:=jS g 155 (List.replicate (rs.length-(i+(rs.length-(i+1)))) (U O)) (i+(rs.length-(i+1))) W1 sG yJ.out (by rw[AcR,yx];omega);refine⟨_,g,rfl,⟨?_,Aab ⟨g,cap,Nk,?_,Aap _,kR,?_,hm,?_,?_⟩⟩,rfl,rfl,?_⟩
  ·simp
  ·rw[AcW,Aad hi,Js];rfl
  ·rw[AcW,Aad hi];omega
  ·have:Nk.toList.length=cap:=(by rw[Wn];simp;rw[yx];omega);simpa using this
  ·rw[AcW,Aad hi,Adp,Wn,Js,AaJ,Acs (by rw[Aaw,PN];omega),AcI,Nat.min_self,HC1.out,AaJ,Ach,Adp];have e1:(aS.toList.take i).length=i:=(by rw[Aaw,TH];omega);rw[<-AaJ,Adc (by rw[Aah,e1,hnl];omega),nY,Abb,HNW.out];congr 1;rw[AbB,<-HTK.out,AcI,Ady (by omega)]
  ·rw[HW.out];exact Og.cells g _ _ (Og.cells g _ _ ((Og.refl w g).aN (bB (aL.refl w) 1)))
theorem Hl {ops:Array Oper}{rest:List Oper}{o:Oper}{a:Act}{Q:Exit->Act->F->Prop}(qR:o.guard=O)(s x:Operand)
 (ho:o.op= .call { callee:= .builtin .append,args:=#[s,x],argTypes:=#[135,135] })
 (v:Y)(rs:List FR)(r:FR)(hs:a.eval s=v)(bD:iA w v rs)(vb:Nat)(hx:a.eval x=Z (M ⟨vb,0,O⟩) 1 1)(hr:w.cell? ⟨vb,0,O⟩=M r.p)
 (hlen:rs.length<=1000000)
 (h:∀v' w',iA w' v' (rs++ [r])->w.grownBy w' v.ownBlock->gN w v v'->wpList K ops Q rest (a.put o.dst v') w'):wpList K ops Q (o::rest) a w:=by
 obtain⟨i0,hi,oG,nM,oP⟩:=AaW Tryz.infoPtr
 obtain⟨v',w',yV,Wo,Cq,EY⟩:=wL (P:=K) w 0 135 o.type 155 i0 (U O) 1 8 underlying135 hi oG nM oP rfl (by decide) v rs.length (rs.map FR.p) bD ⟨vb,0,O⟩ 1 1 [r.p] rfl (by
  intro j u hj;cases j with
  |zero=>simp at hj;subst hj;simpa[Addr.add]using hr
  |succ j=>simp at hj) (by
  intro u hu;simp at hu;subst hu;rfl) (by unfold maxLen;omega) (by omega) (Aap _)
 refine Adh qR fun _ hK=>?_;unfold Oper.wp execOp;simp only[ho,resolve,invoke,builtin,Aci,AcK,Acb,Ack,AaK,AbI,hs,hx,yV];refine hK _ _ (h v' w' ?_ Cq EY);unfold iA;rw[Abb,Aah];exact Wo
def lJ (w w':F)(v v':Y)(rs:List FR)(i:Nat)(r:FR):Prop:=iA w' v' (rs.take i++r::rs.drop i)/\w.grownBy w' v.ownBlock/\gN w v v'
theorem PO (h:iA w v rs)(hv:w.heap[vb]?=M (C #[r.p] 155 (0,0)))(hl:rs.length<=1000000):
 H K 213 #[v,I V (rs.length:Int),Z (M ⟨vb,0,O⟩) 1 1] w fun e w'=> ∃v',e=G v'/\lJ w w' v v' rs rs.length r:=by
 obtain⟨ao,cap,rfl,iI,hm,-,-⟩:=iA.form h;have hr:w.cell? ⟨vb,0,O⟩=M r.p:=by simp[World.cell?,hv]
 have j1:(0:Int)<=(rs.length:Int):=by omega
 clear hv;by_cases hq:cap=rs.length
 ·subst hq;go_enter func213,ntmps213;go_wp2_with (at_builtin;go_must (refine Hl (by rfl) (.tmp 23) (.tmp 24) (by rfl) _ rs r (by rfl) (by exact h) vb (by rfl) (by exact hr) (by exact hl) ?_);intro v5 w5 dK eO Ab);go_ret;exact⟨_,rfl,by unfold lJ;rw[Acl,List.drop_length];exact⟨dK,eO,Ab⟩⟩
 ·go_enter func213,ntmps213;go_wp2_with (at_builtin;go_must (refine Hl (by rfl) (.tmp 23) (.tmp 24) (by rfl) _ rs r (by rfl) (by exact h) vb (by rfl) (by exact hr) (by exact hl) ?_);intro v5 w5 dK eO Ab);go_ret;exact⟨_,rfl,by unfold lJ;rw[Acl,List.drop_length];exact⟨dK,eO,Ab⟩⟩
theorem IX {α:Type}(A:List α)(p:α)(B R:List α)(i n:Nat)(hA:A.length=i)(hB:B.length=n-i)(hi:i<=n):(A++ [p]++(B++R)).take (n+1)=A++p::B:=by
 have:(A++ [p]++B).length=n+1:=by simp;omega
 rw[<-AaJ,Adc this];simp
theorem CB {cap:Nat}(h:iA w (Z (M ⟨g,0,O⟩) rs.length cap) rs)(hi:i<rs.length)(tC:rs.length+1<=cap)(hv:w.heap[vb]?=M (C #[r.p] 155 (0,0)))(hne:vb≠g)(hl:rs.length<=1000000):
 H K 213 #[Z (M ⟨g,0,O⟩) rs.length cap,I V (i:Int),Z (M ⟨vb,0,O⟩) 1 1] w fun e w'=> ∃v',e=G v'/\lJ w w' (Z (M ⟨g,0,O⟩) rs.length cap) v' rs i r:=by
 obtain⟨ao,nH,e,iI,hm,-,iU⟩:=iA.form h;cases e
 obtain⟨g',aS,e,hg,hcs,Vv,hc⟩:=iU _ rfl;cases e
 obtain⟨i0,hi0,oG,nM,oP⟩:=AaW Tryz.infoPtr;have jW:(Tryz.prog.info? 155).map (·.size)=M 1:=by rw[hi0];simp[nM]
 have TH:aS.toList.length=cap:=by simpa using hcs
 have hov:∀lb cb,(callFunc 251 #[Z (M ⟨vb,0,O⟩) 1 1,Z (M ⟨g,i+1,O⟩) lb cb]).run K w= .ok (.value (.bool false)) w:=fun lb cb=>by
  rw[run_callFunc_extern func251 (by kernel_rfl) (by kernel_rfl) (by kernel_rfl) (e:=Extern.SlicesOverlaps.overlaps #[135,135] #[4]) (by kernel_rfl),
   Lib.run_overlaps_apart w 135 4 155 underlying135 1 (fun w=>by simp[sizeOf,typeInfo,hi0,nM]) ⟨vb,0,O⟩ ⟨g,i+1,O⟩ 1 1 lb cb hne 155 155 1 cap (by simp[World.shape?,hv]) (by simp[World.shape?,hg,hcs]) (by omega) (by simp[World.frozen?,hv]) (by simp[World.frozen?,hv])]
  rfl
 obtain⟨ps,NJ⟩:∃ps,ps=(rs.drop i).map FR.p:=⟨_,rfl⟩;have Wt:ps.length=rs.length-i:=by rw[NJ];simp
 have h1c:∀u∈ps,u.oneCell'=true:=by
  intro u hu;rw[NJ]at hu;obtain⟨x,_,rfl⟩:=AaY.1 hu;rfl
 have hcp1:∀ty dc sc,(Builtin.copy_ #[135,135] ty #[Z (M ⟨g,i+1,O⟩) (rs.length-i) dc,Z (M ⟨g,i,O⟩) (rs.length+1-i) sc]).run K w.drew= .ok (goInt ps.length) (w.drew.setCells g (i+1) ps):=fun ty dc sc=>
  AdE w.drew _ _ ty 155 g (i+1) (rs.length-i) dc ⟨g,i,O⟩ (rs.length+1-i) sc ps underlying135 jW (by rw[Wt];simp only[Nat.min_def];split<;>omega)
   (fun j v hj=>by
    rw[Adg];rw[NJ,Abk,AcB]at hj;cases hr:rs[i+j]? with
    |none=>rw[hr]at hj;simp at hj
    |some q=>rw[hr]at hj;simp at hj;subst hj;exact hc _ _ hr)
   (fun j hj=>by show(w.cell? _).isSome=true;rw[(iG hg _).1];simp;rw[hcs];omega) (fun j hj=>(iG hg _).2) h1c
 obtain⟨W1,Zd⟩:∃W1,W1=w.drew.setCells g (i+1) ps:=⟨_,rfl⟩;obtain⟨sG,iJ,wY⟩:=jS g 155 ps (i+1) w.drew aS hg (by rw[Wt,hcs];omega);rw[<-Zd]at iJ;have PN:sG.toList.length=cap:=by rw[wY];simp;omega
 have yx:sG.size=cap:=by simpa using PN
 have hv1:W1.cell? ⟨vb,0,O⟩=M r.p:=by
  rw[Zd,World.cell?_setCells_out _ _ _ _ _ (fun h _=>absurd h hne)];have:w.cell? ⟨vb,0,O⟩=M r.p:=by simp[World.cell?,hv]
  exact this
 have hcp2:∀ty dc,(Builtin.copy_ #[135,135] ty #[Z (M ⟨g,i,O⟩) (rs.length+1-i) dc,Z (M ⟨vb,0,O⟩) 1 1]).run K W1= .ok (goInt 1) (W1.setCells g i [r.p]):=fun ty dc=>
  AdE W1 _ _ ty 155 g i (rs.length+1-i) dc ⟨vb,0,O⟩ 1 1 [r.p] underlying135 jW (by simp only[Nat.min_def,Abg];split<;>omega)
   (fun j v hj=>by
    cases j with
    |zero=>simp at hj;subst hj;simpa[Addr.add]using hv1
    |succ j=>simp at hj)
   (fun j hj=>by rw[(iG iJ _).1];simp at hj ⊢;rw[yx];omega) (fun j hj=>(iG iJ _).2) (fun u hu=>by simp at hu;subst hu;rfl)
 obtain⟨Nk,kR,Wn⟩:=jS g 155 [r.p] i W1 sG iJ (by simp;omega)
 have HOWN:Hid (lJ w (W1.setCells g i [r.p]) (Z (M ⟨g,0,O⟩) rs.length cap) (Z (M ⟨g,0,O⟩) (rs.length+1) cap) rs i r):=by
  have jY:Og w (W1.setCells g i [r.p]) g:=by rw[Zd];exact Og.cells g _ _ (Og.cells g _ _ ((Og.refl w g).aN (bB (aL.refl w) 1)))
  refine⟨⟨by simp,Aab ⟨g,cap,Nk,?_,Aap _,kR,?_,hm,?_,?_⟩⟩,⟨jY.2.1,jY.2.2.1,jY.2.2.2,jY.1.1,fun k hk hn=>jY.1.2 k hk (fun e=>hn (by rw[e];rfl))⟩,Aac rfl⟩
  ·have:(rs.take i++r::rs.drop i).length=rs.length+1:=(by simp;omega);rw[this]
  ·simp;omega
  ·have:Nk.toList.length=cap:=(by rw[Wn];simp;omega);simpa using this
  ·have e0:(rs.take i++r::rs.drop i).length=rs.length+1:=(by simp;omega);have e1:(aS.toList.take (i+1)).length=i+1:=(by rw[Aaw,TH];omega);have e2:sG.toList.take i=aS.toList.take i:=(by rw[wY,AaJ,Acs (by rw[e1];omega),AcI,Ady (by omega)]);have e3:sG.toList.drop (i+1)=ps++aS.toList.drop (i+1+ps.length):=(by rw[wY,AaJ,List.drop_left' e1]);have e4:(aS.toList.take i).length=i:=(by rw[Aaw,TH];omega);rw[e0,Adp,Wn,Abg,e2,e3,IX _ _ _ _ i rs.length e4 Wt (by omega),Abb,AaK,NJ];congr 1;rw[AbB,<-Vv,AcI,Ady (by omega)]
 rw[<-Zd]at hcp1;have j1:(0:Int)<=(i:Int):=by omega
 have j2:(i:Int)<=(rs.length:Int):=by omega
 have j3:¬((i:Int)=(rs.length:Int)):=by omega
 have j4:¬(cap:Int)<(rs.length:Int)+1:=by omega
 have j5:((i:Int)+1).toNat=i+1:=by omega
 have j6:((rs.length:Int)+1).toNat=rs.length+1:=by omega
 have j7:(0:Int)<=(i:Int)+1:=by omega
 have iY:IntKind.i64.wrap ((i:Int)+1)=(i:Int)+1:=by rw[AaE];unfold maxLen at hm;omega
 have j8:(i:Int)+1<=(rs.length:Int)+1:=by omega
 have j9:¬cap=i+1:=by omega
 have j10:¬cap=i:=by omega
 have j11:(rs.length:Int)+1<=(cap:Int):=by omega
 have j12:(0:Int)<=(rs.length:Int)+1:=by omega
 have j13:(i:Int)<=(rs.length:Int)+1:=by omega
 clear Zd iJ wY NJ Vv hc iU hg h kR Wn hv1 hv;go_enter func213,ntmps213;go_wp2_with (simp only[hov])
 go_region_law (refine step_copy_runI rfl _ _ 135 135 rfl _ _ (by simp[Act.eval,Act.put];done) (by simp[Act.eval,Act.put];done) (hcp1 _ _ _) ?_)
 go_wp2_with (at_builtin;refine wpList_copy_runI _ rfl _ _ 135 135 rfl _ _ rfl rfl (hcp2 _ _) ?_);go_ret;exact⟨_,rfl,HOWN.out⟩
theorem IY {cap:Nat}(h:iA w (Z (M ⟨g,0,O⟩) rs.length cap) rs)(hi:i<rs.length)(tC:cap<rs.length+1)(hv:w.heap[vb]?=M (C #[r.p] 155 (0,0)))(hl:rs.length<=1000000):
 H K 213 #[Z (M ⟨g,0,O⟩) rs.length cap,I V (i:Int),Z (M ⟨vb,0,O⟩) 1 1] w fun e w'=> ∃v',e=G v'/\lJ w w' (Z (M ⟨g,0,O⟩) rs.length cap) v' rs i r:=by
 obtain⟨ao,nH,e,iI,hm,-,iU⟩:=iA.form h;cases e
 obtain⟨g',aS,e,hg,hcs,Vv,hc⟩:=iU _ rfl;cases e
 obtain⟨i0,hi0,oG,nM,oP⟩:=AaW Tryz.infoPtr;have jW:(Tryz.prog.info? 155).map (·.size)=M 1:=by rw[hi0];simp[nM]
 have bP:=aM hg;have hvl:=aM hv;obtain⟨ps,NJ⟩:∃ps,ps=(rs.drop i).map FR.p:=⟨_,rfl⟩;have Wt:ps.length=rs.length-i:=by rw[NJ];simp
 obtain⟨hd,hhd⟩:∃hd,hd=(rs.take i).map FR.p:=⟨_,rfl⟩;have hhl:hd.length=i:=by rw[hhd];simp;omega
 have h1c:∀u∈ps,u.oneCell'=true:=by
  intro u hu;rw[NJ]at hu;obtain⟨x,_,rfl⟩:=AaY.1 hu;rfl
 have hold:(Builtin.firstCells i0.size i (Z (M ⟨g,0,O⟩) i cap)).run K w.drew= .ok hd.toArray w.drew:=by
  rw[nM]
  exact run_firstCells_some w.drew 1 i ⟨g,0,O⟩ i cap hd (by rw[hhl];omega) (fun j v hj=>by
   rw[Adg,Ach];rw[hhd,Abk,AbC]at hj;split at hj
   ·cases hr:rs[j]? with
    |none=>rw[hr]at hj;simp at hj
    |some q=>rw[hr]at hj;simp at hj;subst hj;exact hc _ _ hr
   ·simp at hj)
 have Sr:i+(rs.length+1-i)=rs.length+1:=by omega
 have hkk:(rs.length:Int)+1-(i:Int)=((rs.length+1-i:Nat):Int):=by omega
 obtain⟨aB,hG⟩:∃aB,aB=grownCap w (rs.length+1) cap 155:=⟨_,rfl⟩;obtain⟨ROW,hROW⟩:∃ROW:Array Y,ROW=hd.toArray++Builtin.zeroCells (Value.pointer O).cells (rs.length+1-i)++Builtin.zeroCells (Value.pointer O).cells (aB-(rs.length+1)):=⟨_,rfl⟩;obtain⟨W1,Zd⟩:∃W1,W1=w.drew.alloc (C ROW 155):=⟨_,rfl⟩
 have hrz:∀ty,(Builtin.append_ #[135,3] ty #[Z (M ⟨g,0,O⟩) i cap,I V ((rs.length:Int)+1-(i:Int))]).run K w= .ok (Z (M ⟨w.heap.size,0,O⟩) (rs.length+1) aB) W1:=fun ty=>by
  have hq:=Lib.run_append_grow_zeros w 135 3 ty 155 i0 _ V V underlying135 underlying3 hi0 oG (M ⟨g,0,O⟩) i cap hd hold (rs.length+1-i) (by omega) (by omega) (by omega) (by omega) (by rw[oP];omega) (by rw[oP,Sr];exact growslice_fits tC (by omega));rw[Sr]at hq;rw[hkk,hq,Zd,hROW,hG]
 have hGn:rs.length+1<=aB:=by rw[hG];exact grownCap_ge w _ _ _
 have hGm:aB<=maxLen:=by rw[hG];exact grownCap_le_maxLen w (rs.length+1) cap 155 (by unfold maxLen;omega)
 have hRl:ROW.size=aB:=by
  rw[hROW];simp[Builtin.zeroCells,Value.cells];omega
 have hRt:ROW.toList.take i=hd:=by
  rw[hROW];simp only[AcZ,AaJ];rw[Adc hhl]
 have iJ:W1.heap[w.heap.size]?=M (C ROW 155 (0,0)):=by rw[Zd];exact Aaf w.drew _
 have EZ:Below w.heap.size w W1:=by rw[Zd];exact aQ (bB (aL.refl w) 1) (aP _ _)
 have hv1:W1.cell? ⟨vb,0,O⟩=M r.p:=AaB EZ (by simp[World.cell?,hv]);obtain⟨W2,UG⟩:∃W2,W2=W1.setCells w.heap.size i [r.p]:=⟨_,rfl⟩
 have hcp1:∀ty dc,(Builtin.copy_ #[135,135] ty #[Z (M ⟨w.heap.size,i,O⟩) (rs.length+1-i) dc,Z (M ⟨vb,0,O⟩) 1 1]).run K W1= .ok (goInt 1) W2:=fun ty dc=>by
  rw[UG]
  exact AdE W1 _ _ ty 155 w.heap.size i (rs.length+1-i) dc ⟨vb,0,O⟩ 1 1 [r.p] underlying135 jW (by simp only[Nat.min_def,Abg];split<;>omega)
   (fun j v hj=>by
    cases j with
    |zero=>simp at hj;subst hj;simpa[Addr.add]using hv1
    |succ j=>simp at hj)
   (fun j hj=>by rw[(iG iJ _).1];simp at hj ⊢;rw[hRl];omega) (fun j hj=>(iG iJ _).2) (fun u hu=>by simp at hu;subst hu;rfl)
 obtain⟨Nk,kR,Wn⟩:=jS w.heap.size 155 [r.p] i W1 ROW iJ (by simp;omega);rw[<-UG]at kR
 have hcs2:Nk.size=aB:=by
  have:Nk.toList.length=aB:=by rw[Wn];simp;omega
  simpa using this
 have hF2:Fr w W2 (fun b=>b=w.heap.size):=by
  rw[UG];exact(Fr.cZ EZ _).trans (Og.cells w.heap.size [r.p] i (Og.refl W1 w.heap.size)).1
 have hold2:∀j q,rs[j]?=M q->W2.cell? ⟨g,j,O⟩=M q.p:=fun j q hq=>by
  rw[UG,World.cell?_setCells_out _ _ _ _ _ (fun h _=>by simp only at h;omega)];exact AaB EZ (hc _ _ hq)
 obtain⟨W3,YE⟩:∃W3,W3=W2.drew.setCells w.heap.size (i+1) ps:=⟨_,rfl⟩
 have hcp2:∀ty dc sc,(Builtin.copy_ #[135,135] ty #[Z (M ⟨w.heap.size,i+1,O⟩) (rs.length-i) dc,Z (M ⟨g,i,O⟩) (rs.length-i) sc]).run K W2.drew= .ok (goInt ps.length) W3:=fun ty dc sc=>by
  rw[YE]
  exact AdE W2.drew _ _ ty 155 w.heap.size (i+1) (rs.length-i) dc ⟨g,i,O⟩ (rs.length-i) sc ps underlying135 jW (by rw[Wt];simp only[Nat.min_def];split<;>omega)
   (fun j v hj=>by
    rw[Adg];rw[NJ,Abk,AcB]at hj;cases hr:rs[i+j]? with
    |none=>rw[hr]at hj;simp at hj
    |some q=>rw[hr]at hj;simp at hj;subst hj;exact hold2 _ _ hr)
   (fun j hj=>by show(W2.cell? _).isSome=true;rw[(iG kR _).1];simp;rw[hcs2];omega) (fun j hj=>(iG kR _).2) h1c
 obtain⟨cur3,oK,hc3⟩:=jS w.heap.size 155 ps (i+1) W2.drew Nk kR (by rw[Wt,hcs2];omega);rw[<-YE]at oK
 have HOWN:Hid (lJ w W3 (Z (M ⟨g,0,O⟩) rs.length cap) (Z (M ⟨w.heap.size,0,O⟩) (rs.length+1) aB) rs i r):=by
  have jY:Og w W3 w.heap.size:=by
   rw[YE,UG];exact Og.cells _ _ _ ((Og.cells w.heap.size [r.p] i ((Og.refl w w.heap.size).aN EZ)).aN (bB (aL.refl _) 1))
  have e0:(rs.take i++r::rs.drop i).length=rs.length+1:=by simp;omega
  refine⟨⟨by simp,Aab ⟨w.heap.size,aB,cur3,by rw[e0],Aap _,oK,by rw[e0];exact hGn,hGm,?_,?_⟩⟩,⟨jY.2.1,jY.2.2.1,jY.2.2.2,jY.1.1,fun k hk _=>jY.1.2 k hk (fun e=>by omega)⟩,Aab fun k hk=>by simp[Value.ownBlock]at hk;omega⟩
  ·have:cur3.toList.length=aB:=(by rw[hc3];simp;omega);simpa using this
  ·have e1:(Nk.toList.take (i+1))=hd++ [r.p]:=by
    rw[Wn,AaJ,<-AaJ,hRt,Adc (by simp;omega)]
   rw[e0,Adp,hc3,e1,AaJ,IX _ _ _ _ i rs.length hhl Wt (by omega),Abb,AaK,hhd,NJ]
 have j1:(0:Int)<=(i:Int):=by omega
 have j2:(i:Int)<=(rs.length:Int):=by omega
 have j3:¬((i:Int)=(rs.length:Int)):=by omega
 have j4:(cap:Int)<(rs.length:Int)+1:=by omega
 have j5:((i:Int)+1).toNat=i+1:=by omega
 have j7:(0:Int)<=(i:Int)+1:=by omega
 have iY:IntKind.i64.wrap ((i:Int)+1)=(i:Int)+1:=by rw[AaE];omega
 have j8:(i:Int)+1<=(rs.length:Int)+1:=by omega
 have j9:¬aB=i+1:=by omega
 have j10:¬cap=i:=by omega
 have j11:¬aB=i:=by omega
 have j13:(i:Int)<=(rs.length:Int)+1:=by omega
 have j14:i<=cap:=by omega
 clear Zd UG YE iJ kR oK Wn hc3 NJ hhd Vv hc iU hg h hv1 hv hROW hRt hold hold2 hF2 EZ hkk hG;go_enter func213,ntmps213
 go_wp2_with (first
  |(at_builtin;refine Lib.wpList_append_run _ rfl _ _ _ _ rfl _ _ rfl rfl _ _ (hrz _) ?_)
  |(at_builtin;refine wpList_copy_runI _ rfl _ _ 135 135 rfl _ _ rfl rfl (hcp1 _ _) ?_))
 go_region_law (refine step_copy_runI rfl _ _ 135 135 rfl _ _ (by simp[Act.eval,Act.put];done) (by simp[Act.eval,Act.put];done) (hcp2 _ _ _) ?_)
 go_wp2
 go_ret;exact⟨_,rfl,HOWN.out⟩
theorem Ze (h:iA w v rs)(hi:i<=rs.length)(hv:w.heap[vb]?=M (C #[r.p] 155 (0,0)))(hne:v.ownBlock≠M vb)(hl:rs.length<=1000000):
 H K 213 #[v,I V (i:Int),Z (M ⟨vb,0,O⟩) 1 1] w fun e w'=> ∃v',e=G v'/\lJ w w' v v' rs i r:=by
 by_cases he:i=rs.length
 ·subst he;exact PO h hv hl
 ·obtain⟨ao,cap,rfl,iI,hm,gL,iU⟩:=iA.form h;cases ao with
  |none=>obtain⟨rfl,-⟩:=gL rfl;simp at hi he;omega
  |some a=>
   obtain⟨g,aS,rfl,hg,-⟩:=iU a rfl;by_cases tC:rs.length+1<=cap
   ·exact CB h (by omega) tC hv (fun e=>hne (by rw[e];rfl)) hl
   ·exact IY h (by omega) (by omega) hv hl
theorem mW.symm {s:FR}(h:mW r s):mW s r:=⟨fun e=>h.1 e.symm,fun g hs hr=>h.2 g hr hs⟩
theorem Kw (h:rs.Pairwise mW){j:Nat}{s:FR}(hi:rs[i]?=M r)(hj:rs[j]?=M s)(hne:i≠j):mW r s:=by
 obtain⟨li,rfl⟩:=Aae.1 hi;obtain⟨lj,rfl⟩:=Aae.1 hj;rcases Nat.lt_or_gt_of_ne hne with bP|hgt
 ·exact AaL.1 h i j li lj bP
 ·exact(AaL.1 h j i lj li hgt).symm
theorem own_lt (h:gP w r)(hg:r.v.ownBlock=M g):g<w.heap.size:=(bI.lt h.2 g hg).2
theorem Fw (rs:List FR)(k:Nat)(r:FR):plain (rs.set k r)=(plain rs).set k r.f:=by simp[plain,List.map_set]
theorem aU.Ky {k:Nat}{r':FR}(h:aU w db s fv rs)(hk:rs[k]?=M r)(hb:r'.b=r.b)(hF:Fr w w' (fun b=>b=r.b\/r.v.ownBlock=M b))(ho:w'.os=w.os/\w'.tape=w.tape/\w'.output=w.output)
 (yV:gP w' r')(hn:r'.v.ownBlock=r.v.ownBlock\/∀g,r'.v.ownBlock=M g->w.heap.size<=g):aU w' db s fv (rs.set k r')/\Dk w w' (DX db fv rs) (DX db fv (rs.set k r')):=by
 obtain⟨h1,h2,h3,h4⟩:=h;have xM:=Aai hk;have hf:=h3 r xM;obtain⟨Qu,hke⟩:=Aae.1 hk
 have hX:∀(b:Nat) (aS:Array Y) (t:TypeId) (f:Nat×Nat),t≠157->t≠5->w.heap[b]?=M (C aS t f)->¬(b=r.b\/r.v.ownBlock=M b):=by
  intro b aS t f e1 e2 hb hx;rcases hx with rfl|hx
  ·exact aZ hb hf.1 e1 rfl
  ·obtain⟨c,Rf,hc⟩:=bI.ty hf.2 hx;exact aZ hb hc e2 rfl
 have hmap:(rs.set k r').map FR.p=rs.map FR.p:=by
  rw[Adx];apply AcE;intro i;rw[Acd];by_cases hi:k=i
  ·subst hi;simp[Qu,FR.p,hb,hke]
  ·simp[hi]
 refine⟨⟨hF.at h1 (hX _ _ _ _ (by decide) (by decide) h1),?_,?_,?_⟩,?_⟩
 ·unfold iA;rw[hmap,Acg];exact bK h2 hF (fun g aS _ hc=>hX _ _ _ _ (by decide) (by decide) hc)
 ·intro q hq;obtain⟨i,hi,rfl⟩:=Abh hq;rw[Abw];by_cases Sr:k=i
  ·rw[Aad Sr];exact yV
  ·rw[Aaa Sr];have Qv:i<rs.length:=(by simpa using hi);have Cr:=Kw h4 (Aag Qv) hk (fun e=>Sr e.symm);have hq:=h3 rs[i] (Abx Qv);refine hq.fr hF (fun hx=>?_) (fun g hg hx=>?_)
   ·rcases hx with hx|hx
    ·exact Cr.1 hx
    ·obtain⟨c,Rf,hc⟩:=bI.ty hf.2 hx;exact aZ hq.1 hc (by decide) rfl
   ·rcases hx with hx|hx
    ·obtain⟨c,Rf,hc⟩:=bI.ty hq.2 hg;exact aZ hc hf.1 (by decide) hx
    ·exact Cr.2 g hg hx
 ·rw[AaL]
  have hcase:∀i (hi:i<rs.length),i≠k->mW rs[i] r':=by
   intro i hi Sr;have Cr:=Kw h4 (Aag hi) hk Sr;refine⟨by rw[hb];exact Cr.1,fun g hg uN=>?_⟩;rcases hn with hn|hn
   ·exact Cr.2 g hg (hn ▸ uN)
   ·have:=own_lt (h3 rs[i] (Abx hi)) hg;have:=hn g uN;omega
  intro i j hi hj hij;have Qv:i<rs.length:=by simpa using hi
  have rz:j<rs.length:=by simpa using hj
  rw[Abw,Abw];by_cases Sr:k=i
  ·rw[Aad Sr,Aaa (by omega)];exact(hcase j rz (by omega)).symm
  ·rw[Aaa Sr];by_cases sw:k=j
   ·rw[Aad sw];exact hcase i Qv (by omega)
   ·rw[Aaa sw];exact AaL.1 h4 i j Qv rz hij
 ·refine⟨hF.mono fun b hx=>Aab (Aab ⟨r,xM,hx⟩),ho,fun b hx=>?_⟩;rcases hx with hx|hx|⟨q,hq,hx⟩
  ·exact Aac (Aac hx)
  ·exact Aac (Aab (Aac hx))
  ·rcases Ade hq with hq|rfl
   ·exact Aac (Aab (Aab ⟨q,hq,hx⟩))
   ·rcases hx with hx|hx
    ·exact Aac (Aab (Aab ⟨r,xM,Aac (by rw[hx,hb])⟩))
    ·rcases hn with hn|hn
     ·exact Aac (Aab (Aab ⟨r,xM,Aab (hn ▸ hx)⟩))
     ·exact Aab (hn b hx)
theorem aU.setRow {w1:F}{dV:Y}{dP:List FR}(h:aU w db s fv rs)(hF1:Fr w w1 (fun b=>fv.ownBlock=M b))(Ct:w1.os=w.os/\w1.tape=w.tape/\w1.output=w.output)(iU:iA w1 dV dP)(uN:dV.ownBlock=fv.ownBlock)(YF:dP.Sublist rs)(hw':w'=w1.setCell ⟨db,1,O⟩ dV):
 aU w' db s dV dP/\Dk w w' (DX db fv rs) (DX db dV dP):=by
 obtain⟨h1,h2,h3,h4⟩:=h
 have Sz:∀b aS t f,t≠155->w.heap[b]?=M (C aS t f)->¬fv.ownBlock=M b:=fun b aS t f ht hb e=>by
  obtain⟨c,hc⟩:=jK h2 e;exact aZ hb hc ht rfl
 have Mr:w1.heap[db]?=M (jE s fv):=hF1.at h1 (Sz _ _ _ _ (by decide) h1);have Kv:w'.heap[db]?=M (jE s dV):=by rw[hw',Aaj w1 db 1 _ _ _ Mr];rfl
 have hF:Fr w w' (fun b=>b=db\/fv.ownBlock=M b):=by
  rw[hw'];exact(hF1.mono fun b e=>Aab e).trans ((Fr.set w1 ⟨db,1,O⟩ dV).mono fun b e=>Aac e)
 refine⟨⟨Kv,?_,fun r hr=>?_,h4.sublist YF⟩,?_⟩
 ·rw[hw'];exact bK iU (Fr.set w1 ⟨db,1,O⟩ dV) (fun k aS e hc hx=>aZ hc Mr (by decide) hx)
 ·have hf:=h3 r (YF.subset hr);refine hf.fr hF (fun hx=>?_) (fun k hk hx=>?_)
  ·rcases hx with hx|hx
   ·exact aZ hf.1 h1 (by decide) hx
   ·exact Sz _ _ _ _ (by decide) hf.1 hx
  ·obtain⟨c,Rf,hc⟩:=bI.ty hf.2 hk;rcases hx with hx|hx
   ·exact aZ hc h1 (by decide) hx
   ·exact Sz _ _ _ _ (by decide) hc hx
 ·refine⟨hF.mono fun b hx=>?_,?_,fun b hx=>?_⟩
  ·rcases hx with rfl|hx
   ·exact Aac rfl
   ·exact Aab (Aac hx)
  ·rw[hw'];exact Ct
  ·rcases hx with hx|hx|⟨q,hq,hx⟩
   ·exact Aac (Aac hx)
   ·exact Aac (Aab (Aac (by rw[<-uN];exact hx)))
   ·exact Aac (Aab (Aab ⟨q,YF.subset hq,hx⟩))
theorem aU.UH {w1:F}{dV:Y}(h:aU w db s fv rs)(Gr:lJ w w1 fv dV rs i r)(hr:gP w r)(Cr:∀q∈rs,mW q r)(hw':w'=w1.setCell ⟨db,1,O⟩ dV):
 aU w' db s dV (rs.take i++r::rs.drop i)/\Dk w w' (fun b=>DX db fv rs b\/b=r.b\/r.v.ownBlock=M b) (DX db dV (rs.take i++r::rs.drop i)):=by
 obtain⟨h1,h2,h3,h4⟩:=h;obtain⟨i1,i2,i3⟩:=Gr
 have Sz:∀b aS t f,t≠155->w.heap[b]?=M (C aS t f)->¬fv.ownBlock=M b:=fun b aS t f ht hb e=>by
  obtain⟨c,hc⟩:=jK h2 e;exact aZ hb hc ht rfl
 have Mr:w1.heap[db]?=M (jE s fv):=mO i2 h1 (Sz _ _ _ _ (by decide) h1);have Kv:w'.heap[db]?=M (jE s dV):=by rw[hw',Aaj w1 db 1 _ _ _ Mr];rfl
 have hF:Fr w w' (fun b=>b=db\/fv.ownBlock=M b):=by
  rw[hw'];exact((Fr.kC i2).mono fun b e=>Aab e).trans ((Fr.set w1 ⟨db,1,O⟩ dV).mono fun b e=>Aac e)
 have Ho:∀q,gP w q->gP w' q:=fun q hf=>by
  refine hf.fr hF (fun hx=>?_) (fun k hk hx=>?_)
  ·rcases hx with hx|hx
   ·exact aZ hf.1 h1 (by decide) hx
   ·exact Sz _ _ _ _ (by decide) hf.1 hx
  ·obtain⟨c,Rf,hc⟩:=bI.ty hf.2 hk;rcases hx with hx|hx
   ·exact aZ hc h1 (by decide) hx
   ·exact Sz _ _ _ _ (by decide) hc hx
 refine⟨⟨Kv,?_,fun q hq=>?_,?_⟩,?_⟩
 ·rw[hw'];exact bK i1 (Fr.set w1 ⟨db,1,O⟩ dV) (fun k aS e hc hx=>aZ hc Mr (by decide) hx)
 ·rcases Aba.1 hq with hq|hq
  ·exact Ho q (h3 q (AaX hq))
  ·rcases AaF.1 hq with rfl|hq
   ·exact Ho q hr
   ·exact Ho q (h3 q (Adz hq))
 ·have h5:(rs.take i++rs.drop i).Pairwise mW:=by rw[AbW];exact h4
  rw[Abd]at h5;rw[Abd,AbE];refine⟨h5.1,⟨fun q hq=>(Cr q (Adz hq)).symm,h5.2.1⟩,fun a ha b hb=>?_⟩;rcases AaF.1 hb with rfl|hb
  ·exact Cr a (AaX ha)
  ·exact h5.2.2 a ha b hb
 ·refine⟨hF.mono fun b hx=>?_,?_,fun b hx=>?_⟩
  ·rcases hx with rfl|hx
   ·exact Aac (Aac rfl)
   ·exact Aac (Aab (Aac hx))
  ·rw[hw'];exact⟨i2.os,i2.tape,i2.output⟩
  ·rcases hx with hx|hx|⟨q,hq,hx⟩
   ·exact Aac (Aac (Aac hx))
   ·rcases i3 with e|e
    ·exact Aac (Aac (Aab (Aac (e ▸ hx))))
    ·exact Aab (e b hx)
   ·rcases Aba.1 hq with hq|hq
    ·exact Aac (Aac (Aab (Aab ⟨q,AaX hq,hx⟩)))
    ·rcases AaF.1 hq with rfl|hq
     ·exact Aac (Aab hx)
     ·exact Aac (Aac (Aab (Aab ⟨q,Adz hq,hx⟩)))
end Go.Proofs.YtfplgfodoiiobaaGreatDoor
