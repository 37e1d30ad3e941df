/- PgM, PgN (joined). -/
import Derived.Shelf.Abstract
import Derived.Test.YtfplgfodoiiobaaGreatDoorJ12
open Option renaming none→O,some→M
open Go.Value renaming int→I,slice→Z,pointer→U
open Go.IntKind renaming i64→V
open Go.Obj renaming cells→C
open Go.Ending renaming returned→G
open Go renaming World→F,Value→Y,Calls→H
open Go.Proofs.Tryz renaming prog→K
namespace Go.Proofs.YtfplgfodoiiobaaGreatDoor
set_option maxHeartbeats 4000000
set_option maxRecDepth 100000
open Go.RowKit
variable {w w':F}{rs:List FR}{db:Nat}{s:Sc}{fv:Y}{n:Int}{ps:Nat->Addr}{b:ByteArray}
def gP (p:Addr):Y:= .iface 358 (U (M p))
def Qp (w:F)(ps:Nat->Addr):Prop:=(∀k,k<5->w.heap[k]?=M (C #[gP (ps k)] 88 (0,0)))/\∀i j,i<5->j<5->ps i=ps j->i=j
theorem Qp.cell (h:Qp w ps){k:Nat}(hk:k<5):w.cell? ⟨k,0,O⟩=M (gP (ps k)):=by simp[World.cell?,h.1 k hk]
theorem Qp.fr {X:Nat->Prop}(h:Qp w ps)(hF:Fr w w' X)(hX:∀b aQ,w.heap[b]?=M (C aQ 88 (0,0))->¬X b):Qp w' ps:=⟨fun k hk=>hF.at (h.1 k hk) (hX _ _ (h.1 k hk)),h.2⟩
theorem Qp.aM (h:Qp w ps)(hg:aK w w'):Qp w' ps:=h.fr (Fr.bT hg (fun _=>False)) (fun _ _ _=>id)
def Eh (w:F)(ps:Nat->Addr)(v:Y)(k:Nat):Prop:=∃b nm num,v= .iface 290 (U (M ⟨b,0,O⟩))/\w.heap[b]?=M (C #[.string nm,I V num,gP (ps k)] 292 (0,0))
theorem Eh.fr {X:Nat->Prop}{v:Y}{k:Nat}(h:Eh w ps v k)(hF:Fr w w' X)(hX:∀b aQ,w.heap[b]?=M (C aQ 292 (0,0))->¬X b):Eh w' ps v k:=by
 obtain⟨b,nm,num,e,hb⟩:=h;exact⟨b,nm,num,e,hF.at hb (hX _ _ hb)⟩
theorem aS.other (h:aS w db s fv rs){b:Nat}{aQ:Array Y}{t:TypeId}{f:Nat×Nat}(hb:w.heap[b]?=M (C aQ t f))(h1:t≠137)(h2:t≠155)(h3:t≠157)(h4:t≠5):¬DX db fv rs b:=fun hx=>(h.ty hx).ne hb h1 h2 h3 h4 rfl
theorem Mx (s:Sc)(hn:0<=s.after):yV s.iH s.after=(s.iH && decide (s.after<=0)):=by
 unfold yV;cases s.iH with
 |false=>rfl
 |true=>
  simp only[Bool.true_and];by_cases h:s.after=0
  ·rw[h];rfl
  ·rw[beq_eq_false_iff_ne.2 h,decide_eq_false (by omega)]
theorem Zk {nm:ByteArray}{num:Int}{g:Nat}{lb:Array Y}{R:F->Prop}(h:aS w db s fv rs)(ha:0<=s.after)(Zl:s.after<=9223372036854775807)(eg:∀(args:Array Y) (w:F),(callFunc g args).run K w= .ok (.enter g args) w)
 (hs:(dF s (plain rs)).1=true)(Na:∀w1,aS w1 db (dF s (plain rs)).2.1 fv rs->Og w w1 db->H K g lb w1 fun e w2=>e=G (.tuple #[])/\R w2):
 H K 211 #[U (M ⟨db,0,O⟩),.string nm,I V num,.func (.func g) #[] lb] w fun e w'=>e=G .nilIface/\R w':=by
 obtain⟨c0,c1,c2,c3,c4,c5,c6,c7,cf⟩:=dP h.1;have hN:=Uw c4 c5 cf ha Zl;have HD:Hid (aS w db s fv rs):=h;have HO:Hid (∀w1,aS w1 db (dF s (plain rs)).2.1 fv rs->Og w w1 db->H K g lb w1 fun e w2=>e=G (.tuple #[])/\R w2):=Na;clear Na c0 c1 c2 c3 c6 c7 cf h;cases LV:s.iH with
 |false=>
  have e1:yV s.iH s.after=false:=by rw[LV];rfl
  have e2:(dF s (plain rs)).2.1=s:=by unfold dF;rw[if_pos LV]
  rw[e1,LV]at hN;rw[e2]at HO;have dZ:=HO.out w HD.out (Og.refl w db);simp only[Bool.false_eq_true,if_false]at hN;clear e1 e2 LV c4 hs HO;go_enter Tryz.func211,Tryz.ntmps211
  go_wp2_with (first|(go_at_call 249;refine hN.mono ?_;rintro e w ⟨rfl,rfl⟩)|(go_at_fn g;refine dZ.mono ?_;rintro e w2 ⟨rfl,hR⟩))
  go_ret;exact⟨rfl,hR⟩
 |true=>
  have hpos:0<s.after:=by
   unfold dF at hs;rw[if_neg (by rw[LV];simp)]at hs;split at hs
   ·assumption
   ·cases hs
  have e1:yV s.iH s.after=false:=by rw[Mx s ha,LV,decide_eq_false (by omega)];rfl
  have e2:(dF s (plain rs)).2.1= { s with after:=s.after-1 }:=by unfold dF;rw[if_neg (by rw[LV];simp),if_pos hpos]
  rw[e1,LV]at hN;rw[e2]at HO;have dZ:=HO.out _ (HD.out.set (OZ (s.after-1) HD.out.1)) (Og.refl w db).set;simp only[Bool.false_eq_true,if_false,if_true]at hN;clear e1 e2 LV c4 c5 hs HO;go_enter Tryz.func211,Tryz.ntmps211
  go_wp2_with (first|(go_at_call 249;refine hN.mono ?_;rintro e w1 ⟨rfl,rfl⟩)|(go_at_fn g;refine dZ.mono ?_;rintro e w2 ⟨rfl,hR⟩))
  go_ret;exact⟨rfl,hR⟩
def GL (w w':F)(ps:Nat->Addr)(db:Nat)(s:Sc)(fv:Y)(rs:List FR)(v:Y):Prop:=
 Eh w' ps v 2/\∃dI dH,aS w' db (dF s (plain rs)).2.1 dI dH/\plain dH=(dF s (plain rs)).2.2/\Dk w w' (DX db fv rs) (DX db dI dH)
theorem LW {nm:ByteArray}{num:Int}{fn:Y}(h:aS w db s fv rs)(hG:Qp w ps)(ha:0<=s.after)(Zl:s.after<=9223372036854775807)(hl:rs.length<=1000000)(kV:∀f∈plain rs,okF f)(iY:(plain rs).Pairwise (fun a b=>a.1<b.1))
 (h1:0<=s.one)(h2:0<=s.rest)(h3:s.one<=9223372036854775807)(h4:s.rest<=9223372036854775807)(hs:(dF s (plain rs)).1=false):
 H K 211 #[U (M ⟨db,0,O⟩),.string nm,I V num,fn] w fun e w'=> ∃v,e=G v/\GL w w' ps db s fv rs v:=by
 obtain⟨c0,c1,c2,c3,c4,c5,c6,c7,cf⟩:=dP h.1;have hN:=Uw c4 c5 cf ha Zl
 have LV:s.iH=true:=by
  unfold dF at hs;cases e:s.iH with
  |true=>rfl
  |false=>rw[if_pos e]at hs;cases hs
 have hz:s.after<=0:=by
  unfold dF at hs;rw[if_neg (by rw[LV];simp)]at hs;split at hs
  ·cases hs
  ·omega
 have e1:yV s.iH s.after=true:=by rw[Mx s ha,LV,decide_eq_true (by omega)];rfl
 have HE:Hid (dF s (plain rs)=(false,{ s with iH:=false,aX:=false },Bp ((plain rs).map (jK s.one s.rest)))):=by
  show _=_;unfold dF;rw[if_neg (by rw[LV];simp),if_neg (by omega)]
 have HLay:Hid (Bp ((plain rs).map (jK s.one s.rest))=((plain rs).map (jK s.one s.rest)).filter (fun f=>f.2.1.size !=0)):=by
  show _=_;refine tO ?_;rw[List.pairwise_map];exact iY
 rw[e1]at hN;simp only[if_true]at hN;have Kj:aS (w.setCell ⟨db,4,O⟩ (.bool false)) db { s with iH:=false } fv rs:=h.set (OY false h.1);have hX:∀b aQ,w.heap[b]?=M (C aQ 88 (0,0))->¬b=db:=fun b aQ hb=>aW hb h.1 (by decide)
 have jh:Qp (w.setCell ⟨db,4,O⟩ (.bool false)) ps:=hG.fr (Fr.set w ⟨db,4,O⟩ _) hX;have hLo:=qz Kj hl kV h1 h2 h3 h4;have HK1:Hid (Dk w (w.setCell ⟨db,4,O⟩ (.bool false)) (DX db fv rs) (DX db fv rs)):=Dk.Jc (Fr.set w ⟨db,4,O⟩ _) ⟨rfl,rfl,rfl⟩ (Or.inl rfl);have HD1:Hid (aS (w.setCell ⟨db,4,O⟩ (.bool false)) db { s with iH:=false } fv rs):=Kj;have pW:Hid (Qp (w.setCell ⟨db,4,O⟩ (.bool false)) ps):=jh;clear h hG c0 c1 c2 c3 c4 c5 c6 c7 cf hs LV hz e1 iY kV Kj hX jh;go_enter Tryz.func211,Tryz.ntmps211
 go_wp2_with (go_at_call 249;refine hN.mono ?_;rintro e w1 ⟨rfl,rfl⟩)
 refine hLo.mono ?_;rintro e w2 ⟨rfl,dI,dH,ru,L_,VR⟩;have SN:Qp w2 ps:=pW.out.fr VR.1 (fun b aQ hb=>HD1.out.other hb (by decide) (by decide) (by decide) (by decide));have cs:=SN.cell (k:=2) (by omega);have HD2:Hid (aS w2 db { s with iH:=false } dI dH):=ru;have VS:Hid (plain dH=((plain rs).map (jK s.one s.rest)).filter (fun f=>f.2.1.size !=0)):=L_;clear ru L_;unfold gP at cs
 go_wp2_with fail
 go_ret;refine⟨_,rfl,⟨w2.heap.size,nm,num,rfl,?_⟩,dI,dH,?_,?_,?_⟩
 ·exact heap_alloc_new w2 _
 ·rw[HE.out];exact HD2.out.aM (aU _ _)
 ·rw[HE.out,VS.out,HLay.out]
 ·exact(HK1.out.trans VR).aM (aU _ _)
theorem tZ {ops:Array Oper}{o:Oper}{a:Act}{aD:Act->F->Prop}{Q:Exit->Act->F->Prop}{E:Prop}(Ir:o.guard=O)(s x:Operand)
 (ho:o.op= .call { callee:= .builtin .append,args:=#[s,x],argTypes:=#[153,153] })
 (base:Nat)(v:Y)(ys zs:List UInt8)(hs:a.eval s=v)(cZ:bB w base v ys)(ad:Addr)(m c:Nat)(hx:a.eval x=Z (M ad) m c)(hm:m=zs.length)(hr:lZ w (M ad) zs)
 (hlen:ys.length+zs.length<=1000000000)(mX:base<=w.heap.size)
 (h:∀v' w',bB w' base v' (ys++zs)->w.grownBy w' v.ownBlock->fC w v v'->aD (a.put o.dst v') w'):if Region.wanted o (yielded ops a.tmps)=true then Oper.wp K o a w aD Q else E:=by
 obtain⟨i0,hi,uZ,wE,xZ⟩:=info_parts Tryz.infoByte;subst hm;obtain⟨v',w',Kb,OP,Ls,LB⟩:=Iz (P:=K) w base 153 o.type i0 (I .u8 0) Tryz.underlying153 hi uZ wE xZ rfl v ys cZ ad zs.length c zs rfl (lZ.cells hr) (by unfold maxLen;omega) (by omega) mX;have hw:Region.wanted o (yielded ops a.tmps)=true:=by simp[Region.wanted,Ir]
 rw[if_pos hw];unfold Oper.wp execOp;simp only[ho,resolve,invoke,builtin,Sem.run_bind,Sem.run_pure,Result.andThen_ok,List.map_toArray,List.map_cons,List.map_nil,hs,hx,Kb];exact h v' w' OP Ls LB
theorem bK {P:Program}{ops:Array Oper}{o:Oper}{a:Act}{aD:Act->F->Prop}{Q:Exit->Act->F->Prop}{E:Prop}(Ir:o.guard=O)(f:FuncId)(xs:Array Operand)(ats:Array TypeId)
 (ho:o.op= .call { callee:= .value (.func f),args:=xs,argTypes:=ats })(args:Array Y)(VT:xs.map a.eval=args)(he:∀(args:Array Y) (w:F),(callFunc f args).run P w= .ok (.enter f args) w)
 (hc:H P f args w fun e w'=> ∃v,e=G v/\aD (a.put o.dst v) w'):if Region.wanted o (yielded ops a.tmps)=true then Oper.wp P o a w aD Q else E:=by
 have hw:Region.wanted o (yielded ops a.tmps)=true:=by simp[Region.wanted,Ir]
 rw[if_pos hw];unfold Oper.wp;simp only[execOp,ho]
 have hr:Sem.run P (do
  let d <-resolve a.eval { callee:=Callee.value (Operand.func f),args:=xs,argTypes:=ats } o.type
  invoke d.target d.args) w= .ok (.enter f args) w:=by
  simp[resolve,invoke,VT,he,Act.eval,Deferred.ofValue]
 rw[hr];simp only[Oper.upon];refine hc.mono ?_;rintro e w' ⟨v,rfl,hk⟩;exact hk
theorem Sr {l:List bE}(hs:l.Pairwise (fun a b=>a.1<b.1))(n:Int):(∀g∈l.take (dM l n),g.1<n)/\(∀g∈l.drop (dM l n),n<=g.1):=by
 have HS:=Gw hs n;constructor
 ·intro g hg;obtain⟨i,hi,rfl⟩:=List.getElem_of_mem hg;have rz:i<dM l n:=by simp at hi;omega
  have hi3:i<l.length:=by simp at hi;omega
  rw[List.getElem_take];exact(HS i _ (List.getElem?_eq_getElem hi3)).1 rz
 ·intro g hg;obtain⟨i,hi,rfl⟩:=List.getElem_of_mem hg;have hi3:dM l n+i<l.length:=by simp at hi;omega
  rw[List.getElem_drop];have:=HS (dM l n+i) _ (List.getElem?_eq_getElem hi3);by_cases h:l[dM l n+i].1<n
  ·have:=this.2 h;omega
  ·omega
theorem yX {l:List bE}(hs:l.Pairwise (fun a b=>a.1<b.1))(f:bE):iN l f=if gV l f.1 then l.set (dM l f.1) f else l.take (dM l f.1)++f::l.drop (dM l f.1):=by
 obtain⟨h1,h2⟩:=Sr hs f.1;cases hh:gV l f.1 with
 |true=>
  simp only[if_true];unfold gV at hh;cases e:l[dM l f.1]? with
  |none=>rw[e]at hh;simp at hh
  |some g=>
   rw[e]at hh;have hg:g.1=f.1:=by simpa using hh
   obtain⟨bS,Fw⟩:=List.getElem?_eq_some_iff.1 e
   have e1:l=l.take (dM l f.1)++g::l.drop (dM l f.1+1):=by
    rw[<-Fw,<-List.drop_eq_getElem_cons bS,List.take_append_drop]
   rw[List.set_eq_take_append_cons_drop,if_pos bS];have:=mY (B:=l.drop (dM l f.1+1)) h1 hg;rw[<-e1]at this;exact this
 |false=>
  simp only[Bool.false_eq_true,if_false]
  have h3:∀g∈l.drop (dM l f.1),f.1<g.1:=by
   intro g hg;have h4:=h2 g hg
   have h5:g.1≠f.1:=by
    intro e;obtain⟨i,hi,rfl⟩:=List.getElem_of_mem hg;have hi3:dM l f.1+i<l.length:=by simp at hi;omega
    rw[List.getElem_drop]at e;have hp:=Ea hs f.1;rw[hh]at hp;simp only[Bool.false_eq_true,if_false]at hp;unfold wG at hp;rw[List.findIdx?_eq_none_iff]at hp;have:=hp _ (List.getElem_mem hi3);rw[beq_eq_false_iff_ne]at this;exact this e
   omega
  have:=rZ h1 h3;rw[List.take_append_drop]at this;exact this
theorem Gz (hs:(plain rs).Pairwise (fun a b=>a.1<b.1))(n:Int):eF (plain rs) n=if gV (plain rs) n then (rs[dM (plain rs) n]?).map FR.f else O:=by
 rw[<-Dt,Ea hs];cases gV (plain rs) n with
 |true=>simp[plain]
 |false=>rfl
theorem Zm (hs:(plain rs).Pairwise (fun a b=>a.1<b.1)){r:FR}(hh:gV (plain rs) n=true)(hr:rs[dM (plain rs) n]?=M r)(b:ByteArray):lU (plain rs) n b=(n,r.f.2.1++b,r.f.2.2):=by
 unfold lU;rw[Gz hs,hh,hr];rfl
theorem Zn (hs:(plain rs).Pairwise (fun a b=>a.1<b.1))(hh:gV (plain rs) n=false)(b:ByteArray):lU (plain rs) n b=(n,b,0):=by
 unfold lU;rw[Gz hs,hh];rfl
def VU (w w':F)(db:Nat)(s:Sc)(fv:Y)(rs:List FR)(n:Int)(b:ByteArray):Prop:=
 ∃dI dH,aS w' db s dI dH/\plain dH=iN (plain rs) (lU (plain rs) n b)/\Dk w w' (DX db fv rs) (DX db dI dH)
theorem VW {w5:F}{i:Nat}{v5:Y}{r:FR}(h:aS w db s fv rs)(hs:(plain rs).Pairwise (fun a b=>a.1<b.1))(hh:gV (plain rs) n=true)(hi:i=dM (plain rs) n)(hr:rs[i]?=M r)(hn:r.f.1=n)
 (cZ:bB w5 0 v5 (r.f.2.1.data.toList++b.data.toList))(hg:w.grownBy w5 r.v.ownBlock)(LB:fC w r.v v5):VU w (w5.setCell ⟨r.b,1,O⟩ v5) db s fv rs n b:=by
 subst hi;have hf:=h.2.2.1 r (List.mem_of_getElem? hr)
 have PN:∀g,r.v.ownBlock=M g->g≠r.b:=fun g hg e=>by
  obtain⟨c,Ki,hc⟩:=bB.ty hf.2 hg;exact aW hc hf.1 (by decide) e
 have h5:w5.heap[r.b]?=M (nU r):=lT hg hf.1 (fun e=>PN _ e rfl)
 have hvb:∀g,v5.ownBlock=M g->g≠r.b:=fun g dY e=>by
  obtain⟨c,Ki,hc⟩:=bB.ty cZ dY;exact aW hc h5 (by decide) e
 have hF:Fr w (w5.setCell ⟨r.b,1,O⟩ v5) (fun b=>b=r.b\/r.v.ownBlock=M b):=
  ((Fr.jC hg).mono fun b e=>Or.inr e).trans ((Fr.set w5 ⟨r.b,1,O⟩ v5).mono fun b e=>Or.inl e)
 have Aw:eY (w5.setCell ⟨r.b,1,O⟩ v5) (r.b,v5,(n,r.f.2.1++b,r.f.2.2)):=by
  refine⟨?_,?_⟩
  ·show(w5.setCell ⟨r.b,1,O⟩ v5).heap[r.b]?=_;rw[heap_setCell_same w5 r.b 1 _ _ _ h5,<-hn];rfl
  ·show bB _ 0 v5 (r.f.2.1++b).data.toList;rw[gI];exact cZ.fr (Fr.set w5 ⟨r.b,1,O⟩ v5) (fun g hg e=>hvb g hg e)
 obtain⟨p1,p2⟩:=h.Ef (r':=(r.b,v5,(n,r.f.2.1++b,r.f.2.2))) hr rfl hF ⟨hg.os,hg.tape,hg.output⟩ Aw LB;refine⟨fv,_,p1,?_,p2⟩;have e1:(lU (plain rs) n b).1=n:=by rw[Zm hs hh hr]
 rw[Ab,yX hs,e1,hh,if_pos rfl,Zm hs hh hr];rfl
theorem Zo {b0 b1 b2 Jr:Nat}{ad:Addr}(h:aS w db s fv rs)(hs:(plain rs).Pairwise (fun a b=>a.1<b.1))(hl:rs.length<=1000000)(hz:∀f∈plain rs,f.2.1.size<=2000000)(hb:b.size<=2000000)
 (c0:w.cell? ⟨b0,0,O⟩=M (U (M ⟨db,0,O⟩)))(c1:w.cell? ⟨b1,0,O⟩=M (I V n))(c2:w.cell? ⟨b2,0,O⟩=M (Z (M ad) b.size Jr))(hr:lZ w (M ad) b.data.toList)(hh:gV (plain rs) n=true):
 H K 212 #[U (M ⟨b0,0,O⟩),U (M ⟨b1,0,O⟩),U (M ⟨b2,0,O⟩)] w fun e w'=>e=G (.tuple #[])/\VU w w' db s fv rs n b:=by
 have hF:=wO (n:=n) h hs hl;obtain⟨-,d1,-⟩:=dP h.1;obtain⟨ao,cap,rfl,gG,hm,gJ,gW⟩:=fJ.form h.2.1;obtain⟨r,He,hn⟩:=tY hh;have HD:Hid (aS w db s (Z ao rs.length cap) rs):=h;have HS:Hid ((plain rs).Pairwise (fun a b=>a.1<b.1)):=hs;have HH:Hid (gV (plain rs) n=true):=hh;rw[hh]at hF;have bS:=(List.getElem?_eq_some_iff.1 He).1;have Sq:=h.2.2.1 r (List.mem_of_getElem? He);obtain⟨f0,f1,f2,ff⟩:=fO Sq.1;have hzr:r.f.2.1.size<=2000000:=hz _ (List.mem_of_getElem? (iL He));cases ao with
 |none=>obtain⟨rfl,-⟩:=gJ rfl;simp at bS
 |some a=>
  obtain⟨g,aQ,rfl,-,-,-,hc⟩:=gW a rfl;have k1:=hc _ r He;unfold FR.p at k1;obtain⟨LP,Ec,ev,-⟩:=bB.form Sq.2;have iU:r.f.2.1.data.toList.length=r.f.2.1.size:=rfl;rw[iU]at ev;have xV:=Sq.2;have HV:Hid (r.v=Z LP r.f.2.1.size Ec):=ev;have VX:Hid (rs[dM (plain rs) n]?=M r):=He;rw[ev]at f1 xV;obtain⟨lo,ji⟩:∃lo,lo=dM (plain rs) n:=⟨_,rfl⟩;have HLO:Hid (lo=dM (plain rs) n):=ji;rw[<-ji]at hF bS k1
  have HRB:Hid (∀(w5:F),w.grownBy w5 (Value.slice LP r.f.2.1.size Ec).ownBlock->w5.heap[r.b]?=M (nU r)):=fun w5 hg=>lT hg Sq.1 (fun e=>by
   rw[<-ev]at e;obtain⟨c,Ki,hc⟩:=bB.ty Sq.2 e;exact aW Sq.1 hc (by decide) rfl)
  have i1:(0:Int)<=(lo:Int):=by omega
  have i2:(lo:Int)<(rs.length:Int):=by omega
  have HLN:Hid ((r.f.2.1.data.toList++b.data.toList).length=r.f.2.1.size+b.size):=by show _=_;rw[List.length_append];rfl
  clear h hs hh gW gJ hc He ji Sq ev hz ff iU;go_enter Tryz.func212,Tryz.ntmps212
  go_wp2_with fail
  refine hF.mono ?_;rintro e w ⟨rfl,rfl⟩
  go_wp2_with fail
  go_region_law ((refine tZ (by rfl) (.tmp 38) (.tmp 39) (by rfl) 0 (Z LP r.f.2.1.size Ec) r.f.2.1.data.toList b.data.toList (by rfl) (by exact xV) ad b.size Jr (by rfl) (by rfl) (by exact hr) (by show r.f.2.1.size+b.size<=_;omega) (Nat.zero_le _) ?_;intro v5 w5 lH dY wL;have yF:w.grownBy w5 (Value.slice LP r.f.2.1.size Ec).ownBlock:=⟨dY.os,dY.tape,dY.output,dY.size,dY.block⟩;have ED:=HRB.out w5 yF;obtain⟨-,x1,-,xf⟩:=fO ED;have xf1:=xf 1;clear xf;obtain⟨jg,tF,ev5,-⟩:=bB.form lH;rw[HLN.out]at ev5;subst ev5))
  all_goals go_wp2_with fail
  all_goals go_end0
  all_goals exact⟨rfl,VW HD.out HS.out HH.out rfl VX.out hn lH (by rw[HV.out];exact yF) (by rw[HV.out];exact wL)⟩
theorem Zp:∀(args:Array Y) (w:F),(callFunc 213 args).run K w= .ok (.enter 213 args) w:=enters_of Tryz.func213 (by kernel_rfl) rfl
theorem si {W w5 w7:F}{lo fb:Nat}{v5 v7:Y}(h:aS w db s fv rs)(hs:(plain rs).Pairwise (fun a b=>a.1<b.1))(hh:gV (plain rs) n=false)(ji:lo=dM (plain rs) n)(hfb:w.heap.size<=fb)
 (hg:aK w W)(Eg:jB W w5 fv v5 rs lo (fb,Z O 0 0,(n,⟨#[]⟩,0)))(hf:W.heap[fb]?=M (nU (fb,Z O 0 0,(n,⟨#[]⟩,0))))
 (cZ:bB w7 0 v7 b.data.toList)(jG:(w5.setCell ⟨db,1,O⟩ v5).grownBy w7 O)(LB:fC (w5.setCell ⟨db,1,O⟩ v5) (Z O 0 0) v7):VU w (w7.setCell ⟨fb,1,O⟩ v7) db s fv rs n b:=by
 have hD:=h.aM hg;have hlen:lo<=rs.length:=by rw[ji];have:=Dz (plain rs) n;rwa[bG]at this
 obtain⟨p1,p2⟩:=hD.LU (r:=(fb,Z O 0 0,(n,⟨#[]⟩,0))) Eg ⟨hf,bB.nil W 0⟩ (fun q hq=>⟨fun e=>by
  have:=aL (h.2.2.1 q hq).1;have e':q.b=fb:=e;omega,fun g _ hx=>by simp[FR.v,Value.ownBlock]at hx⟩) rfl
 have hk:(rs.take lo++(fb,Value.slice O 0 0,(n,(⟨#[]⟩:ByteArray),(0:Int)))::rs.drop lo)[lo]?=M (fb,Z O 0 0,(n,⟨#[]⟩,0)):=by
  rw[List.getElem?_append_right (by simp;omega)];simp[Nat.min_eq_left hlen]
 have EF:=p1.2.2.1 _ (List.mem_of_getElem? hk);have h7:w7.heap[fb]?=M (nU (fb,Z O 0 0,(n,⟨#[]⟩,0))):=lT jG EF.1 (fun e=>by cases e)
 have hvb:∀g,v7.ownBlock=M g->g≠fb:=fun g dY e=>by
  obtain⟨c,Ki,hc⟩:=bB.ty cZ dY;exact aW hc h7 (by decide) e
 have Aw:eY (w7.setCell ⟨fb,1,O⟩ v7) (fb,v7,(n,b,0)):=by
  refine⟨?_,?_⟩
  ·show(w7.setCell ⟨fb,1,O⟩ v7).heap[fb]?=_;rw[heap_setCell_same w7 fb 1 _ _ _ h7];rfl
  ·exact cZ.fr (Fr.set w7 ⟨fb,1,O⟩ v7) (fun g hg e=>hvb g hg e)
 have hF:Fr (w5.setCell ⟨db,1,O⟩ v5) (w7.setCell ⟨fb,1,O⟩ v7) (fun b=>b=FR.b (fb,Value.slice O 0 0,(n,(⟨#[]⟩:ByteArray),(0:Int)))\/(FR.v (fb,Value.slice O 0 0,(n,(⟨#[]⟩:ByteArray),(0:Int)))).ownBlock=M b):=
  ((Fr.jC jG).mono fun b e=>by cases e).trans ((Fr.set w7 ⟨fb,1,O⟩ v7).mono fun b e=>Or.inl e)
 obtain⟨q1,q2⟩:=p1.Ef (r':=(fb,v7,(n,b,0))) hk rfl hF ⟨jG.os,jG.tape,jG.output⟩ Aw LB;refine⟨v5,_,q1,?_,?_⟩
 ·have e1:(lU (plain rs) n b).1=n:=by rw[Zn hs hh]
  have GD:(rs.take lo).length=lo:=by rw[List.length_take];omega
  rw[yX hs,e1,hh,if_neg (by simp),Zn hs hh,List.set_append_right _ _ (by rw[GD];exact Nat.le_refl _),GD,Nat.sub_self,<-ji];simp[plain,FR.f]
 ·have k1:=p2.trans q2;refine⟨?_,?_,fun b hb=>?_⟩
  ·refine⟨Nat.le_trans hg.size k1.1.1,fun b hb hn=>?_⟩;rw[<-hg.block b hb];refine k1.1.2 b (Nat.lt_of_lt_of_le hb hg.size) (fun hx=>?_);rcases hx with hx|hx|hx
   ·exact hn hx
   ·have e':b=fb:=hx;omega
   ·simp[FR.v,Value.ownBlock]at hx
  ·exact⟨k1.2.1.1.trans hg.os,k1.2.1.2.1.trans hg.tape,k1.2.1.2.2.trans hg.output⟩
  ·rcases k1.2.2 b hb with(hx|hx|hx)|hx
   ·exact Or.inl hx
   ·have e':b=fb:=hx;exact Or.inr (by omega)
   ·simp[FR.v,Value.ownBlock]at hx
   ·exact Or.inr (Nat.le_trans hg.size hx)
theorem VY (w:F)(o1 o2:Obj):aK w ((w.alloc o1).alloc o2).drew:=aK.drew (aK.alloc (aK.alloc (aK.refl w) _) _)
theorem LX (w:F)(o1 o2:Obj):((w.alloc o1).alloc o2).drew.heap[w.heap.size]?=M o1:=by
 show((w.alloc o1).alloc o2).heap[w.heap.size]?=M o1;rw[Below.heap_alloc (w.alloc o1) o2 _ (by simp)];exact heap_alloc_new w o1
theorem X_ (w:F)(o1 o2:Obj):((w.alloc o1).alloc o2).drew.heap[w.heap.size+1]?=M o2:=by
 show((w.alloc o1).alloc o2).heap[w.heap.size+1]?=M o2;have:=heap_alloc_new (w.alloc o1) o2;rwa[World.size_alloc]at this
theorem Zq {b0 b1 b2 Jr:Nat}{ad:Addr}(h:aS w db s fv rs)(hs:(plain rs).Pairwise (fun a b=>a.1<b.1))(hl:rs.length<=1000000)(hb:b.size<=2000000)
 (c0:w.heap[b0]?=M (C #[U (M ⟨db,0,O⟩)] 77 (0,0)))(c1:w.heap[b1]?=M (C #[I V n] 3 (0,0)))(c2:w.heap[b2]?=M (C #[Z (M ad) b.size Jr] 153 (0,0)))(hr:lZ w (M ad) b.data.toList)(Nb:∃aQ f,w.heap[ad.block]?=M (C aQ 5 f))(hh:gV (plain rs) n=false):
 H K 212 #[U (M ⟨b0,0,O⟩),U (M ⟨b1,0,O⟩),U (M ⟨b2,0,O⟩)] w fun e w'=>e=G (.tuple #[])/\VU w w' db s fv rs n b:=by
 have hF:=wO (n:=n) h hs hl;obtain⟨-,d1,-⟩:=dP h.1;obtain⟨ao,cap,rfl,gG,hm,gJ,gW⟩:=fJ.form h.2.1;have HD:Hid (aS w db s (Z ao rs.length cap) rs):=h;have HS:Hid ((plain rs).Pairwise (fun a b=>a.1<b.1)):=hs;have HH:Hid (gV (plain rs) n=false):=hh;rw[hh]at hF;have hle:dM (plain rs) n<=rs.length:=by have:=Dz (plain rs) n;rwa[bG]at this
 obtain⟨lo,ji⟩:∃lo,lo=dM (plain rs) n:=⟨_,rfl⟩;have HLO:Hid (lo=dM (plain rs) n):=ji;rw[<-ji]at hF hle;have J_:w.cell? ⟨b0,0,O⟩=M (U (M ⟨db,0,O⟩)):=by simp[World.cell?,c0]
 have I_:w.cell? ⟨b1,0,O⟩=M (I V n):=by simp[World.cell?,c1]
 have Sv:∀g,(Value.slice ao rs.length cap).ownBlock=M g->∃aQ,w.heap[g]?=M (C aQ 155 (0,0)):=fun g hg=>jE h.2.1 hg
 have HI:Hid (∀W:F,aK w W->W.heap[w.heap.size]?=M (nU (w.heap.size,Z O 0 0,(n,⟨#[]⟩,0)))->W.heap[w.heap.size+1]?=M (C #[U (M ⟨w.heap.size,0,O⟩)] 155 (0,0))->
  H K 213 #[Z ao rs.length cap,I V (lo:Int),Z (M ⟨w.heap.size+1,0,O⟩) 1 1] W fun e w'=> ∃v',e=G v'/\jB W w' (Z ao rs.length cap) v' rs lo (w.heap.size,Z O 0 0,(n,⟨#[]⟩,0))):=fun W hW _ h2=>
  Sm (r:=(w.heap.size,Z O 0 0,(n,⟨#[]⟩,0))) (HD.out.aM hW).2.1 hle h2 (fun e=>by
   obtain⟨c,hc⟩:=Sv _ e;have:=aL hc;omega) hl
 have HB:Hid (∀(W w5:F) (v5:Y),aK w W->jB W w5 (Z ao rs.length cap) v5 rs lo (w.heap.size,Z O 0 0,(n,⟨#[]⟩,0))->W.heap[w.heap.size]?=M (nU (w.heap.size,Z O 0 0,(n,⟨#[]⟩,0)))->
  w5.heap[db]?=M (jS s (Z ao rs.length cap))/\w5.heap[b0]?=M (C #[U (M ⟨db,0,O⟩)] 77 (0,0))/\w5.heap[b2]?=M (C #[Z (M ad) b.size Jr] 153 (0,0))/\w5.heap[w.heap.size]?=M (nU (w.heap.size,Z O 0 0,(n,⟨#[]⟩,0)))/\lZ w5 (M ad) b.data.toList):=fun W w5 v5 hW Eg hf=>by
  have hne:∀(k:Nat) (aQ:Array Y) (t:TypeId),w.heap[k]?=M (Obj.cells aQ t (0,0))->t≠155->w5.heap[k]?=M (Obj.cells aQ t (0,0)):=fun k aQ t hk ht=>
   lT Eg.2.1 ((hW.block _ (aL hk)).trans hk) (fun e=>by
    obtain⟨c,hc⟩:=Sv _ e;exact aW hk hc ht rfl)
  refine⟨hne _ _ _ h.1 (by decide),hne _ _ _ c0 (by decide),hne _ _ _ c2 (by decide),lT Eg.2.1 hf (fun e=>by
   obtain⟨c,hc⟩:=Sv _ e;have:=aL hc;omega),?_⟩
  have h1:=hr.aM hW;refine h1.fr (Fr.jC Eg.2.1) (fun a e hx=>?_);cases e
  obtain⟨c,hc⟩:=Sv _ hx;obtain⟨c',f',jk⟩:=Nb;exact aW jk hc (by decide) rfl
 have HA:Hid (∀(W w5:F) (v5:Y),aK w W->jB W w5 (Z ao rs.length cap) v5 rs lo (w.heap.size,Z O 0 0,(n,⟨#[]⟩,0))->W.heap[w.heap.size]?=M (nU (w.heap.size,Z O 0 0,(n,⟨#[]⟩,0)))->
  ∃g5 tF,v5=Z (M ⟨g5,0,O⟩) (rs.length+1) tF/\w5.cell? ⟨b0,0,O⟩=M (U (M ⟨db,0,O⟩))/\w5.cell? ⟨db,1,O⟩=M (Z ao rs.length cap)/\w5.frozen? ⟨db,1,O⟩=false/\((w5.setCell ⟨db,1,O⟩ v5).cell? ⟨b0,0,O⟩=M (U (M ⟨db,0,O⟩))/\(w5.setCell ⟨db,1,O⟩ v5).cell? ⟨db,1,O⟩=M v5/\(w5.setCell ⟨db,1,O⟩ v5).cell? ⟨g5,lo,O⟩=M (U (M ⟨w.heap.size,0,O⟩))/\
   (w5.setCell ⟨db,1,O⟩ v5).cell? ⟨w.heap.size,1,O⟩=M (Z O 0 0)/\(w5.setCell ⟨db,1,O⟩ v5).cell? ⟨b2,0,O⟩=M (Z (M ad) b.size Jr)/\lZ (w5.setCell ⟨db,1,O⟩ v5) (M ad) b.data.toList/\(w5.setCell ⟨db,1,O⟩ v5).heap[w.heap.size]?=M (nU (w.heap.size,Z O 0 0,(n,⟨#[]⟩,0))))):=fun W w5 v5 hW Eg hf=>by
  obtain⟨q1,q2,q3,q4,q5⟩:=HB.out W w5 v5 hW Eg hf;obtain⟨jg,tF,e5,-,-,sj,hrow5⟩:=fJ.form Eg.1;have Y_:(rs.take lo++(w.heap.size,Value.slice O 0 0,(n,(⟨#[]⟩:ByteArray),(0:Int)))::rs.drop lo).length=rs.length+1:=by simp;omega
  cases jg with
  |none=>obtain⟨e,-⟩:=sj rfl;rw[e]at Y_;simp at Y_
  |some a5=>
   obtain⟨g5,cur5,rfl,dY,-,-,hc5⟩:=hrow5 a5 rfl;rw[Y_]at e5
   have hk:(rs.take lo++(w.heap.size,Value.slice O 0 0,(n,(⟨#[]⟩:ByteArray),(0:Int)))::rs.drop lo)[lo]?=M (w.heap.size,Z O 0 0,(n,⟨#[]⟩,0)):=by
    rw[List.getElem?_append_right (by simp;omega)];simp[Nat.min_eq_left hle]
   have k1:=hc5 lo _ hk;have aF:=Fr.set w5 ⟨db,1,O⟩ v5;obtain⟨-,m1,-,-,-,-,-,-,mf⟩:=dP q1;have Kk:∀(k:Nat) (aQ:Array Y) (t:TypeId),w5.heap[k]?=M (Obj.cells aQ t (0,0))->t≠137->(w5.setCell ⟨db,1,O⟩ v5).heap[k]?=M (Obj.cells aQ t (0,0)):=fun k aQ t hk ht=>aF.at hk (fun e=>aW hk q1 ht e)
   refine⟨g5,tF,e5,by simp[World.cell?,q2],m1,mf 1,?_,?_,?_,?_,?_,?_,Kk _ _ _ q4 (by decide)⟩
   ·simp[World.cell?,Kk _ _ _ q2 (by decide)]
   ·have hdb2:(w5.setCell ⟨db,1,O⟩ v5).heap[db]?=M (jS s v5):=by rw[heap_setCell_same w5 db 1 _ _ _ q1];rfl
    exact(dP hdb2).2.1
   ·have qK:=Kk _ _ _ dY (by decide);have e6:(w5.setCell ⟨db,1,O⟩ v5).heap[g5]?=w5.heap[g5]?:=qK.trans dY.symm;exact(World.cell?_of_block (a:=⟨g5,lo,O⟩) e6).trans k1
   ·exact(fO (r:=(w.heap.size,Z O 0 0,(n,⟨#[]⟩,0))) (Kk _ _ _ q4 (by decide))).2.1
   ·simp[World.cell?,Kk _ _ _ q3 (by decide)]
   ·refine q5.fr aF (fun a e hx=>?_);cases e
    obtain⟨c',f',jk⟩:=Nb
    have hne:¬(Value.slice ao rs.length cap).ownBlock=M ad.block:=fun e=>by
     obtain⟨c,hc⟩:=Sv _ e;exact aW jk hc (by decide) rfl
    have h5:=lT Eg.2.1 ((hW.block _ (aL jk)).trans jk) hne;exact aW h5 q1 (by decide) hx
 clear hs hh gW gJ ji c0 c1 c2 Sv h hr Nb;go_enter Tryz.func212,Tryz.ntmps212
 go_wp2_with fail
 refine hF.mono ?_;rintro e w ⟨rfl,rfl⟩
 go_upto_region 2 with fail
 have a0:∀o,(w.alloc o).cell? ⟨b0,0,O⟩=M (U (M ⟨db,0,O⟩)):=fun o=>cell_later (aU _ _) J_
 have a1:∀o,(w.alloc o).cell? ⟨db,1,O⟩=M (Z ao rs.length cap):=fun o=>cell_later (aU _ _) d1
 have a2:∀o o2,((w.alloc o).alloc o2).cell? ⟨b0,0,O⟩=M (U (M ⟨db,0,O⟩)):=fun o o2=>cell_later (aU _ _) (a0 o)
 have a3:∀o o2,((w.alloc o).alloc o2).cell? ⟨db,1,O⟩=M (Z ao rs.length cap):=fun o o2=>cell_later (aU _ _) (a1 o)
 go_cut [14] (fun _ wc=> ∃(W w5:F) (g5 tF:Nat),wc=w5.setCell ⟨db,1,O⟩ (Z (M ⟨g5,0,O⟩) (rs.length+1) tF)/\Hid (aK w W)/\Hid (jB W w5 (Z ao rs.length cap) (Z (M ⟨g5,0,O⟩) (rs.length+1) tF) rs lo (w.heap.size,Z O 0 0,(n,⟨#[]⟩,0)))/\Hid (W.heap[w.heap.size]?=M (nU (w.heap.size,Z O 0 0,(n,⟨#[]⟩,0)))))
 case first=>
  go_region_law ((refine bK (by rfl) 213 _ _ (by rfl) _ (by simp[Act.eval];done) Zp ((HI.out _ (VY w _ _) (LX w _ _) (X_ w _ _)).mono ?_);rintro e w5 ⟨v5,rfl,PO⟩;refine⟨v5,rfl,?_⟩;obtain⟨g5,tF,rfl,x0,x1,x2,-⟩:=HA.out _ w5 v5 (VY w _ _) PO (LX w _ _)))
  all_goals go_wp2_with fail
  all_goals go_meet
  all_goals exact⟨_,w5,g5,tF,rfl,VY w _ _,PO,LX w _ _⟩
 case rest=>
  obtain⟨W,w5,g5,tF,rfl,Va,PO,hf5⟩:=hcut;obtain⟨g6,cap6,e6,-,-,-,y0,y1,y2,y3,y4,y5,y6⟩:=HA.out W w5 _ Va.out PO.out hf5.out;cases e6
  clear a0 a1 a2 a3 d1 J_ I_ hF;have HIN:Hid (jB W w5 (Z ao rs.length cap) (Z (M ⟨g5,0,O⟩) (rs.length+1) tF) rs lo (w.heap.size,Z O 0 0,(n,⟨#[]⟩,0))):=PO;clear PO;have HFB:Hid ((w5.setCell ⟨db,1,O⟩ (Z (M ⟨g5,0,O⟩) (rs.length+1) tF)).heap[w.heap.size]?=M (nU (w.heap.size,Z O 0 0,(n,⟨#[]⟩,0)))):=y6;clear y6;have HEQ:Hid (∃w6,w6=w5.setCell ⟨db,1,O⟩ (Z (M ⟨g5,0,O⟩) (rs.length+1) tF)):=⟨_,rfl⟩;obtain⟨w6,h6⟩:=HEQ.out;have HW6:Hid (w6=w5.setCell ⟨db,1,O⟩ (Z (M ⟨g5,0,O⟩) (rs.length+1) tF)):=h6;rw[<-h6]at y0 y1 y2 y3 y4 y5 HFB ⊢;clear h6 HEQ;have i1:(0:Int)<=(lo:Int):=by omega
  have i2:(lo:Int)<(rs.length:Int)+1:=by omega
  have HLN:Hid (([]++b.data.toList:List UInt8).length=b.size):=rfl
  go_wp2_with fail
  go_region_law ((refine tZ (by rfl) (.tmp 38) (.tmp 39) (by rfl) 0 (Z O 0 0) [] b.data.toList (by rfl) (by exact bB.nil _ 0) ad b.size Jr (by rfl) (by rfl) (by exact y5) (by show 0+b.size<=_;omega) (Nat.zero_le _) ?_;intro v7 w7 Zr jG Js;have SQ:w6.grownBy w7 O:=⟨jG.os,jG.tape,jG.output,jG.size,jG.block⟩;have Z_:=lT SQ HFB.out (fun e=>by cases e);have x1:w7.cell? ⟨w.heap.size,1,O⟩=M (Z O 0 0):=(fO (r:=(w.heap.size,Z O 0 0,(n,⟨#[]⟩,0))) Z_).2.1;have xf1:w7.frozen? ⟨w.heap.size,1,O⟩=false:=(fO (r:=(w.heap.size,Z O 0 0,(n,⟨#[]⟩,0))) Z_).2.2.2 1;obtain⟨ao7,cap7,ev7,-⟩:=bB.form Zr;rw[HLN.out]at ev7;subst ev7))
  all_goals go_wp2_with fail
  all_goals go_end0
  all_goals refine⟨rfl,si HD.out HS.out HH.out HLO.out (Nat.le_refl _) Va.out HIN.out hf5.out (by simpa using Zr) (by rw[<-HW6.out];exact SQ) (by rw[<-HW6.out];exact Js)⟩
end Go.Proofs.YtfplgfodoiiobaaGreatDoor
