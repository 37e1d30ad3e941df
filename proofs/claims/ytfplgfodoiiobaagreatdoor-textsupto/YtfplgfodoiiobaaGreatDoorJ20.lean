/- PgN, PgO (joined). -/
import Derived.Test.YtfplgfodoiiobaaGreatDoorJ19
open Option renaming none→O,some→M
open Go.Value renaming int→I,slice→Z,pointer→U
open Go.IntKind renaming i64→V
open Go.Obj renaming cells→C
open Go.Ending renaming returned→G
open Go renaming World→F,Value→Y,Calls→H
open Go.Proofs.Tryz renaming prog→K
namespace Go.Proofs.YtfplgfodoiiobaaGreatDoor
set_option maxHeartbeats 4000000
set_option maxRecDepth 100000
open Go.RowKit
variable {n:Int}{rs:List FR}{w:F}{s:Sc}{db:Nat}{fv:Y}{b:ByteArray}{ad:Addr}
theorem xR {ops:Array Oper}{o:Oper}{a:Act}{aH:Act->F->Prop}{Q:Exit->Act->F->Prop}{E:Prop}(qE:o.guard=O)(s x:Operand)
 (ho:o.op= .call { callee:= .builtin .append,args:=#[s,x],argTypes:=#[153,153] })
 (base:Nat)(v:Y)(ys zs:List UInt8)(hs:a.eval s=v)(bA:dI w base v ys)(ad:Addr)(m c:Nat)(hx:a.eval x=Z (M ad) m c)(hm:m=zs.length)(hr:qQ w (M ad) zs)
 (hlen:ys.length+zs.length<=1000000000)(iI:base<=w.heap.size)
 (h:∀v' w',dI w' base v' (ys++zs)->w.grownBy w' v.ownBlock->gT w v v'->aH (a.put o.dst v') w'):if Region.wanted o (yielded ops a.tmps)=true then Oper.wp K o a w aH Q else E:=by
 obtain⟨i0,hi,nN,nO,oM⟩:=info_parts Tryz.infoByte;subst hm;obtain⟨v',w',tO,Uw,zG,CF⟩:=Mx (P:=K) w base 153 o.type i0 (I .u8 0) Tryz.underlying153 hi nN nO oM rfl v ys bA ad zs.length c zs rfl (qQ.cells hr) (by unfold maxLen;omega) (by omega) iI;have hw:Region.wanted o (yielded ops a.tmps)=true:=by simp[Region.wanted,qE]
 rw[if_pos hw];unfold Oper.wp execOp;simp only[ho,resolve,invoke,builtin,Sem.run_bind,Sem.run_pure,Result.andThen_ok,List.map_toArray,List.map_cons,List.map_nil,hs,hx,tO];exact h v' w' Uw zG CF
theorem eD {P:Program}{ops:Array Oper}{o:Oper}{a:Act}{aH:Act->F->Prop}{Q:Exit->Act->F->Prop}{E:Prop}(qE:o.guard=O)(f:FuncId)(xs:Array Operand)(ats:Array TypeId)
 (ho:o.op= .call { callee:= .value (.func f),args:=xs,argTypes:=ats })(args:Array Y)(Ry:xs.map a.eval=args)(he:∀(args:Array Y) (w:F),(callFunc f args).run P w= .ok (.enter f args) w)
 (hc:H P f args w fun e w'=> ∃v,e=G v/\aH (a.put o.dst v) w'):if Region.wanted o (yielded ops a.tmps)=true then Oper.wp P o a w aH Q else E:=by
 have hw:Region.wanted o (yielded ops a.tmps)=true:=by simp[Region.wanted,qE]
 rw[if_pos hw];unfold Oper.wp;simp only[execOp,ho]
 have hr:Sem.run P (do
  let d <-resolve a.eval { callee:=Callee.value (Operand.func f),args:=xs,argTypes:=ats } o.type
  invoke d.target d.args) w= .ok (.enter f args) w:=by
  simp[resolve,invoke,Ry,he,Act.eval,Deferred.ofValue]
 rw[hr];simp only[Oper.upon];refine hc.mono ?_;rintro e w' ⟨v,rfl,hk⟩;exact hk
theorem Xg {l:List bE}(hs:l.Pairwise (fun a b=>a.1<b.1))(n:Int):(∀g∈l.take (fK l n),g.1<n)/\(∀g∈l.drop (fK l n),n<=g.1):=by
 have HS:=Lg hs n;constructor
 ·intro g hg;obtain⟨i,hi,rfl⟩:=List.getElem_of_mem hg;have hi2:i<fK l n:=by simp at hi;omega
  have hi3:i<l.length:=by simp at hi;omega
  rw[List.getElem_take];exact(HS i _ (List.getElem?_eq_getElem hi3)).1 hi2
 ·intro g hg;obtain⟨i,hi,rfl⟩:=List.getElem_of_mem hg;have hi3:fK l n+i<l.length:=by simp at hi;omega
  rw[List.getElem_drop];have:=HS (fK l n+i) _ (List.getElem?_eq_getElem hi3);by_cases h:l[fK l n+i].1<n
  ·have:=this.2 h;omega
  ·omega
theorem Rz {l:List bE}(hs:l.Pairwise (fun a b=>a.1<b.1))(f:bE):mQ l f=if kC l f.1 then l.set (fK l f.1) f else l.take (fK l f.1)++f::l.drop (fK l f.1):=by
 obtain⟨h1,h2⟩:=Xg hs f.1;cases hh:kC l f.1 with
 |true=>
  simp only[if_true];unfold kC at hh;cases e:l[fK l f.1]? with
  |none=>rw[e]at hh;simp at hh
  |some g=>
   rw[e]at hh;have hg:g.1=f.1:=by simpa using hh
   obtain⟨bT,Oe⟩:=List.getElem?_eq_some_iff.1 e
   have e1:l=l.take (fK l f.1)++g::l.drop (fK l f.1+1):=by
    rw[<-Oe,<-List.drop_eq_getElem_cons bT,List.take_append_drop]
   rw[List.set_eq_take_append_cons_drop,if_pos bT];have:=pQ (B:=l.drop (fK l f.1+1)) h1 hg;rw[<-e1]at this;exact this
 |false=>
  simp only[Bool.false_eq_true,if_false]
  have h3:∀g∈l.drop (fK l f.1),f.1<g.1:=by
   intro g hg;have h4:=h2 g hg
   have h5:g.1≠f.1:=by
    intro e;obtain⟨i,hi,rfl⟩:=List.getElem_of_mem hg;have hi3:fK l f.1+i<l.length:=by simp at hi;omega
    rw[List.getElem_drop]at e;have hp:=Io hs f.1;rw[hh]at hp;simp only[Bool.false_eq_true,if_false]at hp;unfold qH at hp;rw[List.findIdx?_eq_none_iff]at hp;have:=hp _ (List.getElem_mem hi3);rw[beq_eq_false_iff_ne]at this;exact this e
   omega
  have:=wD h1 h3;rw[List.take_append_drop]at this;exact this
theorem Xh (hs:(plain rs).Pairwise (fun a b=>a.1<b.1))(n:Int):iB (plain rs) n=if kC (plain rs) n then (rs[fK (plain rs) n]?).map FR.f else O:=by
 rw[<-Im,Io hs];cases kC (plain rs) n with
 |true=>simp[plain]
 |false=>rfl
theorem FD (hs:(plain rs).Pairwise (fun a b=>a.1<b.1)){r:FR}(hh:kC (plain rs) n=true)(hr:rs[fK (plain rs) n]?=M r)(b:ByteArray):kW (plain rs) n b=(n,r.f.2.1++b,r.f.2.2):=by
 unfold kW;rw[Xh hs,hh,hr];rfl
theorem FE (hs:(plain rs).Pairwise (fun a b=>a.1<b.1))(hh:kC (plain rs) n=false)(b:ByteArray):kW (plain rs) n b=(n,b,0):=by
 unfold kW;rw[Xh hs,hh];rfl
theorem rP (a b:ByteArray):(a++b).data.toList=a.data.toList++b.data.toList:=by
 rw[ByteArray.data_append,Array.toList_append]
def jq (w w':F)(db:Nat)(s:Sc)(fv:Y)(rs:List FR)(n:Int)(b:ByteArray):Prop:=
 ∃fO eZ,aW w' db s fO eZ/\plain eZ=mQ (plain rs) (kW (plain rs) n b)/\Dk w w' (DX db fv rs) (DX db fO eZ)
theorem jr {w5:F}{i:Nat}{v5:Y}{r:FR}(h:aW w db s fv rs)(hs:(plain rs).Pairwise (fun a b=>a.1<b.1))(hh:kC (plain rs) n=true)(hi:i=fK (plain rs) n)(hr:rs[i]?=M r)(hn:r.f.1=n)
 (bA:dI w5 0 v5 (r.f.2.1.data.toList++b.data.toList))(hg:w.grownBy w5 r.v.ownBlock)(CF:gT w r.v v5):jq w (w5.setCell ⟨r.b,1,O⟩ v5) db s fv rs n b:=by
 subst hi;have hf:=h.2.2.1 r (List.mem_of_getElem? hr)
 have hrb:∀g,r.v.ownBlock=M g->g≠r.b:=fun g hg e=>by
  obtain⟨c,KO,hc⟩:=dI.ty hf.2 hg;exact bB hc hf.1 (by decide) e
 have h5:w5.heap[r.b]?=M (uH r):=mY hg hf.1 (fun e=>hrb _ e rfl)
 have hvb:∀g,v5.ownBlock=M g->g≠r.b:=fun g fQ e=>by
  obtain⟨c,KO,hc⟩:=dI.ty bA fQ;exact bB hc h5 (by decide) e
 have hF:Fr w (w5.setCell ⟨r.b,1,O⟩ v5) (fun b=>b=r.b\/r.v.ownBlock=M b):=
  ((Fr.kK hg).mono fun b e=>Or.inr e).trans ((Fr.set w5 ⟨r.b,1,O⟩ v5).mono fun b e=>Or.inl e)
 have Rw:iQ (w5.setCell ⟨r.b,1,O⟩ v5) (r.b,v5,(n,r.f.2.1++b,r.f.2.2)):=by
  refine⟨?_,?_⟩
  ·show(w5.setCell ⟨r.b,1,O⟩ v5).heap[r.b]?=_;rw[heap_setCell_same w5 r.b 1 _ _ _ h5,<-hn];rfl
  ·show dI _ 0 v5 (r.f.2.1++b).data.toList;rw[rP];exact bA.fr (Fr.set w5 ⟨r.b,1,O⟩ v5) (fun g hg e=>hvb g hg e)
 obtain⟨p1,p2⟩:=h.Jb (r':=(r.b,v5,(n,r.f.2.1++b,r.f.2.2))) hr rfl hF ⟨hg.os,hg.tape,hg.output⟩ Rw CF;refine⟨fv,_,p1,?_,p2⟩;have e1:(kW (plain rs) n b).1=n:=by rw[FD hs hh hr]
 rw[Lp,Rz hs,e1,hh,if_pos rfl,FD hs hh hr];rfl
theorem FH {b0 b1 b2 Lh:Nat}(h:aW w db s fv rs)(hs:(plain rs).Pairwise (fun a b=>a.1<b.1))(hl:rs.length<=1000000)(hz:∀f∈plain rs,f.2.1.size<=2000000)(hb:b.size<=2000000)
 (c0:w.cell? ⟨b0,0,O⟩=M (U (M ⟨db,0,O⟩)))(c1:w.cell? ⟨b1,0,O⟩=M (I V n))(c2:w.cell? ⟨b2,0,O⟩=M (Z (M ad) b.size Lh))(hr:qQ w (M ad) b.data.toList)(hh:kC (plain rs) n=true):
 H K 212 #[U (M ⟨b0,0,O⟩),U (M ⟨b1,0,O⟩),U (M ⟨b2,0,O⟩)] w fun e w'=>e=G (.tuple #[])/\jq w w' db s fv rs n b:=by
 have hF:=Dr (n:=n) h hs hl;obtain⟨-,d1,-⟩:=dO h.1;obtain⟨ao,cap,rfl,iL,hm,gP,jE⟩:=iJ.form h.2.1;obtain⟨r,Lr,hn⟩:=Dt hh;have HD:Hid (aW w db s (Z ao rs.length cap) rs):=h;have HS:Hid ((plain rs).Pairwise (fun a b=>a.1<b.1)):=hs;have HH:Hid (kC (plain rs) n=true):=hh;rw[hh]at hF;have bT:=(List.getElem?_eq_some_iff.1 Lr).1;have Xd:=h.2.2.1 r (List.mem_of_getElem? Lr);obtain⟨f0,f1,f2,ff⟩:=gZ Xd.1;have hzr:r.f.2.1.size<=2000000:=hz _ (List.mem_of_getElem? (jS Lr));cases ao with
 |none=>obtain⟨rfl,-⟩:=gP rfl;simp at bT
 |some a=>
  obtain⟨g,aS,rfl,-,-,-,hc⟩:=jE a rfl;have k1:=hc _ r Lr;unfold FR.p at k1;obtain⟨KP,En,ev,-⟩:=dI.form Xd.2;have jT:r.f.2.1.data.toList.length=r.f.2.1.size:=rfl;rw[jT]at ev;have wV:=Xd.2;have HV:Hid (r.v=Z KP r.f.2.1.size En):=ev;have FI:Hid (rs[fK (plain rs) n]?=M r):=Lr;rw[ev]at f1 wV;obtain⟨lo,QY⟩:∃lo,lo=fK (plain rs) n:=⟨_,rfl⟩;have HLO:Hid (lo=fK (plain rs) n):=QY;rw[<-QY]at hF bT k1
  have HRB:Hid (∀(w5:F),w.grownBy w5 (Value.slice KP r.f.2.1.size En).ownBlock->w5.heap[r.b]?=M (uH r)):=fun w5 hg=>mY hg Xd.1 (fun e=>by
   rw[<-ev]at e;obtain⟨c,KO,hc⟩:=dI.ty Xd.2 e;exact bB Xd.1 hc (by decide) rfl)
  have i1:(0:Int)<=(lo:Int):=by omega
  have i2:(lo:Int)<(rs.length:Int):=by omega
  have HLN:Hid ((r.f.2.1.data.toList++b.data.toList).length=r.f.2.1.size+b.size):=by show _=_;rw[List.length_append];rfl
  clear h hs hh jE gP hc Lr QY Xd ev hz ff jT;go_enter Tryz.func212,Tryz.ntmps212
  go_wp2_with fail
  refine hF.mono ?_;rintro e w ⟨rfl,rfl⟩
  go_wp2_with fail
  go_region_law ((refine xR (by rfl) (.tmp 38) (.tmp 39) (by rfl) 0 (Z KP r.f.2.1.size En) r.f.2.1.data.toList b.data.toList (by rfl) (by exact wV) ad b.size Lh (by rfl) (by rfl) (by exact hr) (by show r.f.2.1.size+b.size<=_;omega) (Nat.zero_le _) ?_;intro v5 w5 cO fQ Na;have uI:w.grownBy w5 (Value.slice KP r.f.2.1.size En).ownBlock:=⟨fQ.os,fQ.tape,fQ.output,fQ.size,fQ.block⟩;have hF5:=HRB.out w5 uI;obtain⟨-,x1,-,xf⟩:=gZ hF5;have xf1:=xf 1;clear xf;obtain⟨Wh,Ac,ev5,-⟩:=dI.form cO;rw[HLN.out]at ev5;subst ev5))
  all_goals go_wp2_with fail
  all_goals go_end0
  all_goals exact⟨rfl,jr HD.out HS.out HH.out rfl FI.out hn cO (by rw[HV.out];exact uI) (by rw[HV.out];exact Na)⟩
theorem jv:∀(args:Array Y) (w:F),(callFunc 213 args).run K w= .ok (.enter 213 args) w:=enters_of Tryz.func213 (by kernel_rfl) rfl
theorem app_new {W w5 w7:F}{lo fb:Nat}{v5 v7:Y}(h:aW w db s fv rs)(hs:(plain rs).Pairwise (fun a b=>a.1<b.1))(hh:kC (plain rs) n=false)(QY:lo=fK (plain rs) n)(hfb:w.heap.size<=fb)
 (hg:aL w W)(Nc:lN W w5 fv v5 rs lo (fb,Z O 0 0,(n,⟨#[]⟩,0)))(hf:W.heap[fb]?=M (uH (fb,Z O 0 0,(n,⟨#[]⟩,0))))
 (bA:dI w7 0 v7 b.data.toList)(oO:(w5.setCell ⟨db,1,O⟩ v5).grownBy w7 O)(CF:gT (w5.setCell ⟨db,1,O⟩ v5) (Z O 0 0) v7):jq w (w7.setCell ⟨fb,1,O⟩ v7) db s fv rs n b:=by
 have hD:=h.aN hg;have hlen:lo<=rs.length:=by rw[QY];have:=Po (plain rs) n;rwa[bW]at this
 obtain⟨p1,p2⟩:=hD.insFile (r:=(fb,Z O 0 0,(n,⟨#[]⟩,0))) Nc ⟨hf,dI.nil W 0⟩ (fun q hq=>⟨fun e=>by
  have:=aM (h.2.2.1 q hq).1;have e':q.b=fb:=e;omega,fun g _ hx=>by simp[FR.v,Value.ownBlock]at hx⟩) rfl
 have hk:(rs.take lo++(fb,Value.slice O 0 0,(n,(⟨#[]⟩:ByteArray),(0:Int)))::rs.drop lo)[lo]?=M (fb,Z O 0 0,(n,⟨#[]⟩,0)):=by
  rw[List.getElem?_append_right (by simp;omega)];simp[Nat.min_eq_left hlen]
 have KJ:=p1.2.2.1 _ (List.mem_of_getElem? hk);have h7:w7.heap[fb]?=M (uH (fb,Z O 0 0,(n,⟨#[]⟩,0))):=mY oO KJ.1 (fun e=>by cases e)
 have hvb:∀g,v7.ownBlock=M g->g≠fb:=fun g fQ e=>by
  obtain⟨c,KO,hc⟩:=dI.ty bA fQ;exact bB hc h7 (by decide) e
 have Rw:iQ (w7.setCell ⟨fb,1,O⟩ v7) (fb,v7,(n,b,0)):=by
  refine⟨?_,?_⟩
  ·show(w7.setCell ⟨fb,1,O⟩ v7).heap[fb]?=_;rw[heap_setCell_same w7 fb 1 _ _ _ h7];rfl
  ·exact bA.fr (Fr.set w7 ⟨fb,1,O⟩ v7) (fun g hg e=>hvb g hg e)
 have hF:Fr (w5.setCell ⟨db,1,O⟩ v5) (w7.setCell ⟨fb,1,O⟩ v7) (fun b=>b=FR.b (fb,Value.slice O 0 0,(n,(⟨#[]⟩:ByteArray),(0:Int)))\/(FR.v (fb,Value.slice O 0 0,(n,(⟨#[]⟩:ByteArray),(0:Int)))).ownBlock=M b):=
  ((Fr.kK oO).mono fun b e=>by cases e).trans ((Fr.set w7 ⟨fb,1,O⟩ v7).mono fun b e=>Or.inl e)
 obtain⟨q1,q2⟩:=p1.Jb (r':=(fb,v7,(n,b,0))) hk rfl hF ⟨oO.os,oO.tape,oO.output⟩ Rw CF;refine⟨v5,_,q1,?_,?_⟩
 ·have e1:(kW (plain rs) n b).1=n:=by rw[FE hs hh]
  have Zf:(rs.take lo).length=lo:=by rw[List.length_take];omega
  rw[Rz hs,e1,hh,if_neg (by simp),FE hs hh,List.set_append_right _ _ (by rw[Zf];exact Nat.le_refl _),Zf,Nat.sub_self,<-QY];simp[plain,FR.f]
 ·have k1:=p2.trans q2;refine⟨?_,?_,fun b hb=>?_⟩
  ·refine⟨Nat.le_trans hg.size k1.1.1,fun b hb hn=>?_⟩;rw[<-hg.block b hb];refine k1.1.2 b (Nat.lt_of_lt_of_le hb hg.size) (fun hx=>?_);rcases hx with hx|hx|hx
   ·exact hn hx
   ·have e':b=fb:=hx;omega
   ·simp[FR.v,Value.ownBlock]at hx
  ·exact⟨k1.2.1.1.trans hg.os,k1.2.1.2.1.trans hg.tape,k1.2.1.2.2.trans hg.output⟩
  ·rcases k1.2.2 b hb with(hx|hx|hx)|hx
   ·exact Or.inl hx
   ·have e':b=fb:=hx;exact Or.inr (by omega)
   ·simp[FR.v,Value.ownBlock]at hx
   ·exact Or.inr (Nat.le_trans hg.size hx)
theorem jw (w:F)(o1 o2:Obj):aL w ((w.alloc o1).alloc o2).drew:=aL.drew (aL.alloc (aL.alloc (aL.refl w) _) _)
theorem QZ (w:F)(o1 o2:Obj):((w.alloc o1).alloc o2).drew.heap[w.heap.size]?=M o1:=by
 show((w.alloc o1).alloc o2).heap[w.heap.size]?=M o1;rw[Below.heap_alloc (w.alloc o1) o2 _ (by simp)];exact heap_alloc_new w o1
theorem new2b (w:F)(o1 o2:Obj):((w.alloc o1).alloc o2).drew.heap[w.heap.size+1]?=M o2:=by
 show((w.alloc o1).alloc o2).heap[w.heap.size+1]?=M o2;have:=heap_alloc_new (w.alloc o1) o2;rwa[World.size_alloc]at this
theorem FJ {b0 b1 b2 Lh:Nat}(h:aW w db s fv rs)(hs:(plain rs).Pairwise (fun a b=>a.1<b.1))(hl:rs.length<=1000000)(hb:b.size<=2000000)
 (c0:w.heap[b0]?=M (C #[U (M ⟨db,0,O⟩)] 77 (0,0)))(c1:w.heap[b1]?=M (C #[I V n] 3 (0,0)))(c2:w.heap[b2]?=M (C #[Z (M ad) b.size Lh] 153 (0,0)))(hr:qQ w (M ad) b.data.toList)(jy:∃aS f,w.heap[ad.block]?=M (C aS 5 f))(hh:kC (plain rs) n=false):
 H K 212 #[U (M ⟨b0,0,O⟩),U (M ⟨b1,0,O⟩),U (M ⟨b2,0,O⟩)] w fun e w'=>e=G (.tuple #[])/\jq w w' db s fv rs n b:=by
 have hF:=Dr (n:=n) h hs hl;obtain⟨-,d1,-⟩:=dO h.1;obtain⟨ao,cap,rfl,iL,hm,gP,jE⟩:=iJ.form h.2.1;have HD:Hid (aW w db s (Z ao rs.length cap) rs):=h;have HS:Hid ((plain rs).Pairwise (fun a b=>a.1<b.1)):=hs;have HH:Hid (kC (plain rs) n=false):=hh;rw[hh]at hF;have hle:fK (plain rs) n<=rs.length:=by have:=Po (plain rs) n;rwa[bW]at this
 obtain⟨lo,QY⟩:∃lo,lo=fK (plain rs) n:=⟨_,rfl⟩;have HLO:Hid (lo=fK (plain rs) n):=QY;rw[<-QY]at hF hle;have c0':w.cell? ⟨b0,0,O⟩=M (U (M ⟨db,0,O⟩)):=by simp[World.cell?,c0]
 have O_:w.cell? ⟨b1,0,O⟩=M (I V n):=by simp[World.cell?,c1]
 have Xi:∀g,(Value.slice ao rs.length cap).ownBlock=M g->∃aS,w.heap[g]?=M (C aS 155 (0,0)):=fun g hg=>mF h.2.1 hg
 have HI:Hid (∀W:F,aL w W->W.heap[w.heap.size]?=M (uH (w.heap.size,Z O 0 0,(n,⟨#[]⟩,0)))->W.heap[w.heap.size+1]?=M (C #[U (M ⟨w.heap.size,0,O⟩)] 155 (0,0))->
  H K 213 #[Z ao rs.length cap,I V (lo:Int),Z (M ⟨w.heap.size+1,0,O⟩) 1 1] W fun e w'=> ∃v',e=G v'/\lN W w' (Z ao rs.length cap) v' rs lo (w.heap.size,Z O 0 0,(n,⟨#[]⟩,0))):=fun W hW _ h2=>
  UN (r:=(w.heap.size,Z O 0 0,(n,⟨#[]⟩,0))) (HD.out.aN hW).2.1 hle h2 (fun e=>by
   obtain⟨c,hc⟩:=Xi _ e;have:=aM hc;omega) hl
 have HB:Hid (∀(W w5:F) (v5:Y),aL w W->lN W w5 (Z ao rs.length cap) v5 rs lo (w.heap.size,Z O 0 0,(n,⟨#[]⟩,0))->W.heap[w.heap.size]?=M (uH (w.heap.size,Z O 0 0,(n,⟨#[]⟩,0)))->
  w5.heap[db]?=M (jI s (Z ao rs.length cap))/\w5.heap[b0]?=M (C #[U (M ⟨db,0,O⟩)] 77 (0,0))/\w5.heap[b2]?=M (C #[Z (M ad) b.size Lh] 153 (0,0))/\w5.heap[w.heap.size]?=M (uH (w.heap.size,Z O 0 0,(n,⟨#[]⟩,0)))/\qQ w5 (M ad) b.data.toList):=fun W w5 v5 hW Nc hf=>by
  have hne:∀(k:Nat) (aS:Array Y) (t:TypeId),w.heap[k]?=M (Obj.cells aS t (0,0))->t≠155->w5.heap[k]?=M (Obj.cells aS t (0,0)):=fun k aS t hk ht=>
   mY Nc.2.1 ((hW.block _ (aM hk)).trans hk) (fun e=>by
    obtain⟨c,hc⟩:=Xi _ e;exact bB hk hc ht rfl)
  refine⟨hne _ _ _ h.1 (by decide),hne _ _ _ c0 (by decide),hne _ _ _ c2 (by decide),mY Nc.2.1 hf (fun e=>by
   obtain⟨c,hc⟩:=Xi _ e;have:=aM hc;omega),?_⟩
  have h1:=hr.aN hW;refine h1.fr (Fr.kK Nc.2.1) (fun a e hx=>?_);cases e
  obtain⟨c,hc⟩:=Xi _ hx;obtain⟨c',f',YA⟩:=jy;exact bB YA hc (by decide) rfl
 have HA:Hid (∀(W w5:F) (v5:Y),aL w W->lN W w5 (Z ao rs.length cap) v5 rs lo (w.heap.size,Z O 0 0,(n,⟨#[]⟩,0))->W.heap[w.heap.size]?=M (uH (w.heap.size,Z O 0 0,(n,⟨#[]⟩,0)))->
  ∃g5 Ac,v5=Z (M ⟨g5,0,O⟩) (rs.length+1) Ac/\w5.cell? ⟨b0,0,O⟩=M (U (M ⟨db,0,O⟩))/\w5.cell? ⟨db,1,O⟩=M (Z ao rs.length cap)/\w5.frozen? ⟨db,1,O⟩=false/\((w5.setCell ⟨db,1,O⟩ v5).cell? ⟨b0,0,O⟩=M (U (M ⟨db,0,O⟩))/\(w5.setCell ⟨db,1,O⟩ v5).cell? ⟨db,1,O⟩=M v5/\(w5.setCell ⟨db,1,O⟩ v5).cell? ⟨g5,lo,O⟩=M (U (M ⟨w.heap.size,0,O⟩))/\
   (w5.setCell ⟨db,1,O⟩ v5).cell? ⟨w.heap.size,1,O⟩=M (Z O 0 0)/\(w5.setCell ⟨db,1,O⟩ v5).cell? ⟨b2,0,O⟩=M (Z (M ad) b.size Lh)/\qQ (w5.setCell ⟨db,1,O⟩ v5) (M ad) b.data.toList/\(w5.setCell ⟨db,1,O⟩ v5).heap[w.heap.size]?=M (uH (w.heap.size,Z O 0 0,(n,⟨#[]⟩,0))))):=fun W w5 v5 hW Nc hf=>by
  obtain⟨q1,q2,q3,q4,q5⟩:=HB.out W w5 v5 hW Nc hf;obtain⟨Wh,Ac,e5,-,-,Qs,hrow5⟩:=iJ.form Nc.1;have hl5:(rs.take lo++(w.heap.size,Value.slice O 0 0,(n,(⟨#[]⟩:ByteArray),(0:Int)))::rs.drop lo).length=rs.length+1:=by simp;omega
  cases Wh with
  |none=>obtain⟨e,-⟩:=Qs rfl;rw[e]at hl5;simp at hl5
  |some a5=>
   obtain⟨g5,cur5,rfl,fQ,-,-,XW⟩:=hrow5 a5 rfl;rw[hl5]at e5
   have hk:(rs.take lo++(w.heap.size,Value.slice O 0 0,(n,(⟨#[]⟩:ByteArray),(0:Int)))::rs.drop lo)[lo]?=M (w.heap.size,Z O 0 0,(n,⟨#[]⟩,0)):=by
    rw[List.getElem?_append_right (by simp;omega)];simp[Nat.min_eq_left hle]
   have k1:=XW lo _ hk;have aC:=Fr.set w5 ⟨db,1,O⟩ v5;obtain⟨-,m1,-,-,-,-,-,-,mf⟩:=dO q1;have RA:∀(k:Nat) (aS:Array Y) (t:TypeId),w5.heap[k]?=M (Obj.cells aS t (0,0))->t≠137->(w5.setCell ⟨db,1,O⟩ v5).heap[k]?=M (Obj.cells aS t (0,0)):=fun k aS t hk ht=>aC.at hk (fun e=>bB hk q1 ht e)
   refine⟨g5,Ac,e5,by simp[World.cell?,q2],m1,mf 1,?_,?_,?_,?_,?_,?_,RA _ _ _ q4 (by decide)⟩
   ·simp[World.cell?,RA _ _ _ q2 (by decide)]
   ·have hdb2:(w5.setCell ⟨db,1,O⟩ v5).heap[db]?=M (jI s v5):=by rw[heap_setCell_same w5 db 1 _ _ _ q1];rfl
    exact(dO hdb2).2.1
   ·have pY:=RA _ _ _ fQ (by decide);have e6:(w5.setCell ⟨db,1,O⟩ v5).heap[g5]?=w5.heap[g5]?:=pY.trans fQ.symm;exact(World.cell?_of_block (a:=⟨g5,lo,O⟩) e6).trans k1
   ·exact(gZ (r:=(w.heap.size,Z O 0 0,(n,⟨#[]⟩,0))) (RA _ _ _ q4 (by decide))).2.1
   ·simp[World.cell?,RA _ _ _ q3 (by decide)]
   ·refine q5.fr aC (fun a e hx=>?_);cases e
    obtain⟨c',f',YA⟩:=jy
    have hne:¬(Value.slice ao rs.length cap).ownBlock=M ad.block:=fun e=>by
     obtain⟨c,hc⟩:=Xi _ e;exact bB YA hc (by decide) rfl
    have h5:=mY Nc.2.1 ((hW.block _ (aM YA)).trans YA) hne;exact bB h5 q1 (by decide) hx
 clear hs hh jE gP QY c0 c1 c2 Xi h hr jy;go_enter Tryz.func212,Tryz.ntmps212
 go_wp2_with fail
 refine hF.mono ?_;rintro e w ⟨rfl,rfl⟩
 go_upto_region 2 with fail
 have a0:∀o,(w.alloc o).cell? ⟨b0,0,O⟩=M (U (M ⟨db,0,O⟩)):=fun o=>cell_later (aO _ _) c0'
 have a1:∀o,(w.alloc o).cell? ⟨db,1,O⟩=M (Z ao rs.length cap):=fun o=>cell_later (aO _ _) d1
 have a2:∀o o2,((w.alloc o).alloc o2).cell? ⟨b0,0,O⟩=M (U (M ⟨db,0,O⟩)):=fun o o2=>cell_later (aO _ _) (a0 o)
 have a3:∀o o2,((w.alloc o).alloc o2).cell? ⟨db,1,O⟩=M (Z ao rs.length cap):=fun o o2=>cell_later (aO _ _) (a1 o)
 go_cut [14] (fun _ wc=> ∃(W w5:F) (g5 Ac:Nat),wc=w5.setCell ⟨db,1,O⟩ (Z (M ⟨g5,0,O⟩) (rs.length+1) Ac)/\Hid (aL w W)/\Hid (lN W w5 (Z ao rs.length cap) (Z (M ⟨g5,0,O⟩) (rs.length+1) Ac) rs lo (w.heap.size,Z O 0 0,(n,⟨#[]⟩,0)))/\Hid (W.heap[w.heap.size]?=M (uH (w.heap.size,Z O 0 0,(n,⟨#[]⟩,0)))))
 case first=>
  go_region_law ((refine eD (by rfl) 213 _ _ (by rfl) _ (by simp[Act.eval];done) jv ((HI.out _ (jw w _ _) (QZ w _ _) (new2b w _ _)).mono ?_);rintro e w5 ⟨v5,rfl,UW⟩;refine⟨v5,rfl,?_⟩;obtain⟨g5,Ac,rfl,x0,x1,x2,-⟩:=HA.out _ w5 v5 (jw w _ _) UW (QZ w _ _)))
  all_goals go_wp2_with fail
  all_goals go_meet
  all_goals exact⟨_,w5,g5,Ac,rfl,jw w _ _,UW,QZ w _ _⟩
 case rest=>
  obtain⟨W,w5,g5,Ac,rfl,nI,UW,hf5⟩:=hcut;obtain⟨g6,cap6,e6,-,-,-,y0,y1,y2,y3,y4,y5,y6⟩:=HA.out W w5 _ nI.out UW.out hf5.out;cases e6
  clear a0 a1 a2 a3 d1 c0' O_ hF;have HIN:Hid (lN W w5 (Z ao rs.length cap) (Z (M ⟨g5,0,O⟩) (rs.length+1) Ac) rs lo (w.heap.size,Z O 0 0,(n,⟨#[]⟩,0))):=UW;clear UW;have HFB:Hid ((w5.setCell ⟨db,1,O⟩ (Z (M ⟨g5,0,O⟩) (rs.length+1) Ac)).heap[w.heap.size]?=M (uH (w.heap.size,Z O 0 0,(n,⟨#[]⟩,0)))):=y6;clear y6;have HEQ:Hid (∃w6,w6=w5.setCell ⟨db,1,O⟩ (Z (M ⟨g5,0,O⟩) (rs.length+1) Ac)):=⟨_,rfl⟩;obtain⟨w6,h6⟩:=HEQ.out;have HW6:Hid (w6=w5.setCell ⟨db,1,O⟩ (Z (M ⟨g5,0,O⟩) (rs.length+1) Ac)):=h6;rw[<-h6]at y0 y1 y2 y3 y4 y5 HFB ⊢;clear h6 HEQ;have i1:(0:Int)<=(lo:Int):=by omega
  have i2:(lo:Int)<(rs.length:Int)+1:=by omega
  have HLN:Hid (([]++b.data.toList:List UInt8).length=b.size):=rfl
  go_wp2_with fail
  go_region_law ((refine xR (by rfl) (.tmp 38) (.tmp 39) (by rfl) 0 (Z O 0 0) [] b.data.toList (by rfl) (by exact dI.nil _ 0) ad b.size Lh (by rfl) (by rfl) (by exact y5) (by show 0+b.size<=_;omega) (Nat.zero_le _) ?_;intro v7 w7 yM oO hs7;have FK:w6.grownBy w7 O:=⟨oO.os,oO.tape,oO.output,oO.size,oO.block⟩;have hF7:=mY FK HFB.out (fun e=>by cases e);have x1:w7.cell? ⟨w.heap.size,1,O⟩=M (Z O 0 0):=(gZ (r:=(w.heap.size,Z O 0 0,(n,⟨#[]⟩,0))) hF7).2.1;have xf1:w7.frozen? ⟨w.heap.size,1,O⟩=false:=(gZ (r:=(w.heap.size,Z O 0 0,(n,⟨#[]⟩,0))) hF7).2.2.2 1;obtain⟨ao7,cap7,ev7,-⟩:=dI.form yM;rw[HLN.out]at ev7;subst ev7))
  all_goals go_wp2_with fail
  all_goals go_end0
  all_goals refine⟨rfl,app_new HD.out HS.out HH.out HLO.out (Nat.le_refl _) nI.out HIN.out hf5.out (by simpa using yM) (by rw[<-HW6.out];exact FK) (by rw[<-HW6.out];exact hs7)⟩
def ErrD (w:F)(ps:Nat->Addr)(v:Y)(c:Int):Prop:=(c=0/\v= .nilIface)\/(c=9/\Jc w ps v 1)\/(c=10/\Jc w ps v 2)
def AddD (w w':F)(ps:Nat->Addr)(db:Nat)(s:Sc)(fv:Y)(rs:List FR)(n:Int)(b:ByteArray)(v:Y):Prop:=
 ∃fO eZ,aW w' db (bQ s (plain rs) n b).2.1 fO eZ/\plain eZ=(bQ s (plain rs) n b).2.2/\Dk w w' (DX db fv rs) (DX db fO eZ)/\ErrD w' ps v (bQ s (plain rs) n b).1
theorem kg (s:Sc)(fs:List bE)(n:Int)(b:ByteArray):((oV s fs (b.size:Int)).1=true->(bQ s fs n b).1=9/\(bQ s fs n b).2.1= { (oV s fs (b.size:Int)).2 with ro:=true }/\(bQ s fs n b).2.2=fs)/\
 ((oV s fs (b.size:Int)).1=false->bQ s fs n b=(if (dK (oV s fs (b.size:Int)).2 fs).1 then (0,(dK (oV s fs (b.size:Int)).2 fs).2.1,xX (dK (oV s fs (b.size:Int)).2 fs).2.2 (kW (dK (oV s fs (b.size:Int)).2 fs).2.2 n b) (-1))else (10,(dK (oV s fs (b.size:Int)).2 fs).2.1,(dK (oV s fs (b.size:Int)).2 fs).2.2))):=by
 unfold bQ oV;split
 ·simp
 ·split
  ·simp
  ·simp
theorem ko {fs:List bE}(hc:jO s)(ha:0<=s.after):jO (oV s fs n).2/\0<=(oV s fs n).2.after/\(oV s fs n).2.room=s.room:=by
 unfold oV;split
 ·exact⟨⟨hc.Rp,hc.Ng,hc.wO,hc.wP,hc.Ws,hc.kM,hc.oH,hc.Om,hc.UB,hc.Av,hc.Wt,hc.Ey,hc.Ir,hc.qM,hc.rJ⟩,ha,rfl⟩
 ·split
  ·exact⟨hc,ha,rfl⟩
  ·rename_i h1 h2;split
   ·rename_i h3;refine⟨⟨hc.Rp,hc.Ng,hc.wO,hc.wP,hc.Ws,hc.kM,hc.oH,hc.Om,hc.UB,hc.Av,hc.Wt,?_,?_,hc.qM,hc.rJ⟩,ha,rfl⟩
    ·have:=hc.Ey;have h4:s.left≠0:=fun e=>h1 ⟨h3,e⟩
     simp only;omega
    ·have:=hc.Ir;have:=hc.Ey;simp only;omega
   ·exact⟨hc,ha,rfl⟩
theorem RB (l:List bE):0<=bY l:=by
 induction l with
 |nil=>simp[bY]
 |cons f l ih=>simp only[bY];omega
theorem new3 (w:F)(o1 o2 o3:Obj):aL w (((w.alloc o1).alloc o2).alloc o3)/\(((w.alloc o1).alloc o2).alloc o3).heap[w.heap.size]?=M o1/\(((w.alloc o1).alloc o2).alloc o3).heap[w.heap.size+1]?=M o2/\(((w.alloc o1).alloc o2).alloc o3).heap[w.heap.size+1+1]?=M o3:=by
 refine⟨aL.alloc (aL.alloc (aL.alloc (aL.refl w) _) _) _,?_,?_,?_⟩
 ·rw[Below.heap_alloc _ o3 _ (by simp;omega),Below.heap_alloc _ o2 _ (by simp)];exact heap_alloc_new w o1
 ·rw[Below.heap_alloc _ o3 _ (by simp)];have:=heap_alloc_new (w.alloc o1) o2;rwa[World.size_alloc]at this
 ·have:=heap_alloc_new ((w.alloc o1).alloc o2) o3;rwa[World.size_alloc,World.size_alloc]at this
theorem UX:∀(args:Array Y) (w:F),(callFunc 212 args).run K w= .ok (.enter 212 args) w:=enters_of Tryz.func212 (by kernel_rfl) rfl
theorem UY {fs:List bE}(h:(oV s fs n).1=false):bY fs+n<=s.room:=by
 unfold oV at h;split at h
 ·cases h
 ·split at h
  ·cases h
  ·omega
theorem Ad {ps:Nat->Addr}{cap:Nat}(h:aW w db s fv rs)(hG:Xf w ps)(hC:jO s)(ha:0<=s.after)(hI:gN s.room (plain rs))(hl:rs.length<=1000)(Eo:b.size≠0)(hb:b.size<=1000000000)
 (hr:qQ w (M ad) b.data.toList)(jy:∃aS f,w.heap[ad.block]?=M (C aS 5 f)):
 H K 133 #[U (M ⟨db,0,O⟩),I V n,Z (M ad) b.size cap] w fun e w'=> ∃v,e=G v/\AddD w w' ps db s fv rs n b v:=by
 obtain⟨hA1,CK⟩:=kg s (plain rs) n b;obtain⟨g1,g2,g3⟩:=ko (fs:=plain rs) (n:=(b.size:Int)) hC ha;have hR:=fun (W:F) (hW:aL w W)=>MJ (w:=W) (n:=(b.size:Int)) (h.aN hW) hl (fun f hf=>(hI.ok f hf).2.2) hC.Ws hC.kM (by omega) (by omega) hC.Ey hC.Ir (RB _) (by have:=hI.used;have:=hC.kM;omega)
 obtain⟨k0,k1,k2,k3⟩:=new3 w (C #[U (M ⟨db,0,O⟩)] 77) (C #[I V n] 3) (C #[Z (M ad) b.size cap] 153);obtain⟨W3,UM⟩:∃W3,W3=((w.alloc (C #[U (M ⟨db,0,O⟩)] 77)).alloc (C #[I V n] 3)).alloc (C #[Z (M ad) b.size cap] 153):=⟨_,rfl⟩;have HR3:=hR W3 (by rw[UM];exact k0);rw[<-UM]at k0 k1 k2 k3;have YB:Hid (Xf W3 ps):=hG.aN k0;have HD3:Hid (aW W3 db s fv rs):=h.aN k0;have MS:=HD3.out.1;have c0:W3.cell? ⟨w.heap.size,0,O⟩=M (U (M ⟨db,0,O⟩)):=by simp[World.cell?,k1]
 have c1:W3.cell? ⟨w.heap.size+1,0,O⟩=M (I V n):=by simp[World.cell?,k2]
 have c2:W3.cell? ⟨w.heap.size+1+1,0,O⟩=M (Z (M ad) b.size cap):=by simp[World.cell?,k3]
 have ku:Hid (∀w4,Og W3 w4 db->w4.heap[w.heap.size]?=M (C #[U (M ⟨db,0,O⟩)] 77 (0,0))/\w4.heap[w.heap.size+1]?=M (C #[I V n] 3 (0,0))/\w4.heap[w.heap.size+1+1]?=M (C #[Z (M ad) b.size cap] 153 (0,0))/\Xf w4 ps/\qQ w4 (M ad) b.data.toList/\∃aS f,w4.heap[ad.block]?=M (C aS 5 f)):=fun w4 ho=>by
  obtain⟨aS,f,hc⟩:=jy;have hc3:W3.heap[ad.block]?=M (C aS 5 f):=(k0.block _ (aM hc)).trans hc;refine⟨ho.1.at k1 (fun e=>bB k1 MS (by decide) e),ho.1.at k2 (fun e=>bB k2 MS (by decide) e),ho.1.at k3 (fun e=>bB k3 MS (by decide) e),YB.out.fr ho.1 (fun b aS hb=>bB hb MS (by decide)),?_,aS,f,ho.1.at hc3 (fun e=>bB hc3 MS (by decide) e)⟩;exact(hr.aN k0).fr ho.1 (fun a e hx=>by cases e;exact bB hc3 MS (by decide) hx)
 have HK3:Hid (aL w W3):=k0;clear h hG k0 k1 k2 k3 hR hr jy MS;cases MK:(oV s (plain rs) (b.size:Int)).1 with
 |true=>
  obtain⟨e1,e2,e3⟩:=hA1 MK;rw[MK]at HR3;go_enter Tryz.func133,Tryz.ntmps133
  go_upto_region 1 with fail
  rw[<-UM];clear UM
  go_wp2_with fail
  refine HR3.mono ?_;rintro e w4 ⟨rfl,CQ,CR⟩;obtain⟨q0,q1,q2,q3,-⟩:=ku.out w4 CR;have x1:w4.cell? ⟨w.heap.size+1,0,O⟩=M (I V n):=by simp[World.cell?,q1]
  have x2:=q3.cell (k:=1) (by omega);unfold jX at x2;have HD4:Hid (aW w4 db (oV s (plain rs) (b.size:Int)).2 fv rs):=CQ;clear CQ q0 q1 q2 q3
  go_wp2_with fail
  go_ret;refine⟨_,rfl,fv,rs,?_,?_,?_,?_⟩
  ·rw[e2];exact HD4.out.aN (aO _ _)
  ·rw[e3]
  ·exact((Dk.dJ HK3.out).trans (Dk.Rl CR.1 CR.2 (Or.inl rfl))).aN (aO _ _)
  ·exact Or.inr (Or.inl ⟨e1,w4.heap.size,_,n,rfl,heap_alloc_new w4 _⟩)
 |false=>
  have hb:b.size<=1000000:=by have h1:=UY MK;have h2:=RB (plain rs);have h3:=hC.kM;omega
  have hA:=CK MK;rw[MK]at HR3;obtain⟨s1,tK⟩:∃s1,s1=(oV s (plain rs) (b.size:Int)).2:=⟨_,rfl⟩;rw[<-tK]at hA HR3 g1 g2 g3;have oL:=hI.sort.1;cases dV:(dK s1 (plain rs)).1 with
  |true=>
   have FL:(dK s1 (plain rs)).2.2=plain rs:=by
    rcases sK g1 (by rw[g3];exact hI:gN s1.room (plain rs))with⟨s',e,-⟩|⟨s',fZ,e,-⟩
    ·rw[e]
    ·rw[e]at dV;cases dV
   rw[dV,if_pos rfl,FL]at hA;have Eg:=Wm hI n b;have hnz:(kW (plain rs) n b).2.1.size≠0:=by rw[Eg.2.1,ByteArray.size_append];omega
   have UZ:xX (plain rs) (kW (plain rs) n b) (-1)=mQ (plain rs) (kW (plain rs) n b):=Cj hI.sort hnz (hI.no (by omega));rw[UZ]at hA
   have MU:Hid (∀w4,aW w4 db s1 fv rs->Og W3 w4 db->H K 211 #[U (M ⟨db,0,O⟩),.string ⟨#[97,112,112,101,110,100,32,116,111]⟩,I V n,.func (.func 212) #[] #[U (M ⟨w.heap.size,0,O⟩),U (M ⟨w.heap.size+1,0,O⟩),U (M ⟨w.heap.size+1+1,0,O⟩)]] w4 fun e w'=>e=G .nilIface/\∃w1,Og w4 w1 db/\jq w1 w' db (dK s1 (plain rs)).2.1 fv rs n b):=fun w4 CQ CR=>by
    refine FB CQ g2 g1.oH UX dV (fun w1 xG Kn=>?_);obtain⟨q0,q1,q2,q3,q4,q5⟩:=ku.out w1 (CR.trans Kn);cases hh:kC (plain rs) n with
    |true=>
     refine(FH (Lh:=cap) xG oL (by omega) (fun f hf=>(hI.ok f hf).2.2) (by omega) (by simp[World.cell?,q0]) (by simp[World.cell?,q1]) (by simp[World.cell?,q2]) q4 hh).mono ?_;rintro e w2 ⟨rfl,hA⟩;exact⟨rfl,w1,Kn,hA⟩
    |false=>
     refine(FJ (Lh:=cap) xG oL (by omega) (by omega) q0 q1 q2 q4 q5 hh).mono ?_;rintro e w2 ⟨rfl,hA⟩;exact⟨rfl,w1,Kn,hA⟩
   clear oL Eg hnz UZ FL hI;go_enter Tryz.func133,Tryz.ntmps133
   go_upto_region 1 with fail
   rw[<-UM];clear UM
   go_wp2_with fail
   refine HR3.mono ?_;rintro e w4 ⟨rfl,CQ,CR⟩;obtain⟨q0,q1,-⟩:=ku.out w4 CR;have x0:w4.cell? ⟨w.heap.size,0,O⟩=M (U (M ⟨db,0,O⟩)):=by simp[World.cell?,q0]
   have x1:w4.cell? ⟨w.heap.size+1,0,O⟩=M (I V n):=by simp[World.cell?,q1]
   have HD4:Hid (aW w4 db s1 fv rs):=CQ;clear CQ q0 q1
   go_wp2_with fail
   refine(MU.out w4 HD4.out CR).mono ?_;rintro e w5 ⟨rfl,w1,Kn,fO,eZ,p1,p2,p3⟩
   go_wp2_with fail
   go_ret;refine⟨_,rfl,fO,eZ,?_,?_,?_,?_⟩
   ·rw[hA];exact p1
   ·rw[hA];exact p2
   ·have hO:=CR.trans Kn;exact((Dk.dJ HK3.out).trans (Dk.Rl hO.1 hO.2 (Or.inl rfl))).trans p3
   ·rw[hA];exact Or.inl ⟨rfl,rfl⟩
  |false=>
   rw[dV,if_neg (by simp)]at hA
   have MU:Hid (∀w4 fn,aW w4 db s1 fv rs->Og W3 w4 db->H K 211 #[U (M ⟨db,0,O⟩),.string ⟨#[97,112,112,101,110,100,32,116,111]⟩,I V n,fn] w4 fun e w'=> ∃v,e=G v/\MR w4 w' ps db s1 fv rs v):=fun w4 fn CQ CR=>
    QX CQ (ku.out w4 CR).2.2.2.1 g2 g1.oH (by omega) hI.ok oL g1.Om g1.Av g1.UB g1.Wt dV
   clear oL hI;go_enter Tryz.func133,Tryz.ntmps133
   go_upto_region 1 with fail
   rw[<-UM];clear UM
   go_wp2_with fail
   refine HR3.mono ?_;rintro e w4 ⟨rfl,CQ,CR⟩;obtain⟨q0,q1,-⟩:=ku.out w4 CR;have x0:w4.cell? ⟨w.heap.size,0,O⟩=M (U (M ⟨db,0,O⟩)):=by simp[World.cell?,q0]
   have x1:w4.cell? ⟨w.heap.size+1,0,O⟩=M (I V n):=by simp[World.cell?,q1]
   have HD4:Hid (aW w4 db s1 fv rs):=CQ;clear CQ q0 q1
   go_wp2_with fail
   refine(MU.out w4 _ HD4.out CR).mono ?_;rintro e w5 ⟨v,rfl,hE,fO,eZ,p1,p2,p3⟩;obtain⟨bb,nm,num,rfl,UC⟩:=hE
   go_wp2_with fail
   go_ret;refine⟨_,rfl,fO,eZ,?_,?_,?_,?_⟩
   ·rw[hA];exact p1
   ·rw[hA];exact p2
   ·exact((Dk.dJ HK3.out).trans (Dk.Rl CR.1 CR.2 (Or.inl rfl))).trans p3
   ·rw[hA];exact Or.inr (Or.inr ⟨rfl,bb,nm,num,rfl,UC⟩)
end Go.Proofs.YtfplgfodoiiobaaGreatDoor
