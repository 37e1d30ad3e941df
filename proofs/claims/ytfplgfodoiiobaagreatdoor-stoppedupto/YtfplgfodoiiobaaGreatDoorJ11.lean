/- PgN, PgO (joined). -/
import Derived.Test.YtfplgfodoiiobaaGreatDoorJ10
open Option renaming none→O,some→M
open Go.Value renaming int→I,slice→Z,pointer→U
open Go.IntKind renaming i64→V
open Go.Obj renaming cells→C
open Go.Ending renaming returned→G
open Go renaming World→F,Value→Y,Calls→H
open Go.Proofs.Tryz renaming prog→K
namespace Go.Proofs.YtfplgfodoiiobaaGreatDoor
set_option maxHeartbeats 4000000
set_option maxRecDepth 100000
open Go.RowKit
variable {n:Int}{rs:List FR}{w:F}{s:Sc}{db:Nat}{fv:Y}{b:ByteArray}{ad:Addr}
theorem vJ {ops:Array Oper}{o:Oper}{a:Act}{aD:Act->F->Prop}{Q:Exit->Act->F->Prop}{E:Prop}(Bq:o.guard=O)(s x:Operand)
 (ho:o.op= .call { callee:= .builtin .append,args:=#[s,x],argTypes:=#[153,153] })
 (base:Nat)(v:Y)(ys zs:List UInt8)(hs:a.eval s=v)(cZ:bC w base v ys)(ad:Addr)(m c:Nat)(hx:a.eval x=Z (M ad) m c)(hm:m=zs.length)(hr:mU w (M ad) zs)
 (hlen:ys.length+zs.length<=1000000000)(kW:base<=w.heap.size)
 (h:∀v' w',bC w' base v' (ys++zs)->w.grownBy w' v.ownBlock->fI w v v'->aD (a.put o.dst v') w'):if Region.wanted o (yielded ops a.tmps)=true then Oper.wp K o a w aD Q else E:=by
 obtain⟨i0,hi,tO,tQ,uW⟩:=info_parts Tryz.infoByte;subst hm;obtain⟨v',w',Fh,CV,Cv,CW⟩:=Kz (P:=K) w base 153 o.type i0 (I .u8 0) Tryz.underlying153 hi tO tQ uW rfl v ys cZ ad zs.length c zs rfl (mU.cells hr) (by unfold maxLen;omega) (by omega) kW;have hw:Region.wanted o (yielded ops a.tmps)=true:=by simp[Region.wanted,Bq]
 rw[if_pos hw];unfold Oper.wp execOp;simp only[ho,resolve,invoke,builtin,Sem.run_bind,Sem.run_pure,Result.andThen_ok,List.map_toArray,List.map_cons,List.map_nil,hs,hx,Fh];exact h v' w' CV Cv CW
theorem bM {P:Program}{ops:Array Oper}{o:Oper}{a:Act}{aD:Act->F->Prop}{Q:Exit->Act->F->Prop}{E:Prop}(Bq:o.guard=O)(f:FuncId)(xs:Array Operand)(ats:Array TypeId)
 (ho:o.op= .call { callee:= .value (.func f),args:=xs,argTypes:=ats })(args:Array Y)(hargs:xs.map a.eval=args)(he:∀(args:Array Y) (w:F),(callFunc f args).run P w= .ok (.enter f args) w)
 (hc:H P f args w fun e w'=> ∃v,e=G v/\aD (a.put o.dst v) w'):if Region.wanted o (yielded ops a.tmps)=true then Oper.wp P o a w aD Q else E:=by
 have hw:Region.wanted o (yielded ops a.tmps)=true:=by simp[Region.wanted,Bq]
 rw[if_pos hw];unfold Oper.wp;simp only[execOp,ho]
 have hr:Sem.run P (do
  let d <-resolve a.eval { callee:=Callee.value (Operand.func f),args:=xs,argTypes:=ats } o.type
  invoke d.target d.args) w= .ok (.enter f args) w:=by
  simp[resolve,invoke,hargs,he,Act.eval,Deferred.ofValue]
 rw[hr];simp only[Oper.upon];refine hc.mono ?_;rintro e w' ⟨v,rfl,hk⟩;exact hk
theorem Wn {l:List bF}(hs:l.Pairwise (fun a b=>a.1<b.1))(n:Int):(∀g∈l.take (dS l n),g.1<n)/\(∀g∈l.drop (dS l n),n<=g.1):=by
 have HS:=Jb hs n;constructor
 ·intro g hg;obtain⟨i,hi,rfl⟩:=List.getElem_of_mem hg;have hi2:i<dS l n:=by simp at hi;omega
  have hi3:i<l.length:=by simp at hi;omega
  rw[List.getElem_take];exact(HS i _ (List.getElem?_eq_getElem hi3)).1 hi2
 ·intro g hg;obtain⟨i,hi,rfl⟩:=List.getElem_of_mem hg;have hi3:dS l n+i<l.length:=by simp at hi;omega
  rw[List.getElem_drop];have:=HS (dS l n+i) _ (List.getElem?_eq_getElem hi3);by_cases h:l[dS l n+i].1<n
  ·have:=this.2 h;omega
  ·omega
theorem zQ {l:List bF}(hs:l.Pairwise (fun a b=>a.1<b.1))(f:bF):iR l f=if iE l f.1 then l.set (dS l f.1) f else l.take (dS l f.1)++f::l.drop (dS l f.1):=by
 obtain⟨h1,h2⟩:=Wn hs f.1;cases hh:iE l f.1 with
 |true=>
  simp only[if_true];unfold iE at hh;cases e:l[dS l f.1]? with
  |none=>rw[e]at hh;simp at hh
  |some g=>
   rw[e]at hh;have hg:g.1=f.1:=by simpa using hh
   obtain⟨bV,Lc⟩:=List.getElem?_eq_some_iff.1 e
   have e1:l=l.take (dS l f.1)++g::l.drop (dS l f.1+1):=by
    rw[<-Lc,<-List.drop_eq_getElem_cons bV,List.take_append_drop]
   rw[List.set_eq_take_append_cons_drop,if_pos bV];have:=nY (B:=l.drop (dS l f.1+1)) h1 hg;rw[<-e1]at this;exact this
 |false=>
  simp only[Bool.false_eq_true,if_false]
  have h3:∀g∈l.drop (dS l f.1),f.1<g.1:=by
   intro g hg;have h4:=h2 g hg
   have h5:g.1≠f.1:=by
    intro e;obtain⟨i,hi,rfl⟩:=List.getElem_of_mem hg;have hi3:dS l f.1+i<l.length:=by simp at hi;omega
    rw[List.getElem_drop]at e;have hp:=Fx hs f.1;rw[hh]at hp;simp only[Bool.false_eq_true,if_false]at hp;unfold vP at hp;rw[List.findIdx?_eq_none_iff]at hp;have:=hp _ (List.getElem_mem hi3);rw[beq_eq_false_iff_ne]at this;exact this e
   omega
  have:=tV h1 h3;rw[List.take_append_drop]at this;exact this
theorem Jf (hs:(plain rs).Pairwise (fun a b=>a.1<b.1))(n:Int):eO (plain rs) n=if iE (plain rs) n then (rs[dS (plain rs) n]?).map FR.f else O:=by
 rw[<-Ff,Fx hs];cases iE (plain rs) n with
 |true=>simp[plain]
 |false=>rfl
theorem FL (hs:(plain rs).Pairwise (fun a b=>a.1<b.1)){r:FR}(hh:iE (plain rs) n=true)(hr:rs[dS (plain rs) n]?=M r)(b:ByteArray):lX (plain rs) n b=(n,r.f.2.1++b,r.f.2.2):=by
 unfold lX;rw[Jf hs,hh,hr];rfl
theorem FM (hs:(plain rs).Pairwise (fun a b=>a.1<b.1))(hh:iE (plain rs) n=false)(b:ByteArray):lX (plain rs) n b=(n,b,0):=by
 unfold lX;rw[Jf hs,hh];rfl
def om (w w':F)(db:Nat)(s:Sc)(fv:Y)(rs:List FR)(n:Int)(b:ByteArray):Prop:=
 ∃dN dH,aP w' db s dN dH/\plain dH=iR (plain rs) (lX (plain rs) n b)/\Dk w w' (DX db fv rs) (DX db dN dH)
theorem oo {w5:F}{i:Nat}{v5:Y}{r:FR}(h:aP w db s fv rs)(hs:(plain rs).Pairwise (fun a b=>a.1<b.1))(hh:iE (plain rs) n=true)(hi:i=dS (plain rs) n)(hr:rs[i]?=M r)(hn:r.f.1=n)
 (cZ:bC w5 0 v5 (r.f.2.1.data.toList++b.data.toList))(hg:w.grownBy w5 r.v.ownBlock)(CW:fI w r.v v5):om w (w5.setCell ⟨r.b,1,O⟩ v5) db s fv rs n b:=by
 subst hi;have hf:=h.2.2.1 r (List.mem_of_getElem? hr)
 have CZ:∀g,r.v.ownBlock=M g->g≠r.b:=fun g hg e=>by
  obtain⟨c,Nj,hc⟩:=bC.ty hf.2 hg;exact aW hc hf.1 (by decide) e
 have h5:w5.heap[r.b]?=M (oM r):=mP hg hf.1 (fun e=>CZ _ e rfl)
 have hvb:∀g,v5.ownBlock=M g->g≠r.b:=fun g dK e=>by
  obtain⟨c,Nj,hc⟩:=bC.ty cZ dK;exact aW hc h5 (by decide) e
 have hF:Fr w (w5.setCell ⟨r.b,1,O⟩ v5) (fun b=>b=r.b\/r.v.ownBlock=M b):=
  ((Fr.kG hg).mono fun b e=>Or.inr e).trans ((Fr.set w5 ⟨r.b,1,O⟩ v5).mono fun b e=>Or.inl e)
 have Cg:fG (w5.setCell ⟨r.b,1,O⟩ v5) (r.b,v5,(n,r.f.2.1++b,r.f.2.2)):=by
  refine⟨?_,?_⟩
  ·show(w5.setCell ⟨r.b,1,O⟩ v5).heap[r.b]?=_;rw[heap_setCell_same w5 r.b 1 _ _ _ h5,<-hn];rfl
  ·show bC _ 0 v5 (r.f.2.1++b).data.toList;rw[eY];exact cZ.fr (Fr.set w5 ⟨r.b,1,O⟩ v5) (fun g hg e=>hvb g hg e)
 obtain⟨p1,p2⟩:=h.Fz (r':=(r.b,v5,(n,r.f.2.1++b,r.f.2.2))) hr rfl hF ⟨hg.os,hg.tape,hg.output⟩ Cg CW;refine⟨fv,_,p1,?_,p2⟩;have e1:(lX (plain rs) n b).1=n:=by rw[FL hs hh hr]
 rw[Ay,zQ hs,e1,hh,if_pos rfl,FL hs hh hr];rfl
theorem FN {b0 b1 b2 Mi:Nat}(h:aP w db s fv rs)(hs:(plain rs).Pairwise (fun a b=>a.1<b.1))(hl:rs.length<=1000000)(hz:∀f∈plain rs,f.2.1.size<=2000000)(hb:b.size<=2000000)
 (c0:w.cell? ⟨b0,0,O⟩=M (U (M ⟨db,0,O⟩)))(c1:w.cell? ⟨b1,0,O⟩=M (I V n))(c2:w.cell? ⟨b2,0,O⟩=M (Z (M ad) b.size Mi))(hr:mU w (M ad) b.data.toList)(hh:iE (plain rs) n=true):
 H K 212 #[U (M ⟨b0,0,O⟩),U (M ⟨b1,0,O⟩),U (M ⟨b2,0,O⟩)] w fun e w'=>e=G (.tuple #[])/\om w w' db s fv rs n b:=by
 have hF:=xI (n:=n) h hs hl;obtain⟨-,d1,-⟩:=bW h.1;obtain⟨ao,cap,rfl,gX,hm,gJ,gL⟩:=fM.form h.2.1;obtain⟨r,Jg,hn⟩:=vI hh;have HD:Hid (aP w db s (Z ao rs.length cap) rs):=h;have HS:Hid ((plain rs).Pairwise (fun a b=>a.1<b.1)):=hs;have HH:Hid (iE (plain rs) n=true):=hh;rw[hh]at hF;have bV:=(List.getElem?_eq_some_iff.1 Jg).1;have Wl:=h.2.2.1 r (List.mem_of_getElem? Jg);obtain⟨f0,f1,f2,ff⟩:=fH Wl.1;have hzr:r.f.2.1.size<=2000000:=hz _ (List.mem_of_getElem? (iK Jg));cases ao with
 |none=>obtain⟨rfl,-⟩:=gJ rfl;simp at bV
 |some a=>
  obtain⟨g,aT,rfl,-,-,-,hc⟩:=gL a rfl;have k1:=hc _ r Jg;unfold FR.p at k1;obtain⟨TG,wH,ev,-⟩:=bC.form Wl.2;have gQ:r.f.2.1.data.toList.length=r.f.2.1.size:=rfl;rw[gQ]at ev;have uH:=Wl.2;have HV:Hid (r.v=Z TG r.f.2.1.size wH):=ev;have oq:Hid (rs[dS (plain rs) n]?=M r):=Jg;rw[ev]at f1 uH;obtain⟨lo,hlo⟩:∃lo,lo=dS (plain rs) n:=⟨_,rfl⟩;have HLO:Hid (lo=dS (plain rs) n):=hlo;rw[<-hlo]at hF bV k1
  have HRB:Hid (∀(w5:F),w.grownBy w5 (Value.slice TG r.f.2.1.size wH).ownBlock->w5.heap[r.b]?=M (oM r)):=fun w5 hg=>mP hg Wl.1 (fun e=>by
   rw[<-ev]at e;obtain⟨c,Nj,hc⟩:=bC.ty Wl.2 e;exact aW Wl.1 hc (by decide) rfl)
  have i1:(0:Int)<=(lo:Int):=by omega
  have i2:(lo:Int)<(rs.length:Int):=by omega
  have HLN:Hid ((r.f.2.1.data.toList++b.data.toList).length=r.f.2.1.size+b.size):=by show _=_;rw[List.length_append];rfl
  clear h hs hh gL gJ hc Jg hlo Wl ev hz ff gQ;go_enter Tryz.func212,Tryz.ntmps212
  go_wp2_with fail
  refine hF.mono ?_;rintro e w ⟨rfl,rfl⟩
  go_wp2_with fail
  go_region_law ((refine vJ (by rfl) (.tmp 38) (.tmp 39) (by rfl) 0 (Z TG r.f.2.1.size wH) r.f.2.1.data.toList b.data.toList (by rfl) (by exact uH) ad b.size Mi (by rfl) (by rfl) (by exact hr) (by show r.f.2.1.size+b.size<=_;omega) (Nat.zero_le _) ?_;intro v5 w5 jU dK xE;have yJ:w.grownBy w5 (Value.slice TG r.f.2.1.size wH).ownBlock:=⟨dK.os,dK.tape,dK.output,dK.size,dK.block⟩;have ML:=HRB.out w5 yJ;obtain⟨-,x1,-,xf⟩:=fH ML;have xf1:=xf 1;clear xf;obtain⟨oh,uY,ev5,-⟩:=bC.form jU;rw[HLN.out]at ev5;subst ev5))
  all_goals go_wp2_with fail
  all_goals go_end0
  all_goals exact⟨rfl,oo HD.out HS.out HH.out rfl oq.out hn jU (by rw[HV.out];exact yJ) (by rw[HV.out];exact xE)⟩
theorem FO:∀(args:Array Y) (w:F),(callFunc 213 args).run K w= .ok (.enter 213 args) w:=enters_of Tryz.func213 (by kernel_rfl) rfl
theorem app_new {W w5 w7:F}{lo fb:Nat}{v5 v7:Y}(h:aP w db s fv rs)(hs:(plain rs).Pairwise (fun a b=>a.1<b.1))(hh:iE (plain rs) n=false)(hlo:lo=dS (plain rs) n)(hfb:w.heap.size<=fb)
 (hg:aJ w W)(Ga:jJ W w5 fv v5 rs lo (fb,Z O 0 0,(n,⟨#[]⟩,0)))(hf:W.heap[fb]?=M (oM (fb,Z O 0 0,(n,⟨#[]⟩,0))))
 (cZ:bC w7 0 v7 b.data.toList)(jS:(w5.setCell ⟨db,1,O⟩ v5).grownBy w7 O)(CW:fI (w5.setCell ⟨db,1,O⟩ v5) (Z O 0 0) v7):om w (w7.setCell ⟨fb,1,O⟩ v7) db s fv rs n b:=by
 have hD:=h.aM hg;have hlen:lo<=rs.length:=by rw[hlo];have:=Fw (plain rs) n;rwa[bE]at this
 obtain⟨p1,p2⟩:=hD.TI (r:=(fb,Z O 0 0,(n,⟨#[]⟩,0))) Ga ⟨hf,bC.nil W 0⟩ (fun q hq=>⟨fun e=>by
  have:=aK (h.2.2.1 q hq).1;have e':q.b=fb:=e;omega,fun g _ hx=>by simp[FR.v,Value.ownBlock]at hx⟩) rfl
 have hk:(rs.take lo++(fb,Value.slice O 0 0,(n,(⟨#[]⟩:ByteArray),(0:Int)))::rs.drop lo)[lo]?=M (fb,Z O 0 0,(n,⟨#[]⟩,0)):=by
  rw[List.getElem?_append_right (by simp;omega)];simp[Nat.min_eq_left hlen]
 have MN:=p1.2.2.1 _ (List.mem_of_getElem? hk);have h7:w7.heap[fb]?=M (oM (fb,Z O 0 0,(n,⟨#[]⟩,0))):=mP jS MN.1 (fun e=>by cases e)
 have hvb:∀g,v7.ownBlock=M g->g≠fb:=fun g dK e=>by
  obtain⟨c,Nj,hc⟩:=bC.ty cZ dK;exact aW hc h7 (by decide) e
 have Cg:fG (w7.setCell ⟨fb,1,O⟩ v7) (fb,v7,(n,b,0)):=by
  refine⟨?_,?_⟩
  ·show(w7.setCell ⟨fb,1,O⟩ v7).heap[fb]?=_;rw[heap_setCell_same w7 fb 1 _ _ _ h7];rfl
  ·exact cZ.fr (Fr.set w7 ⟨fb,1,O⟩ v7) (fun g hg e=>hvb g hg e)
 have hF:Fr (w5.setCell ⟨db,1,O⟩ v5) (w7.setCell ⟨fb,1,O⟩ v7) (fun b=>b=FR.b (fb,Value.slice O 0 0,(n,(⟨#[]⟩:ByteArray),(0:Int)))\/(FR.v (fb,Value.slice O 0 0,(n,(⟨#[]⟩:ByteArray),(0:Int)))).ownBlock=M b):=
  ((Fr.kG jS).mono fun b e=>by cases e).trans ((Fr.set w7 ⟨fb,1,O⟩ v7).mono fun b e=>Or.inl e)
 obtain⟨q1,q2⟩:=p1.Fz (r':=(fb,v7,(n,b,0))) hk rfl hF ⟨jS.os,jS.tape,jS.output⟩ Cg CW;refine⟨v5,_,q1,?_,?_⟩
 ·have e1:(lX (plain rs) n b).1=n:=by rw[FM hs hh]
  have Uc:(rs.take lo).length=lo:=by rw[List.length_take];omega
  rw[zQ hs,e1,hh,if_neg (by simp),FM hs hh,List.set_append_right _ _ (by rw[Uc];exact Nat.le_refl _),Uc,Nat.sub_self,<-hlo];simp[plain,FR.f]
 ·have k1:=p2.trans q2;refine⟨?_,?_,fun b hb=>?_⟩
  ·refine⟨Nat.le_trans hg.size k1.1.1,fun b hb hn=>?_⟩;rw[<-hg.block b hb];refine k1.1.2 b (Nat.lt_of_lt_of_le hb hg.size) (fun hx=>?_);rcases hx with hx|hx|hx
   ·exact hn hx
   ·have e':b=fb:=hx;omega
   ·simp[FR.v,Value.ownBlock]at hx
  ·exact⟨k1.2.1.1.trans hg.os,k1.2.1.2.1.trans hg.tape,k1.2.1.2.2.trans hg.output⟩
  ·rcases k1.2.2 b hb with(hx|hx|hx)|hx
   ·exact Or.inl hx
   ·have e':b=fb:=hx;exact Or.inr (by omega)
   ·simp[FR.v,Value.ownBlock]at hx
   ·exact Or.inr (Nat.le_trans hg.size hx)
theorem ou (w:F)(o1 o2:Obj):aJ w ((w.alloc o1).alloc o2).drew:=aJ.drew (aJ.alloc (aJ.alloc (aJ.refl w) _) _)
theorem TL (w:F)(o1 o2:Obj):((w.alloc o1).alloc o2).drew.heap[w.heap.size]?=M o1:=by
 show((w.alloc o1).alloc o2).heap[w.heap.size]?=M o1;rw[Below.heap_alloc (w.alloc o1) o2 _ (by simp)];exact heap_alloc_new w o1
theorem new2b (w:F)(o1 o2:Obj):((w.alloc o1).alloc o2).drew.heap[w.heap.size+1]?=M o2:=by
 show((w.alloc o1).alloc o2).heap[w.heap.size+1]?=M o2;have:=heap_alloc_new (w.alloc o1) o2;rwa[World.size_alloc]at this
theorem FP {b0 b1 b2 Mi:Nat}(h:aP w db s fv rs)(hs:(plain rs).Pairwise (fun a b=>a.1<b.1))(hl:rs.length<=1000000)(hb:b.size<=2000000)
 (c0:w.heap[b0]?=M (C #[U (M ⟨db,0,O⟩)] 77 (0,0)))(c1:w.heap[b1]?=M (C #[I V n] 3 (0,0)))(c2:w.heap[b2]?=M (C #[Z (M ad) b.size Mi] 153 (0,0)))(hr:mU w (M ad) b.data.toList)(Pt:∃aT f,w.heap[ad.block]?=M (C aT 5 f))(hh:iE (plain rs) n=false):
 H K 212 #[U (M ⟨b0,0,O⟩),U (M ⟨b1,0,O⟩),U (M ⟨b2,0,O⟩)] w fun e w'=>e=G (.tuple #[])/\om w w' db s fv rs n b:=by
 have hF:=xI (n:=n) h hs hl;obtain⟨-,d1,-⟩:=bW h.1;obtain⟨ao,cap,rfl,gX,hm,gJ,gL⟩:=fM.form h.2.1;have HD:Hid (aP w db s (Z ao rs.length cap) rs):=h;have HS:Hid ((plain rs).Pairwise (fun a b=>a.1<b.1)):=hs;have HH:Hid (iE (plain rs) n=false):=hh;rw[hh]at hF;have hle:dS (plain rs) n<=rs.length:=by have:=Fw (plain rs) n;rwa[bE]at this
 obtain⟨lo,hlo⟩:∃lo,lo=dS (plain rs) n:=⟨_,rfl⟩;have HLO:Hid (lo=dS (plain rs) n):=hlo;rw[<-hlo]at hF hle;have c0':w.cell? ⟨b0,0,O⟩=M (U (M ⟨db,0,O⟩)):=by simp[World.cell?,c0]
 have c1':w.cell? ⟨b1,0,O⟩=M (I V n):=by simp[World.cell?,c1]
 have Wo:∀g,(Value.slice ao rs.length cap).ownBlock=M g->∃aT,w.heap[g]?=M (C aT 155 (0,0)):=fun g hg=>kV h.2.1 hg
 have HI:Hid (∀W:F,aJ w W->W.heap[w.heap.size]?=M (oM (w.heap.size,Z O 0 0,(n,⟨#[]⟩,0)))->W.heap[w.heap.size+1]?=M (C #[U (M ⟨w.heap.size,0,O⟩)] 155 (0,0))->
  H K 213 #[Z ao rs.length cap,I V (lo:Int),Z (M ⟨w.heap.size+1,0,O⟩) 1 1] W fun e w'=> ∃v',e=G v'/\jJ W w' (Z ao rs.length cap) v' rs lo (w.heap.size,Z O 0 0,(n,⟨#[]⟩,0))):=fun W hW _ h2=>
  Wh (r:=(w.heap.size,Z O 0 0,(n,⟨#[]⟩,0))) (HD.out.aM hW).2.1 hle h2 (fun e=>by
   obtain⟨c,hc⟩:=Wo _ e;have:=aK hc;omega) hl
 have HB:Hid (∀(W w5:F) (v5:Y),aJ w W->jJ W w5 (Z ao rs.length cap) v5 rs lo (w.heap.size,Z O 0 0,(n,⟨#[]⟩,0))->W.heap[w.heap.size]?=M (oM (w.heap.size,Z O 0 0,(n,⟨#[]⟩,0)))->
  w5.heap[db]?=M (iN s (Z ao rs.length cap))/\w5.heap[b0]?=M (C #[U (M ⟨db,0,O⟩)] 77 (0,0))/\w5.heap[b2]?=M (C #[Z (M ad) b.size Mi] 153 (0,0))/\w5.heap[w.heap.size]?=M (oM (w.heap.size,Z O 0 0,(n,⟨#[]⟩,0)))/\mU w5 (M ad) b.data.toList):=fun W w5 v5 hW Ga hf=>by
  have hne:∀(k:Nat) (aT:Array Y) (t:TypeId),w.heap[k]?=M (Obj.cells aT t (0,0))->t≠155->w5.heap[k]?=M (Obj.cells aT t (0,0)):=fun k aT t hk ht=>
   mP Ga.2.1 ((hW.block _ (aK hk)).trans hk) (fun e=>by
    obtain⟨c,hc⟩:=Wo _ e;exact aW hk hc ht rfl)
  refine⟨hne _ _ _ h.1 (by decide),hne _ _ _ c0 (by decide),hne _ _ _ c2 (by decide),mP Ga.2.1 hf (fun e=>by
   obtain⟨c,hc⟩:=Wo _ e;have:=aK hc;omega),?_⟩
  have h1:=hr.aM hW;refine h1.fr (Fr.kG Ga.2.1) (fun a e hx=>?_);cases e
  obtain⟨c,hc⟩:=Wo _ hx;obtain⟨c',f',hc'⟩:=Pt;exact aW hc' hc (by decide) rfl
 have HA:Hid (∀(W w5:F) (v5:Y),aJ w W->jJ W w5 (Z ao rs.length cap) v5 rs lo (w.heap.size,Z O 0 0,(n,⟨#[]⟩,0))->W.heap[w.heap.size]?=M (oM (w.heap.size,Z O 0 0,(n,⟨#[]⟩,0)))->
  ∃g5 uY,v5=Z (M ⟨g5,0,O⟩) (rs.length+1) uY/\w5.cell? ⟨b0,0,O⟩=M (U (M ⟨db,0,O⟩))/\w5.cell? ⟨db,1,O⟩=M (Z ao rs.length cap)/\w5.frozen? ⟨db,1,O⟩=false/\((w5.setCell ⟨db,1,O⟩ v5).cell? ⟨b0,0,O⟩=M (U (M ⟨db,0,O⟩))/\(w5.setCell ⟨db,1,O⟩ v5).cell? ⟨db,1,O⟩=M v5/\(w5.setCell ⟨db,1,O⟩ v5).cell? ⟨g5,lo,O⟩=M (U (M ⟨w.heap.size,0,O⟩))/\
   (w5.setCell ⟨db,1,O⟩ v5).cell? ⟨w.heap.size,1,O⟩=M (Z O 0 0)/\(w5.setCell ⟨db,1,O⟩ v5).cell? ⟨b2,0,O⟩=M (Z (M ad) b.size Mi)/\mU (w5.setCell ⟨db,1,O⟩ v5) (M ad) b.data.toList/\(w5.setCell ⟨db,1,O⟩ v5).heap[w.heap.size]?=M (oM (w.heap.size,Z O 0 0,(n,⟨#[]⟩,0))))):=fun W w5 v5 hW Ga hf=>by
  obtain⟨q1,q2,q3,q4,q5⟩:=HB.out W w5 v5 hW Ga hf;obtain⟨oh,uY,e5,-,-,hn5,hrow5⟩:=fM.form Ga.1;have hl5:(rs.take lo++(w.heap.size,Value.slice O 0 0,(n,(⟨#[]⟩:ByteArray),(0:Int)))::rs.drop lo).length=rs.length+1:=by simp;omega
  cases oh with
  |none=>obtain⟨e,-⟩:=hn5 rfl;rw[e]at hl5;simp at hl5
  |some a5=>
   obtain⟨g5,cur5,rfl,dK,-,-,hc5⟩:=hrow5 a5 rfl;rw[hl5]at e5
   have hk:(rs.take lo++(w.heap.size,Value.slice O 0 0,(n,(⟨#[]⟩:ByteArray),(0:Int)))::rs.drop lo)[lo]?=M (w.heap.size,Z O 0 0,(n,⟨#[]⟩,0)):=by
    rw[List.getElem?_append_right (by simp;omega)];simp[Nat.min_eq_left hle]
   have k1:=hc5 lo _ hk;have aF:=Fr.set w5 ⟨db,1,O⟩ v5;obtain⟨-,m1,-,-,-,-,-,-,mf⟩:=bW q1;have Nl:∀(k:Nat) (aT:Array Y) (t:TypeId),w5.heap[k]?=M (Obj.cells aT t (0,0))->t≠137->(w5.setCell ⟨db,1,O⟩ v5).heap[k]?=M (Obj.cells aT t (0,0)):=fun k aT t hk ht=>aF.at hk (fun e=>aW hk q1 ht e)
   refine⟨g5,uY,e5,by simp[World.cell?,q2],m1,mf 1,?_,?_,?_,?_,?_,?_,Nl _ _ _ q4 (by decide)⟩
   ·simp[World.cell?,Nl _ _ _ q2 (by decide)]
   ·have hdb2:(w5.setCell ⟨db,1,O⟩ v5).heap[db]?=M (iN s v5):=by rw[heap_setCell_same w5 db 1 _ _ _ q1];rfl
    exact(bW hdb2).2.1
   ·have rG:=Nl _ _ _ dK (by decide);have e6:(w5.setCell ⟨db,1,O⟩ v5).heap[g5]?=w5.heap[g5]?:=rG.trans dK.symm;exact(World.cell?_of_block (a:=⟨g5,lo,O⟩) e6).trans k1
   ·exact(fH (r:=(w.heap.size,Z O 0 0,(n,⟨#[]⟩,0))) (Nl _ _ _ q4 (by decide))).2.1
   ·simp[World.cell?,Nl _ _ _ q3 (by decide)]
   ·refine q5.fr aF (fun a e hx=>?_);cases e
    obtain⟨c',f',hc'⟩:=Pt
    have hne:¬(Value.slice ao rs.length cap).ownBlock=M ad.block:=fun e=>by
     obtain⟨c,hc⟩:=Wo _ e;exact aW hc' hc (by decide) rfl
    have h5:=mP Ga.2.1 ((hW.block _ (aK hc')).trans hc') hne;exact aW h5 q1 (by decide) hx
 clear hs hh gL gJ hlo c0 c1 c2 Wo h hr Pt;go_enter Tryz.func212,Tryz.ntmps212
 go_wp2_with fail
 refine hF.mono ?_;rintro e w ⟨rfl,rfl⟩
 go_upto_region 2 with fail
 have a0:∀o,(w.alloc o).cell? ⟨b0,0,O⟩=M (U (M ⟨db,0,O⟩)):=fun o=>cell_later (aU _ _) c0'
 have a1:∀o,(w.alloc o).cell? ⟨db,1,O⟩=M (Z ao rs.length cap):=fun o=>cell_later (aU _ _) d1
 have a2:∀o o2,((w.alloc o).alloc o2).cell? ⟨b0,0,O⟩=M (U (M ⟨db,0,O⟩)):=fun o o2=>cell_later (aU _ _) (a0 o)
 have a3:∀o o2,((w.alloc o).alloc o2).cell? ⟨db,1,O⟩=M (Z ao rs.length cap):=fun o o2=>cell_later (aU _ _) (a1 o)
 go_cut [14] (fun _ wc=> ∃(W w5:F) (g5 uY:Nat),wc=w5.setCell ⟨db,1,O⟩ (Z (M ⟨g5,0,O⟩) (rs.length+1) uY)/\Hid (aJ w W)/\Hid (jJ W w5 (Z ao rs.length cap) (Z (M ⟨g5,0,O⟩) (rs.length+1) uY) rs lo (w.heap.size,Z O 0 0,(n,⟨#[]⟩,0)))/\Hid (W.heap[w.heap.size]?=M (oM (w.heap.size,Z O 0 0,(n,⟨#[]⟩,0)))))
 case first=>
  go_region_law ((refine bM (by rfl) 213 _ _ (by rfl) _ (by simp[Act.eval];done) FO ((HI.out _ (ou w _ _) (TL w _ _) (new2b w _ _)).mono ?_);rintro e w5 ⟨v5,rfl,WY⟩;refine⟨v5,rfl,?_⟩;obtain⟨g5,uY,rfl,x0,x1,x2,-⟩:=HA.out _ w5 v5 (ou w _ _) WY (TL w _ _)))
  all_goals go_wp2_with fail
  all_goals go_meet
  all_goals exact⟨_,w5,g5,uY,rfl,ou w _ _,WY,TL w _ _⟩
 case rest=>
  obtain⟨W,w5,g5,uY,rfl,Ue,WY,hf5⟩:=hcut;obtain⟨g6,cap6,e6,-,-,-,y0,y1,y2,y3,y4,y5,y6⟩:=HA.out W w5 _ Ue.out WY.out hf5.out;cases e6
  clear a0 a1 a2 a3 d1 c0' c1' hF;have HIN:Hid (jJ W w5 (Z ao rs.length cap) (Z (M ⟨g5,0,O⟩) (rs.length+1) uY) rs lo (w.heap.size,Z O 0 0,(n,⟨#[]⟩,0))):=WY;clear WY;have HFB:Hid ((w5.setCell ⟨db,1,O⟩ (Z (M ⟨g5,0,O⟩) (rs.length+1) uY)).heap[w.heap.size]?=M (oM (w.heap.size,Z O 0 0,(n,⟨#[]⟩,0)))):=y6;clear y6;have HEQ:Hid (∃w6,w6=w5.setCell ⟨db,1,O⟩ (Z (M ⟨g5,0,O⟩) (rs.length+1) uY)):=⟨_,rfl⟩;obtain⟨w6,h6⟩:=HEQ.out;have HW6:Hid (w6=w5.setCell ⟨db,1,O⟩ (Z (M ⟨g5,0,O⟩) (rs.length+1) uY)):=h6;rw[<-h6]at y0 y1 y2 y3 y4 y5 HFB ⊢;clear h6 HEQ;have i1:(0:Int)<=(lo:Int):=by omega
  have i2:(lo:Int)<(rs.length:Int)+1:=by omega
  have HLN:Hid (([]++b.data.toList:List UInt8).length=b.size):=rfl
  go_wp2_with fail
  go_region_law ((refine vJ (by rfl) (.tmp 38) (.tmp 39) (by rfl) 0 (Z O 0 0) [] b.data.toList (by rfl) (by exact bC.nil _ 0) ad b.size Mi (by rfl) (by rfl) (by exact y5) (by show 0+b.size<=_;omega) (Nat.zero_le _) ?_;intro v7 w7 FQ jS Mk;have af:w6.grownBy w7 O:=⟨jS.os,jS.tape,jS.output,jS.size,jS.block⟩;have hF7:=mP af HFB.out (fun e=>by cases e);have x1:w7.cell? ⟨w.heap.size,1,O⟩=M (Z O 0 0):=(fH (r:=(w.heap.size,Z O 0 0,(n,⟨#[]⟩,0))) hF7).2.1;have xf1:w7.frozen? ⟨w.heap.size,1,O⟩=false:=(fH (r:=(w.heap.size,Z O 0 0,(n,⟨#[]⟩,0))) hF7).2.2.2 1;obtain⟨ao7,cap7,ev7,-⟩:=bC.form FQ;rw[HLN.out]at ev7;subst ev7))
  all_goals go_wp2_with fail
  all_goals go_end0
  all_goals refine⟨rfl,app_new HD.out HS.out HH.out HLO.out (Nat.le_refl _) Ue.out HIN.out hf5.out (by simpa using FQ) (by rw[<-HW6.out];exact af) (by rw[<-HW6.out];exact Mk)⟩
def ErrD (w:F)(ps:Nat->Addr)(v:Y)(c:Int):Prop:=(c=0/\v= .nilIface)\/(c=9/\Wm w ps v 1)\/(c=10/\Wm w ps v 2)
def AddD (w w':F)(ps:Nat->Addr)(db:Nat)(s:Sc)(fv:Y)(rs:List FR)(n:Int)(b:ByteArray)(v:Y):Prop:=
 ∃dN dH,aP w' db (dJ s (plain rs) n b).2.1 dN dH/\plain dH=(dJ s (plain rs) n b).2.2/\Dk w w' (DX db fv rs) (DX db dN dH)/\ErrD w' ps v (dJ s (plain rs) n b).1
theorem ow (s:Sc)(fs:List bF)(n:Int)(b:ByteArray):((nM s fs (b.size:Int)).1=true->(dJ s fs n b).1=9/\(dJ s fs n b).2.1= { (nM s fs (b.size:Int)).2 with ro:=true }/\(dJ s fs n b).2.2=fs)/\
 ((nM s fs (b.size:Int)).1=false->dJ s fs n b=(if (dF (nM s fs (b.size:Int)).2 fs).1 then (0,(dF (nM s fs (b.size:Int)).2 fs).2.1,Oy (dF (nM s fs (b.size:Int)).2 fs).2.2 (lX (dF (nM s fs (b.size:Int)).2 fs).2.2 n b) (-1))else (10,(dF (nM s fs (b.size:Int)).2 fs).2.1,(dF (nM s fs (b.size:Int)).2 fs).2.2))):=by
 unfold dJ nM;split
 ·simp
 ·split
  ·simp
  ·simp
theorem oz {fs:List bF}(hc:fU s)(ha:0<=s.after):fU (nM s fs n).2/\0<=(nM s fs n).2.after/\(nM s fs n).2.room=s.room:=by
 unfold nM;split
 ·exact⟨⟨hc.ES,hc.Vt,hc.Db,hc.xD,hc.Vu,hc.oK,hc.oL,hc.Yu,hc.NW,hc.Fs,hc.Pj,hc.zM,hc.Cb,hc.nK,hc.zN⟩,ha,rfl⟩
 ·split
  ·exact⟨hc,ha,rfl⟩
  ·rename_i h1 h2;split
   ·rename_i h3;refine⟨⟨hc.ES,hc.Vt,hc.Db,hc.xD,hc.Vu,hc.oK,hc.oL,hc.Yu,hc.NW,hc.Fs,hc.Pj,?_,?_,hc.nK,hc.zN⟩,ha,rfl⟩
    ·have:=hc.zM;have h4:s.left≠0:=fun e=>h1 ⟨h3,e⟩
     simp only;omega
    ·have:=hc.Cb;have:=hc.zM;simp only;omega
   ·exact⟨hc,ha,rfl⟩
theorem TM (l:List bF):0<=bP l:=by
 induction l with
 |nil=>simp[bP]
 |cons f l ih=>simp only[bP];omega
theorem new3 (w:F)(o1 o2 o3:Obj):aJ w (((w.alloc o1).alloc o2).alloc o3)/\(((w.alloc o1).alloc o2).alloc o3).heap[w.heap.size]?=M o1/\(((w.alloc o1).alloc o2).alloc o3).heap[w.heap.size+1]?=M o2/\(((w.alloc o1).alloc o2).alloc o3).heap[w.heap.size+1+1]?=M o3:=by
 refine⟨aJ.alloc (aJ.alloc (aJ.alloc (aJ.refl w) _) _) _,?_,?_,?_⟩
 ·rw[Below.heap_alloc _ o3 _ (by simp;omega),Below.heap_alloc _ o2 _ (by simp)];exact heap_alloc_new w o1
 ·rw[Below.heap_alloc _ o3 _ (by simp)];have:=heap_alloc_new (w.alloc o1) o2;rwa[World.size_alloc]at this
 ·have:=heap_alloc_new ((w.alloc o1).alloc o2) o3;rwa[World.size_alloc,World.size_alloc]at this
theorem WZ:∀(args:Array Y) (w:F),(callFunc 212 args).run K w= .ok (.enter 212 args) w:=enters_of Tryz.func212 (by kernel_rfl) rfl
theorem XA {fs:List bF}(h:(nM s fs n).1=false):bP fs+n<=s.room:=by
 unfold nM at h;split at h
 ·cases h
 ·split at h
  ·cases h
  ·omega
theorem uI {ps:Nat->Addr}{cap:Nat}(h:aP w db s fv rs)(hG:Ud w ps)(hC:fU s)(ha:0<=s.after)(hI:dY s.room (plain rs))(hl:rs.length<=1000)(kT:b.size≠0)(hb:b.size<=1000000000)
 (hr:mU w (M ad) b.data.toList)(Pt:∃aT f,w.heap[ad.block]?=M (C aT 5 f)):
 H K 133 #[U (M ⟨db,0,O⟩),I V n,Z (M ad) b.size cap] w fun e w'=> ∃v,e=G v/\AddD w w' ps db s fv rs n b v:=by
 obtain⟨hA1,hA2⟩:=ow s (plain rs) n b;obtain⟨g1,g2,g3⟩:=oz (fs:=plain rs) (n:=(b.size:Int)) hC ha;have hR:=fun (W:F) (hW:aJ w W)=>OE (w:=W) (n:=(b.size:Int)) (h.aM hW) hl (fun f hf=>(hI.ok f hf).2.2) hC.Vu hC.oK (by omega) (by omega) hC.zM hC.Cb (TM _) (by have:=hI.used;have:=hC.oK;omega)
 obtain⟨k0,k1,k2,k3⟩:=new3 w (C #[U (M ⟨db,0,O⟩)] 77) (C #[I V n] 3) (C #[Z (M ad) b.size cap] 153);obtain⟨W3,WS⟩:∃W3,W3=((w.alloc (C #[U (M ⟨db,0,O⟩)] 77)).alloc (C #[I V n] 3)).alloc (C #[Z (M ad) b.size cap] 153):=⟨_,rfl⟩;have jD:=hR W3 (by rw[WS];exact k0);rw[<-WS]at k0 k1 k2 k3;have ah:Hid (Ud W3 ps):=hG.aM k0;have HD3:Hid (aP W3 db s fv rs):=h.aM k0;have OP:=HD3.out.1;have c0:W3.cell? ⟨w.heap.size,0,O⟩=M (U (M ⟨db,0,O⟩)):=by simp[World.cell?,k1]
 have c1:W3.cell? ⟨w.heap.size+1,0,O⟩=M (I V n):=by simp[World.cell?,k2]
 have c2:W3.cell? ⟨w.heap.size+1+1,0,O⟩=M (Z (M ad) b.size cap):=by simp[World.cell?,k3]
 have Nn:Hid (∀w4,Og W3 w4 db->w4.heap[w.heap.size]?=M (C #[U (M ⟨db,0,O⟩)] 77 (0,0))/\w4.heap[w.heap.size+1]?=M (C #[I V n] 3 (0,0))/\w4.heap[w.heap.size+1+1]?=M (C #[Z (M ad) b.size cap] 153 (0,0))/\Ud w4 ps/\mU w4 (M ad) b.data.toList/\∃aT f,w4.heap[ad.block]?=M (C aT 5 f)):=fun w4 ho=>by
  obtain⟨aT,f,hc⟩:=Pt;have mr:W3.heap[ad.block]?=M (C aT 5 f):=(k0.block _ (aK hc)).trans hc;refine⟨ho.1.at k1 (fun e=>aW k1 OP (by decide) e),ho.1.at k2 (fun e=>aW k2 OP (by decide) e),ho.1.at k3 (fun e=>aW k3 OP (by decide) e),ah.out.fr ho.1 (fun b aT hb=>aW hb OP (by decide)),?_,aT,f,ho.1.at mr (fun e=>aW mr OP (by decide) e)⟩;exact(hr.aM k0).fr ho.1 (fun a e hx=>by cases e;exact aW mr OP (by decide) hx)
 have HK3:Hid (aJ w W3):=k0;clear h hG k0 k1 k2 k3 hR hr Pt OP;cases OG:(nM s (plain rs) (b.size:Int)).1 with
 |true=>
  obtain⟨e1,e2,e3⟩:=hA1 OG;rw[OG]at jD;go_enter Tryz.func133,Tryz.ntmps133
  go_upto_region 1 with fail
  rw[<-WS];clear WS
  go_wp2_with fail
  refine jD.mono ?_;rintro e w4 ⟨rfl,DC,DF⟩;obtain⟨q0,q1,q2,q3,-⟩:=Nn.out w4 DF;have x1:w4.cell? ⟨w.heap.size+1,0,O⟩=M (I V n):=by simp[World.cell?,q1]
  have x2:=q3.cell (k:=1) (by omega);unfold gY at x2;have HD4:Hid (aP w4 db (nM s (plain rs) (b.size:Int)).2 fv rs):=DC;clear DC q0 q1 q2 q3
  go_wp2_with fail
  go_ret;refine⟨_,rfl,fv,rs,?_,?_,?_,?_⟩
  ·rw[e2];exact HD4.out.aM (aU _ _)
  ·rw[e3]
  ·exact((Dk.bH HK3.out).trans (Dk.Ld DF.1 DF.2 (Or.inl rfl))).aM (aU _ _)
  ·exact Or.inr (Or.inl ⟨e1,w4.heap.size,_,n,rfl,heap_alloc_new w4 _⟩)
 |false=>
  have hb:b.size<=1000000:=by have h1:=XA OG;have h2:=TM (plain rs);have h3:=hC.oK;omega
  have hA:=hA2 OG;rw[OG]at jD;obtain⟨s1,yC⟩:∃s1,s1=(nM s (plain rs) (b.size:Int)).2:=⟨_,rfl⟩;rw[<-yC]at hA jD g1 g2 g3;have jH:=hI.sort.1;cases rX:(dF s1 (plain rs)).1 with
  |true=>
   have FT:(dF s1 (plain rs)).2.2=plain rs:=by
    rcases wF g1 (by rw[g3];exact hI:dY s1.room (plain rs))with⟨s',e,-⟩|⟨s',bN,e,-⟩
    ·rw[e]
    ·rw[e]at rX;cases rX
   rw[rX,if_pos rfl,FT]at hA;have Wi:=Vq hI n b;have hnz:(lX (plain rs) n b).2.1.size≠0:=by rw[Wi.2.1,ByteArray.size_append];omega
   have hput:Oy (plain rs) (lX (plain rs) n b) (-1)=iR (plain rs) (lX (plain rs) n b):=tX hI.sort hnz (hI.no (by omega));rw[hput]at hA
   have DI:Hid (∀w4,aP w4 db s1 fv rs->Og W3 w4 db->H K 211 #[U (M ⟨db,0,O⟩),.string ⟨#[97,112,112,101,110,100,32,116,111]⟩,I V n,.func (.func 212) #[] #[U (M ⟨w.heap.size,0,O⟩),U (M ⟨w.heap.size+1,0,O⟩),U (M ⟨w.heap.size+1+1,0,O⟩)]] w4 fun e w'=>e=G .nilIface/\∃w1,Og w4 w1 db/\om w1 w' db (dF s1 (plain rs)).2.1 fv rs n b):=fun w4 DC DF=>by
    refine FI DC g2 g1.oL WZ rX (fun w1 Nk xL=>?_);obtain⟨q0,q1,q2,q3,q4,q5⟩:=Nn.out w1 (DF.trans xL);cases hh:iE (plain rs) n with
    |true=>
     refine(FN (Mi:=cap) Nk jH (by omega) (fun f hf=>(hI.ok f hf).2.2) (by omega) (by simp[World.cell?,q0]) (by simp[World.cell?,q1]) (by simp[World.cell?,q2]) q4 hh).mono ?_;rintro e w2 ⟨rfl,hA⟩;exact⟨rfl,w1,xL,hA⟩
    |false=>
     refine(FP (Mi:=cap) Nk jH (by omega) (by omega) q0 q1 q2 q4 q5 hh).mono ?_;rintro e w2 ⟨rfl,hA⟩;exact⟨rfl,w1,xL,hA⟩
   clear jH Wi hnz hput FT hI;go_enter Tryz.func133,Tryz.ntmps133
   go_upto_region 1 with fail
   rw[<-WS];clear WS
   go_wp2_with fail
   refine jD.mono ?_;rintro e w4 ⟨rfl,DC,DF⟩;obtain⟨q0,q1,-⟩:=Nn.out w4 DF;have x0:w4.cell? ⟨w.heap.size,0,O⟩=M (U (M ⟨db,0,O⟩)):=by simp[World.cell?,q0]
   have x1:w4.cell? ⟨w.heap.size+1,0,O⟩=M (I V n):=by simp[World.cell?,q1]
   have HD4:Hid (aP w4 db s1 fv rs):=DC;clear DC q0 q1
   go_wp2_with fail
   refine(DI.out w4 HD4.out DF).mono ?_;rintro e w5 ⟨rfl,w1,xL,dN,dH,p1,p2,p3⟩
   go_wp2_with fail
   go_ret;refine⟨_,rfl,dN,dH,?_,?_,?_,?_⟩
   ·rw[hA];exact p1
   ·rw[hA];exact p2
   ·have hO:=DF.trans xL;exact((Dk.bH HK3.out).trans (Dk.Ld hO.1 hO.2 (Or.inl rfl))).trans p3
   ·rw[hA];exact Or.inl ⟨rfl,rfl⟩
  |false=>
   rw[rX,if_neg (by simp)]at hA
   have DI:Hid (∀w4 fn,aP w4 db s1 fv rs->Og W3 w4 db->H K 211 #[U (M ⟨db,0,O⟩),.string ⟨#[97,112,112,101,110,100,32,116,111]⟩,I V n,fn] w4 fun e w'=> ∃v,e=G v/\OO w4 w' ps db s1 fv rs v):=fun w4 fn DC DF=>
    TJ DC (Nn.out w4 DF).2.2.2.1 g2 g1.oL (by omega) hI.ok jH g1.Yu g1.Fs g1.NW g1.Pj rX
   clear jH hI;go_enter Tryz.func133,Tryz.ntmps133
   go_upto_region 1 with fail
   rw[<-WS];clear WS
   go_wp2_with fail
   refine jD.mono ?_;rintro e w4 ⟨rfl,DC,DF⟩;obtain⟨q0,q1,-⟩:=Nn.out w4 DF;have x0:w4.cell? ⟨w.heap.size,0,O⟩=M (U (M ⟨db,0,O⟩)):=by simp[World.cell?,q0]
   have x1:w4.cell? ⟨w.heap.size+1,0,O⟩=M (I V n):=by simp[World.cell?,q1]
   have HD4:Hid (aP w4 db s1 fv rs):=DC;clear DC q0 q1
   go_wp2_with fail
   refine(DI.out w4 _ HD4.out DF).mono ?_;rintro e w5 ⟨v,rfl,hE,dN,dH,p1,p2,p3⟩;obtain⟨bb,nm,num,rfl,hbb⟩:=hE
   go_wp2_with fail
   go_ret;refine⟨_,rfl,dN,dH,?_,?_,?_,?_⟩
   ·rw[hA];exact p1
   ·rw[hA];exact p2
   ·exact((Dk.bH HK3.out).trans (Dk.Ld DF.1 DF.2 (Or.inl rfl))).trans p3
   ·rw[hA];exact Or.inr (Or.inr ⟨rfl,bb,nm,num,rfl,hbb⟩)
end Go.Proofs.YtfplgfodoiiobaaGreatDoor
