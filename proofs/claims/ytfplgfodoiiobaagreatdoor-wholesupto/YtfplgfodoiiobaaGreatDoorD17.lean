/- PgN, PgO, PgP (joined). -/
import Derived.Test.YtfplgfodoiiobaaGreatDoorD16
open Option renaming none→O,some→M
open Go.Value renaming int→I,slice→Z,pointer→U
open Go.IntKind renaming i64→V
open Go.Obj renaming cells→C
open Go.Ending renaming returned→G
open Go renaming World→F,Value→Y,Calls→H
open Go.Proofs.Tryz renaming prog→K
open Go.Proofs.Tryz
namespace Go.Proofs.YtfplgfodoiiobaaGreatDoor
set_option maxHeartbeats 4000000
set_option maxRecDepth 100000
open Go.RowKit
abbrev AdI:=@List.getElem_drop
abbrev Adu:=@ByteArray.size_append
variable {n:Int}{w:F}{rs:List FR}{s:Sc}{db g:Nat}{fv:Y}{b nm:ByteArray}{lb:Array Y}{ad:Addr}
theorem yB {ops:Array Oper}{o:Oper}{a:Act}{aA:Act->F->Prop}{Q:Exit->Act->F->Prop}{E:Prop}(qR:o.guard=O)(s x:Operand)
 (ho:o.op= .call { callee:= .builtin .append,args:=#[s,x],argTypes:=#[153,153] })
 (base:Nat)(v:Y)(ys zs:List UInt8)(hs:a.eval s=v)(bD:bI w base v ys)(ad:Addr)(m c:Nat)(hx:a.eval x=Z (M ad) m c)(hm:m=zs.length)(hr:pG w (M ad) zs)
 (hlen:ys.length+zs.length<=1000000000)(iK:base<=w.heap.size)
 (h:∀v' w',bI w' base v' (ys++zs)->w.grownBy w' v.ownBlock->gN w v v'->aA (a.put o.dst v') w'):if Region.wanted o (yielded ops a.tmps)=true then Oper.wp K o a w aA Q else E:=by
 obtain⟨i0,hi,oG,nM,oP⟩:=AaW Tryz.infoByte;subst hm;obtain⟨v',w',yV,Wo,Cq,EY⟩:=Pe (P:=K) w base 153 o.type i0 (I .u8 0) underlying153 hi oG nM oP rfl v ys bD ad zs.length c zs rfl (pG.cells hr) (by unfold maxLen;omega) (by omega) iK;have hw:Region.wanted o (yielded ops a.tmps)=true:=by simp[Region.wanted,qR]
 rw[Aad hw];unfold Oper.wp execOp;simp only[ho,resolve,invoke,builtin,Aci,AcK,Acb,Ack,AaK,AbI,hs,hx,yV];exact h v' w' Wo Cq EY
theorem cB {P:Program}{ops:Array Oper}{o:Oper}{a:Act}{aA:Act->F->Prop}{Q:Exit->Act->F->Prop}{E:Prop}(qR:o.guard=O)(f:FuncId)(xs:Array Operand)(ats:Array TypeId)
 (ho:o.op= .call { callee:= .value (.func f),args:=xs,argTypes:=ats })(args:Array Y)(JC:xs.map a.eval=args)(he:∀(args:Array Y) (w:F),(callFunc f args).run P w= .ok (.enter f args) w)
 (hc:H P f args w fun e w'=> ∃v,e=G v/\aA (a.put o.dst v) w'):if Region.wanted o (yielded ops a.tmps)=true then Oper.wp P o a w aA Q else E:=by
 have hw:Region.wanted o (yielded ops a.tmps)=true:=by simp[Region.wanted,qR]
 rw[Aad hw];unfold Oper.wp;simp only[execOp,ho]
 have hr:Sem.run P (do
  let d <-resolve a.eval { callee:=Callee.value (Operand.func f),args:=xs,argTypes:=ats } o.type
  invoke d.target d.args) w= .ok (.enter f args) w:=by
  simp[resolve,invoke,JC,he,Act.eval,Deferred.ofValue]
 rw[hr];simp only[Oper.upon];refine hc.mono ?_;rintro e w' ⟨v,rfl,hk⟩;exact hk
theorem Zh {l:List bC}(hs:l.Pairwise (fun a b=>a.1<b.1))(n:Int):(∀g∈l.take (eF l n),g.1<n)/\(∀g∈l.drop (eF l n),n<=g.1):=by
 have HS:=Nb hs n;constructor
 ·intro g hg;obtain⟨i,hi,rfl⟩:=Abh hg;have hi2:i<eF l n:=by simp at hi;omega
  have hi3:i<l.length:=by simp at hi;omega
  rw[AdH];exact(HS i _ (Aag hi3)).1 hi2
 ·intro g hg;obtain⟨i,hi,rfl⟩:=Abh hg;have hi3:eF l n+i<l.length:=by simp at hi;omega
  rw[AdI];have:=HS (eF l n+i) _ (Aag hi3);by_cases h:l[eF l n+i].1<n
  ·have:=this.2 h;omega
  ·omega
theorem Dw {l:List bC}(hs:l.Pairwise (fun a b=>a.1<b.1))(f:bC):iO l f=if jV l f.1 then l.set (eF l f.1) f else l.take (eF l f.1)++f::l.drop (eF l f.1):=by
 obtain⟨h1,h2⟩:=Zh hs f.1;cases hh:jV l f.1 with
 |true=>
  simp only[if_true];unfold jV at hh;cases e:l[eF l f.1]? with
  |none=>rw[e]at hh;simp at hh
  |some g=>
   rw[e]at hh;have hg:g.1=f.1:=(by simpa using hh);obtain⟨bP,Kc⟩:=Aae.1 e
   have e1:l=l.take (eF l f.1)++g::l.drop (eF l f.1+1):=by
    rw[<-Kc,<-AaQ bP,AbW]
   rw[Ado,Aad bP];have:=qH (B:=l.drop (eF l f.1+1)) h1 hg;rw[<-e1]at this;exact this
 |false=>
  simp only[AaD,if_false]
  have h3:∀g∈l.drop (eF l f.1),f.1<g.1:=by
   intro g hg;have h4:=h2 g hg
   have h5:g.1≠f.1:=by
    intro e;obtain⟨i,hi,rfl⟩:=Abh hg;have hi3:eF l f.1+i<l.length:=(by simp at hi;omega);rw[AdI]at e;have hp:=Kr hs f.1;rw[hh]at hp;simp only[AaD,if_false]at hp;unfold qX at hp;rw[AbT]at hp;have:=hp _ (Abx hi3);rw[Aat]at this;exact this e
   omega
  have:=wQ h1 h3;rw[AbW]at this;exact this
theorem Nl (hs:(plain rs).Pairwise (fun a b=>a.1<b.1))(n:Int):fQ (plain rs) n=if jV (plain rs) n then (rs[eF (plain rs) n]?).map FR.f else O:=by
 rw[<-Ko,Kr hs];cases jV (plain rs) n with
 |true=>simp[plain]
 |false=>rfl
theorem JD (hs:(plain rs).Pairwise (fun a b=>a.1<b.1)){r:FR}(hh:jV (plain rs) n=true)(hr:rs[eF (plain rs) n]?=M r)(b:ByteArray):mP (plain rs) n b=(n,r.f.2.1++b,r.f.2.2):=by
 unfold mP;rw[Nl hs,hh,hr];rfl
theorem JE (hs:(plain rs).Pairwise (fun a b=>a.1<b.1))(hh:jV (plain rs) n=false)(b:ByteArray):mP (plain rs) n b=(n,b,0):=by
 unfold mP;rw[Nl hs,hh];rfl
theorem qK (a b:ByteArray):(a++b).data.toList=a.data.toList++b.data.toList:=by
 rw[ByteArray.data_append,AcZ]
def zl (w w':F)(db:Nat)(s:Sc)(fv:Y)(rs:List FR)(n:Int)(b:ByteArray):Prop:=
 ∃dV dP,aU w' db s dV dP/\plain dP=iO (plain rs) (mP (plain rs) n b)/\Dk w w' (DX db fv rs) (DX db dV dP)
theorem zm {w5:F}{i:Nat}{v5:Y}{r:FR}(h:aU w db s fv rs)(hs:(plain rs).Pairwise (fun a b=>a.1<b.1))(hh:jV (plain rs) n=true)(hi:i=eF (plain rs) n)(hr:rs[i]?=M r)(hn:r.f.1=n)
 (bD:bI w5 0 v5 (r.f.2.1.data.toList++b.data.toList))(hg:w.grownBy w5 r.v.ownBlock)(EY:gN w r.v v5):zl w (w5.setCell ⟨r.b,1,O⟩ v5) db s fv rs n b:=by
 subst hi;have hf:=h.2.2.1 r (Aai hr)
 have FB:∀g,r.v.ownBlock=M g->g≠r.b:=fun g hg e=>by
  obtain⟨c,Rf,hc⟩:=bI.ty hf.2 hg;exact aZ hc hf.1 (by decide) e
 have h5:=mO hg hf.1 (fun e=>FB _ e rfl)
 have hvb:∀g,v5.ownBlock=M g->g≠r.b:=fun g eO e=>by
  obtain⟨c,Rf,hc⟩:=bI.ty bD eO;exact aZ hc h5 (by decide) e
 have hF:Fr w (w5.setCell ⟨r.b,1,O⟩ v5) (fun b=>b=r.b\/r.v.ownBlock=M b):=
  ((Fr.kC hg).mono fun b e=>Aab e).trans ((Fr.set w5 ⟨r.b,1,O⟩ v5).mono fun b e=>Aac e)
 have Ho:gP (w5.setCell ⟨r.b,1,O⟩ v5) (r.b,v5,(n,r.f.2.1++b,r.f.2.2)):=by
  refine⟨?_,?_⟩
  ·show(w5.setCell ⟨r.b,1,O⟩ v5).heap[r.b]?=_;rw[Aaj w5 r.b 1 _ _ _ h5,<-hn];rfl
  ·show bI _ 0 v5 (r.f.2.1++b).data.toList;rw[qK];exact bD.fr (Fr.set w5 ⟨r.b,1,O⟩ v5) (fun g hg e=>hvb g hg e)
 obtain⟨p1,p2⟩:=h.Ky (r':=(r.b,v5,(n,r.f.2.1++b,r.f.2.2))) hr rfl hF ⟨hg.os,hg.tape,hg.output⟩ Ho EY;refine⟨fv,_,p1,?_,p2⟩;have e1:(mP (plain rs) n b).1=n:=by rw[JD hs hh hr]
 rw[Fw,Dw hs,e1,hh,Aad rfl,JD hs hh hr];rfl
theorem JF {b0 b1 b2 Nc:Nat}(h:aU w db s fv rs)(hs:(plain rs).Pairwise (fun a b=>a.1<b.1))(hl:rs.length<=1000000)(hz:∀f∈plain rs,f.2.1.size<=2000000)(hb:b.size<=2000000)
 (c0:w.cell? ⟨b0,0,O⟩=M (U (M ⟨db,0,O⟩)))(c1:w.cell? ⟨b1,0,O⟩=M (I V n))(c2:w.cell? ⟨b2,0,O⟩=M (Z (M ad) b.size Nc))(hr:pG w (M ad) b.data.toList)(hh:jV (plain rs) n=true):
 H K 212 #[U (M ⟨b0,0,O⟩),U (M ⟨b1,0,O⟩),U (M ⟨b2,0,O⟩)] w fun e w'=>e=G (.tuple #[])/\zl w w' db s fv rs n b:=by
 have hF:=Ao (n:=n) h hs hl;obtain⟨-,d1,-⟩:=dJ h.1;obtain⟨ao,cap,rfl,iI,hm,gL,iU⟩:=iA.form h.2.1;obtain⟨r,Nn,hn⟩:=xZ hh;have HD:Hid _:=h;have HS:Hid _:=hs;have HH:Hid _:=hh;rw[hh]at hF;have bP:=(Aae.1 Nn).1;have Zf:=h.2.2.1 r (Aai Nn);obtain⟨f0,f1,f2,ff⟩:=gQ Zf.1;have hzr:=hz _ (Aai (jU Nn));cases ao with
 |none=>obtain⟨rfl,-⟩:=gL rfl;simp at bP
 |some a=>
  obtain⟨g,aS,rfl,-,-,-,hc⟩:=iU a rfl;have k1:=hc _ r Nn;unfold FR.p at k1;obtain⟨PL,Ja,ev,-⟩:=bI.form Zf.2;have jW:r.f.2.1.data.toList.length=r.f.2.1.size:=rfl;rw[jW]at ev;have wZ:=Zf.2;have HV:Hid _:=ev;have JG:Hid _:=Nn;rw[ev]at f1 wZ;obtain⟨lo,UK⟩:∃lo,lo=eF (plain rs) n:=⟨_,rfl⟩;have HLO:Hid _:=UK;rw[<-UK]at hF bP k1
  have HRB:Hid (∀(w5:F),w.grownBy w5 (Value.slice PL r.f.2.1.size Ja).ownBlock->w5.heap[r.b]?=M (tK r)):=fun w5 hg=>mO hg Zf.1 (fun e=>by
   rw[<-ev]at e;obtain⟨c,Rf,hc⟩:=bI.ty Zf.2 e;exact aZ Zf.1 hc (by decide) rfl)
  have i1:(0:Int)<=(lo:Int):=by omega
  have i2:(lo:Int)<(rs.length:Int):=by omega
  have HLN:Hid ((r.f.2.1.data.toList++b.data.toList).length=r.f.2.1.size+b.size):=by show _=_;rw[Aah];rfl
  clear h hs hh iU gL hc Nn UK Zf ev hz ff jW;go_enter func212,ntmps212;go_wp2_with fail;refine hF.mono ?_;rintro e w ⟨rfl,rfl⟩;go_wp2_with fail
  go_region_law ((refine yB (by rfl) (.tmp 38) (.tmp 39) (by rfl) 0 (Z PL r.f.2.1.size Ja) r.f.2.1.data.toList b.data.toList (by rfl) (by exact wZ) ad b.size Nc (by rfl) (by rfl) (by exact hr) (by show r.f.2.1.size+b.size<=_;omega) (Aap _) ?_;intro v5 w5 dK eO Ab;have vC:w.grownBy w5 (Value.slice PL r.f.2.1.size Ja).ownBlock:=⟨eO.os,eO.tape,eO.output,eO.size,eO.block⟩;have NK:=HRB.out w5 vC;obtain⟨-,x1,-,xf⟩:=gQ NK;have xf1:=xf 1;clear xf;obtain⟨Vw,xQ,ev5,-⟩:=bI.form dK;rw[HLN.out]at ev5;subst ev5))
  all_goals go_wp2
  all_goals go_end0
  all_goals exact⟨rfl,zm HD.out HS.out HH.out rfl JG.out hn dK (by rw[HV.out];exact vC) (by rw[HV.out];exact Ab)⟩
theorem JH:∀(args:Array Y) (w:F),(callFunc 213 args).run K w= .ok (.enter 213 args) w:=enters_of func213 (by kernel_rfl) rfl
theorem app_new {W w5 w7:F}{lo fb:Nat}{v5 v7:Y}(h:aU w db s fv rs)(hs:(plain rs).Pairwise (fun a b=>a.1<b.1))(hh:jV (plain rs) n=false)(UK:lo=eF (plain rs) n)(hfb:w.heap.size<=fb)
 (hg:aL w W)(Gr:lJ W w5 fv v5 rs lo (fb,Z O 0 0,(n,⟨#[]⟩,0)))(hf:W.heap[fb]?=M (tK (fb,Z O 0 0,(n,⟨#[]⟩,0))))
 (bD:bI w7 0 v7 b.data.toList)(oH:(w5.setCell ⟨db,1,O⟩ v5).grownBy w7 O)(EY:gN (w5.setCell ⟨db,1,O⟩ v5) (Z O 0 0) v7):zl w (w7.setCell ⟨fb,1,O⟩ v7) db s fv rs n b:=by
 have hD:=h.aN hg;have hlen:lo<=rs.length:=by rw[UK];have:=Kq (plain rs) n;rwa[bN]at this
 obtain⟨p1,p2⟩:=hD.UH (r:=(fb,Z O 0 0,(n,⟨#[]⟩,0))) Gr ⟨hf,bI.nil W 0⟩ (fun q hq=>⟨fun e=>by
  have:=aM (h.2.2.1 q hq).1;have e':q.b=fb:=e;omega,fun g _ hx=>by simp[FR.v,Value.ownBlock]at hx⟩) rfl
 have hk:(rs.take lo++(fb,Value.slice O 0 0,(n,(⟨#[]⟩:ByteArray),(0:Int)))::rs.drop lo)[lo]?=M (fb,Z O 0 0,(n,⟨#[]⟩,0)):=by
  rw[AaR (by simp;omega)];simp[Nat.min_eq_left hlen]
 have Ii:=p1.2.2.1 _ (Aai hk);have h7:=mO oH Ii.1 (fun e=>by cases e)
 have hvb:∀g,v7.ownBlock=M g->g≠fb:=fun g eO e=>by
  obtain⟨c,Rf,hc⟩:=bI.ty bD eO;exact aZ hc h7 (by decide) e
 have Ho:gP (w7.setCell ⟨fb,1,O⟩ v7) (fb,v7,(n,b,0)):=by
  refine⟨?_,?_⟩
  ·show(w7.setCell ⟨fb,1,O⟩ v7).heap[fb]?=_;rw[Aaj w7 fb 1 _ _ _ h7];rfl
  ·exact bD.fr (Fr.set w7 ⟨fb,1,O⟩ v7) (fun g hg e=>hvb g hg e)
 have hF:Fr (w5.setCell ⟨db,1,O⟩ v5) (w7.setCell ⟨fb,1,O⟩ v7) (fun b=>b=FR.b (fb,Value.slice O 0 0,(n,(⟨#[]⟩:ByteArray),(0:Int)))\/(FR.v (fb,Value.slice O 0 0,(n,(⟨#[]⟩:ByteArray),(0:Int)))).ownBlock=M b):=
  ((Fr.kC oH).mono fun b e=>by cases e).trans ((Fr.set w7 ⟨fb,1,O⟩ v7).mono fun b e=>Aac e)
 obtain⟨q1,q2⟩:=p1.Ky (r':=(fb,v7,(n,b,0))) hk rfl hF ⟨oH.os,oH.tape,oH.output⟩ Ho EY;refine⟨v5,_,q1,?_,?_⟩
 ·have e1:(mP (plain rs) n b).1=n:=by rw[JE hs hh]
  have Rh:(rs.take lo).length=lo:=by rw[Aaw];omega
  rw[Dw hs,e1,hh,Aaa (by simp),JE hs hh,AbV _ _ (by rw[Rh];exact Aak _),Rh,AcS,<-UK];simp[plain,FR.f]
 ·have k1:=p2.trans q2;refine⟨?_,?_,fun b hb=>?_⟩
  ·refine⟨Aam hg.size k1.1.1,fun b hb hn=>?_⟩;rw[<-hg.block b hb];refine k1.1.2 b (AaC hb hg.size) (fun hx=>?_);rcases hx with hx|hx|hx
   ·exact hn hx
   ·have e':b=fb:=hx;omega
   ·simp[FR.v,Value.ownBlock]at hx
  ·exact⟨k1.2.1.1.trans hg.os,k1.2.1.2.1.trans hg.tape,k1.2.1.2.2.trans hg.output⟩
  ·rcases k1.2.2 b hb with(hx|hx|hx)|hx
   ·exact Aac hx
   ·have e':b=fb:=hx;exact Aab (by omega)
   ·simp[FR.v,Value.ownBlock]at hx
   ·exact Aab (Aam hg.size hx)
theorem zn (w:F)(o1 o2:Obj):aL w ((w.alloc o1).alloc o2).drew:=aL.drew (aL.alloc (aL.alloc (aL.refl w) _) _)
theorem UL (w:F)(o1 o2:Obj):((w.alloc o1).alloc o2).drew.heap[w.heap.size]?=M o1:=by
 show((w.alloc o1).alloc o2).heap[w.heap.size]?=M o1;rw[AbF (w.alloc o1) o2 _ (by simp)];exact Aaf w o1
theorem new2b (w:F)(o1 o2:Obj):((w.alloc o1).alloc o2).drew.heap[w.heap.size+1]?=M o2:=by
 show((w.alloc o1).alloc o2).heap[w.heap.size+1]?=M o2;have:=Aaf (w.alloc o1) o2;rwa[AaG]at this
theorem JI {b0 b1 b2 Nc:Nat}(h:aU w db s fv rs)(hs:(plain rs).Pairwise (fun a b=>a.1<b.1))(hl:rs.length<=1000000)(hb:b.size<=2000000)
 (c0:w.heap[b0]?=M (C #[U (M ⟨db,0,O⟩)] 77 (0,0)))(c1:w.heap[b1]?=M (C #[I V n] 3 (0,0)))(c2:w.heap[b2]?=M (C #[Z (M ad) b.size Nc] 153 (0,0)))(hr:pG w (M ad) b.data.toList)(Ua:∃aS f,w.heap[ad.block]?=M (C aS 5 f))(hh:jV (plain rs) n=false):
 H K 212 #[U (M ⟨b0,0,O⟩),U (M ⟨b1,0,O⟩),U (M ⟨b2,0,O⟩)] w fun e w'=>e=G (.tuple #[])/\zl w w' db s fv rs n b:=by
 have hF:=Ao (n:=n) h hs hl;obtain⟨-,d1,-⟩:=dJ h.1;obtain⟨ao,cap,rfl,iI,hm,gL,iU⟩:=iA.form h.2.1;have HD:Hid (aU w db s (Z ao rs.length cap) rs):=h;have HS:Hid ((plain rs).Pairwise (fun a b=>a.1<b.1)):=hs;have HH:Hid (jV (plain rs) n=false):=hh;rw[hh]at hF;have hle:eF (plain rs) n<=rs.length:=by have:=Kq (plain rs) n;rwa[bN]at this
 obtain⟨lo,UK⟩:∃lo,lo=eF (plain rs) n:=⟨_,rfl⟩;have HLO:Hid (lo=eF (plain rs) n):=UK;rw[<-UK]at hF hle;have c0':w.cell? ⟨b0,0,O⟩=M (U (M ⟨db,0,O⟩)):=by simp[World.cell?,c0]
 have c1':w.cell? ⟨b1,0,O⟩=M (I V n):=by simp[World.cell?,c1]
 have Zi:∀g,(Value.slice ao rs.length cap).ownBlock=M g->∃aS,w.heap[g]?=M (C aS 155 (0,0)):=fun g hg=>jK h.2.1 hg
 have HI:Hid (∀W:F,aL w W->W.heap[w.heap.size]?=M (tK (w.heap.size,Z O 0 0,(n,⟨#[]⟩,0)))->W.heap[w.heap.size+1]?=M (C #[U (M ⟨w.heap.size,0,O⟩)] 155 (0,0))->
  H K 213 #[Z ao rs.length cap,I V (lo:Int),Z (M ⟨w.heap.size+1,0,O⟩) 1 1] W fun e w'=> ∃v',e=G v'/\lJ W w' (Z ao rs.length cap) v' rs lo (w.heap.size,Z O 0 0,(n,⟨#[]⟩,0))):=fun W hW _ h2=>
  Ze (r:=(w.heap.size,Z O 0 0,(n,⟨#[]⟩,0))) (HD.out.aN hW).2.1 hle h2 (fun e=>by
   obtain⟨c,hc⟩:=Zi _ e;have:=aM hc;omega) hl
 have HB:Hid (∀(W w5:F) (v5:Y),aL w W->lJ W w5 (Z ao rs.length cap) v5 rs lo (w.heap.size,Z O 0 0,(n,⟨#[]⟩,0))->W.heap[w.heap.size]?=M (tK (w.heap.size,Z O 0 0,(n,⟨#[]⟩,0)))->
  w5.heap[db]?=M (jE s (Z ao rs.length cap))/\w5.heap[b0]?=M (C #[U (M ⟨db,0,O⟩)] 77 (0,0))/\w5.heap[b2]?=M (C #[Z (M ad) b.size Nc] 153 (0,0))/\w5.heap[w.heap.size]?=M (tK (w.heap.size,Z O 0 0,(n,⟨#[]⟩,0)))/\pG w5 (M ad) b.data.toList):=fun W w5 v5 hW Gr hf=>by
  have hne:∀(k:Nat) (aS:Array Y) (t:TypeId),w.heap[k]?=M (Obj.cells aS t (0,0))->t≠155->w5.heap[k]?=M (Obj.cells aS t (0,0)):=fun k aS t hk ht=>
   mO Gr.2.1 ((hW.block _ (aM hk)).trans hk) (fun e=>by
    obtain⟨c,hc⟩:=Zi _ e;exact aZ hk hc ht rfl)
  refine⟨hne _ _ _ h.1 (by decide),hne _ _ _ c0 (by decide),hne _ _ _ c2 (by decide),mO Gr.2.1 hf (fun e=>by
   obtain⟨c,hc⟩:=Zi _ e;have:=aM hc;omega),?_⟩
  have h1:=hr.aN hW;refine h1.fr (Fr.kC Gr.2.1) (fun a e hx=>?_);cases e
  obtain⟨c,hc⟩:=Zi _ hx;obtain⟨c',f',jl⟩:=Ua;exact aZ jl hc (by decide) rfl
 have HA:Hid (∀(W w5:F) (v5:Y),aL w W->lJ W w5 (Z ao rs.length cap) v5 rs lo (w.heap.size,Z O 0 0,(n,⟨#[]⟩,0))->W.heap[w.heap.size]?=M (tK (w.heap.size,Z O 0 0,(n,⟨#[]⟩,0)))->
  ∃g5 xQ,v5=Z (M ⟨g5,0,O⟩) (rs.length+1) xQ/\w5.cell? ⟨b0,0,O⟩=M (U (M ⟨db,0,O⟩))/\w5.cell? ⟨db,1,O⟩=M (Z ao rs.length cap)/\w5.frozen? ⟨db,1,O⟩=false/\((w5.setCell ⟨db,1,O⟩ v5).cell? ⟨b0,0,O⟩=M (U (M ⟨db,0,O⟩))/\(w5.setCell ⟨db,1,O⟩ v5).cell? ⟨db,1,O⟩=M v5/\(w5.setCell ⟨db,1,O⟩ v5).cell? ⟨g5,lo,O⟩=M (U (M ⟨w.heap.size,0,O⟩))/\
   (w5.setCell ⟨db,1,O⟩ v5).cell? ⟨w.heap.size,1,O⟩=M (Z O 0 0)/\(w5.setCell ⟨db,1,O⟩ v5).cell? ⟨b2,0,O⟩=M (Z (M ad) b.size Nc)/\pG (w5.setCell ⟨db,1,O⟩ v5) (M ad) b.data.toList/\(w5.setCell ⟨db,1,O⟩ v5).heap[w.heap.size]?=M (tK (w.heap.size,Z O 0 0,(n,⟨#[]⟩,0))))):=fun W w5 v5 hW Gr hf=>by
  obtain⟨q1,q2,q3,q4,q5⟩:=HB.out W w5 v5 hW Gr hf;obtain⟨Vw,xQ,e5,-,-,Kh,hrow5⟩:=iA.form Gr.1;have hl5:(rs.take lo++(w.heap.size,Value.slice O 0 0,(n,(⟨#[]⟩:ByteArray),(0:Int)))::rs.drop lo).length=rs.length+1:=by simp;omega
  cases Vw with
  |none=>obtain⟨e,-⟩:=Kh rfl;rw[e]at hl5;simp at hl5
  |some a5=>
   obtain⟨g5,cur5,rfl,eO,-,-,TM⟩:=hrow5 a5 rfl;rw[hl5]at e5
   have hk:(rs.take lo++(w.heap.size,Value.slice O 0 0,(n,(⟨#[]⟩:ByteArray),(0:Int)))::rs.drop lo)[lo]?=M (w.heap.size,Z O 0 0,(n,⟨#[]⟩,0)):=by
    rw[AaR (by simp;omega)];simp[Nat.min_eq_left hle]
   have k1:=TM lo _ hk;have aF:=Fr.set w5 ⟨db,1,O⟩ v5;obtain⟨-,m1,-,-,-,-,-,-,mf⟩:=dJ q1;have Ri:∀(k:Nat) (aS:Array Y) (t:TypeId),w5.heap[k]?=M (Obj.cells aS t (0,0))->t≠137->(w5.setCell ⟨db,1,O⟩ v5).heap[k]?=M (Obj.cells aS t (0,0)):=fun k aS t hk ht=>aF.at hk (fun e=>aZ hk q1 ht e);refine⟨g5,xQ,e5,by simp[World.cell?,q2],m1,mf 1,?_,?_,?_,?_,?_,?_,Ri _ _ _ q4 (by decide)⟩
   ·simp[World.cell?,Ri _ _ _ q2 (by decide)]
   ·have hdb2:(w5.setCell ⟨db,1,O⟩ v5).heap[db]?=M (jE s v5):=(by rw[Aaj w5 db 1 _ _ _ q1];rfl);exact(dJ hdb2).2.1
   ·have nJ:=Ri _ _ _ eO (by decide);have e6:(w5.setCell ⟨db,1,O⟩ v5).heap[g5]?=w5.heap[g5]?:=nJ.trans eO.symm;exact(AaO (a:=⟨g5,lo,O⟩) e6).trans k1
   ·exact(gQ (r:=(w.heap.size,Z O 0 0,(n,⟨#[]⟩,0))) (Ri _ _ _ q4 (by decide))).2.1
   ·simp[World.cell?,Ri _ _ _ q3 (by decide)]
   ·refine q5.fr aF (fun a e hx=>?_);cases e
    obtain⟨c',f',jl⟩:=Ua
    have hne:¬(Value.slice ao rs.length cap).ownBlock=M ad.block:=fun e=>by
     obtain⟨c,hc⟩:=Zi _ e;exact aZ jl hc (by decide) rfl
    have h5:=mO Gr.2.1 ((hW.block _ (aM jl)).trans jl) hne;exact aZ h5 q1 (by decide) hx
 clear hs hh iU gL UK c0 c1 c2 Zi h hr Ua;go_enter func212,ntmps212;go_wp2_with fail;refine hF.mono ?_;rintro e w ⟨rfl,rfl⟩;go_upto_region 2 with fail;have a0:∀o,(w.alloc o).cell? ⟨b0,0,O⟩=M (U (M ⟨db,0,O⟩)):=fun o=>AaB (aP _ _) c0'
 have a1:∀o,(w.alloc o).cell? ⟨db,1,O⟩=M (Z ao rs.length cap):=fun o=>AaB (aP _ _) d1;have a2:∀o o2,((w.alloc o).alloc o2).cell? ⟨b0,0,O⟩=M (U (M ⟨db,0,O⟩)):=fun o o2=>AaB (aP _ _) (a0 o);have a3:∀o o2,((w.alloc o).alloc o2).cell? ⟨db,1,O⟩=M (Z ao rs.length cap):=fun o o2=>AaB (aP _ _) (a1 o)
 go_cut [14] (fun _ wc=> ∃(W w5:F) (g5 xQ:Nat),wc=w5.setCell ⟨db,1,O⟩ (Z (M ⟨g5,0,O⟩) (rs.length+1) xQ)/\Hid (aL w W)/\Hid (lJ W w5 (Z ao rs.length cap) (Z (M ⟨g5,0,O⟩) (rs.length+1) xQ) rs lo (w.heap.size,Z O 0 0,(n,⟨#[]⟩,0)))/\Hid (W.heap[w.heap.size]?=M (tK (w.heap.size,Z O 0 0,(n,⟨#[]⟩,0)))))
 case first=>
  go_region_law ((refine cB (by rfl) 213 _ _ (by rfl) _ (by simp[Act.eval];done) JH ((HI.out _ (zn w _ _) (UL w _ _) (new2b w _ _)).mono ?_);rintro e w5 ⟨v5,rfl,YM⟩;refine⟨v5,rfl,?_⟩;obtain⟨g5,xQ,rfl,x0,x1,x2,-⟩:=HA.out _ w5 v5 (zn w _ _) YM (UL w _ _)))
  all_goals go_wp2_with fail
  all_goals go_meet
  all_goals exact⟨_,w5,g5,xQ,rfl,zn w _ _,YM,UL w _ _⟩
 case rest=>
  obtain⟨W,w5,g5,xQ,rfl,sP,YM,hf5⟩:=hcut;obtain⟨g6,cap6,e6,-,-,-,y0,y1,y2,y3,y4,y5,y6⟩:=HA.out W w5 _ sP.out YM.out hf5.out;cases e6
  clear a0 a1 a2 a3 d1 c0' c1' hF;have HIN:Hid (lJ W w5 (Z ao rs.length cap) (Z (M ⟨g5,0,O⟩) (rs.length+1) xQ) rs lo (w.heap.size,Z O 0 0,(n,⟨#[]⟩,0))):=YM;clear YM;have HFB:Hid ((w5.setCell ⟨db,1,O⟩ (Z (M ⟨g5,0,O⟩) (rs.length+1) xQ)).heap[w.heap.size]?=M (tK (w.heap.size,Z O 0 0,(n,⟨#[]⟩,0)))):=y6;clear y6;have HEQ:Hid (∃w6,w6=w5.setCell ⟨db,1,O⟩ (Z (M ⟨g5,0,O⟩) (rs.length+1) xQ)):=⟨_,rfl⟩;obtain⟨w6,h6⟩:=HEQ.out;have HW6:Hid (w6=w5.setCell ⟨db,1,O⟩ (Z (M ⟨g5,0,O⟩) (rs.length+1) xQ)):=h6;rw[<-h6]at y0 y1 y2 y3 y4 y5 HFB ⊢;clear h6 HEQ;have i1:(0:Int)<=(lo:Int):=by omega
  have i2:(lo:Int)<(rs.length:Int)+1:=by omega
  have HLN:Hid (([]++b.data.toList:List UInt8).length=b.size):=rfl;go_wp2_with fail
  go_region_law ((refine yB (by rfl) (.tmp 38) (.tmp 39) (by rfl) 0 (Z O 0 0) [] b.data.toList (by rfl) (by exact bI.nil _ 0) ad b.size Nc (by rfl) (by rfl) (by exact y5) (by show 0+b.size<=_;omega) (Aap _) ?_;intro v7 w7 yX oH hs7;have JJ:w6.grownBy w7 O:=⟨oH.os,oH.tape,oH.output,oH.size,oH.block⟩;have hF7:=mO JJ HFB.out (fun e=>by cases e);have x1:w7.cell? ⟨w.heap.size,1,O⟩=M (Z O 0 0):=(gQ (r:=(w.heap.size,Z O 0 0,(n,⟨#[]⟩,0))) hF7).2.1;have xf1:w7.frozen? ⟨w.heap.size,1,O⟩=false:=(gQ (r:=(w.heap.size,Z O 0 0,(n,⟨#[]⟩,0))) hF7).2.2.2 1;obtain⟨ao7,cap7,ev7,-⟩:=bI.form yX;rw[HLN.out]at ev7;subst ev7))
  all_goals go_wp2_with fail
  all_goals go_end0
  all_goals refine⟨rfl,app_new HD.out HS.out HH.out HLO.out (Aak _) sP.out HIN.out hf5.out (by simpa using yX) (by rw[<-HW6.out];exact JJ) (by rw[<-HW6.out];exact hs7)⟩
def ErrD (w:F)(ps:Nat->Addr)(v:Y)(c:Int):Prop:=(c=0/\v= .nilIface)\/(c=9/\Kz w ps v 1)\/(c=10/\Kz w ps v 2)
def AddD (w w':F)(ps:Nat->Addr)(db:Nat)(s:Sc)(fv:Y)(rs:List FR)(n:Int)(b:ByteArray)(v:Y):Prop:=
 ∃dV dP,aU w' db (bW s (plain rs) n b).2.1 dV dP/\plain dP=(bW s (plain rs) n b).2.2/\Dk w w' (DX db fv rs) (DX db dV dP)/\ErrD w' ps v (bW s (plain rs) n b).1
theorem zq (s:Sc)(fs:List bC)(n:Int)(b:ByteArray):((pV s fs (b.size:Int)).1=true->(bW s fs n b).1=9/\(bW s fs n b).2.1= { (pV s fs (b.size:Int)).2 with ro:=true }/\(bW s fs n b).2.2=fs)/\
 ((pV s fs (b.size:Int)).1=false->bW s fs n b=(if (dI (pV s fs (b.size:Int)).2 fs).1 then (0,(dI (pV s fs (b.size:Int)).2 fs).2.1,pQ (dI (pV s fs (b.size:Int)).2 fs).2.2 (mP (dI (pV s fs (b.size:Int)).2 fs).2.2 n b) (-1))else (10,(dI (pV s fs (b.size:Int)).2 fs).2.1,(dI (pV s fs (b.size:Int)).2 fs).2.2))):=by
 unfold bW pV;split
 ·simp
 ·split
  ·simp
  ·simp
theorem zu {fs:List bC}(hc:iL s)(ha:0<=s.after):iL (pV s fs n).2/\0<=(pV s fs n).2.after/\(pV s fs n).2.room=s.room:=by
 unfold pV;split
 ·exact⟨⟨hc.II,hc.Yn,hc.yI,hc.wX,hc.Yo,hc.kI,hc.mX,hc.Nf,hc.XR,hc.zG,hc.Yp,hc.Gw,hc.Ku,hc.nX,hc.rE⟩,ha,rfl⟩
 ·split
  ·exact⟨hc,ha,rfl⟩
  ·rename_i h1 h2;split
   ·rename_i h3;refine⟨⟨hc.II,hc.Yn,hc.yI,hc.wX,hc.Yo,hc.kI,hc.mX,hc.Nf,hc.XR,hc.zG,hc.Yp,?_,?_,hc.nX,hc.rE⟩,ha,rfl⟩
    ·have:=hc.Gw;have h4:s.left≠0:=fun e=>h1 ⟨h3,e⟩;simp only;omega
    ·have:=hc.Ku;have:=hc.Gw;simp only;omega
   ·exact⟨hc,ha,rfl⟩
theorem UM (l:List bC):0<=bV l:=by
 induction l with
 |nil=>simp[bV]
 |cons f l ih=>simp only[bV];omega
theorem new3 (w:F)(o1 o2 o3:Obj):aL w (((w.alloc o1).alloc o2).alloc o3)/\(((w.alloc o1).alloc o2).alloc o3).heap[w.heap.size]?=M o1/\(((w.alloc o1).alloc o2).alloc o3).heap[w.heap.size+1]?=M o2/\(((w.alloc o1).alloc o2).alloc o3).heap[w.heap.size+1+1]?=M o3:=by
 refine⟨aL.alloc (aL.alloc (aL.alloc (aL.refl w) _) _) _,?_,?_,?_⟩
 ·rw[AbF _ o3 _ (by simp;omega),AbF _ o2 _ (by simp)];exact Aaf w o1
 ·rw[AbF _ o3 _ (by simp)];have:=Aaf (w.alloc o1) o2;rwa[AaG]at this
 ·have:=Aaf ((w.alloc o1).alloc o2) o3;rwa[AaG,AaG]at this
theorem YN:∀(args:Array Y) (w:F),(callFunc 212 args).run K w= .ok (.enter 212 args) w:=enters_of func212 (by kernel_rfl) rfl
theorem YO {fs:List bC}(h:(pV s fs n).1=false):bV fs+n<=s.room:=by
 unfold pV at h;split at h
 ·cases h
 ·split at h
  ·cases h
  ·omega
theorem xA {ps:Nat->Addr}{cap:Nat}(h:aU w db s fv rs)(hG:Wv w ps)(hC:iL s)(ha:0<=s.after)(hI:fM s.room (plain rs))(hl:rs.length<=1000)(uU:b.size≠0)(hb:b.size<=1000000000)
 (hr:pG w (M ad) b.data.toList)(Ua:∃aS f,w.heap[ad.block]?=M (C aS 5 f)):
 H K 133 #[U (M ⟨db,0,O⟩),I V n,Z (M ad) b.size cap] w fun e w'=> ∃v,e=G v/\AddD w w' ps db s fv rs n b v:=by
 obtain⟨hA1,TV⟩:=zq s (plain rs) n b;obtain⟨g1,g2,g3⟩:=zu (fs:=plain rs) (n:=(b.size:Int)) hC ha;have hR:=fun (W:F) (hW:aL w W)=>PI (w:=W) (n:=(b.size:Int)) (h.aN hW) hl (fun f hf=>(hI.ok f hf).2.2) hC.Yo hC.kI (by omega) (by omega) hC.Gw hC.Ku (UM _) (by have:=hI.used;have:=hC.kI;omega);obtain⟨k0,k1,k2,k3⟩:=new3 w (C #[U (M ⟨db,0,O⟩)] 77) (C #[I V n] 3) (C #[Z (M ad) b.size cap] 153);obtain⟨W3,YE⟩:∃W3,W3=((w.alloc (C #[U (M ⟨db,0,O⟩)] 77)).alloc (C #[I V n] 3)).alloc (C #[Z (M ad) b.size cap] 153):=⟨_,rfl⟩;have HR3:=hR W3 (by rw[YE];exact k0);rw[<-YE]at k0 k1 k2 k3;have jm:Hid (Wv W3 ps):=hG.aN k0;have HD3:Hid (aU W3 db s fv rs):=h.aN k0;have PX:=HD3.out.1;have c0:W3.cell? ⟨w.heap.size,0,O⟩=M (U (M ⟨db,0,O⟩)):=by simp[World.cell?,k1]
 have c1:W3.cell? ⟨w.heap.size+1,0,O⟩=M (I V n):=by simp[World.cell?,k2]
 have c2:W3.cell? ⟨w.heap.size+1+1,0,O⟩=M (Z (M ad) b.size cap):=by simp[World.cell?,k3]
 have zw:Hid (∀w4,Og W3 w4 db->w4.heap[w.heap.size]?=M (C #[U (M ⟨db,0,O⟩)] 77 (0,0))/\w4.heap[w.heap.size+1]?=M (C #[I V n] 3 (0,0))/\w4.heap[w.heap.size+1+1]?=M (C #[Z (M ad) b.size cap] 153 (0,0))/\Wv w4 ps/\pG w4 (M ad) b.data.toList/\∃aS f,w4.heap[ad.block]?=M (C aS 5 f)):=fun w4 ho=>by
  obtain⟨aS,f,hc⟩:=Ua;have hc3:W3.heap[ad.block]?=M (C aS 5 f):=(k0.block _ (aM hc)).trans hc;refine⟨ho.1.at k1 (fun e=>aZ k1 PX (by decide) e),ho.1.at k2 (fun e=>aZ k2 PX (by decide) e),ho.1.at k3 (fun e=>aZ k3 PX (by decide) e),jm.out.fr ho.1 (fun b aS hb=>aZ hb PX (by decide)),?_,aS,f,ho.1.at hc3 (fun e=>aZ hc3 PX (by decide) e)⟩;exact(hr.aN k0).fr ho.1 (fun a e hx=>by cases e;exact aZ hc3 PX (by decide) hx)
 have HK3:Hid (aL w W3):=k0;clear h hG k0 k1 k2 k3 hR hr Ua PX;cases PK:(pV s (plain rs) (b.size:Int)).1 with
 |true=>
  obtain⟨e1,e2,e3⟩:=hA1 PK;rw[PK]at HR3;go_enter func133,ntmps133;go_upto_region 1 with fail;rw[<-YE];clear YE;go_wp2_with fail;refine HR3.mono ?_;rintro e w4 ⟨rfl,FC,FD⟩;obtain⟨q0,q1,q2,q3,-⟩:=zw.out w4 FD;have x1:w4.cell? ⟨w.heap.size+1,0,O⟩=M (I V n):=by simp[World.cell?,q1]
  have x2:=q3.cell (k:=1) (by omega);unfold jH at x2;have YP:Hid (aU w4 db (pV s (plain rs) (b.size:Int)).2 fv rs):=FC;clear FC q0 q1 q2 q3;go_wp2_with fail;go_ret;refine⟨_,rfl,fv,rs,?_,?_,?_,?_⟩
  ·rw[e2];exact YP.out.aN (aP _ _)
  ·rw[e3]
  ·exact((Dk.bX HK3.out).trans (Dk.Ph FD.1 FD.2 (Aac rfl))).aN (aP _ _)
  ·exact Aab (Aac ⟨e1,w4.heap.size,_,n,rfl,Aaf w4 _⟩)
 |false=>
  have hb:b.size<=1000000:=by have h1:=YO PK;have h2:=UM (plain rs);have h3:=hC.kI;omega
  have hA:=TV PK;rw[PK]at HR3;obtain⟨s1,sV⟩:∃s1,s1=(pV s (plain rs) (b.size:Int)).2:=⟨_,rfl⟩;rw[<-sV]at hA HR3 g1 g2 g3;have lC:=hI.sort.1;cases gK:(dI s1 (plain rs)).1 with
  |true=>
   have JK:(dI s1 (plain rs)).2.2=plain rs:=by
    rcases mQ g1 (by rw[g3];exact hI:fM s1.room (plain rs))with⟨s',e,-⟩|⟨s',dU,e,-⟩
    ·rw[e]
    ·rw[e]at gK;cases gK
   rw[gK,Aad rfl,JK]at hA;have Cr:=Yi hI n b;have hnz:(mP (plain rs) n b).2.1.size≠0:=(by rw[Cr.2.1,Adu];omega);have YQ:pQ (plain rs) (mP (plain rs) n b) (-1)=iO (plain rs) (mP (plain rs) n b):=yY hI.sort hnz (hI.no (by omega));rw[YQ]at hA
   have FE:Hid (∀w4,aU w4 db s1 fv rs->Og W3 w4 db->H K 211 #[U (M ⟨db,0,O⟩),.string ⟨#[97,112,112,101,110,100,32,116,111]⟩,I V n,.func (.func 212) #[] #[U (M ⟨w.heap.size,0,O⟩),U (M ⟨w.heap.size+1,0,O⟩),U (M ⟨w.heap.size+1+1,0,O⟩)]] w4 fun e w'=>e=G .nilIface/\∃w1,Og w4 w1 db/\zl w1 w' db (dI s1 (plain rs)).2.1 fv rs n b):=fun w4 FC FD=>by
    refine JA FC g2 g1.mX YN gK (fun w1 yN Bb=>?_);obtain⟨q0,q1,q2,q3,q4,q5⟩:=zw.out w1 (FD.trans Bb);cases hh:jV (plain rs) n with
    |true=>
     refine(JF (Nc:=cap) yN lC (by omega) (fun f hf=>(hI.ok f hf).2.2) (by omega) (by simp[World.cell?,q0]) (by simp[World.cell?,q1]) (by simp[World.cell?,q2]) q4 hh).mono ?_;rintro e w2 ⟨rfl,hA⟩;exact⟨rfl,w1,Bb,hA⟩
    |false=>
     refine(JI (Nc:=cap) yN lC (by omega) (by omega) q0 q1 q2 q4 q5 hh).mono ?_;rintro e w2 ⟨rfl,hA⟩;exact⟨rfl,w1,Bb,hA⟩
   clear lC Cr hnz YQ JK hI;go_enter func133,ntmps133;go_upto_region 1 with fail;rw[<-YE];clear YE;go_wp2_with fail;refine HR3.mono ?_;rintro e w4 ⟨rfl,FC,FD⟩;obtain⟨q0,q1,-⟩:=zw.out w4 FD;have x0:w4.cell? ⟨w.heap.size,0,O⟩=M (U (M ⟨db,0,O⟩)):=(by simp[World.cell?,q0]);have x1:w4.cell? ⟨w.heap.size+1,0,O⟩=M (I V n):=(by simp[World.cell?,q1]);have YP:Hid (aU w4 db s1 fv rs):=FC;clear FC q0 q1;go_wp2_with fail;refine(FE.out w4 YP.out FD).mono ?_;rintro e w5 ⟨rfl,w1,Bb,dV,dP,p1,p2,p3⟩;go_wp2_with fail;go_ret;refine⟨_,rfl,dV,dP,?_,?_,?_,?_⟩
   ·rw[hA];exact p1
   ·rw[hA];exact p2
   ·have hO:=FD.trans Bb;exact((Dk.bX HK3.out).trans (Dk.Ph hO.1 hO.2 (Aac rfl))).trans p3
   ·rw[hA];exact Aac ⟨rfl,rfl⟩
  |false=>
   rw[gK,Aaa (by simp)]at hA
   have FE:Hid (∀w4 fn,aU w4 db s1 fv rs->Og W3 w4 db->H K 211 #[U (M ⟨db,0,O⟩),.string ⟨#[97,112,112,101,110,100,32,116,111]⟩,I V n,fn] w4 fun e w'=> ∃v,e=G v/\PW w4 w' ps db s1 fv rs v):=fun w4 fn FC FD=>
    UJ FC (zw.out w4 FD).2.2.2.1 g2 g1.mX (by omega) hI.ok lC g1.Nf g1.zG g1.XR g1.Yp gK
   clear lC hI;go_enter func133,ntmps133;go_upto_region 1 with fail;rw[<-YE];clear YE;go_wp2_with fail;refine HR3.mono ?_;rintro e w4 ⟨rfl,FC,FD⟩;obtain⟨q0,q1,-⟩:=zw.out w4 FD;have x0:w4.cell? ⟨w.heap.size,0,O⟩=M (U (M ⟨db,0,O⟩)):=(by simp[World.cell?,q0]);have x1:w4.cell? ⟨w.heap.size+1,0,O⟩=M (I V n):=(by simp[World.cell?,q1]);have YP:Hid (aU w4 db s1 fv rs):=FC;clear FC q0 q1;go_wp2_with fail;refine(FE.out w4 _ YP.out FD).mono ?_;rintro e w5 ⟨v,rfl,hE,dV,dP,p1,p2,p3⟩;obtain⟨bb,nm,num,rfl,XT⟩:=hE;go_wp2_with fail;go_ret;refine⟨_,rfl,dV,dP,?_,?_,?_,?_⟩
   ·rw[hA];exact p1
   ·rw[hA];exact p2
   ·exact((Dk.bX HK3.out).trans (Dk.Ph FD.1 FD.2 (Aac rfl))).trans p3
   ·rw[hA];exact Aab (Aab ⟨rfl,bb,nm,num,rfl,XT⟩)
theorem PY {b7 b9:Nat}{lo:Int}{R:F->Prop}(c7:w.cell? ⟨b7,0,O⟩=M (.func (.func g) #[] lb))(c9:w.cell? ⟨b9,0,O⟩=M (I V lo))(eg:∀(args:Array Y) (w:F),(callFunc g args).run K w= .ok (.enter g args) w)
 (hc:H K g (#[I V lo]++lb) w fun e w'=>e=G (.tuple #[])/\R w'):
 H K 215 #[U (M ⟨b7,0,O⟩),U (M ⟨b9,0,O⟩)] w fun e w'=>e=G (.tuple #[])/\R w':=by
 go_enter func215,ntmps215;go_wp2_with (go_at_fn g;refine hc.mono ?_;rintro e w2 ⟨rfl,hR⟩);go_end0;exact⟨rfl,hR⟩
theorem YR:∀(args:Array Y) (w:F),(callFunc 215 args).run K w= .ok (.enter 215 args) w:=enters_of func215 (by kernel_rfl) rfl
theorem Dx (h:aU w db s fv rs)(hs:(plain rs).Pairwise (fun a b=>a.1<b.1))(hl:rs.length<=1000000)(hh:jV (plain rs) n=false):
 H K 135 #[U (M ⟨db,0,O⟩),.string nm,I V n,.func (.func g) #[] lb] w fun e w'=>e=G .nilIface/\aL w w':=by
 have hF:=Ao (n:=n) (h.aN (aP w (C #[.func (.func g) #[] lb] 95))) hs hl;rw[hh]at hF;generalize eF (plain rs) n=lo at hF;clear h hs hh;go_enter func135,ntmps135;go_wp2_with (go_at_call 177;refine hF.mono ?_;rintro e w1 ⟨rfl,rfl⟩);go_ret;refine⟨rfl,?_⟩
 repeat (first|exact aL.refl _|refine aL.alloc ?_ _|refine aL.drew ?_)
theorem JL (w:F)(o1 o2:Obj):aL w ((w.alloc o1).alloc o2)/\((w.alloc o1).alloc o2).heap[w.heap.size]?=M o1/\((w.alloc o1).alloc o2).heap[w.heap.size+1]?=M o2:=⟨aL.alloc (aL.alloc (aL.refl w) _) _,UL w o1 o2,new2b w o1 o2⟩
theorem Bc {R:F->Prop}(h:aU w db s fv rs)(hs:(plain rs).Pairwise (fun a b=>a.1<b.1))(hl:rs.length<=1000000)(hh:jV (plain rs) n=true)(ha:0<=s.after)(ru:s.after<=9223372036854775807)
 (eg:∀(args:Array Y) (w:F),(callFunc g args).run K w= .ok (.enter g args) w)(gK:(dI s (plain rs)).1=true)
 (PV:∀w1,aU w1 db (dI s (plain rs)).2.1 fv rs->Og w w1 db->H K g (#[I V (eF (plain rs) n:Nat)]++lb) w1 fun e w2=>e=G (.tuple #[])/\R w2):
 H K 135 #[U (M ⟨db,0,O⟩),.string nm,I V n,.func (.func g) #[] lb] w fun e w'=>e=G .nilIface/\R w':=by
 have hF:=Ao (n:=n) (h.aN (aP w (C #[.func (.func g) #[] lb] 95))) hs hl;rw[hh]at hF;obtain⟨k0,k1,k2⟩:=JL w (C #[.func (.func g) #[] lb] 95) (C #[I V (eF (plain rs) n:Nat)] 3)
 have FE:=JA (nm:=nm) (num:=n) (g:=215) (lb:=#[U (M ⟨w.heap.size,0,O⟩),U (M ⟨w.heap.size+1,0,O⟩)]) (R:=R) (h.aN k0) ha ru YR gK (fun w1 yN Bb=>by
  have hne:∀(k:Nat) (aS:Array Y) (t:TypeId),((w.alloc (C #[.func (.func g) #[] lb] 95)).alloc (C #[I V (eF (plain rs) n:Nat)] 3)).heap[k]?=M (Obj.cells aS t (0,0))->t≠137->w1.heap[k]?=M (Obj.cells aS t (0,0)):=fun k aS t hk ht=>Bb.1.at hk (fun e=>aZ hk (h.aN k0).1 ht e);refine PY (lo:=(eF (plain rs) n:Nat)) (by simp[World.cell?,hne _ _ _ k1 (by decide)]) (by simp[World.cell?,hne _ _ _ k2 (by decide)]) eg (PV w1 yN ?_);exact((Og.refl w db).aN k0).trans Bb)
 generalize eF (plain rs) n=lo at hF FE;clear h hs hh PV gK k0 k1 k2;go_enter func135,ntmps135;go_wp2_with (first|(go_at_call 177;refine hF.mono ?_;rintro e w1 ⟨rfl,rfl⟩)|(go_at_call 211;refine FE.mono ?_;rintro e w2 ⟨rfl,hR⟩));go_ret;exact⟨rfl,hR⟩
theorem Fx {ps:Nat->Addr}(h:aU w db s fv rs)(hG:Wv w ps)(hC:iL s)(ha:0<=s.after)(hI:fM s.room (plain rs))(hl:rs.length<=1000000)(hh:jV (plain rs) n=true)(gK:(dI s (plain rs)).1=false):
 H K 135 #[U (M ⟨db,0,O⟩),.string nm,I V n,.func (.func g) #[] lb] w fun e w'=> ∃v,e=G v/\PW w w' ps db s fv rs v:=by
 have hF:=Ao (n:=n) (h.aN (aP w (C #[.func (.func g) #[] lb] 95))) hI.sort.1 hl;rw[hh]at hF;obtain⟨k0,k1,k2⟩:=JL w (C #[.func (.func g) #[] lb] 95) (C #[I V (eF (plain rs) n:Nat)] 3);have FE:=fun fn=>UJ (nm:=nm) (num:=n) (fn:=fn) (h.aN k0) (hG.aN k0) ha hC.mX hl hI.ok hI.sort.1 hC.Nf hC.zG hC.XR hC.Yp gK;have HK:Hid (aL w ((w.alloc (C #[.func (.func g) #[] lb] 95)).alloc (C #[I V (eF (plain rs) n:Nat)] 3))):=k0;generalize eF (plain rs) n=lo at hF FE HK;clear h hh gK k0 k1 k2 hG hC hI;go_enter func135,ntmps135;go_wp2_with (go_at_call 177;refine hF.mono ?_;rintro e w1 ⟨rfl,rfl⟩);refine(FE _).mono ?_;rintro e w2 ⟨v,rfl,⟨bb,nm',num,rfl,XT⟩,dV,dP,p1,p2,p3⟩;go_wp2_with fail;go_ret;exact⟨_,rfl,⟨bb,nm',num,rfl,XT⟩,dV,dP,p1,p2,(Dk.bX HK.out).trans p3⟩
end Go.Proofs.YtfplgfodoiiobaaGreatDoor
