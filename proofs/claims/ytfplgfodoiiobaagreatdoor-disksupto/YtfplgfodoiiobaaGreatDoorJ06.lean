/- RefC, RefD, RefE (joined). -/
import Derived.Test.YtfplgfodoiiobaaGreatDoorJ05
open Option renaming none→O,some→M
open Go.Value renaming int→I,slice→Z
open Go.IntKind renaming i64→V
open Go.Obj renaming cells→C
open Go.Ending renaming returned→G
open Go renaming World→F,Value→Y,Calls→H
open Go.Proofs.Tryz renaming prog→K
namespace Go.Proofs.YtfplgfodoiiobaaGreatDoor
set_option maxHeartbeats 1000000
set_option maxRecDepth 100000
open Go.RowKit
variable {w w':F}{g la ca i:Nat}{ao:Option Addr}{l:List (Int×Int)}{x:bS}{a b c d e p q r s t:Y}{X:Nat->Prop}{pos:Int}
abbrev gH:=Int×bS×bS
def gH.cells (e:gH):List Y:=[I V e.1,e.2.1.v,e.2.2.v]
def Ia (l:List gH):List Y:=l.flatMap gH.cells
theorem vX (e:gH)(l:List gH):Ia (e::l)=[I V e.1,e.2.1.v,e.2.2.v]++Ia l:=rfl
theorem zM (a b:List gH):Ia (a++b)=Ia a++Ia b:=by simp[Ia]
theorem Qr (l:List gH):(Ia l).length=l.length*3:=by
 induction l with
 |nil=>rfl
 |cons e l ih=>rw[vX,List.length_append,ih];simp;omega
def CG (w:F)(ao:Option Addr)(l:List gH):Prop:=
 (l=[]\/∃b off,ao=M ⟨b,off,O⟩/\∀j u,(Ia l)[j]?=M u->w.cell? ⟨b,off+j,O⟩=M u)/\∀a,ao=M a->∃aS,w.heap[a.block]?=M (C aS 302 (0,0))
def uD (w:F)(B:Nat)(v:Y)(l:List gH):Prop:=w.ownsRow B 302 3 v l.length (Ia l)
theorem CG.fr {l:List gH}(h:CG w ao l)(hF:Fr w w' X)(hx:∀b aS,w.heap[b]?=M (C aS 302 (0,0))->¬X b):CG w' ao l:=by
 obtain⟨h1,h2⟩:=h;refine⟨?_,fun a e=>?_⟩
 ·rcases h1 with h1|⟨b,off,e,hc⟩
  ·exact Or.inl h1
  ·refine Or.inr ⟨b,off,e,fun j u hu=>?_⟩;obtain⟨aS,hb⟩:=h2 _ e;have pX:w'.heap[b]?=w.heap[b]?:=hF.2 b (aM hb) (hx _ _ hb);exact(World.cell?_of_block (a:=⟨b,off+j,O⟩) pX).trans (hc j u hu)
 ·obtain⟨aS,hb⟩:=h2 a e;exact⟨aS,hF.at hb (hx _ _ hb)⟩
theorem CG.aN {l:List gH}(h:CG w ao l)(hg:aL w w'):CG w' ao l:=h.fr (Fr.cZ hg (fun _=>False)) (fun _ _ _=>id)
theorem CG.nil (w:F):CG w O []:=⟨Or.inl rfl,fun _ e=>by cases e⟩
theorem CG.take {l:List gH}(h:CG w ao l)(k:Nat):CG w ao (l.take k):=by
 obtain⟨h1,h2⟩:=h;refine⟨?_,h2⟩;rcases h1 with rfl|⟨b,off,e,hc⟩
 ·left;simp
 ·refine Or.inr ⟨b,off,e,fun j u hu=>hc j u ?_⟩;have e2:Ia l=Ia (l.take k)++Ia (l.drop k):=by rw[<-zM,List.take_append_drop]
  have bT:=(List.getElem?_eq_some_iff.1 hu).1;rw[e2,List.getElem?_append_left bT];exact hu
theorem uD.form {B:Nat}{v:Y}{l:List gH}(h:uD w B v l):∃ao cap,v=Z ao l.length cap/\CG w ao l/\(ao=O->l.length=0/\cap=0)/\l.length<=cap:=by
 have h':=h;obtain⟨-,h2⟩:=h;rcases h2 with⟨rfl,h3⟩|⟨g,cap,aS,rfl,hg,hh,iL,-⟩
 ·exact⟨O,0,by rw[h3],⟨Or.inl (List.eq_nil_of_length_eq_zero h3),(fun _ e=>by cases e)⟩,fun _=>⟨h3,rfl⟩,by omega⟩
 ·refine⟨M ⟨g,0,O⟩,cap,rfl,⟨Or.inr ⟨g,0,rfl,fun j u hu=>?_⟩,(fun a e=>by cases e;exact⟨aS,hh⟩)⟩,(fun e=>by cases e),iL⟩;have:=World.ownsRow.cells h' rfl j u hu;cases j with
  |zero=>simpa[Addr.add]using this
  |succ j=>simpa[Addr.add]using this
theorem Tryz.infoEdit:(Tryz.prog.info? 302).map (fun i=>(i.zero,i.size,i.bytes))=M (M (.agg #[I V 0,Z O 0 0,Z O 0 0]),3,56):=by kernel_rfl
theorem Ap {ops:Array Oper}{rest:List Oper}{o:Oper}{a:Act}{Q:Exit->Act->F->Prop}(qE:o.guard=O)(s x:Operand)
 (ho:o.op= .call { callee:= .builtin .append,args:=#[s,x],argTypes:=#[185,185] })
 (base:Nat)(v:Y)(ys zs:List gH)(hs:a.eval s=v)(bA:uD w base v ys)(ao:Option Addr)(m c:Nat)(hx:a.eval x=Z ao m c)(hm:m=zs.length)(gP:ao=O->zs.length=0/\c=0)(hr:CG w ao zs)
 (hlen:ys.length+zs.length<=1000000000)(iI:base<=w.heap.size)
 (h:∀v' w',uD w' base v' (ys++zs)->w.grownBy w' v.ownBlock->wpList K ops Q rest (a.put o.dst v') w'):wpList K ops Q (o::rest) a w:=by
 obtain⟨i0,hi,nN,nO,oM⟩:=info_parts Tryz.infoEdit;subst hm;cases ao with
 |none=>
  obtain⟨h1,rfl⟩:=gP rfl;have hz:zs=[]:=List.eq_nil_of_length_eq_zero h1;subst hz;exact wpList_append_own_none qE s x 185 ho base 302 i0 3 Tryz.underlying185 hi v _ _ hs bA hx (h v w (by simpa using bA) (World.grownBy.refl _ _))
 |some ad=>
  refine wpList_append_own w qE s x 185 ho base 302 i0 (.agg #[I V 0,Z O 0 0,Z O 0 0]) 3 56 Tryz.underlying185 hi nN nO oM rfl (by decide) v ys.length (Ia ys) hs bA ad zs.length c (Ia zs) hx (Qr zs) ?_ ?_ (by unfold maxLen;omega) (by omega) iI ?_
  ·rcases hr.1 with rfl|⟨b,off,e,hc⟩
   ·intro j u hj;simp[Ia]at hj
   ·cases e
    intro j u hj;have:=hc j u hj;cases j with
    |zero=>simpa[Addr.add]using this
    |succ j=>simpa[Addr.add]using this
  ·intro u hu;obtain⟨p,-,hp⟩:=List.mem_flatMap.1 hu;simp[gH.cells]at hp;rcases hp with rfl|rfl|rfl<;>rfl
  ·intro v' w' h1 h2 _;refine h v' w' ?_ h2;unfold uD;rw[zM,List.length_append];exact h1
theorem QF (w:F){B:Nat}(hB:B<=w.heap.size)(e:gH):uD (w.alloc (C #[I V e.1,e.2.1.v,e.2.2.v] 302)) B (Z (M ⟨w.heap.size,0,O⟩) 1 1) [e]:=by
 have:=World.ownsRow_lit (base:=B) (e:=302) (size:=3) w #[I V e.1,e.2.1.v,e.2.2.v] 1 hB (by unfold maxLen;omega) rfl;exact this
theorem TN {e:gH}{l:List gH}{most:Nat}(hr:CG w ao l)(e1:la=l.length)(gP:ao=O->l.length=0/\ca=0)(hlen:l.length<=1000000)(hm:most<=1000000):
 H K 221 #[.agg #[I V e.1,e.2.1.v,e.2.2.v],Z ao la ca,I V (most:Int)] w fun r w'=>
  ∃bo cb,r=G (Z bo ((e::l).take most).length cb)/\CG w' bo ((e::l).take most)/\(bo=O->((e::l).take most).length=0/\cb=0)/\((e::l).take most).length<=cb/\Below w.heap.size w w':=by
 subst e1;obtain⟨pos,⟨x1,x2,x3⟩,⟨y1,y2,y3⟩⟩:=e;simp only[bS.v];go_enter Tryz.func221,Tryz.ntmps221;have gG:=aQ (aO w (C #[I V pos,Z x1 x2 x3,Z y1 y2 y3] 302)) (aO _ (C #[I V pos,Z x1 x2 x3,Z y1 y2 y3] 302));have bA:=QF (B:=w.heap.size) (w.alloc (C #[I V pos,Z x1 x2 x3,Z y1 y2 y3] 302)) (by simp) (pos,(x1,x2,x3),(y1,y2,y3));simp only[bS.v,World.size_alloc]at bA
 go_upto_region 3 with(at_builtin;go_must (refine Ap (by rfl) (.tmp 10) (.tmp 11) (by rfl) w.heap.size _ [(pos,(x1,x2,x3),(y1,y2,y3))] l (by rfl) (by exact bA) _ _ _ (by rfl) (by rfl) (by exact gP) (by exact hr.aN gG) (by simp;omega) (by simp;omega) ?_);intro v5 w5 cO fQ)
 have B5:Below w.heap.size w w5:=gG.grown fQ (by simp;omega) (fun k e=>by cases e;simp);obtain⟨a5,c5,rfl,Ef,Qs,XW⟩:=cO.form;simp only[List.singleton_append,List.length_cons]at Ef Qs XW ⊢;clear fQ bA cO gG;by_cases hf:most<l.length+1
 ·have hf':((most:Nat):Int)<(l.length:Int)+1:=by omega
  have j1:(0:Int)<=(most:Int):=by omega
  have j2:(most:Int)<=(c5:Int):=by omega
  have Bt:(List.take most ((pos,(x1,x2,x3),(y1,y2,y3))::l)).length=most:=by rw[List.length_take];simp;omega
  have HL:Hid ((List.take most ((pos,(x1,x2,x3),(y1,y2,y3))::l)).length=most):=Bt;clear Bt
  go_wp2_with fail
  go_ret;refine⟨a5,c5,?_,Ef.take most,?_,?_,B5⟩
  ·rw[HL.out];rfl
  ·rw[HL.out];intro e;obtain⟨q1,q2⟩:=Qs e;omega
  ·rw[HL.out];omega
 ·have hf':¬((most:Nat):Int)<(l.length:Int)+1:=by omega
  have e1:List.take most ((pos,(x1,x2,x3),(y1,y2,y3))::l)=(pos,(x1,x2,x3),(y1,y2,y3))::l:=List.take_of_length_le (by simp;omega);have HE:Hid (List.take most ((pos,(x1,x2,x3),(y1,y2,y3))::l)=(pos,(x1,x2,x3),(y1,y2,y3))::l):=e1;clear e1
  go_wp2_with fail
  go_ret;exact⟨a5,c5,by rw[Nat.min_eq_right (by omega)];rfl,by rw[HE.out];exact Ef,(fun e=>by obtain⟨q1,q2⟩:=Qs e;omega),by omega,B5⟩
def bO (l:List (Int×Int))(pos:Int)(more:List (Int×Int)):List (Int×Int):=if more=[]then l else dS l pos++more++bU l pos
def bJ (l:List (Int×Int))(pos n:Int):List (Int×Int)×List (Int×Int):=if n=0 then (l,[])else (Hy l pos n,vQ l pos n)
def vY (ao:Option Addr)(n c:Nat):Prop:=ao=O->n=0/\c=0
theorem putm_eq (h:fG l)(m:List (Int×Int))(h0:0<=pos)(h1:pos<=sz l):fV l 0 pos++m++fV l pos (sz l)=dS l pos++m++bU l pos:=by
 rw[Dl h _ (Int.le_refl _),Vx h h0 h1]
theorem yF.below (h:yF w ao l)(hb:Below w.heap.size w w'):yF w' ao l:=h.fr (Fr.cZ hb (fun _=>False)) (fun _ _ _=>id)
theorem Yu {bo:Option Addr}{lb cb:Nat}{more:List (Int×Int)}(hr:yF w ao l)(e1:la=l.length)(hna:vY ao la ca)(hb:yF w bo more)(e2:lb=more.length)(hbn:vY bo lb cb)(ok:fG l)(hlen:l.length<=8000)(hml:more.length<=8000)
 (h0:0<=pos)(h1:pos<=sz l):
 H K 155 #[Z ao la ca,I V pos,Z bo lb cb] w fun e w'=> ∃Eu ca',e=G (Z Eu (bO l pos more).length ca')/\yF w' Eu (bO l pos more)/\vY Eu (bO l pos more).length ca'/\Below w.heap.size w w':=by
 subst e1 e2;by_cases hm:more=[]
 ·subst hm;have e:bO l pos []=l:=by simp[bO]
  rw[e];go_enter Tryz.func155,Tryz.ntmps155
  go_wp2_with fail
  go_ret;exact⟨ao,ca,rfl,hr,hna,Below.refl _ _⟩
 ·have e:bO l pos more=dS l pos++more++bU l pos:=by simp[bO,hm]
  rw[e];have hpos:0<more.length:=List.length_pos_iff.2 hm;have hz:(((more.length:Nat):Int)==0)=false:=by rw[beq_eq_false_iff_ne];omega
  have oM:¬(((more.length:Nat):Int)=0):=by omega
  have hs:=lD ok;have hP1:=yL l 0 pos;have hP2:=yL l pos (sz l);have HP:Hid (fV l 0 pos++more++fV l pos (sz l)=dS l pos++more++bU l pos):=putm_eq ok more h0 h1;clear e hm;unfold vY at hbn;go_enter Tryz.func155,Tryz.ntmps155
  go_wp2_with fail
  refine(yK hr.1 rfl ok (by omega) (by omega) (by omega) h0 (by omega)).mono ?_;rintro e w1 ⟨v1,rfl,mH,fC⟩;have hbr:=hb.1.below fC;have tK:=fC.size
  go_upto_region 5 with(at_builtin;go_must (refine gQ (by rfl) (.tmp 15) (.tmp 16) (by rfl) w.heap.size _ (fV l 0 pos) more (by rfl) (by exact mH) _ _ _ (by rfl) (by rfl) (by exact hbn) (by exact hbr) (by omega) (by omega) ?_);intro v2 w2 Bv kJ)
  have B2:Below w.heap.size w w2:=Kr fC mH kJ;have Bn:=hr.1.below B2;have Kz:=B2.size;clear kJ mH hbr
  go_wp2_with fail
  refine(fP Bn rfl ok (by omega)).mono ?_;rintro e w2 ⟨rfl,rfl⟩
  go_wp2_with fail
  refine(yK Bn rfl ok (by omega) h0 (by omega) (by omega) (by omega)).mono ?_;rintro e w3 ⟨v3,rfl,yJ,sZ⟩;obtain⟨qP,cp3,rfl,Ki,Qo⟩:=yJ.form;have ZK:=Bv.below sZ;have B3:=aQ B2 sZ;have LH:=B3.size;clear Bv yJ
  go_wp2_with (at_builtin;go_must (refine gQ (by rfl) (.tmp 18) (.tmp 23) (by rfl) w.heap.size _ (fV l 0 pos++more) (fV l pos (sz l)) (by rfl) (by exact ZK) _ _ _ (by rfl) (by rfl) (by exact Qo) (by exact Ki) (by simp;omega) (by omega) ?_);intro v4 w4 vU oD)
  go_ret;rw[HP.out]at vU;obtain⟨Wh,cp5,rfl,Ef,Qs⟩:=yF.oF vU;exact⟨_,_,rfl,Ef,Qs,Kr B3 ZK oD⟩
theorem Yv {n:Int}(hr:yF w ao l)(e1:la=l.length)(hna:vY ao la ca)(ok:fG l)(hlen:l.length<=8000)(h0:0<=pos)(hn:0<=n)(h1:n<=sz l-pos):
 H K 157 #[Z ao la ca,I V pos,I V n] w fun e w'=>
  ∃Eu ca' go gc,e=G (.tuple #[Z Eu (bJ l pos n).1.length ca',Z go (bJ l pos n).2.length gc])/\yF w' Eu (bJ l pos n).1/\vY Eu (bJ l pos n).1.length ca'/\yF w' go (bJ l pos n).2/\vY go (bJ l pos n).2.length gc/\Below w.heap.size w w':=by
 by_cases hz:n=0
 ·subst hz e1;refine TI.mono ?_;rintro e w' ⟨rfl,rfl⟩;simp only[bJ,if_pos];exact⟨_,_,O,0,rfl,hr,hna,yF.nil _,fun _=>⟨rfl,rfl⟩,Below.refl _ _⟩
 ·refine(W_ hr.1 e1 ok hlen h0 (by omega) h1).mono ?_;rintro e w' ⟨v,g,rfl,h3,h4,hb⟩;simp only[bJ,if_neg hz];obtain⟨Wh,cp5,rfl,Ef,Qs⟩:=yF.oF h3;obtain⟨Kj,cp6,rfl,Uo,hn6⟩:=yF.oF h4;exact⟨_,_,_,_,rfl,Ef,Qs,Uo,hn6,hb⟩
abbrev Ed:=Int×List (Int×Int)×List (Int×Int)
def bL (w:F)(x:bS)(l:List (Int×Int)):Prop:=yF w x.1 l/\x.2.1=l.length/\vY x.1 x.2.1 x.2.2
def qR (w:F)(r:gH)(e:Ed):Prop:=r.1=e.1/\bL w r.2.1 e.2.1/\bL w r.2.2 e.2.2
def eX (w:F)(x:bS)(l:List Ed):Prop:=∃raw:List gH,CG w x.1 raw/\x.2.1=raw.length/\(vY x.1 x.2.1 x.2.2/\x.2.1<=x.2.2)/\raw.length=l.length/\∀(i:Nat) (r:gH) (e:Ed),raw[i]?=M r->l[i]?=M e->qR w r e
theorem bL.aN (h:bL w x l)(hg:aL w w'):bL w' x l:=⟨h.1.below hg,h.2⟩
theorem qR.aN {r:gH}{e:Ed}(h:qR w r e)(hg:aL w w'):qR w' r e:=⟨h.1,h.2.1.aN hg,h.2.2.aN hg⟩
theorem eX.aN {l:List Ed}(h:eX w x l)(hg:aL w w'):eX w' x l:=by
 obtain⟨raw,h1,h2,h3,h4,h5⟩:=h;exact⟨raw,h1.aN hg,h2,h3,h4,fun i r e a b=>(h5 i r e a b).aN hg⟩
theorem eX.nil (w:F):eX w (O,0,0) []:=⟨[],CG.nil w,rfl,⟨fun _=>⟨rfl,rfl⟩,Nat.le_refl _⟩,rfl,fun i r e a _=>by simp at a⟩
theorem zN {r:gH}{e:Ed}{l:List Ed}{most:Nat}(he:qR w r e)(hr:eX w x l)(hlen:l.length<=1000000)(hm:most<=1000000):
 H K 221 #[.agg #[I V r.1,r.2.1.v,r.2.2.v],x.v,I V (most:Int)] w fun q w'=> ∃y:bS,q=G y.v/\eX w' y ((e::l).take most)/\Below w.heap.size w w':=by
 obtain⟨raw,h1,h2,h3,h4,h5⟩:=hr;obtain⟨xo,xn,xc⟩:=x;simp only at h1 h2 h3;subst h2;refine(TN (e:=r) h1 rfl h3.1 (by omega) hm).mono ?_;rintro q w' ⟨bo,cb,rfl,tO,hn',A_,hb⟩;refine⟨(bo,_,cb),rfl,⟨(r::raw).take most,tO,rfl,⟨hn',A_⟩,by simp[h4],fun i r' e' a b=>?_⟩,hb⟩;rw[List.getElem?_take]at a b;by_cases hi:i<most
 ·rw[if_pos hi]at a b;cases i with
  |zero=>simp at a b;subst a b;exact he.aN hb
  |succ i=>simp at a b;exact(h5 i r' e' a b).aN hb
 ·rw[if_neg hi]at a;cases a
abbrev dF:=List (Int×Int)×List Ed×List Ed×Int×Int
abbrev fF:=bS×bS×bS×Int×Int
def fF.v (r:fF):Y:= .agg #[r.1.v,r.2.1.v,r.2.2.1.v,I V r.2.2.2.1,I V r.2.2.2.2]
def dQ (w:F)(r:fF)(m:dF):Prop:=bL w r.1 m.1/\eX w r.2.1 m.2.1/\eX w r.2.2.1 m.2.2.1/\r.2.2.2.1=m.2.2.2.1/\r.2.2.2.2=m.2.2.2.2
theorem dQ.aN {r:fF}{m:dF}(h:dQ w r m)(hg:aL w w'):dQ w' r m:=⟨h.1.aN hg,h.2.1.aN hg,h.2.2.1.aN hg,h.2.2.2⟩
def tQ (m:dF)(a b c most:Int)(depth:Nat):dF×Int:=
 if a<0\/sz m.1<a then (m,5)else if c<1\/200<c then (m,6)else if most<sz m.1+c then (m,7)
 else if 4096<(bO m.1 a [(b,c)]).length then (m,13)else ((bO m.1 a [(b,c)],((a,[],[(b,c)])::m.2.1).take depth,[],m.2.2.2.1+1,m.2.2.2.2+c),0)
def okM (m:dF):Prop:=fG m.1/\m.1.length<=4096/\m.2.1.length<=100/\m.2.2.1.length<=100/\0<=m.2.2.2.1/\m.2.2.2.1<=2000000000/\0<=m.2.2.2.2/\m.2.2.2.2<=2000000000
theorem bL.fr (h:bL w x l)(hF:Fr w w' X)(hx:∀b aS,w.heap[b]?=M (C aS 114 (0,0))->¬X b):bL w' x l:=⟨h.1.fr hF hx,h.2⟩
theorem eX.fr {l:List Ed}(h:eX w x l)(hF:Fr w w' X)(hx:∀b aS,w.heap[b]?=M (C aS 114 (0,0))->¬X b)(hy:∀b aS,w.heap[b]?=M (C aS 302 (0,0))->¬X b):eX w' x l:=by
 obtain⟨raw,h1,h2,h3,h4,h5⟩:=h;exact⟨raw,h1.fr hF hy,h2,h3,h4,fun i r e a b=>⟨(h5 i r e a b).1,(h5 i r e a b).2.1.fr hF hx,(h5 i r e a b).2.2.fr hF hx⟩⟩
def bK (a b c d e:Y):Obj:=C #[a,b,c,d,e] 187 (0,0)
theorem aT (h:w.heap[g]?=M (bK a b c d e)):
 w.cell? ⟨g,0,O⟩=M a/\w.cell? ⟨g,1,O⟩=M b/\w.cell? ⟨g,2,O⟩=M c/\w.cell? ⟨g,3,O⟩=M d/\w.cell? ⟨g,4,O⟩=M e/\w.frozen? ⟨g,0,O⟩=false/\w.frozen? ⟨g,1,O⟩=false/\w.frozen? ⟨g,2,O⟩=false/\w.frozen? ⟨g,3,O⟩=false/\w.frozen? ⟨g,4,O⟩=false:=by
 simp[World.cell?,World.frozen?,h,bK]
theorem mZ {v:Y}(h:w.heap[g]?=M (bK a b c d e)):(w.setCell ⟨g,0,O⟩ v).heap[g]?=M (bK v b c d e):=by rw[heap_setCell_same w g 0 _ _ v h];rfl
theorem lI {v:Y}(h:w.heap[g]?=M (bK a b c d e)):(w.setCell ⟨g,1,O⟩ v).heap[g]?=M (bK a v c d e):=by rw[heap_setCell_same w g 1 _ _ v h];rfl
theorem lJ {v:Y}(h:w.heap[g]?=M (bK a b c d e)):(w.setCell ⟨g,2,O⟩ v).heap[g]?=M (bK a b v d e):=by rw[heap_setCell_same w g 2 _ _ v h];rfl
theorem zP {v:Y}(h:w.heap[g]?=M (bK a b c d e)):(w.setCell ⟨g,3,O⟩ v).heap[g]?=M (bK a b c v e):=by rw[heap_setCell_same w g 3 _ _ v h];rfl
theorem vZ {v:Y}(h:w.heap[g]?=M (bK a b c d e)):(w.setCell ⟨g,4,O⟩ v).heap[g]?=M (bK a b c d v):=by rw[heap_setCell_same w g 4 _ _ v h];rfl
theorem dN {b:Nat}{o:Obj}{v:Y}(h:w.heap[b]?=M o)(hne:b≠g):(w.setCell ⟨g,i,O⟩ v).heap[b]?=M o:=(Below.heap_setCell _ _ _ _ hne).trans h
theorem bD {b:Nat}{o:Obj}(hb:Below w.heap.size w w')(h:w.heap[b]?=M o):w'.heap[b]?=M o:=(hb.block b (aM h)).trans h
theorem three (w:F)(o1 o2 o3:Obj):(((w.alloc o1).alloc o2).alloc o3).heap[w.heap.size]?=M o1/\(((w.alloc o1).alloc o2).alloc o3).heap[w.heap.size+1]?=M o2/\(((w.alloc o1).alloc o2).alloc o3).heap[w.heap.size+1+1]?=M o3
 /\(((w.alloc o1).alloc o2).alloc o3).heap.size=w.heap.size+1+1+1/\Below w.heap.size w (((w.alloc o1).alloc o2).alloc o3):=by
 have s1:=World.size_alloc w o1;have s2:=World.size_alloc (w.alloc o1) o2;have s3:=World.size_alloc ((w.alloc o1).alloc o2) o3;refine⟨?_,?_,?_,by omega,aQ (aQ (aO _ _) (aO _ _)) (aO _ _)⟩
 ·exact bD (aO _ _) (bD (aO _ _) (heap_alloc_new w o1))
 ·rw[<-s1];exact bD (aO _ _) (heap_alloc_new (w.alloc o1) o2)
 ·rw[<-s1,<-s2];exact heap_alloc_new _ o3
theorem bL.jD {v:Y}(h:bL w x l)(hg:w.heap[g]?=M (bK p q r s t)):bL (w.setCell ⟨g,i,O⟩ v) x l:=
 h.fr (Fr.set w ⟨g,i,O⟩ v) (fun b aS e hx=>by simp only at hx;subst hx;exact bX e hg (gJ (by decide)))
theorem eX.jD {v:Y}{l:List Ed}(h:eX w x l)(hg:w.heap[g]?=M (bK p q r s t)):eX (w.setCell ⟨g,i,O⟩ v) x l:=
 h.fr (Fr.set w ⟨g,i,O⟩ v) (fun b aS e hx=>by simp only at hx;subst hx;exact bX e hg (gJ (by decide))) (fun b aS e hx=>by simp only at hx;subst hx;exact bX e hg (gJ (by decide)))
theorem Dn {w6:F}{ot rs:Nat}{T aG R:bS}{D D' Bf:Int}{text:List (Int×Int)}{jA jW:List Ed}(hne:rs≠ot)(hot:w.heap.size<=ot)(TP:w.heap.size<=rs)
 (v2:w6.heap[rs]?=M (bK p q r s t))(v3:w6.heap[ot]?=M (bK T.v aG.v R.v (I V D) (I V Bf)))(h1:bL w6 T text)(h2:eX w6 aG jA)(h3:eX w6 R jW)(B6:Below w.heap.size w w6):
 ((((((w6.setCell ⟨ot,3,O⟩ (I V D')).setCell ⟨rs,0,O⟩ T.v).setCell ⟨rs,1,O⟩ aG.v).setCell ⟨rs,2,O⟩ R.v).setCell ⟨rs,3,O⟩ (I V D')).setCell ⟨rs,4,O⟩ (I V Bf)).heap[rs]?=M (bK T.v aG.v R.v (I V D') (I V Bf))
 /\dQ ((((((w6.setCell ⟨ot,3,O⟩ (I V D')).setCell ⟨rs,0,O⟩ T.v).setCell ⟨rs,1,O⟩ aG.v).setCell ⟨rs,2,O⟩ R.v).setCell ⟨rs,3,O⟩ (I V D')).setCell ⟨rs,4,O⟩ (I V Bf)) (T,aG,R,D',Bf) (text,jA,jW,D',Bf)
 /\Below w.heap.size w ((((((w6.setCell ⟨ot,3,O⟩ (I V D')).setCell ⟨rs,0,O⟩ T.v).setCell ⟨rs,1,O⟩ aG.v).setCell ⟨rs,2,O⟩ R.v).setCell ⟨rs,3,O⟩ (I V D')).setCell ⟨rs,4,O⟩ (I V Bf)):=by
 have z0:=dN (g:=ot) (i:=3) (v:=I V D') v2 hne;have z1:=mZ (v:=T.v) z0;have z2:=lI (v:=aG.v) z1;have z3:=lJ (v:=R.v) z2;have z4:=zP (v:=I V D') z3;have z5:=vZ (v:=I V Bf) z4
 exact⟨z5,⟨(((((h1.jD v3).jD z0).jD z1).jD z2).jD z3).jD z4,(((((h2.jD v3).jD z0).jD z1).jD z2).jD z3).jD z4,(((((h3.jD v3).jD z0).jD z1).jD z2).jD z3).jD z4,rfl,rfl⟩,
  (((((B6.setCell (p:=⟨ot,3,O⟩) hot _).setCell (p:=⟨rs,0,O⟩) TP _).setCell (p:=⟨rs,1,O⟩) TP _).setCell (p:=⟨rs,2,O⟩) TP _).setCell (p:=⟨rs,3,O⟩) TP _).setCell (p:=⟨rs,4,O⟩) TP _⟩
theorem zQ {w6:F}{rs:Nat}{T aG R:Y}{D Bf:Y}(TP:w.heap.size<=rs)(v2:w6.heap[rs]?=M (bK p q r s t))(B6:Below w.heap.size w w6):
 (((((w6.setCell ⟨rs,0,O⟩ T).setCell ⟨rs,1,O⟩ aG).setCell ⟨rs,2,O⟩ R).setCell ⟨rs,3,O⟩ D).setCell ⟨rs,4,O⟩ Bf).heap[rs]?=M (bK T aG R D Bf)
 /\Below w.heap.size w (((((w6.setCell ⟨rs,0,O⟩ T).setCell ⟨rs,1,O⟩ aG).setCell ⟨rs,2,O⟩ R).setCell ⟨rs,3,O⟩ D).setCell ⟨rs,4,O⟩ Bf):=
 ⟨vZ (zP (lJ (lI (mZ v2)))),((((B6.setCell (p:=⟨rs,0,O⟩) TP _).setCell (p:=⟨rs,1,O⟩) TP _).setCell (p:=⟨rs,2,O⟩) TP _).setCell (p:=⟨rs,3,O⟩) TP _).setCell (p:=⟨rs,4,O⟩) TP _⟩
theorem LP {r:fF}{m:dF}{a b c most:Int}{depth:Nat}(hm:dQ w r m)(ok:okM m)(hc:c<=9223372036854775807)(hmo:0<=most)(hmo2:most<=5000)(hd:depth<=100):
 H K 162 #[r.v,I V 73,I V a,I V b,I V c,I V most,I V (depth:Int)] w fun e w'=>
  ∃r',e=G (.tuple #[fF.v r',I V (tQ m a b c most depth).2])/\dQ w' r' (tQ m a b c most depth).1/\Below w.heap.size w w':=by
 have HM:Hid (dQ w r m):=hm;obtain⟨m1,m2,m3,m4,m5⟩:=hm;obtain⟨⟨po,tl,tc⟩,⟨uo,ul,uc⟩,⟨ro,rl,rc⟩,dn,bf⟩:=r;obtain⟨text,jA,jW,Nb,Aq⟩:=m;simp only at m1 m2 m3 m4 m5;subst m4 m5;obtain⟨o1,o2,o3,o4,o5,o6,o7,o8⟩:=ok;simp only at o1 o2 o3 o4 o5 o6 o7 o8;obtain⟨t1,t2,t3⟩:=m1;simp only at t1 t2 t3;subst t2;have bs:=lD o1;simp only[fF.v,bS.v];by_cases h1:a<0\/sz text<a
 ·have HE:Hid (tQ (text,jA,jW,dn,bf) a b c most depth=((text,jA,jW,dn,bf),5)):=by show _=_;simp only[tQ,if_pos h1]
  by_cases h0:a<0
  ·have Uy:decide (a<0)=true:=by simp[h0]
   go_enter Tryz.func162,Tryz.ntmps162
   go_wp2_with fail
   refine(fP (l:=text) (t1.1.below (aQ (aO _ _) (aO _ _))) rfl o1 (by omega)).mono ?_;rintro e w1 ⟨rfl,rfl⟩
   go_wp2_with fail
   have B3:=(three w (C #[Z po text.length tc,Z uo ul uc,Z ro rl rc,I V dn,I V bf] 187) (C #[Z po text.length tc,Z uo ul uc,Z ro rl rc,I V dn,I V bf] 187) (C #[Z po text.length tc,Z uo ul uc,Z ro rl rc,I V dn,I V bf] 187)).2.2.2.2;refine bodyPost_ret (v:= .tuple #[.agg #[Z po text.length tc,Z uo ul uc,Z ro rl rc,I V dn,I V bf],I V 5]) (by simp[results,Tryz.results162,go_sem]) rfl ?_;rw[HE.out];exact⟨((po,text.length,tc),(uo,ul,uc),(ro,rl,rc),dn,bf),rfl,HM.out.aN B3,B3⟩
  ·have h0':sz text<a:=by omega
   have Uy:decide (a<0)=false:=by simp;omega
   go_enter Tryz.func162,Tryz.ntmps162
   go_wp2_with fail
   refine(fP (l:=text) (t1.1.below (aQ (aO _ _) (aO _ _))) rfl o1 (by omega)).mono ?_;rintro e w1 ⟨rfl,rfl⟩
   go_wp2_with fail
   have B3:=(three w (C #[Z po text.length tc,Z uo ul uc,Z ro rl rc,I V dn,I V bf] 187) (C #[Z po text.length tc,Z uo ul uc,Z ro rl rc,I V dn,I V bf] 187) (C #[Z po text.length tc,Z uo ul uc,Z ro rl rc,I V dn,I V bf] 187)).2.2.2.2;refine bodyPost_ret (v:= .tuple #[.agg #[Z po text.length tc,Z uo ul uc,Z ro rl rc,I V dn,I V bf],I V 5]) (by simp[results,Tryz.results162,go_sem]) rfl ?_;rw[HE.out];exact⟨((po,text.length,tc),(uo,ul,uc),(ro,rl,rc),dn,bf),rfl,HM.out.aN B3,B3⟩
 ·have a1:¬a<0:=by omega
  have a2:¬sz text<a:=by omega
  by_cases h2:c<1\/200<c
  ·have HE:Hid (tQ (text,jA,jW,dn,bf) a b c most depth=((text,jA,jW,dn,bf),6)):=by show _=_;simp only[tQ,if_neg h1,if_pos h2]
   by_cases h0:c<1
   ·have Uy:decide (c<1)=true:=by simp;omega
    go_enter Tryz.func162,Tryz.ntmps162
    go_wp2_with fail
    refine(fP (l:=text) (t1.1.below (aQ (aO _ _) (aO _ _))) rfl o1 (by omega)).mono ?_;rintro e w1 ⟨rfl,rfl⟩
    go_wp2_with fail
    have B3:=(three w (C #[Z po text.length tc,Z uo ul uc,Z ro rl rc,I V dn,I V bf] 187) (C #[Z po text.length tc,Z uo ul uc,Z ro rl rc,I V dn,I V bf] 187) (C #[Z po text.length tc,Z uo ul uc,Z ro rl rc,I V dn,I V bf] 187)).2.2.2.2;refine bodyPost_ret (v:= .tuple #[.agg #[Z po text.length tc,Z uo ul uc,Z ro rl rc,I V dn,I V bf],I V 6]) (by simp[results,Tryz.results162,go_sem]) rfl ?_;rw[HE.out];exact⟨((po,text.length,tc),(uo,ul,uc),(ro,rl,rc),dn,bf),rfl,HM.out.aN B3,B3⟩
   ·have h0':200<c:=by omega
    have Uy:decide (c<1)=false:=by simp;omega
    go_enter Tryz.func162,Tryz.ntmps162
    go_wp2_with fail
    refine(fP (l:=text) (t1.1.below (aQ (aO _ _) (aO _ _))) rfl o1 (by omega)).mono ?_;rintro e w1 ⟨rfl,rfl⟩
    go_wp2_with fail
    have B3:=(three w (C #[Z po text.length tc,Z uo ul uc,Z ro rl rc,I V dn,I V bf] 187) (C #[Z po text.length tc,Z uo ul uc,Z ro rl rc,I V dn,I V bf] 187) (C #[Z po text.length tc,Z uo ul uc,Z ro rl rc,I V dn,I V bf] 187)).2.2.2.2;refine bodyPost_ret (v:= .tuple #[.agg #[Z po text.length tc,Z uo ul uc,Z ro rl rc,I V dn,I V bf],I V 6]) (by simp[results,Tryz.results162,go_sem]) rfl ?_;rw[HE.out];exact⟨((po,text.length,tc),(uo,ul,uc),(ro,rl,rc),dn,bf),rfl,HM.out.aN B3,B3⟩
  ·by_cases h3:most<sz text+c
   ·have a3:¬c<1:=by omega
    have a4:¬200<c:=by omega
    have HE:Hid (tQ (text,jA,jW,dn,bf) a b c most depth=((text,jA,jW,dn,bf),7)):=by show _=_;simp only[tQ,if_neg h1,if_neg h2,if_pos h3]
    go_enter Tryz.func162,Tryz.ntmps162
    go_wp2_with fail
    refine(fP (l:=text) (t1.1.below (aQ (aO _ _) (aO _ _))) rfl o1 (by omega)).mono ?_;rintro e w1 ⟨rfl,rfl⟩
    go_wp2_with fail
    have B3:=(three w (C #[Z po text.length tc,Z uo ul uc,Z ro rl rc,I V dn,I V bf] 187) (C #[Z po text.length tc,Z uo ul uc,Z ro rl rc,I V dn,I V bf] 187) (C #[Z po text.length tc,Z uo ul uc,Z ro rl rc,I V dn,I V bf] 187)).2.2.2.2;refine bodyPost_ret (v:= .tuple #[.agg #[Z po text.length tc,Z uo ul uc,Z ro rl rc,I V dn,I V bf],I V 7]) (by simp[results,Tryz.results162,go_sem]) rfl ?_;rw[HE.out];exact⟨((po,text.length,tc),(uo,ul,uc),(ro,rl,rc),dn,bf),rfl,HM.out.aN B3,B3⟩
   ·have a3:¬c<1:=by omega
    have a4:¬200<c:=by omega
    have HA:Hid (4096<(bO text a [(b,c)]).length->tQ (text,jA,jW,dn,bf) a b c most depth=((text,jA,jW,dn,bf),13)):=fun hf=>by simp only[tQ,if_neg h1,if_neg h2,if_neg h3,if_pos hf]
    have HB:Hid (¬4096<(bO text a [(b,c)]).length->tQ (text,jA,jW,dn,bf) a b c most depth=((bO text a [(b,c)],((a,[],[(b,c)])::jA).take depth,[],dn+1,bf+c),0)):=fun hf=>by simp only[tQ,if_neg h1,if_neg h2,if_neg h3,if_neg hf]
    go_enter Tryz.func162,Tryz.ntmps162
    go_wp2_with fail
    refine(fP (l:=text) (t1.1.below (aQ (aO _ _) (aO _ _))) rfl o1 (by omega)).mono ?_;rintro e w1 ⟨rfl,rfl⟩
    go_upto_region 12 with fail
    obtain⟨q1,q2,q3,q4,q5⟩:=three w (bK (Z po text.length tc) (Z uo ul uc) (Z ro rl rc) (I V dn) (I V bf)) (bK (Z O 0 0) (Z O 0 0) (Z O 0 0) (I V 0) (I V 0)) (bK (Z po text.length tc) (Z uo ul uc) (Z ro rl rc) (I V dn) (I V bf))
    rw[show(Obj.cells #[Z po text.length tc,Z uo ul uc,Z ro rl rc,I V dn,I V bf] 187)=bK (Z po text.length tc) (Z uo ul uc) (Z ro rl rc) (I V dn) (I V bf) from rfl,
     show(Obj.cells #[Z O 0 0,Z O 0 0,Z O 0 0,I V 0,I V 0] 187)=bK (Z O 0 0) (Z O 0 0) (Z O 0 0) (I V 0) (I V 0) from rfl]
    generalize ((w.alloc (bK (Z po text.length tc) (Z uo ul uc) (Z ro rl rc) (I V dn) (I V bf))).alloc (bK (Z O 0 0) (Z O 0 0) (Z O 0 0) (I V 0) (I V 0))).alloc (bK (Z po text.length tc) (Z uo ul uc) (Z ro rl rc) (I V dn) (I V bf))=wa at*;have hp0:=QA wa #[I V b,I V c] [(b,c)] rfl (by unfold maxLen;simp);have hpn:=heap_alloc_new wa (C #[I V b,I V c] 114);rw[q4]at hp0 hpn;have Ib:=aO wa (C #[I V b,I V c] 114);have r1:=bD Ib q1;have r2:=bD Ib q2;have r3:=bD Ib q3;have B2:=aQ q5 Ib;have hpt:bL (wa.alloc (C #[I V b,I V c] 114)) (M ⟨w.heap.size+1+1+1,0,O⟩,1,1) [(b,c)]:=⟨⟨hp0,fun a e=>by cases e;exact⟨_,hpn⟩⟩,rfl,fun e=>by cases e⟩;clear hp0 hpn Ib q1 q2 q3 q4 q5;generalize wa.alloc (C #[I V b,I V c] 114)=w2 at*;obtain⟨x0,x1,x2,x3,x4,-⟩:=aT r1;have n1:w.heap.size≠w.heap.size+1+1:=by omega
    have n2:w.heap.size+1≠w.heap.size+1+1:=by omega
    go_wp2_with fail
    refine(Yu (l:=text) (more:=[(b,c)]) (t1.below B2) rfl t3 hpt.1 rfl hpt.2.2 o1 (by omega) (by simp) (by omega) (by omega)).mono ?_;rintro e w3 ⟨qP,Kk,rfl,Ki,Qo,sZ⟩;have r1':=bD sZ r1;have r2':=bD sZ r2;have B_:=bD sZ r3;have hpt3:=hpt.aN sZ;have B3:=aQ B2 sZ;clear r1 r2 r3 hpt x0 x1 x2 x3 x4;obtain⟨z0,-,-,-,-,z5,-⟩:=aT B_;obtain⟨-,x1,-⟩:=aT (dN (g:=w.heap.size+1+1) (i:=0) (v:=Z qP (bO text a [(b,c)]).length Kk) r1' n1)
    go_upto_region 13 with fail
    have s1:=dN (g:=w.heap.size+1+1) (i:=0) (v:=Z qP (bO text a [(b,c)]).length Kk) r1' n1;have s2:=dN (g:=w.heap.size+1+1) (i:=0) (v:=Z qP (bO text a [(b,c)]).length Kk) r2' n2;have s3:=mZ (v:=Z qP (bO text a [(b,c)]).length Kk) B_;have hF4:=Fr.set w3 ⟨w.heap.size+1+1,0,O⟩ (Z qP (bO text a [(b,c)]).length Kk);have hX4:∀b (aS:Array Y) (t:TypeId) (f:Nat×Nat),t≠187->w3.heap[b]?=M (C aS t f)->¬(b=w.heap.size+1+1):=fun b aS t f e hb hx=>by subst hx;exact bX hb B_ (gJ e)
    have p4:=hpt3.fr hF4 (fun b aS e=>hX4 _ _ _ _ (by decide) e);have t4:bL (w3.setCell ⟨w.heap.size+1+1,0,O⟩ (Z qP (bO text a [(b,c)]).length Kk)) (qP,_,Kk) (bO text a [(b,c)]):=bL.fr ⟨Ki,rfl,Qo⟩ hF4 (fun b aS e=>hX4 _ _ _ _ (by decide) e);have B4:Below w.heap.size w (w3.setCell ⟨w.heap.size+1+1,0,O⟩ (Z qP (bO text a [(b,c)]).length Kk)):=B3.setCell (p:=⟨w.heap.size+1+1,0,O⟩) (by simp only;omega) _;clear hX4 hF4 r1' r2' B_ hpt3 Ki Qo z0 z5 x1 sZ B3;generalize w3.setCell ⟨w.heap.size+1+1,0,O⟩ (Z qP (bO text a [(b,c)]).length Kk)=w4 at*;obtain⟨x0,x1,x2,x3,x4,-⟩:=aT s1
    go_wp2_with fail
    refine(zN (r:=(a,(O,0,0),(M ⟨w.heap.size+1+1+1,0,O⟩,1,1))) (e:=(a,[],[(b,c)])) (x:=(uo,ul,uc)) (l:=jA) ⟨rfl,⟨yF.nil _,rfl,fun _=>⟨rfl,rfl⟩⟩,p4⟩ (m2.aN B4) (by omega) (by omega)).mono ?_;rintro e w5 ⟨⟨yo,yn,yc⟩,rfl,hy5,pY⟩;simp only[bS.v];have u1:=bD pY s1;have u2:=bD pY s2;have u3:=bD pY s3;have t5:=t4.aN pY;have B5:=aQ B4 pY;clear s1 s2 s3 x0 x1 x2 x3 x4 t4 p4 B4 pY;obtain⟨x0,x1,x2,x3,x4,-⟩:=aT u1;obtain⟨y0,y1,y2,y3,y4,f0,f1,f2,f3,f4⟩:=aT u3
    go_upto_region 39 with fail
    have v1:=dN (g:=w.heap.size+1+1) (i:=4) (v:=I V (bf+c)) (dN (g:=w.heap.size+1+1) (i:=2) (v:=Z O 0 0) (dN (g:=w.heap.size+1+1) (i:=1) (v:=Z yo yn yc) u1 n1) n1) n1;have v2:=dN (g:=w.heap.size+1+1) (i:=4) (v:=I V (bf+c)) (dN (g:=w.heap.size+1+1) (i:=2) (v:=Z O 0 0) (dN (g:=w.heap.size+1+1) (i:=1) (v:=Z yo yn yc) u2 n2) n2) n2;have u4:=lI (v:=Z yo yn yc) u3;have u5:=lJ (v:=Z O 0 0) u4;have v3:=vZ (v:=I V (bf+c)) u5;have t6:=((t5.jD (i:=1) (v:=Z yo yn yc) u3).jD (i:=2) (v:=Z O 0 0) u4).jD (i:=4) (v:=I V (bf+c)) u5;have e6:=((hy5.jD (i:=1) (v:=Z yo yn yc) u3).jD (i:=2) (v:=Z O 0 0) u4).jD (i:=4) (v:=I V (bf+c)) u5;have B6:=((B5.setCell (p:=⟨w.heap.size+1+1,1,O⟩) (by simp only;omega) (Z yo yn yc)).setCell (p:=⟨w.heap.size+1+1,2,O⟩) (by simp only;omega) (Z O 0 0)).setCell (p:=⟨w.heap.size+1+1,4,O⟩) (by simp only;omega) (I V (bf+c));clear u1 u2 u3 u4 u5 t5 hy5 B5 x0 x1 x2 x3 x4 y0 y1 y2 y3 y4 f0 f1 f2 f3 f4;generalize ((w5.setCell ⟨w.heap.size+1+1,1,O⟩ (Z yo yn yc)).setCell ⟨w.heap.size+1+1,2,O⟩ (Z O 0 0)).setCell ⟨w.heap.size+1+1,4,O⟩ (I V (bf+c))=w6 at*;obtain⟨x0,x1,x2,x3,x4,-⟩:=aT v1;obtain⟨k0,k1,k2,k3,k4,l0,l1,l2,l3,l4⟩:=aT v2;obtain⟨y0,y1,y2,y3,y4,f0,f1,f2,f3,f4⟩:=aT v3;have n3:w.heap.size≠w.heap.size+1:=by omega
    by_cases hf:4096<(bO text a [(b,c)]).length
    ·have hf':(4096:Int)<((bO text a [(b,c)]).length:Int):=by omega
     go_wp2_with fail
     obtain⟨v5,B7⟩:=zQ (T:=Z po text.length tc) (aG:=Z uo ul uc) (R:=Z ro rl rc) (D:=I V dn) (Bf:=I V bf) (by omega) v2 B6;generalize ((((w6.setCell ⟨w.heap.size+1,0,O⟩ (Z po text.length tc)).setCell ⟨w.heap.size+1,1,O⟩ (Z uo ul uc)).setCell ⟨w.heap.size+1,2,O⟩ (Z ro rl rc)).setCell ⟨w.heap.size+1,3,O⟩ (I V dn)).setCell ⟨w.heap.size+1,4,O⟩ (I V bf)=w7 at*;obtain⟨i0,i1,i2,i3,i4,-⟩:=aT v5;refine bodyPost_ret (v:= .tuple #[.agg #[Z po text.length tc,Z uo ul uc,Z ro rl rc,I V dn,I V bf],I V 13]) (by simp[results,Tryz.results162,go_sem,i0,i1,i2,i3,i4]) rfl ?_;rw[HA.out hf];exact⟨((po,text.length,tc),(uo,ul,uc),(ro,rl,rc),dn,bf),rfl,HM.out.aN B7,B7⟩
    ·have hf':¬(4096:Int)<((bO text a [(b,c)]).length:Int):=by omega
     go_wp2_with fail
     obtain⟨v5,M7,B7⟩:=Dn (ot:=w.heap.size+1+1) (rs:=w.heap.size+1) (T:=(qP,(bO text a [(b,c)]).length,Kk)) (aG:=(yo,yn,yc)) (R:=(O,0,0)) (D:=dn) (D':=dn+1) (Bf:=bf+c) (jW:=[]) n2 (by omega) (by omega) v2 v3 t6 e6 (eX.nil _) B6;simp only[bS.v]at v5 M7 B7;generalize ((((((w6.setCell ⟨w.heap.size+1+1,3,O⟩ (I V (dn+1))).setCell ⟨w.heap.size+1,0,O⟩ (Z qP (bO text a [(b,c)]).length Kk)).setCell ⟨w.heap.size+1,1,O⟩ (Z yo yn yc)).setCell ⟨w.heap.size+1,2,O⟩ (Z O 0 0)).setCell ⟨w.heap.size+1,3,O⟩ (I V (dn+1))).setCell ⟨w.heap.size+1,4,O⟩ (I V (bf+c)))=w7 at*;obtain⟨i0,i1,i2,i3,i4,-⟩:=aT v5;refine bodyPost_ret (v:= .tuple #[.agg #[Z qP (bO text a [(b,c)]).length Kk,Z yo yn yc,Z O 0 0,I V (dn+1),I V (bf+c)],I V 0]) (by simp[results,Tryz.results162,go_sem,i0,i1,i2,i3,i4]) rfl ?_;rw[HB.out hf]
     first
      |exact⟨((qP,(bO text a [(b,c)]).length,Kk),(yo,yn,yc),(O,0,0),dn+1,bf+c),rfl,M7,B7⟩
      |exact⟨qP,(bO text a [(b,c)]).length,Kk,yo,yn,yc,O,0,0,dn+1,bf+c,rfl,M7,B7⟩
end Go.Proofs.YtfplgfodoiiobaaGreatDoor
