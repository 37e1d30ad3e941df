/- HeldC, TreesA, TreesB, TreesD, TreesH, TreesI, RefA, TreesJ, TreesK, RefB, RefC (joined). -/
import Derived.ArgAppend
import Derived.Deep.AppendLies
import Derived.Deep.DeepCutAuto
import Derived.Deep.RegionLawGrows
import Derived.Laws.AppendOwnNone
import Derived.Laws.BytesArg
import Derived.Laws.Closers25b
import Derived.Laws.OwnMore
import Derived.Test.YtfplgfodoiiobaaGreatDoorJ03
open Option renaming none→O,some→M
open Go.Value renaming int→I,slice→Z,pointer→U
open Go.IntKind renaming i64→V
open Go.Obj renaming cells→C
open Go renaming World→F,Value→Y
open Go.Proofs.Tryz renaming prog→K
namespace Go.Proofs.YtfplgfodoiiobaaGreatDoor
open Go.RowKit
variable {w w' w0 w1 w2:F}{B cap k b n wb c:Nat}{ao:Option Addr}{X:Nat->Prop}{zs:List Int}{wD vp vm:Y}{o:Obj}
theorem Lp {ops:Array Oper}{rest:List Oper}{o:Oper}{a:Act}{Q:Exit->Act->F->Prop}(Ir:o.guard=O)(s x:Operand)
 (ho:o.op= .call { callee:= .builtin .append,args:=#[s,x],argTypes:=#[60,60] })
 (base:Nat)(v:Y)(ys zs:List Int)(hs:a.eval s=v)(cZ:nM w base v ys)(ao:Option Addr)(m c:Nat)(hx:a.eval x=Z ao m c)(hm:m=zs.length)(gJ:ao=O->zs.length=0/\c=0)(hr:Xg w ao zs)
 (hlen:ys.length+zs.length<=1000000000)(mX:base<=w.heap.size)
 (h:∀v' w',nM w' base v' (ys++zs)->w.grownBy w' v.ownBlock->wpList K ops Q rest (a.put o.dst v') w'):wpList K ops Q (o::rest) a w:=by
 obtain⟨i0,hi,uZ,wE,xZ⟩:=info_parts Tryz.infoInt;subst hm;cases ao with
 |none=>
  obtain⟨h1,rfl⟩:=gJ rfl;have hz:zs=[]:=List.eq_nil_of_length_eq_zero h1;subst hz;exact wpList_append_own_none Ir s x 60 ho base 3 i0 1 Tryz.underlying60 hi v _ _ hs cZ hx (h v w (by simpa using cZ) (World.grownBy.refl _ _))
 |some ad=>
  refine wpList_append_own w Ir s x 60 ho base 3 i0 (I V 0) 1 8 Tryz.underlying60 hi uZ wE xZ rfl (by decide) v ys.length (ys.map (Value.int V)) hs cZ ad zs.length c (zs.map (Value.int V)) hx (by simp) ?_ ?_ (by unfold maxLen;omega) (by omega) mX ?_
  ·intro j u hj;rcases hr with rfl|⟨b,off,e,hc⟩
   ·simp at hj
   ·cases e
    rw[List.getElem?_map]at hj
    have bS:j<zs.length:=by
     by_cases bS:j<zs.length
     ·exact bS
     ·rw[List.getElem?_eq_none (by omega)]at hj;simp at hj
    rw[List.getElem?_eq_getElem bS]at hj;simp at hj;subst hj;have:=hc j bS;simp only[List.getD_eq_getElem?_getD,List.getElem?_eq_getElem bS,Option.getD_some]at this;cases j with
    |zero=>simpa[Addr.add]using this
    |succ j=>simpa[Addr.add]using this
  ·intro u hu;obtain⟨z,-,rfl⟩:=List.mem_map.1 hu;rfl
  ·intro v' w' h1 h2 _;refine h v' w' ?_ h2;unfold nM;simpa using h1
theorem nM.form {v:Y}(h:nM w B v zs):
 ∃ao cap,v=Z ao zs.length cap/\Xg w ao zs/\zs.length<=cap/\(ao=O->zs.length=0/\cap=0)/\(∀g o,ao=M ⟨g,o,O⟩->B<=g):=by
 have hc:=fun g hg=>h.cells (g:=g) hg
 obtain⟨-,h2⟩:=h;rcases h2 with⟨rfl,h3⟩|⟨g,cap,aQ,rfl,hg,hh,gG,-,-,-⟩
 ·exact⟨O,0,by rw[h3],Or.inl (List.eq_nil_of_length_eq_zero h3),by omega,fun _=>⟨h3,rfl⟩,(fun _ _ e=>by cases e)⟩
 ·refine⟨M ⟨g,0,O⟩,cap,rfl,Or.inr ⟨g,0,rfl,fun i hi=>?_⟩,gG,(fun e=>by cases e),(fun g' o e=>by cases e;exact hg)⟩;have:=hc g rfl i (I V (zs.getD i 0)) (by simp[hi]);cases i with
  |zero=>simpa[Addr.add]using this
  |succ i=>simpa[Addr.add]using this
theorem nM.kept {v:Y}{g:Option Nat}(h:nM w B v zs)(hg:w.grownBy w' g)(hne:∀t,g=M t->t<B):nM w' B v zs:=by
 refine World.ownsRow.kept h hg ?_;cases hv:v.ownBlock with
 |none=>exact Or.inl rfl
 |some k=>
  refine Or.inr (fun e=>?_);have h1:=World.ownsRow.lt h k hv;have h2:=hne k e.symm;omega
theorem nM.below {v:Y}(h:nM w B v zs)(hB:Below w.heap.size w w'):nM w' B v zs:=
 h.kept (iD hB O) (fun _ e=>by cases e)
theorem Xg.sub {p q:Nat}(h:Xg w ao zs)(gG:zs.length<=cap)(hpq:p<=q)(hq:q<=zs.length):
 Xg w (if cap=p then ao else ao.map (·.add p)) ((zs.drop p).take (q-p)):=by
 rcases h with rfl|⟨b,off,rfl,hc⟩
 ·left;simp
 ·by_cases hz:q=p
  ·left;subst hz;simp
  ·have hne:¬cap=p:=by omega
   right;refine⟨b,off+p,?_,fun i hi=>?_⟩
   ·rw[if_neg hne];cases p with
    |zero=>simp[Addr.add]
    |succ p=>simp[Addr.add]
   ·rw[List.length_take,List.length_drop]at hi;have:=hc (p+i) (by omega);rw[<-Nat.add_assoc]at this;rw[this];congr 1;simp only[List.getD_eq_getElem?_getD];rw[List.getElem?_take,if_pos (by omega),List.getElem?_drop]
theorem Xg.head {q:Nat}(h:Xg w ao zs)(hq:q<=zs.length):Xg w ao (zs.take q):=by
 rcases h with rfl|⟨b,off,rfl,hc⟩
 ·left;simp
 ·right;refine⟨b,off,rfl,fun i hi=>?_⟩;rw[List.length_take]at hi;rw[hc i (by omega)];congr 1;simp only[List.getD_eq_getElem?_getD];rw[List.getElem?_take,if_pos (by omega)]
theorem Xg.below (h:Xg w ao zs)(hB:Below w.heap.size w w'):Xg w' ao zs:=by
 rcases h with rfl|⟨b,off,rfl,hc⟩
 ·left;rfl
 ·exact Or.inr ⟨b,off,rfl,fun i hi=>cell_later hB (hc i hi)⟩
theorem Xg.grown {tb:Nat}(h:Xg w ao zs)(hg:w.grownBy w' (M tb))(Fw:∀g o,ao=M ⟨g,o,O⟩->tb<g):Xg w' ao zs:=by
 rcases h with rfl|⟨b,off,rfl,hc⟩
 ·left;rfl
 ·exact Or.inr ⟨b,off,rfl,fun i hi=>Lm hg (by have:=Fw b off rfl;omega) (hc i hi)⟩
theorem nM.weak {B':Nat}{v:Y}(h:nM w B' v zs)(hB:B<=B'):nM w B v zs:=by
 obtain⟨h1,h2⟩:=h;refine⟨h1,?_⟩;rcases h2 with h2|⟨g,cap,aQ,hv,hg,hh⟩
 ·exact Or.inl h2
 ·exact Or.inr ⟨g,cap,aQ,hv,Nat.le_trans hB hg,hh⟩
theorem Xg.tail {p:Nat}(h:Xg w ao zs)(gG:zs.length<=cap)(hp:p<=zs.length):Xg w (if cap=p then ao else ao.map (·.add p)) (zs.drop p):=by
 have:=h.sub (p:=p) gG hp (Nat.le_refl _);rwa[List.take_of_length_le (by rw[List.length_drop];omega)]at this
theorem bD (h:Below w.heap.size w w1)(n:Nat):Below w.heap.size w (w1.drewN n):=⟨h.os,h.tape,h.output,h.size,h.block⟩
def jX:List (Int×Int)->Int->Int->List (Int×Int)
 | [],_,_=> []
 |p::l,f,t=>(if max f 0<min t p.2 then [(p.1+max f 0,min t p.2-max f 0)]else [])++jX l (f-p.2) (t-p.2)
theorem Rs {l:List (Int×Int)}(h:dX l):∀ {f:Int} (t:Int),f<=0->jX l f t=cB l t:=by
 induction l with
 |nil=>intros;rfl
 |cons p l ih=>
  intro f t hf;have h2:=dL h;unfold jU at h2;simp only[jX,cB];rw[ih (bP h) _ (by omega),show max f 0=0 from by omega];by_cases h0:t<=0
  ·rw[if_neg (by omega),if_pos h0,kR _ (by omega)];rfl
  ·rw[if_pos (by omega),if_neg h0];by_cases h1:p.2<=t
   ·rw[if_pos h1,show min t p.2=p.2 from by omega];simp
   ·rw[if_neg h1,kR _ (by omega),show min t p.2=t from by omega];simp
theorem KT {l:List (Int×Int)}(h:dX l):∀ {f:Int} (t:Int),0<=f->jX l f t=cB (bH l f) (t-f):=by
 induction l with
 |nil=>intros;rfl
 |cons p l ih=>
  intro f t hf;have h2:=dL h;unfold jU at h2;by_cases h0:f<=0
  ·have:f=0:=by omega
   subst this;rw[Rs h _ (Int.le_refl _),rF _ (Int.le_refl _),Int.sub_zero]
  ·simp only[jX,bH];rw[if_neg h0];by_cases h1:p.2<=f
   ·rw[if_pos h1,if_neg (by omega),ih (bP h) _ (by omega),show t-p.2-(f-p.2)=t-f from by omega];rfl
   ·rw[if_neg h1,Rs (bP h) _ (by omega)];simp only[cB];rw[show max f 0=f from by omega];by_cases h3:t-f<=0
    ·rw[if_pos h3,if_neg (by omega),kR _ (by omega)];rfl
    ·rw[if_neg h3];by_cases h4:p.2-f<=t-f
     ·rw[if_pos h4,if_pos (by omega),show min t p.2=p.2 from by omega,show t-f-(p.2-f)=t-p.2 from by omega];rfl
     ·rw[if_neg h4,if_pos (by omega),show min t p.2=t from by omega,kR _ (by omega)];simp
theorem yL {l:List (Int×Int)}(h:dX l):∀ {p n:Int},0<=p->0<=n->bH (bH l p) n=bH l (p+n):=by
 induction l with
 |nil=>intros;rfl
 |cons q l ih=>
  intro p n hp hn;have h2:=dL h;unfold jU at h2;by_cases h0:p<=0
  ·have:p=0:=by omega
   subst this;rw[rF _ (Int.le_refl _),Int.zero_add]
  ·simp only[bH];rw[if_neg h0,if_neg (show ¬p+n<=0 by omega)];by_cases h1:q.2<=p
   ·rw[if_pos h1,if_pos (show q.2<=p+n by omega),ih (bP h) (by omega) hn,show p-q.2+n=p+n-q.2 from by omega]
   ·rw[if_neg h1];simp only[bH];by_cases h3:n<=0
    ·have:n=0:=by omega
     subst this;rw[if_pos (Int.le_refl _),if_neg (by omega)];simp
    ·rw[if_neg h3];by_cases h4:q.2-p<=n
     ·rw[if_pos h4,if_pos (show q.2<=p+n by omega),show n-(q.2-p)=p+n-q.2 from by omega]
     ·rw[if_neg h4,if_neg (by omega)];simp;omega
def iV (w:F)(B:Nat)(v:Y)(l:List (Int×Int)):Prop:=w.ownsRow B 114 2 v l.length (Fv l)
theorem Jz.at {l:List (Int×Int)}(h:Jz w ao l)(hk:k<l.length):
 ∃b off,ao=M ⟨b,off,O⟩/\w.cell? ⟨b,off+k*2,O⟩=M (I V (l.getD k (0,0)).1)/\w.cell? ⟨b,off+k*2+1,O⟩=M (I V (l.getD k (0,0)).2):=by
 rcases h with rfl|⟨b,off,h1,h2⟩
 ·simp at hk
 ·exact⟨b,off,h1,h2 k hk⟩
theorem OH {off:Nat}{l:List (Int×Int)}(hc:∀i,i<l.length->w.cell? ⟨b,off+i*2,O⟩=M (I V (l.getD i (0,0)).1)/\w.cell? ⟨b,off+i*2+1,O⟩=M (I V (l.getD i (0,0)).2)):
 ∀j u,(Fv l)[j]?=M u->w.cell? ((⟨b,off,O⟩:Addr).add j)=M u:=by
 intro j u hj
 have bS:j<l.length*2:=by
  by_cases bS:j<l.length*2
  ·exact bS
  ·rw[List.getElem?_eq_none (by rw[Ll];omega)]at hj;cases hj
 obtain⟨h1,h2⟩:=hc (j / 2) (by omega);obtain⟨g1,g2⟩:=Uk l (j / 2) (by omega)
 have ha:(⟨b,off,O⟩:Addr).add j=⟨b,off+j,O⟩:=by
  cases j with
  |zero=>simp[Addr.add]
  |succ j=>simp[Addr.add]
 rw[ha];rcases Nat.mod_two_eq_zero_or_one j with hm|hm
 ·have e:j / 2*2=j:=by omega
  rw[e]at h1 g1;rw[h1];rw[g1]at hj;exact hj
 ·have e:j / 2*2+1=j:=by omega
  rw[Nat.add_assoc,e]at h2;rw[e]at g2;rw[h2];rw[g2]at hj;exact hj
theorem vB {ops:Array Oper}{rest:List Oper}{o:Oper}{a:Act}{Q:Exit->Act->F->Prop}(Ir:o.guard=O)(s x:Operand)
 (ho:o.op= .call { callee:= .builtin .append,args:=#[s,x],argTypes:=#[102,102] })
 (base:Nat)(v:Y)(ys zs:List (Int×Int))(hs:a.eval s=v)(cZ:iV w base v ys)(ao:Option Addr)(m c:Nat)(hx:a.eval x=Z ao m c)(hm:m=zs.length)(gJ:ao=O->zs.length=0/\c=0)(hr:Jz w ao zs)
 (hlen:ys.length+zs.length<=1000000000)(mX:base<=w.heap.size)
 (h:∀v' w',iV w' base v' (ys++zs)->w.grownBy w' v.ownBlock->wpList K ops Q rest (a.put o.dst v') w'):wpList K ops Q (o::rest) a w:=by
 obtain⟨i0,hi,uZ,wE,xZ⟩:=info_parts Tryz.infoPiece;subst hm;cases ao with
 |none=>
  obtain⟨h1,rfl⟩:=gJ rfl;have hz:zs=[]:=List.eq_nil_of_length_eq_zero h1;subst hz;exact wpList_append_own_none Ir s x 102 ho base 114 i0 2 Tryz.underlying102 hi v _ _ hs cZ hx (h v w (by simpa using cZ) (World.grownBy.refl _ _))
 |some ad=>
  refine wpList_append_own w Ir s x 102 ho base 114 i0 (.agg #[I V 0,I V 0]) 2 16 Tryz.underlying102 hi uZ wE xZ rfl (by decide) v ys.length (Fv ys) hs cZ ad zs.length c (Fv zs) hx (Ll zs) ?_ ?_ (by unfold maxLen;omega) (by omega) mX ?_
  ·rcases hr with rfl|⟨b,off,e,hc⟩
   ·intro j u hj;simp[Fv]at hj
   ·cases e;exact OH hc
  ·intro u hu;obtain⟨p,-,hp⟩:=List.mem_flatMap.1 hu;simp at hp;rcases hp with rfl|rfl<;>rfl
  ·intro v' w' h1 h2 _;refine h v' w' ?_ h2;unfold iV;rw[Lj,List.length_append];exact h1
theorem iV.form {v:Y}{l:List (Int×Int)}(h:iV w B v l):∃ao cap,v=Z ao l.length cap/\Jz w ao l/\(ao=O->l.length=0/\cap=0):=by
 have h':=h;obtain⟨-,h2⟩:=h;rcases h2 with⟨rfl,h3⟩|⟨g,cap,aQ,rfl,-⟩
 ·exact⟨O,0,by rw[h3],Or.inl (List.eq_nil_of_length_eq_zero h3),fun _=>⟨h3,rfl⟩⟩
 ·exact⟨M ⟨g,0,O⟩,cap,rfl,Jz.own h',(fun e=>by cases e)⟩
theorem iV.below {v:Y}{l:List (Int×Int)}(h:iV w B v l)(hB:Below w.heap.size w w'):iV w' B v l:=by
 refine World.ownsRow.kept h (iD hB O) ?_;cases hv:v.ownBlock with
 |none=>exact Or.inl rfl
 |some k=>exact Or.inr (by simp)
theorem iV.weak {B':Nat}{v:Y}{l:List (Int×Int)}(h:iV w B' v l)(hB:B<=B'):iV w B v l:=by
 obtain⟨h1,h2⟩:=h;refine⟨h1,?_⟩;rcases h2 with h2|⟨g,cap,aQ,hv,hg,hh⟩
 ·exact Or.inl h2
 ·exact Or.inr ⟨g,cap,aQ,hv,Nat.le_trans hB hg,hh⟩
theorem UC (l:List (Int×Int)):∀f t:Int,(jX l f t).length<=l.length:=by
 induction l with
 |nil=>intro f t;simp[jX]
 |cons p l ih=>
  intro f t;have:=ih (f-p.2) (t-p.2);simp only[jX,List.length_append,List.length_cons];split<;>simp<;>omega
def UD (tb:Nat)(v:Y):Obj:=C #[U (M ⟨tb,0,O⟩),v] 119 (0,0)
def Fr (w w':F)(X:Nat->Prop):Prop:=w.heap.size<=w'.heap.size/\∀b,b<w.heap.size->¬X b->w'.heap[b]?=w.heap[b]?
theorem Fr.at (h:Fr w w' X)(e:w.heap[b]?=M o)(hx:¬X b):w'.heap[b]?=M o:=(h.2 b (aL e) hx).trans e
theorem Fr.bT (h:Below w.heap.size w w')(X:Nat->Prop):Fr w w' X:=⟨h.size,fun b hb _=>h.block b hb⟩
theorem Fr.jC {r:Option Nat}(h:w.grownBy w' r):Fr w w' (fun b=>r=M b):=⟨h.size,fun b hb hx=>h.block b hb (fun e=>hx e.symm)⟩
theorem Fr.mono {aA:Nat->Prop}(h:Fr w w' X)(hxy:∀b,X b->aA b):Fr w w' aA:=⟨h.1,fun b hb hx=>h.2 b hb (fun e=>hx (hxy b e))⟩
theorem Fr.trans (h:Fr w w1 X)(h2:Fr w1 w2 X):Fr w w2 X:=
 ⟨Nat.le_trans h.1 h2.1,fun b hb hx=>(h2.2 b (Nat.lt_of_lt_of_le hb h.1) hx).trans (h.2 b hb hx)⟩
theorem Fr.refl (w:F)(X:Nat->Prop):Fr w w X:=⟨Nat.le_refl _,fun _ _ _=>rfl⟩
theorem Fr.set (w:F)(a:Addr)(v:Y):Fr w (w.setCell a v) (fun b=>b=a.block):=
 ⟨by simp[World.setCell],fun b _ hx=>Below.heap_setCell _ _ _ _ hx⟩
def PT (w:F)(ao:Option Addr):Prop:=∀a,ao=M a->∃aQ,w.heap[a.block]?=M (C aQ 114 (0,0))
def Lr (w:F)(ao:Option Addr)(l:List (Int×Int)):Prop:=Jz w ao l/\PT w ao
theorem Jz.fr {l:List (Int×Int)}(h:Jz w ao l)(hF:Fr w w' X)(hx:∀a,ao=M a->¬X a.block):Jz w' ao l:=by
 rcases h with rfl|⟨b,off,rfl,hc⟩
 ·left;rfl
 ·refine Or.inr ⟨b,off,rfl,fun i hi=>?_⟩;have hn:=hx _ rfl;obtain⟨h1,h2⟩:=hc i hi;have hb:w'.heap[b]?=w.heap[b]?:=hF.2 b (World.block_lt_of_cell? _ _ h1) hn;exact⟨(World.cell?_of_block (a:=⟨b,off+i*2,O⟩) hb).trans h1,(World.cell?_of_block (a:=⟨b,off+i*2+1,O⟩) hb).trans h2⟩
theorem Lr.fr {l:List (Int×Int)}(h:Lr w ao l)(hF:Fr w w' X)(hx:∀b aQ,w.heap[b]?=M (C aQ 114 (0,0))->¬X b):Lr w' ao l:=by
 obtain⟨h1,h2⟩:=h;refine⟨h1.fr hF (fun a e=>?_),fun a e=>?_⟩
 ·obtain⟨aQ,hc⟩:=h2 a e;exact hx _ _ hc
 ·obtain⟨aQ,hc⟩:=h2 a e;exact⟨aQ,hF.at hc (hx _ _ hc)⟩
theorem Lr.yM {v:Y}{l:List (Int×Int)}(h:iV w B v l):∃ao cap,v=Z ao l.length cap/\Lr w ao l/\(ao=O->l.length=0/\cap=0):=by
 have h':=h;obtain⟨-,h2⟩:=h;rcases h2 with⟨rfl,h3⟩|⟨g,cap,aQ,rfl,hg,hh,-⟩
 ·exact⟨O,0,by rw[h3],⟨Or.inl (List.eq_nil_of_length_eq_zero h3),(fun _ e=>by cases e)⟩,fun _=>⟨h3,rfl⟩⟩
 ·exact⟨M ⟨g,0,O⟩,cap,rfl,⟨Jz.own h',(fun a e=>by cases e;exact⟨aQ,hh⟩)⟩,(fun e=>by cases e)⟩
theorem Lr.nil (w:F):Lr w O []:=⟨Or.inl rfl,fun _ e=>by cases e⟩
theorem bO {e size:Nat}{v:Y}{xs:List Y}(h:w.ownsRow B e size v n xs)(hF:Fr w w' X)(hx:∀g aQ,v.ownBlock=M g->w.heap[g]?=M (C aQ e (0,0))->¬X g):w'.ownsRow B e size v n xs:=by
 obtain⟨h1,h2⟩:=h;refine⟨h1,?_⟩;rcases h2 with h2|⟨g,cap,aQ,rfl,hg,hh,hr⟩
 ·exact Or.inl h2
 ·exact Or.inr ⟨g,cap,aQ,rfl,hg,hF.at hh (hx g aQ rfl hh),hr⟩
theorem bN.fr {tb:Nat}{l:List (Int×Int)}(t:bN w tb l)(hF:Fr w w' X)(h1:¬X tb)(h2:∀b la ra p h l,w.heap[b]?=M (jW la ra p h l)->¬X b):bN w' tb l:=
 t.keep fun b c e hc=>by
  refine hF.2 b (aL e) ?_;rcases hc with⟨-,rfl⟩|⟨la,ra,p,h,l',rfl⟩
  ·exact h1
  ·exact h2 _ _ _ _ _ _ e
abbrev Rec:=Nat×Nat×Option Addr×Nat×List (Int×Int)
def Rec.sb (r:Rec):Nat:=r.1
def Rec.tb (r:Rec):Nat:=r.2.1
def Rec.l (r:Rec):List (Int×Int):=r.2.2.2.2
def Rec.v (r:Rec):Y:=Z r.2.2.1 r.2.2.2.2.length r.2.2.2.1
def Dm (w:F)(B:Nat)(r:Rec):Prop:=w.heap[r.sb]?=M (UD r.tb r.v)/\bN w r.tb r.l/\Lr w r.2.2.1 r.l/\B<=r.sb/\B<=r.tb
def Ye (r s:Rec):Prop:=r.sb≠s.sb/\r.tb≠s.tb
def nN (wD:Y)(n:Int)(vp vm:Y):Obj:=C #[wD,Z O 0 0,I V n,vp,Z O 0 0,vm] 71 (0,0)
def marks (c:Nat):List Int:=(List.range c).map (fun i:Nat=>(i:Int)+1)
abbrev dS:=Option Addr×Nat×Nat
def dS.v (x:dS):Y:=Z x.1 x.2.1 x.2.2
def mk (i:Nat):Int×Int:=(-((i:Int)+1),(i:Int)+1)
def EX (w:F)(hs:List dS):Prop:=∀i x,hs[i]?=M x->Lr w x.1 (List.replicate x.2.1 (mk (i / 4)))/\x.2.1<=9000
def INV (w:F)(B wb:Nat)(rs:List Rec)(c:Nat):Prop:=
 ∃(wD vp vm:Y) (hs:List dS),w.heap[wb]?=M (nN wD (c:Int) vp vm)/\B<=wb
  /\w.ownsRow B 117 1 wD rs.length (rs.map (fun r:Rec=>Value.pointer (M ⟨r.sb,0,O⟩)))
  /\(∀r∈rs,Dm w B r)/\rs.Pairwise Ye
  /\w.ownsRow B 102 1 vp hs.length (hs.map dS.v)/\hs.length=4*c/\EX w hs/\nM w B vm (marks c)
theorem Yf {n:Int}(h:w.heap[wb]?=M (nN wD n vp vm)):
 w.cell? ⟨wb,0,O⟩=M wD/\w.cell? ⟨wb,1,O⟩=M (Z O 0 0)/\w.cell? ⟨wb,2,O⟩=M (I V n)/\w.cell? ⟨wb,3,O⟩=M vp/\w.cell? ⟨wb,4,O⟩=M (Z O 0 0)/\w.cell? ⟨wb,5,O⟩=M vm/\∀j,w.frozen? ⟨wb,j,O⟩=false:=by
 simp[World.cell?,World.frozen?,h,nN]
theorem Dm.fr {r:Rec}(h:Dm w B r)(hF:Fr w w' X)(h1:¬X r.sb)(h2:¬X r.tb)(h3:∀b la ra p h l,w.heap[b]?=M (jW la ra p h l)->¬X b)
 (h4:∀b aQ,w.heap[b]?=M (C aQ 114 (0,0))->¬X b):Dm w' B r:=by
 obtain⟨a1,a2,a3,a4,a5⟩:=h;exact⟨hF.at a1 h1,a2.fr hF h2 h3,a3.fr hF h4,a4,a5⟩
theorem EX.fr {hs:List dS}(h:EX w hs)(hF:Fr w w' X)(h4:∀b aQ,w.heap[b]?=M (C aQ 114 (0,0))->¬X b):EX w' hs:=
 fun i x e=>⟨(h i x e).1.fr hF h4,(h i x e).2⟩
theorem eT {p:Obj}(h1:w.heap[b]?=M o)(h2:w.heap[b]?=M p)(hne:o≠p):False:=by
 rw[h1]at h2;exact hne (Option.some.inj h2)
theorem lD {a b:Array Y}{s t:TypeId}{f g:Nat×Nat}(h:s≠t):(Obj.cells a s f)≠(Obj.cells b t g):=by
 intro e;cases e;exact h rfl
theorem INV.below {rs:List Rec}(h:INV w B wb rs c)(hB:Below w.heap.size w w'):INV w' B wb rs c:=by
 obtain⟨wD,vp,vm,hs,h1,h2,h3,h4,h5,h6,h7,h8,h9⟩:=h;have hF:=Fr.bT hB (fun _=>False);exact⟨wD,vp,vm,hs,hF.at h1 id,h2,bO h3 hF (fun _ _ _ _=>id),fun r hr=>(h4 r hr).fr hF id id (fun _ _ _ _ _ _ _=>id) (fun _ _ _=>id),h5,bO h6 hF (fun _ _ _ _=>id),h7,h8.fr hF (fun _ _ _=>id),bO h9 hF (fun _ _ _ _=>id)⟩
theorem INV.grown {rs:List Rec}{vts':Y}{hs:List dS}{r:Rec}(h4:∀r∈rs,Dm w B r)(h5:rs.Pairwise Ye)
 (h6:w.ownsRow B 102 1 vp hs.length (hs.map dS.v))(h7:hs.length=4*c)(h8:EX w hs)(h9:nM w B vm (marks c))(hwb:w.heap[wb]?=M (nN wD (c:Int) vp vm))(h2:B<=wb)
 (h3:w.ownsRow B 117 1 wD rs.length (rs.map (fun r:Rec=>Value.pointer (M ⟨r.sb,0,O⟩))))
 (hF:Fr w w' (fun b=>b=wb\/wD.ownBlock=M b))(Qm:w'.heap[wb]?=M (nN vts' (c:Int) vp vm))
 (ni:w'.ownsRow B 117 1 vts' (rs.length+1) (rs.map (fun r:Rec=>Value.pointer (M ⟨r.sb,0,O⟩))++ [Value.pointer (M ⟨r.sb,0,O⟩)]))
 (hr:Dm w' B r)(xO:w.heap.size<=r.sb)(uY:w.heap.size<=r.tb):INV w' B wb (rs++ [r]) c:=by
 have hX:∀b (aQ:Array Y) (t:TypeId) (f:Nat×Nat),t≠71->t≠117->w.heap[b]?=M (C aQ t f)->¬(b=wb\/wD.ownBlock=M b):=by
  intro b aQ t f e1 e2 hb hx;rcases hx with rfl|hx
  ·exact eT hb hwb (lD e1)
  ·rcases h3.2 with⟨rfl,-⟩|⟨g,cap,oF,rfl,-,hh,-⟩
   ·cases hx
   ·cases hx;exact eT hb hh (lD e2)
 refine⟨vts',vp,vm,hs,Qm,h2,by simpa using ni,?_,?_,bO h6 hF (fun g aQ _ e=>hX _ _ _ _ (by decide) (by decide) e),h7,h8.fr hF (fun b aQ e=>hX _ _ _ _ (by decide) (by decide) e),bO h9 hF (fun g aQ _ e=>hX _ _ _ _ (by decide) (by decide) e)⟩
 ·intro s UE;rcases List.mem_append.1 UE with UE|UE
  ·have hi4:=h4 s UE;have hi5:=hi4;obtain⟨z1,⟨y1,y2,y3,-⟩,-⟩:=hi4;exact hi5.fr hF (hX _ _ _ _ (by decide) (by decide) z1) (hX _ _ _ _ (by decide) (by decide) y3) (fun b la ra p h l e=>hX _ _ _ _ (by decide) (by decide) e) (fun b aQ e=>hX _ _ _ _ (by decide) (by decide) e)
  ·simp at UE;subst UE;exact hr
 ·rw[List.pairwise_append];refine⟨h5,by simp,fun s UE t ht=>?_⟩;simp at ht;subst ht;obtain⟨z1,⟨y1,y2,y3,-⟩,-⟩:=h4 s UE;have e1:=aL z1;have e2:=aL y3;exact⟨by omega,by omega⟩
def Gg (n:Int):List Int:=[n / 16777216,n / 65536 % 256,n / 256 % 256,n % 256]
def Bl (z:Int):Int:=if bits .and .u32 z 1=1 then bits .xor .u32 (z / 2) 3988292384 else z / 2
def tN:Nat->Int->Int
 |0,z=>z
 |k+1,z=>Bl (tN k z)
def zT (z:Int)(b:UInt8):Int:=tN 8 (bits .xor .u32 z (b.toNat:Int))
def yN (l:List UInt8):Int:=l.foldl zT 4294967295
def jR (l:List UInt8):Int:=bits .xor .u32 (yN l) 4294967295
def bQ (z:Int):Prop:=0<=z/\z<4294967296
theorem Dn (op:BinOp)(a b:Int):bQ (bits op .u32 a b):=by
 have h1:=bits_lo_u32 op a b;have h2:=bits_hi_u32 op a b;unfold bQ;omega
theorem nu {z:Int}(h:bQ z):bQ (Bl z):=by
 unfold Bl;split
 ·exact Dn _ _ _
 ·unfold bQ at*;omega
theorem yO {z:Int}(h:bQ z):∀k,bQ (tN k z)
 |0=>h
 |k+1=>nu (yO h k)
theorem UF (z:Int)(b:UInt8):bQ (zT z b):=yO (Dn _ _ _) 8
theorem Yg:∀(l:List UInt8) (z:Int),bQ z->bQ (l.foldl zT z)
 | [],_,h=>h
 |b::l,z,_=>Yg l _ (UF z b)
theorem OI (l:List UInt8):bQ (yN l):=Yg l _ (by unfold bQ;omega)
theorem Gh (l:List UInt8):bQ (jR l):=Dn _ _ _
theorem EY {l:List UInt8}(h:k<l.length):yN (l.take (k+1))=zT (yN (l.take k)) l[k]:=by
 unfold yN;rw[List.take_succ_eq_append_getElem h,List.foldl_append];rfl
theorem ny (x y:Int):∀(l:List (Int×Int)) (k:Nat),k<l.length->((Fv l).set (k*2) (I V x)).set (k*2+1) (I V y)=Fv (l.set k (x,y)):=by
 intro l
 induction l with
 |nil=>intro k h;simp at h
 |cons p l ih=>
  intro k h;cases k with
  |zero=>simp[rX]
  |succ k=>
   have:=ih k (by simpa using h);rw[rX,show(k+1)*2=k*2+1+1 from by omega];simp only[List.set_cons_succ];rw[rX];simpa using this
theorem oh (p:Int×Int)(l:List (Int×Int))(k:Nat)(h:k<l.length):(List.replicate k p++l.drop k).set k p=List.replicate (k+1) p++l.drop (k+1):=by
 rw[List.set_append_right _ _ (by simp),List.length_replicate,Nat.sub_self,List.drop_eq_getElem_cons h,List.set_cons_zero,List.replicate_succ',List.append_assoc];rfl
theorem iV.store {g:Nat}{l:List (Int×Int)}(x y:Int)(h:iV w B (Z (M ⟨g,0,O⟩) n cap) l)(hk:k<l.length):
 iV ((w.setCell ⟨g,k*2,O⟩ (I V x)).setCell ⟨g,k*2+1,O⟩ (I V y)) B (Z (M ⟨g,0,O⟩) n cap) (l.set k (x,y)):=by
 have hn:n=l.length:=by
  rcases h.2 with⟨h',-⟩|⟨g',Gd,aQ,h',-⟩
  ·cases h'
  ·cases h';rfl
 subst hn;have h1:=(World.ownsRow.stored h (k*2) (I V x)).1;have h2:=(World.ownsRow.stored h1 (k*2+1) (I V y)).1;unfold iV;rw[<-ny x y l k hk,List.length_set];exact h2
theorem iV.block {l:List (Int×Int)}(h:iV w B (Z ao n cap) l)(hk:k<l.length):
 ∃g aQ,ao=M ⟨g,0,O⟩/\B<=g/\w.heap[g]?=M (C aQ 114 (0,0))/\w.cell? ⟨g,k*2,O⟩=M (I V (l.getD k (0,0)).1)/\w.cell? ⟨g,k*2+1,O⟩=M (I V (l.getD k (0,0)).2)
  /\w.frozen? ⟨g,k*2,O⟩=false/\w.frozen? ⟨g,k*2+1,O⟩=false:=by
 have h':=h;rcases h.2 with⟨-,h0⟩|⟨g,Gd,aQ,hv,hg,hh,-⟩
 ·omega
 ·cases hv
  obtain⟨e1,e2⟩:=Uk l k hk;exact⟨g,aQ,rfl,hg,hh,(World.ownsRow.cellAt h' (k*2) (by omega)).trans e1,(World.ownsRow.cellAt h' (k*2+1) (by omega)).trans e2,World.ownsRow.frozenAt h' _,World.ownsRow.frozenAt h' _⟩
def UG (w wr:F)(B wb c:Nat)(wD vp vm:Y)(ao:Option Addr)(l:List (Int×Int))(k:Nat):Prop:=
 wr.heap[wb]?=M (nN wD ((c:Int)+1) vp vm)/\iV wr B (Z ao l.length l.length) (List.replicate k (mk c)++l.drop k)/\Fr w wr (fun b=>b=wb\/∃a,ao=M a/\b=a.block)/\Below B w wr
theorem UG.start {l:List (Int×Int)}(hw:w.heap[wb]?=M (nN wD (c:Int) vp vm))(hB:B<=wb)(hl:iV w B (Z ao l.length l.length) l):
 UG w (w.setCell ⟨wb,2,O⟩ (I V ((c:Int)+1))) B wb c wD vp vm ao l 0:=by
 have hF:=Fr.set w ⟨wb,2,O⟩ (I V ((c:Int)+1));have bS:=aL hw;refine⟨?_,?_,hF.mono (fun b h=>Or.inl h),(Below.refl _ _).setCell (p:=⟨wb,2,O⟩) hB _⟩
 ·have:=heap_setCell_same w wb 2 _ _ (I V ((c:Int)+1)) hw;rw[this];rfl
 ·simp only[List.replicate_zero,List.nil_append,List.drop_zero];refine bO hl hF (fun g aQ _ e hx=>?_);simp only at hx;subst hx;exact eT e hw (lD (by decide))
theorem UG.next {wr:F}{g:Nat}{l:List (Int×Int)}(h:UG w wr B wb c wD vp vm (M ⟨g,0,O⟩) l k)(hk:k<l.length)(fG:Below wr.heap.size wr w2)(hgB:B<=g)
 (hg:∃aQ,wr.heap[g]?=M (C aQ 114 (0,0))):
 UG w ((w2.setCell ⟨g,k*2,O⟩ (I V (-((c:Int)+1)))).setCell ⟨g,k*2+1,O⟩ (I V ((c:Int)+1))) B wb c wD vp vm (M ⟨g,0,O⟩) l (k+1):=by
 obtain⟨h1,h2,h3,h4⟩:=h;obtain⟨aQ,hg⟩:=hg;have hne:wb≠g:=fun e=>by subst e;exact eT h1 hg (lD (by decide))
 have B2:Below B w w2:=by
  refine⟨fG.os.trans h4.os,fG.tape.trans h4.tape,fG.output.trans h4.output,Nat.le_trans h4.size fG.size,fun b hb=>?_⟩;exact(fG.block b (by have:=aL hg;omega)).trans (h4.block b hb)
 refine⟨?_,?_,?_,(B2.setCell (p:=⟨g,k*2,O⟩) hgB _).setCell (p:=⟨g,k*2+1,O⟩) hgB _⟩
 ·rw[Below.heap_setCell _ _ _ _ hne,Below.heap_setCell _ _ _ _ hne,fG.block wb (aL h1)];exact h1
 ·have:=iV.store (k:=k) (-((c:Int)+1)) ((c:Int)+1) (h2.below fG) (by simp;omega);rw[<-oh (mk c) l k hk];exact this
 ·refine h3.trans ((Fr.bT fG _).trans (((Fr.set _ _ _).mono ?_).trans ((Fr.set _ _ _).mono ?_)))
  ·intro b hb;exact Or.inr ⟨_,rfl,hb⟩
  ·intro b hb;exact Or.inr ⟨_,rfl,hb⟩
def aK (w0 w:F):Prop:=Below w0.heap.size w0 w
theorem aK.refl (w:F):aK w w:=Below.refl _ _
theorem aK.drew (h:aK w0 w):aK w0 w.drew:=⟨h.os,h.tape,h.output,h.size,h.block⟩
theorem aK.more (h:aK w0 w)(hb:Below w.heap.size w w'):aK w0 w':=bA h hb
theorem aK.alloc (h:aK w0 w)(o:Obj):aK w0 (w.alloc o):=bA h (aU _ _)
theorem aK.cell (h:aK w0 w){a:Addr}{v:Y}(hc:w0.cell? a=M v):w.cell? a=M v:=cell_later h hc
theorem aK.le (h:aK w0 w):w0.heap.size<=w.heap.size:=h.size
theorem iV.aM {v:Y}{l:List (Int×Int)}(h:iV w0 B v l)(hg:aK w0 w):iV w B v l:=h.below hg
theorem yP {e size:Nat}{v:Y}{xs:List Y}{aQ:Array Y}{t:TypeId}{f:Nat×Nat}(h:w.ownsRow B e size v n xs)(hb:w.heap[b]?=M (C aQ t f))(hne:e≠t):¬v.ownBlock=M b:=by
 intro hx;rcases h.2 with⟨rfl,-⟩|⟨g,cap,oF,rfl,-,hh,-⟩
 ·cases hx
 ·cases hx;exact eT hh hb (lD hne)
theorem lT {r:Option Nat}(hg:w.grownBy w' r)(hb:w.heap[b]?=M o)(hne:¬r=M b):w'.heap[b]?=M o:=
 (hg.block b (aL hb) (fun e=>hne e.symm)).trans hb
theorem iV.typed {l:List (Int×Int)}(h:iV w B (Z ao n cap) l):∀a,ao=M a->∃aQ,w.heap[a.block]?=M (C aQ 114 (0,0))/\B<=a.block:=by
 intro a ha;subst ha;rcases h.2 with⟨h',-⟩|⟨g,Gd,aQ,hv,hg,hh,-⟩
 ·cases h'
 ·cases hv;exact⟨aQ,hh,hg⟩
theorem EZ (h:Below B w w1)(hg:aK w1 w2)(hB:B<=w1.heap.size):Below B w w2:=
 ⟨hg.os.trans h.os,hg.tape.trans h.tape,hg.output.trans h.output,Nat.le_trans h.size hg.size,fun b hb=>(hg.block b (by omega)).trans (h.block b hb)⟩
def ol (w w':F)(B wb c:Nat)(wD vp vm:Y)(hs:List dS)(ao:Option Addr):Prop:=
 ∃(vp' vm':Y) (h4:List dS),h4.length=4/\w'.heap[wb]?=M (nN wD ((c:Int)+1) vp' vm')/\w'.ownsRow B 102 1 vp' (hs++h4).length ((hs++h4).map dS.v)/\nM w' B vm' (marks (c+1))
  /\(∀x∈h4,Lr w' x.1 (List.replicate x.2.1 (mk c))/\x.2.1<=9000)/\Fr w w' (fun b=>b=wb\/(∃a,ao=M a/\b=a.block)\/vp.ownBlock=M b\/vm.ownBlock=M b)/\Below B w w'
def FB (q d a b c:Int):ByteArray:=(⟨#[74]⟩:ByteArray)++strOfNums [q]++strOfNums (Gg d)++strOfNums (Gg a)++strOfNums (Gg b)++strOfNums (Gg c)
def fU (q d a b c:Int):ByteArray:=FB q d a b c++strOfNums (Gg (jR (FB q d a b c).data.toList))
theorem UH (q d a b c:Int):(FB q d a b c).size=18:=by
 simp[FB,strOfNums,Gg,ByteArray.size]
abbrev fH:=Int×dS×dS
def fH.cells (e:fH):List Y:=[I V e.1,e.2.1.v,e.2.2.v]
def Iu (l:List fH):List Y:=l.flatMap fH.cells
theorem rY (e:fH)(l:List fH):Iu (e::l)=[I V e.1,e.2.1.v,e.2.2.v]++Iu l:=rfl
theorem Bn (a b:List fH):Iu (a++b)=Iu a++Iu b:=by simp[Iu]
theorem FC (l:List fH):(Iu l).length=l.length*3:=by
 induction l with
 |nil=>rfl
 |cons e l ih=>rw[rY,List.length_append,ih];simp;omega
def KU (w:F)(ao:Option Addr)(l:List fH):Prop:=
 (l=[]\/∃b off,ao=M ⟨b,off,O⟩/\∀j u,(Iu l)[j]?=M u->w.cell? ⟨b,off+j,O⟩=M u)/\∀a,ao=M a->∃aQ,w.heap[a.block]?=M (C aQ 302 (0,0))
def Yh (w:F)(B:Nat)(v:Y)(l:List fH):Prop:=w.ownsRow B 302 3 v l.length (Iu l)
theorem KU.fr {l:List fH}(h:KU w ao l)(hF:Fr w w' X)(hx:∀b aQ,w.heap[b]?=M (C aQ 302 (0,0))->¬X b):KU w' ao l:=by
 obtain⟨h1,h2⟩:=h;refine⟨?_,fun a e=>?_⟩
 ·rcases h1 with h1|⟨b,off,e,hc⟩
  ·exact Or.inl h1
  ·refine Or.inr ⟨b,off,e,fun j u hu=>?_⟩;obtain⟨aQ,hb⟩:=h2 _ e;have mF:w'.heap[b]?=w.heap[b]?:=hF.2 b (aL hb) (hx _ _ hb);exact(World.cell?_of_block (a:=⟨b,off+j,O⟩) mF).trans (hc j u hu)
 ·obtain⟨aQ,hb⟩:=h2 a e;exact⟨aQ,hF.at hb (hx _ _ hb)⟩
theorem KU.aM {l:List fH}(h:KU w ao l)(hg:aK w w'):KU w' ao l:=h.fr (Fr.bT hg (fun _=>False)) (fun _ _ _=>id)
theorem KU.nil (w:F):KU w O []:=⟨Or.inl rfl,fun _ e=>by cases e⟩
theorem KU.take {l:List fH}(h:KU w ao l)(k:Nat):KU w ao (l.take k):=by
 obtain⟨h1,h2⟩:=h;refine⟨?_,h2⟩;rcases h1 with rfl|⟨b,off,e,hc⟩
 ·left;simp
 ·refine Or.inr ⟨b,off,e,fun j u hu=>hc j u ?_⟩;have e2:Iu l=Iu (l.take k)++Iu (l.drop k):=by rw[<-Bn,List.take_append_drop]
  have bS:=(List.getElem?_eq_some_iff.1 hu).1;rw[e2,List.getElem?_append_left bS];exact hu
theorem Yh.form {v:Y}{l:List fH}(h:Yh w B v l):∃ao cap,v=Z ao l.length cap/\KU w ao l/\(ao=O->l.length=0/\cap=0)/\l.length<=cap:=by
 have h':=h;obtain⟨-,h2⟩:=h;rcases h2 with⟨rfl,h3⟩|⟨g,cap,aQ,rfl,hg,hh,gG,-⟩
 ·exact⟨O,0,by rw[h3],⟨Or.inl (List.eq_nil_of_length_eq_zero h3),(fun _ e=>by cases e)⟩,fun _=>⟨h3,rfl⟩,by omega⟩
 ·refine⟨M ⟨g,0,O⟩,cap,rfl,⟨Or.inr ⟨g,0,rfl,fun j u hu=>?_⟩,(fun a e=>by cases e;exact⟨aQ,hh⟩)⟩,(fun e=>by cases e),gG⟩;have:=World.ownsRow.cells h' rfl j u hu;cases j with
  |zero=>simpa[Addr.add]using this
  |succ j=>simpa[Addr.add]using this
end Go.Proofs.YtfplgfodoiiobaaGreatDoor
