/- TreesD, TreesE, TreesH, TreesI, RefA, TreesJ (joined). -/
import Derived.ArgAppend
import Derived.Deep.AppendLies
import Derived.Deep.DeepCutAuto
import Derived.Deep.RegionLawGrows
import Derived.Laws.BytesArg
import Derived.Laws.Closers25b
import Derived.Laws.OwnMore
import Derived.Test.YtfplgfodoiiobaaGreatDoorD03
open Option renaming none→O,some→M
open Go.Value renaming int→I,slice→Z,pointer→U
open Go.IntKind renaming i64→V
open Go.Obj renaming cells→C
open Go.Ending renaming returned→G
open Go renaming World→F,Value→Y,Calls→H
open Go.Proofs.Tryz renaming prog→K
open Go.Proofs.Tryz
namespace Go.Proofs.YtfplgfodoiiobaaGreatDoor
set_option maxHeartbeats 1000000
set_option maxRecDepth 100000
open Go.RowKit
abbrev AbX:=@List.mem_flatMap
abbrev AbK:=@Option.some.inj
abbrev Abd:=@List.pairwise_append
abbrev Adt:=@Go.run_convert_bytes_arg
abbrev Adj:=@List.foldl_append
abbrev Abc:=@Array.length_toList
abbrev AbH:=@List.take_zero
abbrev Abl:=@UInt8.toNat_lt
abbrev Aar:=@List.set_cons_succ
abbrev AbV:=@List.set_append_right
abbrev AcR:=@List.length_replicate
abbrev AcS:=@Nat.sub_self
abbrev Aas:=@List.set_cons_zero
abbrev AbN:=@List.replicate_succ'
abbrev AaJ:=@List.append_assoc
abbrev AbZ:=@Go.World.ownsRow.stored
abbrev Acg:=@List.length_set
abbrev AbD:=@Go.World.ownsRow.cellAt
abbrev Acx:=@Go.World.ownsRow.frozenAt
abbrev Aaj:=@Go.heap_setCell_same
abbrev Abr:=@List.drop_zero
abbrev Aco:=@Go.World.ownsRow_lit
variable {w w' w0 w1 w2:F}{B n b wb c k e size cap:Nat}{X:Nat->Prop}{ao:Option Addr}{oQ vp vm:Y}{o:Obj}{xs:List Y}
theorem WZ {off:Nat}{l:List (Int×Int)}(hc:∀i,i<l.length->w.cell? ⟨b,off+i*2,O⟩=M (I V (l.getD i (0,0)).1)/\w.cell? ⟨b,off+i*2+1,O⟩=M (I V (l.getD i (0,0)).2)):
 ∀j u,(Ie l)[j]?=M u->w.cell? ((⟨b,off,O⟩:Addr).add j)=M u:=by
 intro j u hj
 have bP:j<l.length*2:=by
  by_cases bP:j<l.length*2
  ·exact bP
  ·rw[AcD (by rw[Ih];omega)]at hj;cases hj
 obtain⟨h1,h2⟩:=hc (j / 2) (by omega);obtain⟨g1,g2⟩:=BG l (j / 2) (by omega)
 have ha:(⟨b,off,O⟩:Addr).add j=⟨b,off+j,O⟩:=by
  cases j with
  |zero=>simp[Addr.add]
  |succ j=>simp[Addr.add]
 rw[ha];rcases Nat.mod_two_eq_zero_or_one j with hm|hm
 ·have e:j / 2*2=j:=by omega
  rw[e]at h1 g1;rw[h1];rw[g1]at hj;exact hj
 ·have e:j / 2*2+1=j:=by omega
  rw[Acr,e]at h2;rw[e]at g2;rw[h2];rw[g2]at hj;exact hj
theorem gM {ops:Array Oper}{rest:List Oper}{o:Oper}{a:Act}{Q:Exit->Act->F->Prop}(qR:o.guard=O)(s x:Operand)
 (ho:o.op= .call { callee:= .builtin .append,args:=#[s,x],argTypes:=#[102,102] })
 (base:Nat)(v:Y)(ys zs:List (Int×Int))(hs:a.eval s=v)(bD:gY w base v ys)(ao:Option Addr)(m c:Nat)(hx:a.eval x=Z ao m c)(hm:m=zs.length)(gL:ao=O->zs.length=0/\c=0)(hr:Da w ao zs)
 (hlen:ys.length+zs.length<=1000000000)(iK:base<=w.heap.size)
 (h:∀v' w',gY w' base v' (ys++zs)->w.grownBy w' v.ownBlock->wpList K ops Q rest (a.put o.dst v') w'):wpList K ops Q (o::rest) a w:=by
 obtain⟨i0,hi,oG,nM,oP⟩:=AaW Tryz.infoPiece;subst hm;cases ao with
 |none=>
  obtain⟨h1,rfl⟩:=gL rfl;have hz:zs=[]:=Aax h1;subst hz;exact AbO qR s x 102 ho base 114 i0 2 underlying102 hi v _ _ hs bD hx (h v w (by simpa using bD) (Abn _ _))
 |some ad=>
  refine AbG w qR s x 102 ho base 114 i0 (.agg #[I V 0,I V 0]) 2 16 underlying102 hi oG nM oP rfl (by decide) v ys.length (Ie ys) hs bD ad zs.length c (Ie zs) hx (Ih zs) ?_ ?_ (by unfold maxLen;omega) (by omega) iK ?_
  ·rcases hr with rfl|⟨b,off,e,hc⟩
   ·intro j u hj;simp[Ie]at hj
   ·cases e;exact WZ hc
  ·intro u hu;obtain⟨p,-,hp⟩:=AbX.1 hu;simp at hp;rcases hp with rfl|rfl<;>rfl
  ·intro v' w' h1 h2 _;refine h v' w' ?_ h2;unfold gY;rw[Ig,Aah];exact h1
theorem gY.form {v:Y}{l:List (Int×Int)}(h:gY w B v l):∃ao cap,v=Z ao l.length cap/\Da w ao l/\(ao=O->l.length=0/\cap=0):=by
 have h':=h;obtain⟨-,h2⟩:=h;rcases h2 with⟨rfl,h3⟩|⟨g,cap,aS,rfl,-⟩
 ·exact⟨O,0,by rw[h3],Aac (Aax h3),fun _=>⟨h3,rfl⟩⟩
 ·exact⟨M ⟨g,0,O⟩,cap,rfl,Da.own h',(fun e=>by cases e)⟩
theorem gY.below {v:Y}{l:List (Int×Int)}(h:gY w B v l)(hB:Below w.heap.size w w'):gY w' B v l:=by
 refine World.ownsRow.kept h (jZ hB O) ?_;cases hv:v.ownBlock with
 |none=>exact Aac rfl
 |some k=>exact Aab (by simp)
theorem Mq {wr:F}{v:Y}{l:List (Int×Int)}(hB:Below w.heap.size w wr)(bD:gY wr w.heap.size v l)(hg:wr.grownBy w1 v.ownBlock):Below w.heap.size w w1:=
 hB.grown hg hB.size (fun k e=>(AaA bD k e).1)
theorem gY.weak {B':Nat}{v:Y}{l:List (Int×Int)}(h:gY w B' v l)(hB:B<=B'):gY w B v l:=by
 obtain⟨h1,h2⟩:=h;refine⟨h1,?_⟩;rcases h2 with h2|⟨g,cap,aS,hv,hg,hh⟩
 ·exact Aac h2
 ·exact Aab ⟨g,cap,aS,hv,Aam hB hg,hh⟩
theorem yT (l:List (Int×Int)):∀f t:Int,(fZ l f t).length<=l.length:=by
 induction l with
 |nil=>intro f t;simp[fZ]
 |cons p l ih=>
  intro f t;have:=ih (f-p.2) (t-p.2);simp only[fZ,Aah,Aao];split<;>simp<;>omega
theorem XA {la ca:Nat}{pos:Int}:
 H K 157 #[Z ao la ca,I V pos,I V 0] w fun e w'=>e=G (.tuple #[Z ao la ca,Z O 0 0])/\w'=w:=by
 go_enter func157,ntmps157;go_wp2_with fail;go_ret2;exact⟨rfl,rfl⟩
theorem rcut_go {la ca:Nat}{l:List (Int×Int)}{pos n:Int}(hr:Da w ao l)(e1:la=l.length)(ok:eY l)(hlen:l.length<=8000)(h0:0<=pos)(hn:0<n)(h1:n<=sz l-pos):
 H K 157 #[Z ao la ca,I V pos,I V n] w fun e w'=>
  ∃v g,e=G (.tuple #[v,g])/\gY w' w.heap.size v (Kb l pos n)/\gY w' w.heap.size g (wH l pos n)/\Below w.heap.size w w':=by
 subst e1;have hs:=lW ok;have hP1:=yT l 0 pos;have hP2:=yT l (pos+n) (sz l);have HP:Hid (fZ l 0 pos++fZ l (pos+n) (sz l)=Kb l pos n/\fZ l pos (pos+n)=wH l pos n):=cut_eq ok h0 (by omega) h1;have Mg:(n==0)=false:=by simp;omega
 go_enter func157,ntmps157;go_wp2_with fail;refine(yS hr rfl ok (by omega) (by omega) (by omega) h0 (by omega)).mono ?_;rintro e w1 ⟨v1,rfl,nA,dY⟩;have uP:=hr.below dY;have sV:=dY.size;go_wp2_with fail;refine(fO uP rfl ok (by omega)).mono ?_;rintro e w1 ⟨rfl,rfl⟩;go_wp2_with fail;refine(yS uP rfl ok (by omega) (by omega) (by omega) (by omega) (by omega)).mono ?_;rintro e w3 ⟨v3,rfl,yR,uM⟩;obtain⟨nI,cp3,rfl,Gn,Pb⟩:=yR.form;have OH:=nA.below uM;have B3:=aQ dY uM;have OI:=B3.size;clear nA yR;go_upto_region 5 with(at_builtin;go_must (refine gM (by rfl) (.tmp 15) (.tmp 22) (by rfl) w.heap.size _ (fZ l 0 pos) (fZ l (pos+n) (sz l)) (by rfl) (by exact OH) _ _ _ (by rfl) (by rfl) (by exact Pb) (by exact Gn) (by omega) (by omega) ?_);intro v4 w4 wK nO);have B4:Below w.heap.size w w4:=Mq B3 OH nO;have Gc:=hr.below B4;have qU:=B4.size;clear nO OH Gn;go_wp2_with fail;refine(yS Gc rfl ok (by omega) h0 (by omega) (by omega) (by omega)).mono ?_;rintro e w5 ⟨v5,rfl,dK,nJ⟩;go_wp2_with fail;go_ret2;exact⟨_,_,rfl,by rw[<-HP.out.1];exact wK.below nJ,by rw[<-HP.out.2];exact dK.weak qU,aQ B4 nJ⟩
theorem nC {c:Int}:H K 99 #[I V c] w fun e w'=>e=G (I V c)/\w'=w:=by
 go_enter func99,ntmps99
 go_wp2
 go_ret;exact⟨rfl,rfl⟩
def pz (tb:Nat)(v:Y):Obj:=C #[U (M ⟨tb,0,O⟩),v] 119 (0,0)
def Fr (w w':F)(X:Nat->Prop):Prop:=w.heap.size<=w'.heap.size/\∀b,b<w.heap.size->¬X b->w'.heap[b]?=w.heap[b]?
theorem Fr.at (h:Fr w w' X)(e:w.heap[b]?=M o)(hx:¬X b):w'.heap[b]?=M o:=(h.2 b (aM e) hx).trans e
theorem Fr.cZ (h:Below w.heap.size w w')(X:Nat->Prop):Fr w w' X:=⟨h.size,fun b hb _=>h.block b hb⟩
theorem Fr.kC {r:Option Nat}(h:w.grownBy w' r):Fr w w' (fun b=>r=M b):=⟨h.size,fun b hb hx=>h.block b hb (fun e=>hx e.symm)⟩
theorem Fr.mono {aD:Nat->Prop}(h:Fr w w' X)(hxy:∀b,X b->aD b):Fr w w' aD:=⟨h.1,fun b hb hx=>h.2 b hb (fun e=>hx (hxy b e))⟩
theorem Fr.trans (h:Fr w w1 X)(h2:Fr w1 w2 X):Fr w w2 X:=
 ⟨Aam h.1 h2.1,fun b hb hx=>(h2.2 b (AaC hb h.1) hx).trans (h.2 b hb hx)⟩
theorem Fr.refl (w:F)(X:Nat->Prop):Fr w w X:=⟨Aak _,fun _ _ _=>rfl⟩
theorem Fr.set (w:F)(a:Addr)(v:Y):Fr w (w.setCell a v) (fun b=>b=a.block):=
 ⟨by simp[World.setCell],fun b _ hx=>Abm _ _ _ _ hx⟩
def PT (w:F)(ao:Option Addr):Prop:=∀a,ao=M a->∃aS,w.heap[a.block]?=M (C aS 114 (0,0))
def yF (w:F)(ao:Option Addr)(l:List (Int×Int)):Prop:=Da w ao l/\PT w ao
theorem Da.fr {l:List (Int×Int)}(h:Da w ao l)(hF:Fr w w' X)(hx:∀a,ao=M a->¬X a.block):Da w' ao l:=by
 rcases h with rfl|⟨b,off,rfl,hc⟩
 ·left;rfl
 ·refine Aab ⟨b,off,rfl,fun i hi=>?_⟩;have hn:=hx _ rfl;obtain⟨h1,h2⟩:=hc i hi;have hb:w'.heap[b]?=w.heap[b]?:=hF.2 b (Aaz _ _ h1) hn;exact⟨(AaO (a:=⟨b,off+i*2,O⟩) hb).trans h1,(AaO (a:=⟨b,off+i*2+1,O⟩) hb).trans h2⟩
theorem yF.fr {l:List (Int×Int)}(h:yF w ao l)(hF:Fr w w' X)(hx:∀b aS,w.heap[b]?=M (C aS 114 (0,0))->¬X b):yF w' ao l:=by
 obtain⟨h1,h2⟩:=h;refine⟨h1.fr hF (fun a e=>?_),fun a e=>?_⟩
 ·obtain⟨aS,hc⟩:=h2 a e;exact hx _ _ hc
 ·obtain⟨aS,hc⟩:=h2 a e;exact⟨aS,hF.at hc (hx _ _ hc)⟩
theorem yF.nP {v:Y}{l:List (Int×Int)}(h:gY w B v l):∃ao cap,v=Z ao l.length cap/\yF w ao l/\(ao=O->l.length=0/\cap=0):=by
 have h':=h;obtain⟨-,h2⟩:=h;rcases h2 with⟨rfl,h3⟩|⟨g,cap,aS,rfl,hg,hh,-⟩
 ·exact⟨O,0,by rw[h3],⟨Aac (Aax h3),(fun _ e=>by cases e)⟩,fun _=>⟨h3,rfl⟩⟩
 ·exact⟨M ⟨g,0,O⟩,cap,rfl,⟨Da.own h',(fun a e=>by cases e;exact⟨aS,hh⟩)⟩,(fun e=>by cases e)⟩
theorem yF.nil (w:F):yF w O []:=⟨Aac rfl,fun _ e=>by cases e⟩
theorem bK {v:Y}(h:w.ownsRow B e size v n xs)(hF:Fr w w' X)(hx:∀g aS,v.ownBlock=M g->w.heap[g]?=M (C aS e (0,0))->¬X g):w'.ownsRow B e size v n xs:=by
 obtain⟨h1,h2⟩:=h;refine⟨h1,?_⟩;rcases h2 with h2|⟨g,cap,aS,rfl,hg,hh,hr⟩
 ·exact Aac h2
 ·exact Aab ⟨g,cap,aS,rfl,hg,hF.at hh (hx g aS rfl hh),hr⟩
theorem dG.fr {tb:Nat}{l:List (Int×Int)}(t:dG w tb l)(hF:Fr w w' X)(h1:¬X tb)(h2:∀b la ra p h l,w.heap[b]?=M (mZ la ra p h l)->¬X b):dG w' tb l:=
 t.keep fun b c e hc=>by
  refine hF.2 b (aM e) ?_;rcases hc with⟨-,rfl⟩|⟨la,ra,p,h,l',rfl⟩
  ·exact h1
  ·exact h2 _ _ _ _ _ _ e
abbrev Rec:=Nat×Nat×Option Addr×Nat×List (Int×Int)
def Rec.sb (r:Rec):Nat:=r.1
def Rec.tb (r:Rec):Nat:=r.2.1
def Rec.l (r:Rec):List (Int×Int):=r.2.2.2.2
def Rec.v (r:Rec):Y:=Z r.2.2.1 r.2.2.2.2.length r.2.2.2.1
def Ke (w:F)(B:Nat)(r:Rec):Prop:=w.heap[r.sb]?=M (pz r.tb r.v)/\dG w r.tb r.l/\yF w r.2.2.1 r.l/\B<=r.sb/\B<=r.tb
def FV (r s:Rec):Prop:=r.sb≠s.sb/\r.tb≠s.tb
def qV (oQ:Y)(n:Int)(vp vm:Y):Obj:=C #[oQ,Z O 0 0,I V n,vp,Z O 0 0,vm] 71 (0,0)
def marks (c:Nat):List Int:=(List.range c).map (fun i:Nat=>(i:Int)+1)
abbrev bS:=Option Addr×Nat×Nat
def bS.v (x:bS):Y:=Z x.1 x.2.1 x.2.2
def mk (i:Nat):Int×Int:=(-((i:Int)+1),(i:Int)+1)
def OJ (w:F)(hs:List bS):Prop:=∀i x,hs[i]?=M x->yF w x.1 (List.replicate x.2.1 (mk (i / 4)))/\x.2.1<=9000
def INV (w:F)(B wb:Nat)(rs:List Rec)(c:Nat):Prop:=
 ∃(oQ vp vm:Y) (hs:List bS),w.heap[wb]?=M (qV oQ (c:Int) vp vm)/\B<=wb
  /\w.ownsRow B 117 1 oQ rs.length (rs.map (fun r:Rec=>Value.pointer (M ⟨r.sb,0,O⟩)))
  /\(∀r∈rs,Ke w B r)/\rs.Pairwise FV
  /\w.ownsRow B 102 1 vp hs.length (hs.map bS.v)/\hs.length=4*c/\OJ w hs/\iZ w B vm (marks c)
theorem FW {n:Int}(h:w.heap[wb]?=M (qV oQ n vp vm)):
 w.cell? ⟨wb,0,O⟩=M oQ/\w.cell? ⟨wb,1,O⟩=M (Z O 0 0)/\w.cell? ⟨wb,2,O⟩=M (I V n)/\w.cell? ⟨wb,3,O⟩=M vp/\w.cell? ⟨wb,4,O⟩=M (Z O 0 0)/\w.cell? ⟨wb,5,O⟩=M vm/\∀j,w.frozen? ⟨wb,j,O⟩=false:=by
 simp[World.cell?,World.frozen?,h,qV]
theorem Ke.fr {r:Rec}(h:Ke w B r)(hF:Fr w w' X)(h1:¬X r.sb)(h2:¬X r.tb)(h3:∀b la ra p h l,w.heap[b]?=M (mZ la ra p h l)->¬X b)
 (h4:∀b aS,w.heap[b]?=M (C aS 114 (0,0))->¬X b):Ke w' B r:=by
 obtain⟨a1,a2,a3,a4,a5⟩:=h;exact⟨hF.at a1 h1,a2.fr hF h2 h3,a3.fr hF h4,a4,a5⟩
theorem OJ.fr {hs:List bS}(h:OJ w hs)(hF:Fr w w' X)(h4:∀b aS,w.heap[b]?=M (C aS 114 (0,0))->¬X b):OJ w' hs:=
 fun i x e=>⟨(h i x e).1.fr hF h4,(h i x e).2⟩
theorem bU {p:Obj}(h1:w.heap[b]?=M o)(h2:w.heap[b]?=M p)(hne:o≠p):False:=by
 rw[h1]at h2;exact hne (AbK h2)
theorem gH {a b:Array Y}{s t:TypeId}{f g:Nat×Nat}(h:s≠t):(Obj.cells a s f)≠(Obj.cells b t g):=by
 intro e;cases e;exact h rfl
theorem INV.below {rs:List Rec}(h:INV w B wb rs c)(hB:Below w.heap.size w w'):INV w' B wb rs c:=by
 obtain⟨oQ,vp,vm,hs,h1,h2,h3,h4,h5,h6,h7,h8,h9⟩:=h;have hF:=Fr.cZ hB (fun _=>False);exact⟨oQ,vp,vm,hs,hF.at h1 id,h2,bK h3 hF (fun _ _ _ _=>id),fun r hr=>(h4 r hr).fr hF id id (fun _ _ _ _ _ _ _=>id) (fun _ _ _=>id),h5,bK h6 hF (fun _ _ _ _=>id),h7,h8.fr hF (fun _ _ _=>id),bK h9 hF (fun _ _ _ _=>id)⟩
theorem INV.grown {rs:List Rec}{vts':Y}{hs:List bS}{r:Rec}(h4:∀r∈rs,Ke w B r)(h5:rs.Pairwise FV)
 (h6:w.ownsRow B 102 1 vp hs.length (hs.map bS.v))(h7:hs.length=4*c)(h8:OJ w hs)(h9:iZ w B vm (marks c))(hwb:w.heap[wb]?=M (qV oQ (c:Int) vp vm))(h2:B<=wb)
 (h3:w.ownsRow B 117 1 oQ rs.length (rs.map (fun r:Rec=>Value.pointer (M ⟨r.sb,0,O⟩))))
 (hF:Fr w w' (fun b=>b=wb\/oQ.ownBlock=M b))(Mr:w'.heap[wb]?=M (qV vts' (c:Int) vp vm))
 (h3':w'.ownsRow B 117 1 vts' (rs.length+1) (rs.map (fun r:Rec=>Value.pointer (M ⟨r.sb,0,O⟩))++ [Value.pointer (M ⟨r.sb,0,O⟩)]))
 (hr:Ke w' B r)(Js:w.heap.size<=r.sb)(Ox:w.heap.size<=r.tb):INV w' B wb (rs++ [r]) c:=by
 have hX:∀b (aS:Array Y) (t:TypeId) (f:Nat×Nat),t≠71->t≠117->w.heap[b]?=M (C aS t f)->¬(b=wb\/oQ.ownBlock=M b):=by
  intro b aS t f e1 e2 hb hx;rcases hx with rfl|hx
  ·exact bU hb hwb (gH e1)
  ·rcases h3.2 with⟨rfl,-⟩|⟨g,cap,qN,rfl,-,hh,-⟩
   ·cases hx
   ·cases hx;exact bU hb hh (gH e2)
 refine⟨vts',vp,vm,hs,Mr,h2,by simpa using h3',?_,?_,bK h6 hF (fun g aS _ e=>hX _ _ _ _ (by decide) (by decide) e),h7,h8.fr hF (fun b aS e=>hX _ _ _ _ (by decide) (by decide) e),bK h9 hF (fun g aS _ e=>hX _ _ _ _ (by decide) (by decide) e)⟩
 ·intro s Si;rcases Aba.1 Si with Si|Si
  ·have hi4:=h4 s Si;have hi5:=hi4;obtain⟨z1,⟨y1,y2,y3,-⟩,-⟩:=hi4;exact hi5.fr hF (hX _ _ _ _ (by decide) (by decide) z1) (hX _ _ _ _ (by decide) (by decide) y3) (fun b la ra p h l e=>hX _ _ _ _ (by decide) (by decide) e) (fun b aS e=>hX _ _ _ _ (by decide) (by decide) e)
  ·simp at Si;subst Si;exact hr
 ·rw[Abd];refine⟨h5,by simp,fun s Si t ht=>?_⟩;simp at ht;subst ht;obtain⟨z1,⟨y1,y2,y3,-⟩,-⟩:=h4 s Si;have e1:=aM z1;have e2:=aM y3;exact⟨by omega,by omega⟩
def gV (n:Int):List Int:=[n / 16777216,n / 65536 % 256,n / 256 % 256,n % 256]
theorem nQ {n:Int}(h0:0<=n)(h1:n<4294967296):
 H K 171 #[I V n] w fun e w'=>e=G (.string (strOfNums (gV n)))/\Below w.heap.size w w':=by
 have hcv:=Adt (P:=K) (w.alloc (C #[I .u8 (n / 16777216),I .u8 (n / 65536 % 256),I .u8 (n / 256 % 256),I .u8 (n % 256)] 5)) 153 5 underlying153 underlying5 w.heap.size 0 4 4 (gV n) rfl (by
  intro i hi;rcases(by omega:i=0\/i=1\/i=2\/i=3)with rfl|rfl|rfl|rfl<;>simp[gV]) 9 underlying9
 go_enter func171,ntmps171;go_wp2_with fail;go_ret;exact⟨rfl,aP _ _⟩
def zZ (z:Int):Int:=if bits .and .u32 z 1=1 then bits .xor .u32 (z / 2) 3988292384 else z / 2
def oL:Nat->Int->Int
 |0,z=>z
 |k+1,z=>zZ (oL k z)
def vH (z:Int)(b:UInt8):Int:=oL 8 (bits .xor .u32 z (b.toNat:Int))
def sZ (l:List UInt8):Int:=l.foldl vH 4294967295
def kD (l:List UInt8):Int:=bits .xor .u32 (sZ l) 4294967295
def cO (z:Int):Prop:=0<=z/\z<4294967296
theorem Db (op:BinOp)(a b:Int):cO (bits op .u32 a b):=by
 have h1:=bits_lo_u32 op a b;have h2:=bits_hi_u32 op a b;unfold cO;omega
theorem u32_bit {z:Int}(h:cO z):cO (zZ z):=by
 unfold zZ;split
 ·exact Db _ _ _
 ·unfold cO at*;omega
theorem xW {z:Int}(h:cO z):∀k,cO (oL k z)
 |0=>h
 |k+1=>u32_bit (xW h k)
theorem qd (z:Int)(b:UInt8):cO (vH z b):=xW (Db _ _ _) 8
theorem FX:∀(l:List UInt8) (z:Int),cO z->cO (l.foldl vH z)
 | [],_,h=>h
 |b::l,z,_=>FX l _ (qd z b)
theorem Yc (l:List UInt8):cO (sZ l):=FX l _ (by unfold cO;omega)
theorem yU (l:List UInt8):cO (kD l):=Db _ _ _
theorem Sj {l:List UInt8}(h:k<l.length):sZ (l.take (k+1))=vH (sZ (l.take k)) l[k]:=by
 unfold sZ;rw[Aau h,Adj];rfl
theorem BJ {s:ByteArray}(h1:s.size<=200000000):
 H K 174 #[.string s] w fun e w'=>e=G (I V (kD s.data.toList))/\w'=w:=by
 have jW:s.data.toList.length=s.size:=by rw[Abc];rfl
 have HS:Hid (s.data.toList.length=s.size):=jW;clear jW;go_enter func174,ntmps174;go_wp2_with fail
 go_loop [3,4] (fun c i=> ∃(k:Nat),k<=s.size/\c=I .u32 (sZ (s.data.toList.take k))/\i=I V (k:Int)) (fun _ i=>s.size-(intOf i).toNat)
 case atStart=>exact⟨0,Aap _,by rw[AbH];rfl,rfl⟩
 case round=>
  obtain⟨k,hk,rfl,rfl⟩:=hrel;have hu:=Yc (s.data.toList.take k);by_cases bP:k<s.size
  ·have i1:(0:Int)<=(k:Int):=(by omega);have i2:(k:Int)<(s.size:Int):=(by omega);have HT:Hid (sZ (s.data.toList.take (k+1))=vH (sZ (s.data.toList.take k)) (s.data.toList[k]'(by rw[HS.out];exact bP))):=Sj _;generalize sZ (s.data.toList.take k)=z at hu HT;go_wp2_with fail
   have HB:Hid (vH z (s.data.toList[k]'(by rw[HS.out];exact bP))=oL 8 (bits BinOp.xor IntKind.u32 z ((s[k].toNat:Int) % 4294967296))):=by
    show _=_;unfold vH
    have e1:((s[k].toNat:Int) % 4294967296)=(s[k].toNat:Int):=by
     have:=Abl s[k];omega
    rw[e1,Array.getElem_toList];rfl
   have hy0:=Db BinOp.xor z ((s[k].toNat:Int) % 4294967296);generalize bits BinOp.xor IntKind.u32 z ((s[k].toNat:Int) % 4294967296)=y0 at hy0 HB
   go_loop [3,5] (fun c j=> ∃(t:Nat),t<=8/\c=I .u32 (oL t y0)/\j=I V (t:Int)) (fun _ j=>8-(intOf j).toNat)
   case atStart=>exact⟨0,by omega,rfl,rfl⟩
   case round=>
    obtain⟨t,ht,rfl,rfl⟩:=hrel;have hy:=xW hy0 t;by_cases Vu:t<8
    ·have HN:Hid (oL (t+1) y0=zZ (oL t y0)):=rfl;generalize oL t y0=y at hy HN;unfold cO at hy;by_cases hb:bits BinOp.and IntKind.u32 y 1=1
     ·have qG:(bits BinOp.and IntKind.u32 y 1==1)=true:=(by simp[hb]);go_wp2_with fail
      go_round
      case rel=>exact⟨t+1,by omega,by rw[HN.out,zZ,Aad hb],by go_num⟩
      case measure=>simp[intOf];omega
     ·have qG:(bits BinOp.and IntKind.u32 y 1==1)=false:=(by simp[hb]);go_wp2_with fail
      go_round
      case rel=>exact⟨t+1,by omega,by rw[HN.out,zZ,Aaa hb],by go_num⟩
      case measure=>simp[intOf];omega
    ·have ht8:t=8:=(by omega);subst ht8;go_wp2_with fail
     go_round
     case rel=>exact⟨k+1,by omega,by rw[HT.out,HB.out],by go_num⟩
     case measure=>simp[intOf];omega
  ·have hkk:k=s.size:=(by omega);have TD:=yU (s.data.toList.take k);have e1:s.data.toList.take k=s.data.toList:=Aaq (by rw[HS.out];omega);rw[e1]at TD hu ⊢;unfold cO kD at TD;have e2:IntKind.i64.wrap (bits BinOp.xor IntKind.u32 (sZ s.data.toList) 4294967295)=bits BinOp.xor IntKind.u32 (sZ s.data.toList) 4294967295:=(by rw[AaE];omega);go_wp2_with fail;go_ret;exact⟨by first|rfl|(simp[kD,e2];done)|(simp[kD,wrap64,e2];omega),rfl⟩
theorem pcs_set (x y:Int):∀(l:List (Int×Int)) (k:Nat),k<l.length->((Ie l).set (k*2) (I V x)).set (k*2+1) (I V y)=Ie (l.set k (x,y)):=by
 intro l
 induction l with
 |nil=>intro k h;simp at h
 |cons p l ih=>
  intro k h;cases k with
  |zero=>simp[wG]
  |succ k=>
   have:=ih k (by simpa using h);rw[wG,show(k+1)*2=k*2+1+1 from by omega];simp only[Aar];rw[wG];simpa using this
theorem rep_set (p:Int×Int)(l:List (Int×Int))(k:Nat)(h:k<l.length):(List.replicate k p++l.drop k).set k p=List.replicate (k+1) p++l.drop (k+1):=by
 rw[AbV _ _ (by simp),AcR,AcS,AaQ h,Aas,AbN,AaJ];rfl
theorem gY.store {g:Nat}{l:List (Int×Int)}(x y:Int)(h:gY w B (Z (M ⟨g,0,O⟩) n cap) l)(hk:k<l.length):
 gY ((w.setCell ⟨g,k*2,O⟩ (I V x)).setCell ⟨g,k*2+1,O⟩ (I V y)) B (Z (M ⟨g,0,O⟩) n cap) (l.set k (x,y)):=by
 have hn:n=l.length:=by
  rcases h.2 with⟨h',-⟩|⟨g',nH,aS,h',-⟩
  ·cases h'
  ·cases h';rfl
 subst hn;have h1:=(AbZ h (k*2) (I V x)).1;have h2:=(AbZ h1 (k*2+1) (I V y)).1;unfold gY;rw[<-pcs_set x y l k hk,Acg];exact h2
theorem gY.block {l:List (Int×Int)}(h:gY w B (Z ao n cap) l)(hk:k<l.length):
 ∃g aS,ao=M ⟨g,0,O⟩/\B<=g/\w.heap[g]?=M (C aS 114 (0,0))/\w.cell? ⟨g,k*2,O⟩=M (I V (l.getD k (0,0)).1)/\w.cell? ⟨g,k*2+1,O⟩=M (I V (l.getD k (0,0)).2)
  /\w.frozen? ⟨g,k*2,O⟩=false/\w.frozen? ⟨g,k*2+1,O⟩=false:=by
 have h':=h;rcases h.2 with⟨-,h0⟩|⟨g,nH,aS,hv,hg,hh,-⟩
 ·omega
 ·cases hv
  obtain⟨e1,e2⟩:=BG l k hk;exact⟨g,aS,rfl,hg,hh,(AbD h' (k*2) (by omega)).trans e1,(AbD h' (k*2+1) (by omega)).trans e2,Acx h' _,Acx h' _⟩
def qf (w wr:F)(B wb c:Nat)(oQ vp vm:Y)(ao:Option Addr)(l:List (Int×Int))(k:Nat):Prop:=
 wr.heap[wb]?=M (qV oQ ((c:Int)+1) vp vm)/\gY wr B (Z ao l.length l.length) (List.replicate k (mk c)++l.drop k)/\Fr w wr (fun b=>b=wb\/∃a,ao=M a/\b=a.block)/\Below B w wr
theorem qf.start {l:List (Int×Int)}(hw:w.heap[wb]?=M (qV oQ (c:Int) vp vm))(hB:B<=wb)(hl:gY w B (Z ao l.length l.length) l):
 qf w (w.setCell ⟨wb,2,O⟩ (I V ((c:Int)+1))) B wb c oQ vp vm ao l 0:=by
 have hF:=Fr.set w ⟨wb,2,O⟩ (I V ((c:Int)+1));have bP:=aM hw;refine⟨?_,?_,hF.mono (fun b h=>Aac h),(AaS _ _).setCell (p:=⟨wb,2,O⟩) hB _⟩
 ·have:=Aaj w wb 2 _ _ (I V ((c:Int)+1)) hw;rw[this];rfl
 ·simp only[List.replicate_zero,Acf,Abr];refine bK hl hF (fun g aS _ e hx=>?_);simp only at hx;subst hx;exact bU e hw (gH (by decide))
theorem qf.next {wr:F}{g:Nat}{l:List (Int×Int)}(h:qf w wr B wb c oQ vp vm (M ⟨g,0,O⟩) l k)(hk:k<l.length)(fV:Below wr.heap.size wr w2)(jg:B<=g)
 (hg:∃aS,wr.heap[g]?=M (C aS 114 (0,0))):
 qf w ((w2.setCell ⟨g,k*2,O⟩ (I V (-((c:Int)+1)))).setCell ⟨g,k*2+1,O⟩ (I V ((c:Int)+1))) B wb c oQ vp vm (M ⟨g,0,O⟩) l (k+1):=by
 obtain⟨h1,h2,h3,h4⟩:=h;obtain⟨aS,hg⟩:=hg;have hne:wb≠g:=fun e=>by subst e;exact bU h1 hg (gH (by decide))
 have B2:Below B w w2:=by
  refine⟨fV.os.trans h4.os,fV.tape.trans h4.tape,fV.output.trans h4.output,Aam h4.size fV.size,fun b hb=>?_⟩;exact(fV.block b (by have:=aM hg;omega)).trans (h4.block b hb)
 refine⟨?_,?_,?_,(B2.setCell (p:=⟨g,k*2,O⟩) jg _).setCell (p:=⟨g,k*2+1,O⟩) jg _⟩
 ·rw[Abm _ _ _ _ hne,Abm _ _ _ _ hne,fV.block wb (aM h1)];exact h1
 ·have:=gY.store (k:=k) (-((c:Int)+1)) ((c:Int)+1) (h2.below fV) (by simp;omega);rw[<-rep_set (mk c) l k hk];exact this
 ·refine h3.trans ((Fr.cZ fV _).trans (((Fr.set _ _ _).mono ?_).trans ((Fr.set _ _ _).mono ?_)))
  ·intro b hb;exact Aab ⟨_,rfl,hb⟩
  ·intro b hb;exact Aab ⟨_,rfl,hb⟩
def aL (w0 w:F):Prop:=Below w0.heap.size w0 w
theorem aL.refl (w:F):aL w w:=AaS _ _
theorem aL.drew (h:aL w0 w):aL w0 w.drew:=⟨h.os,h.tape,h.output,h.size,h.block⟩
theorem aL.more (h:aL w0 w)(hb:Below w.heap.size w w'):aL w0 w':=aQ h hb
theorem aL.alloc (h:aL w0 w)(o:Obj):aL w0 (w.alloc o):=aQ h (aP _ _)
theorem aL.cell (h:aL w0 w){a:Addr}{v:Y}(hc:w0.cell? a=M v):w.cell? a=M v:=AaB h hc
theorem aL.le (h:aL w0 w):w0.heap.size<=w.heap.size:=h.size
theorem gY.aN {v:Y}{l:List (Int×Int)}(h:gY w0 B v l)(hg:aL w0 w):gY w B v l:=h.below hg
theorem Ms {ops:Array Oper}{o:Oper}{a:Act}{aA:Act->F->Prop}{Q:Exit->Act->F->Prop}{E:Prop}(qR:o.guard=O)(s x:Operand)
 (ho:o.op= .call { callee:= .builtin .append,args:=#[s,x],argTypes:=#[60,60] })
 (B:Nat)(v:Y)(zs:List Int)(z:Int)(he:a.eval s=v)(bD:iZ w B v zs)(ad:Addr)(m c:Nat)(hx:a.eval x=Z (M ad) m c)(hm:m=1)(hr:w.cell? (ad.add 0)=M (I V z))(hlen:zs.length<=100000000)(iK:B<=w.heap.size)
 (h:∀v' w',iZ w' B v' (zs++ [z])->w.grownBy w' v.ownBlock->aA (a.put o.dst v') w'):if Region.wanted o (yielded ops a.tmps)=true then Oper.wp K o a w aA Q else E:=by
 obtain⟨i0,hi,oG,nM,oP⟩:=AaW Tryz.infoInt;subst hm;refine step_append_lies w qR s x 60 ho B 3 i0 (I V 0) 1 8 underlying60 hi oG nM oP rfl (by decide) v zs.length (zs.map (Value.int V)) he bD ad 1 c [I V z] hx rfl ?_ ?_ (by decide) (by unfold maxLen;omega) (by omega) iK w.heap.size rfl ?_
 ·intro j u hj;cases j with
  |zero=>simp at hj;subst hj;exact hr
  |succ j=>simp at hj
 ·intro u hu;simp at hu;subst hu;rfl
 ·intro g cap w' h1 h2 _ _;exact h _ w' (iZ.push h1) h2
theorem qW {v:Y}{aS:Array Y}{t:TypeId}{f:Nat×Nat}(h:w.ownsRow B e size v n xs)(hb:w.heap[b]?=M (C aS t f))(hne:e≠t):¬v.ownBlock=M b:=by
 intro hx;rcases h.2 with⟨rfl,-⟩|⟨g,cap,qN,rfl,-,hh,-⟩
 ·cases hx
 ·cases hx;exact bU hh hb (gH hne)
theorem mO {r:Option Nat}(hg:w.grownBy w' r)(hb:w.heap[b]?=M o)(hne:¬r=M b):w'.heap[b]?=M o:=
 (hg.block b (aM hb) (fun e=>hne e.symm)).trans hb
theorem gY.typed {l:List (Int×Int)}(h:gY w B (Z ao n cap) l):∀a,ao=M a->∃aS,w.heap[a.block]?=M (C aS 114 (0,0))/\B<=a.block:=by
 intro a ha;subst ha;rcases h.2 with⟨h',-⟩|⟨g,nH,aS,hv,hg,hh,-⟩
 ·cases h'
 ·cases hv;exact⟨aS,hh,hg⟩
theorem lZ (h:Below B w w1)(hg:aL w1 w2)(hB:B<=w1.heap.size):Below B w w2:=
 ⟨hg.os.trans h.os,hg.tape.trans h.tape,hg.output.trans h.output,Aam h.size hg.size,fun b hb=>(hg.block b (by omega)).trans (h.block b hb)⟩
theorem rY {v:Y}(h:w.ownsRow B e size v n xs):∃ao m c,v=Z ao m c:=by
 rcases h.2 with⟨h',-⟩|⟨g,nH,aS,hv,-⟩
 ·exact⟨_,_,_,h'⟩
 ·exact⟨_,_,_,hv⟩
theorem TF (w:F)(cs:Array Y)(l:List (Int×Int))(h:cs.toList=Ie l)(hm:l.length<=maxLen):Da (w.alloc (C cs 114)) (M ⟨w.heap.size,0,O⟩) l:=by
 have hl:cs.size=l.length*2:=by rw[<-Abc,h,Ih]
 have:=Aco (base:=0) (e:=114) (size:=2) w cs l.length (Aap _) hm hl;rw[h]at this;exact Da.own this
end Go.Proofs.YtfplgfodoiiobaaGreatDoor
