/- TreesD, TreesE, TreesH, TreesI, RefA, TreesJ (joined). -/
import Derived.ArgAppend
import Derived.Deep.AppendLies
import Derived.Deep.DeepCutAuto
import Derived.Deep.RegionLawGrows
import Derived.Laws.BytesArg
import Derived.Laws.Closers25b
import Derived.Laws.OwnMore
import Derived.Test.YtfplgfodoiiobaaGreatDoorJ03
open Option renaming none→O,some→M
open Go.Value renaming int→I,slice→Z,pointer→U
open Go.IntKind renaming i64→V
open Go.Obj renaming cells→C
open Go.Ending renaming returned→G
open Go renaming World→F,Value→Y,Calls→H
open Go.Proofs.Tryz renaming prog→K
namespace Go.Proofs.YtfplgfodoiiobaaGreatDoor
set_option maxHeartbeats 1000000
set_option maxRecDepth 100000
open Go.RowKit
variable {w w' w0 w1 w2:F}{B n b wb c k e size cap:Nat}{X:Nat->Prop}{ao:Option Addr}{nP vp vm:Y}{o:Obj}{xs:List Y}
theorem TH {off:Nat}{l:List (Int×Int)}(hc:∀i,i<l.length->w.cell? ⟨b,off+i*2,O⟩=M (I V (l.getD i (0,0)).1)/\w.cell? ⟨b,off+i*2+1,O⟩=M (I V (l.getD i (0,0)).2)):
 ∀j u,(Fu l)[j]?=M u->w.cell? ((⟨b,off,O⟩:Addr).add j)=M u:=by
 intro j u hj
 have bT:j<l.length*2:=by
  by_cases bT:j<l.length*2
  ·exact bT
  ·rw[List.getElem?_eq_none (by rw[Fw];omega)]at hj;cases hj
 obtain⟨h1,h2⟩:=hc (j / 2) (by omega);obtain⟨g1,g2⟩:=Yq l (j / 2) (by omega)
 have ha:(⟨b,off,O⟩:Addr).add j=⟨b,off+j,O⟩:=by
  cases j with
  |zero=>simp[Addr.add]
  |succ j=>simp[Addr.add]
 rw[ha];rcases Nat.mod_two_eq_zero_or_one j with hm|hm
 ·have e:j / 2*2=j:=by omega
  rw[e]at h1 g1;rw[h1];rw[g1]at hj;exact hj
 ·have e:j / 2*2+1=j:=by omega
  rw[Nat.add_assoc,e]at h2;rw[e]at g2;rw[h2];rw[g2]at hj;exact hj
theorem gQ {ops:Array Oper}{rest:List Oper}{o:Oper}{a:Act}{Q:Exit->Act->F->Prop}(qE:o.guard=O)(s x:Operand)
 (ho:o.op= .call { callee:= .builtin .append,args:=#[s,x],argTypes:=#[102,102] })
 (base:Nat)(v:Y)(ys zs:List (Int×Int))(hs:a.eval s=v)(bA:gY w base v ys)(ao:Option Addr)(m c:Nat)(hx:a.eval x=Z ao m c)(hm:m=zs.length)(gP:ao=O->zs.length=0/\c=0)(hr:Ec w ao zs)
 (hlen:ys.length+zs.length<=1000000000)(iI:base<=w.heap.size)
 (h:∀v' w',gY w' base v' (ys++zs)->w.grownBy w' v.ownBlock->wpList K ops Q rest (a.put o.dst v') w'):wpList K ops Q (o::rest) a w:=by
 obtain⟨i0,hi,nN,nO,oM⟩:=info_parts Tryz.infoPiece;subst hm;cases ao with
 |none=>
  obtain⟨h1,rfl⟩:=gP rfl;have hz:zs=[]:=List.eq_nil_of_length_eq_zero h1;subst hz;exact wpList_append_own_none qE s x 102 ho base 114 i0 2 Tryz.underlying102 hi v _ _ hs bA hx (h v w (by simpa using bA) (World.grownBy.refl _ _))
 |some ad=>
  refine wpList_append_own w qE s x 102 ho base 114 i0 (.agg #[I V 0,I V 0]) 2 16 Tryz.underlying102 hi nN nO oM rfl (by decide) v ys.length (Fu ys) hs bA ad zs.length c (Fu zs) hx (Fw zs) ?_ ?_ (by unfold maxLen;omega) (by omega) iI ?_
  ·rcases hr with rfl|⟨b,off,e,hc⟩
   ·intro j u hj;simp[Fu]at hj
   ·cases e;exact TH hc
  ·intro u hu;obtain⟨p,-,hp⟩:=List.mem_flatMap.1 hu;simp at hp;rcases hp with rfl|rfl<;>rfl
  ·intro v' w' h1 h2 _;refine h v' w' ?_ h2;unfold gY;rw[Fv,List.length_append];exact h1
theorem gY.form {v:Y}{l:List (Int×Int)}(h:gY w B v l):∃ao cap,v=Z ao l.length cap/\Ec w ao l/\(ao=O->l.length=0/\cap=0):=by
 have h':=h;obtain⟨-,h2⟩:=h;rcases h2 with⟨rfl,h3⟩|⟨g,cap,aS,rfl,-⟩
 ·exact⟨O,0,by rw[h3],Or.inl (List.eq_nil_of_length_eq_zero h3),fun _=>⟨h3,rfl⟩⟩
 ·exact⟨M ⟨g,0,O⟩,cap,rfl,Ec.own h',(fun e=>by cases e)⟩
theorem gY.below {v:Y}{l:List (Int×Int)}(h:gY w B v l)(hB:Below w.heap.size w w'):gY w' B v l:=by
 refine World.ownsRow.kept h (jU hB O) ?_;cases hv:v.ownBlock with
 |none=>exact Or.inl rfl
 |some k=>exact Or.inr (by simp)
theorem Kr {wr:F}{v:Y}{l:List (Int×Int)}(hB:Below w.heap.size w wr)(bA:gY wr w.heap.size v l)(hg:wr.grownBy w1 v.ownBlock):Below w.heap.size w w1:=
 hB.grown hg hB.size (fun k e=>(World.ownsRow.lt bA k e).1)
theorem gY.weak {B':Nat}{v:Y}{l:List (Int×Int)}(h:gY w B' v l)(hB:B<=B'):gY w B v l:=by
 obtain⟨h1,h2⟩:=h;refine⟨h1,?_⟩;rcases h2 with h2|⟨g,cap,aS,hv,hg,hh⟩
 ·exact Or.inl h2
 ·exact Or.inr ⟨g,cap,aS,hv,Nat.le_trans hB hg,hh⟩
theorem yL (l:List (Int×Int)):∀f t:Int,(fV l f t).length<=l.length:=by
 induction l with
 |nil=>intro f t;simp[fV]
 |cons p l ih=>
  intro f t;have:=ih (f-p.2) (t-p.2);simp only[fV,List.length_append,List.length_cons];split<;>simp<;>omega
theorem TI {la ca:Nat}{pos:Int}:
 H K 157 #[Z ao la ca,I V pos,I V 0] w fun e w'=>e=G (.tuple #[Z ao la ca,Z O 0 0])/\w'=w:=by
 go_enter Tryz.func157,Tryz.ntmps157
 go_wp2_with fail
 go_ret2;exact⟨rfl,rfl⟩
theorem W_ {la ca:Nat}{l:List (Int×Int)}{pos n:Int}(hr:Ec w ao l)(e1:la=l.length)(ok:fG l)(hlen:l.length<=8000)(h0:0<=pos)(hn:0<n)(h1:n<=sz l-pos):
 H K 157 #[Z ao la ca,I V pos,I V n] w fun e w'=>
  ∃v g,e=G (.tuple #[v,g])/\gY w' w.heap.size v (Hy l pos n)/\gY w' w.heap.size g (vQ l pos n)/\Below w.heap.size w w':=by
 subst e1;have hs:=lD ok;have hP1:=yL l 0 pos;have hP2:=yL l (pos+n) (sz l);have HP:Hid (fV l 0 pos++fV l (pos+n) (sz l)=Hy l pos n/\fV l pos (pos+n)=vQ l pos n):=cut_eq ok h0 (by omega) h1;have KL:(n==0)=false:=by simp;omega
 go_enter Tryz.func157,Tryz.ntmps157
 go_wp2_with fail
 refine(yK hr rfl ok (by omega) (by omega) (by omega) h0 (by omega)).mono ?_;rintro e w1 ⟨v1,rfl,mH,fC⟩;have vB:=hr.below fC;have tK:=fC.size
 go_wp2_with fail
 refine(fP vB rfl ok (by omega)).mono ?_;rintro e w1 ⟨rfl,rfl⟩
 go_wp2_with fail
 refine(yK vB rfl ok (by omega) (by omega) (by omega) (by omega) (by omega)).mono ?_;rintro e w3 ⟨v3,rfl,yJ,sZ⟩;obtain⟨qP,cp3,rfl,Ki,Qo⟩:=yJ.form;have LG:=mH.below sZ;have B3:=aQ fC sZ;have LH:=B3.size;clear mH yJ
 go_upto_region 5 with(at_builtin;go_must (refine gQ (by rfl) (.tmp 15) (.tmp 22) (by rfl) w.heap.size _ (fV l 0 pos) (fV l (pos+n) (sz l)) (by rfl) (by exact LG) _ _ _ (by rfl) (by rfl) (by exact Qo) (by exact Ki) (by omega) (by omega) ?_);intro v4 w4 vU oD)
 have B4:Below w.heap.size w w4:=Kr B3 LG oD;have Ee:=hr.below B4;have Am:=B4.size;clear oD LG Ki
 go_wp2_with fail
 refine(yK Ee rfl ok (by omega) h0 (by omega) (by omega) (by omega)).mono ?_;rintro e w5 ⟨v5,rfl,cO,pY⟩
 go_wp2_with fail
 go_ret2;exact⟨_,_,rfl,by rw[<-HP.out.1];exact vU.below pY,by rw[<-HP.out.2];exact cO.weak Am,aQ B4 pY⟩
theorem jZ {c:Int}:H K 99 #[I V c] w fun e w'=>e=G (I V c)/\w'=w:=by
 go_enter Tryz.func99,Tryz.ntmps99
 go_wp2
 go_ret;exact⟨rfl,rfl⟩
def ZA (tb:Nat)(v:Y):Obj:=C #[U (M ⟨tb,0,O⟩),v] 119 (0,0)
def Fr (w w':F)(X:Nat->Prop):Prop:=w.heap.size<=w'.heap.size/\∀b,b<w.heap.size->¬X b->w'.heap[b]?=w.heap[b]?
theorem Fr.at (h:Fr w w' X)(e:w.heap[b]?=M o)(hx:¬X b):w'.heap[b]?=M o:=(h.2 b (aM e) hx).trans e
theorem Fr.cZ (h:Below w.heap.size w w')(X:Nat->Prop):Fr w w' X:=⟨h.size,fun b hb _=>h.block b hb⟩
theorem Fr.kK {r:Option Nat}(h:w.grownBy w' r):Fr w w' (fun b=>r=M b):=⟨h.size,fun b hb hx=>h.block b hb (fun e=>hx e.symm)⟩
theorem Fr.mono {aB:Nat->Prop}(h:Fr w w' X)(hxy:∀b,X b->aB b):Fr w w' aB:=⟨h.1,fun b hb hx=>h.2 b hb (fun e=>hx (hxy b e))⟩
theorem Fr.trans (h:Fr w w1 X)(h2:Fr w1 w2 X):Fr w w2 X:=
 ⟨Nat.le_trans h.1 h2.1,fun b hb hx=>(h2.2 b (Nat.lt_of_lt_of_le hb h.1) hx).trans (h.2 b hb hx)⟩
theorem Fr.refl (w:F)(X:Nat->Prop):Fr w w X:=⟨Nat.le_refl _,fun _ _ _=>rfl⟩
theorem Fr.set (w:F)(a:Addr)(v:Y):Fr w (w.setCell a v) (fun b=>b=a.block):=
 ⟨by simp[World.setCell],fun b _ hx=>Below.heap_setCell _ _ _ _ hx⟩
def PT (w:F)(ao:Option Addr):Prop:=∀a,ao=M a->∃aS,w.heap[a.block]?=M (C aS 114 (0,0))
def yF (w:F)(ao:Option Addr)(l:List (Int×Int)):Prop:=Ec w ao l/\PT w ao
theorem Ec.fr {l:List (Int×Int)}(h:Ec w ao l)(hF:Fr w w' X)(hx:∀a,ao=M a->¬X a.block):Ec w' ao l:=by
 rcases h with rfl|⟨b,off,rfl,hc⟩
 ·left;rfl
 ·refine Or.inr ⟨b,off,rfl,fun i hi=>?_⟩;have hn:=hx _ rfl;obtain⟨h1,h2⟩:=hc i hi;have hb:w'.heap[b]?=w.heap[b]?:=hF.2 b (World.block_lt_of_cell? _ _ h1) hn;exact⟨(World.cell?_of_block (a:=⟨b,off+i*2,O⟩) hb).trans h1,(World.cell?_of_block (a:=⟨b,off+i*2+1,O⟩) hb).trans h2⟩
theorem yF.fr {l:List (Int×Int)}(h:yF w ao l)(hF:Fr w w' X)(hx:∀b aS,w.heap[b]?=M (C aS 114 (0,0))->¬X b):yF w' ao l:=by
 obtain⟨h1,h2⟩:=h;refine⟨h1.fr hF (fun a e=>?_),fun a e=>?_⟩
 ·obtain⟨aS,hc⟩:=h2 a e;exact hx _ _ hc
 ·obtain⟨aS,hc⟩:=h2 a e;exact⟨aS,hF.at hc (hx _ _ hc)⟩
theorem yF.oF {v:Y}{l:List (Int×Int)}(h:gY w B v l):∃ao cap,v=Z ao l.length cap/\yF w ao l/\(ao=O->l.length=0/\cap=0):=by
 have h':=h;obtain⟨-,h2⟩:=h;rcases h2 with⟨rfl,h3⟩|⟨g,cap,aS,rfl,hg,hh,-⟩
 ·exact⟨O,0,by rw[h3],⟨Or.inl (List.eq_nil_of_length_eq_zero h3),(fun _ e=>by cases e)⟩,fun _=>⟨h3,rfl⟩⟩
 ·exact⟨M ⟨g,0,O⟩,cap,rfl,⟨Ec.own h',(fun a e=>by cases e;exact⟨aS,hh⟩)⟩,(fun e=>by cases e)⟩
theorem yF.nil (w:F):yF w O []:=⟨Or.inl rfl,fun _ e=>by cases e⟩
theorem bI {v:Y}(h:w.ownsRow B e size v n xs)(hF:Fr w w' X)(hx:∀g aS,v.ownBlock=M g->w.heap[g]?=M (C aS e (0,0))->¬X g):w'.ownsRow B e size v n xs:=by
 obtain⟨h1,h2⟩:=h;refine⟨h1,?_⟩;rcases h2 with h2|⟨g,cap,aS,rfl,hg,hh,hr⟩
 ·exact Or.inl h2
 ·exact Or.inr ⟨g,cap,aS,rfl,hg,hF.at hh (hx g aS rfl hh),hr⟩
theorem dD.fr {tb:Nat}{l:List (Int×Int)}(t:dD w tb l)(hF:Fr w w' X)(h1:¬X tb)(h2:∀b la ra p h l,w.heap[b]?=M (mG la ra p h l)->¬X b):dD w' tb l:=
 t.keep fun b c e hc=>by
  refine hF.2 b (aM e) ?_;rcases hc with⟨-,rfl⟩|⟨la,ra,p,h,l',rfl⟩
  ·exact h1
  ·exact h2 _ _ _ _ _ _ e
abbrev Rec:=Nat×Nat×Option Addr×Nat×List (Int×Int)
def Rec.sb (r:Rec):Nat:=r.1
def Rec.tb (r:Rec):Nat:=r.2.1
def Rec.l (r:Rec):List (Int×Int):=r.2.2.2.2
def Rec.v (r:Rec):Y:=Z r.2.2.1 r.2.2.2.2.length r.2.2.2.1
def Hz (w:F)(B:Nat)(r:Rec):Prop:=w.heap[r.sb]?=M (ZA r.tb r.v)/\dD w r.tb r.l/\yF w r.2.2.1 r.l/\B<=r.sb/\B<=r.tb
def DR (r s:Rec):Prop:=r.sb≠s.sb/\r.tb≠s.tb
def qF (nP:Y)(n:Int)(vp vm:Y):Obj:=C #[nP,Z O 0 0,I V n,vp,Z O 0 0,vm] 71 (0,0)
def marks (c:Nat):List Int:=(List.range c).map (fun i:Nat=>(i:Int)+1)
abbrev bS:=Option Addr×Nat×Nat
def bS.v (x:bS):Y:=Z x.1 x.2.1 x.2.2
def mk (i:Nat):Int×Int:=(-((i:Int)+1),(i:Int)+1)
def LJ (w:F)(hs:List bS):Prop:=∀i x,hs[i]?=M x->yF w x.1 (List.replicate x.2.1 (mk (i / 4)))/\x.2.1<=9000
def INV (w:F)(B wb:Nat)(rs:List Rec)(c:Nat):Prop:=
 ∃(nP vp vm:Y) (hs:List bS),w.heap[wb]?=M (qF nP (c:Int) vp vm)/\B<=wb
  /\w.ownsRow B 117 1 nP rs.length (rs.map (fun r:Rec=>Value.pointer (M ⟨r.sb,0,O⟩)))
  /\(∀r∈rs,Hz w B r)/\rs.Pairwise DR
  /\w.ownsRow B 102 1 vp hs.length (hs.map bS.v)/\hs.length=4*c/\LJ w hs/\iP w B vm (marks c)
theorem DT {n:Int}(h:w.heap[wb]?=M (qF nP n vp vm)):
 w.cell? ⟨wb,0,O⟩=M nP/\w.cell? ⟨wb,1,O⟩=M (Z O 0 0)/\w.cell? ⟨wb,2,O⟩=M (I V n)/\w.cell? ⟨wb,3,O⟩=M vp/\w.cell? ⟨wb,4,O⟩=M (Z O 0 0)/\w.cell? ⟨wb,5,O⟩=M vm/\∀j,w.frozen? ⟨wb,j,O⟩=false:=by
 simp[World.cell?,World.frozen?,h,qF]
theorem Hz.fr {r:Rec}(h:Hz w B r)(hF:Fr w w' X)(h1:¬X r.sb)(h2:¬X r.tb)(h3:∀b la ra p h l,w.heap[b]?=M (mG la ra p h l)->¬X b)
 (h4:∀b aS,w.heap[b]?=M (C aS 114 (0,0))->¬X b):Hz w' B r:=by
 obtain⟨a1,a2,a3,a4,a5⟩:=h;exact⟨hF.at a1 h1,a2.fr hF h2 h3,a3.fr hF h4,a4,a5⟩
theorem LJ.fr {hs:List bS}(h:LJ w hs)(hF:Fr w w' X)(h4:∀b aS,w.heap[b]?=M (C aS 114 (0,0))->¬X b):LJ w' hs:=
 fun i x e=>⟨(h i x e).1.fr hF h4,(h i x e).2⟩
theorem bX {p:Obj}(h1:w.heap[b]?=M o)(h2:w.heap[b]?=M p)(hne:o≠p):False:=by
 rw[h1]at h2;exact hne (Option.some.inj h2)
theorem gJ {a b:Array Y}{s t:TypeId}{f g:Nat×Nat}(h:s≠t):(Obj.cells a s f)≠(Obj.cells b t g):=by
 intro e;cases e;exact h rfl
theorem INV.below {rs:List Rec}(h:INV w B wb rs c)(hB:Below w.heap.size w w'):INV w' B wb rs c:=by
 obtain⟨nP,vp,vm,hs,h1,h2,h3,h4,h5,h6,h7,h8,h9⟩:=h;have hF:=Fr.cZ hB (fun _=>False);exact⟨nP,vp,vm,hs,hF.at h1 id,h2,bI h3 hF (fun _ _ _ _=>id),fun r hr=>(h4 r hr).fr hF id id (fun _ _ _ _ _ _ _=>id) (fun _ _ _=>id),h5,bI h6 hF (fun _ _ _ _=>id),h7,h8.fr hF (fun _ _ _=>id),bI h9 hF (fun _ _ _ _=>id)⟩
theorem INV.grown {rs:List Rec}{vts':Y}{hs:List bS}{r:Rec}(h4:∀r∈rs,Hz w B r)(h5:rs.Pairwise DR)
 (h6:w.ownsRow B 102 1 vp hs.length (hs.map bS.v))(h7:hs.length=4*c)(h8:LJ w hs)(h9:iP w B vm (marks c))(hwb:w.heap[wb]?=M (qF nP (c:Int) vp vm))(h2:B<=wb)
 (h3:w.ownsRow B 117 1 nP rs.length (rs.map (fun r:Rec=>Value.pointer (M ⟨r.sb,0,O⟩))))
 (hF:Fr w w' (fun b=>b=wb\/nP.ownBlock=M b))(Kt:w'.heap[wb]?=M (qF vts' (c:Int) vp vm))
 (h3':w'.ownsRow B 117 1 vts' (rs.length+1) (rs.map (fun r:Rec=>Value.pointer (M ⟨r.sb,0,O⟩))++ [Value.pointer (M ⟨r.sb,0,O⟩)]))
 (hr:Hz w' B r)(Ul:w.heap.size<=r.sb)(Um:w.heap.size<=r.tb):INV w' B wb (rs++ [r]) c:=by
 have hX:∀b (aS:Array Y) (t:TypeId) (f:Nat×Nat),t≠71->t≠117->w.heap[b]?=M (C aS t f)->¬(b=wb\/nP.ownBlock=M b):=by
  intro b aS t f e1 e2 hb hx;rcases hx with rfl|hx
  ·exact bX hb hwb (gJ e1)
  ·rcases h3.2 with⟨rfl,-⟩|⟨g,cap,tN,rfl,-,hh,-⟩
   ·cases hx
   ·cases hx;exact bX hb hh (gJ e2)
 refine⟨vts',vp,vm,hs,Kt,h2,by simpa using h3',?_,?_,bI h6 hF (fun g aS _ e=>hX _ _ _ _ (by decide) (by decide) e),h7,h8.fr hF (fun b aS e=>hX _ _ _ _ (by decide) (by decide) e),bI h9 hF (fun g aS _ e=>hX _ _ _ _ (by decide) (by decide) e)⟩
 ·intro s Pf;rcases List.mem_append.1 Pf with Pf|Pf
  ·have hi4:=h4 s Pf;have hi5:=hi4;obtain⟨z1,⟨y1,y2,y3,-⟩,-⟩:=hi4;exact hi5.fr hF (hX _ _ _ _ (by decide) (by decide) z1) (hX _ _ _ _ (by decide) (by decide) y3) (fun b la ra p h l e=>hX _ _ _ _ (by decide) (by decide) e) (fun b aS e=>hX _ _ _ _ (by decide) (by decide) e)
  ·simp at Pf;subst Pf;exact hr
 ·rw[List.pairwise_append];refine⟨h5,by simp,fun s Pf t ht=>?_⟩;simp at ht;subst ht;obtain⟨z1,⟨y1,y2,y3,-⟩,-⟩:=h4 s Pf;have e1:=aM z1;have e2:=aM y3;exact⟨by omega,by omega⟩
def Bw (n:Int):List Int:=[n / 16777216,n / 65536 % 256,n / 256 % 256,n % 256]
theorem Qp {n:Int}(h0:0<=n)(h1:n<4294967296):
 H K 171 #[I V n] w fun e w'=>e=G (.string (strOfNums (Bw n)))/\Below w.heap.size w w':=by
 have hcv:=run_convert_bytes_arg (P:=K) (w.alloc (C #[I .u8 (n / 16777216),I .u8 (n / 65536 % 256),I .u8 (n / 256 % 256),I .u8 (n % 256)] 5)) 153 5 Tryz.underlying153 Tryz.underlying5 w.heap.size 0 4 4 (Bw n) rfl (by
  intro i hi;rcases(by omega:i=0\/i=1\/i=2\/i=3)with rfl|rfl|rfl|rfl<;>simp[Bw]) 9 Tryz.underlying9
 go_enter Tryz.func171,Tryz.ntmps171
 go_wp2_with fail
 go_ret;exact⟨rfl,aO _ _⟩
def xV (z:Int):Int:=if bits .and .u32 z 1=1 then bits .xor .u32 (z / 2) 3988292384 else z / 2
def nT:Nat->Int->Int
 |0,z=>z
 |k+1,z=>xV (nT k z)
def uK (z:Int)(b:UInt8):Int:=nT 8 (bits .xor .u32 z (b.toNat:Int))
def sD (l:List UInt8):Int:=l.foldl uK 4294967295
def lG (l:List UInt8):Int:=bits .xor .u32 (sD l) 4294967295
def bN (z:Int):Prop:=0<=z/\z<4294967296
theorem Bz (op:BinOp)(a b:Int):bN (bits op .u32 a b):=by
 have h1:=bits_lo_u32 op a b;have h2:=bits_hi_u32 op a b;unfold bN;omega
theorem X_ {z:Int}(h:bN z):bN (xV z):=by
 unfold xV;split
 ·exact Bz _ _ _
 ·unfold bN at*;omega
theorem xK {z:Int}(h:bN z):∀k,bN (nT k z)
 |0=>h
 |k+1=>X_ (xK h k)
theorem ZB (z:Int)(b:UInt8):bN (uK z b):=xK (Bz _ _ _) 8
theorem DU:∀(l:List UInt8) (z:Int),bN z->bN (l.foldl uK z)
 | [],_,h=>h
 |b::l,z,_=>DU l _ (ZB z b)
theorem Vy (l:List UInt8):bN (sD l):=DU l _ (by unfold bN;omega)
theorem Dm (l:List UInt8):bN (lG l):=Bz _ _ _
theorem Qq {l:List UInt8}(h:k<l.length):sD (l.take (k+1))=uK (sD (l.take k)) l[k]:=by
 unfold sD;rw[List.take_succ_eq_append_getElem h,List.foldl_append];rfl
theorem PZ {s:ByteArray}(h1:s.size<=2000000):
 H K 174 #[.string s] w fun e w'=>e=G (I V (lG s.data.toList))/\w'=w:=by
 have jT:s.data.toList.length=s.size:=by rw[Array.length_toList];rfl
 have HS:Hid (s.data.toList.length=s.size):=jT;clear jT;go_enter Tryz.func174,Tryz.ntmps174
 go_wp2_with fail
 go_loop [3,4] (fun c i=> ∃(k:Nat),k<=s.size/\c=I .u32 (sD (s.data.toList.take k))/\i=I V (k:Int)) (fun _ i=>s.size-(intOf i).toNat)
 case atStart=>exact⟨0,Nat.zero_le _,by rw[List.take_zero];rfl,rfl⟩
 case round=>
  obtain⟨k,hk,rfl,rfl⟩:=hrel;have hu:=Vy (s.data.toList.take k);by_cases bT:k<s.size
  ·have i1:(0:Int)<=(k:Int):=by omega
   have i2:(k:Int)<(s.size:Int):=by omega
   have HT:Hid (sD (s.data.toList.take (k+1))=uK (sD (s.data.toList.take k)) (s.data.toList[k]'(by rw[HS.out];exact bT))):=Qq _;generalize sD (s.data.toList.take k)=z at hu HT
   go_wp2_with fail
   have HB:Hid (uK z (s.data.toList[k]'(by rw[HS.out];exact bT))=nT 8 (bits BinOp.xor IntKind.u32 z ((s[k].toNat:Int) % 4294967296))):=by
    show _=_;unfold uK
    have e1:((s[k].toNat:Int) % 4294967296)=(s[k].toNat:Int):=by
     have:=UInt8.toNat_lt s[k];omega
    rw[e1,Array.getElem_toList];rfl
   have hy0:=Bz BinOp.xor z ((s[k].toNat:Int) % 4294967296);generalize bits BinOp.xor IntKind.u32 z ((s[k].toNat:Int) % 4294967296)=y0 at hy0 HB
   go_loop [3,5] (fun c j=> ∃(t:Nat),t<=8/\c=I .u32 (nT t y0)/\j=I V (t:Int)) (fun _ j=>8-(intOf j).toNat)
   case atStart=>exact⟨0,by omega,rfl,rfl⟩
   case round=>
    obtain⟨t,ht,rfl,rfl⟩:=hrel;have hy:=xK hy0 t;by_cases Un:t<8
    ·have HN:Hid (nT (t+1) y0=xV (nT t y0)):=rfl;generalize nT t y0=y at hy HN;unfold bN at hy;by_cases hb:bits BinOp.and IntKind.u32 y 1=1
     ·have pX:(bits BinOp.and IntKind.u32 y 1==1)=true:=by simp[hb]
      go_wp2_with fail
      go_round
      case rel=>exact⟨t+1,by omega,by rw[HN.out,xV,if_pos hb],by go_num⟩
      case measure=>simp[intOf];omega
     ·have pX:(bits BinOp.and IntKind.u32 y 1==1)=false:=by simp[hb]
      go_wp2_with fail
      go_round
      case rel=>exact⟨t+1,by omega,by rw[HN.out,xV,if_neg hb],by go_num⟩
      case measure=>simp[intOf];omega
    ·have ht8:t=8:=by omega
     subst ht8
     go_wp2_with fail
     go_round
     case rel=>exact⟨k+1,by omega,by rw[HT.out,HB.out],by go_num⟩
     case measure=>simp[intOf];omega
  ·have z_:k=s.size:=by omega
   have ZC:=Dm (s.data.toList.take k);have e1:s.data.toList.take k=s.data.toList:=List.take_of_length_le (by rw[HS.out];omega);rw[e1]at ZC hu ⊢;unfold bN lG at ZC;have e2:IntKind.i64.wrap (bits BinOp.xor IntKind.u32 (sD s.data.toList) 4294967295)=bits BinOp.xor IntKind.u32 (sD s.data.toList) 4294967295:=by rw[IntKind.wrap_i64];omega
   go_wp2_with fail
   go_ret;exact⟨by first|rfl|(simp[lG,e2];done)|(simp[lG,wrap64,e2];omega),rfl⟩
theorem Y_ (x y:Int):∀(l:List (Int×Int)) (k:Nat),k<l.length->((Fu l).set (k*2) (I V x)).set (k*2+1) (I V y)=Fu (l.set k (x,y)):=by
 intro l
 induction l with
 |nil=>intro k h;simp at h
 |cons p l ih=>
  intro k h;cases k with
  |zero=>simp[vP]
  |succ k=>
   have:=ih k (by simpa using h);rw[vP,show(k+1)*2=k*2+1+1 from by omega];simp only[List.set_cons_succ];rw[vP];simpa using this
theorem Z_ (p:Int×Int)(l:List (Int×Int))(k:Nat)(h:k<l.length):(List.replicate k p++l.drop k).set k p=List.replicate (k+1) p++l.drop (k+1):=by
 rw[List.set_append_right _ _ (by simp),List.length_replicate,Nat.sub_self,List.drop_eq_getElem_cons h,List.set_cons_zero,List.replicate_succ',List.append_assoc];rfl
theorem gY.store {g:Nat}{l:List (Int×Int)}(x y:Int)(h:gY w B (Z (M ⟨g,0,O⟩) n cap) l)(hk:k<l.length):
 gY ((w.setCell ⟨g,k*2,O⟩ (I V x)).setCell ⟨g,k*2+1,O⟩ (I V y)) B (Z (M ⟨g,0,O⟩) n cap) (l.set k (x,y)):=by
 have hn:n=l.length:=by
  rcases h.2 with⟨h',-⟩|⟨g',mW,aS,h',-⟩
  ·cases h'
  ·cases h';rfl
 subst hn;have h1:=(World.ownsRow.stored h (k*2) (I V x)).1;have h2:=(World.ownsRow.stored h1 (k*2+1) (I V y)).1;unfold gY;rw[<-Y_ x y l k hk,List.length_set];exact h2
theorem gY.block {l:List (Int×Int)}(h:gY w B (Z ao n cap) l)(hk:k<l.length):
 ∃g aS,ao=M ⟨g,0,O⟩/\B<=g/\w.heap[g]?=M (C aS 114 (0,0))/\w.cell? ⟨g,k*2,O⟩=M (I V (l.getD k (0,0)).1)/\w.cell? ⟨g,k*2+1,O⟩=M (I V (l.getD k (0,0)).2)
  /\w.frozen? ⟨g,k*2,O⟩=false/\w.frozen? ⟨g,k*2+1,O⟩=false:=by
 have h':=h;rcases h.2 with⟨-,h0⟩|⟨g,mW,aS,hv,hg,hh,-⟩
 ·omega
 ·cases hv
  obtain⟨e1,e2⟩:=Yq l k hk;exact⟨g,aS,rfl,hg,hh,(World.ownsRow.cellAt h' (k*2) (by omega)).trans e1,(World.ownsRow.cellAt h' (k*2+1) (by omega)).trans e2,World.ownsRow.frozenAt h' _,World.ownsRow.frozenAt h' _⟩
def ZE (w wr:F)(B wb c:Nat)(nP vp vm:Y)(ao:Option Addr)(l:List (Int×Int))(k:Nat):Prop:=
 wr.heap[wb]?=M (qF nP ((c:Int)+1) vp vm)/\gY wr B (Z ao l.length l.length) (List.replicate k (mk c)++l.drop k)/\Fr w wr (fun b=>b=wb\/∃a,ao=M a/\b=a.block)/\Below B w wr
theorem ZE.start {l:List (Int×Int)}(hw:w.heap[wb]?=M (qF nP (c:Int) vp vm))(hB:B<=wb)(hl:gY w B (Z ao l.length l.length) l):
 ZE w (w.setCell ⟨wb,2,O⟩ (I V ((c:Int)+1))) B wb c nP vp vm ao l 0:=by
 have hF:=Fr.set w ⟨wb,2,O⟩ (I V ((c:Int)+1));have bT:=aM hw;refine⟨?_,?_,hF.mono (fun b h=>Or.inl h),(Below.refl _ _).setCell (p:=⟨wb,2,O⟩) hB _⟩
 ·have:=heap_setCell_same w wb 2 _ _ (I V ((c:Int)+1)) hw;rw[this];rfl
 ·simp only[List.replicate_zero,List.nil_append,List.drop_zero];refine bI hl hF (fun g aS _ e hx=>?_);simp only at hx;subst hx;exact bX e hw (gJ (by decide))
theorem ZE.next {wr:F}{g:Nat}{l:List (Int×Int)}(h:ZE w wr B wb c nP vp vm (M ⟨g,0,O⟩) l k)(hk:k<l.length)(gG:Below wr.heap.size wr w2)(XV:B<=g)
 (hg:∃aS,wr.heap[g]?=M (C aS 114 (0,0))):
 ZE w ((w2.setCell ⟨g,k*2,O⟩ (I V (-((c:Int)+1)))).setCell ⟨g,k*2+1,O⟩ (I V ((c:Int)+1))) B wb c nP vp vm (M ⟨g,0,O⟩) l (k+1):=by
 obtain⟨h1,h2,h3,h4⟩:=h;obtain⟨aS,hg⟩:=hg;have hne:wb≠g:=fun e=>by subst e;exact bX h1 hg (gJ (by decide))
 have B2:Below B w w2:=by
  refine⟨gG.os.trans h4.os,gG.tape.trans h4.tape,gG.output.trans h4.output,Nat.le_trans h4.size gG.size,fun b hb=>?_⟩;exact(gG.block b (by have:=aM hg;omega)).trans (h4.block b hb)
 refine⟨?_,?_,?_,(B2.setCell (p:=⟨g,k*2,O⟩) XV _).setCell (p:=⟨g,k*2+1,O⟩) XV _⟩
 ·rw[Below.heap_setCell _ _ _ _ hne,Below.heap_setCell _ _ _ _ hne,gG.block wb (aM h1)];exact h1
 ·have:=gY.store (k:=k) (-((c:Int)+1)) ((c:Int)+1) (h2.below gG) (by simp;omega);rw[<-Z_ (mk c) l k hk];exact this
 ·refine h3.trans ((Fr.cZ gG _).trans (((Fr.set _ _ _).mono ?_).trans ((Fr.set _ _ _).mono ?_)))
  ·intro b hb;exact Or.inr ⟨_,rfl,hb⟩
  ·intro b hb;exact Or.inr ⟨_,rfl,hb⟩
def aL (w0 w:F):Prop:=Below w0.heap.size w0 w
theorem aL.refl (w:F):aL w w:=Below.refl _ _
theorem aL.drew (h:aL w0 w):aL w0 w.drew:=⟨h.os,h.tape,h.output,h.size,h.block⟩
theorem aL.more (h:aL w0 w)(hb:Below w.heap.size w w'):aL w0 w':=aQ h hb
theorem aL.alloc (h:aL w0 w)(o:Obj):aL w0 (w.alloc o):=aQ h (aO _ _)
theorem aL.cell (h:aL w0 w){a:Addr}{v:Y}(hc:w0.cell? a=M v):w.cell? a=M v:=cell_later h hc
theorem aL.le (h:aL w0 w):w0.heap.size<=w.heap.size:=h.size
theorem gY.aN {v:Y}{l:List (Int×Int)}(h:gY w0 B v l)(hg:aL w0 w):gY w B v l:=h.below hg
theorem Ku {ops:Array Oper}{o:Oper}{a:Act}{aH:Act->F->Prop}{Q:Exit->Act->F->Prop}{E:Prop}(qE:o.guard=O)(s x:Operand)
 (ho:o.op= .call { callee:= .builtin .append,args:=#[s,x],argTypes:=#[60,60] })
 (B:Nat)(v:Y)(zs:List Int)(z:Int)(he:a.eval s=v)(bA:iP w B v zs)(ad:Addr)(m c:Nat)(hx:a.eval x=Z (M ad) m c)(hm:m=1)(hr:w.cell? (ad.add 0)=M (I V z))(hlen:zs.length<=100000000)(iI:B<=w.heap.size)
 (h:∀v' w',iP w' B v' (zs++ [z])->w.grownBy w' v.ownBlock->aH (a.put o.dst v') w'):if Region.wanted o (yielded ops a.tmps)=true then Oper.wp K o a w aH Q else E:=by
 obtain⟨i0,hi,nN,nO,oM⟩:=info_parts Tryz.infoInt;subst hm;refine step_append_lies w qE s x 60 ho B 3 i0 (I V 0) 1 8 Tryz.underlying60 hi nN nO oM rfl (by decide) v zs.length (zs.map (Value.int V)) he bA ad 1 c [I V z] hx rfl ?_ ?_ (by decide) (by unfold maxLen;omega) (by omega) iI w.heap.size rfl ?_
 ·intro j u hj;cases j with
  |zero=>simp at hj;subst hj;exact hr
  |succ j=>simp at hj
 ·intro u hu;simp at hu;subst hu;rfl
 ·intro g cap w' h1 h2 _ _;exact h _ w' (iP.push h1) h2
theorem qG {v:Y}{aS:Array Y}{t:TypeId}{f:Nat×Nat}(h:w.ownsRow B e size v n xs)(hb:w.heap[b]?=M (C aS t f))(hne:e≠t):¬v.ownBlock=M b:=by
 intro hx;rcases h.2 with⟨rfl,-⟩|⟨g,cap,tN,rfl,-,hh,-⟩
 ·cases hx
 ·cases hx;exact bX hh hb (gJ hne)
theorem mY {r:Option Nat}(hg:w.grownBy w' r)(hb:w.heap[b]?=M o)(hne:¬r=M b):w'.heap[b]?=M o:=
 (hg.block b (aM hb) (fun e=>hne e.symm)).trans hb
theorem gY.typed {l:List (Int×Int)}(h:gY w B (Z ao n cap) l):∀a,ao=M a->∃aS,w.heap[a.block]?=M (C aS 114 (0,0))/\B<=a.block:=by
 intro a ha;subst ha;rcases h.2 with⟨h',-⟩|⟨g,mW,aS,hv,hg,hh,-⟩
 ·cases h'
 ·cases hv;exact⟨aS,hh,hg⟩
theorem jC (h:Below B w w1)(hg:aL w1 w2)(hB:B<=w1.heap.size):Below B w w2:=
 ⟨hg.os.trans h.os,hg.tape.trans h.tape,hg.output.trans h.output,Nat.le_trans h.size hg.size,fun b hb=>(hg.block b (by omega)).trans (h.block b hb)⟩
theorem rF {v:Y}(h:w.ownsRow B e size v n xs):∃ao m c,v=Z ao m c:=by
 rcases h.2 with⟨h',-⟩|⟨g,mW,aS,hv,-⟩
 ·exact⟨_,_,_,h'⟩
 ·exact⟨_,_,_,hv⟩
theorem QA (w:F)(cs:Array Y)(l:List (Int×Int))(h:cs.toList=Fu l)(hm:l.length<=maxLen):Ec (w.alloc (C cs 114)) (M ⟨w.heap.size,0,O⟩) l:=by
 have hl:cs.size=l.length*2:=by rw[<-Array.length_toList,h,Fw]
 have:=World.ownsRow_lit (base:=0) (e:=114) (size:=2) w cs l.length (Nat.zero_le _) hm hl;rw[h]at this;exact Ec.own this
end Go.Proofs.YtfplgfodoiiobaaGreatDoor
