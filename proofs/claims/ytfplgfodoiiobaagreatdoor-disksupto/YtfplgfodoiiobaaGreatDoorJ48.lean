/- SwH, SwI, SwJ, TreesS (joined). -/
import Derived.Test.YtfplgfodoiiobaaGreatDoorJ47
open Option renaming none→O,some→M
open Go.Value renaming int→I,slice→Z,pointer→U
open Go.IntKind renaming i64→V
open Go.Obj renaming cells→C
open Go.Ending renaming returned→G
open Go renaming World→F,Value→Y,Calls→H
open Go.Proofs.Tryz renaming prog→K
namespace Go.Proofs.YtfplgfodoiiobaaGreatDoor
set_option maxHeartbeats 4000000
set_option maxRecDepth 100000
open Go.RowKit
variable {w w':F}{B wb c n k cap:Nat}{l:List AF}{vm vp v nP jK vf:Y}{ao:Option Addr}{hs:List bS}{ops:Array Oper}{o:Oper}{a:Act}{Q:Exit->Act->F->Prop}
theorem iC.below (h:iC w B v l)(hg:Below w.heap.size w w'):iC w' B v l:=bI h (Fr.cZ hg (fun _=>False)) (fun _ _ _ _=>id)
theorem iC.aN (h:iC w B v l)(hg:aL w w'):iC w' B v l:=h.below hg
theorem iC.weak {B':Nat}(h:iC w B' v l)(hB:B<=B'):iC w B v l:=Jy h hB
theorem XB (h:c<=2000000):IntKind.i64.wrap (-((c:Int)+1))= -((c:Int)+1):=by rw[IntKind.wrap_i64];omega
theorem Ub (f:AF)(l:List AF):Ea (f::l)=I V f.1:: .string f.2::Ea l:=rfl
theorem acs_set (x:Int)(y:ByteArray):∀(l:List AF) (k:Nat),k<l.length->((Ea l).set (k*2) (I V x)).set (k*2+1) (.string y)=Ea (l.set k (x,y)):=by
 intro l
 induction l with
 |nil=>intro k h;simp at h
 |cons p l ih=>
  intro k h;cases k with
  |zero=>simp[Ub]
  |succ k=>
   have:=ih k (by simpa using h);rw[Ub,show(k+1)*2=k*2+1+1 from by omega];simp only[List.set_cons_succ];rw[Ub];simpa using this
theorem n_ (p:AF)(l:List AF)(k:Nat)(h:k<l.length):(List.replicate k p++l.drop k).set k p=List.replicate (k+1) p++l.drop (k+1):=by
 rw[List.set_append_right _ _ (by simp),List.length_replicate,Nat.sub_self,List.drop_eq_getElem_cons h,List.set_cons_zero,List.replicate_succ',List.append_assoc];rfl
theorem iC.store {g:Nat}(x:Int)(y:ByteArray)(h:iC w B (Z (M ⟨g,0,O⟩) n cap) l)(hk:k<l.length):
 iC ((w.setCell ⟨g,k*2,O⟩ (I V x)).setCell ⟨g,k*2+1,O⟩ (.string y)) B (Z (M ⟨g,0,O⟩) n cap) (l.set k (x,y)):=by
 have hn:n=l.length:=by
  rcases h.2 with⟨h',-⟩|⟨g',mW,aS,h',-⟩
  ·cases h'
  ·cases h';rfl
 subst hn;have h1:=(World.ownsRow.stored h (k*2) (I V x)).1;have h2:=(World.ownsRow.stored h1 (k*2+1) (.string y)).1;unfold iC;rw[<-acs_set x y l k hk,List.length_set];exact h2
theorem iC.block (h:iC w B (Z ao n cap) l)(hk:k<l.length):
 ∃g aS,ao=M ⟨g,0,O⟩/\B<=g/\w.heap[g]?=M (C aS 58 (0,0))/\(∃u,w.cell? ⟨g,k*2,O⟩=M u)/\(∃u,w.cell? ⟨g,k*2+1,O⟩=M u)
  /\w.frozen? ⟨g,k*2,O⟩=false/\w.frozen? ⟨g,k*2+1,O⟩=false:=by
 have h':=h;rcases h.2 with⟨-,h0⟩|⟨g,mW,aS,hv,hg,hh,-⟩
 ·omega
 ·cases hv
  obtain⟨e1,e2⟩:=Qj l k _ (List.getElem?_eq_getElem hk);exact⟨g,aS,rfl,hg,hh,⟨_,(World.ownsRow.cellAt h' (k*2) (by omega)).trans e1⟩,⟨_,(World.ownsRow.cellAt h' (k*2+1) (by omega)).trans e2⟩,World.ownsRow.frozenAt h' _,World.ownsRow.frozenAt h' _⟩
def Uc (w wr:F)(B wb c:Nat)(nP vp vm:Y)(ao:Option Addr)(l:List AF)(k:Nat):Prop:=
 wr.heap[wb]?=M (iU nP ((c:Int)+1) vp vm)/\iC wr B (Z ao l.length l.length) (List.replicate k (tJ c)++l.drop k)/\Fr w wr (fun b=>b=wb\/∃a,ao=M a/\b=a.block)/\Below B w wr
theorem Uc.start (hw:w.heap[wb]?=M (iU nP (c:Int) vp vm))(hB:B<=wb)(hl:iC w B (Z ao l.length l.length) l):
 Uc w (w.setCell ⟨wb,2,O⟩ (I V ((c:Int)+1))) B wb c nP vp vm ao l 0:=by
 have hF:=Fr.set w ⟨wb,2,O⟩ (I V ((c:Int)+1));have bT:=aM hw;refine⟨?_,?_,hF.mono (fun b h=>Or.inl h),(Below.refl _ _).setCell (p:=⟨wb,2,O⟩) hB _⟩
 ·have:=heap_setCell_same w wb 2 _ _ (I V ((c:Int)+1)) hw;rw[this];rfl
 ·simp only[List.replicate_zero,List.nil_append,List.drop_zero];refine bI hl hF (fun g aS _ e hx=>?_);simp only at hx;subst hx;exact bX e hw (gJ (by decide))
theorem Uc.next {wr w2:F}{g:Nat}(h:Uc w wr B wb c nP vp vm (M ⟨g,0,O⟩) l k)(hk:k<l.length)(gG:Below wr.heap.size wr w2)(XV:B<=g)
 (hg:∃aS,wr.heap[g]?=M (C aS 58 (0,0))):
 Uc w ((w2.setCell ⟨g,k*2,O⟩ (I V (-((c:Int)+1)))).setCell ⟨g,k*2+1,O⟩ (.string sV)) B wb c nP vp vm (M ⟨g,0,O⟩) l (k+1):=by
 obtain⟨h1,h2,h3,h4⟩:=h;obtain⟨aS,hg⟩:=hg;have hne:wb≠g:=fun e=>by subst e;exact bX h1 hg (gJ (by decide))
 have B2:Below B w w2:=by
  refine⟨gG.os.trans h4.os,gG.tape.trans h4.tape,gG.output.trans h4.output,Nat.le_trans h4.size gG.size,fun b hb=>?_⟩;exact(gG.block b (by have:=aM hg;omega)).trans (h4.block b hb)
 refine⟨?_,?_,?_,(B2.setCell (p:=⟨g,k*2,O⟩) XV _).setCell (p:=⟨g,k*2+1,O⟩) XV _⟩
 ·rw[Below.heap_setCell _ _ _ _ hne,Below.heap_setCell _ _ _ _ hne,gG.block wb (aM h1)];exact h1
 ·have:=iC.store (k:=k) (-((c:Int)+1)) sV (h2.below gG) (by simp;omega);rw[<-n_ (tJ c) l k hk];exact this
 ·refine h3.trans ((Fr.cZ gG _).trans (((Fr.set _ _ _).mono ?_).trans ((Fr.set _ _ _).mono ?_)))
  ·intro b hb;exact Or.inr ⟨_,rfl,hb⟩
  ·intro b hb;exact Or.inr ⟨_,rfl,hb⟩
theorem Vq {rest:List Oper}(qE:o.guard=O)(s x:Operand)
 (ho:o.op= .call { callee:= .builtin .append,args:=#[s,x],argTypes:=#[54,54] })
 (B:Nat)(ao:Option Addr)(n:Nat)(ys zs:List AF)(hn:n=ys.length)(hs:a.eval s=Z ao n n)(bA:iC w B (Z ao n n) ys)(xb m c:Nat)(hx:a.eval x=Z (M ⟨xb,0,O⟩) m c)(hm:m=zs.length)(hr:yS w (M ⟨xb,0,O⟩) zs)
 (h0:0<zs.length)(hlen:ys.length+zs.length<=1000000000)(iI:B<=w.heap.size)
 (h:∀v' w',iC w' B v' (ys++zs)->Below w.heap.size w w'->wpList K ops Q rest (a.put o.dst v') w'):wpList K ops Q (o::rest) a w:=by
 obtain⟨i0,hi,nN,nO,oM⟩:=info_parts Tryz.infoAF;subst hm hn;obtain⟨Eu,mW,e1,e2,-,-,e3⟩:=iC.rdh bA;cases e1
 have e3:ao=O->ys.length=0/\ys.length=0:=fun e=>by obtain⟨q,-⟩:=e3 e;rw[q];exact⟨rfl,rfl⟩
 refine wpList_append_grows w qE s x 54 ho 58 i0 (.agg #[I V 0,.string ⟨#[]⟩]) 2 24 Tryz.underlying54 hi nN nO oM rfl (by decide) ao ys.length ys.length (Ea ys) hs e3 (pJ ys) ?_ ⟨xb,0,O⟩ zs.length c (Ea zs) hx (pJ zs) ?_ ?_ (by omega) (by unfold maxLen;omega) (by omega) ?_
 ·intro b hb;subst hb;exact yS.cells e2.1
 ·exact yS.cells hr
 ·intro u hu;obtain⟨p,-,hp⟩:=List.mem_flatMap.1 hu;simp[AFc]at hp;rcases hp with rfl|rfl<;>rfl
 ·intro v' w' h1 h2;refine h v' w' ?_ ⟨h2.os,h2.tape,h2.output,h2.size,fun k hk=>h2.block k hk (by simp)⟩;refine iC.weak (B':=w.heap.size) ?_ iI;unfold iC;rw[Ai,List.length_append];exact h1
theorem Be {aH:Act->F->Prop}{E:Prop}(qE:o.guard=O)(s x:Operand)
 (ho:o.op= .call { callee:= .builtin .append,args:=#[s,x],argTypes:=#[54,54] })
 (B:Nat)(ao:Option Addr)(n:Nat)(ys zs:List AF)(hn:n=ys.length)(hs:a.eval s=Z ao n n)(bA:iC w B (Z ao n n) ys)(xb m c:Nat)(hx:a.eval x=Z (M ⟨xb,0,O⟩) m c)(hm:m=zs.length)(hr:yS w (M ⟨xb,0,O⟩) zs)
 (h0:0<zs.length)(hlen:ys.length+zs.length<=1000000000)(iI:B<=w.heap.size)
 (h:∀v' w',iC w' B v' (ys++zs)->Below w.heap.size w w'->aH (a.put o.dst v') w'):if Region.wanted o (yielded ops a.tmps)=true then Oper.wp K o a w aH Q else E:=by
 obtain⟨i0,hi,nN,nO,oM⟩:=info_parts Tryz.infoAF;subst hm hn;obtain⟨Eu,mW,e1,e2,-,-,e3⟩:=iC.rdh bA;cases e1
 have e3:ao=O->ys.length=0/\ys.length=0:=fun e=>by obtain⟨q,-⟩:=e3 e;rw[q];exact⟨rfl,rfl⟩
 refine step_append_grows qE s x 54 ho 58 i0 (.agg #[I V 0,.string ⟨#[]⟩]) 2 24 Tryz.underlying54 hi nN nO oM rfl (by decide) ao ys.length ys.length (Ea ys) hs e3 (pJ ys) ?_ ⟨xb,0,O⟩ zs.length c (Ea zs) hx (pJ zs) ?_ ?_ (by omega) (by unfold maxLen;omega) (by omega) ?_
 ·intro b hb;subst hb;exact yS.cells e2.1
 ·exact yS.cells hr
 ·intro u hu;obtain⟨p,-,hp⟩:=List.mem_flatMap.1 hu;simp[AFc]at hp;rcases hp with rfl|rfl<;>rfl
 ·intro v' w' h1 h2;refine h v' w' ?_ ⟨h2.os,h2.tape,h2.output,h2.size,fun k hk=>h2.block k hk (by simp)⟩;refine iC.weak (B':=w.heap.size) ?_ iI;unfold iC;rw[Ai,List.length_append];exact h1
theorem Tryz.infoFSl:(Tryz.prog.info? 54).map (fun i=>(i.zero,i.size,i.bytes))=M (M (Z O 0 0),1,24):=by kernel_rfl
theorem Mq {rest:List Oper}(qE:o.guard=O)(s x:Operand)
 (ho:o.op= .call { callee:= .builtin .append,args:=#[s,x],argTypes:=#[67,67] })
 (B:Nat)(v:Y)(hs news:List bS)(he:a.eval s=v)(bA:w.ownsRow B 54 1 v hs.length (hs.map bS.v))(ad:Addr)(m c:Nat)(hx:a.eval x=Z (M ad) m c)(hm:m=news.length)
 (hr:∀j u,(news.map bS.v)[j]?=M u->w.cell? (ad.add j)=M u)(hlen:hs.length+news.length<=1000000000)(iI:B<=w.heap.size)
 (h:∀v' w',w'.ownsRow B 54 1 v' (hs++news).length ((hs++news).map bS.v)->w.grownBy w' v.ownBlock->wpList K ops Q rest (a.put o.dst v') w'):wpList K ops Q (o::rest) a w:=by
 obtain⟨i0,hi,nN,nO,oM⟩:=info_parts Tryz.infoFSl;subst hm;refine wpList_append_own w qE s x 67 ho B 54 i0 (Z O 0 0) 1 24 Tryz.underlying67 hi nN nO oM rfl (by decide) v hs.length (hs.map bS.v) he bA ad news.length c (news.map bS.v) hx (by simp) hr ?_ (by unfold maxLen;omega) (by omega) iI ?_
 ·intro u hu;obtain⟨y,-,rfl⟩:=List.mem_map.1 hu;rfl
 ·intro v' w' h1 h2 _;refine h v' w' ?_ h2;rw[List.map_append,List.length_append];exact h1
theorem JW {n:Int}(h:w.heap[wb]?=M (iU nP n vp vm)):(w.setCell ⟨wb,4,O⟩ v).heap[wb]?=M (iU nP n v vm):=by
 rw[heap_setCell_same w wb 4 _ _ v h];rfl
theorem JX {n:Int}(h:w.heap[wb]?=M (iU nP n vp vm)):(w.setCell ⟨wb,5,O⟩ v).heap[wb]?=M (iU nP n vp v):=by
 rw[heap_setCell_same w wb 5 _ _ v h];rfl
theorem iC.typed (h:iC w B (Z ao n cap) l):∀a,ao=M a->∃aS,w.heap[a.block]?=M (C aS 58 (0,0))/\B<=a.block:=by
 intro a ha;subst ha;rcases h.2 with⟨h',-⟩|⟨g,mW,aS,hv,hg,hh,-⟩
 ·cases h'
 ·cases hv;exact⟨aS,hh,hg⟩
theorem BJ (w:F)(cs:Array Y)(l:List AF)(h:cs.toList=Ea l)(hm:l.length<=maxLen):yS (w.alloc (C cs 58)) (M ⟨w.heap.size,0,O⟩) l:=by
 have hl:cs.size=l.length*2:=by rw[<-Array.length_toList,h,pJ]
 have:=World.ownsRow_lit (base:=0) (e:=58) (size:=2) w cs l.length (Nat.zero_le _) hm hl;rw[h]at this;obtain⟨ao,cap,e,rd,-⟩:=iC.rdh this;cases e
 exact rd.1
theorem Qi.oF (h:iC w B v l):∃ao cap,v=Z ao l.length cap/\Qi w ao l/\(ao=O->l.length=0/\cap=0):=by
 obtain⟨ao,cap,e,rd,-,-,e3⟩:=iC.rdh h;exact⟨ao,cap,e,rd,fun q=>by obtain⟨q1,q2⟩:=e3 q;rw[q1];exact⟨rfl,q2⟩⟩
def Ud (w w':F)(B wb c:Nat)(nP vp vm:Y)(hs:List bS)(ao:Option Addr):Prop:=
 ∃(TM Ux:Y) (h4:List bS),h4.length=4/\w'.heap[wb]?=M (iU nP ((c:Int)+1) TM Ux)/\w'.ownsRow B 54 1 TM (hs++h4).length ((hs++h4).map bS.v)/\iP w' B Ux (nK (c+1))
  /\(∀x∈h4,Qi w' x.1 (List.replicate x.2.1 (tJ c))/\x.2.1<=9000)/\Fr w w' (fun b=>b=wb\/(∃a,ao=M a/\b=a.block)\/vp.ownBlock=M b\/vm.ownBlock=M b)/\Below B w w'
theorem Qi.fr' {X:Nat->Prop}(h:Qi w ao l)(hF:Fr w w' X)(hx:∀b aS,w.heap[b]?=M (C aS 58 (0,0))->¬X b):Qi w' ao l:=h.fr hF (fun a e=>by obtain⟨aS,hc⟩:=h.2 a e;exact hx _ _ hc)
theorem XC {wc w7 w8:F}{p0 p5 p6 p7 n9 c9:Nat}{v8:Y}{a5 a6 a7 x9:Option Addr}{o:Obj}
 (hFd:Fr w wc (fun b=>b=wb\/∃a,ao=M a/\b=a.block))(_BD:Below B w wc)(F7:Fr wc w7 (fun b=>b=wb\/vp.ownBlock=M b))(B7:Below B w w7)(N_:wc.heap[wb]?=M (iU nP ((c:Int)+1) vp vm))
 (hpd:wc.ownsRow B 54 1 vp hs.length (hs.map bS.v))(Zd:iP w7 B vm (nK c))(hw7:w7.heap[wb]?=M (iU nP ((c:Int)+1) v8 vm))
 (Fa:w7.ownsRow B 54 1 v8 (hs++ [(ao,n,p0),(a5,n+1,p5),(a6,n+2,p6),(a7,n+3,p7)]).length ((hs++ [(ao,n,p0),(a5,n+1,p5),(a6,n+2,p6),(a7,n+3,p7)]).map bS.v))
 (ou:w8.heap[wb]?=M (iU nP ((c:Int)+1) v8 vm))(Pb:(w7.alloc o).grownBy w8 vm.ownBlock)(BL:iP w8 B (Z x9 n9 c9) (nK c++ [-((c:Int)+1)]))
 (rd0:Qi wc ao (List.replicate n (tJ c)))(rd5:Qi wc a5 (List.replicate n (tJ c)++ [tJ c]))(rd6:Qi wc a6 (List.replicate n (tJ c)++ [tJ c,tJ c]))(rd7:Qi wc a7 (List.replicate n (tJ c)++ [tJ c,tJ c,tJ c]))(hlen:n<=8000)(hBw:B<=wb):
 Ud w (w8.setCell ⟨wb,5,O⟩ (Z x9 n9 c9)) B wb c nP vp vm hs ao:=by
 have hlt7:=aM hw7
 have F8:Fr w7 (w8.setCell ⟨wb,5,O⟩ (Z x9 n9 c9)) (fun b=>b=wb\/vm.ownBlock=M b):=
  ((Fr.cZ (aO _ _) _).trans ((Fr.kK Pb).mono (fun b h=>Or.inr h))).trans ((Fr.set _ _ _).mono (fun b h=>Or.inl h))
 have hB:B<=w7.heap.size:=by
  rcases Fa.2 with⟨-,h⟩|⟨g,cap,aS,-,hg,hh,-⟩
  ·simp at h
  ·have:=aM hh;omega
 have hX7:∀b (aS:Array Y) (t:TypeId) (f:Nat×Nat),t≠71->t≠54->wc.heap[b]?=M (C aS t f)->¬(b=wb\/vp.ownBlock=M b):=by
  intro b aS t f e1 e2 hb hx;rcases hx with rfl|hx
  ·exact bX hb N_ (gJ e1)
  ·exact qG hpd hb (Ne.symm e2) hx
 have hX8:∀b (aS:Array Y) (t:TypeId) (f:Nat×Nat),t≠71->t≠3->w7.heap[b]?=M (C aS t f)->¬(b=wb\/vm.ownBlock=M b):=by
  intro b aS t f e1 e2 hb hx;rcases hx with rfl|hx
  ·exact bX hb hw7 (gJ e1)
  ·exact qG Zd hb (Ne.symm e2) hx
 have rdf:∀ {x:Option Addr} {l:List AF},Qi wc x l->Qi (w8.setCell ⟨wb,5,O⟩ (Z x9 n9 c9)) x l:=fun h=>
  (h.fr' F7 (fun b aS e=>hX7 _ _ _ _ (by decide) (by decide) e)).fr' F8 (fun b aS e=>hX8 _ _ _ _ (by decide) (by decide) e)
 have e1:List.replicate n (tJ c)++ [tJ c]=List.replicate (n+1) (tJ c):=by rw[List.replicate_succ']
 have e2:List.replicate n (tJ c)++ [tJ c,tJ c]=List.replicate (n+2) (tJ c):=by rw[List.replicate_succ',List.replicate_succ',List.append_assoc];rfl
 have e3:List.replicate n (tJ c)++ [tJ c,tJ c,tJ c]=List.replicate (n+3) (tJ c):=by rw[List.replicate_succ',List.replicate_succ',List.replicate_succ',List.append_assoc,List.append_assoc];rfl
 refine⟨v8,Z x9 n9 c9,_,rfl,JX ou,bI Fa F8 (fun g aS _ e=>hX8 _ _ _ _ (by decide) (by decide) e),?_,?_,?_,?_⟩
 ·rw[JR];exact bI BL (Fr.set w8 ⟨wb,5,O⟩ (Z x9 n9 c9)) (fun g aS _ e hx=>by simp only at hx;subst hx;exact bX e ou (gJ (by decide)))
 ·intro x hx;simp only[List.mem_cons,List.not_mem_nil,or_false]at hx;rcases hx with rfl|rfl|rfl|rfl
  ·exact⟨rdf rd0,by simp only;omega⟩
  ·exact⟨rdf (e1 ▸ rd5),by simp only;omega⟩
  ·exact⟨rdf (e2 ▸ rd6),by simp only;omega⟩
  ·exact⟨rdf (e3 ▸ rd7),by simp only;omega⟩
 ·refine(hFd.mono ?_).trans ((F7.mono ?_).trans (F8.mono ?_))
  ·rintro b (h|h)
   ·exact Or.inl h
   ·exact Or.inr (Or.inl h)
  ·rintro b (h|h)
   ·exact Or.inl h
   ·exact Or.inr (Or.inr (Or.inl h))
  ·rintro b (h|h)
   ·exact Or.inl h
   ·exact Or.inr (Or.inr (Or.inr h))
 ·have h1:=(jC B7 (aO _ _) hB).grown Pb (by simp;omega) (fun k e=>(World.ownsRow.lt Zd k e).1);exact h1.setCell (p:=⟨wb,5,O⟩) hBw _
theorem OY 
 (hw:w.heap[wb]?=M (iU nP (c:Int) vp vm))(hB:B<=wb)(hp:w.ownsRow B 54 1 vp hs.length (hs.map bS.v))(hsl:hs.length=4*c)(hm:iP w B vm (nK c))
 (hl:iC w B (Z ao l.length l.length) l)(hc:c<=2000000)(hlen:l.length<=8000):
 H K 110 #[U (M ⟨wb,2,O⟩),Z ao l.length l.length] w fun e w'=>e=G (.tuple #[])/\Ud w w' B wb c nP vp vm hs ao:=by
 obtain⟨k0,k1,k2,k3,k4,k5,kf⟩:=cK hw;have f2:=kf 2;have HW:Hid (w.heap[wb]?=M (iU nP (c:Int) vp vm)):=hw;clear hw kf;go_enter Tryz.func110,Tryz.ntmps110
 go_wp2_with fail
 go_loopw [4] (fun i wr=> ∃k:Nat,k<=l.length/\i=I V (k:Int)/\Uc w wr B wb c nP vp vm ao l k) (fun i _=>l.length-(intOf i).toNat)
 case atStart=>exact⟨0,Nat.zero_le _,rfl,Uc.start HW.out hB hl⟩
 case round=>
  obtain⟨k,hk,rfl,hR⟩:=hrel;obtain⟨-,-,j2,-,-,-,-⟩:=cK hR.1;by_cases bT:k<l.length
  ·obtain⟨g,aS,rfl,iH,kJ,-⟩:=hR.2.1.block (k:=k) (by simp;omega);have i1:(0:Int)<=(k:Int):=by omega
   have i2:(k:Int)<(l.length:Int):=by omega
   clear k0 k1 k2 k3 k4 k5 f2 hp hm hl
   go_wp2_with fail
   refine(zD (by omega) (by omega)).mono ?_;rintro e w2 ⟨rfl,gG⟩;obtain⟨g',tN,e1,-,-,⟨q1,m1⟩,⟨q2,m2⟩,m3,m4⟩:=(iC.below hR.2.1 gG).block (k:=k) (by simp;omega);cases e1
   go_wp2_with fail
   go_roundw
   case rel=>exact⟨k+1,by omega,by go_num,hR.next bT gG iH ⟨aS,kJ⟩⟩
   case measure=>simp[intOf];omega
  ·have Wi:k=l.length:=by omega
   subst Wi;obtain⟨hR1,Az,EN,hR4⟩:=hR;obtain⟨j0,j1,j2,j3,j4,j5,jf⟩:=cK hR1;have f3:=jf 4;have f5:=jf 5;have Xv:Hid (wr.heap[wb]?=M (iU nP ((c:Int)+1) vp vm)):=hR1;have XD:iC wr B (Z ao l.length l.length) (List.replicate l.length (tJ c)):=by simpa using Az
   have HL:Hid (iC w B (Z ao l.length l.length) l):=hl;clear k0 k1 k2 k3 k4 k5 f2 hR1 Az jf hl j0 j1 j3
   go_wp2_with fail
   refine(zD (by omega) (by omega)).mono ?_;rintro e w2 ⟨rfl,gG⟩;have hBw:B<=w2.heap.size:=by have:=gG.size;have:=aM Xv.out;omega
   go_upto_region 6 with(at_builtin;go_must (refine Vq (by rfl) (.tmp 29) (.tmp 35) (by rfl) B _ l.length (List.replicate l.length (tJ c)) [tJ c] (by simp) (by rfl) (by exact(XD.below gG).below (aO _ _)) _ _ _ (by rfl) (by rfl) (by exact BJ w2 #[I V (-((c:Int)+1)),.string sV] [tJ c] rfl (by simp[maxLen])) (by simp) (by simp;omega) (by simp;omega) ?_);intro v5 w3 cO pY)
   have G3:aL wr w3:=aQ (aQ gG (aO _ _)) pY;have own3:iC w3 B (Z ao l.length l.length) (List.replicate l.length (tJ c)):=XD.below G3;have l2:w3.cell? ⟨wb,2,O⟩=M (I V ((c:Int)+1)):=G3.cell j2;have Ej:B<=w3.heap.size:=Nat.le_trans hBw (by have:=pY.size;simp at this;omega)
   go_cut [6] (fun v wc=>iC wc B v (List.replicate l.length (tJ c)++ [tJ c,tJ c])/\aL w3 wc)
   case first=>
    have g3:=aL.refl w3;clear hp hm XD cO
    go_region_held3 (fun w'=>w'.cell? ⟨wb,2,O⟩=M (I V ((c:Int)+1))/\aL w3 w')
     (first|(go_split_ands;refine⟨?_,?_⟩<;>first|assumption|go_keep|(exact cell_later (by assumption) (by assumption))|(exact aL.drew (by assumption))|(exact aL.alloc (by assumption) _)|(exact aL.more (by assumption) (by assumption))))
     (first|(go_at_call 75;refine(zD (by omega) (by omega)).mono ?_;rintro e w4 ⟨rfl,KS⟩)|(refine Be (by rfl) (.tmp 37) (.tmp 48) (by rfl) B _ l.length (List.replicate l.length (tJ c)) [tJ c,tJ c] (by simp) (by rfl) (by go_split_ands;exact own3.aN (by assumption)) _ _ _ (by rfl) (by rfl) (by exact BJ _ #[I V (-((c:Int)+1)),.string sV,I V (-((c:Int)+1)),.string sV] [tJ c,tJ c] rfl (by simp[maxLen])) (by simp) (by simp;omega) (by go_split_ands;exact Nat.le_trans Ej (aL.le (by assumption))) ?_;intro v6 w5 mJ yG))
    all_goals go_wp2_with fail
    all_goals go_meet
    all_goals exact⟨mJ,by go_split_ands;assumption⟩
   case rest=>
    rename F=>w4
    obtain⟨mJ,G4⟩:=hcut;have own4:=own3.aN G4;have m2:=G4.cell l2;have YL:B<=w4.heap.size:=Nat.le_trans Ej G4.le
    go_upto_region 7 with fail
    go_cut [7] (fun v wd=>iC wd B v (List.replicate l.length (tJ c)++ [tJ c,tJ c,tJ c])/\aL w4 wd)
    case first=>
     have g4:=aL.refl w4;clear hp hm XD own3 cO mJ G4 G3 l2
     go_region_held3 (fun w'=>w'.cell? ⟨wb,2,O⟩=M (I V ((c:Int)+1))/\aL w4 w')
      (first|(go_split_ands;refine⟨?_,?_⟩<;>first|assumption|go_keep|(exact cell_later (by assumption) (by assumption))|(exact aL.drew (by assumption))|(exact aL.alloc (by assumption) _)|(exact aL.more (by assumption) (by assumption))))
      (first|(go_at_call 75;refine(zD (by omega) (by omega)).mono ?_;rintro e w5 ⟨rfl,KS⟩)|(refine Be (by rfl) (.tmp 50) (.tmp 66) (by rfl) B _ l.length (List.replicate l.length (tJ c)) [tJ c,tJ c,tJ c] (by simp) (by rfl) (by go_split_ands;exact own4.aN (by assumption)) _ _ _ (by rfl) (by rfl) (by exact BJ _ #[I V (-((c:Int)+1)),.string sV,I V (-((c:Int)+1)),.string sV,I V (-((c:Int)+1)),.string sV] [tJ c,tJ c,tJ c] rfl (by simp[maxLen])) (by simp) (by simp;omega) (by go_split_ands;exact Nat.le_trans YL (aL.le (by assumption))) ?_;intro v6 w6 mJ yG))
     all_goals go_wp2_with fail
     all_goals go_meet
     all_goals exact⟨mJ,by go_split_ands;assumption⟩
    case rest=>
     obtain⟨yM,G5⟩:=hcut;have GR:aL wr wc:=aQ (aQ G3 G4) G5
     have hX:∀b (aS:Array Y) (t:TypeId) (f:Nat×Nat),t≠71->t≠58->w.heap[b]?=M (C aS t f)->¬(b=wb\/∃a,ao=M a/\b=a.block):=by
      intro b aS t f e1 e2 hb hx;rcases hx with rfl|⟨a,rfl,rfl⟩
      ·exact bX hb HW.out (gJ e1)
      ·obtain⟨tN,YA,-⟩:=HL.out.typed _ rfl;exact bX hb YA (gJ e2)
     have hFd:Fr w wc (fun b=>b=wb\/∃a,ao=M a/\b=a.block):=EN.trans (Fr.cZ GR _);have N_:wc.heap[wb]?=M (iU nP ((c:Int)+1) vp vm):=(Fr.cZ GR (fun _=>False)).at Xv.out id;have hpd:=bI hp hFd (fun g aS _ e=>hX _ _ _ _ (by decide) (by decide) e);have hmd:iP wc B vm (nK c):=bI hm hFd (fun g aS _ e=>hX _ _ _ _ (by decide) (by decide) e);have BD:Below B w wc:=jC hR4 GR (Nat.le_trans hB (Nat.le_of_lt (aM Xv.out)));obtain⟨a0,p0,e0,rd0,-⟩:=Qi.oF (XD.aN GR);obtain rfl:ao=a0:=by injection e0
     obtain⟨a5,p5,rfl,rd5,-⟩:=Qi.oF (cO.aN (aQ G4 G5));obtain⟨a6,p6,rfl,rd6,-⟩:=Qi.oF (mJ.aN G5);obtain⟨a7,p7,rfl,rd7,-⟩:=Qi.oF yM;have hnvp:¬vp.ownBlock=M wb:=qG hpd N_ (by decide);have hnvm:¬vm.ownBlock=M wb:=qG hmd N_ (by decide);have hwa:∀o,(wc.alloc o).heap[wb]?=M (iU nP ((c:Int)+1) vp vm):=fun o=>(Below.heap_alloc _ _ _ (aM N_)).trans N_
     have hBd:B<=wc.heap.size:=by have:=aM N_;omega
     obtain⟨-,-,d2,-,d3,d5,-⟩:=cK N_;clear G3 G4 G5 XD own3 own4 cO mJ yM gG pY j2 j4 j5 f3 f5 l2 m2 hp hm EN hR4
     go_upto_region 9 with(at_builtin;go_must (refine Mq (by rfl) (.tmp 72) (.tmp 77) (by rfl) B _ hs [(ao,_,_),(a5,_,p5),(a6,_,p6),(a7,_,p7)] (by rfl) (by exact World.ownsRow.alloc hpd _) _ _ _ (by rfl) (by rfl) (by exact World.news_of_block (heap_alloc_new wc _)) (by simp;omega) (by simp;omega) ?_);intro TM w6 Cg FK;obtain⟨x8,n8,c8,rfl⟩:=rF Cg;have hw6:=mY FK (hwa _) hnvp;obtain⟨-,-,-,-,z3,-,zf⟩:=cK hw6;have zf3:=zf 4;clear zf)
     have hw7:=JW (v:=Z x8 n8 c8) hw6
     have F7:Fr wc (w6.setCell ⟨wb,4,O⟩ (Z x8 n8 c8)) (fun b=>b=wb\/vp.ownBlock=M b):=
      ((Fr.cZ (aO _ _) _).trans ((Fr.kK FK).mono (fun b h=>Or.inr h))).trans ((Fr.set _ _ _).mono (fun b h=>Or.inl h))
     have B7:Below B w (w6.setCell ⟨wb,4,O⟩ (Z x8 n8 c8)):=
      ((jC BD (aO _ _) hBd).grown FK (by simp;omega) (fun k e=>(World.ownsRow.lt hpd k e).1)).setCell (p:=⟨wb,4,O⟩) hB _
     have Fa:=bI Cg (Fr.set w6 ⟨wb,4,O⟩ (Z x8 n8 c8)) (fun g aS _ e hx=>by simp only at hx;subst hx;exact bX e hw6 (gJ (by decide)));clear hw6 z3 zf3 Cg FK;generalize w6.setCell ⟨wb,4,O⟩ (Z x8 n8 c8)=w7 at*;obtain⟨-,-,y2,-,-,y5,yf⟩:=cK hw7;have yf5:=yf 5
     have Zd:iP w7 B vm (nK c):=bI hmd F7 (fun g aS e1 e hx=>by
      rcases hx with rfl|hx
      ·exact bX e N_ (gJ (by decide))
      ·exact qG hpd e (by decide) hx)
     have hpd':=hpd;clear yf d2 d3 d5 hpd hmd;have hwa7:∀o,(w7.alloc o).heap[wb]?=M (iU nP ((c:Int)+1) (Z x8 n8 c8) vm):=fun o=>(Below.heap_alloc _ _ _ (aM hw7)).trans hw7
     have hlt7:=aM hw7
     go_region_law ((refine Ku (by rfl) (.tmp 85) (.tmp 91) (by rfl) B vm (nK c) (-((c:Int)+1)) (by rfl) (by exact World.ownsRow.alloc Zd _) _ _ _ (by rfl) (by rfl) (by simp[Addr.add,XB hc]) (by rw[rY];omega) (by simp;omega) ?_;intro Ux w8 BL Pb;obtain⟨x9,n9,c9,rfl⟩:=rF BL;have ou:=mY Pb (hwa7 _) hnvm;obtain⟨-,-,x2,-,-,x5,xf⟩:=cK ou;have xf5:=xf 5;clear xf))
     all_goals go_wp2_with fail
     all_goals go_end0
     all_goals exact⟨rfl,XC hFd BD F7 B7 N_ hpd' Zd hw7 Fa ou ⟨Pb.os,Pb.tape,Pb.output,Pb.size,Pb.block⟩ BL rd0 rd5 rd6 rd7 hlen hB⟩
theorem JY (hp:w.ownsRow B 54 1 vp hs.length (hs.map bS.v)):
 ∃ao cap,vp=Z ao hs.length cap/\∀i x,hs[i]?=M x->∃g,ao=M ⟨g,0,O⟩/\w.cell? ⟨g,i,O⟩=M (Z x.1 x.2.1 x.2.2):=by
 have hp':=hp;rcases hp.2 with⟨rfl,h0⟩|⟨g,cap,aS,rfl,hg,hh,-⟩
 ·refine⟨O,0,by rw[h0],fun i x e=>?_⟩;have:=(List.getElem?_eq_some_iff.1 e).1;omega
 ·refine⟨_,cap,rfl,fun i x e=>⟨g,rfl,?_⟩⟩;have:=(List.getElem?_eq_some_iff.1 e).1;rw[World.ownsRow.cellAt hp' i (by omega),List.getElem?_map,e];rfl
theorem XE (h:k<=2000000):H K 75 #[I V (IntKind.i64.wrap ((k:Int)+1))] w fun e w'=>e=G (.agg #[I V (-((k:Int)+1)),.string sV])/\aL w w':=by
 have e:IntKind.i64.wrap ((k:Int)+1)=(k:Int)+1:=by rw[IntKind.wrap_i64];omega
 rw[e];exact zD (by omega) (by omega)
theorem Oc {n:Int}
 (hw:w.heap[wb]?=M (iU jK n vf vm))(hp:w.ownsRow B 54 1 vf hs.length (hs.map bS.v))(hsl:hs.length=4*c)(hh:Yl w hs)(hm:iP w B vm (nK c))(hc:c<=2000000):
 H K 38 #[U (M ⟨wb,2,O⟩)] w fun e w'=>e=G (.bool true)/\aL w w':=by
 obtain⟨-,-,-,-,k4,k5,-⟩:=cK hw;obtain⟨am,cm,rfl,rdm,-,-,-⟩:=hm.form;obtain⟨ap,cp,rfl,rdp⟩:=JY hp;rw[rY]at k5;have HP:Hid (∀i x,hs[i]?=M x->∃g,ap=M ⟨g,0,O⟩/\w.cell? ⟨g,i,O⟩=M (Z x.1 x.2.1 x.2.2)):=rdp;have HM:Hid (Vw w am (nK c)):=rdm;have HH:Hid (Yl w hs):=hh;have HL:Hid (hs.length=4*c):=hsl;clear hw hp hm rdm rdp hh hsl;go_enter Tryz.func38,Tryz.ntmps38
 go_wp2_with fail
 go_loopw [4,5] (fun p i wr=> ∃k:Nat,k<=c/\p=I V ((4*k:Nat):Int)/\i=I V (k:Int)/\aL w wr) (fun _ i _=>c-(intOf i).toNat)
 case atStart=>exact⟨0,Nat.zero_le _,rfl,rfl,aL.refl _⟩
 case round=>
  obtain⟨k,hk,rfl,rfl,hG⟩:=hrel;have d4:=hG.cell k4;have d5:=hG.cell k5;by_cases bT:k<c
  ·have cc:∃b off,am=M ⟨b,off,O⟩/\wr.cell? ⟨b,off+k,O⟩=M (I V (-((k:Int)+1))):=by
    rcases HM.out with h|⟨b,off,h1,h2⟩
    ·have:=rY c;rw[h]at this;simp at this;omega
    ·refine⟨b,off,h1,hG.cell ?_⟩;have:=h2 k (by rw[rY];exact bT);rwa[OP bT]at this
   obtain⟨b,off,rfl,e1⟩:=cc;have i1:(0:Int)<=(k:Int):=by omega
   have i2:(k:Int)<(c:Int):=by omega
   have i3:¬(0:Int)< -((k:Int)+1):=by omega
   have i4: -((k:Int)+1)<0:=by omega
   go_wp2_with fail
   go_loopw [4,7] (fun p q wq=> ∃t:Nat,t<=4/\p=I V ((4*k+t:Nat):Int)/\q=I V (t:Int)/\aL w wq) (fun _ q _=>4-(intOf q).toNat)
   case atStart=>exact⟨0,by omega,rfl,rfl,hG⟩
   case round=>
    clear hG d4 d5 e1;obtain⟨t,ht,rfl,rfl,hG⟩:=hrel;by_cases Un:t<4
    ·have hil:4*k+t<hs.length:=by rw[HL.out];omega
     obtain⟨x,hx⟩:∃x,hs[4*k+t]?=M x:=⟨_,List.getElem?_eq_getElem hil⟩;obtain⟨g,rfl,eg⟩:=HP.out _ _ hx;obtain⟨rx,C_⟩:=HH.out _ _ hx;rw[show(4*k+t) / 4=k from by omega]at rx;obtain⟨xo,xn,xc⟩:=x;simp only at eg rx C_;have HR:Hid (yS w xo (List.replicate xn (tJ k))):=rx.1;clear rx hx;have j1:(0:Int)<=((4*k+t:Nat):Int):=by omega
     have j2:((4*k+t:Nat):Int)<(hs.length:Int):=by omega
     have j3:hs.length<=8000000:=by rw[HL.out];omega
     have ht4:(t:Int)<4:=by omega
     generalize hy:4*k+t=y at eg j1 j2 hil ⊢;have HY:Hid (4*k+t=y):=hy;clear hy hil
     go_wp2_with fail
     go_loopw [9] (fun j wj=> ∃s:Nat,s<=xn/\j=I V (s:Int)/\aL w wj) (fun j _=>xn-(intOf j).toNat)
     case atStart=>exact⟨0,by omega,rfl,hG⟩
     case round=>
      clear hG;obtain⟨s,Pf,rfl,hG⟩:=hrel;have d4:=hG.cell k4;have dg:=hG.cell eg;by_cases hsl:s<xn
      ·obtain⟨pb,po,rfl,q1,q2⟩:∃b off,xo=M ⟨b,off,O⟩/\w.cell? ⟨b,off+s*2,O⟩=M (I V (-((k:Int)+1)))/\w.cell? ⟨b,off+s*2+1,O⟩=M (.string sV):=by
        obtain⟨b,off,e,h1,h2⟩:=HR.out.at (i:=s) (f:=tJ k) (by simp[hsl]);exact⟨b,off,e,h1,h2⟩
       have r1:=hG.cell q1;have r2:=hG.cell q2;have s1:(0:Int)<=(s:Int):=by omega
       have s2:(s:Int)<(xn:Int):=by omega
       clear k4 k5 q1 q2 eg
       go_wp2_with fail
       go_region_held3 (fun w'=>w'.cell? ⟨wb,4,O⟩=M (Z (M ⟨g,0,O⟩) hs.length cp)/\w'.cell? ⟨g,y,O⟩=M (Z (M ⟨pb,po,O⟩) xn xc)/\w'.cell? ⟨pb,po+s*2,O⟩=M (I V (-((k:Int)+1)))/\w'.cell? ⟨pb,po+s*2+1,O⟩=M (.string sV)/\aL w w')
        (first|(go_split_ands;refine⟨?_,?_,?_,?_,?_⟩<;>first|assumption|go_keep|(exact cell_later (by assumption) (by assumption))|(exact aL.drew (by assumption))|(exact aL.more (by assumption) (by assumption))))
        (first|(go_at_call 75;refine(XE (by omega)).mono ?_;rintro e w5 ⟨rfl,pY⟩))
       all_goals go_wp2_with fail
       all_goals go_roundw
       case rel=>exact⟨s+1,by omega,by go_num,by go_split_ands;assumption⟩
       case measure=>simp[intOf];omega
      ·go_wp2_with fail
       go_roundw
       case rel=>exact⟨t+1,by omega,by rw[<-HY.out];go_num,by go_num,hG⟩
       case measure=>simp[intOf];omega
    ·have ht4:t=4:=by omega
     subst ht4
     go_wp2_with fail
     go_roundw
     case rel=>exact⟨k+1,by omega,by go_num,by go_num,hG⟩
     case measure=>simp[intOf];omega
  ·go_wp2_with fail
   go_ret;exact⟨rfl,hG⟩
theorem iA.image {w1:F}{rs:List gW}{D:Int}(h:iA w B wb rs c D jK vf vm hs)(hg:aL w w1)(hao:∀a,ao=M a->w.heap.size<=a.block)(hd:Ud w1 w' B wb c jK vf vm hs ao):
 Below B w w'/\∃vf' Ux Pf,iA w' B wb rs (c+1) D jK vf' Ux Pf:=by
 obtain⟨TM,Ux,h4,e4,k1,k2,k3,k4,kF,kB⟩:=hd;have bT:=h.lt;have hle:w.heap.size<=w1.heap.size:=hg.size
 have F0:Fr w w' (fun b=>b=wb\/vf.ownBlock=M b\/vm.ownBlock=M b):=by
  refine⟨Nat.le_trans hle kF.1,fun b hb hn=>?_⟩;rw[kF.2 b (by omega) (fun e=>?_)]
  ·exact hg.block b hb
  ·rcases e with e|⟨a,ea,e⟩|e|e
   ·exact hn (Or.inl e)
   ·have:=hao a ea;omega
   ·exact hn (Or.inr (Or.inl e))
   ·exact hn (Or.inr (Or.inr e))
 have vC:∀b,(b=wb\/vf.ownBlock=M b\/vm.ownBlock=M b)->∃aS t,w.heap[b]?=M (C aS t (0,0))/\(t=71\/t=54\/t=3):=by
  rintro b (rfl|e|e)
  ·exact⟨_,_,h.rX,Or.inl rfl⟩
  ·obtain⟨c1,vI⟩:=mF h.fs e;exact⟨_,_,vI,Or.inr (Or.inl rfl)⟩
  ·obtain⟨c1,vI⟩:=mF h.ms e;exact⟨_,_,vI,Or.inr (Or.inr rfl)⟩
 have no:∀ {b:Nat} {aS:Array Y} {t:TypeId} {mk:Nat×Nat},w.heap[b]?=M (C aS t mk)->t≠71->t≠54->t≠3->¬(b=wb\/vf.ownBlock=M b\/vm.ownBlock=M b):=by
  intro b aS t mk hb t1 t2 t3 e;obtain⟨c1,u,vI,hu⟩:=vC b e;rw[hb]at vI;cases vI
  rcases hu with e|e|e
  ·exact t1 e
  ·exact t2 e
  ·exact t3 e
 refine⟨⟨kB.os.trans hg.os,kB.tape.trans hg.tape,kB.output.trans hg.output,Nat.le_trans hle kB.size,fun b hb=>(kB.block b hb).trans (hg.block b (by omega))⟩,TM,Ux,hs++h4,?_⟩;refine⟨by rw[k1];simp,h.wbn,bI h.ss F0 (fun g aS _ e=>no e (by decide) (by decide) (by decide)),fun r hr=>?_,h.dX,h.apart,k2,by rw[List.length_append,h.len,e4];omega,?_,k3⟩
 ·refine(h.pair r hr).fr F0 (fun b hb=>?_) (no (h.pair r hr).sb (by decide) (by decide) (by decide)) (fun b hb e=>?_)
  ·obtain⟨c1,u,vI,hu⟩:=vC b hb;refine⟨c1,u,_,vI,?_⟩;rcases hu with rfl|rfl|rfl<;>decide
  ·obtain⟨c1,u,vI,hu⟩:=vC b e;refine((h.pair r hr).ty hb).ne vI ?_;rcases hu with rfl|rfl|rfl<;>decide
 ·intro i x hx;by_cases hi:i<hs.length
  ·rw[List.getElem?_append_left hi]at hx;have q:=h.held i x hx;refine⟨q.1.fr F0 (fun a e=>?_),q.2⟩;obtain⟨aS,hc⟩:=q.1.2 a e;exact no hc (by decide) (by decide) (by decide)
  ·rw[List.getElem?_append_right (by omega)]at hx;have hm:=List.mem_of_getElem? hx;have hl:=(List.getElem?_eq_some_iff.1 hx).1;have e5:i / 4=c:=by have:=h.len;omega
   rw[e5];exact k4 x hm
theorem XF {rs:List gW}{D:Int}{r:gW}(h:iA w B wb rs c D jK vf vm hs)(hr:r∈rs)(hc:c<=2000000):
 H K 71 #[U (M ⟨wb,0,O⟩),U (M ⟨r.sb,0,O⟩)] w fun e w'=>e=G (.bool true)/\Below B w w'/\∃vf' Ux Pf,iA w' B wb rs (c+1) D jK vf' Ux Pf:=by
 have hP:=h.pair r hr;have hS:=h.dX r hr;have hI:=ximage hP.q hS.bk;obtain⟨p0,p1⟩:=gV hP.sb;obtain⟨rx,hx,hf,-⟩:=hP.y;have c3:=iX hx;obtain⟨⟨fo,fl,fc⟩,MK⟩:∃f,f=r.f:=⟨_,rfl⟩;rw[<-MK]at hf c3;obtain⟨Aw,KJ,Km⟩:=hf;simp only at Aw KJ Km;subst KJ;simp only[bS.v]at c3;have hlen:=hS.bk.len;have HI:Hid (iA w B wb rs c D jK vf vm hs):=h;have HF:Hid (Uq w fo r.x.2.1):=Aw;have hBl:=h.lt;generalize r.x.2.1=fs at*;clear h hr hP hS hx Aw Km MK;go_enter Tryz.func71,Tryz.ntmps71
 go_upto_region 2 with(go_at_call 34;refine hI.mono ?_;rintro e w1 ⟨g,rfl,bA,iH⟩)
 have q1:=iH.cell p1;have q3:=iH.cell c3;obtain⟨KP,En,ev1,rd1,-,CP,-⟩:=iC.rdh bA;rw[List.length_map]at ev1;cases ev1
 have HO:Hid (iC w1 w.heap.size (Z (M ⟨g,0,O⟩) fs.length fs.length) (fs.map (fun f=>(f.1,f.2.1)))):=bA;have Xv:Hid (yS w1 (M ⟨g,0,O⟩) (fs.map (fun f=>(f.1,f.2.1)))):=rd1.1;have Xe:=(CP _ rfl).1;simp only at Xe;have yU:Hid (aL w w1):=iH;have D_:Hid (Uq w1 fo fs):=HF.out.aN iH;have UC:((fs.length:Int)==(fs.length:Int))=true:=by simp
 clear hI p0 p1 c3 bA rd1 CP iH
 go_wp2_with fail
 go_loopw [6,7] (fun o i wr=> ∃k:Nat,k<=fs.length/\o= .bool true/\i=I V (k:Int)/\Hid (aL w1 wr)) (fun _ i _=>fs.length-(intOf i).toNat)
 case atStart=>exact⟨0,Nat.zero_le _,by simp,rfl,aL.refl w1⟩
 case round=>
  obtain⟨k,hk,rfl,rfl,HG⟩:=hrel;by_cases bT:k<fs.length
  ·obtain⟨f,TR⟩:∃f,fs[k]?=M f:=⟨_,List.getElem?_eq_getElem bT⟩
   obtain⟨y1,y2⟩:w1.cell? ⟨g,k*2,O⟩=M (I V f.1)/\w1.cell? ⟨g,k*2+1,O⟩=M (.string f.2.1):=by
    obtain⟨b,off,e,h1,h2⟩:=Xv.out.at (i:=k) (f:=(f.1,f.2.1)) (by simp[TR]);cases e
    rw[Nat.zero_add]at h1 h2;exact⟨h1,h2⟩
   obtain⟨b,off,rfl,y3,y4,-⟩:=D_.out.at TR;have y1:=HG.out.cell y1;have y2:=HG.out.cell y2;have y3:=HG.out.cell y3;have y4:=HG.out.cell y4;have z1:=HG.out.cell q1;have z3:=HG.out.cell q3;have i1:(0:Int)<=(k:Int):=by omega
   have i2:(k:Int)<(fs.length:Int):=by omega
   obtain⟨fn,fb,fz⟩:=f;simp only at y1 y2 y3 y4;have b1:(fn==fn)=true:=by simp
   clear TR q1 q3
   go_upto_region 6 with fail
   go_quiet (fail)
   go_wp2_with fail
   go_roundw
   case rel=>exact⟨k+1,by omega,rfl,by go_num,aZ HG.out _⟩
   case measure=>simp[intOf];omega
  ·have HN:Hid (iA wr B wb rs c D jK vf vm hs):=HI.out.aN (aQ yU.out HG.out)
   have HH:=OY (ao:=M ⟨g,0,O⟩) (l:=fs.map (fun f=>(f.1,f.2.1))) HN.out.rX HN.out.wbn HN.out.fs HN.out.len HN.out.ms (by
    have q:=(HO.out.aN HG.out).weak (B:=B) (by omega);rw[List.length_map];exact q) hc (by rw[List.length_map];omega)
   rw[List.length_map]at HH
   go_wp2_with (go_at_call 110;refine HH.mono ?_;rintro e w5 ⟨rfl,hd⟩)
   go_ret;exact⟨rfl,HI.out.image (aQ yU.out HG.out) (fun a e=>by cases e;exact Xe) hd⟩
theorem XG {c n:Int}(vI: -9223372036854775808<=c)(Uv:c<=9223372036854775807)(hn:1<=n)(Um:n<=9223372036854775807):
 ∃p:Nat,(p:Int)<n/\∀w:F,H K 68 #[I V c,I V n] w fun e w'=>e=G (I V (p:Int))/\w'=w:=by
 by_cases h0:c<0
 ·have KL:(n==0)=false:=by simp;omega
  have h1:=V_ (c:= -(c+1)) (n:=n) (by omega) hn;refine⟨((-(c+1)).tmod n).toNat,by omega,fun w=>?_⟩;have h2:((((-(c+1)).tmod n).toNat:Nat):Int)=(-(c+1)).tmod n:=Int.toNat_of_nonneg h1.1;rw[h2];have HX:Hid (0<=(-(c+1)).tmod n/\(-(c+1)).tmod n<n):=h1;clear h1 h2;go_enter Tryz.func68,Tryz.ntmps68
  go_wp2
  go_ret;refine⟨?_,rfl⟩
  first
   |rfl
   |(rw[<-Int.neg_tmod];rfl)
 ·have KL:(n==0)=false:=by simp;omega
  have h1:0<=c % n/\c % n<n:=⟨Int.emod_nonneg _ (by omega),Int.emod_lt_of_pos _ (by omega)⟩;refine⟨(c % n).toNat,by omega,fun w=>?_⟩;have h2:(((c % n).toNat:Nat):Int)=c % n:=Int.toNat_of_nonneg h1.1;rw[h2];clear h1 h2;go_enter Tryz.func68,Tryz.ntmps68
  go_wp2
  go_ret;exact⟨rfl,rfl⟩
end Go.Proofs.YtfplgfodoiiobaaGreatDoor
