/- SwH, SwI, SwJ, TreesS, KpB (joined). -/
import Derived.Test.YtfplgfodoiiobaaGreatDoorD46
open Option renaming none→O,some→M
open Go.Value renaming int→I,slice→Z,pointer→U
open Go.IntKind renaming i64→V
open Go.Obj renaming cells→C
open Go.Ending renaming returned→G
open Go renaming World→F,Value→Y,Calls→H
open Go.Proofs.Tryz renaming prog→K
open Go.Proofs.Tryz
namespace Go.Proofs.YtfplgfodoiiobaaGreatDoor
set_option maxHeartbeats 4000000
set_option maxRecDepth 100000
open Go.RowKit
variable {w w':F}{B wb c n k cap:Nat}{l:List AF}{vm vp v oQ lG vf:Y}{ao:Option Addr}{hs:List bS}{ops:Array Oper}{o:Oper}{a:Act}{Q:Exit->Act->F->Prop}
theorem iB.below (h:iB w B v l)(hg:Below w.heap.size w w'):iB w' B v l:=bK h (Fr.cZ hg (fun _=>False)) (fun _ _ _ _=>id)
theorem iB.aN (h:iB w B v l)(hg:aL w w'):iB w' B v l:=h.below hg
theorem iB.weak {B':Nat}(h:iB w B' v l)(hB:B<=B'):iB w B v l:=Mc h hB
theorem dw (h:c<=2000000):IntKind.i64.wrap (-((c:Int)+1))= -((c:Int)+1):=by rw[AaE];omega
theorem Vm (f:AF)(l:List AF):Gi (f::l)=I V f.1:: .string f.2::Gi l:=rfl
theorem acs_set (x:Int)(y:ByteArray):∀(l:List AF) (k:Nat),k<l.length->((Gi l).set (k*2) (I V x)).set (k*2+1) (.string y)=Gi (l.set k (x,y)):=by
 intro l
 induction l with
 |nil=>intro k h;simp at h
 |cons p l ih=>
  intro k h;cases k with
  |zero=>simp[Vm]
  |succ k=>
   have:=ih k (by simpa using h);rw[Vm,show(k+1)*2=k*2+1+1 from by omega];simp only[Aar];rw[Vm];simpa using this
theorem rep_setF (p:AF)(l:List AF)(k:Nat)(h:k<l.length):(List.replicate k p++l.drop k).set k p=List.replicate (k+1) p++l.drop (k+1):=by
 rw[AbV _ _ (by simp),AcR,AcS,AaQ h,Aas,AbN,AaJ];rfl
theorem iB.store {g:Nat}(x:Int)(y:ByteArray)(h:iB w B (Z (M ⟨g,0,O⟩) n cap) l)(hk:k<l.length):
 iB ((w.setCell ⟨g,k*2,O⟩ (I V x)).setCell ⟨g,k*2+1,O⟩ (.string y)) B (Z (M ⟨g,0,O⟩) n cap) (l.set k (x,y)):=by
 have hn:n=l.length:=by
  rcases h.2 with⟨h',-⟩|⟨g',nH,aS,h',-⟩
  ·cases h'
  ·cases h';rfl
 subst hn;have h1:=(AbZ h (k*2) (I V x)).1;have h2:=(AbZ h1 (k*2+1) (.string y)).1;unfold iB;rw[<-acs_set x y l k hk,Acg];exact h2
theorem iB.block (h:iB w B (Z ao n cap) l)(hk:k<l.length):
 ∃g aS,ao=M ⟨g,0,O⟩/\B<=g/\w.heap[g]?=M (C aS 58 (0,0))/\(∃u,w.cell? ⟨g,k*2,O⟩=M u)/\(∃u,w.cell? ⟨g,k*2+1,O⟩=M u)
  /\w.frozen? ⟨g,k*2,O⟩=false/\w.frozen? ⟨g,k*2+1,O⟩=false:=by
 have h':=h;rcases h.2 with⟨-,h0⟩|⟨g,nH,aS,hv,hg,hh,-⟩
 ·omega
 ·cases hv
  obtain⟨e1,e2⟩:=Rx l k _ (Aag hk);exact⟨g,aS,rfl,hg,hh,⟨_,(AbD h' (k*2) (by omega)).trans e1⟩,⟨_,(AbD h' (k*2+1) (by omega)).trans e2⟩,Acx h' _,Acx h' _⟩
def Vn (w wr:F)(B wb c:Nat)(oQ vp vm:Y)(ao:Option Addr)(l:List AF)(k:Nat):Prop:=
 wr.heap[wb]?=M (jP oQ ((c:Int)+1) vp vm)/\iB wr B (Z ao l.length l.length) (List.replicate k (uO c)++l.drop k)/\Fr w wr (fun b=>b=wb\/∃a,ao=M a/\b=a.block)/\Below B w wr
theorem Vn.start (hw:w.heap[wb]?=M (jP oQ (c:Int) vp vm))(hB:B<=wb)(hl:iB w B (Z ao l.length l.length) l):
 Vn w (w.setCell ⟨wb,2,O⟩ (I V ((c:Int)+1))) B wb c oQ vp vm ao l 0:=by
 have hF:=Fr.set w ⟨wb,2,O⟩ (I V ((c:Int)+1));have bP:=aM hw;refine⟨?_,?_,hF.mono (fun b h=>Aac h),(AaS _ _).setCell (p:=⟨wb,2,O⟩) hB _⟩
 ·have:=Aaj w wb 2 _ _ (I V ((c:Int)+1)) hw;rw[this];rfl
 ·simp only[List.replicate_zero,Acf,Abr];refine bK hl hF (fun g aS _ e hx=>?_);simp only at hx;subst hx;exact bU e hw (gH (by decide))
theorem Vn.next {wr w2:F}{g:Nat}(h:Vn w wr B wb c oQ vp vm (M ⟨g,0,O⟩) l k)(hk:k<l.length)(fV:Below wr.heap.size wr w2)(jg:B<=g)
 (hg:∃aS,wr.heap[g]?=M (C aS 58 (0,0))):
 Vn w ((w2.setCell ⟨g,k*2,O⟩ (I V (-((c:Int)+1)))).setCell ⟨g,k*2+1,O⟩ (.string uK)) B wb c oQ vp vm (M ⟨g,0,O⟩) l (k+1):=by
 obtain⟨h1,h2,h3,h4⟩:=h;obtain⟨aS,hg⟩:=hg;have hne:wb≠g:=fun e=>by subst e;exact bU h1 hg (gH (by decide))
 have B2:Below B w w2:=by
  refine⟨fV.os.trans h4.os,fV.tape.trans h4.tape,fV.output.trans h4.output,Aam h4.size fV.size,fun b hb=>?_⟩;exact(fV.block b (by have:=aM hg;omega)).trans (h4.block b hb)
 refine⟨?_,?_,?_,(B2.setCell (p:=⟨g,k*2,O⟩) jg _).setCell (p:=⟨g,k*2+1,O⟩) jg _⟩
 ·rw[Abm _ _ _ _ hne,Abm _ _ _ _ hne,fV.block wb (aM h1)];exact h1
 ·have:=iB.store (k:=k) (-((c:Int)+1)) uK (h2.below fV) (by simp;omega);rw[<-rep_setF (uO c) l k hk];exact this
 ·refine h3.trans ((Fr.cZ fV _).trans (((Fr.set _ _ _).mono ?_).trans ((Fr.set _ _ _).mono ?_)))
  ·intro b hb;exact Aab ⟨_,rfl,hb⟩
  ·intro b hb;exact Aab ⟨_,rfl,hb⟩
theorem Xp {rest:List Oper}(qR:o.guard=O)(s x:Operand)
 (ho:o.op= .call { callee:= .builtin .append,args:=#[s,x],argTypes:=#[54,54] })
 (B:Nat)(ao:Option Addr)(n:Nat)(ys zs:List AF)(hn:n=ys.length)(hs:a.eval s=Z ao n n)(bD:iB w B (Z ao n n) ys)(xb m c:Nat)(hx:a.eval x=Z (M ⟨xb,0,O⟩) m c)(hm:m=zs.length)(hr:Aw w (M ⟨xb,0,O⟩) zs)
 (h0:0<zs.length)(hlen:ys.length+zs.length<=1000000000)(iK:B<=w.heap.size)
 (h:∀v' w',iB w' B v' (ys++zs)->Below w.heap.size w w'->wpList K ops Q rest (a.put o.dst v') w'):wpList K ops Q (o::rest) a w:=by
 obtain⟨i0,hi,oG,nM,oP⟩:=AaW Tryz.infoAF;subst hm hn;obtain⟨Gq,nH,e1,e2,-,-,e3⟩:=iB.rdh bD;cases e1
 have e3:ao=O->ys.length=0/\ys.length=0:=fun e=>by obtain⟨q,-⟩:=e3 e;rw[q];exact⟨rfl,rfl⟩
 refine wpList_append_grows w qR s x 54 ho 58 i0 (.agg #[I V 0,.string ⟨#[]⟩]) 2 24 underlying54 hi oG nM oP rfl (by decide) ao ys.length ys.length (Gi ys) hs e3 (qD ys) ?_ ⟨xb,0,O⟩ zs.length c (Gi zs) hx (qD zs) ?_ ?_ (by omega) (by unfold maxLen;omega) (by omega) ?_
 ·intro b hb;subst hb;exact Aw.cells e2.1
 ·exact Aw.cells hr
 ·intro u hu;obtain⟨p,-,hp⟩:=AbX.1 hu;simp[AFc]at hp;rcases hp with rfl|rfl<;>rfl
 ·intro v' w' h1 h2;refine h v' w' ?_ ⟨h2.os,h2.tape,h2.output,h2.size,fun k hk=>h2.block k hk (by simp)⟩;refine iB.weak (B':=w.heap.size) ?_ iK;unfold iB;rw[Bp,Aah];exact h1
theorem Ce {aA:Act->F->Prop}{E:Prop}(qR:o.guard=O)(s x:Operand)
 (ho:o.op= .call { callee:= .builtin .append,args:=#[s,x],argTypes:=#[54,54] })
 (B:Nat)(ao:Option Addr)(n:Nat)(ys zs:List AF)(hn:n=ys.length)(hs:a.eval s=Z ao n n)(bD:iB w B (Z ao n n) ys)(xb m c:Nat)(hx:a.eval x=Z (M ⟨xb,0,O⟩) m c)(hm:m=zs.length)(hr:Aw w (M ⟨xb,0,O⟩) zs)
 (h0:0<zs.length)(hlen:ys.length+zs.length<=1000000000)(iK:B<=w.heap.size)
 (h:∀v' w',iB w' B v' (ys++zs)->Below w.heap.size w w'->aA (a.put o.dst v') w'):if Region.wanted o (yielded ops a.tmps)=true then Oper.wp K o a w aA Q else E:=by
 obtain⟨i0,hi,oG,nM,oP⟩:=AaW Tryz.infoAF;subst hm hn;obtain⟨Gq,nH,e1,e2,-,-,e3⟩:=iB.rdh bD;cases e1
 have e3:ao=O->ys.length=0/\ys.length=0:=fun e=>by obtain⟨q,-⟩:=e3 e;rw[q];exact⟨rfl,rfl⟩
 refine step_append_grows qR s x 54 ho 58 i0 (.agg #[I V 0,.string ⟨#[]⟩]) 2 24 underlying54 hi oG nM oP rfl (by decide) ao ys.length ys.length (Gi ys) hs e3 (qD ys) ?_ ⟨xb,0,O⟩ zs.length c (Gi zs) hx (qD zs) ?_ ?_ (by omega) (by unfold maxLen;omega) (by omega) ?_
 ·intro b hb;subst hb;exact Aw.cells e2.1
 ·exact Aw.cells hr
 ·intro u hu;obtain⟨p,-,hp⟩:=AbX.1 hu;simp[AFc]at hp;rcases hp with rfl|rfl<;>rfl
 ·intro v' w' h1 h2;refine h v' w' ?_ ⟨h2.os,h2.tape,h2.output,h2.size,fun k hk=>h2.block k hk (by simp)⟩;refine iB.weak (B':=w.heap.size) ?_ iK;unfold iB;rw[Bp,Aah];exact h1
theorem Tryz.infoFSl:(Tryz.prog.info? 54).map (fun i=>(i.zero,i.size,i.bytes))=M (M (Z O 0 0),1,24):=by kernel_rfl
theorem Om {rest:List Oper}(qR:o.guard=O)(s x:Operand)
 (ho:o.op= .call { callee:= .builtin .append,args:=#[s,x],argTypes:=#[67,67] })
 (B:Nat)(v:Y)(hs news:List bS)(he:a.eval s=v)(bD:w.ownsRow B 54 1 v hs.length (hs.map bS.v))(ad:Addr)(m c:Nat)(hx:a.eval x=Z (M ad) m c)(hm:m=news.length)
 (hr:∀j u,(news.map bS.v)[j]?=M u->w.cell? (ad.add j)=M u)(hlen:hs.length+news.length<=1000000000)(iK:B<=w.heap.size)
 (h:∀v' w',w'.ownsRow B 54 1 v' (hs++news).length ((hs++news).map bS.v)->w.grownBy w' v.ownBlock->wpList K ops Q rest (a.put o.dst v') w'):wpList K ops Q (o::rest) a w:=by
 obtain⟨i0,hi,oG,nM,oP⟩:=AaW Tryz.infoFSl;subst hm;refine AbG w qR s x 67 ho B 54 i0 (Z O 0 0) 1 24 underlying67 hi oG nM oP rfl (by decide) v hs.length (hs.map bS.v) he bD ad news.length c (news.map bS.v) hx (by simp) hr ?_ (by unfold maxLen;omega) (by omega) iK ?_
 ·intro u hu;obtain⟨y,-,rfl⟩:=AaY.1 hu;rfl
 ·intro v' w' h1 h2 _;refine h v' w' ?_ h2;rw[Abb,Aah];exact h1
theorem MK {n:Int}(h:w.heap[wb]?=M (jP oQ n vp vm)):(w.setCell ⟨wb,4,O⟩ v).heap[wb]?=M (jP oQ n v vm):=by
 rw[Aaj w wb 4 _ _ v h];rfl
theorem ML {n:Int}(h:w.heap[wb]?=M (jP oQ n vp vm)):(w.setCell ⟨wb,5,O⟩ v).heap[wb]?=M (jP oQ n vp v):=by
 rw[Aaj w wb 5 _ _ v h];rfl
theorem iB.typed (h:iB w B (Z ao n cap) l):∀a,ao=M a->∃aS,w.heap[a.block]?=M (C aS 58 (0,0))/\B<=a.block:=by
 intro a ha;subst ha;rcases h.2 with⟨h',-⟩|⟨g,nH,aS,hv,hg,hh,-⟩
 ·cases h'
 ·cases hv;exact⟨aS,hh,hg⟩
theorem EN (w:F)(cs:Array Y)(l:List AF)(h:cs.toList=Gi l)(hm:l.length<=maxLen):Aw (w.alloc (C cs 58)) (M ⟨w.heap.size,0,O⟩) l:=by
 have hl:cs.size=l.length*2:=by rw[<-Abc,h,qD]
 have:=Aco (base:=0) (e:=58) (size:=2) w cs l.length (Aap _) hm hl;rw[h]at this;obtain⟨ao,cap,e,rd,-⟩:=iB.rdh this;cases e
 exact rd.1
theorem Rw.nP (h:iB w B v l):∃ao cap,v=Z ao l.length cap/\Rw w ao l/\(ao=O->l.length=0/\cap=0):=by
 obtain⟨ao,cap,e,rd,-,-,e3⟩:=iB.rdh h;exact⟨ao,cap,e,rd,fun q=>by obtain⟨q1,q2⟩:=e3 q;rw[q1];exact⟨rfl,q2⟩⟩
def Vo (w w':F)(B wb c:Nat)(oQ vp vm:Y)(hs:List bS)(ao:Option Addr):Prop:=
 ∃(XC Ye:Y) (h4:List bS),h4.length=4/\w'.heap[wb]?=M (jP oQ ((c:Int)+1) XC Ye)/\w'.ownsRow B 54 1 XC (hs++h4).length ((hs++h4).map bS.v)/\iZ w' B Ye (pF (c+1))
  /\(∀x∈h4,Rw w' x.1 (List.replicate x.2.1 (uO c))/\x.2.1<=9000)/\Fr w w' (fun b=>b=wb\/(∃a,ao=M a/\b=a.block)\/vp.ownBlock=M b\/vm.ownBlock=M b)/\Below B w w'
theorem Rw.fr' {X:Nat->Prop}(h:Rw w ao l)(hF:Fr w w' X)(hx:∀b aS,w.heap[b]?=M (C aS 58 (0,0))->¬X b):Rw w' ao l:=h.fr hF (fun a e=>by obtain⟨aS,hc⟩:=h.2 a e;exact hx _ _ hc)
theorem dx {wc w7 w8:F}{p0 p5 p6 p7 n9 c9:Nat}{v8:Y}{a5 a6 a7 x9:Option Addr}{o:Obj}
 (hFd:Fr w wc (fun b=>b=wb\/∃a,ao=M a/\b=a.block))(_BD:Below B w wc)(F7:Fr wc w7 (fun b=>b=wb\/vp.ownBlock=M b))(B7:Below B w w7)(hwd:wc.heap[wb]?=M (jP oQ ((c:Int)+1) vp vm))
 (hpd:wc.ownsRow B 54 1 vp hs.length (hs.map bS.v))(NI:iZ w7 B vm (pF c))(hw7:w7.heap[wb]?=M (jP oQ ((c:Int)+1) v8 vm))
 (Hg:w7.ownsRow B 54 1 v8 (hs++ [(ao,n,p0),(a5,n+1,p5),(a6,n+2,p6),(a7,n+3,p7)]).length ((hs++ [(ao,n,p0),(a5,n+1,p5),(a6,n+2,p6),(a7,n+3,p7)]).map bS.v))
 (t_:w8.heap[wb]?=M (jP oQ ((c:Int)+1) v8 vm))(Qr:(w7.alloc o).grownBy w8 vm.ownBlock)(EO:iZ w8 B (Z x9 n9 c9) (pF c++ [-((c:Int)+1)]))
 (rd0:Rw wc ao (List.replicate n (uO c)))(rd5:Rw wc a5 (List.replicate n (uO c)++ [uO c]))(rd6:Rw wc a6 (List.replicate n (uO c)++ [uO c,uO c]))(rd7:Rw wc a7 (List.replicate n (uO c)++ [uO c,uO c,uO c]))(hlen:n<=8000)(hBw:B<=wb):
 Vo w (w8.setCell ⟨wb,5,O⟩ (Z x9 n9 c9)) B wb c oQ vp vm hs ao:=by
 have hlt7:=aM hw7
 have F8:Fr w7 (w8.setCell ⟨wb,5,O⟩ (Z x9 n9 c9)) (fun b=>b=wb\/vm.ownBlock=M b):=
  ((Fr.cZ (aP _ _) _).trans ((Fr.kC Qr).mono (fun b h=>Aab h))).trans ((Fr.set _ _ _).mono (fun b h=>Aac h))
 have hB:B<=w7.heap.size:=by
  rcases Hg.2 with⟨-,h⟩|⟨g,cap,aS,-,hg,hh,-⟩
  ·simp at h
  ·have:=aM hh;omega
 have hX7:∀b (aS:Array Y) (t:TypeId) (f:Nat×Nat),t≠71->t≠54->wc.heap[b]?=M (C aS t f)->¬(b=wb\/vp.ownBlock=M b):=by
  intro b aS t f e1 e2 hb hx;rcases hx with rfl|hx
  ·exact bU hb hwd (gH e1)
  ·exact qW hpd hb (Aca e2) hx
 have hX8:∀b (aS:Array Y) (t:TypeId) (f:Nat×Nat),t≠71->t≠3->w7.heap[b]?=M (C aS t f)->¬(b=wb\/vm.ownBlock=M b):=by
  intro b aS t f e1 e2 hb hx;rcases hx with rfl|hx
  ·exact bU hb hw7 (gH e1)
  ·exact qW NI hb (Aca e2) hx
 have rdf:∀ {x:Option Addr} {l:List AF},Rw wc x l->Rw (w8.setCell ⟨wb,5,O⟩ (Z x9 n9 c9)) x l:=fun h=>
  (h.fr' F7 (fun b aS e=>hX7 _ _ _ _ (by decide) (by decide) e)).fr' F8 (fun b aS e=>hX8 _ _ _ _ (by decide) (by decide) e)
 have e1:List.replicate n (uO c)++ [uO c]=List.replicate (n+1) (uO c):=by rw[AbN]
 have e2:List.replicate n (uO c)++ [uO c,uO c]=List.replicate (n+2) (uO c):=by rw[AbN,AbN,AaJ];rfl
 have e3:List.replicate n (uO c)++ [uO c,uO c,uO c]=List.replicate (n+3) (uO c):=by rw[AbN,AbN,AbN,AaJ,AaJ];rfl
 refine⟨v8,Z x9 n9 c9,_,rfl,ML t_,bK Hg F8 (fun g aS _ e=>hX8 _ _ _ _ (by decide) (by decide) e),?_,?_,?_,?_⟩
 ·rw[MG];exact bK EO (Fr.set w8 ⟨wb,5,O⟩ (Z x9 n9 c9)) (fun g aS _ e hx=>by simp only at hx;subst hx;exact bU e t_ (gH (by decide)))
 ·intro x hx;simp only[AaF,List.not_mem_nil,or_false]at hx;rcases hx with rfl|rfl|rfl|rfl
  ·exact⟨rdf rd0,by simp only;omega⟩
  ·exact⟨rdf (e1 ▸ rd5),by simp only;omega⟩
  ·exact⟨rdf (e2 ▸ rd6),by simp only;omega⟩
  ·exact⟨rdf (e3 ▸ rd7),by simp only;omega⟩
 ·refine(hFd.mono ?_).trans ((F7.mono ?_).trans (F8.mono ?_))
  ·rintro b (h|h)
   ·exact Aac h
   ·exact Aab (Aac h)
  ·rintro b (h|h)
   ·exact Aac h
   ·exact Aab (Aab (Aac h))
  ·rintro b (h|h)
   ·exact Aac h
   ·exact Aab (Aab (Aab h))
 ·have h1:=(lZ B7 (aP _ _) hB).grown Qr (by simp;omega) (fun k e=>(AaA NI k e).1);exact h1.setCell (p:=⟨wb,5,O⟩) hBw _
theorem SB 
 (hw:w.heap[wb]?=M (jP oQ (c:Int) vp vm))(hB:B<=wb)(hp:w.ownsRow B 54 1 vp hs.length (hs.map bS.v))(hsl:hs.length=4*c)(hm:iZ w B vm (pF c))
 (hl:iB w B (Z ao l.length l.length) l)(hc:c<=2000000)(hlen:l.length<=8000):
 H K 110 #[U (M ⟨wb,2,O⟩),Z ao l.length l.length] w fun e w'=>e=G (.tuple #[])/\Vo w w' B wb c oQ vp vm hs ao:=by
 obtain⟨k0,k1,k2,k3,k4,k5,kf⟩:=gW hw;have f2:=kf 2;have HW:Hid _:=hw;clear hw kf;go_enter func110,ntmps110
 go_wp2
 go_loopw [4] (fun i wr=> ∃k:Nat,k<=l.length/\i=I V (k:Int)/\Vn w wr B wb c oQ vp vm ao l k) (fun i _=>l.length-(intOf i).toNat)
 case atStart=>exact⟨0,Aap _,rfl,Vn.start HW.out hB hl⟩
 case round=>
  obtain⟨k,hk,rfl,hR⟩:=hrel;obtain⟨-,-,j2,-,-,-,-⟩:=gW hR.1;by_cases bP:k<l.length
  ·obtain⟨g,aS,rfl,iJ,kR,-⟩:=hR.2.1.block (k:=k) (by simp;omega);have i1:(0:Int)<=(k:Int):=(by omega);have i2:(k:Int)<(l.length:Int):=(by omega);clear k0 k1 k2 k3 k4 k5 f2 hp hm hl;go_wp2_with fail;refine(zW (by omega) (by omega)).mono ?_;rintro e w2 ⟨rfl,fV⟩;obtain⟨g',qN,e1,-,-,⟨q1,m1⟩,⟨q2,m2⟩,m3,m4⟩:=(iB.below hR.2.1 fV).block (k:=k) (by simp;omega);cases e1
   go_wp2
   go_roundw
   case rel=>exact⟨k+1,by omega,by go_num,hR.next bP fV iJ ⟨aS,kR⟩⟩
   case measure=>simp[intOf];omega
  ·have Qu:k=l.length:=(by omega);subst Qu;obtain⟨hR1,Wh,uz,hR4⟩:=hR;obtain⟨j0,j1,j2,j3,j4,j5,jf⟩:=gW hR1;have f3:=jf 4;have f5:=jf 5;have Zt:Hid (wr.heap[wb]?=M (jP oQ ((c:Int)+1) vp vm)):=hR1;have dz:iB wr B (Z ao l.length l.length) (List.replicate l.length (uO c)):=(by simpa using Wh);have HL:Hid (iB w B (Z ao l.length l.length) l):=hl;clear k0 k1 k2 k3 k4 k5 f2 hR1 Wh jf hl j0 j1 j3;go_wp2_with fail;refine(zW (by omega) (by omega)).mono ?_;rintro e w2 ⟨rfl,fV⟩;have hBw:B<=w2.heap.size:=(by have:=fV.size;have:=aM Zt.out;omega);go_upto_region 6 with(at_builtin;go_must (refine Xp (by rfl) (.tmp 29) (.tmp 35) (by rfl) B _ l.length (List.replicate l.length (uO c)) [uO c] (by simp) (by rfl) (by exact(dz.below fV).below (aP _ _)) _ _ _ (by rfl) (by rfl) (by exact EN w2 #[I V (-((c:Int)+1)),.string uK] [uO c] rfl (by simp[maxLen])) (by simp) (by simp;omega) (by simp;omega) ?_);intro v5 w3 dK nJ);have G3:aL wr w3:=aQ (aQ fV (aP _ _)) nJ;have own3:iB w3 B (Z ao l.length l.length) (List.replicate l.length (uO c)):=dz.below G3;have l2:=G3.cell j2;have Tq:B<=w3.heap.size:=Aam hBw (by have:=nJ.size;simp at this;omega)
   go_cut [6] (fun v wc=>iB wc B v (List.replicate l.length (uO c)++ [uO c,uO c])/\aL w3 wc)
   case first=>
    have g3:=aL.refl w3;clear hp hm dz dK
    go_region_held3 (fun w'=>w'.cell? ⟨wb,2,O⟩=M (I V ((c:Int)+1))/\aL w3 w')
     (first|(go_split_ands;refine⟨?_,?_⟩<;>first|assumption|go_keep|(exact AaB (by assumption) (by assumption))|(exact aL.drew (by assumption))|(exact aL.alloc (by assumption) _)|(exact aL.more (by assumption) (by assumption))))
     (first|(go_at_call 75;refine(zW (by omega) (by omega)).mono ?_;rintro e w4 ⟨rfl,Zr⟩)|(refine Ce (by rfl) (.tmp 37) (.tmp 48) (by rfl) B _ l.length (List.replicate l.length (uO c)) [uO c,uO c] (by simp) (by rfl) (by go_split_ands;exact own3.aN (by assumption)) _ _ _ (by rfl) (by rfl) (by exact EN _ #[I V (-((c:Int)+1)),.string uK,I V (-((c:Int)+1)),.string uK] [uO c,uO c] rfl (by simp[maxLen])) (by simp) (by simp;omega) (by go_split_ands;exact Aam Tq (aL.le (by assumption))) ?_;intro v6 w5 nD Gs))
    all_goals go_wp2_with fail
    all_goals go_meet
    all_goals exact⟨nD,by go_split_ands;assumption⟩
   case rest=>
    rename F=>w4
    obtain⟨nD,G4⟩:=hcut;have own4:=own3.aN G4;have m2:=G4.cell l2;have VG:=Aam Tq G4.le;go_upto_region 7 with fail
    go_cut [7] (fun v wd=>iB wd B v (List.replicate l.length (uO c)++ [uO c,uO c,uO c])/\aL w4 wd)
    case first=>
     have g4:=aL.refl w4;clear hp hm dz own3 dK nD G4 G3 l2
     go_region_held3 (fun w'=>w'.cell? ⟨wb,2,O⟩=M (I V ((c:Int)+1))/\aL w4 w')
      (first|(go_split_ands;refine⟨?_,?_⟩<;>first|assumption|go_keep|(exact AaB (by assumption) (by assumption))|(exact aL.drew (by assumption))|(exact aL.alloc (by assumption) _)|(exact aL.more (by assumption) (by assumption))))
      (first|(go_at_call 75;refine(zW (by omega) (by omega)).mono ?_;rintro e w5 ⟨rfl,Zr⟩)|(refine Ce (by rfl) (.tmp 50) (.tmp 66) (by rfl) B _ l.length (List.replicate l.length (uO c)) [uO c,uO c,uO c] (by simp) (by rfl) (by go_split_ands;exact own4.aN (by assumption)) _ _ _ (by rfl) (by rfl) (by exact EN _ #[I V (-((c:Int)+1)),.string uK,I V (-((c:Int)+1)),.string uK,I V (-((c:Int)+1)),.string uK] [uO c,uO c,uO c] rfl (by simp[maxLen])) (by simp) (by simp;omega) (by go_split_ands;exact Aam VG (aL.le (by assumption))) ?_;intro v6 w6 nD Gs))
     all_goals go_wp2
     all_goals go_meet
     all_goals exact⟨nD,by go_split_ands;assumption⟩
    case rest=>
     obtain⟨yX,G5⟩:=hcut;have GR:=aQ (aQ G3 G4) G5
     have hX:∀b (aS:Array Y) (t:TypeId) (f:Nat×Nat),t≠71->t≠58->w.heap[b]?=M (C aS t f)->¬(b=wb\/∃a,ao=M a/\b=a.block):=by
      intro b aS t f e1 e2 hb hx;rcases hx with rfl|⟨a,rfl,rfl⟩
      ·exact bU hb HW.out (gH e1)
      ·obtain⟨qN,jl,-⟩:=HL.out.typed _ rfl;exact bU hb jl (gH e2)
     have hFd:=uz.trans (Fr.cZ GR _);have hwd:=(Fr.cZ GR (fun _=>False)).at Zt.out id;have hpd:=bK hp hFd (fun g aS _ e=>hX _ _ _ _ (by decide) (by decide) e);have hmd:=bK hm hFd (fun g aS _ e=>hX _ _ _ _ (by decide) (by decide) e);have BD:=lZ hR4 GR (Aam hB (Nat.le_of_lt (aM Zt.out)));obtain⟨a0,p0,e0,rd0,-⟩:=Rw.nP (dz.aN GR);obtain rfl:ao=a0:=by injection e0
     obtain⟨a5,p5,rfl,rd5,-⟩:=Rw.nP (dK.aN (aQ G4 G5));obtain⟨a6,p6,rfl,rd6,-⟩:=Rw.nP (nD.aN G5);obtain⟨a7,p7,rfl,rd7,-⟩:=Rw.nP yX;have hnvp:=qW hpd hwd (by decide);have hnvm:=qW hmd hwd (by decide);have hwa:∀o,(wc.alloc o).heap[wb]?=M (jP oQ ((c:Int)+1) vp vm):=fun o=>(AbF _ _ _ (aM hwd)).trans hwd;have hBd:B<=wc.heap.size:=(by have:=aM hwd;omega);obtain⟨-,-,d2,-,d3,d5,-⟩:=gW hwd;clear G3 G4 G5 dz own3 own4 dK nD yX fV nJ j2 j4 j5 f3 f5 l2 m2 hp hm uz hR4;go_upto_region 9 with(at_builtin;go_must (refine Om (by rfl) (.tmp 72) (.tmp 77) (by rfl) B _ hs [(ao,_,_),(a5,_,p5),(a6,_,p6),(a7,_,p7)] (by rfl) (by exact Aay hpd _) _ _ _ (by rfl) (by rfl) (by exact AbR (Aaf wc _)) (by simp;omega) (by simp;omega) ?_);intro XC w6 Dl JJ;obtain⟨x8,n8,c8,rfl⟩:=rY Dl;have hw6:=mO JJ (hwa _) hnvp;obtain⟨-,-,-,-,z3,-,zf⟩:=gW hw6;have zf3:=zf 4;clear zf);have hw7:=MK (v:=Z x8 n8 c8) hw6
     have F7:Fr wc (w6.setCell ⟨wb,4,O⟩ (Z x8 n8 c8)) (fun b=>b=wb\/vp.ownBlock=M b):=
      ((Fr.cZ (aP _ _) _).trans ((Fr.kC JJ).mono (fun b h=>Aab h))).trans ((Fr.set _ _ _).mono (fun b h=>Aac h))
     have B7:Below B w (w6.setCell ⟨wb,4,O⟩ (Z x8 n8 c8)):=
      ((lZ BD (aP _ _) hBd).grown JJ (by simp;omega) (fun k e=>(AaA hpd k e).1)).setCell (p:=⟨wb,4,O⟩) hB _
     have Hg:=bK Dl (Fr.set w6 ⟨wb,4,O⟩ (Z x8 n8 c8)) (fun g aS _ e hx=>by simp only at hx;subst hx;exact bU e hw6 (gH (by decide)));clear hw6 z3 zf3 Dl JJ;generalize w6.setCell ⟨wb,4,O⟩ (Z x8 n8 c8)=w7 at*;obtain⟨-,-,y2,-,-,y5,yf⟩:=gW hw7;have yf5:=yf 5
     have NI:iZ w7 B vm (pF c):=bK hmd F7 (fun g aS e1 e hx=>by
      rcases hx with rfl|hx
      ·exact bU e hwd (gH (by decide))
      ·exact qW hpd e (by decide) hx)
     have hpd':=hpd;clear yf d2 d3 d5 hpd hmd;have hwa7:∀o,(w7.alloc o).heap[wb]?=M (jP oQ ((c:Int)+1) (Z x8 n8 c8) vm):=fun o=>(AbF _ _ _ (aM hw7)).trans hw7;have hlt7:=aM hw7
     go_region_law ((refine Ms (by rfl) (.tmp 85) (.tmp 91) (by rfl) B vm (pF c) (-((c:Int)+1)) (by rfl) (by exact Aay NI _) _ _ _ (by rfl) (by rfl) (by simp[Addr.add,dw hc]) (by rw[sS];omega) (by simp;omega) ?_;intro Ye w8 EO Qr;obtain⟨x9,n9,c9,rfl⟩:=rY EO;have t_:=mO Qr (hwa7 _) hnvm;obtain⟨-,-,x2,-,-,x5,xf⟩:=gW t_;have xf5:=xf 5;clear xf))
     all_goals go_wp2
     all_goals go_end0
     all_goals exact⟨rfl,dx hFd BD F7 B7 hwd hpd' NI hw7 Hg t_ ⟨Qr.os,Qr.tape,Qr.output,Qr.size,Qr.block⟩ EO rd0 rd5 rd6 rd7 hlen hB⟩
theorem MN (hp:w.ownsRow B 54 1 vp hs.length (hs.map bS.v)):
 ∃ao cap,vp=Z ao hs.length cap/\∀i x,hs[i]?=M x->∃g,ao=M ⟨g,0,O⟩/\w.cell? ⟨g,i,O⟩=M (Z x.1 x.2.1 x.2.2):=by
 have hp':=hp;rcases hp.2 with⟨rfl,h0⟩|⟨g,cap,aS,rfl,hg,hh,-⟩
 ·refine⟨O,0,by rw[h0],fun i x e=>?_⟩;have:=(Aae.1 e).1;omega
 ·refine⟨_,cap,rfl,fun i x e=>⟨g,rfl,?_⟩⟩;have:=(Aae.1 e).1;rw[AbD hp' i (by omega),Abk,e];rfl
theorem fu (h:k<=2000000):H K 75 #[I V (IntKind.i64.wrap ((k:Int)+1))] w fun e w'=>e=G (.agg #[I V (-((k:Int)+1)),.string uK])/\aL w w':=by
 have e:IntKind.i64.wrap ((k:Int)+1)=(k:Int)+1:=by rw[AaE];omega
 rw[e];exact zW (by omega) (by omega)
theorem MO {n:Int}
 (hw:w.heap[wb]?=M (jP lG n vf vm))(hp:w.ownsRow B 54 1 vf hs.length (hs.map bS.v))(hsl:hs.length=4*c)(hh:AV w hs)(hm:iZ w B vm (pF c))(hc:c<=2000000):
 H K 38 #[U (M ⟨wb,2,O⟩)] w fun e w'=>e=G (.bool true)/\aL w w':=by
 obtain⟨-,-,-,-,k4,k5,-⟩:=gW hw;obtain⟨am,cm,rfl,rdm,-,-,-⟩:=hm.form;obtain⟨ap,cp,rfl,rdp⟩:=MN hp;rw[sS]at k5;have HP:Hid (∀i x,hs[i]?=M x->∃g,ap=M ⟨g,0,O⟩/\w.cell? ⟨g,i,O⟩=M (Z x.1 x.2.1 x.2.2)):=rdp;have HM:Hid (Ya w am (pF c)):=rdm;have HH:Hid (AV w hs):=hh;have HL:Hid (hs.length=4*c):=hsl;clear hw hp hm rdm rdp hh hsl;go_enter func38,ntmps38;go_wp2_with fail
 go_loopw [4,5] (fun p i wr=> ∃k:Nat,k<=c/\p=I V ((4*k:Nat):Int)/\i=I V (k:Int)/\aL w wr) (fun _ i _=>c-(intOf i).toNat)
 case atStart=>exact⟨0,Aap _,rfl,rfl,aL.refl _⟩
 case round=>
  obtain⟨k,hk,rfl,rfl,hG⟩:=hrel;have d4:=hG.cell k4;have d5:=hG.cell k5;by_cases bP:k<c
  ·have cc:∃b off,am=M ⟨b,off,O⟩/\wr.cell? ⟨b,off+k,O⟩=M (I V (-((k:Int)+1))):=by
    rcases HM.out with h|⟨b,off,h1,h2⟩
    ·have:=sS c;rw[h]at this;simp at this;omega
    ·refine⟨b,off,h1,hG.cell ?_⟩;have:=h2 k (by rw[sS];exact bP);rwa[RY bP]at this
   obtain⟨b,off,rfl,e1⟩:=cc;have i1:(0:Int)<=(k:Int):=(by omega);have i2:(k:Int)<(c:Int):=(by omega);have i3:¬(0:Int)< -((k:Int)+1):=(by omega);have i4: -((k:Int)+1)<0:=(by omega);go_wp2_with fail
   go_loopw [4,7] (fun p q wq=> ∃t:Nat,t<=4/\p=I V ((4*k+t:Nat):Int)/\q=I V (t:Int)/\aL w wq) (fun _ q _=>4-(intOf q).toNat)
   case atStart=>exact⟨0,by omega,rfl,rfl,hG⟩
   case round=>
    clear hG d4 d5 e1;obtain⟨t,ht,rfl,rfl,hG⟩:=hrel;by_cases Vu:t<4
    ·have hil:4*k+t<hs.length:=(by rw[HL.out];omega);obtain⟨x,hx⟩:∃x,hs[4*k+t]?=M x:=⟨_,Aag hil⟩;obtain⟨g,rfl,eg⟩:=HP.out _ _ hx;obtain⟨rx,hxl⟩:=HH.out _ _ hx;rw[show(4*k+t) / 4=k from by omega]at rx;obtain⟨xo,xn,xc⟩:=x;simp only at eg rx hxl;have HR:Hid (Aw w xo (List.replicate xn (uO k))):=rx.1;clear rx hx;have j1:(0:Int)<=((4*k+t:Nat):Int):=(by omega);have j2:((4*k+t:Nat):Int)<(hs.length:Int):=(by omega);have j3:hs.length<=8000000:=(by rw[HL.out];omega);have ht4:(t:Int)<4:=(by omega);generalize hy:4*k+t=y at eg j1 j2 hil ⊢;have HY:Hid (4*k+t=y):=hy;clear hy hil;go_wp2_with fail
     go_loopw [9] (fun j wj=> ∃s:Nat,s<=xn/\j=I V (s:Int)/\aL w wj) (fun j _=>xn-(intOf j).toNat)
     case atStart=>exact⟨0,by omega,rfl,hG⟩
     case round=>
      clear hG;obtain⟨s,Si,rfl,hG⟩:=hrel;have d4:=hG.cell k4;have dg:=hG.cell eg;by_cases hsl:s<xn
      ·obtain⟨pb,po,rfl,q1,q2⟩:∃b off,xo=M ⟨b,off,O⟩/\w.cell? ⟨b,off+s*2,O⟩=M (I V (-((k:Int)+1)))/\w.cell? ⟨b,off+s*2+1,O⟩=M (.string uK):=by
        obtain⟨b,off,e,h1,h2⟩:=HR.out.at (i:=s) (f:=uO k) (by simp[hsl]);exact⟨b,off,e,h1,h2⟩
       have r1:=hG.cell q1;have r2:=hG.cell q2;have s1:(0:Int)<=(s:Int):=(by omega);have s2:(s:Int)<(xn:Int):=(by omega);clear k4 k5 q1 q2 eg;go_wp2_with fail
       go_region_held3 (fun w'=>w'.cell? ⟨wb,4,O⟩=M (Z (M ⟨g,0,O⟩) hs.length cp)/\w'.cell? ⟨g,y,O⟩=M (Z (M ⟨pb,po,O⟩) xn xc)/\w'.cell? ⟨pb,po+s*2,O⟩=M (I V (-((k:Int)+1)))/\w'.cell? ⟨pb,po+s*2+1,O⟩=M (.string uK)/\aL w w')
        (first|(go_split_ands;refine⟨?_,?_,?_,?_,?_⟩<;>first|assumption|go_keep|(exact AaB (by assumption) (by assumption))|(exact aL.drew (by assumption))|(exact aL.more (by assumption) (by assumption))))
        (first|(go_at_call 75;refine(fu (by omega)).mono ?_;rintro e w5 ⟨rfl,nJ⟩))
       all_goals go_wp2_with fail
       all_goals go_roundw
       case rel=>exact⟨s+1,by omega,by go_num,by go_split_ands;assumption⟩
       case measure=>simp[intOf];omega
      ·go_wp2_with fail;go_roundw
       case rel=>exact⟨t+1,by omega,by rw[<-HY.out];go_num,by go_num,hG⟩
       case measure=>simp[intOf];omega
    ·have ht4:t=4:=(by omega);subst ht4;go_wp2_with fail;go_roundw
     case rel=>exact⟨k+1,by omega,by go_num,by go_num,hG⟩
     case measure=>simp[intOf];omega
  ·go_wp2_with fail;go_ret;exact⟨rfl,hG⟩
theorem jQ.image {w1:F}{rs:List iV}{D:Int}(h:jQ w B wb rs c D lG vf vm hs)(hg:aL w w1)(hao:∀a,ao=M a->w.heap.size<=a.block)(hd:Vo w1 w' B wb c lG vf vm hs ao):
 Below B w w'/\∃vf' Ye Si,jQ w' B wb rs (c+1) D lG vf' Ye Si:=by
 obtain⟨XC,Ye,h4,e4,k1,k2,k3,k4,kF,kB⟩:=hd;have bP:=h.lt;have hle:w.heap.size<=w1.heap.size:=hg.size
 have F0:Fr w w' (fun b=>b=wb\/vf.ownBlock=M b\/vm.ownBlock=M b):=by
  refine⟨Aam hle kF.1,fun b hb hn=>?_⟩;rw[kF.2 b (by omega) (fun e=>?_)]
  ·exact hg.block b hb
  ·rcases e with e|⟨a,ea,e⟩|e|e
   ·exact hn (Aac e)
   ·have:=hao a ea;omega
   ·exact hn (Aab (Aac e))
   ·exact hn (Aab (Aab e))
 have vV:∀b,(b=wb\/vf.ownBlock=M b\/vm.ownBlock=M b)->∃aS t,w.heap[b]?=M (C aS t (0,0))/\(t=71\/t=54\/t=3):=by
  rintro b (rfl|e|e)
  ·exact⟨_,_,h.zY,Aac rfl⟩
  ·obtain⟨c1,wY⟩:=jK h.fs e;exact⟨_,_,wY,Aab (Aac rfl)⟩
  ·obtain⟨c1,wY⟩:=jK h.ms e;exact⟨_,_,wY,Aab (Aab rfl)⟩
 have no:∀ {b:Nat} {aS:Array Y} {t:TypeId} {mk:Nat×Nat},w.heap[b]?=M (C aS t mk)->t≠71->t≠54->t≠3->¬(b=wb\/vf.ownBlock=M b\/vm.ownBlock=M b):=by
  intro b aS t mk hb t1 t2 t3 e;obtain⟨c1,u,wY,hu⟩:=vV b e;rw[hb]at wY;cases wY
  rcases hu with e|e|e
  ·exact t1 e
  ·exact t2 e
  ·exact t3 e
 refine⟨⟨kB.os.trans hg.os,kB.tape.trans hg.tape,kB.output.trans hg.output,Aam hle kB.size,fun b hb=>(kB.block b hb).trans (hg.block b (by omega))⟩,XC,Ye,hs++h4,?_⟩;refine⟨by rw[k1];simp,h.wbn,bK h.ss F0 (fun g aS _ e=>no e (by decide) (by decide) (by decide)),fun r hr=>?_,h.cK,h.apart,k2,by rw[Aah,h.len,e4];omega,?_,k3⟩
 ·refine(h.pair r hr).fr F0 (fun b hb=>?_) (no (h.pair r hr).sb (by decide) (by decide) (by decide)) (fun b hb e=>?_)
  ·obtain⟨c1,u,wY,hu⟩:=vV b hb;refine⟨c1,u,_,wY,?_⟩;rcases hu with rfl|rfl|rfl<;>decide
  ·obtain⟨c1,u,wY,hu⟩:=vV b e;refine((h.pair r hr).ty hb).ne wY ?_;rcases hu with rfl|rfl|rfl<;>decide
 ·intro i x hx;by_cases hi:i<hs.length
  ·rw[Abt hi]at hx;have q:=h.held i x hx;refine⟨q.1.fr F0 (fun a e=>?_),q.2⟩;obtain⟨aS,hc⟩:=q.1.2 a e;exact no hc (by decide) (by decide) (by decide)
  ·rw[AaR (by omega)]at hx;have hm:=Aai hx;have hl:=(Aae.1 hx).1;have e5:i / 4=c:=(by have:=h.len;omega);rw[e5];exact k4 x hm
theorem fw {rs:List iV}{D:Int}{r:iV}(h:jQ w B wb rs c D lG vf vm hs)(hr:r∈rs)(hc:c<=2000000):
 H K 71 #[U (M ⟨wb,0,O⟩),U (M ⟨r.sb,0,O⟩)] w fun e w'=>e=G (.bool true)/\Below B w w'/\∃vf' Ye Si,jQ w' B wb rs (c+1) D lG vf' Ye Si:=by
 have hP:=h.pair r hr;have hS:=h.cK r hr;have hI:=ximage hP.q hS.bk;obtain⟨p0,p1⟩:=kW hP.sb;obtain⟨rx,hx,hf,-⟩:=hP.y;have c3:=jR hx;obtain⟨⟨fo,fl,fc⟩,PK⟩:∃f,f=r.f:=⟨_,rfl⟩;rw[<-PK]at hf c3;obtain⟨Gx,Ii,Iq⟩:=hf;simp only at Gx Ii Iq;subst Ii;simp only[bS.v]at c3;have hlen:=hS.bk.len;have HI:Hid (jQ w B wb rs c D lG vf vm hs):=h;have HF:Hid (Vy w fo r.x.2.1):=Gx;have hBl:=h.lt;generalize r.x.2.1=fs at*;clear h hr hP hS hx Gx Iq PK;go_enter func71,ntmps71;go_upto_region 2 with(go_at_call 34;refine hI.mono ?_;rintro e w1 ⟨g,rfl,bD,iJ⟩);have q1:=iJ.cell p1;have q3:=iJ.cell c3;obtain⟨PL,Ja,ev1,rd1,-,EZ,-⟩:=iB.rdh bD;rw[AbL]at ev1;cases ev1
 have HO:Hid (iB w1 w.heap.size (Z (M ⟨g,0,O⟩) fs.length fs.length) (fs.map (fun f=>(f.1,f.2.1)))):=bD;have Zt:Hid (Aw w1 (M ⟨g,0,O⟩) (fs.map (fun f=>(f.1,f.2.1)))):=rd1.1;have Zg:=(EZ _ rfl).1;simp only at Zg;have yJ:Hid (aL w w1):=iJ;have HF1:Hid (Vy w1 fo fs):=HF.out.aN iJ;have XT:((fs.length:Int)==(fs.length:Int))=true:=by simp
 clear hI p0 p1 c3 bD rd1 EZ iJ;go_wp2_with fail
 go_loopw [6,7] (fun o i wr=> ∃k:Nat,k<=fs.length/\o= .bool true/\i=I V (k:Int)/\Hid (aL w1 wr)) (fun _ i _=>fs.length-(intOf i).toNat)
 case atStart=>exact⟨0,Aap _,by simp,rfl,aL.refl w1⟩
 case round=>
  obtain⟨k,hk,rfl,rfl,HG⟩:=hrel;by_cases bP:k<fs.length
  ·obtain⟨f,XH⟩:∃f,fs[k]?=M f:=⟨_,Aag bP⟩
   obtain⟨y1,y2⟩:w1.cell? ⟨g,k*2,O⟩=M (I V f.1)/\w1.cell? ⟨g,k*2+1,O⟩=M (.string f.2.1):=by
    obtain⟨b,off,e,h1,h2⟩:=Zt.out.at (i:=k) (f:=(f.1,f.2.1)) (by simp[XH]);cases e
    rw[Ach]at h1 h2;exact⟨h1,h2⟩
   obtain⟨b,off,rfl,y3,y4,-⟩:=HF1.out.at XH;have y1:=HG.out.cell y1;have y2:=HG.out.cell y2;have y3:=HG.out.cell y3;have y4:=HG.out.cell y4;have z1:=HG.out.cell q1;have z3:=HG.out.cell q3;have i1:(0:Int)<=(k:Int):=(by omega);have i2:(k:Int)<(fs.length:Int):=(by omega);obtain⟨fn,fb,fz⟩:=f;simp only at y1 y2 y3 y4;have b1:(fn==fn)=true:=(by simp);clear XH q1 q3;go_upto_region 6 with fail;go_quiet (fail);go_wp2_with fail;go_roundw
   case rel=>exact⟨k+1,by omega,rfl,by go_num,bB HG.out _⟩
   case measure=>simp[intOf];omega
  ·have HN:Hid (jQ wr B wb rs c D lG vf vm hs):=HI.out.aN (aQ yJ.out HG.out)
   have HH:=SB (ao:=M ⟨g,0,O⟩) (l:=fs.map (fun f=>(f.1,f.2.1))) HN.out.zY HN.out.wbn HN.out.fs HN.out.len HN.out.ms (by
    have q:=(HO.out.aN HG.out).weak (B:=B) (by omega);rw[AbL];exact q) hc (by rw[AbL];omega)
   rw[AbL]at HH;go_wp2_with (go_at_call 110;refine HH.mono ?_;rintro e w5 ⟨rfl,hd⟩);go_ret;exact⟨rfl,HI.out.image (aQ yJ.out HG.out) (fun a e=>by cases e;exact Zg) hd⟩
theorem gu {c n:Int}(wY: -9223372036854775808<=c)(Wn:c<=9223372036854775807)(hn:1<=n)(Ox:n<=9223372036854775807):
 ∃p:Nat,(p:Int)<n/\∀w:F,H K 68 #[I V c,I V n] w fun e w'=>e=G (I V (p:Int))/\w'=w:=by
 by_cases h0:c<0
 ·have Mg:(n==0)=false:=by simp;omega
  have h1:=tmod_in (c:= -(c+1)) (n:=n) (by omega) hn;refine⟨((-(c+1)).tmod n).toNat,by omega,fun w=>?_⟩;have h2:((((-(c+1)).tmod n).toNat:Nat):Int)=(-(c+1)).tmod n:=Int.toNat_of_nonneg h1.1;rw[h2];have HX:Hid (0<=(-(c+1)).tmod n/\(-(c+1)).tmod n<n):=h1;clear h1 h2;go_enter func68,ntmps68
  go_wp2
  go_ret;refine⟨?_,rfl⟩
  first
   |rfl
   |(rw[<-Int.neg_tmod];rfl)
 ·have Mg:(n==0)=false:=by simp;omega
  have h1:0<=c % n/\c % n<n:=⟨Int.emod_nonneg _ (by omega),Int.emod_lt_of_pos _ (by omega)⟩;refine⟨(c % n).toNat,by omega,fun w=>?_⟩;have h2:(((c % n).toNat:Nat):Int)=c % n:=Int.toNat_of_nonneg h1.1;rw[h2];clear h1 h2;go_enter func68,ntmps68
  go_wp2
  go_ret;exact⟨rfl,rfl⟩
theorem ba_ext {a b:ByteArray}(h:a.data.toList=b.data.toList):a=b:=by
 obtain⟨⟨a⟩⟩:=a;obtain⟨⟨b⟩⟩:=b;simp only at h;rw[h]
end Go.Proofs.YtfplgfodoiiobaaGreatDoor
