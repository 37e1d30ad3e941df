/- a part of the proof. -/
import Derived.Test.YtfplgfodoiiobabGreatDoorJ01
import Derived.Test.YtfplgfodoiiobabGreatDoorJ02
import Derived.Test.YtfplgfodoiiobabGreatDoorJ03
import Derived.Test.YtfplgfodoiiobabGreatDoorJ04
open Option renaming none->O,some->M
open Go.Value renaming int->I,slice->Z,pointer->U
open Go.IntKind renaming i64->V
open Go.Obj renaming cells->C
open Go.Ending renaming returned->G
open Go renaming World->F,Value->Y,Calls->H
open Go.Proofs.Tryz renaming prog→K
open Go.Proofs.Tryz
namespace Go.Proofs.YtfplgfodoiiobabGreatDoor
open Go.RowKit
open Go.RowKit Go.Extern.Stop Go.Stop Go.Extern
variable {w wk p_ W w':F}{g k B n N b xn xc d xb cap D lp i mb rs:Nat}{v e x y:Y}{ps:Nat->Addr}{st Py:Option (List UInt8)}{l l':List UInt8}{lo hi size c q:Int}{aR:Array Y}{s:Sc}{ops:Array Oper}{o:Oper}{a:Act}{Q:Exit->Act->F->Prop}{fs:List bD}{f:Nat×Nat}{xo ao:Option Addr}{S:ByteArray}{r:Sn}{out:List (Int×Int)}{res:List (Int×Int)×Option (List UInt8)}{aA:Act->F->Prop}{E:Prop}
theorem Pv.ne {t T:TypeId}(h:Pv t)(hT:T∈UG):t≠T:=λe=>h (by rw[e];exact hT)
structure Gl (w:F)(ps:Nat->Addr):Prop where
 yQ:Yq w ps
 box:∀k,k<5->∃c t,w.heap[(ps k).block]?=M (C c t (0,0))/\Pv t
 errT:w.heap[5]?=M (C #[.iface 295 (.agg #[U (M ⟨9,119,O⟩)])] 270 (0,0))
 tab:w.heap[6]?=M (C (Lib.pow10Tab.map λz=>Value.int .u64 z).toArray 327 (0,0))
def qP (w:F)(ps:Nat->Addr):Nat->Y->Nat->Prop
 |0,v,k=>v=jQ (ps k)
 |d+1,v,k=>(∃b nm num x,v= .iface 278 (U (M ⟨b,0,O⟩))/\w.heap[b]?=M (C #[.string nm,I V num,x] 280 (0,0))/\qP w ps d x k)\/
  ∃b nm x,v= .iface 206 (U (M ⟨b,0,O⟩))/\w.heap[b]?=M (C #[.string nm,x] 208 (0,0))/\qP w ps d x k
theorem qP.iface (h:qP w ps d v k):∃t b,v= .iface t (U (M b)):=by
 cases d with
 |zero=>exact⟨_,_,h⟩
 |succ d=>
  rcases h with⟨b,a,num,x,e,-⟩|⟨b,a,x,e,-⟩
  ·exact⟨_,_,e⟩
  ·exact⟨_,_,e⟩
def lS (w:F)(ps:Nat->Addr)(D:Nat)(v:Y)(c:Int):Prop:=(c=0/\v= .nilIface)\/∃d k,d<=D/\k<5/\c=Wd k/\qP w ps d v k
theorem BP.chain (h:BP w ps v k):qP w ps 1 v k:=by
 obtain⟨b,c,num,e,a⟩:=h;exact Aac ⟨b,c,num,_,e,a,rfl⟩
theorem ErrD.wG (h:ErrD w ps v c):lS w ps 1 v c:=by
 rcases h with⟨a,b⟩|⟨a,b⟩|⟨a,b⟩
 ·exact Aac ⟨a,b⟩
 ·exact Aab ⟨1,0,Aak _,by omega,a,b.chain⟩
 ·exact Aab ⟨1,1,Aak _,by omega,a,b.chain⟩
theorem lS.no (h:lS w ps D v 0):v= .nilIface:=by
 rcases h with h|⟨d,k,-,-,e,-⟩
 ·exact h.2
 ·exact absurd e.symm (code_ne k)
theorem lS.yes (h:lS w ps D v c)(hc:c≠0):∃t b,v= .iface t (U (M b)):=by
 rcases h with h|⟨d,k,-,-,e,h⟩
 ·exact absurd h.1 hc
 ·exact h.iface
structure qB (N:Nat)(s:Sc)(fs:List bD):Prop where
 dJ:iX s
 Ef:0<=s.after
 inv:gH s.room fs
 len:fs.length<=N
theorem Wh (f:bD):∀l:List bD,(jA l f).length<=l.length+1
 | []=>by simp[jA]
 |g::r=>by
  unfold jA;split
  ·simp
  ·split
   ·simp
   ·have:=Wh f r;simp;omega
theorem Wi (W:F)(s:ByteArray):∃cap w1,(convert 9 170 (.string s)).run K W= .ok (Z (M ⟨W.heap.size,0,O⟩) s.size cap) w1/\pX w1 (M ⟨W.heap.size,0,O⟩) s.data.toList/\(∃aR f,w1.heap[W.heap.size]?=M (C aR 5 f))/\aL W w1:=by
 refine⟨_,_,Lib.run_convert_string_bytes W 9 170 5 s underlying9 underlying170 underlying5,?_,⟨_,_,Lib.bytesWorld_at_new W 5 s⟩,?_⟩
 ·refine Aab ⟨_,0,rfl,λi x a=>?_⟩;obtain⟨e,g⟩:=Aae.1 a;have c:i<s.size:=by simpa using e
  have:=Lib.bytesWorld_cell W 5 s i c;rw[Ach,this];simp only[AbD,a,Acy]
 ·refine⟨rfl,rfl,rfl,by rw[AdE];omega,λk d=>Lib.bytesWorld_at_old W 5 s k d⟩
def oQ (w w':F)(ps:Nat->Addr)(db:Nat)(fv:Y)(rs:List FR)(D:Nat)(v:Y)(r:Int×Sc×List bD):Prop:=
 ∃eD dY,aU w' db r.2.1 eD dY/\plain dY=r.2.2/\Dk w w' (DX db fv rs) (DX db eD dY)/\lS w' ps D v r.1
theorem qR (q d a b c:Int):(fV q d a b c).size=22:=by
 unfold fV;rw[Ady,Vf];simp[strOfNums,iG,ByteArray.size]
theorem Wl.aN {W':F}{bx db:Nat}{ep a b:Int}(h:Wl W lp bx db ep q a b c)(hg:aL W W'):Wl W' lp bx db ep q a b c:=
 ⟨(hg.block _ (aM h.1)).trans h.1,(hg.block _ (aM h.2)).trans h.2⟩
theorem Ro (f:bD):∀l:List bD,vY l->(∃g∈l,g.1=f.1)->(jA l f).length=l.length
 | [],_,h=>by obtain⟨g,hg,-⟩:=h;simp at hg
 |g::r,hs,h=>by
  unfold vY at hs;rw[List.pairwise_cons]at hs;obtain⟨x,a,c⟩:=h;unfold jA;split
  ·rename_i j;rcases List.mem_cons.1 a with rfl|a
   ·omega
   ·have:=hs.1.1 x a;omega
  ·split
   ·simp
   ·rename_i i e;rcases List.mem_cons.1 a with rfl|a
    ·exact absurd c e
    ·have:=Ro f r ⟨hs.1.2,λy d=>hs.2 y (List.mem_cons_of_mem _ d)⟩ ⟨x,a,c⟩;simp[this]
def zP (w:F)(g:Nat)(l:List UInt8)(bf:Int):Prop:=∃(b off c:Nat),w.heap[g]?=M (rgB (M ⟨b,off,O⟩) l.length c bf .nilIface)/\l.length<=c/\pX w (M ⟨b,off,O⟩) l/\∃aR f,w.heap[b]?=M (C aR 5 f)
def Wn (w:F)(g:Nat)(bf:Int)(ps:Nat->Addr):Prop:=∃(ao:Option Addr) (n c t:Nat) (b:Addr),w.heap[g]?=M (rgB ao n c bf (.iface t (U (M b))))/\lS w ps 1 (.iface t (U (M b))) 11
def eG (w:F)(g:Nat)(st:Option (List UInt8))(bf:Int)(ps:Nat->Addr):Prop:=match st with
 |some l=>zP w g l bf
 |none=>Wn w g bf ps
theorem eG.wX {bf:Int}(h:eG w g st bf ps):∃aR,w.heap[g]?=M (C aR 253 (0,0)):=by
 cases st with
 |some l=>obtain⟨b,off,c,a,-⟩:=h;exact⟨_,a⟩
 |none=>obtain⟨d,n,c,t,b,a,-⟩:=h;exact⟨_,a⟩
def aT (lo hi:Int):Option (List UInt8)->Int×Option (List UInt8)
 |none=>(0,O)
 |some l=>if l.length<4 then (0,O)else if iJ l<lo\/hi<iJ l then (0,O)else (iJ l,M (l.drop 4))
theorem zP.cells {bf:Int}(h:zP w g l bf):∃b off c,w.cell? ⟨g,0,O⟩=M (Z (M ⟨b,off,O⟩) l.length c)/\w.cell? ⟨g,1,O⟩=M (I V bf)/\w.cell? ⟨g,2,O⟩=M .nilIface/\l.length<=c/\w.frozen? ⟨g,0,O⟩=false/\pX w (M ⟨b,off,O⟩) l:=by
 obtain⟨b,off,c,d,i,a,-⟩:=h;obtain⟨j,k,n,e⟩:=mU d;exact⟨b,off,c,j,k,n,i,e 0,a⟩
theorem Wn.cells {bf:Int}(h:Wn w g bf ps):∃ao n c t b0,w.cell? ⟨g,0,O⟩=M (Z ao n c)/\w.cell? ⟨g,1,O⟩=M (I V bf)/\w.cell? ⟨g,2,O⟩=M (.iface t (U (M b0))):=by
 obtain⟨ao,n,c,t,b0,a,-⟩:=h;obtain⟨d,e,i,j⟩:=mU a;exact⟨ao,n,c,t,b0,d,e,i⟩
def vC (bf:Int)(l:List UInt8):(Int×Int)×Option (List UInt8):=
 (((aT 0 bf (M l)).1,(aT 1 5000 (aT 0 bf (M l)).2).1),jB (decide ((aT 0 bf (M l)).1+(aT 1 5000 (aT 0 bf (M l)).2).1<=bf)) (aT 1 5000 (aT 0 bf (M l)).2).2)
def wH (bf:Int):Nat->List (Int×Int)->List UInt8->Option (List (Int×Int)×List UInt8)
 |0,out,l=>M (out,l)
 |k+1,out,l=>match (vC bf l).2 with
  |none=>O
  |some l'=>wH bf k (out++ [(vC bf l).1]) l'
def Nc:Option (List (Int×Int)×List UInt8)->List (Int×Int)×Option (List UInt8)
 |none=>([],O)
 |some q=>(q.1,jB (decide (sz q.1<=5000)) (M q.2))
def aS (bf:Int)(st:Option (List UInt8)):List (Int×Int)×Option (List UInt8):=match (aT 0 4096 st).2 with
 |none=>([],O)
 |some l=>Nc (wH bf (aT 0 4096 st).1.toNat [] l)
def FM (bf:Int)(N k:Nat)(out:List (Int×Int))(Py:Option (List UInt8))(res:List (Int×Int)×Option (List UInt8)):Prop:=
 (Py=O->N=0/\out=[]/\res=([],O))/\∀l,Py=M l->res=Nc (wH bf (N-k) out l)
theorem FM.done {bf:Int}(h:FM bf N N out Py res):res=(out,jB (decide (sz out<=5000)) Py):=by
 cases Py with
 |none=>obtain⟨-,rfl,e⟩:=h.1 rfl;rw[e];simp[sz,jB]
 |some l=>have:=h.2 l rfl;rw[AcW]at this;exact this
theorem FM.next {bf:Int}(h:FM bf N k out (M l) res)(hk:k<N):((vC bf l).2=O->res=([],O))/\∀l',(vC bf l).2=M l'->FM bf N (k+1) (out++ [(vC bf l).1]) (M l') res:=by
 have:=h.2 l rfl;rw[show N-k=(N-(k+1))+1 from by omega,wH]at this;refine⟨λe=>?_,λl' e=>⟨λa=>(by cases a),λc a=>?_⟩⟩
 ·rw[e]at this;exact this
 ·cases a;rw[e]at this;exact this
theorem zF (lo hi:Int)(st:Option (List UInt8)):0<=(aT lo hi st).1/\(aT lo hi st).1<4294967296:=by
 cases st with
 |none=>simp[aT]
 |some l=>
  have:=mJ l;simp only[aT];split
  ·simp
  ·split
   ·simp
   ·exact this
theorem wY (h:(aT lo hi st).2=M l):lo<=(aT lo hi st).1/\(aT lo hi st).1<=hi/\∃l0,st=M l0/\4<=l0.length/\(aT lo hi st).1=iJ l0/\l=l0.drop 4:=by
 cases st with
 |none=>simp[aT]at h
 |some l0=>
  simp only[aT]at h ⊢;split at h
  ·simp at h
  ·rename_i a;split at h
   ·simp at h
   ·rename_i c;rw[Aaa a,Aaa c];simp at h;exact⟨by omega,by omega,l0,rfl,by omega,rfl,h.symm⟩
theorem Wo {bf:Int}(h:(vC bf l).2=M l'):0<=(vC bf l).1.1/\1<=(vC bf l).1.2/\(vC bf l).1.2<=5000/\(vC bf l).1.1+(vC bf l).1.2<=bf:=by
 unfold vC at h ⊢;simp only[jB]at h;split at h
 ·rename_i a;have c:=wY h;have:=zF 0 bf (M l);simp only at a ⊢;exact⟨this.1,c.1,c.2.1,Acu a⟩
 ·cases h
theorem eG.bf {bf:Int}(h:eG w g st bf ps):w.cell? ⟨g,1,O⟩=M (I V bf):=by
 cases st with
 |none=>obtain⟨_,_,_,_,_,-,h,-⟩:=Wn.cells h;exact h
 |some l=>obtain⟨_,_,_,-,h,-⟩:=zP.cells h;exact h
theorem Og.own {wr w5:F}{t:TypeId}{cs:List Y}{o:Obj}(hO:Og w wr g)(hB:w.heap.size<=B)(bB:wr.ownsRow B t n v k cs)(hg:(wr.alloc o).grownBy w5 v.ownBlock):Og w w5 g:=by
 have a:=mM hg;obtain⟨⟨h,r⟩,i,u,j⟩:=hO;refine⟨⟨Aal h a.size,λb d c=>?_⟩,a.os.trans i,a.tape.trans u,a.output.trans j⟩;rw[<-r b d c];refine a.block b (AaE d h) (λe=>?_);have:=(AaB bB b e.symm).1;omega
def wJ (bf:Int)(l:List UInt8):Ed×Option (List UInt8):=
 (((aT 0 5000 (M l)).1,(aS bf (aT 0 5000 (M l)).2).1,(aS bf (aS bf (aT 0 5000 (M l)).2).2).1),(aS bf (aS bf (aT 0 5000 (M l)).2).2).2)
def yR (bf:Int):Nat->List Ed->List UInt8->Option (List Ed×List UInt8)
 |0,out,l=>M (out,l)
 |k+1,out,l=>match (wJ bf l).2 with
  |none=>O
  |some l'=>yR bf k (out++ [(wJ bf l).1]) l'
def FN:Option (List Ed×List UInt8)->List Ed×Option (List UInt8)
 |none=>([],O)
 |some q=>(q.1,M q.2)
def bA (bf:Int)(st:Option (List UInt8)):List Ed×Option (List UInt8):=match (aT 0 50 st).2 with
 |none=>([],O)
 |some l=>FN (yR bf (aT 0 50 st).1.toNat [] l)
def NA (bf:Int)(N k:Nat)(out:List Ed)(Py:Option (List UInt8))(res:List Ed×Option (List UInt8)):Prop:=
 (Py=O->N=0/\out=[]/\res=([],O))/\∀l,Py=M l->res=FN (yR bf (N-k) out l)
theorem NA.done {bf:Int}{out:List Ed}{res:List Ed×Option (List UInt8)}(h:NA bf N N out Py res):res=(out,Py):=by
 cases Py with
 |none=>obtain⟨-,rfl,e⟩:=h.1 rfl;exact e
 |some l=>have:=h.2 l rfl;rw[AcW]at this;exact this
theorem NA.next {bf:Int}{out:List Ed}{res:List Ed×Option (List UInt8)}(h:NA bf N k out (M l) res)(hk:k<N):((wJ bf l).2=O->res=([],O))/\∀l',(wJ bf l).2=M l'->NA bf N (k+1) (out++ [(wJ bf l).1]) (M l') res:=by
 have:=h.2 l rfl;rw[show N-k=(N-(k+1))+1 from by omega,yR]at this;refine⟨λe=>?_,λl' e=>⟨λa=>(by cases a),λc a=>?_⟩⟩
 ·rw[e]at this;exact this
 ·cases a;rw[e]at this;exact this
theorem CJ (e:(aT lo hi st).2=O):(aT lo hi st).1=0:=by
 cases st with
 |none=>simp[aT]
 |some l=>
  simp only[aT]at e ⊢;split
  ·rfl
  ·rename_i a;rw[Aaa a]at e;split
   ·rfl
   ·rename_i c;rw[Aaa c]at e;cases e
theorem Ub (h0:0<=hi)(st:Option (List UInt8)):(aT lo hi st).1<=hi:=by
 cases a:(aT lo hi st).2 with
 |some l=>exact(wY a).2.1
 |none=>rw[CJ a];exact h0
theorem YK {bf:Int}(hb:bf<=1000000000):∀(N:Nat) (out:List (Int×Int)) (l:List UInt8) (q:List (Int×Int)×List UInt8),fC out->wH bf N out l=M q->fC q.1/\q.1.length=out.length+N
 |0,out,l,q,h,e=>by simp[wH]at e;subst e;exact⟨h,rfl⟩
 |N+1,out,l,q,h,e=>by
  rw[wH]at e;cases hs:(vC bf l).2 with
  |none=>rw[hs]at e;cases e
  |some l'=>
   rw[hs]at e;obtain⟨q1,q2,q3,q4⟩:=Wo hs;obtain⟨c,d⟩:=YK hb N _ _ _ (iO h (λx a=>by simp at a;subst a;unfold nQ;omega)) e;exact⟨c,by rw[d];simp;omega⟩
theorem tN {bf:Int}(hb:bf<=1000000000)(st:Option (List UInt8)):fC (aS bf st).1/\(aS bf st).1.length<=4096/\∀l,(aS bf st).2=M l->sz (aS bf st).1<=5000:=by
 unfold aS;have k:=Ub (lo:=0) (hi:=4096) (by omega) st;split
 ·exact⟨λq a=>by simp at a,by simp,λl e=>by cases e⟩
 ·rename_i g i;cases d:wH bf (aT 0 4096 st).1.toNat [] g with
  |none=>exact⟨λq a=>by simp[Nc]at a,by simp[Nc],λl e=>by simp[Nc]at e⟩
  |some q=>
   obtain⟨c,h⟩:=YK hb _ _ _ _ wC d;refine⟨c,by simp only[Nc];rw[h];simp;omega,λl e=>?_⟩;simp only[Nc,jB]at e ⊢;split at e
   ·rename_i j;exact Acu j
   ·cases e
theorem FO (bf:Int):aS bf O=([],O):=rfl
theorem Fv (bf:Int):bA bf O=([],O):=rfl
def edOk (e:Ed):Prop:=0<=e.1/\(fC e.2.1/\fC e.2.2/\e.2.1.length<=10000/\e.2.2.length<=10000)
theorem red1_ok {bf:Int}(hb:bf<=1000000000)(l:List UInt8):edOk (wJ bf l).1:=by
 unfold wJ edOk;have a:=tN hb (aT 0 5000 (M l)).2;have c:=tN hb (aS bf (aT 0 5000 (M l)).2).2;exact⟨(zF _ _ _).1,a.1,c.1,by have:=a.2.1;simp only;omega,by have:=c.2.1;simp only;omega⟩
theorem YL {bf:Int}(hb:bf<=1000000000):∀(N:Nat) (out:List Ed) (l:List UInt8) (q:List Ed×List UInt8),(∀e∈out,edOk e)->yR bf N out l=M q->(∀e∈q.1,edOk e)/\q.1.length=out.length+N
 |0,out,l,q,h,e=>by simp[yR]at e;subst e;exact⟨h,rfl⟩
 |N+1,out,l,q,h,e=>by
  rw[yR]at e;cases hs:(wJ bf l).2 with
  |none=>rw[hs]at e;cases e
  |some l'=>
   rw[hs]at e
   obtain⟨h1,h2⟩:=YL hb N _ _ _ (λx a=>by
    rcases List.mem_append.1 a with a|a
    ·exact h x a
    ·simp at a;subst a;exact red1_ok hb l) e
   exact⟨h1,by rw[h2];simp;omega⟩
theorem Au {bf:Int}(hb:bf<=1000000000)(st:Option (List UInt8)):(∀e∈(bA bf st).1,edOk e)/\(bA bf st).1.length<=50:=by
 unfold bA;have k:=Ub (lo:=0) (hi:=50) (by omega) st;split
 ·exact⟨λq a=>by simp at a,by simp⟩
 ·rename_i g j;cases d:yR bf (aT 0 50 st).1.toNat [] g with
  |none=>exact⟨λq a=>by simp[FN]at a,by simp[FN]⟩
  |some q=>
   obtain⟨c,h⟩:=YL hb _ _ _ _ (λe i=>by simp at i) d;exact⟨c,by simp only[FN];rw[h];simp;omega⟩
theorem eG.rest {bf:Int}(h:eG w g st bf ps):∃ao n c,w.cell? ⟨g,0,O⟩=M (Z ao n c)/\(∀l,st=M l->n=l.length):=by
 cases st with
 |none=>obtain⟨ao,n,c,_,_,h,-⟩:=Wn.cells h;exact⟨ao,n,c,h,λl e=>by cases e⟩
 |some l=>obtain⟨b,off,c,h,-⟩:=zP.cells h;exact⟨_,_,_,h,λl e=>by cases e;rfl⟩
theorem Cy (W:F)(g:Nat)(a b c d e:Y):Fr W (((((W.setCell ⟨g,0,O⟩ a).setCell ⟨g,1,O⟩ b).setCell ⟨g,2,O⟩ c).setCell ⟨g,3,O⟩ d).setCell ⟨g,4,O⟩ e) (λb=>b=g):=
 ((((Fr.set W ⟨g,0,O⟩ a).trans (Fr.set _ ⟨g,1,O⟩ b)).trans (Fr.set _ ⟨g,2,O⟩ c)).trans (Fr.set _ ⟨g,3,O⟩ d)).trans (Fr.set _ ⟨g,4,O⟩ e)
theorem Fw (h:aL w wk)(ho:Og wk p_ g)(hg:w.heap.size<=g):aL w p_:=by
 obtain⟨⟨d,e⟩,j,i,c⟩:=ho;exact⟨j.trans h.os,i.trans h.tape,c.trans h.output,Aal h.size d,λb a=>(e b (AaE a h.size) (by omega)).trans (h.block b a)⟩
theorem Wq {sb:Nat}(hz:w.heap[sb]?=M (C aR 193 (0,0))):∀(b:Nat) (aR:Array Y) (t:TypeId) (f:Nat×Nat),w.heap[b]?=M (C aR t f)->t≠193->¬b=sb:=λ_ _ _ _ a c=>aZ a hz c
theorem YO {bf:Int}:∀(N:Nat) (out:List (Int×Int)) (l:List UInt8) (q:List (Int×Int)×List UInt8),uV bf out->wH bf N out l=M q->uV bf q.1
 |0,out,l,q,h,e=>by simp[wH]at e;subst e;exact h
 |N+1,out,l,q,h,e=>by
  rw[wH]at e;cases hs:(vC bf l).2 with
  |none=>rw[hs]at e;cases e
  |some l'=>
   rw[hs]at e;obtain⟨q1,q2,q3,q4⟩:=Wo hs;refine YO N _ _ _ (λp a=>?_) e;rcases List.mem_append.1 a with a|a
   ·exact h p a
   ·simp at a;subst a;exact⟨q2,q3,q1,q4⟩
theorem Ku {bf:Int}(h:(aS bf st).2=M l):uV bf (aS bf st).1/\sz (aS bf st).1<=5000/\∃l0,st=M l0:=by
 have c:∃l0,st=M l0:=by
  cases st with
  |none=>rw[FO]at h;cases h
  |some l0=>exact⟨l0,rfl⟩
 refine⟨?_,?_,c⟩
 ·unfold aS at h ⊢;split at h
  ·cases h
  ·cases a:wH bf (aT 0 4096 st).1.toNat [] _ with
   |none=>rw[a]at h;simp[Nc]at h
   |some q=>exact YO _ _ _ _ (tZ bf) a
 ·unfold aS at h ⊢;split at h
  ·cases h
  ·cases a:wH bf (aT 0 4096 st).1.toNat [] _ with
   |none=>rw[a]at h;simp[Nc]at h
   |some q=>
    rw[a]at h;simp only[Nc]at h ⊢;exact Acu (Nf h).1
theorem red_in {bf:Int}(h:(wJ bf l).2=M l'):0<=(wJ bf l).1.1/\uV bf (wJ bf l).1.2.1/\uV bf (wJ bf l).1.2.2:=by
 unfold wJ at h ⊢;simp only at h ⊢;obtain⟨a,-,e,d⟩:=Ku h;obtain⟨c,-,-⟩:=Ku d;exact⟨(zF _ _ _).1,c,a⟩
theorem YP {bf:Int}:∀(N:Nat) (out:List Ed) (l:List UInt8) (q:List Ed×List UInt8),(∀e∈out,0<=e.1/\uV bf e.2.1/\uV bf e.2.2)->yR bf N out l=M q->∀e∈q.1,0<=e.1/\uV bf e.2.1/\uV bf e.2.2
 |0,out,l,q,h,e=>by simp[yR]at e;subst e;exact h
 |N+1,out,l,q,h,e=>by
  rw[yR]at e;cases hs:(wJ bf l).2 with
  |none=>rw[hs]at e;cases e
  |some l'=>
   rw[hs]at e;refine YP N _ _ _ (λp hp=>?_) e;rcases List.mem_append.1 hp with hp|hp
   ·exact h p hp
   ·simp at hp;subst hp;exact red_in hs
theorem CR {bf:Int}(h:(bA bf st).2=M l):(∀e∈(bA bf st).1,0<=e.1/\uV bf e.2.1/\uV bf e.2.2)/\∃l0,st=M l0:=by
 have d:∃l0,st=M l0:=by
  cases st with
  |none=>rw[Fv]at h;cases h
  |some l0=>exact⟨l0,rfl⟩
 refine⟨?_,d⟩;unfold bA at h ⊢;split at h
 ·cases h
 ·cases a:yR bf (aT 0 50 st).1.toNat [] _ with
  |none=>rw[a]at h;simp[FN]at h
  |some q=>exact YP _ _ _ _ (λe c=>by simp at c) a
def Sv (m:dI)(depth:Nat):dI:=(m.1,m.2.1.take depth,m.2.2.1.take depth,m.2.2.2)
def wZ (w w':F)(v v':Y):Prop:=(Fr w w' (λb=>v.ownBlock=M b)/\(w'.os=w.os/\w'.tape=w.tape/\w'.output=w.output))/\∀b,v'.ownBlock=M b->v.ownBlock=M b\/w.heap.size<=b
def vO (r:Bool×Sc×List bD):Int×Sc×List bD:=(if r.1 then 0 else 10,r.2)
theorem qB.mono {N':Nat}(h:qB N s fs)(hN:N<=N'):qB N' s fs:=⟨h.dJ,h.Ef,h.inv,Aal h.len hN⟩
theorem Gb:∀ {f d:Nat} {v:Y},qP w ps d v k->d<f->QY w f v=d
 |0,_,_,_,h=>by omega
 |f+1,0,v,h,_=>by
  have e:v=jQ (ps k):=h;subst e;simp[QY,jQ]
 |f+1,d+1,v,h,hl=>by
  rcases h with⟨b,g,num,x,rfl,a,c⟩|⟨b,g,x,rfl,a,c⟩
  ·have:=Gb (f:=f) c (by omega);simp[QY,World.cell?,a,this];omega
  ·have:=Gb (f:=f) c (by omega);simp[QY,World.cell?,a,this];omega
theorem qP.shape:∀ {d:Nat} {v:Y},qP w ps d v k->∃t p,v= .iface t (U (M p))
 |0,_,h=>⟨_,_,h⟩
 |_+1,_,h=>by
  rcases h with⟨b,nm,num,x,rfl,-,-⟩|⟨b,nm,x,rfl,-,-⟩
  ·exact⟨_,_,rfl⟩
  ·exact⟨_,_,rfl⟩
theorem rlmz (z:Sem Y)(f:TypeId->Addr->Nat->Nat->Sem Y)(v:Y):
 ReflectliteValue.method z f #[v]=(do match <-ReflectliteValue.parts v with|none=>z|some (t,a,fl)=>f t a fl (fl % 32)):=rfl
theorem Tryz.isNilDD (a p:Addr)(W:F)(ha:W.cell? a=M (U (M p))):
 (ReflectliteValue.method (ReflectliteValue.valueError "reflectlite.Value.IsNil" 0) ReflectliteValue.isNil #[.agg #[U (M ⟨9,214,O⟩),U (M a),I .u64 150]]).run K W= .ok (.bool false) W:=by
 rw[rlmz];simp only[Aci,Tryz.partsDD,Result.andThen];simp[ReflectliteValue.isNil,loadVar,isAgg,underlying,underlying214,ha,Result.andThen]
theorem Tryz.elemVDD (a p:Addr)(W:F)(ha:W.cell? a=M (U (M p))):
 (ReflectliteValue.method (ReflectliteValue.valueError "reflectlite.Value.Elem" 0) ReflectliteValue.elem #[.agg #[U (M ⟨9,214,O⟩),U (M a),I .u64 150]]).run K W
  = .ok (.agg #[U (M ⟨9,212,O⟩),U (M p),I .u64 406]) W:=by
 rw[rlmz];simp only[Aci,Tryz.partsDD,Result.andThen];simp[ReflectliteValue.elem,loadVar,isAgg,underlying,underlying214,ha,Result.andThen,Tryz.elemOfDD,Tryz.mkD]
def JF (qp db:Nat)(fv:Y)(rs:List FR)(b:Nat):Prop:=b=qp\/DX db fv rs b
def Ud (qp db:Nat)(fv:Y)(rs:List FR)(sp lp dp tb:Nat)(b:Nat):Prop:=b=qp\/DX db fv rs b\/b=sp\/b=lp\/b=dp\/b=tb
def QTy (w:F)(b:Nat):Prop:=∃aR t mk,w.heap[b]?=M (C aR t mk)/\(t=155\/t=200\/t=202\/t=5\/t=115\/t=124\/t=157\/t=165\/t=104)
theorem QTy.ne (h:QTy w b){c:Nat}{t:TypeId}(hc:w.heap[c]?=M (C aR t f))(ht:t≠155/\t≠200/\t≠202/\t≠5/\t≠115/\t≠124/\t≠157/\t≠165/\t≠104):b≠c:=by
 obtain⟨z,A,x,i,r⟩:=h;refine aZ i hc ?_;rintro rfl;obtain⟨n,d,j,y,a,k,g,u,o⟩:=ht;rcases r with e|e|e|e|e|e|e|e|e
 ·exact n e
 ·exact d e
 ·exact j e
 ·exact y e
 ·exact a e
 ·exact k e
 ·exact g e
 ·exact u e
 ·exact o e
theorem wL (lo hi:Int)(l:List UInt8):aT lo hi (M l)=if l.length<4 then (0,O)else if iJ l<lo\/hi<iJ l then (0,O)else (iJ l,M (l.drop 4)):=rfl
theorem wM:((aT lo hi (M l)).2=O->(bI (l,false)).2.2=true\/(4<=l.length/\bI (l,false)=(iJ l,(l.drop 4,false))/\(iJ l<lo\/hi<iJ l)))/\∀l',(aT lo hi (M l)).2=M l'->bI (l,false)=((aT lo hi (M l)).1,(l',false))/\lo<=(aT lo hi (M l)).1/\(aT lo hi (M l)).1<=hi:=by
 unfold aT bI;by_cases a:l.length<4
 ·simp[a]
 ·by_cases c:iJ l<lo\/hi<iJ l
  ·simp[a,c];omega
  ·simp[a,c];omega
theorem nZ {p:Prop}[Decidable p](h:r.2=true):(fM p r).2=true:=by unfold fM;split<;>simp[h]
theorem rpc_sim:
 ((vC size l).2=O->(fM ((bI (bI (l,false)).2).1<1\/5000<(bI (bI (l,false)).2).1\/size<(bI (l,false)).1+(bI (bI (l,false)).2).1) (bI (bI (l,false)).2).2).2=true)/\
 ∀l',(vC size l).2=M l'->fM ((bI (bI (l,false)).2).1<1\/5000<(bI (bI (l,false)).2).1\/size<(bI (l,false)).1+(bI (bI (l,false)).2).1) (bI (bI (l,false)).2).2=(l',false)/\(vC size l).1=((bI (l,false)).1,(bI (bI (l,false)).2).1):=by
 have r:=mJ l;have t:=mJ (l.drop 4);by_cases d:l.length<4
 ·have e:bI (l,false)=(0,(l,true)):=by unfold bI;rw[Aad (Aab d)]
  have i:bI ((0:Int),((l,true):Sn)).2=(0,(l,true)):=Ci rfl;have c:aT 0 size (M l)=(0,O):=by rw[wL,Aad d]
  refine⟨λ_=>?_,λl' h=>?_⟩
  ·rw[e,i];exact nZ rfl
  ·unfold vC at h;rw[c]at h;simp[aT,jB]at h
 ·have e:bI (l,false)=(iJ l,(l.drop 4,false)):=by unfold bI;rw[Aaa (by simp;omega)]
  rw[e];simp only;by_cases j:(l.drop 4).length<4
  ·have i:bI (l.drop 4,false)=(0,(l.drop 4,true)):=(by unfold bI;rw[Aad (Aab j)]);rw[i];refine⟨λ_=>nZ rfl,λl' h=>?_⟩;exfalso;unfold vC at h;by_cases g:iJ l<0\/size<iJ l
   ·have c:aT 0 size (M l)=(0,O):=(by rw[wL,Aaa d,Aad g]);rw[c]at h;simp[aT,jB]at h
   ·have c:aT 0 size (M l)=(iJ l,M (l.drop 4)):=(by rw[wL,Aaa d,Aaa g]);have a:aT 1 5000 (M (l.drop 4))=(0,O):=(by rw[wL,Aad j]);rw[c]at h;simp only at h;rw[a]at h;simp[jB]at h
  ·have i:bI (l.drop 4,false)=(iJ (l.drop 4),((l.drop 4).drop 4,false)):=(by unfold bI;rw[Aaa (by simp only[AaF,false_or];omega)]);rw[i];simp only;unfold vC;by_cases g:iJ l<0\/size<iJ l
   ·have c:aT 0 size (M l)=(0,O):=(by rw[wL,Aaa d,Aad g]);rw[c];refine⟨λ_=>?_,λl' h=>?_⟩
    ·unfold fM;by_cases o:iJ (l.drop 4)<1
     ·rw[Aad (Aac o)]
     ·rw[Aad (by omega)]
    ·simp[aT,jB]at h
   ·have c:aT 0 size (M l)=(iJ l,M (l.drop 4)):=(by rw[wL,Aaa d,Aaa g]);rw[c];simp only;by_cases n:iJ (l.drop 4)<1\/5000<iJ (l.drop 4)
    ·have a:aT 1 5000 (M (l.drop 4))=(0,O):=(by rw[wL,Aaa j,Aad n]);rw[a];refine⟨λ_=>?_,λl' h=>?_⟩
     ·unfold fM;rw[Aad (by omega)]
     ·simp[jB]at h
    ·have a:aT 1 5000 (M (l.drop 4))=(iJ (l.drop 4),M ((l.drop 4).drop 4)):=(by rw[wL,Aaa j,Aaa n]);rw[a];simp only;by_cases k:iJ l+iJ (l.drop 4)<=size
     ·refine⟨λh=>?_,λl' h=>?_⟩
      ·simp[jB,k]at h
      ·unfold fM;rw[Aaa (by omega)];simp only[jB,k,decide_true,if_true,AaW]at h;exact⟨by rw[h],by first|rfl|trivial⟩
     ·refine⟨λh=>?_,λl' h=>?_⟩
      ·unfold fM;rw[Aad (by omega)]
      ·simp[jB,k]at h
theorem YX (size:Int):∀(k:Nat) (out:List (Int×Int)) (l:List UInt8),(∀q,wH size k out l=M q->∃t,q.1=out++t/\vM k size (l,false)=(t,(q.2,false)))/\(wH size k out l=O->(vM k size (l,false)).2.2=true)
 |0,out,l=>⟨λq h=>by simp[wH]at h;subst h;exact⟨[],by simp,rfl⟩,λh=>by simp[wH]at h⟩
 |k+1,out,l=>by
  obtain⟨h1,h2⟩:=rpc_sim (size:=size) (l:=l);rw[wH];unfold vM;rw[if_neg (by simp)];simp only;cases a:(vC size l).2 with
  |none=>
   refine⟨λq h=>by simp at h,λ_=>?_⟩;have:=h1 a;rw[Af _ _ _ this];exact this
  |some c=>
   obtain⟨d,e⟩:=h2 c a;rw[d];obtain⟨n,g⟩:=YX size k (out++ [(vC size l).1]) c;simp only;refine⟨λq h=>?_,λh=>g h⟩;obtain⟨t,j,i⟩:=n q h;refine⟨(vC size l).1::t,by rw[j];simp,?_⟩;rw[i,e]
theorem FZ:∀(l:List (Int×Int×Int)) (n:Int),n<=5000->(∀e∈l,0<=e.2.1)->(∃e∈l,5000<e.1)->mV l n=false
 | [],_,_,_,h=>by obtain⟨e,he,-⟩:=h;simp at he
 |(p,a,b)::l,n,hn,h0,h=>by
  unfold mV;by_cases c:n<p+a
  ·rw[if_pos c]
  ·rw[if_neg c];by_cases d:5000<n-a+b
   ·rw[if_pos d]
   ·rw[if_neg d];have i:=h0 _ List.mem_cons_self;simp only at i;refine FZ l _ (by omega) (λe he=>h0 e (List.mem_cons_of_mem _ he)) ?_;obtain⟨e,he,g⟩:=h;rcases List.mem_cons.1 he with rfl|he
    ·simp only at g;omega
    ·exact⟨e,he,g⟩
theorem vG (h:(aT lo hi (M l)).2=M l'):l'.length+4<=l.length:=by
 rw[wL]at h;split at h
 ·cases h
 ·split at h
  ·cases h
  ·simp only[AaW]at h;subst h;rw[AaX];omega
theorem Nk (h:(aT lo hi st).2=M l'):∃l,st=M l:=by
 cases st with
 |none=>simp[aT]at h
 |some l=>exact⟨l,rfl⟩
theorem NV:∀(k:Nat) (out:List (Int×Int)) (l:List UInt8) (q:List (Int×Int)×List UInt8),wH size k out l=M q->q.2.length<=l.length
 |0,out,l,q,h=>by simp[wH]at h;subst h;exact Nat.le_refl _
 |k+1,out,l,q,h=>by
  rw[wH]at h;cases hs:(vC size l).2 with
  |none=>rw[hs]at h;cases h
  |some l'=>
   rw[hs]at h;have h1:=NV k _ _ _ h;unfold vC jB at hs;simp only at hs;split at hs
   ·obtain⟨d,a⟩:=Nk hs;rw[a]at hs;have e:=vG hs;have c:=vG a;omega
   ·cases hs
theorem Gc (h:(aS size st).2=M l'):∃l,st=M l/\l'.length+4<=l.length:=by
 unfold aS at h;split at h
 ·cases h
 ·rename_i d c;obtain⟨l,rfl⟩:=Nk c;refine⟨l,rfl,?_⟩;have e:=vG c;cases a:wH size (aT 0 4096 (M l)).1.toNat [] d with
  |none=>rw[a]at h;cases h
  |some q=>
   rw[a]at h;simp only[Nc,jB]at h;split at h
   ·simp only[AaW]at h;subst h;have:=NV _ _ _ _ a;omega
   ·cases h
theorem NW:∀(k:Nat) (out:List Ed) (l:List UInt8) (q:List Ed×List UInt8),yR size k out l=M q->q.2.length<=l.length
 |0,out,l,q,h=>by simp[yR]at h;subst h;exact Nat.le_refl _
 |k+1,out,l,q,h=>by
  rw[yR]at h;cases hs:(wJ size l).2 with
  |none=>rw[hs]at h;cases h
  |some l'=>
   rw[hs]at h;have h1:=NW k _ _ _ h;unfold wJ at hs;simp only at hs;obtain⟨i,a,g⟩:=Gc hs;obtain⟨j,c,d⟩:=Gc a;have e:=vG c;omega
theorem Xc (h:(bA size st).2=M l'):∃l,st=M l/\l'.length+4<=l.length:=by
 unfold bA at h;split at h
 ·cases h
 ·rename_i d c;obtain⟨l,rfl⟩:=Nk c;refine⟨l,rfl,?_⟩;have e:=vG c;cases a:yR size (aT 0 50 (M l)).1.toNat [] d with
  |none=>rw[a]at h;cases h
  |some q=>
   rw[a]at h;simp only[FN,AaW]at h;subst h;have:=NW _ _ _ _ a;omega
theorem VD (h:(aS size st).2=M l'):sz (aS size st).1<=5000:=by
 unfold aS at h ⊢;split at h
 ·cases h
 ·rename_i d e;cases a:wH size (aT 0 4096 st).1.toNat [] d with
  |none=>rw[a]at h;cases h
  |some q=>
   rw[a]at h;simp only[Nc,jB]at h ⊢;split at h
   ·rename_i c;simpa using c
   ·cases h
structure BK (s:Sc)(fs:List bD):Prop where
 dJ:iX s
 Ef:0<=s.after
 inv:gH s.room fs
 len:fs.length<=50
def OC (fs:List bD)(e:Int):Prop:=∀f∈fs,f.1=1\/f.1=2\/f.1=10+e
theorem Gd (n:Int):∀ {l:List bD},l.Pairwise (λa b=>a.1<b.1)->l.length<=(l.filter (λf=>f.1 !=n)).length+1
 | [],_=>by simp
 |f::l,h=>by
  obtain⟨h1,h2⟩:=List.pairwise_cons.1 h;by_cases e:f.1=n
  ·have:l.filter (λf=>f.1 !=n)=l:=by
    rw[List.filter_eq_self];intro g c;have:=h1 g c;simp;omega
   rw[List.filter_cons_of_neg (by simp[e]),this];simp
  ·rw[List.filter_cons_of_pos (by simp[e])];have:=Gd n h2;simp only[List.length_cons];omega
theorem few4x {l:List bD}{e:Int}(hs:l.Pairwise (λa b=>a.1<b.1))(hn:∀f∈l,f.1=1\/f.1=2\/f.1=3\/f.1=10+e):l.length<=4:=by
 have x:=Gd 1 hs;have c:=hs.sublist (AbA (p:=λf:bD=>f.1 !=1));have y:=Gd 2 c;have g:=c.sublist (AbA (p:=λf:bD=>f.1 !=2));have w:=Gd 3 g;have n:=g.sublist (AbA (p:=λf:bD=>f.1 !=3));have d:=Gd (10+e) n
 have r:((((l.filter (λf:bD=>f.1 !=1)).filter (λf:bD=>f.1 !=2)).filter (λf:bD=>f.1 !=3)).filter (λf:bD=>f.1 !=10+e))=[]:=by
  rw[List.eq_nil_iff_forall_not_mem];intro f i;simp only[Abl,bne_iff_ne,ne_eq]at i;obtain⟨⟨⟨⟨t,o⟩,j⟩,k⟩,u⟩:=i;rcases hn f t with h|h|h|h
  ·exact o h
  ·exact j h
  ·exact k h
  ·exact u h
 rw[r]at d;simp only[AcD]at d;omega
theorem BK.dok (h:BK s fs):qB 50 s fs:=⟨h.dJ,h.Ef,h.inv,h.len⟩
theorem qB.bk (h:qB 50 s fs):BK s fs:=⟨h.dJ,h.Ef,h.inv,h.len⟩
theorem ZA {room:Int}(h:gH room fs){n:Int}(hz:(aP fs n).size=0):∀f∈fs,f.1≠n:=by
 intro f c e;rw[fP]at hz;cases a:gK fs n with
 |none=>
  unfold gK at a;rw[List.find?_eq_none]at a;exact a f c (by simp[e])
 |some g=>
  rw[a]at hz;exact h.sort.2 g (uQ a).1 hz
def AFc (f:AF):List Y:=[I V f.1,.string f.2]
def Ii (l:List AF):List Y:=l.flatMap AFc
theorem Db (a b:List AF):Ii (a++b)=Ii a++Ii b:=by simp[Ii]
def iM (w:F)(B:Nat)(v:Y)(l:List AF):Prop:=w.ownsRow B 95 2 v l.length (Ii l)
theorem bw_grew (w:F)(e:TypeId)(s:ByteArray):aL w (Lib.bytesWorld w e s):=
 ⟨by unfold Lib.bytesWorld World.freeze;split<;>rfl,by unfold Lib.bytesWorld World.freeze;split<;>rfl,by unfold Lib.bytesWorld World.freeze;split<;>rfl,by rw[AdE];omega,λj a=>Lib.bytesWorld_at_old w e s j a⟩
theorem ZF (h:Og w w' g){a:Addr}(hc:w.cell? a=M v)(hn:a.block≠g):w'.cell? a=M v:=
 (AaN (h.1.2 a.block (AaA _ _ hc) hn)).trans hc
theorem bw_own (w:F)(s:ByteArray)(hs:s.size<=maxLen):bL (Lib.bytesWorld w 5 s) w.heap.size (Z (M ⟨w.heap.size,0,O⟩) s.size (grownCap w s.size 0 5)) s.data.toList:=by
 have c:=grownCap_ge w s.size 0 5;have e:s.data.toList.length=s.size:=by simp
 have a:(Lib.bytesCells w 5 s).size=grownCap w s.size 0 5:=by
  unfold Lib.bytesCells;simp;omega
 refine Aab ⟨w.heap.size,_,_,_,by rw[e],Aak _,Lib.bytesWorld_at_new w 5 s,Aab rfl,by omega,grownCap_le_maxLen w _ _ _ hs,a,?_⟩;unfold Lib.bytesCells Js;rw[Ade,AbY (by simp),Aaq (by simp)];simp
theorem Xf (pQ:o.guard=O)(s x:Operand)
 (ho:o.op= .call { callee:= .builtin .append,args:=#[s,x],argTypes:=#[149,149] })
 (base:Nat)(v:Y)(n:Nat)(xs:List Y)(q:Y)(hs:a.eval s=v)(bB:w.ownsRow base 200 1 v n xs)(ad:Addr)(m c:Nat)(hx:a.eval x=Z (M ad) m c)(hm:m=1)(hr:w.cell? (ad.add 0)=M q)(hq:q.oneCell'=true)
 (hlen:n<=1000000)(gY:base<=w.heap.size)(db:Nat)(sc:Sc)(fv:Y)(Mh:w.heap[db]?=M (jO sc fv))(hnd:v.ownBlock≠M db)
 (h:∀nM mF w',w'.ownsRow base 200 1 (Z nM (n+1) mF) (n+1) (xs++ [q])->w.grownBy w' v.ownBlock->iK w v (Z nM (n+1) mF)->w'.cell? ⟨db,1,O⟩=M fv->w'.frozen? ⟨db,1,O⟩=false->aA (a.put o.dst (Z nM (n+1) mF)) w'):if Region.wanted o (yielded ops a.tmps)=true then Oper.wp K o a w aA Q else E:=by
 obtain⟨y,z,R,S,L⟩:=AaO Tryz.infoPtr;subst hm
 obtain⟨J,w',W,t,k,D⟩:=xH (P:=K) w base 149 o.type 200 y (U O) 1 8 underlying149 z R S L rfl (by decide) v n xs bB ad 1 c [q] rfl (by
  intro j u i;cases j with
  |zero=>simp at i;subst i;exact hr
  |succ j=>simp at i) (by
  intro u r;simp at r;subst r;exact hq) (by unfold maxLen;omega) (by omega) gY
 have A:Region.wanted o (yielded ops a.tmps)=true:=by simp[Region.wanted,pQ]
 rw[Aad A];unfold Oper.wp execOp;simp only[ho,resolve,invoke,builtin,Aci,AcM,Acd,Ack,AaK,AbJ,hs,hx,W];have d:=(k.block db (aM Mh) (λe=>hnd e.symm)).trans Mh;obtain⟨-,N,-,-,-,-,-,-,X⟩:=dM d
 obtain⟨nM,mF,rfl⟩:∃nM mF,J=Z nM (n+1) mF:=by
  rcases t.2 with⟨-,e⟩|⟨g,B,aR,e,-⟩
  ·omega
  ·exact⟨_,_,e⟩
 exact h nM mF w' t k D N (X 1)
theorem VB.aN {ob cb sp dp:Nat}{a b:Int}{text:ByteArray}(h:VB w ob cb xb sp lp dp q a b c text)(hg:aL w w'):VB w' ob cb xb sp lp dp q a b c text:=by
 obtain⟨i,g,d,j,e⟩:=h;exact⟨(hg.block _ (aM i)).trans i,(hg.block _ (aM g)).trans g,(hg.block _ (aM d)).trans d,j,(hg.block _ (aM e)).trans e⟩
theorem OO:∀(l:List gJ) (i:Nat) (f:gJ),l[i]?=M f->(Lp l)[i*3]?=M (I V f.1)/\(Lp l)[i*3+1]?=M f.2.1.v/\(Lp l)[i*3+2]?=M f.2.2.v:=by
 intro l
 induction l with
 |nil=>intro i f h;simp at h
 |cons e l a=>
  intro i f h;cases i with
  |zero=>simp at h;subst h;simp[xI]
  |succ i=>
   have:=a i f (by simpa using h);rw[xI,show(i+1)*3=i*3+1+1+1 from by omega];simpa using this
theorem fK.at {l:List Ed}(h:fK w (xo,xn,xc) l){e:Ed}(he:l[k]?=M e):∃(b off:Nat) (r:gJ),xo=M ⟨b,off,O⟩/\w.cell? ⟨b,off+k*3,O⟩=M (I V e.1)/\w.cell? ⟨b,off+k*3+1,O⟩=M r.2.1.v/\w.cell? ⟨b,off+k*3+2,O⟩=M r.2.2.v/\bJ w r.2.1 e.2.1/\bJ w r.2.2 e.2.2:=by
 obtain⟨a,o,z,x,y,t⟩:=h;have A:=(Aae.1 he).1;obtain⟨r,c⟩:∃r,a[k]?=M r:=⟨_,Aaf (by omega)⟩;have g:=t k r e c he;rcases o.1 with rfl|⟨b,off,i,d⟩
 ·simp at c
 ·obtain⟨n,j,u⟩:=OO a k r c;refine⟨b,off,r,i,?_,by rw[AcF];exact d _ _ j,by rw[AcF];exact d _ _ u,g.2.1,g.2.2⟩;rw[<-g.1];exact d _ _ n
theorem fK.len {l:List Ed}(h:fK w (xo,xn,xc) l):xn=l.length/\xn<=xc/\xJ xo xn xc:=by
 obtain⟨e,g,d,a,c,i⟩:=h;exact⟨d.trans c,a.2,a.1⟩
theorem GY {l:List Ed}(h:fK w (xo,xn,xc) l)(hd:d<=50):
 H K 147 #[Z xo xn xc,I V (d:Int)] w λe w'=>(∃x:bT,e=G x.v/\fK w x (l.take d))/\w'=w:=by
 obtain⟨rfl,B,j⟩:=h.len;by_cases J:d<l.length
 ·have y:(d:Int)<(l.length:Int):=by omega
  have E:(0:Int)<=(d:Int):=by omega
  have A:(d:Int)<=(xc:Int):=by omega
  have g:Hid (fK w (xo,d,xc) (l.take d)):=by
   obtain⟨k,u,D,n,t,z⟩:=h;refine⟨k.take d,u.take d,?_,⟨λe=>?_,?_⟩,?_,?_⟩
   ·simp only[Aaz];omega
   ·have:=n.1 e;simp only at this ⊢;omega
   ·simp only;omega
   ·rw[Aaz,Aaz,t]
   ·intro i r e a b
    have o:i<d:=by
     have:=(Aae.1 a).1;rw[Aaz]at this;omega
    rw[List.getElem?_take_of_lt o]at a b;exact z i r e a b
  obtain⟨c,rfl⟩:∃c,xo=M c:=by
   cases xo with
   |none=>have:=j rfl;omega
   |some c=>exact⟨c,rfl⟩
  clear h j;go_enter func147,ntmps147;go_wp2_with fail;go_ret
  first|exact⟨⟨(M c,d,xc),rfl,g.out⟩,rfl⟩|exact⟨⟨M c,d,xc,rfl,g.out⟩,rfl⟩
 ·have y:¬(d:Int)<(l.length:Int):=by omega
  have g:Hid (fK w (xo,l.length,xc) (l.take d)):=by show fK _ _ _;rw[Aaq (by omega)];exact h
  clear h j;go_enter func147,ntmps147;go_wp2_with fail;go_ret
  first|exact⟨⟨xo,l.length,xc,rfl,g.out⟩,rfl⟩|exact⟨⟨(xo,l.length,xc),rfl,g.out⟩,rfl⟩
def CkIs (w':F)(e:Ending):Option (Int×dI)->Prop
 |none=>e=G (.tuple #[I V 0,Vn.v,.bool false])
 |some em=> ∃r':fU,e=G (.tuple #[I V em.1,r'.v,.bool true])/\eT w' r' em.2
theorem ba_empty {b:ByteArray}(h:b.size=0):b=⟨#[]⟩:=by
 cases b with
 |mk d=>
  have:d=#[]:=Array.eq_empty_of_size_eq_zero h;rw[this]
theorem GZ {b:ByteArray}(h:0<b.size):b.data.toList.head?=M b[0]:=by
 cases b with
 |mk d=>
  obtain⟨l⟩:=d;cases l with
  |nil=>simp[ByteArray.size]at h
  |cons x l=>rfl
structure OT (w wr:F)(mb rb:Nat)(r:fU)(m:dI):Prop where
 aN:aL w wr
 mod:wr.heap[mb]?=M (bU r.1.v r.2.1.v r.2.2.1.v (I V r.2.2.2.1) (I V r.2.2.2.2))
 res:wr.heap[rb]?=M (bU (Z O 0 0) (Z O 0 0) (Z O 0 0) (I V 0) (I V 0))
 Ee:eT wr r m
 mbn:w.heap.size<=mb
 rbn:w.heap.size<=rb
 ne:mb≠rb
theorem grew_og3 (h:aL w wk)(ho:Og wk p_ g)(hg:w.heap.size<=g):aL w p_:=by
 obtain⟨⟨d,e⟩,j,i,c⟩:=ho;exact⟨j.trans h.os,i.trans h.tape,c.trans h.output,Aal h.size d,λb a=>(e b (AaE a h.size) (by omega)).trans (h.block b a)⟩
theorem Ug (h:i+4<=S.size):bI (S.data.toList.drop i,false)=(iJ (S.data.toList.drop i),(S.data.toList.drop (i+4),false)):=by
 unfold bI;rw[Aaa]
 ·simp only[AdH]
 ·simp only[AaF,false_or,AaX,Abd];show ¬S.size-i<4;omega
theorem be4_take (x:List UInt8)(h:4<=n):iJ (x.take n)=iJ x:=by
 obtain⟨j,rfl⟩:∃j,n=j+4:=⟨n-4,by omega⟩
 match x with
 | []=>rfl
 | [_]=>rfl
 | [_,_]=>rfl
 | [_,_,_]=>rfl
 |a::b::c::d::l=>simp[iJ]
theorem set5_frR (a b c d e:Y):Fr w (((((w.setCell ⟨g,0,O⟩ a).setCell ⟨g,1,O⟩ b).setCell ⟨g,2,O⟩ c).setCell ⟨g,3,O⟩ d).setCell ⟨g,4,O⟩ e) (λb=>b=g):=
 ((((Fr.set w ⟨g,0,O⟩ a).trans (Fr.set _ ⟨g,1,O⟩ b)).trans (Fr.set _ ⟨g,2,O⟩ c)).trans (Fr.set _ ⟨g,3,O⟩ d)).trans (Fr.set _ ⟨g,4,O⟩ e)
structure Ck (w wk:F)(g mb rs:Nat)(S:ByteArray)(r:Sn)(a b c d e:Y):Prop where
 aN:aL w wk
 sc:mW wk g S r
 mod:wk.heap[mb]?=M (bU a b c d e)
 res:wk.heap[rs]?=M (bU (Z O 0 0) (Z O 0 0) (Z O 0 0) (I V 0) (I V 0))
 ng:w.heap.size<=g
 nm:w.heap.size<=mb
 nr:w.heap.size<=rs
 gm:g≠mb
 gr:g≠rs
 mr:mb≠rs
theorem IB (h:aL w wk)(ho:Og wk p_ g)(hg:w.heap.size<=g):aL w p_:=by
 obtain⟨⟨d,e⟩,j,i,c⟩:=ho;exact⟨j.trans h.os,i.trans h.tape,c.trans h.output,Aal h.size d,λb a=>(e b (AaE a h.size) (by omega)).trans (h.block b a)⟩
theorem Ck.VI {a b c d a' b' c' d' e':Y}(h:Ck w wk g mb rs S r a b c d e)(hm:(wk.setCell ⟨mb,i,O⟩ v).heap[mb]?=M (bU a' b' c' d' e')):Ck w (wk.setCell ⟨mb,i,O⟩ v) g mb rs S r a' b' c' d' e':=by
 obtain⟨k,j,o,n⟩:=h.sc;exact { h with aN:=h.aN.set h.nm v,sc:=⟨k,j,o,dR n h.gm⟩,mod:=hm,res:=dR h.res (AbX h.mr) }
theorem Ck.cells {a b c d:Y}(h:Ck w wk g mb rs S r a b c d e):wk.cell? ⟨mb,0,O⟩=M a/\wk.cell? ⟨mb,1,O⟩=M b/\wk.cell? ⟨mb,2,O⟩=M c/\wk.cell? ⟨mb,3,O⟩=M d/\wk.cell? ⟨mb,4,O⟩=M e/\(∀j,wk.frozen? ⟨mb,j,O⟩=false):=by
 obtain⟨o,n,t,i,k,u⟩:=aV h.mod;exact⟨o,n,t,i,k,λj=>by simp[World.frozen?,h.mod,bU]⟩
theorem Rt {l:List Ed}(h:fK w (xo,xn,xc) l)(hd:d<=50):
 H K 147 #[Z xo xn xc,I V (d:Int)] w λe w'=>(∃a b c,e=G (Z a b c)/\fK w (a,b,c) (l.take d))/\w'=w:=by
 refine(GY h hd).mono ?_;rintro e w' ⟨⟨⟨a,b,c⟩,rfl,g⟩,rfl⟩;exact⟨⟨a,b,c,rfl,g⟩,rfl⟩
theorem Gm {f:bT}{r:fU}(n:Int)(h:w.heap[xb]?=M (bR s f r)):(w.setCell ⟨xb,12,O⟩ (I V n)).heap[xb]?=M (bR { s with aY:=n } f r):=by rw[Aaj w xb 12 _ _ _ h];rfl
def Qc (w:F)(b:Nat):Prop:=∃aR t mk,w.heap[b]?=M (C aR t mk)/\t≠145/\t≠50/\t≠248/\t≠231
theorem Qc.no (h:Qc w b){t:TypeId}(hb:w.heap[b]?=M (C aR t f))(ht:t=145\/t=50\/t=248\/t=231):False:=by
 obtain⟨j,k,mk,a,g,c,d,i⟩:=h;rw[hb]at a;cases a
 rcases ht with e|e|e|e
 ·exact g e
 ·exact c e
 ·exact d e
 ·exact i e
theorem Qc.of {t:TypeId}(hb:w.heap[b]?=M (C aR t f))(h1:t≠145)(h2:t≠50)(h3:t≠248)(h4:t≠231):Qc w b:=⟨aR,t,f,hb,h1,h2,h3,h4⟩
def STy (w:F)(b:Nat):Prop:=QTy w b\/∃aR t mk,w.heap[b]?=M (C aR t mk)/\(t=93\/t=97)
theorem STy.ne (h:STy w b){t:TypeId}(hb:w.heap[b]?=M (C aR t f))(ht:(t≠155/\t≠200/\t≠202/\t≠5/\t≠115/\t≠124/\t≠157/\t≠165/\t≠104)/\t≠93/\t≠97):False:=by
 obtain⟨ht,c,d⟩:=ht;rcases h with h|⟨i,j,mk,a,g⟩
 ·exact h.ne hb ht rfl
 ·rw[hb]at a;cases a
  rcases g with e|e
  ·exact c e
  ·exact d e
def uF (i:Nat):AF:=(-((i:Int)+1),vH)
def Xg (w:F)(ao:Option Addr)(l:List AF):Prop:=Cn w ao l/\∀a,ao=M a->∃aR,w.heap[a.block]?=M (C aR 95 (0,0))
def iZ (q a n m k:Int)(s:ByteArray)(fo:Option Addr)(fl fc:Nat):Obj:=C #[I V q,I V a,I V n,I V m,I V k,.string s,Z fo fl fc] 37 (0,0)
theorem iI {a n m k:Int}{s:ByteArray}{fo:Option Addr}{fl fc:Nat}(h:w.heap[b]?=M (iZ q a n m k s fo fl fc)):
 w.cell? ⟨b,0,O⟩=M (I V q)/\w.cell? ⟨b,1,O⟩=M (I V a)/\w.cell? ⟨b,2,O⟩=M (I V n)/\w.cell? ⟨b,3,O⟩=M (I V m)/\w.cell? ⟨b,4,O⟩=M (I V k)/\w.cell? ⟨b,5,O⟩=M (.string s)/\w.cell? ⟨b,6,O⟩=M (Z fo fl fc):=by
 simp[World.cell?,h,iZ]
theorem qU (l:List AF):(Ii l).length=l.length*2:=by
 unfold Ii
 induction l with
 |nil=>rfl
 |cons a l c=>simp[AFc,c];omega
theorem Uh:∀(l:List AF) (i:Nat) (f:AF),l[i]?=M f->(Ii l)[i*2]?=M (I V f.1)/\(Ii l)[i*2+1]?=M (.string f.2)
 | [],i,f,h=>by simp at h
 |a::l,0,f,h=>by
  simp at h;subst h;exact⟨rfl,rfl⟩
 |a::l,i+1,f,h=>by
  have:=Uh l i f (by simpa using h);have e:Ii (a::l)=AFc a++Ii l:=rfl;rw[e,show(i+1)*2=i*2+1+1 from by omega];simpa[AFc]using this
theorem iM.row {l:List AF}(h:iM w B v l):(v=Z O 0 0/\l=[])\/∃g cap aR,v=Z (M ⟨g,0,O⟩) l.length cap/\B<=g/\w.heap[g]?=M (C aR 95 (0,0))/\l.length<=cap/\aR.size=cap*2/\aR.toList.take (l.length*2)=Ii l:=by
 rcases h.2 with⟨rfl,e⟩|⟨g,cap,aR,rfl,c,j,d,-,i,a⟩
 ·exact Aac ⟨rfl,Aav e⟩
 ·exact Aab ⟨g,cap,aR,rfl,c,j,d,i,a⟩
theorem iM.rdh {l:List AF}(h:iM w B v l):∃ao cap,v=Z ao l.length cap/\Xg w ao l/\l.length<=cap/\(∀a,ao=M a->B<=a.block/\a.off=0/\a.spot=O)/\(ao=O->l=[]/\cap=0):=by
 rcases h.row with⟨rfl,rfl⟩|⟨g,cap,j,rfl,o,k,r,u,n⟩
 ·exact⟨O,0,rfl,⟨Aac rfl,(λa e=>by cases e)⟩,Aak _,(λa e=>by cases e),λ_=>⟨rfl,rfl⟩⟩
 ·refine⟨M ⟨g,0,O⟩,cap,rfl,⟨Aab ⟨g,0,rfl,λi f t=>?_⟩,(λa e=>by cases e;exact⟨j,k⟩)⟩,r,(λa e=>by cases e;exact⟨o,rfl,rfl⟩),(λe=>by cases e)⟩;obtain⟨c,d⟩:=Uh l i f t;rw[<-n,Aby]at c d;rw[Ach,AcT w g _ j _ _ k,AcT w g _ j _ _ k];constructor
  ·split at c
   ·simpa using c
   ·cases c
  ·split at d
   ·simpa using d
   ·cases d
theorem Cn.cells {ad:Addr}{l:List AF}(h:Cn w (M ad) l):∀j u,(Ii l)[j]?=M u->w.cell? (ad.add j)=M u:=by
 intro j u a;rcases h with rfl|⟨b,off,e,n⟩
 ·simp[Ii]at a
 ·cases e
  have o:=(Aae.1 a).1;rw[qU]at o;obtain⟨f,k⟩:∃f,l[j / 2]?=M f:=⟨_,Aaf (by omega)⟩;obtain⟨d,i⟩:=Uh l (j / 2) f k;obtain⟨c,g⟩:=n (j / 2) f k;rw[Adk];rcases Nat.mod_two_eq_zero_or_one j with e|e
  ·rw[show j / 2*2=j by omega]at d c;rw[d]at a;cases a
   exact c
  ·rw[show j / 2*2+1=j by omega]at i;rw[show off+j / 2*2+1=off+j by omega]at g;rw[i]at a;cases a
   exact g
theorem Ba {n:Int}(h0:0<=n)(h1:n<=9000000000000):H K 40 #[I V n] w λe w'=>e=G (.agg #[I V (-n),.string vH])/\aL w w':=by
 have a:IntKind.i64.wrap (-n)= -n:=by rw[AaC];omega
 unfold vH;go_enter func40,ntmps40
 go_wp2
 refine Aap (by simp[results,results40,go_sem]) rfl ⟨rfl,?_⟩;exact aO _ _
theorem iM.weak {B':Nat}{l:List AF}(h:iM w B' v l)(hB:B<=B'):iM w B v l:=Np h hB
theorem Xj (f:AF)(l:List AF):Ii (f::l)=I V f.1:: .string f.2::Ii l:=rfl
theorem acs_set (x:Int)(y:ByteArray):∀(l:List AF) (k:Nat),k<l.length->((Ii l).set (k*2) (I V x)).set (k*2+1) (.string y)=Ii (l.set k (x,y)):=by
 intro l
 induction l with
 |nil=>intro k h;simp at h
 |cons p l a=>
  intro k h;cases k with
  |zero=>simp[Xj]
  |succ k=>
   have:=a k (by simpa using h);rw[Xj,show(k+1)*2=k*2+1+1 from by omega];simp only[Aar];rw[Xj];simpa using this
theorem rep_setF (p:AF)(l:List AF)(k:Nat)(h:k<l.length):(List.replicate k p++l.drop k).set k p=List.replicate (k+1) p++l.drop (k+1):=by
 rw[AbV _ _ (by simp),AcV,AcW,AaQ h,Aas,Abc,AaI];rfl
theorem iM.store {l:List AF}(x:Int)(y:ByteArray)(h:iM w B (Z (M ⟨g,0,O⟩) n cap) l)(hk:k<l.length):
 iM ((w.setCell ⟨g,k*2,O⟩ (I V x)).setCell ⟨g,k*2+1,O⟩ (.string y)) B (Z (M ⟨g,0,O⟩) n cap) (l.set k (x,y)):=by
 have c:n=l.length:=by
  rcases h.2 with⟨a,-⟩|⟨i,j,o,a,-⟩
  ·cases a
  ·cases a;rfl
 subst c;have e:=(Acb h (k*2) (I V x)).1;have d:=(Acb e (k*2+1) (.string y)).1;unfold iM;rw[<-acs_set x y l k hk,Acg];exact d
theorem iM.block {l:List AF}(h:iM w B (Z ao n cap) l)(hk:k<l.length):
 ∃g aR,ao=M ⟨g,0,O⟩/\B<=g/\w.heap[g]?=M (C aR 95 (0,0))/\(∃u,w.cell? ⟨g,k*2,O⟩=M u)/\(∃u,w.cell? ⟨g,k*2+1,O⟩=M u)
  /\w.frozen? ⟨g,k*2,O⟩=false/\w.frozen? ⟨g,k*2+1,O⟩=false:=by
 have a:=h;rcases h.2 with⟨-,r⟩|⟨g,o,aR,i,d,j,-⟩
 ·omega
 ·cases i
  obtain⟨c,e⟩:=Uh l k _ (Aaf hk);exact⟨g,aR,rfl,d,j,⟨_,(Abv a (k*2) (by omega)).trans c⟩,⟨_,(Abv a (k*2+1) (by omega)).trans e⟩,Acz a _,Acz a _⟩
theorem Zj {rest:List Oper}(pQ:o.guard=O)(s x:Operand)
 (ho:o.op= .call { callee:= .builtin .append,args:=#[s,x],argTypes:=#[35,35] })
 (B:Nat)(ao:Option Addr)(n:Nat)(ys zs:List AF)(hn:n=ys.length)(hs:a.eval s=Z ao n n)(bB:iM w B (Z ao n n) ys)(xb m c:Nat)(hx:a.eval x=Z (M ⟨xb,0,O⟩) m c)(hm:m=zs.length)(hr:Cn w (M ⟨xb,0,O⟩) zs)
 (h0:0<zs.length)(hlen:ys.length+zs.length<=1000000000)(gY:B<=w.heap.size)
 (h:∀v' w',iM w' B v' (ys++zs)->Below w.heap.size w w'->wpList K ops Q rest (a.put o.dst v') w'):wpList K ops Q (o::rest) a w:=by
 obtain⟨j,r,J,N,A⟩:=AaO Tryz.infoAF;subst hm hn;obtain⟨R,P,y,D,-,-,g⟩:=iM.rdh bB;cases y
 have g:ao=O->ys.length=0/\ys.length=0:=λe=>by obtain⟨q,-⟩:=g e;rw[q];exact⟨rfl,rfl⟩
 refine wpList_append_grows w pQ s x 35 ho 95 j (.agg #[I V 0,.string ⟨#[]⟩]) 2 24 underlying35 r J N A rfl (by decide) ao ys.length ys.length (Ii ys) hs g (qU ys) ?_ ⟨xb,0,O⟩ zs.length c (Ii zs) hx (qU zs) ?_ ?_ (by omega) (by unfold maxLen;omega) (by omega) ?_
 ·intro b E;subst E;exact Cn.cells D.1
 ·exact Cn.cells hr
 ·intro u t;obtain⟨p,-,i⟩:=AbG.1 t;simp[AFc]at i;rcases i with rfl|rfl<;>rfl
 ·intro v' w' z d;refine h v' w' ?_ ⟨d.os,d.tape,d.output,d.size,λk L=>d.block k L (by simp)⟩;refine iM.weak ?_ gY;unfold iM;rw[Db,Aah];exact z
theorem Dr (pQ:o.guard=O)(s x:Operand)
 (ho:o.op= .call { callee:= .builtin .append,args:=#[s,x],argTypes:=#[35,35] })
 (B:Nat)(ao:Option Addr)(n:Nat)(ys zs:List AF)(hn:n=ys.length)(hs:a.eval s=Z ao n n)(bB:iM w B (Z ao n n) ys)(xb m c:Nat)(hx:a.eval x=Z (M ⟨xb,0,O⟩) m c)(hm:m=zs.length)(hr:Cn w (M ⟨xb,0,O⟩) zs)
 (h0:0<zs.length)(hlen:ys.length+zs.length<=1000000000)(gY:B<=w.heap.size)
 (h:∀v' w',iM w' B v' (ys++zs)->Below w.heap.size w w'->aA (a.put o.dst v') w'):if Region.wanted o (yielded ops a.tmps)=true then Oper.wp K o a w aA Q else E:=by
 obtain⟨j,r,L,P,A⟩:=AaO Tryz.infoAF;subst hm hn;obtain⟨S,R,y,D,-,-,g⟩:=iM.rdh bB;cases y
 have g:ao=O->ys.length=0/\ys.length=0:=λe=>by obtain⟨q,-⟩:=g e;rw[q];exact⟨rfl,rfl⟩
 refine step_append_grows pQ s x 35 ho 95 j (.agg #[I V 0,.string ⟨#[]⟩]) 2 24 underlying35 r L P A rfl (by decide) ao ys.length ys.length (Ii ys) hs g (qU ys) ?_ ⟨xb,0,O⟩ zs.length c (Ii zs) hx (qU zs) ?_ ?_ (by omega) (by unfold maxLen;omega) (by omega) ?_
 ·intro b J;subst J;exact Cn.cells D.1
 ·exact Cn.cells hr
 ·intro u t;obtain⟨p,-,i⟩:=AbG.1 t;simp[AFc]at i;rcases i with rfl|rfl<;>rfl
 ·intro v' w' z d;refine h v' w' ?_ ⟨d.os,d.tape,d.output,d.size,λk N=>d.block k N (by simp)⟩;refine iM.weak ?_ gY;unfold iM;rw[Db,Aah];exact z
theorem iM.typed {l:List AF}(h:iM w B (Z ao n cap) l):∀a,ao=M a->∃aR,w.heap[a.block]?=M (C aR 95 (0,0))/\B<=a.block:=by
 intro a e;subst e;rcases h.2 with⟨d,-⟩|⟨g,k,aR,i,c,j,-⟩
 ·cases d
 ·cases i;exact⟨aR,j,c⟩
theorem IG (w:F)(cs:Array Y)(l:List AF)(h:cs.toList=Ii l)(hm:l.length<=maxLen):Cn (w.alloc (C cs 95)) (M ⟨w.heap.size,0,O⟩) l:=by
 have a:cs.size=l.length*2:=by rw[<-Abd,h,qU]
 have:=Acr (e:=95) w cs l.length (Aao _) hm a;rw[h]at this;obtain⟨g,d,e,c,-⟩:=iM.rdh this;cases e
 exact c.1
theorem Xg.jR {l:List AF}(h:iM w B v l):∃ao cap,v=Z ao l.length cap/\Xg w ao l/\(ao=O->l.length=0/\cap=0):=by
 obtain⟨ao,cap,e,c,-,-,d⟩:=iM.rdh h;exact⟨ao,cap,e,c,λq=>by obtain⟨g,a⟩:=d q;rw[g];exact⟨rfl,a⟩⟩
theorem OW {vp:Y}{hs:List bT}(hp:w.ownsRow B 35 1 vp hs.length (hs.map bT.v)):
 ∃ao cap,vp=Z ao hs.length cap/\∀i x,hs[i]?=M x->∃g,ao=M ⟨g,0,O⟩/\w.cell? ⟨g,i,O⟩=M (Z x.1 x.2.1 x.2.2):=by
 have a:=hp;rcases hp.2 with⟨rfl,c⟩|⟨g,cap,h,rfl,d,j,-⟩
 ·refine⟨O,0,by rw[c],λi x e=>?_⟩;have:=(Aae.1 e).1;omega
 ·refine⟨_,cap,rfl,λi x e=>⟨g,rfl,?_⟩⟩;have:=(Aae.1 e).1;rw[Abv a i (by omega),AaU,e];rfl
theorem qV (a b:List UInt8):(⟨a.toArray⟩:ByteArray)++⟨b.toArray⟩=⟨(a++b).toArray⟩:=ba_ext (by rw[rD])
theorem keepN2 {a b:Addr}(h1:w.cell? a=M x)(h2:w.cell? b=M y):∀W,aL w W->W.cell? a=M x/\W.cell? b=M y/\aL w W:=λ_ c=>⟨c.cell h1,c.cell h2,c⟩
def okEs (l:List Ed):Prop:=∀e∈l,(0<=e.1/\e.1<4294967296)/\(∀p∈e.2.1,NM p)/\(∀p∈e.2.2,NM p)/\e.2.1.length<=10000/\e.2.2.length<=10000
theorem keepN3 {a b c:Addr}{z:Y}(h1:w.cell? a=M x)(h2:w.cell? b=M y)(h3:w.cell? c=M z):∀W,aL w W->W.cell? a=M x/\W.cell? b=M y/\W.cell? c=M z/\aL w W:=λ_ d=>⟨d.cell h1,d.cell h2,d.cell h3,d⟩
theorem rdr_at {l:List gJ}{r:gJ}(h:EJ w ao l)(hk:l[k]?=M r):∃b off,ao=M ⟨b,off,O⟩/\w.cell? ⟨b,off+k*3,O⟩=M (I V r.1)/\w.cell? ⟨b,off+k*3+1,O⟩=M (Z r.2.1.1 r.2.1.2.1 r.2.1.2.2)/\w.cell? ⟨b,off+k*3+2,O⟩=M (Z r.2.2.1 r.2.2.2.1 r.2.2.2.2):=by
 obtain⟨d,c,g⟩:=OO l k r hk;rcases h.1 with h|⟨b,off,e,a⟩
 ·rw[h]at hk;cases hk
 ·exact⟨b,off,e,a _ _ d,a _ _ c,a _ _ g⟩
def PcOk (w:F)(a:Option Addr)(n c:Nat)(S:ByteArray):Prop:=∀W,aL w W->H K 117 #[Z a n c] W λe w'=>e=G (.string S)/\aL W w'
theorem pc_use {a:Option Addr}{c:Nat}(h:PcOk w a n c S)(hW:aL w W):H K 117 #[Z a n c] W λe w'=>e=G (.string S)/\aL W w':=h W hW
theorem ck_cells {f:bT}{r:fU}(h:w.heap[xb]?=M (bR s f r)):∀W,aL w W->W.cell? ⟨xb,12,O⟩=M (I V s.aY)/\W.cell? ⟨xb,13,O⟩=M r.1.v/\W.cell? ⟨xb,14,O⟩=M r.2.1.v/\W.cell? ⟨xb,15,O⟩=M r.2.2.1.v/\W.cell? ⟨xb,16,O⟩=M (I V r.2.2.2.1)/\aL w W:=λW a=>by
 have c:=(a.block _ (aM h)).trans h;refine⟨?_,?_,?_,?_,?_,a⟩<;>simp[World.cell?,c,bR]
theorem Qi {rest:List Oper}(pQ:o.guard=O)(s x:Operand)
 (ho:o.op= .call { callee:= .builtin .append,args:=#[s,x],argTypes:=#[27,27] })
 (B:Nat)(v:Y)(hs news:List bT)(he:a.eval s=v)(bB:w.ownsRow B 51 1 v hs.length (hs.map bT.v))(ad:Addr)(m c:Nat)(hx:a.eval x=Z (M ad) m c)(hm:m=news.length)
 (hr:∀j u,(news.map bT.v)[j]?=M u->w.cell? (ad.add j)=M u)(hlen:hs.length+news.length<=4800000000004)(gY:B<=w.heap.size)
 (h:∀v' w',w'.ownsRow B 51 1 v' (hs++news).length ((hs++news).map bT.v)->w.grownBy w' v.ownBlock->wpList K ops Q rest (a.put o.dst v') w'):wpList K ops Q (o::rest) a w:=by
 obtain⟨d,e,k,r,i⟩:=AaO Tryz.infoSl;subst hm;refine Abu w pQ s x 27 ho B 51 d (Z O 0 0) 1 24 underlying27 e k r i rfl (by decide) v hs.length (hs.map bT.v) he bB ad news.length c (news.map bT.v) hx (by simp) hr ?_ (by unfold maxLen;omega) (by omega) gY ?_
 ·intro u t;obtain⟨y,-,rfl⟩:=AaS.1 t;rfl
 ·intro v' w' g n _;refine h v' w' ?_ n;rw[AaR,Aah];exact g
theorem Nu {rest:List Oper}(pQ:o.guard=O)(s x:Operand)
 (ho:o.op= .call { callee:= .builtin .append,args:=#[s,x],argTypes:=#[28,28] })
 (B:Nat)(v:Y)(hs news:List bT)(he:a.eval s=v)(bB:w.ownsRow B 35 1 v hs.length (hs.map bT.v))(ad:Addr)(m c:Nat)(hx:a.eval x=Z (M ad) m c)(hm:m=news.length)
 (hr:∀j u,(news.map bT.v)[j]?=M u->w.cell? (ad.add j)=M u)(hlen:hs.length+news.length<=4800000000004)(gY:B<=w.heap.size)
 (h:∀v' w',w'.ownsRow B 35 1 v' (hs++news).length ((hs++news).map bT.v)->w.grownBy w' v.ownBlock->wpList K ops Q rest (a.put o.dst v') w'):wpList K ops Q (o::rest) a w:=by
 obtain⟨d,e,k,r,i⟩:=AaO Tryz.infoFSl;subst hm;refine Abu w pQ s x 28 ho B 35 d (Z O 0 0) 1 24 underlying28 e k r i rfl (by decide) v hs.length (hs.map bT.v) he bB ad news.length c (news.map bT.v) hx (by simp) hr ?_ (by unfold maxLen;omega) (by omega) gY ?_
 ·intro u t;obtain⟨y,-,rfl⟩:=AaS.1 t;rfl
 ·intro v' w' g n _;refine h v' w' ?_ n;rw[AaR,Aah];exact g
def DU (w:F)(bs:List Bool)(hs:List bT):Prop:=∀k t x,bs[k]?=M true->t<4->hs[4*Sz bs true k+t]?=M x->nK w x.1 (List.replicate x.2.1 (mk k))/\x.2.1<=9000
def DV (w:F)(bs:List Bool)(hs:List bT):Prop:=∀k t x,bs[k]?=M false->t<4->hs[4*Sz bs false k+t]?=M x->Xg w x.1 (List.replicate x.2.1 (uF k))/\x.2.1<=9000
end Go.Proofs.YtfplgfodoiiobabGreatDoor
