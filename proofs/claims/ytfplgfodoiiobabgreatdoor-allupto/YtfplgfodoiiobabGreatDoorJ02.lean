/- a part of the proof. -/
import Derived.Test.YtfplgfodoiiobabGreatDoorJa
open Option renaming none->O,some->M
open Go.Value renaming int->I,slice->Z,pointer->U
open Go.IntKind renaming i64->V
open Go.Obj renaming cells->C
open Go.Ending renaming returned->G
open Go renaming World->F,Value->Y,Calls->H
open Go.Proofs.Tryz renaming prog→K
open Go.Proofs.Tryz
namespace Go.Proofs.YtfplgfodoiiobabGreatDoor
set_option maxHeartbeats 1000000
set_option maxRecDepth 100000
open Go.RowKit
variable {w w' w1 w2:F}{l b lr ll:List (Int×Int)}{h tb hr g hl o k cap c i:Nat}{a ra la root r:Option Addr}{p:Int×Int}{n x y pos:Int}{v u:Y}{xs:List Y}
def sz:List (Int×Int)->Int
 | []=>0
 |p::l=>p.2+sz l
def nQ (p:Int×Int):Prop:=1<=p.2/\p.2<=5000/\0<=p.1/\p.1+p.2<=1000005000
def fC (l:List (Int×Int)):Prop:=∀p,p∈l->nQ p
def dW:List (Int×Int)->Int->List (Int×Int)
 | [],_=> []
 |p::l,n=>if n<=0 then []else if p.2<=n then p::dW l (n-p.2)else [(p.1,n)]
def bV:List (Int×Int)->Int->List (Int×Int)
 | [],_=> []
 |p::l,n=>if n<=0 then p::l else if p.2<=n then bV l (n-p.2)else (p.1+n,p.2-n)::l
theorem pE (a b:List (Int×Int)):sz (a++b)=sz a+sz b:=by
 induction a with
 |nil=>simp[sz]
 |cons p a c=>simp[sz,c];omega
theorem rH (p:Int×Int)(l:List (Int×Int)):sz (p::l)=p.2+sz l:=rfl
theorem wC:fC []:=λ_ h=>by simp at h
theorem nI (hp:nQ p)(h:fC l):fC (p::l):=λq a=>by
 rcases AaG.1 a with rfl|a
 ·exact hp
 ·exact h q a
theorem iO {a:List (Int×Int)}(ha:fC a)(hb:fC b):fC (a++b):=λq c=>by
 rcases AaZ.1 c with h|h
 ·exact ha q h
 ·exact hb q h
theorem oF {a:List (Int×Int)}(h:fC (a++b)):fC a:=λq c=>h q (AaZ.2 (Aac c))
theorem fZ {a:List (Int×Int)}(h:fC (a++b)):fC b:=λq c=>h q (AaZ.2 (Aab c))
theorem dP (h:fC (p::l)):fC l:=λq a=>h q (AaG.2 (Aab a))
theorem fT (h:fC (p::l)):nQ p:=h p (AaG.2 (Aac rfl))
theorem kT (h:fC l):(l.length:Int)<=sz l/\sz l<=5000*l.length:=by
 induction l with
 |nil=>simp[sz]
 |cons p l c=>
  have d:=c (dP h);have a:=fT h;unfold nQ at a;simp[sz];omega
theorem pF (l:List (Int×Int))(h:n<=0):dW l n=[]:=by
 cases l with
 |nil=>rfl
 |cons p l=>simp[dW,h]
theorem zT (l:List (Int×Int))(h:n<=0):bV l n=l:=by
 cases l with
 |nil=>rfl
 |cons p l=>simp[bV,h]
theorem rJ {a:List (Int×Int)}(b:List (Int×Int))(h:fC a):∀n:Int,dW (a++b) n=if n<=sz a then dW a n else a++dW b (n-sz a):=by
 induction a with
 |nil=>
  intro n;by_cases c:n<=0
  ·simp[sz,c,pF]
  ·simp[sz,c]
 |cons p a i=>
  intro n;have o:=kT (dP h);have j:=fT h;unfold nQ at j;have e:=i (dP h) (n-p.2);have k:sz (p::a)=p.2+sz a:=rfl;simp only[Acx,dW];by_cases c:n<=0
  ·rw[Aad c,Aad (show n<=sz (p::a) by omega),Aad c]
  ·by_cases d:p.2<=n
   ·rw[Aaa c,Aad d,e];by_cases g:n<=sz (p::a)
    ·rw[Aad (by omega),Aad g,Aaa c,Aad d]
    ·rw[Aaa (by omega),Aaa g,show n-p.2-sz a=n-sz (p::a) from by omega]
   ·rw[Aaa c,Aaa d,Aad (show n<=sz (p::a) by omega),Aaa c,Aaa d]
theorem rM {a:List (Int×Int)}(b:List (Int×Int))(h:fC a):∀n:Int,bV (a++b) n=if n<=sz a then bV a n++b else bV b (n-sz a):=by
 induction a with
 |nil=>
  intro n;by_cases c:n<=0
  ·simp[sz,c,zT]
  ·simp[sz,c]
 |cons p a i=>
  intro n;have o:=kT (dP h);have j:=fT h;unfold nQ at j;have e:=i (dP h) (n-p.2);have k:sz (p::a)=p.2+sz a:=rfl;simp only[Acx,bV];by_cases c:n<=0
  ·rw[Aad c,Aad (show n<=sz (p::a) by omega),Aad c];rfl
  ·by_cases d:p.2<=n
   ·rw[Aaa c,Aad d,e];by_cases g:n<=sz (p::a)
    ·rw[Aad (by omega),Aad g,Aaa c,Aad d]
    ·rw[Aaa (by omega),Aaa g,show n-p.2-sz a=n-sz (p::a) from by omega]
   ·rw[Aaa c,Aaa d,Aad (show n<=sz (p::a) by omega),Aaa c,Aaa d];rfl
theorem Gq (h:fC l):∀ {n:Int},sz l<=n->dW l n=l:=by
 induction l with
 |nil=>intros;rfl
 |cons p l d=>
  intro n a;have e:=kT (dP h);have c:=fT h;unfold nQ at c;simp only[sz]at a;simp only[dW];rw[Aaa (by omega),Aad (by omega),d (dP h) (by omega)]
theorem Gr (h:fC l):∀ {n:Int},sz l<=n->bV l n=[]:=by
 induction l with
 |nil=>intros;rfl
 |cons p l d=>
  intro n a;have e:=kT (dP h);have c:=fT h;unfold nQ at c;simp only[sz]at a;simp only[bV];rw[Aaa (by omega),Aad (by omega),d (dP h) (by omega)]
theorem Jp {a:List (Int×Int)}(h:fC a)(hn:n<=sz a):
 dW (a++p::b) n=dW a n/\bV (a++p::b) n=bV a n++p::b:=by
 rw[rJ _ h,rM _ h,Aad hn,Aad hn];exact⟨rfl,rfl⟩
theorem Ql {a:List (Int×Int)}(h:fC a)(hp:nQ p)(hn:sz a+p.2<=n):
 dW (a++p::b) n=a++p::dW b (n-(sz a+p.2))/\bV (a++p::b) n=bV b (n-(sz a+p.2)):=by
 unfold nQ at hp;rw[rJ _ h,rM _ h,Aaa (by omega),Aaa (by omega)];simp only[dW,bV];rw[Aaa (by omega),Aad (by omega),Aaa (by omega),Aad (by omega),show n-sz a-p.2=n-(sz a+p.2) from by omega];exact⟨rfl,rfl⟩
theorem Zn {a:List (Int×Int)}(h:fC a)(h1:sz a<n)(h2:n<sz a+p.2):
 dW (a++p::b) n=a++ [(p.1,n-sz a)]/\bV (a++p::b) n=(p.1+(n-sz a),p.2-(n-sz a))::b:=by
 rw[rJ _ h,rM _ h,Aaa (by omega),Aaa (by omega)];simp only[dW,bV];rw[Aaa (by omega),Aaa (by omega),Aaa (by omega),Aaa (by omega)];exact⟨rfl,rfl⟩
theorem wP (h:fC l):∀n:Int,fC (dW l n):=by
 induction l with
 |nil=>intro n;exact wC
 |cons p l e=>
  intro n;have c:=fT h;simp only[dW];by_cases a:n<=0
  ·rw[Aad a];exact wC
  ·rw[Aaa a];by_cases d:p.2<=n
   ·rw[Aad d];exact nI c (e (dP h) _)
   ·rw[Aaa d];refine nI ?_ wC;unfold nQ at c ⊢;simp only;omega
theorem lF (h:fC l):∀n:Int,fC (bV l n):=by
 induction l with
 |nil=>intro n;exact wC
 |cons p l e=>
  intro n;have d:=fT h;simp only[bV];by_cases a:n<=0
  ·rw[Aad a];exact h
  ·rw[Aaa a];by_cases c:p.2<=n
   ·rw[Aad c];exact e (dP h) _
   ·rw[Aaa c];refine nI ?_ (dP h);unfold nQ at d ⊢;simp only;omega
theorem nR (l:List (Int×Int)):∀n:Int,l.length<=(dW l n).length+(bV l n).length/\(dW l n).length+(bV l n).length<=l.length+1:=by
 induction l with
 |nil=>intro n;simp[dW,bV]
 |cons p l d=>
  intro n;have e:=d (n-p.2);simp only[dW,bV];by_cases a:n<=0
  ·rw[Aad a,Aad a];simp
  ·rw[Aaa a,Aaa a];by_cases c:p.2<=n
   ·rw[Aad c,Aad c];simp only[Aan];omega
   ·rw[Aaa c,Aaa c];simp only[Aan,AcD];omega
theorem zU (h:fC l):∀ {n:Int},0<=n->n<=sz l->sz (dW l n)=n:=by
 induction l with
 |nil=>intro n g a;simp[sz]at a;simp[dW,sz];omega
 |cons p l e=>
  intro n g a;simp only[sz]at a;simp only[dW];by_cases c:n<=0
  ·rw[Aad c];simp[sz];omega
  ·rw[Aaa c];by_cases d:p.2<=n
   ·rw[Aad d,rH,e (dP h) (by omega) (by omega)];omega
   ·rw[Aaa d];simp[sz]
theorem nJ (h:fC l):∀ {n:Int},0<=n->n<=sz l->sz (bV l n)=sz l-n:=by
 induction l with
 |nil=>intro n g a;simp[sz]at a;simp[bV,sz];omega
 |cons p l e=>
  intro n g a;simp only[sz]at a;simp only[bV];by_cases c:n<=0
  ·rw[Aad c];simp[sz];omega
  ·rw[Aaa c];by_cases d:p.2<=n
   ·rw[Aad d,e (dP h) (by omega) (by omega)];simp[sz];omega
   ·rw[Aaa d];simp[sz];omega
def fl:List (Int×Int)->List Int
 | []=> []
 |p::l=>(List.range p.2.toNat).map (λk:Nat=>p.1+(k:Int))++fl l
def nW (la ra:Option Addr)(p:Int×Int)(h:Nat)(l:List (Int×Int)):Obj:=
 C #[U la,U ra,I V p.1,I V p.2,I V (h:Int),I V (l.length:Int),I V (sz l)] 145
def Tr (w:F):Nat->Option Addr->Nat->List (Int×Int)->Prop
 |0,a,h,l=>a=O/\h=0/\l=[]
 |k+1,a,h,l=>(a=O/\h=0/\l=[])\/∃(b:Nat) (la ra:Option Addr) (p:Int×Int) (hl hr:Nat) (ll lr:List (Int×Int)),
  a=M ⟨b,0,O⟩/\w.heap[b]?=M (nW la ra p h l)/\Tr w k la hl ll/\Tr w k ra hr lr/\l=ll++p::lr/\h=1+max hl hr/\hl<=hr+1/\hr<=hl+1
def T (w:F)(a:Option Addr)(h:Nat)(l:List (Int×Int)):Prop:=∃k,Tr w k a h l
theorem Tr.mono:∀ {k:Nat} {a:Option Addr} {h:Nat} {l:List (Int×Int)},Tr w k a h l->∀j,k<=j->Tr w j a h l:=by
 intro k
 induction k with
 |zero=>
  intro a h l c j _;cases j with
  |zero=>exact c
  |succ j=>exact Aac c
 |succ k d=>
  intro a h l c j A;cases j with
  |zero=>omega
  |succ j=>
   rcases c with c|⟨b,u,x,p,y,i,t,g,r,o,e,n,z⟩
   ·exact Aac c
   ·exact Aab ⟨b,u,x,p,y,i,t,g,r,o,d e j (by omega),d n j (by omega),z⟩
theorem T.nil (w:F):T w O 0 []:=⟨0,rfl,rfl,rfl⟩
theorem T.node {b:Nat}
 (hb:w.heap[b]?=M (nW la ra p (1+max hl hr) (ll++p::lr)))(h1:T w la hl ll)(h2:T w ra hr lr)(h3:hl<=hr+1)(h4:hr<=hl+1):
 T w (M ⟨b,0,O⟩) (1+max hl hr) (ll++p::lr):=by
 obtain⟨d,e⟩:=h1;obtain⟨c,a⟩:=h2;exact⟨max d c+1,Aab ⟨b,la,ra,p,hl,hr,ll,lr,rfl,hb,e.mono _ (by omega),a.mono _ (by omega),rfl,rfl,h3,h4⟩⟩
theorem T.inv (t:T w a h l):
 (a=O/\h=0/\l=[])\/∃(b:Nat) (la ra:Option Addr) (p:Int×Int) (hl hr:Nat) (ll lr:List (Int×Int)),
  a=M ⟨b,0,O⟩/\w.heap[b]?=M (nW la ra p h l)/\T w la hl ll/\T w ra hr lr/\l=ll++p::lr/\h=1+max hl hr/\hl<=hr+1/\hr<=hl+1:=by
 obtain⟨k,t⟩:=t;cases k with
 |zero=>exact Aac t
 |succ k=>
  rcases t with t|⟨b,la,ra,p,hl,hr,ll,lr,g,e,c,d,i⟩
  ·exact Aac t
  ·exact Aab ⟨b,la,ra,p,hl,hr,ll,lr,g,e,⟨k,c⟩,⟨k,d⟩,i⟩
theorem T.keep (hk:∀(b:Nat) (la ra:Option Addr) (p:Int×Int) (h:Nat) (l:List (Int×Int)),w.heap[b]?=M (nW la ra p h l)->w'.heap[b]?=w.heap[b]?)
 (t:T w a h l):T w' a h l:=by
 obtain⟨k,t⟩:=t;refine⟨k,?_⟩
 induction k generalizing a h l with
 |zero=>exact t
 |succ k d=>
  rcases t with t|⟨b,la,ra,p,r,i,o,g,n,c,e,j,u⟩
  ·exact Aac t
  ·exact Aab ⟨b,la,ra,p,r,i,o,g,n,(hk _ _ _ _ _ _ c).trans c,d e,d j,u⟩
theorem T.below (hb:Below w.heap.size w w')(t:T w a h l):T w' a h l:=by
 refine T.keep (λb i j p d g e=>?_) t;refine hb.block b ?_;by_cases c:b<w.heap.size
 ·exact c
 ·rw[Adr (by omega)]at e;cases e
theorem T.many (t:T w a h l):∀d:Nat,2*d+1<=h->2 ^ d<=l.length:=by
 obtain⟨k,t⟩:=t
 induction k generalizing a h l with
 |zero=>obtain⟨_,rfl,_⟩:=t;intro d e;omega
 |succ k c=>
  rcases t with⟨_,rfl,_⟩|⟨b,B,D,p,E,n,z,j,y,o,g,i,rfl,rfl,x,r⟩
  ·intro d e;omega
  ·intro d e;cases d with
   |zero=>simp;omega
   |succ d=>
    have u:=c g d (by omega);have A:=c i d (by omega);simp only[Aah,Aan];rw[Nat.pow_succ];omega
theorem T.zero (t:T w a h l):(h=0↔l=[])/\(a=O↔l=[]):=by
 rcases t.inv with⟨rfl,rfl,rfl⟩|⟨b,j,k,p,n,g,i,e,rfl,o,c,r,rfl,rfl,u,d⟩
 ·simp
 ·simp
theorem gB {b:Nat}(e:w.heap[b]?=M (nW la ra p h l)):
 w.cell? ⟨b,0,O⟩=M (U la)/\w.cell? ⟨b,1,O⟩=M (U ra)/\w.cell? ⟨b,2,O⟩=M (I V p.1)/\w.cell? ⟨b,3,O⟩=M (I V p.2)
  /\w.cell? ⟨b,4,O⟩=M (I V (h:Int))/\w.cell? ⟨b,5,O⟩=M (I V (l.length:Int))/\w.cell? ⟨b,6,O⟩=M (I V (sz l)):=by
 simp[World.cell?,e,nW]
theorem dU (hb:Below w.heap.size w w'){b:Nat}(h:w.cell? ⟨b,o,O⟩=M v):w'.cell? ⟨b,o,O⟩=M v:=Aay hb h
theorem eF (t:T w a h l):
 H K 79 #[U a] w λe w'=>e=G (I V (h:Int))/\w'=w:=by
 rcases t.inv with⟨rfl,rfl,rfl⟩|⟨b,k,n,p,o,g,i,d,rfl,c,-⟩
 ·clear t;go_enter func79,ntmps79
  go_wp2
  go_ret;exact⟨rfl,rfl⟩
 ·obtain⟨-,-,-,-,j,-,-⟩:=gB c;clear t c;go_enter func79,ntmps79
  go_wp2
  go_ret;exact⟨rfl,rfl⟩
theorem xB (t:T w a h l):
 H K 82 #[U a] w λe w'=>e=G (I V (l.length:Int))/\w'=w:=by
 rcases t.inv with⟨rfl,rfl,rfl⟩|⟨b,k,n,p,o,i,j,g,rfl,c,-⟩
 ·clear t;go_enter func82,ntmps82
  go_wp2
  go_ret;exact⟨rfl,rfl⟩
 ·obtain⟨-,-,-,-,-,d,-⟩:=gB c;clear t c;go_enter func82,ntmps82
  go_wp2
  go_ret;exact⟨rfl,rfl⟩
theorem kJ (t:T w a h l):
 H K 78 #[U a] w λe w'=>e=G (I V (sz l))/\w'=w:=by
 rcases t.inv with⟨rfl,rfl,rfl⟩|⟨b,k,n,p,o,i,j,d,rfl,c,-⟩
 ·clear t;go_enter func78,ntmps78
  go_wp2
  go_ret;exact⟨rfl,rfl⟩
 ·obtain⟨-,-,-,-,-,-,g⟩:=gB c;clear t c;go_enter func78,ntmps78
  go_wp2
  go_ret;exact⟨rfl,rfl⟩
theorem wI (h0:0<=n)(h1:n<=1000000000000):IntKind.i64.wrap n=n:=by rw[AaC];omega
theorem RD {o:Obj}
 (tl:T (w.alloc o).drew la hl ll)(tr:T (w.alloc o).drew ra hr lr)(h1:hl<=hr+1)(h2:hr<=hl+1){aB aG S:Int}
 (eH:aB=((1+max hl hr:Nat):Int))(eC:aG=1+(ll.length:Int)+(lr.length:Int))(eS:S=y+sz ll+sz lr):
 T ((w.alloc o).alloc (C #[U la,U ra,I V x,I V y,I V aB,I V aG,I V S] 145)).drew
  (M ⟨w.heap.size+1,0,O⟩) (1+max hl hr) (ll++(x,y)::lr)
  /\Below w.heap.size w ((w.alloc o).alloc (C #[U la,U ra,I V x,I V y,I V aB,I V aG,I V S] 145)).drew:=by
 have a:Below (w.alloc o).drew.heap.size (w.alloc o).drew ((w.alloc o).alloc (C #[U la,U ra,I V x,I V y,I V aB,I V aG,I V S] 145)).drew:=
  ((AaP _ (w.alloc o).drew).alloc (Aak _) _)
 refine⟨T.node ?_ (tl.below a) (tr.below a) h1 h2,(((AaP _ w).alloc (Aak _) _).alloc (by simp) _).drew⟩;show((w.heap.push o).push _)[w.heap.size+1]?=_;rw[Array.getElem?_push,Aad (by simp)];subst eH;subst eC;subst eS;simp only[nW,Aah,Aan,pE,rH];rw[show(1:Int)+(ll.length:Int)+(lr.length:Int)=((ll.length+(lr.length+1):Nat):Int) from by omega,show y+sz ll+sz lr=sz ll+(y+sz lr) from by omega]
theorem aO (w:F)(o:Obj):Below w.heap.size w (w.alloc o):=(AaP _ w).alloc (Aak _) _
theorem bG (w:F)(o:Obj):Below w.heap.size w (w.alloc o).drew:=((AaP _ w).alloc (Aak _) _).drew
theorem aQ (h1:Below w.heap.size w w1)(h2:Below w1.heap.size w1 w2):Below w.heap.size w w2:=h1.trans (h2.mono h1.size)
theorem T.hle (t:T w a h l):h<=l.length:=by
 obtain⟨k,t⟩:=t
 induction k generalizing a h l with
 |zero=>obtain⟨_,rfl,_⟩:=t;exact Aao _
 |succ k c=>
  rcases t with⟨_,rfl,_⟩|⟨b,z,A,p,B,i,x,g,u,j,d,e,rfl,rfl,r,n⟩
  ·exact Aao _
  ·have o:=c d;have y:=c e;simp only[Aah,Aan];omega
def Uj (n:Nat):Prop:=∀(w:F) (la ra:Option Addr) (hl hr:Nat) (ll lr:List (Int×Int)) (x y:Int),hl+hr<=n->
 T w la hl ll->T w ra hr lr->ll.length+lr.length<=9000->fC ll->fC lr->nQ (x,y)->
 H K 44 #[U la,.agg #[I V x,I V y],U ra] w λe w'=>
  ∃a h,e=G (U a)/\T w' a h (ll++(x,y)::lr)/\max hl hr<=h/\h<=1+max hl hr/\Below w.heap.size w w'
theorem WM (x y n:Int)(hx:nQ (x,y))(h1:0<=n)(h2:n<=y):
 H K 81 #[.agg #[I V x,I V y],I V n] w λe w'=>
  e=G (.tuple #[.agg #[I V x,I V n],.agg #[I V (x+n),I V (y-n)]])/\Below w.heap.size w w':=by
 unfold nQ at hx;simp only at hx;go_enter func81,ntmps81;go_wp2_with fail
 go_region_held3 (λw'=>w'.cell? ⟨w.heap.size,0,O⟩=M (I V x)/\w'.cell? ⟨w.heap.size,1,O⟩=M (I V y)) (go_keep) (fail)
 all_goals go_wp2_with fail
 all_goals
  refine Aap (v:= .tuple #[.agg #[I V x,I V n],.agg #[I V (IntKind.i64.wrap (x+n)),I V (IntKind.i64.wrap (y-n))]]) (by simp[results,results81,go_sem]) rfl ⟨?_,?_⟩
  ·rw[wI (by omega) (by omega),wI (by omega) (by omega)]
  ·exact((((AaP _ w).alloc (Aak _) _).alloc (by simp) _).alloc (by simp;omega) _).drew
theorem Lh {a:Addr}(hb:Below w.heap.size w w2)(bQ:a.block<w.heap.size)(h:w.frozen? a=false):w2.frozen? a=false:=(hb.frozen bQ).trans h
theorem RI {b:Nat}(hne:b≠c)(h:w.cell? ⟨b,o,O⟩=M v):(w.setCell ⟨c,i,O⟩ u).cell? ⟨b,o,O⟩=M v:=by
 rw[AbS _ _ _ _ (λe=>hne (congrArg Addr.block e).symm)];exact h
theorem T.EA (hc:w.cell? ⟨c,6,O⟩=O)(t:T w a h l):T (w.setCell ⟨c,i,O⟩ u) a h l:=by
 refine T.keep (λb k n p j o e=>?_) t;refine Abo _ _ _ _ (λd=>?_);subst d;obtain⟨-,-,-,-,-,-,g⟩:=gB e;rw[hc]at g;cases g
def JH (n:Nat):Prop:=∀(w:F) (a:Option Addr) (h:Nat) (l:List (Int×Int)),h<=n->l≠[]->T w a h l->l.length<=9000->fC l->
 H K 122 #[U a] w λe w'=>
  ∃px py l' r h',l=(px,py)::l'/\e=G (.tuple #[.agg #[I V px,I V py],U r])/\T w' r h' l'/\Below w.heap.size w w'
theorem ah {b:Nat}(hb:w.heap[b]?=M (nW O ra p h l))(tr:T w ra hr lr):
 H K 122 #[U (M ⟨b,0,O⟩)] w λe w'=>
  ∃h',e=G (.tuple #[.agg #[I V p.1,I V p.2],U ra])/\T w' ra h' lr/\Below w.heap.size w w':=by
 obtain⟨d,g,k,j,-,-,-⟩:=gB hb;have i:=AaA _ _ d;clear hb;obtain⟨c,a⟩:=p;go_enter func122,ntmps122;go_wp2_with fail
 go_region_held3 (λw'=>w'.cell? ⟨b,1,O⟩=M (U ra)/\w'.cell? ⟨b,2,O⟩=M (I V c)/\w'.cell? ⟨b,3,O⟩=M (I V a)) (go_keep) (fail)
 all_goals go_wp2_with fail
 all_goals exact Aap (v:= .tuple #[.agg #[I V c,I V a],U ra]) (by simp[results,results122,go_sem]) rfl ⟨hr,rfl,tr.below (bG _ _),bG _ _⟩
def wQ (w:F)(l:List (Int×Int))(pos:Int):Ending->F->Prop:=λe w'=>
 ∃r1 h1 r2 h2,e=G (.tuple #[U r1,U r2])/\T w' r1 h1 (dW l pos)/\T w' r2 h2 (bV l pos)/\Below w.heap.size w w'
def Oe (n:Nat):Prop:=∀(w:F) (a:Option Addr) (h:Nat) (l:List (Int×Int)) (pos:Int),h<=n->T w a h l->l.length<=8000->fC l->pos<=1000000000->
 H K 42 #[U a,I V pos] w (wQ w l pos)
theorem Zp (t:T w a h l)(hp:pos<=0):
 H K 42 #[U a,I V pos] w (wQ w l pos):=by
 go_enter func42,ntmps42;go_wp2_with fail;go_ret2;exact⟨O,0,a,h,rfl,by rw[pF l hp];exact T.nil _,by rw[zT l hp];exact t,AaP _ _⟩
theorem Li (t:T w a h l)(ok:fC l)(h0:0<pos)(hp:sz l<=pos):
 H K 42 #[U a,I V pos] w (wQ w l pos):=by
 go_enter func42,ntmps42;go_wp2_with fail;refine(kJ t).mono ?_;rintro e c ⟨rfl,rfl⟩;go_wp2_with fail;go_ret2;exact⟨a,h,O,0,rfl,by rw[Gq ok hp];exact t,by rw[Gr ok hp];exact T.nil _,AaP _ _⟩
theorem av {a:List (Int×Int)}(h:fC a)(h0:0<=n)(hn:n<sz a):(bV (a++p::b) n).head?=(bV a n).head?:=by
 rw[(Jp h (by omega)).2];have e:=nJ h h0 (by omega);cases c:bV a n with
 |nil=>rw[c]at e;simp[sz]at e;omega
 |cons q l=>rfl
theorem JJ {a:List (Int×Int)}(h:fC a)(h1:sz a<=n)(h2:n<sz a+p.2):(bV (a++p::b) n).head?=M (p.1+(n-sz a),p.2-(n-sz a)):=by
 by_cases e:n=sz a
 ·subst e;rw[(Jp h (AaT _)).2,Gr h (AaT _)];simp
 ·rw[(Zn h (by omega) h2).2];rfl
theorem A_ (t:T w a h l)(hlen:l.length<=8000)(ok:fC l)(h0:0<=pos)(h1:pos<sz l):
 H K 77 #[U a,I V pos] w λe w'=>
  ∃q:Int×Int,(bV l pos).head?=M q/\e=G (.agg #[I V q.1,I V q.2])/\Below w.heap.size w w':=by
 have Q:Hid (T w a h l/\fC l/\l.length<=8000/\pos<sz l):=⟨t,ok,hlen,h1⟩;clear t hlen ok h1;go_enter func77,ntmps77;go_wp2_with fail
 go_loopg [0,1] h (λk p q wr=>wr=w.alloc (C #[I V 0,I V 0] 50)/\∃(L:Option Addr) (j:List (Int×Int)) (c:Int),p=U L/\q=I V c/\T w L k j/\fC j/\j.length<=8000/\0<=c/\c<sz j/\(bV l pos).head?=(bV j c).head?)
 case atStart=>
  obtain⟨t,ok,hlen,h1⟩:=Q.out;exact⟨rfl,a,l,pos,rfl,rfl,t,ok,hlen,h0,h1,rfl⟩
 case round=>
  obtain⟨rfl,L,j,c,rfl,rfl,t',g,i,g0,g1,o⟩:=hrel;clear Q;rcases t'.inv with⟨rfl,rfl,rfl⟩|⟨b,la,ra,p,X,S,d,x,rfl,W,A,tr,E,z,-,-⟩
  ·simp[sz]at g1;omega
  ·obtain⟨c0,c1,c2,c3,-,-,-⟩:=gB W;have bQ:=AaA _ _ c0;clear W;have y:fC d:=(by rw[E]at g;exact oF g);have P:fC x:=(by rw[E]at g;exact dP (fZ g));have J:nQ p:=(by rw[E]at g;exact fT (fZ g));have Ei:d.length+x.length+1<=8000:=(by rw[E]at i;simp only[Aah,Aan]at i;omega);have R:sz j=sz d+(p.2+sz x):=(by rw[E,pE,rH]);have bl:=kT y;have br:=kT P;obtain⟨B,r⟩:=p;simp only at R;have hp:=J;unfold nQ at hp;simp only at hp;have g2:c<sz d+(r+sz x):=(by omega);have N:Hid ((bV l pos).head?=(bV j c).head?/\j=d++(B,r)::x/\gk=1+max X S):=⟨o,E,z⟩;clear o E z R;by_cases D:c<sz d
   ·go_wp2_with fail;refine(kJ (A.below (aO _ _))).mono ?_;rintro e n ⟨rfl,rfl⟩;go_wp2_with fail;obtain⟨o,E,z⟩:=N.out
    go_roundg X
    case measure=>omega
    case rel=>exact⟨rfl,la,d,c,rfl,rfl,A,y,by omega,g0,D,by rw[o,E];exact av y g0 D⟩
   ·by_cases k2:sz d+r<=c
    ·go_wp2_with fail;refine(kJ (A.below (aO _ _))).mono ?_;rintro e n ⟨rfl,rfl⟩;go_wp2_with fail;obtain⟨o,E,z⟩:=N.out
     go_roundg S
     case measure=>omega
     case rel=>exact⟨rfl,ra,x,_,rfl,rfl,tr,P,by omega,by omega,by omega,by rw[o,E,(Ql y J k2).2]⟩
    ·go_wp2_with fail;refine(kJ (A.below (aO _ _))).mono ?_;rintro e n ⟨rfl,rfl⟩;go_wp2_with fail;refine(WM B r (c-sz d) J (by omega) (by omega)).mono ?_;rintro e n ⟨rfl,u⟩;have tX:=u.size;simp only[AaD]at tX;have k0:n.cell? ⟨w.heap.size,0,O⟩=M (I V 0):=(u.cell (by simp)).trans (by simp);have D:n.cell? ⟨w.heap.size,1,O⟩=M (I V 0):=(u.cell (by simp)).trans (by simp);have f0:n.frozen? ⟨w.heap.size,0,O⟩=false:=(u.frozen (by simp)).trans (by simp);have f1:n.frozen? ⟨w.heap.size,1,O⟩=false:=(u.frozen (by simp)).trans (by simp);have JI:w.heap.size<n.heap.size:=(by omega);go_wp2_with fail;obtain⟨o,E,-⟩:=N.out;refine Aap (by simp[results,results77,go_sem,k0,D,JI]) rfl ⟨(B+(c-sz d),r-(c-sz d)),?_,rfl,?_⟩
     ·rw[o,E];exact JJ y (by omega) (by omega)
     ·have B1:=((aQ (aO w _) u).setCell (p:=⟨w.heap.size,0,O⟩) (Aak _) (I V (B+(c-sz d)))).setCell (p:=⟨w.heap.size,1,O⟩) (Aak _) (I V (r-(c-sz d)));exact aQ B1 (aQ (aO _ _) (aO _ _))
theorem Tryz.infoPiece:(Tryz.prog.info? 50).map (λi=>(i.zero,i.size,i.bytes))=M (M (.agg #[I V 0,I V 0]),2,16):=by kernel_rfl
def Bh (l:List (Int×Int)):List Y:=l.flatMap λp=> [I V p.1,I V p.2]
theorem xD (a b:List (Int×Int)):Bh (a++b)=Bh a++Bh b:=by simp[Bh]
theorem xE (p:Int×Int)(b:List (Int×Int)):Bh (p::b)=I V p.1::I V p.2::Bh b:=rfl
theorem qG (a:List (Int×Int)):(Bh a).length=a.length*2:=by
 induction a with
 |nil=>rfl
 |cons p a c=>rw[xE];simp[c];omega
theorem T.grown (bB:w.ownsRow g 50 2 (Z (M ⟨g,0,O⟩) k cap) k xs)(hg:w.grownBy w' (M g))
 (t:T w a h l):T w' a h l:=by
 refine T.keep (λb y z p o x e=>?_) t;obtain⟨-,i⟩:=bB;rcases i with⟨d,-⟩|⟨A,r,u,d,-,n,-⟩
 ·cases d
 ·cases d
  have c:b<w.heap.size:=by
   by_cases c:b<w.heap.size
   ·exact c
   ·rw[Adr (by omega)]at e;cases e
  refine hg.block b c (λj=>?_);cases j
  rw[n]at e;simp[nW]at e
theorem mX {g:Option Nat}(h1:w.grownBy w1 g)(h2:w1.grownBy w2 g):w.grownBy w2 g:=
 ⟨h2.os.trans h1.os,h2.tape.trans h1.tape,h2.output.trans h1.output,Aal h1.size h2.size,λk c a=>(h2.block k (AaE c h1.size) a).trans (h1.block k c a)⟩
theorem Ej (w:F)(o:Obj)(g:Option Nat):w.grownBy (w.alloc o) g:=
 ⟨rfl,rfl,rfl,by simp,λk a _=>Abg _ _ _ a⟩
theorem RN {b:Nat}(h:w.grownBy w1 (M g))(hbg:b≠g)(hc:w.cell? ⟨b,o,O⟩=M v):w1.cell? ⟨b,o,O⟩=M v:=
 (AaN (w:=w) (h.block b (AaA _ _ hc) (by simp;exact hbg))).trans hc
def WN (n:Nat):Prop:=∀(w:F) (a:Option Addr) (h:Nat) (l:List (Int×Int)) (g k cap:Nat) (xs:List Y),h<=n->T w a h l->
 w.ownsRow g 50 2 (Z (M ⟨g,0,O⟩) k cap) k xs->k+l.length<=cap->
 H K 85 #[Z (M ⟨g,0,O⟩) k cap,U a] w λe w'=>
  e=G (Z (M ⟨g,0,O⟩) (k+l.length) cap)/\w'.ownsRow g 50 2 (Z (M ⟨g,0,O⟩) (k+l.length) cap) (k+l.length) (xs++Bh l)/\w.grownBy w' (M g)
theorem WO (bB:w.ownsRow g 50 2 (Z (M ⟨g,0,O⟩) k cap) k xs):
 H K 85 #[Z (M ⟨g,0,O⟩) k cap,U O] w λe w'=>
  e=G (Z (M ⟨g,0,O⟩) (k+0) cap)/\w'.ownsRow g 50 2 (Z (M ⟨g,0,O⟩) (k+0) cap) (k+0) (xs++Bh [])/\w.grownBy w' (M g):=by
 go_enter func85,ntmps85;go_wp2_with fail;go_ret;exact⟨rfl,by simpa[Bh]using bB,Abp _ _⟩
theorem B_ {n:Nat}(ih:Hid (WN n)){b:Nat}
 (hb:w.heap[b]?=M (nW la ra p h l))(tl:T w la hl ll)(tr:T w ra hr lr)(Lj:hl<=n)(Oi:hr<=n)
 (bB:w.ownsRow g 50 2 (Z (M ⟨g,0,O⟩) k cap) k xs)(iW:k+ll.length+1+lr.length<=cap):
 H K 85 #[Z (M ⟨g,0,O⟩) k cap,U (M ⟨b,0,O⟩)] w λe w'=>
  e=G (Z (M ⟨g,0,O⟩) (k+ll.length+1+lr.length) cap)/\w'.ownsRow g 50 2 (Z (M ⟨g,0,O⟩) (k+ll.length+1+lr.length) cap) (k+ll.length+1+lr.length) (xs++Bh ll++ [I V p.1,I V p.2]++Bh lr)/\w.grownBy w' (M g):=by
 obtain⟨L,N,nG,J,nH⟩:=AaO Tryz.infoPiece;obtain⟨x,y,z,u,-,-,-⟩:=gB hb;have Q:=AaA _ _ x
 have c:b≠g:=by
  intro e;subst e;obtain⟨-,E⟩:=bB;rcases E with⟨t,-⟩|⟨g',mF,aR,t,-,D,-⟩
  ·cases t
  ·cases t;rw[D]at hb;simp[nW]at hb
 clear hb;obtain⟨S,A⟩:=p;go_enter func85,ntmps85;go_wp2_with fail;refine(ih.out _ la hl ll g k cap xs Lj tl bB (by omega)).mono ?_;rintro e d ⟨rfl,lT,i⟩;have a:∀o,d.cell? ⟨b,o,O⟩=w.cell? ⟨b,o,O⟩:=λo=>AaN (w:=w) (i.block b Q (by simp;exact c))
 have r:=(a 1).trans y;have P:=(a 2).trans z;have B:=(a 3).trans u;have tX:=i.size;have JI:b<d.heap.size:=by omega
 clear x y z u a;go_wp2_with (at_builtin;go_must (refine wpList_append_fits _ rfl (.tmp 14) (.tmp 19) 51 rfl g 50 L 2 underlying51 N J g (k+ll.length) cap _ rfl (lT.alloc _) ⟨d.heap.size,0,O⟩ 1 1 [I V S,I V A] rfl rfl (AdA _ _ _ _) (by simp[Value.oneCell']) (by omega) ?_);intro w2 R j;have d1:=RN (mX (Ej d _ _) j) c r);refine(ih.out _ ra hr lr g (k+ll.length+1) cap _ Oi (tr.grown bB (mX i (mX (Ej _ _ _) j))) R (by omega)).mono ?_;rintro e w3 ⟨rfl,X,W⟩;go_wp2_with fail;go_ret;exact⟨rfl,X,mX i (mX (Ej _ _ _) (mX j W))⟩
theorem C_:∀n,WN n:=by
 intro n
 induction n with
 |zero=>
  intro w a h l g k d i A t c z;have r:=t.zero.1.1 (by omega);have Q:=t.zero.2.2 r;subst r;subst Q;exact WO c
 |succ n L=>
  intro w a h l g k d i A t c z;rcases t.inv with⟨rfl,rfl,rfl⟩|⟨b,R,W,p,r,S,j,o,rfl,P,J,B,E,rfl,u,x⟩
  ·exact WO c
  ·have y:l.length=j.length+(o.length+1):=(by rw[E];simp);refine(B_ L P J B (by omega) (by omega) c (by omega)).mono ?_;rintro e X ⟨rfl,D,N⟩;have u:k+l.length=k+j.length+1+o.length:=(by omega);have x:i++Bh l=i++Bh j++ [I V p.1,I V p.2]++Bh o:=(by rw[E,xD,xE];simp);rw[u,x];exact⟨rfl,D,N⟩
theorem JK (t:T w a h l)(hlen:l.length<=9000):
 H K 45 #[U a] w λe w'=>
  ∃g,e=G (Z (M ⟨g,0,O⟩) l.length l.length)/\w'.ownsRow g 50 2 (Z (M ⟨g,0,O⟩) l.length l.length) l.length (Bh l)/\w.heap.size<=g/\Below w.heap.size w w':=by
 obtain⟨n,o,x,y,u⟩:=AaO Tryz.infoPiece;go_enter func45,ntmps45;go_wp2_with fail;refine(xB t).mono ?_;rintro e w ⟨rfl,rfl⟩;go_wp2_with (at_make;go_must (refine AdB _ rfl _ _ 51 rfl w.heap.size 50 n _ 2 underlying51 o x y V V _ l.length rfl rfl rfl (by rw[u];omega) (by unfold maxLen;omega) (Aak _) ?_);intro z r c);refine(C_ h _ a h l w.heap.size 0 l.length [] (Aak _) (t.below ⟨c.os,c.tape,c.output,c.size,λk i=>c.block k i (by simp)⟩) r (by omega)).mono ?_;rintro e A ⟨rfl,j,d⟩;go_wp2_with fail;go_ret;simp only[Ach,Acf]at j ⊢;refine⟨w.heap.size,rfl,j,Aak _,?_⟩;exact⟨d.os.trans c.os,d.tape.trans c.tape,d.output.trans c.output,Aal c.size d.size,λk i=>(d.block k (AaE i c.size) (by simp;omega)).trans (c.block k i (by simp))⟩
def vS (root:Option Addr):Obj:=C #[U root] 104 (0,0)
def cK (w:F)(tb:Nat)(l:List (Int×Int)):Prop:=∃root h,w.heap[tb]?=M (vS root)/\T w root h l/\fC l/\l.length<=4096
theorem sV (h:w.heap[tb]?=M (vS root)):w.cell? ⟨tb,0,O⟩=M (U root)/\w.frozen? ⟨tb,0,O⟩=false:=by
 simp[World.cell?,World.frozen?,h,vS]
theorem aM {b:Nat}{o:Obj}(e:w.heap[b]?=M o):b<w.heap.size:=by
 by_cases a:b<w.heap.size
 ·exact a
 ·rw[Adr (by omega)]at e;cases e
theorem cK.lt (t:cK w tb l):tb<w.heap.size:=by
 obtain⟨r,h,a,-⟩:=t;exact aM a
theorem cK.keep (t:cK w tb l)(hk:∀b c,w.heap[b]?=M c->(∃r,c=vS r)/\b=tb\/(∃la ra p h l,c=nW la ra p h l)->w'.heap[b]?=w.heap[b]?):cK w' tb l:=by
 obtain⟨r,h,a,d,g⟩:=t;exact⟨r,h,(hk tb _ a (Aac ⟨⟨r,rfl⟩,rfl⟩)).trans a,T.keep (λb la ra p h l e=>hk b _ e (Aab ⟨la,ra,p,h,l,rfl⟩)) d,g⟩
theorem cK.below (t:cK w tb l)(hB:Below w.heap.size w w'):cK w' tb l:=
 t.keep λb _ e _=>hB.block b (aM e)
theorem EB (w:F):H K 10 #[] w λe w'=>e=G (U (M ⟨w.heap.size,0,O⟩))/\w'=w.alloc (vS O):=by
 go_enter func10,ntmps10
 go_wp2
 go_ret;exact⟨rfl,rfl⟩
theorem Uk (w:F):cK (w.alloc (vS O)) w.heap.size []:=
 ⟨O,0,by show(w.heap.push _)[w.heap.size]?=_;rw[Array.getElem?_push,Aad rfl],T.nil _,wC,by simp⟩
theorem mG (t:cK w tb l):H K 33 #[U (M ⟨tb,0,O⟩)] w λe w'=>e=G (I V (sz l))/\w'=w:=by
 obtain⟨r,h,a,c,-⟩:=t;obtain⟨d,-⟩:=sV a;clear a;go_enter func33,ntmps33;go_wp2_with fail;refine(kJ c).mono ?_;rintro e w ⟨rfl,rfl⟩;go_wp2_with fail;go_ret;exact⟨rfl,rfl⟩
theorem RO (t:cK w tb l):H K 35 #[U (M ⟨tb,0,O⟩)] w λe w'=>
 ∃h:Nat,e=G (I V (h:Int))/\w'=w/\(h=0↔l=[])/\(∀d:Nat,2*d+1<=h->2 ^ d<=l.length)/\h<=4096:=by
 obtain⟨r,h,g,c,-,a⟩:=t;obtain⟨i,-⟩:=sV g;clear g;go_enter func35,ntmps35;go_wp2_with fail;refine(eF c).mono ?_;rintro e w ⟨rfl,rfl⟩;go_wp2_with fail;go_ret;exact⟨h,rfl,rfl,c.zero.1,c.many,Aal c.hle a⟩
theorem El (t:cK w tb l):H K 12 #[U (M ⟨tb,0,O⟩)] w λe w'=>
 ∃g,e=G (Z (M ⟨g,0,O⟩) l.length l.length)/\w'.ownsRow g 50 2 (Z (M ⟨g,0,O⟩) l.length l.length) l.length (Bh l)/\w.heap.size<=g/\Below w.heap.size w w':=by
 obtain⟨r,h,a,d,-,c⟩:=t;obtain⟨o,-⟩:=sV a;clear a;go_enter func12,ntmps12;go_wp2_with fail;refine(JK d (by omega)).mono ?_;rintro e n ⟨g,rfl,j,i,k⟩;go_wp2_with fail;go_ret;exact⟨g,rfl,j,i,k⟩
def Ry (x y:Int):Prop:=1<=y/\y<=5000/\0<=x/\x<=1000000000
theorem WQ (h:Ry x y):nQ (x,y):=by unfold Ry at h;unfold nQ;simp only;omega
theorem may_yes (h:Ry x y):H K 41 #[.agg #[I V x,I V y]] w λe w'=>e=G (.bool true)/\Below w.heap.size w w':=by
 obtain⟨a,g,c,d⟩:=h;go_enter func41,ntmps41
 go_wp2
 go_ret;exact⟨by simp[*],aO _ _⟩
theorem may_no (h:¬Ry x y):H K 41 #[.agg #[I V x,I V y]] w λe w'=>e=G (.bool false)/\Below w.heap.size w w':=by
 unfold Ry at h;by_cases a:1<=y
 ·by_cases g:y<=5000
  ·by_cases c:0<=x
   ·have d:¬x<=1000000000:=(by omega);go_enter func41,ntmps41
    go_wp2
    go_ret;exact⟨by simp[*],aO _ _⟩
   ·go_enter func41,ntmps41
    go_wp2
    go_ret;exact⟨by simp[*],aO _ _⟩
  ·go_enter func41,ntmps41
   go_wp2
   go_ret;exact⟨by simp[*],aO _ _⟩
 ·go_enter func41,ntmps41
  go_wp2
  go_ret;exact⟨by simp[*],aO _ _⟩
theorem mH (h:Below w.heap.size w w1)(g:Option Nat):w.grownBy w1 g:=⟨h.os,h.tape,h.output,h.size,λk a _=>h.block k a⟩
theorem Zq (h:Below w.heap.size w w1)(tb i:Nat)(v:Y):w.grownBy (w1.setCell ⟨tb,i,O⟩ v) (M tb):=
 ⟨h.os,h.tape,h.output,by simpa[World.setCell]using h.size,λk c a=>(Abo _ _ _ _ (by intro e;exact a (by rw[e]))).trans (h.block k c)⟩
theorem Qn (t:T w root h l)(hlen:4096<l.length):
 H K 43 #[U (M ⟨tb,0,O⟩),U root] w λe w'=>e=G (I V 13)/\w'=w:=by
 have a:((4096:Int)<(l.length:Int)):=by omega
 go_enter func43,ntmps43;go_wp2_with fail;refine(xB t).mono ?_;rintro e w ⟨rfl,rfl⟩;go_wp2_with fail;go_ret;exact⟨rfl,rfl⟩
theorem JL (hb:w.heap[tb]?=M (vS r))(t:T w root h l)(ok:fC l)(hlen:l.length<=4096):
 cK (w.setCell ⟨tb,0,O⟩ (U root)) tb l:=by
 refine⟨root,h,?_,T.EA (by simp[World.cell?,hb,vS]) t,ok,hlen⟩;exact one_setCell hb
theorem Zr (hb:w.heap[tb]?=M (vS r))(t:T w root h l)(hlen:l.length<=4096):
 H K 43 #[U (M ⟨tb,0,O⟩),U root] w λe w'=>e=G (I V 0)/\w'=w.setCell ⟨tb,0,O⟩ (U root):=by
 have d:¬((4096:Int)<(l.length:Int)):=by omega
 obtain⟨c,a⟩:=sV hb;clear hb;go_enter func43,ntmps43;go_wp2_with fail;refine(xB t).mono ?_;rintro e w ⟨rfl,rfl⟩;go_wp2_with fail;go_ret;exact⟨rfl,rfl⟩
theorem RP (t:cK w tb l)(hp:pos<0\/sz l<pos):
 H K 11 #[U (M ⟨tb,0,O⟩),I V pos,.agg #[I V x,I V y]] w λe w'=>e=G (I V 5)/\Below w.heap.size w w':=by
 by_cases d:pos<0
 ·go_enter func11,ntmps11;go_wp2_with fail;go_ret;exact⟨rfl,aO _ _⟩
 ·have c:sz l<pos:=by omega
  go_enter func11,ntmps11;go_wp2_with fail;refine(mG (t.below (aO _ _))).mono ?_;rintro e a ⟨rfl,rfl⟩;go_wp2_with fail;go_ret;exact⟨rfl,aO _ _⟩
theorem RQ (t:cK w tb l)(h0:0<=pos)(h1:pos<=sz l)(hm:¬Ry x y):
 H K 11 #[U (M ⟨tb,0,O⟩),I V pos,.agg #[I V x,I V y]] w λe w'=>e=G (I V 1)/\Below w.heap.size w w':=by
 go_enter func11,ntmps11;go_wp2_with fail;refine(mG (t.below (aO _ _))).mono ?_;rintro e c ⟨rfl,rfl⟩;go_wp2_with fail;refine(may_no hm).mono ?_;rintro e c ⟨rfl,a⟩;go_wp2_with fail;go_ret;exact⟨rfl,aQ (aO _ _) a⟩
def Hz (l:List (Int×Int))(pos:Int)(p:Int×Int):List (Int×Int):=dW l pos++p::bV l pos
end Go.Proofs.YtfplgfodoiiobabGreatDoor
