/- a part of the proof. -/
import Derived.Test.YtfplgfodoiiobabGreatDoorJ02
import Derived.Test.YtfplgfodoiiobabGreatDoorJb
open Option renaming none->O,some->M
open Go.Value renaming int->I,slice->Z,pointer->U
open Go.IntKind renaming i64->V
open Go.Obj renaming cells->C
open Go.Ending renaming returned->G
open Go renaming World->F,Value->Y,Calls->H
open Go.Proofs.Tryz renaming prog→K
open Go.Proofs.Tryz
namespace Go.Proofs.YtfplgfodoiiobabGreatDoor
set_option maxHeartbeats 1000000
open Go.RowKit
variable {l c:List (Int×Int)}{w w1 w' wr:F}{pos n p:Int}{tb k B cap b:Nat}{v:Y}{o:Obj}{ao:Option Addr}{q:Int×Int}
theorem RS (t:cK w tb l)(Oi:n<=9223372036854775807)(hp2:pos<=9223372036854775807)(hp:n<0\/pos<0\/sz l<pos\/sz l-pos<n):
 H K 28 #[U (M ⟨tb,0,O⟩),I V pos,I V n] w λe w'=>e=G (.tuple #[Z O 0 0,I V 5])/\w'=w:=by
 obtain⟨r,h,d,c,ok,a⟩:=id t;have i:=kT ok;clear d c ok;by_cases j:n<0
 ·go_enter func28,ntmps28;go_wp2_with fail;refine(mG t).mono ?_;rintro e w ⟨rfl,rfl⟩;go_wp2_with fail;go_ret2;exact⟨rfl,rfl⟩
 ·by_cases o:pos<0
  ·go_enter func28,ntmps28;go_wp2_with fail;refine(mG t).mono ?_;rintro e w ⟨rfl,rfl⟩;go_wp2_with fail;go_ret2;exact⟨rfl,rfl⟩
  ·by_cases g:sz l<pos
   ·go_enter func28,ntmps28;go_wp2_with fail;refine(mG t).mono ?_;rintro e w ⟨rfl,rfl⟩;go_wp2_with fail;go_ret2;exact⟨rfl,rfl⟩
   ·have k:sz l-pos<n:=(by omega);go_enter func28,ntmps28;go_wp2_with fail;refine(mG t).mono ?_;rintro e w ⟨rfl,rfl⟩;go_wp2_with fail;go_ret2;exact⟨rfl,rfl⟩
theorem JM (t:cK w tb l)(h0:0<=pos)(h1:pos<=sz l):
 H K 28 #[U (M ⟨tb,0,O⟩),I V pos,I V 0] w λe w'=>e=G (.tuple #[Z O 0 0,I V 0])/\w'=w:=by
 obtain⟨r,h,d,c,ok,a⟩:=id t;have g:=kT ok;clear d c ok;go_enter func28,ntmps28;go_wp2_with fail;refine(mG t).mono ?_;rintro e w ⟨rfl,rfl⟩;go_wp2_with fail;go_ret2;exact⟨rfl,rfl⟩
def zV (l:List (Int×Int))(pos n:Int):List (Int×Int):=dW l pos++bV (bV l pos) n
def uH (l:List (Int×Int))(pos n:Int):List (Int×Int):=dW (bV l pos) n
theorem find_no (t:cK w tb l)(hp:pos<0\/sz l<=pos):
 H K 31 #[U (M ⟨tb,0,O⟩),I V pos] w λe w'=>e=G (.tuple #[.agg #[I V 0,I V 0],I V 5])/\Below w.heap.size w w':=by
 by_cases d:pos<0
 ·go_enter func31,ntmps31;go_wp2_with fail;exact Aap (by simp[results,results31,go_sem]) rfl ⟨rfl,aO _ _⟩
 ·have c:sz l<=pos:=by omega
  go_enter func31,ntmps31;go_wp2_with fail;refine(mG (t.below (aO _ _))).mono ?_;rintro e a ⟨rfl,rfl⟩;go_wp2_with fail;exact Aap (by simp[results,results31,go_sem]) rfl ⟨rfl,aO _ _⟩
theorem D_ (t:cK w tb l)(h0:0<=pos)(h1:pos<sz l):
 H K 31 #[U (M ⟨tb,0,O⟩),I V pos] w λe w'=>
  ∃q:Int×Int,(bV l pos).head?=M q/\e=G (.tuple #[.agg #[I V q.1,I V q.2],I V 0])/\Below w.heap.size w w':=by
 obtain⟨r,h,d,i,ok,g⟩:=id t;obtain⟨z,-⟩:=sV d;have A:=aM d;clear d;go_enter func31,ntmps31;go_wp2_with fail;refine(mG (t.below (aO _ _))).mono ?_;rintro e a ⟨rfl,rfl⟩;go_wp2_with fail;refine(A_ (i.below (aO _ _)) (by omega) ok h0 h1).mono ?_;rintro e a ⟨⟨k,j⟩,E,rfl,c⟩;have n:Hid _:=E;clear E;have u:a.cell? ⟨w.heap.size,0,O⟩=M (I V 0):=(c.cell (by simp)).trans (by simp);have o:a.cell? ⟨w.heap.size,1,O⟩=M (I V 0):=(c.cell (by simp)).trans (by simp);have y:a.frozen? ⟨w.heap.size,0,O⟩=false:=(c.frozen (by simp)).trans (by simp);have x:a.frozen? ⟨w.heap.size,1,O⟩=false:=(c.frozen (by simp)).trans (by simp);go_wp2_with fail;refine Aap (by simp[results,results31,go_sem,u,o]) rfl ⟨(k,j),n.out,rfl,?_⟩;exact((aQ (aO w _) c).setCell (Aak _) _).setCell (Aak _) _
theorem EC (l:List (Int×Int))(i:Nat)(h:i<l.length):(Bh l)[i*2]?=M (I V (l.getD i (0,0)).1)/\(Bh l)[i*2+1]?=M (I V (l.getD i (0,0)).2):=by
 induction l generalizing i with
 |nil=>simp at h
 |cons p l a=>
  cases i with
  |zero=>simp[xE]
  |succ i=>
   have:=a i (by simpa using h);rw[xE,show(i+1)*2=i*2+1+1 from by omega];simpa using this
theorem JN (h:fC l)(k:Nat):fC (l.take k):=λp a=>h p (Aba a)
theorem yT (h:fC l):∀ {p n:Int},0<=p->0<=n->bV (bV l p) n=bV l (p+n):=by
 induction l with
 |nil=>intros;rfl
 |cons q l j=>
  intro p n k g;have i:=fT h;unfold nQ at i;by_cases e:p<=0
  ·have:p=0:=(by omega);subst this;rw[zT _ (AaT _),Int.zero_add]
  ·simp only[bV];rw[Aaa e,Aaa (show ¬p+n<=0 by omega)];by_cases a:q.2<=p
   ·rw[Aad a,Aad (show q.2<=p+n by omega),j (dP h) (by omega) g,show p-q.2+n=p+n-q.2 from by omega]
   ·rw[Aaa a];simp only[bV];by_cases d:n<=0
    ·have:n=0:=(by omega);subst this;rw[Aad (AaT _),Aaa (by omega)];simp
    ·rw[Aaa d];by_cases c:q.2-p<=n
     ·rw[Aad c,Aad (show q.2<=p+n by omega),show n-(q.2-p)=p+n-q.2 from by omega]
     ·rw[Aaa c,Aaa (by omega)];simp;omega
def fH (w:F)(B:Nat)(v:Y)(l:List (Int×Int)):Prop:=w.ownsRow B 50 2 v l.length (Bh l)
theorem Tc (h:k<l.length):sz (l.take (k+1))=sz (l.take k)+(l.getD k (0,0)).2:=by
 rw[Aau h,pE];simp[sz,h]
theorem Jq (ok:fC l)(hlen:l.length<=9000)(k:Nat):0<=sz (l.take k)/\sz (l.take k)<=45000000:=by
 have:=kT (JN ok k);have a:(l.take k).length<=9000:=by rw[Aaz];omega
 omega
theorem RV (ok:fC l)(hk:k<l.length):nQ (l.getD k (0,0)):=ok _ (by simp[hk])
theorem fH.push {v1:Y}{x y:Int}(h:w1.ownsRow B 50 2 v1 (l.length+1) (Bh l++ [I V x,I V y])):fH w1 B v1 (l++ [(x,y)]):=by
 unfold fH;rw[xD];simpa[Bh]using h
theorem oG (hB:Below B w wr)(hs:B<=wr.heap.size)(bB:fH wr B v l)(hg:(wr.alloc o).grownBy w1 v.ownBlock):Below B w w1:=
 (hB.alloc hs o).grown hg (by simp;omega) (λk e=>(AaB bB k e).1)
theorem zX {off:Nat}(hc:∀i,i<l.length->w.cell? ⟨b,off+i*2,O⟩=M (I V (l.getD i (0,0)).1)/\w.cell? ⟨b,off+i*2+1,O⟩=M (I V (l.getD i (0,0)).2)):
 ∀j u,(Bh l)[j]?=M u->w.cell? ((⟨b,off,O⟩:Addr).add j)=M u:=by
 intro j u a
 have g:j<l.length*2:=by
  by_cases g:j<l.length*2
  ·exact g
  ·rw[AcE (by rw[qG];omega)]at a;cases a
 obtain⟨c,d⟩:=hc (j / 2) (by omega);obtain⟨g1,g2⟩:=EC l (j / 2) (by omega)
 have k:(⟨b,off,O⟩:Addr).add j=⟨b,off+j,O⟩:=by
  cases j with
  |zero=>simp[Addr.add]
  |succ j=>simp[Addr.add]
 rw[k];rcases Nat.mod_two_eq_zero_or_one j with h|h
 ·have e:j / 2*2=j:=by omega
  rw[e]at c g1;rw[c];rw[g1]at a;exact a
 ·have e:j / 2*2+1=j:=by omega
  rw[AcF,e]at d;rw[e]at g2;rw[d];rw[g2]at a;exact a
theorem fH.below (h:fH w B v l)(hB:Below w.heap.size w w'):fH w' B v l:=by
 refine World.ownsRow.kept h (mH hB O) ?_;cases a:v.ownBlock with
 |none=>exact Aac rfl
 |some k=>exact Aab (by simp)
theorem zY (hB:Below w.heap.size w wr)(bB:fH wr w.heap.size v l)(hg:wr.grownBy w1 v.ownBlock):Below w.heap.size w w1:=
 hB.grown hg hB.size (λk e=>(AaB bB k e).1)
theorem fH.weak {B':Nat}(h:fH w B' v l)(hB:B<=B'):fH w B v l:=by
 obtain⟨e,c⟩:=h;refine⟨e,?_⟩;rcases c with c|⟨g,a,i,j,d,k⟩
 ·exact Aac c
 ·exact Aab ⟨g,a,i,j,Aal hB d,k⟩
theorem head_at (ok:fC l)(hk:k<l.length)(h1:sz (l.take k)<=n)(h2:n<sz (l.take k)+(l.getD k (0,0)).2):
 (bV l n).head?=M ((l.getD k (0,0)).1+(n-sz (l.take k)),(l.getD k (0,0)).2-(n-sz (l.take k))):=by
 have e:l=l.take k++l.getD k (0,0)::l.drop (k+1):=by
  simp[hk]
 have a:=JJ (b:=l.drop (k+1)) (JN ok k) h1 h2;rw[<-e]at a;exact a
theorem pcs_set (x y:Int):∀(l:List (Int×Int)) (k:Nat),k<l.length->((Bh l).set (k*2) (I V x)).set (k*2+1) (I V y)=Bh (l.set k (x,y)):=by
 intro l
 induction l with
 |nil=>intro k h;simp at h
 |cons p l a=>
  intro k h;cases k with
  |zero=>simp[xE]
  |succ k=>
   have:=a k (by simpa using h);rw[xE,show(k+1)*2=k*2+1+1 from by omega];simp only[Aar];rw[xE];simpa using this
theorem fH.store {g n:Nat}(x y:Int)(h:fH w B (Z (M ⟨g,0,O⟩) n cap) l)(hk:k<l.length):
 fH ((w.setCell ⟨g,k*2,O⟩ (I V x)).setCell ⟨g,k*2+1,O⟩ (I V y)) B (Z (M ⟨g,0,O⟩) n cap) (l.set k (x,y)):=by
 have c:n=l.length:=by
  rcases h.2 with⟨a,-⟩|⟨i,j,o,a,-⟩
  ·cases a
  ·cases a;rfl
 subst c;have e:=(Acb h (k*2) (I V x)).1;have d:=(Acb e (k*2+1) (I V y)).1;unfold fH;rw[<-pcs_set x y l k hk,Acg];exact d
theorem fH.block {n:Nat}(h:fH w B (Z ao n cap) l)(hk:k<l.length):
 ∃g aR,ao=M ⟨g,0,O⟩/\B<=g/\w.heap[g]?=M (C aR 50 (0,0))/\w.cell? ⟨g,k*2,O⟩=M (I V (l.getD k (0,0)).1)/\w.cell? ⟨g,k*2+1,O⟩=M (I V (l.getD k (0,0)).2)
  /\w.frozen? ⟨g,k*2,O⟩=false/\w.frozen? ⟨g,k*2+1,O⟩=false:=by
 have a:=h;rcases h.2 with⟨-,r⟩|⟨g,o,aR,i,d,j,-⟩
 ·omega
 ·cases i
  obtain⟨c,e⟩:=EC l k hk;exact⟨g,aR,rfl,d,j,(Abv a (k*2) (by omega)).trans c,(Abv a (k*2+1) (by omega)).trans e,Acz a _,Acz a _⟩
theorem iP {r:Option Nat}(hg:w.grownBy w' r)(hb:w.heap[b]?=M o)(hne:¬r=M b):w'.heap[b]?=M o:=
 (hg.block b (aM hb) (λe=>hne e.symm)).trans hb
theorem fH.typed {n:Nat}(h:fH w B (Z ao n cap) l):∀a,ao=M a->∃aR,w.heap[a.block]?=M (C aR 50 (0,0))/\B<=a.block:=by
 intro a e;subst e;rcases h.2 with⟨d,-⟩|⟨g,k,aR,i,c,j,-⟩
 ·cases d
 ·cases i;exact⟨aR,j,c⟩
def bS (l:List (Int×Int))(pos:Int)(more:List (Int×Int)):List (Int×Int):=if more=[]then l else dW l pos++more++bV l pos
def bN (l:List (Int×Int))(pos n:Int):List (Int×Int)×List (Int×Int):=if n=0 then (l,[])else (zV l pos n,uH l pos n)
theorem bH (hb:Below w.heap.size w w')(h:w.heap[b]?=M o):w'.heap[b]?=M o:=(hb.block b (aM h)).trans h
theorem three (w:F)(o1 o2 o3:Obj):(((w.alloc o1).alloc o2).alloc o3).heap[w.heap.size]?=M o1/\(((w.alloc o1).alloc o2).alloc o3).heap[w.heap.size+1]?=M o2/\(((w.alloc o1).alloc o2).alloc o3).heap[w.heap.size+1+1]?=M o3
 /\(((w.alloc o1).alloc o2).alloc o3).heap.size=w.heap.size+1+1+1/\Below w.heap.size w (((w.alloc o1).alloc o2).alloc o3):=by
 have a:=AaD w o1;have c:=AaD (w.alloc o1) o2;have d:=AaD ((w.alloc o1).alloc o2) o3;refine⟨?_,?_,?_,by omega,aQ (aQ (aO _ _) (aO _ _)) (aO _ _)⟩
 ·exact bH (aO _ _) (bH (aO _ _) (Aag w o1))
 ·rw[<-a];exact bH (aO _ _) (Aag (w.alloc o1) o2)
 ·rw[<-a,<-c];exact Aag _ o3
def xL (l:List (Int×Int))(pos x y:Int):List (Int×Int)×Int:=
 if pos<0\/sz l<pos then (l,5)else if ¬(1<=y/\y<=5000/\0<=x/\x<=1000000000)then (l,1)else if 4096<(Hz l pos (x,y)).length then (l,13)else (Hz l pos (x,y),0)
def kL (l:List (Int×Int))(pos n:Int):List (Int×Int)×List (Int×Int)×Int:=
 if n<0\/pos<0\/sz l<pos\/sz l-pos<n then (l,[],5)else if n=0 then (l,[],0)else if 4096<(zV l pos n).length then (l,[],13)else (zV l pos n,uH l pos n,0)
def jU (l:List (Int×Int))(pos:Int):(Int×Int)×Int:=
 if pos<0\/sz l<=pos then ((0,0),5)else (((bV l pos).head?).getD (0,0),0)
theorem cK.ok (t:cK w tb l):fC l/\l.length<=4096:=by
 obtain⟨_,_,_,_,a,c⟩:=t;exact⟨a,c⟩
theorem Ls (t:cK w tb l):
 H K 31 #[U (M ⟨tb,0,O⟩),I V pos] w λe w'=>
  e=G (.tuple #[.agg #[I V (jU l pos).1.1,I V (jU l pos).1.2],I V (jU l pos).2])/\Below w.heap.size w w':=by
 by_cases a:pos<0\/sz l<=pos
 ·simp only[jU,Aad a];exact find_no t a
 ·refine(D_ t (by omega) (by omega)).mono ?_;rintro e w' ⟨q,c,rfl,d⟩;simp only[jU,Aaa a,c,Acy];exact⟨trivial,d⟩
def pY (q a n m k:Int)(s:ByteArray)(fo:Option Addr)(fl fc:Nat):Y:= .agg #[I V q,I V a,I V n,I V m,I V k,.string s,Z fo fl fc]
theorem cK.drew (t:cK w tb l):cK w.drew tb l:=t.below ⟨rfl,rfl,rfl,Aak _,λ_ _=>rfl⟩
theorem M_ (hlen:l.length<=4096)(n m:Int):(kL l n m).2.1.length<=8000:=by
 unfold kL;have a:=nR l n;have c:=nR (bV l n) m;split
 ·simp
 ·split
  ·simp
  ·split
   ·simp
   ·simp only[uH];omega
theorem fH.lt {n:Nat}(h:fH w B (Z ao n cap) l):∀a,ao=M a->B<=a.block/\a.block<w.heap.size:=λa e=>by
 obtain⟨g,d,c⟩:=h.typed a e;exact⟨c,aM d⟩
theorem Tf (h:fC l)(h0:0<=pos)(hn:0<=n)(h1:n<=sz l-pos):sz (bN l pos n).1=sz l-n:=by
 unfold bN;split
 ·rename_i e;subst e;simp
 ·simp only[zV,pE];rw[zU h h0 (by omega),nJ (lF h pos) hn (by rw[nJ h h0 (by omega)];omega),nJ h h0 (by omega)];omega
theorem Lu (h:fC l)(pos n:Int):fC (bN l pos n).1:=by
 unfold bN;split
 ·exact h
 ·exact iO (wP h pos) (lF (lF h pos) n)
theorem KD (l:List (Int×Int))(pos n:Int):(bN l pos n).1.length<=l.length+2:=by
 unfold bN;split
 ·simp
 ·have a:=nR l pos;have c:=nR (bV l pos) n;simp only[zV,Aah];omega
def Dl (n:Int)(pos:Int)(gone come:List (Int×Int)):Prop:=0<=pos/\pos+sz gone<=n/\fC gone/\fC come/\gone.length<=6000/\come.length<=6000
theorem SX {more:List (Int×Int)}(h:fC l)(h0:0<=pos)(h1:pos<=sz l):sz (bS l pos more)=sz l+sz more:=by
 unfold bS;split
 ·rename_i e;rw[e];simp[sz]
 ·rw[pE,pE,zU h h0 h1,nJ h h0 h1];omega
theorem Y_ (h:fC l)(h0:0<=pos)(hn:0<=n)(h1:pos+n<=sz l):sz (bN l pos n).1=sz l-n/\sz (bN l pos n).2=n:=by
 unfold bN;split
 ·rename_i e;subst e;simp[sz]
 ·have a:=lF h pos;have c:=nJ h h0 (by omega);simp only[zV,uH];rw[pE,zU h h0 (by omega),nJ a hn (by omega),zU a hn (by omega)];omega
theorem oP (h:fC l)(k:Nat):0<=sz (l.take k)/\sz (l.take k)<=5000*(k:Int):=by
 have a:fC (l.take k):=λp c=>h p (Aba c);have e:=kT a;have d:(l.take k).length<=k:=by rw[Aaz];omega
 omega
theorem Cv {p:Int×Int}(h:l[k]?=M p):sz (l.take (k+1))=sz (l.take k)+p.2:=by
 obtain⟨c,a⟩:=Aae.1 h;rw[Aau c,pE,a];simp[sz]
def sK (l:List (Int×Int))(pos n:Int):Bool:=decide (0<=pos) && decide (pos<=sz l-n)
def jN (l:List (Int×Int))(pos:Int):Bool:=(jU l (pos-1)).2==0 && decide (1<(jU l (pos-1)).1.2)
theorem Pk (h:pos-1<0\/sz l<=pos-1):jN l pos=false:=by
 unfold jN jU;rw[Aad h];rfl
theorem tJ (h:¬(pos-1<0\/sz l<=pos-1)):jN l pos=decide (1<((bV l (pos-1)).head?.getD (0,0)).2):=by
 unfold jN jU;rw[Aaa h];simp
theorem rY (h:fC l):0<=sz l:=by
 have:=kT h;omega
theorem Kk:∀ {l:List (Int×Int)} (_:fC l) {pos:Int} (_:0<=pos) (_:pos<=sz l),(dW l pos).length+(bV l pos).length=l.length+(if jN l pos then 1 else 0):=by
 intro l
 induction l with
 |nil=>
  intro _ pos j e;simp[sz]at e;rw[Pk (by omega)];simp[dW,bV]
 |cons p l k=>
  intro h pos j e;have n:=fT h;have i:=dP h;have t:=rY i;unfold nQ at n;rw[rH]at e;by_cases c:pos<=0
  ·rw[Pk (by omega),dW,bV,Aad c,Aad c];simp
  ·rw[dW,bV,Aaa c,Aaa c];by_cases d:p.2<=pos
   ·rw[Aad d,Aad d];have r:=k i (pos:=pos-p.2) (by omega) (by omega)
    have g:jN (p::l) pos=jN l (pos-p.2):=by
     by_cases o:pos=p.2
     ·rw[Pk (l:=l) (by omega),tJ (by rw[rH];omega),bV];by_cases a:pos-1<=0
      ·rw[Aad a];show decide (1<p.2)=false;exact AaM (by omega)
      ·rw[Aaa a,Aaa (by omega)];show decide (1<p.2-(pos-1))=false;exact AaM (by omega)
     ·rw[tJ (by rw[rH];omega),tJ (by omega),bV,Aaa (by omega),Aad (by omega)];rw[show pos-1-p.2=pos-p.2-1 from by omega]
    rw[g];simp only[Aan];omega
   ·rw[Aaa d,Aaa d]
    have g:jN (p::l) pos=true:=by
     rw[tJ (by rw[rH];omega),bV];by_cases a:pos-1<=0
     ·rw[Aad a];show decide (1<p.2)=true;exact AaJ (by omega)
     ·rw[Aaa a,Aaa (by omega)];show decide (1<p.2-(pos-1))=true;exact AaJ (by omega)
    rw[g];simp;omega
def Vr (l:List (Int×Int))(p n:Int)(c:Nat):Int:=
 if n=0 then (l.length:Int)+(c:Int)+(if decide (0<c) && jN l p then 1 else 0)
 else (l.length:Int)+(c:Int)+(if jN l p then 1 else 0)+(if jN l (p+n)then 1 else 0)-((uH l p n).length:Int)
theorem MH (h:fC l)(hp:0<=p)(hn:0<n)(hs:p+n<=sz l):jN (bV l p) n=jN l (p+n):=by
 have a:=nJ h hp (by omega);rw[tJ (by rw[a];omega),tJ (by omega),yT h hp (by omega)];rw[show p+(n-1)=p+n-1 from by omega]
theorem cnt_ok (h:fC l){came:List (Int×Int)}(hp:0<=p)(hn:0<=n)(hs:p+n<=sz l):Vr l p n came.length=((bS (bN l p n).1 p came).length:Int):=by
 have i:=Kk h hp (by omega);unfold Vr bN;by_cases e:n=0
 ·rw[Aad e,Aad e];unfold bS;by_cases c:came=[]
  ·rw[Aad c,c];simp
  ·rw[Aaa c]
   have o:0<came.length:=by
    cases came with
    |nil=>exact absurd rfl c
    |cons a b=>simp
   rw[AaJ o,Bool.true_and];simp only[Aah];split<;>split at i<;>simp_all<;>omega
 ·rw[Aaa e,Aaa e];have k:=lF h p;have t:=nJ h hp (by omega);have j:=Kk k hn (by omega);rw[MH h hp (by omega) hs]at j
  have d:(bS (zV l p n) p came).length=(dW l p).length+came.length+(bV (bV l p) n).length:=by
   unfold bS zV;by_cases c:came=[]
   ·rw[Aad c,c];simp
   ·rw[Aaa c];have g:=wP h p;have r:=zU h hp (by omega);rw[rJ _ g,Aad (by omega),rM _ g,Aad (by omega),Gq g (by omega),Gr g (by omega)];simp;omega
  rw[d];unfold uH;split at i<;>split at j<;>simp_all<;>omega
theorem tail_drop:∀ {l:List (Int×Int)} (_:fC l) (k:Nat),k<=l.length->bV l (sz (l.take k))=l.drop k:=by
 intro l
 induction l with
 |nil=>intro _ k _;simp[bV]
 |cons p l a=>
  intro h k c;have d:=fT h;unfold nQ at d;cases k with
  |zero=>simp[sz,bV]
  |succ k=>
   have e:=oP (dP h) k;rw[AaY,rH,bV,Aaa (by omega),Aad (by omega)];rw[show p.2+sz (l.take k)-p.2=sz (l.take k) from by omega];exact a (dP h) k (by simpa using c)
theorem head_len:∀ {l:List (Int×Int)} (_:fC l) (k:Nat) (n:Int),k<=l.length->(∀j,j<k->sz (l.take j)<n)->n<=sz (l.take k)->(dW l n).length=k:=by
 intro l
 induction l with
 |nil=>intro _ k n a _ _;simp at a;subst a;simp[dW]
 |cons p l g=>
  intro h k n a c e;have o:=fT h;unfold nQ at o;cases k with
  |zero=>
   have:n<=0:=(by simpa[sz]using e);rw[pF _ this];rfl
  |succ k=>
   have i:=c 0 (by omega);simp[sz]at i;rw[AaY,rH]at e;rw[dW,Aaa (by omega)];by_cases d:p.2<=n
   ·rw[Aad d]
    have:=g (dP h) k (n-p.2) (by simpa using a) (λj r=>by
     have:=c (j+1) (by omega);rw[AaY,rH]at this;omega) (by omega)
    simp[this]
   ·rw[Aaa d];cases k with
    |zero=>rfl
    |succ k=>
     have:=c 1 (by omega);rw[AaY,rH]at this;simp[sz]at this;omega
theorem ins_put (hl:fC l)(hc:fC c)(hp:0<=p)(Oc:p<=sz l)(hq:c[k]?=M q):Hz (bS l p (c.take k)) (p+sz (c.take k)) q=bS l p (c.take (k+1)):=by
 obtain⟨r,o⟩:=Aae.1 hq;have d:c.take (k+1)=c.take k++ [q]:=by rw[Aau r,o]
 have e:c.take (k+1)≠[]:=by rw[d];simp
 unfold Hz;by_cases g:c.take k=[]
 ·rw[d,g];simp[bS,sz]
 ·have a:fC (dW l p++c.take k):=iO (wP hl p) (λx n=>hc x (Aba n));have i:sz (dW l p++c.take k)=p+sz (c.take k):=by rw[pE,zU hl hp Oc]
  have h:bS l p (c.take k)=(dW l p++c.take k)++bV l p:=by unfold bS;rw[Aaa g]
  have j:bS l p (c.take (k+1))=dW l p++c.take (k+1)++bV l p:=by unfold bS;rw[Aaa e]
  rw[h,j,rJ _ a,Aad (by omega),rM _ a,Aad (by omega),Gq a (by omega),Gr a (by omega),d];simp
theorem YD (hl:fC l)(hp:0<=p)(Oc:p<=sz l)(k:Nat):(bS l p (c.take k)).length<=(bS l p c).length:=by
 have d:=Kk hl hp Oc;unfold bS;by_cases a:c=[]
 ·subst a;simp
 ·rw[Aaa a];split
  ·simp only[Aah];omega
  ·simp only[Aah,Aaz];omega
theorem put_len0 (hl:fC l)(hp:0<=p)(Oc:p<=sz l):l.length<=(bS l p c).length:=by
 have:=YD (c:=c) hl hp Oc 0;simpa[bS]using this
theorem del_cut (hl:fC l)(hp:0<=p)(hn:0<=n)(hs:p+n<=sz l)(hr:(bS (bN l p n).1 p c).length<=4096):kL l p n=((bN l p n).1,(bN l p n).2,0):=by
 have d:=put_len0 (c:=c) (Lu hl p n) hp (by rw[Tf hl hp hn (by omega)];omega);unfold kL bN at*;rw[Aaa (by omega)];by_cases a:n=0
 ·rw[Aad a,Aad a]
 ·rw[Aaa a]at d hr;rw[Aaa a,Aaa a,Aaa (by simp only at d hr;omega)]
theorem inR_ok (hl:fC l)(hc:fC c)(hc9:∀q∈c,q.1<=1000000000)(hp:0<=p)(Oc:p<=sz l)(hr:(bS l p c).length<=4096)(hq:c[k]?=M q):xL (bS l p (c.take k)) (p+sz (c.take k)) q.1 q.2=(bS l p (c.take (k+1)),0):=by
 have a:=ins_put hl hc hp Oc hq;have h:=YD (c:=c) hl hp Oc (k+1);have e:=hc9 q (Aai hq);have d:=hc q (Aai hq);have i:=SX (more:=c.take k) hl hp Oc;have g:=oP hc k;unfold nQ at d;unfold xL;rw[Aaa (by omega),Aaa (by omega),show((q.1,q.2):Int×Int)=q from rfl,a,Aaa (by omega)]
theorem cK.ty (h:cK w tb l):∃aR,w.heap[tb]?=M (C aR 104 (0,0)):=by
 obtain⟨a,_,h,-⟩:=h;exact⟨_,h⟩
theorem put_nil (l:List (Int×Int)):bS (bN [] 0 (sz [])).1 0 l=l:=by
 simp[bS,bN,sz,dW,bV]
end Go.Proofs.YtfplgfodoiiobabGreatDoor
