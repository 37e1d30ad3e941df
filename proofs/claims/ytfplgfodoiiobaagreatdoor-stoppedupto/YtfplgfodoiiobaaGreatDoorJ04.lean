/- TreesM, TreesO, RefG, RefH, RefI, RefJ, RefL, RefM, RefN, RefP (joined). -/
import Derived.Test.YtfplgfodoiiobaaGreatDoorJ03
open Option renaming none→O,some→M
open Go.Value renaming int→I,slice→Z,pointer→U
open Go.IntKind renaming i64→V
open Go.Ending renaming returned→G
open Go renaming World→F,Value→Y,Calls→H
open Go.Proofs.Tryz renaming prog→K
namespace Go.Proofs.YtfplgfodoiiobaaGreatDoor
open Go.RowKit
variable {n room pos one rest but:Int}{w:F}{tb i:Nat}
def Yp (l:List (Int×Int))(pos x y:Int):List (Int×Int)×Int:=
 if pos<0\/sz l<pos then (l,5)else if ¬(1<=y/\y<=5000/\0<=x/\x<=1000000000)then (l,1)else if 4096<(EB l pos (x,y)).length then (l,13)else (EB l pos (x,y),0)
def Fa (l:List (Int×Int))(pos n:Int):List (Int×Int)×List (Int×Int)×Int:=
 if n<0\/pos<0\/sz l<pos\/sz l-pos<n then (l,[],5)else if n=0 then (l,[],0)else if 4096<(Il l pos n).length then (l,[],13)else (Il l pos n,vC l pos n,0)
def mH (l:List (Int×Int))(pos:Int):(Int×Int)×Int:=
 if pos<0\/sz l<=pos then ((0,0),5)else (((bJ l pos).head?).getD (0,0),0)
theorem bZ.ok {l:List (Int×Int)}(t:bZ w tb l):eF l/\l.length<=4096:=by
 obtain⟨_,_,_,_,h1,h2⟩:=t;exact⟨h1,h2⟩
theorem NS {l:List (Int×Int)}(t:bZ w tb l){x y:Int}:
 H K 63 #[U (M ⟨tb,0,O⟩),I V pos,.agg #[I V x,I V y]] w fun e w'=>
  e=G (I V (Yp l pos x y).2)/\bZ w' tb (Yp l pos x y).1/\w.grownBy w' (M tb):=by
 by_cases h1:pos<0\/sz l<pos
 ·refine(NJ t h1).mono ?_;rintro e w' ⟨rfl,hb⟩;simp only[Yp,if_pos h1];exact⟨trivial,t.below hb,lI hb _⟩
 ·by_cases h2:DZ x y
  ·refine(WB t (by omega) (by omega) h2).mono ?_;rintro e w' (⟨h3,rfl,hb⟩|⟨h3,rfl,ht,hg⟩)
   ·simp only[Yp,if_neg h1,if_neg (not_not_intro (show 1<=y/\y<=5000/\0<=x/\x<=1000000000 from h2)),if_pos h3];exact⟨trivial,t.below hb,lI hb _⟩
   ·simp only[Yp,if_neg h1,if_neg (not_not_intro (show 1<=y/\y<=5000/\0<=x/\x<=1000000000 from h2)),if_neg (Nat.not_lt.2 h3)];exact⟨trivial,ht,hg⟩
  ·refine(NK t (by omega) (by omega) h2).mono ?_;rintro e w' ⟨rfl,hb⟩;simp only[Yp,if_neg h1,if_pos (show ¬(1<=y/\y<=5000/\0<=x/\x<=1000000000) from h2)];exact⟨trivial,t.below hb,lI hb _⟩
theorem EG {l:List (Int×Int)}(t:bZ w tb l)(oW:n<=9223372036854775807)(hp2:pos<=9223372036854775807):
 H K 101 #[U (M ⟨tb,0,O⟩),I V pos,I V n] w fun e w'=>
  ∃ao,e=G (.tuple #[Z ao (Fa l pos n).2.1.length (Fa l pos n).2.1.length,I V (Fa l pos n).2.2])/\rQ w' w.heap.size (Z ao (Fa l pos n).2.1.length (Fa l pos n).2.1.length) (Fa l pos n).2.1
   /\bZ w' tb (Fa l pos n).1/\w.grownBy w' (M tb):=by
 by_cases h1:n<0\/pos<0\/sz l<pos\/sz l-pos<n
 ·refine(NM t oW hp2 h1).mono ?_;rintro e w' ⟨rfl,rfl⟩;simp only[Fa,if_pos h1];exact⟨O,rfl,World.ownsRow_nil _ _ _ _,t,World.grownBy.refl _ _⟩
 ·by_cases h2:n=0
  ·subst h2;refine(EC t (by omega) (by omega)).mono ?_;rintro e w' ⟨rfl,rfl⟩;simp only[Fa,if_neg h1,if_pos];exact⟨O,rfl,World.ownsRow_nil _ _ _ _,t,World.grownBy.refl _ _⟩
  ·refine(WC t (by omega) (by omega) (by omega) (by omega)).mono ?_;rintro e w' (⟨h3,rfl,hb⟩|⟨h3,g,rfl,ho,hg,ht,Cv⟩)
   ·simp only[Fa,if_neg h1,if_neg h2,if_pos h3];exact⟨O,rfl,World.ownsRow_nil _ _ _ _,t.below hb,lI hb _⟩
   ·simp only[Fa,if_neg h1,if_neg h2,if_neg (Nat.not_lt.2 h3)];exact⟨_,rfl,rQ.weak (B':=g) ho hg,ht,Cv⟩
theorem Ox {l:List (Int×Int)}(t:bZ w tb l):
 H K 104 #[U (M ⟨tb,0,O⟩),I V pos] w fun e w'=>
  e=G (.tuple #[.agg #[I V (mH l pos).1.1,I V (mH l pos).1.2],I V (mH l pos).2])/\Below w.heap.size w w':=by
 by_cases h1:pos<0\/sz l<=pos
 ·simp only[mH,if_pos h1];exact find_no t h1
 ·refine(ja t (by omega) (by omega)).mono ?_;rintro e w' ⟨q,hq,rfl,hb⟩;simp only[mH,if_neg h1,hq,Option.getD_some];exact⟨trivial,hb⟩
theorem aJ.set {w0:F}(h:aJ w0 w){a:Addr}(ha:w0.heap.size<=a.block)(v:Y):aJ w0 (w.setCell a v):=Below.setCell h ha v
theorem SN {l:List (Int×Int)}(h:eF l)(h0:0<=pos)(hn:0<=n)(h1:n<=sz l-pos):sz (bY l pos n).1=sz l-n:=by
 unfold bY;split
 ·rename_i e;subst e;simp
 ·simp only[Il,nX];rw[vY h h0 (by omega),kC (iI h pos) hn (by rw[kC h h0 (by omega)];omega),kC h h0 (by omega)];omega
theorem EI {l:List (Int×Int)}(h:eF l)(pos n:Int):eF (bY l pos n).1:=by
 unfold bY;split
 ·exact h
 ·exact fT (sP h pos) (iI (iI h pos) n)
theorem Tj.grewP {w':F}{ao:Option Addr}{l:List (Int×Int)}(h:Tj w ao l)(hg:aJ w w'):Tj w' ao l:=h.below hg
def qM (m:bT)(depth:Nat):bT×Int:=
 match m.2.1 with
 | []=>(m,8)
 |e::rest=>if 4096<(cB (bY m.1 e.1 (sz e.2.2)).1 e.1 e.2.1).length then (m,13)else ((cB (bY m.1 e.1 (sz e.2.2)).1 e.1 e.2.1,rest,(e::m.2.2.1).take depth,m.2.2.2.1+1,m.2.2.2.2),0)
def Bz (n:Int)(pos:Int)(gone come:List (Int×Int)):Prop:=0<=pos/\pos+sz gone<=n/\eF gone/\eF come/\gone.length<=6000/\come.length<=6000
def qN (m:bT)(depth:Nat):bT×Int:=
 match m.2.2.1 with
 | []=>(m,8)
 |e::rest=>if 4096<(cB (bY m.1 e.1 (sz e.2.1)).1 e.1 e.2.2).length then (m,13)else ((cB (bY m.1 e.1 (sz e.2.1)).1 e.1 e.2.2,(e::m.2.1).take depth,rest,m.2.2.2.1+1,m.2.2.2.2),0)
abbrev bF:=Int×ByteArray×Int
variable {l fs A B:List bF}{f:bF}
structure Sc where
 most:Int
 depth:Int
 room:Int
 eG:Bool
 after:Int
 one:Int
 rest:Int
 refusing:Bool
 left:Int
 aS:Bool
 ro:Bool
 aV:Int
variable {s:Sc}
def vP (l:List bF)(n:Int):Option Nat:=l.findIdx? (fun f=>f.1==n)
def posI (l:List bF)(n:Int):Int:=match vP l n with
 |some i=>(i:Int)
 |none=> -1
def aL (l:List bF)(n:Int):ByteArray:=match vP l n with
 |some i=>((l[i]?).getD (0,⟨#[]⟩,0)).2.1
 |none=>⟨#[]⟩
def Am:List bF->bF->List bF
 | [],f=> [f]
 |g::r,f=>if f.1<g.1 then g::Am r f else f::g::r
def Cw (l:List bF)(f:bF):List bF:=(Am l.reverse f).reverse
def Cx (l:List bF):List bF:=l.foldl (fun out f=>if f.2.1.size=0 then out else Cw out f) []
def EJ (n but:Int)(g:bF):Bool:=g.1 !=n && g.1 !=but
def Oy (l:List bF)(f:bF)(but:Int):List bF:=Cx (l.filter (EJ f.1 but)++ [f])
def wC (one rest:Int)(f:bF):Int:=if (if f.1=1 then one else rest)<(f.2.1.size:Int)-f.2.2 then f.2.2+(if f.1=1 then one else rest)else (f.2.1.size:Int)
def jV (one rest:Int)(f:bF):bF:=(f.1,f.2.1.extract 0 (wC one rest f).toNat,wC one rest f)
def okF (f:bF):Prop:=0<=f.2.2/\f.2.2<=(f.2.1.size:Int)/\f.2.1.size<=2000000
def dF (s:Sc)(l:List bF):Bool×Sc×List bF:=
 if s.eG=false then (true,s,l)else if 0<s.after then (true,{ s with after:=s.after-1 },l)else (false,{ s with eG:=false,aS:=false },Cx (l.map (jV s.one s.rest)))
def jW (s:Sc):Sc×Int:=if s.aS then ({ s with aS:=false },0)else (s,3)
def rT (s:Sc)(a:Int):Sc×Int:=if a<0 then (s,1)else ({ s with refusing:=true,left:=a },0)
def qO (l:List bF):Prop:=l.Pairwise (fun a b=>a.1<b.1)/\∀f∈l,f.2.1.size≠0
theorem Kw (h:∀g∈l,g.1<f.1):Cw l f=l++ [f]:=by
 unfold Cw;cases e:l.reverse with
 |nil=>simp at e;subst e;rfl
 |cons g r=>
  have hg:g.1<f.1:=h g (by rw[<-List.mem_reverse,e];simp);have:¬f.1<g.1:=by omega
  simp only[Am,this,if_false];have e2:l=(g::r).reverse:=by rw[<-e];simp
  rw[e2];simp
theorem Ip (l:List bF)(f:bF):Cx (l++ [f])=if f.2.1.size=0 then Cx l else Cw (Cx l) f:=by
 unfold Cx;rw[List.foldl_append];rfl
theorem vG:∀ {l:List bF},l.Pairwise (fun a b=>a.1<b.1)->Cx l=l.filter (fun f=>f.2.1.size !=0):=by
 intro l
 suffices aA:∀(n:Nat) (l:List bF),l.length=n->l.Pairwise (fun a b=>a.1<b.1)->Cx l=l.filter (fun f=>f.2.1.size !=0) from aA _ l rfl
 intro n
 induction n with
 |zero=>intro l hl _;have:=List.eq_nil_of_length_eq_zero hl;subst this;rfl
 |succ n ih=>
  intro l hl hp;rcases List.eq_nil_or_concat l with rfl|⟨l',f,rfl⟩
  ·simp at hl
  ·rw[List.concat_eq_append]at hl hp ⊢;rw[Ip,List.filter_append];have hp':=List.pairwise_append.1 hp;rw[ih l' (by simpa using hl) hp'.1];by_cases hz:f.2.1.size=0
   ·simp[hz]
   ·rw[if_neg hz,Kw]
    ·simp[hz]
    ·intro g hg;exact hp'.2.2 g (List.mem_filter.1 hg).1 f (by simp)
def iR:List bF->bF->List bF
 | [],f=> [f]
 |g::r,f=>if f.1<g.1 then f::g::r else if g.1=f.1 then f::r else g::iR r f
def gP (l:List bF)(n:Int):List bF:=l.filter (fun g=>g.1 !=n)
theorem EK (h:∀g∈l,f.1<g.1)(r:List bF):Am (l++r) f=l++Am r f:=by
 induction l with
 |nil=>rfl
 |cons g l ih=>
  have h1:=h g (by simp);simp only[List.cons_append,Am,h1,if_true];rw[ih (fun x hx=>h x (by simp[hx]))]
theorem sU (h:∀g∈l,g.1≠n):gP l n=l:=by
 unfold gP;rw[List.filter_eq_self];intro g hg;simpa using h g hg
theorem pU (h:l.Pairwise (fun a b=>a.1<b.1))(n:Int):∃A B:List bF,(∀g∈A,g.1<n)/\(∀g∈B,n<g.1)/\(l=A++B\/∃f:bF,f.1=n/\l=A++f::B):=by
 induction l with
 |nil=>exact⟨[],[],by simp,by simp,Or.inl rfl⟩
 |cons g l ih=>
  rw[List.pairwise_cons]at h;by_cases h1:g.1<n
  ·obtain⟨A,B,a,b,c⟩:=ih h.2;refine⟨g::A,B,?_,b,?_⟩
   ·intro x hx;simp only[List.mem_cons]at hx;rcases hx with rfl|hx
    ·exact h1
    ·exact a x hx
   ·rcases c with rfl|⟨f,e,rfl⟩
    ·left;rfl
    ·right;exact⟨f,e,rfl⟩
  ·by_cases h2:g.1=n
   ·exact⟨[],l,by simp,fun x hx=>by have:=h.1 x hx;omega,Or.inr ⟨g,h2,rfl⟩⟩
   ·exact⟨[],g::l,by simp,fun x hx=>by
     simp only[List.mem_cons]at hx;rcases hx with rfl|hx
     ·omega
     ·have:=h.1 x hx;omega,Or.inl rfl⟩
theorem iY (A B:List bF)(n:Int):gP (A++B) n=gP A n++gP B n:=by simp[gP]
theorem tV (ha:∀g∈A,g.1<f.1)(hb:∀g∈B,f.1<g.1):iR (A++B) f=A++f::B:=by
 induction A with
 |nil=>
  cases B with
  |nil=>rfl
  |cons g B=>have:=hb g (by simp);simp[iR,this]
 |cons g A ih=>
  have h1:=ha g (by simp);have h2:¬f.1<g.1:=by omega
  have h3:¬g.1=f.1:=by omega
  simp only[List.cons_append,iR,h2,h3,if_false];rw[ih (fun x hx=>ha x (by simp[hx]))]
theorem nY {g:bF}(ha:∀g∈A,g.1<f.1)(hg:g.1=f.1):iR (A++g::B) f=A++f::B:=by
 induction A with
 |nil=>simp[iR,hg]
 |cons g A ih=>
  have h1:=ha g (by simp);have h2:¬f.1<g.1:=by omega
  have h3:¬g.1=f.1:=by omega
  simp only[List.cons_append,iR,h2,h3,if_false];rw[ih (fun x hx=>ha x (by simp[hx]))]
theorem Fb (ha:∀g∈A,g.1<f.1)(hb:∀g∈B,f.1<g.1):Cw (A++B) f=A++f::B:=by
 have e:Cw A f=A++ [f]:=Kw ha;unfold Cw at*;rw[List.reverse_append,EK (fun g hg=>hb g (by simpa using hg)),List.reverse_append,e];simp
theorem tX (h:qO l)(hf:f.2.1.size≠0)(hb:∀g∈l,g.1≠but):Oy l f but=iR l f:=by
 have e0:l.filter (EJ f.1 but)=gP l f.1:=by
  unfold gP;refine List.filter_congr (fun g hg=>?_);have:=hb g hg;simp[EJ,this]
 unfold Oy;rw[e0,Ip,if_neg hf];have hp:(gP l f.1).Pairwise (fun a b=>a.1<b.1):=h.1.sublist List.filter_sublist
 have h2:Cx (gP l f.1)=gP l f.1:=by
  rw[vG hp,List.filter_eq_self];intro g hg;have:=h.2 g (List.mem_filter.1 hg).1;simpa using this
 rw[h2];obtain⟨A,B,ha,fP,c⟩:=pU h.1 f.1;have dA:gP A f.1=A:=sU (fun g hg=>by have:=ha g hg;omega);have dB:gP B f.1=B:=sU (fun g hg=>by have:=fP g hg;omega);rcases c with rfl|⟨g,e,rfl⟩
 ·rw[iY,dA,dB,Fb ha fP,tV ha fP]
 ·have:gP (A++g::B) f.1=A++B:=by
   rw[iY,dA,show g::B=[g]++B from rfl,iY,dB];simp[gP,e]
  rw[this,Fb ha fP,nY ha e]
theorem Oz (h:qO l)(hf:f.2.1.size=0)(hb:∀g∈l,g.1≠but):Oy l f but=gP l f.1:=by
 have e0:l.filter (EJ f.1 but)=gP l f.1:=by
  unfold gP;refine List.filter_congr (fun g hg=>?_);have:=hb g hg;simp[EJ,this]
 unfold Oy;rw[e0,Ip,if_pos hf];have hp:(gP l f.1).Pairwise (fun a b=>a.1<b.1):=h.1.sublist List.filter_sublist;rw[vG hp,List.filter_eq_self];intro g hg;have:=h.2 g (List.mem_filter.1 hg).1;simpa using this
theorem Iq (h:qO l)(n:Int):qO (gP l n):=⟨h.1.sublist List.filter_sublist,fun f hf=>h.2 f (List.mem_filter.1 hf).1⟩
theorem WH (h:qO l)(hf:f.2.1.size≠0):qO (iR l f):=by
 obtain⟨A,B,ha,hb,c⟩:=pU h.1 f.1
 have key:∀g:List bF,(A++f::g=A++f::B)->(∀x∈A++B,x∈l)->A.Pairwise (fun a b=>a.1<b.1)->B.Pairwise (fun a b=>a.1<b.1)->qO (A++f::B):=by
  intro _ _ hm pA pB;refine⟨?_,?_⟩
  ·rw[List.pairwise_append,List.pairwise_cons];refine⟨pA,⟨hb,pB⟩,fun x hx y hy=>?_⟩;have h1:=ha x hx;simp only[List.mem_cons]at hy;rcases hy with rfl|hy
   ·exact h1
   ·have:=hb y hy;omega
  ·intro x hx;simp only[List.mem_append,List.mem_cons]at hx;rcases hx with hx|rfl|hx
   ·exact h.2 x (hm x (by simp[hx]))
   ·exact hf
   ·exact h.2 x (hm x (by simp[hx]))
 rcases c with rfl|⟨g,e,rfl⟩
 ·rw[tV ha hb];have:=List.pairwise_append.1 h.1;exact key B rfl (fun x hx=>hx) this.1 this.2.1
 ·rw[nY ha e];have:=List.pairwise_append.1 h.1;exact key B rfl (fun x hx=>by simp at hx ⊢;rcases hx with hx|hx<;>simp[hx]) this.1 (List.pairwise_cons.1 this.2.1).2
def bP:List bF->Int
 | []=>0
 |f::r=>(f.2.1.size:Int)+bP r
theorem rU (a b:List bF):bP (a++b)=bP a+bP b:=by
 induction a with
 |nil=>simp[bP]
 |cons f a ih=>simp only[List.cons_append,bP,ih];omega
theorem Pb {k:Nat}(h:l[k]?=M f):bP (l.take (k+1))=bP (l.take k)+(f.2.1.size:Int):=by
 have bV:=(List.getElem?_eq_some_iff.1 h).1;rw[List.take_succ_eq_append_getElem bV,rU,(List.getElem?_eq_some_iff.1 h).2];simp[bP]
theorem zG (l:List bF):0<=bP l:=by
 induction l with
 |nil=>simp[bP]
 |cons f l ih=>simp only[bP];omega
theorem Fe (l:List bF)(p:bF->Bool):bP (l.filter p)<=bP l:=by
 induction l with
 |nil=>simp
 |cons f l ih=>rw[List.filter_cons];split<;>simp only[bP]<;>omega
theorem Ir (h:f∈l):(f.2.1.size:Int)<=bP l:=by
 induction l with
 |nil=>simp at h
 |cons g l ih=>
  simp only[List.mem_cons]at h;have:=zG l;rcases h with rfl|h
  ·simp only[bP];omega
  ·have:=ih h;simp only[bP];omega
structure dY (room:Int)(fs:List bF):Prop where
 sort:qO fs
 ok:∀f∈fs,okF f
 nn:∀f∈fs,0<=f.1/\f.1<=9223372036854775807
 used:bP fs<=room
theorem kept_bd (h1:0<=one)(h2:0<=rest)(h:okF f):0<=wC one rest f/\wC one rest f<=(f.2.1.size:Int):=by
 obtain⟨a,b,c⟩:=h;unfold wC;by_cases e:f.1=1
 ·simp only[e,if_true];split<;>omega
 ·simp only[e,if_false];split<;>omega
theorem extract_size (b:ByteArray)(h0:0<=n)(h1:n<=(b.size:Int)):((b.extract 0 n.toNat).size:Int)=n:=by
 rw[ByteArray.size_extract];omega
theorem EL (h1:0<=one)(h2:0<=rest)(h:okF f):okF (jV one rest f)/\(jV one rest f).2.1.size<=f.2.1.size:=by
 obtain⟨a,b⟩:=kept_bd h1 h2 h;have e:=extract_size f.2.1 a b;obtain⟨c1,c2,c3⟩:=h;unfold jV okF;simp only;omega
theorem dY.sub (h:dY room fs)(p:bF->Bool):dY room (fs.filter p):=
 ⟨⟨h.sort.1.sublist List.filter_sublist,fun f hf=>h.sort.2 f (List.mem_filter.1 hf).1⟩,fun f hf=>h.ok f (List.mem_filter.1 hf).1,fun f hf=>h.nn f (List.mem_filter.1 hf).1,Int.le_trans (Fe _ _) h.used⟩
theorem Vo {g:bF->bF}(h:∀f∈l,(g f).2.1.size<=f.2.1.size):bP (l.map g)<=bP l:=by
 induction l with
 |nil=>simp
 |cons f l ih=>
  have h1:=h f (by simp);have h2:=ih (fun x hx=>h x (by simp[hx]));simp only[List.map_cons,bP];omega
theorem Vp (h:dY room fs):Cx (fs.map (jV one rest))=(fs.map (jV one rest)).filter (fun f=>f.2.1.size !=0):=
 vG (by rw[List.pairwise_map];exact h.sort.1.imp (fun hab=>hab))
theorem dY.crash (h:dY room fs)(h1:0<=one)(h2:0<=rest):dY room (Cx (fs.map (jV one rest))):=by
 rw[Vp h];refine⟨⟨?_,fun f hf=>by simpa using(List.mem_filter.1 hf).2⟩,fun f hf=>?_,fun f hf=>?_,?_⟩
 ·refine List.Pairwise.sublist List.filter_sublist ?_;rw[List.pairwise_map];exact h.sort.1.imp (fun hab=>hab)
 ·obtain⟨g,hg,rfl⟩:=List.mem_map.1 (List.mem_filter.1 hf).1;exact(EL h1 h2 (h.ok g hg)).1
 ·obtain⟨g,hg,rfl⟩:=List.mem_map.1 (List.mem_filter.1 hf).1;exact h.nn g hg
 ·exact Int.le_trans (Fe _ _) (Int.le_trans (Vo (fun f hf=>(EL h1 h2 (h.ok f hf)).2)) h.used)
theorem dY.step (h:dY s.room fs)(h1:0<=s.one)(h2:0<=s.rest):dY s.room (dF s fs).2.2:=by
 unfold dF;split
 ·exact h
 ·split
  ·exact h
  ·exact h.crash h1 h2
def eO (l:List bF)(n:Int):Option bF:=l.find? (fun f=>f.1==n)
theorem Ff (l:List bF)(n:Int):(vP l n).bind (fun i=>l[i]?)=eO l n:=by
 unfold vP eO
 induction l with
 |nil=>rfl
 |cons f l ih=>
  rw[List.findIdx?_cons,List.find?_cons];cases hf:(f.1==n)with
  |true=>simp
  |false=>
   simp only[Bool.false_eq_true,if_false];rw[<-ih];cases List.findIdx? (fun f=>f.1==n) l<;>simp
theorem Pd (h:vP l n=M i):i<l.length:=by
 unfold vP at h;rw[List.findIdx?_eq_some_iff_getElem]at h;exact h.1
theorem jg (l:List bF)(n:Int):vP l n=O↔eO l n=O:=by
 rw[<-Ff];cases h:vP l n with
 |none=>simp
 |some i=>have:=Pd h;simp[List.getElem?_eq_getElem this]
theorem Fg (h:vP l n=M i):∃f,l[i]?=M f/\eO l n=M f/\f.1=n:=by
 have hl:=Pd h;refine⟨l[i],List.getElem?_eq_getElem hl,?_,?_⟩
 ·rw[<-Ff,h];simp[hl]
 ·unfold vP at h;rw[List.findIdx?_eq_some_iff_getElem]at h;obtain⟨_,h2,_⟩:=h;simpa using h2
theorem cK (l:List bF)(n:Int):aL l n=((eO l n).map (fun f=>f.2.1)).getD ⟨#[]⟩:=by
 unfold aL;cases h:vP l n with
 |none=>rw[(jg l n).1 h];rfl
 |some i=>obtain⟨f,h1,h2,-⟩:=Fg h;simp[h1,h2]
theorem mQ (h:eO l n=M f):f∈l/\f.1=n:=by
 unfold eO at h;exact⟨List.mem_of_find?_eq_some h,by simpa using List.find?_some h⟩
def lX (l:List bF)(n:Int)(b:ByteArray):bF:=match eO l n with
 |some f=>(n,f.2.1++b,f.2.2)
 |none=>(n,b,0)
def dJ (s:Sc)(fs:List bF)(n:Int)(b:ByteArray):Int×Sc×List bF:=
 if s.refusing=true/\s.left=0 then (9,{ s with refusing:=false,ro:=true },fs)
 else if s.room<bP fs+(b.size:Int)then (9,{ s with ro:=true },fs)
 else
  let s1:=if s.refusing then { s with left:=s.left-1 } else s
  let r:=dF s1 fs
  if r.1 then (0,r.2.1,Oy r.2.2 (lX r.2.2 n b) (-1))else (10,r.2.1,r.2.2)
def bQ (s:Sc)(fs:List bF)(n:Int):Bool×Sc×List bF:=match vP fs n with
 |none=>(true,s,fs)
 |some i=>let r:=dF s fs;if r.1 then (true,r.2.1,r.2.2.set i (n,aL r.2.2 n,(aL r.2.2 n).size))else r
def bR (s:Sc)(fs:List bF)(n k:Int):Bool×Sc×List bF:=
 if ((aL fs n).size:Int)<=k then (true,s,fs)
 else let r:=dF s fs;if r.1 then (true,r.2.1,Oy r.2.2 (n,(aL fs n).extract 0 k.toNat,k) (-1))else r
theorem lJ (A B:List bF)(n:Int):eO (A++B) n=(eO A n).or (eO B n):=by unfold eO;rw[List.find?_append]
theorem sV (h:∀g∈l,g.1≠n):eO l n=O:=by
 unfold eO;rw[List.find?_eq_none];intro g hg;simpa using h g hg
theorem lY (f:bF)(l:List bF)(n:Int):eO (f::l) n=if f.1=n then M f else eO l n:=by
 unfold eO;rw[List.find?_cons];by_cases h:f.1=n
 ·simp[h]
 ·rw[if_neg h];have:(f.1==n)=false:=by simpa using h
  rw[this]
theorem jh (h:qO l)(f:bF)(n:Int):eO (iR l f) n=if f.1=n then M f else eO l n:=by
 obtain⟨A,B,ha,hb,c⟩:=pU h.1 f.1
 have key:eO (A++f::B) n=if f.1=n then M f else eO (A++B) n:=by
  rw[lJ,lY,lJ];by_cases e:f.1=n
  ·rw[if_pos e,if_pos e,sV (fun g hg=>by have:=ha g hg;omega)];rfl
  ·rw[if_neg e,if_neg e]
 rcases c with rfl|⟨g,e,rfl⟩
 ·rw[tV ha hb];exact key
 ·rw[nY ha e,key,lJ,lJ,lY];by_cases e2:f.1=n
  ·rw[if_pos e2,if_pos e2]
  ·rw[if_neg e2,if_neg e2,if_neg (by omega)]
theorem ji (l:List bF)(k n:Int):eO (gP l k) n=if n=k then O else eO l n:=by
 induction l with
 |nil=>simp[gP,eO]
 |cons f l ih=>
  unfold gP at*;rw[List.filter_cons];by_cases e:f.1=k
  ·have:(f.1 !=k)=false:=by simp[e]
   rw[this];simp only[Bool.false_eq_true,if_false];rw[ih,lY];by_cases e2:n=k
   ·rw[if_pos e2,if_pos e2]
   ·rw[if_neg e2,if_neg e2,if_neg (by omega)]
  ·have:(f.1 !=k)=true:=by simp[e]
   rw[this];simp only[if_true];rw[lY,ih,lY];by_cases e2:n=k
   ·rw[if_pos e2,if_pos e2,if_neg (by omega)]
   ·rw[if_neg e2,if_neg e2]
theorem Yq:(⟨#[]⟩:ByteArray).size=0:=rfl
theorem zH (h:qO l)(n:Int):bP (gP l n)=bP l-((aL l n).size:Int):=by
 rw[cK];obtain⟨A,B,ha,hb,c⟩:=pU h.1 n;have dA:gP A n=A:=sU (fun g hg=>by have:=ha g hg;omega);have dB:gP B n=B:=sU (fun g hg=>by have:=hb g hg;omega);have fA:eO A n=O:=sV (fun g hg=>by have:=ha g hg;omega);have fB:eO B n=O:=sV (fun g hg=>by have:=hb g hg;omega);rcases c with rfl|⟨g,e,rfl⟩
 ·rw[iY,dA,dB,lJ,fA,fB];simp[Yq]
 ·rw[iY,dA,show g::B=[g]++B from rfl,iY,dB,lJ,lJ,fA,fB];have:gP [g] n=[]:=by simp[gP,e]
  have f2:eO [g] n=M g:=by simp[eO,e]
  rw[this,f2];simp only[rU,bP,Option.none_or,Option.or_none,Option.map_some,Option.getD_some,List.nil_append];omega
theorem EM (h:qO l)(f:bF):bP (iR l f)=bP l-((aL l f.1).size:Int)+(f.2.1.size:Int):=by
 have hd:=zH h f.1;rw[<-hd];obtain⟨A,B,ha,hb,c⟩:=pU h.1 f.1;have dA:gP A f.1=A:=sU (fun g hg=>by have:=ha g hg;omega);have dB:gP B f.1=B:=sU (fun g hg=>by have:=hb g hg;omega);rcases c with rfl|⟨g,e,rfl⟩
 ·rw[tV ha hb,iY,dA,dB];simp only[rU,bP];omega
 ·rw[nY ha e,iY,dA,show g::B=[g]++B from rfl,iY,dB];have:gP [g] f.1=[]:=by simp[gP,e]
  rw[this];simp only[rU,bP,List.nil_append];omega
theorem rV {g:bF}(h:g∈iR l f):g=f\/g∈l:=by
 induction l with
 |nil=>simp[iR]at h;exact Or.inl h
 |cons x l ih=>
  unfold iR at h;split at h
  ·simp only[List.mem_cons]at h ⊢;exact h
  ·split at h
   ·simp only[List.mem_cons]at h ⊢;rcases h with h|h
    ·exact Or.inl h
    ·exact Or.inr (Or.inr h)
   ·simp only[List.mem_cons]at h ⊢;rcases h with h|h
    ·exact Or.inr (Or.inl h)
    ·rcases ih h with h|h
     ·exact Or.inl h
     ·exact Or.inr (Or.inr h)
theorem dY.put (h:dY room fs)(hz:f.2.1.size≠0)(kR:okF f)(hn:0<=f.1/\f.1<=9223372036854775807)(hu:bP fs-((aL fs f.1).size:Int)+(f.2.1.size:Int)<=room):dY room (iR fs f):=
 ⟨WH h.sort hz,fun g hg=>(rV hg).elim (fun e=>by rw[e];exact kR) (h.ok g),fun g hg=>(rV hg).elim (fun e=>by rw[e];exact hn) (h.nn g),by rw[EM h.sort];exact hu⟩
theorem dY.del (h:dY room fs)(n:Int):dY room (gP fs n):=h.sub _
theorem dY.no (h:dY room fs)(hb:but<0):∀g∈fs,g.1≠but:=fun g hg=>by have:=(h.nn g hg).1;omega
theorem dR (a b:ByteArray):(a++b).size=a.size+b.size:=by simp
theorem Vq (h:dY room fs)(n:Int)(b:ByteArray):(lX fs n b).1=n/\(lX fs n b).2.1=aL fs n++b/\0<=(lX fs n b).2.2/\(lX fs n b).2.2<=((aL fs n).size:Int):=by
 rw[cK];unfold lX;cases e:eO fs n with
 |none=>exact⟨rfl,by simp[ByteArray.ext_iff],by simp,by simp⟩
 |some f=>
  obtain⟨a,b,c⟩:=h.ok f (mQ e).1;exact⟨rfl,rfl,a,b⟩
theorem dY.app (h:dY room fs)(hr:room<=1000000)(hn:0<=n/\n<=9223372036854775807){b:ByteArray}(hb:b.size≠0)(hu:bP fs+(b.size:Int)<=room):dY room (iR fs (lX fs n b))/\Oy fs (lX fs n b) (-1)=iR fs (lX fs n b):=by
 obtain⟨e1,e2,e3,e4⟩:=Vq h n b;have hs:(lX fs n b).2.1.size=(aL fs n).size+b.size:=by rw[e2,dR]
 have hm:((aL fs n).size:Int)<=bP fs:=by
  rw[cK];cases e:eO fs n with
  |none=>simp[Yq,zG]
  |some f=>exact Ir (mQ e).1
 refine⟨h.put (by omega) ⟨e3,by omega,by omega⟩ (by rw[e1];exact hn) (by rw[e1];omega),?_⟩;exact tX h.sort (by omega) (h.no (by omega))
theorem Cy (s:Sc)(fs:List bF):(s.eG=false/\dF s fs=(true,s,fs))\/(s.eG=true/\0<s.after/\dF s fs=(true,{ s with after:=s.after-1 },fs))
 \/(s.eG=true/\¬0<s.after/\dF s fs=(false,{ s with eG:=false,aS:=false },Cx (fs.map (jV s.one s.rest)))):=by
 unfold dF;by_cases h1:s.eG=false
 ·rw[if_pos h1];exact Or.inl ⟨h1,rfl⟩
 ·rw[if_neg h1];by_cases h2:0<s.after
  ·rw[if_pos h2];exact Or.inr (Or.inl ⟨by simpa using h1,h2,rfl⟩)
  ·rw[if_neg h2];exact Or.inr (Or.inr ⟨by simpa using h1,h2,rfl⟩)
theorem Ao (h:(dF s fs).1=true):(dF s fs).2.2=fs/\((dF s fs).2.1=s\/(0<s.after/\(dF s fs).2.1= { s with after:=s.after-1 })):=by
 rcases Cy s fs with⟨_,e⟩|⟨_,h2,e⟩|⟨_,_,e⟩
 ·rw[e];exact⟨rfl,Or.inl rfl⟩
 ·rw[e];exact⟨rfl,Or.inr ⟨h2,rfl⟩⟩
 ·rw[e]at h;cases h
theorem set_put (h:qO l)(hi:vP l n=M i)(b:ByteArray)(k:Int):l.set i (n,b,k)=iR l (n,b,k):=by
 obtain⟨f,h1,-,h3⟩:=Fg hi;obtain⟨A,B,ha,hb,c⟩:=pU h.1 n;have hm:f∈l:=List.mem_of_getElem? h1;rcases c with rfl|⟨g,e,rfl⟩
 ·exfalso;simp only[List.mem_append]at hm;rcases hm with hm|hm
  ·have:=ha f hm;omega
  ·have:=hb f hm;omega
 ·have hiA:i=A.length:=by
   unfold vP at hi;rw[List.findIdx?_append]at hi
   have:List.findIdx? (fun f=>f.1==n) A=O:=by
    rw[List.findIdx?_eq_none_iff];intro x hx;have:=ha x hx;have h2:¬x.1=n:=by omega
    simpa using h2
   rw[this]at hi;have h2:(g.1==n)=true:=by simp[e]
   rw[List.findIdx?_cons,h2]at hi;simp at hi;omega
  subst hiA;rw[nY (f:=(n,b,k)) ha e,List.set_append_right _ _ (Nat.le_refl _)];simp
theorem dY.flush (h:dY room fs)(hf:eO fs n=M f):dY room (iR fs (n,f.2.1,(f.2.1.size:Int))):=by
 obtain⟨h1,h2⟩:=mQ hf;obtain⟨a,b,c⟩:=h.ok f h1;have hb:aL fs n=f.2.1:=by rw[cK,hf];rfl
 refine h.put (h.sort.2 f h1) ⟨?_,?_,?_⟩ ?_ ?_
 ·simp only;omega
 ·exact Int.le_refl _
 ·exact c
 ·have:=h.nn f h1;simp only;omega
 ·simp only;rw[hb];have:=h.used;omega
theorem dY.cut (h:dY room fs){k:Int}(h0:0<=k)(hk:k<((aL fs n).size:Int)):dY room (Oy fs (n,(aL fs n).extract 0 k.toNat,k) (-1)):=by
 have e:=extract_size (aL fs n) h0 (Int.le_of_lt hk);cases hf:eO fs n with
 |none=>rw[cK,hf]at hk;simp[Yq]at hk;omega
 |some f=>
  obtain⟨h1,h2⟩:=mQ hf;obtain⟨a,b,c⟩:=h.ok f h1;have hb:aL fs n=f.2.1:=by rw[cK,hf];rfl
  by_cases hz:k=0
  ·rw[Oz h.sort (by simp only;omega) (h.no (by omega))];exact h.del n
  ·rw[tX h.sort (by simp only;omega) (h.no (by omega))];refine h.put (by simp only;omega) ⟨h0,by simp only;omega,by simp only;rw[hb]at e hk ⊢;omega⟩ ?_ ?_
   ·have:=h.nn f h1;simp only;omega
   ·simp only;have:=h.used;omega
theorem WI (h:dY s.room fs)(h1:0<=s.one)(h2:0<=s.rest)(n:Int):dY s.room (bQ s fs n).2.2:=by
 unfold bQ;split
 ·exact h
 ·rename_i i hi;simp only;split
  ·rename_i ht;simp only;rw[(Ao ht).1,set_put h.sort hi];obtain⟨f,-,hf,-⟩:=Fg hi;have:=h.flush hf;have hb:aL fs n=f.2.1:=by rw[cK,hf];rfl
   rw[hb];exact this
  ·exact h.step h1 h2
end Go.Proofs.YtfplgfodoiiobaaGreatDoor
