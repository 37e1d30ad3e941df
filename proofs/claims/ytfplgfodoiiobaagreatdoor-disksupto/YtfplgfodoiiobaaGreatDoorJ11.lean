/- RefP, PgC (joined). -/
import Derived.Test.YtfplgfodoiiobaaGreatDoorJ10
open Option renaming none→O,some→M
open Go.Value renaming int→I,slice→Z,pointer→U
open Go.IntKind renaming i64→V
open Go.Obj renaming cells→C
open Go.Ending renaming returned→G
open Go renaming World→F,Value→Y,Calls→H
open Go.Proofs.Tryz renaming prog→K
namespace Go.Proofs.YtfplgfodoiiobaaGreatDoor
set_option maxHeartbeats 4000000
set_option maxRecDepth 100000
open Go.RowKit
variable {l fs A B:List bE}{n room a one rest but:Int}{w:F}{s:Sc}{i:Nat}
def xM (l:List bE):Prop:=l.Pairwise (fun a b=>a.1<b.1)/\∀f∈l,f.2.1.size≠0
theorem Nf {f:bE}(h:∀g∈l,g.1<f.1):nD l f=l++ [f]:=by
 unfold nD;cases e:l.reverse with
 |nil=>simp at e;subst e;rfl
 |cons g r=>
  have hg:g.1<f.1:=h g (by rw[<-List.mem_reverse,e];simp);have:¬f.1<g.1:=by omega
  simp only[oN,this,if_false];have e2:l=(g::r).reverse:=by rw[<-e];simp
  rw[e2];simp
theorem Le (l:List bE)(f:bE):qU (l++ [f])=if f.2.1.size=0 then qU l else nD (qU l) f:=by
 unfold qU;rw[List.foldl_append];rfl
theorem xO:∀ {l:List bE},l.Pairwise (fun a b=>a.1<b.1)->qU l=l.filter (fun f=>f.2.1.size !=0):=by
 intro l
 suffices aA:∀(n:Nat) (l:List bE),l.length=n->l.Pairwise (fun a b=>a.1<b.1)->qU l=l.filter (fun f=>f.2.1.size !=0) from aA _ l rfl
 intro n
 induction n with
 |zero=>intro l hl _;have:=List.eq_nil_of_length_eq_zero hl;subst this;rfl
 |succ n ih=>
  intro l hl hp;rcases List.eq_nil_or_concat l with rfl|⟨l',f,rfl⟩
  ·simp at hl
  ·rw[List.concat_eq_append]at hl hp ⊢;rw[Le,List.filter_append];have hp':=List.pairwise_append.1 hp;rw[ih l' (by simpa using hl) hp'.1];by_cases hz:f.2.1.size=0
   ·simp[hz]
   ·rw[if_neg hz,Nf]
    ·simp[hz]
    ·intro g hg;exact hp'.2.2 g (List.mem_filter.1 hg).1 f (by simp)
def mQ:List bE->bE->List bE
 | [],f=> [f]
 |g::r,f=>if f.1<g.1 then f::g::r else if g.1=f.1 then f::r else g::mQ r f
def lZ (l:List bE)(n:Int):List bE:=l.filter (fun g=>g.1 !=n)
theorem EF {f:bE}(h:∀g∈l,f.1<g.1)(r:List bE):oN (l++r) f=l++oN r f:=by
 induction l with
 |nil=>rfl
 |cons g l ih=>
  have h1:=h g (by simp);simp only[List.cons_append,oN,h1,if_true];rw[ih (fun x hx=>h x (by simp[hx]))]
theorem vG (h:∀g∈l,g.1≠n):lZ l n=l:=by
 unfold lZ;rw[List.filter_eq_self];intro g hg;simpa using h g hg
theorem rH (h:l.Pairwise (fun a b=>a.1<b.1))(n:Int):∃A B:List bE,(∀g∈A,g.1<n)/\(∀g∈B,n<g.1)/\(l=A++B\/∃f:bE,f.1=n/\l=A++f::B):=by
 induction l with
 |nil=>exact⟨[],[],by simp,by simp,Or.inl rfl⟩
 |cons g l ih=>
  rw[List.pairwise_cons]at h;by_cases h1:g.1<n
  ·obtain⟨A,B,a,b,c⟩:=ih h.2;refine⟨g::A,B,?_,b,?_⟩
   ·intro x hx;simp only[List.mem_cons]at hx;rcases hx with rfl|hx
    ·exact h1
    ·exact a x hx
   ·rcases c with rfl|⟨f,e,rfl⟩
    ·left;rfl
    ·right;exact⟨f,e,rfl⟩
  ·by_cases h2:g.1=n
   ·exact⟨[],l,by simp,fun x hx=>by have:=h.1 x hx;omega,Or.inr ⟨g,h2,rfl⟩⟩
   ·exact⟨[],g::l,by simp,fun x hx=>by
     simp only[List.mem_cons]at hx;rcases hx with rfl|hx
     ·omega
     ·have:=h.1 x hx;omega,Or.inl rfl⟩
theorem kL (A B:List bE)(n:Int):lZ (A++B) n=lZ A n++lZ B n:=by simp[lZ]
theorem wD {f:bE}(ha:∀g∈A,g.1<f.1)(hb:∀g∈B,f.1<g.1):mQ (A++B) f=A++f::B:=by
 induction A with
 |nil=>
  cases B with
  |nil=>rfl
  |cons g B=>have:=hb g (by simp);simp[mQ,this]
 |cons g A ih=>
  have h1:=ha g (by simp);have h2:¬f.1<g.1:=by omega
  have h3:¬g.1=f.1:=by omega
  simp only[List.cons_append,mQ,h2,h3,if_false];rw[ih (fun x hx=>ha x (by simp[hx]))]
theorem pQ {f g:bE}(ha:∀g∈A,g.1<f.1)(hg:g.1=f.1):mQ (A++g::B) f=A++f::B:=by
 induction A with
 |nil=>simp[mQ,hg]
 |cons g A ih=>
  have h1:=ha g (by simp);have h2:¬f.1<g.1:=by omega
  have h3:¬g.1=f.1:=by omega
  simp only[List.cons_append,mQ,h2,h3,if_false];rw[ih (fun x hx=>ha x (by simp[hx]))]
theorem Ik {f:bE}(ha:∀g∈A,g.1<f.1)(hb:∀g∈B,f.1<g.1):nD (A++B) f=A++f::B:=by
 have e:nD A f=A++ [f]:=Nf ha;unfold nD at*;rw[List.reverse_append,EF (fun g hg=>hb g (by simpa using hg)),List.reverse_append,e];simp
theorem Cj (h:xM l){f:bE}(hf:f.2.1.size≠0)(hb:∀g∈l,g.1≠but):xX l f but=mQ l f:=by
 have e0:l.filter (pO f.1 but)=lZ l f.1:=by
  unfold lZ;refine List.filter_congr (fun g hg=>?_);have:=hb g hg;simp[pO,this]
 unfold xX;rw[e0,Le,if_neg hf];have hp:(lZ l f.1).Pairwise (fun a b=>a.1<b.1):=h.1.sublist List.filter_sublist
 have h2:qU (lZ l f.1)=lZ l f.1:=by
  rw[xO hp,List.filter_eq_self];intro g hg;have:=h.2 g (List.mem_filter.1 hg).1;simpa using this
 rw[h2];obtain⟨A,B,ha,gG,c⟩:=rH h.1 f.1;have dA:lZ A f.1=A:=vG (fun g hg=>by have:=ha g hg;omega);have dB:lZ B f.1=B:=vG (fun g hg=>by have:=gG g hg;omega);rcases c with rfl|⟨g,e,rfl⟩
 ·rw[kL,dA,dB,Ik ha gG,wD ha gG]
 ·have:lZ (A++g::B) f.1=A++B:=by
   rw[kL,dA,show g::B=[g]++B from rfl,kL,dB];simp[lZ,e]
  rw[this,Ik ha gG,pQ ha e]
theorem Ri (h:xM l){f:bE}(hf:f.2.1.size=0)(hb:∀g∈l,g.1≠but):xX l f but=lZ l f.1:=by
 have e0:l.filter (pO f.1 but)=lZ l f.1:=by
  unfold lZ;refine List.filter_congr (fun g hg=>?_);have:=hb g hg;simp[pO,this]
 unfold xX;rw[e0,Le,if_pos hf];have hp:(lZ l f.1).Pairwise (fun a b=>a.1<b.1):=h.1.sublist List.filter_sublist;rw[xO hp,List.filter_eq_self];intro g hg;have:=h.2 g (List.mem_filter.1 hg).1;simpa using this
theorem TU (h:xM l){f:bE}(hf:f.2.1.size≠0):xM (mQ l f):=by
 obtain⟨A,B,ha,hb,c⟩:=rH h.1 f.1
 have key:∀g:List bE,(A++f::g=A++f::B)->(∀x∈A++B,x∈l)->A.Pairwise (fun a b=>a.1<b.1)->B.Pairwise (fun a b=>a.1<b.1)->xM (A++f::B):=by
  intro _ _ hm pA pB;refine⟨?_,?_⟩
  ·rw[List.pairwise_append,List.pairwise_cons];refine⟨pA,⟨hb,pB⟩,fun x hx y hy=>?_⟩;have h1:=ha x hx;simp only[List.mem_cons]at hy;rcases hy with rfl|hy
   ·exact h1
   ·have:=hb y hy;omega
  ·intro x hx;simp only[List.mem_append,List.mem_cons]at hx;rcases hx with hx|rfl|hx
   ·exact h.2 x (hm x (by simp[hx]))
   ·exact hf
   ·exact h.2 x (hm x (by simp[hx]))
 rcases c with rfl|⟨g,e,rfl⟩
 ·rw[wD ha hb];have:=List.pairwise_append.1 h.1;exact key B rfl (fun x hx=>hx) this.1 this.2.1
 ·rw[pQ ha e];have:=List.pairwise_append.1 h.1;exact key B rfl (fun x hx=>by simp at hx ⊢;rcases hx with hx|hx<;>simp[hx]) this.1 (List.pairwise_cons.1 this.2.1).2
def bY:List bE->Int
 | []=>0
 |f::r=>(f.2.1.size:Int)+bY r
theorem qJ (a b:List bE):bY (a++b)=bY a+bY b:=by
 induction a with
 |nil=>simp[bY]
 |cons f a ih=>simp only[List.cons_append,bY,ih];omega
theorem zT {k:Nat}{f:bE}(h:l[k]?=M f):bY (l.take (k+1))=bY (l.take k)+(f.2.1.size:Int):=by
 have bT:=(List.getElem?_eq_some_iff.1 h).1;rw[List.take_succ_eq_append_getElem bT,qJ,(List.getElem?_eq_some_iff.1 h).2];simp[bY]
theorem qK (l:List bE):0<=bY l:=by
 induction l with
 |nil=>simp[bY]
 |cons f l ih=>simp only[bY];omega
theorem Ew (l:List bE)(k:Nat):bY (l.take k)<=bY l:=by
 have h:bY l=bY (l.take k)+bY (l.drop k):=by rw[<-qJ,List.take_append_drop]
 have:=qK (l.drop k);omega
theorem Il (l:List bE)(p:bE->Bool):bY (l.filter p)<=bY l:=by
 induction l with
 |nil=>simp
 |cons f l ih=>rw[List.filter_cons];split<;>simp only[bY]<;>omega
theorem vH {f:bE}(h:f∈l):(f.2.1.size:Int)<=bY l:=by
 induction l with
 |nil=>simp at h
 |cons g l ih=>
  simp only[List.mem_cons]at h;have:=qK l;rcases h with rfl|h
  ·simp only[bY];omega
  ·have:=ih h;simp only[bY];omega
structure gN (room:Int)(fs:List bE):Prop where
 sort:xM fs
 ok:∀f∈fs,okF f
 nn:∀f∈fs,0<=f.1/\f.1<=9223372036854775807
 used:bY fs<=room
theorem kept_bd {f:bE}(h1:0<=one)(h2:0<=rest)(h:okF f):0<=sH one rest f/\sH one rest f<=(f.2.1.size:Int):=by
 obtain⟨a,b,c⟩:=h;unfold sH;by_cases e:f.1=1
 ·simp only[e,if_true];split<;>omega
 ·simp only[e,if_false];split<;>omega
theorem extract_size (b:ByteArray)(h0:0<=n)(h1:n<=(b.size:Int)):((b.extract 0 n.toNat).size:Int)=n:=by
 rw[ByteArray.size_extract];omega
theorem EG {f:bE}(h1:0<=one)(h2:0<=rest)(h:okF f):okF (gI one rest f)/\(gI one rest f).2.1.size<=f.2.1.size:=by
 obtain⟨a,b⟩:=kept_bd h1 h2 h;have e:=extract_size f.2.1 a b;obtain⟨c1,c2,c3⟩:=h;unfold gI okF;simp only;omega
theorem gN.sub (h:gN room fs)(p:bE->Bool):gN room (fs.filter p):=
 ⟨⟨h.sort.1.sublist List.filter_sublist,fun f hf=>h.sort.2 f (List.mem_filter.1 hf).1⟩,fun f hf=>h.ok f (List.mem_filter.1 hf).1,fun f hf=>h.nn f (List.mem_filter.1 hf).1,Int.le_trans (Il _ _) h.used⟩
theorem TV {g:bE->bE}(h:∀f∈l,(g f).2.1.size<=f.2.1.size):bY (l.map g)<=bY l:=by
 induction l with
 |nil=>simp
 |cons f l ih=>
  have h1:=h f (by simp);have h2:=ih (fun x hx=>h x (by simp[hx]));simp only[List.map_cons,bY];omega
theorem Wl (h:gN room fs):qU (fs.map (gI one rest))=(fs.map (gI one rest)).filter (fun f=>f.2.1.size !=0):=
 xO (by rw[List.pairwise_map];exact h.sort.1.imp (fun hab=>hab))
theorem gN.crash (h:gN room fs)(h1:0<=one)(h2:0<=rest):gN room (qU (fs.map (gI one rest))):=by
 rw[Wl h];refine⟨⟨?_,fun f hf=>by simpa using(List.mem_filter.1 hf).2⟩,fun f hf=>?_,fun f hf=>?_,?_⟩
 ·refine List.Pairwise.sublist List.filter_sublist ?_;rw[List.pairwise_map];exact h.sort.1.imp (fun hab=>hab)
 ·obtain⟨g,hg,rfl⟩:=List.mem_map.1 (List.mem_filter.1 hf).1;exact(EG h1 h2 (h.ok g hg)).1
 ·obtain⟨g,hg,rfl⟩:=List.mem_map.1 (List.mem_filter.1 hf).1;exact h.nn g hg
 ·exact Int.le_trans (Il _ _) (Int.le_trans (TV (fun f hf=>(EG h1 h2 (h.ok f hf)).2)) h.used)
theorem gN.step (h:gN s.room fs)(h1:0<=s.one)(h2:0<=s.rest):gN s.room (dK s fs).2.2:=by
 unfold dK;split
 ·exact h
 ·split
  ·exact h
  ·exact h.crash h1 h2
def iB (l:List bE)(n:Int):Option bE:=l.find? (fun f=>f.1==n)
theorem Im (l:List bE)(n:Int):(qH l n).bind (fun i=>l[i]?)=iB l n:=by
 unfold qH iB
 induction l with
 |nil=>rfl
 |cons f l ih=>
  rw[List.findIdx?_cons,List.find?_cons];cases hf:(f.1==n)with
  |true=>simp
  |false=>
   simp only[Bool.false_eq_true,if_false];rw[<-ih];cases List.findIdx? (fun f=>f.1==n) l<;>simp
theorem Rj (h:qH l n=M i):i<l.length:=by
 unfold qH at h;rw[List.findIdx?_eq_some_iff_getElem]at h;exact h.1
theorem Rk (l:List bE)(n:Int):qH l n=O↔iB l n=O:=by
 rw[<-Im];cases h:qH l n with
 |none=>simp
 |some i=>have:=Rj h;simp[List.getElem?_eq_getElem this]
theorem wE (h:qH l n=M i):∃f,l[i]?=M f/\iB l n=M f/\f.1=n:=by
 have hl:=Rj h;refine⟨l[i],List.getElem?_eq_getElem hl,?_,?_⟩
 ·rw[<-Im,h];simp[hl]
 ·unfold qH at h;rw[List.findIdx?_eq_some_iff_getElem]at h;obtain⟨_,h2,_⟩:=h;simpa using h2
theorem fU (l:List bE)(n:Int):aP l n=((iB l n).map (fun f=>f.2.1)).getD ⟨#[]⟩:=by
 unfold aP;cases h:qH l n with
 |none=>rw[(Rk l n).1 h];rfl
 |some i=>obtain⟨f,h1,h2,-⟩:=wE h;simp[h1,h2]
theorem wF {f:bE}(h:iB l n=M f):f∈l/\f.1=n:=by
 unfold iB at h;exact⟨List.mem_of_find?_eq_some h,by simpa using List.find?_some h⟩
def kW (l:List bE)(n:Int)(b:ByteArray):bE:=match iB l n with
 |some f=>(n,f.2.1++b,f.2.2)
 |none=>(n,b,0)
def bQ (s:Sc)(fs:List bE)(n:Int)(b:ByteArray):Int×Sc×List bE:=
 if s.refusing=true/\s.left=0 then (9,{ s with refusing:=false,ro:=true },fs)
 else if s.room<bY fs+(b.size:Int)then (9,{ s with ro:=true },fs)
 else
  let s1:=if s.refusing then { s with left:=s.left-1 } else s
  let r:=dK s1 fs
  if r.1 then (0,r.2.1,xX r.2.2 (kW r.2.2 n b) (-1))else (10,r.2.1,r.2.2)
def dH (s:Sc)(fs:List bE)(n:Int):Bool×Sc×List bE:=match qH fs n with
 |none=>(true,s,fs)
 |some i=>let r:=dK s fs;if r.1 then (true,r.2.1,r.2.2.set i (n,aP r.2.2 n,(aP r.2.2 n).size))else r
def bP (s:Sc)(fs:List bE)(n k:Int):Bool×Sc×List bE:=
 if ((aP fs n).size:Int)<=k then (true,s,fs)
 else let r:=dK s fs;if r.1 then (true,r.2.1,xX r.2.2 (n,(aP fs n).extract 0 k.toNat,k) (-1))else r
theorem nG (A B:List bE)(n:Int):iB (A++B) n=(iB A n).or (iB B n):=by unfold iB;rw[List.find?_append]
theorem Lf (h:∀g∈l,g.1≠n):iB l n=O:=by
 unfold iB;rw[List.find?_eq_none];intro g hg;simpa using h g hg
theorem yN (f:bE)(l:List bE)(n:Int):iB (f::l) n=if f.1=n then M f else iB l n:=by
 unfold iB;rw[List.find?_cons];by_cases h:f.1=n
 ·simp[h]
 ·rw[if_neg h];have:(f.1==n)=false:=by simpa using h
  rw[this]
theorem ZY (h:xM l)(f:bE)(n:Int):iB (mQ l f) n=if f.1=n then M f else iB l n:=by
 obtain⟨A,B,ha,hb,c⟩:=rH h.1 f.1
 have key:iB (A++f::B) n=if f.1=n then M f else iB (A++B) n:=by
  rw[nG,yN,nG];by_cases e:f.1=n
  ·rw[if_pos e,if_pos e,Lf (fun g hg=>by have:=ha g hg;omega)];rfl
  ·rw[if_neg e,if_neg e]
 rcases c with rfl|⟨g,e,rfl⟩
 ·rw[wD ha hb];exact key
 ·rw[pQ ha e,key,nG,nG,yN];by_cases e2:f.1=n
  ·rw[if_pos e2,if_pos e2]
  ·rw[if_neg e2,if_neg e2,if_neg (by omega)]
theorem af (l:List bE)(k n:Int):iB (lZ l k) n=if n=k then O else iB l n:=by
 induction l with
 |nil=>simp[lZ,iB]
 |cons f l ih=>
  unfold lZ at*;rw[List.filter_cons];by_cases e:f.1=k
  ·have:(f.1 !=k)=false:=by simp[e]
   rw[this];simp only[Bool.false_eq_true,if_false];rw[ih,yN];by_cases e2:n=k
   ·rw[if_pos e2,if_pos e2]
   ·rw[if_neg e2,if_neg e2,if_neg (by omega)]
  ·have:(f.1 !=k)=true:=by simp[e]
   rw[this];simp only[if_true];rw[yN,ih,yN];by_cases e2:n=k
   ·rw[if_pos e2,if_pos e2,if_neg (by omega)]
   ·rw[if_neg e2,if_neg e2]
theorem Yy:(⟨#[]⟩:ByteArray).size=0:=rfl
theorem ah (h:xM l)(n:Int):bY (lZ l n)=bY l-((aP l n).size:Int):=by
 rw[fU];obtain⟨A,B,ha,hb,c⟩:=rH h.1 n;have dA:lZ A n=A:=vG (fun g hg=>by have:=ha g hg;omega);have dB:lZ B n=B:=vG (fun g hg=>by have:=hb g hg;omega);have fA:iB A n=O:=Lf (fun g hg=>by have:=ha g hg;omega);have fB:iB B n=O:=Lf (fun g hg=>by have:=hb g hg;omega);rcases c with rfl|⟨g,e,rfl⟩
 ·rw[kL,dA,dB,nG,fA,fB];simp[Yy]
 ·rw[kL,dA,show g::B=[g]++B from rfl,kL,dB,nG,nG,fA,fB];have:lZ [g] n=[]:=by simp[lZ,e]
  have f2:iB [g] n=M g:=by simp[iB,e]
  rw[this,f2];simp only[qJ,bY,Option.none_or,Option.or_none,Option.map_some,Option.getD_some,List.nil_append];omega
theorem ai (h:xM l)(f:bE):bY (mQ l f)=bY l-((aP l f.1).size:Int)+(f.2.1.size:Int):=by
 have hd:=ah h f.1;rw[<-hd];obtain⟨A,B,ha,hb,c⟩:=rH h.1 f.1;have dA:lZ A f.1=A:=vG (fun g hg=>by have:=ha g hg;omega);have dB:lZ B f.1=B:=vG (fun g hg=>by have:=hb g hg;omega);rcases c with rfl|⟨g,e,rfl⟩
 ·rw[wD ha hb,kL,dA,dB];simp only[qJ,bY];omega
 ·rw[pQ ha e,kL,dA,show g::B=[g]++B from rfl,kL,dB];have:lZ [g] f.1=[]:=by simp[lZ,e]
  rw[this];simp only[qJ,bY,List.nil_append];omega
theorem Pn {f g:bE}(h:g∈mQ l f):g=f\/g∈l:=by
 induction l with
 |nil=>simp[mQ]at h;exact Or.inl h
 |cons x l ih=>
  unfold mQ at h;split at h
  ·simp only[List.mem_cons]at h ⊢;exact h
  ·split at h
   ·simp only[List.mem_cons]at h ⊢;rcases h with h|h
    ·exact Or.inl h
    ·exact Or.inr (Or.inr h)
   ·simp only[List.mem_cons]at h ⊢;rcases h with h|h
    ·exact Or.inr (Or.inl h)
    ·rcases ih h with h|h
     ·exact Or.inl h
     ·exact Or.inr (Or.inr h)
theorem len_put (l:List bE)(f:bE):(mQ l f).length<=l.length+1:=by
 induction l with
 |nil=>simp[mQ]
 |cons x l ih=>unfold mQ;split<;>(try split)<;>simp<;>omega
theorem gN.put (h:gN room fs){f:bE}(hz:f.2.1.size≠0)(kI:okF f)(hn:0<=f.1/\f.1<=9223372036854775807)(hu:bY fs-((aP fs f.1).size:Int)+(f.2.1.size:Int)<=room):gN room (mQ fs f):=
 ⟨TU h.sort hz,fun g hg=>(Pn hg).elim (fun e=>by rw[e];exact kI) (h.ok g),fun g hg=>(Pn hg).elim (fun e=>by rw[e];exact hn) (h.nn g),by rw[ai h.sort];exact hu⟩
theorem gN.del (h:gN room fs)(n:Int):gN room (lZ fs n):=h.sub _
theorem gN.no (h:gN room fs)(hb:but<0):∀g∈fs,g.1≠but:=fun g hg=>by have:=(h.nn g hg).1;omega
theorem wG (a b:ByteArray):(a++b).size=a.size+b.size:=by simp
theorem Wm (h:gN room fs)(n:Int)(b:ByteArray):(kW fs n b).1=n/\(kW fs n b).2.1=aP fs n++b/\0<=(kW fs n b).2.2/\(kW fs n b).2.2<=((aP fs n).size:Int):=by
 rw[fU];unfold kW;cases e:iB fs n with
 |none=>exact⟨rfl,by simp[ByteArray.ext_iff],by simp,by simp⟩
 |some f=>
  obtain⟨a,b,c⟩:=h.ok f (wF e).1;exact⟨rfl,rfl,a,b⟩
theorem gN.app (h:gN room fs)(hr:room<=1000000)(hn:0<=n/\n<=9223372036854775807){b:ByteArray}(hb:b.size≠0)(hu:bY fs+(b.size:Int)<=room):gN room (mQ fs (kW fs n b))/\xX fs (kW fs n b) (-1)=mQ fs (kW fs n b):=by
 obtain⟨e1,e2,e3,e4⟩:=Wm h n b;have hs:(kW fs n b).2.1.size=(aP fs n).size+b.size:=by rw[e2,wG]
 have hm:((aP fs n).size:Int)<=bY fs:=by
  rw[fU];cases e:iB fs n with
  |none=>simp[Yy,qK]
  |some f=>exact vH (wF e).1
 refine⟨h.put (by omega) ⟨e3,by omega,by omega⟩ (by rw[e1];exact hn) (by rw[e1];omega),?_⟩;exact Cj h.sort (by omega) (h.no (by omega))
theorem zU (s:Sc)(fs:List bE):(s.jH=false/\dK s fs=(true,s,fs))\/(s.jH=true/\0<s.after/\dK s fs=(true,{ s with after:=s.after-1 },fs))
 \/(s.jH=true/\¬0<s.after/\dK s fs=(false,{ s with jH:=false,aX:=false },qU (fs.map (gI s.one s.rest)))):=by
 unfold dK;by_cases h1:s.jH=false
 ·rw[if_pos h1];exact Or.inl ⟨h1,rfl⟩
 ·rw[if_neg h1];by_cases h2:0<s.after
  ·rw[if_pos h2];exact Or.inr (Or.inl ⟨by simpa using h1,h2,rfl⟩)
  ·rw[if_neg h2];exact Or.inr (Or.inr ⟨by simpa using h1,h2,rfl⟩)
theorem Dq (h:(dK s fs).1=true):(dK s fs).2.2=fs/\((dK s fs).2.1=s\/(0<s.after/\(dK s fs).2.1= { s with after:=s.after-1 })):=by
 rcases zU s fs with⟨_,e⟩|⟨_,h2,e⟩|⟨_,_,e⟩
 ·rw[e];exact⟨rfl,Or.inl rfl⟩
 ·rw[e];exact⟨rfl,Or.inr ⟨h2,rfl⟩⟩
 ·rw[e]at h;cases h
theorem set_put (h:xM l)(hi:qH l n=M i)(b:ByteArray)(k:Int):l.set i (n,b,k)=mQ l (n,b,k):=by
 obtain⟨f,h1,-,h3⟩:=wE hi;obtain⟨A,B,ha,hb,c⟩:=rH h.1 n;have hm:f∈l:=List.mem_of_getElem? h1;rcases c with rfl|⟨g,e,rfl⟩
 ·exfalso;simp only[List.mem_append]at hm;rcases hm with hm|hm
  ·have:=ha f hm;omega
  ·have:=hb f hm;omega
 ·have hiA:i=A.length:=by
   unfold qH at hi;rw[List.findIdx?_append]at hi
   have:List.findIdx? (fun f=>f.1==n) A=O:=by
    rw[List.findIdx?_eq_none_iff];intro x hx;have:=ha x hx;have h2:¬x.1=n:=by omega
    simpa using h2
   rw[this]at hi;have h2:(g.1==n)=true:=by simp[e]
   rw[List.findIdx?_cons,h2]at hi;simp at hi;omega
  subst hiA;rw[pQ (f:=(n,b,k)) ha e,List.set_append_right _ _ (Nat.le_refl _)];simp
theorem gN.flush (h:gN room fs){f:bE}(hf:iB fs n=M f):gN room (mQ fs (n,f.2.1,(f.2.1.size:Int))):=by
 obtain⟨h1,h2⟩:=wF hf;obtain⟨a,b,c⟩:=h.ok f h1;have hb:aP fs n=f.2.1:=by rw[fU,hf];rfl
 refine h.put (h.sort.2 f h1) ⟨?_,?_,?_⟩ ?_ ?_
 ·simp only;omega
 ·exact Int.le_refl _
 ·exact c
 ·have:=h.nn f h1;simp only;omega
 ·simp only;rw[hb];have:=h.used;omega
theorem gN.cut (h:gN room fs){k:Int}(h0:0<=k)(hk:k<((aP fs n).size:Int)):gN room (xX fs (n,(aP fs n).extract 0 k.toNat,k) (-1)):=by
 have e:=extract_size (aP fs n) h0 (Int.le_of_lt hk);cases hf:iB fs n with
 |none=>rw[fU,hf]at hk;simp[Yy]at hk;omega
 |some f=>
  obtain⟨h1,h2⟩:=wF hf;obtain⟨a,b,c⟩:=h.ok f h1;have hb:aP fs n=f.2.1:=by rw[fU,hf];rfl
  by_cases hz:k=0
  ·rw[Ri h.sort (by simp only;omega) (h.no (by omega))];exact h.del n
  ·rw[Cj h.sort (by simp only;omega) (h.no (by omega))];refine h.put (by simp only;omega) ⟨h0,by simp only;omega,by simp only;rw[hb]at e hk ⊢;omega⟩ ?_ ?_
   ·have:=h.nn f h1;simp only;omega
   ·simp only;have:=h.used;omega
theorem TW (h:gN s.room fs)(h1:0<=s.one)(h2:0<=s.rest)(n:Int):gN s.room (dH s fs n).2.2:=by
 unfold dH;split
 ·exact h
 ·rename_i i hi;simp only;split
  ·rename_i ht;simp only;rw[(Dq ht).1,set_put h.sort hi];obtain⟨f,-,hf,-⟩:=wE hi;have:=h.flush hf;have hb:aP fs n=f.2.1:=by rw[fU,hf];rfl
   rw[hb];exact this
  ·exact h.step h1 h2
abbrev FR:=Nat×Y×bE
variable {rs:List FR}
def FR.b (r:FR):Nat:=r.1
def FR.v (r:FR):Y:=r.2.1
def FR.f (r:FR):bE:=r.2.2
def FR.p (r:FR):Y:=U (M ⟨r.b,0,O⟩)
def uH (r:FR):Obj:=C #[I V r.f.1,r.v,I V r.f.2.2] 157 (0,0)
def iQ (w:F)(r:FR):Prop:=w.heap[r.b]?=M (uH r)/\dI w 0 r.v r.f.2.1.data.toList
def xY (r s:FR):Prop:=r.b≠s.b/\∀g,r.v.ownBlock=M g->s.v.ownBlock≠M g
def jI (s:Sc)(fv:Y):Obj:=C #[I V s.room,fv,.bool s.refusing,I V s.left,.bool s.jH,I V s.after,I V s.one,I V s.rest] 137 (0,0)
def iJ (w:F)(v:Y)(rs:List FR):Prop:=w.ownsRow 0 155 1 v rs.length (rs.map FR.p)
def aW (w:F)(db:Nat)(s:Sc)(fv:Y)(rs:List FR):Prop:=
 w.heap[db]?=M (jI s fv)/\iJ w fv rs/\(∀r∈rs,iQ w r)/\rs.Pairwise xY
def DX (db:Nat)(fv:Y)(rs:List FR)(b:Nat):Prop:=b=db\/fv.ownBlock=M b\/∃r∈rs,b=r.b\/r.v.ownBlock=M b
def plain (rs:List FR):List bE:=rs.map FR.f
theorem jS {r:FR}(h:rs[i]?=M r):(plain rs)[i]?=M r.f:=by simp[plain,h]
theorem bW (rs:List FR):(plain rs).length=rs.length:=by simp[plain]
theorem dO {db:Nat}{fv:Y}(h:w.heap[db]?=M (jI s fv)):
 w.cell? ⟨db,0,O⟩=M (I V s.room)/\w.cell? ⟨db,1,O⟩=M fv/\w.cell? ⟨db,2,O⟩=M (.bool s.refusing)/\w.cell? ⟨db,3,O⟩=M (I V s.left)/\w.cell? ⟨db,4,O⟩=M (.bool s.jH)/\w.cell? ⟨db,5,O⟩=M (I V s.after)/\w.cell? ⟨db,6,O⟩=M (I V s.one)/\w.cell? ⟨db,7,O⟩=M (I V s.rest)/\∀j,w.frozen? ⟨db,j,O⟩=false:=by
 simp[World.cell?,World.frozen?,h,jI]
theorem gZ {r:FR}(h:w.heap[r.b]?=M (uH r)):
 w.cell? ⟨r.b,0,O⟩=M (I V r.f.1)/\w.cell? ⟨r.b,1,O⟩=M r.v/\w.cell? ⟨r.b,2,O⟩=M (I V r.f.2.2)/\∀j,w.frozen? ⟨r.b,j,O⟩=false:=by
 simp[World.cell?,World.frozen?,h,uH]
theorem iJ.form {v:Y}(h:iJ w v rs):
 ∃ao cap,v=Z ao rs.length cap/\rs.length<=cap/\cap<=maxLen/\(ao=O->rs=[]/\cap=0)/\(∀a,ao=M a->∃g aS,a=⟨g,0,O⟩/\w.heap[g]?=M (C aS 155 (0,0))/\aS.size=cap/\aS.toList.take rs.length=rs.map FR.p/\∀(i:Nat) (r:FR),rs[i]?=M r->w.cell? ⟨g,i,O⟩=M r.p):=by
 have hc:=fun g hg=>World.ownsRow.cells (g:=g) h hg
 obtain⟨-,h2⟩:=h;rcases h2 with⟨rfl,h3⟩|⟨g,cap,aS,rfl,hg,hh,iL,hm,hs,ht⟩
 ·exact⟨O,0,by rw[h3],by omega,by unfold maxLen;omega,fun _=>⟨List.eq_nil_of_length_eq_zero h3,rfl⟩,(fun _ e=>by cases e)⟩
 ·refine⟨M ⟨g,0,O⟩,cap,rfl,iL,hm,(fun e=>by cases e),(fun a e=>?_)⟩;cases e
  refine⟨g,aS,rfl,hh,by simpa using hs,by simpa using ht,fun i r hr=>?_⟩;have:=hc g rfl i r.p (by simp[hr]);cases i with
  |zero=>simpa[Addr.add]using this
  |succ i=>simpa[Addr.add]using this
def zV (a b:Int):Int:=if a<b then -1 else if b<a then 1 else 0
theorem EI:H K 253 #[I V a] w fun e w'=>e=G (.bool false)/\w'=w:=by
 go_enter Tryz.func253,Tryz.ntmps253
 go_wp2_with fail
 go_ret;exact⟨by simp,rfl⟩
theorem LZ {b:Int}:H K 231 #[I V a,I V b] w fun e w'=>e=G (I V (zV a b))/\w'=w:=by
 have h1:=fun w=>EI (w:=w) (a:=a)
 have h2:=fun w=>EI (w:=w) (a:=b)
 rcases(by omega:a<b\/b<a\/a=b)with h|h|h
 ·have HE:Hid (zV a b= -1):=by show _=_;unfold zV;rw[if_pos h]
  go_enter Tryz.func231,Tryz.ntmps231
  go_wp2_with fail
  refine(h1 w).mono ?_;rintro e w ⟨rfl,rfl⟩
  go_wp2_with fail
  refine(h2 w).mono ?_;rintro e w ⟨rfl,rfl⟩
  go_wp2_with fail
  go_ret;rw[HE.out];exact⟨rfl,rfl⟩
 ·have h':¬a<b:=by omega
  have HE:Hid (zV a b=1):=by show _=_;unfold zV;rw[if_neg h',if_pos h]
  go_enter Tryz.func231,Tryz.ntmps231
  go_wp2_with fail
  refine(h1 w).mono ?_;rintro e w ⟨rfl,rfl⟩
  go_wp2_with fail
  refine(h2 w).mono ?_;rintro e w ⟨rfl,rfl⟩
  go_wp2_with fail
  go_ret;rw[HE.out];exact⟨rfl,rfl⟩
 ·subst h;have h':¬a<a:=by omega
  have HE:Hid (zV a a=0):=by show _=_;unfold zV;rw[if_neg h',if_neg h']
  go_enter Tryz.func231,Tryz.ntmps231
  go_wp2_with fail
  refine(h1 w).mono ?_;rintro e w ⟨rfl,rfl⟩
  go_wp2_with fail
  refine(h2 w).mono ?_;rintro e w ⟨rfl,rfl⟩
  go_wp2_with fail
  go_ret;rw[HE.out];exact⟨rfl,rfl⟩
theorem EJ {b:Nat}(h:w.cell? ⟨b,0,O⟩=M (I V a)):H K 230 #[U (M ⟨b,0,O⟩),I V n] w fun e w'=>e=G (I V (zV a n))/\w'=w:=by
 go_enter Tryz.func230,Tryz.ntmps230
 go_wp2_with fail
 refine LZ.mono ?_;rintro e w ⟨rfl,rfl⟩
 go_wp2_with fail
 go_ret;exact⟨rfl,rfl⟩
def fK:List bE->Int->Nat
 | [],_=>0
 |f::l,n=>if f.1<n then fK l n+1 else 0
theorem Po:∀(l:List bE) (n:Int),fK l n<=l.length
 | [],_=>Nat.le_refl _
 |f::l,n=>by
  unfold fK;split
  ·have:=Po l n;simp;omega
  ·omega
theorem Lg (hs:l.Pairwise (fun a b=>a.1<b.1))(n:Int):(∀(i:Nat) (f:bE),l[i]?=M f->(i<fK l n↔f.1<n)):=by
 induction l with
 |nil=>intro i f h;simp at h
 |cons g l ih=>
  rw[List.pairwise_cons]at hs;intro i f h;unfold fK;cases i with
  |zero=>
   simp at h;subst h;split<;>simp_all
  |succ i=>
   have h':l[i]?=M f:=by simpa using h
   have hg:=hs.1 f (List.mem_of_getElem? h');have:=ih hs.2 i f h';split
   ·rw[<-this];omega
   ·constructor
    ·intro e;omega
    ·intro e;omega
def kC (l:List bE)(n:Int):Bool:=match l[fK l n]? with
 |some f=>f.1==n
 |none=>false
theorem EK:zV a n<0↔a<n:=by
 unfold zV;split
 ·simp[*]
 ·split<;>simp<;>omega
theorem Wn:zV a n=0↔a=n:=by
 unfold zV;split
 ·constructor<;>intro h<;>omega
 ·split
  ·constructor<;>intro h<;>omega
  ·constructor<;>intro h<;>omega
theorem TY {g cap:Nat}(hc:∀(i:Nat) (r:FR),rs[i]?=M r->w.cell? ⟨g,i,O⟩=M r.p)(hf:∀r∈rs,w.cell? ⟨r.b,0,O⟩=M (I V r.f.1))(hs:(plain rs).Pairwise (fun a b=>a.1<b.1))(hl:rs.length<=1000000):
 H K 229 #[Z (M ⟨g,0,O⟩) rs.length cap,I V n,.func (.func 230) #[] #[]] w fun e w'=>e=G (.tuple #[I V (fK (plain rs) n:Nat),.bool (kC (plain rs) n)])/\w'=w:=by
 have HS:=Lg hs n;have HC:Hid (∀(i:Nat) (r:FR),rs[i]?=M r->w.cell? ⟨g,i,O⟩=M r.p):=hc;have HL:Hid (∀(i:Nat) (r:FR),rs[i]?=M r->(i<fK (plain rs) n↔r.f.1<n)):=fun i r h=>HS i r.f (jS h)
 have HF:Hid (∀r∈rs,w.cell? ⟨r.b,0,O⟩=M (I V r.f.1)):=hf;have hle:fK (plain rs) n<=rs.length:=by have:=Po (plain rs) n;rwa[bW]at this
 have HH:Hid (∀r,rs[fK (plain rs) n]?=M r->kC (plain rs) n=(r.f.1==n)):=fun r h=>by unfold kC;rw[jS h]
 have HO:Hid (rs.length<=fK (plain rs) n->kC (plain rs) n=false):=fun h=>by unfold kC;rw[List.getElem?_eq_none (by rw[bW];exact h)]
 generalize kC (plain rs) n=hb at HH HO ⊢;generalize fK (plain rs) n=lo0 at HL HH HO hle ⊢;clear HS hc hf hs;go_enter Tryz.func229,Tryz.ntmps229
 go_wp2_with fail
 go_loop [9,10] (fun s9 s10=> ∃lo hi:Nat,s9=I V (lo:Int)/\s10=I V (hi:Int)/\lo<=lo0/\lo0<=hi/\hi<=rs.length) (fun s9 s10=>(intOf s10).toNat-(intOf s9).toNat)
 case atStart=>exact⟨0,rs.length,rfl,rfl,Nat.zero_le _,hle,Nat.le_refl _⟩
 case round=>
  obtain⟨lo,hi,rfl,rfl,h1,h2,h3⟩:=hrel;by_cases bT:lo<hi
  ·have hm:(lo+hi) / 2<rs.length:=by omega
   obtain⟨r,hr⟩:∃r,rs[(lo+hi) / 2]?=M r:=⟨_,List.getElem?_eq_getElem hm⟩;have c1:=HC.out _ r hr;have c2:=HF.out r (List.mem_of_getElem? hr);have hk:=HL.out _ r hr;have fT:=EJ (n:=n) c2;have i1:(0:Int)<=((lo:Int)+(hi:Int)) / 2:=by omega
   have i2:((lo:Int)+(hi:Int)) / 2<(rs.length:Int):=by omega
   have i3:(((lo:Int)+(hi:Int)) / 2).toNat=(lo+hi) / 2:=by omega
   unfold FR.p at c1;clear hr;by_cases hyx:r.f.1<n
   ·have hn:zV r.f.1 n<0:=EK.2 hyx;have hk':=hk.2 hyx;clear hk;generalize zV r.f.1 n=z at hn fT
    go_wp2_with (go_at_call 230;refine fT.mono ?_;rintro e w ⟨rfl,rfl⟩)
    go_round
    case measure=>simp[intOf];omega
    case rel=>exact⟨(lo+hi) / 2+1,hi,by go_num,rfl,by omega,h2,h3⟩
   ·have hn:¬zV r.f.1 n<0:=fun h=>hyx (EK.1 h)
    have hk':¬(lo+hi) / 2<lo0:=fun h=>hyx (hk.1 h)
    clear hk;generalize zV r.f.1 n=z at hn fT
    go_wp2_with (go_at_call 230;refine fT.mono ?_;rintro e w ⟨rfl,rfl⟩)
    go_round
    case measure=>simp[intOf];omega
    case rel=>exact⟨lo,(lo+hi) / 2,rfl,by go_num,h1,by omega,by omega⟩
  ·obtain rfl:lo=lo0:=by omega
   by_cases hn:lo<rs.length
   ·obtain⟨r,hr⟩:∃r,rs[lo]?=M r:=⟨_,List.getElem?_eq_getElem hn⟩;have c1:=HC.out _ r hr;have c2:=HF.out r (List.mem_of_getElem? hr);have fT:=EJ (n:=n) c2;have i1:(0:Int)<=(lo:Int):=by omega
    have i2:(lo:Int)<(rs.length:Int):=by omega
    have HE:Hid (hb=(zV r.f.1 n==0)):=by
     show _=_;rw[HH.out r hr];by_cases h:r.f.1=n
     ·rw[Wn.2 h,h,beq_self_eq_true,beq_self_eq_true]
     ·have h':zV r.f.1 n≠0:=fun e=>h (Wn.1 e)
      rw[beq_eq_false_iff_ne.2 h,beq_eq_false_iff_ne.2 h']
    unfold FR.p at c1;clear hr;generalize zV r.f.1 n=z at HE fT
    go_wp2_with (go_at_call 230;refine fT.mono ?_;rintro e w ⟨rfl,rfl⟩)
    go_ret2;rw[HE.out];exact⟨rfl,rfl⟩
   ·have HE:Hid (hb=false):=HO.out (by omega)
    go_wp2_with fail
    go_ret2;rw[HE.out];exact⟨rfl,rfl⟩
end Go.Proofs.YtfplgfodoiiobaaGreatDoor
