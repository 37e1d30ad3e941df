/- RefP, PgC (joined). -/
import Derived.Test.YtfplgfodoiiobaaGreatDoorD09
open Option renaming none→O,some→M
open Go.Value renaming int→I,slice→Z,pointer→U
open Go.IntKind renaming i64→V
open Go.Obj renaming cells→C
open Go.Ending renaming returned→G
open Go renaming World→F,Value→Y,Calls→H
open Go.Proofs.Tryz renaming prog→K
open Go.Proofs.Tryz
namespace Go.Proofs.YtfplgfodoiiobaaGreatDoor
set_option maxHeartbeats 4000000
set_option maxRecDepth 100000
open Go.RowKit
abbrev Abi:=@List.mem_filter
abbrev AbS:=@List.filter_eq_self
abbrev AbE:=@List.pairwise_cons
abbrev Adk:=@List.filter_congr
abbrev Aby:=@List.filter_sublist
abbrev Ads:=@List.filter_cons
abbrev Acj:=@ByteArray.size_extract
abbrev AcL:=@Int.le_trans
abbrev Adl:=@List.pairwise_map
abbrev AaD:=@Bool.false_eq_true
abbrev Abs:=@Option.map_some
variable {l fs A B:List bC}{n room a one rest but:Int}{w:F}{s:Sc}{i:Nat}
def vB (l:List bC):Prop:=l.Pairwise (fun a b=>a.1<b.1)/\∀f∈l,f.2.1.size≠0
theorem Pg {f:bC}(h:∀g∈l,g.1<f.1):oW l f=l++ [f]:=by
 unfold oW;cases e:l.reverse with
 |nil=>simp at e;subst e;rfl
 |cons g r=>
  have hg:=h g (by rw[<-List.mem_reverse,e];simp);have:¬f.1<g.1:=by omega
  simp only[pK,this,if_false];have e2:l=(g::r).reverse:=by rw[<-e];simp
  rw[e2];simp
theorem Na (l:List bC)(f:bC):rQ (l++ [f])=if f.2.1.size=0 then rQ l else oW (rQ l) f:=by
 unfold rQ;rw[Adj];rfl
theorem xY:∀ {l:List bC},l.Pairwise (fun a b=>a.1<b.1)->rQ l=l.filter (fun f=>f.2.1.size !=0):=by
 intro l
 suffices aC:∀(n:Nat) (l:List bC),l.length=n->l.Pairwise (fun a b=>a.1<b.1)->rQ l=l.filter (fun f=>f.2.1.size !=0) from aC _ l rfl
 intro n
 induction n with
 |zero=>intro l hl _;have:=Aax hl;subst this;rfl
 |succ n ih=>
  intro l hl hp;rcases List.eq_nil_or_concat l with rfl|⟨l',f,rfl⟩
  ·simp at hl
  ·rw[List.concat_eq_append]at hl hp ⊢;rw[Na,AcQ];have hp':=Abd.1 hp;rw[ih l' (by simpa using hl) hp'.1];by_cases hz:f.2.1.size=0
   ·simp[hz]
   ·rw[Aaa hz,Pg]
    ·simp[hz]
    ·intro g hg;exact hp'.2.2 g (Abi.1 hg).1 f (by simp)
def iO:List bC->bC->List bC
 | [],f=> [f]
 |g::r,f=>if f.1<g.1 then f::g::r else if g.1=f.1 then f::r else g::iO r f
def iT (l:List bC)(n:Int):List bC:=l.filter (fun g=>g.1 !=n)
theorem GQ {f:bC}(h:∀g∈l,f.1<g.1)(r:List bC):pK (l++r) f=l++pK r f:=by
 induction l with
 |nil=>rfl
 |cons g l ih=>
  have h1:=h g (by simp);simp only[Acw,pK,h1,if_true];rw[ih (fun x hx=>h x (by simp[hx]))]
theorem vX (h:∀g∈l,g.1≠n):iT l n=l:=by
 unfold iT;rw[AbS];intro g hg;simpa using h g hg
theorem sD (h:l.Pairwise (fun a b=>a.1<b.1))(n:Int):∃A B:List bC,(∀g∈A,g.1<n)/\(∀g∈B,n<g.1)/\(l=A++B\/∃f:bC,f.1=n/\l=A++f::B):=by
 induction l with
 |nil=>exact⟨[],[],by simp,by simp,Aac rfl⟩
 |cons g l ih=>
  rw[AbE]at h;by_cases h1:g.1<n
  ·obtain⟨A,B,a,b,c⟩:=ih h.2;refine⟨g::A,B,?_,b,?_⟩
   ·intro x hx;simp only[AaF]at hx;rcases hx with rfl|hx
    ·exact h1
    ·exact a x hx
   ·rcases c with rfl|⟨f,e,rfl⟩
    ·left;rfl
    ·right;exact⟨f,e,rfl⟩
  ·by_cases h2:g.1=n
   ·exact⟨[],l,by simp,fun x hx=>by have:=h.1 x hx;omega,Aab ⟨g,h2,rfl⟩⟩
   ·exact⟨[],g::l,by simp,fun x hx=>by
     simp only[AaF]at hx;rcases hx with rfl|hx
     ·omega
     ·have:=h.1 x hx;omega,Aac rfl⟩
theorem kU (A B:List bC)(n:Int):iT (A++B) n=iT A n++iT B n:=by simp[iT]
theorem wQ {f:bC}(ha:∀g∈A,g.1<f.1)(hb:∀g∈B,f.1<g.1):iO (A++B) f=A++f::B:=by
 induction A with
 |nil=>
  cases B with
  |nil=>rfl
  |cons g B=>have:=hb g (by simp);simp[iO,this]
 |cons g A ih=>
  have h1:=ha g (by simp);have h2:¬f.1<g.1:=by omega
  have h3:¬g.1=f.1:=by omega
  simp only[Acw,iO,h2,h3,if_false];rw[ih (fun x hx=>ha x (by simp[hx]))]
theorem qH {f g:bC}(ha:∀g∈A,g.1<f.1)(hg:g.1=f.1):iO (A++g::B) f=A++f::B:=by
 induction A with
 |nil=>simp[iO,hg]
 |cons g A ih=>
  have h1:=ha g (by simp);have h2:¬f.1<g.1:=by omega
  have h3:¬g.1=f.1:=by omega
  simp only[Acw,iO,h2,h3,if_false];rw[ih (fun x hx=>ha x (by simp[hx]))]
theorem Km {f:bC}(ha:∀g∈A,g.1<f.1)(hb:∀g∈B,f.1<g.1):oW (A++B) f=A++f::B:=by
 have e:=Pg ha;unfold oW at*;rw[List.reverse_append,GQ (fun g hg=>hb g (by simpa using hg)),List.reverse_append,e];simp
theorem yY (h:vB l){f:bC}(hf:f.2.1.size≠0)(hb:∀g∈l,g.1≠but):pQ l f but=iO l f:=by
 have e0:l.filter (pI f.1 but)=iT l f.1:=by
  unfold iT;refine Adk (fun g hg=>?_);have:=hb g hg;simp[pI,this]
 unfold pQ;rw[e0,Na,Aaa hf];have hp:(iT l f.1).Pairwise (fun a b=>a.1<b.1):=h.1.sublist Aby
 have h2:rQ (iT l f.1)=iT l f.1:=by
  rw[xY hp,AbS];intro g hg;have:=h.2 g (Abi.1 hg).1;simpa using this
 rw[h2];obtain⟨A,B,ha,fV,c⟩:=sD h.1 f.1;have dA:iT A f.1=A:=vX (fun g hg=>by have:=ha g hg;omega);have dB:iT B f.1=B:=vX (fun g hg=>by have:=fV g hg;omega);rcases c with rfl|⟨g,e,rfl⟩
 ·rw[kU,dA,dB,Km ha fV,wQ ha fV]
 ·have:iT (A++g::B) f.1=A++B:=by
   rw[kU,dA,show g::B=[g]++B from rfl,kU,dB];simp[iT,e]
  rw[this,Km ha fV,qH ha e]
theorem Tg (h:vB l){f:bC}(hf:f.2.1.size=0)(hb:∀g∈l,g.1≠but):pQ l f but=iT l f.1:=by
 have e0:l.filter (pI f.1 but)=iT l f.1:=by
  unfold iT;refine Adk (fun g hg=>?_);have:=hb g hg;simp[pI,this]
 unfold pQ;rw[e0,Na,Aad hf];have hp:(iT l f.1).Pairwise (fun a b=>a.1<b.1):=h.1.sublist Aby;rw[xY hp,AbS];intro g hg;have:=h.2 g (Abi.1 hg).1;simpa using this
theorem XK (h:vB l){f:bC}(hf:f.2.1.size≠0):vB (iO l f):=by
 obtain⟨A,B,ha,hb,c⟩:=sD h.1 f.1
 have key:∀g:List bC,(A++f::g=A++f::B)->(∀x∈A++B,x∈l)->A.Pairwise (fun a b=>a.1<b.1)->B.Pairwise (fun a b=>a.1<b.1)->vB (A++f::B):=by
  intro _ _ hm pA pB;refine⟨?_,?_⟩
  ·rw[Abd,AbE];refine⟨pA,⟨hb,pB⟩,fun x hx y hy=>?_⟩;have h1:=ha x hx;simp only[AaF]at hy;rcases hy with rfl|hy
   ·exact h1
   ·have:=hb y hy;omega
  ·intro x hx;simp only[Aba,AaF]at hx;rcases hx with hx|rfl|hx
   ·exact h.2 x (hm x (by simp[hx]))
   ·exact hf
   ·exact h.2 x (hm x (by simp[hx]))
 rcases c with rfl|⟨g,e,rfl⟩
 ·rw[wQ ha hb];have:=Abd.1 h.1;exact key B rfl (fun x hx=>hx) this.1 this.2.1
 ·rw[qH ha e];have:=Abd.1 h.1;exact key B rfl (fun x hx=>by simp at hx ⊢;rcases hx with hx|hx<;>simp[hx]) this.1 (AbE.1 this.2.1).2
def bV:List bC->Int
 | []=>0
 |f::r=>(f.2.1.size:Int)+bV r
theorem rA (a b:List bC):bV (a++b)=bV a+bV b:=by
 induction a with
 |nil=>simp[bV]
 |cons f a ih=>simp only[Acw,bV,ih];omega
theorem Aj {k:Nat}{f:bC}(h:l[k]?=M f):bV (l.take (k+1))=bV (l.take k)+(f.2.1.size:Int):=by
 have bP:=(Aae.1 h).1;rw[Aau bP,rA,(Aae.1 h).2];simp[bV]
theorem rC (l:List bC):0<=bV l:=by
 induction l with
 |nil=>simp[bV]
 |cons f l ih=>simp only[bV];omega
theorem Gv (l:List bC)(k:Nat):bV (l.take k)<=bV l:=by
 have h:bV l=bV (l.take k)+bV (l.drop k):=by rw[<-rA,AbW]
 have:=rC (l.drop k);omega
theorem Kn (l:List bC)(p:bC->Bool):bV (l.filter p)<=bV l:=by
 induction l with
 |nil=>simp
 |cons f l ih=>rw[Ads];split<;>simp only[bV]<;>omega
theorem yZ {f:bC}(h:f∈l):(f.2.1.size:Int)<=bV l:=by
 induction l with
 |nil=>simp at h
 |cons g l ih=>
  simp only[AaF]at h;have:=rC l;rcases h with rfl|h
  ·simp only[bV];omega
  ·have:=ih h;simp only[bV];omega
structure fM (room:Int)(fs:List bC):Prop where
 sort:vB fs
 ok:∀f∈fs,okF f
 nn:∀f∈fs,0<=f.1/\f.1<=9223372036854775807
 used:bV fs<=room
theorem kept_bd {f:bC}(h1:0<=one)(h2:0<=rest)(h:okF f):0<=tH one rest f/\tH one rest f<=(f.2.1.size:Int):=by
 obtain⟨a,b,c⟩:=h;unfold tH;by_cases e:f.1=1
 ·simp only[e,if_true];split<;>omega
 ·simp only[e,if_false];split<;>omega
theorem extract_size (b:ByteArray)(h0:0<=n)(h1:n<=(b.size:Int)):((b.extract 0 n.toNat).size:Int)=n:=by
 rw[Acj];omega
theorem GU {f:bC}(h1:0<=one)(h2:0<=rest)(h:okF f):okF (gG one rest f)/\(gG one rest f).2.1.size<=f.2.1.size:=by
 obtain⟨a,b⟩:=kept_bd h1 h2 h;have e:=extract_size f.2.1 a b;obtain⟨c1,c2,c3⟩:=h;unfold gG okF;simp only;omega
theorem fM.sub (h:fM room fs)(p:bC->Bool):fM room (fs.filter p):=
 ⟨⟨h.sort.1.sublist Aby,fun f hf=>h.sort.2 f (Abi.1 hf).1⟩,fun f hf=>h.ok f (Abi.1 hf).1,fun f hf=>h.nn f (Abi.1 hf).1,AcL (Kn _ _) h.used⟩
theorem XL {g:bC->bC}(h:∀f∈l,(g f).2.1.size<=f.2.1.size):bV (l.map g)<=bV l:=by
 induction l with
 |nil=>simp
 |cons f l ih=>
  have h1:=h f (by simp);have h2:=ih (fun x hx=>h x (by simp[hx]));simp only[AaK,bV];omega
theorem Yh (h:fM room fs):rQ (fs.map (gG one rest))=(fs.map (gG one rest)).filter (fun f=>f.2.1.size !=0):=
 xY (by rw[Adl];exact h.sort.1.imp (fun hab=>hab))
theorem fM.crash (h:fM room fs)(h1:0<=one)(h2:0<=rest):fM room (rQ (fs.map (gG one rest))):=by
 rw[Yh h];refine⟨⟨?_,fun f hf=>by simpa using(Abi.1 hf).2⟩,fun f hf=>?_,fun f hf=>?_,?_⟩
 ·refine List.Pairwise.sublist Aby ?_;rw[Adl];exact h.sort.1.imp (fun hab=>hab)
 ·obtain⟨g,hg,rfl⟩:=AaY.1 (Abi.1 hf).1;exact(GU h1 h2 (h.ok g hg)).1
 ·obtain⟨g,hg,rfl⟩:=AaY.1 (Abi.1 hf).1;exact h.nn g hg
 ·exact AcL (Kn _ _) (AcL (XL (fun f hf=>(GU h1 h2 (h.ok f hf)).2)) h.used)
theorem fM.step (h:fM s.room fs)(h1:0<=s.one)(h2:0<=s.rest):fM s.room (dI s fs).2.2:=by
 unfold dI;split
 ·exact h
 ·split
  ·exact h
  ·exact h.crash h1 h2
def fQ (l:List bC)(n:Int):Option bC:=l.find? (fun f=>f.1==n)
theorem Ko (l:List bC)(n:Int):(qX l n).bind (fun i=>l[i]?)=fQ l n:=by
 unfold qX fQ
 induction l with
 |nil=>rfl
 |cons f l ih=>
  rw[List.findIdx?_cons,List.find?_cons];cases hf:(f.1==n)with
  |true=>simp
  |false=>
   simp only[AaD,if_false];rw[<-ih];cases List.findIdx? (fun f=>f.1==n) l<;>simp
theorem Ti (h:qX l n=M i):i<l.length:=by
 unfold qX at h;rw[Abp]at h;exact h.1
theorem Tj (l:List bC)(n:Int):qX l n=O↔fQ l n=O:=by
 rw[<-Ko];cases h:qX l n with
 |none=>simp
 |some i=>have:=Ti h;simp[List.getElem?_eq_getElem this]
theorem zA (h:qX l n=M i):∃f,l[i]?=M f/\fQ l n=M f/\f.1=n:=by
 have hl:=Ti h;refine⟨l[i],Aag hl,?_,?_⟩
 ·rw[<-Ko,h];simp[hl]
 ·unfold qX at h;rw[Abp]at h;obtain⟨_,h2,_⟩:=h;simpa using h2
theorem eX (l:List bC)(n:Int):aO l n=((fQ l n).map (fun f=>f.2.1)).getD ⟨#[]⟩:=by
 unfold aO;cases h:qX l n with
 |none=>rw[(Tj l n).1 h];rfl
 |some i=>obtain⟨f,h1,h2,-⟩:=zA h;simp[h1,h2]
theorem tJ {f:bC}(h:fQ l n=M f):f∈l/\f.1=n:=by
 unfold fQ at h;exact⟨List.mem_of_find?_eq_some h,by simpa using List.find?_some h⟩
def mP (l:List bC)(n:Int)(b:ByteArray):bC:=match fQ l n with
 |some f=>(n,f.2.1++b,f.2.2)
 |none=>(n,b,0)
def bW (s:Sc)(fs:List bC)(n:Int)(b:ByteArray):Int×Sc×List bC:=
 if s.refusing=true/\s.left=0 then (9,{ s with refusing:=false,ro:=true },fs)
 else if s.room<bV fs+(b.size:Int)then (9,{ s with ro:=true },fs)
 else
  let s1:=if s.refusing then { s with left:=s.left-1 } else s
  let r:=dI s1 fs
  if r.1 then (0,r.2.1,pQ r.2.2 (mP r.2.2 n b) (-1))else (10,r.2.1,r.2.2)
def bY (s:Sc)(fs:List bC)(n:Int):Bool×Sc×List bC:=match qX fs n with
 |none=>(true,s,fs)
 |some i=>let r:=dI s fs;if r.1 then (true,r.2.1,r.2.2.set i (n,aO r.2.2 n,(aO r.2.2 n).size))else r
def bJ (s:Sc)(fs:List bC)(n k:Int):Bool×Sc×List bC:=
 if ((aO fs n).size:Int)<=k then (true,s,fs)
 else let r:=dI s fs;if r.1 then (true,r.2.1,pQ r.2.2 (n,(aO fs n).extract 0 k.toNat,k) (-1))else r
theorem nV (A B:List bC)(n:Int):fQ (A++B) n=(fQ A n).or (fQ B n):=by unfold fQ;rw[List.find?_append]
theorem Fg (h:∀g∈l,g.1≠n):fQ l n=O:=by
 unfold fQ;rw[List.find?_eq_none];intro g hg;simpa using h g hg
theorem zB (f:bC)(l:List bC)(n:Int):fQ (f::l) n=if f.1=n then M f else fQ l n:=by
 unfold fQ;rw[List.find?_cons];by_cases h:f.1=n
 ·simp[h]
 ·rw[Aaa h];have:(f.1==n)=false:=by simpa using h
  rw[this]
theorem Dq (h:vB l)(f:bC)(n:Int):fQ (iO l f) n=if f.1=n then M f else fQ l n:=by
 obtain⟨A,B,ha,hb,c⟩:=sD h.1 f.1
 have key:fQ (A++f::B) n=if f.1=n then M f else fQ (A++B) n:=by
  rw[nV,zB,nV];by_cases e:f.1=n
  ·rw[Aad e,Aad e,Fg (fun g hg=>by have:=ha g hg;omega)];rfl
  ·rw[Aaa e,Aaa e]
 rcases c with rfl|⟨g,e,rfl⟩
 ·rw[wQ ha hb];exact key
 ·rw[qH ha e,key,nV,nV,zB];by_cases e2:f.1=n
  ·rw[Aad e2,Aad e2]
  ·rw[Aaa e2,Aaa e2,Aaa (by omega)]
theorem ug (l:List bC)(k n:Int):fQ (iT l k) n=if n=k then O else fQ l n:=by
 induction l with
 |nil=>simp[iT,fQ]
 |cons f l ih=>
  unfold iT at*;rw[Ads];by_cases e:f.1=k
  ·have:(f.1 !=k)=false:=(by simp[e]);rw[this];simp only[AaD,if_false];rw[ih,zB];by_cases e2:n=k
   ·rw[Aad e2,Aad e2]
   ·rw[Aaa e2,Aaa e2,Aaa (by omega)]
  ·have:(f.1 !=k)=true:=(by simp[e]);rw[this];simp only[if_true];rw[zB,ih,zB];by_cases e2:n=k
   ·rw[Aad e2,Aad e2,Aaa (by omega)]
   ·rw[Aaa e2,Aaa e2]
theorem BS:(⟨#[]⟩:ByteArray).size=0:=rfl
theorem GV (h:vB l)(n:Int):bV (iT l n)=bV l-((aO l n).size:Int):=by
 rw[eX];obtain⟨A,B,ha,hb,c⟩:=sD h.1 n;have dA:iT A n=A:=vX (fun g hg=>by have:=ha g hg;omega);have dB:iT B n=B:=vX (fun g hg=>by have:=hb g hg;omega);have fA:fQ A n=O:=Fg (fun g hg=>by have:=ha g hg;omega);have fB:fQ B n=O:=Fg (fun g hg=>by have:=hb g hg;omega);rcases c with rfl|⟨g,e,rfl⟩
 ·rw[kU,dA,dB,nV,fA,fB];simp[BS]
 ·rw[kU,dA,show g::B=[g]++B from rfl,kU,dB,nV,nV,fA,fB];have:iT [g] n=[]:=by simp[iT,e]
  have f2:fQ [g] n=M g:=by simp[fQ,e]
  rw[this,f2];simp only[rA,bV,Option.none_or,Option.or_none,Abs,AcJ,Acf];omega
theorem uh (h:vB l)(f:bC):bV (iO l f)=bV l-((aO l f.1).size:Int)+(f.2.1.size:Int):=by
 have hd:=GV h f.1;rw[<-hd];obtain⟨A,B,ha,hb,c⟩:=sD h.1 f.1;have dA:iT A f.1=A:=vX (fun g hg=>by have:=ha g hg;omega);have dB:iT B f.1=B:=vX (fun g hg=>by have:=hb g hg;omega);rcases c with rfl|⟨g,e,rfl⟩
 ·rw[wQ ha hb,kU,dA,dB];simp only[rA,bV];omega
 ·rw[qH ha e,kU,dA,show g::B=[g]++B from rfl,kU,dB];have:iT [g] f.1=[]:=by simp[iT,e]
  rw[this];simp only[rA,bV,Acf];omega
theorem Ak {f g:bC}(h:g∈iO l f):g=f\/g∈l:=by
 induction l with
 |nil=>simp[iO]at h;exact Aac h
 |cons x l ih=>
  unfold iO at h;split at h
  ·simp only[AaF]at h ⊢;exact h
  ·split at h
   ·simp only[AaF]at h ⊢;rcases h with h|h
    ·exact Aac h
    ·exact Aab (Aab h)
   ·simp only[AaF]at h ⊢;rcases h with h|h
    ·exact Aab (Aac h)
    ·rcases ih h with h|h
     ·exact Aac h
     ·exact Aab (Aab h)
theorem len_put (l:List bC)(f:bC):(iO l f).length<=l.length+1:=by
 induction l with
 |nil=>simp[iO]
 |cons x l ih=>unfold iO;split<;>(try split)<;>simp<;>omega
theorem fM.put (h:fM room fs){f:bC}(hz:f.2.1.size≠0)(kP:okF f)(hn:0<=f.1/\f.1<=9223372036854775807)(hu:bV fs-((aO fs f.1).size:Int)+(f.2.1.size:Int)<=room):fM room (iO fs f):=
 ⟨XK h.sort hz,fun g hg=>(Ak hg).elim (fun e=>by rw[e];exact kP) (h.ok g),fun g hg=>(Ak hg).elim (fun e=>by rw[e];exact hn) (h.nn g),by rw[uh h.sort];exact hu⟩
theorem fM.del (h:fM room fs)(n:Int):fM room (iT fs n):=h.sub _
theorem fM.no (h:fM room fs)(hb:but<0):∀g∈fs,g.1≠but:=fun g hg=>by have:=(h.nn g hg).1;omega
theorem dF (a b:ByteArray):(a++b).size=a.size+b.size:=by simp
theorem Yi (h:fM room fs)(n:Int)(b:ByteArray):(mP fs n b).1=n/\(mP fs n b).2.1=aO fs n++b/\0<=(mP fs n b).2.2/\(mP fs n b).2.2<=((aO fs n).size:Int):=by
 rw[eX];unfold mP;cases e:fQ fs n with
 |none=>exact⟨rfl,by simp[ByteArray.ext_iff],by simp,by simp⟩
 |some f=>
  obtain⟨a,b,c⟩:=h.ok f (tJ e).1;exact⟨rfl,rfl,a,b⟩
theorem fM.app (h:fM room fs)(hr:room<=1000000)(hn:0<=n/\n<=9223372036854775807){b:ByteArray}(hb:b.size≠0)(hu:bV fs+(b.size:Int)<=room):fM room (iO fs (mP fs n b))/\pQ fs (mP fs n b) (-1)=iO fs (mP fs n b):=by
 obtain⟨e1,e2,e3,e4⟩:=Yi h n b;have hs:(mP fs n b).2.1.size=(aO fs n).size+b.size:=by rw[e2,dF]
 have hm:((aO fs n).size:Int)<=bV fs:=by
  rw[eX];cases e:fQ fs n with
  |none=>simp[BS,rC]
  |some f=>exact yZ (tJ e).1
 refine⟨h.put (by omega) ⟨e3,by omega,by omega⟩ (by rw[e1];exact hn) (by rw[e1];omega),?_⟩;exact yY h.sort (by omega) (h.no (by omega))
theorem Al (s:Sc)(fs:List bC):(s.jL=false/\dI s fs=(true,s,fs))\/(s.jL=true/\0<s.after/\dI s fs=(true,{ s with after:=s.after-1 },fs))
 \/(s.jL=true/\¬0<s.after/\dI s fs=(false,{ s with jL:=false,aX:=false },rQ (fs.map (gG s.one s.rest)))):=by
 unfold dI;by_cases h1:s.jL=false
 ·rw[Aad h1];exact Aac ⟨h1,rfl⟩
 ·rw[Aaa h1];by_cases h2:0<s.after
  ·rw[Aad h2];exact Aab (Aac ⟨by simpa using h1,h2,rfl⟩)
  ·rw[Aaa h2];exact Aab (Aab ⟨by simpa using h1,h2,rfl⟩)
theorem Fh (h:(dI s fs).1=true):(dI s fs).2.2=fs/\((dI s fs).2.1=s\/(0<s.after/\(dI s fs).2.1= { s with after:=s.after-1 })):=by
 rcases Al s fs with⟨_,e⟩|⟨_,h2,e⟩|⟨_,_,e⟩
 ·rw[e];exact⟨rfl,Aac rfl⟩
 ·rw[e];exact⟨rfl,Aab ⟨h2,rfl⟩⟩
 ·rw[e]at h;cases h
theorem TR (h:vB l)(hi:qX l n=M i)(b:ByteArray)(k:Int):l.set i (n,b,k)=iO l (n,b,k):=by
 obtain⟨f,h1,-,h3⟩:=zA hi;obtain⟨A,B,ha,hb,c⟩:=sD h.1 n;have hm:=Aai h1;rcases c with rfl|⟨g,e,rfl⟩
 ·exfalso;simp only[Aba]at hm;rcases hm with hm|hm
  ·have:=ha f hm;omega
  ·have:=hb f hm;omega
 ·have hiA:i=A.length:=by
   unfold qX at hi;rw[List.findIdx?_append]at hi
   have:List.findIdx? (fun f=>f.1==n) A=O:=by
    rw[AbT];intro x hx;have:=ha x hx;have h2:¬x.1=n:=(by omega);simpa using h2
   rw[this]at hi;have h2:(g.1==n)=true:=(by simp[e]);rw[List.findIdx?_cons,h2]at hi;simp at hi;omega
  subst hiA;rw[qH (f:=(n,b,k)) ha e,AbV _ _ (Aak _)];simp
theorem fM.flush (h:fM room fs){f:bC}(hf:fQ fs n=M f):fM room (iO fs (n,f.2.1,(f.2.1.size:Int))):=by
 obtain⟨h1,h2⟩:=tJ hf;obtain⟨a,b,c⟩:=h.ok f h1;have hb:aO fs n=f.2.1:=by rw[eX,hf];rfl
 refine h.put (h.sort.2 f h1) ⟨?_,?_,?_⟩ ?_ ?_
 ·simp only;omega
 ·exact AaZ _
 ·exact c
 ·have:=h.nn f h1;simp only;omega
 ·simp only;rw[hb];have:=h.used;omega
theorem fM.cut (h:fM room fs){k:Int}(h0:0<=k)(hk:k<((aO fs n).size:Int)):fM room (pQ fs (n,(aO fs n).extract 0 k.toNat,k) (-1)):=by
 have e:=extract_size (aO fs n) h0 (Int.le_of_lt hk);cases hf:fQ fs n with
 |none=>rw[eX,hf]at hk;simp[BS]at hk;omega
 |some f=>
  obtain⟨h1,h2⟩:=tJ hf;obtain⟨a,b,c⟩:=h.ok f h1;have hb:aO fs n=f.2.1:=by rw[eX,hf];rfl
  by_cases hz:k=0
  ·rw[Tg h.sort (by simp only;omega) (h.no (by omega))];exact h.del n
  ·rw[yY h.sort (by simp only;omega) (h.no (by omega))];refine h.put (by simp only;omega) ⟨h0,by simp only;omega,by simp only;rw[hb]at e hk ⊢;omega⟩ ?_ ?_
   ·have:=h.nn f h1;simp only;omega
   ·simp only;have:=h.used;omega
theorem XM (h:fM s.room fs)(h1:0<=s.one)(h2:0<=s.rest)(n:Int):fM s.room (bY s fs n).2.2:=by
 unfold bY;split
 ·exact h
 ·rename_i i hi;simp only;split
  ·rename_i ht;simp only;rw[(Fh ht).1,TR h.sort hi];obtain⟨f,-,hf,-⟩:=zA hi;have:=h.flush hf;have hb:aO fs n=f.2.1:=(by rw[eX,hf];rfl);rw[hb];exact this
  ·exact h.step h1 h2
abbrev FR:=Nat×Y×bC
variable {rs:List FR}
def FR.b (r:FR):Nat:=r.1
def FR.v (r:FR):Y:=r.2.1
def FR.f (r:FR):bC:=r.2.2
def FR.p (r:FR):Y:=U (M ⟨r.b,0,O⟩)
def tK (r:FR):Obj:=C #[I V r.f.1,r.v,I V r.f.2.2] 157 (0,0)
def gP (w:F)(r:FR):Prop:=w.heap[r.b]?=M (tK r)/\bI w 0 r.v r.f.2.1.data.toList
def mW (r s:FR):Prop:=r.b≠s.b/\∀g,r.v.ownBlock=M g->s.v.ownBlock≠M g
def jE (s:Sc)(fv:Y):Obj:=C #[I V s.room,fv,.bool s.refusing,I V s.left,.bool s.jL,I V s.after,I V s.one,I V s.rest] 137 (0,0)
def iA (w:F)(v:Y)(rs:List FR):Prop:=w.ownsRow 0 155 1 v rs.length (rs.map FR.p)
def aU (w:F)(db:Nat)(s:Sc)(fv:Y)(rs:List FR):Prop:=
 w.heap[db]?=M (jE s fv)/\iA w fv rs/\(∀r∈rs,gP w r)/\rs.Pairwise mW
def DX (db:Nat)(fv:Y)(rs:List FR)(b:Nat):Prop:=b=db\/fv.ownBlock=M b\/∃r∈rs,b=r.b\/r.v.ownBlock=M b
def plain (rs:List FR):List bC:=rs.map FR.f
theorem jU {r:FR}(h:rs[i]?=M r):(plain rs)[i]?=M r.f:=by simp[plain,h]
theorem bN (rs:List FR):(plain rs).length=rs.length:=by simp[plain]
theorem dJ {db:Nat}{fv:Y}(h:w.heap[db]?=M (jE s fv)):
 w.cell? ⟨db,0,O⟩=M (I V s.room)/\w.cell? ⟨db,1,O⟩=M fv/\w.cell? ⟨db,2,O⟩=M (.bool s.refusing)/\w.cell? ⟨db,3,O⟩=M (I V s.left)/\w.cell? ⟨db,4,O⟩=M (.bool s.jL)/\w.cell? ⟨db,5,O⟩=M (I V s.after)/\w.cell? ⟨db,6,O⟩=M (I V s.one)/\w.cell? ⟨db,7,O⟩=M (I V s.rest)/\∀j,w.frozen? ⟨db,j,O⟩=false:=by
 simp[World.cell?,World.frozen?,h,jE]
theorem gQ {r:FR}(h:w.heap[r.b]?=M (tK r)):
 w.cell? ⟨r.b,0,O⟩=M (I V r.f.1)/\w.cell? ⟨r.b,1,O⟩=M r.v/\w.cell? ⟨r.b,2,O⟩=M (I V r.f.2.2)/\∀j,w.frozen? ⟨r.b,j,O⟩=false:=by
 simp[World.cell?,World.frozen?,h,tK]
theorem iA.form {v:Y}(h:iA w v rs):
 ∃ao cap,v=Z ao rs.length cap/\rs.length<=cap/\cap<=maxLen/\(ao=O->rs=[]/\cap=0)/\(∀a,ao=M a->∃g aS,a=⟨g,0,O⟩/\w.heap[g]?=M (C aS 155 (0,0))/\aS.size=cap/\aS.toList.take rs.length=rs.map FR.p/\∀(i:Nat) (r:FR),rs[i]?=M r->w.cell? ⟨g,i,O⟩=M r.p):=by
 have hc:=fun g hg=>AcY (g:=g) h hg;obtain⟨-,h2⟩:=h;rcases h2 with⟨rfl,h3⟩|⟨g,cap,aS,rfl,hg,hh,iI,hm,hs,ht⟩
 ·exact⟨O,0,by rw[h3],by omega,by unfold maxLen;omega,fun _=>⟨Aax h3,rfl⟩,(fun _ e=>by cases e)⟩
 ·refine⟨M ⟨g,0,O⟩,cap,rfl,iI,hm,(fun e=>by cases e),(fun a e=>?_)⟩;cases e
  refine⟨g,aS,rfl,hh,by simpa using hs,by simpa using ht,fun i r hr=>?_⟩;have:=hc g rfl i r.p (by simp[hr]);cases i with
  |zero=>simpa[Addr.add]using this
  |succ i=>simpa[Addr.add]using this
def Am (a b:Int):Int:=if a<b then -1 else if b<a then 1 else 0
theorem GX:H K 253 #[I V a] w fun e w'=>e=G (.bool false)/\w'=w:=by
 go_enter func253,ntmps253;go_wp2_with fail;go_ret;exact⟨by simp,rfl⟩
theorem OW {b:Int}:H K 231 #[I V a,I V b] w fun e w'=>e=G (I V (Am a b))/\w'=w:=by
 have h1:=fun w=>GX (w:=w) (a:=a);have h2:=fun w=>GX (w:=w) (a:=b);rcases(by omega:a<b\/b<a\/a=b)with h|h|h
 ·have HE:Hid (Am a b= -1):=by show _=_;unfold Am;rw[Aad h]
  go_enter func231,ntmps231;go_wp2_with fail;refine(h1 w).mono ?_;rintro e w ⟨rfl,rfl⟩;go_wp2_with fail;refine(h2 w).mono ?_;rintro e w ⟨rfl,rfl⟩;go_wp2_with fail;go_ret;rw[HE.out];exact⟨rfl,rfl⟩
 ·have h':¬a<b:=by omega
  have HE:Hid (Am a b=1):=by show _=_;unfold Am;rw[Aaa h',Aad h]
  go_enter func231,ntmps231;go_wp2_with fail;refine(h1 w).mono ?_;rintro e w ⟨rfl,rfl⟩;go_wp2_with fail;refine(h2 w).mono ?_;rintro e w ⟨rfl,rfl⟩;go_wp2_with fail;go_ret;rw[HE.out];exact⟨rfl,rfl⟩
 ·subst h;have h':¬a<a:=by omega
  have HE:Hid (Am a a=0):=by show _=_;unfold Am;rw[Aaa h',Aaa h']
  go_enter func231,ntmps231;go_wp2_with fail;refine(h1 w).mono ?_;rintro e w ⟨rfl,rfl⟩;go_wp2_with fail;refine(h2 w).mono ?_;rintro e w ⟨rfl,rfl⟩;go_wp2_with fail;go_ret;rw[HE.out];exact⟨rfl,rfl⟩
theorem GY {b:Nat}(h:w.cell? ⟨b,0,O⟩=M (I V a)):H K 230 #[U (M ⟨b,0,O⟩),I V n] w fun e w'=>e=G (I V (Am a n))/\w'=w:=by
 go_enter func230,ntmps230;go_wp2_with fail;refine OW.mono ?_;rintro e w ⟨rfl,rfl⟩;go_wp2_with fail;go_ret;exact⟨rfl,rfl⟩
def eF:List bC->Int->Nat
 | [],_=>0
 |f::l,n=>if f.1<n then eF l n+1 else 0
theorem Kq:∀(l:List bC) (n:Int),eF l n<=l.length
 | [],_=>Aak _
 |f::l,n=>by
  unfold eF;split
  ·have:=Kq l n;simp;omega
  ·omega
theorem Nb (hs:l.Pairwise (fun a b=>a.1<b.1))(n:Int):(∀(i:Nat) (f:bC),l[i]?=M f->(i<eF l n↔f.1<n)):=by
 induction l with
 |nil=>intro i f h;simp at h
 |cons g l ih=>
  rw[AbE]at hs;intro i f h;unfold eF;cases i with
  |zero=>
   simp at h;subst h;split<;>simp_all
  |succ i=>
   have h':l[i]?=M f:=(by simpa using h);have hg:=hs.1 f (Aai h');have:=ih hs.2 i f h';split
   ·rw[<-this];omega
   ·constructor
    ·intro e;omega
    ·intro e;omega
def jV (l:List bC)(n:Int):Bool:=match l[eF l n]? with
 |some f=>f.1==n
 |none=>false
theorem GZ:Am a n<0↔a<n:=by
 unfold Am;split
 ·simp[*]
 ·split<;>simp<;>omega
theorem Yj:Am a n=0↔a=n:=by
 unfold Am;split
 ·constructor<;>intro h<;>omega
 ·split
  ·constructor<;>intro h<;>omega
  ·constructor<;>intro h<;>omega
theorem XO {g cap:Nat}(hc:∀(i:Nat) (r:FR),rs[i]?=M r->w.cell? ⟨g,i,O⟩=M r.p)(hf:∀r∈rs,w.cell? ⟨r.b,0,O⟩=M (I V r.f.1))(hs:(plain rs).Pairwise (fun a b=>a.1<b.1))(hl:rs.length<=1000000):
 H K 229 #[Z (M ⟨g,0,O⟩) rs.length cap,I V n,.func (.func 230) #[] #[]] w fun e w'=>e=G (.tuple #[I V (eF (plain rs) n:Nat),.bool (jV (plain rs) n)])/\w'=w:=by
 have HS:=Nb hs n;have HC:Hid (∀(i:Nat) (r:FR),rs[i]?=M r->w.cell? ⟨g,i,O⟩=M r.p):=hc;have HL:Hid (∀(i:Nat) (r:FR),rs[i]?=M r->(i<eF (plain rs) n↔r.f.1<n)):=fun i r h=>HS i r.f (jU h);have HF:Hid (∀r∈rs,w.cell? ⟨r.b,0,O⟩=M (I V r.f.1)):=hf;have hle:eF (plain rs) n<=rs.length:=by have:=Kq (plain rs) n;rwa[bN]at this
 have HH:Hid (∀r,rs[eF (plain rs) n]?=M r->jV (plain rs) n=(r.f.1==n)):=fun r h=>by unfold jV;rw[jU h]
 have HO:Hid (rs.length<=eF (plain rs) n->jV (plain rs) n=false):=fun h=>by unfold jV;rw[AcD (by rw[bN];exact h)]
 generalize jV (plain rs) n=hb at HH HO ⊢;generalize eF (plain rs) n=lo0 at HL HH HO hle ⊢;clear HS hc hf hs;go_enter func229,ntmps229;go_wp2_with fail
 go_loop [9,10] (fun s9 s10=> ∃lo hi:Nat,s9=I V (lo:Int)/\s10=I V (hi:Int)/\lo<=lo0/\lo0<=hi/\hi<=rs.length) (fun s9 s10=>(intOf s10).toNat-(intOf s9).toNat)
 case atStart=>exact⟨0,rs.length,rfl,rfl,Aap _,hle,Aak _⟩
 case round=>
  obtain⟨lo,hi,rfl,rfl,h1,h2,h3⟩:=hrel;by_cases bP:lo<hi
  ·have hm:(lo+hi) / 2<rs.length:=(by omega);obtain⟨r,hr⟩:∃r,rs[(lo+hi) / 2]?=M r:=⟨_,Aag hm⟩;have c1:=HC.out _ r hr;have c2:=HF.out r (Aai hr);have hk:=HL.out _ r hr;have fT:=GY (n:=n) c2;have i1:(0:Int)<=((lo:Int)+(hi:Int)) / 2:=(by omega);have i2:((lo:Int)+(hi:Int)) / 2<(rs.length:Int):=(by omega);have i3:(((lo:Int)+(hi:Int)) / 2).toNat=(lo+hi) / 2:=(by omega);unfold FR.p at c1;clear hr;by_cases hyx:r.f.1<n
   ·have hn:Am r.f.1 n<0:=GZ.2 hyx;have hk':=hk.2 hyx;clear hk;generalize Am r.f.1 n=z at hn fT;go_wp2_with (go_at_call 230;refine fT.mono ?_;rintro e w ⟨rfl,rfl⟩)
    go_round
    case measure=>simp[intOf];omega
    case rel=>exact⟨(lo+hi) / 2+1,hi,by go_num,rfl,by omega,h2,h3⟩
   ·have hn:¬Am r.f.1 n<0:=fun h=>hyx (GZ.1 h);have hk':¬(lo+hi) / 2<lo0:=fun h=>hyx (hk.1 h);clear hk;generalize Am r.f.1 n=z at hn fT;go_wp2_with (go_at_call 230;refine fT.mono ?_;rintro e w ⟨rfl,rfl⟩)
    go_round
    case measure=>simp[intOf];omega
    case rel=>exact⟨lo,(lo+hi) / 2,rfl,by go_num,h1,by omega,by omega⟩
  ·obtain rfl:lo=lo0:=by omega
   by_cases hn:lo<rs.length
   ·obtain⟨r,hr⟩:∃r,rs[lo]?=M r:=⟨_,Aag hn⟩;have c1:=HC.out _ r hr;have c2:=HF.out r (Aai hr);have fT:=GY (n:=n) c2;have i1:(0:Int)<=(lo:Int):=(by omega);have i2:(lo:Int)<(rs.length:Int):=by omega
    have HE:Hid (hb=(Am r.f.1 n==0)):=by
     show _=_;rw[HH.out r hr];by_cases h:r.f.1=n
     ·rw[Yj.2 h,h,beq_self_eq_true,beq_self_eq_true]
     ·have h':Am r.f.1 n≠0:=fun e=>h (Yj.1 e);rw[Aat.2 h,Aat.2 h']
    unfold FR.p at c1;clear hr;generalize Am r.f.1 n=z at HE fT;go_wp2_with (go_at_call 230;refine fT.mono ?_;rintro e w ⟨rfl,rfl⟩);go_ret2;rw[HE.out];exact⟨rfl,rfl⟩
   ·have HE:Hid (hb=false):=HO.out (by omega);go_wp2_with fail;go_ret2;rw[HE.out];exact⟨rfl,rfl⟩
end Go.Proofs.YtfplgfodoiiobaaGreatDoor
