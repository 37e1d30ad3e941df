/- RefP (joined). -/
import Derived.Test.YtfplgfodoiiobaaGreatDoorJ05
open Option renaming none→O,some→M
namespace Go.Proofs.YtfplgfodoiiobaaGreatDoor
open Go.RowKit
variable {l fs A B:List bE}{f:bE}{n room one rest but:Int}{s:Sc}{i:Nat}
def pQ (l:List bE):Prop:=l.Pairwise (fun a b=>a.1<b.1)/\∀f∈l,f.2.1.size≠0
theorem Iw (h:∀g∈l,g.1<f.1):uJ l f=l++ [f]:=by
 unfold uJ;cases e:l.reverse with
 |nil=>simp at e;subst e;rfl
 |cons g r=>
  have hg:g.1<f.1:=h g (by rw[<-List.mem_reverse,e];simp);have:¬f.1<g.1:=by omega
  simp only[qP,this,if_false];have e2:l=(g::r).reverse:=by rw[<-e];simp
  rw[e2];simp
theorem Gi (l:List bE)(f:bE):Bp (l++ [f])=if f.2.1.size=0 then Bp l else uJ (Bp l) f:=by
 unfold Bp;rw[List.foldl_append];rfl
theorem tO:∀ {l:List bE},l.Pairwise (fun a b=>a.1<b.1)->Bp l=l.filter (fun f=>f.2.1.size !=0):=by
 intro l
 suffices aB:∀(n:Nat) (l:List bE),l.length=n->l.Pairwise (fun a b=>a.1<b.1)->Bp l=l.filter (fun f=>f.2.1.size !=0) from aB _ l rfl
 intro n
 induction n with
 |zero=>intro l hl _;have:=List.eq_nil_of_length_eq_zero hl;subst this;rfl
 |succ n ih=>
  intro l hl hp;rcases List.eq_nil_or_concat l with rfl|⟨l',f,rfl⟩
  ·simp at hl
  ·rw[List.concat_eq_append]at hl hp ⊢;rw[Gi,List.filter_append];have hp':=List.pairwise_append.1 hp;rw[ih l' (by simpa using hl) hp'.1];by_cases hz:f.2.1.size=0
   ·simp[hz]
   ·rw[if_neg hz,Iw]
    ·simp[hz]
    ·intro g hg;exact hp'.2.2 g (List.mem_filter.1 hg).1 f (by simp)
def iN:List bE->bE->List bE
 | [],f=> [f]
 |g::r,f=>if f.1<g.1 then f::g::r else if g.1=f.1 then f::r else g::iN r f
def gK (l:List bE)(n:Int):List bE:=l.filter (fun g=>g.1 !=n)
theorem Yo (h:∀g∈l,f.1<g.1)(r:List bE):qP (l++r) f=l++qP r f:=by
 induction l with
 |nil=>rfl
 |cons g l ih=>
  have h1:=h g (by simp);simp only[List.cons_append,qP,h1,if_true];rw[ih (fun x hx=>h x (by simp[hx]))]
theorem rM (h:∀g∈l,g.1≠n):gK l n=l:=by
 unfold gK;rw[List.filter_eq_self];intro g hg;simpa using h g hg
theorem oL (h:l.Pairwise (fun a b=>a.1<b.1))(n:Int):∃A B:List bE,(∀g∈A,g.1<n)/\(∀g∈B,n<g.1)/\(l=A++B\/∃f:bE,f.1=n/\l=A++f::B):=by
 induction l with
 |nil=>exact⟨[],[],by simp,by simp,Or.inl rfl⟩
 |cons g l ih=>
  rw[List.pairwise_cons]at h;by_cases h1:g.1<n
  ·obtain⟨A,B,a,b,c⟩:=ih h.2;refine⟨g::A,B,?_,b,?_⟩
   ·intro x hx;simp only[List.mem_cons]at hx;rcases hx with rfl|hx
    ·exact h1
    ·exact a x hx
   ·rcases c with rfl|⟨f,e,rfl⟩
    ·left;rfl
    ·right;exact⟨f,e,rfl⟩
  ·by_cases h2:g.1=n
   ·exact⟨[],l,by simp,fun x hx=>by have:=h.1 x hx;omega,Or.inr ⟨g,h2,rfl⟩⟩
   ·exact⟨[],g::l,by simp,fun x hx=>by
     simp only[List.mem_cons]at hx;rcases hx with rfl|hx
     ·omega
     ·have:=h.1 x hx;omega,Or.inl rfl⟩
theorem iO (A B:List bE)(n:Int):gK (A++B) n=gK A n++gK B n:=by simp[gK]
theorem rZ (ha:∀g∈A,g.1<f.1)(hb:∀g∈B,f.1<g.1):iN (A++B) f=A++f::B:=by
 induction A with
 |nil=>
  cases B with
  |nil=>rfl
  |cons g B=>have:=hb g (by simp);simp[iN,this]
 |cons g A ih=>
  have h1:=ha g (by simp);have h2:¬f.1<g.1:=by omega
  have h3:¬g.1=f.1:=by omega
  simp only[List.cons_append,iN,h2,h3,if_false];rw[ih (fun x hx=>ha x (by simp[hx]))]
theorem mY {g:bE}(ha:∀g∈A,g.1<f.1)(hg:g.1=f.1):iN (A++g::B) f=A++f::B:=by
 induction A with
 |nil=>simp[iN,hg]
 |cons g A ih=>
  have h1:=ha g (by simp);have h2:¬f.1<g.1:=by omega
  have h3:¬g.1=f.1:=by omega
  simp only[List.cons_append,iN,h2,h3,if_false];rw[ih (fun x hx=>ha x (by simp[hx]))]
theorem Dq (ha:∀g∈A,g.1<f.1)(hb:∀g∈B,f.1<g.1):uJ (A++B) f=A++f::B:=by
 have e:uJ A f=A++ [f]:=Iw ha;unfold uJ at*;rw[List.reverse_append,Yo (fun g hg=>hb g (by simpa using hg)),List.reverse_append,e];simp
theorem vF (h:pQ l)(hf:f.2.1.size≠0)(hb:∀g∈l,g.1≠but):Ma l f but=iN l f:=by
 have e0:l.filter (Yn f.1 but)=gK l f.1:=by
  unfold gK;refine List.filter_congr (fun g hg=>?_);have:=hb g hg;simp[Yn,this]
 unfold Ma;rw[e0,Gi,if_neg hf];have hp:(gK l f.1).Pairwise (fun a b=>a.1<b.1):=h.1.sublist List.filter_sublist
 have h2:Bp (gK l f.1)=gK l f.1:=by
  rw[tO hp,List.filter_eq_self];intro g hg;have:=h.2 g (List.mem_filter.1 hg).1;simpa using this
 rw[h2];obtain⟨A,B,ha,fG,c⟩:=oL h.1 f.1;have dA:gK A f.1=A:=rM (fun g hg=>by have:=ha g hg;omega);have dB:gK B f.1=B:=rM (fun g hg=>by have:=fG g hg;omega);rcases c with rfl|⟨g,e,rfl⟩
 ·rw[iO,dA,dB,Dq ha fG,rZ ha fG]
 ·have:gK (A++g::B) f.1=A++B:=by
   rw[iO,dA,show g::B=[g]++B from rfl,iO,dB];simp[gK,e]
  rw[this,Dq ha fG,mY ha e]
theorem Mc (h:pQ l)(hf:f.2.1.size=0)(hb:∀g∈l,g.1≠but):Ma l f but=gK l f.1:=by
 have e0:l.filter (Yn f.1 but)=gK l f.1:=by
  unfold gK;refine List.filter_congr (fun g hg=>?_);have:=hb g hg;simp[Yn,this]
 unfold Ma;rw[e0,Gi,if_pos hf];have hp:(gK l f.1).Pairwise (fun a b=>a.1<b.1):=h.1.sublist List.filter_sublist;rw[tO hp,List.filter_eq_self];intro g hg;have:=h.2 g (List.mem_filter.1 hg).1;simpa using this
theorem Gj (h:pQ l)(n:Int):pQ (gK l n):=⟨h.1.sublist List.filter_sublist,fun f hf=>h.2 f (List.mem_filter.1 hf).1⟩
theorem OL (h:pQ l)(hf:f.2.1.size≠0):pQ (iN l f):=by
 obtain⟨A,B,ha,hb,c⟩:=oL h.1 f.1
 have key:∀g:List bE,(A++f::g=A++f::B)->(∀x∈A++B,x∈l)->A.Pairwise (fun a b=>a.1<b.1)->B.Pairwise (fun a b=>a.1<b.1)->pQ (A++f::B):=by
  intro _ _ hm pA pB;refine⟨?_,?_⟩
  ·rw[List.pairwise_append,List.pairwise_cons];refine⟨pA,⟨hb,pB⟩,fun x hx y hy=>?_⟩;have h1:=ha x hx;simp only[List.mem_cons]at hy;rcases hy with rfl|hy
   ·exact h1
   ·have:=hb y hy;omega
  ·intro x hx;simp only[List.mem_append,List.mem_cons]at hx;rcases hx with hx|rfl|hx
   ·exact h.2 x (hm x (by simp[hx]))
   ·exact hf
   ·exact h.2 x (hm x (by simp[hx]))
 rcases c with rfl|⟨g,e,rfl⟩
 ·rw[rZ ha hb];have:=List.pairwise_append.1 h.1;exact key B rfl (fun x hx=>hx) this.1 this.2.1
 ·rw[mY ha e];have:=List.pairwise_append.1 h.1;exact key B rfl (fun x hx=>by simp at hx ⊢;rcases hx with hx|hx<;>simp[hx]) this.1 (List.pairwise_cons.1 this.2.1).2
def dG:List bE->Int
 | []=>0
 |f::r=>(f.2.1.size:Int)+dG r
theorem qQ (a b:List bE):dG (a++b)=dG a+dG b:=by
 induction a with
 |nil=>simp[dG]
 |cons f a ih=>simp only[List.cons_append,dG,ih];omega
theorem Md {k:Nat}(h:l[k]?=M f):dG (l.take (k+1))=dG (l.take k)+(f.2.1.size:Int):=by
 have bS:=(List.getElem?_eq_some_iff.1 h).1;rw[List.take_succ_eq_append_getElem bS,qQ,(List.getElem?_eq_some_iff.1 h).2];simp[dG]
theorem Me (l:List bE):0<=dG l:=by
 induction l with
 |nil=>simp[dG]
 |cons f l ih=>simp only[dG];omega
theorem Dr (l:List bE)(p:bE->Bool):dG (l.filter p)<=dG l:=by
 induction l with
 |nil=>simp
 |cons f l ih=>rw[List.filter_cons];split<;>simp only[dG]<;>omega
theorem Rv (h:f∈l):(f.2.1.size:Int)<=dG l:=by
 induction l with
 |nil=>simp at h
 |cons g l ih=>
  simp only[List.mem_cons]at h;have:=Me l;rcases h with rfl|h
  ·simp only[dG];omega
  ·have:=ih h;simp only[dG];omega
structure eO (room:Int)(fs:List bE):Prop where
 sort:pQ fs
 ok:∀f∈fs,okF f
 nn:∀f∈fs,0<=f.1/\f.1<=9223372036854775807
 used:dG fs<=room
theorem om (h1:0<=one)(h2:0<=rest)(h:okF f):0<=vC one rest f/\vC one rest f<=(f.2.1.size:Int):=by
 obtain⟨a,b,c⟩:=h;unfold vC;by_cases e:f.1=1
 ·simp only[e,if_true];split<;>omega
 ·simp only[e,if_false];split<;>omega
theorem extract_size (b:ByteArray)(h0:0<=n)(h1:n<=(b.size:Int)):((b.extract 0 n.toNat).size:Int)=n:=by
 rw[ByteArray.size_extract];omega
theorem Yp (h1:0<=one)(h2:0<=rest)(h:okF f):okF (jK one rest f)/\(jK one rest f).2.1.size<=f.2.1.size:=by
 obtain⟨a,b⟩:=om h1 h2 h;have e:=extract_size f.2.1 a b;obtain⟨c1,c2,c3⟩:=h;unfold jK okF;simp only;omega
theorem eO.sub (h:eO room fs)(p:bE->Bool):eO room (fs.filter p):=
 ⟨⟨h.sort.1.sublist List.filter_sublist,fun f hf=>h.sort.2 f (List.mem_filter.1 hf).1⟩,fun f hf=>h.ok f (List.mem_filter.1 hf).1,fun f hf=>h.nn f (List.mem_filter.1 hf).1,Int.le_trans (Dr _ _) h.used⟩
theorem OM {g:bE->bE}(h:∀f∈l,(g f).2.1.size<=f.2.1.size):dG (l.map g)<=dG l:=by
 induction l with
 |nil=>simp
 |cons f l ih=>
  have h1:=h f (by simp);have h2:=ih (fun x hx=>h x (by simp[hx]));simp only[List.map_cons,dG];omega
theorem Rw (h:eO room fs):Bp (fs.map (jK one rest))=(fs.map (jK one rest)).filter (fun f=>f.2.1.size !=0):=
 tO (by rw[List.pairwise_map];exact h.sort.1.imp (fun hab=>hab))
theorem eO.P_ (h:eO room fs)(h1:0<=one)(h2:0<=rest):eO room (Bp (fs.map (jK one rest))):=by
 rw[Rw h];refine⟨⟨?_,fun f hf=>by simpa using(List.mem_filter.1 hf).2⟩,fun f hf=>?_,fun f hf=>?_,?_⟩
 ·refine List.Pairwise.sublist List.filter_sublist ?_;rw[List.pairwise_map];exact h.sort.1.imp (fun hab=>hab)
 ·obtain⟨g,hg,rfl⟩:=List.mem_map.1 (List.mem_filter.1 hf).1;exact(Yp h1 h2 (h.ok g hg)).1
 ·obtain⟨g,hg,rfl⟩:=List.mem_map.1 (List.mem_filter.1 hf).1;exact h.nn g hg
 ·exact Int.le_trans (Dr _ _) (Int.le_trans (OM (fun f hf=>(Yp h1 h2 (h.ok f hf)).2)) h.used)
theorem eO.step (h:eO s.room fs)(h1:0<=s.one)(h2:0<=s.rest):eO s.room (dF s fs).2.2:=by
 unfold dF;split
 ·exact h
 ·split
  ·exact h
  ·exact h.P_ h1 h2
def eF (l:List bE)(n:Int):Option bE:=l.find? (fun f=>f.1==n)
theorem Dt (l:List bE)(n:Int):(wG l n).bind (fun i=>l[i]?)=eF l n:=by
 unfold wG eF
 induction l with
 |nil=>rfl
 |cons f l ih=>
  rw[List.findIdx?_cons,List.find?_cons];cases hf:(f.1==n)with
  |true=>simp
  |false=>
   simp only[Bool.false_eq_true,if_false];rw[<-ih];cases List.findIdx? (fun f=>f.1==n) l<;>simp
theorem Mf (h:wG l n=M i):i<l.length:=by
 unfold wG at h;rw[List.findIdx?_eq_some_iff_getElem]at h;exact h.1
theorem UK (l:List bE)(n:Int):wG l n=O↔eF l n=O:=by
 rw[<-Dt];cases h:wG l n with
 |none=>simp
 |some i=>have:=Mf h;simp[List.getElem?_eq_getElem this]
theorem Du (h:wG l n=M i):∃f,l[i]?=M f/\eF l n=M f/\f.1=n:=by
 have hl:=Mf h;refine⟨l[i],List.getElem?_eq_getElem hl,?_,?_⟩
 ·rw[<-Dt,h];simp[hl]
 ·unfold wG at h;rw[List.findIdx?_eq_some_iff_getElem]at h;obtain⟨_,h2,_⟩:=h;simpa using h2
theorem dO (l:List bE)(n:Int):aN l n=((eF l n).map (fun f=>f.2.1)).getD ⟨#[]⟩:=by
 unfold aN;cases h:wG l n with
 |none=>rw[(UK l n).1 h];rfl
 |some i=>obtain⟨f,h1,h2,-⟩:=Du h;simp[h1,h2]
theorem pR (h:eF l n=M f):f∈l/\f.1=n:=by
 unfold eF at h;exact⟨List.mem_of_find?_eq_some h,by simpa using List.find?_some h⟩
def lU (l:List bE)(n:Int)(b:ByteArray):bE:=match eF l n with
 |some f=>(n,f.2.1++b,f.2.2)
 |none=>(n,b,0)
def dR (s:Sc)(fs:List bE)(n:Int)(b:ByteArray):Int×Sc×List bE:=
 if s.refusing=true/\s.left=0 then (9,{ s with refusing:=false,ro:=true },fs)
 else if s.room<dG fs+(b.size:Int)then (9,{ s with ro:=true },fs)
 else
  let s1:=if s.refusing then { s with left:=s.left-1 } else s
  let r:=dF s1 fs
  if r.1 then (0,r.2.1,Ma r.2.2 (lU r.2.2 n b) (-1))else (10,r.2.1,r.2.2)
def bV (s:Sc)(fs:List bE)(n:Int):Bool×Sc×List bE:=match wG fs n with
 |none=>(true,s,fs)
 |some i=>let r:=dF s fs;if r.1 then (true,r.2.1,r.2.2.set i (n,aN r.2.2 n,(aN r.2.2 n).size))else r
def bW (s:Sc)(fs:List bE)(n k:Int):Bool×Sc×List bE:=
 if ((aN fs n).size:Int)<=k then (true,s,fs)
 else let r:=dF s fs;if r.1 then (true,r.2.1,Ma r.2.2 (n,(aN fs n).extract 0 k.toNat,k) (-1))else r
theorem kG (A B:List bE)(n:Int):eF (A++B) n=(eF A n).or (eF B n):=by unfold eF;rw[List.find?_append]
theorem vG (h:∀g∈l,g.1≠n):eF l n=O:=by
 unfold eF;rw[List.find?_eq_none];intro g hg;simpa using h g hg
theorem vH (f:bE)(l:List bE)(n:Int):eF (f::l) n=if f.1=n then M f else eF l n:=by
 unfold eF;rw[List.find?_cons];by_cases h:f.1=n
 ·simp[h]
 ·rw[if_neg h];have:(f.1==n)=false:=by simpa using h
  rw[this]
theorem UL (h:pQ l)(f:bE)(n:Int):eF (iN l f) n=if f.1=n then M f else eF l n:=by
 obtain⟨A,B,ha,hb,c⟩:=oL h.1 f.1
 have key:eF (A++f::B) n=if f.1=n then M f else eF (A++B) n:=by
  rw[kG,vH,kG];by_cases e:f.1=n
  ·rw[if_pos e,if_pos e,vG (fun g hg=>by have:=ha g hg;omega)];rfl
  ·rw[if_neg e,if_neg e]
 rcases c with rfl|⟨g,e,rfl⟩
 ·rw[rZ ha hb];exact key
 ·rw[mY ha e,key,kG,kG,vH];by_cases e2:f.1=n
  ·rw[if_pos e2,if_pos e2]
  ·rw[if_neg e2,if_neg e2,if_neg (by omega)]
theorem UM (l:List bE)(k n:Int):eF (gK l k) n=if n=k then O else eF l n:=by
 induction l with
 |nil=>simp[gK,eF]
 |cons f l ih=>
  unfold gK at*;rw[List.filter_cons];by_cases e:f.1=k
  ·have:(f.1 !=k)=false:=by simp[e]
   rw[this];simp only[Bool.false_eq_true,if_false];rw[ih,vH];by_cases e2:n=k
   ·rw[if_pos e2,if_pos e2]
   ·rw[if_neg e2,if_neg e2,if_neg (by omega)]
  ·have:(f.1 !=k)=true:=by simp[e]
   rw[this];simp only[if_true];rw[vH,ih,vH];by_cases e2:n=k
   ·rw[if_pos e2,if_pos e2,if_neg (by omega)]
   ·rw[if_neg e2,if_neg e2]
theorem Um:(⟨#[]⟩:ByteArray).size=0:=rfl
theorem yQ (h:pQ l)(n:Int):dG (gK l n)=dG l-((aN l n).size:Int):=by
 rw[dO];obtain⟨A,B,ha,hb,c⟩:=oL h.1 n;have dA:gK A n=A:=rM (fun g hg=>by have:=ha g hg;omega);have dB:gK B n=B:=rM (fun g hg=>by have:=hb g hg;omega);have fA:eF A n=O:=vG (fun g hg=>by have:=ha g hg;omega);have fB:eF B n=O:=vG (fun g hg=>by have:=hb g hg;omega);rcases c with rfl|⟨g,e,rfl⟩
 ·rw[iO,dA,dB,kG,fA,fB];simp[Um]
 ·rw[iO,dA,show g::B=[g]++B from rfl,iO,dB,kG,kG,fA,fB];have:gK [g] n=[]:=by simp[gK,e]
  have f2:eF [g] n=M g:=by simp[eF,e]
  rw[this,f2];simp only[qQ,dG,Option.none_or,Option.or_none,Option.map_some,Option.getD_some,List.nil_append];omega
theorem Yq (h:pQ l)(f:bE):dG (iN l f)=dG l-((aN l f.1).size:Int)+(f.2.1.size:Int):=by
 have hd:=yQ h f.1;rw[<-hd];obtain⟨A,B,ha,hb,c⟩:=oL h.1 f.1;have dA:gK A f.1=A:=rM (fun g hg=>by have:=ha g hg;omega);have dB:gK B f.1=B:=rM (fun g hg=>by have:=hb g hg;omega);rcases c with rfl|⟨g,e,rfl⟩
 ·rw[rZ ha hb,iO,dA,dB];simp only[qQ,dG];omega
 ·rw[mY ha e,iO,dA,show g::B=[g]++B from rfl,iO,dB];have:gK [g] f.1=[]:=by simp[gK,e]
  rw[this];simp only[qQ,dG,List.nil_append];omega
theorem tQ {g:bE}(h:g∈iN l f):g=f\/g∈l:=by
 induction l with
 |nil=>simp[iN]at h;exact Or.inl h
 |cons x l ih=>
  unfold iN at h;split at h
  ·simp only[List.mem_cons]at h ⊢;exact h
  ·split at h
   ·simp only[List.mem_cons]at h ⊢;rcases h with h|h
    ·exact Or.inl h
    ·exact Or.inr (Or.inr h)
   ·simp only[List.mem_cons]at h ⊢;rcases h with h|h
    ·exact Or.inr (Or.inl h)
    ·rcases ih h with h|h
     ·exact Or.inl h
     ·exact Or.inr (Or.inr h)
theorem eO.put (h:eO room fs)(hz:f.2.1.size≠0)(kV:okF f)(hn:0<=f.1/\f.1<=9223372036854775807)(hu:dG fs-((aN fs f.1).size:Int)+(f.2.1.size:Int)<=room):eO room (iN fs f):=
 ⟨OL h.sort hz,fun g hg=>(tQ hg).elim (fun e=>by rw[e];exact kV) (h.ok g),fun g hg=>(tQ hg).elim (fun e=>by rw[e];exact hn) (h.nn g),by rw[Yq h.sort];exact hu⟩
theorem eO.del (h:eO room fs)(n:Int):eO room (gK fs n):=h.sub _
theorem eO.no (h:eO room fs)(hb:but<0):∀g∈fs,g.1≠but:=fun g hg=>by have:=(h.nn g hg).1;omega
theorem gM (a b:ByteArray):(a++b).size=a.size+b.size:=by simp
theorem Rx (h:eO room fs)(n:Int)(b:ByteArray):(lU fs n b).1=n/\(lU fs n b).2.1=aN fs n++b/\0<=(lU fs n b).2.2/\(lU fs n b).2.2<=((aN fs n).size:Int):=by
 rw[dO];unfold lU;cases e:eF fs n with
 |none=>exact⟨rfl,by simp[ByteArray.ext_iff],by simp,by simp⟩
 |some f=>
  obtain⟨a,b,c⟩:=h.ok f (pR e).1;exact⟨rfl,rfl,a,b⟩
theorem eO.app (h:eO room fs)(hr:room<=1000000)(hn:0<=n/\n<=9223372036854775807){b:ByteArray}(hb:b.size≠0)(hu:dG fs+(b.size:Int)<=room):eO room (iN fs (lU fs n b))/\Ma fs (lU fs n b) (-1)=iN fs (lU fs n b):=by
 obtain⟨e1,e2,e3,e4⟩:=Rx h n b;have hs:(lU fs n b).2.1.size=(aN fs n).size+b.size:=by rw[e2,gM]
 have hm:((aN fs n).size:Int)<=dG fs:=by
  rw[dO];cases e:eF fs n with
  |none=>simp[Um,Me]
  |some f=>exact Rv (pR e).1
 refine⟨h.put (by omega) ⟨e3,by omega,by omega⟩ (by rw[e1];exact hn) (by rw[e1];omega),?_⟩;exact vF h.sort (by omega) (h.no (by omega))
theorem Bq (s:Sc)(fs:List bE):(s.iH=false/\dF s fs=(true,s,fs))\/(s.iH=true/\0<s.after/\dF s fs=(true,{ s with after:=s.after-1 },fs))
 \/(s.iH=true/\¬0<s.after/\dF s fs=(false,{ s with iH:=false,aX:=false },Bp (fs.map (jK s.one s.rest)))):=by
 unfold dF;by_cases h1:s.iH=false
 ·rw[if_pos h1];exact Or.inl ⟨h1,rfl⟩
 ·rw[if_neg h1];by_cases h2:0<s.after
  ·rw[if_pos h2];exact Or.inr (Or.inl ⟨by simpa using h1,h2,rfl⟩)
  ·rw[if_neg h2];exact Or.inr (Or.inr ⟨by simpa using h1,h2,rfl⟩)
theorem zU (h:(dF s fs).1=true):(dF s fs).2.2=fs/\((dF s fs).2.1=s\/(0<s.after/\(dF s fs).2.1= { s with after:=s.after-1 })):=by
 rcases Bq s fs with⟨_,e⟩|⟨_,h2,e⟩|⟨_,_,e⟩
 ·rw[e];exact⟨rfl,Or.inl rfl⟩
 ·rw[e];exact⟨rfl,Or.inr ⟨h2,rfl⟩⟩
 ·rw[e]at h;cases h
theorem oo (h:pQ l)(hi:wG l n=M i)(b:ByteArray)(k:Int):l.set i (n,b,k)=iN l (n,b,k):=by
 obtain⟨f,h1,-,h3⟩:=Du hi;obtain⟨A,B,ha,hb,c⟩:=oL h.1 n;have hm:f∈l:=List.mem_of_getElem? h1;rcases c with rfl|⟨g,e,rfl⟩
 ·exfalso;simp only[List.mem_append]at hm;rcases hm with hm|hm
  ·have:=ha f hm;omega
  ·have:=hb f hm;omega
 ·have hiA:i=A.length:=by
   unfold wG at hi;rw[List.findIdx?_append]at hi
   have:List.findIdx? (fun f=>f.1==n) A=O:=by
    rw[List.findIdx?_eq_none_iff];intro x hx;have:=ha x hx;have h2:¬x.1=n:=by omega
    simpa using h2
   rw[this]at hi;have h2:(g.1==n)=true:=by simp[e]
   rw[List.findIdx?_cons,h2]at hi;simp at hi;omega
  subst hiA;rw[mY (f:=(n,b,k)) ha e,List.set_append_right _ _ (Nat.le_refl _)];simp
theorem eO.flush (h:eO room fs)(hf:eF fs n=M f):eO room (iN fs (n,f.2.1,(f.2.1.size:Int))):=by
 obtain⟨h1,h2⟩:=pR hf;obtain⟨a,b,c⟩:=h.ok f h1;have hb:aN fs n=f.2.1:=by rw[dO,hf];rfl
 refine h.put (h.sort.2 f h1) ⟨?_,?_,?_⟩ ?_ ?_
 ·simp only;omega
 ·exact Int.le_refl _
 ·exact c
 ·have:=h.nn f h1;simp only;omega
 ·simp only;rw[hb];have:=h.used;omega
theorem eO.cut (h:eO room fs){k:Int}(h0:0<=k)(hk:k<((aN fs n).size:Int)):eO room (Ma fs (n,(aN fs n).extract 0 k.toNat,k) (-1)):=by
 have e:=extract_size (aN fs n) h0 (Int.le_of_lt hk);cases hf:eF fs n with
 |none=>rw[dO,hf]at hk;simp[Um]at hk;omega
 |some f=>
  obtain⟨h1,h2⟩:=pR hf;obtain⟨a,b,c⟩:=h.ok f h1;have hb:aN fs n=f.2.1:=by rw[dO,hf];rfl
  by_cases hz:k=0
  ·rw[Mc h.sort (by simp only;omega) (h.no (by omega))];exact h.del n
  ·rw[vF h.sort (by simp only;omega) (h.no (by omega))];refine h.put (by simp only;omega) ⟨h0,by simp only;omega,by simp only;rw[hb]at e hk ⊢;omega⟩ ?_ ?_
   ·have:=h.nn f h1;simp only;omega
   ·simp only;have:=h.used;omega
theorem OO (h:eO s.room fs)(h1:0<=s.one)(h2:0<=s.rest)(n:Int):eO s.room (bV s fs n).2.2:=by
 unfold bV;split
 ·exact h
 ·rename_i i hi;simp only;split
  ·rename_i ht;simp only;rw[(zU ht).1,oo h.sort hi];obtain⟨f,-,hf,-⟩:=Du hi;have:=h.flush hf;have hb:aN fs n=f.2.1:=by rw[dO,hf];rfl
   rw[hb];exact this
  ·exact h.step h1 h2
end Go.Proofs.YtfplgfodoiiobaaGreatDoor
