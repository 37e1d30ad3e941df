/- JnA (joined). -/
import Derived.Test.YtfplgfodoiiobaaGreatDoorJ30
open Option renaming none→O,some→M
namespace Go.Proofs.YtfplgfodoiiobaaGreatDoor
open Go.RowKit
variable {size lo hi buf:Int}{l l':List UInt8}{st:Option (List UInt8)}{r:Sn}{depth:Nat}
theorem rA (lo hi:Int)(l:List UInt8):aP lo hi (M l)=if l.length<4 then (0,O)else if eP l<lo\/hi<eP l then (0,O)else (eP l,M (l.drop 4)):=rfl
theorem rC:((aP lo hi (M l)).2=O->(bM (l,false)).2.2=true\/(4<=l.length/\bM (l,false)=(eP l,(l.drop 4,false))/\(eP l<lo\/hi<eP l)))/\∀l',(aP lo hi (M l)).2=M l'->bM (l,false)=((aP lo hi (M l)).1,(l',false))/\lo<=(aP lo hi (M l)).1/\(aP lo hi (M l)).1<=hi:=by
 unfold aP bM;by_cases h1:l.length<4
 ·simp[h1]
 ·by_cases h2:eP l<lo\/hi<eP l
  ·simp[h1,h2];omega
  ·simp[h1,h2];omega
theorem jZ {p:Prop}[Decidable p](h:r.2=true):(gX p r).2=true:=by unfold gX;split<;>simp[h]
theorem zl:
 ((qC size l).2=O->(gX ((bM (bM (l,false)).2).1<1\/5000<(bM (bM (l,false)).2).1\/size<(bM (l,false)).1+(bM (bM (l,false)).2).1) (bM (bM (l,false)).2).2).2=true)/\
 ∀l',(qC size l).2=M l'->gX ((bM (bM (l,false)).2).1<1\/5000<(bM (bM (l,false)).2).1\/size<(bM (l,false)).1+(bM (bM (l,false)).2).1) (bM (bM (l,false)).2).2=(l',false)/\(qC size l).1=((bM (l,false)).1,(bM (bM (l,false)).2).1):=by
 have bX:=lJ l;have fG:=lJ (l.drop 4);by_cases h1:l.length<4
 ·have e:bM (l,false)=(0,(l,true)):=by unfold bM;rw[if_pos (Or.inr h1)]
  have e2:bM ((0:Int),((l,true):Sn)).2=(0,(l,true)):=zV rfl;have er:aP 0 size (M l)=(0,O):=by rw[rA,if_pos h1]
  refine⟨fun _=>?_,fun l' h=>?_⟩
  ·rw[e,e2];exact jZ rfl
  ·unfold qC at h;rw[er]at h;simp[aP,fV]at h
 ·have e:bM (l,false)=(eP l,(l.drop 4,false)):=by unfold bM;rw[if_neg (by simp;omega)]
  rw[e];simp only;by_cases h2:(l.drop 4).length<4
  ·have e2:bM (l.drop 4,false)=(0,(l.drop 4,true)):=by unfold bM;rw[if_pos (Or.inr h2)]
   rw[e2];refine⟨fun _=>jZ rfl,fun l' h=>?_⟩;exfalso;unfold qC at h;by_cases h3:eP l<0\/size<eP l
   ·have er:aP 0 size (M l)=(0,O):=by rw[rA,if_neg h1,if_pos h3]
    rw[er]at h;simp[aP,fV]at h
   ·have er:aP 0 size (M l)=(eP l,M (l.drop 4)):=by rw[rA,if_neg h1,if_neg h3]
    have er2:aP 1 5000 (M (l.drop 4))=(0,O):=by rw[rA,if_pos h2]
    rw[er]at h;simp only at h;rw[er2]at h;simp[fV]at h
  ·have e2:bM (l.drop 4,false)=(eP (l.drop 4),((l.drop 4).drop 4,false)):=by unfold bM;rw[if_neg (by simp only[Bool.false_eq_true,false_or];omega)]
   rw[e2];simp only;unfold qC;by_cases h3:eP l<0\/size<eP l
   ·have er:aP 0 size (M l)=(0,O):=by rw[rA,if_neg h1,if_pos h3]
    rw[er];refine⟨fun _=>?_,fun l' h=>?_⟩
    ·unfold gX;by_cases h5:eP (l.drop 4)<1
     ·rw[if_pos (Or.inl h5)]
     ·rw[if_pos (by omega)]
    ·simp[aP,fV]at h
   ·have er:aP 0 size (M l)=(eP l,M (l.drop 4)):=by rw[rA,if_neg h1,if_neg h3]
    rw[er];simp only;by_cases h4:eP (l.drop 4)<1\/5000<eP (l.drop 4)
    ·have er2:aP 1 5000 (M (l.drop 4))=(0,O):=by rw[rA,if_neg h2,if_pos h4]
     rw[er2];refine⟨fun _=>?_,fun l' h=>?_⟩
     ·unfold gX;rw[if_pos (by omega)]
     ·simp[fV]at h
    ·have er2:aP 1 5000 (M (l.drop 4))=(eP (l.drop 4),M ((l.drop 4).drop 4)):=by rw[rA,if_neg h2,if_neg h4]
     rw[er2];simp only;by_cases h6:eP l+eP (l.drop 4)<=size
     ·refine⟨fun h=>?_,fun l' h=>?_⟩
      ·simp[fV,h6]at h
      ·unfold gX;rw[if_neg (by omega)];simp only[fV,h6,decide_true,if_true,Option.some.injEq]at h;exact⟨by rw[h],by first|rfl|trivial⟩
     ·refine⟨fun h=>?_,fun l' h=>?_⟩
      ·unfold gX;rw[if_pos (by omega)]
      ·simp[fV,h6]at h
theorem NA (size:Int):∀(k:Nat) (out:List (Int×Int)) (l:List UInt8),(∀q,qW size k out l=M q->∃t,q.1=out++t/\sZ k size (l,false)=(t,(q.2,false)))/\(qW size k out l=O->(sZ k size (l,false)).2.2=true)
 |0,out,l=>⟨fun q h=>by simp[qW]at h;subst h;exact⟨[],by simp,rfl⟩,fun h=>by simp[qW]at h⟩
 |k+1,out,l=>by
  obtain⟨h1,h2⟩:=zl (size:=size) (l:=l);rw[qW];unfold sZ;rw[if_neg (by simp)];simp only;cases hs:(qC size l).2 with
  |none=>
   refine⟨fun q h=>by simp at h,fun _=>?_⟩;have:=h1 hs;rw[vI _ _ _ this];exact this
  |some l'=>
   obtain⟨e1,e2⟩:=h2 l' hs;rw[e1];obtain⟨i1,i2⟩:=NA size k (out++ [(qC size l).1]) l';simp only;refine⟨fun q h=>?_,fun h=>i2 h⟩;obtain⟨t,t1,t2⟩:=i1 q h;refine⟨(qC size l).1::t,by rw[t1];simp,?_⟩;rw[t2,e2]
theorem sP:(∀l',(aO size (M l)).2=M l'->eD size (l,false)=((aO size (M l)).1,(l',false)))/\((aO size (M l)).2=O->(eD size (l,false)).2.2=true):=by
 have hn:=rC (lo:=0) (hi:=4096) (l:=l);have hb:=lJ l;unfold aO eD;simp only;cases hs:(aP 0 4096 (M l)).2 with
 |none=>
  refine⟨fun l' h=>by simp at h,fun _=>?_⟩;rcases hn.1 hs with h|⟨-,h,h2⟩
  ·rw[vI _ _ _ (jZ h)];exact jZ (jZ h)
  ·rw[h];simp only;have XV:(gX (4096<eP l) ((l.drop 4,false):Sn)).2=true:=by unfold gX;rw[if_pos (by omega)]
   rw[vI _ _ _ XV];exact jZ XV
 |some l1=>
  obtain⟨e1,e2,e3⟩:=hn.2 l1 hs;rw[e1];simp only;generalize (aP 0 4096 (M l)).1=N at*;have hg:gX (4096<N) ((l1,false):Sn)=(l1,false):=by unfold gX;rw[if_neg (by omega)]
  rw[hg];obtain⟨i1,i2⟩:=NA size N.toNat [] l1;cases hr:qW size N.toNat [] l1 with
  |none=>
   refine⟨fun l' h=>by simp[Eu]at h,fun _=>jZ (i2 hr)⟩
  |some q=>
   obtain⟨t,t1,t2⟩:=i1 q hr;simp only[List.nil_append]at t1;rw[t2];simp only[Eu];subst t1;by_cases h5:sz q.1<=5000
   ·refine⟨fun l' h=>?_,fun h=>by simp[fV,h5]at h⟩;simp only[fV,h5,decide_true,if_true,Option.some.injEq]at h;unfold gX;rw[if_neg (by omega),h]
   ·refine⟨fun l' h=>by simp[fV,h5]at h,fun _=>?_⟩;unfold gX;rw[if_pos (by omega)]
theorem jN (h:r.2=true):(eD size r).2.2=true:=by
 unfold eD;rw[zV h];simp only;rw[vI _ _ _ (jZ rfl)];exact jZ (jZ rfl)
theorem kZ (h:r.2=true):(jL size r).2.2=true:=by
 unfold jL;rw[zV h];simp only;rw[pV _ _ _ (jZ rfl)];exact jZ rfl
theorem NC (size:Int):∀(k:Nat) (out:List Ed) (l:List UInt8),(∀q,tH size k out l=M q->∃t,q.1=out++t/\sD k size (l,false)=(t,(q.2,false))/\∀e∈t,0<=e.1)/\(tH size k out l=O->(sD k size (l,false)).2.2=true\/∃e∈(sD k size (l,false)).1,5000<e.1)
 |0,out,l=>⟨fun q h=>by simp[tH]at h;subst h;exact⟨[],by simp,rfl,by simp⟩,fun h=>by simp[tH]at h⟩
 |k+1,out,l=>by
  have hn:=rC (lo:=0) (hi:=5000) (l:=l);have hbd:=lJ l;rw[tH];unfold sD;rw[if_neg (by simp)];simp only;cases hs:(qX size l).2 with
  |none=>
   refine⟨fun q h=>by simp at h,fun _=>?_⟩;unfold qX at hs;simp only at hs;cases h1:(aP 0 5000 (M l)).2 with
   |none=>
    rcases hn.1 h1 with h|⟨-,h,h2⟩
    ·left;rw[pV _ _ _ (jN (jN h))];exact jN (jN h)
    ·right;rw[h];exact⟨_,List.mem_cons_self,by simp only;omega⟩
   |some l1=>
    obtain⟨e1,-⟩:=hn.2 l1 h1;rw[h1]at hs;rw[e1];simp only;obtain⟨p1,p2⟩:=sP (size:=size) (l:=l1);cases h2:(aO size (M l1)).2 with
    |none=>
     left;have:=p2 h2;rw[pV _ _ _ (jN this)];exact jN this
    |some l2=>
     rw[h2]at hs;rw[p1 l2 h2];simp only;obtain⟨-,q2⟩:=sP (size:=size) (l:=l2);left;have:=q2 hs;rw[pV _ _ _ this];exact this
  |some l3=>
   have UE:=hs;unfold qX at hs;simp only at hs;cases h1:(aP 0 5000 (M l)).2 with
   |none=>rw[h1]at hs;simp[aO,aP]at hs
   |some l1=>
    obtain⟨e1,e2,-⟩:=hn.2 l1 h1;rw[h1]at hs;obtain⟨p1,-⟩:=sP (size:=size) (l:=l1);cases h2:(aO size (M l1)).2 with
    |none=>rw[h2]at hs;simp[aO,aP]at hs
    |some l2=>
     rw[h2]at hs;obtain⟨q1,-⟩:=sP (size:=size) (l:=l2);rw[e1];simp only;rw[p1 l2 h2];simp only;rw[q1 l3 hs];simp only
     have wF:(qX size l).1=((aP 0 5000 (M l)).1,(aO size (M l1)).1,(aO size (M l2)).1):=by
      unfold qX;simp only;rw[h1,h2]
     obtain⟨i1,i2⟩:=NC size k (out++ [(qX size l).1]) l3;refine⟨fun q h=>?_,fun h=>?_⟩
     ·obtain⟨t,t1,t2,t3⟩:=i1 q h;refine⟨(qX size l).1::t,by rw[t1];simp,?_,?_⟩
      ·rw[t2,wF]
      ·intro e he;rcases List.mem_cons.1 he with rfl|he
       ·rw[wF];exact e2
       ·exact t3 e he
     ·rcases i2 h with h|⟨e,he,h⟩
      ·exact Or.inl h
      ·exact Or.inr ⟨e,List.mem_cons_of_mem _ he,h⟩
theorem Tq:(∀l',(aV size (M l)).2=M l'->jL size (l,false)=((aV size (M l)).1,(l',false))/\∀e∈(aV size (M l)).1,0<=e.1)/\((aV size (M l)).2=O->(jL size (l,false)).2.2=true\/∃e∈(jL size (l,false)).1,5000<e.1):=by
 have hn:=rC (lo:=0) (hi:=50) (l:=l);have hb:=lJ l;unfold aV jL;simp only;cases hs:(aP 0 50 (M l)).2 with
 |none=>
  refine⟨fun l' h=>by simp at h,fun _=>Or.inl ?_⟩;rcases hn.1 hs with h|⟨-,h,h2⟩
  ·rw[pV _ _ _ (jZ h)];exact jZ h
  ·rw[h];simp only;have XV:(gX (50<eP l) ((l.drop 4,false):Sn)).2=true:=by unfold gX;rw[if_pos (by omega)]
   rw[pV _ _ _ XV];exact XV
 |some l1=>
  obtain⟨e1,e2,e3⟩:=hn.2 l1 hs;rw[e1];simp only;generalize (aP 0 50 (M l)).1=N at*;have hg:gX (50<N) ((l1,false):Sn)=(l1,false):=by unfold gX;rw[if_neg (by omega)]
  rw[hg];obtain⟨i1,i2⟩:=NC size N.toNat [] l1;cases hr:tH size N.toNat [] l1 with
  |none=>exact⟨fun l' h=>by simp[Vj]at h,fun _=>i2 hr⟩
  |some q=>
   obtain⟨t,t1,t2,t3⟩:=i1 q hr;simp only[List.nil_append]at t1;rw[t2];simp only[Vj];subst t1;exact⟨fun l' h=>by simp only[Option.some.injEq]at h;rw[h];exact⟨rfl,t3⟩,fun h=>by simp at h⟩
theorem Vs:∀(l:List (Int×Int×Int)) (n:Int),n<=5000->(∀e∈l,0<=e.2.1)->(∃e∈l,5000<e.1)->oG l n=false
 | [],_,_,_,h=>by obtain⟨e,he,-⟩:=h;simp at he
 |(p,a,b)::l,n,hn,h0,h=>by
  unfold oG;by_cases h1:n<p+a
  ·rw[if_pos h1]
  ·rw[if_neg h1];by_cases h2:5000<n-a+b
   ·rw[if_pos h2]
   ·rw[if_neg h2];have ha:=h0 _ List.mem_cons_self;simp only at ha;refine Vs l _ (by omega) (fun e he=>h0 e (List.mem_cons_of_mem _ he)) ?_;obtain⟨e,he,h5⟩:=h;rcases List.mem_cons.1 he with rfl|he
    ·simp only at h5;omega
    ·exact⟨e,he,h5⟩
def Oj (buf:Int)(st:Option (List UInt8)):Option (Int×bR):=
 let e:=aP 1 999 st
 let d:=aP 0 1000000000 e.2
 let b:=aP 0 buf d.2
 let t:=aO b.1 b.2
 let u:=aV b.1 t.2
 let r:=aV b.1 u.2
 match fV (mM (sz t.1) r.1) (fV (mM (sz t.1) (u.1.map xW)) (fV (r.2==M []) r.2))with
 |none=>O
 |some _=>M (e.1,(t.1,u.1,r.1,d.1,b.1))
theorem rck_T (l:List UInt8)(buf:Int):uQ l buf=match gU l with
 |none=>O
 |some body=>Oj buf (qB 75 (M body)):=by
 unfold uQ Oj;cases gU l<;>rfl
theorem Ez (p:Bool):fV p O=O:=by unfold fV;split<;>rfl
theorem T_none (buf:Int):Oj buf O=O:=by
 unfold Oj;simp only[aP,aO,aV,Ez]
theorem qD (h:(aP lo hi (M l)).2=M l'):l'.length+4<=l.length:=by
 rw[rA]at h;split at h
 ·cases h
 ·split at h
  ·cases h
  ·simp only[Option.some.injEq]at h;subst h;rw[List.length_drop];omega
theorem Fa (h:(aP lo hi st).2=M l'):∃l,st=M l:=by
 cases st with
 |none=>simp[aP]at h
 |some l=>exact⟨l,rfl⟩
theorem BR:∀(k:Nat) (out:List (Int×Int)) (l:List UInt8) (q:List (Int×Int)×List UInt8),qW size k out l=M q->q.2.length<=l.length
 |0,out,l,q,h=>by simp[qW]at h;subst h;exact Nat.le_refl _
 |k+1,out,l,q,h=>by
  rw[qW]at h;cases hs:(qC size l).2 with
  |none=>rw[hs]at h;cases h
  |some l'=>
   rw[hs]at h;have h1:=BR k _ _ _ h;unfold qC fV at hs;simp only at hs;split at hs
   ·obtain⟨l1,e1⟩:=Fa hs;rw[e1]at hs;have h2:=qD hs;have h3:=qD e1;omega
   ·cases hs
theorem zD (h:(aO size st).2=M l'):∃l,st=M l/\l'.length+4<=l.length:=by
 unfold aO at h;split at h
 ·cases h
 ·rename_i l1 e1;obtain⟨l,rfl⟩:=Fa e1;refine⟨l,rfl,?_⟩;have h3:=qD e1;cases hr:qW size (aP 0 4096 (M l)).1.toNat [] l1 with
  |none=>rw[hr]at h;cases h
  |some q=>
   rw[hr]at h;simp only[Eu,fV]at h;split at h
   ·simp only[Option.some.injEq]at h;subst h;have:=BR _ _ _ _ hr;omega
   ·cases h
theorem BS:∀(k:Nat) (out:List Ed) (l:List UInt8) (q:List Ed×List UInt8),tH size k out l=M q->q.2.length<=l.length
 |0,out,l,q,h=>by simp[tH]at h;subst h;exact Nat.le_refl _
 |k+1,out,l,q,h=>by
  rw[tH]at h;cases hs:(qX size l).2 with
  |none=>rw[hs]at h;cases h
  |some l'=>
   rw[hs]at h;have h1:=BS k _ _ _ h;unfold qX at hs;simp only at hs;obtain⟨l2,e2,h2⟩:=zD hs;obtain⟨l3,e3,h3⟩:=zD e2;have h4:=qD e3;omega
theorem Ol (h:(aV size st).2=M l'):∃l,st=M l/\l'.length+4<=l.length:=by
 unfold aV at h;split at h
 ·cases h
 ·rename_i l1 e1;obtain⟨l,rfl⟩:=Fa e1;refine⟨l,rfl,?_⟩;have h3:=qD e1;cases hr:tH size (aP 0 50 (M l)).1.toNat [] l1 with
  |none=>rw[hr]at h;cases h
  |some q=>
   rw[hr]at h;simp only[Vj,Option.some.injEq]at h;subst h;have:=BS _ _ _ _ hr;omega
theorem JB (h:(aO size st).2=M l'):sz (aO size st).1<=5000:=by
 unfold aO at h ⊢;split at h
 ·cases h
 ·rename_i l1 e1;cases hr:qW size (aP 0 4096 st).1.toNat [] l1 with
  |none=>rw[hr]at h;cases h
  |some q=>
   rw[hr]at h;simp only[Eu,fV]at h ⊢;split at h
   ·rename_i h1;simpa using h1
   ·cases h
theorem zm (r:Sn):∀e∈(jL size r).1.map pU,0<=e.2.1:=by
 intro e he;obtain⟨e',Dw,rfl⟩:=List.mem_map.1 he;exact(XA ((Mh size r).1 e' Dw).2.2.1).1
theorem XW (r:Sn):∀e∈(jL size r).1.map lK,0<=e.2.1:=by
 intro e he;obtain⟨e',Dw,rfl⟩:=List.mem_map.1 he;exact(XA ((Mh size r).1 e' Dw).2.1.1).1
theorem T_eq:(Oj buf (M l)).map (fun q=>(q.1,Ju q.2 depth))=
 (let e:=bM (l,false)
  let d:=bM e.2
  let b:=bM d.2
  let t:=eD b.1 b.2
  let u:=jL b.1 t.2
  let r:=jL b.1 u.2
  if r.2.2=false/\r.2.1=[]/\1<=e.1/\e.1<=999/\d.1<=1000000000/\b.1<=buf/\oG (u.1.map pU) (sz t.1)=true/\oG (r.1.map lK) (sz t.1)=true then M (e.1,(t.1,u.1.take depth,r.1.take depth,d.1,b.1))else O):=by
 have key:∀x:Option (Int×bR),x=O->x.map (fun q=>(q.1,Ju q.2 depth))=O:=fun x h=>by rw[h];rfl
 simp only
 have stop:∀ {st:Option (List UInt8)},(aV (aP 0 buf (aP 0 1000000000 (aP 1 999 st).2).2).1 (aV (aP 0 buf (aP 0 1000000000 (aP 1 999 st).2).2).1 (aO (aP 0 buf (aP 0 1000000000 (aP 1 999 st).2).2).1 (aP 0 buf (aP 0 1000000000 (aP 1 999 st).2).2).2).2).2).2=O->Oj buf st=O:=fun {st} h=>by
  unfold Oj;simp only;rw[h,Ez,Ez,Ez]
 cases h1:(aP 1 999 (M l)).2 with
 |none=>
  rw[key _ (stop (by rw[h1];rfl))];rcases rC.1 h1 with h|⟨-,h,h2⟩
  ·have hb:(bM (bM (l,false)).2).2.2=true:=by rw[zV h]
   have fG:(bM (bM (bM (l,false)).2).2).2.2=true:=by rw[zV hb]
   rw[if_neg];rintro⟨k,-⟩;rw[kZ (kZ (jN fG))]at k;cases k
  ·rw[if_neg];rintro⟨-,-,k1,k2,-⟩;rw[h]at k1 k2;simp only at k1 k2;omega
 |some l1=>
  obtain⟨e1,e2,e3⟩:=rC.2 l1 h1;rw[e1];simp only;cases h2:(aP 0 1000000000 (M l1)).2 with
  |none=>
   rw[key _ (stop (by rw[h1,h2];rfl))];rcases rC.1 h2 with h|⟨-,h,h3⟩
   ·have fG:(bM (bM (l1,false)).2).2.2=true:=by rw[zV h]
    rw[if_neg];rintro⟨k,-⟩;rw[kZ (kZ (jN fG))]at k;cases k
   ·have:=lJ l1;rw[if_neg];rintro⟨-,-,-,-,k1,-⟩;rw[h]at k1;simp only at k1;omega
  |some l2=>
   obtain⟨d1,d2,d3⟩:=rC.2 l2 h2;rw[d1];simp only;cases h3:(aP 0 buf (M l2)).2 with
   |none=>
    rw[key _ (stop (by rw[h1,h2,h3];rfl))];rcases rC.1 h3 with h|⟨-,h,h4⟩
    ·rw[if_neg];rintro⟨k,-⟩;rw[kZ (kZ (jN h))]at k;cases k
    ·have:=lJ l2;rw[if_neg];rintro⟨-,-,-,-,-,k1,-⟩;rw[h]at k1;simp only at k1;omega
   |some l3=>
    obtain⟨b1,b2,b3⟩:=rC.2 l3 h3;rw[b1];simp only;obtain⟨p1,p2⟩:=sP (size:=(aP 0 buf (M l2)).1) (l:=l3);cases h4:(aO (aP 0 buf (M l2)).1 (M l3)).2 with
    |none=>
     rw[key _ (stop (by rw[h1,h2,h3,h4];rfl)),if_neg];rintro⟨k,-⟩;rw[kZ (kZ (p2 h4))]at k;cases k
    |some l4=>
     have iU:=JB h4;rw[p1 l4 h4];simp only;obtain⟨u1,u2⟩:=Tq (size:=(aP 0 buf (M l2)).1) (l:=l4);cases h5:(aV (aP 0 buf (M l2)).1 (M l4)).2 with
     |none=>
      rw[key _ (stop (by rw[h1,h2,h3,h4,h5];rfl)),if_neg];rintro⟨k,-,-,-,-,-,k2,-⟩;rcases u2 h5 with h|⟨e,he,h⟩
      ·rw[kZ h]at k;cases k
      ·rw[Vs _ _ iU (zm _) ⟨pU e,List.mem_map_of_mem he,h⟩]at k2;cases k2
     |some l5=>
      obtain⟨u3,u4⟩:=u1 l5 h5;rw[u3];simp only;obtain⟨r1,r2⟩:=Tq (size:=(aP 0 buf (M l2)).1) (l:=l5);cases h6:(aV (aP 0 buf (M l2)).1 (M l5)).2 with
      |none=>
       rw[key _ (stop (by rw[h1,h2,h3,h4,h5,h6])),if_neg];rintro⟨k,-,-,-,-,-,-,k2⟩;rcases r2 h6 with h|⟨e,he,h⟩
       ·rw[h]at k;cases k
       ·rw[Vs _ _ iU (XW _) ⟨lK e,List.mem_map_of_mem he,h⟩]at k2;cases k2
      |some l6=>
       obtain⟨r3,r4⟩:=r1 l6 h6;rw[r3];simp only;unfold Oj;simp only;rw[h1,h2,h3,h4,h5,h6]
       have f1:mM (sz (aO (aP 0 buf (M l2)).1 (M l3)).1) ((aV (aP 0 buf (M l2)).1 (M l4)).1.map xW)=oG ((aV (aP 0 buf (M l2)).1 (M l4)).1.map pU) (sz (aO (aP 0 buf (M l2)).1 (M l3)).1):=by
        rw[Kt (fun e he=>by obtain⟨e',Dw,rfl⟩:=List.mem_map.1 he;exact u4 e' Dw),List.map_map];rfl
       have f2:=Kt (n:=sz (aO (aP 0 buf (M l2)).1 (M l3)).1) r4;rw[f1,f2];generalize oG ((aV (aP 0 buf (M l2)).1 (M l4)).1.map pU) (sz (aO (aP 0 buf (M l2)).1 (M l3)).1)=F1;generalize oG ((aV (aP 0 buf (M l2)).1 (M l5)).1.map lK) (sz (aO (aP 0 buf (M l2)).1 (M l3)).1)=F2;cases F1 with
       |false=>rw[if_neg (by simp)];cases F2<;>rfl
       |true=>
        cases F2 with
        |false=>rw[if_neg (by simp)];rfl
        |true=>
         cases l6 with
         |nil=>rw[if_pos (by refine⟨?_,?_,e2,e3,d3,b3,?_,?_⟩<;>trivial)];rfl
         |cons x l6=>rw[if_neg (by simp)];rfl
theorem T_len {x:Int×bR}(h:Oj buf (M l)=M x):24<=l.length:=by
 unfold Oj at h;simp only at h;split at h
 ·cases h
 ·rename_i l0 h0;unfold fV at h0
  repeat' split at h0
  all_goals first|cases h0;done|skip
  obtain⟨l1,e1,k1⟩:=Ol h0;obtain⟨l2,e2,k2⟩:=Ol e1;obtain⟨l3,e3,k3⟩:=zD e2;obtain⟨l4,e4⟩:=Fa e3;obtain⟨l5,e5⟩:=Fa e4;rw[e4]at e3;rw[e5]at e4;have k4:=qD e3;have k5:=qD e4;have k6:=qD e5;omega
theorem XY {s:ByteArray}(hz:s.size≠0):lM s buf depth=(uQ s.data.toList buf).map (fun q=>(q.1,Ju q.2 depth)):=by
 have hs:s.size=s.data.toList.length:=by rw[Array.length_toList];rfl
 unfold lM;rw[if_neg hz,hs,rck_T];generalize s.data.toList=L;unfold gU;by_cases h1:L.length<29\/L.head?≠M 75
 ·rw[if_pos h1];by_cases h4:L.length<4
  ·rw[if_pos h4];rfl
  ·rw[if_neg h4];split
   ·rfl
   ·rename_i body hb;split at hb
    ·simp only[Option.some.injEq]at hb;subst hb;cases hl:qB 75 (M (L.take (L.length-4)))with
     |none=>rw[T_none];rfl
     |some l=>
      cases hr:Oj buf (M l)with
      |none=>rfl
      |some x=>
       exfalso;have hlen:=T_len hr
       have Xq:L.take (L.length-4)=75::l:=by
        cases hb:L.take (L.length-4)with
        |nil=>rw[hb]at hl;simp[qB]at hl
        |cons y l0=>
         rw[hb]at hl;unfold qB at hl;simp only at hl;split at hl
         ·rename_i hy;simp only[Option.some.injEq]at hl;rw[hy,hl]
         ·cases hl
       have hll:=congrArg List.length Xq;rw[List.length_take]at hll;simp only[List.length_cons]at hll;rcases h1 with h1|h1
       ·omega
       ·apply h1;cases L with
        |nil=>simp at Xq
        |cons y L=>
         obtain⟨n,hn⟩:∃n,(y::L).length-4=n+1:=⟨(y::L).length-4-1,by omega⟩;rw[hn]at Xq;simp only[List.take_succ_cons,List.cons.injEq]at Xq;simp[Xq.1]
    ·cases hb
 ·rw[if_neg h1];have h29:29<=L.length:=by omega
  have hh:L.head?=M 75:=by
   refine Classical.byContradiction fun e=>h1 (Or.inr e)
  rw[if_neg (show ¬L.length<4 by omega)];simp only
  have BJ:∃l,L.take (L.length-4)=75::l:=by
   cases L with
   |nil=>simp at h29
   |cons x l=>
    simp at hh;subst hh;refine⟨l.take (l.length+1-4-1),?_⟩;obtain⟨n,hn⟩:∃n,l.length+1-4=n+1:=⟨l.length+1-4-1,by simp at h29;omega⟩;simp only[List.length_cons];rw[hn];simp
  obtain⟨l,hl⟩:=BJ;by_cases hc:eP (L.drop (L.length-4))=jR (L.take (L.length-4))
  ·rw[if_pos hc];simp only;rw[hl];have e1:qB 75 (M (75::l))=M l:=by simp[qB]
   rw[e1,T_eq];simp only[List.drop_succ_cons,List.drop_zero];rw[hl]at hc;simp only[hc,true_and]
  ·rw[if_neg hc,if_neg (fun k=>hc k.1)];rfl
theorem Om (a b c d:UInt8):dQ ((a.toNat:Int)*16777216+(b.toNat:Int)*65536+(c.toNat:Int)*256+(d.toNat:Int))=[a,b,c,d]:=by
 have ha:=a.toNat_lt;have hb:=b.toNat_lt;have hc:=c.toNat_lt;have hd:=d.toNat_lt;have key:∀(x:UInt8) (n:Int),n=(x.toNat:Int)->UInt8.ofNat n.toNat=x:=fun x n e=>by rw[e,Int.toNat_natCast];exact UInt8.ofNat_toNat
 unfold dQ Gg;simp only[List.map_cons,List.map_nil];rw[key a _ (by omega),key b _ (by omega),key c _ (by omega),key d _ (by omega)]
theorem be_u32 {a b c d:UInt8}{n:Int}(h:bQ n):eP [a,b,c,d]=n↔[a,b,c,d]=dQ n:=by
 have e:eP [a,b,c,d]=(a.toNat:Int)*16777216+(b.toNat:Int)*65536+(c.toNat:Int)*256+(d.toNat:Int):=rfl;constructor
 ·intro k;rw[e]at k;rw[<-k,Om]
 ·intro k;rw[k];obtain⟨h0,h1⟩:=h
  have key:∀(x:Int),0<=x->x<256->((UInt8.ofNat x.toNat).toNat:Int)=x:=fun x k0 k1=>by
   rw[UInt8.toNat_ofNat'];omega
  unfold dQ Gg;simp only[List.map_cons,List.map_nil];show((UInt8.ofNat (n / 16777216).toNat).toNat:Int)*16777216+((UInt8.ofNat (n / 65536 % 256).toNat).toNat:Int)*65536+((UInt8.ofNat (n / 256 % 256).toNat).toNat:Int)*256+((UInt8.ofNat (n % 256).toNat).toNat:Int)=n;rw[key _ (by omega) (by omega),key _ (by omega) (by omega),key _ (by omega) (by omega),key _ (by omega) (by omega)];omega
theorem JC {t c:List UInt8}(hc:c.length=4):gU (t++c)=if eP c=jR t then M t else O:=by
 have hl:(t++c).length-4=t.length:=by rw[List.length_append,hc];omega
 unfold gU;rw[hl,List.take_left,List.drop_left,if_neg (by rw[List.length_append,hc];omega)]
theorem QW (cr:List UInt8->Int)(ql:∀l,bQ (cr l))(x0 x1 x2 x3 x4 x5 x6 x7 x8 x9 Vt Vu Vv Vw Rb Rc Rf Rh BU BV BX BZ:UInt8)(rest:List UInt8):
 (match (if eP [BU,BV,BX,BZ]=cr [x0,x1,x2,x3,x4,x5,x6,x7,x8,x9,Vt,Vu,Vv,Vw,Rb,Rc,Rf,Rh]then M [x0,x1,x2,x3,x4,x5,x6,x7,x8,x9,Vt,Vu,Vv,Vw,Rb,Rc,Rf,Rh]else O:Option (List UInt8))with
  |none=>O
  |some t=>if t.headD 0=74 then M (eP (t.drop 2),(((t.drop 1).headD 0).toNat:Int),eP (t.drop 6),eP (t.drop 10),eP (t.drop 14))else O)=
 if [x0,x1,x2,x3,x4,x5,x6,x7,x8,x9,Vt,Vu,Vv,Vw,Rb,Rc,Rf,Rh]++ [BU,BV,BX,BZ]=[74,x1,x2,x3,x4,x5,x6,x7,x8,x9,Vt,Vu,Vv,Vw,Rb,Rc,Rf,Rh]++dQ (cr [74,x1,x2,x3,x4,x5,x6,x7,x8,x9,Vt,Vu,Vv,Vw,Rb,Rc,Rf,Rh])then M (eP (x2::x3::x4::x5::x6::x7::x8::x9::Vt::Vu::Vv::Vw::Rb::Rc::Rf::Rh::BU::BV::BX::BZ::rest),(x1.toNat:Int),eP (x6::x7::x8::x9::Vt::Vu::Vv::Vw::Rb::Rc::Rf::Rh::BU::BV::BX::BZ::rest),eP (Vt::Vu::Vv::Vw::Rb::Rc::Rf::Rh::BU::BV::BX::BZ::rest),eP (Rb::Rc::Rf::Rh::BU::BV::BX::BZ::rest))else O:=by
 by_cases h0:x0=74
 ·subst h0;have hc:=be_u32 (a:=BU) (b:=BV) (c:=BX) (d:=BZ) (ql [74,x1,x2,x3,x4,x5,x6,x7,x8,x9,Vt,Vu,Vv,Vw,Rb,Rc,Rf,Rh]);by_cases h1:eP [BU,BV,BX,BZ]=cr [74,x1,x2,x3,x4,x5,x6,x7,x8,x9,Vt,Vu,Vv,Vw,Rb,Rc,Rf,Rh]
  ·rw[if_pos h1,<-hc.1 h1,if_pos rfl];simp only[List.headD_cons,if_true];rfl
  ·rw[if_neg h1,if_neg];intro k;exact h1 (hc.2 (List.append_cancel_left k))
 ·rw[if_neg (c:=_++_=_++_)]
  ·by_cases h1:eP [BU,BV,BX,BZ]=cr [x0,x1,x2,x3,x4,x5,x6,x7,x8,x9,Vt,Vu,Vv,Vw,Rb,Rc,Rf,Rh]
   ·rw[if_pos h1];simp only[List.headD_cons];exact if_neg h0
   ·rw[if_neg h1]
  ·intro k;exact h0 (List.cons.inj k).1
theorem XZ (l:List UInt8)(h:22<=l.length):iP l=if l.take 22=(fU (((l.drop 1).headD 0).toNat:Int) (eP (l.drop 2)) (eP (l.drop 6)) (eP (l.drop 10)) (eP (l.drop 14))).data.toList then M (eP (l.drop 2),(((l.drop 1).headD 0).toNat:Int),eP (l.drop 6),eP (l.drop 10),eP (l.drop 14))else O:=by
 obtain⟨x0,l,rfl⟩:=List.exists_cons_of_length_pos (l:=l) (by omega);simp only[List.length_cons]at h;obtain⟨x1,l,rfl⟩:=List.exists_cons_of_length_pos (l:=l) (by omega);simp only[List.length_cons]at h;obtain⟨x2,l,rfl⟩:=List.exists_cons_of_length_pos (l:=l) (by omega);simp only[List.length_cons]at h;obtain⟨x3,l,rfl⟩:=List.exists_cons_of_length_pos (l:=l) (by omega);simp only[List.length_cons]at h;obtain⟨x4,l,rfl⟩:=List.exists_cons_of_length_pos (l:=l) (by omega);simp only[List.length_cons]at h;obtain⟨x5,l,rfl⟩:=List.exists_cons_of_length_pos (l:=l) (by omega);simp only[List.length_cons]at h;obtain⟨x6,l,rfl⟩:=List.exists_cons_of_length_pos (l:=l) (by omega);simp only[List.length_cons]at h;obtain⟨x7,l,rfl⟩:=List.exists_cons_of_length_pos (l:=l) (by omega);simp only[List.length_cons]at h;obtain⟨x8,l,rfl⟩:=List.exists_cons_of_length_pos (l:=l) (by omega);simp only[List.length_cons]at h;obtain⟨x9,l,rfl⟩:=List.exists_cons_of_length_pos (l:=l) (by omega);simp only[List.length_cons]at h;obtain⟨Vt,l,rfl⟩:=List.exists_cons_of_length_pos (l:=l) (by omega);simp only[List.length_cons]at h;obtain⟨Vu,l,rfl⟩:=List.exists_cons_of_length_pos (l:=l) (by omega);simp only[List.length_cons]at h;obtain⟨Vv,l,rfl⟩:=List.exists_cons_of_length_pos (l:=l) (by omega);simp only[List.length_cons]at h;obtain⟨Vw,l,rfl⟩:=List.exists_cons_of_length_pos (l:=l) (by omega);simp only[List.length_cons]at h;obtain⟨Rb,l,rfl⟩:=List.exists_cons_of_length_pos (l:=l) (by omega);simp only[List.length_cons]at h;obtain⟨Rc,l,rfl⟩:=List.exists_cons_of_length_pos (l:=l) (by omega);simp only[List.length_cons]at h;obtain⟨Rf,l,rfl⟩:=List.exists_cons_of_length_pos (l:=l) (by omega);simp only[List.length_cons]at h;obtain⟨Rh,l,rfl⟩:=List.exists_cons_of_length_pos (l:=l) (by omega);simp only[List.length_cons]at h;obtain⟨BU,l,rfl⟩:=List.exists_cons_of_length_pos (l:=l) (by omega);simp only[List.length_cons]at h;obtain⟨BV,l,rfl⟩:=List.exists_cons_of_length_pos (l:=l) (by omega);simp only[List.length_cons]at h;obtain⟨BX,l,rfl⟩:=List.exists_cons_of_length_pos (l:=l) (by omega);simp only[List.length_cons]at h;obtain⟨BZ,l,rfl⟩:=List.exists_cons_of_length_pos (l:=l) (by omega);simp only[List.length_cons]at h;generalize l=rest at*;have hb:∀(a b c d:UInt8) (l:List UInt8),eP (a::b::c::d::l)=(a.toNat:Int)*16777216+(b.toNat:Int)*65536+(c.toNat:Int)*256+(d.toNat:Int):=fun _ _ _ _ _=>rfl
 have ht:(x0::x1::x2::x3::x4::x5::x6::x7::x8::x9::Vt::Vu::Vv::Vw::Rb::Rc::Rf::Rh::BU::BV::BX::BZ::rest).take 22=[x0,x1,x2,x3,x4,x5,x6,x7,x8,x9,Vt,Vu,Vv,Vw,Rb,Rc,Rf,Rh]++ [BU,BV,BX,BZ]:=rfl;unfold iP;rw[if_neg (by simp only[List.length_cons];omega),ht,JC rfl];simp only[List.drop_succ_cons,List.drop_zero,List.headD_cons];rw[Nf];have hq:UInt8.ofNat ((x1.toNat:Int)).toNat=x1:=by rw[Int.toNat_natCast];exact UInt8.ofNat_toNat
 have hrec:Qr (x1.toNat:Int) (eP (x2::x3::x4::x5::x6::x7::x8::x9::Vt::Vu::Vv::Vw::Rb::Rc::Rf::Rh::BU::BV::BX::BZ::rest)) (eP (x6::x7::x8::x9::Vt::Vu::Vv::Vw::Rb::Rc::Rf::Rh::BU::BV::BX::BZ::rest)) (eP (Vt::Vu::Vv::Vw::Rb::Rc::Rf::Rh::BU::BV::BX::BZ::rest)) (eP (Rb::Rc::Rf::Rh::BU::BV::BX::BZ::rest))=[74,x1,x2,x3,x4,x5,x6,x7,x8,x9,Vt,Vu,Vv,Vw,Rb,Rc,Rf,Rh]:=by
  unfold Qr;rw[hb,hb,hb,hb,Om,Om,Om,Om,hq];rfl
 rw[hrec];exact QW jR Gh x0 x1 x2 x3 x4 x5 x6 x7 x8 x9 Vt Vu Vv Vw Rb Rc Rf Rh BU BV BX BZ rest
theorem Vx {m:bR}{q a b c most:Int}(hk:(q=73/\b=m.2.2.2.2)\/(q=68/\c=0)\/((q=85\/q=82)/\a=0/\b=0/\c=0)):mJ m q a b c most=(gQ m q a b c most depth).2:=by
 unfold mJ gQ;rcases hk with⟨rfl,rfl⟩|⟨rfl,rfl⟩|⟨rfl|rfl,rfl,rfl,rfl⟩
 ·rw[if_pos rfl,if_pos rfl];unfold AL sW oH;by_cases h1:a<0\/sz m.1<a
  ·rw[if_pos h1,if_pos (by simp;omega)]
  ·rw[if_neg h1,if_neg (by simp;omega)];split
   ·rfl
   ·split
    ·rfl
    ·rw[if_neg (by simp)];split<;>rfl
 ·rw[if_neg (by decide),if_pos rfl,if_neg (by decide),if_pos rfl];unfold Vb yA oH;by_cases h1:a<0\/b<1\/sz m.1<a\/sz m.1-a<b
  ·rw[if_pos h1,if_pos (by simp;omega)]
  ·rw[if_neg h1,if_neg (by simp;omega),if_neg (by simp)];split<;>rfl
 ·rw[if_neg (by decide),if_neg (by decide),if_pos rfl,if_neg (by decide),if_neg (by decide),if_pos rfl];unfold Qu pK yC;cases m.2.1 with
  |nil=>rfl
  |cons e l=>
   simp only;rw[if_neg (by simp)];split<;>rfl
 ·rw[if_neg (by decide),if_neg (by decide),if_neg (by decide),if_pos rfl,if_neg (by decide),if_neg (by decide),if_neg (by decide)];unfold Qv pO yC;cases m.2.2.1 with
  |nil=>rfl
  |cons e l=>
   simp only;rw[if_neg (by simp)];split<;>rfl
theorem rec_eq (m:bR)(l:List UInt8)(buf:Int)(depth:Nat):vU m l buf depth=oM m l buf depth:=by
 unfold vU oM;by_cases h:l.length<22
 ·rw[if_pos h];have:iP l=O:=by unfold iP;rw[if_pos h]
  rw[this]
 ·rw[if_neg h,XZ l (by omega)];simp only;generalize (((l.drop 1).headD 0).toNat:Int)=q;generalize eP (l.drop 6)=a;generalize eP (l.drop 10)=b;generalize eP (l.drop 14)=c;by_cases hd:eP (l.drop 2)=m.2.2.2.1+1
  ·rw[hd];by_cases hr:l.take 22=(fU q (m.2.2.2.1+1) a b c).data.toList
   ·rw[if_pos hr];simp only[ne_eq,not_true_eq_false,if_false,hr,true_and];by_cases hm:mJ m q a b c 5000=0
    ·have hk:(q=73/\b=m.2.2.2.2)\/(q=68/\c=0)\/((q=85\/q=82)/\a=0/\b=0/\c=0):=by
      have MS:=hm;unfold mJ at MS;split at MS
      ·rename_i e;obtain⟨k,-⟩:=Kq (depth:=depth) MS;exact Or.inl ⟨e,k.2.2.2.2.2.1⟩
      ·split at MS
       ·rename_i e;obtain⟨k,-⟩:=Kr (depth:=depth) MS;exact Or.inr (Or.inl ⟨e,k.2.2.2.1⟩)
       ·split at MS
        ·rename_i e;obtain⟨_,_,_,k,-⟩:=Er (depth:=depth) MS;exact Or.inr (Or.inr ⟨Or.inl e,k⟩)
        ·split at MS
         ·rename_i e;obtain⟨_,_,_,k,-⟩:=Es (depth:=depth) MS;exact Or.inr (Or.inr ⟨Or.inr e,k⟩)
         ·omega
     have hc:=Vx (most:=5000) (depth:=depth) hk;rw[hm]at hc;rw[if_neg (by simp[hm]),<-hc];by_cases hb:q=73/\buf<m.2.2.2.2+c
     ·rw[if_pos hb,if_neg];rintro⟨ho,-⟩;unfold tX at ho;obtain⟨rfl,hb⟩:=hb;simp at ho;omega
     ·rw[if_neg hb,if_pos];refine⟨?_,rfl⟩;unfold tX;rcases hk with⟨rfl,rfl⟩|⟨rfl,rfl⟩|⟨rfl|rfl,rfl,rfl,rfl⟩
      ·simp;omega
      ·simp
      ·simp
      ·simp
    ·rw[if_pos hm,if_neg];rintro⟨ho,hc⟩;apply hm;rw[Vx (depth:=depth) ?_,hc];unfold tX at ho;simp only[Bool.or_eq_true,Bool.and_eq_true,beq_iff_eq,decide_eq_true_eq]at ho;rcases ho with(⟨⟨h1,h2⟩,-⟩|⟨h1,h2⟩)|⟨⟨⟨h1,h2⟩,h3⟩,h4⟩
     ·exact Or.inl ⟨h1,h2⟩
     ·exact Or.inr (Or.inl ⟨h1,h2⟩)
     ·exact Or.inr (Or.inr ⟨h1,h2,h3,h4⟩)
   ·rw[if_neg hr,if_neg (fun k=>hr k.1)]
  ·refine Eq.trans ?_ (if_neg (fun k=>hd k.2.1)).symm;by_cases hr:l.take 22=(fU q (eP (l.drop 2)) a b c).data.toList
   ·rw[if_pos hr];simp only;rw[if_pos hd]
   ·rw[if_neg hr]
theorem YA (buf:Int)(depth:Nat):∀(k:Nat) (m:bR) (l:List UInt8),vV buf depth k m l=nP buf depth k m l
 |0,m,l=>rfl
 |k+1,m,l=>by
  unfold vV nP;rw[rec_eq];cases oM m l buf depth with
  |none=>rfl
  |some m'=>simp only[YA buf depth k]
end Go.Proofs.YtfplgfodoiiobaaGreatDoor
