/- JnA (joined). -/
import Derived.Test.YtfplgfodoiiobaaGreatDoorJ25
open Option renaming none→O,some→M
namespace Go.Proofs.YtfplgfodoiiobaaGreatDoor
open Go.RowKit
variable {size lo hi buf:Int}{l l':List UInt8}{st:Option (List UInt8)}{r:Sn}{depth:Nat}
theorem sI (lo hi:Int)(l:List UInt8):aO lo hi (M l)=if l.length<4 then (0,O)else if fC l<lo\/hi<fC l then (0,O)else (fC l,M (l.drop 4)):=rfl
theorem sJ:((aO lo hi (M l)).2=O->(dX (l,false)).2.2=true\/(4<=l.length/\dX (l,false)=(fC l,(l.drop 4,false))/\(fC l<lo\/hi<fC l)))/\∀l',(aO lo hi (M l)).2=M l'->dX (l,false)=((aO lo hi (M l)).1,(l',false))/\lo<=(aO lo hi (M l)).1/\(aO lo hi (M l)).1<=hi:=by
 unfold aO dX;by_cases h1:l.length<4
 ·simp[h1]
 ·by_cases h2:fC l<lo\/hi<fC l
  ·simp[h1,h2];omega
  ·simp[h1,h2];omega
theorem kZ {p:Prop}[Decidable p](h:r.2=true):(iZ p r).2=true:=by unfold iZ;split<;>simp[h]
theorem rpc_sim:
 ((qX size l).2=O->(iZ ((dX (dX (l,false)).2).1<1\/5000<(dX (dX (l,false)).2).1\/size<(dX (l,false)).1+(dX (dX (l,false)).2).1) (dX (dX (l,false)).2).2).2=true)/\
 ∀l',(qX size l).2=M l'->iZ ((dX (dX (l,false)).2).1<1\/5000<(dX (dX (l,false)).2).1\/size<(dX (l,false)).1+(dX (dX (l,false)).2).1) (dX (dX (l,false)).2).2=(l',false)/\(qX size l).1=((dX (l,false)).1,(dX (dX (l,false)).2).1):=by
 have bX:=mJ l;have fP:=mJ (l.drop 4);by_cases h1:l.length<4
 ·have e:dX (l,false)=(0,(l,true)):=by unfold dX;rw[if_pos (Or.inr h1)]
  have e2:dX ((0:Int),((l,true):Sn)).2=(0,(l,true)):=Ap rfl;have er:aO 0 size (M l)=(0,O):=by rw[sI,if_pos h1]
  refine⟨fun _=>?_,fun l' h=>?_⟩
  ·rw[e,e2];exact kZ rfl
  ·unfold qX at h;rw[er]at h;simp[aO,gB]at h
 ·have e:dX (l,false)=(fC l,(l.drop 4,false)):=by unfold dX;rw[if_neg (by simp;omega)]
  rw[e];simp only;by_cases h2:(l.drop 4).length<4
  ·have e2:dX (l.drop 4,false)=(0,(l.drop 4,true)):=by unfold dX;rw[if_pos (Or.inr h2)]
   rw[e2];refine⟨fun _=>kZ rfl,fun l' h=>?_⟩;exfalso;unfold qX at h;by_cases h3:fC l<0\/size<fC l
   ·have er:aO 0 size (M l)=(0,O):=by rw[sI,if_neg h1,if_pos h3]
    rw[er]at h;simp[aO,gB]at h
   ·have er:aO 0 size (M l)=(fC l,M (l.drop 4)):=by rw[sI,if_neg h1,if_neg h3]
    have er2:aO 1 5000 (M (l.drop 4))=(0,O):=by rw[sI,if_pos h2]
    rw[er]at h;simp only at h;rw[er2]at h;simp[gB]at h
  ·have e2:dX (l.drop 4,false)=(fC (l.drop 4),((l.drop 4).drop 4,false)):=by unfold dX;rw[if_neg (by simp only[Bool.false_eq_true,false_or];omega)]
   rw[e2];simp only;unfold qX;by_cases h3:fC l<0\/size<fC l
   ·have er:aO 0 size (M l)=(0,O):=by rw[sI,if_neg h1,if_pos h3]
    rw[er];refine⟨fun _=>?_,fun l' h=>?_⟩
    ·unfold iZ;by_cases h5:fC (l.drop 4)<1
     ·rw[if_pos (Or.inl h5)]
     ·rw[if_pos (by omega)]
    ·simp[aO,gB]at h
   ·have er:aO 0 size (M l)=(fC l,M (l.drop 4)):=by rw[sI,if_neg h1,if_neg h3]
    rw[er];simp only;by_cases h4:fC (l.drop 4)<1\/5000<fC (l.drop 4)
    ·have er2:aO 1 5000 (M (l.drop 4))=(0,O):=by rw[sI,if_neg h2,if_pos h4]
     rw[er2];refine⟨fun _=>?_,fun l' h=>?_⟩
     ·unfold iZ;rw[if_pos (by omega)]
     ·simp[gB]at h
    ·have er2:aO 1 5000 (M (l.drop 4))=(fC (l.drop 4),M ((l.drop 4).drop 4)):=by rw[sI,if_neg h2,if_neg h4]
     rw[er2];simp only;by_cases h6:fC l+fC (l.drop 4)<=size
     ·refine⟨fun h=>?_,fun l' h=>?_⟩
      ·simp[gB,h6]at h
      ·unfold iZ;rw[if_neg (by omega)];simp only[gB,h6,decide_true,if_true,Option.some.injEq]at h;exact⟨by rw[h],by first|rfl|trivial⟩
     ·refine⟨fun h=>?_,fun l' h=>?_⟩
      ·unfold iZ;rw[if_pos (by omega)]
      ·simp[gB,h6]at h
theorem UM (size:Int):∀(k:Nat) (out:List (Int×Int)) (l:List UInt8),(∀q,sD size k out l=M q->∃t,q.1=out++t/\Iw k size (l,false)=(t,(q.2,false)))/\(sD size k out l=O->(Iw k size (l,false)).2.2=true)
 |0,out,l=>⟨fun q h=>by simp[sD]at h;subst h;exact⟨[],by simp,rfl⟩,fun h=>by simp[sD]at h⟩
 |k+1,out,l=>by
  obtain⟨h1,h2⟩:=rpc_sim (size:=size) (l:=l);rw[sD];unfold Iw;rw[if_neg (by simp)];simp only;cases hs:(qX size l).2 with
  |none=>
   refine⟨fun q h=>by simp at h,fun _=>?_⟩;have:=h1 hs;rw[zK _ _ _ this];exact this
  |some l'=>
   obtain⟨e1,e2⟩:=h2 l' hs;rw[e1];obtain⟨i1,i2⟩:=UM size k (out++ [(qX size l).1]) l';simp only;refine⟨fun q h=>?_,fun h=>i2 h⟩;obtain⟨t,t1,t2⟩:=i1 q h;refine⟨(qX size l).1::t,by rw[t1];simp,?_⟩;rw[t2,e2]
theorem uP:(∀l',(aN size (M l)).2=M l'->jA size (l,false)=((aN size (M l)).1,(l',false)))/\((aN size (M l)).2=O->(jA size (l,false)).2.2=true):=by
 have hn:=sJ (lo:=0) (hi:=4096) (l:=l);have hb:=mJ l;unfold aN jA;simp only;cases hs:(aO 0 4096 (M l)).2 with
 |none=>
  refine⟨fun l' h=>by simp at h,fun _=>?_⟩;rcases hn.1 hs with h|⟨-,h,h2⟩
  ·rw[zK _ _ _ (kZ h)];exact kZ (kZ h)
  ·rw[h];simp only;have xk:(iZ (4096<fC l) ((l.drop 4,false):Sn)).2=true:=by unfold iZ;rw[if_pos (by omega)]
   rw[zK _ _ _ xk];exact kZ xk
 |some l1=>
  obtain⟨e1,e2,e3⟩:=hn.2 l1 hs;rw[e1];simp only;generalize (aO 0 4096 (M l)).1=N at*;have hg:iZ (4096<N) ((l1,false):Sn)=(l1,false):=by unfold iZ;rw[if_neg (by omega)]
  rw[hg];obtain⟨i1,i2⟩:=UM size N.toNat [] l1;cases hr:sD size N.toNat [] l1 with
  |none=>
   refine⟨fun l' h=>by simp[Gq]at h,fun _=>kZ (i2 hr)⟩
  |some q=>
   obtain⟨t,t1,t2⟩:=i1 q hr;simp only[List.nil_append]at t1;rw[t2];simp only[Gq];subst t1;by_cases h5:sz q.1<=5000
   ·refine⟨fun l' h=>?_,fun h=>by simp[gB,h5]at h⟩;simp only[gB,h5,decide_true,if_true,Option.some.injEq]at h;unfold iZ;rw[if_neg (by omega),h]
   ·refine⟨fun l' h=>by simp[gB,h5]at h,fun _=>?_⟩;unfold iZ;rw[if_pos (by omega)]
theorem jY (h:r.2=true):(jA size r).2.2=true:=by
 unfold jA;rw[Ap h];simp only;rw[zK _ _ _ (kZ rfl)];exact kZ (kZ rfl)
theorem mD (h:r.2=true):(jX size r).2.2=true:=by
 unfold jX;rw[Ap h];simp only;rw[tZ _ _ _ (kZ rfl)];exact kZ rfl
theorem UN (size:Int):∀(k:Nat) (out:List Ed) (l:List UInt8),(∀q,uZ size k out l=M q->∃t,q.1=out++t/\Fj k size (l,false)=(t,(q.2,false))/\∀e∈t,0<=e.1)/\(uZ size k out l=O->(Fj k size (l,false)).2.2=true\/∃e∈(Fj k size (l,false)).1,5000<e.1)
 |0,out,l=>⟨fun q h=>by simp[uZ]at h;subst h;exact⟨[],by simp,rfl,by simp⟩,fun h=>by simp[uZ]at h⟩
 |k+1,out,l=>by
  have hn:=sJ (lo:=0) (hi:=5000) (l:=l);have hbd:=mJ l;rw[uZ];unfold Fj;rw[if_neg (by simp)];simp only;cases hs:(sF size l).2 with
  |none=>
   refine⟨fun q h=>by simp at h,fun _=>?_⟩;unfold sF at hs;simp only at hs;cases h1:(aO 0 5000 (M l)).2 with
   |none=>
    rcases hn.1 h1 with h|⟨-,h,h2⟩
    ·left;rw[tZ _ _ _ (jY (jY h))];exact jY (jY h)
    ·right;rw[h];exact⟨_,List.mem_cons_self,by simp only;omega⟩
   |some l1=>
    obtain⟨e1,-⟩:=hn.2 l1 h1;rw[h1]at hs;rw[e1];simp only;obtain⟨p1,p2⟩:=uP (size:=size) (l:=l1);cases h2:(aN size (M l1)).2 with
    |none=>
     left;have:=p2 h2;rw[tZ _ _ _ (jY this)];exact jY this
    |some l2=>
     rw[h2]at hs;rw[p1 l2 h2];simp only;obtain⟨-,q2⟩:=uP (size:=size) (l:=l2);left;have:=q2 hs;rw[tZ _ _ _ this];exact this
  |some l3=>
   have hs':=hs;unfold sF at hs;simp only at hs;cases h1:(aO 0 5000 (M l)).2 with
   |none=>rw[h1]at hs;simp[aN,aO]at hs
   |some l1=>
    obtain⟨e1,e2,-⟩:=hn.2 l1 h1;rw[h1]at hs;obtain⟨p1,-⟩:=uP (size:=size) (l:=l1);cases h2:(aN size (M l1)).2 with
    |none=>rw[h2]at hs;simp[aN,aO]at hs
    |some l2=>
     rw[h2]at hs;obtain⟨q1,-⟩:=uP (size:=size) (l:=l2);rw[e1];simp only;rw[p1 l2 h2];simp only;rw[q1 l3 hs];simp only
     have yK:(sF size l).1=((aO 0 5000 (M l)).1,(aN size (M l1)).1,(aN size (M l2)).1):=by
      unfold sF;simp only;rw[h1,h2]
     obtain⟨i1,i2⟩:=UN size k (out++ [(sF size l).1]) l3;refine⟨fun q h=>?_,fun h=>?_⟩
     ·obtain⟨t,t1,t2,t3⟩:=i1 q h;refine⟨(sF size l).1::t,by rw[t1];simp,?_,?_⟩
      ·rw[t2,yK]
      ·intro e he;rcases List.mem_cons.1 he with rfl|he
       ·rw[yK];exact e2
       ·exact t3 e he
     ·rcases i2 h with h|⟨e,he,h⟩
      ·exact Or.inl h
      ·exact Or.inr ⟨e,List.mem_cons_of_mem _ he,h⟩
theorem Xh:(∀l',(aX size (M l)).2=M l'->jX size (l,false)=((aX size (M l)).1,(l',false))/\∀e∈(aX size (M l)).1,0<=e.1)/\((aX size (M l)).2=O->(jX size (l,false)).2.2=true\/∃e∈(jX size (l,false)).1,5000<e.1):=by
 have hn:=sJ (lo:=0) (hi:=50) (l:=l);have hb:=mJ l;unfold aX jX;simp only;cases hs:(aO 0 50 (M l)).2 with
 |none=>
  refine⟨fun l' h=>by simp at h,fun _=>Or.inl ?_⟩;rcases hn.1 hs with h|⟨-,h,h2⟩
  ·rw[tZ _ _ _ (kZ h)];exact kZ h
  ·rw[h];simp only;have xk:(iZ (50<fC l) ((l.drop 4,false):Sn)).2=true:=by unfold iZ;rw[if_pos (by omega)]
   rw[tZ _ _ _ xk];exact xk
 |some l1=>
  obtain⟨e1,e2,e3⟩:=hn.2 l1 hs;rw[e1];simp only;generalize (aO 0 50 (M l)).1=N at*;have hg:iZ (50<N) ((l1,false):Sn)=(l1,false):=by unfold iZ;rw[if_neg (by omega)]
  rw[hg];obtain⟨i1,i2⟩:=UN size N.toNat [] l1;cases hr:uZ size N.toNat [] l1 with
  |none=>exact⟨fun l' h=>by simp[Zo]at h,fun _=>i2 hr⟩
  |some q=>
   obtain⟨t,t1,t2,t3⟩:=i1 q hr;simp only[List.nil_append]at t1;rw[t2];simp only[Zo];subst t1;exact⟨fun l' h=>by simp only[Option.some.injEq]at h;rw[h];exact⟨rfl,t3⟩,fun h=>by simp at h⟩
theorem Zx:∀(l:List (Int×Int×Int)) (n:Int),n<=5000->(∀e∈l,0<=e.2.1)->(∃e∈l,5000<e.1)->oZ l n=false
 | [],_,_,_,h=>by obtain⟨e,he,-⟩:=h;simp at he
 |(p,a,b)::l,n,hn,h0,h=>by
  unfold oZ;by_cases h1:n<p+a
  ·rw[if_pos h1]
  ·rw[if_neg h1];by_cases h2:5000<n-a+b
   ·rw[if_pos h2]
   ·rw[if_neg h2];have ha:=h0 _ List.mem_cons_self;simp only at ha;refine Zx l _ (by omega) (fun e he=>h0 e (List.mem_cons_of_mem _ he)) ?_;obtain⟨e,he,h5⟩:=h;rcases List.mem_cons.1 he with rfl|he
    ·simp only at h5;omega
    ·exact⟨e,he,h5⟩
def Qu (buf:Int)(st:Option (List UInt8)):Option (Int×bT):=
 let e:=aO 1 999 st
 let d:=aO 0 1000000000 e.2
 let b:=aO 0 buf d.2
 let t:=aN b.1 b.2
 let u:=aX b.1 t.2
 let r:=aX b.1 u.2
 match gB (nP (sz t.1) r.1) (gB (nP (sz t.1) (u.1.map yL)) (gB (r.2==M []) r.2))with
 |none=>O
 |some _=>M (e.1,(t.1,u.1,r.1,d.1,b.1))
theorem rck_T (l:List UInt8)(buf:Int):vU l buf=match iD l with
 |none=>O
 |some body=>Qu buf (qW 75 (M body)):=by
 unfold vU Qu;cases iD l<;>rfl
theorem Gu (p:Bool):gB p O=O:=by unfold gB;split<;>rfl
theorem T_none (buf:Int):Qu buf O=O:=by
 unfold Qu;simp only[aO,aN,aX,Gu]
theorem qY (h:(aO lo hi (M l)).2=M l'):l'.length+4<=l.length:=by
 rw[sI]at h;split at h
 ·cases h
 ·split at h
  ·cases h
  ·simp only[Option.some.injEq]at h;subst h;rw[List.length_drop];omega
theorem Gv (h:(aO lo hi st).2=M l'):∃l,st=M l:=by
 cases st with
 |none=>simp[aO]at h
 |some l=>exact⟨l,rfl⟩
theorem IZ:∀(k:Nat) (out:List (Int×Int)) (l:List UInt8) (q:List (Int×Int)×List UInt8),sD size k out l=M q->q.2.length<=l.length
 |0,out,l,q,h=>by simp[sD]at h;subst h;exact Nat.le_refl _
 |k+1,out,l,q,h=>by
  rw[sD]at h;cases hs:(qX size l).2 with
  |none=>rw[hs]at h;cases h
  |some l'=>
   rw[hs]at h;have h1:=IZ k _ _ _ h;unfold qX gB at hs;simp only at hs;split at hs
   ·obtain⟨l1,e1⟩:=Gv hs;rw[e1]at hs;have h2:=qY hs;have h3:=qY e1;omega
   ·cases hs
theorem zV (h:(aN size st).2=M l'):∃l,st=M l/\l'.length+4<=l.length:=by
 unfold aN at h;split at h
 ·cases h
 ·rename_i l1 e1;obtain⟨l,rfl⟩:=Gv e1;refine⟨l,rfl,?_⟩;have h3:=qY e1;cases hr:sD size (aO 0 4096 (M l)).1.toNat [] l1 with
  |none=>rw[hr]at h;cases h
  |some q=>
   rw[hr]at h;simp only[Gq,gB]at h;split at h
   ·simp only[Option.some.injEq]at h;subst h;have:=IZ _ _ _ _ hr;omega
   ·cases h
theorem JA:∀(k:Nat) (out:List Ed) (l:List UInt8) (q:List Ed×List UInt8),uZ size k out l=M q->q.2.length<=l.length
 |0,out,l,q,h=>by simp[uZ]at h;subst h;exact Nat.le_refl _
 |k+1,out,l,q,h=>by
  rw[uZ]at h;cases hs:(sF size l).2 with
  |none=>rw[hs]at h;cases h
  |some l'=>
   rw[hs]at h;have h1:=JA k _ _ _ h;unfold sF at hs;simp only at hs;obtain⟨l2,e2,h2⟩:=zV hs;obtain⟨l3,e3,h3⟩:=zV e2;have h4:=qY e3;omega
theorem Qv (h:(aX size st).2=M l'):∃l,st=M l/\l'.length+4<=l.length:=by
 unfold aX at h;split at h
 ·cases h
 ·rename_i l1 e1;obtain⟨l,rfl⟩:=Gv e1;refine⟨l,rfl,?_⟩;have h3:=qY e1;cases hr:uZ size (aO 0 50 (M l)).1.toNat [] l1 with
  |none=>rw[hr]at h;cases h
  |some q=>
   rw[hr]at h;simp only[Zo,Option.some.injEq]at h;subst h;have:=JA _ _ _ _ hr;omega
theorem QE (h:(aN size st).2=M l'):sz (aN size st).1<=5000:=by
 unfold aN at h ⊢;split at h
 ·cases h
 ·rename_i l1 e1;cases hr:sD size (aO 0 4096 st).1.toNat [] l1 with
  |none=>rw[hr]at h;cases h
  |some q=>
   rw[hr]at h;simp only[Gq,gB]at h ⊢;split at h
   ·rename_i h1;simpa using h1
   ·cases h
theorem back_nn (r:Sn):∀e∈(jX size r).1.map qP,0<=e.2.1:=by
 intro e he;obtain⟨e',Fq,rfl⟩:=List.mem_map.1 he;exact(uj ((Pf size r).1 e' Fq).2.2.1).1
theorem xq (r:Sn):∀e∈(jX size r).1.map mM,0<=e.2.1:=by
 intro e he;obtain⟨e',Fq,rfl⟩:=List.mem_map.1 he;exact(uj ((Pf size r).1 e' Fq).2.1.1).1
theorem T_eq:(Qu buf (M l)).map (fun q=>(q.1,Ms q.2 depth))=
 (let e:=dX (l,false)
  let d:=dX e.2
  let b:=dX d.2
  let t:=jA b.1 b.2
  let u:=jX b.1 t.2
  let r:=jX b.1 u.2
  if r.2.2=false/\r.2.1=[]/\1<=e.1/\e.1<=999/\d.1<=1000000000/\b.1<=buf/\oZ (u.1.map qP) (sz t.1)=true/\oZ (r.1.map mM) (sz t.1)=true then M (e.1,(t.1,u.1.take depth,r.1.take depth,d.1,b.1))else O):=by
 have key:∀x:Option (Int×bT),x=O->x.map (fun q=>(q.1,Ms q.2 depth))=O:=fun x h=>by rw[h];rfl
 simp only
 have stop:∀ {st:Option (List UInt8)},(aX (aO 0 buf (aO 0 1000000000 (aO 1 999 st).2).2).1 (aX (aO 0 buf (aO 0 1000000000 (aO 1 999 st).2).2).1 (aN (aO 0 buf (aO 0 1000000000 (aO 1 999 st).2).2).1 (aO 0 buf (aO 0 1000000000 (aO 1 999 st).2).2).2).2).2).2=O->Qu buf st=O:=fun {st} h=>by
  unfold Qu;simp only;rw[h,Gu,Gu,Gu]
 cases h1:(aO 1 999 (M l)).2 with
 |none=>
  rw[key _ (stop (by rw[h1];rfl))];rcases sJ.1 h1 with h|⟨-,h,h2⟩
  ·have hb:(dX (dX (l,false)).2).2.2=true:=by rw[Ap h]
   have fP:(dX (dX (dX (l,false)).2).2).2.2=true:=by rw[Ap hb]
   rw[if_neg];rintro⟨k,-⟩;rw[mD (mD (jY fP))]at k;cases k
  ·rw[if_neg];rintro⟨-,-,k1,k2,-⟩;rw[h]at k1 k2;simp only at k1 k2;omega
 |some l1=>
  obtain⟨e1,e2,e3⟩:=sJ.2 l1 h1;rw[e1];simp only;cases h2:(aO 0 1000000000 (M l1)).2 with
  |none=>
   rw[key _ (stop (by rw[h1,h2];rfl))];rcases sJ.1 h2 with h|⟨-,h,h3⟩
   ·have fP:(dX (dX (l1,false)).2).2.2=true:=by rw[Ap h]
    rw[if_neg];rintro⟨k,-⟩;rw[mD (mD (jY fP))]at k;cases k
   ·have:=mJ l1;rw[if_neg];rintro⟨-,-,-,-,k1,-⟩;rw[h]at k1;simp only at k1;omega
  |some l2=>
   obtain⟨d1,d2,d3⟩:=sJ.2 l2 h2;rw[d1];simp only;cases h3:(aO 0 buf (M l2)).2 with
   |none=>
    rw[key _ (stop (by rw[h1,h2,h3];rfl))];rcases sJ.1 h3 with h|⟨-,h,h4⟩
    ·rw[if_neg];rintro⟨k,-⟩;rw[mD (mD (jY h))]at k;cases k
    ·have:=mJ l2;rw[if_neg];rintro⟨-,-,-,-,-,k1,-⟩;rw[h]at k1;simp only at k1;omega
   |some l3=>
    obtain⟨b1,b2,b3⟩:=sJ.2 l3 h3;rw[b1];simp only;obtain⟨p1,p2⟩:=uP (size:=(aO 0 buf (M l2)).1) (l:=l3);cases h4:(aN (aO 0 buf (M l2)).1 (M l3)).2 with
    |none=>
     rw[key _ (stop (by rw[h1,h2,h3,h4];rfl)),if_neg];rintro⟨k,-⟩;rw[mD (mD (p2 h4))]at k;cases k
    |some l4=>
     have gQ:=QE h4;rw[p1 l4 h4];simp only;obtain⟨u1,u2⟩:=Xh (size:=(aO 0 buf (M l2)).1) (l:=l4);cases h5:(aX (aO 0 buf (M l2)).1 (M l4)).2 with
     |none=>
      rw[key _ (stop (by rw[h1,h2,h3,h4,h5];rfl)),if_neg];rintro⟨k,-,-,-,-,-,k2,-⟩;rcases u2 h5 with h|⟨e,he,h⟩
      ·rw[mD h]at k;cases k
      ·rw[Zx _ _ gQ (back_nn _) ⟨qP e,List.mem_map_of_mem he,h⟩]at k2;cases k2
     |some l5=>
      obtain⟨u3,u4⟩:=u1 l5 h5;rw[u3];simp only;obtain⟨r1,r2⟩:=Xh (size:=(aO 0 buf (M l2)).1) (l:=l5);cases h6:(aX (aO 0 buf (M l2)).1 (M l5)).2 with
      |none=>
       rw[key _ (stop (by rw[h1,h2,h3,h4,h5,h6])),if_neg];rintro⟨k,-,-,-,-,-,-,k2⟩;rcases r2 h6 with h|⟨e,he,h⟩
       ·rw[h]at k;cases k
       ·rw[Zx _ _ gQ (xq _) ⟨mM e,List.mem_map_of_mem he,h⟩]at k2;cases k2
      |some l6=>
       obtain⟨r3,r4⟩:=r1 l6 h6;rw[r3];simp only;unfold Qu;simp only;rw[h1,h2,h3,h4,h5,h6]
       have f1:nP (sz (aN (aO 0 buf (M l2)).1 (M l3)).1) ((aX (aO 0 buf (M l2)).1 (M l4)).1.map yL)=oZ ((aX (aO 0 buf (M l2)).1 (M l4)).1.map qP) (sz (aN (aO 0 buf (M l2)).1 (M l3)).1):=by
        rw[Nu (fun e he=>by obtain⟨e',Fq,rfl⟩:=List.mem_map.1 he;exact u4 e' Fq),List.map_map];rfl
       have f2:=Nu (n:=sz (aN (aO 0 buf (M l2)).1 (M l3)).1) r4;rw[f1,f2];generalize oZ ((aX (aO 0 buf (M l2)).1 (M l4)).1.map qP) (sz (aN (aO 0 buf (M l2)).1 (M l3)).1)=F1;generalize oZ ((aX (aO 0 buf (M l2)).1 (M l5)).1.map mM) (sz (aN (aO 0 buf (M l2)).1 (M l3)).1)=F2;cases F1 with
       |false=>rw[if_neg (by simp)];cases F2<;>rfl
       |true=>
        cases F2 with
        |false=>rw[if_neg (by simp)];rfl
        |true=>
         cases l6 with
         |nil=>rw[if_pos (by refine⟨?_,?_,e2,e3,d3,b3,?_,?_⟩<;>trivial)];rfl
         |cons x l6=>rw[if_neg (by simp)];rfl
theorem T_len {x:Int×bT}(h:Qu buf (M l)=M x):24<=l.length:=by
 unfold Qu at h;simp only at h;split at h
 ·cases h
 ·rename_i l0 h0;unfold gB at h0
  repeat' split at h0
  all_goals first|cases h0;done|skip
  obtain⟨l1,e1,k1⟩:=Qv h0;obtain⟨l2,e2,k2⟩:=Qv e1;obtain⟨l3,e3,k3⟩:=zV e2;obtain⟨l4,e4⟩:=Gv e3;obtain⟨l5,e5⟩:=Gv e4;rw[e4]at e3;rw[e5]at e4;have k4:=qY e3;have k5:=qY e4;have k6:=qY e5;omega
theorem xu {s:ByteArray}(hz:s.size≠0):jE s buf depth=(vU s.data.toList buf).map (fun q=>(q.1,Ms q.2 depth)):=by
 have hs:s.size=s.data.toList.length:=by rw[Array.length_toList];rfl
 unfold jE;rw[if_neg hz,hs,rck_T];generalize s.data.toList=L;unfold iD;by_cases h1:L.length<29\/L.head?≠M 75
 ·rw[if_pos h1];by_cases h4:L.length<4
  ·rw[if_pos h4];rfl
  ·rw[if_neg h4];split
   ·rfl
   ·rename_i body hb;split at hb
    ·simp only[Option.some.injEq]at hb;subst hb;cases hl:qW 75 (M (L.take (L.length-4)))with
     |none=>rw[T_none];rfl
     |some l=>
      cases hr:Qu buf (M l)with
      |none=>rfl
      |some x=>
       exfalso;have hlen:=T_len hr
       have Jw:L.take (L.length-4)=75::l:=by
        cases hb:L.take (L.length-4)with
        |nil=>rw[hb]at hl;simp[qW]at hl
        |cons y l0=>
         rw[hb]at hl;unfold qW at hl;simp only at hl;split at hl
         ·rename_i hy;simp only[Option.some.injEq]at hl;rw[hy,hl]
         ·cases hl
       have gu:=congrArg List.length Jw;rw[List.length_take]at gu;simp only[List.length_cons]at gu;rcases h1 with h1|h1
       ·omega
       ·apply h1;cases L with
        |nil=>simp at Jw
        |cons y L=>
         obtain⟨n,hn⟩:∃n,(y::L).length-4=n+1:=⟨(y::L).length-4-1,by omega⟩;rw[hn]at Jw;simp only[List.take_succ_cons,List.cons.injEq]at Jw;simp[Jw.1]
    ·cases hb
 ·rw[if_neg h1];have h29:29<=L.length:=by omega
  have hh:L.head?=M 75:=by
   refine Classical.byContradiction fun e=>h1 (Or.inr e)
  rw[if_neg (show ¬L.length<4 by omega)];simp only
  have IL:∃l,L.take (L.length-4)=75::l:=by
   cases L with
   |nil=>simp at h29
   |cons x l=>
    simp at hh;subst hh;refine⟨l.take (l.length+1-4-1),?_⟩;obtain⟨n,hn⟩:∃n,l.length+1-4=n+1:=⟨l.length+1-4-1,by simp at h29;omega⟩;simp only[List.length_cons];rw[hn];simp
  obtain⟨l,hl⟩:=IL;by_cases hc:fC (L.drop (L.length-4))=kH (L.take (L.length-4))
  ·rw[if_pos hc];simp only;rw[hl];have e1:qW 75 (M (75::l))=M l:=by simp[qW]
   rw[e1,T_eq];simp only[List.drop_succ_cons,List.drop_zero];rw[hl]at hc;simp only[hc,true_and]
  ·rw[if_neg hc,if_neg (fun k=>hc k.1)];rfl
theorem Qw (a b c d:UInt8):dV ((a.toNat:Int)*16777216+(b.toNat:Int)*65536+(c.toNat:Int)*256+(d.toNat:Int))=[a,b,c,d]:=by
 have ha:=a.toNat_lt;have hb:=b.toNat_lt;have hc:=c.toNat_lt;have hd:=d.toNat_lt;have key:∀(x:UInt8) (n:Int),n=(x.toNat:Int)->UInt8.ofNat n.toNat=x:=fun x n e=>by rw[e,Int.toNat_natCast];exact UInt8.ofNat_toNat
 unfold dV Im;simp only[List.map_cons,List.map_nil];rw[key a _ (by omega),key b _ (by omega),key c _ (by omega),key d _ (by omega)]
theorem be_u32 {a b c d:UInt8}{n:Int}(h:bS n):fC [a,b,c,d]=n↔[a,b,c,d]=dV n:=by
 have e:fC [a,b,c,d]=(a.toNat:Int)*16777216+(b.toNat:Int)*65536+(c.toNat:Int)*256+(d.toNat:Int):=rfl;constructor
 ·intro k;rw[e]at k;rw[<-k,Qw]
 ·intro k;rw[k];obtain⟨h0,h1⟩:=h
  have key:∀(x:Int),0<=x->x<256->((UInt8.ofNat x.toNat).toNat:Int)=x:=fun x k0 k1=>by
   rw[UInt8.toNat_ofNat'];omega
  unfold dV Im;simp only[List.map_cons,List.map_nil];show((UInt8.ofNat (n / 16777216).toNat).toNat:Int)*16777216+((UInt8.ofNat (n / 65536 % 256).toNat).toNat:Int)*65536+((UInt8.ofNat (n / 256 % 256).toNat).toNat:Int)*256+((UInt8.ofNat (n % 256).toNat).toNat:Int)=n;rw[key _ (by omega) (by omega),key _ (by omega) (by omega),key _ (by omega) (by omega),key _ (by omega) (by omega)];omega
theorem QF {t c:List UInt8}(hc:c.length=4):iD (t++c)=if fC c=kH t then M t else O:=by
 have hl:(t++c).length-4=t.length:=by rw[List.length_append,hc];omega
 unfold iD;rw[hl,List.take_left,List.drop_left,if_neg (by rw[List.length_append,hc];omega)]
theorem YC (cr:List UInt8->Int)(hcr:∀l,bS (cr l))(x0 x1 x2 x3 x4 x5 x6 x7 x8 x9 Zy Zz AA AB Ur Us Ut Uu JB JC JD JE:UInt8)(rest:List UInt8):
 (match (if fC [JB,JC,JD,JE]=cr [x0,x1,x2,x3,x4,x5,x6,x7,x8,x9,Zy,Zz,AA,AB,Ur,Us,Ut,Uu]then M [x0,x1,x2,x3,x4,x5,x6,x7,x8,x9,Zy,Zz,AA,AB,Ur,Us,Ut,Uu]else O:Option (List UInt8))with
  |none=>O
  |some t=>if t.headD 0=74 then M (fC (t.drop 2),(((t.drop 1).headD 0).toNat:Int),fC (t.drop 6),fC (t.drop 10),fC (t.drop 14))else O)=
 if [x0,x1,x2,x3,x4,x5,x6,x7,x8,x9,Zy,Zz,AA,AB,Ur,Us,Ut,Uu]++ [JB,JC,JD,JE]=[74,x1,x2,x3,x4,x5,x6,x7,x8,x9,Zy,Zz,AA,AB,Ur,Us,Ut,Uu]++dV (cr [74,x1,x2,x3,x4,x5,x6,x7,x8,x9,Zy,Zz,AA,AB,Ur,Us,Ut,Uu])then M (fC (x2::x3::x4::x5::x6::x7::x8::x9::Zy::Zz::AA::AB::Ur::Us::Ut::Uu::JB::JC::JD::JE::rest),(x1.toNat:Int),fC (x6::x7::x8::x9::Zy::Zz::AA::AB::Ur::Us::Ut::Uu::JB::JC::JD::JE::rest),fC (Zy::Zz::AA::AB::Ur::Us::Ut::Uu::JB::JC::JD::JE::rest),fC (Ur::Us::Ut::Uu::JB::JC::JD::JE::rest))else O:=by
 by_cases h0:x0=74
 ·subst h0;have hc:=be_u32 (a:=JB) (b:=JC) (c:=JD) (d:=JE) (hcr [74,x1,x2,x3,x4,x5,x6,x7,x8,x9,Zy,Zz,AA,AB,Ur,Us,Ut,Uu]);by_cases h1:fC [JB,JC,JD,JE]=cr [74,x1,x2,x3,x4,x5,x6,x7,x8,x9,Zy,Zz,AA,AB,Ur,Us,Ut,Uu]
  ·rw[if_pos h1,<-hc.1 h1,if_pos rfl];simp only[List.headD_cons,if_true];rfl
  ·rw[if_neg h1,if_neg];intro k;exact h1 (hc.2 (List.append_cancel_left k))
 ·rw[if_neg (c:=_++_=_++_)]
  ·by_cases h1:fC [JB,JC,JD,JE]=cr [x0,x1,x2,x3,x4,x5,x6,x7,x8,x9,Zy,Zz,AA,AB,Ur,Us,Ut,Uu]
   ·rw[if_pos h1];simp only[List.headD_cons];exact if_neg h0
   ·rw[if_neg h1]
  ·intro k;exact h0 (List.cons.inj k).1
theorem xw (l:List UInt8)(h:22<=l.length):jB l=if l.take 22=(fO (((l.drop 1).headD 0).toNat:Int) (fC (l.drop 2)) (fC (l.drop 6)) (fC (l.drop 10)) (fC (l.drop 14))).data.toList then M (fC (l.drop 2),(((l.drop 1).headD 0).toNat:Int),fC (l.drop 6),fC (l.drop 10),fC (l.drop 14))else O:=by
 obtain⟨x0,l,rfl⟩:=List.exists_cons_of_length_pos (l:=l) (by omega);simp only[List.length_cons]at h;obtain⟨x1,l,rfl⟩:=List.exists_cons_of_length_pos (l:=l) (by omega);simp only[List.length_cons]at h;obtain⟨x2,l,rfl⟩:=List.exists_cons_of_length_pos (l:=l) (by omega);simp only[List.length_cons]at h;obtain⟨x3,l,rfl⟩:=List.exists_cons_of_length_pos (l:=l) (by omega);simp only[List.length_cons]at h;obtain⟨x4,l,rfl⟩:=List.exists_cons_of_length_pos (l:=l) (by omega);simp only[List.length_cons]at h;obtain⟨x5,l,rfl⟩:=List.exists_cons_of_length_pos (l:=l) (by omega);simp only[List.length_cons]at h;obtain⟨x6,l,rfl⟩:=List.exists_cons_of_length_pos (l:=l) (by omega);simp only[List.length_cons]at h;obtain⟨x7,l,rfl⟩:=List.exists_cons_of_length_pos (l:=l) (by omega);simp only[List.length_cons]at h;obtain⟨x8,l,rfl⟩:=List.exists_cons_of_length_pos (l:=l) (by omega);simp only[List.length_cons]at h;obtain⟨x9,l,rfl⟩:=List.exists_cons_of_length_pos (l:=l) (by omega);simp only[List.length_cons]at h;obtain⟨Zy,l,rfl⟩:=List.exists_cons_of_length_pos (l:=l) (by omega);simp only[List.length_cons]at h;obtain⟨Zz,l,rfl⟩:=List.exists_cons_of_length_pos (l:=l) (by omega);simp only[List.length_cons]at h;obtain⟨AA,l,rfl⟩:=List.exists_cons_of_length_pos (l:=l) (by omega);simp only[List.length_cons]at h;obtain⟨AB,l,rfl⟩:=List.exists_cons_of_length_pos (l:=l) (by omega);simp only[List.length_cons]at h;obtain⟨Ur,l,rfl⟩:=List.exists_cons_of_length_pos (l:=l) (by omega);simp only[List.length_cons]at h;obtain⟨Us,l,rfl⟩:=List.exists_cons_of_length_pos (l:=l) (by omega);simp only[List.length_cons]at h;obtain⟨Ut,l,rfl⟩:=List.exists_cons_of_length_pos (l:=l) (by omega);simp only[List.length_cons]at h;obtain⟨Uu,l,rfl⟩:=List.exists_cons_of_length_pos (l:=l) (by omega);simp only[List.length_cons]at h;obtain⟨JB,l,rfl⟩:=List.exists_cons_of_length_pos (l:=l) (by omega);simp only[List.length_cons]at h;obtain⟨JC,l,rfl⟩:=List.exists_cons_of_length_pos (l:=l) (by omega);simp only[List.length_cons]at h;obtain⟨JD,l,rfl⟩:=List.exists_cons_of_length_pos (l:=l) (by omega);simp only[List.length_cons]at h;obtain⟨JE,l,rfl⟩:=List.exists_cons_of_length_pos (l:=l) (by omega);simp only[List.length_cons]at h;generalize l=rest at*;have hb:∀(a b c d:UInt8) (l:List UInt8),fC (a::b::c::d::l)=(a.toNat:Int)*16777216+(b.toNat:Int)*65536+(c.toNat:Int)*256+(d.toNat:Int):=fun _ _ _ _ _=>rfl
 have ht:(x0::x1::x2::x3::x4::x5::x6::x7::x8::x9::Zy::Zz::AA::AB::Ur::Us::Ut::Uu::JB::JC::JD::JE::rest).take 22=[x0,x1,x2,x3,x4,x5,x6,x7,x8,x9,Zy,Zz,AA,AB,Ur,Us,Ut,Uu]++ [JB,JC,JD,JE]:=rfl;unfold jB;rw[if_neg (by simp only[List.length_cons];omega),ht,QF rfl];simp only[List.drop_succ_cons,List.drop_zero,List.headD_cons];rw[Pw];have hq:UInt8.ofNat ((x1.toNat:Int)).toNat=x1:=by rw[Int.toNat_natCast];exact UInt8.ofNat_toNat
 have YD:Uf (x1.toNat:Int) (fC (x2::x3::x4::x5::x6::x7::x8::x9::Zy::Zz::AA::AB::Ur::Us::Ut::Uu::JB::JC::JD::JE::rest)) (fC (x6::x7::x8::x9::Zy::Zz::AA::AB::Ur::Us::Ut::Uu::JB::JC::JD::JE::rest)) (fC (Zy::Zz::AA::AB::Ur::Us::Ut::Uu::JB::JC::JD::JE::rest)) (fC (Ur::Us::Ut::Uu::JB::JC::JD::JE::rest))=[74,x1,x2,x3,x4,x5,x6,x7,x8,x9,Zy,Zz,AA,AB,Ur,Us,Ut,Uu]:=by
  unfold Uf;rw[hb,hb,hb,hb,Qw,Qw,Qw,Qw,hq];rfl
 rw[YD];exact YC kH Io x0 x1 x2 x3 x4 x5 x6 x7 x8 x9 Zy Zz AA AB Ur Us Ut Uu JB JC JD JE rest
theorem AJ {m:bT}{q a b c most:Int}(hk:(q=73/\b=m.2.2.2.2)\/(q=68/\c=0)\/((q=85\/q=82)/\a=0/\b=0/\c=0)):nO m q a b c most=(gK m q a b c most depth).2:=by
 unfold nO gK;rcases hk with⟨rfl,rfl⟩|⟨rfl,rfl⟩|⟨rfl|rfl,rfl,rfl,rfl⟩
 ·rw[if_pos rfl,if_pos rfl];unfold GN rR pE;by_cases h1:a<0\/sz m.1<a
  ·rw[if_pos h1,if_pos (by simp;omega)]
  ·rw[if_neg h1,if_neg (by simp;omega)];split
   ·rfl
   ·split
    ·rfl
    ·rw[if_neg (by simp)];split<;>rfl
 ·rw[if_neg (by decide),if_pos rfl,if_neg (by decide),if_pos rfl];unfold Zi yQ pE;by_cases h1:a<0\/b<1\/sz m.1<a\/sz m.1-a<b
  ·rw[if_pos h1,if_pos (by simp;omega)]
  ·rw[if_neg h1,if_neg (by simp;omega),if_neg (by simp)];split<;>rfl
 ·rw[if_neg (by decide),if_neg (by decide),if_pos rfl,if_neg (by decide),if_neg (by decide),if_pos rfl];unfold Ui qM yR;cases m.2.1 with
  |nil=>rfl
  |cons e l=>
   simp only;rw[if_neg (by simp)];split<;>rfl
 ·rw[if_neg (by decide),if_neg (by decide),if_neg (by decide),if_pos rfl,if_neg (by decide),if_neg (by decide),if_neg (by decide)];unfold Uj qN yR;cases m.2.2.1 with
  |nil=>rfl
  |cons e l=>
   simp only;rw[if_neg (by simp)];split<;>rfl
theorem rec_eq (m:bT)(l:List UInt8)(buf:Int)(depth:Nat):wN m l buf depth=nI m l buf depth:=by
 unfold wN nI;by_cases h:l.length<22
 ·rw[if_pos h];have:jB l=O:=by unfold jB;rw[if_pos h]
  rw[this]
 ·rw[if_neg h,xw l (by omega)];simp only;generalize (((l.drop 1).headD 0).toNat:Int)=q;generalize fC (l.drop 6)=a;generalize fC (l.drop 10)=b;generalize fC (l.drop 14)=c;by_cases hd:fC (l.drop 2)=m.2.2.2.1+1
  ·rw[hd];by_cases hr:l.take 22=(fO q (m.2.2.2.1+1) a b c).data.toList
   ·rw[if_pos hr];simp only[ne_eq,not_true_eq_false,if_false,hr,true_and];by_cases hm:nO m q a b c 5000=0
    ·have hk:(q=73/\b=m.2.2.2.2)\/(q=68/\c=0)\/((q=85\/q=82)/\a=0/\b=0/\c=0):=by
      have UG:=hm;unfold nO at UG;split at UG
      ·rename_i e;obtain⟨k,-⟩:=Ns (depth:=depth) UG;exact Or.inl ⟨e,k.2.2.2.2.2.1⟩
      ·split at UG
       ·rename_i e;obtain⟨k,-⟩:=Nt (depth:=depth) UG;exact Or.inr (Or.inl ⟨e,k.2.2.2.1⟩)
       ·split at UG
        ·rename_i e;obtain⟨_,_,_,k,-⟩:=Gj (depth:=depth) UG;exact Or.inr (Or.inr ⟨Or.inl e,k⟩)
        ·split at UG
         ·rename_i e;obtain⟨_,_,_,k,-⟩:=Gn (depth:=depth) UG;exact Or.inr (Or.inr ⟨Or.inr e,k⟩)
         ·omega
     have hc:=AJ (most:=5000) (depth:=depth) hk;rw[hm]at hc;rw[if_neg (by simp[hm]),<-hc];by_cases hb:q=73/\buf<m.2.2.2.2+c
     ·rw[if_pos hb,if_neg];rintro⟨ho,-⟩;unfold pI at ho;obtain⟨rfl,hb⟩:=hb;simp at ho;omega
     ·rw[if_neg hb,if_pos];refine⟨?_,rfl⟩;unfold pI;rcases hk with⟨rfl,rfl⟩|⟨rfl,rfl⟩|⟨rfl|rfl,rfl,rfl,rfl⟩
      ·simp;omega
      ·simp
      ·simp
      ·simp
    ·rw[if_pos hm,if_neg];rintro⟨ho,hc⟩;apply hm;rw[AJ (depth:=depth) ?_,hc];unfold pI at ho;simp only[Bool.or_eq_true,Bool.and_eq_true,beq_iff_eq,decide_eq_true_eq]at ho;rcases ho with(⟨⟨h1,h2⟩,-⟩|⟨h1,h2⟩)|⟨⟨⟨h1,h2⟩,h3⟩,h4⟩
     ·exact Or.inl ⟨h1,h2⟩
     ·exact Or.inr (Or.inl ⟨h1,h2⟩)
     ·exact Or.inr (Or.inr ⟨h1,h2,h3,h4⟩)
   ·rw[if_neg hr,if_neg (fun k=>hr k.1)]
  ·refine Eq.trans ?_ (if_neg (fun k=>hd k.2.1)).symm;by_cases hr:l.take 22=(fO q (fC (l.drop 2)) a b c).data.toList
   ·rw[if_pos hr];simp only;rw[if_pos hd]
   ·rw[if_neg hr]
theorem yg (buf:Int)(depth:Nat):∀(k:Nat) (m:bT) (l:List UInt8),wO buf depth k m l=lZ buf depth k m l
 |0,m,l=>rfl
 |k+1,m,l=>by
  unfold wO lZ;rw[rec_eq];cases nI m l buf depth with
  |none=>rfl
  |some m'=>simp only[yg buf depth k]
end Go.Proofs.YtfplgfodoiiobaaGreatDoor
