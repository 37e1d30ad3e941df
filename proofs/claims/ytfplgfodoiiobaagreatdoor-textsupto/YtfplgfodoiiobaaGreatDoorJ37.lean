/- JnA (joined). -/
import Derived.Test.YtfplgfodoiiobaaGreatDoorJ34
open Option renaming none→O,some→M
namespace Go.Proofs.YtfplgfodoiiobaaGreatDoor
open Go.RowKit
variable {size lo hi buf:Int}{l l':List UInt8}{st:Option (List UInt8)}{r:Sn}{depth:Nat}
theorem uU (lo hi:Int)(l:List UInt8):aU lo hi (M l)=if l.length<4 then (0,O)else if gX l<lo\/hi<gX l then (0,O)else (gX l,M (l.drop 4)):=rfl
theorem uV:((aU lo hi (M l)).2=O->(bG (l,false)).2.2=true\/(4<=l.length/\bG (l,false)=(gX l,(l.drop 4,false))/\(gX l<lo\/hi<gX l)))/\∀l',(aU lo hi (M l)).2=M l'->bG (l,false)=((aU lo hi (M l)).1,(l',false))/\lo<=(aU lo hi (M l)).1/\(aU lo hi (M l)).1<=hi:=by
 unfold aU bG;by_cases h1:l.length<4
 ·simp[h1]
 ·by_cases h2:gX l<lo\/hi<gX l
  ·simp[h1,h2];omega
  ·simp[h1,h2];omega
theorem mO {p:Prop}[Decidable p](h:r.2=true):(eP p r).2=true:=by unfold eP;split<;>simp[h]
theorem rpc_sim:
 ((sQ size l).2=O->(eP ((bG (bG (l,false)).2).1<1\/5000<(bG (bG (l,false)).2).1\/size<(bG (l,false)).1+(bG (bG (l,false)).2).1) (bG (bG (l,false)).2).2).2=true)/\
 ∀l',(sQ size l).2=M l'->eP ((bG (bG (l,false)).2).1<1\/5000<(bG (bG (l,false)).2).1\/size<(bG (l,false)).1+(bG (bG (l,false)).2).1) (bG (bG (l,false)).2).2=(l',false)/\(sQ size l).1=((bG (l,false)).1,(bG (bG (l,false)).2).1):=by
 have fC:=kU l;have gG:=kU (l.drop 4);by_cases h1:l.length<4
 ·have e:bG (l,false)=(0,(l,true)):=by unfold bG;rw[if_pos (Or.inr h1)]
  have e2:bG ((0:Int),((l,true):Sn)).2=(0,(l,true)):=zX rfl;have er:aU 0 size (M l)=(0,O):=by rw[uU,if_pos h1]
  refine⟨fun _=>?_,fun l' h=>?_⟩
  ·rw[e,e2];exact mO rfl
  ·unfold sQ at h;rw[er]at h;simp[aU,iG]at h
 ·have e:bG (l,false)=(gX l,(l.drop 4,false)):=by unfold bG;rw[if_neg (by simp;omega)]
  rw[e];simp only;by_cases h2:(l.drop 4).length<4
  ·have e2:bG (l.drop 4,false)=(0,(l.drop 4,true)):=by unfold bG;rw[if_pos (Or.inr h2)]
   rw[e2];refine⟨fun _=>mO rfl,fun l' h=>?_⟩;exfalso;unfold sQ at h;by_cases h3:gX l<0\/size<gX l
   ·have er:aU 0 size (M l)=(0,O):=by rw[uU,if_neg h1,if_pos h3]
    rw[er]at h;simp[aU,iG]at h
   ·have er:aU 0 size (M l)=(gX l,M (l.drop 4)):=by rw[uU,if_neg h1,if_neg h3]
    have er2:aU 1 5000 (M (l.drop 4))=(0,O):=by rw[uU,if_pos h2]
    rw[er]at h;simp only at h;rw[er2]at h;simp[iG]at h
  ·have e2:bG (l.drop 4,false)=(gX (l.drop 4),((l.drop 4).drop 4,false)):=by unfold bG;rw[if_neg (by simp only[Bool.false_eq_true,false_or];omega)]
   rw[e2];simp only;unfold sQ;by_cases h3:gX l<0\/size<gX l
   ·have er:aU 0 size (M l)=(0,O):=by rw[uU,if_neg h1,if_pos h3]
    rw[er];refine⟨fun _=>?_,fun l' h=>?_⟩
    ·unfold eP;by_cases h5:gX (l.drop 4)<1
     ·rw[if_pos (Or.inl h5)]
     ·rw[if_pos (by omega)]
    ·simp[aU,iG]at h
   ·have er:aU 0 size (M l)=(gX l,M (l.drop 4)):=by rw[uU,if_neg h1,if_neg h3]
    rw[er];simp only;by_cases h4:gX (l.drop 4)<1\/5000<gX (l.drop 4)
    ·have er2:aU 1 5000 (M (l.drop 4))=(0,O):=by rw[uU,if_neg h2,if_pos h4]
     rw[er2];refine⟨fun _=>?_,fun l' h=>?_⟩
     ·unfold eP;rw[if_pos (by omega)]
     ·simp[iG]at h
    ·have er2:aU 1 5000 (M (l.drop 4))=(gX (l.drop 4),M ((l.drop 4).drop 4)):=by rw[uU,if_neg h2,if_neg h4]
     rw[er2];simp only;by_cases h6:gX l+gX (l.drop 4)<=size
     ·refine⟨fun h=>?_,fun l' h=>?_⟩
      ·simp[iG,h6]at h
      ·unfold eP;rw[if_neg (by omega)];simp only[iG,h6,decide_true,if_true,Option.some.injEq]at h;exact⟨by rw[h],by first|rfl|trivial⟩
     ·refine⟨fun h=>?_,fun l' h=>?_⟩
      ·unfold eP;rw[if_pos (by omega)]
      ·simp[iG,h6]at h
theorem SA (size:Int):∀(k:Nat) (out:List (Int×Int)) (l:List UInt8),(∀q,uQ size k out l=M q->∃t,q.1=out++t/\tV k size (l,false)=(t,(q.2,false)))/\(uQ size k out l=O->(tV k size (l,false)).2.2=true)
 |0,out,l=>⟨fun q h=>by simp[uQ]at h;subst h;exact⟨[],by simp,rfl⟩,fun h=>by simp[uQ]at h⟩
 |k+1,out,l=>by
  obtain⟨h1,h2⟩:=rpc_sim (size:=size) (l:=l);rw[uQ];unfold tV;rw[if_neg (by simp)];simp only;cases hs:(sQ size l).2 with
  |none=>
   refine⟨fun q h=>by simp at h,fun _=>?_⟩;have:=h1 hs;rw[yO _ _ _ this];exact this
  |some l'=>
   obtain⟨e1,e2⟩:=h2 l' hs;rw[e1];obtain⟨i1,i2⟩:=SA size k (out++ [(sQ size l).1]) l';simp only;refine⟨fun q h=>?_,fun h=>i2 h⟩;obtain⟨t,t1,t2⟩:=i1 q h;refine⟨(sQ size l).1::t,by rw[t1];simp,?_⟩;rw[t2,e2]
theorem xD:(∀l',(aR size (M l)).2=M l'->dG size (l,false)=((aR size (M l)).1,(l',false)))/\((aR size (M l)).2=O->(dG size (l,false)).2.2=true):=by
 have hn:=uV (lo:=0) (hi:=4096) (l:=l);have hb:=kU l;unfold aR dG;simp only;cases hs:(aU 0 4096 (M l)).2 with
 |none=>
  refine⟨fun l' h=>by simp at h,fun _=>?_⟩;rcases hn.1 hs with h|⟨-,h,h2⟩
  ·rw[yO _ _ _ (mO h)];exact mO (mO h)
  ·rw[h];simp only;have xh:(eP (4096<gX l) ((l.drop 4,false):Sn)).2=true:=by unfold eP;rw[if_pos (by omega)]
   rw[yO _ _ _ xh];exact mO xh
 |some l1=>
  obtain⟨e1,e2,e3⟩:=hn.2 l1 hs;rw[e1];simp only;generalize (aU 0 4096 (M l)).1=N at*;have hg:eP (4096<N) ((l1,false):Sn)=(l1,false):=by unfold eP;rw[if_neg (by omega)]
  rw[hg];obtain⟨i1,i2⟩:=SA size N.toNat [] l1;cases hr:uQ size N.toNat [] l1 with
  |none=>
   refine⟨fun l' h=>by simp[Jp]at h,fun _=>mO (i2 hr)⟩
  |some q=>
   obtain⟨t,t1,t2⟩:=i1 q hr;simp only[List.nil_append]at t1;rw[t2];simp only[Jp];subst t1;by_cases h5:sz q.1<=5000
   ·refine⟨fun l' h=>?_,fun h=>by simp[iG,h5]at h⟩;simp only[iG,h5,decide_true,if_true,Option.some.injEq]at h;unfold eP;rw[if_neg (by omega),h]
   ·refine⟨fun l' h=>by simp[iG,h5]at h,fun _=>?_⟩;unfold eP;rw[if_pos (by omega)]
theorem lQ (h:r.2=true):(dG size r).2.2=true:=by
 unfold dG;rw[zX h];simp only;rw[yO _ _ _ (mO rfl)];exact mO (mO rfl)
theorem nY (h:r.2=true):(kD size r).2.2=true:=by
 unfold kD;rw[zX h];simp only;rw[sI _ _ _ (mO rfl)];exact mO rfl
theorem SB (size:Int):∀(k:Nat) (out:List Ed) (l:List UInt8),(∀q,xH size k out l=M q->∃t,q.1=out++t/\uM k size (l,false)=(t,(q.2,false))/\∀e∈t,0<=e.1)/\(xH size k out l=O->(uM k size (l,false)).2.2=true\/∃e∈(uM k size (l,false)).1,5000<e.1)
 |0,out,l=>⟨fun q h=>by simp[xH]at h;subst h;exact⟨[],by simp,rfl,by simp⟩,fun h=>by simp[xH]at h⟩
 |k+1,out,l=>by
  have hn:=uV (lo:=0) (hi:=5000) (l:=l);have hbd:=kU l;rw[xH];unfold uM;rw[if_neg (by simp)];simp only;cases hs:(uR size l).2 with
  |none=>
   refine⟨fun q h=>by simp at h,fun _=>?_⟩;unfold uR at hs;simp only at hs;cases h1:(aU 0 5000 (M l)).2 with
   |none=>
    rcases hn.1 h1 with h|⟨-,h,h2⟩
    ·left;rw[sI _ _ _ (lQ (lQ h))];exact lQ (lQ h)
    ·right;rw[h];exact⟨_,List.mem_cons_self,by simp only;omega⟩
   |some l1=>
    obtain⟨e1,-⟩:=hn.2 l1 h1;rw[h1]at hs;rw[e1];simp only;obtain⟨p1,p2⟩:=xD (size:=size) (l:=l1);cases h2:(aR size (M l1)).2 with
    |none=>
     left;have:=p2 h2;rw[sI _ _ _ (lQ this)];exact lQ this
    |some l2=>
     rw[h2]at hs;rw[p1 l2 h2];simp only;obtain⟨-,q2⟩:=xD (size:=size) (l:=l2);left;have:=q2 hs;rw[sI _ _ _ this];exact this
  |some l3=>
   have Pf:=hs;unfold uR at hs;simp only at hs;cases h1:(aU 0 5000 (M l)).2 with
   |none=>rw[h1]at hs;simp[aR,aU]at hs
   |some l1=>
    obtain⟨e1,e2,-⟩:=hn.2 l1 h1;rw[h1]at hs;obtain⟨p1,-⟩:=xD (size:=size) (l:=l1);cases h2:(aR size (M l1)).2 with
    |none=>rw[h2]at hs;simp[aR,aU]at hs
    |some l2=>
     rw[h2]at hs;obtain⟨q1,-⟩:=xD (size:=size) (l:=l2);rw[e1];simp only;rw[p1 l2 h2];simp only;rw[q1 l3 hs];simp only
     have vB:(uR size l).1=((aU 0 5000 (M l)).1,(aR size (M l1)).1,(aR size (M l2)).1):=by
      unfold uR;simp only;rw[h1,h2]
     obtain⟨i1,i2⟩:=SB size k (out++ [(uR size l).1]) l3;refine⟨fun q h=>?_,fun h=>?_⟩
     ·obtain⟨t,t1,t2,t3⟩:=i1 q h;refine⟨(uR size l).1::t,by rw[t1];simp,?_,?_⟩
      ·rw[t2,vB]
      ·intro e he;rcases List.mem_cons.1 he with rfl|he
       ·rw[vB];exact e2
       ·exact t3 e he
     ·rcases i2 h with h|⟨e,he,h⟩
      ·exact Or.inl h
      ·exact Or.inr ⟨e,List.mem_cons_of_mem _ he,h⟩
theorem Yf:(∀l',(aY size (M l)).2=M l'->kD size (l,false)=((aY size (M l)).1,(l',false))/\∀e∈(aY size (M l)).1,0<=e.1)/\((aY size (M l)).2=O->(kD size (l,false)).2.2=true\/∃e∈(kD size (l,false)).1,5000<e.1):=by
 have hn:=uV (lo:=0) (hi:=50) (l:=l);have hb:=kU l;unfold aY kD;simp only;cases hs:(aU 0 50 (M l)).2 with
 |none=>
  refine⟨fun l' h=>by simp at h,fun _=>Or.inl ?_⟩;rcases hn.1 hs with h|⟨-,h,h2⟩
  ·rw[sI _ _ _ (mO h)];exact mO h
  ·rw[h];simp only;have xh:(eP (50<gX l) ((l.drop 4,false):Sn)).2=true:=by unfold eP;rw[if_pos (by omega)]
   rw[sI _ _ _ xh];exact xh
 |some l1=>
  obtain⟨e1,e2,e3⟩:=hn.2 l1 hs;rw[e1];simp only;generalize (aU 0 50 (M l)).1=N at*;have hg:eP (50<N) ((l1,false):Sn)=(l1,false):=by unfold eP;rw[if_neg (by omega)]
  rw[hg];obtain⟨i1,i2⟩:=SB size N.toNat [] l1;cases hr:xH size N.toNat [] l1 with
  |none=>exact⟨fun l' h=>by simp[Zu]at h,fun _=>i2 hr⟩
  |some q=>
   obtain⟨t,t1,t2,t3⟩:=i1 q hr;simp only[List.nil_append]at t1;rw[t2];simp only[Zu];subst t1;exact⟨fun l' h=>by simp only[Option.some.injEq]at h;rw[h];exact⟨rfl,t3⟩,fun h=>by simp at h⟩
theorem AJ:∀(l:List (Int×Int×Int)) (n:Int),n<=5000->(∀e∈l,0<=e.2.1)->(∃e∈l,5000<e.1)->lK l n=false
 | [],_,_,_,h=>by obtain⟨e,he,-⟩:=h;simp at he
 |(p,a,b)::l,n,hn,h0,h=>by
  unfold lK;by_cases h1:n<p+a
  ·rw[if_pos h1]
  ·rw[if_neg h1];by_cases h2:5000<n-a+b
   ·rw[if_pos h2]
   ·rw[if_neg h2];have ha:=h0 _ List.mem_cons_self;simp only at ha;refine AJ l _ (by omega) (fun e he=>h0 e (List.mem_cons_of_mem _ he)) ?_;obtain⟨e,he,h5⟩:=h;rcases List.mem_cons.1 he with rfl|he
    ·simp only at h5;omega
    ·exact⟨e,he,h5⟩
def Tt (buf:Int)(st:Option (List UInt8)):Option (Int×dF):=
 let e:=aU 1 999 st
 let d:=aU 0 1000000000 e.2
 let b:=aU 0 buf d.2
 let t:=aR b.1 b.2
 let u:=aY b.1 t.2
 let r:=aY b.1 u.2
 match iG (pE (sz t.1) r.1) (iG (pE (sz t.1) (u.1.map Bc)) (iG (r.2==M []) r.2))with
 |none=>O
 |some _=>M (e.1,(t.1,u.1,r.1,d.1,b.1))
theorem rck_T (l:List UInt8)(buf:Int):yB l buf=match jL l with
 |none=>O
 |some body=>Tt buf (sP 75 (M body)):=by
 unfold yB Tt;cases jL l<;>rfl
theorem Jt (p:Bool):iG p O=O:=by unfold iG;split<;>rfl
theorem T_none (buf:Int):Tt buf O=O:=by
 unfold Tt;simp only[aU,aR,aY,Jt]
theorem sU (h:(aU lo hi (M l)).2=M l'):l'.length+4<=l.length:=by
 rw[uU]at h;split at h
 ·cases h
 ·split at h
  ·cases h
  ·simp only[Option.some.injEq]at h;subst h;rw[List.length_drop];omega
theorem Ju (h:(aU lo hi st).2=M l'):∃l,st=M l:=by
 cases st with
 |none=>simp[aU]at h
 |some l=>exact⟨l,rfl⟩
theorem IY:∀(k:Nat) (out:List (Int×Int)) (l:List UInt8) (q:List (Int×Int)×List UInt8),uQ size k out l=M q->q.2.length<=l.length
 |0,out,l,q,h=>by simp[uQ]at h;subst h;exact Nat.le_refl _
 |k+1,out,l,q,h=>by
  rw[uQ]at h;cases hs:(sQ size l).2 with
  |none=>rw[hs]at h;cases h
  |some l'=>
   rw[hs]at h;have h1:=IY k _ _ _ h;unfold sQ iG at hs;simp only at hs;split at hs
   ·obtain⟨l1,e1⟩:=Ju hs;rw[e1]at hs;have h2:=sU hs;have h3:=sU e1;omega
   ·cases hs
theorem Cy (h:(aR size st).2=M l'):∃l,st=M l/\l'.length+4<=l.length:=by
 unfold aR at h;split at h
 ·cases h
 ·rename_i l1 e1;obtain⟨l,rfl⟩:=Ju e1;refine⟨l,rfl,?_⟩;have h3:=sU e1;cases hr:uQ size (aU 0 4096 (M l)).1.toNat [] l1 with
  |none=>rw[hr]at h;cases h
  |some q=>
   rw[hr]at h;simp only[Jp,iG]at h;split at h
   ·simp only[Option.some.injEq]at h;subst h;have:=IY _ _ _ _ hr;omega
   ·cases h
theorem IZ:∀(k:Nat) (out:List Ed) (l:List UInt8) (q:List Ed×List UInt8),xH size k out l=M q->q.2.length<=l.length
 |0,out,l,q,h=>by simp[xH]at h;subst h;exact Nat.le_refl _
 |k+1,out,l,q,h=>by
  rw[xH]at h;cases hs:(uR size l).2 with
  |none=>rw[hs]at h;cases h
  |some l'=>
   rw[hs]at h;have h1:=IZ k _ _ _ h;unfold uR at hs;simp only at hs;obtain⟨l2,e2,h2⟩:=Cy hs;obtain⟨l3,e3,h3⟩:=Cy e2;have h4:=sU e3;omega
theorem Tv (h:(aY size st).2=M l'):∃l,st=M l/\l'.length+4<=l.length:=by
 unfold aY at h;split at h
 ·cases h
 ·rename_i l1 e1;obtain⟨l,rfl⟩:=Ju e1;refine⟨l,rfl,?_⟩;have h3:=sU e1;cases hr:xH size (aU 0 50 (M l)).1.toNat [] l1 with
  |none=>rw[hr]at h;cases h
  |some q=>
   rw[hr]at h;simp only[Zu,Option.some.injEq]at h;subst h;have:=IZ _ _ _ _ hr;omega
theorem OC (h:(aR size st).2=M l'):sz (aR size st).1<=5000:=by
 unfold aR at h ⊢;split at h
 ·cases h
 ·rename_i l1 e1;cases hr:uQ size (aU 0 4096 st).1.toNat [] l1 with
  |none=>rw[hr]at h;cases h
  |some q=>
   rw[hr]at h;simp only[Jp,iG]at h ⊢;split at h
   ·rename_i h1;simpa using h1
   ·cases h
theorem back_nn (r:Sn):∀e∈(kD size r).1.map wL,0<=e.2.1:=by
 intro e he;obtain⟨e',Ld,rfl⟩:=List.mem_map.1 he;exact(Cq ((wN size r).1 e' Ld).2.2.1).1
theorem xk (r:Sn):∀e∈(kD size r).1.map qL,0<=e.2.1:=by
 intro e he;obtain⟨e',Ld,rfl⟩:=List.mem_map.1 he;exact(Cq ((wN size r).1 e' Ld).2.1.1).1
theorem T_eq:(Tt buf (M l)).map (fun q=>(q.1,Ox q.2 depth))=
 (let e:=bG (l,false)
  let d:=bG e.2
  let b:=bG d.2
  let t:=dG b.1 b.2
  let u:=kD b.1 t.2
  let r:=kD b.1 u.2
  if r.2.2=false/\r.2.1=[]/\1<=e.1/\e.1<=999/\d.1<=1000000000/\b.1<=buf/\lK (u.1.map wL) (sz t.1)=true/\lK (r.1.map qL) (sz t.1)=true then M (e.1,(t.1,u.1.take depth,r.1.take depth,d.1,b.1))else O):=by
 have key:∀x:Option (Int×dF),x=O->x.map (fun q=>(q.1,Ox q.2 depth))=O:=fun x h=>by rw[h];rfl
 simp only
 have stop:∀ {st:Option (List UInt8)},(aY (aU 0 buf (aU 0 1000000000 (aU 1 999 st).2).2).1 (aY (aU 0 buf (aU 0 1000000000 (aU 1 999 st).2).2).1 (aR (aU 0 buf (aU 0 1000000000 (aU 1 999 st).2).2).1 (aU 0 buf (aU 0 1000000000 (aU 1 999 st).2).2).2).2).2).2=O->Tt buf st=O:=fun {st} h=>by
  unfold Tt;simp only;rw[h,Jt,Jt,Jt]
 cases h1:(aU 1 999 (M l)).2 with
 |none=>
  rw[key _ (stop (by rw[h1];rfl))];rcases uV.1 h1 with h|⟨-,h,h2⟩
  ·have hb:(bG (bG (l,false)).2).2.2=true:=by rw[zX h]
   have gG:(bG (bG (bG (l,false)).2).2).2.2=true:=by rw[zX hb]
   rw[if_neg];rintro⟨k,-⟩;rw[nY (nY (lQ gG))]at k;cases k
  ·rw[if_neg];rintro⟨-,-,k1,k2,-⟩;rw[h]at k1 k2;simp only at k1 k2;omega
 |some l1=>
  obtain⟨e1,e2,e3⟩:=uV.2 l1 h1;rw[e1];simp only;cases h2:(aU 0 1000000000 (M l1)).2 with
  |none=>
   rw[key _ (stop (by rw[h1,h2];rfl))];rcases uV.1 h2 with h|⟨-,h,h3⟩
   ·have gG:(bG (bG (l1,false)).2).2.2=true:=by rw[zX h]
    rw[if_neg];rintro⟨k,-⟩;rw[nY (nY (lQ gG))]at k;cases k
   ·have:=kU l1;rw[if_neg];rintro⟨-,-,-,-,k1,-⟩;rw[h]at k1;simp only at k1;omega
  |some l2=>
   obtain⟨d1,d2,d3⟩:=uV.2 l2 h2;rw[d1];simp only;cases h3:(aU 0 buf (M l2)).2 with
   |none=>
    rw[key _ (stop (by rw[h1,h2,h3];rfl))];rcases uV.1 h3 with h|⟨-,h,h4⟩
    ·rw[if_neg];rintro⟨k,-⟩;rw[nY (nY (lQ h))]at k;cases k
    ·have:=kU l2;rw[if_neg];rintro⟨-,-,-,-,-,k1,-⟩;rw[h]at k1;simp only at k1;omega
   |some l3=>
    obtain⟨b1,b2,b3⟩:=uV.2 l3 h3;rw[b1];simp only;obtain⟨p1,p2⟩:=xD (size:=(aU 0 buf (M l2)).1) (l:=l3);cases h4:(aR (aU 0 buf (M l2)).1 (M l3)).2 with
    |none=>
     rw[key _ (stop (by rw[h1,h2,h3,h4];rfl)),if_neg];rintro⟨k,-⟩;rw[nY (nY (p2 h4))]at k;cases k
    |some l4=>
     have jT:=OC h4;rw[p1 l4 h4];simp only;obtain⟨u1,u2⟩:=Yf (size:=(aU 0 buf (M l2)).1) (l:=l4);cases h5:(aY (aU 0 buf (M l2)).1 (M l4)).2 with
     |none=>
      rw[key _ (stop (by rw[h1,h2,h3,h4,h5];rfl)),if_neg];rintro⟨k,-,-,-,-,-,k2,-⟩;rcases u2 h5 with h|⟨e,he,h⟩
      ·rw[nY h]at k;cases k
      ·rw[AJ _ _ jT (back_nn _) ⟨wL e,List.mem_map_of_mem he,h⟩]at k2;cases k2
     |some l5=>
      obtain⟨u3,u4⟩:=u1 l5 h5;rw[u3];simp only;obtain⟨r1,r2⟩:=Yf (size:=(aU 0 buf (M l2)).1) (l:=l5);cases h6:(aY (aU 0 buf (M l2)).1 (M l5)).2 with
      |none=>
       rw[key _ (stop (by rw[h1,h2,h3,h4,h5,h6])),if_neg];rintro⟨k,-,-,-,-,-,-,k2⟩;rcases r2 h6 with h|⟨e,he,h⟩
       ·rw[h]at k;cases k
       ·rw[AJ _ _ jT (xk _) ⟨qL e,List.mem_map_of_mem he,h⟩]at k2;cases k2
      |some l6=>
       obtain⟨r3,r4⟩:=r1 l6 h6;rw[r3];simp only;unfold Tt;simp only;rw[h1,h2,h3,h4,h5,h6]
       have f1:pE (sz (aR (aU 0 buf (M l2)).1 (M l3)).1) ((aY (aU 0 buf (M l2)).1 (M l4)).1.map Bc)=lK ((aY (aU 0 buf (M l2)).1 (M l4)).1.map wL) (sz (aR (aU 0 buf (M l2)).1 (M l3)).1):=by
        rw[Qc (fun e he=>by obtain⟨e',Ld,rfl⟩:=List.mem_map.1 he;exact u4 e' Ld),List.map_map];rfl
       have f2:=Qc (n:=sz (aR (aU 0 buf (M l2)).1 (M l3)).1) r4;rw[f1,f2];generalize lK ((aY (aU 0 buf (M l2)).1 (M l4)).1.map wL) (sz (aR (aU 0 buf (M l2)).1 (M l3)).1)=F1;generalize lK ((aY (aU 0 buf (M l2)).1 (M l5)).1.map qL) (sz (aR (aU 0 buf (M l2)).1 (M l3)).1)=F2;cases F1 with
       |false=>rw[if_neg (by simp)];cases F2<;>rfl
       |true=>
        cases F2 with
        |false=>rw[if_neg (by simp)];rfl
        |true=>
         cases l6 with
         |nil=>rw[if_pos (by refine⟨?_,?_,e2,e3,d3,b3,?_,?_⟩<;>trivial)];rfl
         |cons x l6=>rw[if_neg (by simp)];rfl
theorem T_len {x:Int×dF}(h:Tt buf (M l)=M x):24<=l.length:=by
 unfold Tt at h;simp only at h;split at h
 ·cases h
 ·rename_i l0 h0;unfold iG at h0
  repeat' split at h0
  all_goals first|cases h0;done|skip
  obtain⟨l1,e1,k1⟩:=Tv h0;obtain⟨l2,e2,k2⟩:=Tv e1;obtain⟨l3,e3,k3⟩:=Cy e2;obtain⟨l4,e4⟩:=Ju e3;obtain⟨l5,e5⟩:=Ju e4;rw[e4]at e3;rw[e5]at e4;have k4:=sU e3;have k5:=sU e4;have k6:=sU e5;omega
theorem xu {s:ByteArray}(hz:s.size≠0):jG s buf depth=(yB s.data.toList buf).map (fun q=>(q.1,Ox q.2 depth)):=by
 have hs:s.size=s.data.toList.length:=by rw[Array.length_toList];rfl
 unfold jG;rw[if_neg hz,hs,rck_T];generalize s.data.toList=L;unfold jL;by_cases h1:L.length<29\/L.head?≠M 75
 ·rw[if_pos h1];by_cases h4:L.length<4
  ·rw[if_pos h4];rfl
  ·rw[if_neg h4];split
   ·rfl
   ·rename_i body hb;split at hb
    ·simp only[Option.some.injEq]at hb;subst hb;cases hl:sP 75 (M (L.take (L.length-4)))with
     |none=>rw[T_none];rfl
     |some l=>
      cases hr:Tt buf (M l)with
      |none=>rfl
      |some x=>
       exfalso;have hlen:=T_len hr
       have Pt:L.take (L.length-4)=75::l:=by
        cases hb:L.take (L.length-4)with
        |nil=>rw[hb]at hl;simp[sP]at hl
        |cons y l0=>
         rw[hb]at hl;unfold sP at hl;simp only at hl;split at hl
         ·rename_i hy;simp only[Option.some.injEq]at hl;rw[hy,hl]
         ·cases hl
       have Mt:=congrArg List.length Pt;rw[List.length_take]at Mt;simp only[List.length_cons]at Mt;rcases h1 with h1|h1
       ·omega
       ·apply h1;cases L with
        |nil=>simp at Pt
        |cons y L=>
         obtain⟨n,hn⟩:∃n,(y::L).length-4=n+1:=⟨(y::L).length-4-1,by omega⟩;rw[hn]at Pt;simp only[List.take_succ_cons,List.cons.injEq]at Pt;simp[Pt.1]
    ·cases hb
 ·rw[if_neg h1];have h29:29<=L.length:=by omega
  have hh:L.head?=M 75:=by
   refine Classical.byContradiction fun e=>h1 (Or.inr e)
  rw[if_neg (show ¬L.length<4 by omega)];simp only
  have IB:∃l,L.take (L.length-4)=75::l:=by
   cases L with
   |nil=>simp at h29
   |cons x l=>
    simp at hh;subst hh;refine⟨l.take (l.length+1-4-1),?_⟩;obtain⟨n,hn⟩:∃n,l.length+1-4=n+1:=⟨l.length+1-4-1,by simp at h29;omega⟩;simp only[List.length_cons];rw[hn];simp
  obtain⟨l,hl⟩:=IB;by_cases hc:gX (L.drop (L.length-4))=lG (L.take (L.length-4))
  ·rw[if_pos hc];simp only;rw[hl];have e1:sP 75 (M (75::l))=M l:=by simp[sP]
   rw[e1,T_eq];simp only[List.drop_succ_cons,List.drop_zero];rw[hl]at hc;simp only[hc,true_and]
  ·rw[if_neg hc,if_neg (fun k=>hc k.1)];rfl
theorem Tw (a b c d:UInt8):vW ((a.toNat:Int)*16777216+(b.toNat:Int)*65536+(c.toNat:Int)*256+(d.toNat:Int))=[a,b,c,d]:=by
 have ha:=a.toNat_lt;have hb:=b.toNat_lt;have hc:=c.toNat_lt;have hd:=d.toNat_lt;have key:∀(x:UInt8) (n:Int),n=(x.toNat:Int)->UInt8.ofNat n.toNat=x:=fun x n e=>by rw[e,Int.toNat_natCast];exact UInt8.ofNat_toNat
 unfold vW Bw;simp only[List.map_cons,List.map_nil];rw[key a _ (by omega),key b _ (by omega),key c _ (by omega),key d _ (by omega)]
theorem be_u32 {a b c d:UInt8}{n:Int}(h:bN n):gX [a,b,c,d]=n↔[a,b,c,d]=vW n:=by
 have e:gX [a,b,c,d]=(a.toNat:Int)*16777216+(b.toNat:Int)*65536+(c.toNat:Int)*256+(d.toNat:Int):=rfl;constructor
 ·intro k;rw[e]at k;rw[<-k,Tw]
 ·intro k;rw[k];obtain⟨h0,h1⟩:=h
  have key:∀(x:Int),0<=x->x<256->((UInt8.ofNat x.toNat).toNat:Int)=x:=fun x k0 k1=>by
   rw[UInt8.toNat_ofNat'];omega
  unfold vW Bw;simp only[List.map_cons,List.map_nil];show((UInt8.ofNat (n / 16777216).toNat).toNat:Int)*16777216+((UInt8.ofNat (n / 65536 % 256).toNat).toNat:Int)*65536+((UInt8.ofNat (n / 256 % 256).toNat).toNat:Int)*256+((UInt8.ofNat (n % 256).toNat).toNat:Int)=n;rw[key _ (by omega) (by omega),key _ (by omega) (by omega),key _ (by omega) (by omega),key _ (by omega) (by omega)];omega
theorem OD {t c:List UInt8}(hc:c.length=4):jL (t++c)=if gX c=lG t then M t else O:=by
 have hl:(t++c).length-4=t.length:=by rw[List.length_append,hc];omega
 unfold jL;rw[hl,List.take_left,List.drop_left,if_neg (by rw[List.length_append,hc];omega)]
theorem WH (cr:List UInt8->Int)(E_:∀l,bN (cr l))(x0 x1 x2 x3 x4 x5 x6 x7 x8 x9 AL AO AP AQ Vj Vk Vl Vm JA JB JC JD:UInt8)(rest:List UInt8):
 (match (if gX [JA,JB,JC,JD]=cr [x0,x1,x2,x3,x4,x5,x6,x7,x8,x9,AL,AO,AP,AQ,Vj,Vk,Vl,Vm]then M [x0,x1,x2,x3,x4,x5,x6,x7,x8,x9,AL,AO,AP,AQ,Vj,Vk,Vl,Vm]else O:Option (List UInt8))with
  |none=>O
  |some t=>if t.headD 0=74 then M (gX (t.drop 2),(((t.drop 1).headD 0).toNat:Int),gX (t.drop 6),gX (t.drop 10),gX (t.drop 14))else O)=
 if [x0,x1,x2,x3,x4,x5,x6,x7,x8,x9,AL,AO,AP,AQ,Vj,Vk,Vl,Vm]++ [JA,JB,JC,JD]=[74,x1,x2,x3,x4,x5,x6,x7,x8,x9,AL,AO,AP,AQ,Vj,Vk,Vl,Vm]++vW (cr [74,x1,x2,x3,x4,x5,x6,x7,x8,x9,AL,AO,AP,AQ,Vj,Vk,Vl,Vm])then M (gX (x2::x3::x4::x5::x6::x7::x8::x9::AL::AO::AP::AQ::Vj::Vk::Vl::Vm::JA::JB::JC::JD::rest),(x1.toNat:Int),gX (x6::x7::x8::x9::AL::AO::AP::AQ::Vj::Vk::Vl::Vm::JA::JB::JC::JD::rest),gX (AL::AO::AP::AQ::Vj::Vk::Vl::Vm::JA::JB::JC::JD::rest),gX (Vj::Vk::Vl::Vm::JA::JB::JC::JD::rest))else O:=by
 by_cases h0:x0=74
 ·subst h0;have hc:=be_u32 (a:=JA) (b:=JB) (c:=JC) (d:=JD) (E_ [74,x1,x2,x3,x4,x5,x6,x7,x8,x9,AL,AO,AP,AQ,Vj,Vk,Vl,Vm]);by_cases h1:gX [JA,JB,JC,JD]=cr [74,x1,x2,x3,x4,x5,x6,x7,x8,x9,AL,AO,AP,AQ,Vj,Vk,Vl,Vm]
  ·rw[if_pos h1,<-hc.1 h1,if_pos rfl];simp only[List.headD_cons,if_true];rfl
  ·rw[if_neg h1,if_neg];intro k;exact h1 (hc.2 (List.append_cancel_left k))
 ·rw[if_neg (c:=_++_=_++_)]
  ·by_cases h1:gX [JA,JB,JC,JD]=cr [x0,x1,x2,x3,x4,x5,x6,x7,x8,x9,AL,AO,AP,AQ,Vj,Vk,Vl,Vm]
   ·rw[if_pos h1];simp only[List.headD_cons];exact if_neg h0
   ·rw[if_neg h1]
  ·intro k;exact h0 (List.cons.inj k).1
theorem xw (l:List UInt8)(h:22<=l.length):kN l=if l.take 22=(dL (((l.drop 1).headD 0).toNat:Int) (gX (l.drop 2)) (gX (l.drop 6)) (gX (l.drop 10)) (gX (l.drop 14))).data.toList then M (gX (l.drop 2),(((l.drop 1).headD 0).toNat:Int),gX (l.drop 6),gX (l.drop 10),gX (l.drop 14))else O:=by
 obtain⟨x0,l,rfl⟩:=List.exists_cons_of_length_pos (l:=l) (by omega);simp only[List.length_cons]at h;obtain⟨x1,l,rfl⟩:=List.exists_cons_of_length_pos (l:=l) (by omega);simp only[List.length_cons]at h;obtain⟨x2,l,rfl⟩:=List.exists_cons_of_length_pos (l:=l) (by omega);simp only[List.length_cons]at h;obtain⟨x3,l,rfl⟩:=List.exists_cons_of_length_pos (l:=l) (by omega);simp only[List.length_cons]at h;obtain⟨x4,l,rfl⟩:=List.exists_cons_of_length_pos (l:=l) (by omega);simp only[List.length_cons]at h;obtain⟨x5,l,rfl⟩:=List.exists_cons_of_length_pos (l:=l) (by omega);simp only[List.length_cons]at h;obtain⟨x6,l,rfl⟩:=List.exists_cons_of_length_pos (l:=l) (by omega);simp only[List.length_cons]at h;obtain⟨x7,l,rfl⟩:=List.exists_cons_of_length_pos (l:=l) (by omega);simp only[List.length_cons]at h;obtain⟨x8,l,rfl⟩:=List.exists_cons_of_length_pos (l:=l) (by omega);simp only[List.length_cons]at h;obtain⟨x9,l,rfl⟩:=List.exists_cons_of_length_pos (l:=l) (by omega);simp only[List.length_cons]at h;obtain⟨AL,l,rfl⟩:=List.exists_cons_of_length_pos (l:=l) (by omega);simp only[List.length_cons]at h;obtain⟨AO,l,rfl⟩:=List.exists_cons_of_length_pos (l:=l) (by omega);simp only[List.length_cons]at h;obtain⟨AP,l,rfl⟩:=List.exists_cons_of_length_pos (l:=l) (by omega);simp only[List.length_cons]at h;obtain⟨AQ,l,rfl⟩:=List.exists_cons_of_length_pos (l:=l) (by omega);simp only[List.length_cons]at h;obtain⟨Vj,l,rfl⟩:=List.exists_cons_of_length_pos (l:=l) (by omega);simp only[List.length_cons]at h;obtain⟨Vk,l,rfl⟩:=List.exists_cons_of_length_pos (l:=l) (by omega);simp only[List.length_cons]at h;obtain⟨Vl,l,rfl⟩:=List.exists_cons_of_length_pos (l:=l) (by omega);simp only[List.length_cons]at h;obtain⟨Vm,l,rfl⟩:=List.exists_cons_of_length_pos (l:=l) (by omega);simp only[List.length_cons]at h;obtain⟨JA,l,rfl⟩:=List.exists_cons_of_length_pos (l:=l) (by omega);simp only[List.length_cons]at h;obtain⟨JB,l,rfl⟩:=List.exists_cons_of_length_pos (l:=l) (by omega);simp only[List.length_cons]at h;obtain⟨JC,l,rfl⟩:=List.exists_cons_of_length_pos (l:=l) (by omega);simp only[List.length_cons]at h;obtain⟨JD,l,rfl⟩:=List.exists_cons_of_length_pos (l:=l) (by omega);simp only[List.length_cons]at h;generalize l=rest at*;have hb:∀(a b c d:UInt8) (l:List UInt8),gX (a::b::c::d::l)=(a.toNat:Int)*16777216+(b.toNat:Int)*65536+(c.toNat:Int)*256+(d.toNat:Int):=fun _ _ _ _ _=>rfl
 have ht:(x0::x1::x2::x3::x4::x5::x6::x7::x8::x9::AL::AO::AP::AQ::Vj::Vk::Vl::Vm::JA::JB::JC::JD::rest).take 22=[x0,x1,x2,x3,x4,x5,x6,x7,x8,x9,AL,AO,AP,AQ,Vj,Vk,Vl,Vm]++ [JA,JB,JC,JD]:=rfl;unfold kN;rw[if_neg (by simp only[List.length_cons];omega),ht,OD rfl];simp only[List.drop_succ_cons,List.drop_zero,List.headD_cons];rw[nu];have hq:UInt8.ofNat ((x1.toNat:Int)).toNat=x1:=by rw[Int.toNat_natCast];exact UInt8.ofNat_toNat
 have hrec:FP (x1.toNat:Int) (gX (x2::x3::x4::x5::x6::x7::x8::x9::AL::AO::AP::AQ::Vj::Vk::Vl::Vm::JA::JB::JC::JD::rest)) (gX (x6::x7::x8::x9::AL::AO::AP::AQ::Vj::Vk::Vl::Vm::JA::JB::JC::JD::rest)) (gX (AL::AO::AP::AQ::Vj::Vk::Vl::Vm::JA::JB::JC::JD::rest)) (gX (Vj::Vk::Vl::Vm::JA::JB::JC::JD::rest))=[74,x1,x2,x3,x4,x5,x6,x7,x8,x9,AL,AO,AP,AQ,Vj,Vk,Vl,Vm]:=by
  unfold FP;rw[hb,hb,hb,hb,Tw,Tw,Tw,Tw,hq];rfl
 rw[hrec];exact WH lG Dm x0 x1 x2 x3 x4 x5 x6 x7 x8 x9 AL AO AP AQ Vj Vk Vl Vm JA JB JC JD rest
theorem AR {m:dF}{q a b c most:Int}(hk:(q=73/\b=m.2.2.2.2)\/(q=68/\c=0)\/((q=85\/q=82)/\a=0/\b=0/\c=0)):oZ m q a b c most=(eO m q a b c most depth).2:=by
 unfold oZ eO;rcases hk with⟨rfl,rfl⟩|⟨rfl,rfl⟩|⟨rfl|rfl,rfl,rfl,rfl⟩
 ·rw[if_pos rfl,if_pos rfl];unfold FX tQ qW;by_cases h1:a<0\/sz m.1<a
  ·rw[if_pos h1,if_pos (by simp;omega)]
  ·rw[if_neg h1,if_neg (by simp;omega)];split
   ·rfl
   ·split
    ·rfl
    ·rw[if_neg (by simp)];split<;>rfl
 ·rw[if_neg (by decide),if_pos rfl,if_neg (by decide),if_pos rfl];unfold Zk zR qW;by_cases h1:a<0\/b<1\/sz m.1<a\/sz m.1-a<b
  ·rw[if_pos h1,if_pos (by simp;omega)]
  ·rw[if_neg h1,if_neg (by simp;omega),if_neg (by simp)];split<;>rfl
 ·rw[if_neg (by decide),if_neg (by decide),if_pos rfl,if_neg (by decide),if_neg (by decide),if_pos rfl];unfold Vf uF Bh;cases m.2.1 with
  |nil=>rfl
  |cons e l=>
   simp only;rw[if_neg (by simp)];split<;>rfl
 ·rw[if_neg (by decide),if_neg (by decide),if_neg (by decide),if_pos rfl,if_neg (by decide),if_neg (by decide),if_neg (by decide)];unfold Vg uG Bh;cases m.2.2.1 with
  |nil=>rfl
  |cons e l=>
   simp only;rw[if_neg (by simp)];split<;>rfl
theorem rec_eq (m:dF)(l:List UInt8)(buf:Int)(depth:Nat):zC m l buf depth=Ol m l buf depth:=by
 unfold zC Ol;by_cases h:l.length<22
 ·rw[if_pos h];have:kN l=O:=by unfold kN;rw[if_pos h]
  rw[this]
 ·rw[if_neg h,xw l (by omega)];simp only;generalize (((l.drop 1).headD 0).toNat:Int)=q;generalize gX (l.drop 6)=a;generalize gX (l.drop 10)=b;generalize gX (l.drop 14)=c;by_cases hd:gX (l.drop 2)=m.2.2.2.1+1
  ·rw[hd];by_cases hr:l.take 22=(dL q (m.2.2.2.1+1) a b c).data.toList
   ·rw[if_pos hr];simp only[ne_eq,not_true_eq_false,if_false,hr,true_and];by_cases hm:oZ m q a b c 5000=0
    ·have hk:(q=73/\b=m.2.2.2.2)\/(q=68/\c=0)\/((q=85\/q=82)/\a=0/\b=0/\c=0):=by
      have Ay:=hm;unfold oZ at Ay;split at Ay
      ·rename_i e;obtain⟨k,-⟩:=Pz (depth:=depth) Ay;exact Or.inl ⟨e,k.2.2.2.2.2.1⟩
      ·split at Ay
       ·rename_i e;obtain⟨k,-⟩:=Qa (depth:=depth) Ay;exact Or.inr (Or.inl ⟨e,k.2.2.2.1⟩)
       ·split at Ay
        ·rename_i e;obtain⟨_,_,_,k,-⟩:=Jj (depth:=depth) Ay;exact Or.inr (Or.inr ⟨Or.inl e,k⟩)
        ·split at Ay
         ·rename_i e;obtain⟨_,_,_,k,-⟩:=Jk (depth:=depth) Ay;exact Or.inr (Or.inr ⟨Or.inr e,k⟩)
         ·omega
     have hc:=AR (most:=5000) (depth:=depth) hk;rw[hm]at hc;rw[if_neg (by simp[hm]),<-hc];by_cases hb:q=73/\buf<m.2.2.2.2+c
     ·rw[if_pos hb,if_neg];rintro⟨ho,-⟩;unfold nH at ho;obtain⟨rfl,hb⟩:=hb;simp at ho;omega
     ·rw[if_neg hb,if_pos];refine⟨?_,rfl⟩;unfold nH;rcases hk with⟨rfl,rfl⟩|⟨rfl,rfl⟩|⟨rfl|rfl,rfl,rfl,rfl⟩
      ·simp;omega
      ·simp
      ·simp
      ·simp
    ·rw[if_pos hm,if_neg];rintro⟨ho,hc⟩;apply hm;rw[AR (depth:=depth) ?_,hc];unfold nH at ho;simp only[Bool.or_eq_true,Bool.and_eq_true,beq_iff_eq,decide_eq_true_eq]at ho;rcases ho with(⟨⟨h1,h2⟩,-⟩|⟨h1,h2⟩)|⟨⟨⟨h1,h2⟩,h3⟩,h4⟩
     ·exact Or.inl ⟨h1,h2⟩
     ·exact Or.inr (Or.inl ⟨h1,h2⟩)
     ·exact Or.inr (Or.inr ⟨h1,h2,h3,h4⟩)
   ·rw[if_neg hr,if_neg (fun k=>hr k.1)]
  ·refine Eq.trans ?_ (if_neg (fun k=>hd k.2.1)).symm;by_cases hr:l.take 22=(dL q (gX (l.drop 2)) a b c).data.toList
   ·rw[if_pos hr];simp only;rw[if_pos hd]
   ·rw[if_neg hr]
theorem OE (buf:Int)(depth:Nat):∀(k:Nat) (m:dF) (l:List UInt8),yC buf depth k m l=iK buf depth k m l
 |0,m,l=>rfl
 |k+1,m,l=>by
  unfold yC iK;rw[rec_eq];cases Ol m l buf depth with
  |none=>rfl
  |some m'=>simp only[OE buf depth k]
end Go.Proofs.YtfplgfodoiiobaaGreatDoor
