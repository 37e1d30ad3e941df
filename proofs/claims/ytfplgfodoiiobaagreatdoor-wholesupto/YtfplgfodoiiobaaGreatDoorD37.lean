/- JnA (joined). -/
import Derived.Test.YtfplgfodoiiobaaGreatDoorD32
open Option renaming none→O,some→M
namespace Go.Proofs.YtfplgfodoiiobaaGreatDoor
open Go.RowKit
abbrev AdG:=@List.mem_cons_self
abbrev Abq:=@List.drop_succ_cons
abbrev Aav:=@List.exists_cons_of_length_pos
abbrev AdL:=@not_true_eq_false
abbrev Adf:=@Bool.or_eq_true
variable {size lo hi buf:Int}{l l':List UInt8}{st:Option (List UInt8)}{r:Sn}{depth:Nat}
theorem vN (lo hi:Int)(l:List UInt8):aT lo hi (M l)=if l.length<4 then (0,O)else if gZ l<lo\/hi<gZ l then (0,O)else (gZ l,M (l.drop 4)):=rfl
theorem vO:((aT lo hi (M l)).2=O->(bG (l,false)).2.2=true\/(4<=l.length/\bG (l,false)=(gZ l,(l.drop 4,false))/\(gZ l<lo\/hi<gZ l)))/\∀l',(aT lo hi (M l)).2=M l'->bG (l,false)=((aT lo hi (M l)).1,(l',false))/\lo<=(aT lo hi (M l)).1/\(aT lo hi (M l)).1<=hi:=by
 unfold aT bG;by_cases h1:l.length<4
 ·simp[h1]
 ·by_cases h2:gZ l<lo\/hi<gZ l
  ·simp[h1,h2];omega
  ·simp[h1,h2];omega
theorem nG {p:Prop}[Decidable p](h:r.2=true):(eT p r).2=true:=by unfold eT;split<;>simp[h]
theorem rpc_sim:
 ((uG size l).2=O->(eT ((bG (bG (l,false)).2).1<1\/5000<(bG (bG (l,false)).2).1\/size<(bG (l,false)).1+(bG (bG (l,false)).2).1) (bG (bG (l,false)).2).2).2=true)/\
 ∀l',(uG size l).2=M l'->eT ((bG (bG (l,false)).2).1<1\/5000<(bG (bG (l,false)).2).1\/size<(bG (l,false)).1+(bG (bG (l,false)).2).1) (bG (bG (l,false)).2).2=(l',false)/\(uG size l).1=((bG (l,false)).1,(bG (bG (l,false)).2).1):=by
 have dY:=lK l;have fV:=lK (l.drop 4);by_cases h1:l.length<4
 ·have e:bG (l,false)=(0,(l,true)):=by unfold bG;rw[Aad (Aab h1)]
  have e2:bG ((0:Int),((l,true):Sn)).2=(0,(l,true)):=Aq rfl;have er:aT 0 size (M l)=(0,O):=by rw[vN,Aad h1]
  refine⟨fun _=>?_,fun l' h=>?_⟩
  ·rw[e,e2];exact nG rfl
  ·unfold uG at h;rw[er]at h;simp[aT,iP]at h
 ·have e:bG (l,false)=(gZ l,(l.drop 4,false)):=by unfold bG;rw[Aaa (by simp;omega)]
  rw[e];simp only;by_cases h2:(l.drop 4).length<4
  ·have e2:bG (l.drop 4,false)=(0,(l.drop 4,true)):=(by unfold bG;rw[Aad (Aab h2)]);rw[e2];refine⟨fun _=>nG rfl,fun l' h=>?_⟩;exfalso;unfold uG at h;by_cases h3:gZ l<0\/size<gZ l
   ·have er:aT 0 size (M l)=(0,O):=(by rw[vN,Aaa h1,Aad h3]);rw[er]at h;simp[aT,iP]at h
   ·have er:aT 0 size (M l)=(gZ l,M (l.drop 4)):=(by rw[vN,Aaa h1,Aaa h3]);have er2:aT 1 5000 (M (l.drop 4))=(0,O):=(by rw[vN,Aad h2]);rw[er]at h;simp only at h;rw[er2]at h;simp[iP]at h
  ·have e2:bG (l.drop 4,false)=(gZ (l.drop 4),((l.drop 4).drop 4,false)):=(by unfold bG;rw[Aaa (by simp only[AaD,false_or];omega)]);rw[e2];simp only;unfold uG;by_cases h3:gZ l<0\/size<gZ l
   ·have er:aT 0 size (M l)=(0,O):=(by rw[vN,Aaa h1,Aad h3]);rw[er];refine⟨fun _=>?_,fun l' h=>?_⟩
    ·unfold eT;by_cases h5:gZ (l.drop 4)<1
     ·rw[Aad (Aac h5)]
     ·rw[Aad (by omega)]
    ·simp[aT,iP]at h
   ·have er:aT 0 size (M l)=(gZ l,M (l.drop 4)):=(by rw[vN,Aaa h1,Aaa h3]);rw[er];simp only;by_cases h4:gZ (l.drop 4)<1\/5000<gZ (l.drop 4)
    ·have er2:aT 1 5000 (M (l.drop 4))=(0,O):=(by rw[vN,Aaa h2,Aad h4]);rw[er2];refine⟨fun _=>?_,fun l' h=>?_⟩
     ·unfold eT;rw[Aad (by omega)]
     ·simp[iP]at h
    ·have er2:aT 1 5000 (M (l.drop 4))=(gZ (l.drop 4),M ((l.drop 4).drop 4)):=(by rw[vN,Aaa h2,Aaa h4]);rw[er2];simp only;by_cases h6:gZ l+gZ (l.drop 4)<=size
     ·refine⟨fun h=>?_,fun l' h=>?_⟩
      ·simp[iP,h6]at h
      ·unfold eT;rw[Aaa (by omega)];simp only[iP,h6,decide_true,if_true,AaU]at h;exact⟨by rw[h],by first|rfl|trivial⟩
     ·refine⟨fun h=>?_,fun l' h=>?_⟩
      ·unfold eT;rw[Aad (by omega)]
      ·simp[iP,h6]at h
theorem VR (size:Int):∀(k:Nat) (out:List (Int×Int)) (l:List UInt8),(∀q,vK size k out l=M q->∃t,q.1=out++t/\uR k size (l,false)=(t,(q.2,false)))/\(vK size k out l=O->(uR k size (l,false)).2.2=true)
 |0,out,l=>⟨fun q h=>by simp[vK]at h;subst h;exact⟨[],by simp,rfl⟩,fun h=>by simp[vK]at h⟩
 |k+1,out,l=>by
  obtain⟨h1,h2⟩:=rpc_sim (size:=size) (l:=l);rw[vK];unfold uR;rw[Aaa (by simp)];simp only;cases hs:(uG size l).2 with
  |none=>
   refine⟨fun q h=>by simp at h,fun _=>?_⟩;have:=h1 hs;rw[zC _ _ _ this];exact this
  |some l'=>
   obtain⟨e1,e2⟩:=h2 l' hs;rw[e1];obtain⟨i1,i2⟩:=VR size k (out++ [(uG size l).1]) l';simp only;refine⟨fun q h=>?_,fun h=>i2 h⟩;obtain⟨t,t1,t2⟩:=i1 q h;refine⟨(uG size l).1::t,by rw[t1];simp,?_⟩;rw[t2,e2]
theorem xI:(∀l',(aR size (M l)).2=M l'->dO size (l,false)=((aR size (M l)).1,(l',false)))/\((aR size (M l)).2=O->(dO size (l,false)).2.2=true):=by
 have hn:=vO (lo:=0) (hi:=4096) (l:=l);have hb:=lK l;unfold aR dO;simp only;cases hs:(aT 0 4096 (M l)).2 with
 |none=>
  refine⟨fun l' h=>by simp at h,fun _=>?_⟩;rcases hn.1 hs with h|⟨-,h,h2⟩
  ·rw[zC _ _ _ (nG h)];exact nG (nG h)
  ·rw[h];simp only;have aAt:(eT (4096<gZ l) ((l.drop 4,false):Sn)).2=true:=(by unfold eT;rw[Aad (by omega)]);rw[zC _ _ _ aAt];exact nG aAt
 |some l1=>
  obtain⟨e1,e2,e3⟩:=hn.2 l1 hs;rw[e1];simp only;generalize (aT 0 4096 (M l)).1=N at*;have hg:eT (4096<N) ((l1,false):Sn)=(l1,false):=by unfold eT;rw[Aaa (by omega)]
  rw[hg];obtain⟨i1,i2⟩:=VR size N.toNat [] l1;cases hr:vK size N.toNat [] l1 with
  |none=>
   refine⟨fun l' h=>by simp[Ll]at h,fun _=>nG (i2 hr)⟩
  |some q=>
   obtain⟨t,t1,t2⟩:=i1 q hr;simp only[Acf]at t1;rw[t2];simp only[Ll];subst t1;by_cases h5:sz q.1<=5000
   ·refine⟨fun l' h=>?_,fun h=>by simp[iP,h5]at h⟩;simp only[iP,h5,decide_true,if_true,AaU]at h;unfold eT;rw[Aaa (by omega),h]
   ·refine⟨fun l' h=>by simp[iP,h5]at h,fun _=>?_⟩;unfold eT;rw[Aad (by omega)]
theorem mG (h:r.2=true):(dO size r).2.2=true:=by
 unfold dO;rw[Aq h];simp only;rw[zC _ _ _ (nG rfl)];exact nG (nG rfl)
theorem oO (h:r.2=true):(kJ size r).2.2=true:=by
 unfold kJ;rw[Aq h];simp only;rw[tO _ _ _ (nG rfl)];exact nG rfl
theorem VS (size:Int):∀(k:Nat) (out:List Ed) (l:List UInt8),(∀q,xS size k out l=M q->∃t,q.1=out++t/\xP k size (l,false)=(t,(q.2,false))/\∀e∈t,0<=e.1)/\(xS size k out l=O->(xP k size (l,false)).2.2=true\/∃e∈(xP k size (l,false)).1,5000<e.1)
 |0,out,l=>⟨fun q h=>by simp[xS]at h;subst h;exact⟨[],by simp,rfl,by simp⟩,fun h=>by simp[xS]at h⟩
 |k+1,out,l=>by
  have hn:=vO (lo:=0) (hi:=5000) (l:=l);have hbd:=lK l;rw[xS];unfold xP;rw[Aaa (by simp)];simp only;cases hs:(vL size l).2 with
  |none=>
   refine⟨fun q h=>by simp at h,fun _=>?_⟩;unfold vL at hs;simp only at hs;cases h1:(aT 0 5000 (M l)).2 with
   |none=>
    rcases hn.1 h1 with h|⟨-,h,h2⟩
    ·left;rw[tO _ _ _ (mG (mG h))];exact mG (mG h)
    ·right;rw[h];exact⟨_,AdG,by simp only;omega⟩
   |some l1=>
    obtain⟨e1,-⟩:=hn.2 l1 h1;rw[h1]at hs;rw[e1];simp only;obtain⟨p1,p2⟩:=xI (size:=size) (l:=l1);cases h2:(aR size (M l1)).2 with
    |none=>
     left;have:=p2 h2;rw[tO _ _ _ (mG this)];exact mG this
    |some l2=>
     rw[h2]at hs;rw[p1 l2 h2];simp only;obtain⟨-,q2⟩:=xI (size:=size) (l:=l2);left;have:=q2 hs;rw[tO _ _ _ this];exact this
  |some l3=>
   have Si:=hs;unfold vL at hs;simp only at hs;cases h1:(aT 0 5000 (M l)).2 with
   |none=>rw[h1]at hs;simp[aR,aT]at hs
   |some l1=>
    obtain⟨e1,e2,-⟩:=hn.2 l1 h1;rw[h1]at hs;obtain⟨p1,-⟩:=xI (size:=size) (l:=l1);cases h2:(aR size (M l1)).2 with
    |none=>rw[h2]at hs;simp[aR,aT]at hs
    |some l2=>
     rw[h2]at hs;obtain⟨q1,-⟩:=xI (size:=size) (l:=l2);rw[e1];simp only;rw[p1 l2 h2];simp only;rw[q1 l3 hs];simp only
     have uP:(vL size l).1=((aT 0 5000 (M l)).1,(aR size (M l1)).1,(aR size (M l2)).1):=by
      unfold vL;simp only;rw[h1,h2]
     obtain⟨i1,i2⟩:=VS size k (out++ [(vL size l).1]) l3;refine⟨fun q h=>?_,fun h=>?_⟩
     ·obtain⟨t,t1,t2,t3⟩:=i1 q h;refine⟨(vL size l).1::t,by rw[t1];simp,?_,?_⟩
      ·rw[t2,uP]
      ·intro e he;rcases AaF.1 he with rfl|he
       ·rw[uP];exact e2
       ·exact t3 e he
     ·rcases i2 h with h|⟨e,he,h⟩
      ·exact Aac h
      ·exact Aab ⟨e,AcX _ he,h⟩
theorem AL:(∀l',(bA size (M l)).2=M l'->kJ size (l,false)=((bA size (M l)).1,(l',false))/\∀e∈(bA size (M l)).1,0<=e.1)/\((bA size (M l)).2=O->(kJ size (l,false)).2.2=true\/∃e∈(kJ size (l,false)).1,5000<e.1):=by
 have hn:=vO (lo:=0) (hi:=50) (l:=l);have hb:=lK l;unfold bA kJ;simp only;cases hs:(aT 0 50 (M l)).2 with
 |none=>
  refine⟨fun l' h=>by simp at h,fun _=>Aac ?_⟩;rcases hn.1 hs with h|⟨-,h,h2⟩
  ·rw[tO _ _ _ (nG h)];exact nG h
  ·rw[h];simp only;have aAt:(eT (50<gZ l) ((l.drop 4,false):Sn)).2=true:=(by unfold eT;rw[Aad (by omega)]);rw[tO _ _ _ aAt];exact aAt
 |some l1=>
  obtain⟨e1,e2,e3⟩:=hn.2 l1 hs;rw[e1];simp only;generalize (aT 0 50 (M l)).1=N at*;have hg:eT (50<N) ((l1,false):Sn)=(l1,false):=by unfold eT;rw[Aaa (by omega)]
  rw[hg];obtain⟨i1,i2⟩:=VS size N.toNat [] l1;cases hr:xS size N.toNat [] l1 with
  |none=>exact⟨fun l' h=>by simp[CY]at h,fun _=>i2 hr⟩
  |some q=>
   obtain⟨t,t1,t2,t3⟩:=i1 q hr;simp only[Acf]at t1;rw[t2];simp only[CY];subst t1;exact⟨fun l' h=>by simp only[AaU]at h;rw[h];exact⟨rfl,t3⟩,fun h=>by simp at h⟩
theorem DT:∀(l:List (Int×Int×Int)) (n:Int),n<=5000->(∀e∈l,0<=e.2.1)->(∃e∈l,5000<e.1)->lU l n=false
 | [],_,_,_,h=>by obtain⟨e,he,-⟩:=h;simp at he
 |(p,a,b)::l,n,hn,h0,h=>by
  unfold lU;by_cases h1:n<p+a
  ·rw[Aad h1]
  ·rw[Aaa h1];by_cases h2:5000<n-a+b
   ·rw[Aad h2]
   ·rw[Aaa h2];have ha:=h0 _ AdG;simp only at ha;refine DT l _ (by omega) (fun e he=>h0 e (AcX _ he)) ?_;obtain⟨e,he,h5⟩:=h;rcases AaF.1 he with rfl|he
    ·simp only at h5;omega
    ·exact⟨e,he,h5⟩
def Vf (buf:Int)(st:Option (List UInt8)):Option (Int×dD):=
 let e:=aT 1 999 st
 let d:=aT 0 1000000000 e.2
 let b:=aT 0 buf d.2
 let t:=aR b.1 b.2
 let u:=bA b.1 t.2
 let r:=bA b.1 u.2
 match iP (pY (sz t.1) r.1) (iP (pY (sz t.1) (u.1.map Cb)) (iP (r.2==M []) r.2))with
 |none=>O
 |some _=>M (e.1,(t.1,u.1,r.1,d.1,b.1))
theorem rck_T (l:List UInt8)(buf:Int):yM l buf=match jN l with
 |none=>O
 |some body=>Vf buf (uF 75 (M body)):=by
 unfold yM Vf;cases jN l<;>rfl
theorem Lu (p:Bool):iP p O=O:=by unfold iP;split<;>rfl
theorem T_none (buf:Int):Vf buf O=O:=by
 unfold Vf;simp only[aT,aR,bA,Lu]
theorem uJ (h:(aT lo hi (M l)).2=M l'):l'.length+4<=l.length:=by
 rw[vN]at h;split at h
 ·cases h
 ·split at h
  ·cases h
  ·simp only[AaU]at h;subst h;rw[AaP];omega
theorem Lv (h:(aT lo hi st).2=M l'):∃l,st=M l:=by
 cases st with
 |none=>simp[aT]at h
 |some l=>exact⟨l,rfl⟩
theorem LD:∀(k:Nat) (out:List (Int×Int)) (l:List UInt8) (q:List (Int×Int)×List UInt8),vK size k out l=M q->q.2.length<=l.length
 |0,out,l,q,h=>by simp[vK]at h;subst h;exact Aak _
 |k+1,out,l,q,h=>by
  rw[vK]at h;cases hs:(uG size l).2 with
  |none=>rw[hs]at h;cases h
  |some l'=>
   rw[hs]at h;have h1:=LD k _ _ _ h;unfold uG iP at hs;simp only at hs;split at hs
   ·obtain⟨l1,e1⟩:=Lv hs;rw[e1]at hs;have h2:=uJ hs;have h3:=uJ e1;omega
   ·cases hs
theorem El (h:(aR size st).2=M l'):∃l,st=M l/\l'.length+4<=l.length:=by
 unfold aR at h;split at h
 ·cases h
 ·rename_i l1 e1;obtain⟨l,rfl⟩:=Lv e1;refine⟨l,rfl,?_⟩;have h3:=uJ e1;cases hr:vK size (aT 0 4096 (M l)).1.toNat [] l1 with
  |none=>rw[hr]at h;cases h
  |some q=>
   rw[hr]at h;simp only[Ll,iP]at h;split at h
   ·simp only[AaU]at h;subst h;have:=LD _ _ _ _ hr;omega
   ·cases h
theorem LF:∀(k:Nat) (out:List Ed) (l:List UInt8) (q:List Ed×List UInt8),xS size k out l=M q->q.2.length<=l.length
 |0,out,l,q,h=>by simp[xS]at h;subst h;exact Aak _
 |k+1,out,l,q,h=>by
  rw[xS]at h;cases hs:(vL size l).2 with
  |none=>rw[hs]at h;cases h
  |some l'=>
   rw[hs]at h;have h1:=LF k _ _ _ h;unfold vL at hs;simp only at hs;obtain⟨l2,e2,h2⟩:=El hs;obtain⟨l3,e3,h3⟩:=El e2;have h4:=uJ e3;omega
theorem Vg (h:(bA size st).2=M l'):∃l,st=M l/\l'.length+4<=l.length:=by
 unfold bA at h;split at h
 ·cases h
 ·rename_i l1 e1;obtain⟨l,rfl⟩:=Lv e1;refine⟨l,rfl,?_⟩;have h3:=uJ e1;cases hr:xS size (aT 0 50 (M l)).1.toNat [] l1 with
  |none=>rw[hr]at h;cases h
  |some q=>
   rw[hr]at h;simp only[CY,AaU]at h;subst h;have:=LF _ _ _ _ hr;omega
theorem RL (h:(aR size st).2=M l'):sz (aR size st).1<=5000:=by
 unfold aR at h ⊢;split at h
 ·cases h
 ·rename_i l1 e1;cases hr:vK size (aT 0 4096 st).1.toNat [] l1 with
  |none=>rw[hr]at h;cases h
  |some q=>
   rw[hr]at h;simp only[Ll,iP]at h ⊢;split at h
   ·rename_i h1;simpa using h1
   ·cases h
theorem back_nn (r:Sn):∀e∈(kJ size r).1.map tN,0<=e.2.1:=by
 intro e he;obtain⟨e',Im,rfl⟩:=AaY.1 he;exact(Dy ((wW size r).1 e' Im).2.2.1).1
theorem aAu (r:Sn):∀e∈(kJ size r).1.map pE,0<=e.2.1:=by
 intro e he;obtain⟨e',Im,rfl⟩:=AaY.1 he;exact(Dy ((wW size r).1 e' Im).2.1.1).1
theorem T_eq:(Vf buf (M l)).map (fun q=>(q.1,Qo q.2 depth))=
 (let e:=bG (l,false)
  let d:=bG e.2
  let b:=bG d.2
  let t:=dO b.1 b.2
  let u:=kJ b.1 t.2
  let r:=kJ b.1 u.2
  if r.2.2=false/\r.2.1=[]/\1<=e.1/\e.1<=999/\d.1<=1000000000/\b.1<=buf/\lU (u.1.map tN) (sz t.1)=true/\lU (r.1.map pE) (sz t.1)=true then M (e.1,(t.1,u.1.take depth,r.1.take depth,d.1,b.1))else O):=by
 have key:∀x:Option (Int×dD),x=O->x.map (fun q=>(q.1,Qo q.2 depth))=O:=fun x h=>by rw[h];rfl
 simp only
 have stop:∀ {st:Option (List UInt8)},(bA (aT 0 buf (aT 0 1000000000 (aT 1 999 st).2).2).1 (bA (aT 0 buf (aT 0 1000000000 (aT 1 999 st).2).2).1 (aR (aT 0 buf (aT 0 1000000000 (aT 1 999 st).2).2).1 (aT 0 buf (aT 0 1000000000 (aT 1 999 st).2).2).2).2).2).2=O->Vf buf st=O:=fun {st} h=>by
  unfold Vf;simp only;rw[h,Lu,Lu,Lu]
 cases h1:(aT 1 999 (M l)).2 with
 |none=>
  rw[key _ (stop (by rw[h1];rfl))];rcases vO.1 h1 with h|⟨-,h,h2⟩
  ·have hb:(bG (bG (l,false)).2).2.2=true:=(by rw[Aq h]);have fV:(bG (bG (bG (l,false)).2).2).2.2=true:=(by rw[Aq hb]);rw[Aaa];rintro⟨k,-⟩;rw[oO (oO (mG fV))]at k;cases k
  ·rw[Aaa];rintro⟨-,-,k1,k2,-⟩;rw[h]at k1 k2;simp only at k1 k2;omega
 |some l1=>
  obtain⟨e1,e2,e3⟩:=vO.2 l1 h1;rw[e1];simp only;cases h2:(aT 0 1000000000 (M l1)).2 with
  |none=>
   rw[key _ (stop (by rw[h1,h2];rfl))];rcases vO.1 h2 with h|⟨-,h,h3⟩
   ·have fV:(bG (bG (l1,false)).2).2.2=true:=(by rw[Aq h]);rw[Aaa];rintro⟨k,-⟩;rw[oO (oO (mG fV))]at k;cases k
   ·have:=lK l1;rw[Aaa];rintro⟨-,-,-,-,k1,-⟩;rw[h]at k1;simp only at k1;omega
  |some l2=>
   obtain⟨d1,d2,d3⟩:=vO.2 l2 h2;rw[d1];simp only;cases h3:(aT 0 buf (M l2)).2 with
   |none=>
    rw[key _ (stop (by rw[h1,h2,h3];rfl))];rcases vO.1 h3 with h|⟨-,h,h4⟩
    ·rw[Aaa];rintro⟨k,-⟩;rw[oO (oO (mG h))]at k;cases k
    ·have:=lK l2;rw[Aaa];rintro⟨-,-,-,-,-,k1,-⟩;rw[h]at k1;simp only at k1;omega
   |some l3=>
    obtain⟨b1,b2,b3⟩:=vO.2 l3 h3;rw[b1];simp only;obtain⟨p1,p2⟩:=xI (size:=(aT 0 buf (M l2)).1) (l:=l3);cases h4:(aR (aT 0 buf (M l2)).1 (M l3)).2 with
    |none=>
     rw[key _ (stop (by rw[h1,h2,h3,h4];rfl)),Aaa];rintro⟨k,-⟩;rw[oO (oO (p2 h4))]at k;cases k
    |some l4=>
     have jW:=RL h4;rw[p1 l4 h4];simp only;obtain⟨u1,u2⟩:=AL (size:=(aT 0 buf (M l2)).1) (l:=l4);cases h5:(bA (aT 0 buf (M l2)).1 (M l4)).2 with
     |none=>
      rw[key _ (stop (by rw[h1,h2,h3,h4,h5];rfl)),Aaa];rintro⟨k,-,-,-,-,-,k2,-⟩;rcases u2 h5 with h|⟨e,he,h⟩
      ·rw[oO h]at k;cases k
      ·rw[DT _ _ jW (back_nn _) ⟨tN e,List.mem_map_of_mem he,h⟩]at k2;cases k2
     |some l5=>
      obtain⟨u3,u4⟩:=u1 l5 h5;rw[u3];simp only;obtain⟨r1,r2⟩:=AL (size:=(aT 0 buf (M l2)).1) (l:=l5);cases h6:(bA (aT 0 buf (M l2)).1 (M l5)).2 with
      |none=>
       rw[key _ (stop (by rw[h1,h2,h3,h4,h5,h6])),Aaa];rintro⟨k,-,-,-,-,-,-,k2⟩;rcases r2 h6 with h|⟨e,he,h⟩
       ·rw[h]at k;cases k
       ·rw[DT _ _ jW (aAu _) ⟨pE e,List.mem_map_of_mem he,h⟩]at k2;cases k2
      |some l6=>
       obtain⟨r3,r4⟩:=r1 l6 h6;rw[r3];simp only;unfold Vf;simp only;rw[h1,h2,h3,h4,h5,h6]
       have f1:pY (sz (aR (aT 0 buf (M l2)).1 (M l3)).1) ((bA (aT 0 buf (M l2)).1 (M l4)).1.map Cb)=lU ((bA (aT 0 buf (M l2)).1 (M l4)).1.map tN) (sz (aR (aT 0 buf (M l2)).1 (M l3)).1):=by
        rw[Rn (fun e he=>by obtain⟨e',Im,rfl⟩:=AaY.1 he;exact u4 e' Im),List.map_map];rfl
       have f2:=Rn (n:=sz (aR (aT 0 buf (M l2)).1 (M l3)).1) r4;rw[f1,f2];generalize lU ((bA (aT 0 buf (M l2)).1 (M l4)).1.map tN) (sz (aR (aT 0 buf (M l2)).1 (M l3)).1)=F1;generalize lU ((bA (aT 0 buf (M l2)).1 (M l5)).1.map pE) (sz (aR (aT 0 buf (M l2)).1 (M l3)).1)=F2;cases F1 with
       |false=>rw[Aaa (by simp)];cases F2<;>rfl
       |true=>
        cases F2 with
        |false=>rw[Aaa (by simp)];rfl
        |true=>
         cases l6 with
         |nil=>rw[Aad (by refine⟨?_,?_,e2,e3,d3,b3,?_,?_⟩<;>trivial)];rfl
         |cons x l6=>rw[Aaa (by simp)];rfl
theorem T_len {x:Int×dD}(h:Vf buf (M l)=M x):24<=l.length:=by
 unfold Vf at h;simp only at h;split at h
 ·cases h
 ·rename_i l0 h0;unfold iP at h0
  repeat' split at h0
  all_goals first|cases h0;done|skip
  obtain⟨l1,e1,k1⟩:=Vg h0;obtain⟨l2,e2,k2⟩:=Vg e1;obtain⟨l3,e3,k3⟩:=El e2;obtain⟨l4,e4⟩:=Lv e3;obtain⟨l5,e5⟩:=Lv e4;rw[e4]at e3;rw[e5]at e4;have k4:=uJ e3;have k5:=uJ e4;have k6:=uJ e5;omega
theorem aAv {s:ByteArray}(hz:s.size≠0):jJ s buf depth=(yM s.data.toList buf).map (fun q=>(q.1,Qo q.2 depth)):=by
 have hs:s.size=s.data.toList.length:=by rw[Abc];rfl
 unfold jJ;rw[Aaa hz,hs,rck_T];generalize s.data.toList=L;unfold jN;by_cases h1:L.length<29\/L.head?≠M 75
 ·rw[Aad h1];by_cases h4:L.length<4
  ·rw[Aad h4];rfl
  ·rw[Aaa h4];split
   ·rfl
   ·rename_i body hb;split at hb
    ·simp only[AaU]at hb;subst hb;cases hl:uF 75 (M (L.take (L.length-4)))with
     |none=>rw[T_none];rfl
     |some l=>
      cases hr:Vf buf (M l)with
      |none=>rfl
      |some x=>
       exfalso;have hlen:=T_len hr
       have Qj:L.take (L.length-4)=75::l:=by
        cases hb:L.take (L.length-4)with
        |nil=>rw[hb]at hl;simp[uF]at hl
        |cons y l0=>
         rw[hb]at hl;unfold uF at hl;simp only at hl;split at hl
         ·rename_i hy;simp only[AaU]at hl;rw[hy,hl]
         ·cases hl
       have Ow:=congrArg List.length Qj;rw[Aaw]at Ow;simp only[Aao]at Ow;rcases h1 with h1|h1
       ·omega
       ·apply h1;cases L with
        |nil=>simp at Qj
        |cons y L=>
         obtain⟨n,hn⟩:∃n,(y::L).length-4=n+1:=⟨(y::L).length-4-1,by omega⟩;rw[hn]at Qj;simp only[AaV,List.cons.injEq]at Qj;simp[Qj.1]
    ·cases hb
 ·rw[Aaa h1];have h29:29<=L.length:=by omega
  have hh:L.head?=M 75:=by
   refine Classical.byContradiction fun e=>h1 (Aab e)
  rw[Aaa (show ¬L.length<4 by omega)];simp only
  have KQ:∃l,L.take (L.length-4)=75::l:=by
   cases L with
   |nil=>simp at h29
   |cons x l=>
    simp at hh;subst hh;refine⟨l.take (l.length+1-4-1),?_⟩;obtain⟨n,hn⟩:∃n,l.length+1-4=n+1:=⟨l.length+1-4-1,by simp at h29;omega⟩;simp only[Aao];rw[hn];simp
  obtain⟨l,hl⟩:=KQ;by_cases hc:gZ (L.drop (L.length-4))=kD (L.take (L.length-4))
  ·rw[Aad hc];simp only;rw[hl];have e1:uF 75 (M (75::l))=M l:=(by simp[uF]);rw[e1,T_eq];simp only[Abq,Abr];rw[hl]at hc;simp only[hc,true_and]
  ·rw[Aaa hc,Aaa (fun k=>hc k.1)];rfl
theorem Vh (a b c d:UInt8):fJ ((a.toNat:Int)*16777216+(b.toNat:Int)*65536+(c.toNat:Int)*256+(d.toNat:Int))=[a,b,c,d]:=by
 have ha:=a.toNat_lt;have hb:=b.toNat_lt;have hc:=c.toNat_lt;have hd:=d.toNat_lt;have key:∀(x:UInt8) (n:Int),n=(x.toNat:Int)->UInt8.ofNat n.toNat=x:=fun x n e=>by rw[e,Ace];exact UInt8.ofNat_toNat
 unfold fJ gV;simp only[AaK,AbI];rw[key a _ (by omega),key b _ (by omega),key c _ (by omega),key d _ (by omega)]
theorem be_u32 {a b c d:UInt8}{n:Int}(h:cO n):gZ [a,b,c,d]=n↔[a,b,c,d]=fJ n:=by
 have e:gZ [a,b,c,d]=(a.toNat:Int)*16777216+(b.toNat:Int)*65536+(c.toNat:Int)*256+(d.toNat:Int):=rfl;constructor
 ·intro k;rw[e]at k;rw[<-k,Vh]
 ·intro k;rw[k];obtain⟨h0,h1⟩:=h
  have key:∀(x:Int),0<=x->x<256->((UInt8.ofNat x.toNat).toNat:Int)=x:=fun x k0 k1=>by
   rw[UInt8.toNat_ofNat'];omega
  unfold fJ gV;simp only[AaK,AbI];show((UInt8.ofNat (n / 16777216).toNat).toNat:Int)*16777216+((UInt8.ofNat (n / 65536 % 256).toNat).toNat:Int)*65536+((UInt8.ofNat (n / 256 % 256).toNat).toNat:Int)*256+((UInt8.ofNat (n % 256).toNat).toNat:Int)=n;rw[key _ (by omega) (by omega),key _ (by omega) (by omega),key _ (by omega) (by omega),key _ (by omega) (by omega)];omega
theorem RN {t c:List UInt8}(hc:c.length=4):jN (t++c)=if gZ c=kD t then M t else O:=by
 have hl:(t++c).length-4=t.length:=by rw[Aah,hc];omega
 unfold jN;rw[hl,List.take_left,List.drop_left,Aaa (by rw[Aah,hc];omega)]
theorem ZY (cr:List UInt8->Int)(UF:∀l,cO (cr l))(x0 x1 x2 x3 x4 x5 x6 x7 x8 x9 DU DV DW DY Xi Xj Xk Xl LG LH LJ LK:UInt8)(rest:List UInt8):
 (match (if gZ [LG,LH,LJ,LK]=cr [x0,x1,x2,x3,x4,x5,x6,x7,x8,x9,DU,DV,DW,DY,Xi,Xj,Xk,Xl]then M [x0,x1,x2,x3,x4,x5,x6,x7,x8,x9,DU,DV,DW,DY,Xi,Xj,Xk,Xl]else O:Option (List UInt8))with
  |none=>O
  |some t=>if t.headD 0=74 then M (gZ (t.drop 2),(((t.drop 1).headD 0).toNat:Int),gZ (t.drop 6),gZ (t.drop 10),gZ (t.drop 14))else O)=
 if [x0,x1,x2,x3,x4,x5,x6,x7,x8,x9,DU,DV,DW,DY,Xi,Xj,Xk,Xl]++ [LG,LH,LJ,LK]=[74,x1,x2,x3,x4,x5,x6,x7,x8,x9,DU,DV,DW,DY,Xi,Xj,Xk,Xl]++fJ (cr [74,x1,x2,x3,x4,x5,x6,x7,x8,x9,DU,DV,DW,DY,Xi,Xj,Xk,Xl])then M (gZ (x2::x3::x4::x5::x6::x7::x8::x9::DU::DV::DW::DY::Xi::Xj::Xk::Xl::LG::LH::LJ::LK::rest),(x1.toNat:Int),gZ (x6::x7::x8::x9::DU::DV::DW::DY::Xi::Xj::Xk::Xl::LG::LH::LJ::LK::rest),gZ (DU::DV::DW::DY::Xi::Xj::Xk::Xl::LG::LH::LJ::LK::rest),gZ (Xi::Xj::Xk::Xl::LG::LH::LJ::LK::rest))else O:=by
 by_cases h0:x0=74
 ·subst h0;have hc:=be_u32 (a:=LG) (b:=LH) (c:=LJ) (d:=LK) (UF [74,x1,x2,x3,x4,x5,x6,x7,x8,x9,DU,DV,DW,DY,Xi,Xj,Xk,Xl]);by_cases h1:gZ [LG,LH,LJ,LK]=cr [74,x1,x2,x3,x4,x5,x6,x7,x8,x9,DU,DV,DW,DY,Xi,Xj,Xk,Xl]
  ·rw[Aad h1,<-hc.1 h1,Aad rfl];simp only[List.headD_cons,if_true];rfl
  ·rw[Aaa h1,Aaa];intro k;exact h1 (hc.2 (List.append_cancel_left k))
 ·rw[Aaa (c:=_++_=_++_)]
  ·by_cases h1:gZ [LG,LH,LJ,LK]=cr [x0,x1,x2,x3,x4,x5,x6,x7,x8,x9,DU,DV,DW,DY,Xi,Xj,Xk,Xl]
   ·rw[Aad h1];simp only[List.headD_cons];exact Aaa h0
   ·rw[Aaa h1]
  ·intro k;exact h0 (List.cons.inj k).1
theorem aAw (l:List UInt8)(h:22<=l.length):lQ l=if l.take 22=(fF (((l.drop 1).headD 0).toNat:Int) (gZ (l.drop 2)) (gZ (l.drop 6)) (gZ (l.drop 10)) (gZ (l.drop 14))).data.toList then M (gZ (l.drop 2),(((l.drop 1).headD 0).toNat:Int),gZ (l.drop 6),gZ (l.drop 10),gZ (l.drop 14))else O:=by
 obtain⟨x0,l,rfl⟩:=Aav (l:=l) (by omega);simp only[Aao]at h;obtain⟨x1,l,rfl⟩:=Aav (l:=l) (by omega);simp only[Aao]at h;obtain⟨x2,l,rfl⟩:=Aav (l:=l) (by omega);simp only[Aao]at h;obtain⟨x3,l,rfl⟩:=Aav (l:=l) (by omega);simp only[Aao]at h;obtain⟨x4,l,rfl⟩:=Aav (l:=l) (by omega);simp only[Aao]at h;obtain⟨x5,l,rfl⟩:=Aav (l:=l) (by omega);simp only[Aao]at h;obtain⟨x6,l,rfl⟩:=Aav (l:=l) (by omega);simp only[Aao]at h;obtain⟨x7,l,rfl⟩:=Aav (l:=l) (by omega);simp only[Aao]at h;obtain⟨x8,l,rfl⟩:=Aav (l:=l) (by omega);simp only[Aao]at h;obtain⟨x9,l,rfl⟩:=Aav (l:=l) (by omega);simp only[Aao]at h;obtain⟨DU,l,rfl⟩:=Aav (l:=l) (by omega);simp only[Aao]at h;obtain⟨DV,l,rfl⟩:=Aav (l:=l) (by omega);simp only[Aao]at h;obtain⟨DW,l,rfl⟩:=Aav (l:=l) (by omega);simp only[Aao]at h;obtain⟨DY,l,rfl⟩:=Aav (l:=l) (by omega);simp only[Aao]at h;obtain⟨Xi,l,rfl⟩:=Aav (l:=l) (by omega);simp only[Aao]at h;obtain⟨Xj,l,rfl⟩:=Aav (l:=l) (by omega);simp only[Aao]at h;obtain⟨Xk,l,rfl⟩:=Aav (l:=l) (by omega);simp only[Aao]at h;obtain⟨Xl,l,rfl⟩:=Aav (l:=l) (by omega);simp only[Aao]at h;obtain⟨LG,l,rfl⟩:=Aav (l:=l) (by omega);simp only[Aao]at h;obtain⟨LH,l,rfl⟩:=Aav (l:=l) (by omega);simp only[Aao]at h;obtain⟨LJ,l,rfl⟩:=Aav (l:=l) (by omega);simp only[Aao]at h;obtain⟨LK,l,rfl⟩:=Aav (l:=l) (by omega);simp only[Aao]at h;generalize l=rest at*;have hb:∀(a b c d:UInt8) (l:List UInt8),gZ (a::b::c::d::l)=(a.toNat:Int)*16777216+(b.toNat:Int)*65536+(c.toNat:Int)*256+(d.toNat:Int):=fun _ _ _ _ _=>rfl;have ht:(x0::x1::x2::x3::x4::x5::x6::x7::x8::x9::DU::DV::DW::DY::Xi::Xj::Xk::Xl::LG::LH::LJ::LK::rest).take 22=[x0,x1,x2,x3,x4,x5,x6,x7,x8,x9,DU,DV,DW,DY,Xi,Xj,Xk,Xl]++ [LG,LH,LJ,LK]:=rfl;unfold lQ;rw[Aaa (by simp only[Aao];omega),ht,RN rfl];simp only[Abq,Abr,List.headD_cons];rw[l_];have hq:UInt8.ofNat ((x1.toNat:Int)).toNat=x1:=by rw[Ace];exact UInt8.ofNat_toNat
 have hrec:JR (x1.toNat:Int) (gZ (x2::x3::x4::x5::x6::x7::x8::x9::DU::DV::DW::DY::Xi::Xj::Xk::Xl::LG::LH::LJ::LK::rest)) (gZ (x6::x7::x8::x9::DU::DV::DW::DY::Xi::Xj::Xk::Xl::LG::LH::LJ::LK::rest)) (gZ (DU::DV::DW::DY::Xi::Xj::Xk::Xl::LG::LH::LJ::LK::rest)) (gZ (Xi::Xj::Xk::Xl::LG::LH::LJ::LK::rest))=[74,x1,x2,x3,x4,x5,x6,x7,x8,x9,DU,DV,DW,DY,Xi,Xj,Xk,Xl]:=by
  unfold JR;rw[hb,hb,hb,hb,Vh,Vh,Vh,Vh,hq];rfl
 rw[hrec];exact ZY kD yU x0 x1 x2 x3 x4 x5 x6 x7 x8 x9 DU DV DW DY Xi Xj Xk Xl LG LH LJ LK rest
theorem DZ {m:dD}{q a b c most:Int}(hk:(q=73/\b=m.2.2.2.2)\/(q=68/\c=0)\/((q=85\/q=82)/\a=0/\b=0/\c=0)):pX m q a b c most=(gT m q a b c most depth).2:=by
 unfold pX gT;rcases hk with⟨rfl,rfl⟩|⟨rfl,rfl⟩|⟨rfl|rfl,rfl,rfl,rfl⟩
 ·rw[Aad rfl,Aad rfl];unfold JY uQ rR;by_cases h1:a<0\/sz m.1<a
  ·rw[Aad h1,Aad (by simp;omega)]
  ·rw[Aaa h1,Aaa (by simp;omega)];split
   ·rfl
   ·split
    ·rfl
    ·rw[Aaa (by simp)];split<;>rfl
 ·rw[Aaa (by decide),Aad rfl,Aaa (by decide),Aad rfl];unfold CK Ah rR;by_cases h1:a<0\/b<1\/sz m.1<a\/sz m.1-a<b
  ·rw[Aad h1,Aad (by simp;omega)]
  ·rw[Aaa h1,Aaa (by simp;omega),Aaa (by simp)];split<;>rfl
 ·rw[Aaa (by decide),Aaa (by decide),Aad rfl,Aaa (by decide),Aaa (by decide),Aad rfl];unfold Xa uY Ci;cases m.2.1 with
  |nil=>rfl
  |cons e l=>
   simp only;rw[Aaa (by simp)];split<;>rfl
 ·rw[Aaa (by decide),Aaa (by decide),Aaa (by decide),Aad rfl,Aaa (by decide),Aaa (by decide),Aaa (by decide)];unfold Xb uZ Ci;cases m.2.2.1 with
  |nil=>rfl
  |cons e l=>
   simp only;rw[Aaa (by simp)];split<;>rfl
theorem rec_eq (m:dD)(l:List UInt8)(buf:Int)(depth:Nat):zR m l buf depth=Qi m l buf depth:=by
 unfold zR Qi;by_cases h:l.length<22
 ·rw[Aad h];have:lQ l=O:=by unfold lQ;rw[Aad h]
  rw[this]
 ·rw[Aaa h,aAw l (by omega)];simp only;generalize (((l.drop 1).headD 0).toNat:Int)=q;generalize gZ (l.drop 6)=a;generalize gZ (l.drop 10)=b;generalize gZ (l.drop 14)=c;by_cases hd:gZ (l.drop 2)=m.2.2.2.1+1
  ·rw[hd];by_cases hr:l.take 22=(fF q (m.2.2.2.1+1) a b c).data.toList
   ·rw[Aad hr];simp only[ne_eq,AdL,if_false,hr,true_and];by_cases hm:pX m q a b c 5000=0
    ·have hk:(q=73/\b=m.2.2.2.2)\/(q=68/\c=0)\/((q=85\/q=82)/\a=0/\b=0/\c=0):=by
      have Pm:=hm;unfold pX at Pm;split at Pm
      ·rename_i e;obtain⟨k,-⟩:=Rl (depth:=depth) Pm;exact Aac ⟨e,k.2.2.2.2.2.1⟩
      ·split at Pm
       ·rename_i e;obtain⟨k,-⟩:=Rm (depth:=depth) Pm;exact Aab (Aac ⟨e,k.2.2.2.1⟩)
       ·split at Pm
        ·rename_i e;obtain⟨_,_,_,k,-⟩:=Lg (depth:=depth) Pm;exact Aab (Aab ⟨Aac e,k⟩)
        ·split at Pm
         ·rename_i e;obtain⟨_,_,_,k,-⟩:=Lh (depth:=depth) Pm;exact Aab (Aab ⟨Aab e,k⟩)
         ·omega
     have hc:=DZ (most:=5000) (depth:=depth) hk;rw[hm]at hc;rw[Aaa (by simp[hm]),<-hc];by_cases hb:q=73/\buf<m.2.2.2.2+c
     ·rw[Aad hb,Aaa];rintro⟨ho,-⟩;unfold nW at ho;obtain⟨rfl,hb⟩:=hb;simp at ho;omega
     ·rw[Aaa hb,Aad];refine⟨?_,rfl⟩;unfold nW;rcases hk with⟨rfl,rfl⟩|⟨rfl,rfl⟩|⟨rfl|rfl,rfl,rfl,rfl⟩
      ·simp;omega
      ·simp
      ·simp
      ·simp
    ·rw[Aad hm,Aaa];rintro⟨ho,hc⟩;apply hm;rw[DZ (depth:=depth) ?_,hc];unfold nW at ho;simp only[Adf,Abf,beq_iff_eq,Abz]at ho;rcases ho with(⟨⟨h1,h2⟩,-⟩|⟨h1,h2⟩)|⟨⟨⟨h1,h2⟩,h3⟩,h4⟩
     ·exact Aac ⟨h1,h2⟩
     ·exact Aab (Aac ⟨h1,h2⟩)
     ·exact Aab (Aab ⟨h1,h2,h3,h4⟩)
   ·rw[Aaa hr,Aaa (fun k=>hr k.1)]
  ·refine Eq.trans ?_ (Aaa (fun k=>hd k.2.1)).symm;by_cases hr:l.take 22=(fF q (gZ (l.drop 2)) a b c).data.toList
   ·rw[Aad hr];simp only;rw[Aad hd]
   ·rw[Aaa hr]
theorem RO (buf:Int)(depth:Nat):∀(k:Nat) (m:dD) (l:List UInt8),Cj buf depth k m l=iQ buf depth k m l
 |0,m,l=>rfl
 |k+1,m,l=>by
  unfold Cj iQ;rw[rec_eq];cases Qi m l buf depth with
  |none=>rfl
  |some m'=>simp only[RO buf depth k]
end Go.Proofs.YtfplgfodoiiobaaGreatDoor
