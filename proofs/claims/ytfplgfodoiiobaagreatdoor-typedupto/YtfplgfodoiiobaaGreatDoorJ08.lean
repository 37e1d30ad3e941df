/- RefR, RefT, RefU, RefV, RefW, RefY, KpA (joined). -/
import Derived.Test.YtfplgfodoiiobaaGreatDoorJ07
open Option renaming none→O,some→M
open Go.Obj renaming cells→C
open Go renaming World→F,Value→Y
namespace Go.Proofs.YtfplgfodoiiobaaGreatDoor
open Go.RowKit
variable {n p a b pos k:Int}{l:List (Int×Int)}{m:bR}{fs:List bE}{depth xb d g:Nat}{s:Sc}{w:F}{f:dS}
theorem FN {more:List (Int×Int)}(h:dX l)(h0:0<=pos)(h1:pos<=sz l):sz (bY l pos more)=sz l+sz more:=by
 unfold bY;split
 ·rename_i e;rw[e];simp[sz]
 ·rw[mV,mV,uX h h0 h1,jP h h0 h1];omega
theorem Uo (h:dX l)(h0:0<=pos)(hn:0<=n)(h1:pos+n<=sz l):sz (bU l pos n).1=sz l-n/\sz (bU l pos n).2=n:=by
 unfold bU;split
 ·rename_i e;subst e;simp[sz]
 ·have ht:=iA h pos;have h2:sz (bH l pos)=sz l-pos:=jP h h0 (by omega);simp only[Gf,tK];rw[mV,uX h h0 (by omega),jP ht hn (by omega),uX ht hn (by omega)];omega
def lV (n:Int)(l:List (Int×Int)):Prop:=∀p∈l,1<=p.2/\p.2<=5000/\0<=p.1/\p.1+p.2<=n
theorem lV.ok (h:lV n l)(hn:n<=1000000000):dX l:=fun p hp=>by
 obtain⟨a,b,c,d⟩:=h p hp;unfold jU;omega
theorem lV.mono {n':Int}(h:lV n l)(hn:n<=n'):lV n' l:=fun p hp=>by
 obtain⟨a,b,c,d⟩:=h p hp;omega
theorem nR (n:Int):lV n []:=fun p hp=>by simp at hp
theorem wK {a b:List (Int×Int)}(ha:lV n a)(hb:lV n b):lV n (a++b):=fun p hp=>by
 rcases List.mem_append.1 hp with h|h
 ·exact ha p h
 ·exact hb p h
theorem Mi (h:lV n l):∀k:Int,lV n (cB l k):=by
 induction l with
 |nil=>intro k;exact nR n
 |cons p l ih=>
  intro k;have hp:=h p (by simp);have hl:lV n l:=fun q hq=>h q (by simp[hq])
  unfold cB;split
  ·exact nR n
  ·split
   ·intro q hq;simp only[List.mem_cons]at hq;rcases hq with rfl|hq
    ·exact hp
    ·exact ih hl _ q hq
   ·intro q hq;simp only[List.mem_singleton]at hq;subst hq;simp only;omega
theorem Dv (h:lV n l):∀k:Int,lV n (bH l k):=by
 induction l with
 |nil=>intro k;exact nR n
 |cons p l ih=>
  intro k;have hp:=h p (by simp);have hl:lV n l:=fun q hq=>h q (by simp[hq])
  unfold bH;split
  ·exact h
  ·split
   ·exact ih hl _
   ·intro q hq;simp only[List.mem_cons]at hq;rcases hq with rfl|hq
    ·simp only;omega
    ·exact hl q hq
theorem LC {more:List (Int×Int)}(h:lV n l)(hm:lV n more)(pos:Int):lV n (bY l pos more):=by
 unfold bY;split
 ·exact h
 ·exact wK (wK (Mi h _) hm) (Dv h _)
theorem Kc (h:lV n l)(pos k:Int):lV n (bU l pos k).1/\lV n (bU l pos k).2:=by
 unfold bU;split
 ·exact⟨h,nR n⟩
 ·exact⟨wK (Mi h _) (Dv (Dv h _) _),Mi (Dv h _) _⟩
structure dJ (m:bR)(depth:Nat):Prop where
 yT:0<=m.2.2.2.2
 tC:m.2.2.2.2<=1000000
 text:lV m.2.2.2.2 m.1
 long:sz m.1<=5000
 few:m.1.length<=4096
 lN:∀e∈m.2.1,0<=e.1/\lV m.2.2.2.2 e.2.1/\lV m.2.2.2.2 e.2.2
 nT:∀e∈m.2.2.1,0<=e.1/\lV m.2.2.2.2 e.2.1/\lV m.2.2.2.2 e.2.2
 Br:m.2.1.length<=depth
 Gq:m.2.2.1.length<=depth
 Qo:oG (m.2.1.map pU) (sz m.1)=true
 Yu:oG (m.2.2.1.map lK) (sz m.1)=true
 done:0<=m.2.2.2.1
theorem vJ (l:List (Int×Int×Int)):∀(k:Nat) (n:Int),oG l n=true->oG (l.take k) n=true:=by
 induction l with
 |nil=>intro k n _;simp[oG]
 |cons x l ih=>
  intro k n h;obtain⟨p,a,b⟩:=x;cases k with
  |zero=>simp[oG]
  |succ k=>
   simp only[List.take_succ_cons];unfold oG at h ⊢;split
   ·rename_i h1;rw[if_pos h1]at h;cases h
   ·rename_i h1;rw[if_neg h1]at h;split
    ·rename_i h2;rw[if_pos h2]at h;cases h
    ·rename_i h2;rw[if_neg h2]at h;exact ih k _ h
theorem lW {l:List (Int×Int×Int)}:oG ((p,a,b)::l) n=true↔p+a<=n/\n-a+b<=5000/\oG l (n-a+b)=true:=by
 rw[oG];split
 ·simp;omega
 ·split
  ·simp;omega
  ·constructor
   ·intro h;exact⟨by omega,by omega,h⟩
   ·intro h;exact h.2.2
theorem dJ.Ql (h:dJ m d):dX m.1:=h.text.ok (by have:=h.tC;omega)
theorem oI (h:lV n l):0<=sz l:=by
 induction l with
 |nil=>simp[sz]
 |cons p l ih=>
  have:=h p (by simp);have:=ih (fun q hq=>h q (by simp[hq]));simp only[sz];omega
theorem Yv (h:dJ m depth){c most:Int}(hb:b=m.2.2.2.2)(hc:m.2.2.2.2+c<=1000000)(hm:most<=5000):dJ (sW m a b c most depth).1 depth:=by
 unfold sW;split;· exact h
 split;· exact h
 split;· exact h
 split;· exact h
 rename_i h1 h2 h3 h4;have hl:=h.long;have b0:=h.yT
 have hp:lV (m.2.2.2.2+c) [(b,c)]:=fun p hp=>by
  simp only[List.mem_singleton]at hp;subst hp;simp only;omega
 have hs:sz (bY m.1 a [(b,c)])=sz m.1+c:=by rw[FN h.Ql (by omega) (by omega)];simp[sz]
 have UQ:m.2.2.2.2<=m.2.2.2.2+c:=by omega
 refine⟨by simp only;omega,by simp only;omega,LC (h.text.mono UQ) hp a,by simp only;omega,by simp only;omega,?_,by simp,?_,by simp,?_,by simp[oG],by have:=h.done;simp only;omega⟩
 ·intro e he;have he:=List.mem_of_mem_take he;simp only[List.mem_cons]at he;rcases he with rfl|he
  ·exact⟨by simp only;omega,nR _,hp⟩
  ·obtain⟨x,y,z⟩:=h.lN e he;exact⟨x,y.mono UQ,z.mono UQ⟩
 ·simp only;rw[List.length_take];omega
 ·simp only;rw[List.map_take];refine vJ _ _ _ ?_;rw[List.map_cons,pU,lW,hs];simp only[sz];refine⟨by omega,by omega,?_⟩;rw[show sz m.1+c-(c+0)+0=sz m.1 from by omega];exact h.Qo
theorem Yw (h:dJ m depth):dJ (yA m a b depth).1 depth:=by
 unfold yA;split;· exact h
 split;· exact h
 rename_i h1 h2;have hl:=h.long;obtain⟨s1,s2⟩:=Uo h.Ql (pos:=a) (n:=b) (by omega) (by omega) (by omega);obtain⟨i1,i2⟩:=Kc h.text a b;refine⟨h.yT,h.tC,i1,by simp only;omega,by simp only;omega,?_,by simp,?_,by simp,?_,by simp[oG],by have:=h.done;simp only;omega⟩
 ·intro e he;have he:=List.mem_of_mem_take he;simp only[List.mem_cons]at he;rcases he with rfl|he
  ·exact⟨by simp only;omega,i2,nR _⟩
  ·exact h.lN e he
 ·simp only;rw[List.length_take];omega
 ·simp only;rw[List.map_take];refine vJ _ _ _ ?_;rw[List.map_cons,pU,lW,s1];simp only[sz];rw[s2];refine⟨by omega,by omega,?_⟩;rw[show sz m.1-b-0+b=sz m.1 from by omega];exact h.Qo
theorem Mj (h:dJ m depth){gone come:List (Int×Int)}(hp:0<=p)(hg:lV m.2.2.2.2 gone)(hc:lV m.2.2.2.2 come)(Mg:p+sz gone<=sz m.1):
 sz (bY (bU m.1 p (sz gone)).1 p come)=sz m.1-sz gone+sz come/\lV m.2.2.2.2 (bY (bU m.1 p (sz gone)).1 p come):=by
 have hn:=oI hg;obtain⟨s1,-⟩:=Uo h.Ql (pos:=p) (n:=sz gone) hp hn Mg;obtain⟨i1,-⟩:=Kc h.text p (sz gone);refine⟨?_,LC i1 hc p⟩;rw[FN (i1.ok (by have:=h.tC;omega)) hp (by omega),s1]
theorem Ry (h:dJ m depth):dJ (pK m depth).1 depth:=by
 unfold pK;split
 ·exact h
 ·rename_i e rest he;split
  ·exact h
  ·rename_i h4;obtain⟨x,y,z⟩:=h.lN e (by rw[he];simp);have hf:=h.Qo;rw[he,List.map_cons,pU,lW]at hf;obtain⟨f1,f2,f3⟩:=hf;obtain⟨s1,i1⟩:=Mj h x z y f1;have n1:=oI z;have n2:=oI y;refine⟨h.yT,h.tC,i1,by simp only;omega,by simp only;omega,fun e' Dw=>h.lN e' (by rw[he];simp[Dw]),?_,by have:=h.Br;rw[he]at this;simp only[List.length_cons]at this ⊢;omega,?_,by simp only;rw[s1];exact f3,?_,by have:=h.done;simp only;omega⟩
   ·intro e' Dw;have Dw:=List.mem_of_mem_take Dw;simp only[List.mem_cons]at Dw;rcases Dw with rfl|Dw
    ·exact⟨x,y,z⟩
    ·exact h.nT e' Dw
   ·simp only;rw[List.length_take];omega
   ·simp only;rw[List.map_take];refine vJ _ _ _ ?_;rw[List.map_cons,lK,lW,s1];have hl:=h.long;refine⟨by omega,by omega,?_⟩;rw[show sz m.1-sz e.2.2+sz e.2.1-sz e.2.1+sz e.2.2=sz m.1 from by omega];exact h.Yu
theorem Rz (h:dJ m depth):dJ (pO m depth).1 depth:=by
 unfold pO;split
 ·exact h
 ·rename_i e rest he;split
  ·exact h
  ·rename_i h4;obtain⟨x,y,z⟩:=h.nT e (by rw[he];simp);have hf:=h.Yu;rw[he,List.map_cons,lK,lW]at hf;obtain⟨f1,f2,f3⟩:=hf;obtain⟨s1,i1⟩:=Mj h x y z f1;have n1:=oI z;have n2:=oI y;refine⟨h.yT,h.tC,i1,by simp only;omega,by simp only;omega,?_,fun e' Dw=>h.nT e' (by rw[he];simp[Dw]),?_,by have:=h.Gq;rw[he]at this;simp only[List.length_cons]at this ⊢;omega,?_,by simp only;rw[s1];exact f3,by have:=h.done;simp only;omega⟩
   ·intro e' Dw;have Dw:=List.mem_of_mem_take Dw;simp only[List.mem_cons]at Dw;rcases Dw with rfl|Dw
    ·exact⟨x,y,z⟩
    ·exact h.lN e' Dw
   ·simp only;rw[List.length_take];omega
   ·simp only;rw[List.map_take];refine vJ _ _ _ ?_;rw[List.map_cons,pU,lW,s1];have hl:=h.long;refine⟨by omega,by omega,?_⟩;rw[show sz m.1-sz e.2.1+sz e.2.2-sz e.2.2+sz e.2.1=sz m.1 from by omega];exact h.Qo
structure kH (s:Sc):Prop where
 UR:0<=s.most
 LD:s.most<=5000
 Mk:0<=s.depth
 Bt:s.depth<=50
 LF:0<=s.room
 sF:s.room<=1000000
 qF:s.after<=9223372036854775807
 FO:0<=s.one
 UU:s.one<=9223372036854775807
 Ml:0<=s.rest
 Yx:s.rest<=9223372036854775807
 Mq:0<=s.left
 Sb:s.left<=9223372036854775807
 uM:0<=s.aZ
 Gr:s.aZ<=999
def gY (s s':Sc):Prop:=s'.most=s.most/\s'.depth=s.depth/\s'.room=s.room/\s'.aZ=s.aZ
theorem gY.refl (s:Sc):gY s s:=⟨rfl,rfl,rfl,rfl⟩
theorem gY.trans {a b c:Sc}(h1:gY a b)(h2:gY b c):gY a c:=⟨h2.1.trans h1.1,h2.2.1.trans h1.2.1,h2.2.2.1.trans h1.2.2.1,h2.2.2.2.trans h1.2.2.2⟩
def vK (s s':Sc):Prop:=gY s s'/\s'.aX=s.aX/\s'.ro=s.ro/\kH s'
def Jb (s s':Sc)(fs bZ:List bE):Prop:=gY s s'/\s'.aX=false/\kH s'/\eO s.room bZ/\bZ.length<=fs.length
theorem vK.trans {a b c:Sc}(h1:vK a b)(h2:vK b c):vK a c:=⟨h1.1.trans h2.1,h2.2.1.trans h1.2.1,h2.2.2.1.trans h1.2.2.1,h2.2.2.2⟩
theorem oq {room one rest:Int}(h:eO room fs):(Bp (fs.map (jK one rest))).length<=fs.length:=by
 rw[Rw h];exact Nat.le_trans (List.length_filter_le _ _) (by simp)
theorem vL (hc:kH s)(h:eO s.room fs):(∃s',dF s fs=(true,s',fs)/\vK s s')\/(∃s' bZ,dF s fs=(false,s',bZ)/\Jb s s' fs bZ):=by
 rcases Bq s fs with⟨_,e⟩|⟨_,h2,e⟩|⟨_,_,e⟩
 ·exact Or.inl ⟨s,e,gY.refl s,rfl,rfl,hc⟩
 ·exact Or.inl ⟨_,e,⟨rfl,rfl,rfl,rfl⟩,rfl,rfl,{ hc with qF:=by have:=hc.qF;simp only;omega }⟩
 ·exact Or.inr ⟨_,_,e,⟨rfl,rfl,rfl,rfl⟩,rfl,{ hc with },h.P_ hc.FO hc.Ml,oq h⟩
theorem eO.room (h:eO a fs)(e:b=a):eO b fs:=by rw[e];exact h
theorem Uq (hc:kH s)(h:eO s.room fs)(hn:0<=n/\n<=9223372036854775807){b:ByteArray}(hb:b.size≠0):
 (∃s',dR s fs n b=(0,s',iN fs (lU fs n b))/\vK s s'/\eO s.room (iN fs (lU fs n b)))\/(∃s',dR s fs n b=(9,s',fs)/\gY s s'/\s'.aX=s.aX/\s'.ro=true/\kH s')\/(∃s' bZ,dR s fs n b=(10,s',bZ)/\Jb s s' fs bZ):=by
 unfold dR;split
 ·exact Or.inr (Or.inl ⟨_,rfl,⟨rfl,rfl,rfl,rfl⟩,rfl,rfl,{ hc with }⟩)
 ·split
  ·exact Or.inr (Or.inl ⟨_,rfl,⟨rfl,rfl,rfl,rfl⟩,rfl,rfl,{ hc with }⟩)
  ·rename_i h1 hu;simp only;generalize Ga:(if s.refusing=true then { s with left:=s.left-1 } else s)=s1
   have e1:vK s s1:=by
    rw[<-Ga];split
    ·rename_i hr;have hl:¬s.left=0:=fun e=>h1 ⟨hr,e⟩
     have:=hc.Mq;have:=hc.Sb;exact⟨⟨rfl,rfl,rfl,rfl⟩,rfl,rfl,{ hc with Mq:=by simp only;omega,Sb:=by simp only;omega }⟩
    ·exact⟨gY.refl s,rfl,rfl,hc⟩
   rcases vL e1.2.2.2 (h.room e1.1.2.2.1)with⟨s',e,hd⟩|⟨s',bZ,e,hd⟩
   ·left;obtain⟨g1,g2⟩:=h.app hc.sF hn hb (by omega);refine⟨s',?_,e1.trans hd,g1⟩;rw[e];simp only[if_true];rw[g2]
   ·right;right;refine⟨s',bZ,?_,e1.1.trans hd.1,hd.2.1,hd.2.2.1,hd.2.2.2.1.room e1.1.2.2.1.symm,hd.2.2.2.2⟩;rw[e];simp
theorem zW (hc:kH s)(h:eO s.room fs)(n:Int):
 (∃s' bZ,bV s fs n=(true,s',bZ)/\vK s s'/\eO s.room bZ/\bZ.length=fs.length/\bZ.map (fun f=>(f.1,f.2.1))=fs.map (fun f=>(f.1,f.2.1)))\/(∃s' bZ,bV s fs n=(false,s',bZ)/\Jb s s' fs bZ):=by
 have hI:=OO h hc.FO hc.Ml n;unfold bV at*;split
 ·exact Or.inl ⟨s,fs,rfl,⟨gY.refl s,rfl,rfl,hc⟩,h,rfl,rfl⟩
 ·rename_i i hi;rw[hi]at hI;simp only at hI ⊢;rcases vL hc h with⟨s',e,hd⟩|⟨s',bZ,e,hd⟩
  ·rw[e]at hI ⊢;simp only[if_true]at hI ⊢;refine Or.inl ⟨s',_,rfl,hd,hI,by simp,?_⟩;obtain⟨f,g1,g2,g3⟩:=Du hi;have hb:aN fs n=f.2.1:=by rw[dO,g2];rfl
   rw[hb,List.map_set];refine List.ext_getElem? (fun j=>?_);rw[List.getElem?_set];split
   ·rename_i hj;subst hj;split
    ·rw[List.getElem?_map,g1];simp[g3]
    ·rename_i bS;have:=Mf hi;simp at bS;omega
   ·rfl
  ·rw[e];exact Or.inr ⟨s',bZ,by simp,hd⟩
def Gs (fs:List bE)(n k:Int):List bE:=if k=0 then gK fs n else iN fs (n,(aN fs n).extract 0 k.toNat,k)
theorem Ke (hc:kH s)(h:eO s.room fs)(n:Int)(h0:0<=k):
 (((aN fs n).size:Int)<=k/\bW s fs n k=(true,s,fs))\/(k<((aN fs n).size:Int)/\∃s',bW s fs n k=(true,s',Gs fs n k)/\vK s s'/\eO s.room (Gs fs n k))\/(k<((aN fs n).size:Int)/\∃s' bZ,bW s fs n k=(false,s',bZ)/\Jb s s' fs bZ):=by
 unfold bW;by_cases hk:((aN fs n).size:Int)<=k
 ·rw[if_pos hk];exact Or.inl ⟨hk,rfl⟩
 ·rw[if_neg hk];have ou:k<((aN fs n).size:Int):=by omega
  simp only;have e9:=extract_size (aN fs n) h0 (Int.le_of_lt ou)
  have ec:Ma fs (n,(aN fs n).extract 0 k.toNat,k) (-1)=Gs fs n k:=by
   unfold Gs;split
   ·exact Mc h.sort (by simp only;omega) (h.no (by omega))
   ·exact vF h.sort (by simp only;omega) (h.no (by omega))
  rcases vL hc h with⟨s',e,hd⟩|⟨s',bZ,e,hd⟩
  ·right;left;rw[e];simp only[if_true];rw[ec];exact⟨ou,s',rfl,hd,by rw[<-ec];exact h.cut h0 ou⟩
  ·right;right;rw[e];exact⟨ou,s',bZ,by simp,hd⟩
def After (w w':F)(xb:Nat)(s:Sc)(fs:List bE)(m:bR)(f:dS):Prop:=∃f':dS,kU w' xb s fs m f'/\Ru w w' xb f f'
theorem kI {room:Int}(h:eO room fs)(n:Int):((aN fs n).size:Int)<=room:=by
 have h2:=h.used;rw[dO];cases e:eF fs n with
 |none=>simp[Um];have:=Me fs;omega
 |some f=>have:=Rv (pR e).1;simp;omega
theorem After.trans {w1 w2:F}{f1:dS}(h1:Ru w w1 xb f f1)(h2:After w1 w2 xb s fs m f1):After w w2 xb s fs m f:=by
 obtain⟨f2,h3,h4⟩:=h2;exact⟨f2,h3,h1.trans h4⟩
theorem Gu (h:lV n l):(l.length:Int)<=sz l:=by
 induction l with
 |nil=>simp[sz]
 |cons p l ih=>
  have h1:=h p (by simp);have h2:=ih (fun q hq=>h q (by simp[hq]));simp only[List.length_cons,sz];omega
theorem UW {bf:Int}{gone come:List (Int×Int)}(hb:bf<=1000000)(hn:n<=5000)(hp:0<=p)(hg:lV bf gone)(hc:lV bf come)(h1:p+sz gone<=n)(h2:n-sz gone+sz come<=5000):Ap n p gone come:=by
 have a:=Gu hg;have b:=Gu hc;have c:=oI hg;have d:=oI hc;exact⟨hp,h1,hg.ok (by omega),hc.ok (by omega),by omega,by omega⟩
theorem dJ.ow (h:dJ m d):∀e rest,m.2.1=e::rest->Ap (sz m.1) e.1 e.2.2 e.2.1:=by
 intro e rest he;obtain⟨x,y,z⟩:=h.lN e (by rw[he];simp);have hf:=h.Qo;rw[he,List.map_cons,pU,lW]at hf;exact UW h.tC h.long x z y hf.1 hf.2.1
theorem dJ.oz (h:dJ m d):∀e rest,m.2.2.1=e::rest->Ap (sz m.1) e.1 e.2.1 e.2.2:=by
 intro e rest he;obtain⟨x,y,z⟩:=h.nT e (by rw[he];simp);have hf:=h.Yu;rw[he,List.map_cons,lK,lW]at hf;exact UW h.tC h.long x y z hf.1 hf.2.1
theorem kU.aM {w':F}(h:kU w xb s fs m f)(hg:aK w w'):kU w' xb s fs m f:=by
 obtain⟨r,hx,hf,hm⟩:=h;exact⟨r,(hg.block xb (aL hx)).trans hx,⟨hf.1.aM hg,hf.2⟩,hm.aM hg⟩
theorem kU.row (h:kU w xb s fs m f):xb<w.heap.size/\∀a,f.1=M a->a.block<w.heap.size:=by
 obtain⟨r,hx,hf,-⟩:=h;exact⟨aL hx,fun a e=>by obtain⟨aQ,hh⟩:=hf.1.2 a e;exact aL hh⟩
theorem Fr.chain {w1 w2:F}{X:Nat->Prop}(h1:Fr w w1 X)(h2:Fr w1 w2 X):Fr w w2 X:=h1.trans h2
theorem kW {w0:F}(h:aK w0 w)(hg:w0.heap.size<=g)(a b c d e:Y):aK w0 (((((w.setCell ⟨g,0,O⟩ a).setCell ⟨g,1,O⟩ b).setCell ⟨g,2,O⟩ c).setCell ⟨g,3,O⟩ d).setCell ⟨g,4,O⟩ e):=
 ((((h.set (a:=⟨g,0,O⟩) hg a).set (a:=⟨g,1,O⟩) hg b).set (a:=⟨g,2,O⟩) hg c).set (a:=⟨g,3,O⟩) hg d).set (a:=⟨g,4,O⟩) hg e
theorem Mr {p q r s t:Y}(h:w.heap[g]?=M (iI p q r s t))(a b c d e:Y):(((((w.setCell ⟨g,0,O⟩ a).setCell ⟨g,1,O⟩ b).setCell ⟨g,2,O⟩ c).setCell ⟨g,3,O⟩ d).setCell ⟨g,4,O⟩ e).heap[g]?=M (iI a b c d e):=
 FJ (FI (FH (FE (FD h))))
theorem qI.set5 {x:Bo}{p q r s t:Y}(h:qI w x m)(hg:w.heap[g]?=M (iI p q r s t))(a b c d e:Y):qI (((((w.setCell ⟨g,0,O⟩ a).setCell ⟨g,1,O⟩ b).setCell ⟨g,2,O⟩ c).setCell ⟨g,3,O⟩ d).setCell ⟨g,4,O⟩ e) x m:=by
 have hF:Fr w (((((w.setCell ⟨g,0,O⟩ a).setCell ⟨g,1,O⟩ b).setCell ⟨g,2,O⟩ c).setCell ⟨g,3,O⟩ d).setCell ⟨g,4,O⟩ e) (fun b=>b=g):=
  ((((Fr.set w ⟨g,0,O⟩ a).trans (Fr.set _ ⟨g,1,O⟩ b)).trans (Fr.set _ ⟨g,2,O⟩ c)).trans (Fr.set _ ⟨g,3,O⟩ d)).trans (Fr.set _ ⟨g,4,O⟩ e)
 exact h.fr hF (fun b aQ e he=>by subst he;exact eT e hg (lD (by decide))) (fun b aQ e he=>by subst he;exact eT e hg (lD (by decide)))
theorem Ru.OT {w':F}{m':bR}{f':dS}{r:Bo}(hS:kU w xb s fs m f)(hm:qI w r m')(hd:Ru w w' xb f f'):qI w' r m':=by
 obtain⟨r0,hx,hf,-⟩:=hS
 have key:∀(b:Nat) (aQ:Array Y) (t:TypeId),t≠189->t≠193->w.heap[b]?=M (C aQ t (0,0))->¬(b=xb\/∃a,f.1=M a/\b=a.block):=by
  intro b aQ t n1 n2 hb hX;rcases hX with rfl|⟨a,e,rfl⟩
  ·exact eT hb hx (lD n1)
  ·obtain⟨cu,hh⟩:=hf.1.2 a e;exact eT hb hh (lD n2)
 exact hm.fr hd.1 (fun b aQ e=>key b aQ _ (by decide) (by decide) e) (fun b aQ e=>key b aQ _ (by decide) (by decide) e)
theorem Yy (h:lV n l):∀f t:Int,lV n (jX l f t):=by
 induction l with
 |nil=>intro f t;exact nR n
 |cons p l ih=>
  intro f t;unfold jX;obtain⟨a,b,c,d⟩:=h p (by simp);refine wK ?_ (ih (fun q hq=>h q (by simp[hq])) _ _);split
  ·intro q hq;simp only[List.mem_singleton]at hq;subst hq;simp only;omega
  ·exact nR n
def jD (b:ByteArray)(l:List (Int×Int)):ByteArray:=l.foldl (fun s p=>s++b.extract p.1.toNat (p.1+p.2).toNat) ⟨#[]⟩
theorem Ms {b:ByteArray}{k:Nat}(h:k<l.length):jD b (l.take (k+1))=jD b (l.take k)++b.extract (l.getD k (0,0)).1.toNat ((l.getD k (0,0)).1+(l.getD k (0,0)).2).toNat:=by
 unfold jD;rw[List.take_succ_eq_append_getElem h,List.foldl_append];simp[List.getD_eq_getElem?_getD,h]
theorem FP {b:ByteArray}(h:lV n l):∀k:Nat,((jD b (l.take k)).size:Int)<=(k:Int)*5000:=by
 intro k
 induction k with
 |zero=>exact Int.le_refl _
 |succ k ih=>
  by_cases hk:k<l.length
  ·rw[Ms hk,gM,ByteArray.size_extract];have hm:l.getD k (0,0)∈l:=by rw[List.getD_eq_getElem?_getD,List.getElem?_eq_getElem hk];simp
   obtain⟨p1,p2,p3,p4⟩:=h _ hm;omega
  ·rw[List.take_of_length_le (by omega),<-List.take_of_length_le (show l.length<=k by omega)];omega
def vM (x:St)(pos n:Int):ByteArray×Int:=
 if x.1.aX=false then (⟨#[]⟩,3)else if pos<0\/n<0\/sz x.2.2.1<pos\/sz x.2.2.1-pos<n then (⟨#[]⟩,5)
 else (jD (aN x.2.1 1) (jX x.2.2.1 pos (pos+n)),0)
theorem UX (h:dX l)(more:List (Int×Int))(h1:pos<=sz l):fl (bY l pos more)=(fl l).take pos.toNat++fl more++(fl l).drop pos.toNat:=by
 unfold bY;split
 ·rename_i e;subst e;simp[fl]
 ·rw[zR,zR,yJ h,Dh h _ h1]
theorem UY (h:dX l)(h0:0<=pos)(hn:0<=n)(h1:pos+n<=sz l):fl (bU l pos n).1=(fl l).take pos.toNat++(fl l).drop (pos+n).toNat/\fl (bU l pos n).2=((fl l).drop pos.toNat).take n.toNat:=by
 unfold bU;split
 ·rename_i e;subst e;simp[fl]
 ·have ht:=iA h pos;have hs:=jP h h0 (by omega);unfold Gf tK;rw[zR,yJ h,Dh ht _ (by omega),yJ ht,Dh h _ (by omega),List.drop_drop,show pos.toNat+n.toNat=(pos+n).toNat from by omega];exact⟨rfl,rfl⟩
def oJ (f:List Int)(p n:Int)(come:List Int):List Int:=f.take p.toNat++come++f.drop (p+n).toNat
def vN (e:Ed)(f:List Int):List Int:=oJ f e.1 (sz e.2.2) (fl e.2.1)
def Dx (e:Ed)(f:List Int):List Int:=oJ f e.1 (sz e.2.1) (fl e.2.2)
theorem LG (h:dX l)(come:List (Int×Int))(h0:0<=p)(hn:0<=n)(h1:p+n<=sz l)(hk:dX (bU l p n).1):fl (bY (bU l p n).1 p come)=oJ (fl l) p n (fl come):=by
 have hl:=mW h;have hs:=(Uo h h0 hn h1).1;have e:=(UY h h0 hn h1).1;rw[UX hk come (by omega),e];have hp:((fl l).take p.toNat).length=p.toNat:=by rw[List.length_take];omega
 unfold oJ;rw[List.take_append_of_le_length (by omega),List.take_of_length_le (by omega),List.drop_append_of_le_length (by omega),List.drop_of_length_le (by omega),List.nil_append]
def gF:List Int->List Ed->List (List Int)
 |_,[]=> []
 |f,e::l=>vN e f::gF (vN e f) l
def gN:List Int->List Ed->List (List Int)
 |_,[]=> []
 |f,e::l=>Dx e f::gN (Dx e f) l
def Mt:List Int->List Ed->Prop
 |_,[]=>True
 |f,e::l=>(0<=e.1/\e.1+sz e.2.2<=(f.length:Int)/\(f.drop e.1.toNat).take (sz e.2.2).toNat=fl e.2.2)/\Mt (vN e f) l
def Mv:List Int->List Ed->Prop
 |_,[]=>True
 |f,e::l=>(0<=e.1/\e.1+sz e.2.1<=(f.length:Int)/\(f.drop e.1.toNat).take (sz e.2.1).toNat=fl e.2.1)/\Mv (Dx e f) l
theorem yU (l:List Ed):∀(f:List Int) (k:Nat),gF f (l.take k)=(gF f l).take k:=by
 induction l with
 |nil=>intro f k;simp[gF]
 |cons e l ih=>
  intro f k;cases k with
  |zero=>simp[gF]
  |succ k=>simp[gF,ih]
theorem Yz (l:List Ed):∀(f:List Int) (k:Nat),gN f (l.take k)=(gN f l).take k:=by
 induction l with
 |nil=>intro f k;simp[gN]
 |cons e l ih=>
  intro f k;cases k with
  |zero=>simp[gN]
  |succ k=>simp[gN,ih]
theorem Bu (l:List Ed):∀(f:List Int) (k:Nat),Mt f l->Mt f (l.take k):=by
 induction l with
 |nil=>intro f k _;simp[Mt]
 |cons e l ih=>
  intro f k h;cases k with
  |zero=>simp[Mt]
  |succ k=>exact⟨h.1,ih _ k h.2⟩
theorem FQ (l:List Ed):∀(f:List Int) (k:Nat),Mv f l->Mv f (l.take k):=by
 induction l with
 |nil=>intro f k _;simp[Mv]
 |cons e l ih=>
  intro f k h;cases k with
  |zero=>simp[Mv]
  |succ k=>exact⟨h.1,ih _ k h.2⟩
theorem zX {f:List Int}{gone come:List Int}(h0:0<=p)(hn:0<=n)(h1:p+n<=(f.length:Int))(hg:(f.drop p.toNat).take n.toNat=gone)(hk:k=(come.length:Int)):oJ (oJ f p n come) p k gone=f:=by
 have hp:(f.take p.toNat).length=p.toNat:=by rw[List.length_take];omega
 unfold oJ;have e1:(f.take p.toNat++come++f.drop (p+n).toNat).take p.toNat=f.take p.toNat:=by rw[List.append_assoc,List.take_append_of_le_length (by omega),List.take_of_length_le (by omega)]
 have e2:(f.take p.toNat++come++f.drop (p+n).toNat).drop (p+k).toNat=f.drop (p+n).toNat:=List.drop_left' (by rw[List.length_append];omega);rw[e1,e2,<-hg,show(p+n).toNat=p.toNat+n.toNat from by omega,<-List.drop_drop,List.append_assoc,List.take_append_drop,List.take_append_drop]
theorem Kg {f:List Int}{come:List Int}(h0:0<=p)(hn:0<=n)(h1:p+n<=(f.length:Int))(hk:k=(come.length:Int)):p+k<=((oJ f p n come).length:Int)/\((oJ f p n come).drop p.toNat).take k.toNat=come:=by
 have hp:(f.take p.toNat).length=p.toNat:=by rw[List.length_take];omega
 unfold oJ;refine⟨by simp only[List.length_append];omega,?_⟩;rw[List.append_assoc,List.drop_append_of_le_length (by omega),List.drop_of_length_le (Nat.le_of_eq hp),List.nil_append,List.take_append_of_le_length (by omega),List.take_of_length_le (by omega)]
abbrev Tm:=List Int×List (List Int)×List (List Int)×Int
variable {t:Tm}
structure Xi (m:bR)(t:Tm):Prop where
 text:t.1=fl m.1
 lN:t.2.1=gF (fl m.1) m.2.1
 nT:t.2.2.1=gN (fl m.1) m.2.2.1
 fu:Mt (fl m.1) m.2.1
 fr:Mv (fl m.1) m.2.2.1
 done:t.2.2.2=m.2.2.2.1
def Bv (t:Tm)(f:List Int)(depth:Nat):Tm:=(f,(t.1::t.2.1).take depth,[],t.2.2.2+1)
def xR (t:Tm)(depth:Nat):Tm:=match t.2.1 with
 | []=>t
 |f::l=>(f,l,(t.1::t.2.2.1).take depth,t.2.2.2+1)
def xS (t:Tm)(depth:Nat):Tm:=match t.2.2.1 with
 | []=>t
 |f::l=>(f,(t.1::t.2.1).take depth,l,t.2.2.2+1)
theorem pq {c most:Int}(hg:dJ m depth)(hr:Xi m t)(h:(sW m a b c most depth).2=0):Xi (sW m a b c most depth).1 (Bv t ((fl m.1).take a.toNat++fl [(b,c)]++(fl m.1).drop a.toNat) depth):=by
 have lG:=hg.yT;have bX:=hg.tC;have kV:=hg.Ql;have Ur:=mW kV;unfold sW at h ⊢;split at h
 ·cases h
 rename_i h1;rw[if_neg h1];split at h
 ·cases h
 rename_i h2;rw[if_neg h2];split at h
 ·cases h
 rename_i h3;rw[if_neg h3];split at h
 ·cases h
 rename_i h4;rw[if_neg h4];have hp:fl (bY m.1 a [(b,c)])=(fl m.1).take a.toNat++fl [(b,c)]++(fl m.1).drop a.toNat:=UX kV _ (by omega);have hlc:((fl [(b,c)]).length:Int)=c:=by simp[fl];omega
 have ht:oJ (fl m.1) a 0 (fl [(b,c)])=fl (bY m.1 a [(b,c)]):=by unfold oJ;rw[hp,Int.add_zero]
 have iU:sz [(b,c)]=c:=by simp[sz]
 have hu:vN (a,[],[(b,c)]) (fl (bY m.1 a [(b,c)]))=fl m.1:=by
  unfold vN;simp only;rw[<-ht,iU];exact zX (by omega) (by omega) (by omega) (by simp[fl]) hlc.symm
 obtain⟨q1,q2⟩:=Kg (f:=fl m.1) (p:=a) (n:=0) (come:=fl [(b,c)]) (by omega) (by omega) (by omega) hlc.symm;rw[ht]at q1 q2;refine⟨by simp only[Bv];exact hp.symm,?_,rfl,?_,trivial,by simp only[Bv];rw[hr.done]⟩
 ·simp only[Bv];rw[yU];simp only[gF];rw[hu,hr.text,hr.lN]
 ·simp only;refine Bu _ _ _ ⟨⟨by omega,by simp only;rw[iU];exact q1,by simp only;rw[iU];exact q2⟩,?_⟩;rw[hu];exact hr.fu
theorem pu (hg:dJ m depth)(hr:Xi m t)(h:(yA m a b depth).2=0):Xi (yA m a b depth).1 (Bv t ((fl m.1).take a.toNat++(fl m.1).drop (a+b).toNat) depth):=by
 have kV:=hg.Ql;have Ur:=mW kV;unfold yA at h ⊢;split at h
 ·cases h
 rename_i h1;rw[if_neg h1];split at h
 ·cases h
 rename_i h2;rw[if_neg h2];obtain⟨e1,e2⟩:=UY kV (pos:=a) (n:=b) (by omega) (by omega) (by omega);have iU:=(Uo kV (pos:=a) (n:=b) (by omega) (by omega) (by omega)).2;have ht:oJ (fl m.1) a b []=fl (bU m.1 a b).1:=by unfold oJ;rw[e1,List.append_nil]
 have hu:vN (a,(bU m.1 a b).2,[]) (fl (bU m.1 a b).1)=fl m.1:=by
  unfold vN;simp only;rw[<-ht,show sz []=0 from rfl];exact zX (by omega) (by omega) (by omega) e2.symm rfl
 obtain⟨q1,q2⟩:=Kg (f:=fl m.1) (p:=a) (n:=b) (come:=[]) (by omega) (by omega) (by omega) (k:=0) rfl;rw[ht]at q1 q2;refine⟨by simp only[Bv];exact e1.symm,?_,rfl,?_,trivial,by simp only[Bv];rw[hr.done]⟩
 ·simp only[Bv];rw[yU];simp only[gF];rw[hu,hr.text,hr.lN]
 ·simp only;refine Bu _ _ _ ⟨⟨by omega,by simp only;exact q1,by simp only;exact q2⟩,?_⟩;rw[hu];exact hr.fu
theorem Kh (h:lV n l)(hn:n<=1000000000):((fl l).length:Int)=sz l:=mW (h.ok hn)
theorem UZ (hg:dJ m depth)(hr:Xi m t)(h:(pK m depth).2=0):Xi (pK m depth).1 (xR t depth)/\t.2.1≠[]:=by
 have kV:=hg.Ql;have Ur:=mW kV;have hb:=hg.tC;obtain⟨x,us,rs,dn,bf⟩:=m;obtain⟨tx,tu,tr,td⟩:=t;obtain⟨r1,r2,r3,r4,r5,r6⟩:=hr;simp only at*;unfold pK at h ⊢;cases us with
 |nil=>simp only at h;cases h
 |cons e us=>
  simp only at h ⊢;split at h
  ·cases h
  rename_i hf;rw[if_neg hf];obtain⟨⟨p0,p1,p2⟩,fu⟩:=r4;obtain⟨-,i1,i2⟩:=hg.lN e (by simp);simp only at i1 i2;have n2:=oI i2;have l1:=Kh i1 (by omega);have l2:=Kh i2 (by omega);have hc:=(Kc hg.text e.1 (sz e.2.2)).1.ok (by simp only;omega);simp only at hc;have et:fl (bY (bU x e.1 (sz e.2.2)).1 e.1 e.2.1)=vN e (fl x):=LG kV e.2.1 p0 n2 (by omega) hc;have er:Dx e (vN e (fl x))=fl x:=zX p0 n2 p1 p2 l1.symm;obtain⟨q1,q2⟩:=Kg (come:=fl e.2.1) p0 n2 p1 l1.symm;refine⟨⟨?_,?_,?_,?_,?_,?_⟩,by rw[r2];simp[gF]⟩
  ·rw[r2];simp only[xR,gF];exact et.symm
  ·rw[r2];simp only[xR,gF];rw[et]
  ·rw[r2];simp only[xR,gF];rw[et,Yz];simp only[gN];rw[er,r1,r3]
  ·simp only;rw[et];exact fu
  ·simp only;rw[et];refine FQ _ _ _ ⟨⟨p0,q1,q2⟩,?_⟩;rw[er];exact r5
  ·rw[r2];simp only[xR,gF];rw[r6]
theorem VA (hg:dJ m depth)(hr:Xi m t)(h:(pO m depth).2=0):Xi (pO m depth).1 (xS t depth)/\t.2.2.1≠[]:=by
 have kV:=hg.Ql;have Ur:=mW kV;have hb:=hg.tC;obtain⟨x,us,rs,dn,bf⟩:=m;obtain⟨tx,tu,tr,td⟩:=t;obtain⟨r1,r2,r3,r4,r5,r6⟩:=hr;simp only at*;unfold pO at h ⊢;cases rs with
 |nil=>simp only at h;cases h
 |cons e rs=>
  simp only at h ⊢;split at h
  ·cases h
  rename_i hf;rw[if_neg hf];obtain⟨⟨p0,p1,p2⟩,fu⟩:=r5;obtain⟨-,i1,i2⟩:=hg.nT e (by simp);simp only at i1 i2;have n1:=oI i1;have l1:=Kh i1 (by omega);have l2:=Kh i2 (by omega);have hc:=(Kc hg.text e.1 (sz e.2.1)).1.ok (by simp only;omega);simp only at hc;have et:fl (bY (bU x e.1 (sz e.2.1)).1 e.1 e.2.2)=Dx e (fl x):=LG kV e.2.2 p0 n1 (by omega) hc;have er:vN e (Dx e (fl x))=fl x:=zX p0 n1 p1 p2 l2.symm;obtain⟨q1,q2⟩:=Kg (come:=fl e.2.2) p0 n1 p1 l2.symm;refine⟨⟨?_,?_,?_,?_,?_,?_⟩,by rw[r3];simp[gN]⟩
  ·rw[r3];simp only[xS,gN];exact et.symm
  ·rw[r3];simp only[xS,gN];rw[et,yU];simp only[gF];rw[er,r1,r2]
  ·rw[r3];simp only[xS,gN];rw[et]
  ·simp only;rw[et];refine Bu _ _ _ ⟨⟨p0,q1,q2⟩,?_⟩;rw[er];exact r4
  ·simp only;rw[et];exact fu
  ·rw[r3];simp only[xS,gN];rw[r6]
end Go.Proofs.YtfplgfodoiiobaaGreatDoor
