/- RefR, RefT, RefV, RefW, RefY, KpA, KpB (joined). -/
import Derived.Test.YtfplgfodoiiobaaGreatDoorJ05
open Option renaming none→O
open Go renaming World→F,Value→Y
namespace Go.Proofs.YtfplgfodoiiobaaGreatDoor
open Go.RowKit
variable {n a p b pos k:Int}{l:List (Int×Int)}{m:bT}{depth d:Nat}{fs:List bF}{s:Sc}{f:List Int}
theorem NV {more:List (Int×Int)}(h:eF l)(h0:0<=pos)(h1:pos<=sz l):sz (cB l pos more)=sz l+sz more:=by
 unfold cB;split
 ·rename_i e;rw[e];simp[sz]
 ·rw[nX,nX,vY h h0 h1,kC h h0 h1];omega
theorem Yt (h:eF l)(h0:0<=pos)(hn:0<=n)(h1:pos+n<=sz l):sz (bY l pos n).1=sz l-n/\sz (bY l pos n).2=n:=by
 unfold bY;split
 ·rename_i e;subst e;simp[sz]
 ·have ht:=iI h pos;have h2:sz (bJ l pos)=sz l-pos:=kC h h0 (by omega);simp only[Il,vC];rw[nX,vY h h0 (by omega),kC ht hn (by omega),vY ht hn (by omega)];omega
def mV (n:Int)(l:List (Int×Int)):Prop:=∀p∈l,1<=p.2/\p.2<=5000/\0<=p.1/\p.1+p.2<=n
theorem mV.ok (h:mV n l)(hn:n<=1000000000):eF l:=fun p hp=>by
 obtain⟨a,b,c,d⟩:=h p hp;unfold kQ;omega
theorem mV.mono {n':Int}(h:mV n l)(hn:n<=n'):mV n' l:=fun p hp=>by
 obtain⟨a,b,c,d⟩:=h p hp;omega
theorem oJ (n:Int):mV n []:=fun p hp=>by simp at hp
theorem xC {a b:List (Int×Int)}(ha:mV n a)(hb:mV n b):mV n (a++b):=fun p hp=>by
 rcases List.mem_append.1 hp with h|h
 ·exact ha p h
 ·exact hb p h
theorem Pg (h:mV n l):∀k:Int,mV n (cO l k):=by
 induction l with
 |nil=>intro k;exact oJ n
 |cons p l ih=>
  intro k;have hp:=h p (by simp);have hl:mV n l:=fun q hq=>h q (by simp[hq])
  unfold cO;split
  ·exact oJ n
  ·split
   ·intro q hq;simp only[List.mem_cons]at hq;rcases hq with rfl|hq
    ·exact hp
    ·exact ih hl _ q hq
   ·intro q hq;simp only[List.mem_singleton]at hq;subst hq;simp only;omega
theorem Fp (h:mV n l):∀k:Int,mV n (bJ l k):=by
 induction l with
 |nil=>intro k;exact oJ n
 |cons p l ih=>
  intro k;have hp:=h p (by simp);have hl:mV n l:=fun q hq=>h q (by simp[hq])
  unfold bJ;split
  ·exact h
  ·split
   ·exact ih hl _
   ·intro q hq;simp only[List.mem_cons]at hq;rcases hq with rfl|hq
    ·simp only;omega
    ·exact hl q hq
theorem SV {more:List (Int×Int)}(h:mV n l)(hm:mV n more)(pos:Int):mV n (cB l pos more):=by
 unfold cB;split
 ·exact h
 ·exact xC (xC (Pg h _) hm) (Fp h _)
theorem Nf (h:mV n l)(pos k:Int):mV n (bY l pos k).1/\mV n (bY l pos k).2:=by
 unfold bY;split
 ·exact⟨h,oJ n⟩
 ·exact⟨xC (Pg h _) (Fp (Fp h _) _),Pg (Fp h _) _⟩
structure dM (m:bT)(depth:Nat):Prop where
 zL:0<=m.2.2.2.2
 uD:m.2.2.2.2<=1000000
 text:mV m.2.2.2.2 m.1
 long:sz m.1<=5000
 few:m.1.length<=4096
 lK:∀e∈m.2.1,0<=e.1/\mV m.2.2.2.2 e.2.1/\mV m.2.2.2.2 e.2.2
 nJ:∀e∈m.2.2.1,0<=e.1/\mV m.2.2.2.2 e.2.1/\mV m.2.2.2.2 e.2.2
 Da:m.2.1.length<=depth
 Iy:m.2.2.1.length<=depth
 Ub:oZ (m.2.1.map qP) (sz m.1)=true
 EP:oZ (m.2.2.1.map mM) (sz m.1)=true
 done:0<=m.2.2.2.1
theorem wD (l:List (Int×Int×Int)):∀(k:Nat) (n:Int),oZ l n=true->oZ (l.take k) n=true:=by
 induction l with
 |nil=>intro k n _;simp[oZ]
 |cons x l ih=>
  intro k n h;obtain⟨p,a,b⟩:=x;cases k with
  |zero=>simp[oZ]
  |succ k=>
   simp only[List.take_succ_cons];unfold oZ at h ⊢;split
   ·rename_i h1;rw[if_pos h1]at h;cases h
   ·rename_i h1;rw[if_neg h1]at h;split
    ·rename_i h2;rw[if_pos h2]at h;cases h
    ·rename_i h2;rw[if_neg h2]at h;exact ih k _ h
theorem mW {l:List (Int×Int×Int)}:oZ ((p,a,b)::l) n=true↔p+a<=n/\n-a+b<=5000/\oZ l (n-a+b)=true:=by
 rw[oZ];split
 ·simp;omega
 ·split
  ·simp;omega
  ·constructor
   ·intro h;exact⟨by omega,by omega,h⟩
   ·intro h;exact h.2.2
theorem dM.Tg (h:dM m d):eF m.1:=h.text.ok (by have:=h.uD;omega)
theorem pJ (h:mV n l):0<=sz l:=by
 induction l with
 |nil=>simp[sz]
 |cons p l ih=>
  have:=h p (by simp);have:=ih (fun q hq=>h q (by simp[hq]));simp only[sz];omega
theorem EQ (h:dM m depth){c most:Int}(hb:b=m.2.2.2.2)(hc:m.2.2.2.2+c<=1000000)(hm:most<=5000):dM (rR m a b c most depth).1 depth:=by
 unfold rR;split;· exact h
 split;· exact h
 split;· exact h
 split;· exact h
 rename_i h1 h2 h3 h4;have hl:=h.long;have b0:=h.zL
 have hp:mV (m.2.2.2.2+c) [(b,c)]:=fun p hp=>by
  simp only[List.mem_singleton]at hp;subst hp;simp only;omega
 have hs:sz (cB m.1 a [(b,c)])=sz m.1+c:=by rw[NV h.Tg (by omega) (by omega)];simp[sz]
 have jm:m.2.2.2.2<=m.2.2.2.2+c:=by omega
 refine⟨by simp only;omega,by simp only;omega,SV (h.text.mono jm) hp a,by simp only;omega,by simp only;omega,?_,by simp,?_,by simp,?_,by simp[oZ],by have:=h.done;simp only;omega⟩
 ·intro e he;have he:=List.mem_of_mem_take he;simp only[List.mem_cons]at he;rcases he with rfl|he
  ·exact⟨by simp only;omega,oJ _,hp⟩
  ·obtain⟨x,y,z⟩:=h.lK e he;exact⟨x,y.mono jm,z.mono jm⟩
 ·simp only;rw[List.length_take];omega
 ·simp only;rw[List.map_take];refine wD _ _ _ ?_;rw[List.map_cons,qP,mW,hs];simp only[sz];refine⟨by omega,by omega,?_⟩;rw[show sz m.1+c-(c+0)+0=sz m.1 from by omega];exact h.Ub
theorem ER (h:dM m depth):dM (yQ m a b depth).1 depth:=by
 unfold yQ;split;· exact h
 split;· exact h
 rename_i h1 h2;have hl:=h.long;obtain⟨s1,s2⟩:=Yt h.Tg (pos:=a) (n:=b) (by omega) (by omega) (by omega);obtain⟨i1,i2⟩:=Nf h.text a b;refine⟨h.zL,h.uD,i1,by simp only;omega,by simp only;omega,?_,by simp,?_,by simp,?_,by simp[oZ],by have:=h.done;simp only;omega⟩
 ·intro e he;have he:=List.mem_of_mem_take he;simp only[List.mem_cons]at he;rcases he with rfl|he
  ·exact⟨by simp only;omega,i2,oJ _⟩
  ·exact h.lK e he
 ·simp only;rw[List.length_take];omega
 ·simp only;rw[List.map_take];refine wD _ _ _ ?_;rw[List.map_cons,qP,mW,s1];simp only[sz];rw[s2];refine⟨by omega,by omega,?_⟩;rw[show sz m.1-b-0+b=sz m.1 from by omega];exact h.Ub
theorem Ph (h:dM m depth){gone come:List (Int×Int)}(hp:0<=p)(hg:mV m.2.2.2.2 gone)(hc:mV m.2.2.2.2 come)(Pe:p+sz gone<=sz m.1):
 sz (cB (bY m.1 p (sz gone)).1 p come)=sz m.1-sz gone+sz come/\mV m.2.2.2.2 (cB (bY m.1 p (sz gone)).1 p come):=by
 have hn:=pJ hg;obtain⟨s1,-⟩:=Yt h.Tg (pos:=p) (n:=sz gone) hp hn Pe;obtain⟨i1,-⟩:=Nf h.text p (sz gone);refine⟨?_,SV i1 hc p⟩;rw[NV (i1.ok (by have:=h.uD;omega)) hp (by omega),s1]
theorem Vr (h:dM m depth):dM (qM m depth).1 depth:=by
 unfold qM;split
 ·exact h
 ·rename_i e rest he;split
  ·exact h
  ·rename_i h4;obtain⟨x,y,z⟩:=h.lK e (by rw[he];simp);have hf:=h.Ub;rw[he,List.map_cons,qP,mW]at hf;obtain⟨f1,f2,f3⟩:=hf;obtain⟨s1,i1⟩:=Ph h x z y f1;have n1:=pJ z;have n2:=pJ y;refine⟨h.zL,h.uD,i1,by simp only;omega,by simp only;omega,fun e' Fq=>h.lK e' (by rw[he];simp[Fq]),?_,by have:=h.Da;rw[he]at this;simp only[List.length_cons]at this ⊢;omega,?_,by simp only;rw[s1];exact f3,?_,by have:=h.done;simp only;omega⟩
   ·intro e' Fq;have Fq:=List.mem_of_mem_take Fq;simp only[List.mem_cons]at Fq;rcases Fq with rfl|Fq
    ·exact⟨x,y,z⟩
    ·exact h.nJ e' Fq
   ·simp only;rw[List.length_take];omega
   ·simp only;rw[List.map_take];refine wD _ _ _ ?_;rw[List.map_cons,mM,mW,s1];have hl:=h.long;refine⟨by omega,by omega,?_⟩;rw[show sz m.1-sz e.2.2+sz e.2.1-sz e.2.1+sz e.2.2=sz m.1 from by omega];exact h.EP
theorem Vs (h:dM m depth):dM (qN m depth).1 depth:=by
 unfold qN;split
 ·exact h
 ·rename_i e rest he;split
  ·exact h
  ·rename_i h4;obtain⟨x,y,z⟩:=h.nJ e (by rw[he];simp);have hf:=h.EP;rw[he,List.map_cons,mM,mW]at hf;obtain⟨f1,f2,f3⟩:=hf;obtain⟨s1,i1⟩:=Ph h x y z f1;have n1:=pJ z;have n2:=pJ y;refine⟨h.zL,h.uD,i1,by simp only;omega,by simp only;omega,?_,fun e' Fq=>h.nJ e' (by rw[he];simp[Fq]),?_,by have:=h.Iy;rw[he]at this;simp only[List.length_cons]at this ⊢;omega,?_,by simp only;rw[s1];exact f3,by have:=h.done;simp only;omega⟩
   ·intro e' Fq;have Fq:=List.mem_of_mem_take Fq;simp only[List.mem_cons]at Fq;rcases Fq with rfl|Fq
    ·exact⟨x,y,z⟩
    ·exact h.lK e' Fq
   ·simp only;rw[List.length_take];omega
   ·simp only;rw[List.map_take];refine wD _ _ _ ?_;rw[List.map_cons,qP,mW,s1];have hl:=h.long;refine⟨by omega,by omega,?_⟩;rw[show sz m.1-sz e.2.1+sz e.2.2-sz e.2.2+sz e.2.1=sz m.1 from by omega];exact h.Ub
structure fU (s:Sc):Prop where
 ES:0<=s.most
 Vt:s.most<=5000
 Db:0<=s.depth
 xD:s.depth<=50
 Vu:0<=s.room
 oK:s.room<=1000000
 oL:s.after<=9223372036854775807
 Yu:0<=s.one
 NW:s.one<=9223372036854775807
 Fs:0<=s.rest
 Pj:s.rest<=9223372036854775807
 zM:0<=s.left
 Cb:s.left<=9223372036854775807
 nK:0<=s.aV
 zN:s.aV<=999
def gU (s s':Sc):Prop:=s'.most=s.most/\s'.depth=s.depth/\s'.room=s.room/\s'.aV=s.aV
theorem gU.refl (s:Sc):gU s s:=⟨rfl,rfl,rfl,rfl⟩
theorem gU.trans {a b c:Sc}(h1:gU a b)(h2:gU b c):gU a c:=⟨h2.1.trans h1.1,h2.2.1.trans h1.2.1,h2.2.2.1.trans h1.2.2.1,h2.2.2.2.trans h1.2.2.2⟩
def wE (s s':Sc):Prop:=gU s s'/\s'.aS=s.aS/\s'.ro=s.ro/\fU s'
def Lb (s s':Sc)(fs bN:List bF):Prop:=gU s s'/\s'.aS=false/\fU s'/\dY s.room bN/\bN.length<=fs.length
theorem wE.trans {a b c:Sc}(h1:wE a b)(h2:wE b c):wE a c:=⟨h1.1.trans h2.1,h2.2.1.trans h1.2.1,h2.2.2.1.trans h1.2.2.1,h2.2.2.2⟩
theorem lay_len {room one rest:Int}(h:dY room fs):(Cx (fs.map (jV one rest))).length<=fs.length:=by
 rw[Vp h];exact Nat.le_trans (List.length_filter_le _ _) (by simp)
theorem wF (hc:fU s)(h:dY s.room fs):(∃s',dF s fs=(true,s',fs)/\wE s s')\/(∃s' bN,dF s fs=(false,s',bN)/\Lb s s' fs bN):=by
 rcases Cy s fs with⟨_,e⟩|⟨_,h2,e⟩|⟨_,_,e⟩
 ·exact Or.inl ⟨s,e,gU.refl s,rfl,rfl,hc⟩
 ·exact Or.inl ⟨_,e,⟨rfl,rfl,rfl,rfl⟩,rfl,rfl,{ hc with oL:=by have:=hc.oL;simp only;omega }⟩
 ·exact Or.inr ⟨_,_,e,⟨rfl,rfl,rfl,rfl⟩,rfl,{ hc with },h.crash hc.Yu hc.Fs,lay_len h⟩
theorem dY.room (h:dY a fs)(e:b=a):dY b fs:=by rw[e];exact h
theorem Yv (hc:fU s)(h:dY s.room fs)(hn:0<=n/\n<=9223372036854775807){b:ByteArray}(hb:b.size≠0):
 (∃s',dJ s fs n b=(0,s',iR fs (lX fs n b))/\wE s s'/\dY s.room (iR fs (lX fs n b)))\/(∃s',dJ s fs n b=(9,s',fs)/\gU s s'/\s'.aS=s.aS/\s'.ro=true/\fU s')\/(∃s' bN,dJ s fs n b=(10,s',bN)/\Lb s s' fs bN):=by
 unfold dJ;split
 ·exact Or.inr (Or.inl ⟨_,rfl,⟨rfl,rfl,rfl,rfl⟩,rfl,rfl,{ hc with }⟩)
 ·split
  ·exact Or.inr (Or.inl ⟨_,rfl,⟨rfl,rfl,rfl,rfl⟩,rfl,rfl,{ hc with }⟩)
  ·rename_i h1 hu;simp only;generalize yC:(if s.refusing=true then { s with left:=s.left-1 } else s)=s1
   have e1:wE s s1:=by
    rw[<-yC];split
    ·rename_i hr;have hl:¬s.left=0:=fun e=>h1 ⟨hr,e⟩
     have:=hc.zM;have:=hc.Cb;exact⟨⟨rfl,rfl,rfl,rfl⟩,rfl,rfl,{ hc with zM:=by simp only;omega,Cb:=by simp only;omega }⟩
    ·exact⟨gU.refl s,rfl,rfl,hc⟩
   rcases wF e1.2.2.2 (h.room e1.1.2.2.1)with⟨s',e,hd⟩|⟨s',bN,e,hd⟩
   ·left;obtain⟨g1,g2⟩:=h.app hc.oK hn hb (by omega);refine⟨s',?_,e1.trans hd,g1⟩;rw[e];simp only[if_true];rw[g2]
   ·right;right;refine⟨s',bN,?_,e1.1.trans hd.1,hd.2.1,hd.2.2.1,hd.2.2.2.1.room e1.1.2.2.1.symm,hd.2.2.2.2⟩;rw[e];simp
theorem Aq (hc:fU s)(h:dY s.room fs)(n:Int):
 (∃s' bN,bQ s fs n=(true,s',bN)/\wE s s'/\dY s.room bN/\bN.length=fs.length/\bN.map (fun f=>(f.1,f.2.1))=fs.map (fun f=>(f.1,f.2.1)))\/(∃s' bN,bQ s fs n=(false,s',bN)/\Lb s s' fs bN):=by
 have hI:=WI h hc.Yu hc.Fs n;unfold bQ at*;split
 ·exact Or.inl ⟨s,fs,rfl,⟨gU.refl s,rfl,rfl,hc⟩,h,rfl,rfl⟩
 ·rename_i i hi;rw[hi]at hI;simp only at hI ⊢;rcases wF hc h with⟨s',e,hd⟩|⟨s',bN,e,hd⟩
  ·rw[e]at hI ⊢;simp only[if_true]at hI ⊢;refine Or.inl ⟨s',_,rfl,hd,hI,by simp,?_⟩;obtain⟨f,g1,g2,g3⟩:=Fg hi;have hb:aL fs n=f.2.1:=by rw[cK,g2];rfl
   rw[hb,List.map_set];refine List.ext_getElem? (fun j=>?_);rw[List.getElem?_set];split
   ·rename_i hj;subst hj;split
    ·rw[List.getElem?_map,g1];simp[g3]
    ·rename_i bV;have:=Pd hi;simp at bV;omega
   ·rfl
  ·rw[e];exact Or.inr ⟨s',bN,by simp,hd⟩
def Fu (fs:List bF)(n k:Int):List bF:=if k=0 then gP fs n else iR fs (n,(aL fs n).extract 0 k.toNat,k)
theorem Ng (hc:fU s)(h:dY s.room fs)(n:Int)(h0:0<=k):
 (((aL fs n).size:Int)<=k/\bR s fs n k=(true,s,fs))\/(k<((aL fs n).size:Int)/\∃s',bR s fs n k=(true,s',Fu fs n k)/\wE s s'/\dY s.room (Fu fs n k))\/(k<((aL fs n).size:Int)/\∃s' bN,bR s fs n k=(false,s',bN)/\Lb s s' fs bN):=by
 unfold bR;by_cases hk:((aL fs n).size:Int)<=k
 ·rw[if_pos hk];exact Or.inl ⟨hk,rfl⟩
 ·rw[if_neg hk];have hk':k<((aL fs n).size:Int):=by omega
  simp only;have e9:=extract_size (aL fs n) h0 (Int.le_of_lt hk')
  have ec:Oy fs (n,(aL fs n).extract 0 k.toNat,k) (-1)=Fu fs n k:=by
   unfold Fu;split
   ·exact Oz h.sort (by simp only;omega) (h.no (by omega))
   ·exact tX h.sort (by simp only;omega) (h.no (by omega))
  rcases wF hc h with⟨s',e,hd⟩|⟨s',bN,e,hd⟩
  ·right;left;rw[e];simp only[if_true];rw[ec];exact⟨hk',s',rfl,hd,by rw[<-ec];exact h.cut h0 hk'⟩
  ·right;right;rw[e];exact⟨hk',s',bN,by simp,hd⟩
theorem kI {room:Int}(h:dY room fs)(n:Int):((aL fs n).size:Int)<=room:=by
 have h2:=h.used;rw[cK];cases e:eO fs n with
 |none=>simp[Yq];have:=zG fs;omega
 |some f=>have:=Ir (mQ e).1;simp;omega
theorem Iz (h:mV n l):(l.length:Int)<=sz l:=by
 induction l with
 |nil=>simp[sz]
 |cons p l ih=>
  have h1:=h p (by simp);have h2:=ih (fun q hq=>h q (by simp[hq]));simp only[List.length_cons,sz];omega
theorem jo {bf:Int}{gone come:List (Int×Int)}(hb:bf<=1000000)(hn:n<=5000)(hp:0<=p)(hg:mV bf gone)(hc:mV bf come)(h1:p+sz gone<=n)(h2:n-sz gone+sz come<=5000):Bz n p gone come:=by
 have a:=Iz hg;have b:=Iz hc;have c:=pJ hg;have d:=pJ hc;exact⟨hp,h1,hg.ok (by omega),hc.ok (by omega),by omega,by omega⟩
theorem dM.fitU (h:dM m d):∀e rest,m.2.1=e::rest->Bz (sz m.1) e.1 e.2.2 e.2.1:=by
 intro e rest he;obtain⟨x,y,z⟩:=h.lK e (by rw[he];simp);have hf:=h.Ub;rw[he,List.map_cons,qP,mW]at hf;exact jo h.uD h.long x z y hf.1 hf.2.1
theorem dM.fitR (h:dM m d):∀e rest,m.2.2.1=e::rest->Bz (sz m.1) e.1 e.2.1 e.2.2:=by
 intro e rest he;obtain⟨x,y,z⟩:=h.nJ e (by rw[he];simp);have hf:=h.EP;rw[he,List.map_cons,mM,mW]at hf;exact jo h.uD h.long x y z hf.1 hf.2.1
theorem pV {w0 w:F}{g:Nat}(h:aJ w0 w)(hg:w0.heap.size<=g)(a b c d e:Y):aJ w0 (((((w.setCell ⟨g,0,O⟩ a).setCell ⟨g,1,O⟩ b).setCell ⟨g,2,O⟩ c).setCell ⟨g,3,O⟩ d).setCell ⟨g,4,O⟩ e):=
 ((((h.set (a:=⟨g,0,O⟩) hg a).set (a:=⟨g,1,O⟩) hg b).set (a:=⟨g,2,O⟩) hg c).set (a:=⟨g,3,O⟩) hg d).set (a:=⟨g,4,O⟩) hg e
theorem ET (h:mV n l):∀f t:Int,mV n (kX l f t):=by
 induction l with
 |nil=>intro f t;exact oJ n
 |cons p l ih=>
  intro f t;unfold kX;obtain⟨a,b,c,d⟩:=h p (by simp);refine xC ?_ (ih (fun q hq=>h q (by simp[hq])) _ _);split
  ·intro q hq;simp only[List.mem_singleton]at hq;subst hq;simp only;omega
  ·exact oJ n
def jN (b:ByteArray)(l:List (Int×Int)):ByteArray:=l.foldl (fun s p=>s++b.extract p.1.toNat (p.1+p.2).toNat) ⟨#[]⟩
theorem Pk {b:ByteArray}{k:Nat}(h:k<l.length):jN b (l.take (k+1))=jN b (l.take k)++b.extract (l.getD k (0,0)).1.toNat ((l.getD k (0,0)).1+(l.getD k (0,0)).2).toNat:=by
 unfold jN;rw[List.take_succ_eq_append_getElem h,List.foldl_append];simp[List.getD_eq_getElem?_getD,h]
theorem NY {b:ByteArray}(h:mV n l):∀k:Nat,((jN b (l.take k)).size:Int)<=(k:Int)*5000:=by
 intro k
 induction k with
 |zero=>exact Int.le_refl _
 |succ k ih=>
  by_cases hk:k<l.length
  ·rw[Pk hk,dR,ByteArray.size_extract];have hm:l.getD k (0,0)∈l:=by rw[List.getD_eq_getElem?_getD,List.getElem?_eq_getElem hk];simp
   obtain⟨p1,p2,p3,p4⟩:=h _ hm;omega
  ·rw[List.take_of_length_le (by omega),<-List.take_of_length_le (show l.length<=k by omega)];omega
def mX (x:St)(pos n:Int):ByteArray×Int:=
 if x.1.aS=false then (⟨#[]⟩,3)else if pos<0\/n<0\/sz x.2.2.1<pos\/sz x.2.2.1-pos<n then (⟨#[]⟩,5)
 else (jN (aL x.2.1 1) (kX x.2.2.1 pos (pos+n)),0)
theorem jq (h:eF l)(more:List (Int×Int))(h1:pos<=sz l):fl (cB l pos more)=(fl l).take pos.toNat++fl more++(fl l).drop pos.toNat:=by
 unfold cB;split
 ·rename_i e;subst e;simp[fl]
 ·rw[Ak,Ak,yY h,Es h _ h1]
theorem jr (h:eF l)(h0:0<=pos)(hn:0<=n)(h1:pos+n<=sz l):fl (bY l pos n).1=(fl l).take pos.toNat++(fl l).drop (pos+n).toNat/\fl (bY l pos n).2=((fl l).drop pos.toNat).take n.toNat:=by
 unfold bY;split
 ·rename_i e;subst e;simp[fl]
 ·have ht:=iI h pos;have hs:=kC h h0 (by omega);unfold Il vC;rw[Ak,yY h,Es ht _ (by omega),yY ht,Es h _ (by omega),List.drop_drop,show pos.toNat+n.toNat=(pos+n).toNat from by omega];exact⟨rfl,rfl⟩
def pK (f:List Int)(p n:Int)(come:List Int):List Int:=f.take p.toNat++come++f.drop (p+n).toNat
def wG (e:Ed)(f:List Int):List Int:=pK f e.1 (sz e.2.2) (fl e.2.1)
def Fv (e:Ed)(f:List Int):List Int:=pK f e.1 (sz e.2.1) (fl e.2.2)
theorem SX (h:eF l)(come:List (Int×Int))(h0:0<=p)(hn:0<=n)(h1:p+n<=sz l)(hk:eF (bY l p n).1):fl (cB (bY l p n).1 p come)=pK (fl l) p n (fl come):=by
 have hl:=lW h;have hs:=(Yt h h0 hn h1).1;have e:=(jr h h0 hn h1).1;rw[jq hk come (by omega),e];have hp:((fl l).take p.toNat).length=p.toNat:=by rw[List.length_take];omega
 unfold pK;rw[List.take_append_of_le_length (by omega),List.take_of_length_le (by omega),List.drop_append_of_le_length (by omega),List.drop_of_length_le (by omega),List.nil_append]
def gH:List Int->List Ed->List (List Int)
 |_,[]=> []
 |f,e::l=>wG e f::gH (wG e f) l
def gV:List Int->List Ed->List (List Int)
 |_,[]=> []
 |f,e::l=>Fv e f::gV (Fv e f) l
def Pm:List Int->List Ed->Prop
 |_,[]=>True
 |f,e::l=>(0<=e.1/\e.1+sz e.2.2<=(f.length:Int)/\(f.drop e.1.toNat).take (sz e.2.2).toNat=fl e.2.2)/\Pm (wG e f) l
def Pn:List Int->List Ed->Prop
 |_,[]=>True
 |f,e::l=>(0<=e.1/\e.1+sz e.2.1<=(f.length:Int)/\(f.drop e.1.toNat).take (sz e.2.1).toNat=fl e.2.1)/\Pn (Fv e f) l
theorem zO (l:List Ed):∀(f:List Int) (k:Nat),gH f (l.take k)=(gH f l).take k:=by
 induction l with
 |nil=>intro f k;simp[gH]
 |cons e l ih=>
  intro f k;cases k with
  |zero=>simp[gH]
  |succ k=>simp[gH,ih]
theorem EU (l:List Ed):∀(f:List Int) (k:Nat),gV f (l.take k)=(gV f l).take k:=by
 induction l with
 |nil=>intro f k;simp[gV]
 |cons e l ih=>
  intro f k;cases k with
  |zero=>simp[gV]
  |succ k=>simp[gV,ih]
theorem Dc (l:List Ed):∀(f:List Int) (k:Nat),Pm f l->Pm f (l.take k):=by
 induction l with
 |nil=>intro f k _;simp[Pm]
 |cons e l ih=>
  intro f k h;cases k with
  |zero=>simp[Pm]
  |succ k=>exact⟨h.1,ih _ k h.2⟩
theorem NZ (l:List Ed):∀(f:List Int) (k:Nat),Pn f l->Pn f (l.take k):=by
 induction l with
 |nil=>intro f k _;simp[Pn]
 |cons e l ih=>
  intro f k h;cases k with
  |zero=>simp[Pn]
  |succ k=>exact⟨h.1,ih _ k h.2⟩
theorem Ar {gone come:List Int}(h0:0<=p)(hn:0<=n)(h1:p+n<=(f.length:Int))(hg:(f.drop p.toNat).take n.toNat=gone)(hk:k=(come.length:Int)):pK (pK f p n come) p k gone=f:=by
 have hp:(f.take p.toNat).length=p.toNat:=by rw[List.length_take];omega
 unfold pK;have e1:(f.take p.toNat++come++f.drop (p+n).toNat).take p.toNat=f.take p.toNat:=by rw[List.append_assoc,List.take_append_of_le_length (by omega),List.take_of_length_le (by omega)]
 have e2:(f.take p.toNat++come++f.drop (p+n).toNat).drop (p+k).toNat=f.drop (p+n).toNat:=List.drop_left' (by rw[List.length_append];omega);rw[e1,e2,<-hg,show(p+n).toNat=p.toNat+n.toNat from by omega,<-List.drop_drop,List.append_assoc,List.take_append_drop,List.take_append_drop]
theorem Nh {come:List Int}(h0:0<=p)(hn:0<=n)(h1:p+n<=(f.length:Int))(hk:k=(come.length:Int)):p+k<=((pK f p n come).length:Int)/\((pK f p n come).drop p.toNat).take k.toNat=come:=by
 have hp:(f.take p.toNat).length=p.toNat:=by rw[List.length_take];omega
 unfold pK;refine⟨by simp only[List.length_append];omega,?_⟩;rw[List.append_assoc,List.drop_append_of_le_length (by omega),List.drop_of_length_le (Nat.le_of_eq hp),List.nil_append,List.take_append_of_le_length (by omega),List.take_of_length_le (by omega)]
abbrev Tm:=List Int×List (List Int)×List (List Int)×Int
variable {t:Tm}
structure Yw (m:bT)(t:Tm):Prop where
 text:t.1=fl m.1
 lK:t.2.1=gH (fl m.1) m.2.1
 nJ:t.2.2.1=gV (fl m.1) m.2.2.1
 fu:Pm (fl m.1) m.2.1
 fr:Pn (fl m.1) m.2.2.1
 done:t.2.2.2=m.2.2.2.1
def Df (t:Tm)(f:List Int)(depth:Nat):Tm:=(f,(t.1::t.2.1).take depth,[],t.2.2.2+1)
def yG (t:Tm)(depth:Nat):Tm:=match t.2.1 with
 | []=>t
 |f::l=>(f,l,(t.1::t.2.2.1).take depth,t.2.2.2+1)
def yH (t:Tm)(depth:Nat):Tm:=match t.2.2.1 with
 | []=>t
 |f::l=>(f,(t.1::t.2.1).take depth,l,t.2.2.2+1)
theorem rep_ins {c most:Int}(hg:dM m depth)(hr:Yw m t)(h:(rR m a b c most depth).2=0):Yw (rR m a b c most depth).1 (Df t ((fl m.1).take a.toNat++fl [(b,c)]++(fl m.1).drop a.toNat) depth):=by
 have kT:=hg.zL;have bX:=hg.uD;have kR:=hg.Tg;have Yx:=lW kR;unfold rR at h ⊢;split at h
 ·cases h
 rename_i h1;rw[if_neg h1];split at h
 ·cases h
 rename_i h2;rw[if_neg h2];split at h
 ·cases h
 rename_i h3;rw[if_neg h3];split at h
 ·cases h
 rename_i h4;rw[if_neg h4];have hp:fl (cB m.1 a [(b,c)])=(fl m.1).take a.toNat++fl [(b,c)]++(fl m.1).drop a.toNat:=jq kR _ (by omega);have hlc:((fl [(b,c)]).length:Int)=c:=by simp[fl];omega
 have ht:pK (fl m.1) a 0 (fl [(b,c)])=fl (cB m.1 a [(b,c)]):=by unfold pK;rw[hp,Int.add_zero]
 have gQ:sz [(b,c)]=c:=by simp[sz]
 have hu:wG (a,[],[(b,c)]) (fl (cB m.1 a [(b,c)]))=fl m.1:=by
  unfold wG;simp only;rw[<-ht,gQ];exact Ar (by omega) (by omega) (by omega) (by simp[fl]) hlc.symm
 obtain⟨q1,q2⟩:=Nh (f:=fl m.1) (p:=a) (n:=0) (come:=fl [(b,c)]) (by omega) (by omega) (by omega) hlc.symm;rw[ht]at q1 q2;refine⟨by simp only[Df];exact hp.symm,?_,rfl,?_,trivial,by simp only[Df];rw[hr.done]⟩
 ·simp only[Df];rw[zO];simp only[gH];rw[hu,hr.text,hr.lK]
 ·simp only;refine Dc _ _ _ ⟨⟨by omega,by simp only;rw[gQ];exact q1,by simp only;rw[gQ];exact q2⟩,?_⟩;rw[hu];exact hr.fu
theorem rep_del (hg:dM m depth)(hr:Yw m t)(h:(yQ m a b depth).2=0):Yw (yQ m a b depth).1 (Df t ((fl m.1).take a.toNat++(fl m.1).drop (a+b).toNat) depth):=by
 have kR:=hg.Tg;have Yx:=lW kR;unfold yQ at h ⊢;split at h
 ·cases h
 rename_i h1;rw[if_neg h1];split at h
 ·cases h
 rename_i h2;rw[if_neg h2];obtain⟨e1,e2⟩:=jr kR (pos:=a) (n:=b) (by omega) (by omega) (by omega);have gQ:=(Yt kR (pos:=a) (n:=b) (by omega) (by omega) (by omega)).2;have ht:pK (fl m.1) a b []=fl (bY m.1 a b).1:=by unfold pK;rw[e1,List.append_nil]
 have hu:wG (a,(bY m.1 a b).2,[]) (fl (bY m.1 a b).1)=fl m.1:=by
  unfold wG;simp only;rw[<-ht,show sz []=0 from rfl];exact Ar (by omega) (by omega) (by omega) e2.symm rfl
 obtain⟨q1,q2⟩:=Nh (f:=fl m.1) (p:=a) (n:=b) (come:=[]) (by omega) (by omega) (by omega) (k:=0) rfl;rw[ht]at q1 q2;refine⟨by simp only[Df];exact e1.symm,?_,rfl,?_,trivial,by simp only[Df];rw[hr.done]⟩
 ·simp only[Df];rw[zO];simp only[gH];rw[hu,hr.text,hr.lK]
 ·simp only;refine Dc _ _ _ ⟨⟨by omega,by simp only;exact q1,by simp only;exact q2⟩,?_⟩;rw[hu];exact hr.fu
theorem Ni (h:mV n l)(hn:n<=1000000000):((fl l).length:Int)=sz l:=lW (h.ok hn)
theorem jv (hg:dM m depth)(hr:Yw m t)(h:(qM m depth).2=0):Yw (qM m depth).1 (yG t depth)/\t.2.1≠[]:=by
 have kR:=hg.Tg;have Yx:=lW kR;have hb:=hg.uD;obtain⟨x,us,rs,dn,bf⟩:=m;obtain⟨tx,tu,tr,td⟩:=t;obtain⟨r1,r2,r3,r4,r5,r6⟩:=hr;simp only at*;unfold qM at h ⊢;cases us with
 |nil=>simp only at h;cases h
 |cons e us=>
  simp only at h ⊢;split at h
  ·cases h
  rename_i hf;rw[if_neg hf];obtain⟨⟨p0,p1,p2⟩,fu⟩:=r4;obtain⟨-,i1,i2⟩:=hg.lK e (by simp);simp only at i1 i2;have n2:=pJ i2;have l1:=Ni i1 (by omega);have l2:=Ni i2 (by omega);have hc:=(Nf hg.text e.1 (sz e.2.2)).1.ok (by simp only;omega);simp only at hc;have et:fl (cB (bY x e.1 (sz e.2.2)).1 e.1 e.2.1)=wG e (fl x):=SX kR e.2.1 p0 n2 (by omega) hc;have er:Fv e (wG e (fl x))=fl x:=Ar p0 n2 p1 p2 l1.symm;obtain⟨q1,q2⟩:=Nh (come:=fl e.2.1) p0 n2 p1 l1.symm;refine⟨⟨?_,?_,?_,?_,?_,?_⟩,by rw[r2];simp[gH]⟩
  ·rw[r2];simp only[yG,gH];exact et.symm
  ·rw[r2];simp only[yG,gH];rw[et]
  ·rw[r2];simp only[yG,gH];rw[et,EU];simp only[gV];rw[er,r1,r3]
  ·simp only;rw[et];exact fu
  ·simp only;rw[et];refine NZ _ _ _ ⟨⟨p0,q1,q2⟩,?_⟩;rw[er];exact r5
  ·rw[r2];simp only[yG,gH];rw[r6]
theorem jw (hg:dM m depth)(hr:Yw m t)(h:(qN m depth).2=0):Yw (qN m depth).1 (yH t depth)/\t.2.2.1≠[]:=by
 have kR:=hg.Tg;have Yx:=lW kR;have hb:=hg.uD;obtain⟨x,us,rs,dn,bf⟩:=m;obtain⟨tx,tu,tr,td⟩:=t;obtain⟨r1,r2,r3,r4,r5,r6⟩:=hr;simp only at*;unfold qN at h ⊢;cases rs with
 |nil=>simp only at h;cases h
 |cons e rs=>
  simp only at h ⊢;split at h
  ·cases h
  rename_i hf;rw[if_neg hf];obtain⟨⟨p0,p1,p2⟩,fu⟩:=r5;obtain⟨-,i1,i2⟩:=hg.nJ e (by simp);simp only at i1 i2;have n1:=pJ i1;have l1:=Ni i1 (by omega);have l2:=Ni i2 (by omega);have hc:=(Nf hg.text e.1 (sz e.2.1)).1.ok (by simp only;omega);simp only at hc;have et:fl (cB (bY x e.1 (sz e.2.1)).1 e.1 e.2.2)=Fv e (fl x):=SX kR e.2.2 p0 n1 (by omega) hc;have er:wG e (Fv e (fl x))=fl x:=Ar p0 n1 p1 p2 l2.symm;obtain⟨q1,q2⟩:=Nh (come:=fl e.2.2) p0 n1 p1 l2.symm;refine⟨⟨?_,?_,?_,?_,?_,?_⟩,by rw[r3];simp[gV]⟩
  ·rw[r3];simp only[yH,gV];exact et.symm
  ·rw[r3];simp only[yH,gV];rw[et,zO];simp only[gH];rw[er,r1,r2]
  ·rw[r3];simp only[yH,gV];rw[et]
  ·simp only;rw[et];refine Dc _ _ _ ⟨⟨p0,q1,q2⟩,?_⟩;rw[er];exact r4
  ·simp only;rw[et];exact fu
  ·rw[r3];simp only[yH,gV];rw[r6]
def Dh (B:List UInt8)(f:List Int):List UInt8:=f.map (fun k=>B.getD k.toNat 0)
theorem Au (B:List UInt8)(f g:List Int):Dh B (f++g)=Dh B f++Dh B g:=List.map_append
theorem Yy (B:List UInt8)(f:List Int)(n:Nat):Dh B (f.take n)=(Dh B f).take n:=List.map_take
theorem Yz (B:List UInt8)(f:List Int)(n:Nat):Dh B (f.drop n)=(Dh B f).drop n:=List.map_drop
theorem WK (B:List UInt8)(f:List Int):(Dh B f).length=f.length:=List.length_map _
theorem Za {B X:List UInt8}(h:∀k∈f,k.toNat<B.length):Dh (B++X) f=Dh B f:=by
 unfold Dh;refine List.map_congr_left fun k hk=>?_
 rw[List.getD_eq_getElem?_getD,List.getD_eq_getElem?_getD,List.getElem?_append_left (h k hk)]
theorem EW {B:List UInt8}{off:Int}{n:Nat}(h0:0<=off)(h:off.toNat+n<=B.length):Dh B ((List.range n).map (fun k:Nat=>off+(k:Int)))=(B.drop off.toNat).take n:=by
 unfold Dh;rw[List.map_map];refine List.ext_getElem (by simp;omega) fun i h1 h2=>?_
 simp only[List.length_map,List.length_range]at h1;simp only[List.getElem_map,List.getElem_range,Function.comp,List.getElem_take,List.getElem_drop];rw[List.getD_eq_getElem?_getD,show(off+(i:Int)).toNat=off.toNat+i from by omega,List.getElem?_eq_getElem (by omega)];rfl
theorem iC (b:ByteArray)(i j:Nat):(b.extract i j).data.toList=(b.data.toList.drop i).take (j-i):=by
 rw[ByteArray.data_extract,Array.toList_extract,List.extract_eq_take_drop]
theorem OA (b:ByteArray)(l:List (Int×Int))(p:Int×Int):jN b (l++ [p])=jN b l++b.extract p.1.toNat (p.1+p.2).toNat:=by unfold jN;rw[List.foldl_append];rfl
theorem eY (a b:ByteArray):(a++b).data.toList=a.data.toList++b.data.toList:=by simp
theorem Zb (p:Int×Int):fl [p]=(List.range p.2.toNat).map (fun k:Nat=>p.1+(k:Int)):=by simp[fl]
theorem jy {b:ByteArray}(h:mV (b.size:Int) l):(jN b l).data.toList=Dh b.data.toList (fl l):=by
 have e:∀k,k<=l.length->(jN b (l.take k)).data.toList=Dh b.data.toList (fl (l.take k)):=by
  intro k
  induction k with
  |zero=>intro _;simp[jN,fl,Dh]
  |succ k ih=>
   intro hk;rw[List.take_succ_eq_append_getElem (by omega),OA,eY,ih (by omega),Ak,Au,iC,Zb];obtain⟨p1,p2,p3,p4⟩:=h l[k] (List.getElem_mem _);have hs:b.data.toList.length=b.size:=by simp
   rw[EW p3 (by omega),show(l[k].1+l[k].2).toNat-l[k].1.toNat=l[k].2.toNat from by omega]
 have:=e l.length (Nat.le_refl _);rwa[List.take_length]at this
theorem Po (h:mV n l):∀k∈fl l,0<=k/\k<n:=by
 induction l with
 |nil=>intro k hk;simp[fl]at hk
 |cons p l ih=>
  intro k hk;rw[fl,List.mem_append,List.mem_map]at hk;rcases hk with⟨i,hi,rfl⟩|hk
  ·rw[List.mem_range]at hi;have:=h p (by simp);omega
  ·exact ih (fun q hq=>h q (by simp[hq])) k hk
theorem fl_part (h:eF l)(h0:0<=a)(h1:a<=sz l):fl (kX l a (a+n))=((fl l).drop a.toNat).take n.toNat:=by
 rw[SL h _ h0,yY (iI h a),Es h _ h1,show a+n-a=n from by omega]
theorem SY {b:ByteArray}(h:mV (b.size:Int) l)(hb:b.size<=1000000000)(h0:0<=a)(h1:a<=sz l):(jN b (kX l a (a+n))).data.toList=((Dh b.data.toList (fl l)).drop a.toNat).take n.toNat:=by
 rw[jy (ET h _ _),fl_part (h.ok (by omega)) h0 h1,Yy,Yz]
theorem pW {a b:ByteArray}(h:a.data.toList=b.data.toList):a=b:=by
 obtain⟨⟨a⟩⟩:=a;obtain⟨⟨b⟩⟩:=b;simp only at h;rw[h]
end Go.Proofs.YtfplgfodoiiobaaGreatDoor
