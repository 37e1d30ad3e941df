/- KpG, KpH, KpI, KpJ (joined). -/
import Derived.Test.YtfplgfodoiiobaaGreatDoorJ33
import Derived.Test.YtfplgfodoiiobaaGreatDoorJ39
open Option renaming some→M
namespace Go.Proofs.YtfplgfodoiiobaaGreatDoor
variable {x:St}{t:Tm}{k d:Nat}{fs bZ:List bE}{s:Sc}{n kind pos ep:Int}{text:ByteArray}{m:bR}
theorem Ai (fs:List bE)(h:s.iH=false):dF s fs=(true,s,fs):=by unfold dF;rw[if_pos h]
theorem Ph {b:ByteArray}(ha:s.iH=false)(hr:s.refusing=false)(hI:eO s.room fs)(hb:b.size≠0)(hu:dG fs+(b.size:Int)<=s.room):dR s fs n b=(0,s,iN fs (lU fs n b)):=by
 unfold dR;rw[if_neg (by simp[hr]),if_neg (by omega)];simp only;rw[show(if s.refusing=true then { s with left:=s.left-1 } else s)=s from if_neg (by simp[hr]),Ai fs ha];simp only[if_true];rw[vF hI.sort (by rw[(iR fs n b).2,gM];omega) (hI.no (by omega))]
theorem pF (ha:s.iH=false)(hc:kH s)(hI:eO s.room fs)(n:Int):∃bZ,bV s fs n=(true,s,bZ)/\eO s.room bZ/\bZ.length=fs.length/\bZ.map (fun f=>(f.1,f.2.1))=fs.map (fun f=>(f.1,f.2.1)):=by
 have e:(bV s fs n).1=true/\(bV s fs n).2.1=s:=by
  unfold bV;cases wG fs n with
  |none=>exact⟨rfl,rfl⟩
  |some i=>simp only;rw[Ai fs ha];exact⟨rfl,rfl⟩
 rcases zW hc hI n with⟨s',bZ,h1,-,h3,h4,h5⟩|⟨s',bZ,h1,-⟩
 ·rw[h1]at e;simp only at e;exact⟨bZ,by rw[h1,e.2],h3,h4,h5⟩
 ·rw[h1]at e;cases e.1
theorem ZO (ha:s.iH=false)(hc:kH s)(hI:eO s.room fs)(n:Int){k:Int}(h0:0<=k):(((aN fs n).size:Int)<=k/\bW s fs n k=(true,s,fs))\/(k<((aN fs n).size:Int)/\bW s fs n k=(true,s,Gs fs n k)/\eO s.room (Gs fs n k)):=by
 have e:(bW s fs n k).1=true/\(bW s fs n k).2.1=s:=by
  unfold bW;split
  ·exact⟨rfl,rfl⟩
  ·simp only;rw[Ai fs ha];exact⟨rfl,rfl⟩
 rcases Ke hc hI n h0 with h|⟨h1,s',h2,-,h3⟩|⟨h1,s',bZ,h2,-⟩
 ·exact Or.inl h
 ·rw[h2]at e;simp only at e;exact Or.inr ⟨h1,by rw[h2,e.2],h3⟩
 ·rw[h2]at e;cases e.1
theorem RP {t:Int}{f:bE}(ha:s.iH=false)(hf:eF fs n=M f):lI s fs n t=(true,s,iN (gK fs n) (t,f.2.1,f.2.2)):=by
 unfold lI;rw[hf];simp only;rw[Ai fs ha];rfl
def DI (fs:List bE)(ep:Int):Prop:=∀f∈fs,f.1=1\/f.1=2\/f.1=10+ep
theorem ZP (hs:pQ fs)(hn:DI fs ep)(he:0<=ep):dG fs=((aN fs 1).size:Int)+((aN fs 2).size:Int)+((aN fs (10+ep)).size:Int):=by
 have h1:=yQ hs 1;have s1:=Gj hs 1;have h2:=yQ s1 2;have s2:=Gj s1 2;have h3:=yQ s2 (10+ep)
 have e0:gK (gK (gK fs 1) 2) (10+ep)=[]:=by
  refine List.eq_nil_iff_forall_not_mem.2 fun f hf=>?_
  unfold gK at hf;simp only[List.mem_filter,bne_iff_ne,ne_eq]at hf;obtain⟨⟨⟨hm,a⟩,b⟩,c⟩:=hf;rcases hn f hm with h|h|h
  ·exact a h
  ·exact b h
  ·exact c h
 rw[e0]at h3;have z:dG []=0:=rfl;rw[z]at h3;have b2:aN (gK fs 1) 2=aN fs 2:=by rw[vY,if_neg (by omega)]
 have b3:aN (gK (gK fs 1) 2) (10+ep)=aN fs (10+ep):=by rw[vY,if_neg (by omega),vY,if_neg (by omega)]
 rw[b2]at h2;rw[b3]at h3;omega
def Rds (fs:List bE)(d:Nat)(ep:Int)(m:bR):Prop:=∃(m0:bR) (rs:List (List UInt8)),lM (aN fs 2) ((aN fs 1).size:Int) d=M (ep,m0)/\(aN fs (10+ep)).data.toList=rs.flatten/\(∀r∈rs,r.length=22)/\Ao ((aN fs 1).size:Int) d m0 rs=M m
theorem Rds.same (h:Rds fs d ep m)(e:∀n,aN bZ n=aN fs n):Rds bZ d ep m:=by
 obtain⟨m0,rs,h1,h2,h3,h4⟩:=h;exact⟨m0,rs,by rw[e,e];exact h1,by rw[e];exact h2,h3,by rw[e];exact h4⟩
structure Pj (x:St)(t:Tm)(k:Nat):Prop where
 gs:GS x (k:Int)
 op:x.1.aX=true
 ro:x.1.ro=false
 arm:x.1.iH=false
 ref:x.1.refusing=false
 most:x.1.most=5000
 room:x.1.room=1000000
 Lf:Xi x.2.2 t
 cnt:∃X:List Int,X.length<=3*k+1/\NG x.2.2 t X
 rd:Rds x.2.1 x.1.depth.toNat x.1.aZ x.2.2
 ZG:DI x.2.1 x.1.aZ
 b1:(aN x.2.1 1).size<=200*k
 b2:(aN x.2.1 2).size<=301000
 bj:(aN x.2.1 (10+x.1.aZ)).size<=22*k
 ep:x.1.aZ<=(k:Int)
theorem Pj.used (h:Pj x t k):dG x.2.1<=222*(k:Int)+301000:=by
 have:=ZP h.gs.bk.inv.sort h.ZG h.gs.bk.dN.uM;have:=h.b1;have:=h.b2;have:=h.bj;omega
theorem Pj.dN (h:Pj x t k):dJ x.2.2 x.1.depth.toNat:=h.gs.OT h.op
theorem Pj.few (h:Pj x t k):x.2.2.1.length<=3*k+1/\∀e,(e∈x.2.2.2.1\/e∈x.2.2.2.2.1)->e.2.1.length<=3*k+1/\e.2.2.length<=3*k+1:=by
 obtain⟨X,hX,hc⟩:=h.cnt;obtain⟨c1,c2⟩:=Wi h.dN h.Lf hc;exact⟨by omega,fun e he=>by have:=c2 e he;omega⟩
theorem Pk (l more:List (Int×Int))(pos:Int):(bY l pos more).length<=l.length+more.length+1:=by
 unfold bY;split
 ·omega
 ·have:=kT l pos;simp only[List.length_append];omega
theorem Pm (l:List (Int×Int))(pos n:Int):(bU l pos n).1.length<=l.length+2:=by
 unfold bU;split
 ·simp only;omega
 ·have h1:=kT l pos;have h2:=kT (bH l pos) n;simp only[Gf,List.length_append];omega
theorem act_no (ho:x.1.aX=true)(hr:x.1.ro=false)(h:(gQ x.2.2 kind (if kind=73\/kind=68 then pos else 0) (if kind=73 then ((aN x.2.1 1).size:Int)else if kind=68 then n else 0) (if kind=73 then (text.size:Int)else 0) x.1.most x.1.depth.toNat).2≠0):
 iW x kind pos n text=(x,(gQ x.2.2 kind (if kind=73\/kind=68 then pos else 0) (if kind=73 then ((aN x.2.1 1).size:Int)else if kind=68 then n else 0) (if kind=73 then (text.size:Int)else 0) x.1.most x.1.depth.toNat).2):=by
 unfold iW;rw[if_neg (by simp[ho]),if_neg (by simp[hr])];simp only;rw[if_pos h]
def xE (kind pos:Int):Int:=if kind=73\/kind=68 then pos else 0
def vZ (fs:List bE)(kind n:Int):Int:=if kind=73 then ((aN fs 1).size:Int)else if kind=68 then n else 0
def rD (kind:Int)(text:ByteArray):Int:=if kind=73 then (text.size:Int)else 0
def nG (x:St)(kind pos n:Int)(text:ByteArray):bR×Int:=gQ x.2.2 kind (xE kind pos) (vZ x.2.1 kind n) (rD kind text) x.1.most x.1.depth.toNat
theorem xG (ho:x.1.aX=true)(hr:x.1.ro=false)(h:(nG x kind pos n text).2≠0):iW x kind pos n text=(x,(nG x kind pos n text).2):=act_no ho hr h
def isK (kind:Int):Prop:=kind=73\/kind=68\/kind=85\/kind=82
theorem ZQ {a b c most:Int}(h:(gQ m kind a b c most d).2=0)(hg:dJ m d)(Qg:kind=73->b=m.2.2.2.2)(h68:kind=68->c=0)(hx:kind≠73->kind≠68->a=0/\b=0/\c=0):bQ a/\bQ b/\bQ c/\(kind=73->1<=c/\c<=200):=by
 have h1:=hg.yT;have h2:=hg.tC;have h3:=hg.long;unfold bQ;unfold gQ at h;by_cases k1:kind=73
 ·rw[if_pos k1]at h;have:=Qg k1;unfold sW at h;split at h
  ·cases h
  split at h
  ·cases h
  omega
 ·rw[if_neg k1]at h;by_cases k2:kind=68
  ·rw[if_pos k2]at h;have:=h68 k2;unfold yA at h;split at h
   ·cases h
   omega
  ·obtain⟨e1,e2,e3⟩:=hx k1 k2;omega
theorem rec22 (q d a b c:Int):(fU q d a b c).size=22/\(fU q d a b c).data.toList.length=22:=by
 have hl:(fU q d a b c).data.toList.length=22:=by rw[Nf];rfl
 exact⟨by rw[<-hl];simp,hl⟩
theorem NN (h:Pj x t k)(hk:k<=400)(hc:(nG x kind pos n text).2=0):
 ∃bZ,iW x kind pos n text=((x.1,bZ,(nG x kind pos n text).1),0)/\(aN bZ 1=if kind=73 then aN x.2.1 1++text else aN x.2.1 1)/\aN bZ 2=aN x.2.1 2/\aN bZ (10+x.1.aZ)=aN x.2.1 (10+x.1.aZ)++fU kind (x.2.2.2.2.2.1+1) (xE kind pos) (vZ x.2.1 kind n) (rD kind text)/\
  DI bZ x.1.aZ/\(bQ (xE kind pos)/\bQ (vZ x.2.1 kind n)/\bQ (rD kind text)/\(kind=73->1<=rD kind text/\rD kind text<=200)):=by
 have hu:=h.used;have hI:=h.gs.bk.inv;have hg:=h.dN;have JU:=h.gs.Pb h.op h.ro;have he:=h.gs.bk.dN.uM;have hnums:=ZQ hc hg (fun k1=>by unfold vZ;rw[if_pos k1];exact JU.symm) (fun k2=>by unfold rD;rw[if_neg (by omega)]) (fun k1 k2=>by unfold xE vZ rD;rw[if_neg (by omega),if_neg k1,if_neg k2,if_neg k1];exact⟨rfl,rfl,rfl⟩);have ZE:=(Wo hc).1;have qJ:=h.room;obtain⟨s,fs,m⟩:=x;simp only at*
 have htx:kind=73->text.size≠0/\text.size<=200:=fun k1=>by
  have:=hnums.2.2.2 k1;unfold rD at this;rw[if_pos k1]at this;omega
 obtain⟨Ig,e1,b1,i1,n1,u1⟩:∃Ig,(if kind=73 then dR s fs 1 text else (0,s,fs))=(0,s,Ig)/\(∀j,aN Ig j=if kind=73/\j=1 then aN fs 1++text else aN fs j)/\eO s.room Ig/\DI Ig s.aZ/\dG Ig<=dG fs+200:=by
  by_cases k1:kind=73
  ·obtain⟨t1,t2⟩:=htx k1;have hu1:dG fs+(text.size:Int)<=s.room:=by omega
   refine⟨iN fs (lU fs 1 text),by rw[if_pos k1];exact Ph h.arm h.ref hI t1 hu1,fun j=>?_,(hI.app (by omega) (by omega) t1 hu1).1,fun f hf=>?_,?_⟩
   ·rw[nC hI.sort,(iR fs 1 text).1];by_cases hj:j=1
    ·rw[if_pos hj.symm,if_pos ⟨k1,hj⟩,(iR fs 1 text).2]
    ·rw[if_neg (fun e=>hj e.symm),if_neg (fun e=>hj e.2)]
   ·rcases tQ hf with rfl|hf
    ·exact Or.inl (iR fs 1 text).1
    ·exact h.ZG f hf
   ·rw[Yq hI.sort,(iR fs 1 text).1,(iR fs 1 text).2,gM];omega
  ·exact⟨fs,by rw[if_neg k1],fun j=>by rw[if_neg (fun e=>k1 e.1)],hI,h.ZG,by omega⟩
 have v_:=(rec22 kind (m.2.2.2.1+1) (xE kind pos) (vZ fs kind n) (rD kind text)).1;have hu2:dG Ig+((fU kind (m.2.2.2.1+1) (xE kind pos) (vZ fs kind n) (rD kind text)).size:Int)<=s.room:=by omega
 refine⟨iN Ig (lU Ig (10+s.aZ) (fU kind (m.2.2.2.1+1) (xE kind pos) (vZ fs kind n) (rD kind text))),?_,?_,?_,?_,?_,hnums⟩
 ·unfold iW;simp only;have ho:s.aX=true:=h.op;have hro:s.ro=false:=h.ro;rw[if_neg (by simp[ho]),if_neg (by simp[hro])];have Kn:(gQ m kind (xE kind pos) (vZ fs kind n) (rD kind text) s.most s.depth.toNat).2=0:=hc;unfold xE vZ rD at Kn;rw[if_neg (by rw[Kn];simp),e1];simp only;rw[if_neg (by simp)];have e2:=Ph (n:=10+s.aZ) h.arm h.ref i1 (by rw[v_];decide) hu2;have hd:(nG (s,fs,m) kind pos n text).1.2.2.2.1=m.2.2.2.1+1:=ZE;unfold nG xE vZ rD at hd;simp only at hd;unfold xE vZ rD at e2;rw[hd,e2];simp only[if_true];rfl
 ·rw[nC i1.sort,(iR _ _ _).1,if_neg (by omega),b1];by_cases k1:kind=73
  ·rw[if_pos ⟨k1,rfl⟩,if_pos k1]
  ·rw[if_neg (fun e=>k1 e.1),if_neg k1]
 ·rw[nC i1.sort,(iR _ _ _).1,if_neg (by omega),b1,if_neg (fun e=>by omega)]
 ·rw[nC i1.sort,(iR _ _ _).1,if_pos rfl,(iR _ _ _).2,b1,if_neg (fun e=>by omega)]
 ·intro f hf;rcases tQ hf with rfl|hf
  ·exact Or.inr (Or.inr (iR _ _ _).1)
  ·exact n1 f hf
theorem Lg {t':Tm}(h:Pj x t k)(hk:k<=400)(hK:isK kind)(hc:(nG x kind pos n text).2=0)(hr:Xi (nG x kind pos n text).1 t')(hn:∀X,NG x.2.2 t X->∃aA:List Int,aA.length<=X.length+3/\NG (nG x kind pos n text).1 t' aA):
 (iW x kind pos n text).2=0/\Pj (iW x kind pos n text).1 t' (k+1)/\(aN (iW x kind pos n text).1.2.1 1=if kind=73 then aN x.2.1 1++text else aN x.2.1 1):=by
 obtain⟨bZ,e,b1,b2,bj,Vi,u1,u2,u3,u4⟩:=NN h hk hc;have w_:=gs_act (kind:=kind) (pos:=pos) (n:=n) (text:=text) h.gs;rw[e]at w_ ⊢;have JU:=h.gs.Pb h.op h.ro;have EG:=h.dN.done;have VQ:=h.gs.done h.op;obtain⟨m0,rs,r1,r2,r3,r4⟩:=h.rd;obtain⟨X,hX,hcx⟩:=h.cnt;obtain⟨aA,hY,b_⟩:=hn X hcx;have lG:=h.b1;have hj0:=h.bj;have WW:=h.ep;have v_:=rec22 kind (x.2.2.2.2.2.1+1) (xE kind pos) (vZ x.2.1 kind n) (rD kind text)
 have iU:((aN x.2.1 1).size:Int)<=((aN bZ 1).size:Int):=by
  rw[b1];split
  ·rw[gM];omega
  ·omega
 have NP:=h.most;refine⟨rfl,⟨by simpa using w_,h.op,h.ro,h.arm,h.ref,h.most,h.room,hr,⟨aA,by omega,b_⟩,?_,Vi,?_,by simp only;rw[b2];exact h.b2,?_,by simp only;omega⟩,b1⟩
 ·refine⟨m0,rs++ [(fU kind (x.2.2.2.2.2.1+1) (xE kind pos) (vZ x.2.1 kind n) (rD kind text)).data.toList],?_,?_,?_,?_⟩
  ·simp only;rw[b2];exact JG r1 iU
  ·simp only;rw[bj,gI,r2,List.flatten_append];simp
  ·intro r Kb;rcases List.mem_append.1 Kb with Kb|Kb
   ·exact r3 r Kb
   ·rw[List.mem_singleton]at Kb;rw[Kb];exact v_.2
  ·simp only;have hc5:(gQ x.2.2 kind (xE kind pos) (vZ x.2.1 kind n) (rD kind text) 5000 x.1.depth.toNat).2=0:=by rw[<-NP];exact hc
   have kV:tX x.2.2 ((aN bZ 1).size:Int) kind (xE kind pos) (vZ x.2.1 kind n) (rD kind text)=true:=by
    unfold tX xE vZ rD;rcases hK with rfl|rfl|rfl|rfl
    ·simp only[if_true,true_or];have:((aN x.2.1 1).size:Int)+(text.size:Int)<=((aN bZ 1).size:Int):=by rw[b1,if_pos rfl,gM];omega
     simp[JU,this]
    ·simp
    ·simp
    ·simp
   have:=zn (m:=x.2.2) (kind:=kind) (buf:=((aN bZ 1).size:Int)) (depth:=x.1.depth.toNat) (by rcases hK with rfl|rfl|rfl|rfl<;>omega) (by rcases hK with rfl|rfl|rfl|rfl<;>omega) (by unfold bQ;omega) u1 u2 u3 kV hc5 [];rw[List.append_nil]at this;have h5:(nG x kind pos n text).1=(gQ x.2.2 kind (xE kind pos) (vZ x.2.1 kind n) (rD kind text) 5000 x.1.depth.toNat).1:=by unfold nG;rw[NP]
   rw[h5];exact CB (CG iU r4) this
 ·simp only;rw[b1];split
  ·rename_i k1;have:=u4 k1;unfold rD at this;rw[if_pos k1]at this;rw[gM];omega
  ·omega
 ·simp only;rw[bj,gM,v_.1];omega
theorem xH (h:bZ.map (fun f=>(f.1,f.2.1))=fs.map (fun f=>(f.1,f.2.1))):∀n,aN bZ n=aN fs n:=fun n=>Cm h n
theorem Ub (h:bZ.map (fun f=>(f.1,f.2.1))=fs.map (fun f=>(f.1,f.2.1)))(hn:DI fs ep):DI bZ ep:=fun f hf=>by
 have:(f.1,f.2.1)∈bZ.map (fun f=>(f.1,f.2.1)):=List.mem_map.2 ⟨f,hf,rfl⟩;rw[h]at this;obtain⟨g,hg,e⟩:=List.mem_map.1 this;have:=hn g hg;simp only[Prod.mk.injEq]at e;rw[<-e.1];exact this
theorem Pj.marks (h:Pj x t k)(e:bZ.map (fun f=>(f.1,f.2.1))=x.2.1.map (fun f=>(f.1,f.2.1)))(hg:GS (x.1,bZ,x.2.2) (k:Int)):Pj (x.1,bZ,x.2.2) t k:=by
 have hb:=xH e;exact⟨hg,h.op,h.ro,h.arm,h.ref,h.most,h.room,h.Lf,h.cnt,h.rd.same hb,Ub e h.ZG,by simp only;rw[hb];exact h.b1,by simp only;rw[hb];exact h.b2,by simp only;rw[hb];exact h.bj,h.ep⟩
theorem ZR (h:Pj x t k):(nQ x).2=0/\Pj (nQ x).1 t k/\(∀n,aN (nQ x).1.2.1 n=aN x.2.1 n):=by
 have w_:=l_ h.gs;obtain⟨Ig,e1,i1,l1,m1⟩:=pF h.arm h.gs.bk.dN h.gs.bk.inv 1;obtain⟨fs2,e2,i2,l2,m2⟩:=pF h.arm h.gs.bk.dN i1 (10+x.1.aZ);have Co:=h.op;have hro:=h.ro
 have e:nQ x=((x.1,fs2,x.2.2),0):=by
  unfold nQ;rw[if_neg (by simp[Co]),if_neg (by simp[hro])];simp only;rw[e1];simp only[Bool.true_eq_false,if_false];rw[e2];simp
 rw[e]at w_ ⊢;have hm:=m2.trans m1;exact⟨rfl,h.marks hm w_,xH hm⟩
theorem ZT {s:ByteArray}{buf:Int}{x:Int×bR}(h:lM s buf d=M x):(s.size=0/\x=(0,([],[],[],0,0)))\/(s.size≠0/\1<=x.1/\x.1<=999):=by
 unfold lM at h;split at h
 ·cases h;rename_i e;exact Or.inl ⟨e,rfl⟩
 rename_i e0;split at h
 ·cases h
 simp only at h;split at h
 ·rename_i e3;obtain⟨a1,a2,a3,a4,a5,a6⟩:=e3;cases h
  exact Or.inr ⟨e0,a4,a5⟩
 ·cases h
theorem Pn {m':bR}(ho:s.aX=false)(hr:Rds fs s.depth.toNat s.aZ m)(hI:eO s.room fs)(hn:DI fs s.aZ)(hb:m.2.2.2.2=((aN fs 1).size:Int)):uK (s,fs,m')=(({ s with aX:=true,ro:=false },fs,m),0):=by
 obtain⟨m0,rs,r1,r2,r3,r4⟩:=hr;have hlen:=CJ r3
 have hj:((aN fs (10+s.aZ)).size:Int)=((22*rs.length:Nat):Int):=by
  rw[<-hlen,<-r2];simp
 have hoth:Gp fs s.aZ=[]:=by
  unfold Gp;rw[List.filter_eq_nil_iff];intro n hm;obtain⟨f,hf,rfl⟩:=List.mem_map.1 hm;rcases hn f hf with h|h|h
  ·simp[h]
  ·rcases ZT r1 with⟨z,-⟩|⟨-,z,-⟩
   ·exact absurd h (Lb hI z f hf)
   ·simp only at z;have:¬s.aZ=0:=by omega
    simp[h,this]
  ·simp[h]
 unfold uK;simp only;rw[if_neg (by simp[ho]),r1];simp only;have c1:∀q:Sc,bW q fs (10+s.aZ) ((22*rs.length:Nat):Int)=(true,q,fs):=fun q=>by unfold bW;rw[if_pos (by omega)]
 have c2:∀q:Sc,bW q fs 1 m.2.2.2.2=(true,q,fs):=fun q=>by unfold bW;rw[if_pos (by omega)]
 rw[r2,JI r3 r4];simp only[hoth,gH,Bool.true_eq_false,if_false,c1,c2]
theorem JX (h:Pj x t k):(kD x.1).2=0/\uK ((kD x.1).1,x.2)=(x,0):=by
 have Co:=h.op;have hro:=h.ro;have e:kD x.1=({ x.1 with aX:=false },0):=by unfold kD;rw[if_pos Co]
 rw[e];refine⟨rfl,?_⟩;have JU:=h.gs.Pb h.op h.ro;have:=Pn (s:= { x.1 with aX:=false }) (fs:=x.2.1) (m:=x.2.2) (m':=x.2.2) rfl h.rd h.gs.bk.inv h.ZG JU;obtain⟨s,fs,m⟩:=x;simp only at this Co hro ⊢;rw[this];obtain⟨q1,q2,q3,q4,q5,q6,q7,q8,q9,q10,q11,q12⟩:=s;simp only at Co hro;rw[Co,hro]
theorem Pj.more {k':Nat}(h:Pj x t k)(hk:k<=k'):Pj x t k':=by
 obtain⟨X,hX,hc⟩:=h.cnt;have a:=h.b1;have b:=h.bj;have c:=h.ep;exact⟨h.gs.more (by omega),h.op,h.ro,h.arm,h.ref,h.most,h.room,h.Lf,⟨X,by omega,hc⟩,h.rd,h.ZG,by omega,h.b2,by omega,by omega⟩
theorem ZU (h:Pj x t k)(hk:k<=122):(kP x).2=0/\Pj (kP x).1 t (k+1)/\aN (kP x).1.2.1 1=aN x.2.1 1/\aN (kP x).1.2.1 2=⟨(zC (x.1.aZ+1) x.2.2).toArray⟩/\(∀f∈(kP x).1.2.1,f.1=1\/f.1=2):=by
 have Co:=h.op;have hro:=h.ro;have hu:=h.used;have WW:=h.ep;have uO:=h.gs.bk.dN.uM;have qJ:=h.room;have hI:=h.gs.bk.inv;have hc:=h.gs.bk.dN;have hnm:=h.ZG;have ha:=h.arm;have FZ:=h.ref;have JU:=h.gs.Pb h.op h.ro;have VQ:=h.gs.done h.op;have MI:=hc.Bt;obtain⟨X,hX,hcx⟩:=h.cnt;have hlen:=YF (x.1.aZ+1) h.dN h.Lf hcx (by omega) (by omega);have hcan:=ck_can h.dN h.Lf hcx (by omega) (by omega) (by omega);obtain⟨l1,l2⟩:=JD (x.1.aZ+1) x.2.2;obtain⟨s,fs,m⟩:=x;simp only at*;obtain⟨B,hB⟩:∃B:ByteArray,B=⟨(zC (s.aZ+1) m).toArray⟩:=⟨_,rfl⟩;have hBl:B.data.toList=zC (s.aZ+1) m:=by rw[hB]
 have hBs:B.size=(zC (s.aZ+1) m).length:=by rw[<-hBl];rfl
 obtain⟨Ig,e1,i1,-,m1⟩:=pF ha hc hI 1;have b1:=xH m1;have n1:=Ub m1 hnm;have u1:=ZP i1.sort n1 uO;have u0:=ZP hI.sort hnm uO;rw[b1,b1,b1]at u1;have hu1:dG Ig+(B.size:Int)<=s.room:=by omega
 have hB0:B.size≠0:=by omega
 have e2:=Ph (n:=3) ha FZ i1 hB0 hu1;obtain⟨i2,-⟩:=i1.app (n:=3) (by omega) (by omega) hB0 hu1
 have z3:aN Ig 3=⟨#[]⟩:=by
  rw[dO,vG]
  ·rfl
  ·intro g hg e;rcases n1 g hg with q|q|q<;>omega
 have b2:∀j,aN (iN Ig (lU Ig 3 B)) j=if j=3 then B else aN fs j:=fun j=>by
  rw[nC i1.sort,(iR Ig 3 B).1];by_cases hj:j=3
  ·rw[if_pos hj.symm,if_pos hj,(iR Ig 3 B).2,z3];refine Bw ?_;rw[gI];rfl
  ·rw[if_neg (fun e=>hj e.symm),if_neg hj,b1]
 obtain⟨x_,e3,i3,-,m3⟩:=pF ha hc i2 3;have b3:=xH m3
 have n3:∀f∈x_,f.1=1\/f.1=2\/f.1=10+s.aZ\/f.1=3:=fun f hf=>by
  have:(f.1,f.2.1)∈x_.map (fun f=>(f.1,f.2.1)):=List.mem_map.2 ⟨f,hf,rfl⟩;rw[m3]at this;obtain⟨g,hg,e⟩:=List.mem_map.1 this;simp only[Prod.mk.injEq]at e;rw[<-e.1];rcases tQ hg with rfl|hg
  ·exact Or.inr (Or.inr (Or.inr (iR Ig 3 B).1))
  ·rcases n1 g hg with q|q|q
   ·exact Or.inl q
   ·exact Or.inr (Or.inl q)
   ·exact Or.inr (Or.inr (Or.inl q))
 obtain⟨f,hf,hfb⟩:∃f,eF x_ 3=M f/\f.2.1=B:=by
  have:aN x_ 3=B:=by rw[b3,b2,if_pos rfl]
  rw[dO]at this;cases hq:eF x_ 3 with
  |none=>rw[hq]at this;exact absurd (congrArg ByteArray.size this) (by simp only[Option.map_none,Option.getD_none];exact fun e=>hB0 e.symm)
  |some f=>rw[hq]at this;exact⟨f,rfl,this⟩
 have e4:=RP (t:=2) ha hf
 have d4:lY 1000 s x_:=⟨hc,h.gs.bk.Fx,i3,by
  have:x_.length<=4:=few4 (e:=s.aZ) i3.sort.1 (fun g hg=>by have:=n3 g hg;omega);omega⟩
 have i4:eO s.room (iN (gK x_ 3) (2,f.2.1,f.2.2)):=by
  have:=(d4.move 3 (t:=2) (by omega)).inv;rw[e4]at this;exact this
 obtain⟨y_,hfs4⟩:∃y_,y_=iN (gK x_ 3) (2,f.2.1,f.2.2):=⟨_,rfl⟩;rw[<-hfs4]at e4 i4
 have b4:∀j,aN y_ j=if j=2 then B else if j=3 then ⟨#[]⟩else aN fs j:=fun j=>by
  rw[hfs4,nC (Gj i3.sort 3)];simp only;by_cases hj:j=2
  ·rw[if_pos hj.symm,if_pos hj,hfb]
  ·rw[if_neg (fun e=>hj e.symm),if_neg hj,vY];by_cases hj3:j=3
   ·rw[if_pos hj3,if_pos hj3]
   ·rw[if_neg hj3,if_neg hj3,b3,b2,if_neg hj3]
 have n4:∀g∈y_,g.1=1\/g.1=2\/g.1=10+s.aZ:=fun g hg=>by
  rw[hfs4]at hg;rcases tQ hg with rfl|hg
  ·exact Or.inr (Or.inl rfl)
  ·unfold gK at hg;simp only[List.mem_filter,bne_iff_ne,ne_eq]at hg;rcases n3 g hg.1 with q|q|q|q
   ·exact Or.inl q
   ·exact Or.inr (Or.inl q)
   ·exact Or.inr (Or.inr q)
   ·exact absurd q hg.2
 obtain⟨TI,e5,i5,b5,n5⟩:∃TI,bW s y_ (10+s.aZ) 0=(true,s,TI)/\eO s.room TI/\(∀j,aN TI j=if j=10+s.aZ then ⟨#[]⟩else aN y_ j)/\∀g∈TI,g.1=1\/g.1=2:=by
  rcases ZO ha hc i4 (10+s.aZ) (Int.le_refl 0)with⟨q1,q2⟩|⟨q1,q2,q3⟩
  ·have hz:(aN y_ (10+s.aZ)).size=0:=by omega
   refine⟨y_,q2,i4,fun j=>?_,fun g hg=>?_⟩
   ·by_cases hj:j=10+s.aZ
    ·rw[if_pos hj,hj];refine Bw ?_;have:(aN y_ (10+s.aZ)).data.toList.length=0:=by simpa using hz
     rw[List.eq_nil_of_length_eq_zero this]
    ·rw[if_neg hj]
   ·rcases n4 g hg with q|q|q
    ·exact Or.inl q
    ·exact Or.inr q
    ·exact absurd q (Lb i4 hz g hg)
  ·refine⟨_,q2,q3,fun j=>?_,fun g hg=>?_⟩
   ·rw[Ih i4.sort];by_cases hj:j=10+s.aZ
    ·rw[if_pos hj.symm,if_pos hj];refine Bw ?_;rw[jM];simp
    ·rw[if_neg (fun e=>hj e.symm),if_neg hj]
   ·rcases NK hg with⟨q,-⟩|⟨q,q0⟩
    ·exact absurd rfl q
    ·rcases n4 g q with z|z|z
     ·exact Or.inl z
     ·exact Or.inr z
     ·exact absurd z (q0 rfl)
 have hF:qE s.aZ B 5 0 s fs=(0,s,TI):=by
  simp only[qE,Qh,e1,Jv,if_true,e2,e3,e4,e5]
 have e:kP (s,fs,m)=(({ s with aZ:=s.aZ+1 },TI,m),0):=by
  unfold kP;simp only;rw[if_neg (by simp[Co]),if_neg (by simp[hro]),if_neg (by omega),<-hB,hF];simp
 rw[e];have bb1:aN TI 1=aN fs 1:=by rw[b5,if_neg (by omega),b4,if_neg (by omega),if_neg (by omega)]
 have bb2:aN TI 2=B:=by rw[b5,if_neg (by omega),b4,if_pos rfl]
 have bbj:aN TI (10+(s.aZ+1))=⟨#[]⟩:=by
  rw[b5,if_neg (by omega),b4,if_neg (by omega),if_neg (by omega),dO,vG]
  ·rfl
  ·intro g hg e;rcases hnm g hg with q|q|q<;>omega
 have Vi:DI TI (s.aZ+1):=fun g hg=>by
  rcases n5 g hg with q|q
  ·exact Or.inl q
  ·exact Or.inr (Or.inl q)
 have VK:=h.b1;simp only at VK;refine⟨rfl,⟨⟨⟨⟨hc.UR,hc.LD,hc.Mk,hc.Bt,hc.LF,hc.sF,hc.qF,hc.FO,hc.UU,hc.Ml,hc.Yx,hc.Mq,hc.Sb,by simp only;omega,by simp only;omega⟩,h.gs.bk.Fx,i5,?_⟩,fun _=>h.dN,fun _=>by simp only;omega,fun _ g hg=>?_,fun _=>?_,fun _ _=>?_⟩,Co,hro,ha,FZ,h.most,qJ,h.Lf,⟨X,by omega,hcx⟩,?_,Vi,?_,?_,?_,by simp only;omega⟩,bb1,by rw[bb2,hB],n5⟩
 ·have:TI.length<=4:=few4 (e:=s.aZ) i5.sort.1 (fun g hg=>by have:=n5 g hg;omega);simp only;omega
 ·rcases n5 g hg with q|q
  ·exact Or.inl q
  ·exact Or.inr (Or.inl q)
 ·simp only;rw[bb1];omega
 ·simp only;rw[bb1];exact JU
 ·refine⟨m,[],?_,by simp only;rw[bbj];rfl,by simp,rfl⟩;simp only;rw[bb1,bb2];exact YB hcan (by omega) (by omega) (by omega) hBl
 ·simp only;rw[bb1];omega
 ·simp only;rw[bb2];omega
 ·simp only;rw[bbj];exact Nat.zero_le _
end Go.Proofs.YtfplgfodoiiobaaGreatDoor
