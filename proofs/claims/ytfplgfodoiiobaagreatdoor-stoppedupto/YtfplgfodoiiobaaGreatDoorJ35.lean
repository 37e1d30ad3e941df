/- KpH, KpI, KpJ, KpK (joined). -/
import Derived.Test.YtfplgfodoiiobaaGreatDoorJ34
open Option renaming some→M
namespace Go.Proofs.YtfplgfodoiiobaaGreatDoor
variable {t:Tm}{x:St}{k d:Nat}{n pos kind:Int}{text:ByteArray}{m:bT}{fs bN:List bF}
def qH (kind pos:Int):Int:=if kind=73\/kind=68 then pos else 0
def pG (fs:List bF)(kind n:Int):Int:=if kind=73 then ((aL fs 1).size:Int)else if kind=68 then n else 0
def lC (kind:Int)(text:ByteArray):Int:=if kind=73 then (text.size:Int)else 0
def kK (x:St)(kind pos n:Int)(text:ByteArray):bT×Int:=gK x.2.2 kind (qH kind pos) (pG x.2.1 kind n) (lC kind text) x.1.most x.1.depth.toNat
theorem vO (ho:x.1.aS=true)(hr:x.1.ro=false)(h:(kK x kind pos n text).2≠0):eZ x kind pos n text=(x,(kK x kind pos n text).2):=act_no ho hr h
def isK (kind:Int):Prop:=kind=73\/kind=68\/kind=85\/kind=82
theorem JY {a b c most:Int}(h:(gK m kind a b c most d).2=0)(hg:dM m d)(Tx:kind=73->b=m.2.2.2.2)(h68:kind=68->c=0)(hx:kind≠73->kind≠68->a=0/\b=0/\c=0):bS a/\bS b/\bS c/\(kind=73->1<=c/\c<=200):=by
 have h1:=hg.zL;have h2:=hg.uD;have h3:=hg.long;unfold bS;unfold gK at h;by_cases k1:kind=73
 ·rw[if_pos k1]at h;have:=Tx k1;unfold rR at h;split at h
  ·cases h
  split at h
  ·cases h
  omega
 ·rw[if_neg k1]at h;by_cases k2:kind=68
  ·rw[if_pos k2]at h;have:=h68 k2;unfold yQ at h;split at h
   ·cases h
   omega
  ·obtain⟨e1,e2,e3⟩:=hx k1 k2;omega
theorem B_ (q d a b c:Int):(fO q d a b c).size=22/\(fO q d a b c).data.toList.length=22:=by
 have hl:(fO q d a b c).data.toList.length=22:=by rw[Pw];rfl
 exact⟨by rw[<-hl];simp,hl⟩
theorem Hr (h:En x t k)(hk:k<=400)(hc:(kK x kind pos n text).2=0):
 ∃bN,eZ x kind pos n text=((x.1,bN,(kK x kind pos n text).1),0)/\(aL bN 1=if kind=73 then aL x.2.1 1++text else aL x.2.1 1)/\aL bN 2=aL x.2.1 2/\aL bN (10+x.1.aV)=aL x.2.1 (10+x.1.aV)++fO kind (x.2.2.2.2.2.1+1) (qH kind pos) (pG x.2.1 kind n) (lC kind text)/\
  Ho bN x.1.aV/\(bS (qH kind pos)/\bS (pG x.2.1 kind n)/\bS (lC kind text)/\(kind=73->1<=lC kind text/\lC kind text<=200)):=by
 have hu:=h.used;have hI:=h.gs.bk.inv;have hg:=h.bK;have Xo:=h.gs.wU h.op h.ro;have he:=h.gs.bk.bK.nK;have hnums:=JY hc hg (fun k1=>by unfold pG;rw[if_pos k1];exact Xo.symm) (fun k2=>by unfold lC;rw[if_neg (by omega)]) (fun k1 k2=>by unfold qH pG lC;rw[if_neg (by omega),if_neg k1,if_neg k2,if_neg k1];exact⟨rfl,rfl,rfl⟩);have n_:=(Hf hc).1;have nZ:=h.room;obtain⟨s,fs,m⟩:=x;simp only at*
 have htx:kind=73->text.size≠0/\text.size<=200:=fun k1=>by
  have:=hnums.2.2.2 k1;unfold lC at this;rw[if_pos k1]at this;omega
 obtain⟨Kb,e1,b1,i1,n1,u1⟩:∃Kb,(if kind=73 then dJ s fs 1 text else (0,s,fs))=(0,s,Kb)/\(∀j,aL Kb j=if kind=73/\j=1 then aL fs 1++text else aL fs j)/\dY s.room Kb/\Ho Kb s.aV/\bP Kb<=bP fs+200:=by
  by_cases k1:kind=73
  ·obtain⟨t1,t2⟩:=htx k1;have hu1:bP fs+(text.size:Int)<=s.room:=by omega
   refine⟨iR fs (lX fs 1 text),by rw[if_pos k1];exact Rq h.arm h.ref hI t1 hu1,fun j=>?_,(hI.app (by omega) (by omega) t1 hu1).1,fun f hf=>?_,?_⟩
   ·rw[jR hI.sort,(gI fs 1 text).1];by_cases hj:j=1
    ·rw[if_pos hj.symm,if_pos ⟨k1,hj⟩,(gI fs 1 text).2]
    ·rw[if_neg (fun e=>hj e.symm),if_neg (fun e=>hj e.2)]
   ·rcases rV hf with rfl|hf
    ·exact Or.inl (gI fs 1 text).1
    ·exact h.QX f hf
   ·rw[EM hI.sort,(gI fs 1 text).1,(gI fs 1 text).2,dR];omega
  ·exact⟨fs,by rw[if_neg k1],fun j=>by rw[if_neg (fun e=>k1 e.1)],hI,h.QX,by omega⟩
 have RA:=(B_ kind (m.2.2.2.1+1) (qH kind pos) (pG fs kind n) (lC kind text)).1;have hu2:bP Kb+((fO kind (m.2.2.2.1+1) (qH kind pos) (pG fs kind n) (lC kind text)).size:Int)<=s.room:=by omega
 refine⟨iR Kb (lX Kb (10+s.aV) (fO kind (m.2.2.2.1+1) (qH kind pos) (pG fs kind n) (lC kind text))),?_,?_,?_,?_,?_,hnums⟩
 ·unfold eZ;simp only;have ho:s.aS=true:=h.op;have hro:s.ro=false:=h.ro;rw[if_neg (by simp[ho]),if_neg (by simp[hro])];have Nq:(gK m kind (qH kind pos) (pG fs kind n) (lC kind text) s.most s.depth.toNat).2=0:=hc;unfold qH pG lC at Nq;rw[if_neg (by rw[Nq];simp),e1];simp only;rw[if_neg (by simp)];have e2:=Rq (n:=10+s.aV) h.arm h.ref i1 (by rw[RA];decide) hu2;have hd:(kK (s,fs,m) kind pos n text).1.2.2.2.1=m.2.2.2.1+1:=n_;unfold kK qH pG lC at hd;simp only at hd;unfold qH pG lC at e2;rw[hd,e2];simp only[if_true];rfl
 ·rw[jR i1.sort,(gI _ _ _).1,if_neg (by omega),b1];by_cases k1:kind=73
  ·rw[if_pos ⟨k1,rfl⟩,if_pos k1]
  ·rw[if_neg (fun e=>k1 e.1),if_neg k1]
 ·rw[jR i1.sort,(gI _ _ _).1,if_neg (by omega),b1,if_neg (fun e=>by omega)]
 ·rw[jR i1.sort,(gI _ _ _).1,if_pos rfl,(gI _ _ _).2,b1,if_neg (fun e=>by omega)]
 ·intro f hf;rcases rV hf with rfl|hf
  ·exact Or.inr (Or.inr (gI _ _ _).1)
  ·exact n1 f hf
theorem Oe {t':Tm}(h:En x t k)(hk:k<=400)(hK:isK kind)(hc:(kK x kind pos n text).2=0)(hr:Yw (kK x kind pos n text).1 t')(hn:∀X,QK x.2.2 t X->∃aB:List Int,aB.length<=X.length+3/\QK (kK x kind pos n text).1 t' aB):
 (eZ x kind pos n text).2=0/\En (eZ x kind pos n text).1 t' (k+1)/\(aL (eZ x kind pos n text).1.2.1 1=if kind=73 then aL x.2.1 1++text else aL x.2.1 1):=by
 obtain⟨bN,e,b1,b2,bj,Wz,u1,u2,u3,u4⟩:=Hr h hk hc;have MW:=t_ (kind:=kind) (pos:=pos) (n:=n) (text:=text) h.gs;rw[e]at MW ⊢;have Xo:=h.gs.wU h.op h.ro;have Wt:=h.bK.done;have ZX:=h.gs.done h.op;obtain⟨m0,rs,r1,r2,r3,r4⟩:=h.rd;obtain⟨X,hX,hcx⟩:=h.cnt;obtain⟨aB,hY,hcy⟩:=hn X hcx;have kT:=h.b1;have hj0:=h.bj;have au:=h.ep;have RA:=B_ kind (x.2.2.2.2.2.1+1) (qH kind pos) (pG x.2.1 kind n) (lC kind text)
 have gQ:((aL x.2.1 1).size:Int)<=((aL bN 1).size:Int):=by
  rw[b1];split
  ·rw[dR];omega
  ·omega
 have Ht:=h.most;refine⟨rfl,⟨by simpa using MW,h.op,h.ro,h.arm,h.ref,h.most,h.room,hr,⟨aB,by omega,hcy⟩,?_,Wz,?_,by simp only;rw[b2];exact h.b2,?_,by simp only;omega⟩,b1⟩
 ·refine⟨m0,rs++ [(fO kind (x.2.2.2.2.2.1+1) (qH kind pos) (pG x.2.1 kind n) (lC kind text)).data.toList],?_,?_,?_,?_⟩
  ·simp only;rw[b2];exact xV r1 gQ
  ·simp only;rw[bj,eY,r2,List.flatten_append];simp
  ·intro r Fh;rcases List.mem_append.1 Fh with Fh|Fh
   ·exact r3 r Fh
   ·rw[List.mem_singleton]at Fh;rw[Fh];exact RA.2
  ·simp only;have hc5:(gK x.2.2 kind (qH kind pos) (pG x.2.1 kind n) (lC kind text) 5000 x.1.depth.toNat).2=0:=by rw[<-Ht];exact hc
   have kR:pI x.2.2 ((aL bN 1).size:Int) kind (qH kind pos) (pG x.2.1 kind n) (lC kind text)=true:=by
    unfold pI qH pG lC;rcases hK with rfl|rfl|rfl|rfl
    ·simp only[if_true,true_or];have:((aL x.2.1 1).size:Int)+(text.size:Int)<=((aL bN 1).size:Int):=by rw[b1,if_pos rfl,dR];omega
     simp[Xo,this]
    ·simp
    ·simp
    ·simp
   have:=UR (m:=x.2.2) (kind:=kind) (buf:=((aL bN 1).size:Int)) (depth:=x.1.depth.toNat) (by rcases hK with rfl|rfl|rfl|rfl<;>omega) (by rcases hK with rfl|rfl|rfl|rfl<;>omega) (by unfold bS;omega) u1 u2 u3 kR hc5 [];rw[List.append_nil]at this;have h5:(kK x kind pos n text).1=(gK x.2.2 kind (qH kind pos) (pG x.2.1 kind n) (lC kind text) 5000 x.1.depth.toNat).1:=by unfold kK;rw[Ht]
   rw[h5];exact JF (Qy gQ r4) this
 ·simp only;rw[b1];split
  ·rename_i k1;have:=u4 k1;unfold lC at this;rw[if_pos k1]at this;rw[dR];omega
  ·omega
 ·simp only;rw[bj,dR,RA.1];omega
theorem uR (h:bN.map (fun f=>(f.1,f.2.1))=fs.map (fun f=>(f.1,f.2.1))):∀n,aL bN n=aL fs n:=fun n=>Dw h n
theorem Xr {ep:Int}(h:bN.map (fun f=>(f.1,f.2.1))=fs.map (fun f=>(f.1,f.2.1)))(hn:Ho fs ep):Ho bN ep:=fun f hf=>by
 have:(f.1,f.2.1)∈bN.map (fun f=>(f.1,f.2.1)):=List.mem_map.2 ⟨f,hf,rfl⟩;rw[h]at this;obtain⟨g,hg,e⟩:=List.mem_map.1 this;have:=hn g hg;simp only[Prod.mk.injEq]at e;rw[<-e.1];exact this
theorem En.marks (h:En x t k)(e:bN.map (fun f=>(f.1,f.2.1))=x.2.1.map (fun f=>(f.1,f.2.1)))(hg:GS (x.1,bN,x.2.2) (k:Int)):En (x.1,bN,x.2.2) t k:=by
 have hb:=uR e;exact⟨hg,h.op,h.ro,h.arm,h.ref,h.most,h.room,h.yV,h.cnt,h.rd.same hb,Xr e h.QX,by simp only;rw[hb];exact h.b1,by simp only;rw[hb];exact h.b2,by simp only;rw[hb];exact h.bj,h.ep⟩
theorem Rt (h:En x t k):(iG x).2=0/\En (iG x).1 t k/\(∀n,aL (iG x).1.2.1 n=aL x.2.1 n):=by
 have MW:=gs_sync h.gs;obtain⟨Kb,e1,i1,l1,m1⟩:=qG h.arm h.gs.bk.bK h.gs.bk.inv 1;obtain⟨uw,e2,i2,l2,m2⟩:=qG h.arm h.gs.bk.bK i1 (10+x.1.aV);have xY:=h.op;have hro:=h.ro
 have e:iG x=((x.1,uw,x.2.2),0):=by
  unfold iG;rw[if_neg (by simp[xY]),if_neg (by simp[hro])];simp only;rw[e1];simp only[Bool.true_eq_false,if_false];rw[e2];simp
 rw[e]at MW ⊢;have hm:=m2.trans m1;exact⟨rfl,h.marks hm MW,uR hm⟩
theorem Ru {s:ByteArray}{buf:Int}{x:Int×bT}(h:jE s buf d=M x):(s.size=0/\x=(0,([],[],[],0,0)))\/(s.size≠0/\1<=x.1/\x.1<=999):=by
 unfold jE at h;split at h
 ·cases h;rename_i e;exact Or.inl ⟨e,rfl⟩
 rename_i e0;split at h
 ·cases h
 simp only at h;split at h
 ·rename_i e3;obtain⟨a1,a2,a3,a4,a5,a6⟩:=e3;cases h
  exact Or.inr ⟨e0,a4,a5⟩
 ·cases h
theorem Rv {s:Sc}{m':bT}(ho:s.aS=false)(hr:Rds fs s.depth.toNat s.aV m)(hI:dY s.room fs)(hn:Ho fs s.aV)(hb:m.2.2.2.2=((aL fs 1).size:Int)):jM (s,fs,m')=(({ s with aS:=true,ro:=false },fs,m),0):=by
 obtain⟨m0,rs,r1,r2,r3,r4⟩:=hr;have hlen:=Gw r3
 have hj:((aL fs (10+s.aV)).size:Int)=((22*rs.length:Nat):Int):=by
  rw[<-hlen,<-r2];simp
 have hoth:iT fs s.aV=[]:=by
  unfold iT;rw[List.filter_eq_nil_iff];intro n hm;obtain⟨f,hf,rfl⟩:=List.mem_map.1 hm;rcases hn f hf with h|h|h
  ·simp[h]
  ·rcases Ru r1 with⟨z,-⟩|⟨-,z,-⟩
   ·exact absurd h (Hg hI z f hf)
   ·simp only at z;have:¬s.aV=0:=by omega
    simp[h,this]
  ·simp[h]
 unfold jM;simp only;rw[if_neg (by simp[ho]),r1];simp only;have c1:∀q:Sc,bR q fs (10+s.aV) ((22*rs.length:Nat):Int)=(true,q,fs):=fun q=>by unfold bR;rw[if_pos (by omega)]
 have c2:∀q:Sc,bR q fs 1 m.2.2.2.2=(true,q,fs):=fun q=>by unfold bR;rw[if_pos (by omega)]
 rw[r2,Ra r3 r4];simp only[hoth,fF,Bool.true_eq_false,if_false,c1,c2]
theorem En.more {k':Nat}(h:En x t k)(hk:k<=k'):En x t k':=by
 obtain⟨X,hX,hc⟩:=h.cnt;have a:=h.b1;have b:=h.bj;have c:=h.ep;exact⟨h.gs.more (by omega),h.op,h.ro,h.arm,h.ref,h.most,h.room,h.yV,⟨X,by omega,hc⟩,h.rd,h.QX,by omega,h.b2,by omega,by omega⟩
theorem ck_ba (ep:Int)(m:bT):(⟨(xU ep m).toArray⟩:ByteArray).data.toList=xU ep m:=by simp
theorem Hu (h:En x t k)(hk:k<=122):(gG x).2=0/\En (gG x).1 t (k+1)/\aL (gG x).1.2.1 1=aL x.2.1 1/\aL (gG x).1.2.1 2=⟨(xU (x.1.aV+1) x.2.2).toArray⟩/\(∀f∈(gG x).1.2.1,f.1=1\/f.1=2):=by
 have xY:=h.op;have hro:=h.ro;have hu:=h.used;have au:=h.ep;have vL:=h.gs.bk.bK.nK;have nZ:=h.room;have hI:=h.gs.bk.inv;have hc:=h.gs.bk.bK;have hnm:=h.QX;have ha:=h.arm;have OG:=h.ref;have Xo:=h.gs.wU h.op h.ro;have ZX:=h.gs.done h.op;have DL:=hc.xD;obtain⟨X,hX,hcx⟩:=h.cnt;have hlen:=yx (x.1.aV+1) h.bK h.yV hcx (by omega) (by omega);have hcan:=ck_can h.bK h.yV hcx (by omega) (by omega) (by omega);obtain⟨l1,l2⟩:=AO (x.1.aV+1) x.2.2;obtain⟨s,fs,m⟩:=x;simp only at*;obtain⟨B,hB⟩:∃B:ByteArray,B=⟨(xU (s.aV+1) m).toArray⟩:=⟨_,rfl⟩;have hBl:B.data.toList=xU (s.aV+1) m:=by rw[hB]
 have hBs:B.size=(xU (s.aV+1) m).length:=by rw[<-hBl];rfl
 obtain⟨Kb,e1,i1,-,m1⟩:=qG ha hc hI 1;have b1:=uR m1;have n1:=Xr m1 hnm;have u1:=A_ i1.sort n1 vL;have u0:=A_ hI.sort hnm vL;rw[b1,b1,b1]at u1;have hu1:bP Kb+(B.size:Int)<=s.room:=by omega
 have hB0:B.size≠0:=by omega
 have e2:=Rq (n:=3) ha OG i1 hB0 hu1;obtain⟨i2,-⟩:=i1.app (n:=3) (by omega) (by omega) hB0 hu1
 have z3:aL Kb 3=⟨#[]⟩:=by
  rw[cK,sV]
  ·rfl
  ·intro g hg e;rcases n1 g hg with q|q|q<;>omega
 have b2:∀j,aL (iR Kb (lX Kb 3 B)) j=if j=3 then B else aL fs j:=fun j=>by
  rw[jR i1.sort,(gI Kb 3 B).1];by_cases hj:j=3
  ·rw[if_pos hj.symm,if_pos hj,(gI Kb 3 B).2,z3];refine pW ?_;rw[eY];rfl
  ·rw[if_neg (fun e=>hj e.symm),if_neg hj,b1]
 obtain⟨fs3,e3,i3,-,m3⟩:=qG ha hc i2 3;have b3:=uR m3
 have n3:∀f∈fs3,f.1=1\/f.1=2\/f.1=10+s.aV\/f.1=3:=fun f hf=>by
  have:(f.1,f.2.1)∈fs3.map (fun f=>(f.1,f.2.1)):=List.mem_map.2 ⟨f,hf,rfl⟩;rw[m3]at this;obtain⟨g,hg,e⟩:=List.mem_map.1 this;simp only[Prod.mk.injEq]at e;rw[<-e.1];rcases rV hg with rfl|hg
  ·exact Or.inr (Or.inr (Or.inr (gI Kb 3 B).1))
  ·rcases n1 g hg with q|q|q
   ·exact Or.inl q
   ·exact Or.inr (Or.inl q)
   ·exact Or.inr (Or.inr (Or.inl q))
 obtain⟨f,hf,hfb⟩:∃f,eO fs3 3=M f/\f.2.1=B:=by
  have:aL fs3 3=B:=by rw[b3,b2,if_pos rfl]
  rw[cK]at this;cases hq:eO fs3 3 with
  |none=>rw[hq]at this;exact absurd (congrArg ByteArray.size this) (by simp only[Option.map_none,Option.getD_none];exact fun e=>hB0 e.symm)
  |some f=>rw[hq]at this;exact⟨f,rfl,this⟩
 have e4:=YT (t:=2) ha hf
 have d4:mZ 1000 s fs3:=⟨hc,h.gs.bk.qC,i3,by
  have:fs3.length<=4:=YR (e:=s.aV) i3.sort.1 (fun g hg=>by have:=n3 g hg;omega);omega⟩
 have i4:dY s.room (iR (gP fs3 3) (2,f.2.1,f.2.2)):=by
  have:=(d4.move 3 (t:=2) (by omega)).inv;rw[e4]at this;exact this
 obtain⟨fs4,hfs4⟩:∃fs4,fs4=iR (gP fs3 3) (2,f.2.1,f.2.2):=⟨_,rfl⟩;rw[<-hfs4]at e4 i4
 have b4:∀j,aL fs4 j=if j=2 then B else if j=3 then ⟨#[]⟩else aL fs j:=fun j=>by
  rw[hfs4,jR (Iq i3.sort 3)];simp only;by_cases hj:j=2
  ·rw[if_pos hj.symm,if_pos hj,hfb]
  ·rw[if_neg (fun e=>hj e.symm),if_neg hj,wV];by_cases hj3:j=3
   ·rw[if_pos hj3,if_pos hj3]
   ·rw[if_neg hj3,if_neg hj3,b3,b2,if_neg hj3]
 have n4:∀g∈fs4,g.1=1\/g.1=2\/g.1=10+s.aV:=fun g hg=>by
  rw[hfs4]at hg;rcases rV hg with rfl|hg
  ·exact Or.inr (Or.inl rfl)
  ·unfold gP at hg;simp only[List.mem_filter,bne_iff_ne,ne_eq]at hg;rcases n3 g hg.1 with q|q|q|q
   ·exact Or.inl q
   ·exact Or.inr (Or.inl q)
   ·exact Or.inr (Or.inr q)
   ·exact absurd q hg.2
 obtain⟨dh,e5,i5,b5,n5⟩:∃dh,bR s fs4 (10+s.aV) 0=(true,s,dh)/\dY s.room dh/\(∀j,aL dh j=if j=10+s.aV then ⟨#[]⟩else aL fs4 j)/\∀g∈dh,g.1=1\/g.1=2:=by
  rcases JX ha hc i4 (10+s.aV) (Int.le_refl 0)with⟨q1,q2⟩|⟨q1,q2,q3⟩
  ·have hz:(aL fs4 (10+s.aV)).size=0:=by omega
   refine⟨fs4,q2,i4,fun j=>?_,fun g hg=>?_⟩
   ·by_cases hj:j=10+s.aV
    ·rw[if_pos hj,hj];refine pW ?_;have:(aL fs4 (10+s.aV)).data.toList.length=0:=by simpa using hz
     rw[List.eq_nil_of_length_eq_zero this]
    ·rw[if_neg hj]
   ·rcases n4 g hg with q|q|q
    ·exact Or.inl q
    ·exact Or.inr q
    ·exact absurd q (Hg i4 hz g hg)
  ·refine⟨_,q2,q3,fun j=>?_,fun g hg=>?_⟩
   ·rw[Bg i4.sort];by_cases hj:j=10+s.aV
    ·rw[if_pos hj.symm,if_pos hj];refine pW ?_;rw[iC];simp
    ·rw[if_neg (fun e=>hj e.symm),if_neg hj]
   ·rcases BD hg with⟨q,-⟩|⟨q,q0⟩
    ·exact absurd rfl q
    ·rcases n4 g q with z|z|z
     ·exact Or.inl z
     ·exact Or.inr z
     ·exact absurd z (q0 rfl)
 have hF:nA s.aV B 5 0 s fs=(0,s,dh):=by
  simp only[nA,Jz,e1,Dv,if_true,e2,e3,e4,e5]
 have e:gG (s,fs,m)=(({ s with aV:=s.aV+1 },dh,m),0):=by
  unfold gG;simp only;rw[if_neg (by simp[xY]),if_neg (by simp[hro]),if_neg (by omega),<-hB,hF];simp
 rw[e];have bb1:aL dh 1=aL fs 1:=by rw[b5,if_neg (by omega),b4,if_neg (by omega),if_neg (by omega)]
 have bb2:aL dh 2=B:=by rw[b5,if_neg (by omega),b4,if_pos rfl]
 have bbj:aL dh (10+(s.aV+1))=⟨#[]⟩:=by
  rw[b5,if_neg (by omega),b4,if_neg (by omega),if_neg (by omega),cK,sV]
  ·rfl
  ·intro g hg e;rcases hnm g hg with q|q|q<;>omega
 have Wz:Ho dh (s.aV+1):=fun g hg=>by
  rcases n5 g hg with q|q
  ·exact Or.inl q
  ·exact Or.inr (Or.inl q)
 have mh:=h.b1;simp only at mh;refine⟨rfl,⟨⟨⟨⟨hc.ES,hc.Vt,hc.Db,hc.xD,hc.Vu,hc.oK,hc.oL,hc.Yu,hc.NW,hc.Fs,hc.Pj,hc.zM,hc.Cb,by simp only;omega,by simp only;omega⟩,h.gs.bk.qC,i5,?_⟩,fun _=>h.bK,fun _=>by simp only;omega,fun _ g hg=>?_,fun _=>?_,fun _ _=>?_⟩,xY,hro,ha,OG,h.most,nZ,h.yV,⟨X,by omega,hcx⟩,?_,Wz,?_,?_,?_,by simp only;omega⟩,bb1,by rw[bb2,hB],n5⟩
 ·have:dh.length<=4:=YR (e:=s.aV) i5.sort.1 (fun g hg=>by have:=n5 g hg;omega);simp only;omega
 ·rcases n5 g hg with q|q
  ·exact Or.inl q
  ·exact Or.inr (Or.inl q)
 ·simp only;rw[bb1];omega
 ·simp only;rw[bb1];exact Xo
 ·refine⟨m,[],?_,by simp only;rw[bbj];rfl,by simp,rfl⟩;simp only;rw[bb1,bb2];exact yh hcan (by omega) (by omega) (by omega) hBl
 ·simp only;rw[bb1];omega
 ·simp only;rw[bb2];omega
 ·simp only;rw[bbj];exact Nat.zero_le _
abbrev Gm:=List UInt8×List (List UInt8)×List (List UInt8)×Int
variable {g:Gm}
def rM (B:List UInt8)(t:Tm):Gm:=(Dh B t.1,t.2.1.map (Dh B),t.2.2.1.map (Dh B),t.2.2.2)
def Kc (g:Gm)(text:List UInt8)(d:Nat):Gm:=(text,(g.1::g.2.1).take d,[],g.2.2.2+1)
def yM (g:Gm)(d:Nat):Gm:=match g.2.1 with
 | []=>g
 |f::l=>(f,l,(g.1::g.2.2.1).take d,g.2.2.2+1)
def yN (g:Gm)(d:Nat):Gm:=match g.2.2.1 with
 | []=>g
 |f::l=>(f,(g.1::g.2.1).take d,l,g.2.2.2+1)
theorem JZ (B:List UInt8)(t:Tm)(f:List Int)(d:Nat):rM B (Df t f d)=Kc (rM B t) (Dh B f) d:=by
 simp[rM,Df,Kc,List.map_take]
theorem YU (B:List UInt8)(t:Tm)(d:Nat):rM B (yG t d)=yM (rM B t) d:=by
 obtain⟨a,b,c,e⟩:=t;cases b with
 |nil=>simp[rM,yG,yM]
 |cons f l=>simp[rM,yG,yM,List.map_take]
theorem YV (B:List UInt8)(t:Tm)(d:Nat):rM B (yH t d)=yN (rM B t) d:=by
 obtain⟨a,b,c,e⟩:=t;cases c with
 |nil=>simp[rM,yH,yN]
 |cons f l=>simp[rM,yH,yN,List.map_take]
def BG (n:Int)(f:List Int):Prop:=∀k∈f,0<=k/\k<n
theorem KA {p q:Int}{f come:List Int}(h:BG n f)(hc:BG n come):BG n (pK f p q come):=fun k hk=>by
 unfold pK at hk;rcases List.mem_append.1 hk with hk|hk
 ·rcases List.mem_append.1 hk with hk|hk
  ·exact h k (List.mem_of_mem_take hk)
  ·exact hc k hk
 ·exact h k (List.mem_of_mem_drop hk)
theorem Xt:∀(us:List Ed) (f:List Int),BG n f->(∀e∈us,mV n e.2.1)->∀g∈gH f us,BG n g
 | [],_,_,_,g,hg=>by simp[gH]at hg
 |e::us,f,hf,he,g,hg=>by
  have h1:BG n (wG e f):=KA hf (Po (he e (by simp)));rcases List.mem_cons.1 hg with rfl|hg
  ·exact h1
  ·exact Xt us _ h1 (fun d hd=>he d (by simp[hd])) g hg
theorem Xu:∀(us:List Ed) (f:List Int),BG n f->(∀e∈us,mV n e.2.2)->∀g∈gV f us,BG n g
 | [],_,_,_,g,hg=>by simp[gV]at hg
 |e::us,f,hf,he,g,hg=>by
  have h1:BG n (Fv e f):=KA hf (Po (he e (by simp)));rcases List.mem_cons.1 hg with rfl|hg
  ·exact h1
  ·exact Xu us _ h1 (fun d hd=>he d (by simp[hd])) g hg
theorem C_ (hg:dM m d)(hr:Yw m t):BG m.2.2.2.2 t.1/\(∀g∈t.2.1,BG m.2.2.2.2 g)/\(∀g∈t.2.2.1,BG m.2.2.2.2 g):=by
 have h1:BG m.2.2.2.2 (fl m.1):=Po hg.text;exact⟨by rw[hr.text];exact h1,by rw[hr.lK];exact Xt _ _ h1 (fun e he=>(hg.lK e he).2.1),by rw[hr.nJ];exact Xu _ _ h1 (fun e he=>(hg.nJ e he).2.2)⟩
theorem Xv {B X:List UInt8}(h1:BG n t.1)(h2:∀g∈t.2.1,BG n g)(h3:∀g∈t.2.2.1,BG n g)(hn:n<=(B.length:Int)):rM (B++X) t=rM B t:=by
 have k:∀g,BG n g->Dh (B++X) g=Dh B g:=fun g hg=>Za (fun j hj=>by have:=hg j hj;omega)
 unfold rM;rw[k _ h1,List.map_congr_left (fun g hg=>k g (h2 g hg)),List.map_congr_left (fun g hg=>k g (h3 g hg))]
structure nG (x:St)(g:Gm)(k:Nat)(t:Tm):Prop where
 snd:En x t k
 tell:rM (aL x.2.1 1).data.toList t=g
theorem Dy (b:ByteArray):b.data.toList.length=b.size:=by simp
theorem nG.len (h:nG x g k t):(g.1.length:Int)=sz x.2.2.1:=by
 rw[<-h.tell];show((Dh _ t.1).length:Int)=_;rw[WK,h.snd.yV.text,lW h.snd.bK.Tg]
theorem nG.done (h:nG x g k t):g.2.2.2=x.2.2.2.2.2.1:=by
 rw[<-h.tell];exact h.snd.yV.done
theorem nG.Da (h:nG x g k t):g.2.1=[]↔x.2.2.2.1=[]:=by
 rw[<-h.tell];show t.2.1.map _=[]↔_;rw[h.snd.yV.lK];cases x.2.2.2.1<;>simp[gH]
theorem nG.Iy (h:nG x g k t):g.2.2.1=[]↔x.2.2.2.2.1=[]:=by
 rw[<-h.tell];show t.2.2.1.map _=[]↔_;rw[h.snd.yV.nJ];cases x.2.2.2.2.1<;>simp[gV]
theorem KC (h:nG x g k t):(pos<0\/(g.1.length:Int)<pos\/n<0\/(g.1.length:Int)-pos<n->mX x pos n=(⟨#[]⟩,5))/\(¬(pos<0\/(g.1.length:Int)<pos\/n<0\/(g.1.length:Int)-pos<n)->(mX x pos n).2=0/\(mX x pos n).1.data.toList=(g.1.drop pos.toNat).take n.toNat):=by
 have hl:=h.len;have xY:=h.snd.op;have Xo:=h.snd.gs.wU h.snd.op h.snd.ro;have bX:=h.snd.b1;have hg:=h.snd.bK;have hb:=hg.uD;unfold mX;rw[if_neg (by simp[xY])];constructor
 ·intro hp;rw[if_pos (by omega)]
 ·intro hp;rw[if_neg (by omega)];refine⟨rfl,?_⟩;simp only;rw[SY (hg.text.mono (by omega)) (by omega) (by omega) (by omega),<-h.tell];show _=((Dh _ t.1).drop _).take _;rw[h.snd.yV.text]
theorem KD {x':St}{k':Nat}(h:nG x g k t)(hs:En x' t k')(hb:aL x'.2.1 1=aL x.2.1 1):nG x' g k' t:=⟨hs,by rw[hb];exact h.tell⟩
theorem D_ (h:nG x g k t):(iG x).2=0/\nG (iG x).1 g k t:=by
 obtain⟨h1,h2,h3⟩:=Rt h.snd;exact⟨h1,KD h h2 (h3 1)⟩
theorem KE (h:nG x g k t)(hk:k<=122):(gG x).2=0/\nG (gG x).1 g (k+1) t:=by
 obtain⟨h1,h2,h3,-⟩:=Hu h.snd hk;exact⟨h1,KD h h2 h3⟩
theorem UZ (h:nG x g k t)(hk:k<=400):
 (pos<0\/(g.1.length:Int)<pos->eZ x 73 pos n text=(x,5))/\(¬(pos<0\/(g.1.length:Int)<pos)->(text.size<1\/200<text.size)->eZ x 73 pos n text=(x,6))/\
 (¬(pos<0\/(g.1.length:Int)<pos)->¬(text.size<1\/200<text.size)->5000<(g.1.length:Int)+(text.size:Int)->eZ x 73 pos n text=(x,7))/\
 (¬(pos<0\/(g.1.length:Int)<pos)->¬(text.size<1\/200<text.size)->¬5000<(g.1.length:Int)+(text.size:Int)->(eZ x 73 pos n text).2=0/\∃t',nG (eZ x 73 pos n text).1 (Kc g (g.1.take pos.toNat++text.data.toList++g.1.drop pos.toNat) x.1.depth.toNat) (k+1) t'):=by
 have hl:=h.len;have xY:=h.snd.op;have hro:=h.snd.ro;have Ht:=h.snd.most;have Jy:=h.snd.few.1;have Xo:=h.snd.gs.wU h.snd.op h.snd.ro;have Jw:=Dy (aL x.2.1 1)
 have eX:kK x 73 pos n text=rR x.2.2 pos ((aL x.2.1 1).size:Int) (text.size:Int) 5000 x.1.depth.toNat:=by
  unfold kK gK qH pG lC;rw[if_pos rfl,if_pos (Or.inl rfl),if_pos rfl,if_pos rfl,Ht]
 have hlp:=Hq x.2.2.1 [(((aL x.2.1 1).size:Int),(text.size:Int))] pos;simp only[List.length_singleton]at hlp;refine⟨fun h1=>?_,fun h1 h2=>?_,fun h1 h2 h3=>?_,fun h1 h2 h3=>?_⟩
 ·have e:(kK x 73 pos n text).2=5:=by rw[eX];unfold rR;rw[if_pos (by omega)]
  rw[vO xY hro (by rw[e];decide),e]
 ·have e:(kK x 73 pos n text).2=6:=by rw[eX];unfold rR;rw[if_neg (by omega),if_pos (by omega)]
  rw[vO xY hro (by rw[e];decide),e]
 ·have e:(kK x 73 pos n text).2=7:=by rw[eX];unfold rR;rw[if_neg (by omega),if_neg (by omega),if_pos (by omega)]
  rw[vO xY hro (by rw[e];decide),e]
 ·have e0:(rR x.2.2 pos ((aL x.2.1 1).size:Int) (text.size:Int) 5000 x.1.depth.toNat).2=0:=by unfold rR;rw[if_neg (by omega),if_neg (by omega),if_neg (by omega),if_neg (by omega)]
  have e:(kK x 73 pos n text).2=0:=by rw[eX];exact e0
  have hr:=rep_ins h.snd.bK h.snd.yV e0
  obtain⟨a1,a2,a3⟩:=Oe h.snd hk (Or.inl rfl) e (t':=Df t ((fl x.2.2.1).take pos.toNat++fl [(((aL x.2.1 1).size:Int),(text.size:Int))]++(fl x.2.2.1).drop pos.toNat) x.1.depth.toNat) (by rw[eX];exact hr) (fun X hX=>by
   obtain⟨u,v,hc⟩:=cnt_ins h.snd.bK h.snd.yV hX Xo.symm e0;exact⟨u::v::X,by simp,by rw[eX];exact hc⟩)
  refine⟨a1,_,a2,?_⟩;rw[a3,if_pos rfl,eY,JZ];obtain⟨i1,i2,i3⟩:=C_ h.snd.bK h.snd.yV;rw[Xv i1 i2 i3 (by omega),h.tell];congr 1;have hfi:BG x.2.2.2.2.2.2 (fl x.2.2.1):=Po h.snd.bK.text
  have k1:Dh ((aL x.2.1 1).data.toList++text.data.toList) (fl x.2.2.1)=g.1:=by
   rw[Za (fun j hj=>by have:=hfi j hj;omega),<-h.tell];show _=Dh _ t.1;rw[h.snd.yV.text]
  rw[Au,Au,Yy,Yz,k1,Zb];simp only;rw[EW (by omega) (by rw[List.length_append,Jw,Dy];omega),Int.toNat_natCast,Int.toNat_natCast,<-Jw,List.drop_left,<-Dy text,List.take_length]
theorem VA (h:nG x g k t)(hk:k<=400):
 (pos<0\/(g.1.length:Int)<pos\/n<1\/(g.1.length:Int)-pos<n->eZ x 68 pos n text=(x,5))/\
 (¬(pos<0\/(g.1.length:Int)<pos\/n<1\/(g.1.length:Int)-pos<n)->(eZ x 68 pos n text).2=0/\∃t',nG (eZ x 68 pos n text).1 (Kc g (g.1.take pos.toNat++g.1.drop (pos+n).toNat) x.1.depth.toNat) (k+1) t'):=by
 have hl:=h.len;have xY:=h.snd.op;have hro:=h.snd.ro;have Jy:=h.snd.few.1
 have eX:kK x 68 pos n text=yQ x.2.2 pos n x.1.depth.toNat:=by
  unfold kK gK qH pG lC;rw[if_neg (by decide),if_pos rfl,if_pos (Or.inr rfl),if_neg (by decide),if_pos rfl]
 have hlp:=Rs x.2.2.1 pos n;refine⟨fun h1=>?_,fun h1=>?_⟩
 ·have e:(kK x 68 pos n text).2=5:=by rw[eX];unfold yQ;rw[if_pos (by omega)]
  rw[vO xY hro (by rw[e];decide),e]
 ·have e0:(yQ x.2.2 pos n x.1.depth.toNat).2=0:=by unfold yQ;rw[if_neg (by omega),if_neg (by omega)]
  have e:(kK x 68 pos n text).2=0:=by rw[eX];exact e0
  have hr:=rep_del h.snd.bK h.snd.yV e0
  obtain⟨a1,a2,a3⟩:=Oe h.snd hk (Or.inr (Or.inl rfl)) e (by rw[eX];exact hr) (fun X hX=>by
   obtain⟨u,v,hc⟩:=cnt_del h.snd.yV hX e0;exact⟨u::v::X,by simp,by rw[eX];exact hc⟩)
  refine⟨a1,_,a2,?_⟩;rw[a3,if_neg (by decide),JZ,h.tell];congr 1
  have k1:Dh (aL x.2.1 1).data.toList (fl x.2.2.1)=g.1:=by
   rw[<-h.tell];show _=Dh _ t.1;rw[h.snd.yV.text]
  rw[Au,Yy,Yz,k1]
theorem KF (h:nG x g k t)(hk:k<=400):
 (g.2.1=[]->eZ x 85 pos n text=(x,8))/\(g.2.1≠[]->(eZ x 85 pos n text).2=0/\∃t',nG (eZ x 85 pos n text).1 (yM g x.1.depth.toNat) (k+1) t'):=by
 have xY:=h.snd.op;have hro:=h.snd.ro;have Jy:=h.snd.few
 have eX:kK x 85 pos n text=qM x.2.2 x.1.depth.toNat:=by
  unfold kK gK;rw[if_neg (by decide),if_neg (by decide),if_pos rfl]
 refine⟨fun h1=>?_,fun h1=>?_⟩
 ·have hz:=h.Da.1 h1;have e:(kK x 85 pos n text).2=8:=by rw[eX];unfold qM;rw[hz]
  rw[vO xY hro (by rw[e];decide),e]
 ·have hz:x.2.2.2.1≠[]:=fun e=>h1 (h.Da.2 e)
  have e0:(qM x.2.2 x.1.depth.toNat).2=0:=by
   unfold qM;cases hu:x.2.2.2.1 with
   |nil=>exact absurd hu hz
   |cons e l=>
    simp only;have f1:=Rs x.2.2.1 e.1 (sz e.2.2);have f2:=Hq (bY x.2.2.1 e.1 (sz e.2.2)).1 e.2.1 e.1;have f3:=(Jy.2 e (Or.inl (by rw[hu];simp))).1;rw[if_neg (by omega)]
  have e:(kK x 85 pos n text).2=0:=by rw[eX];exact e0
  have hr:=(jv h.snd.bK h.snd.yV e0).1
  obtain⟨a1,a2,a3⟩:=Oe h.snd hk (Or.inr (Or.inr (Or.inl rfl))) e (by rw[eX];exact hr) (fun X hX=>by
   obtain⟨u,v,z,hc⟩:=yu h.snd.yV hX e0;exact⟨u::v::z::X,by simp,by rw[eX];exact hc⟩)
  refine⟨a1,_,a2,?_⟩;rw[a3,if_neg (by decide),YU,h.tell]
theorem KG (h:nG x g k t)(hk:k<=400):
 (g.2.2.1=[]->eZ x 82 pos n text=(x,8))/\(g.2.2.1≠[]->(eZ x 82 pos n text).2=0/\∃t',nG (eZ x 82 pos n text).1 (yN g x.1.depth.toNat) (k+1) t'):=by
 have xY:=h.snd.op;have hro:=h.snd.ro;have Jy:=h.snd.few
 have eX:kK x 82 pos n text=qN x.2.2 x.1.depth.toNat:=by
  unfold kK gK;rw[if_neg (by decide),if_neg (by decide),if_neg (by decide)]
 refine⟨fun h1=>?_,fun h1=>?_⟩
 ·have hz:=h.Iy.1 h1;have e:(kK x 82 pos n text).2=8:=by rw[eX];unfold qN;rw[hz]
  rw[vO xY hro (by rw[e];decide),e]
 ·have hz:x.2.2.2.2.1≠[]:=fun e=>h1 (h.Iy.2 e)
  have e0:(qN x.2.2 x.1.depth.toNat).2=0:=by
   unfold qN;cases hu:x.2.2.2.2.1 with
   |nil=>exact absurd hu hz
   |cons e l=>
    simp only;have f1:=Rs x.2.2.1 e.1 (sz e.2.1);have f2:=Hq (bY x.2.2.1 e.1 (sz e.2.1)).1 e.2.2 e.1;have f3:=(Jy.2 e (Or.inr (by rw[hu];simp))).2;rw[if_neg (by omega)]
  have e:(kK x 82 pos n text).2=0:=by rw[eX];exact e0
  have hr:=(jw h.snd.bK h.snd.yV e0).1
  obtain⟨a1,a2,a3⟩:=Oe h.snd hk (Or.inr (Or.inr (Or.inr rfl))) e (by rw[eX];exact hr) (fun X hX=>by
   obtain⟨u,v,z,hc⟩:=yw h.snd.yV hX e0;exact⟨u::v::z::X,by simp,by rw[eX];exact hc⟩)
  refine⟨a1,_,a2,?_⟩;rw[a3,if_neg (by decide),YV,h.tell]
end Go.Proofs.YtfplgfodoiiobaaGreatDoor
