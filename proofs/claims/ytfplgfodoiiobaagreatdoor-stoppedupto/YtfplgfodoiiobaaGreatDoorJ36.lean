/- KpL, KpN, QlS, QlV (joined). -/
import Derived.Test.YtfplgfodoiiobaaGreatDoorJ35
open Option renaming none→O,some→M
open Go.Value renaming int→I,pointer→U
open Go.IntKind renaming i64→V
open Go.Ending renaming returned→G
open Go renaming World→F,Value→Y,Calls→H
open Go.Proofs.Tryz renaming prog→K
namespace Go.Proofs.YtfplgfodoiiobaaGreatDoor
set_option maxHeartbeats 2000000
set_option maxRecDepth 100000
open Go.RowKit
variable {s s' c:Sc}{fs:List bF}{n ep:Int}{m:bT}{x:St}{t:Tm}{k qp:Nat}{w:F}
def Rdn (fs:List bF)(d:Nat)(ep:Int)(m:bT)(j:Nat):Prop:=∃m0,jE (aL fs 2) ((aL fs 1).size:Int) d=M (ep,m0)/\lZ ((aL fs 1).size:Int) d ((aL fs (10+ep)).data.toList.length / 22+1) m0 (aL fs (10+ep)).data.toList=(m,j)
theorem Rds.rdn {d:Nat}(h:Rds fs d ep m):∃j,Rdn fs d ep m j/\(aL fs (10+ep)).size=22*j:=by
 obtain⟨m0,rs,h1,h2,h3,h4⟩:=h;refine⟨rs.length,⟨m0,h1,?_⟩,?_⟩
 ·rw[h2];exact Ra h3 h4
 ·rw[<-Gw h3,<-h2];simp
theorem VB {b:ByteArray}(h:b.size=0):b=⟨#[]⟩:=pW (by
 have:b.data.toList.length=0:=by simpa using h
 rw[List.eq_nil_of_length_eq_zero this])
theorem VD (b:ByteArray){n:Nat}(h:b.size<=n):b.extract 0 n=b:=pW (by
 rw[iC,List.drop_zero,Nat.sub_zero];exact List.take_of_length_le (by simpa using h))
theorem Ke (ha:s.eG=false)(hc:fU s)(hI:dY s.room fs)(n:Int){k:Int}(h0:0<=k):∃bN,bR s fs n k=(true,s,bN)/\dY s.room bN/\(∀j,aL bN j=if j=n then (aL fs n).extract 0 k.toNat else aL fs j)/\(∀f∈bN,(f∈fs\/(f.1=n/\f.2.2=(f.2.1.size:Int)/\∃g∈fs,g.1=n))/\(k=0->f.1≠n)):=by
 rcases JX ha hc hI n h0 with⟨h1,e⟩|⟨h1,e,i⟩
 ·refine⟨fs,e,hI,fun j=>?_,fun f hf=>⟨Or.inl hf,fun hk=>Hg hI (by omega) f hf⟩⟩;by_cases hj:j=n
  ·rw[if_pos hj,hj,VD _ (by omega)]
  ·rw[if_neg hj]
 ·refine⟨_,e,i,fun j=>?_,fun f hf=>⟨?_,fun hk=>?_⟩⟩
  ·rw[Bg hI.sort];by_cases hj:j=n
   ·rw[if_pos hj.symm,if_pos hj]
   ·rw[if_neg (fun q=>hj q.symm),if_neg hj]
  ·unfold Fu at hf;by_cases hk:k=0
   ·rw[if_pos hk]at hf;unfold gP at hf;simp only[List.mem_filter,bne_iff_ne,ne_eq]at hf;exact Or.inl hf.1
   ·rw[if_neg hk]at hf;rcases rV hf with rfl|hf
    ·refine Or.inr ⟨rfl,?_,?_⟩
     ·simp only[ByteArray.size_extract];omega
     ·rw[cK]at h1;cases hq:eO fs n with
      |none=>rw[hq]at h1;simp only[Option.map_none,Option.getD_none]at h1;exact absurd h1 (by show ¬k<(((⟨#[]⟩:ByteArray).size:Nat):Int);have:(⟨#[]⟩:ByteArray).size=0:=rfl;omega)
      |some g=>exact⟨g,(mQ hq).1,(mQ hq).2⟩
    ·exact Or.inl hf
  ·rcases BD hf with⟨q,-⟩|⟨-,q⟩
   ·exact absurd hk q
   ·exact q hk
theorem Xw (ha:s.eG=false)(hc:fU s):∀(l:List Int) {fs:List bF},dY s.room fs->∃bN,fF s fs l=(true,s,bN)/\dY s.room bN/\(∀n,aL bN n=if n∈l then ⟨#[]⟩else aL fs n)/\(∀f∈bN,f∈fs/\f.1 ∉ l)
 | [],fs,hI=>⟨fs,rfl,hI,fun n=>by simp,fun f hf=>⟨hf,by simp⟩⟩
 |a::l,fs,hI=>by
  obtain⟨f1,e1,i1,b1,m1⟩:=Ke ha hc hI a (Int.le_refl 0);obtain⟨f2,e2,i2,b2,m2⟩:=Xw ha hc l i1;refine⟨f2,?_,i2,fun n=>?_,fun f hf=>?_⟩
  ·unfold fF;simp only[e1,if_true];exact e2
  ·rw[b2,b1];by_cases h1:n∈l
   ·rw[if_pos h1,if_pos (List.mem_cons_of_mem _ h1)]
   ·rw[if_neg h1];by_cases h2:n=a
    ·rw[if_pos h2,if_pos (by rw[h2];exact List.mem_cons_self)];exact VB (by simp)
    ·rw[if_neg h2,if_neg (by simp[h1,h2])]
  ·obtain⟨q1,q2⟩:=m2 f hf;obtain⟨q3,q4⟩:=m1 f q1;have q5:=q4 rfl;rcases q3 with q3|⟨q3,-⟩
   ·exact⟨q3,by simp[q2,q5]⟩
   ·exact absurd q3 q5
def flF (fs:List bF):Prop:=∀f∈fs,f.2.2=(f.2.1.size:Int)
theorem Kg (h:n∈iT fs ep):n≠1/\n≠10+ep/\(n=2->ep=0):=by
 unfold iT at h;obtain⟨-,h2⟩:=List.mem_filter.1 h;simp only[Bool.and_eq_true,Bool.or_eq_true,bne_iff_ne,ne_eq,beq_iff_eq]at h2;exact⟨h2.1.1,h2.1.2,fun e=>h2.2.resolve_left (fun q=>q e)⟩
theorem YW {f:bF}(hf:f∈fs)(h:f.1 ∉ iT fs ep):f.1=1\/f.1=2\/f.1=10+ep:=by
 by_cases h1:f.1=1
 ·exact Or.inl h1
 ·by_cases h2:f.1=2
  ·exact Or.inr (Or.inl h2)
  ·by_cases h3:f.1=10+ep
   ·exact Or.inr (Or.inr h3)
   ·exfalso;apply h;unfold iT;exact List.mem_filter.2 ⟨List.mem_map.2 ⟨f,hf,rfl⟩,by simp[h1,h2,h3]⟩
theorem Rw (h:∀f∈fs,f.1≠n):aL fs n=⟨#[]⟩:=by rw[cK,sV h];rfl
theorem YX {m':bT}{j:Nat}(ho:s.aS=false)(ha:s.eG=false)(hc:fU s)(hI:dY s.room fs)(hr:Rdn fs s.depth.toNat ep m j)(hb:0<=m.2.2.2.2):
 ∃bN,jM (s,fs,m')=(({ s with aS:=true,ro:=false,aV:=ep },bN,m),0)/\dY s.room bN/\Ho bN ep/\(flF fs->flF bN)/\(∀n,aL bN n=if n=1 then (aL fs 1).extract 0 m.2.2.2.2.toNat else if n=10+ep then (aL fs (10+ep)).extract 0 (22*j)else if n=2 then aL fs 2 else ⟨#[]⟩):=by
 obtain⟨m0,h1,h2⟩:=hr;have au:0<=ep:=by rcases Ru h1 with⟨-,e⟩|⟨-,e,-⟩<;>simp at e<;>omega
 have uW:ep=0->(aL fs 2).size=0:=fun e=>by
  rcases Ru h1 with⟨z,-⟩|⟨-,z,-⟩
  ·exact z
  ·simp only at z;omega
 obtain⟨s1,yC⟩:∃s1:Sc,s1= { s with aS:=true }:=⟨_,rfl⟩;have a1:s1.eG=false:=by rw[yC];exact ha
 have c1:fU s1:=by rw[yC];exact { hc with }
 have rm:s1.room=s.room:=by rw[yC]
 obtain⟨f1,e1,i1,b1,m1⟩:=Xw a1 c1 (iT fs ep) (by rw[rm];exact hI);obtain⟨f2,e2,i2,b2,m2⟩:=Ke a1 c1 i1 (10+ep) (k:=((22*j:Nat):Int)) (by omega);obtain⟨f3,e3,i3,b3,m3⟩:=Ke a1 c1 i2 1 (k:=m.2.2.2.2) hb;rw[rm]at i1 i2 i3;have n1:Ho f1 ep:=fun f hf=>YW (m1 f hf).1 (m1 f hf).2
 have n2:Ho f2 ep:=fun f hf=>by
  rcases(m2 f hf).1 with q|⟨q,-⟩
  ·exact n1 f q
  ·exact Or.inr (Or.inr q)
 have n3:Ho f3 ep:=fun f hf=>by
  rcases(m3 f hf).1 with q|⟨q,-⟩
  ·exact n2 f q
  ·exact Or.inl q
 refine⟨f3,?_,i3,n3,fun hf f h=>?_,fun n=>?_⟩
 ·unfold jM;simp only;rw[if_neg (by simp[ho]),h1];simp only;rw[h2,<-yC];simp only[e1,e2,e3,Bool.true_eq_false,if_false];rw[yC]
 ·rcases(m3 f h).1 with q|⟨-,q,-⟩
  ·rcases(m2 f q).1 with q|⟨-,q,-⟩
   ·exact hf f (m1 f q).1
   ·exact q
  ·exact q
 ·have o1:(1:Int) ∉ iT fs ep:=fun h=>(Kg h).1 rfl
  have oj:(10+ep) ∉ iT fs ep:=fun h=>(Kg h).2.1 rfl
  have hj1:¬(10+ep=1):=by omega
  have h1j:¬((1:Int)=10+ep):=by omega
  by_cases q1:n=1
  ·rw[if_pos q1,b3,if_pos q1,b2,if_neg h1j,b1,if_neg o1]
  ·rw[if_neg q1,b3,if_neg q1];by_cases q2:n=10+ep
   ·rw[if_pos q2,b2,if_pos q2,b1,if_neg oj,Int.toNat_natCast]
   ·rw[if_neg q2,b2,if_neg q2];by_cases q3:n=2
    ·rw[if_pos q3,b1,q3];by_cases q4:(2:Int)∈iT fs ep
     ·rw[if_pos q4];exact(VB (uW ((Kg q4).2.2 rfl))).symm
     ·rw[if_neg q4]
    ·rw[if_neg q3]
     exact Rw (fun f hf e=>by
      rcases n1 f hf with q|q|q
      ·exact q1 (e.symm.trans q)
      ·exact q3 (e.symm.trans q)
      ·exact q2 (e.symm.trans q))
theorem En.E_ (h:En x t k){bN:List bF}(hc:fU s')(ha:0<=s'.after)(o:s'.aS=true)(r:s'.ro=false)(am:s'.eG=false)(rf:s'.refusing=false)(mo:s'.most=5000)(rm:s'.room=1000000)(de:s'.depth=x.1.depth)(ep:s'.aV=x.1.aV)(hI:dY s'.room bN)(hn:Ho bN x.1.aV)(hb:∀n,n=1\/n=2\/n=10+x.1.aV->aL bN n=aL x.2.1 n):En (s',bN,x.2.2) t k:=by
 have b1:=hb 1 (Or.inl rfl);have b2:=hb 2 (Or.inr (Or.inl rfl));have bj:=hb _ (Or.inr (Or.inr rfl))
 have hf4:BB bN x.1.aV:=fun f hf=>by
  rcases hn f hf with q|q|q
  ·exact Or.inl q
  ·exact Or.inr (Or.inl q)
  ·exact Or.inr (Or.inr (Or.inr q))
 refine⟨⟨⟨hc,ha,hI,?_⟩,fun _=>?_,fun _=>h.gs.done h.op,fun _=>by simp only;rw[ep];exact hf4,fun _=>by simp only;rw[b1];exact h.gs.buf h.op,fun _ _=>by simp only;rw[b1];exact h.gs.wU h.op h.ro⟩,o,r,am,rf,mo,rm,h.yV,h.cnt,?_,by simp only;rw[ep];exact hn,by simp only;rw[b1];exact h.b1,by simp only;rw[b2];exact h.b2,by simp only;rw[ep,bj];exact h.bj,by simp only;rw[ep];exact h.ep⟩
 ·have:=YR hI.sort.1 hf4;simp only;omega
 ·simp only;rw[de];exact h.bK
 ·obtain⟨m0,rs,r1,r2,r3,r4⟩:=h.rd;refine⟨m0,rs,?_,?_,r3,?_⟩
  ·simp only;rw[b1,b2,de,ep];exact r1
  ·simp only;rw[ep,bj];exact r2
  ·simp only;rw[b1,de];exact r4
theorem nG.E_ {g:Gm}(h:nG x g k t){bN:List bF}(hc:fU s')(ha:0<=s'.after)(o:s'.aS=true)(r:s'.ro=false)(am:s'.eG=false)(rf:s'.refusing=false)(mo:s'.most=5000)(rm:s'.room=1000000)(de:s'.depth=x.1.depth)(ep:s'.aV=x.1.aV)(hI:dY s'.room bN)(hn:Ho bN x.1.aV)(hb:∀n,n=1\/n=2\/n=10+x.1.aV->aL bN n=aL x.2.1 n):nG (s',bN,x.2.2) g k t:=
 ⟨h.snd.E_ hc ha o r am rf mo rm de ep hI hn hb,by simp only;rw[hb 1 (Or.inl rfl)];exact h.tell⟩
theorem KH {g:Gm}(h:nG x g k t){m':bT}(hc:fU s)(ha:0<=s.after)(o:s.aS=false)(am:s.eG=false)(rf:s.refusing=false)(mo:s.most=5000)(rm:s.room=1000000)(de:s.depth=x.1.depth)(hI:dY s.room fs)(b1:∃T:ByteArray,aL fs 1=aL x.2.1 1++T)(b2:aL fs 2=aL x.2.1 2)(bj:aL fs (10+x.1.aV)=aL x.2.1 (10+x.1.aV)):
 ∃bN,jM (s,fs,m')=(({ s with aS:=true,ro:=false,aV:=x.1.aV },bN,x.2.2),0)/\nG ({ s with aS:=true,ro:=false,aV:=x.1.aV },bN,x.2.2) g k t/\(flF fs->flF bN):=by
 obtain⟨T,b1⟩:=b1;have Xo:=h.snd.gs.wU h.snd.op h.snd.ro;have gQ:((aL x.2.1 1).size:Int)<=((aL fs 1).size:Int):=by rw[b1,dR];omega
 obtain⟨m0,rs,r1,r2,r3,r4⟩:=h.snd.rd;have hR:Rds fs s.depth.toNat x.1.aV x.2.2:=⟨m0,rs,by rw[b2,de];exact xV r1 gQ,by rw[bj];exact r2,r3,by rw[de];exact Qy gQ r4⟩;obtain⟨j,hj,hl⟩:=hR.rdn;obtain⟨bN,e,i,n3,fl,hb⟩:=YX (m':=m') o am hc hI hj (by omega);refine⟨bN,e,h.E_ (s':= { s with aS:=true,ro:=false,aV:=x.1.aV }) ⟨hc.ES,hc.Vt,hc.Db,hc.xD,hc.Vu,hc.oK,hc.oL,hc.Yu,hc.NW,hc.Fs,hc.Pj,hc.zM,hc.Cb,h.snd.gs.bk.bK.nK,h.snd.gs.bk.bK.zN⟩ ha rfl rfl am rf mo rm de rfl i n3 (fun n hn=>?_),fl⟩;have he:=h.snd.gs.bk.bK.nK;rw[hb];rcases hn with q|q|q
 ·rw[if_pos q,q,b1];refine pW ?_;rw[iC,List.drop_zero,Nat.sub_zero,eY,Xo,Int.toNat_natCast];exact List.take_left' (by simp)
 ·rw[if_neg (by omega),if_neg (by omega),if_pos q,q,b2]
 ·rw[if_neg (by omega),if_pos q,q,bj];exact VD _ (by rw[<-bj];omega)
def aY (s:Sc):Sc:= { s with eG:=false,after:=0 }
structure Lk (s c s':Sc)(n:Int):Prop where
 calm:aY s'=c
 arm:s'.eG=s.eG
 lo:s.after-n<=s'.after
 hi:s'.after<=s.after
 un:s.eG=false->s'.after=s.after
def Xx (s:Sc)(n:Int):Prop:=s.eG=true->n<=s.after
theorem Lk.RD {k:Int}(h:Lk s c s' n)(hb:Xx s k):Xx s' (k-n):=fun ha=>by
 have h1:=hb (by rw[<-h.arm];exact ha);have h2:=h.lo;omega
theorem Lk.trans {c' s'':Sc}{n':Int}(h:Lk s c s' n)(h':Lk s' c' s'' n'):Lk s c' s'' (n+n'):=⟨h'.calm,h'.arm.trans h.arm,by have:=h.lo;have:=h'.lo;omega,Int.le_trans h'.hi h.hi,fun q=>(h'.un (by rw[h.arm];exact q)).trans (h.un q)⟩
theorem Lk.le {n':Int}(h:Lk s c s' n)(hn:n<=n'):Lk s c s' n':=⟨h.calm,h.arm,by have:=h.lo;omega,h.hi,h.un⟩
theorem Lk.rfl (s:Sc):Lk s (aY s) s 0:=⟨_root_.rfl,_root_.rfl,by omega,Int.le_refl _,fun _=>_root_.rfl⟩
theorem Hw (h:Xx s 1):∃s',dF s fs=(true,s',fs)/\Lk s (aY s) s' 1:=by
 unfold dF;by_cases ha:s.eG=false
 ·exact⟨s,by rw[if_pos ha],(Lk.rfl s).le (by omega)⟩
 ·have h1:=h (by simpa using ha);rw[if_neg ha,if_pos (by omega)];exact⟨_,_root_.rfl,_root_.rfl,_root_.rfl,Int.le_refl _,by simp only;omega,fun q=>absurd q ha⟩
theorem Bh (s:Sc)(fs:List bF):dF (aY s) fs=(true,aY s,fs):=tF fs _root_.rfl
theorem BH (h:Xx s 1)(n:Int)(b:ByteArray):∃s',dJ s fs n b=((dJ (aY s) fs n b).1,s',(dJ (aY s) fs n b).2.2)/\Lk s (dJ (aY s) fs n b).2.1 s' 1:=by
 unfold dJ;by_cases h1:s.refusing=true/\s.left=0
 ·rw[if_pos h1,if_pos (show(aY s).refusing=true/\(aY s).left=0 from h1)];exact⟨_,_root_.rfl,_root_.rfl,_root_.rfl,by simp only;omega,Int.le_refl _,fun _=>_root_.rfl⟩
 ·rw[if_neg h1,if_neg (show ¬((aY s).refusing=true/\(aY s).left=0) from h1)];by_cases h2:s.room<bP fs+(b.size:Int)
  ·rw[if_pos h2,if_pos (show(aY s).room<bP fs+(b.size:Int) from h2)];exact⟨_,_root_.rfl,_root_.rfl,_root_.rfl,by simp only;omega,Int.le_refl _,fun _=>_root_.rfl⟩
  ·rw[if_neg h2,if_neg (show ¬(aY s).room<bP fs+(b.size:Int) from h2)];simp only;obtain⟨s1,yC⟩:∃s1:Sc,s1=if s.refusing=true then { s with left:=s.left-1 } else s:=⟨_,_root_.rfl⟩
   have Ig:(if (aY s).refusing=true then { aY s with left:=(aY s).left-1 } else aY s)=aY s1:=by
    rw[yC];by_cases hr:s.refusing=true
    ·rw[if_pos hr,if_pos (show(aY s).refusing=true from hr)];rfl
    ·rw[if_neg hr,if_neg (show ¬(aY s).refusing=true from hr)]
   have hz:s1.eG=s.eG/\s1.after=s.after:=by
    rw[yC];split<;>exact⟨_root_.rfl,_root_.rfl⟩
   rw[<-yC,Ig,Bh];obtain⟨s',e,hl⟩:=Hw (s:=s1) (fs:=fs) (fun q=>by rw[hz.2];exact h (by rw[<-hz.1];exact q));rw[e];simp only[if_true];exact⟨s',_root_.rfl,hl.calm,hl.arm.trans hz.1,by have:=hl.lo;rw[hz.2]at this;exact this,by rw[<-hz.2];exact hl.hi,fun q=>(hl.un (hz.1.trans q)).trans hz.2⟩
theorem Bj (h:Xx s 1)(n:Int):∃s',bQ s fs n=((bQ (aY s) fs n).1,s',(bQ (aY s) fs n).2.2)/\Lk s (bQ (aY s) fs n).2.1 s' 1:=by
 unfold bQ;cases vP fs n with
 |none=>exact⟨s,_root_.rfl,(Lk.rfl s).le (by omega)⟩
 |some i=>
  simp only;obtain⟨s',e,hl⟩:=Hw (fs:=fs) h;rw[e,Bh];simp only[if_true];exact⟨s',_root_.rfl,hl⟩
theorem Oh (h:Xx s 1)(n k:Int):∃s',bR s fs n k=((bR (aY s) fs n k).1,s',(bR (aY s) fs n k).2.2)/\Lk s (bR (aY s) fs n k).2.1 s' 1:=by
 unfold bR;by_cases h1:((aL fs n).size:Int)<=k
 ·rw[if_pos h1,if_pos h1];exact⟨s,_root_.rfl,(Lk.rfl s).le (by omega)⟩
 ·rw[if_neg h1,if_neg h1];simp only;obtain⟨s',e,hl⟩:=Hw (fs:=fs) h;rw[e,Bh];simp only[if_true];exact⟨s',_root_.rfl,hl⟩
theorem F_ (h:Xx s 1)(n k:Int):∃s',jP s fs n k=((jP (aY s) fs n k).1,s',(jP (aY s) fs n k).2.2)/\Lk s (jP (aY s) fs n k).2.1 s' 1:=by
 unfold jP;cases eO fs n with
 |none=>exact⟨s,_root_.rfl,(Lk.rfl s).le (by omega)⟩
 |some f=>
  simp only;obtain⟨s',e,hl⟩:=Hw (fs:=fs) h;rw[e,Bh];simp only[if_true];exact⟨s',_root_.rfl,hl⟩
theorem qJ (h:Xx s 2)(kind pos n:Int)(text:ByteArray):∃s',eZ (s,fs,m) kind pos n text=((s',(eZ (aY s,fs,m) kind pos n text).1.2),(eZ (aY s,fs,m) kind pos n text).2)/\Lk s (eZ (aY s,fs,m) kind pos n text).1.1 s' 2:=by
 unfold eZ;simp only;by_cases ho:s.aS=false
 ·rw[if_pos ho,if_pos (show(aY s).aS=false from ho)];exact⟨s,_root_.rfl,(Lk.rfl s).le (by omega)⟩
 ·rw[if_neg ho,if_neg (show ¬(aY s).aS=false from ho)];by_cases hr:s.ro=true
  ·rw[if_pos hr,if_pos (show(aY s).ro=true from hr)];exact⟨s,_root_.rfl,(Lk.rfl s).le (by omega)⟩
  ·rw[if_neg hr,if_neg (show ¬(aY s).ro=true from hr)];have em:(aY s).most=s.most:=_root_.rfl;have ed:(aY s).depth=s.depth:=_root_.rfl;rw[em,ed];generalize gK m kind (if kind=73\/kind=68 then pos else 0) (if kind=73 then ((aL fs 1).size:Int)else if kind=68 then n else 0) (if kind=73 then (text.size:Int)else 0) s.most s.depth.toNat=r;by_cases hz:r.2≠0
   ·rw[if_pos hz,if_pos hz];exact⟨s,_root_.rfl,(Lk.rfl s).le (by omega)⟩
   ·rw[if_neg hz,if_neg hz]
    obtain⟨s1,e1,l1⟩:∃s1,(if kind=73 then dJ s fs 1 text else (0,s,fs))=((if kind=73 then dJ (aY s) fs 1 text else (0,aY s,fs)).1,s1,(if kind=73 then dJ (aY s) fs 1 text else (0,aY s,fs)).2.2)/\Lk s (if kind=73 then dJ (aY s) fs 1 text else (0,aY s,fs)).2.1 s1 1:=by
     by_cases hk:kind=73
     ·simp only[if_pos hk];exact BH (fun q=>by have:=h q;omega) 1 text
     ·simp only[if_neg hk];exact⟨s,_root_.rfl,(Lk.rfl s).le (by omega)⟩
    rw[e1];generalize (if kind=73 then dJ (aY s) fs 1 text else (0,aY s,fs))=q at*;obtain⟨q1,q2,q3⟩:=q;simp only at l1 ⊢;by_cases hq:q1≠0
    ·rw[if_pos hq,if_pos hq];exact⟨s1,_root_.rfl,l1.le (by omega)⟩
    ·rw[if_neg hq,if_neg hq];have hc:q2=aY s1:=l1.calm.symm;subst hc;have ee:(aY s1).aV=s1.aV:=_root_.rfl;rw[ee];obtain⟨s2,e2,l2⟩:=BH (s:=s1) (fs:=q3) (by have:=l1.RD h;exact this) (10+s1.aV) (fO kind r.1.2.2.2.1 (if kind=73\/kind=68 then pos else 0) (if kind=73 then ((aL fs 1).size:Int)else if kind=68 then n else 0) (if kind=73 then (text.size:Int)else 0));rw[e2];exact⟨s2,_root_.rfl,l1.trans l2⟩
theorem G_ (h:Xx s 2):∃s',iG (s,fs,m)=((s',(iG (aY s,fs,m)).1.2),(iG (aY s,fs,m)).2)/\Lk s (iG (aY s,fs,m)).1.1 s' 2:=by
 unfold iG;simp only;by_cases ho:s.aS=false
 ·rw[if_pos ho,if_pos (show(aY s).aS=false from ho)];exact⟨s,_root_.rfl,(Lk.rfl s).le (by omega)⟩
 ·rw[if_neg ho,if_neg (show ¬(aY s).aS=false from ho)];by_cases hr:s.ro=true
  ·rw[if_pos hr,if_pos (show(aY s).ro=true from hr)];exact⟨s,_root_.rfl,(Lk.rfl s).le (by omega)⟩
  ·rw[if_neg hr,if_neg (show ¬(aY s).ro=true from hr)];obtain⟨s1,e1,l1⟩:=Bj (s:=s) (fs:=fs) (fun q=>by have:=h q;omega) 1;rw[e1];generalize bQ (aY s) fs 1=q at*;obtain⟨q1,q2,q3⟩:=q;simp only at l1 ⊢;by_cases hq:q1=false
   ·rw[if_pos hq,if_pos hq];exact⟨s1,_root_.rfl,l1.le (by omega)⟩
   ·rw[if_neg hq,if_neg hq];have hc:q2=aY s1:=l1.calm.symm;subst hc;have ee:(aY s1).aV=s1.aV:=_root_.rfl;rw[ee];obtain⟨s2,e2,l2⟩:=Bj (s:=s1) (fs:=q3) (by have:=l1.RD h;exact this) (10+s1.aV);rw[e2];exact⟨s2,_root_.rfl,l1.trans l2⟩
theorem sim_ck1 (h:Xx s 1)(ep:Int)(b:ByteArray)(k:Nat):∃s',Jz ep b s fs k=((Jz ep b (aY s) fs k).1,s',(Jz ep b (aY s) fs k).2.2)/\Lk s (Jz ep b (aY s) fs k).2.1 s' 1:=by
 have cod:∀ {r r':Bool×Sc×List bF} {s'},r=(r'.1,s',r'.2.2)->Dv r=((Dv r').1,s',(Dv r').2.2):=fun {r r' s'} e=>by rw[e];rfl
 match k with
 |0=>obtain⟨s',e,hl⟩:=Bj (fs:=fs) h 1;exact⟨s',cod e,hl⟩
 |1=>exact BH h 3 b
 |2=>obtain⟨s',e,hl⟩:=Bj (fs:=fs) h 3;exact⟨s',cod e,hl⟩
 |3=>obtain⟨s',e,hl⟩:=F_ (fs:=fs) h 3 2;exact⟨s',cod e,hl⟩
 |k+4=>obtain⟨s',e,hl⟩:=Oh (fs:=fs) h (10+ep) 0;exact⟨s',cod e,hl⟩
theorem VE (ep:Int)(b:ByteArray):∀(f k:Nat) (s:Sc) (fs:List bF),Xx s (f:Int)->∃s',nA ep b f k s fs=((nA ep b f k (aY s) fs).1,s',(nA ep b f k (aY s) fs).2.2)/\Lk s (nA ep b f k (aY s) fs).2.1 s' (f:Int)
 |0,k,s,fs,_=>⟨s,_root_.rfl,Lk.rfl s⟩
 |f+1,k,s,fs,h=>by
  obtain⟨s1,e1,l1⟩:=sim_ck1 (s:=s) (fs:=fs) (fun q=>by have:=h q;omega) ep b k;unfold nA;rw[e1];generalize Jz ep b (aY s) fs k=q at*;obtain⟨q1,q2,q3⟩:=q;simp only at l1 ⊢;by_cases hq:q1=0
  ·rw[if_pos hq,if_pos hq];have hc:q2=aY s1:=l1.calm.symm;subst hc;obtain⟨s2,e2,l2⟩:=VE ep b f (k+1) s1 q3 (fun q=>by have:=l1.RD h q;omega);rw[e2];exact⟨s2,_root_.rfl,(l1.trans l2).le (by omega)⟩
  ·rw[if_neg hq,if_neg hq];exact⟨s1,_root_.rfl,l1.le (by omega)⟩
theorem KI (h:Xx s 5):∃s',gG (s,fs,m)=((s',(gG (aY s,fs,m)).1.2),(gG (aY s,fs,m)).2)/\Lk s (gG (aY s,fs,m)).1.1 s' 5:=by
 unfold gG;simp only;by_cases ho:s.aS=false
 ·rw[if_pos ho,if_pos (show(aY s).aS=false from ho)];exact⟨s,_root_.rfl,(Lk.rfl s).le (by omega)⟩
 ·rw[if_neg ho,if_neg (show ¬(aY s).aS=false from ho)];by_cases hr:s.ro=true
  ·rw[if_pos hr,if_pos (show(aY s).ro=true from hr)];exact⟨s,_root_.rfl,(Lk.rfl s).le (by omega)⟩
  ·rw[if_neg hr,if_neg (show ¬(aY s).ro=true from hr)];have ee:(aY s).aV=s.aV:=_root_.rfl;rw[ee];by_cases he:999<=s.aV
   ·rw[if_pos he,if_pos he];exact⟨s,_root_.rfl,(Lk.rfl s).le (by omega)⟩
   ·rw[if_neg he,if_neg he];obtain⟨s1,e1,l1⟩:=VE s.aV ⟨(xU (s.aV+1) m).toArray⟩ 5 0 s fs h;rw[e1];generalize nA s.aV ⟨(xU (s.aV+1) m).toArray⟩ 5 0 (aY s) fs=q at*;obtain⟨q1,q2,q3⟩:=q;simp only at l1 ⊢;have hc:q2=aY s1:=l1.calm.symm;subst hc;by_cases hq:q1=0
    ·simp only[if_pos hq];exact⟨_,_root_.rfl,_root_.rfl,l1.arm,l1.lo,l1.hi,l1.un⟩
    ·simp only[if_neg hq];exact⟨_,_root_.rfl,l1⟩
theorem jK {x:List bF×bT}{D:Int}(h:GS (aY s,x) D)(hc:fU s)(ha:0<=s.after):GS (s,x) D:=⟨⟨hc,ha,h.bk.inv,h.bk.len⟩,h.YQ,h.done,h.QX,h.buf,h.wU⟩
theorem KJ (h:Lk s c s' n)(hb:Xx s n)(h0:0<=s.after):0<=s'.after:=by
 by_cases ha:s.eG=true
 ·have:=hb ha;have:=h.lo;omega
 ·rw[h.un (by simpa using ha)];exact h0
theorem VF (h:Lk s c s' n)(hg:fU c)(hc:fU s):fU s':=by
 have e:=h.calm;subst e;exact⟨hg.ES,hg.Vt,hg.Db,hg.xD,hg.Vu,hg.oK,by have:=h.hi;have:=hc.oL;omega,hg.Yu,hg.NW,hg.Fs,hg.Pj,hg.zM,hg.Cb,hg.nK,hg.zN⟩
theorem VG:∀(args:Array Y) (w:F),(callFunc 48 args).run K w= .ok (.enter 48 args) w:=enters_of Tryz.func48 (by kernel_rfl) rfl
theorem Cq {db:Nat}{most depth code:Int}{Q:F->Prop}(h:w.heap[qp]?=M (uV most depth db O))
 (hO:∀W,aJ w W->H K 48 #[U (M ⟨db,0,O⟩),I V depth] W fun e w'=> ∃t b,e=G (.tuple #[U O,U O,.iface t (U (M b))])/\∀W',aJ w' W'->H K 49 #[U (M ⟨qp,0,O⟩),.iface t (U (M b))] W' fun e w2=>e=G (I V code)/\Q w2):
 H K 24 #[U (M ⟨qp,0,O⟩)] w fun e w'=>e=G (I V code)/\Q w':=by
 have HO:Hid (∀W,aJ w W->H K 48 #[U (M ⟨db,0,O⟩),I V depth] W fun e w'=> ∃t b,e=G (.tuple #[U O,U O,.iface t (U (M b))])/\∀W',aJ w' W'->H K 49 #[U (M ⟨qp,0,O⟩),.iface t (U (M b))] W' fun e w2=>e=G (I V code)/\Q w2):=hO;obtain⟨-,c1,c2,c3,-⟩:=dW h;simp only[Option.map_none]at c3;clear h hO;go_enter Tryz.func24,Tryz.ntmps24
 go_upto_region 3 with fail
 go_cut [3,4,5] (fun x y z wc=> ∃t b,x=U O/\y=U O/\z= .iface t (U (M b))/\H K 49 #[U (M ⟨qp,0,O⟩),.iface t (U (M b))] wc fun e w2=>e=G (I V code)/\Q w2)
 case first=>
  go_region_law ((refine bM (by rfl) 48 _ _ (by rfl) #[U (M ⟨db,0,O⟩),I V depth] (by first|(simp[Act.eval];done)|(simp[Act.eval,Act.put];done)) VG ((HO.out _ (by repeat (first|exact aJ.refl _|refine aJ.drew ?_))).mono ?_);rintro v wR ⟨t,b,rfl,hR⟩;refine⟨_,rfl,?_⟩))
  all_goals go_wp2_with fail
  all_goals go_meet
  all_goals exact⟨t,b,rfl,rfl,rfl,hR _ (by repeat (first|exact aJ.refl _|refine aJ.drew ?_))⟩
 case rest=>
  obtain⟨t,b,rfl,rfl,rfl,hA⟩:=hcut;clear c1 c2 c3 HO
  go_wp2_with (go_at_call 49;refine hA.mono ?_;rintro e w2 ⟨rfl,hq⟩)
  go_ret;exact⟨rfl,hq⟩
theorem BI {db:Nat}{most depth:Int}{R:F->Nat->Nat->Prop}(h:w.heap[qp]?=M (uV most depth db O))
 (hO:∀W,aJ w W->H K 48 #[U (M ⟨db,0,O⟩),I V depth] W fun e w'=> ∃lp dp,e=G (.tuple #[U (M ⟨lp,0,O⟩),U (M ⟨dp,0,O⟩),.nilIface])/\R w' lp dp/\w'.heap[qp]?=M (uV most depth db O)):
 H K 24 #[U (M ⟨qp,0,O⟩)] w fun e w'=>e=G (I V 0)/\∃w1 W lp dp,R w1 lp dp/\aJ w1 W/\w'=(W.alloc (rE lp dp false)).setCell ⟨qp,3,O⟩ (U (M ⟨W.heap.size,0,O⟩)):=by
 have HO:Hid (∀W,aJ w W->H K 48 #[U (M ⟨db,0,O⟩),I V depth] W fun e w'=> ∃lp dp,e=G (.tuple #[U (M ⟨lp,0,O⟩),U (M ⟨dp,0,O⟩),.nilIface])/\R w' lp dp/\w'.heap[qp]?=M (uV most depth db O)):=hO;obtain⟨-,c1,c2,c3,-⟩:=dW h;simp only[Option.map_none]at c3;clear h hO;go_enter Tryz.func24,Tryz.ntmps24
 go_upto_region 3 with fail
 go_cut [3,4,5] (fun x y z wc=> ∃w1 lp dp,x=U (M ⟨lp,0,O⟩)/\y=U (M ⟨dp,0,O⟩)/\z= .nilIface/\R w1 lp dp/\aJ w1 wc/\wc.heap[qp]?=M (uV most depth db O))
 case first=>
  go_region_law ((refine bM (by rfl) 48 _ _ (by rfl) #[U (M ⟨db,0,O⟩),I V depth] (by first|(simp[Act.eval];done)|(simp[Act.eval,Act.put];done)) VG ((HO.out _ (by repeat (first|exact aJ.refl _|refine aJ.drew ?_))).mono ?_);rintro v wR ⟨lp,dp,rfl,hR,hq⟩;refine⟨_,rfl,?_⟩))
  all_goals go_wp2_with fail
  all_goals go_meet
  all_goals exact⟨wR,lp,dp,rfl,rfl,rfl,hR,by repeat (first|exact aJ.refl _|refine aJ.drew ?_),hq⟩
 case rest=>
  rename F=>wc
  obtain⟨w1,lp,dp,rfl,rfl,rfl,hR,hg,hq⟩:=hcut;have xA:=(((aJ.refl wc).alloc (rE lp dp false)).block _ (aK hq)).trans hq;obtain⟨-,-,-,b3,bf⟩:=dW xA;have f3:=bf 3;unfold rE at b3 f3;clear c1 c2 c3 HO bf xA hq
  go_wp2_with fail
  go_ret;exact⟨rfl,w1,wc,lp,dp,hR,hg,rfl⟩
theorem KL {ps:Nat->Addr}{X:Nat->Prop}{D:Int}(h:pF w qp s fs m X)(hG:Gl w ps)(hS:GS (s,fs,m) D):
 H K 24 #[U (M ⟨qp,0,O⟩)] w fun e w'=>e=G (I V (jM (s,fs,m)).2)/\vV w w' qp X (jM (s,fs,m)).1:=by
 have h0:=h;have yK:=kI hS.bk.inv 1;have Ua:=hS.bk.bK.oK;have Wt:=hS.bk.bK.Db;have DL:=hS.bk.bK.xD;simp only at yK Ua Wt DL;have Lr:((aL fs 1).size:Int)<=1000000:=by omega
 rcases h with⟨ho,db,fv,rs,h1,rfl,h3,rfl⟩|⟨ho,db,fv,rs,sp,lp,dp,tb,h1,rfl,rfl⟩
 ·rw[v_ ho hS.bk.inv Lr];have mh:BK { s with aS:=true } (plain rs):=⟨{ hS.bk.bK with },hS.bk.qC,hS.bk.inv,hS.bk.len⟩;have Nk:aP w db { s with aS:=true } fv rs:=h1;have hde:((s.depth.toNat:Nat):Int)=s.depth:=by omega
  have hne:∀ {W:F} {dN dH},aJ w W->aP W db { s with aS:=true } fv rs->∀ {w'},Dk W w' (DX db fv rs) (DX db dN dH)->w'.heap[qp]?=M (uV s.most s.depth db O):=fun {W dN dH} hW hD {w'} hk=>by
   have hq:=(hW.block _ (aK h3)).trans h3;exact hk.1.at hq (hD.other hq (by decide) (by decide) (by decide) (by decide))
  cases hr:Gs (plain rs) s.depth.toNat with
  |none=>
   simp only;refine Cq h3 fun W hW=>?_
   have:=IW (Nk.aM hW) (mh.dok.more (by omega)) (hG.aM hW) hr;rw[hde]at this;refine this.mono ?_;rintro e w' ⟨v,rfl,hv,hg⟩;obtain⟨t,b,rfl⟩:=hv.yes (by omega);refine⟨t,b,rfl,fun W' rC=>?_⟩;have g1:=hW.then (hg.then rC);exact JO (h1.aM g1) ((g1.block _ (aK h3)).trans h3) ho (uQ (hG.aM g1) (hv.aM rC) (by omega)) (Dk.bH g1)
  |some em=>
   simp only;obtain⟨z0,z1,z2,z3,z4,z5⟩:=Rm hr Lr
   have hY:∀W,aJ w W->H K 48 #[U (M ⟨db,0,O⟩),I V s.depth] W fun e w'=>OpnA W w' ps db s.depth.toNat fv rs em.1 (sG (plain rs) s.depth.toNat em).1 (Bt { s with aS:=true } (plain rs) s.depth.toNat em) e:=fun W hW=>by
    have:=wz (Nk.aM hW) (mh.dok.more (by omega)) (hG.aM hW) (by omega) hr;rwa[hde]at this
   obtain⟨kB,kS,kF⟩:=gs_opn mh em.1 (22*(sG (plain rs) s.depth.toNat em).2) (opn_buf hr Lr);have hTe:oO { s with aS:=true } (plain rs) em.1 ((22*(sG (plain rs) s.depth.toNat em).2:Nat):Int) (sG (plain rs) s.depth.toNat em).1.2.2.2.2=Bt { s with aS:=true } (plain rs) s.depth.toNat em:=rfl;rw[hTe]at kB kS kF;generalize Bt { s with aS:=true } (plain rs) s.depth.toNat em=r at*;generalize (sG (plain rs) s.depth.toNat em).1=m' at*;by_cases Mr:r.1=0
   ·rw[if_pos Mr,Mr];rcases kF with⟨-,kO⟩|⟨kE,-⟩
    ·refine(BI (R:=fun w' lp dp=> ∃W tb,aJ w W/\OpnD W w' ps lp dp tb db s.depth.toNat fv rs em.1 m' r) h3 fun W hW=>?_).mono ?_
     ·refine(hY W hW).mono ?_;rintro e w' ⟨k1,-⟩;obtain⟨lp,dp,tb,rfl,hO⟩:=k1 Mr;obtain⟨dN,dH,-,-,hk⟩:=hO.dsk;exact⟨lp,dp,rfl,⟨W,tb,hW,hO⟩,hne hW (Nk.aM hW) hk⟩
     ·rintro e w' ⟨rfl,w1,W1,lp,dp,⟨W,tb,hW,hO⟩,kL,rfl⟩;refine⟨rfl,?_⟩;obtain⟨dN,dH,hd,hp,hk⟩:=hO.dsk;have Xd:=(kL.block _ (aK (hne hW (Nk.aM hW) hk))).trans (hne hW (Nk.aM hW) hk);have ga:=(aJ.refl W1).alloc (rE lp dp false);have gb:=kL.then ga;have xA:=(ga.block _ (aK Xd)).trans Xd;have hF:=Fr.set (W1.alloc (rE lp dp false)) ⟨qp,3,O⟩ (U (M ⟨W1.heap.size,0,O⟩));have hse:=heap_alloc_new W1 (rE lp dp false);have hld:=(gb.block _ (aK hO.rH)).trans hO.rH;have hdd:=hd.aM gb;refine⟨Mt qp db dN dH W1.heap.size lp dp tb,Or.inr ⟨kO,db,dN,dH,W1.heap.size,lp,dp,tb,⟨?_,?_,?_,?_,?_⟩,hp,rfl⟩,?_⟩
      ·refine aP.fr (s:=r.2.1) hdd hF ?_;rintro b hb rfl;exact hdd.other xA (by decide) (by decide) (by decide) (by decide) hb
      ·rw[heap_setCell_same _ qp 3 _ _ _ xA];simp only;rw[kS.1,kS.2.1];rfl
      ·exact hF.at hse (aW hse xA (by decide))
      ·exact hF.at hld (aW hld xA (by decide))
      ·simp only;rw[kS.2.1];exact(hO.dr.aM gb).off hF xA (by decide) (by decide) (by decide) (by decide) (by decide)
      ·have gQ:=hW.size;have hsz2:=hk.1.1;have hsz3:=kL.size
       have k1:Dk w w1 (BA qp db fv rs) (BA qp db dN dH):=by
        refine Qj hW ⟨hk.1.mono (fun b hb=>Or.inr hb),hk.2.1,?_⟩;rintro b (hb|hb)
        ·exact Or.inl (Or.inl hb)
        ·rcases hk.2.2 b hb with k|k
         ·exact Or.inl (Or.inr k)
         ·exact Or.inr k
       have k2:=k1.aM gb;refine⟨k2.1.trans (hF.mono (fun b e=>Or.inl e)),k2.2.1,?_⟩;obtain⟨n1,n2,n3⟩:=hO.new;rintro b (hb|hb|rfl|rfl|rfl|rfl)
       ·exact Or.inl (Or.inl hb)
       ·exact k2.2.2 b (Or.inr hb)
       ·exact Or.inr (by omega)
       ·exact Or.inr (by omega)
       ·exact Or.inr (by omega)
       ·exact Or.inr (by omega)
    ·omega
   ·rw[if_neg Mr];rcases kF with⟨kE,-⟩|⟨-,kO⟩
    ·exact absurd kE Mr
    ·refine Cq h3 fun W hW=>?_
     refine(hY W hW).mono ?_;rintro e w' ⟨-,k2⟩;obtain⟨v,rfl,dN,dH,hd,hp,hk,hE⟩:=k2 Mr;obtain⟨t,b,rfl⟩:=hE.yes Mr;refine⟨t,b,rfl,fun W' rC=>?_⟩;have hq:=hne hW (Nk.aM hW) hk
     have k1:Dk w w' (BA qp db fv rs) (BA qp db dN dH):=by
      refine Qj hW ⟨hk.1.mono (fun b hb=>Or.inr hb),hk.2.1,?_⟩;rintro b (hb|hb)
      ·exact Or.inl (Or.inl hb)
      ·rcases hk.2.2 b hb with k|k
       ·exact Or.inl (Or.inr k)
       ·exact Or.inr k
     rw[<-hp];refine JO (hd.aM rC) ?_ kO (uQ (((hG.aM hW).dk (Nk.aM hW) hk).aM rC) (hE.aM rC) (by omega)) (k1.aM rC);rw[kS.1,kS.2.1];exact(rC.block _ (aK hq)).trans hq
 ·have e:jM (s,plain rs,m)=((s,plain rs,m),2):=by unfold jM;simp only;rw[if_pos ho]
  rw[e];obtain⟨-,-,-,c3,-⟩:=dW h1.qu;simp only[Option.map_some]at c3;have HQ:Hid (pF w qp s (plain rs) m (Mt qp db fv rs sp lp dp tb)):=h0;clear h0 hG hS h1 e ho;go_enter Tryz.func24,Tryz.ntmps24
  go_wp2_with fail
  go_ret;exact⟨rfl,vV.same HQ.out (aJ.refl _)⟩
end Go.Proofs.YtfplgfodoiiobaaGreatDoor
